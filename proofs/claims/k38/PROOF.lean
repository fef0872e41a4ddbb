import PyProof.Rows.All
import Wide.All
import OpenK.AllK
import Wide.FinOn
import HandS.ForMost
import HandS.Flow
import HandS.Walk
import PyProof.EnumMake
import PyProof.Draws
import PyProof.TupleIter
import KE.GoesMore
import HandS.Lambda
import HandS.EndBits
import PySem.Challenge.RW_swaphouse_k38_whole_asked
import HandS.IsInst
import HandS.HeadHook1
import HandS.SetKeys
import HandS.CallLocal
import HandS.HeadHook4
import HandS.ListItems
import HandS.NoneIn
import KE.KDictWalk
import KE.KDictDisplayH
import KE.KDictCopyH
import KE.KItemsList
import HandS.DictComp
import HandS.More
import HandS.WordsExc
import HandS.Exc
import HandS.ExcInit
import HandS.ExcField
import HandS.DictEq
import HandS.OwnEq
import KE.KEqDict
import KE.SortData
import KE.DataMinMax
import KE.KDictList
import HandS.Zip
import HandS.Text
import HandS.Small
import HandS.MakeKwOnly
import HandS.Defaults
import PyProof.ReprRoads
import PyProof.Rows.SortStr
import PyProof.Rows.StrMeet
import HandS.ExcValue
import HandS.ExcIs
import PyProof.InstEq
import PyProof.IsiBase
import PyProof.ExcBaseAll.ValueError
import HandS.Codes
import HandS.SetFor
import HandS.Strs
import PyProof.Rows.StrInSeq3
import HandS.RaiseMore
import HandS.Style
import HandS.Base
import HandS.Call
import HandS.List
import HandS.Dict
import HandS.Iter
import HandS.TryMany
import KE.KStateDown
import HandS.EndTab
import HandS.Head0
import HandS.Head1
import HandS.Head2
import HandS.HeadEnd
import HandS.HeadHook2
import HandS.HeadHook3
set_option Elab.async false
set_option linter.all false
set_option maxRecDepth 100000
set_option maxHeartbeats 0
/-! enumerate of a tuple -/
namespace Me
open PySem PySem.Spec PyProof.Rows L2
open Sem (wp)
open AutoSeq1 (wpAny_loadPart')
theorem meets_enumT (l : Addr) (items : Array Value) (n : Nat) (dct : Option Addr) (sl : Array (Option Value)) :
    Meets (Builtin.«enumerate.__new__» ⟨[.type "enumerate", .ref l], []⟩) (fun _ R s => s.heap.get? l = some { cls := .type "tuple", dict := dct, data := .seq items n, slots := sl } ∧
      R (.ok (.ret (.ref (s.heap.push { cls := .type "tuple_iterator", data := .fields #[.ref l, .int 0 0] }).objs.size)))
        { s with heap := (s.heap.push { cls := .type "tuple_iterator", data := .fields #[.ref l, .int 0 0] }).push { cls := .type "enumerate", data := .fields #[.none, .bool false, .ref s.heap.objs.size, rawInt 0, .none, .none] } }) :=
  .of_wp fun prog w A R s h => by
    obtain ⟨hp, g, d, tk, os⟩ := s
    obtain ⟨hl, h⟩ := h
    have hsub := sub_enumerate
    have hL : Heap.IsTuple (Shared.heap ⟨hp, g, d, tk, os⟩) l items := ⟨_, hl, rfl, n, rfl⟩
    wp_walk using wpAny_loadPart' hl
    refine wpAny_stack_any fun st => wpAny_pure ?_
    split
    · rename_i c _ _ _ _ _
      cases (c == Value.type "enumerate")
      · wp_walk using wpAny_loadPart' hl, wpAny_pyIter_tuple hL
        exact ⟨_, rfl, h⟩
      · wp_walk using wpAny_loadPart' hl, wpAny_pyIter_tuple hL
        exact ⟨_, rfl, h⟩
    · wp_walk using wpAny_loadPart' hl, wpAny_pyIter_tuple hL
      exact ⟨_, rfl, h⟩
section
variable {prog : Program} {w : World} {A : Around} {E : Value → Shared → Prop} {s : Shared}
theorem call_enumT {l : Addr} {items : Array Value} {Q : Value → Shared → Prop} (hL : s.heap.IsTuple l items)
    (h : ∀ h', IsEnum h' (s.heap.objs.size + 1) s.heap.objs.size 0 .none → h'.IsTupleIter s.heap.objs.size l 0 → h'.objs.size = s.heap.objs.size + 2 →
      (∀ b o, s.heap.get? b = some o → h'.get? b = some o) → Q (.ref (s.heap.objs.size + 1)) { s with heap := h' }) :
    wpAny (model prog w) A (call (.type "enumerate") [.ref l]) Q E s := by
  obtain ⟨⟨c, dct, dt, sl⟩, hl, hc, n, hd⟩ := hL
  replace hc : c = .type "tuple" := hc
  replace hd : dt = .seq items n := hd
  subst hc hd
  refine callType_new F.called_enumerate (by decide) (F.typeCall_enumerate_1 _) (F.newCall_enumerate_1 _) (fun obj => F.args_object_init_2 obj _) F.entry_enumerate_new
    (meets_enumT l items n dct sl) ⟨hl, ?_⟩
  have hz : (s.heap.push { cls := .type "tuple_iterator", data := .fields #[.ref l, .int 0 0] }).objs.size = s.heap.objs.size + 1 := Heap.size_push ..
  show _ ∧ _
  rw [hz]
  have he : IsEnum ((s.heap.push { cls := .type "tuple_iterator", data := .fields #[.ref l, .int 0 0] }).push
      { cls := .type "enumerate", data := .fields #[.none, .bool false, .ref s.heap.objs.size, rawInt 0, .none, .none] }) (s.heap.objs.size + 1) s.heap.objs.size 0 .none := by
    have q := Heap.get?_push_size (s.heap.push { cls := .type "tuple_iterator", data := .fields #[.ref l, .int 0 0] })
      (o := { cls := .type "enumerate", data := .fields #[.none, .bool false, .ref s.heap.objs.size, rawInt 0, .none, .none] }) rfl
    rw [hz] at q
    exact q
  refine ⟨⟨_, he, rfl⟩, h _ he ⟨_, Heap.get?_push_of_some _ (Heap.get?_push_size _ rfl), rfl, rfl⟩ (by rw [Heap.size_push, hz]) fun b o x => Heap.get?_push_of_some _ (Heap.get?_push_of_some _ x)⟩
end
/-- enumerate of the tuple at a: each item in a new pair -/
def ItT (K : PySem.W.Frag) (a : Addr) : It :=
  ⟨fun i H => ∃ (xs : List V) (x : V), SqT K H a xs ∧ xs[i]? = some x, fun i H v H' => ∃ T x, v = .ref T ∧ H T = none ∧ H' = upd H T (.tup [.int (i : Nat), x]) ∧ ∀ xs, SqT K H a xs → xs[i]? = some x, fun i H => ∃ xs : List V, SqT K H a xs ∧ xs.length ≤ i⟩
theorem turn_enumT {P : Program} {w : World} {K : PySem.W.Frag} {elts : List Expr} {kk : Nat} {tpos : Pos} (a e it : Addr) :
    Turn P w K (.Tuple elts kk tpos) (ItT K a) [e, it] e (fun i h => (∃ old, IsEnum h e it ((i : Nat) : Int) old) ∧ h.IsTupleIter it a i ∧ e ≠ it) where
  mem := by simp
  obj := fun i h st b hb => by
    obtain ⟨⟨old, he⟩, ⟨o, ho, hc, hd⟩, _⟩ := st
    have e' : b = e ∨ b = it := by simpa using hb
    rcases e' with z | z
    · rw [z]
      exact ⟨_, he, fun v q => nomatch q⟩
    · rw [z]
      exact ⟨o, ho, fun v q => by rw [hd] at q; cases q⟩
  keep := fun i h h' st k => let ⟨⟨old, he⟩, hi, hne⟩ := st; ⟨⟨old, k e (by simp) _ he⟩, hi.at fun o q => k it (by simp) o q, hne⟩
  item := by
    intro X hP hw hK hc i pins s σ H E I hf st hg
    subst hP hw hK
    obtain ⟨⟨old, he⟩, hit, hne⟩ := st
    obtain ⟨xs, x, hq, hx⟩ := hg
    obtain ⟨its, rv, p, hz⟩ := I.tuple hq
    obtain ⟨u, hu, ru⟩ := rv.get hx
    have hT : s.heap.IsTuple a its.toArray := p
    have hel : e < s.heap.objs.size := Heap.lt_size he
    have hil : it < s.heap.objs.size := by
      obtain ⟨_, q, _⟩ := hit
      exact Heap.lt_size q
    have ait : a ≠ it := fun z => by
      obtain ⟨o1, h1, c1, _⟩ := hT
      obtain ⟨o2, h2, c2, _⟩ := hit
      rw [z, h2] at h1
      cases h1
      rw [c1] at c2
      exact absurd c2 (by decide)
    have ae : e ≠ a := fun z => by
      obtain ⟨o1, h1, c1, _⟩ := hT
      rw [← z] at h1
      have h2 : s.heap.get? e = _ := he
      rw [h2] at h1
      cases h1
      have c2 : Value.type "enumerate" = Value.type "tuple" := c1
      exact absurd c2 (by decide)
    have hlt : i < its.toArray.size := by
      rw [List.size_toArray]
      rw [← rv.length]
      rcases Nat.lt_or_ge i xs.length with z | z
      · exact z
      · rw [List.getElem?_eq_none z] at hx
        cases hx
    refine wpAny_pyNext_enum_itemD (Draws.tuple (A := X.A.in1) (show X.A.in1.handled = none from I.ok.hd hc) it a ait its.toArray) he ⟨hit, hT⟩ hlt hne (by simp [hne, ae]) fun y h' tk hy ho hit' hT' hsz hk => ?_
    have ey : y = u := by
      have e1 : its[i]? = some y := by simpa using hy
      rw [hu] at e1
      exact (Option.some.inj e1).symm
    subst ey
    refine ⟨_, rfl, wpAny_letOwnedTupleGo_enum (s := { s with heap := h', toks := tk + 1 }) ho fun h'' he' sb => ?_⟩
    have hT2 : h''.get? s.heap.objs.size = some { cls := .type "tuple", data := .seq #[.int i tk, y] } := (sb.2 _ (Nat.ne_of_gt hel)).trans hT'
    have new : ObjOk X.prog X.w (upd H s.heap.objs.size (.tup [.int (i : Nat), x])) h'' s.heap.objs.size (.tup [.int (i : Nat), x]) :=
      ⟨by show 2 ≤ sizeLine; decide, [.int i tk, y], .cons ⟨_, rfl⟩ (.cons ru .nil), ⟨_, hT2, rfl, _, rfl⟩⟩
    have I1 : Inv X pins σ (upd H s.heap.objs.size (.tup [.int (i : Nat), x])) { s with heap := h'', toks := tk + 1 } :=
      I.turnedNew (ch := [e, it]) (fun b ob hb q => (sb.2 b (fun z => hb (by simp [z]))).trans (hk b ob (fun z => hb (by simp [z])) (fun z => hb (by simp [z])) q)) hf (Nat.le_refl _) new
    refine ⟨.ref s.heap.objs.size, _, I1, rfl, ⟨_, x, rfl, I.hok.fresh (Nat.le_refl _), rfl, fun ys hy => by rw [I.tuple_inj hy hq]; exact hx⟩, ⟨⟨y, ?_⟩, hit'.1.at fun o q => (sb.2 it (Ne.symm hne)).trans q, hne⟩, fun b hb => ?_⟩
    · have e1 : ((i + 1 : Nat) : Int) = (i : Int) + 1 := by omega
      rw [e1]
      exact he'
    · have hb' : b < s.heap.objs.size := by
        have e' : b = e ∨ b = it := by simpa using hb
        rcases e' with z | z
        · rw [z]
          exact hel
        · rw [z]
          exact hil
      rw [upd_ne (Nat.ne_of_lt hb')]
      exact (hf b hb).1
  done := by
    intro X hP hw hK hc i pins s σ H E I hf st hg
    subst hP hw hK
    obtain ⟨⟨old, he⟩, hit, hne⟩ := st
    obtain ⟨xs, hq, hx⟩ := hg
    obtain ⟨its, rv, p, hz⟩ := I.tuple hq
    have hT : s.heap.IsTuple a its.toArray := p
    obtain ⟨f0, f1, f2, f3, f4, f5⟩ := hf it (by simp)
    have hl := rv.length
    have hTy : s.TypeIs (.ref e) "enumerate" := ⟨_, he, rfl⟩
    unfold pyNext
    refine wpAny_bind (wpAny_attempt (wpAny_callSpecial?_slot (name := Str.ofString "__next__") hTy F.slot_enumerate_next
      (wpAny_call_entry F.slot_enumerate_next hTy F.entry_enumerate_next ?_ (F.args_enumerate_next_1 _))))
    show wpAny _ _ (field (.ref e) 2 >>= _) _ _ _
    refine wpAny_bind (wpAny_field he rfl (x := .ref it) rfl ?_)
    refine wpAny_bind (wpAny_nextOf_tuple_end (I.ok.hd hc) hit hT (by simp; omega) fun h' x he' hx' => ?_)
    obtain ⟨o, ho, hc⟩ := hx'
    refine wpAny_bind (wpAny_isInstance (T := "StopIteration") (b := true) ⟨o, ho, hc⟩ isSubtype_stop ?_)
    exact wpAny_pure ⟨rfl, I.turned (t' := s.toks) (fun b o hb q => he' b o hb q) f0 f1 f3 f4 f5⟩
  self := fun A i s Q E st h => let ⟨⟨_, he⟩, _⟩ := st; wpAny_pyIter_enum he h
/-- enumerate of a list or a tuple -/
def iEnumA (K : PySem.W.Frag) (ta : TA) : TI := fun σ H R => ta σ H fun vs H1 => ∃ a xs, vs = [.ref a] ∧ ((SqL K H1 a xs ∧ R (Ite K a) H1) ∨ (SqT K H1 a xs ∧ R (ItT K a) H1))
theorem pi_enumA {X : Cx} {e : Expr} {ta : TA} {p pos tpos : Pos} {elts : List Expr} {kk : Nat} (hg : Gl X "enumerate") (hm : X.mg "enumerate" = none) (ha : PA X [e] ta) (hs : starEach [e] X.env = [(false, eval e X.env)] := by rfl) :
    PI X (.Tuple elts kk tpos) (.Call (.Name "enumerate" p) [e] [] pos) (iEnumA X.K ta) := by
  refine ⟨fun pins s σ H R I h => ?_⟩
  refine Call_ (ld_blt I hg hm boot_enumerate (PyProof.Rows.callWith_type1 (thn (ha.run pos pins s σ H _ I h) fun us s1 ⟨vs, H1, I1, r1, q1⟩ => ?_) hs rfl))
  obtain ⟨a, xs, ex, hq⟩ := q1
  subst ex
  cases r1 with
  | cons r rr =>
    cases rr
    cases r
    have fpo : ∀ b ∈ [s1.heap.objs.size + 1, s1.heap.objs.size], s1.heap.objs.size ≤ b := fun b hb => by
      have e' : b = s1.heap.objs.size + 1 ∨ b = s1.heap.objs.size := by simpa using hb
      rcases e' with z | z
      · rw [z]
        exact Nat.le_add_right _ _
      · rw [z]
        exact Nat.le_refl _
    rcases hq with ⟨hq, q⟩ | ⟨hq, q⟩
    · obtain ⟨its, rv, p', hz⟩ := I1.list hq
      refine call_enumerate_list p'.isList fun h' he hit hsz hk => wpAny_pyIter_enum he ?_
      have I2 : Inv X pins σ H1 { s1 with heap := h' } := I1.kept (t' := s1.toks) hk
      exact ⟨s1.heap.objs.size + 1, [s1.heap.objs.size + 1, s1.heap.objs.size], _, _, H1, rfl, I2, turn_enum a (s1.heap.objs.size + 1) s1.heap.objs.size, ⟨⟨.none, he⟩, hit, Nat.succ_ne_self _⟩, fun b hb => I1.fpOk (fpo b hb) (I1.hok.fresh (fpo b hb)), q⟩
    · obtain ⟨its, rv, p', hz⟩ := I1.tuple hq
      refine call_enumT (items := its.toArray) p' fun h' he hit hsz hk => wpAny_pyIter_enum he ?_
      have I2 : Inv X pins σ H1 { s1 with heap := h' } := I1.kept (t' := s1.toks) hk
      exact ⟨s1.heap.objs.size + 1, [s1.heap.objs.size + 1, s1.heap.objs.size], _, _, H1, rfl, I2, turn_enumT a (s1.heap.objs.size + 1) s1.heap.objs.size, ⟨⟨.none, he⟩, hit, Nat.succ_ne_self _⟩, fun b hb => I1.fpOk (fpo b hb) (I1.hok.fresh (fpo b hb)), q⟩
theorem walk_enumT {K : PySem.W.Frag} {a : Addr} {xs : List V} : Walk (ItT K a) xs.length (fun H => SqT K H a xs) (YPair (fun i => some (.int (i : Nat))) (fun i => xs[i]?)) :=
  ⟨fun i _ hi q => ⟨xs, xs[i], q, by simp [hi]⟩, fun _ q => ⟨xs, q, Nat.le_refl _⟩, fun _ _ _ _ _ q y => by
    obtain ⟨T, x, rfl, h1, h2, h3⟩ := y
    exact ⟨T, _, x, rfl, h1, h2, rfl, h3 xs q⟩⟩
end Me
/-! A lambda with one parameter and captured names, handed to a def that calls it. -/
namespace Ml
open PySem PySem.Spec PyProof.Rows L2 LamX
structure LamS1 (a : Str) (sc scope : Scope) : Prop where
  kind : scope.kind = .function
  co : scope.isCoroutine = false
  gen : scope.isGenerator = false
  par : scope.names.lookup a = some .local
  own : ∀ y ∈ scope.names, y.2 ≠ .cell
  loc : ∀ y ∈ scope.names, y.2 = .local → y.1 = a
  free : ∀ y ∈ scope.names, y.2 = .free → sc.names.lookup y.1 = some .cell ∨ sc.names.lookup y.1 = some .free
theorem LamS1.has {X : Cx} {a : Str} {scope : Scope} (L : LamS1 a X.env.scope scope) (ok : X.Ok) : ∀ y ∈ scope.names, y.2 = .free → ∃ c, X.env.cells.lookup y.1 = some c := fun y hy e => by
  rcases L.free y hy e with k | k
  · exact ok.has _ (.inl k)
  · exact ok.has _ (.inr k)
def lamCx1 (X : Cx) (a : Str) (A : Around) (outer : List Env) (s : Shared) (H : Hp) (E : XK) (scope : Scope) (f c' : Addr) : Cx where
  prog := X.prog
  w := X.w
  K := X.K
  mg := X.mg
  base := X.base
  A := A.deeper (lamEnv X scope s.heap.objs.size f c')
  N := X.N ++ [a]
  s_0 := s
  H_0 := H
  env := lamEnv X scope s.heap.objs.size f c'
  outer := outer
  stack := lamEnv X scope s.heap.objs.size f c' :: outer
  ex := []
  fn := fun _ => false
  calm := true
  pn := []
  xe := fun e s' => wpAny (model X.prog X.w) (A.deeper (lamEnv X scope s.heap.objs.size f c')) (leaving (lamEnv X scope s.heap.objs.size f c') e) (fun _ s'' => L2.CX X.prog X.w outer H s E e s'') (fun e' s'' => L2.CX X.prog X.w outer H s E e' s'') s'
section
variable {X : Cx} {pins : List (Addr × Obj)} {σ : L2.St} {H HZ : Hp} {s s1 : Shared}
theorem lam_start1 {a : Str} {v : V} {u : Value} {A : Around} {outer : List Env} {E : XK} {scope : Scope} {f c' : Addr} {h₁ : Heap} {tk : Nat} (na : a ∉ X.N) (rv : RelV v u) (I : Inv X pins σ H s) (L : LamS1 a X.env.scope scope) (e0 : Env0 X.prog X.w X.K X.mg X.base A outer s1 HZ) (hd : A.handled = none)
    (un : Un (frs X.stack) [] H HZ s.heap s1.heap) (hns : h₁.Ns s1.heap.objs.size fun y => ([(a, u)] : List (Str × Value)).reverse.lookup y) (kp : ∀ b o, s1.heap.get? b = some o → h₁.get? b = some o) :
    Inv (lamCx1 X a A outer s1 HZ E scope f c') [] (σ ++ [some v]) HZ { s1 with heap := h₁, toks := tk } := by
  have hfree := L.has I.ok
  have cm : ∀ {y c}, (cloFrom X.env.cells scope.names []).lookup y = some c → X.env.cells.lookup y = some c := fun {y c} e => by
    rcases cloFrom_mem (PySem.mem_of_lookup e) with hm | ⟨h1, h2⟩
    · cases hm
    · obtain ⟨c1, hc⟩ := hfree _ h1 rfl
      have hc : X.env.cells.lookup y = some c1 := hc
      have e2 : c = c1 := by
        rw [h2, hc] <;> rfl
      rw [e2]
      exact hc
  have look : ∀ {y}, scope.names.lookup y = some .free → ∃ c, (cloFrom X.env.cells scope.names []).lookup y = some c := fun {y} hl => by
    have hy : (y, NameKind.free) ∈ scope.names := PySem.mem_of_lookup hl
    exact mem_lookup (cloFrom_has (cells := X.env.cells) (acc := []) hy)
  have cellK : ∀ {c : Addr} {v : Option Value}, H c = none → s.heap.IsCell c v → h₁.IsCell c v := fun {c v} n ⟨o, ho, hd⟩ => by
    obtain ⟨sl, q⟩ := un.any ho n (by simp)
    exact ⟨_, kp _ _ q, hd⟩
  have noA : ∀ b : Addr, b ∉ (lamCx1 X a A outer s1 HZ E scope f c').ex := fun b z => absurd (show b ∈ ([] : List Addr) from z) (by simp)
  have hlen := I.len
  refine ⟨⟨e0.mod, L.kind, rfl, rfl, Nat.le_refl _, fun y z c e1 e2 => I.ok.inj y z c (cm e1) (cm e2), fun y hy => ?_, fun y c z _ => ?_, fun _ => hd, Around.frames_deeper e0.frames, .inr ⟨rfl, rfl⟩, fun b z => absurd z (noA b), e0.bs, e0.bsz, fun b _ _ => noA b,
      fun b z => absurd z (noA b), e0.funs, e0.frf⟩,
    rfl, e0.bare, Un.kept kp, ⟨_, hns, fun i y v' e1 e2 e3 => ?_⟩, fun y c e => ?_, e0.hok.fresh (Nat.le_refl _), fun y c e => ?_, fun q hq => absurd (show q ∈ ([] : List (Addr × Obj)) ++ [] from hq) (by simp), e0.hok.kept kp, by
      show (σ ++ [some v]).length = (X.N ++ [a]).length
      rw [List.length_append, List.length_append, hlen]
      rfl⟩
  · have hy : scope.names.lookup y = some .cell ∨ scope.names.lookup y = some .free := hy
    rcases hy with hy | hy
    · exact absurd rfl (L.own _ (PySem.mem_of_lookup hy))
    · exact look hy
  · have z : false = true := z
    cases z
  · have e1 : (X.N ++ [a])[i]? = some y := e1
    have e3 : Vis scope y := e3
    by_cases hi : i < X.N.length
    · rw [List.getElem?_append_left hi] at e1
      rw [List.getElem?_append_left (by omega)] at e2
      rcases e3 with k | k | k
      · have z := L.loc _ (PySem.mem_of_lookup k) rfl
        have z : y = a := z
        rw [z] at e1
        exact absurd (List.mem_of_getElem? e1) na
      · exact absurd rfl (L.own _ (PySem.mem_of_lookup k))
      · obtain ⟨m, hn, hl⟩ := I.loc
        have hvis : Vis X.env.scope y := (L.free _ (PySem.mem_of_lookup k) rfl).elim (fun k => .inr (.inl k)) (fun k => .inr (.inr k))
        obtain ⟨w', r, q⟩ := hl i y v' e1 e2 hvis
        obtain ⟨c2, h2⟩ := look k
        refine ⟨w', r, .inr ⟨.inr k, c2, h2, ?_⟩⟩
        have c1 := cm h2
        rcases q with ⟨k', _⟩ | ⟨_, c3, e', z⟩
        · have k' : X.env.scope.names.lookup y = some .local := k'
          rcases L.free _ (PySem.mem_of_lookup k) rfl with k2 | k2 <;> rw [show X.env.scope.names.lookup y = _ from k2] at k' <;> cases k'
        · rw [c1] at e'
          cases e'
          exact cellK (I.freeC y _ c1) z
    · rw [List.getElem?_append_right (by omega)] at e1
      rw [List.getElem?_append_right (by omega)] at e2
      have hj : i - X.N.length = 0 := by
        cases q : i - X.N.length with
        | zero => rfl
        | succ n =>
          rw [q] at e1
          simp at e1
      have hj2 : i - σ.length = 0 := by omega
      rw [hj] at e1
      rw [hj2] at e2
      have ey : a = y := by simpa using e1
      have ev : v = v' := by simpa using e2
      subst ey ev
      refine ⟨u, rv, .inl ⟨L.par, ?_⟩⟩
      show ([(a, u)] : List (Str × Value)).reverse.lookup a = some u
      simp [List.lookup]
  · obtain ⟨w', z⟩ := I.cell y c (cm e)
    exact ⟨w', cellK (I.freeC y c (cm e)) z⟩
  · obtain ⟨v, o, ho, hd⟩ := I.cell y c (cm e)
    exact un.free c o ho (I.freeC y c (cm e)) (by simp)
/-- x(e), in the def that got the lambda -/
theorem pe_act1 {CXg : CXT} {Eg : XK} {Ng : List Str} {qg : Str} {sg : Scope} {g f c' : Addr} {cdg pm ctv : Value} {params : Arguments} {body : Expr} {scope : Scope} {k i : Nat} {a b : Str} {pn : List (Addr × Obj)} {xe : Value → Shared → Prop} {tb : TE} {p1 p2 : Pos} {e : Expr} {ta : TA}
    (na : b ∉ X.N) (I : Inv X pins σ H s) (L : LamS1 b X.env.scope scope) (hf : s.heap.get? f = some (PySem.W.kla_obj "<lambda>" (X.env.qual ++ "<lambda>") params body scope (cloFrom X.env.cells scope.names []) pm c' ctv)) (hfn : H f = none) (hfr : f ∉ frs X.stack)
    (hbind : ∀ u : Value, bindArgs (PySem.W.kla_fn "<lambda>" (X.env.qual ++ "<lambda>") params body scope (cloFrom X.env.cells scope.names []) pm (.ref c') ctv) ⟨[u], []⟩ = pure [(b, u)])
    (hr : Room (k + 1) (X.A.deeper (envOfC qg sg s.heap.objs.size g cdg)))
    (hbody : ∀ (A : Around) (outer : List Env) (s : Shared) (H : Hp), Room k (A.deeper (lamEnv X scope s.heap.objs.size f c')) → PE (lamCx1 X b A outer s H E0 scope f c') body tb)
    (hN : Ng[i]? = some a) (hv : Vis sg a)
    (ha : PA ((cxOf CXg X.prog X.w X.K X.mg X.base Ng qg sg g cdg X.A X.stack s H Eg).tr pn xe) [e] ta)
    (he : starEach [e] ((cxOf CXg X.prog X.w X.K X.mg X.base Ng qg sg g cdg X.A X.stack s H Eg).tr pn xe).env = [(false, eval e ((cxOf CXg X.prog X.w X.K X.mg X.base Ng qg sg g cdg X.A X.stack s H Eg).tr pn xe).env)] := by rfl)
    (hd : (a == ("__debug__" : Str)) = false := by decide) (hcd : (a == ("__classdict__" : Str)) = false := by decide) :
    PE ((cxOf CXg X.prog X.w X.K X.mg X.base Ng qg sg g cdg X.A X.stack s H Eg).tr pn xe) (.Call (.Name a p1) [e] [] p2)
      (fun σZ HZ Q => σZ[i]? = some (some (.ref f)) ∧ ta σZ HZ fun vs H1 => ∃ v, vs = [v] ∧ H1 c' = some (CodeO c' (X.env.qual ++ "<lambda>")) ∧ tb (σ ++ [some v]) H1 Q) := by
  refine ⟨fun pinsZ sZ σZ HZ Q IZ h => ?_⟩
  obtain ⟨hs, ht⟩ := h
  refine wpAny_Call_Name_kw (thn ((pe_var (pos := p1) (i := i) hN hv hd hcd).run pinsZ sZ σZ HZ (fun v H1 => v = .ref f ∧ H1 = HZ) IZ ⟨.ref f, hs, rfl, rfl⟩) fun u s1 ⟨v, H1, I1, r1, q1⟩ => ?_)
  obtain ⟨ev, eH⟩ := q1
  subst ev
  rw [eH] at I1
  obtain rfl : u = Value.ref f := r1
  have of1 : s1.heap.get? f = some (PySem.W.kla_obj "<lambda>" (X.env.qual ++ "<lambda>") params body scope (cloFrom X.env.cells scope.names []) pm c' ctv) := I1.base.keep f _ hf hfn hfr (fun z => nomatch (show f ∈ ([] : List Addr) from z))
  refine PySem.W.callWith_F (first := []) ⟨_, _, _, _, of1⟩ (thn (ha.run p2 pinsZ s1 σZ HZ _ I1 ht) fun us s2 ⟨vs, H2, I2, r, q⟩ => ?_) he rfl
  obtain ⟨v, rfl, hc, ht⟩ := q
  have of2 : s2.heap.get? f = some (PySem.W.kla_obj "<lambda>" (X.env.qual ++ "<lambda>") params body scope (cloFrom X.env.cells scope.names []) pm c' ctv) := I2.base.keep f _ hf hfn hfr (fun z => nomatch (show f ∈ ([] : List Addr) from z))
  refine ⟨⟨_, _, _, _, of2⟩, ?_⟩
  have un : Un (frs X.stack) [] H H2 s.heap s2.heap := I2.base
  obtain ⟨⟨oc, fv, t, hoc, hdc, hvc⟩, _, _⟩ := I2.hok c' _ hc
  cases r with
  | @cons _ u _ us rv rr =>
    cases rr
    have rc : codeAny (model X.prog X.w) (X.A.deeper (envOfC qg sg s.heap.objs.size g cdg)) (.call (.ref f) ⟨[u], []⟩) (CR (L2.CX X.prog X.w) (envOfC qg sg s.heap.objs.size g cdg :: X.stack) X.prog X.w H2 s2 Q E0) s2 := by
      refine PySem.W.kla_callFunE hr.depth of2 rfl L.co L.gen rfl ⟨c', oc, fv, t, rfl, hoc, hdc, hvc⟩ ?_
      rw [hbind]
      refine wpAny_pure (wpAny_newFunctionEnv (fun y hy => L.own y hy) (fun y hy => ?_) (fun h₁ hns hsb => ⟨I2.nolimit.fresh _ hsb, ?_⟩) L.kind)
      · have e : y = (b, u) := by simpa using hy
        rw [e]
        exact L.par
      show codeAny _ _ (.expr body (lamEnv X scope s2.heap.objs.size f c')) _ _
      have kp : ∀ b o, s2.heap.get? b = some o → h₁.get? b = some o := fun b o e => hsb.extBut b o (Nat.ne_of_lt (Heap.lt_size e)) (Heap.get?_push_of_some _ e)
      have J : Inv (lamCx1 X b (X.A.deeper (envOfC qg sg s.heap.objs.size g cdg)) (envOfC qg sg s.heap.objs.size g cdg :: X.stack) s2 H2 E0 scope f c') [] (σ ++ [some v]) H2 { s2 with heap := h₁, toks := s2.toks + ([(b, u)] : List (Str × Value)).length } :=
        lam_start1 na rv I L I2.env0 hr.hd un hns kp
      refine PySem.W.kla_codeExpr (wpAny_mono ((hbody _ _ s2 H2 (hr.deeper _)).run [] _ _ H2 Q J ht) (fun v s' hq => ?_) fun e s' hq => hq)
      obtain ⟨w', H', J', rv, q⟩ := hq
      exact ⟨w', H', J'.os, J'.bare, J'.base, J'.hok, rv, q⟩
    have hx : Passes (L2.CX X.prog X.w) ((cxOf CXg X.prog X.w X.K X.mg X.base Ng qg sg g cdg X.A X.stack s H Eg).tr pn xe) E0 := passes_call LamX.takes0 (fun _ _ _ _ z => z.elim)
    show wpAny _ _ (call (.ref f) [u]) _ _ _
    refine wpAny_call (codeAny_mono rc fun r s' hq => ?_)
    cases r with
    | error e => exact hx pinsZ σZ H2 s2 e s' I2 hq
    | ok fl =>
      cases fl with
      | ret u => exact I2.after hq
      | next => exact False.elim hq
      | brk => exact False.elim hq
      | cont => exact False.elim hq
end
/-- the def g of the parameters a0, a1 that calls a1 -/
def GivesTo1 (X : Cx) (Ng : List Str) (x : Str) (sg : Scope) (g : Addr) (cdg : Value) (bg : List Stmt) (a : Str) (q : Str) (TT : V → (V → Hp → VK → Prop) → Hp → VK → Prop) : Prop :=
  ∀ (f c' : Addr) (v0 : V) (s : Shared) (H : Hp) (Q : VK) (tl : V → Hp → VK → Prop),
    (∀ (pn : List (Addr × Obj)) (xe : Value → Shared → Prop) (e : Expr) (ta : TA) (p1 p2 : Pos), PA ((cxOf C8.CX0 X.prog X.w X.K X.mg X.base Ng x sg g cdg X.A X.stack s H C8.E0).tr pn xe) [e] ta →
      starEach [e] ((cxOf C8.CX0 X.prog X.w X.K X.mg X.base Ng x sg g cdg X.A X.stack s H C8.E0).tr pn xe).env = [(false, eval e ((cxOf C8.CX0 X.prog X.w X.K X.mg X.base Ng x sg g cdg X.A X.stack s H C8.E0).tr pn xe).env)] →
      PE ((cxOf C8.CX0 X.prog X.w X.K X.mg X.base Ng x sg g cdg X.A X.stack s H C8.E0).tr pn xe) (.Call (.Name a p1) [e] [] p2) (fun σZ HZ Q => σZ[1]? = some (some (.ref f)) ∧ ta σZ HZ fun vs H1 => ∃ v, vs = [v] ∧ H1 c' = some (CodeO c' q) ∧ tl v H1 Q)) →
    H c' = some (CodeO c' q) → TT v0 tl H Q →
    ∃ t, PSs (cxOf C8.CX0 X.prog X.w X.K X.mg X.base Ng x sg g cdg X.A X.stack s H C8.E0).nox bg t ∧ t { nx := fun _ H' => Q .non H', rt := Q } (L2.start Ng [v0, .ref f]) H
def tLam1 (T : List (Addr × Str)) (TT : V → (V → Hp → VK → Prop) → Hp → VK → Prop) (t0 t : TE) : TE := fun σ H Q => t0 σ H fun v0 H0 => Tabs T H0 ∧ ∀ H1, ExtN H0 H1 → Tabs T H1 → TT v0 (fun v H' Q' => t (σ ++ [some v]) H' Q') H1 Q
section
variable {X : Cx}
/-- x(e, lambda b: body) -/
theorem pe_lamcall1 {T : List (Addr × Str)} {TT : V → (V → Hp → VK → Prop) → Hp → VK → Prop} {x a a0 b : Str} {g c P : Addr} {k : Nat} {pg : Arguments} {bg : List Stmt} {sg : Scope} {dV kV doc pm cdv ct oc : Value} {an od : Option Addr} {osl : Array (Option Value)} {Ng : List Str}
    {params : Arguments} {body e : Expr} {scope : Scope} {t0 t : TE} {p lpos pos : Pos} (hg : Gl X x) (hm : X.mg x = some (.ref g)) (hk : PySem.W.keepIn X.K (.ref g) = true)
    (lk : X.K.lookup g = some ⟨oc, od, .func (PySem.W.fnOf x x pg bg sg dV kV doc pm an cdv ct), osl⟩) (hcg : PySem.W.codeIn X.K cdv x = true) (hb : L2.Binds X.K (PySem.W.fnOf x x pg bg sg dV kV doc pm an cdv ct) [a0, a] []) (Sg : FnScope Ng [a0, a] sg) (hNg : Ng[1]? = some a) (hva : Vis sg a)
    (hG : GivesTo1 X Ng x sg g cdv bg a (X.env.qual ++ "<lambda>") TT)
    (TB : TabB X.base X.mg c P) (hcode : X.env.code = .ref c) (hmT : (P, X.env.qual ++ "<lambda>") ∈ T) (hu : ∀ p ∈ T, p.1 = P → p.2 = X.env.qual ++ "<lambda>") (hr : Room (k + 2) X.A) (L : LamS1 b X.env.scope scope) (nb : b ∉ X.N) (hdef : defaultsOf params X.env = ([], []))
    (hbind : ∀ (q : Str) (cl : List (Str × Addr)) (pm cv ctv u : Value), bindArgs (PySem.W.kla_fn "<lambda>" q params body scope cl pm cv ctv) ⟨[u], []⟩ = pure [(b, u)])
    (h0 : PE X e t0)
    (hbody : ∀ (A : Around) (outer : List Env) (s : Shared) (H : Hp) (f c' : Addr), Room k (A.deeper (lamEnv X scope s.heap.objs.size f c')) → PE (lamCx1 X b A outer s H E0 scope f c') body t)
    (hs : starEach [e, .Lambda params body scope lpos] X.env = (false, eval e X.env) :: starEach [.Lambda params body scope lpos] X.env := by rfl)
    (hdb : (x == ("__debug__" : Str)) = false := by decide) (hd : (a == ("__debug__" : Str)) = false := by decide) (hcd : (a == ("__classdict__" : Str)) = false := by decide) :
    PE X (.Call (.Name x p) [e, .Lambda params body scope lpos] [] pos) (tLam1 T TT t0 t) := by
  refine ⟨fun pins s σ H Q I h => ?_⟩
  refine wpAny_Call_Name_kw (ld_glob I hg hm ?_ hdb)
  refine PySem.W.callWith_K (h₀ := X.base) I.ok.mod.kin hk ?_ hs (by rfl)
  rw [hs]
  show wpAny _ _ (spliced ((false, eval e X.env) :: (false, eval (.Lambda params body scope lpos) X.env) :: backTo pos (starEach [] X.env))) _ _ s
  refine Calls.spliced_cons (thn (h0.run pins s σ H _ I h) fun u0 s0 ⟨v0, H0, I0, r0, hT, h⟩ => ?_)
  refine Calls.spliced_cons (lam_make2 I0 TB hcode hmT hu hT hdef (L.has I.ok) fun f c' pm' ctv H1 s' I1 eN T1 hf hfn hfr hco => ?_)
  refine Calls.spliced_nil ⟨I1.kIn, ?_⟩
  have rc : codeAny (model X.prog X.w) X.A (.call (.ref g) ⟨[u0, .ref f], []⟩) (CR C8.CX0 X.stack X.prog X.w H1 s' Q C8.E0) s' := by
    refine run_ofS (N := Ng) (ps := [a0, a]) (us := [u0, .ref f]) (vs := [v0, .ref f]) lk hcg Sg hr I1.env0 (hb s' [u0, .ref f] I1.kIn rfl) (.cons r0 (.cons rfl .nil)) rfl fun hr' => ?_
    obtain ⟨t', ht', hq'⟩ := hG f c' v0 s' H1 Q (fun v H' Q' => t (σ ++ [some v]) H' Q') (fun pn xe e ta p1 p2 ha he => pe_act1 (i := 1) nb I1 L hf hfn hfr (fun u => hbind _ _ _ _ _ u) hr' (fun A outer s H hr2 => hbody A outer s H f c' hr2) hNg hva ha he hd hcd) hco (h H1 eN T1)
    exact ⟨t', ht'.nox, hq'⟩
  refine wpAny_call (codeAny_mono rc fun r s2 hq => ?_)
  cases r with
  | error e => exact (show False from hq).elim
  | ok fl =>
    cases fl with
    | ret u => exact I1.after hq
    | next => exact False.elim hq
    | brk => exact False.elim hq
    | cont => exact False.elim hq
end
end Ml
namespace Md
open PySem PySem.Spec PyProof.Rows L2
/-! ### the text by places -/
def top (i : Nat) : Stmt := PySem.Challenge.pw_swaphouse_k38_whole_asked.main.body.getD i (.Pass ⟨0, 0, 0, 0⟩)
abbrev sDraw : Stmt := top 55
/-! ### the stream: at a what is left, the digits, how many draws, the sum; at b the numbers left -/
structure Strm (H : Hp) (a b : Addr) (ns : List Int) (p q r : Int) : Prop where
  ne : a ≠ b
  ha : H a = some (.lst [.ref b, .int p, .int q, .int r])
  hb : H b = some (.lst (ns.map V.int))
  p0 : 0 ≤ p
  q0 : 0 ≤ q
  r0 : 0 ≤ r
  r1 : r < 2147483647
/-- all that was tracked but at a, b is as it was -/
def KeepBut (a b : Addr) (H H' : Hp) : Prop := ∀ c o, c ≠ a → c ≠ b → H c = some o → H' c = some o
theorem KeepBut.refl {a b : Addr} {H : Hp} : KeepBut a b H H := fun _ _ _ _ h => h
theorem KeepBut.trans {a b : Addr} {H H1 H2 : Hp} (x : KeepBut a b H H1) (y : KeepBut a b H1 H2) : KeepBut a b H H2 := fun c o h1 h2 h => y c o h1 h2 (x c o h1 h2 h)
theorem KeepBut.new {a b l : Addr} {o : HO} {H : Hp} (h : H l = none) : KeepBut a b H (upd H l o) := fun c u _ _ e => by
  rw [upd_ne (ne_of_none e h)]
  exact e
theorem KeepBut.atA {a b : Addr} {o : HO} {H : Hp} : KeepBut a b H (upd H a o) := fun c u h _ e => by
  rw [upd_ne h]
  exact e
theorem KeepBut.atB {a b : Addr} {o : HO} {H : Hp} : KeepBut a b H (upd H b o) := fun c u _ h e => by
  rw [upd_ne h]
  exact e
/-- how many items the list at b has -/
def lenAt (H : Hp) (b : Addr) : Nat := match H b with
  | some (.lst xs) => xs.length
  | _ => 0
theorem lenAt_of {H : Hp} {b : Addr} {xs : List V} (h : H b = some (.lst xs)) : lenAt H b = xs.length := by
  unfold lenAt
  rw [h]
def spDraw : Sp := fun vs H Q _ => ∃ (a b : Addr) (ns : List Int) (p q r m : Int), vs = [.ref a, .int m] ∧ Strm H a b ns p q r ∧ 0 < m ∧ m < 1073741824 ∧ q < 1000000000000 ∧
  ∀ (H' : Hp) (ns' : List Int) (p' r' d : Int), 0 ≤ d → d < m → Strm H' a b ns' p' (q + 1) r' → KeepBut a b H H' → Q (.int d) H'
/-! ### lists of ints as data -/
theorem dp_ints {K : PySem.W.Frag} {H : Hp} : ∀ ns : List Int, DpAll K H (ns.map V.int) (ns.map PyData.int)
  | [] => .nil
  | n :: r => .cons (.int n) (dp_ints r)
theorem canLay_ints : ∀ ns : List Int, PyData.canLayAll0 (ns.map PyData.int) = true
  | [] => by simp [PyData.canLayAll0]
  | n :: r => by simp [PyData.canLayAll0, PyData.canLay0, canLay_ints r]
theorem depth_ints : ∀ ns : List Int, PyData.depthAll (ns.map PyData.int) ≤ 1
  | [] => by simp [PyData.depthAll]
  | n :: r => by
    have := depth_ints r
    simp [PyData.depthAll, PyData.depth]
    omega
theorem shaped_ints (ns : List Int) : SeqAt.shaped (.list (ns.map PyData.int)) = true := by
  have h1 := canLay_ints ns
  have h2 := depth_ints ns
  simp [SeqAt.shaped, PyData.canLay0, PyData.depth, h1]
  omega
theorem eqv_nil (ns : List Int) : PyData.eqv (.list (ns.map PyData.int)) (.list []) = decide (ns = []) := by
  cases ns with
  | nil => simp [PyData.eqv, PyData.eqvAll]
  | cons n r => simp [PyData.eqv, PyData.eqvAll]
theorem at0 {α : Type} {x y z w : α} : atI [x, y, z, w] 0 = some x := rfl
theorem at1 {α : Type} {x y z w : α} : atI [x, y, z, w] 1 = some y := rfl
theorem at2 {α : Type} {x y z w : α} : atI [x, y, z, w] 2 = some z := rfl
theorem at3 {α : Type} {x y z w : α} : atI [x, y, z, w] 3 = some w := rfl
section
variable {H : Hp} {a b l : Addr} {ns : List Int} {p q r : Int}
theorem Strm.new {o : HO} (S : Strm H a b ns p q r) (h : H l = none) : Strm (upd H l o) a b ns p q r :=
  ⟨S.ne, by rw [upd_ne (ne_of_none S.ha h)]; exact S.ha, by rw [upd_ne (ne_of_none S.hb h)]; exact S.hb, S.p0, S.q0, S.r0, S.r1⟩
theorem Strm.other {o : HO} {c : Addr} (S : Strm H a b ns p q r) (h1 : c ≠ a) (h2 : c ≠ b) : Strm (upd H c o) a b ns p q r :=
  ⟨S.ne, by rw [upd_ne h1.symm]; exact S.ha, by rw [upd_ne h2.symm]; exact S.hb, S.p0, S.q0, S.r0, S.r1⟩
theorem Strm.cast {q' : Int} (S : Strm H a b ns p q r) (e : q = q') : Strm H a b ns p q' r := e ▸ S
theorem KeepBut.un {H0 : Hp} {o : HO} (k : KeepBut a b H0 H) (h : H0 l = none) : KeepBut a b H0 (upd H l o) := fun c u h1 h2 e => by
  rw [upd_ne (ne_of_none e h)]
  exact k c u h1 h2 e
theorem Strm.setA {p' q' r' : Int} (S : Strm H a b ns p q r) (h1 : 0 ≤ p') (h2 : 0 ≤ q') (h3 : 0 ≤ r') (h4 : r' < 2147483647) : Strm (upd H a (.lst [.ref b, .int p', .int q', .int r'])) a b ns p' q' r' :=
  ⟨S.ne, upd_same, by rw [upd_ne S.ne.symm]; exact S.hb, h1, h2, h3, h4⟩
theorem Strm.setB {ns' : List Int} (S : Strm H a b ns p q r) : Strm (upd H b (.lst (ns'.map V.int))) a b ns' p q r :=
  ⟨S.ne, by rw [upd_ne S.ne]; exact S.ha, upd_same, S.p0, S.q0, S.r0, S.r1⟩
end
theorem seq0 {n : Nat} (h : 0 < n) : seqIndex? 0 n = some 0 := by
  refine (ixN_seq ?_).1
  unfold ixN
  rw [if_pos (by decide), if_pos (by omega)]
  rfl
theorem while_by2 {c : TT} {tb : TS} {D : Ends} {σ : L2.St} {H : Hp} (Pv : L2.St → Hp → Prop) (μ : L2.St → Hp → Nat) (Ex : L2.St → Hp → Prop) (h0 : Pv σ H)
    (hs : ∀ σ H, Pv σ H → c σ H fun b H1 => if b = true then tb { D with nx := fun σ' H' => Pv σ' H' ∧ μ σ' H' < μ σ H, ct := fun σ' H' => Pv σ' H' ∧ μ σ' H' < μ σ H, bk := D.nx } σ H1 else Ex σ H1)
    (mono : ∀ σ H Q Q', (∀ b H1, Q b H1 → Q' b H1) → c σ H Q → c σ H Q') (fin : ∀ σ H, Ex σ H → D.nx σ H) : tWhile c tb D σ H :=
  while_by Pv μ h0 (fun σ H p => mono σ H _ _ (fun b H1 q => by
    cases b with
    | true => exact q
    | false => exact fin _ _ q) (hs σ H p)) mono
end Md
/-! names: begins_name, is_name -/
namespace Mn
open PySem PySem.Spec PyProof.Rows L2 Md
def letters : Str := "abcdefghijklmnopqrstuvwxyz"
def signs : Str := "abcdefghijklmnopqrstuvwxyz0123456789"
def words : List V := [.str "rule", .str "person", .str "wants", .str "needs", .str "gets", .str "with", .str "ring", .str "out", .str "without", .str "lot", .str "watch", .str "hold"]
def okFirst (x : Str) : Bool := match x.cps[0]? with
  | some c => decide (c ∈ letters.cps.toList)
  | none => true
def begins (x : Str) : Bool := !decide ((8 : Int) < (x.length : Int)) && (okFirst x && x.cps.toList.all fun c => decide (c ∈ signs.cps.toList))
def isNm (x : Str) : Bool := !decide (x = "") && (begins x && !inV (.str x) words)
/-- the constants of names.py -/
structure Consts (K : PySem.W.Frag) (mg : Str → Option Value) : Prop where
  let_ : ∃ t, mg "LETTERS" = some (.str letters t)
  sig : ∃ t, mg "SIGNS" = some (.str signs t)
  lon : ∃ t, mg "LONGEST" = some (.int 8 t)
  wor : mg "WORDS" = some (.ref (He.ga K "WORDS"))
  wseq : ∀ H, SqT K H (He.ga K "WORDS") words
theorem sameUp {H : Hp} {a : Addr} {o : HO} (h : H a = none) : Same H (upd H a o) := fun b u e => by
  rw [upd_ne (ne_of_none e h)]
  exact e
abbrev sBegins : Stmt := top 20
abbrev sIsName : Stmt := top 21
def spBegins : Sp := fun vs H Q _ => ∃ x : Str, vs = [.str x] ∧ x.length ≤ sizeLine ∧ ∀ H', Same H H' → Q (.bl (begins x)) H'
section
variable {P : Program} {w : World} {K : PySem.W.Frag} {mg : Str → Option Value} {base : Heap}
theorem scBegins : FnScope ["part", "sign"] ["part"] (defScope sBegins) := ⟨rfl, rfl, rfl, by decide +kernel, rfl, by decide +kernel, by decide +kernel⟩
def teSign : TE := tOp (fun x y H Q => ∃ (c : Nat) (z : Str), x = .str ⟨#[c]⟩ ∧ y = .str z ∧ Q (.bl (decide (c ∈ z.cps.toList))) H) (tVar 1) (tC (.str signs))
theorem all_signs {x : Str} {H : Hp} {Q : VK} (hx : x.length ≤ sizeLine) (k : ∀ H', Same H H' → Q (.bl (x.cps.toList.all fun c => decide (c ∈ signs.cps.toList))) H') :
    tCB (rAll K) (tCons (tLc (iStr (tVar 0)) (gName 1) tYes teSign [1]) tNil) [some (.str x), none] H Q := by
  refine ⟨_, rfl, x, rfl, fun D hD => lc_it walk_str (fun i H' => Same H H' ∧ ∃ acc : List Bool, acc.length = i ∧ acc = ((x.cps.toList.take i).map fun c => decide (c ∈ signs.cps.toList)) ∧ H' D = some (.lst (acc.map V.bl))) ?_ (fun _ _ _ _ => trivial) ?_ ?_⟩
  · exact ⟨sameUp hD, [], rfl, by simp, upd_same⟩
  · rintro i y H1 H2 hi ⟨s1, acc, ha, he, hacc⟩ ⟨rfl, c, hc, rfl⟩
    refine ⟨rfl, _, rfl, c, signs, rfl, rfl, acc.map V.bl, hacc, ?_, fun b o e => ?_, acc ++ [decide (c ∈ signs.cps.toList)], ?_, ?_, ?_⟩
    · have hl : x.cps.size = x.length := rfl
      rw [List.length_map, ha]
      omega
    · rw [upd_ne (ne_of_none e hD)]
      exact s1 _ _ e
    · rw [List.length_append, ha]
      rfl
    · have hc' : x.cps.toList[i]? = some c := by simpa using hc
      rw [he, List.take_add_one, hc', List.map_append]
      rfl
    · rw [upd_same, List.map_append]
      rfl
  · rintro H1 ⟨s1, acc, ha, he, hacc⟩
    refine ⟨D, acc, rfl, SqL.of hacc, ?_⟩
    have e2 : acc = x.cps.toList.map fun c => decide (c ∈ signs.cps.toList) := by
      rw [he, List.take_of_length_le (by simp)]
    have e3 : acc.all id = x.cps.toList.all fun c => decide (c ∈ signs.cps.toList) := by
      rw [e2, List.all_map]
      rfl
    rw [e3]
    exact k _ s1
theorem ok_begins {f : Addr} {fd : FuncData} (F : Fun K "begins_name" "begins_name" sBegins f fd) (C : Consts K mg) (gN : mg "len" = none) (gA : mg "all" = none) : FnOk P w K mg base CX0 1 f fd ["part"] spBegins := by
  refine F.ok scBegins (fun vs H Q E h => ?_) (fun cdv A outer s H vs Q E hr h => ?_)
  · obtain ⟨x, rfl, _⟩ := h
    rfl
  · obtain ⟨x, rfl, hx, k⟩ := h
    obtain ⟨tl, gL⟩ := C.let_
    obtain ⟨ts, gS⟩ := C.sig
    obtain ⟨tn, gO⟩ := C.lon
    refine ⟨_, pss_cons (ps_if (pt_cmpR op_gt (pe_callB call_len_str (by rfl) gN PySem.boot_len (pa_cons (pv 0) pa_nil)) (pe_glob rfl gO (v := .int 8) ⟨_, rfl⟩) (nomark _)) (pss_one (ps_ret pe_bl)) pss_nil)
      (pss_cons (ps_if (PW.pt (pw_and (pt_cmpR op_ne (pv 0) pe_str (nomark _)) (pw_and1 (pt_cmpR op_notIn_sign (pe_ix ix_str (pv 0) pe_int (fun _ _ => rfl)) (pe_glob rfl gL (v := .str letters) ⟨_, rfl⟩) (by with_unfolding_all rfl))))) (pss_one (ps_ret pe_bl)) pss_nil)
      (pss_one (ps_ret (pe_callB (cr_all rfl) (by rfl) gA (by decide +kernel) (pa_cons (pe_lc (own := [("sign", 1)]) (g := gName 1) (tt := tYes) (te := teSign) rfl scBegins.nd (pi_str (pv 0)) (blkOk_by (N := ["part", "sign"]) (sc := defScope sBegins) (by decide +kernel))
        (fun _ _ _ _ _ => pg_name (i := 1) scBegins.nd rfl (Or.inl rfl)) (fun _ _ _ _ _ => pts_nil) (fun _ _ _ _ _ => by exact (pe_cmpR op_in_sign (pv 1) (pe_glob rfl gS (v := .str signs) ⟨_, rfl⟩) (by with_unfolding_all rfl)))) pa_nil))))), ?_⟩
    refine ⟨_, rfl, x, rfl, hx, _, _, rfl, rfl, _, rfl, ?_⟩
    have eB : begins x = (!decide ((8 : Int) < (x.length : Int)) && (okFirst x && x.cps.toList.all fun c => decide (c ∈ signs.cps.toList))) := rfl
    refine ite2 (fun h8 => ?_) (fun h8 => ?_)
    · have e : begins x = false := by
        rw [eB, h8]
        rfl
      have q := k H (Same.refl H)
      rw [e] at q
      exact q
    have h8' : decide ((8 : Int) < (x.length : Int)) = false := Bool.eq_false_iff.mpr h8
    rw [h8'] at eB
    have fin : okFirst x = true → ∀ H', Same H H' → Q (.bl (x.cps.toList.all fun c => decide (c ∈ signs.cps.toList))) H' := fun e H' s => by
      have q := k H' s
      rw [eB, e] at q
      exact q
    refine ⟨_, rfl, rfl, _, rfl, ?_⟩
    by_cases he : x = ""
    · subst he
      exact iteF (iteF (all_signs hx (fin rfl)))
    · have hn : (!decide (V.str x = V.str "")) = true := by
        rw [decide_eq_false (fun z => he (V.str.inj z))]
        rfl
      rw [hn]
      refine iteT ?_
      cases hc : x.cps[0]? with
      | none =>
        exfalso
        apply he
        obtain ⟨cs⟩ := x
        have : cs = #[] := by
          simp only at hc
          exact Array.eq_empty_of_size_eq_zero (by
            rcases Nat.eq_zero_or_pos cs.size with z | z
            · exact z
            · rw [Array.getElem?_eq_getElem z] at hc
              cases hc)
        rw [this]
        rfl
      | some c =>
        have e0 : okFirst x = decide (c ∈ letters.cps.toList) := by
          unfold okFirst
          rw [hc]
        refine ⟨_, rfl, x, 0, c, rfl, rfl, hx, ?_, c, letters, rfl, rfl, _, rfl, ?_⟩
        · exact atI_nat (j := 0) (by simpa using hc)
        · cases hb : decide (c ∈ letters.cps.toList) with
          | true => exact iteF (all_signs hx (fin (e0.trans hb)))
          | false =>
            have q := k H (Same.refl H)
            rw [eB, e0, hb] at q
            exact iteT q
end
end Mn
/-! given.py: is_list, is_one_of, first_wrong -/
namespace Mn
open PySem PySem.Spec PyProof.Rows L2 Md Me
theorem TyX.same {K : PySem.W.Frag} {H H' : Hp} (s : Same H H') {v : V} {t : Value} (h : TyX K H v t) : TyX K H' v t := by
  cases h with
  | base b =>
    cases b with
    | non => exact .base .non
    | bl y => exact .base (.bl y)
    | int i => exact .base (.int i)
    | str y => exact .base (.str y)
    | flt y => exact .base (.flt y)
    | lst e => exact .base (.lst (s _ _ e))
    | frz e => exact .base (.frz (s _ _ e))
    | tup e => exact .base (.tup (s _ _ e))
    | dK e => exact .base (.dK (s _ _ e))
    | dT e => exact .base (.dT (s _ _ e))
    | ins e cl ha hn htk hm => exact .base (.ins (s _ _ e) cl ha hn htk hm)
  | byt y => exact .byt y
  | set e => exact .set (s _ _ e)
  | kList e c => exact .kList e c
  | kTuple e c => exact .kTuple e c
  | kDict e c => exact .kDict e c
  | fTuple e => exact .fTuple (s _ _ e)
  | fDict e => exact .fDict (s _ _ e)
/-- no text -/
def NoStr (K : PySem.W.Frag) (H : Hp) (v : V) : Prop := ∃ t, TyX K H v t ∧ PySem.W.kitOne K t (.type "str") = some false
theorem NoStr.same {K : PySem.W.Frag} {H H' : Hp} (s : Same H H') {v : V} (h : NoStr K H v) : NoStr K H' v := by
  obtain ⟨t, h1, h2⟩ := h
  exact ⟨t, TyX.same s h1, h2⟩
theorem kit_strT {K : PySem.W.Frag} : PySem.W.kitOne K (.type "str") (.type "str") = some true := kit_ty (by decide +kernel)
abbrev sIsList : Stmt := top 10
abbrev sIsOne : Stmt := top 11
abbrev sFw : Stmt := top 12
theorem boot_list2 : bootBuiltins "list" = some (.type "list") := by decide +kernel
theorem boot_tuple2 : bootBuiltins "tuple" = some (.type "tuple") := by decide +kernel
theorem boot_str2 : bootBuiltins "str" = some (.type "str") := by decide +kernel
def spIsList (K : PySem.W.Frag) : Sp := fun vs H Q _ => ∃ (v : V) (t : Value) (b : Bool), vs = [v] ∧ TyX K H v t ∧ PySem.W.kitAny K t [.type "list", .type "tuple"] = some b ∧ ∀ H', Same H H' → Q (.bl b) H'
def spIsOne (K : PySem.W.Frag) : Sp := fun vs H Q _ => ∃ (v : V) (d : Addr), vs = [v, .ref d] ∧ ((∃ (x : Str) (kvs : List (Key × V)), v = .str x ∧ H d = some (.dK kvs) ∧ Q (.bl (valV kvs (Sum.inr x)).isSome) H) ∨ (NoStr K H v ∧ Q (.bl false) H))
section
variable {P : Program} {w : World} {K : PySem.W.Frag} {mg : Str → Option Value} {base : Heap}
theorem scIsList : FnScope ["thing"] ["thing"] (defScope sIsList) := ⟨rfl, rfl, rfl, by decide +kernel, rfl, by decide +kernel, by decide +kernel⟩
theorem ok_isList {f : Addr} {fd : FuncData} (F : Fun K "is_list" "is_list" sIsList f fd) (gI : mg "isinstance" = none) (gL : mg "list" = none) (gT : mg "tuple" = none) : FnOk P w K mg base CX0 1 f fd ["thing"] (spIsList K) := by
  refine F.ok scIsList (fun vs H Q E h => ?_) (fun cdv A outer s H vs Q E hr h => ?_)
  · obtain ⟨v, t, b, rfl, _⟩ := h
    rfl
  · obtain ⟨v, t, b, rfl, ty, e, k⟩ := h
    refine ⟨_, pss_one (ps_ret (pe_callB call_isiT (by rfl) gI boot_isinstance (pa_cons (pv 0) (pa_cons (pe_tup (pa_cons (pe_bltn (v := .ty "list") rfl gL boot_list2 rfl) (pa_cons (pe_bltn (v := .ty "tuple") rfl gT boot_tuple2 rfl) pa_nil))) pa_nil)))), ?_⟩
    refine ⟨_, rfl, (show 2 ≤ sizeLine by decide), fun p np => ?_⟩
    exact ⟨v, p, _, t, _, b, rfl, upd_same, .cons (.ty _) (.cons (.ty _) .nil), TyX.same (sameUp np) ty, e, k _ (sameUp np)⟩
theorem scIsOne : FnScope ["thing", "names"] ["thing", "names"] (defScope sIsOne) := ⟨rfl, rfl, rfl, by decide +kernel, rfl, by decide +kernel, by decide +kernel⟩
theorem ok_isOne {f : Addr} {fd : FuncData} (F : Fun K "is_one_of" "is_one_of" sIsOne f fd) (gI : mg "isinstance" = none) (gS : mg "str" = none) : FnOk P w K mg base CX0 1 f fd ["thing", "names"] (spIsOne K) := by
  refine F.ok scIsOne (fun vs H Q E h => ?_) (fun cdv A outer s H vs Q E hr h => ?_)
  · obtain ⟨v, d, rfl, _⟩ := h
    rfl
  · obtain ⟨v, d, rfl, h⟩ := h
    have hu := hu_of hr
    refine ⟨_, pss_one (ps_ret (pe_and (pe_callB call_isi (by rfl) gI boot_isinstance (pa_cons (pv 0) (pa_cons (pe_bltn (v := .ty "str") rfl gS boot_str2 rfl) pa_nil))) (pe_one (pe_cmp (pc_din hu (pv 0) (pv 1)) rfl)))), ?_⟩
    rcases h with ⟨x, kvs, rfl, hd, k⟩ | ⟨⟨t, ty, e⟩, k⟩
    · exact ⟨_, rfl, _, _, _, _, true, rfl, .ty _, .base (.str x), kit_strT, true, rfl, iteT ⟨_, rfl, _, rfl, d, _, rfl, DGet.k (k := Sum.inr x) hd, k⟩⟩
    · exact ⟨_, rfl, _, _, _, _, false, rfl, .ty _, ty, e, false, rfl, iteF k⟩
/-! ### first_wrong -/
/-- the first index of what is no text, stands earlier, or doesn't fit -/
def fwI (fit : Str → Bool) : List V → List Str → Nat → Option Nat
  | [], _, _ => none
  | .str x :: r, seen, i => if (decide (x ∈ seen) || !fit x) = true then some i else fwI fit r (x :: seen) (i + 1)
  | _ :: _, _, i => some i
def optI : Option Nat → V
  | none => .non
  | some i => .int i
theorem scFw : FnScope ["things", "fits", "seen", "at", "thing"] ["things", "fits"] (defScope sFw) := ⟨rfl, rfl, rfl, by decide +kernel, rfl, by decide +kernel, by decide +kernel⟩
abbrev FwCx (CX : CXT) (P : Program) (w : World) (K : PySem.W.Frag) (mg : Str → Option Value) (base : Heap) (q : Str) (f : Addr) (cdv : Value) (A : Around) (outer : List Env) (s : Shared) (H : Hp) (E : XK) : Cx :=
  (cxOf CX P w K mg base ["things", "fits", "seen", "at", "thing"] q (defScope sFw) f cdv A outer s H E).nox
theorem NoStr.ne {K : PySem.W.Frag} {H : Hp} {v : V} (h : NoStr K H v) (x : Str) : v ≠ .str x := by
  rintro rfl
  obtain ⟨t, h1, h2⟩ := h
  cases h1 with
  | base b =>
    cases b
    rw [kit_strT] at h2
    cases h2
theorem fwI_no {fit : Str → Bool} {v : V} {r : List V} {seen : List Str} {i : Nat} (h : ∀ x, v ≠ .str x) : fwI fit (v :: r) seen i = some i := by
  cases v with
  | str x => exact absurd rfl (h x)
  | _ => rfl
theorem seq_same {K : PySem.W.Frag} {H H' : Hp} {a : Addr} {xs : List V} (s : Same H H') (h : SqT K H a xs) : SqT K H' a xs :=
  h.elim (fun h => .inl (h.elim (fun h => .inl (s _ _ h)) fun ⟨o, h⟩ => .inr ⟨o, s _ _ h⟩)) fun h => .inr h
theorem fw_run {CX : CXT} {q : Str} {f : Addr} {cdv : Value} {A : Around} {outer : List Env} {s : Shared} {H : Hp} {E : XK} {Q : VK} {tf : TE} {vf : V} {a : Addr} {xs : List V} {fit : Str → Bool} (G : Hp → Prop)
    (gI : mg "isinstance" = none) (gS : mg "str" = none) (gE : mg "enumerate" = none) (gSet : mg "set" = none)
    (act : ∀ p1 p2 p3, PE (FwCx CX P w K mg base q f cdv A outer s H E) (.Call (.Name "fits" p1) [.Name "thing" p2] [] p3) tf)
    (hG : ∀ H H', Same H H' → G H → G H') (hGs : ∀ p, H p = none → ∀ H' o, G H' → G (upd H' p o))
    (hf : ∀ (σ : L2.St) (H : Hp) (Q : VK) (x : Str), σ[1]? = some (some vf) → σ[4]? = some (some (.str x)) → x.length ≤ sizeLine → G H → (∀ H', Same H H' → Q (.bl (fit x)) H') → tf σ H Q)
    (hq : SqL K H a xs ∨ SqT K H a xs) (hx : ∀ v ∈ xs, (∃ x : Str, v = .str x ∧ x.length ≤ sizeLine) ∨ NoStr K H v) (hn : xs.length ≤ 4000) (g0 : G H) (k : ∀ H', Same H H' → Q (optI (fwI fit xs [] 0)) H') :
    ∃ t, PSs (FwCx CX P w K mg base q f cdv A outer s H E) (defBody sFw) t ∧ t { nx := fun _ H' => Q .non H', rt := Q } (start ["things", "fits", "seen", "at", "thing"] [.ref a, vf]) H := by
  have nd := scFw.nd
  refine ⟨_, pss_cons (ps_set (i := 2) nd rfl (Or.inl rfl) (pe_callTy0 cr_set0K (by rfl) gSet (by decide +kernel)))
    (pss_cons (ps_for PassesOwn.never rfl (pi_enumA rfl gE (pa_cons (pv 0) pa_nil)) (pg_tup rfl (pgs_cons (pg_name (i := 3) nd rfl (Or.inl rfl)) (pgs_cons (pg_name (i := 4) nd rfl (Or.inl rfl)) pgs_nil)))
      (pss_cons (ps_if (PW.pt (pw_or (pt_not (pt_val (pe_callB call_isi (by rfl) gI boot_isinstance (pa_cons (pv 4) (pa_cons (pe_bltn (v := .ty "str") rfl gS boot_str2 rfl) pa_nil)))))
        (pw_or (pt_cmpR or_sinK (pv 4) (pv 2) (by with_unfolding_all rfl)) (pw_or1 (pt_not (pt_val (act _ _ _))))))) (pss_one (ps_ret (pv 3))) pss_nil)
      (pss_one (ps_expr (pe_saddK (pv 2) (pa_cons (pv 4) pa_nil))))))
    (pss_one (ps_ret pe_non))), ?_⟩
  have wk : ∃ (J : It) (GG : Hp → Prop), Walk J xs.length GG (YPair (fun i => some (.int (i : Nat))) fun i => xs[i]?) ∧ (∀ H', Same H H' → GG H') ∧
      ((SqL K H a xs ∧ J = Ite K a) ∨ (SqT K H a xs ∧ J = ItT K a)) := by
    rcases hq with hq | hq
    · exact ⟨Ite K a, fun H => SqL K H a xs, walk_enum, fun H' s => s.seq hq, .inl ⟨hq, rfl⟩⟩
    · exact ⟨ItT K a, fun H => SqT K H a xs, walk_enumT, fun H' s => seq_same s hq, .inr ⟨hq, rfl⟩⟩
  obtain ⟨J, GG, wJ, hGG, hR⟩ := wk
  refine ⟨rfl, fun p np => ?_⟩
  have s1 := sameUp (o := SetK P w p (fun _ => false) 0) np
  refine ⟨_, rfl, a, xs, rfl, ?_⟩
  rcases hR with ⟨h1, rfl⟩ | ⟨h1, rfl⟩
  all_goals
    first | refine .inl ⟨s1.seq h1, ?_⟩ | refine .inr ⟨seq_same s1 h1, ?_⟩
    refine for_it wJ (fun i σ H' => ∃ (o3 o4 : Option V) (seen : List Str) (S : Key → Bool) (n : Nat), σ = [some (.ref a), some vf, some (.ref p), o3, o4] ∧ Same H H' ∧ H' p = some (SetK P w p S n) ∧ n ≤ i ∧
      (∀ x : Str, S (Sum.inr x) = decide (x ∈ seen)) ∧ G H' ∧ fwI fit xs [] 0 = fwI fit (xs.drop i) seen i) ?_ (fun i σ H' _ ⟨_, _, _, _, _, _, s, _⟩ => hGG H' s) ?_ ?_
    · exact ⟨_, _, [], _, 0, rfl, s1, upd_same, Nat.le_refl _, fun x => rfl, hG _ _ s1 g0, rfl⟩
    · rintro i v σ H2 H3 hi ⟨o3, o4, seen, S, n, rfl, s2, hp, hni, hS, g2, e⟩ ⟨T, x1, y1, rfl, nT, rfl, e1, e2⟩
      have e1' : V.int (i : Int) = x1 := Option.some.inj e1
      subst e1'
      replace e2 : xs[i]? = some y1 := e2
      have sT := sameUp (o := .tup [V.int (i : Int), y1]) nT
      have ed : xs.drop i = y1 :: xs.drop (i + 1) := by
        obtain ⟨h1, h2⟩ := List.getElem?_eq_some_iff.mp e2
        rw [← h2]
        exact List.drop_eq_getElem_cons h1
      have s3 := s2.trans sT
      have ret : fwI fit (y1 :: xs.drop (i + 1)) seen i = some i → ∀ H', Same H H' → Q (.int (i : Int)) H' := fun z H' s => by
        have q := k H' s
        rw [e, ed, z] at q
        exact q
      refine ⟨T, _, rfl, SqT.of upd_same, rfl, _, _, rfl, _, _, rfl, rfl, ?_⟩
      rcases hx y1 (List.mem_of_getElem? e2) with ⟨x, rfl, hl⟩ | no
      · refine ⟨_, rfl, _, _, _, _, true, rfl, .ty _, .base (.str x), kit_strT, true, rfl, iteF ?_⟩
        refine ⟨_, rfl, _, rfl, Sum.inr x, p, S, n, rfl, rfl, sT _ _ hp, S (Sum.inr x), rfl, ?_⟩
        cases hin : S (Sum.inr x) with
        | true =>
          refine iteT ⟨_, rfl, ret ?_ _ s3⟩
          have z : decide (x ∈ seen) = true := by rw [← hS x]; exact hin
          show (if (decide (x ∈ seen) || !fit x) = true then some i else _) = some i
          rw [z]
          rfl
        | false =>
          have z : decide (x ∈ seen) = false := by rw [← hS x]; exact hin
          refine iteF (hf _ _ _ x rfl rfl hl (hG _ _ sT g2) fun H4 s4 => ⟨_, rfl, ?_⟩)
          cases hb : fit x with
          | false =>
            refine iteT ⟨_, rfl, ret ?_ _ (s3.trans s4)⟩
            show (if (decide (x ∈ seen) || !fit x) = true then some i else _) = some i
            rw [z, hb]
            rfl
          | true =>
            have hp4 := s4 _ _ (sT _ _ hp)
            refine iteF ⟨_, rfl, ⟨p, S, n, rfl, hp4⟩, _, rfl, p, Sum.inr x, S, n, rfl, rfl, hp4, by show n + 1 < 4096; omega, ?_⟩
            refine ⟨_, _, x :: seen, _, _, rfl, fun b o eb => ?_, upd_same, ?_, fun y => ?_, hGs p np _ _ (hG _ _ (sT.trans s4) g2), ?_⟩
            · have nb : b ≠ p := ne_of_none eb np
              rw [upd_ne nb]
              exact (s3.trans s4) _ _ eb
            · rw [hin]
              show n + 1 ≤ i + 1
              omega
            · show (S (Sum.inr y) || decide ((Sum.inr y : Key) = Sum.inr x)) = decide (y ∈ x :: seen)
              rw [hS y]
              by_cases h1 : y = x
              · subst h1
                simp
              · have h2 : ¬ (Sum.inr y : Key) = Sum.inr x := fun z => h1 (Sum.inr.inj z)
                rw [decide_eq_false h2]
                simp [h1]
            · rw [e, ed]
              show (if (decide (x ∈ seen) || !fit x) = true then some i else fwI fit (xs.drop (i + 1)) (x :: seen) (i + 1)) = _
              rw [z, hb]
              rfl
      · have no' := no.same s3
        obtain ⟨t, ty, et⟩ := no'
        refine ⟨_, rfl, _, _, _, _, false, rfl, .ty _, ty, et, false, rfl, iteT ⟨_, rfl, ret ?_ _ s3⟩⟩
        exact fwI_no no.ne
    · rintro σ H2 ⟨o3, o4, seen, S, n, rfl, s2, hp, hni, hS, g2, e⟩
      have q := k H2 s2
      rw [e, List.drop_length] at q
      exact q
end
end Mn
/-! is_name, people_fault, are_unlike, is_row -/
namespace Mn
open PySem PySem.Spec PyProof.Rows L2 Md Me Ml LamX
abbrev sPf : Stmt := top 22
abbrev sUnl : Stmt := top 13
abbrev sRow : Stmt := top 14
/-- an item that first_wrong can judge -/
def Itm (K : PySem.W.Frag) (H : Hp) (v : V) : Prop := (∃ x : Str, v = .str x ∧ x.length ≤ sizeLine) ∨ NoStr K H v
theorem Itm.same {K : PySem.W.Frag} {H H' : Hp} (s : Same H H') {v : V} (h : Itm K H v) : Itm K H' v := h.imp id fun h => h.same s
/-- a list or a tuple that stands in H -/
def Seq (H : Hp) (a : Addr) (xs : List V) : Prop := H a = some (.lst xs) ∨ H a = some (.tup xs)
theorem Seq.same {H H' : Hp} (s : Same H H') {a : Addr} {xs : List V} (h : Seq H a xs) : Seq H' a xs := h.imp (s _ _) (s _ _)
theorem Seq.sq {K : PySem.W.Frag} {H : Hp} {a : Addr} {xs : List V} (h : Seq H a xs) : SqL K H a xs ∨ SqT K H a xs := h.imp SqL.of SqT.of
theorem kit_seqL {K : PySem.W.Frag} : PySem.W.kitAny K (.type "list") [.type "list", .type "tuple"] = some true := kitAny_cons (b := true) (kit_ty (by decide +kernel)) (fun z => by cases z) (fun _ => rfl)
theorem kit_seqT {K : PySem.W.Frag} : PySem.W.kitAny K (.type "tuple") [.type "list", .type "tuple"] = some true :=
  kitAny_cons (b := false) (kit_ty (by decide +kernel)) (fun _ => kitAny_cons (b := true) (kit_ty (by decide +kernel)) (fun z => by cases z) (fun _ => rfl)) (fun z => by cases z)
theorem Seq.ty {K : PySem.W.Frag} {H : Hp} {a : Addr} {xs : List V} (h : Seq H a xs) : ∃ t, TyX K H (.ref a) t ∧ PySem.W.kitAny K t [.type "list", .type "tuple"] = some true := by
  rcases h with h | h
  · exact ⟨_, .base (.lst h), kit_seqL⟩
  · exact ⟨_, .base (.tup h), kit_seqT⟩
/-- no list, no tuple -/
def NoSeq (K : PySem.W.Frag) (H : Hp) (v : V) : Prop := ∃ t, TyX K H v t ∧ PySem.W.kitAny K t [.type "list", .type "tuple"] = some false
theorem NoSeq.same {K : PySem.W.Frag} {H H' : Hp} (s : Same H H') {v : V} (h : NoSeq K H v) : NoSeq K H' v := by
  obtain ⟨t, h1, h2⟩ := h
  exact ⟨t, TyX.same s h1, h2⟩
def spIsName (K : PySem.W.Frag) : Sp := fun vs H Q _ => ∃ v : V, vs = [v] ∧ ((∃ x : Str, v = .str x ∧ x.length ≤ sizeLine ∧ ∀ H', Same H H' → Q (.bl (isNm x)) H') ∨ (NoStr K H v ∧ Q (.bl false) H))
def spPf (K : PySem.W.Frag) : Sp := fun vs H Q _ => (∃ v : V, vs = [v] ∧ NoSeq K H v ∧ ∀ H', Same H H' → Q (.int 0) H') ∨
  ∃ (a : Addr) (xs : List V), vs = [.ref a] ∧ Seq H a xs ∧ (∀ v ∈ xs, Itm K H v) ∧ xs.length ≤ 4000 ∧ ∀ H', Same H H' → Q (optI (fwI isNm xs [] 0)) H'
def spFwN (K : PySem.W.Frag) (fN : Addr) : Sp := fun vs H Q _ => ∃ (a : Addr) (xs : List V), vs = [.ref a, .ref fN] ∧ Seq H a xs ∧ (∀ v ∈ xs, Itm K H v) ∧ xs.length ≤ 4000 ∧ ∀ H', Same H H' → Q (optI (fwI isNm xs [] 0)) H'
section
variable {P : Program} {w : World} {K : PySem.W.Frag} {mg : Str → Option Value} {base : Heap}
theorem scIsName : FnScope ["thing"] ["thing"] (defScope sIsName) := ⟨rfl, rfl, rfl, by decide +kernel, rfl, by decide +kernel, by decide +kernel⟩
theorem words_flat : words.all flatV = true := by decide +kernel
theorem ok_isName {f fB : Addr} {fd fdB : FuncData} (F : Fun K "is_name" "is_name" sIsName f fd) (FB : Fun K "begins_name" "begins_name" sBegins fB fdB) (bB : Binds K fdB ["part"] []) (gB : mg "begins_name" = some (.ref fB)) (C : Consts K mg)
    (gI : mg "isinstance" = none) (gS : mg "str" = none) (gN : mg "len" = none) (gA : mg "all" = none) : FnOk P w K mg base CX0 2 f fd ["thing"] (spIsName K) := by
  have GB : FnOk P w K mg base CX0 1 fB fdB ["part"] spBegins := ok_begins FB C gN gA
  refine F.ok scIsName (fun vs H Q E h => ?_) (fun cdv A outer s H vs Q E hr h => ?_)
  · obtain ⟨v, rfl, _⟩ := h
    rfl
  · obtain ⟨v, rfl, h⟩ := h
    refine ⟨_, pss_one (ps_ret (pe_and (pe_callB call_isi (by rfl) gI boot_isinstance (pa_cons (pv 0) (pa_cons (pe_bltn (v := .ty "str") rfl gS boot_str2 rfl) pa_nil)))
      (pe_and (pe_cmpR op_ne (pv 0) pe_str (nomark _)) (pe_and (pe_call GB hr rfl gB FB.kp bB .nil pass0 (pa_cons (pv 0) pa_nil)) (pe_one (pe_cmpR op_notIn_seq (pv 0) (pe_glob rfl C.wor (v := .ref (He.ga K "WORDS")) rfl) (by with_unfolding_all rfl))))))), ?_⟩
    rcases h with ⟨x, rfl, hl, k⟩ | ⟨⟨t, ty, e⟩, k⟩
    · refine ⟨_, rfl, _, _, _, _, true, rfl, .ty _, .base (.str x), kit_strT, true, rfl, iteT ⟨_, rfl, rfl, _, rfl, ?_⟩⟩
      have eN : isNm x = (!decide (x = "") && (begins x && !inV (.str x) words)) := rfl
      by_cases h0 : x = ""
      · subst h0
        exact iteF (k H (Same.refl H))
      · have z : (!decide (V.str x = V.str "")) = true := by
          rw [decide_eq_false (fun z => h0 (V.str.inj z))]
          rfl
        have z0 : decide (x = "") = false := decide_eq_false h0
        rw [z0] at eN
        rw [z]
        refine iteT ⟨_, rfl, x, rfl, hl, fun H' s => ⟨_, rfl, ?_⟩⟩
        cases hb : begins x with
        | false =>
          have q := k H' s
          rw [eN, hb] at q
          exact iteF q
        | true =>
          have q := k H' s
          rw [eN, hb] at q
          exact iteT ⟨_, rfl, He.ga K "WORDS", words, rfl, .inr (C.wseq _), rfl, words_flat, q⟩
    · exact ⟨_, rfl, _, _, _, _, false, rfl, .ty _, ty, e, false, rfl, iteF k⟩
theorem ok_fwN {f fN : Addr} {fd fdN : FuncData} (F : Fun K "first_wrong" "first_wrong" sFw f fd) (GN : FnOk P w K mg base CX0 2 fN fdN ["thing"] (spIsName K)) (kN : PySem.W.keepIn K (.ref fN) = true) (bN : Binds K fdN ["thing"] [])
    (gI : mg "isinstance" = none) (gS : mg "str" = none) (gE : mg "enumerate" = none) (gSet : mg "set" = none) : FnOk P w K mg base CX0 3 f fd ["things", "fits"] (spFwN K fN) := by
  refine F.ok scFw (fun vs H Q E h => ?_) (fun cdv A outer s H vs Q E hr h => ?_)
  · obtain ⟨a, xs, rfl, _⟩ := h
    rfl
  · obtain ⟨a, xs, rfl, hq, hx, hn, k⟩ := h
    have hu := hu_of hr
    exact fw_run (fit := isNm) (fun _ => True) gI gS gE gSet (fun p1 p2 p3 => pe_callL GN hr rfl (Or.inl rfl) kN bN .nil pass0 (pa_cons (pv 4) pa_nil)) (fun _ _ _ _ => trivial) (fun _ _ _ _ _ => trivial)
      (fun σ H Q x h1 h4 hl _ kk => ⟨h1, _, h4, _, rfl, .inl ⟨x, rfl, hl, kk⟩⟩) hq.sq hx hn trivial k
theorem scPf : FnScope ["people"] ["people"] (defScope sPf) := ⟨rfl, rfl, rfl, by decide +kernel, rfl, by decide +kernel, by decide +kernel⟩
theorem ok_pf {f fL fW fN : Addr} {fd fdL fdW : FuncData} (F : Fun K "people_fault" "people_fault" sPf f fd)
    (GL : FnOk P w K mg base CX0 1 fL fdL ["thing"] (spIsList K)) (kL : PySem.W.keepIn K (.ref fL) = true) (bL : Binds K fdL ["thing"] []) (gL : mg "is_list" = some (.ref fL))
    (GW : FnOk P w K mg base CX0 3 fW fdW ["things", "fits"] (spFwN K fN)) (kW : PySem.W.keepIn K (.ref fW) = true) (bW : Binds K fdW ["things", "fits"] []) (gW : mg "first_wrong" = some (.ref fW)) (gN : mg "is_name" = some (.ref fN)) :
    FnOk P w K mg base CX0 4 f fd ["people"] (spPf K) := by
  refine F.ok scPf (fun vs H Q E h => ?_) (fun cdv A outer s H vs Q E hr h => ?_)
  · rcases h with ⟨v, rfl, _⟩ | ⟨a, xs, rfl, _⟩ <;> rfl
  · refine ⟨_, pss_cons (ps_if (pt_not (pt_val (pe_call GL (hr.mono (by decide)) rfl gL kL bL .nil pass0 (pa_cons (pv 0) pa_nil)))) (pss_one (ps_ret pe_int)) pss_nil)
      (pss_one (ps_ret (pe_call GW hr rfl gW kW bW .nil pass0 (pa_cons (pv 0) (pa_cons (pe_glob rfl gN (v := .ref fN) rfl) pa_nil))))), ?_⟩
    rcases h with ⟨v, rfl, ⟨t, ty, e⟩, k⟩ | ⟨a, xs, rfl, hq, hx, hn, k⟩
    · exact ⟨_, rfl, v, t, false, rfl, ty, e, fun H' s => ⟨false, rfl, iteT (k H' s)⟩⟩
    · obtain ⟨t, ty, e⟩ := hq.ty (K := K)
      exact ⟨_, rfl, _, t, true, rfl, ty, e, fun H' s => ⟨true, rfl, iteF ⟨_, rfl, a, xs, rfl, hq.same s, fun v hv => (hx v hv).same s, hn, fun H2 s2 => k H2 (s.trans s2)⟩⟩⟩
end
end Mn
/-! are_unlike, is_row -/
namespace Mn
open PySem PySem.Spec PyProof.Rows L2 Md Me Ml LamX
/-! ### all but the tables of code stays -/
theorem ntb_lst {xs : List V} : ∀ ps, HO.lst xs ≠ .tbl ps := fun ps z => by cases z
theorem ntb_tup {xs : List V} : ∀ ps, HO.tup xs ≠ .tbl ps := fun ps z => by cases z
theorem ntb_dK {xs : List (Key × V)} : ∀ ps, HO.dK xs ≠ .tbl ps := fun ps z => by cases z
theorem ntb_ins {C dx : Addr} {fs : List (Str × V)} : ∀ ps, HO.ins C dx fs ≠ .tbl ps := fun ps z => by cases z
theorem ntb_frz {o : Obj} {u : HO} : ∀ ps, HO.frz o u ≠ .tbl ps := fun ps z => by cases z
theorem TyX.ext {K : PySem.W.Frag} {H H' : Hp} (s : ExtN H H') {v : V} {t : Value} (h : TyX K H v t) : TyX K H' v t := by
  cases h with
  | base b =>
    cases b with
    | non => exact .base .non
    | bl y => exact .base (.bl y)
    | int i => exact .base (.int i)
    | str y => exact .base (.str y)
    | flt y => exact .base (.flt y)
    | lst e => exact .base (.lst (s _ _ e (fun ps z => by cases z)))
    | frz e => exact .base (.frz (s _ _ e (fun ps z => by cases z)))
    | tup e => exact .base (.tup (s _ _ e (fun ps z => by cases z)))
    | dK e => exact .base (.dK (s _ _ e (fun ps z => by cases z)))
    | dT e => exact .base (.dT (s _ _ e (fun ps z => by cases z)))
    | ins e cl ha hn htk hm => exact .base (.ins (s _ _ e (fun ps z => by cases z)) cl ha hn htk hm)
  | byt y => exact .byt y
  | set e => exact .set (s _ _ e (fun ps z => by cases z))
  | kList e c => exact .kList e c
  | kTuple e c => exact .kTuple e c
  | kDict e c => exact .kDict e c
  | fTuple e => exact .fTuple (s _ _ e (fun ps z => by cases z))
  | fDict e => exact .fDict (s _ _ e (fun ps z => by cases z))
theorem NoStr.ext {K : PySem.W.Frag} {H H' : Hp} (s : ExtN H H') {v : V} (h : NoStr K H v) : NoStr K H' v := by
  obtain ⟨t, h1, h2⟩ := h
  exact ⟨t, TyX.ext s h1, h2⟩
theorem NoSeq.ext {K : PySem.W.Frag} {H H' : Hp} (s : ExtN H H') {v : V} (h : NoSeq K H v) : NoSeq K H' v := by
  obtain ⟨t, h1, h2⟩ := h
  exact ⟨t, TyX.ext s h1, h2⟩
theorem Itm.ext {K : PySem.W.Frag} {H H' : Hp} (s : ExtN H H') {v : V} (h : Itm K H v) : Itm K H' v := h.imp id fun h => h.ext s
theorem Seq.ext {H H' : Hp} (s : ExtN H H') {a : Addr} {xs : List V} (h : Seq H a xs) : Seq H' a xs := h.imp (fun h => s _ _ h ntb_lst) (fun h => s _ _ h ntb_tup)
/-- all but the tables stays, and these are tables still -/
structure Up (T : List (Addr × Str)) (H H' : Hp) : Prop where
  e : ExtN H H'
  t : Tabs T H'
theorem Up.refl {T : List (Addr × Str)} {H : Hp} (t : Tabs T H) : Up T H H := ⟨ExtN.refl H, t⟩
theorem Up.trans {T : List (Addr × Str)} {H H1 H2 : Hp} (a : Up T H H1) (b : Up T H1 H2) : Up T H H2 := ⟨a.e.trans b.e, b.t⟩
theorem Up.same {T : List (Addr × Str)} {H H' : Hp} (t : Tabs T H) (s : Same H H') : Up T H H' := ⟨ExtN.of s, t.ext s⟩
theorem Up.andS {T : List (Addr × Str)} {H H1 H2 : Hp} (a : Up T H H1) (s : Same H1 H2) : Up T H H2 := a.trans (.same a.t s)
def lamSB1 (a : Str) (sc scope : Scope) : Bool :=
  decide (scope.kind = .function) && (!scope.isCoroutine && (!scope.isGenerator && (decide (scope.names.lookup a = some .local) && scope.names.all fun y => !decide (y.2 = .cell) && ((!decide (y.2 = .local) || decide (y.1 = a)) && (!decide (y.2 = .free) || (decide (sc.names.lookup y.1 = some .cell) || decide (sc.names.lookup y.1 = some .free)))))))
theorem lamS1_by {a : Str} {sc scope : Scope} (h : lamSB1 a sc scope = true) : LamS1 a sc scope := by
  unfold lamSB1 at h
  simp only [Bool.and_eq_true, Bool.or_eq_true, Bool.not_eq_true', decide_eq_true_eq, decide_eq_false_iff_not, List.all_eq_true] at h
  obtain ⟨h1, h2, h3, h4, h5⟩ := h
  refine ⟨h1, h2, h3, h4, fun y hy => (h5 y hy).1, fun y hy e => ?_, fun y hy e => ?_⟩
  · rcases (h5 y hy).2.1 with z | z
    · exact absurd e z
    · exact z
  · rcases (h5 y hy).2.2 with z | z | z
    · exact absurd e z
    · exact .inl z
    · exact .inr z
/-! ### first_wrong with a lambda -/
def TTfw (K : PySem.W.Frag) : V → (V → Hp → VK → Prop) → Hp → VK → Prop := fun v0 tl H Q => ∃ (a : Addr) (xs : List V) (fit : Str → Bool) (G : Hp → Prop), v0 = .ref a ∧ Seq H a xs ∧ (∀ v ∈ xs, Itm K H v) ∧ xs.length ≤ 4000 ∧ G H ∧
  (∀ H H', Same H H' → G H → G H') ∧ (∀ p, H p = none → ∀ H' o, G H' → G (upd H' p o)) ∧
  (∀ (x : Str) (H' : Hp) (Q' : VK), x.length ≤ sizeLine → G H' → (∀ H'', Same H' H'' → Q' (.bl (fit x)) H'') → tl (.str x) H' Q') ∧ ∀ H', Same H H' → Q (optI (fwI fit xs [] 0)) H'
theorem fw_gives {X : Cx} {g : Addr} {cdv : Value} {q : Str} (gI : X.mg "isinstance" = none) (gS : X.mg "str" = none) (gE : X.mg "enumerate" = none) (gSet : X.mg "set" = none) :
    GivesTo1 X ["things", "fits", "seen", "at", "thing"] "first_wrong" (defScope sFw) g cdv (defBody sFw) "fits" q (TTfw X.K) := by
  intro f c' v0 s H Q tl act hc ⟨a, xs, fit, G, e0, hq, hx, hn, g0, hG, hGs, htl, k⟩
  subst e0
  refine fw_run (fit := fit) (fun H' => G H' ∧ H' c' = some (CodeO c' q)) gI gS gE gSet (fun p1 p2 p3 => act _ (fun _ _ => False) _ _ p1 p3 (pa_cons (pv 4) pa_nil) rfl) (fun H1 H2 s ⟨z1, z2⟩ => ⟨hG _ _ s z1, s _ _ z2⟩)
    (fun p np H' o ⟨z1, z2⟩ => ⟨hGs p np _ _ z1, by rw [upd_ne (ne_of_none hc np)]; exact z2⟩) (fun σ H' Q' x h1 h4 hl ⟨z1, z2⟩ kk => ⟨h1, _, h4, _, rfl, z2, htl x H' Q' hl z1 kk⟩) hq.sq hx hn ⟨g0, hc⟩ k
/-- the names that a dict has -/
def inD (kvs : List (Key × V)) (x : Str) : Bool := (valV kvs (Sum.inr x)).isSome
def unlB (kvs : List (Key × V)) (xs : List V) : Bool := (fwI (inD kvs) xs [] 0).isNone
def spUnl (K : PySem.W.Frag) (T : List (Addr × Str)) : Sp := fun vs H Q _ => ∃ (v : V) (d : Addr) (kvs : List (Key × V)), vs = [v, .ref d] ∧ Tabs T H ∧ H d = some (.dK kvs) ∧ ((NoSeq K H v ∧ ∀ H', Up T H H' → Q (.bl false) H') ∨
  ∃ (a : Addr) (xs : List V), v = .ref a ∧ Seq H a xs ∧ (∀ v ∈ xs, Itm K H v) ∧ xs.length ≤ 4000 ∧ ∀ H', Up T H H' → Q (.bl (unlB kvs xs)) H')
abbrev qUnl : Str := (envOfC "are_unlike" { kind := .function, names := [], isGenerator := false, isCoroutine := false } 0 0 .none).qual ++ "<lambda>"
section
variable {P : Program} {w : World} {K : PySem.W.Frag} {mg : Str → Option Value} {base : Heap}
theorem scUnl : FnScope ["thing", "names"] ["thing", "names"] (defScope sUnl) := ⟨rfl, rfl, rfl, by decide +kernel, rfl, by decide +kernel, by decide +kernel⟩
theorem ok_unl {T : List (Addr × Str)} {f fL fW : Addr} {fd fdL fdW : FuncData} (F : Fun K "are_unlike" "are_unlike" sUnl f fd) (hf : f = He.fAd K ("are_unlike", none)) (TB : TabB base mg (He.cT K ("are_unlike", none)).1 (He.cT K ("are_unlike", none)).2)
    (hmT : ((He.cT K ("are_unlike", none)).2, qUnl) ∈ T) (hu : ∀ p ∈ T, p.1 = (He.cT K ("are_unlike", none)).2 → p.2 = qUnl)
    (GL : FnOk P w K mg base CX0 1 fL fdL ["thing"] (spIsList K)) (kL : PySem.W.keepIn K (.ref fL) = true) (bL : Binds K fdL ["thing"] []) (gL : mg "is_list" = some (.ref fL))
    (FW : Fun K "first_wrong" "first_wrong" sFw fW fdW) (bW : Binds K fdW ["things", "fits"] []) (gW : mg "first_wrong" = some (.ref fW))
    (gI : mg "isinstance" = none) (gS : mg "str" = none) (gE : mg "enumerate" = none) (gSet : mg "set" = none) : FnOk P w K mg base CX0 3 f fd ["thing", "names"] (spUnl K T) := by
  obtain ⟨oc, od, kV, doc, pm, an, cdv, ct, osl, rfl, lk, hcd⟩ := F.ex
  obtain ⟨c, rfl⟩ := He.codeIn_ref hcd
  have ec : He.codeOf K ("are_unlike", none) = c := He.codeOf_eq (by rw [← hf]; exact lk) rfl
  obtain ⟨oc2, od2, kV2, doc2, pm2, an2, cdv2, ct2, osl2, rfl, lk2, hcd2⟩ := FW.ex
  refine fn_of lk hcd scUnl (fun vs H Q E h => ?_) (fun A outer s H vs Q E hr h => ?_)
  · obtain ⟨v, d, kvs, rfl, _⟩ := h
    rfl
  · obtain ⟨v, d, kvs, rfl, hT, hd, h⟩ := h
    have TB' : TabB base mg c (He.cT K ("are_unlike", none)).2 := by
      rw [← ec]
      exact TB
    refine ⟨_, PSs.nox (pss_one (ps_ret (pe_and (pe_call GL (hr.mono (by decide)) rfl gL kL bL .nil pass0 (pa_cons (pv 0) pa_nil))
      (pe_one (pe_cmp (pc_isN (pe_lamcall1 (k := 0) (b := "name") rfl gW FW.kp lk2 hcd2 bW scFw rfl (Or.inl rfl) (fw_gives gI gS gE gSet) TB' rfl hmT hu hr (lamS1_by (by rfl)) (by show (("name" : Str) ∉ (["thing", "names"] : List Str)); decide +kernel) rfl
        (fun _ _ _ _ _ _ => rfl) (pv 0) (fun A outer s H f c' hr2 => pe_cmp (pc_din (hu_of hr2) (pv 2) (pv 1)) rfl))) rfl))))), ?_⟩
    rcases h with ⟨⟨t, ty, e⟩, k⟩ | ⟨a, xs, rfl, hq, hx, hn, k⟩
    · exact ⟨_, rfl, v, t, false, rfl, ty, e, fun H' s => ⟨false, rfl, iteF (k H' (.same hT s))⟩⟩
    · obtain ⟨t, ty, e⟩ := hq.ty (K := K)
      refine ⟨_, rfl, _, t, true, rfl, ty, e, fun H1 s1 => ⟨true, rfl, iteT ?_⟩⟩
      have u1 := Up.same hT s1
      refine ⟨_, rfl, u1.t, fun H2 e2 t2 => ?_⟩
      have u2 : Up T H H2 := u1.trans ⟨e2, t2⟩
      refine ⟨a, xs, inD kvs, fun H' => H' d = some (.dK kvs), rfl, hq.ext u2.e, fun v hv => (hx v hv).ext u2.e, hn, u2.e _ _ hd ntb_dK, fun H1 H2 s z => s _ _ z, fun p np H' o z => ?_, fun x H' Q' hl z kk => ?_, fun H3 s3 => ?_⟩
      · have hd2 := u2.e _ _ hd ntb_dK
        show upd H' p o d = some (HO.dK kvs)
        rw [upd_ne (ne_of_none hd2 np)]
        exact z
      · exact ⟨_, rfl, _, rfl, d, _, rfl, DGet.k (k := Sum.inr x) z, kk _ (Same.refl _)⟩
      · have q := k H3 (u2.andS s3)
        have eb : unlB kvs xs = decide (optI (fwI (inD kvs) xs [] 0) = .non) := by
          unfold unlB
          cases fwI (inD kvs) xs [] 0 <;> rfl
        rw [eb] at q
        exact q
end
end Mn
/-! dicts of one entry whose key is None or a tuple -/
namespace Mo
open PySem PySem.Spec PyProof.Rows L2
section
variable {prog : Program} {w : World} {A : Around} {E : Value → Shared → Prop} {s : Shared}
theorem tell_quiet {a : Addr} {ks : List Key} {st : List Value} {Q : Bool → Shared → Prop} (hk : (tupleKind (mixKind prog w)).is s.heap ks a) (hs : ∀ v ∈ st, carriedByValue v = true) (h : Q false s) : wpAny (model prog w) A (tableMayTell (.ref a) st) Q E s := by
  unfold tableMayTell
  split
  · exact wpAny_pure h
  · refine wpAny_bind ((tupleKind (mixKind prog w)).quiet hk ?_)
    simp only [Bool.not_true, Bool.false_eq_true, if_false]
    refine wpAny_bind ?_
    refine wpAny_forIn_list _ (fun rest r s' => s' = s ∧ r = (none, ()) ∧ ∀ v ∈ rest, carriedByValue v = true) _ ?_ ?_ _ _ ⟨rfl, rfl, hs⟩
    · rintro x rest r s' ⟨rfl, rfl, hr⟩
      rw [eqIsQuiet_byValue _ (hr x List.mem_cons_self)]
      refine wpAny_bind (wpAny_pure ?_)
      simp only [Bool.not_true, Bool.false_eq_true, if_false]
      exact wpAny_pure ⟨rfl, rfl, fun v hv => hr v (List.mem_cons_of_mem _ hv)⟩
    · rintro r s' ⟨rfl, rfl, _⟩
      exact wpAny_pure h
theorem find_foreign {d a : Addr} {o : Obj} {es : Array DictEntry} {ep : Nat} {ks : List Key} {hh : Int} {Q : Option Nat → Shared → Prop} (hu : A.units < cLine) (hk : (tupleKind (mixKind prog w)).is s.heap ks a) (hL : ∃ its, s.heap.IsTuple a its) (ho : s.heap.get? d = some o) (hd : o.data = .dict es ep)
    (hs : ∀ e ∈ es, ∃ k : Key, keyIs k e.key = true) (h : Q none s) : wpAny (model prog w) A (dictFind d (.ref a) hh) Q E s := by
  obtain ⟨its, hL⟩ := hL
  have byv : ∀ e ∈ es, carriedByValue e.key = true ∧ e.key ≠ .ref a := fun e he => by
    obtain ⟨k, hk⟩ := hs e he
    rcases keyIs_shape hk with ⟨i, t, _, q⟩ | ⟨x, t, _, q⟩ <;> (rw [q]; exact ⟨rfl, fun z => by cases z⟩)
  have inL : ∀ {i : Nat} {e : DictEntry}, es[i]? = some e → e ∈ es := fun {i e} q => Array.mem_of_getElem? q
  have hst : ∀ v ∈ (placesWithHash es.size (fun i => es[i]?.map (·.hash)) hh).filterMap (fun i => es[i]?.map (·.key)), carriedByValue v = true ∧ v ≠ .ref a := by
    intro v hv
    obtain ⟨i, _, hi⟩ := List.mem_filterMap.mp hv
    obtain ⟨e, he, rfl⟩ := Option.map_eq_some_iff.mp hi
    exact byv e (inL he)
  unfold dictFind
  try with_reducible refine wpAny_holding ?_
  refine wpAny_bind (wpAny_dictEntries ho hd ?_)
  dsimp only
  rw [if_neg (show ¬ ((Value.ref a :: (placesWithHash es.size (fun i => es[i]?.map (·.hash)) hh).filterMap (fun i => es[i]?.map (·.key))).all carriedByValue) = true by simp [carriedByValue])]
  have hany : ¬ (es.any fun e => e.key == Value.ref a && e.hash != hh) = true := by
    rw [Array.any_eq_true]
    rintro ⟨i, hi, hc⟩
    have e1 : (es[i].key == Value.ref a) = true := (Bool.and_eq_true_iff.mp hc).1
    exact (byv es[i] (Array.getElem_mem hi)).2 (eq_of_beq e1)
  rw [if_neg hany]
  have hone : ¬ (((placesWithHash es.size (fun i => es[i]?.map (·.hash)) hh).filterMap (fun i => es[i]?.map (·.key))) == [Value.ref a]) = true := fun z => by
    have e := eq_of_beq z
    exact (hst (.ref a) (by rw [e]; exact List.mem_cons_self)).2 rfl
  rw [if_neg hone]
  refine wpAny_bind (tell_quiet hk (fun v hv => (hst v hv).1) ?_)
  rw [if_neg (by simp)]
  refine wpAny_bind ?_
  refine wpAny_forIn_list _ (fun rest b s' => s' = s ∧ b = (none, none)) _ ?_ ?_ _ _ ⟨rfl, rfl⟩
  · rintro x rest b s' ⟨rfl, rfl⟩
    cases hx : es[x]? with
    | none => exact wpAny_pure ⟨rfl, rfl⟩
    | some e =>
      dsimp only
      by_cases hq : (e.hash == hh) = true
      · rw [if_pos hq]
        have hE : SeqAt.EqAt A s' e.key (.ref a) false := by
          obtain ⟨k, hk⟩ := hs e (inL hx)
          rcases keyIs_shape hk with ⟨i, t, _, q⟩ | ⟨y, t, _, q⟩
          · rw [q]
            exact SeqAt.EqAt.int_tuple i t hL hu
          · rw [q]
            exact SeqAt.EqAt.str_tuple y t hL hu
        refine wpAny_bind (wpAny_dictEpoch ho hd (wpAny_bind (hE _ _ _ _ (wpAny_bind (wpAny_dictEpoch ho hd ?_)))))
        show wpAny _ _ (if (ep != ep) = true then _ else _) _ E _
        rw [if_neg (by simp)]
        simp only [Bool.false_eq_true, if_false]
        refine wpAny_bind (wpAny_rule ?_)
        first | rw [if_neg (by simp)] | skip
        first
          | exact wpAny_pure ⟨rfl, rfl⟩
          | exact wpAny_bind (wpAny_pure (wpAny_pure ⟨rfl, rfl⟩))
      · rw [if_neg hq]
        exact wpAny_pure ⟨rfl, rfl⟩
  · rintro b s' ⟨rfl, rfl⟩
    exact wpAny_pure h
theorem in_foreign {d a : Addr} {o : Obj} {es : Array DictEntry} {ep : Nat} {ks : List Key} {Q : Value → Shared → Prop} (hu : A.in1.units < cLine) (hk : (tupleKind (mixKind prog w)).is s.heap ks a) (hL : ∃ its, s.heap.IsTuple a its) (hds : (d == sysModules) = false) (ho : s.heap.get? d = some o) (hx : o.ExactDict) (hd : o.data = .dict es ep)
    (hs : ∀ e ∈ es, ∃ k : Key, keyIs k e.key = true) (h : Q (.bool false) { s with toks := s.toks + (ks.length + 1) }) : wpAny (model prog w) A (compareOp .In (.ref a) (.ref d)) Q E s := by
  have hT : s.TypeIs (.ref d) "dict" := ⟨o, ho, hx.1⟩
  show wpAny _ _ (do return .bool (← contains (.ref d) (.ref a))) Q E s
  refine wpAny_bind ?_
  unfold contains
  try with_reducible refine wpAny_holding ?_
  refine wpAny_bind (wpAny_specialOf hT slot_dict_contains.lookup ?_)
  show wpAny _ _ (if (some (Value.builtin "dict.__contains__") == some Value.none) = true then _ else _) _ E s
  rw [if_neg (by rw [beq_builtin_none]; exact Bool.false_ne_true)]
  refine wpAny_bind (wpAny_callSpecialUnlessNone?_slot (name := Str.ofString "__contains__") hT slot_dict_contains
    (wpAny_call_entry slot_dict_contains hT entry_dict_contains ?_ (args_dict_contains _ _)))
  show wpAny _ _ (dictGet d (.ref a) >>= _) _ _ s
  have get : ∀ {R : Option Value → Shared → Prop} {E' : Value → Shared → Prop}, R none { s with toks := s.toks + (ks.length + 1) } → wpAny (model prog w) A.in1 (dictGet d (.ref a)) R E' s := fun {R E'} q => by
    unfold dictGet
    try with_reducible refine wpAny_holding ?_
    refine wpAny_bind ((tupleKind (mixKind prog w)).pyHash (k := ks) hu hk (wpAny_bind (find_foreign (s := { s with toks := s.toks + (ks.length + 1) }) hu hk hL ho hd hs ?_)))
    exact wpAny_pure q
  refine wpAny_bind (get ?_)
  show wpAny _ _ (Builtin.Dict.pendingKey? d (.ref a) >>= _) _ _ _
  exact wpAny_bind (wpAny_pendingKey_other hds (wpAny_pure ⟨_, rfl, wpAny_truthy_bool (wpAny_pure h)⟩))
end
/-! ### in the layer -/
/-- None, or a tuple of texts, in a dict of ints and texts: no -/
def rInOdd : R2 := fun x y H Q => ∃ (d : Addr) (kvs : List (Key × V)), y = .ref d ∧ H d = some (.dK kvs) ∧ (x = .non ∨ ∃ (t : Addr) (ks : List Key), x = .ref t ∧ H t = some (.tup (ks.map kV))) ∧ Q (.bl false) H
section
variable {X : Cx}
theorem op_inOdd (hu : X.A.in1.units < cLine) : OpR X (compareOp .In) rInOdd := by
  intro pins s σ H x y v u Q I rx ry h
  obtain ⟨d, kvs, rfl, hd, hx, q⟩ := h
  obtain rfl : u = Value.ref d := ry
  rcases hx with rfl | ⟨t, ks, rfl, ht⟩
  · obtain rfl : v = Value.none := rx
    exact d_inNone I (.inl hd) fun s' I' => ⟨.bl false, H, I', rfl, q⟩
  · obtain rfl : v = Value.ref t := rx
    obtain ⟨_, hs0, vs, kv, o, es, ep, ho, hxd, hdt, hall, _⟩ := dk_of I.hok hd
    have hkey := key_of I.hok ht
    obtain ⟨_, its, rv, hp⟩ := (show ObjOk X.prog X.w H s.heap t (.tup (ks.map kV)) from I.hok t _ ht)
    refine in_foreign hu hkey ⟨_, hp⟩ hs0 ho hxd hdt (fun e he => ?_) ⟨.bl false, H, I.tok _, rfl, q⟩
    obtain ⟨k, h1, _⟩ := hall e he
    exact ⟨k, h1⟩
end
end Mo
/-! such a dict in the layer: made, asked for its kind, walked, listed -/
namespace Mo
open PySem PySem.Spec PyProof.Rows L2
/-- what is true of a dict of the one entry k: v; its object is o -/
structure OdP (d : Addr) (o : Obj) (k v : V) (h : Heap) : Prop where
  sys : (d == sysModules) = false
  get : h.get? d = some o
  ex : o.ExactDict
  en : ∃ (e : DictEntry) (ep : Nat), o.data = .dict #[e] ep ∧ RelV k e.key ∧ RelV v e.val
  hs : k = .non → ∀ (e : DictEntry) (ep : Nat), o.data = .dict #[e] ep → e.hash = reduceHash 0xFCA86420
def Od (d : Addr) (o : Obj) (k v : V) : HO := .ext (OdP d o k v)
theorem OdP.keep {d : Addr} {o : Obj} {k v : V} {h h' : Heap} (x : OdP d o k v h) (e : ∀ o, h.get? d = some o → h'.get? d = some o) : OdP d o k v h' := ⟨x.sys, e _ x.get, x.ex, x.en, x.hs⟩
theorem OdP.ok {P : Program} {w : World} {H : Hp} {d : Addr} {o : Obj} {k v : V} {h : Heap} (x : OdP d o k v h) : ObjOk P w H h d (Od d o k v) := ⟨x, ⟨o, x.get⟩, fun h1 h2 a b => a.keep b⟩
theorem OdP.raw {d : Addr} {o : Obj} {k v : V} {h : Heap} (x : OdP d o k v h) : ∃ (e : DictEntry) (ep : Nat), h.DictRaw d #[e] ep ∧ o.data = .dict #[e] ep ∧ RelV k e.key ∧ RelV v e.val := by
  obtain ⟨e, ep, h1, h2, h3⟩ := x.en
  exact ⟨e, ep, ⟨o, x.get, x.ex, h1⟩, h1, h2, h3⟩
section
variable {X : Cx} {pins : List (Addr × Obj)} {σ : L2.St} {H : Hp} {s : Shared}
theorem od_of (I : Inv X pins σ H s) {d : Addr} {o : Obj} {k v : V} (h : H d = some (Od d o k v)) : OdP d o k v s.heap := by
  have x : ObjOk X.prog X.w H s.heap d (.ext (OdP d o k v)) := I.hok d _ h
  exact x.1
/-! ### isinstance -/
def rIsiO (K : PySem.W.Frag) : List V → Hp → VK → Prop := fun xs H Q => ∃ (d : Addr) (o : Obj) (k v c : V) (u : Value) (b : Bool), xs = [.ref d, c] ∧ ClsV c u ∧ H d = some (Od d o k v) ∧ PySem.W.kitOne K (.type "dict") u = some b ∧ Q (.bl b) H
def rIsiOT (K : PySem.W.Frag) : List V → Hp → VK → Prop := fun xs H Q => ∃ (d : Addr) (o : Obj) (k v : V) (tp : Addr) (cs : List V) (us : List Value) (b : Bool), xs = [.ref d, .ref tp] ∧ H tp = some (.tup cs) ∧ Paired ClsV cs us ∧ H d = some (Od d o k v) ∧ PySem.W.kitAny K (.type "dict") us = some b ∧ Q (.bl b) H
theorem kit_od {d : Addr} {o : Obj} {k v : V} (x : OdP d o k v s.heap) : ∃ P : Heap → Prop, PySem.W.KitX X.K (.ref d) (.type "dict") P ∧ P s.heap ∧ (Value.ref d) ≠ .builtin "__main__.__loader__#opaque" := by
  exact ⟨_, PySem.W.kitx_dict, ⟨o, x.get, x.ex.1⟩, fun z => nomatch z⟩
theorem call_isiO : CallR X (.builtin "isinstance") (rIsiO X.K) := by
  intro pins s σ H xs us Q I r h
  obtain ⟨d, o, k, v, c, u, b, rfl, hc, hd, e, q⟩ := h
  obtain ⟨u1, u2, rfl, r1, r2⟩ := vals2 r
  have e2 := hc.eq r2
  subst e2
  obtain rfl : u1 = Value.ref d := r1
  obtain ⟨P, Z, p, hx⟩ := kit_od (X := X) (od_of I hd)
  exact PySem.W.kia_one Z I.kIn p e hx fun tk => ⟨.bl b, H, I.tok tk, rfl, q⟩
theorem call_isiOT : CallR X (.builtin "isinstance") (rIsiOT X.K) := by
  intro pins s σ H xs us Q I r h
  obtain ⟨d, od, k, v, tp, cs, ws, b, rfl, hT, hc, hd, e, q⟩ := h
  obtain ⟨u1, u2, rfl, r1, r2⟩ := vals2 r
  cases (show u2 = Value.ref tp from r2)
  obtain rfl : u1 = Value.ref d := r1
  obtain ⟨P, Z, p, hx⟩ := kit_od (X := X) (od_of I hd)
  obtain ⟨_, its, rv, o, h1, h2, n, h3⟩ := (show ObjOk X.prog X.w H s.heap tp (.tup cs) from I.hok tp _ hT)
  have e3 := ClsV.all hc rv
  subst e3
  obtain ⟨oc, od, dt, sl⟩ := o
  simp only at h2 h3
  subst h2 h3
  exact PySem.W.kia_tup Z I.kIn p h1 e hx fun tk => ⟨.bl b, H, I.tok tk, rfl, q⟩
end
/-- two rules of one call -/
theorem callR_or {X : Cx} {f : Value} {r1 r2 : List V → Hp → VK → Prop} (h1 : CallR X f r1) (h2 : CallR X f r2) : CallR X f (fun xs H Q => r1 xs H Q ∨ r2 xs H Q) :=
  fun pins s σ H xs us Q I r h => h.elim (h1 pins s σ H xs us Q I r) (h2 pins s σ H xs us Q I r)
/-! ### displays of one pair -/
/-- the heap ahead: an empty dict of one kind or of the other -/
def emp (t : Bool) : HO := if t = true then .dT [] else .dK []
def tDispO (tk tv : TE) (isT : Bool) : TE := fun σ H Q => ∀ p, H p = none → tPairs [(tk, tv)] σ (upd H p (emp isT)) fun ps H2 => H2 p = some (emp isT) ∧ ∃ x y, ps = [(x, y)] ∧
  (isT = false → x = .non) ∧ (isT = true → ∃ (t : Addr) (ks : List Key), x = .ref t ∧ H2 t = some (.tup (ks.map kV))) ∧ ∀ o, (∃ h, OdP p o x y h) → Q (.ref p) (upd H2 p (Od p o x y))
section
variable {X : Cx} {pos : Pos} {ke ve : Expr} {tk tv : TE}
theorem od_raw {P : Program} {w : World} {κ : Type} [DecidableEq κ] {knd : PySem.KeyKind P w κ} {d : Addr} {k : κ} {x y : V} {u : Value} {h' : Heap} (hs : (d == sysModules) = false) (rx : ∀ u', knd.is k u' = true → RelV x u') (rh : x = .non → knd.hash k = reduceHash 0xFCA86420) (ry : RelV y u) (dd : h'.DictOf knd d [(k, u)]) : ∃ o, OdP d o x y h' := by
  obtain ⟨o, es, ep, ho, hx, hd, hko, hp, hn⟩ := dd
  cases hl : es.toList with
  | nil =>
    rw [hl] at hp
    cases hp
  | cons e r =>
    rw [hl] at hp
    cases hp with
    | cons e1 e2 e3 =>
      cases e3
      have ee : es = #[e] := Array.toList_inj.mp (by rw [hl])
      rw [ee] at hd hko
      refine ⟨o, hs, ho, hx, ⟨e, ep, hd, rx _ e1, by rw [e2]; exact ry⟩, fun hx0 e' ep' h' => ?_⟩
      rw [hd] at h'
      cases h'
      obtain ⟨k', hk', hh⟩ := hko e (by simp)
      rw [hh, knd.inj _ _ _ hk' e1]
      exact rh hx0
theorem od_rawH {P : Program} {w : World} {κ : Type} [DecidableEq κ] {knd : PySem.HeapKind P w κ} {d : Addr} {k : κ} {t : Addr} {y : V} {u : Value} {h' : Heap} (hs : (d == sysModules) = false) (ry : RelV y u) (dd : h'.DictOfH knd d [(k, t, u)]) : ∃ o, OdP d o (.ref t) y h' := by
  obtain ⟨o, es, ep, ho, hx, hd, he, _⟩ := dd
  have e : es = #[entryOfKey knd (k, t, u)] := Array.toList_inj.mp (by rw [he]; rfl)
  refine ⟨o, hs, ho, hx, ⟨entryOfKey knd (k, t, u), ep, ?_, rfl, ry⟩, fun z => by cases z⟩
  rw [← e]
  exact hd
theorem pe_dispN (hk : PE X ke tk) (hv : PE X ve tv) : PE X (.Dict [some ke] [ve] pos) (tDispO tk tv false) := by
  refine ⟨fun pins s σ H Q I q => ?_⟩
  have hn := I.hok.fresh (Nat.le_refl s.heap.objs.size)
  have I1 := I.laid (a := s.heap.objs.size) (o := emp false) (h' := s.heap.push { cls := .type "dict", data := .dict #[] }) (t' := s.toks) (fun _ _ q => Heap.get?_push_of_some _ q) (Nat.le_refl _) (dk_empty s.heap I.big)
  have h := pps_cons hk hv (pps_nil (X := X) (pos := pos))
  refine wpAny_Dict_walk (knd := noneKind X.prog X.w) rfl rfl (by simp) (by simp) (thn (h.run pins _ σ _ _ I1 (q _ hn)) fun ws s2 ⟨ps, H2, I2, rel, e, x, y, ep, e0, _, q2⟩ => ?_)
  obtain rfl := e0 rfl
  subst ep
  cases rel with
  | @cons _ w0 _ _ h1 h2 =>
    cases h2
    obtain ⟨kv, u⟩ := w0
    obtain rfl : kv = Value.none := h1.1
    obtain ⟨z, hd, vs0, r0, o, es, ep, ho, hx, hdt, hko, hp, hnd⟩ := dk_of I2.hok (show H2 s.heap.objs.size = some (.dK []) from e)
    cases r0
    have hes : es.toList = [] := by
      have := hp.length
      exact List.length_eq_zero_iff.mp (by simpa using this)
    have hes2 : es = #[] := Array.toList_inj.mp hes
    subst hes2
    refine ⟨[(none, u)], ⟨rfl, rfl, trivial⟩, ⟨o, #[], ep, ho, hx, hdt, fun e he => by simp at he, by simpa using .nil, by simp⟩, fun h' dd' hs => ?_⟩
    obtain ⟨oN, P0⟩ : ∃ o, OdP s.heap.objs.size o .non y h' := od_raw hd (fun u' hu => nk_none hu) (fun _ => rfl) h1.2 dd'
    refine ⟨.ref s.heap.objs.size, _, ?_, rfl, q2 oN ⟨_, P0⟩⟩
    have he : ∃ q, h'.get? s.heap.objs.size = some q := let ⟨q, _, _, hq, _⟩ := dd'; ⟨q, hq⟩
    exact d_write I2 (by rw [e]; exact True.intro) hs he P0.ok
theorem pe_dispT (hu : X.A.units < cLine) (hk : PE X ke tk) (hv : PE X ve tv) : PE X (.Dict [some ke] [ve] pos) (tDispO tk tv true) := by
  refine ⟨fun pins s σ H Q I q => ?_⟩
  have hn := I.hok.fresh (Nat.le_refl s.heap.objs.size)
  have I1 := I.laid (a := s.heap.objs.size) (o := emp true) (h' := s.heap.push { cls := .type "dict", data := .dict #[] }) (t' := s.toks) (fun _ _ q => Heap.get?_push_of_some _ q) (Nat.le_refl _) (dt_empty s.heap I.big)
  have h := pps_cons hk hv (pps_nil (X := X) (pos := pos))
  have hlen := pairTrees_length [some ke] [ve] X.env pos rfl rfl
  have h0 : pairTrees [some ke] [ve] X.env pos ≠ [] := fun z => by
    rw [z] at hlen
    cases hlen
  have h15 : (pairTrees [some ke] [ve] X.env pos).length ≤ 15 := by
    rw [hlen]
    show 1 ≤ 15
    decide
  rw [arm_eval_Dict, zip_pairTrees [some ke] [ve] X.env pos rfl rfl, dictDisplay_pairs _ h0 (by omega)]
  refine wpAny_bind (wpAny_standAt (wpAny_bind (wpAny_subDictH (knd := tupleKind (mixKind X.prog X.w)) (Q := fun d s' => wpAny (model X.prog X.w) X.A (pure (Value.ref d)) (EP X pins σ Q) X.xe s') hu h15 (thn (h.run pins _ σ _ _ I1 (q _ hn)) fun ws s2 ⟨ps, H2, I2, rel, e, x, y, ep, _, e1, q2⟩ => ?_))))
  obtain ⟨t, ks, rfl, ht⟩ := e1 rfl
  subst ep
  cases rel with
  | @cons _ w0 _ _ h1 h2 =>
    cases h2
    obtain ⟨kv, u⟩ := w0
    obtain rfl : kv = Value.ref t := h1.1
    obtain ⟨z, hd, xs, r0, dd⟩ := dt_of I2.hok (show H2 s.heap.objs.size = some (.dT []) from e)
    cases r0
    refine ⟨[(ks, t, u)], ⟨rfl, rfl, key_of I2.hok ht, trivial⟩, dd, fun h' tk' dd' hs => wpAny_pure ?_⟩
    obtain ⟨oN, P0⟩ : ∃ o, OdP s.heap.objs.size o (.ref t) y h' := od_rawH hd h1.2 dd'
    refine ⟨.ref s.heap.objs.size, _, ?_, rfl, q2 oN ⟨_, P0⟩⟩
    have he : ∃ q, h'.get? s.heap.objs.size = some q := let ⟨q, _, _, hq, _⟩ := dd'; ⟨q, hq⟩
    exact d_write I2 (by rw [e]; exact True.intro) hs he P0.ok
end
/-! ### for k, v in d.items() -/
def ItO (d : Addr) (o : Obj) (k v : V) : It := ⟨fun i H => i = 0 ∧ H d = some (Od d o k v), fun i H x H' => ∃ T, x = .ref T ∧ H T = none ∧ H' = upd H T (.tup [k, v]), fun i H => i = 1 ∧ H d = some (Od d o k v)⟩
theorem turn_itemsO {P : Program} {w : World} {K : PySem.W.Frag} {elts : List Expr} {kk : Nat} {tpos : Pos} {d it : Addr} {o : Obj} {k v : V} {e : DictEntry} {ep : Nat} (hod : o.data = .dict #[e] ep) :
    Turn P w K (.Tuple elts kk tpos) (ItO d o k v) [it] it (fun i h => ∃ a b, IsItemIter h it d i 1 ep a b) where
  mem := by simp
  obj := fun i h st b hb => by
    have e : b = it := by simpa using hb
    subst e
    obtain ⟨_, _, e⟩ := st
    exact ⟨_, e, fun v z => nomatch z⟩
  keep := fun i h h' st kp => let ⟨a, b, e⟩ := st; ⟨a, b, kp it (by simp) _ e⟩
  item := by
    intro X hP hw hK hc i pins s σ H E I hf st hg
    subst hP hw hK
    obtain ⟨rfl, hd⟩ := hg
    obtain ⟨ok, ov, he⟩ := st
    obtain ⟨e2, ep2, raw, hod2, rk, rv⟩ := (od_of I hd).raw
    rw [hod] at hod2
    cases hod2
    have hlt : it < s.heap.objs.size := Heap.lt_size he
    refine wpAny_pyNext_items_item_raw he raw (by simp) fun h' ho hT hz hk => ?_
    refine ⟨_, rfl, wpAny_letOwnedTupleGo_items (s := { s with heap := h' }) ho fun h'' he' sb => ?_⟩
    have hT2 : h''.get? s.heap.objs.size = some { cls := .type "tuple", data := .seq #[e.key, e.val] } := (sb.2 _ (Nat.ne_of_gt hlt)).trans hT
    have new : ObjOk X.prog X.w (upd H s.heap.objs.size (.tup [k, v])) h'' s.heap.objs.size (.tup [k, v]) :=
      ⟨by show 2 ≤ sizeLine; decide, [e.key, e.val], .cons rk (.cons rv .nil), ⟨_, hT2, rfl, _, rfl⟩⟩
    have I1 : Inv X pins σ (upd H s.heap.objs.size (.tup [k, v])) { s with heap := h'' } :=
      I.turnedNew (t' := s.toks) (ch := [it]) (fun b ob hb e => (sb.2 b (by simpa using hb)).trans (hk b ob (by simpa using hb) e)) hf (Nat.le_refl _) new
    refine ⟨.ref s.heap.objs.size, _, I1, rfl, ⟨_, rfl, I.hok.fresh (Nat.le_refl _), rfl⟩, ⟨e.key, e.val, he'⟩, fun b hb => ?_⟩
    have e : b = it := by simpa using hb
    rw [e, upd_ne (Nat.ne_of_lt hlt)]
    exact (hf it (by simp)).1
  done := by
    intro X hP hw hK hc i pins s σ H E I hf st hg
    subst hP hw hK
    obtain ⟨rfl, hd⟩ := hg
    obtain ⟨f0, f1, f2, f3, f4, f5⟩ := hf it (by simp)
    obtain ⟨ok, ov, he⟩ := st
    obtain ⟨e2, ep2, raw, hod2, rk, rv⟩ := (od_of I hd).raw
    rw [hod] at hod2
    cases hod2
    exact wpAny_pyNext_items_end_raw (I.ok.hd hc) he raw (by simp) fun h' eb => ⟨rfl, I.turned (t' := s.toks) (fun b ob hb e => eb b ob hb e) f0 f1 f3 f4 f5⟩
  self := fun A i s Q E st h => let ⟨_, _, e⟩ := st; PySem.W.kcp_self e h
def iItemsO (td : TE) : TI := fun σ H R => td σ H fun x H1 => ∃ d o k v, x = .ref d ∧ H1 d = some (Od d o k v) ∧ R (ItO d o k v) H1
theorem pi_itemsO {X : Cx} {e : Expr} {td : TE} {apos cpos : Pos} {elts : List Expr} {kk : Nat} {tpos : Pos} (he : PE X e td) (hbase : attributeBase e "items" X.env (eval e X.env) = eval e X.env := by rfl) (hline : (apos.endLine == cpos.line) = true := by rfl) :
    PI X (.Tuple elts kk tpos) (.Call (.Attribute e "items" apos) [] [] cpos) (iItemsO td) := by
  refine ⟨fun pins s σ H R I h => ?_⟩
  refine wpAny_Call_method (T := "dict") (id := "dict.items") hbase rfl hline F.plainAttrs_dict F.slot_dict_items F.type_dict_items (thn (he.run pins s σ H _ I h) fun u s1 ⟨x, H1, I1, rx, d, o, k, v, ex, hd, q⟩ => ?_)
  subst ex
  obtain rfl : u = Value.ref d := rx
  have op := od_of I1 hd
  obtain ⟨en, ep, raw, hod, rk, rv⟩ := op.raw
  refine ⟨raw.typeIs, fun b z => by cases z; exact ⟨o, op.get, op.ex.2.1⟩, ?_⟩
  have I2 : Inv X pins σ H1 { s1 with heap := s1.heap.push { cls := .type "dict_items", data := .fields #[.ref d] } } := I1.kept (t' := s1.toks) fun b ob q => Heap.get?_push_of_some _ q
  have fin : wpAny (model X.prog X.w) X.A (pyIter (.ref s1.heap.objs.size)) (PIE X pins σ (.Tuple elts kk tpos) R) X.xe { s1 with heap := s1.heap.push { cls := .type "dict_items", data := .fields #[.ref d] } } := by
    refine wpAny_pyIter_items_raw (d := d) ⟨_, Heap.get?_push_size _ rfl, rfl, rfl⟩ (raw.push _) (pi_one (tk := s1.toks) I2 _ (turn_itemsO hod) ⟨.none, .none, ?_⟩ q)
    exact Heap.get?_push_size _ rfl
  show wpAny _ _ (callWith cpos (.builtin "dict.items") [.ref d] [] []) _ X.xe s1
  exact method_meetsIn F.slot_dict_items F.entry_dict_items rfl (PySem.evalArgs_none ⟨rfl, raw.typeIs, F.args_dict_items_1 _, _, meets_dict_items_raw d op.sys, ⟨_, _, raw⟩, fin⟩)
theorem walk_itemsO {d : Addr} {o : Obj} {k v : V} : Walk (ItO d o k v) 1 (fun H => H d = some (Od d o k v)) (fun i H x H' => ∃ T, x = .ref T ∧ H T = none ∧ H' = upd H T (.tup [k, v])) :=
  ⟨fun i _ hi q => ⟨by omega, q⟩, fun _ q => ⟨rfl, q⟩, fun _ _ _ _ _ _ y => y⟩
end Mo
/-! is_row, are_rows -/
namespace Mn
open PySem PySem.Spec PyProof.Rows L2 Md Me Ml LamX
abbrev sRows : Stmt := top 24
/-- what is_row tells of a value, the names of kvs -/
inductive RowB (K : PySem.W.Frag) (H : Hp) (kvs : List (Key × V)) (p : Str) : V → Bool → Prop
  | no {v : V} (h : NoSeq K H v) : RowB K H kvs p v false
  | seq {a : Addr} {xs : List V} (h : Seq H a xs) (hx : ∀ v ∈ xs, Itm K H v) (hn : xs.length ≤ 4000) : RowB K H kvs p (.ref a) (unlB kvs xs && !inV (.str p) xs)
theorem RowB.ext {K : PySem.W.Frag} {H H' : Hp} {kvs : List (Key × V)} {p : Str} {v : V} {b : Bool} (s : ExtN H H') (h : RowB K H kvs p v b) : RowB K H' kvs p v b := by
  cases h with
  | no h => exact .no (h.ext s)
  | seq h hx hn => exact .seq (h.ext s) (fun v hv => (hx v hv).ext s) hn
theorem fwI_strs {fit : Str → Bool} : ∀ (xs : List V) (seen : List Str) (i : Nat), fwI fit xs seen i = none → ∀ v ∈ xs, ∃ x, v = .str x
  | [], _, _, _, _, hv => absurd hv (by simp)
  | .str x :: r, seen, i, h, v, hv => by
    rcases List.mem_cons.mp hv with e | e
    · exact ⟨x, e⟩
    · have h' : (if (decide (x ∈ seen) || !fit x) = true then some i else fwI fit r (x :: seen) (i + 1)) = none := h
      by_cases hc : (decide (x ∈ seen) || !fit x) = true
      · rw [if_pos hc] at h'
        cases h'
      · rw [if_neg hc] at h'
        exact fwI_strs r _ _ h' v e
  | .non :: _, _, _, h, _, _ => by cases h
  | .bl _ :: _, _, _, h, _, _ => by cases h
  | .int _ :: _, _, _, h, _, _ => by cases h
  | .byt _ :: _, _, _, h, _, _ => by cases h
  | .flt _ :: _, _, _, h, _, _ => by cases h
  | .ref _ :: _, _, _, h, _, _ => by cases h
  | .ty _ :: _, _, _, h, _, _ => by cases h
theorem unl_flat {kvs : List (Key × V)} {xs : List V} (h : unlB kvs xs = true) : xs.all flatV = true := by
  unfold unlB at h
  have e : fwI (inD kvs) xs [] 0 = none := Option.isNone_iff_eq_none.mp h
  exact List.all_eq_true.mpr fun v hv => by
    obtain ⟨x, rfl⟩ := fwI_strs _ _ _ e v hv
    rfl
def spRow (K : PySem.W.Frag) (T : List (Addr × Str)) : Sp := fun vs H Q _ => ∃ (v : V) (p : Str) (d : Addr) (kvs : List (Key × V)) (b : Bool), vs = [v, .str p, .ref d] ∧ Tabs T H ∧ H d = some (.dK kvs) ∧ RowB K H kvs p v b ∧ ∀ H', Up T H H' → Q (.bl b) H'
section
variable {P : Program} {w : World} {K : PySem.W.Frag} {mg : Str → Option Value} {base : Heap}
theorem scRow : FnScope ["thing", "person", "names"] ["thing", "person", "names"] (defScope sRow) := ⟨rfl, rfl, rfl, by decide +kernel, rfl, by decide +kernel, by decide +kernel⟩
theorem ok_row {T : List (Addr × Str)} {f fU : Addr} {fd fdU : FuncData} (F : Fun K "is_row" "is_row" sRow f fd) (GU : FnOk P w K mg base CX0 3 fU fdU ["thing", "names"] (spUnl K T)) (kU : PySem.W.keepIn K (.ref fU) = true) (bU : Binds K fdU ["thing", "names"] []) (gU : mg "are_unlike" = some (.ref fU)) :
    FnOk P w K mg base CX0 4 f fd ["thing", "person", "names"] (spRow K T) := by
  refine F.ok scRow (fun vs H Q E h => ?_) (fun cdv A outer s H vs Q E hr h => ?_)
  · obtain ⟨v, p, d, kvs, b, rfl, _⟩ := h
    rfl
  · obtain ⟨v, p, d, kvs, b, rfl, hT, hd, hb, k⟩ := h
    refine ⟨_, pss_one (ps_ret (pe_and (pe_call GU hr rfl gU kU bU .nil pass0 (pa_cons (pv 0) (pa_cons (pv 2) pa_nil))) (pe_one (pe_cmpR op_notIn_seq (pv 1) (pv 0) (by with_unfolding_all rfl))))), ?_⟩
    cases hb with
    | no h => exact ⟨_, rfl, _, rfl, v, d, kvs, rfl, hT, hd, .inl ⟨h, fun H' u => ⟨false, rfl, iteF (k H' u)⟩⟩⟩
    | @seq a xs h hx hn =>
      refine ⟨_, rfl, _, rfl, _, d, kvs, rfl, hT, hd, .inr ⟨a, xs, rfl, h, hx, hn, fun H' u => ⟨_, rfl, ?_⟩⟩⟩
      cases hb : unlB kvs xs with
      | false =>
        have q := k H' u
        rw [hb] at q
        exact iteF q
      | true =>
        have q := k H' u
        rw [hb] at q
        exact iteT ⟨_, rfl, _, rfl, a, xs, rfl, (h.ext u.e).sq, rfl, unl_flat hb, q⟩
/-! ### are_rows -/
theorem pi_or {X : Cx} {tg e : Expr} {w1 w2 : TI} (h1 : PI X tg e w1) (h2 : PI X tg e w2) : PI X tg e (fun σ H R => w1 σ H R ∨ w2 σ H R) :=
  ⟨fun pins s σ H R I h => h.elim (h1.run pins s σ H R I) (h2.run pins s σ H R I)⟩
theorem pe_or2 {X : Cx} {e : Expr} {t1 t2 : TE} (h1 : PE X e t1) (h2 : PE X e t2) : PE X e (fun σ H Q => t1 σ H Q ∨ t2 σ H Q) :=
  ⟨fun pins s σ H Q I h => h.elim (h1.run pins s σ H Q I) (h2.run pins s σ H Q I)⟩
/-- the dict of names that are_rows makes -/
def namesD (ns : List Str) : List (Key × V) := ns.map fun n => (Sum.inr n, V.bl true)
theorem scRows : FnScope ["thing", "people", "names", "name", "person", "row"] ["thing", "people"] (defScope sRows) := ⟨rfl, rfl, rfl, by decide +kernel, rfl, by decide +kernel, by decide +kernel⟩
/-- what are_rows tells of an entry -/
inductive EntB (K : PySem.W.Frag) (H : Hp) (nd : List (Key × V)) : Key × V → Bool → Prop
  | row {p : Str} {v : V} {b : Bool} (h : inD nd p = true) (r : RowB K H nd p v b) : EntB K H nd (Sum.inr p, v) b
  | out {k : Key} {v : V} (h : valV nd k = none) : EntB K H nd (k, v) false
def NoDict (K : PySem.W.Frag) (H : Hp) (v : V) : Prop := ∃ t, TyX K H v t ∧ PySem.W.kitOne K t (.type "dict") = some false
/-- a dict with one key, None or a tuple of texts -/
def OdD (H : Hp) (v : V) : Prop := ∃ (d : Addr) (o : Obj) (k x : V), v = .ref d ∧ H d = some (Mo.Od d o k x) ∧ (k = .non ∨ ∃ (t : Addr) (ks : List Key), k = .ref t ∧ H t = some (.tup (ks.map kV)))
def spRows (K : PySem.W.Frag) (T : List (Addr × Str)) : Sp := fun vs H Q _ => ∃ (v : V) (ap : Addr) (ns : List Str), vs = [v, .ref ap] ∧ Tabs T H ∧ Seq H ap (ns.map V.str) ∧ ns.Nodup ∧ ns.length ≤ 1000 ∧
  ((NoDict K H v ∧ ∀ H', Up T H H' → Q (.bl false) H') ∨ (∃ (d : Addr) (kvs : List (Key × V)) (bs : List Bool), v = .ref d ∧ H d = some (.dK kvs) ∧ Paired (EntB K H (namesD ns)) kvs bs ∧ kvs.length ≤ 1000 ∧ ∀ H', Up T H H' → Q (.bl (bs.all id)) H') ∨ (OdD H v ∧ ∀ H', Up T H H' → Q (.bl false) H'))
theorem dc_it {J : It} {n : Nat} {G : Hp → Prop} {Y : Nat → Hp → V → Hp → Prop} (w : Walk J n G Y) {g : TG} {tt : TT} {tk tv : TE} {vs : List Nat} {σ : L2.St} {H1 : Hp} {D : Addr} {Qd : Hp → Prop} (Pv : Nat → Hp → Prop) (h0 : Pv 0 (upd H1 D (.dK []))) (hG : ∀ i H, i ≤ n → Pv i H → G H)
    (hs : ∀ i x H H', i < n → Pv i H → Y i H x H' → g x (wipe σ vs) H' fun σ2 H2 => wipe σ2 vs = wipe σ vs ∧ tt σ2 H2 fun b H3 =>
      if b = true then tk σ2 H3 fun y H4 => tv σ2 H4 fun z H5 => ∃ kvs k, y = kV k ∧ H5 D = some (.dK kvs) ∧ kvs.length < sizeLine ∧ Pv (i + 1) (upd H5 D (.dK (putK kvs k z))) else Pv (i + 1) H3) (hd : ∀ H, Pv n H → Qd H) :
    ∃ W : Nat → Nat → Hp → Prop, (∃ m, W 0 m (upd H1 D (.dK []))) ∧ ∀ i m H, W i m H →
      (J.stop i H ∧ Qd H) ∨ (J.go i H ∧ ∃ Nx : Hp → Prop, (∀ H', Nx H' → ∃ m', m' < m ∧ W (i + 1) m' H') ∧ ∀ x H', J.yld i H x H' → g x (wipe σ vs) H' fun σ2 H2 => wipe σ2 vs = wipe σ vs ∧ tt σ2 H2 fun b H3 =>
        if b = true then tk σ2 H3 fun y H4 => tv σ2 H4 fun z H5 => ∃ kvs k, y = kV k ∧ H5 D = some (.dK kvs) ∧ kvs.length < sizeLine ∧ Nx (upd H5 D (.dK (putK kvs k z))) else Nx H3) := by
  refine ⟨fun i m H => m = n - i ∧ i ≤ n ∧ Pv i H, ⟨n, by simp, Nat.zero_le _, h0⟩, ?_⟩
  rintro i m H ⟨rfl, hi, p⟩
  have q := hG i H hi p
  by_cases hlt : i < n
  · exact .inr ⟨w.goes i H hlt q, Pv (i + 1), fun H' p' => ⟨n - (i + 1), by omega, rfl, hlt, p'⟩, fun x H' y => hs i x H H' hlt p (w.yields i H x H' hlt q y)⟩
  · have e : i = n := by omega
    subst e
    exact .inl ⟨w.stops H q, hd H p⟩
theorem putK_new {κ : Type} [DecidableEq κ] {kvs : List (κ × V)} {k : κ} {v : V} (h : ∀ kv ∈ kvs, kv.1 ≠ k) : putK kvs k v = kvs ++ [(k, v)] := by
  unfold putK
  have e : (kvs.any fun kv => decide (kv.1 = k)) = false := List.any_eq_false.mpr fun kv hk z => h kv hk (of_decide_eq_true z)
  rw [e]
  rfl
theorem names_snoc {ns : List Str} (nd : ns.Nodup) {i : Nat} {n : Str} (h : ns[i]? = some n) : putK (namesD (ns.take i)) (Sum.inr n) (.bl true) = namesD (ns.take (i + 1)) := by
  rw [putK_new (fun kv hk z => ?_)]
  · rw [List.take_add_one, h]
    unfold namesD
    rw [List.map_append]
    rfl
  · unfold namesD at hk
    obtain ⟨m, hm, rfl⟩ := List.mem_map.mp hk
    have e : m = n := Sum.inr.inj z
    subst e
    obtain ⟨j, hj⟩ := List.getElem?_of_mem hm
    have hji : j < i := by
      rcases Nat.lt_or_ge j i with q | q
      · exact q
      · rw [List.getElem?_take, if_neg (by omega)] at hj
        cases hj
    rw [List.getElem?_take_of_lt hji] at hj
    have := (List.getElem?_inj (by
      rcases Nat.lt_or_ge j ns.length with q | q
      · exact q
      · rw [List.getElem?_eq_none q] at hj
        cases hj) nd).mp (hj.trans h.symm)
    omega
/-- a dict that is locked is a dict -/
theorem TyX.lock {K : PySem.W.Frag} {H : Hp} {d : Addr} {od : Obj} {kvs : List (Key × V)} (hd : H d = some (.dK kvs)) {v : V} {t : Value} (h : TyX K H v t) : TyX K (upd H d (.frz od (.dK kvs))) v t := by
  have no : ∀ {b : Addr} {u : HO}, H b = some u → b ≠ d → upd H d (.frz od (.dK kvs)) b = some u := fun {b u} e n => by
    rw [upd_ne n]
    exact e
  have ne : ∀ {b : Addr} {u : HO}, H b = some u → (∀ q, u ≠ .dK q) → b ≠ d := fun {b u} e n z => by
    rw [z, hd] at e
    exact n kvs (Option.some.inj e).symm
  cases h with
  | base b =>
    cases b with
    | non => exact .base .non
    | bl y => exact .base (.bl y)
    | int i => exact .base (.int i)
    | str y => exact .base (.str y)
    | flt y => exact .base (.flt y)
    | lst e => exact .base (.lst (no e (ne e (fun q z => by cases z))))
    | frz e => exact .base (.frz (no e (ne e (fun q z => by cases z))))
    | tup e => exact .base (.tup (no e (ne e (fun q z => by cases z))))
    | @dK a kv e =>
      by_cases z : a = d
      · subst z
        exact .fDict upd_same
      · exact .base (.dK (no e z))
    | dT e => exact .base (.dT (no e (ne e (fun q z => by cases z))))
    | ins e cl ha hn htk hm => exact .base (.ins (no e (ne e (fun q z => by cases z))) cl ha hn htk hm)
  | byt y => exact .byt y
  | set e => exact .set (no e (ne e (fun q z => by cases z)))
  | kList e c => exact .kList e c
  | kTuple e c => exact .kTuple e c
  | kDict e c => exact .kDict e c
  | fTuple e => exact .fTuple (no e (ne e (fun q z => by cases z)))
  | fDict e => exact .fDict (no e (ne e (fun q z => by cases z)))
theorem RowB.lock {K : PySem.W.Frag} {H : Hp} {d : Addr} {od : Obj} {kvs nd : List (Key × V)} {p : Str} {v : V} {b : Bool} (hd : H d = some (.dK kvs)) (h : RowB K H nd p v b) : RowB K (upd H d (.frz od (.dK kvs))) nd p v b := by
  cases h with
  | no h =>
    obtain ⟨t, h1, h2⟩ := h
    exact .no ⟨t, TyX.lock hd h1, h2⟩
  | @seq a xs h hx hn =>
    refine .seq (h.imp (fun e => ?_) (fun e => ?_)) (fun v hv => (hx v hv).imp id fun ⟨t, h1, h2⟩ => ⟨t, TyX.lock hd h1, h2⟩) hn
    · rw [upd_ne (fun z => by rw [z, hd] at e; cases e)]
      exact e
    · rw [upd_ne (fun z => by rw [z, hd] at e; cases e)]
      exact e
theorem Tabs.put {T : List (Addr × Str)} {H : Hp} {d : Addr} {u u' : HO} (t : Tabs T H) (hd : H d = some u) (n1 : ∀ ps, u ≠ .tbl ps) (n2 : ∀ φ, u ≠ .ext φ) : Tabs T (upd H d u') := by
  intro p hp
  obtain ⟨ps, h1, h2, h3⟩ := t p hp
  refine ⟨ps, ?_, h2, fun pos cv hc => ?_⟩
  · rw [upd_ne (fun z => by rw [z, hd] at h1; exact n1 ps (Option.some.inj h1))]
    exact h1
  · obtain ⟨c0, e1, e2⟩ := h3 pos cv hc
    refine ⟨c0, e1, ?_⟩
    rw [upd_ne (fun z => by rw [z, hd] at e2; exact n2 _ (Option.some.inj e2))]
    exact e2
theorem Up.unlock {T : List (Addr × Str)} {H H' : Hp} {d : Addr} {od : Obj} {kvs : List (Key × V)} (hd : H d = some (.dK kvs)) (u : Up T (upd H d (.frz od (.dK kvs))) H') : Up T H (upd H' d (.dK kvs)) := by
  have hd' := u.e d _ upd_same ntb_frz
  refine ⟨fun b o e n => ?_, Tabs.put u.t hd' ntb_frz (fun φ z => by cases z)⟩
  by_cases z : b = d
  · subst z
    rw [hd] at e
    rw [upd_same]
    exact e
  · rw [upd_ne z]
    exact u.e b o (by rw [upd_ne z]; exact e) n
theorem kit_dictT {K : PySem.W.Frag} : PySem.W.kitOne K (.type "dict") (.type "dict") = some true := kit_ty (by decide +kernel)
theorem ok_rows {T : List (Addr × Str)} {f fR : Addr} {fd fdR : FuncData} (F : Fun K "are_rows" "are_rows" sRows f fd) (GR : FnOk P w K mg base CX0 4 fR fdR ["thing", "person", "names"] (spRow K T)) (kR : PySem.W.keepIn K (.ref fR) = true) (bR : Binds K fdR ["thing", "person", "names"] []) (gR : mg "is_row" = some (.ref fR))
    (gI : mg "isinstance" = none) (gD : mg "dict" = none) (gA : mg "all" = none) : FnOk P w K mg base CX0 5 f fd ["thing", "people"] (spRows K T) := by
  refine F.ok scRows (fun vs H Q E h => ?_) (fun cdv A outer s H vs Q E hr h => ?_)
  · obtain ⟨v, ap, ns, rfl, _⟩ := h
    rfl
  · obtain ⟨v, ap, ns, rfl, hT, hap, nd, hn, h⟩ := h
    have hu := hu_of hr
    have hnd := scRows.nd
    refine ⟨_, pss_cons (ps_if (pt_not (pt_val (pe_callB (Mo.callR_or call_isi Mo.call_isiO) (by rfl) gI boot_isinstance (pa_cons (pv 0) (pa_cons (pe_bltn (v := .ty "dict") rfl gD (by decide +kernel) rfl) pa_nil))))) (pss_one (ps_ret pe_bl)) pss_nil)
      (pss_cons (ps_set (i := 2) hnd rfl (Or.inr rfl) (pe_dc (own := [("name", 3)]) (g := gName 3) (tt := tYes) (tk := tVar 3) (tv := tC (.bl true)) rfl hnd (pi_or (pi_list (pv 1)) (pi_tup (pv 1))) (blkOk_by (N := ["thing", "people", "names", "name", "person", "row"]) (sc := defScope sRows) (by decide +kernel))
        (fun _ _ _ _ _ => pg_name (i := 3) hnd rfl (Or.inl rfl)) (fun _ _ _ _ _ => pts_nil) (fun _ _ _ _ _ => by exact pv 3) (fun _ _ _ _ _ => by exact pe_bl)))
      (pss_one (ps_ret (pe_callB (cr_all rfl) (by rfl) gA (by decide +kernel) (pa_cons (pe_or2 (pe_lock (pe_lc (own := [("person", 4), ("row", 5)]) (g := gTup K 2 (gCons (gName 4) (gCons (gName 5) gNil))) (tt := tYes)
          (te := tAndV (tDIn (tVar 4) (tVar 2)) (tCall (spRow K T) [] E0 (tCons (tVar 5) (tCons (tVar 4) (tCons (tVar 2) tNil))))) rfl hnd (pi_items (pv 0)) (blkOk_by (N := ["thing", "people", "names", "name", "person", "row"]) (sc := defScope sRows) (by decide +kernel))
        (fun _ _ _ _ _ => pg_tup rfl (pgs_cons (pg_name (i := 4) hnd rfl (Or.inl rfl)) (pgs_cons (pg_name (i := 5) hnd rfl (Or.inl rfl)) pgs_nil))) (fun _ _ _ _ _ => pts_nil)
        (fun _ _ _ _ _ => by exact pe_and (pe_cmp (pc_din (hu_of hr) (pv 4) (pv 2)) rfl) (pe_one (pe_call GR hr rfl gR kR bR .nil pass0 (pa_cons (pv 5) (pa_cons (pv 4) (pa_cons (pv 2) pa_nil))))))))
        (pe_lc (own := [("person", 4), ("row", 5)]) (g := gTup K 2 (gCons (gName 4) (gCons (gName 5) gNil))) (tt := tYes)
          (te := tAndV (tOp Mo.rInOdd (tVar 4) (tVar 2)) (tCall (spRow K T) [] E0 (tCons (tVar 5) (tCons (tVar 4) (tCons (tVar 2) tNil))))) rfl hnd (Mo.pi_itemsO (pv 0)) (blkOk_by (N := ["thing", "people", "names", "name", "person", "row"]) (sc := defScope sRows) (by decide +kernel))
        (fun _ _ _ _ _ => pg_tup rfl (pgs_cons (pg_name (i := 4) hnd rfl (Or.inl rfl)) (pgs_cons (pg_name (i := 5) hnd rfl (Or.inl rfl)) pgs_nil))) (fun _ _ _ _ _ => pts_nil)
        (fun _ _ _ _ _ => by exact pe_and (pe_cmpR (Mo.op_inOdd (hu_of hr)) (pv 4) (pv 2) (by with_unfolding_all rfl)) (pe_one (pe_call GR hr rfl gR kR bR .nil pass0 (pa_cons (pv 5) (pa_cons (pv 4) (pa_cons (pv 2) pa_nil)))))))) pa_nil))))), ?_⟩
    rcases h with ⟨⟨t, ty, e⟩, k⟩ | ⟨d, kvs, bs, rfl, hd, hp, hk, k⟩ | ⟨⟨d, o, ky, vx, rfl, hd, hky⟩, k⟩
    · exact ⟨_, rfl, .inl ⟨_, _, _, _, false, rfl, .ty _, ty, e, false, rfl, iteT (k H (.refl hT))⟩⟩
    rotate_left
    · refine ⟨_, rfl, .inr ⟨_, _, _, _, _, _, true, rfl, .ty _, hd, kit_dictT, true, rfl, iteF ?_⟩⟩
      have wk : ∃ (J : It) (GG : Hp → Prop), Walk J (ns.map V.str).length GG (YAt (ns.map V.str)) ∧ (∀ H', Same H H' → GG H') ∧ ((H ap = some (.lst (ns.map V.str)) ∧ J = Itl K ap) ∨ (H ap = some (.tup (ns.map V.str)) ∧ J = Itt K ap)) := by
        rcases hap with h | h
        · exact ⟨Itl K ap, fun H => SqL K H ap (ns.map V.str), walk_list, fun H' s => s.seq (SqL.of h), .inl ⟨h, rfl⟩⟩
        · exact ⟨Itt K ap, fun H => SqT K H ap (ns.map V.str), walk_tup, fun H' s => seq_same s (SqT.of h), .inr ⟨h, rfl⟩⟩
      obtain ⟨J, GG, wJ, hGG, hR⟩ := wk
      rcases hR with ⟨h1, rfl⟩ | ⟨h1, rfl⟩
      all_goals
        first | refine .inl ⟨_, rfl, ap, rfl, ⟨_, SqL.of h1⟩, fun D hD => ?_⟩ | refine .inr ⟨_, rfl, ap, rfl, ⟨_, SqT.of h1⟩, fun D hD => ?_⟩
        refine dc_it wJ (fun i H' => Same H H' ∧ H' D = some (.dK (namesD (ns.take i)))) ⟨sameUp hD, upd_same⟩ (fun i H' _ ⟨s, _⟩ => hGG H' s) ?_ ?_
        · rintro i x H1 H2 hi ⟨s1, hD1⟩ ⟨rfl, hx⟩
          rw [List.getElem?_map] at hx
          obtain ⟨n, hn2, rfl⟩ := Option.map_eq_some_iff.mp hx
          refine ⟨rfl, _, rfl, _, Sum.inr n, rfl, hD1, ?_, fun b o e => ?_, ?_⟩
          · unfold namesD
            rw [List.length_map, List.length_take]
            exact Nat.lt_of_le_of_lt (Nat.min_le_right _ _) (Nat.lt_of_le_of_lt hn (by decide))
          · rw [upd_ne (ne_of_none e hD)]
            exact s1 _ _ e
          · rw [upd_same, names_snoc nd hn2]
        · rintro H1 ⟨s1, hD1⟩
          have hd1 := s1 _ _ hd
          refine .inr ⟨_, rfl, d, o, ky, vx, rfl, hd1, fun L hL => ?_⟩
          refine lc_it Mo.walk_itemsO (fun i H' => Same H1 H' ∧ H' L = some (.lst (if i = 0 then [] else [V.bl false]))) ⟨sameUp hL, upd_same⟩ (fun i H' _ ⟨s, _⟩ => s _ _ hd1) ?_ ?_
          · rintro i x H2 H3 hi ⟨s2, hl2⟩ ⟨T0, rfl, nT0, rfl⟩
            have i0 : i = 0 := by omega
            subst i0
            have sT := sameUp (o := .tup [ky, vx]) nT0
            have s3 := s2.trans sT
            refine ⟨T0, _, rfl, SqT.of upd_same, rfl, _, _, rfl, _, _, rfl, rfl, rfl, ?_⟩
            refine ⟨_, rfl, _, rfl, D, _, rfl, s3 _ _ hD1, hky.imp id (fun ⟨t, ks, e1, e2⟩ => ⟨t, ks, e1, s3 _ _ (s1 _ _ e2)⟩), false, rfl, iteF ?_⟩
            refine ⟨_, sT _ _ hl2, by decide, fun b o e => ?_, ?_⟩
            · rw [upd_ne (ne_of_none e hL)]
              exact s3 _ _ e
            · rw [upd_same]
              rfl
          · rintro H2 ⟨s2, hl2⟩
            exact ⟨L, [false], rfl, SqL.of hl2, k _ (.same hT (s1.trans s2))⟩
    · refine ⟨_, rfl, .inl ⟨_, _, _, _, true, rfl, .ty _, .base (.dK hd), kit_dictT, true, rfl, iteF ?_⟩⟩
      have wk : ∃ (J : It) (GG : Hp → Prop), Walk J (ns.map V.str).length GG (YAt (ns.map V.str)) ∧ (∀ H', Same H H' → GG H') ∧ ((H ap = some (.lst (ns.map V.str)) ∧ J = Itl K ap) ∨ (H ap = some (.tup (ns.map V.str)) ∧ J = Itt K ap)) := by
        rcases hap with h | h
        · exact ⟨Itl K ap, fun H => SqL K H ap (ns.map V.str), walk_list, fun H' s => s.seq (SqL.of h), .inl ⟨h, rfl⟩⟩
        · exact ⟨Itt K ap, fun H => SqT K H ap (ns.map V.str), walk_tup, fun H' s => seq_same s (SqT.of h), .inr ⟨h, rfl⟩⟩
      obtain ⟨J, GG, wJ, hGG, hR⟩ := wk
      rcases hR with ⟨h1, rfl⟩ | ⟨h1, rfl⟩
      all_goals
        first | refine .inl ⟨_, rfl, ap, rfl, ⟨_, SqL.of h1⟩, fun D hD => ?_⟩ | refine .inr ⟨_, rfl, ap, rfl, ⟨_, SqT.of h1⟩, fun D hD => ?_⟩
        refine dc_it wJ (fun i H' => Same H H' ∧ H' D = some (.dK (namesD (ns.take i)))) ⟨sameUp hD, upd_same⟩ (fun i H' _ ⟨s, _⟩ => hGG H' s) ?_ ?_
        · rintro i x H1 H2 hi ⟨s1, hD1⟩ ⟨rfl, hx⟩
          rw [List.getElem?_map] at hx
          obtain ⟨n, hn2, rfl⟩ := Option.map_eq_some_iff.mp hx
          refine ⟨rfl, _, rfl, _, Sum.inr n, rfl, hD1, ?_, fun b o e => ?_, ?_⟩
          · unfold namesD
            rw [List.length_map, List.length_take]
            exact Nat.lt_of_le_of_lt (Nat.min_le_right _ _) (Nat.lt_of_le_of_lt hn (by decide))
          · rw [upd_ne (ne_of_none e hD)]
            exact s1 _ _ e
          · rw [upd_same, names_snoc nd hn2]
        · rintro H1 ⟨s1, hD1⟩
          rw [List.length_map, List.take_length] at hD1
          have hd1 := s1 _ _ hd
          refine .inl ⟨d, _, hd1, trivial, fun od => ?_⟩
          have u1 : Up T H H1 := .same hT s1
          have Dd : D ≠ d := fun z => by
            rw [z] at hD
            rw [hD] at hd
            cases hd
          have tL : Tabs T (upd H1 d (.frz od (.dK kvs))) := Tabs.put u1.t hd1 ntb_dK (fun φ z => by cases z)
          have hDL : upd H1 d (.frz od (.dK kvs)) D = some (.dK (namesD ns)) := by
            rw [upd_ne Dd]
            exact hD1
          refine ⟨_, rfl, d, od, kvs, rfl, upd_same, fun L hL => ?_⟩
          refine lc_it walk_items (fun i H' => Up T (upd H1 d (.frz od (.dK kvs))) H' ∧ H' L = some (.lst ((bs.take i).map V.bl))) ⟨.same tL (sameUp hL), upd_same⟩ (fun i H' _ ⟨u, _⟩ => u.e _ _ upd_same ntb_frz) ?_ ?_
          · rintro i x H2 H3 hi ⟨u2, hl2⟩ ⟨T0, x1, y1, rfl, nT0, rfl, e1, e2⟩
            have hki : ∃ kv, kvs[i]? = some kv := ⟨kvs[i], List.getElem?_eq_getElem hi⟩
            obtain ⟨⟨ky, vy⟩, hkv⟩ := hki
            replace e1 : (kvs[i]?.map fun kv => kV kv.1) = some x1 := e1
            replace e2 : kvs[i]?.map Prod.snd = some y1 := e2
            rw [hkv] at e1 e2
            have e1' : kV ky = x1 := Option.some.inj e1
            have e2' : vy = y1 := Option.some.inj e2
            subst e1' e2'
            have u3 := u2.andS (sameUp (o := .tup [kV ky, vy]) nT0)
            have hl3 : upd H2 T0 (.tup [kV ky, vy]) L = some (.lst ((bs.take i).map V.bl)) := by
              rw [upd_ne (ne_of_none hl2 nT0)]
              exact hl2
            obtain ⟨b, hb, ent⟩ := paired_get hp hkv
            have hD3 := u3.e _ _ hDL ntb_dK
            have stp : ∀ H4, Up T (upd H2 T0 (.tup [kV ky, vy])) H4 → H4 L = some (.lst ((bs.take i).map V.bl)) ∧ ((bs.take i).map V.bl).length < sizeLine ∧ Up T (upd H1 d (.frz od (.dK kvs))) (upd H4 L (.lst ((bs.take i).map V.bl ++ [V.bl b]))) ∧
                upd H4 L (.lst ((bs.take i).map V.bl ++ [V.bl b])) L = some (.lst ((bs.take (i + 1)).map V.bl)) := by
              intro H4 u4
              have hl4 := u4.e _ _ hl3 ntb_lst
              have u5 := u3.trans u4
              refine ⟨hl4, ?_, ⟨fun b' o e n => ?_, Tabs.put u5.t hl4 ntb_lst (fun φ z => by cases z)⟩, ?_⟩
              · rw [List.length_map, List.length_take]
                have hl := Paired.length hp
                exact Nat.lt_of_le_of_lt (Nat.min_le_right _ _) (Nat.lt_of_le_of_lt (by omega : bs.length ≤ 1000) (by decide))
              · rw [upd_ne (ne_of_none e hL)]
                exact u5.e _ _ e n
              · rw [upd_same, List.take_add_one, hb, List.map_append]
                rfl
            refine ⟨T0, _, rfl, SqT.of upd_same, rfl, _, _, rfl, _, _, rfl, rfl, rfl, ?_⟩
            cases ent with
            | @row p _ _ hin r =>
              refine ⟨_, rfl, _, rfl, D, _, rfl, DGet.k (k := Sum.inr p) hD3, true, ?_, ?_⟩
              · have hin' : (valV (namesD ns) (Sum.inr p)).isSome = true := hin
                rw [hin']
              refine iteT ⟨_, rfl, _, rfl, _, rfl, vy, p, D, namesD ns, b, rfl, u3.t, hD3, (RowB.lock hd1 (r.ext u1.e)).ext u3.e, fun H4 u4 => ?_⟩
              obtain ⟨z1, z2, z3⟩ := stp H4 u4
              exact ⟨_, z1, z2, z3⟩
            | out hno =>
              refine ⟨_, rfl, _, rfl, D, _, rfl, DGet.k (k := ky) hD3, false, ?_, ?_⟩
              · rw [hno]
                rfl
              obtain ⟨z1, z2, z3⟩ := stp _ (.refl u3.t)
              exact iteF ⟨_, z1, z2, z3⟩
          · rintro H2 ⟨u2, hl2⟩
            have hlen := Paired.length hp
            rw [List.take_of_length_le (by omega)] at hl2
            have Ld : L ≠ d := fun z => by
              rw [z, upd_same] at hL
              cases hL
            refine ⟨u2.e _ _ upd_same ntb_frz, L, bs, rfl, SqL.of ?_, k _ (u1.trans (.unlock hd1 u2))⟩
            rw [upd_ne Ld]
            exact hl2
end
end Mn
/-! sorted of a tuple of texts -/
namespace Mn
open PySem PySem.Spec PyProof.Rows L2 Md Me Ml LamX
section
variable {prog : Program} {w : World} {A : Around} {E : Value → Shared → Prop} {s : Shared}
theorem collect_tuple {l : Addr} {vs : List Value} {Q : List Value → Shared → Prop} (hl : s.heap.IsTuple l vs.toArray)
    (h : Q vs { s with heap := (s.heap.push (seqObj "list" #[] 0)).update s.heap.objs.size (Obj.mapSeq (· ++ vs.toArray)) }) (hsz : vs.length ≤ sizeLine := by size_fits) :
    wpAny (model prog w) A (collect (.ref l)) Q E s := by
  obtain ⟨o, ho, hc, n, hd⟩ := id hl
  unfold collect
  refine wpAny_bind (wpAny_runValue (codeAny_builtin entry_proto_collect' ?_))
  show wpAny _ _ (do again (.builtin "list.__iadd__" ⟨[← newList [], .ref l], []⟩)) _ _ s
  refine wpAny_bind (wpAny_newList (wpAny_pure ⟨Code.quiet_builtin _ (by decide +kernel), codeAny_builtin entry_list_iadd' ?_⟩))
  show wpAny _ _ (Builtin.List.listExtendWith (.ref s.heap.objs.size) (.ref l) (.ref s.heap.objs.size)) _ _ { s with heap := s.heap.push (seqObj "list" #[] 0) }
  unfold Builtin.List.listExtendWith
  have ho' : (s.heap.push (seqObj "list" #[] 0)).get? l = some o := Heap.get?_push_of_some _ ho
  refine wpAny_bind (wpAny_typeOf (T := "tuple") ⟨o, ho', hc⟩ ?_)
  have ht : (Value.type "tuple" == Value.type "tuple") = true := by rfl
  rw [if_pos (by rw [ht]; simp)]
  refine wpAny_bind (listItems_at ho' hd ?_)
  refine wpAny_bind (listItems_at (xs := #[]) (n := 0) (Heap.get?_push_size _ rfl) rfl ?_)
  rw [if_neg (by simp)]
  refine wpAny_bind (listUpdate_at (xs := #[]) (n := 0) (Heap.get?_push_size _ rfl) rfl ?_ (Nat.zero_le _) (by show (#[] ++ vs.toArray).size ≤ sizeLine + 1; simp only [Array.size_append, List.size_toArray, List.length_nil]; omega))
  refine wpAny_pure ?_
  show wpAny (model prog w) A (do
      let o ← load s.heap.objs.size
      match o.data with
      | .seq xs _ => pure xs.toList
      | _ => unsupported "internal:collect") Q E { s with heap := (s.heap.push (seqObj "list" #[] 0)).update s.heap.objs.size (Obj.mapSeq (· ++ vs.toArray)) }
  refine wpAny_bind (wpAny_load (get?_update_seq (Heap.get?_push_size _ rfl) _) ?_)
  show wpAny _ _ (pure ((#[] : Array Value) ++ vs.toArray).toList) Q E _
  rw [show ((#[] : Array Value) ++ vs.toArray).toList = vs by simp]
  exact wpAny_pure h
theorem sortedKT {κ : KeyKind} (hO : κ.OneLt) {l : Addr} {vs : List Value} {Q : Value → Shared → Prop} (hl : s.heap.IsTuple l vs.toArray) (h0 : KeysOf κ (pairsOf vs)) (hkk : ∀ v₁ v₂ rest, vs = v₁ :: v₂ :: rest → keyKind' (v₁ :: v₂ :: rest).toArray = pure oneType') (h64 : vs.length < 64)
    (h : ∀ st' : SortSt, (arrOf st').Perm (pairsOf vs) → SortedToK κ (arrOf st') (pairsOf vs).size → Q (.ref (s.heap.objs.size + 1)) { s with heap := sortedAll s.heap vs ((arrOf st').map (·.2)) }) :
    wpAny (model prog w) A (call (.builtin "sorted") [.ref l]) Q E s := by
  refine Calls.call_function_entry kind_sorted plain_sorted entry_sorted (args_sorted1 _) ?_
  unfold Builtin.«sorted»
  refine wpAny_bind (m := checkCount "sorted" 1 1 _) (wpAny_pure ?_)
  refine wpAny_bind (collect_tuple hl ?_)
  refine wpAny_bind (wpAny_newList ?_)
  have hsz : ((s.heap.push (seqObj "list" #[] 0)).update s.heap.objs.size (Obj.mapSeq (· ++ vs.toArray))).objs.size = s.heap.objs.size + 1 := by
    rw [Heap.size_update, size_push']
  have hoL : (((s.heap.push (seqObj "list" #[] 0)).update s.heap.objs.size (Obj.mapSeq (· ++ vs.toArray))).push (seqObj "list" vs.toArray 0)).get? (s.heap.objs.size + 1) = some (seqObj "list" vs.toArray 0) := by
    rw [← hsz]
    exact Heap.get?_push_size _ rfl
  show wpAny _ _ _ _ _ { s with heap := ((s.heap.push (seqObj "list" #[] 0)).update s.heap.objs.size (Obj.mapSeq (· ++ vs.toArray))).push (seqObj "list" vs.toArray 0) }
  rw [hsz]
  refine wpAny_bind (wpAny_holding (wpAny_call_entry slot_list_sort ⟨_, hoL, rfl⟩ entry_list_sort (list_sort_treeK hO hoL h0 hkk h64 fun st' a1 a2 => ⟨_, rfl, ?_⟩) (args_list_sort _)))
  exact wpAny_pure ⟨_, rfl, h st' a1 a2⟩
theorem sorted_strsT {l : Addr} {vs : List Value} {ss : List Str} {Q : Value → Shared → Prop} (hl : s.heap.IsTuple l vs.toArray) (hS : StrsAre vs ss) (h64 : vs.length < 64)
    (h : ∀ (out : Array Value) (ss' : List Str), StrsAre out.toList ss' → ss'.Perm ss → sortedS ss' = true → Q (.ref (s.heap.objs.size + 1)) { s with heap := sortedAll s.heap vs out }) :
    wpAny (model prog w) A (call (.builtin "sorted") [.ref l]) Q E s := by
  refine sortedKT strKind_oneLt hl hS.keysOf (fun v₁ v₂ rest e => keyKind_strs (by rw [← e]; exact hS)) h64 fun st' hp hs => ?_
  obtain ⟨ss', h1, h2, h3⟩ := sorted_out_str hS hp hs
  exact h _ ss' h1 h2 h3
end
def rSortedA (K : PySem.W.Frag) : List V → Hp → VK → Prop := fun vs H Q => ∃ (a : Addr) (xs : List Str), vs = [V.ref a] ∧ (SqL K H a (xs.map V.str) ∨ SqT K H a (xs.map V.str)) ∧ xs.length < 64 ∧
  ∀ (ys : List Str) (p : Addr), ys.Perm xs → sortedS ys = true → H p = none → Q (.ref p) (upd H p (.lst (ys.map V.str)))
theorem cr_sortedA {X : Cx} : CallR X (.builtin "sorted") (rSortedA X.K) := by
  intro pins s σ H vs us Q I r h
  obtain ⟨a, xs, rfl, hs, h64, q⟩ := h
  rcases hs with hs | hs
  · exact cr_sortedS pins s σ H _ us Q I r ⟨a, xs, rfl, hs, h64, q⟩
  · obtain ⟨its, rv, hl, _⟩ := I.tuple hs
    rw [Vals.ref1 r]
    have hlen0 := rv.length
    rw [List.length_map] at hlen0
    refine sorted_strsT hl rv.strs (by rw [← hlen0]; exact h64) fun out ys h1 h2 h3 => ?_
    obtain ⟨ep, he'⟩ := PyProof.Rows.sortedAll_at s.heap its out
    have hlen : (ys.map V.str).length ≤ sizeLine := by
      rw [List.length_map, h2.length_eq]
      exact small64 h64
    exact ⟨.ref _, upd H (s.heap.objs.size + 1) (.lst (ys.map V.str)), I.laid (t' := s.toks) (fun _ _ => PyProof.Rows.sortedAll_old) (Nat.le_succ _) ⟨hlen, out.toList, ep, vals_of_strs h1, he'⟩, rfl, q ys _ h2 h3 (I.hok.fresh (Nat.le_succ _))⟩
end Mn
/-! Market -/
namespace Mn
open PySem PySem.Spec PyProof.Rows L2 Md Me Ml LamX
/-- an own error of one field -/
structure ExX (K : PySem.W.Frag) (mg : Str → Option Value) (x f : Str) : Prop where
  g : mg x = some (.ref (He.ga K x))
  ox : OexC K (He.ga K x)
  iC : PySem.W.findIn K (.ref (He.ga K x)) "__init__" = some (some (.ref (He.ma K (He.ga K x) "__init__")))
  tI : PySem.W.typeIn K (.ref (He.ma K (He.ga K x) "__init__")) = some (.type "function")
  no : PySem.W.findIn K (.ref (He.ga K x)) f = some none
  xf : XfC K (He.ga K x)
def spI1 (K : PySem.W.Frag) (f : Str) : Sp := fun vs H Q _ => ∃ (a C : Addr) (v : V), vs = [.ref a, v] ∧ OexC K C ∧ PySem.W.findIn K (.ref C) f = some none ∧ H a = some (exo a C none) ∧
  ∀ dx, H dx = none → dx ≠ a → Q .non (upd (upd H dx (exd dx [(f, v)])) a (exo a C (some dx)))
section
variable {P : Program} {w : World} {K : PySem.W.Frag} {mg : Str → Option Value} {base : Heap}
theorem okI1 {fI : Addr} {fd : FuncData} {st : Stmt} {q f : Str} {p1 p2 p3 p4 : Pos} (F : Fun K "__init__" q st fI fd) (S : FnScope ["self", f] ["self", f] (defScope st))
    (hb : defBody st = [.Assign [.Attribute (.Name "self" p1) f p2] (.Name f p3) p4]) (h0 : (defScope st).names.lookup ("self" : Str) = some .local) (h1 : (defScope st).names.lookup f = some .local)
    (hd : (f == ("__debug__" : Str)) = false) (hcd : (f == ("__classdict__" : Str)) = false) :
    FnOk P w K mg base CX0 1 fI fd ["self", f] (spI1 K f) := by
  refine F.ok S (fun vs H Q E h => ?_) (fun cdv A outer s H vs Q E hr h => ?_)
  · obtain ⟨a, C, v, rfl, _⟩ := h
    rfl
  · obtain ⟨a, C, v, rfl, ox, no, ha, k⟩ := h
    rw [hb]
    refine ⟨_, pss_one (ps_ost (pe_var (i := 0) rfl (.inl h0) (by decide) (by decide)) (pe_var (i := 1) rfl (.inl h1) hd hcd) (by rfl)), ?_⟩
    exact ⟨_, rfl, _, rfl, a, C, rfl, ox, no, .inl ⟨ha, fun dx n ne => k dx n ne⟩⟩
/-- raise X(v): the heap behind it -/
theorem raised1 {H : Hp} {C : Addr} {f : Str} {v : V} {Q : XK} (ox : OexC K C) (no : PySem.W.findIn K (.ref C) f = some none) (k : ∀ (H' : Hp) (d : Addr), Same H H' → H d = none → H' d = some (.xd [(f, v)]) → Q (.ref C) (some d) H') :
    ∀ a, H a = none → spI1 K f (.ref a :: ([v] ++ [])) (upd H a (exo a C none)) (fun v H2 => v = .non ∧ ∃ (d : Addr) (fs : List (Str × V)), H2 a = some (exo a C (some d)) ∧ H2 d = some (exd d fs) ∧ H d = none ∧ Q (.ref C) (some d) (upd (del H2 a) d (.xd fs))) (fun _ _ _ => False) := by
  intro a na
  refine ⟨a, C, v, rfl, ox, no, upd_same, fun dx nd ne => ⟨rfl, dx, [(f, v)], upd_same, ?_, ?_, ?_⟩⟩
  · rw [upd_ne ne, upd_same]
  · rw [upd_ne ne] at nd
    exact nd
  · have nd' : H dx = none := by
      rw [upd_ne ne] at nd
      exact nd
    refine k _ dx (fun b o e => ?_) nd' upd_same
    have h1 : b ≠ a := ne_of_none e na
    have h2 : b ≠ dx := ne_of_none e nd'
    rw [upd_ne h2, del_ne h1, upd_ne h1, upd_ne h2, upd_ne h1]
    exact e
end
/-! ### the market -/
abbrev sMk (j : Nat) : Stmt := inClass (top 25) j
/-- the row that a dict of wishes has for a name -/
def RowIs (H : Hp) (kvs : List (Key × V)) (n : Str) (r : List Str) : Prop :=
  (∃ a, valV kvs (Sum.inr n) = some (.ref a) ∧ Seq H a (r.map V.str)) ∨ (valV kvs (Sum.inr n) = none ∧ r = [])
/-- rows by names, in the heap -/
def RowsAt (H : Hp) (rd : Addr) (ys : List Str) (rw_ : Str → List Str) : Prop :=
  ∃ as : List Addr, as.length = ys.length ∧ H rd = some (.dK ((ys.zip as).map fun p => (Sum.inr p.1, V.ref p.2))) ∧ ∀ (i : Nat) (n : Str) (a : Addr), ys[i]? = some n → as[i]? = some a → H a = some (.lst ((rw_ n).map V.str))
/-- rows by names, their lists new -/
def RowsAtN (H0 H : Hp) (rd : Addr) (ys : List Str) (rw_ : Str → List Str) : Prop :=
  ∃ as : List Addr, as.length = ys.length ∧ H rd = some (.dK ((ys.zip as).map fun p => (Sum.inr p.1, V.ref p.2))) ∧ (∀ (i : Nat) (n : Str) (a : Addr), ys[i]? = some n → as[i]? = some a → H a = some (.lst ((rw_ n).map V.str))) ∧ ∀ a ∈ as, H0 a = none
structure MkAt (H : Hp) (C m : Addr) (ns ys : List Str) (rw_ : Str → List Str) : Prop where
  ex : ∃ dx pl rd, H m = some (.ins C dx [("_people", .ref pl), ("_rows", .ref rd)]) ∧ H pl = some (.lst (ns.map V.str)) ∧ RowsAt H rd ys rw_
  pm : ys.Perm ns
  so : sortedS ys = true
/-- nothing but a table stands there -/
def Nw (H : Hp) (c : Addr) : Prop := ∀ o, H c = some o → ∃ ps, o = .tbl ps
theorem Nw.of {H H' : Hp} {c : Addr} (s : ExtN H H') (h : H' c = none) : Nw H c := fun o e => by
  by_cases z : ∃ ps, o = .tbl ps
  · exact z
  · have := s c o e fun ps q => z ⟨ps, q⟩
    rw [h] at this
    cases this
/-- the market at x is made of what is new -/
def MkKeep (H H' : Hp) (x C : Addr) (ns ys : List Str) (rw_ : Str → List Str) : Prop := ∀ H'', (∀ c o, (Nw H c ∨ c = x) → (∀ ps, o ≠ .tbl ps) → H' c = some o → H'' c = some o) → MkAt H'' C x ns ys rw_
theorem scInit : FnScope ["self", "people", "wishes", "wrong", "name"] ["self", "people", "wishes"] (defScope (sMk 0)) := ⟨rfl, rfl, rfl, by decide +kernel, rfl, by decide +kernel, by decide +kernel⟩
/-- all but the object at x and the tables stays -/
structure UpX (T : List (Addr × Str)) (x : Addr) (H H' : Hp) : Prop where
  e : ∀ b o, b ≠ x → H b = some o → (∀ ps, o ≠ .tbl ps) → H' b = some o
  t : Tabs T H'
def namesV (ns : List Str) : List V := ns.map V.str
/-- people that are none: the first wrong index -/
def PplBad (K : PySem.W.Frag) (H : Hp) (v : V) (i : Nat) : Prop := (NoSeq K H v ∧ i = 0) ∨ ∃ (a : Addr) (xs : List V), v = .ref a ∧ Seq H a xs ∧ (∀ v ∈ xs, Itm K H v) ∧ xs.length ≤ 4000 ∧ fwI isNm xs [] 0 = some i
def PplOk (H : Hp) (v : V) (ns : List Str) : Prop := ∃ a, v = .ref a ∧ Seq H a (ns.map V.str) ∧ fwI isNm (ns.map V.str) [] 0 = none ∧ ns.Nodup ∧ ns.length ≤ 63 ∧ ∀ n ∈ ns, n.length ≤ sizeLine
def WshBad (K : PySem.W.Frag) (H : Hp) (v : V) (ns : List Str) : Prop := NoDict K H v ∨ (∃ (d : Addr) (kvs : List (Key × V)) (bs : List Bool), v = .ref d ∧ H d = some (.dK kvs) ∧ Paired (EntB K H (namesD ns)) kvs bs ∧ kvs.length ≤ 1000 ∧ bs.all id = false) ∨ OdD H v
theorem OdD.ext {H H' : Hp} {v : V} (s : ExtN H H') (h : OdD H v) : OdD H' v := by
  obtain ⟨d, o, k, x, e, h1, h2⟩ := h
  exact ⟨d, o, k, x, e, s _ _ h1 (fun ps z => by cases z), h2.imp id fun ⟨t, ks, e1, e2⟩ => ⟨t, ks, e1, s _ _ e2 ntb_tup⟩⟩
def WshOk (K : PySem.W.Frag) (H : Hp) (v : V) (ns : List Str) (rw_ : Str → List Str) : Prop := ∃ (d : Addr) (kvs : List (Key × V)) (bs : List Bool), v = .ref d ∧ H d = some (.dK kvs) ∧ Paired (EntB K H (namesD ns)) kvs bs ∧ kvs.length ≤ 1000 ∧ bs.all id = true ∧
  ∀ n ∈ ns, RowIs H kvs n (rw_ n) ∧ (rw_ n).length ≤ 1000
/-- what Market(..) does -/
def MkDoes (K : PySem.W.Frag) (T : List (Addr × Str)) (H0 : Hp) (pv wv : V) (good : (List Str) → (List Str) → (Str → List Str) → Prop) (E : XK) : Prop :=
  (∃ i, PplBad K H0 pv i ∧ ∀ (H' : Hp) (d : Addr), Up T H0 H' → H' d = some (.xd [("index", .int (i : Nat))]) → E (.ref (He.ga K "BadPeople")) (some d) H') ∨
  (∃ ns, PplOk H0 pv ns ∧ WshBad K H0 wv ns ∧ ∀ (H' : Hp) (d : Addr), Up T H0 H' → H' d = some (.xd [("thing", wv)]) → E (.ref (He.ga K "BadWishes")) (some d) H') ∨
  (∃ ns rw_, PplOk H0 pv ns ∧ WshOk K H0 wv ns rw_ ∧ ∀ ys, good ns ys rw_)
def spInit (K : PySem.W.Frag) (T : List (Addr × Str)) : Sp := fun vs H Q E => ∃ (x C dx : Addr) (pv wv : V), vs = [.ref x, pv, wv] ∧ H x = some (.ins C dx []) ∧ Cls K C ∧ NoAttr K C "_people" ∧ NoAttr K C "_rows" ∧ Tabs T H ∧
  MkDoes K T H pv wv (fun ns ys rw_ => ∀ H', UpX T x H H' → MkAt H' C x ns ys rw_ → MkKeep H H' x C ns ys rw_ → Q .non H') E
section
variable {P : Program} {w : World} {K : PySem.W.Frag} {mg : Str → Option Value} {base : Heap}
theorem EntB.ext {H H' : Hp} {nd : List (Key × V)} {kv : Key × V} {b : Bool} (s : ExtN H H') (h : EntB K H nd kv b) : EntB K H' nd kv b := by
  cases h with
  | row h r => exact .row h (r.ext s)
  | out h => exact .out h
theorem NoDict.ext {H H' : Hp} {v : V} (s : ExtN H H') (h : NoDict K H v) : NoDict K H' v := by
  obtain ⟨t, h1, h2⟩ := h
  exact ⟨t, TyX.ext s h1, h2⟩
theorem paired_imp {α β : Type} {F G : α → β → Prop} (f : ∀ a b, F a b → G a b) : ∀ {l1 : List α} {l2 : List β}, Paired F l1 l2 → Paired G l1 l2
  | _, _, .nil => .nil
  | _, _, .cons r t => .cons (f _ _ r) (paired_imp f t)
theorem putF_rows {u v : V} : putF "_rows" v [(("_people" : Str), u)] = [(("_people" : Str), u), (("_rows" : Str), v)] := by
  unfold putF
  rw [if_neg (by decide +kernel : ¬ ("_people" : Str) = "_rows")]
  rfl
theorem items_strs {H : Hp} {ns : List Str} (h : ∀ n ∈ ns, n.length ≤ sizeLine) : ∀ v ∈ ns.map V.str, Itm K H v := fun v hv => by
  obtain ⟨n, hn, rfl⟩ := List.mem_map.mp hv
  exact .inl ⟨n, rfl, h n hn⟩
theorem zip_snoc {ys : List Str} {as : List Addr} {i : Nat} {n : Str} {l : Addr} (ha : as.length = i) (h : ys[i]? = some n) : (ys.take (i + 1)).zip (as ++ [l]) = (ys.take i).zip as ++ [(n, l)] := by
  have hi : i < ys.length := by
    rcases Nat.lt_or_ge i ys.length with q | q
    · exact q
    · rw [List.getElem?_eq_none q] at h
      cases h
  rw [List.take_add_one, h]
  show ((ys.take i) ++ [n]).zip (as ++ [l]) = _
  rw [List.zip_append (by rw [List.length_take, ha]; omega)]
  rfl
theorem dict_rows {H4 : Hp} {Qd : Addr → Hp → Prop} {x d p ap : Addr} {o3 : V} {kvs : List (Key × V)} {ys : List Str} {rw_ : Str → List Str} {σ : L2.St} (hσ : σ = [some (.ref x), some (.ref ap), some (.ref d), some o3, none]) (hd : H4 d = some (.dK kvs))
    (hp : H4 p = some (.lst (ys.map V.str))) (nd : ys.Nodup) (hl : ys.length ≤ 63) (hr : ∀ n ∈ ys, RowIs H4 kvs n (rw_ n)) (k : ∀ (H' : Hp) (D : Addr), Same H4 H' → H4 D = none → RowsAtN H4 H' D ys rw_ → Qd D H') :
    ∀ D, H4 D = none → ∃ W : Nat → Nat → Hp → Prop, (∃ m, W 0 m (upd H4 D (.dK []))) ∧ ∀ i m H, W i m H →
      ((Itl K p).stop i H ∧ Qd D H) ∨ ((Itl K p).go i H ∧ ∃ Nx : Hp → Prop, (∀ H', Nx H' → ∃ m', m' < m ∧ W (i + 1) m' H') ∧ ∀ x H', (Itl K p).yld i H x H' → gName 4 x (wipe σ [4]) H' fun σ2 H2 => wipe σ2 [4] = wipe σ [4] ∧ tYes σ2 H2 fun b H3 =>
        if b = true then tVar 4 σ2 H3 fun y H4 => tCB (fun xs H Q => ∃ p ys, xs = [V.ref p] ∧ (SqL K H p ys ∨ SqT K H p ys) ∧ ∀ l, H l = none → Q (.ref l) (upd H l (.lst ys))) (tCons (tDGet2 (tVar 2) (tVar 4) (tLst tNil)) tNil) σ2 H4 fun z H5 =>
          ∃ kvs k, y = kV k ∧ H5 D = some (.dK kvs) ∧ kvs.length < sizeLine ∧ Nx (upd H5 D (.dK (putK kvs k z))) else Nx H3) := by
  subst hσ
  intro D hD
  refine dc_it (walk_list (xs := ys.map V.str)) (fun i H' => Same H4 H' ∧ ∃ as : List Addr, as.length = i ∧ H' D = some (.dK (((ys.take i).zip as).map fun p => (Sum.inr p.1, V.ref p.2))) ∧ (∀ (j : Nat) (n : Str) (a : Addr), ys[j]? = some n → as[j]? = some a → H' a = some (.lst ((rw_ n).map V.str))) ∧ ∀ a ∈ as, H4 a = none)
    ⟨sameUp hD, [], rfl, upd_same, (fun j n a h1 h2 => by simp at h2), fun a ha => by simp at ha⟩ (fun i H' _ ⟨s, _⟩ => SqL.of (s _ _ hp)) ?_ ?_
  · rintro i v H1 H2 hi ⟨s1, as, ha, hD1, hrows, hfr⟩ ⟨rfl, hx⟩
    rw [List.getElem?_map] at hx
    obtain ⟨n, hn, rfl⟩ := Option.map_eq_some_iff.mp hx
    have hmem := List.mem_of_getElem? hn
    have hd2 := s1 _ _ hd
    refine ⟨rfl, _, rfl, _, rfl, d, rfl, .inl ⟨kvs, .inl hd2⟩, _, rfl, Nat.zero_le _, fun e he => ⟨valV kvs (Sum.inr n), ?_, ?_⟩⟩
    · have s2 := sameUp (o := .lst []) he
      exact DGet.k (k := Sum.inr n) (s2 _ _ hd2)
    · have s2 := s1.trans (sameUp (o := .lst []) he)
      have hD2 : upd H2 e (.lst []) D = _ := (sameUp (o := .lst []) he) _ _ hD1
      have main : ∃ q, (valV kvs (Sum.inr n)).getD (V.ref e) = V.ref q ∧ Seq (upd H2 e (.lst [])) q ((rw_ n).map V.str) := by
        rcases hr n hmem with ⟨a, e1, e2⟩ | ⟨e1, e2⟩
        · rw [e1]
          exact ⟨a, rfl, e2.same s2⟩
        · rw [e1, e2]
          exact ⟨e, rfl, .inl upd_same⟩
      obtain ⟨q, e1, e2⟩ := main
      rw [e1]
      refine ⟨q, _, rfl, e2.sq, fun l hl2 => ?_⟩
      have s3 := sameUp (o := .lst ((rw_ n).map V.str)) hl2
      have hD3 := s3 _ _ hD2
      have lD : l ≠ D := (ne_of_none hD2 hl2).symm
      refine ⟨_, Sum.inr n, rfl, hD3, ?_, fun b o eb => ?_, as ++ [l], ?_, ?_, fun j m a h1 h2 => ?_, fun a ha2 => ?_⟩
      · rw [List.length_map, List.length_zip]
        refine Nat.lt_of_le_of_lt (Nat.min_le_right _ _) ?_
        rw [ha]
        rw [List.length_map] at hi
        exact small1000 (by omega)
      · rw [upd_ne (ne_of_none eb hD)]
        exact s3 _ _ (s2 _ _ eb)
      · rw [List.length_append, ha]
        rfl
      · rw [upd_same, putK_new, zip_snoc ha hn, List.map_append]
        · rfl
        · intro kv hk z
          obtain ⟨⟨m, a⟩, hm, rfl⟩ := List.mem_map.mp hk
          have e3 : m = n := Sum.inr.inj z
          subst e3
          have hm2 := (List.of_mem_zip hm).1
          obtain ⟨j, hj⟩ := List.getElem?_of_mem hm2
          have hji : j < i := by
            rcases Nat.lt_or_ge j i with q | q
            · exact q
            · rw [List.getElem?_take, if_neg (by omega)] at hj
              cases hj
          rw [List.getElem?_take_of_lt hji] at hj
          have hjl : j < ys.length := by
            rcases Nat.lt_or_ge j ys.length with q | q
            · exact q
            · rw [List.getElem?_eq_none q] at hj
              cases hj
          have := (List.getElem?_inj hjl nd).mp (hj.trans hn.symm)
          omega
      · by_cases hj : j < i
        · rw [List.getElem?_append_left (by omega)] at h2
          have h4 := hrows j m a h1 h2
          have aD : a ≠ D := fun z => by
            rw [z, hD1] at h4
            cases h4
          rw [upd_ne aD]
          exact s3 _ _ ((sameUp (o := .lst []) he) _ _ h4)
        · have hlen : j < (as ++ [l]).length := by
            rcases Nat.lt_or_ge j (as ++ [l]).length with q | q
            · exact q
            · rw [List.getElem?_eq_none q] at h2
              cases h2
          rw [List.length_append, ha] at hlen
          have hji : j = i := by
            simp at hlen
            omega
          subst hji
          rw [List.getElem?_append_right (by omega), ha] at h2
          have e4 : l = a := by simpa using h2
          rw [hn] at h1
          have e5 : n = m := Option.some.inj h1
          subst e4 e5
          rw [upd_ne lD, upd_same]
      · rcases List.mem_append.mp ha2 with z | z
        · exact hfr a z
        · have e6 : a = l := by simpa using z
          rw [e6]
          exact s2.free hl2
  · rintro H1 ⟨s1, as, ha, hD1, hrows, hfr⟩
    rw [List.length_map] at ha hD1
    rw [List.take_length] at hD1
    exact k _ _ s1 hD ⟨as, ha, hD1, hrows, hfr⟩
theorem ok_init {T : List (Addr × Str)} {f fP fR fB fW : Addr} {fd fdP fdR fdB fdW : FuncData} (F : Fun K "__init__" "Market.__init__" (sMk 0) f fd)
    (GP : FnOk P w K mg base CX0 4 fP fdP ["people"] (spPf K)) (kP : PySem.W.keepIn K (.ref fP) = true) (bP : Binds K fdP ["people"] []) (gP : mg "people_fault" = some (.ref fP))
    (GR : FnOk P w K mg base CX0 5 fR fdR ["thing", "people"] (spRows K T)) (kR : PySem.W.keepIn K (.ref fR) = true) (bR : Binds K fdR ["thing", "people"] []) (gR : mg "are_rows" = some (.ref fR))
    (BP : ExX K mg "BadPeople" "index") (FB : FnOk P w K mg base CX0 1 (He.ma K (He.ga K "BadPeople") "__init__") fdB ["self", "index"] (spI1 K "index")) (bB : Binds K fdB ["self", "index"] [])
    (BW : ExX K mg "BadWishes" "thing") (FW : FnOk P w K mg base CX0 1 (He.ma K (He.ga K "BadWishes") "__init__") fdW ["self", "thing"] (spI1 K "thing")) (bW : Binds K fdW ["self", "thing"] [])
    (gL : mg "list" = none) (gS : mg "sorted" = none) : FnOk P w K mg base (L2.CX P w) 6 f fd ["self", "people", "wishes"] (spInit K T) := by
  refine F.okX scInit (fun vs H Q E h => ?_) (fun cdv A outer s H vs Q E hr h => ?_)
  · obtain ⟨x, C, dx, pv, wv, rfl, _⟩ := h
    rfl
  · obtain ⟨x, C, dx, pv_, wv, rfl, hx, cls, na1, na2, hT, h⟩ := h
    have hu := hu_of hr
    have hnd := scInit.nd
    refine ⟨_, pss_cons (ps_set (i := 3) hnd rfl (Or.inl rfl) (pe_call GP (hr.mono (by decide)) rfl gP kP bP .nil pass0 (pa_cons (pv 1) pa_nil)))
      (pss_cons (ps_if (pt_cmpR op_notN (pv 3) pe_non (nomark _)) (pss_one (ps_raise rfl (takes_of rfl rfl rfl rfl) (pmk_oex BP.ox BP.iC BP.tI FB (hr.mono (by decide)) bB .nil pass0 rfl BP.g (pa_cons (pv 3) pa_nil)))) pss_nil)
      (pss_cons (ps_if (pt_not (pt_val (pe_call GR hr rfl gR kR bR .nil pass0 (pa_cons (pv 2) (pa_cons (pv 1) pa_nil))))) (pss_one (ps_raise rfl (takes_of rfl rfl rfl rfl) (pmk_oex BW.ox BW.iC BW.tI FW (hr.mono (by decide)) bW .nil pass0 rfl BW.g (pa_cons (pv 2) pa_nil)))) pss_nil)
      (pss_cons (ps_fld (pv 0) (pe_callTy call_list_of rfl gL boot_list (pa_cons (pv 1) pa_nil)) rfl)
      (pss_one (ps_fld (pv 0) (pe_dc (own := [("name", 4)]) (g := gName 4) (tt := tYes) (tk := tVar 4) (tv := tCB (fun xs H Q => ∃ p ys, xs = [V.ref p] ∧ (SqL K H p ys ∨ SqT K H p ys) ∧ ∀ l, H l = none → Q (.ref l) (upd H l (.lst ys))) (tCons (tDGet2 (tVar 2) (tVar 4) (tLst tNil)) tNil)) rfl hnd
        (pi_list (pe_callB cr_sortedA (by rfl) gS (by decide +kernel) (pa_cons (pv 1) pa_nil))) (blkOk_by (N := ["self", "people", "wishes", "wrong", "name"]) (sc := defScope (sMk 0)) (by decide +kernel))
        (fun _ _ _ _ _ => pg_name (i := 4) hnd rfl (Or.inl rfl)) (fun _ _ _ _ _ => pts_nil) (fun _ _ _ _ _ => by exact pv 4)
        (fun _ _ _ _ _ => by exact pe_callTy call_list_of rfl gL boot_list (pa_cons (pe_dget2 hu (pv 2) (pv 4) (pe_lst pa_nil) ⟨rfl, rfl, rfl, rfl⟩) pa_nil))) rfl))))), ?_⟩
    have oint : ∀ i : Nat, (!decide (V.int (i : Int) = V.non)) = true := fun i => rfl
    rcases h with ⟨i, hb, k⟩ | ⟨ns, ⟨ap, rfl, hq, hfw, hnod, hn, hlen⟩, h⟩ | ⟨ns, rw_, ⟨ap, rfl, hq, hfw, hnod, hn, hlen⟩, ⟨d, kvs, bs, rfl, hd, hp, hk, hall, hrows⟩, k⟩
    · have fin : ∀ H1, Same H H1 → ∀ a, H1 a = none → spI1 K "index" (.ref a :: ([V.int (i : Int)] ++ [])) (upd H1 a (exo a (He.ga K "BadPeople") none)) (fun v H2 => v = .non ∧ ∃ (d : Addr) (fs : List (Str × V)), H2 a = some (exo a (He.ga K "BadPeople") (some d)) ∧ H2 d = some (exd d fs) ∧ H1 d = none ∧ E (.ref (He.ga K "BadPeople")) (some d) (upd (del H2 a) d (.xd fs))) (fun _ _ _ => False) :=
        fun H1 s1 => raised1 BP.ox BP.no fun H' d s n e => k H' d (.same hT (s1.trans s)) e
      rcases hb with ⟨h, rfl⟩ | ⟨a, xs, rfl, h, hx, hn, e⟩
      · refine ⟨_, rfl, .inl ⟨pv_, rfl, h, fun H1 s1 => ?_⟩⟩
        exact ⟨_, rfl, rfl, _, rfl, iteT ⟨_, rfl, (show 1 ≤ 1000 by decide), fin H1 s1⟩⟩
      · refine ⟨_, rfl, .inr ⟨a, xs, rfl, h, hx, hn, fun H1 s1 => ?_⟩⟩
        rw [e]
        exact ⟨_, rfl, rfl, _, rfl, iteT ⟨_, rfl, (show 1 ≤ 1000 by decide), fin H1 s1⟩⟩
    · refine ⟨_, rfl, .inr ⟨ap, _, rfl, hq, items_strs hlen, by rw [List.length_map]; omega, fun H1 s1 => ?_⟩⟩
      rw [hfw]
      refine ⟨_, rfl, rfl, _, rfl, iteF ?_⟩
      have u1 := Up.same hT s1
      obtain ⟨hw, k⟩ := h
      have fin : ∀ H2, Up T H1 H2 → ∀ a, H2 a = none → spI1 K "thing" (.ref a :: ([wv] ++ [])) (upd H2 a (exo a (He.ga K "BadWishes") none)) (fun v H3 => v = .non ∧ ∃ (d : Addr) (fs : List (Str × V)), H3 a = some (exo a (He.ga K "BadWishes") (some d)) ∧ H3 d = some (exd d fs) ∧ H2 d = none ∧ E (.ref (He.ga K "BadWishes")) (some d) (upd (del H3 a) d (.xd fs))) (fun _ _ _ => False) :=
        fun H2 u2 => raised1 BW.ox BW.no fun H' d s n e => k H' d ((u1.trans u2).andS s) e
      rcases hw with h | ⟨d, kvs, bs, rfl, hd, hp, hk, hall⟩ | h
      rotate_left 2
      · exact ⟨_, rfl, _, rfl, wv, ap, ns, rfl, u1.t, hq.same s1, hnod, by omega, .inr (.inr ⟨h.ext u1.e, fun H2 u2 => ⟨_, rfl, iteT ⟨_, rfl, (show 1 ≤ 1000 by decide), fin H2 u2⟩⟩⟩)⟩
      · exact ⟨_, rfl, _, rfl, wv, ap, ns, rfl, u1.t, hq.same s1, hnod, by omega, .inl ⟨h.ext u1.e, fun H2 u2 => ⟨_, rfl, iteT ⟨_, rfl, (show 1 ≤ 1000 by decide), fin H2 u2⟩⟩⟩⟩
      · refine ⟨_, rfl, _, rfl, _, ap, ns, rfl, u1.t, hq.same s1, hnod, by omega, .inr (.inl ⟨d, kvs, bs, rfl, s1 _ _ hd, paired_imp (fun _ _ h => h.ext u1.e) hp, hk, fun H2 u2 => ?_⟩)⟩
        rw [hall]
        exact ⟨_, rfl, iteT ⟨_, rfl, (show 1 ≤ 1000 by decide), fin H2 u2⟩⟩
    · refine ⟨_, rfl, .inr ⟨ap, _, rfl, hq, items_strs hlen, by rw [List.length_map]; omega, fun H1 s1 => ?_⟩⟩
      rw [hfw]
      refine ⟨_, rfl, rfl, _, rfl, iteF ?_⟩
      have u1 := Up.same hT s1
      refine ⟨_, rfl, _, rfl, _, ap, ns, rfl, u1.t, hq.same s1, hnod, by omega, .inr (.inl ⟨d, kvs, bs, rfl, s1 _ _ hd, paired_imp (fun _ _ h => h.ext u1.e) hp, hk, fun H2 u2 => ?_⟩)⟩
      rw [hall]
      refine ⟨_, rfl, iteF ?_⟩
      have u12 := u1.trans u2
      have hq2 := hq.ext u12.e
      have hd2 := u12.e _ _ hd ntb_dK
      have hx2 := u12.e _ _ hx ntb_ins
      refine ⟨_, rfl, ap, _, rfl, hq2.sq, fun pl npl => ?_⟩
      have xpl : x ≠ pl := ne_of_none hx2 npl
      have hx3 : upd H2 pl (.lst (ns.map V.str)) x = some (.ins C dx []) := by
        rw [upd_ne xpl]
        exact hx2
      refine ⟨_, rfl, x, C, dx, [], rfl, hx3, cls, na1, by decide, ?_⟩
      have toX : ∀ b o, b ≠ x → H2 b = some o → upd (upd H2 pl (.lst (ns.map V.str))) x (.ins C dx [(("_people" : Str), .ref pl)]) b = some o := fun b o n e => by
        rw [upd_ne n, upd_ne (ne_of_none e npl)]
        exact e
      have hxX : upd (upd H2 pl (.lst (ns.map V.str))) x (.ins C dx [(("_people" : Str), .ref pl)]) x = some (.ins C dx [(("_people" : Str), .ref pl)]) := upd_same
      have hplX : upd (upd H2 pl (.lst (ns.map V.str))) x (.ins C dx [(("_people" : Str), .ref pl)]) pl = some (.lst (ns.map V.str)) := by
        rw [upd_ne xpl.symm, upd_same]
      have tX : Tabs T (upd (upd H2 pl (.lst (ns.map V.str))) x (.ins C dx [(("_people" : Str), .ref pl)])) := Tabs.put (u12.t.ext (sameUp npl)) hx3 ntb_ins (fun φ z => by cases z)
      have seqX : ∀ {q : Addr} {zs : List V}, Seq H2 q zs → Seq (upd (upd H2 pl (.lst (ns.map V.str))) x (.ins C dx [(("_people" : Str), .ref pl)])) q zs := fun {q zs} h => h.imp
        (fun e => toX _ _ (fun z => by rw [z, hx2] at e; cases e) e) (fun e => toX _ _ (fun z => by rw [z, hx2] at e; cases e) e)
      have hdX := toX d _ (fun z => by rw [z, hx2] at hd2; cases hd2) hd2
      have rowX : ∀ n ∈ ns, RowIs (upd (upd H2 pl (.lst (ns.map V.str))) x (.ins C dx [(("_people" : Str), .ref pl)])) kvs n (rw_ n) := fun n hm => (hrows n hm).1.imp (fun ⟨a, e1, e2⟩ => ⟨a, e1, seqX (e2.ext u12.e)⟩) id
      have hqX := seqX hq2
      refine ⟨_, rfl, ap, ns, rfl, hqX.sq, by omega, fun ys p pm so np => ⟨p, rfl, ⟨_, SqL.of upd_same⟩, ?_⟩⟩
      have s4 := sameUp (o := .lst (ys.map V.str)) np
      have hmem : ∀ n ∈ ys, n ∈ ns := fun n h => pm.subset h
      intro D nD
      obtain ⟨W, hw0, hw⟩ := dict_rows (K := K) (rw_ := rw_) (x := x) (ap := ap) (o3 := optI none) (ys := ys) (p := p) (Qd := fun D H' => Same (upd (upd (upd H2 pl (.lst (ns.map V.str))) x (.ins C dx [(("_people" : Str), .ref pl)])) p (.lst (ys.map V.str))) H' ∧ RowsAtN (upd (upd (upd H2 pl (.lst (ns.map V.str))) x (.ins C dx [("_people", .ref pl)])) p (.lst (ys.map V.str))) H' D ys rw_) rfl (s4 _ _ hdX) upd_same
        (pm.nodup_iff.mpr hnod) (by rw [pm.length_eq]; exact hn) (fun n hm => (rowX n (hmem n hm)).imp (fun ⟨a, e1, e2⟩ => ⟨a, e1, e2.same s4⟩) id) (fun H' D s n r => ⟨s, r⟩) D nD
      refine ⟨W, hw0, fun i m H' hW => ?_⟩
      rcases hw i m H' hW with ⟨hs, sD, ra⟩ | z
      rotate_left
      · exact .inr z
      refine .inl ⟨hs, ?_⟩
      have sX := s4.trans sD
      refine ⟨_, rfl, x, C, dx, _, rfl, sX _ _ hxX, cls, na2, (show 1 < 1000 by decide), ?_⟩
      rw [putF_rows]
      obtain ⟨as, ha, h1, h2, hfr⟩ := ra
      have hxS := sX _ _ hxX
      have off : ∀ {b : Addr} {o : HO}, H' b = some o → (∀ fs, o ≠ .ins C dx fs) → upd H' x (.ins C dx [(("_people" : Str), .ref pl), (("_rows" : Str), .ref D)]) b = some o := fun {b o} e n => by
        rw [upd_ne (fun z => by
          rw [z, hxS] at e
          exact n _ (Option.some.inj e).symm)]
        exact e
      have hplF := off (sX _ _ hplX) (fun fs z => by cases z)
      have hDF := off h1 (fun fs z => by cases z)
      have hrF : ∀ (i : Nat) (n : Str) (a : Addr), ys[i]? = some n → as[i]? = some a → upd H' x (.ins C dx [(("_people" : Str), .ref pl), (("_rows" : Str), .ref D)]) a = some (.lst ((rw_ n).map V.str)) := fun i n a e1 e2 => off (h2 i n a e1 e2) (fun fs z => by cases z)
      have nwX : ∀ c, upd (upd H2 pl (.lst (ns.map V.str))) x (.ins C dx [(("_people" : Str), .ref pl)]) c = none → H2 c = none := fun c z => by
        by_cases q1 : c = x
        · rw [q1, upd_same] at z
          cases z
        · rw [upd_ne q1] at z
          by_cases q2 : c = pl
          · rw [q2, upd_same] at z
            cases z
          · rw [upd_ne q2] at z
            exact z
      have nw : ∀ c, H2 c = none → Nw H c := fun c z => Nw.of u12.e z
      refine k ys _ ⟨fun b o n e nt => ?_, Tabs.put (tX.ext sX) hxS ntb_ins (fun φ z => by cases z)⟩ ⟨⟨dx, pl, D, upd_same, hplF, as, ha, hDF, hrF⟩, pm, so⟩ fun H'' kk =>
        ⟨⟨dx, pl, D, kk x _ (.inr rfl) ntb_ins upd_same, kk pl _ (.inl (nw _ npl)) ntb_lst hplF, as, ha, kk D _ (.inl (nw _ (nwX _ (s4.free nD)))) ntb_dK hDF, fun i n a e1 e2 => kk a _ (.inl (nw _ (nwX _ (s4.free (hfr a (List.mem_of_getElem? e2)))))) ntb_lst (hrF i n a e1 e2)⟩, pm, so⟩
      rw [upd_ne n]
      exact sX _ _ (toX _ _ n (u12.e _ _ e nt))
end
end Mn
/-! Market's methods -/
namespace Mn
open PySem PySem.Spec PyProof.Rows L2 Md Me Ml LamX
/-- new rows, laid one after the other -/
structure RowsB (H0 H1 : Hp) (D : Addr) (ys : List Str) (rw_ : Str → List Str) (i : Nat) (bs : List Addr) : Prop where
  s : Same H0 H1
  l : bs.length = i
  d : H1 D = some (.dK (((ys.take i).zip bs).map fun p => (Sum.inr p.1, V.ref p.2)))
  r : ∀ (j : Nat) (n : Str) (a : Addr), ys[j]? = some n → bs[j]? = some a → H1 a = some (.lst ((rw_ n).map V.str))
  f : ∀ b ∈ bs, H0 b = none
  n : bs.Nodup
theorem RowsB.nil {H0 : Hp} {D : Addr} {ys : List Str} {rw_ : Str → List Str} (h : H0 D = none) : RowsB H0 (upd H0 D (.dK [])) D ys rw_ 0 [] := ⟨sameUp h, rfl, upd_same, fun j n a h1 h2 => by simp at h2, fun b hb => absurd hb (by simp), by simp⟩
theorem RowsB.snoc {H0 H1 H2 : Hp} {D l : Addr} {ys : List Str} {rw_ : Str → List Str} {i : Nat} {bs : List Addr} {n : Str} (B : RowsB H0 H1 D ys rw_ i bs) (nd : ys.Nodup) (hl : ys.length ≤ 63) (hD : H0 D = none) (hn : ys[i]? = some n) (s2 : Same H1 H2) (hl2 : H2 l = none) :
    ∃ kvs, upd H2 l (.lst ((rw_ n).map V.str)) D = some (.dK kvs) ∧ kvs.length < sizeLine ∧ RowsB H0 (upd (upd H2 l (.lst ((rw_ n).map V.str))) D (.dK (putK kvs (Sum.inr n) (.ref l)))) D ys rw_ (i + 1) (bs ++ [l]) := by
  have s3 := s2.trans (sameUp (o := .lst ((rw_ n).map V.str)) hl2)
  have hD3 := s3 _ _ B.d
  have lD : l ≠ D := (ne_of_none (s2 _ _ B.d) hl2).symm
  have hil : i < ys.length := by
    rcases Nat.lt_or_ge i ys.length with q | q
    · exact q
    · rw [List.getElem?_eq_none q] at hn
      cases hn
  refine ⟨_, hD3, ?_, ⟨fun b o eb => ?_, ?_, ?_, fun j m a h1 h2 => ?_, fun b hb => ?_, ?_⟩⟩
  · rw [List.length_map, List.length_zip]
    refine Nat.lt_of_le_of_lt (Nat.min_le_right _ _) ?_
    rw [B.l]
    exact small1000 (by omega)
  · rw [upd_ne (ne_of_none eb hD)]
    exact s3 _ _ (B.s _ _ eb)
  · rw [List.length_append, B.l]
    rfl
  · rw [upd_same, putK_new, zip_snoc B.l hn, List.map_append]
    · rfl
    · intro kv hk z
      obtain ⟨⟨m, a⟩, hm, rfl⟩ := List.mem_map.mp hk
      have e3 : m = n := Sum.inr.inj z
      subst e3
      have hm2 := (List.of_mem_zip hm).1
      obtain ⟨j, hj⟩ := List.getElem?_of_mem hm2
      have hji : j < i := by
        rcases Nat.lt_or_ge j i with q | q
        · exact q
        · rw [List.getElem?_take, if_neg (by omega)] at hj
          cases hj
      rw [List.getElem?_take_of_lt hji] at hj
      have := (List.getElem?_inj (by omega) nd).mp (hj.trans hn.symm)
      omega
  · by_cases hj : j < i
    · rw [List.getElem?_append_left (by rw [B.l]; exact hj)] at h2
      have h4 := B.r j m a h1 h2
      have aD : a ≠ D := fun z => by
        have hd := B.d
        rw [z, hd] at h4
        cases h4
      rw [upd_ne aD]
      exact s3 _ _ h4
    · have hlen : j < (bs ++ [l]).length := by
        rcases Nat.lt_or_ge j (bs ++ [l]).length with q | q
        · exact q
        · rw [List.getElem?_eq_none q] at h2
          cases h2
      rw [List.length_append, B.l] at hlen
      have hji : j = i := by
        simp at hlen
        omega
      subst hji
      rw [List.getElem?_append_right (by rw [B.l]; exact Nat.le_refl _), B.l] at h2
      have e4 : l = a := by simpa using h2
      rw [hn] at h1
      have e5 : n = m := Option.some.inj h1
      subst e4 e5
      rw [upd_ne lD, upd_same]
  · rcases List.mem_append.mp hb with z | z
    · exact B.f b z
    · have e : b = l := by simpa using z
      rw [e]
      exact B.s.free (s2.free hl2)
  · rw [List.nodup_append]
    refine ⟨B.n, by simp, fun a ha b hb z => ?_⟩
    have e : b = l := by simpa using hb
    rw [z, e] at ha
    obtain ⟨j, hj⟩ := List.getElem?_of_mem ha
    have hjl : j < bs.length := by
      rcases Nat.lt_or_ge j bs.length with q | q
      · exact q
      · rw [List.getElem?_eq_none q] at hj
        cases hj
    obtain ⟨m, hm⟩ : ∃ m, ys[j]? = some m := ⟨ys[j]'(by have := B.l; omega), List.getElem?_eq_getElem _⟩
    have h4 := s2 _ _ (B.r j m l hm hj)
    rw [hl2] at h4
    cases h4
/-- new rows: a dict and lists that did not stand in H0 -/
structure RowsF (H0 H1 : Hp) (D : Addr) (ys : List Str) (rw_ : Str → List Str) (bs : List Addr) : Prop where
  l : bs.length = ys.length
  d : H1 D = some (.dK ((ys.zip bs).map fun p => (Sum.inr p.1, V.ref p.2)))
  r : ∀ (j : Nat) (n : Str) (a : Addr), ys[j]? = some n → bs[j]? = some a → H1 a = some (.lst ((rw_ n).map V.str))
  fD : H0 D = none
  f : ∀ b ∈ bs, H0 b = none
  n : bs.Nodup
theorem RowsF.at_ {H0 H1 : Hp} {D : Addr} {ys : List Str} {rw_ : Str → List Str} {bs : List Addr} (F : RowsF H0 H1 D ys rw_ bs) : RowsAt H1 D ys rw_ := ⟨bs, F.l, F.d, F.r⟩
theorem RowsB.done {H0 H1 : Hp} {D : Addr} {ys : List Str} {rw_ : Str → List Str} {bs : List Addr} (hD : H0 D = none) (B : RowsB H0 H1 D ys rw_ ys.length bs) : RowsF H0 H1 D ys rw_ bs :=
  ⟨B.l, by have h := B.d; rw [List.take_length] at h; exact h, B.r, hD, B.f, B.n⟩
/-! ### the methods -/
def spPeople : Sp := fun vs H Q _ => ∃ (m C : Addr) (ns ys : List Str) (rw_ : Str → List Str), vs = [.ref m] ∧ MkAt H C m ns ys rw_ ∧ ∀ l, H l = none → Q (.ref l) (upd H l (.lst (ns.map V.str)))
def spWishes : Sp := fun vs H Q _ => ∃ (m C : Addr) (ns ys : List Str) (rw_ : Str → List Str), vs = [.ref m] ∧ MkAt H C m ns ys rw_ ∧ ns.Nodup ∧ ns.length ≤ 63 ∧ ∀ (H' : Hp) (D : Addr) (bs : List Addr), Same H H' → RowsF H H' D ys rw_ bs → Q (.ref D) H'
theorem scPeople : FnScope ["self"] ["self"] (defScope (sMk 1)) := ⟨rfl, rfl, rfl, by decide +kernel, rfl, by decide +kernel, by decide +kernel⟩
theorem scWishes : FnScope ["self", "name", "row"] ["self"] (defScope (sMk 2)) := ⟨rfl, rfl, rfl, by decide +kernel, rfl, by decide +kernel, by decide +kernel⟩
section
variable {P : Program} {w : World} {K : PySem.W.Frag} {mg : Str → Option Value} {base : Heap}
/-- what the class Market is -/
structure MkC (K : PySem.W.Frag) (C : Addr) : Prop where
  c : Cls K C
  n1 : NoAttr K C "_people"
  n2 : NoAttr K C "_rows"
theorem ok_people {f C0 : Addr} {fd : FuncData} (F : Fun K "people" "Market.people" (sMk 1) f fd) (MC : MkC K C0) (gL : mg "list" = none) : FnOk P w K mg base CX0 1 f fd ["self"] (fun vs H Q E => ∃ (m : Addr) (ns ys : List Str) (rw_ : Str → List Str), vs = [.ref m] ∧ MkAt H C0 m ns ys rw_ ∧ ∀ l, H l = none → Q (.ref l) (upd H l (.lst (ns.map V.str)))) := by
  refine F.ok scPeople (fun vs H Q E h => ?_) (fun cdv A outer s H vs Q E hr h => ?_)
  · obtain ⟨m, ns, ys, rw_, rfl, _⟩ := h
    rfl
  · obtain ⟨m, ns, ys, rw_, rfl, M, k⟩ := h
    obtain ⟨dx, pl, rd, hm, hp, hr2⟩ := M.ex
    refine ⟨_, pss_one (ps_ret (pe_callTy call_list_of rfl gL boot_list (pa_cons (pe_fld (pv 0) rfl) pa_nil))), ?_⟩
    exact ⟨_, rfl, m, C0, dx, _, _, rfl, hm, MC.c, MC.n1, rfl, pl, _, rfl, .inl (SqL.of hp), fun l hl => k l hl⟩
theorem ok_wishes {f C0 : Addr} {fd : FuncData} (F : Fun K "wishes" "Market.wishes" (sMk 2) f fd) (MC : MkC K C0) (gL : mg "list" = none) : FnOk P w K mg base CX0 1 f fd ["self"] (fun vs H Q E => ∃ (m : Addr) (ns ys : List Str) (rw_ : Str → List Str), vs = [.ref m] ∧ MkAt H C0 m ns ys rw_ ∧ ns.Nodup ∧ ns.length ≤ 63 ∧ ∀ (H' : Hp) (D : Addr) (bs : List Addr), Same H H' → RowsF H H' D ys rw_ bs → Q (.ref D) H') := by
  refine F.ok scWishes (fun vs H Q E h => ?_) (fun cdv A outer s H vs Q E hr h => ?_)
  · obtain ⟨m, ns, ys, rw_, rfl, _⟩ := h
    rfl
  · obtain ⟨m, ns, ys, rw_, rfl, M, hnod, hn, k⟩ := h
    obtain ⟨dx, pl, rd, hm, hp, as, ha, hrd, hrows⟩ := M.ex
    have hnd := scWishes.nd
    have ndY := M.pm.nodup_iff.mpr hnod
    have hly : ys.length ≤ 63 := by rw [M.pm.length_eq]; exact hn
    refine ⟨_, pss_one (ps_ret (pe_lock (pe_dc (own := [("name", 1), ("row", 2)]) (g := gTup K 2 (gCons (gName 1) (gCons (gName 2) gNil))) (tt := tYes) (tk := tVar 1) (tv := tCB (fun xs H Q => ∃ p ys, xs = [V.ref p] ∧ (SqL K H p ys ∨ SqT K H p ys) ∧ ∀ l, H l = none → Q (.ref l) (upd H l (.lst ys))) (tCons (tVar 2) tNil)) rfl hnd
      (pi_items (pe_fld (pv 0) rfl)) (blkOk_by (N := ["self", "name", "row"]) (sc := defScope (sMk 2)) (by decide +kernel))
      (fun _ _ _ _ _ => pg_tup rfl (pgs_cons (pg_name (i := 1) hnd rfl (Or.inl rfl)) (pgs_cons (pg_name (i := 2) hnd rfl (Or.inl rfl)) pgs_nil))) (fun _ _ _ _ _ => pts_nil) (fun _ _ _ _ _ => by exact pv 1)
      (fun _ _ _ _ _ => by exact pe_callTy call_list_of rfl gL boot_list (pa_cons (pv 2) pa_nil))))), ?_⟩
    refine ⟨rd, _, hrd, trivial, fun od => ?_⟩
    have nel : ∀ {b : Addr} {u : HO}, H b = some u → (∀ q, u ≠ .dK q) → b ≠ rd := fun {b u} e n z => by
      rw [z, hrd] at e
      exact n _ (Option.some.inj e).symm
    have keep : ∀ {b : Addr} {u : HO}, H b = some u → (∀ q, u ≠ .dK q) → upd H rd (.frz od (.dK ((ys.zip as).map fun p => (Sum.inr p.1, V.ref p.2)))) b = some u := fun {b u} e n => by
      rw [upd_ne (nel e n)]
      exact e
    refine ⟨_, rfl, m, C0, dx, _, _, rfl, keep hm (fun q z => by cases z), MC.c, MC.n2, rfl, rd, od, _, rfl, upd_same, fun D hD => ?_⟩
    have Dr : D ≠ rd := fun z => by
      rw [z, upd_same] at hD
      cases hD
    refine dc_it walk_items (fun i H' => ∃ bs, RowsB (upd H rd (.frz od (.dK ((ys.zip as).map fun p => (Sum.inr p.1, V.ref p.2))))) H' D ys rw_ i bs) ⟨[], .nil hD⟩ (fun i H' _ ⟨bs, B⟩ => B.s _ _ upd_same) ?_ ?_
    · rintro i x H2 H3 hi ⟨bs, B⟩ ⟨T0, x1, y1, rfl, nT0, rfl, e1, e2⟩
      rw [List.length_map, List.length_zip, ha, Nat.min_self] at hi
      obtain ⟨n, hnI⟩ : ∃ n, ys[i]? = some n := ⟨ys[i], List.getElem?_eq_getElem hi⟩
      obtain ⟨a, haI⟩ : ∃ a, as[i]? = some a := ⟨as[i]'(by omega), List.getElem?_eq_getElem _⟩
      have hz : ((ys.zip as).map fun p => ((Sum.inr p.1 : Key), V.ref p.2))[i]? = some (Sum.inr n, V.ref a) := by
        rw [List.getElem?_map, (List.getElem?_zip_eq_some (z := (n, a))).mpr ⟨hnI, haI⟩]
        rfl
      replace e1 : (((ys.zip as).map fun p => ((Sum.inr p.1 : Key), V.ref p.2))[i]?.map fun kv => kV kv.1) = some x1 := e1
      replace e2 : ((ys.zip as).map fun p => ((Sum.inr p.1 : Key), V.ref p.2))[i]?.map Prod.snd = some y1 := e2
      rw [hz] at e1 e2
      have e1' : V.str n = x1 := Option.some.inj e1
      have e2' : V.ref a = y1 := Option.some.inj e2
      subst e1' e2'
      have sT := sameUp (o := .tup [V.str n, V.ref a]) nT0
      have hrow := sT _ _ (B.s _ _ (keep (hrows i n a hnI haI) (fun q z => by cases z)))
      refine ⟨T0, _, rfl, SqT.of upd_same, rfl, _, _, rfl, _, _, rfl, rfl, rfl, ?_⟩
      refine ⟨_, rfl, _, rfl, a, _, rfl, .inl (SqL.of hrow), fun l hl => ?_⟩
      obtain ⟨kvs, q1, q2, q3⟩ := B.snoc ndY hly hD hnI sT hl
      exact ⟨kvs, Sum.inr n, rfl, q1, q2, _, q3⟩
    · rintro H2 ⟨bs, B⟩
      rw [List.length_map, List.length_zip, ha, Nat.min_self] at B
      have F2 := B.done hD
      have free : ∀ b, upd H rd (.frz od (.dK ((ys.zip as).map fun p => (Sum.inr p.1, V.ref p.2)))) b = none → H b = none := fun b z => by
        by_cases q : b = rd
        · rw [q, upd_same] at z
          cases z
        · rw [upd_ne q] at z
          exact z
      have brd : ∀ b, H b = none → b ≠ rd := fun b z q => by
        rw [q, hrd] at z
        cases z
      refine ⟨B.s _ _ upd_same, k _ D bs (fun b o e => ?_) ⟨F2.l, ?_, fun j n a h1 h2 => ?_, free _ F2.fD, fun b hb => free _ (F2.f b hb), F2.n⟩⟩
      · by_cases q : b = rd
        · rw [q, upd_same, ← hrd, ← q]
          exact e
        · rw [upd_ne q]
          exact B.s _ _ (by rw [upd_ne q]; exact e)
      · rw [upd_ne Dr]
        exact F2.d
      · rw [upd_ne (brd a (free _ (F2.f a (List.mem_of_getElem? h2))))]
        exact F2.r j n a h1 h2
end
end Mn
/-! Market.wants -/
namespace Mn
open PySem PySem.Spec PyProof.Rows L2 Md Me Ml LamX
theorem valV_zip {ys : List Str} {as : List Addr} (ha : as.length = ys.length) (nd : ys.Nodup) {i : Nat} {n : Str} {a : Addr} (h1 : ys[i]? = some n) (h2 : as[i]? = some a) : valV ((ys.zip as).map fun p => ((Sum.inr p.1 : Key), V.ref p.2)) (Sum.inr n) = some (.ref a) := by
  induction ys generalizing as i with
  | nil => simp at h1
  | cons y ys ih =>
    cases as with
    | nil => simp at ha
    | cons b as =>
      unfold valV
      rw [List.zip_cons_cons, List.map_cons, List.find?_cons]
      cases i with
      | zero =>
        have e1 : y = n := by simpa using h1
        have e2 : b = a := by simpa using h2
        subst e1 e2
        rw [decide_eq_true rfl]
        rfl
      | succ j =>
        have h1' : ys[j]? = some n := by simpa using h1
        have h2' : as[j]? = some a := by simpa using h2
        have ne : ¬ (Sum.inr y : Key) = Sum.inr n := fun z => by
          have e : y = n := Sum.inr.inj z
          rw [List.nodup_cons] at nd
          exact nd.1 (by rw [e]; exact List.mem_of_getElem? h1')
        rw [decide_eq_false ne]
        exact ih (by simpa using ha) (List.nodup_cons.mp nd).2 h1' h2'
theorem valV_zip_none {ys : List Str} {as : List Addr} {n : Str} (h : n ∉ ys) : valV ((ys.zip as).map fun p => ((Sum.inr p.1 : Key), V.ref p.2)) (Sum.inr n) = none := by
  unfold valV
  have e : ((ys.zip as).map fun p => ((Sum.inr p.1 : Key), V.ref p.2)).find? (fun kv => decide (kv.1 = Sum.inr n)) = none := by
    rw [List.find?_eq_none]
    intro kv hk z
    obtain ⟨⟨m, a⟩, hm, rfl⟩ := List.mem_map.mp hk
    have e : m = n := Sum.inr.inj (of_decide_eq_true z)
    rw [← e] at h
    exact h (List.of_mem_zip hm).1
  rw [e]
  rfl
theorem scWants : FnScope ["self", "person"] ["self", "person"] (defScope (sMk 3)) := ⟨rfl, rfl, rfl, by decide +kernel, rfl, by decide +kernel, by decide +kernel⟩
def spWants (K : PySem.W.Frag) (C0 : Addr) : Sp := fun vs H Q E => ∃ (m : Addr) (v : V) (ns ys : List Str) (rw_ : Str → List Str), vs = [.ref m, v] ∧ MkAt H C0 m ns ys rw_ ∧ ns.Nodup ∧
  ((∃ n, v = .str n ∧ n ∈ ns ∧ ∀ l, H l = none → Q (.ref l) (upd H l (.lst ((rw_ n).map V.str)))) ∨
   (((∃ x, v = .str x ∧ x ∉ ns) ∨ NoStr K H v) ∧ ∀ (H' : Hp) (d : Addr), Same H H' → H' d = some (.xd [("thing", v)]) → E (.ref (He.ga K "NoPerson")) (some d) H'))
section
variable {P : Program} {w : World} {K : PySem.W.Frag} {mg : Str → Option Value} {base : Heap}
theorem ok_wants {f fO C0 : Addr} {fd fdO fdN : FuncData} (F : Fun K "wants" "Market.wants" (sMk 3) f fd) (MC : MkC K C0) (GO : FnOk P w K mg base CX0 1 fO fdO ["thing", "names"] (spIsOne K)) (kO : PySem.W.keepIn K (.ref fO) = true) (bO : Binds K fdO ["thing", "names"] []) (gO : mg "is_one_of" = some (.ref fO))
    (BN : ExX K mg "NoPerson" "thing") (FN : FnOk P w K mg base CX0 1 (He.ma K (He.ga K "NoPerson") "__init__") fdN ["self", "thing"] (spI1 K "thing")) (bN : Binds K fdN ["self", "thing"] []) (gL : mg "list" = none) : FnOk P w K mg base (L2.CX P w) 3 f fd ["self", "person"] (spWants K C0) := by
  refine F.okX scWants (fun vs H Q E h => ?_) (fun cdv A outer s H vs Q E hr h => ?_)
  · obtain ⟨m, v, ns, ys, rw_, rfl, _⟩ := h
    rfl
  · obtain ⟨m, v, ns, ys, rw_, rfl, M, hnod, h⟩ := h
    have hu := hu_of hr
    obtain ⟨dx, pl, rd, hm, hp, as, ha, hrd, hrows⟩ := M.ex
    have ndY := M.pm.nodup_iff.mpr hnod
    refine ⟨_, pss_cons (ps_if (pt_not (pt_val (pe_call GO (hr.mono (by decide)) rfl gO kO bO .nil pass0 (pa_cons (pv 1) (pa_cons (pe_fld (pv 0) rfl) pa_nil))))) (pss_one (ps_raise rfl (takes_of rfl rfl rfl rfl) (pmk_oex BN.ox BN.iC BN.tI FN (hr.mono (by decide)) bN .nil pass0 rfl BN.g (pa_cons (pv 1) pa_nil)))) pss_nil)
      (pss_one (ps_ret (pe_callTy call_list_of rfl gL boot_list (pa_cons (pe_dget hu (pe_fld (pv 0) rfl) (pv 1) (fun _ _ => rfl)) pa_nil)))), ?_⟩
    rcases h with ⟨n, rfl, hn, k⟩ | ⟨hb, k⟩
    · obtain ⟨i, hi⟩ := List.getElem?_of_mem (M.pm.mem_iff.mpr hn)
      obtain ⟨a, haI⟩ : ∃ a, as[i]? = some a := ⟨as[i]'(by
        rcases Nat.lt_or_ge i ys.length with q | q
        · omega
        · rw [List.getElem?_eq_none q] at hi
          cases hi), List.getElem?_eq_getElem _⟩
      have hv := valV_zip ha ndY hi haI
      refine ⟨_, rfl, _, rfl, m, C0, dx, _, _, rfl, hm, MC.c, MC.n2, rfl, _, rd, rfl, .inl ⟨n, _, rfl, hrd, ?_⟩⟩
      rw [hv]
      refine ⟨true, rfl, iteF ?_⟩
      refine ⟨_, rfl, m, C0, dx, _, _, rfl, hm, MC.c, MC.n2, rfl, _, rfl, rd, .ref a, rfl, ?_, a, _, rfl, .inl (SqL.of (hrows i n a hi haI)), fun l hl => k l hl⟩
      rw [← hv]
      exact DGet.k (k := Sum.inr n) hrd
    · have fin : ∀ a, H a = none → spI1 K "thing" (.ref a :: ([v] ++ [])) (upd H a (exo a (He.ga K "NoPerson") none)) (fun u H2 => u = .non ∧ ∃ (d : Addr) (fs : List (Str × V)), H2 a = some (exo a (He.ga K "NoPerson") (some d)) ∧ H2 d = some (exd d fs) ∧ H d = none ∧ E (.ref (He.ga K "NoPerson")) (some d) (upd (del H2 a) d (.xd fs))) (fun _ _ _ => False) :=
        raised1 BN.ox BN.no fun H' d s n e => k H' d s e
      rcases hb with ⟨x, rfl, hx⟩ | hb
      · refine ⟨_, rfl, _, rfl, m, C0, dx, _, _, rfl, hm, MC.c, MC.n2, rfl, _, rd, rfl, .inl ⟨x, _, rfl, hrd, ?_⟩⟩
        rw [valV_zip_none (fun z => hx (M.pm.mem_iff.mp z))]
        exact ⟨false, rfl, iteT ⟨_, rfl, (show 1 ≤ 1000 by decide), fin⟩⟩
      · exact ⟨_, rfl, _, rfl, m, C0, dx, _, _, rfl, hm, MC.c, MC.n2, rfl, _, rd, rfl, .inr ⟨hb, false, rfl, iteT ⟨_, rfl, (show 1 ≤ 1000 by decide), fin⟩⟩⟩
end
end Mn
/-! Market.__eq__ -/
namespace Mn
open PySem PySem.Spec PyProof.Rows L2 Md Me Ml LamX
/-! ### lists of texts as data -/
theorem dp_strs {K : PySem.W.Frag} {H : Hp} : ∀ ns : List Str, DpAll K H (ns.map V.str) (ns.map PyData.str)
  | [] => .nil
  | n :: r => .cons (.str n) (dp_strs r)
def StrsOk (ns : List Str) : Prop := ∀ n ∈ ns, PyData.strOk n = true
theorem canLay_strs : ∀ ns : List Str, StrsOk ns → PyData.canLayAll0 (ns.map PyData.str) = true
  | [], _ => by simp [PyData.canLayAll0]
  | n :: r, h => by simp [PyData.canLayAll0, PyData.canLay0, canLay_strs r (fun m hm => h m (by simp [hm])), h n (by simp)]
theorem depth_strs : ∀ ns : List Str, PyData.depthAll (ns.map PyData.str) ≤ 1
  | [] => by simp [PyData.depthAll]
  | n :: r => by
    have := depth_strs r
    simp [PyData.depthAll, PyData.depth]
    omega
theorem shaped_strs {ns : List Str} (h : StrsOk ns) : SeqAt.shaped (.list (ns.map PyData.str)) = true := by
  have h1 := canLay_strs ns h
  have h2 := depth_strs ns
  simp [SeqAt.shaped, PyData.canLay0, PyData.depth, h1]
  omega
theorem eqvAll_strs : ∀ ns ms : List Str, PyData.eqvAll (ns.map PyData.str) (ms.map PyData.str) = decide (ns = ms)
  | [], [] => by simp [PyData.eqvAll]
  | [], m :: ms => by simp [PyData.eqvAll]
  | n :: ns, [] => by simp [PyData.eqvAll]
  | n :: ns, m :: ms => by
    have ih := eqvAll_strs ns ms
    simp only [List.map_cons, PyData.eqvAll, PyData.eqv, ih]
    by_cases h : n = m
    · by_cases h2 : ns = ms
      · simp [h, h2]
      · simp [h, h2]
    · simp [h]
theorem eqv_strs (ns ms : List Str) : PyData.eqv (.list (ns.map PyData.str)) (.list (ms.map PyData.str)) = decide (ns = ms) := by
  simp only [PyData.eqv]
  exact eqvAll_strs ns ms
/-! ### dicts of lists of texts compared -/
/-- the value of an entry against the other dict's -/
def RowEqB (H : Hp) (ls : List (Key × V)) (p : Key × V) (b : Bool) : Prop := ∃ (a q : Addr) (r r' : List Str), p.2 = .ref a ∧ valV ls p.1 = some (.ref q) ∧ H a = some (.lst (r.map V.str)) ∧ H q = some (.lst (r'.map V.str)) ∧ StrsOk r ∧ StrsOk r' ∧ b = decide (r = r')
def rEqRows : R2 := fun x y H Q => ∃ a b ks ls bs, x = .ref a ∧ y = .ref b ∧ H a = some (.dK ks) ∧ H b = some (.dK ls) ∧ ks.length = ls.length ∧ Paired (RowEqB H ls) ks bs ∧ Q (.bl (bs.all id)) H
section
variable {X : Cx}
theorem hits_rows {pins : List (Addr × Obj)} {σ : L2.St} {H : Hp} {s : Shared} (I : Inv X pins σ H s) (hu : X.A.in1.units + 64 < cLine) {ls : List (Key × V)} {vb : List (Key × Value)} (rb : KV ls vb) {ks : List (Key × V)} {va : List (Key × Value)} (ra : KV ks va) :
    ∀ {bs : List Bool}, Paired (RowEqB H ls) ks bs → PySem.W.KeqHitsP X.prog X.w X.A.in1 s vb va (bs.all id) := by
  unfold KV at ra
  induction ra with
  | nil =>
    intro bs hp
    cases hp
    exact .nil
  | @cons p q ps qs h t k =>
    intro bs hp
    cases hp with
    | @cons _ b _ bs hb hp =>
      obtain ⟨h1, h2⟩ := h
      obtain ⟨a, q', r, r', e1, e2, ha, hq, o1, o2, rfl⟩ := hb
      have rr : RelO (some (.ref q')) (valueAt vb p.1) := by
        rw [← e2]
        exact rb.val p.1
      obtain ⟨y, hy, ry⟩ := rr.some_of
      obtain ⟨key, v⟩ := q
      have h1' : p.1 = key := h1
      rw [h1'] at hy
      rw [List.all_cons]
      obtain ⟨as, r1⟩ := Dp.reads I _ _ v (.lst (SqL.of ha) (dp_strs r)) (by rw [← e1]; exact h2)
      obtain ⟨cs, r2⟩ := Dp.reads I _ _ y (.lst (SqL.of hq) (dp_strs r')) ry
      refine .hit hy (fun E Q hq => ?_) (k hp)
      have z := PySem.W.keq_at r1 r2 (shaped_strs o1) (shaped_strs o2) hu
      rw [eqv_strs] at z
      exact z X.prog X.w E Q hq
theorem op_eqRows (hu : X.A.units + 66 < cLine) : OpR X (compareOp .Eq) rEqRows := by
  intro pins s σ H x y v u Q I rx ry h
  obtain ⟨a, b, ks, ls, bs, rfl, rfl, ea, eb, hlen, hp, q⟩ := h
  obtain rfl : v = Value.ref a := rx
  obtain rfl : u = Value.ref b := ry
  obtain ⟨_, ya, va, ra, da⟩ := (show ObjOk X.prog X.w H s.heap a (.dK ks) from I.hok a _ ea)
  obtain ⟨_, yb, vb, rb, db⟩ := (show ObjOk X.prog X.w H s.heap b (.dK ls) from I.hok b _ eb)
  have hl : va.length = vb.length := by
    rw [← ra.length, ← rb.length]
    exact hlen
  refine PySem.W.rcP_dicts (knd := mixKind X.prog X.w) (r := bs.all id) ya yb da db (by omega) (fun _ => hits_rows I (by show X.A.units + 1 + 64 < cLine; omega) rb ra hp) _ _ ?_
  refine ⟨.bl (bs.all id), H, I, ?_, q⟩
  show _ = Value.bool (bs.all id)
  rw [hl]
  simp
end
end Mn
/-! sorted of lists of texts -/
namespace Mn
open PySem PySem.Spec PyProof.Rows L2 Md
/-- in what order rows of texts stand -/
def rowLe {β : Type} (M : β → List Str) : β → β → Bool := PySem.W.dataLe false fun x => PyData.list ((M x).map PyData.str)
def rSortedR (K : PySem.W.Frag) : List V → Hp → VK → Prop := fun vs H Q => ∃ (a : Addr) (xs : List Addr) (M : Addr → List Str), vs = [V.ref a] ∧ SqL K H a (xs.map V.ref) ∧ (∀ x ∈ xs, SqL K H x ((M x).map V.str)) ∧ xs.length ≤ 1000 ∧
  ∀ p, H p = none → Q (.ref p) (upd H p (.lst ((xs.mergeSort (rowLe M)).map V.ref)))
theorem alike_strs : ∀ xs ys : List Str, PySem.W.alikeAll (xs.map PyData.str) (ys.map PyData.str) = true
  | [], [] => rfl
  | [], _ :: _ => rfl
  | _ :: _, [] => rfl
  | x :: xs, y :: ys => by
    show PySem.W.alikeAll (PyData.str x :: xs.map PyData.str) (PyData.str y :: ys.map PyData.str) = true
    rw [PySem.W.alikeAll, alike_strs xs ys]
    rfl
section
variable {X : Cx}
theorem vals_refs : ∀ (xs : List Addr), Vals (xs.map V.ref) (xs.map Value.ref)
  | [] => .nil
  | x :: xs => .cons (show RelV (.ref x) (.ref x) from rfl) (vals_refs xs)
theorem refs_eq : ∀ {xs : List Addr} {its : List Value}, Vals (xs.map V.ref) its → its = xs.map Value.ref
  | [], _, h => by
    cases h
    rfl
  | x :: xs, _, h => by
    cases h with
    | cons r1 r2 =>
      rw [refs_eq r2]
      have e := r1
      rw [show _ = Value.ref x from e]
      rfl
theorem each_refs {R : Value → Addr → Prop} : ∀ {xs : List Addr}, (∀ x ∈ xs, R (.ref x) x) → PySem.W.EachIs R (xs.map Value.ref) xs
  | [], _ => .nil
  | x :: xs, h => .cons (h x (by simp)) (each_refs fun y hy => h y (by simp [hy]))
theorem each_back : ∀ {out : List Value} {ys : List Addr}, PySem.W.EachIs (fun v b => v = Value.ref b) out ys → out = ys.map Value.ref
  | _, _, .nil => rfl
  | _, _, .cons h r => by
    rw [h, each_back r]
    rfl
theorem cr_sortedR (hu : X.A.units + 64 < cLine) : CallR X (.builtin "sorted") (rSortedR X.K) := by
  intro pins s σ H vs us Q I r h
  obtain ⟨a, xs, M, rfl, hs, hM, hn, q⟩ := h
  obtain ⟨its, rv, hl, hz⟩ := I.list hs
  rw [Vals.ref1 r]
  have ei := refs_eq rv
  subst ei
  have hlx : xs.length ≤ sizeLine := Nat.le_trans hn (by decide)
  refine PySem.W.sorted_data (bs := xs) (R := fun v b => v = Value.ref b) (enc := fun x => PyData.list ((M x).map PyData.str)) hl.isList (each_refs fun x _ => rfl) (each_refs fun x hx => ?_) (PySem.W.AllAlike.of fun b b' => ?_) (PySem.W.Sortable.others fun b => ⟨(fun z => by cases z), fun ys z => by cases z⟩) hlx (fun b hb => ?_) fun out h1 h2 => ?_
  · exact Dp.reads I (.list ((M x).map PyData.str)) (.ref x) (.ref x) (.lst (hM x hx) (dp_strs (M x))) rfl
  · show PySem.W.alike (.list _) (.list _) = true
    rw [PySem.W.alike]
    exact alike_strs _ _
  · show X.A.units + 2 + PyData.depth (.list ((M b).map PyData.str)) < cLine
    have : PyData.depth (.list ((M b).map PyData.str)) = 1 + PyData.depthAll ((M b).map PyData.str) := by
      simp only [PyData.depth]
      omega
    rw [this]
    have := depth_strs (ns := M b)
    omega
  · have eo := each_back h2
    obtain ⟨ep, he'⟩ := PyProof.Rows.sortedAll_at s.heap (xs.map Value.ref) (List.toArray out)
    have hlen : ((xs.mergeSort (rowLe M)).map V.ref).length ≤ sizeLine := by
      rw [List.length_map, (List.mergeSort_perm xs _).length_eq]
      exact hlx
    refine ⟨.ref _, upd H (s.heap.objs.size + 1) (.lst ((xs.mergeSort (rowLe M)).map V.ref)), I.laid (t' := s.toks) (fun _ _ => PyProof.Rows.sortedAll_old) (Nat.le_succ _) ⟨hlen, out, ep, ?_, he'⟩, rfl, q _ (I.hok.fresh (Nat.le_succ _))⟩
    rw [eo]
    exact vals_refs _
end
end Mn
/-! min of texts -/
namespace Mn
open PySem PySem.Spec PyProof.Rows L2 Md
def rMinS (K : PySem.W.Frag) : List V → Hp → VK → Prop := fun vs H Q => ∃ (a : Addr) (xs : List Str), vs = [V.ref a] ∧ SqL K H a (xs.map V.str) ∧ xs ≠ [] ∧ ∀ m, m ∈ xs → (∀ y ∈ xs, m.cps.toList ≤ y.cps.toList) → Q (.str m) H
theorem minD_strs : ∀ (xs : List Str) (x : Str), ∃ m, PySem.W.minD (PyData.str x) (xs.map PyData.str) = .str m ∧ m ∈ x :: xs ∧ ∀ y ∈ x :: xs, m.cps.toList ≤ y.cps.toList
  | [], x => ⟨x, rfl, by simp, fun y hy => by
    rw [List.mem_singleton.mp hy]
    exact List.le_refl _⟩
  | y :: xs, x => by
    obtain ⟨z, hz⟩ : ∃ z : Str, z = if y.cps.toList < x.cps.toList then y else x := ⟨_, rfl⟩
    obtain ⟨m, e, hm, hl⟩ := minD_strs xs z
    have zx : z.cps.toList ≤ x.cps.toList ∧ z.cps.toList ≤ y.cps.toList ∧ (z = y ∨ z = x) := by
      by_cases c : y.cps.toList < x.cps.toList
      · rw [if_pos c] at hz
        rw [hz]
        exact ⟨List.le_of_lt c, List.le_refl _, .inl rfl⟩
      · rw [if_neg c] at hz
        rw [hz]
        exact ⟨List.le_refl _, List.not_lt.mp c, .inr rfl⟩
    refine ⟨m, ?_, ?_, fun u hu => ?_⟩
    · show ((y :: xs).map PyData.str).foldl _ (PyData.str x) = _
      rw [List.map_cons, List.foldl_cons]
      have : (if PySem.W.dataLt (PyData.str y) (PyData.str x) = true then PyData.str y else PyData.str x) = PyData.str z := by
        rw [PySem.W.dataLt_str]
        by_cases c : y.cps.toList < x.cps.toList
        · rw [if_pos c] at hz
          rw [if_pos (decide_eq_true c), hz]
        · rw [if_neg c] at hz
          rw [if_neg (by simpa using c), hz]
      rw [this]
      exact e
    · rcases List.mem_cons.mp hm with rfl | hm
      · rcases zx.2.2 with e | e
        · rw [e]
          simp
        · rw [e]
          simp
      · simp [hm]
    · rcases List.mem_cons.mp hu with rfl | hu
      · exact List.le_trans (hl z (by simp)) zx.1
      · rcases List.mem_cons.mp hu with rfl | hu
        · exact List.le_trans (hl z (by simp)) zx.2.1
        · exact hl u (by simp [hu])
theorem readsAll_strs {h : Heap} : ∀ {xs : List Str} {its : List Value}, Vals (xs.map V.str) its → ∃ as, ReadsAll h its (xs.map PyData.str) as
  | [], _, r => by
    cases r
    exact ⟨_, .nil⟩
  | x :: xs, _, r => by
    cases r with
    | cons r1 r2 =>
      obtain ⟨t, e⟩ := r1
      subst e
      obtain ⟨as, ra⟩ := readsAll_strs (h := h) r2
      exact ⟨_, .cons (.str _ _) ra⟩
section
variable {X : Cx}
theorem cr_minS (hc : X.calm = true) (hu : X.A.units + 64 < cLine) : CallR X (.builtin "min") (rMinS X.K) := by
  intro pins s σ H vs us Q I r h
  obtain ⟨a, xs, rfl, hs, hne, q⟩ := h
  obtain ⟨its, rv, hl, _⟩ := I.list hs
  rw [Vals.ref1 r]
  obtain ⟨x, xs', rfl⟩ : ∃ x xs', xs = x :: xs' := by
    cases xs with
    | nil => exact absurd rfl hne
    | cons x r => exact ⟨x, r, rfl⟩
  obtain ⟨as, ra⟩ := readsAll_strs (h := s.heap) rv
  have hd := depth_strs (ns := x :: xs')
  refine PySem.W.min_list_data (x := .str x) (xs := xs'.map PyData.str) (I.ok.hd hc) hl.isList ra ⟨fun d hd e he => ?_, fun d hd => ?_⟩ (by
    have : PyData.depthAll (PyData.str x :: xs'.map PyData.str) ≤ 1 := hd
    show X.A.units + 1 + _ < cLine
    omega) fun i v h' tk bs hv hr hk => ?_
  · obtain ⟨u, _, rfl⟩ := List.mem_map.mp (show d ∈ (x :: xs').map PyData.str from hd)
    obtain ⟨v, _, rfl⟩ := List.mem_map.mp (show e ∈ (x :: xs').map PyData.str from he)
    rfl
  · obtain ⟨u, _, rfl⟩ := List.mem_map.mp (show d ∈ (x :: xs').map PyData.str from hd)
    exact fun z => by cases z
  · obtain ⟨m, e, h1, h2⟩ := minD_strs xs' x
    rw [e] at hr
    cases hr
    exact ⟨.str m, H, I.kept hk, ⟨_, rfl⟩, q m h1 h2⟩
end
end Mn
/-! sorted of pairs of texts -/
namespace Mn
open PySem PySem.Spec PyProof.Rows L2 Md
/-- in what order pairs of texts stand -/
def pairLe {β : Type} (M : β → Str × Str) : β → β → Bool := PySem.W.dataLe false fun x => PyData.tuple [.str (M x).1, .str (M x).2]
def rSortedP (K : PySem.W.Frag) : List V → Hp → VK → Prop := fun vs H Q => ∃ (a : Addr) (xs : List Addr) (M : Addr → Str × Str), vs = [V.ref a] ∧ SqL K H a (xs.map V.ref) ∧ (∀ x ∈ xs, SqT K H x [.str (M x).1, .str (M x).2]) ∧ xs.length ≤ 1000 ∧
  ∀ p, H p = none → Q (.ref p) (upd H p (.lst ((xs.mergeSort (pairLe M)).map V.ref)))
section
variable {X : Cx}
theorem cr_sortedP (hu : X.A.units + 64 < cLine) : CallR X (.builtin "sorted") (rSortedP X.K) := by
  intro pins s σ H vs us Q I r h
  obtain ⟨a, xs, M, rfl, hs, hM, hn, q⟩ := h
  obtain ⟨its, rv, hl, hz⟩ := I.list hs
  rw [Vals.ref1 r]
  have ei := refs_eq rv
  subst ei
  have hlx : xs.length ≤ sizeLine := Nat.le_trans hn (by decide)
  refine PySem.W.sorted_data (bs := xs) (R := fun v b => v = Value.ref b) (enc := fun x => PyData.tuple [.str (M x).1, .str (M x).2]) hl.isList (each_refs fun x _ => rfl) (each_refs fun x hx => ?_) (PySem.W.AllAlike.of fun b b' => ?_) (PySem.W.Sortable.tuples fun b => ⟨_, _, rfl⟩) hlx (fun b hb => ?_) fun out h1 h2 => ?_
  · exact Dp.reads I (.tuple [.str (M x).1, .str (M x).2]) (.ref x) (.ref x) (.tup (hM x hx) (.cons (.str _) (.cons (.str _) .nil))) rfl
  · rfl
  · show X.A.units + 2 + PyData.depth (.tuple [.str (M b).1, .str (M b).2]) < cLine
    have : PyData.depth (.tuple [.str (M b).1, .str (M b).2]) ≤ 3 := by
      simp [PyData.depth, PyData.depthAll]
    omega
  · have eo := each_back h2
    obtain ⟨ep, he'⟩ := PyProof.Rows.sortedAll_at s.heap (xs.map Value.ref) (List.toArray out)
    have hlen : ((xs.mergeSort (pairLe M)).map V.ref).length ≤ sizeLine := by
      rw [List.length_map, (List.mergeSort_perm xs _).length_eq]
      exact hlx
    refine ⟨.ref _, upd H (s.heap.objs.size + 1) (.lst ((xs.mergeSort (pairLe M)).map V.ref)), I.laid (t' := s.toks) (fun _ _ => PyProof.Rows.sortedAll_old) (Nat.le_succ _) ⟨hlen, out, ep, ?_, he'⟩, rfl, q _ (I.hok.fresh (Nat.le_succ _))⟩
    rw [eo]
    exact vals_refs _
end
end Mn
/-! list(d.items()) of such a dict, list(d.values()) of a dict -/
namespace Mo
open PySem PySem.Spec PyProof.Rows L2
section
variable {prog : Program} {w : World} {A : Around} {E : Value → Shared → Prop} {s : Shared} {r d : Addr} {e : DictEntry} {ep : Nat}
theorem one_loop {S I : Addr} {R : Result → Shared → Prop} (hh : A.handled = none) (hSI : S < I) (hSd : d ≠ S) (hId : d ≠ I) (res : Value) {h : Heap} {tk c : Nat} (hit : IsItemIter h I d 0 1 ep .none .none) (raw : h.DictRaw d #[e] ep) (hS : h.get? S = some { cls := .type "list", data := .seq #[] c })
    (hR : ∀ h' tk' c' T, (∀ b o, b ≠ S → b ≠ I → h.get? b = some o → h'.get? b = some o) → h.objs.size ≤ T → h'.get? S = some { cls := .type "list", data := .seq #[.ref T] c' } → h'.get? T = some { cls := .type "tuple", data := .seq #[e.key, e.val] } → R (.ok (.ret res)) { s with heap := h', toks := tk' }) :
    codeAny (model prog w) A (.builtin "list.extend.loop" ⟨[.ref S, .ref I, res], []⟩) R { s with heap := h, toks := tk } := by
  have hne : S ≠ I := Nat.ne_of_lt hSI
  have hIl : I < h.objs.size := Heap.lt_size hit
  refine codeAny_builtin PySem.F.entry_extend_loop ?_
  rw [Around.under_plainId PySem.F.plain_extend_loop _]
  show wpAny _ A.in1 (pyNext (.ref I) >>= _) _ _ _
  refine wpAny_bind (wpAny_pyNext_items_item_raw (s := { s with heap := h, toks := tk }) (A := A.in1) hit raw (by simp) fun h1 hit1 hT hz hk => ?_)
  dsimp only at hT hz hk ⊢
  have hS1 := hk S _ hne hS
  have hSl : S < h.objs.size := Heap.lt_size hS
  have up : ∀ b o, b ≠ S → h1.get? b = some o → (h1.update S (Obj.mapSeq (·.push (Value.ref h.objs.size)))).get? b = some o := fun b o hb e => (Heap.get?_update_other _ _ (Ne.symm hb)).trans e
  show wpAny _ A.in1 (updateSeq S (·.push (Value.ref h.objs.size)) >>= _) _ _ _
  refine wpAny_bind ?_
  refine wpAny_updateSeq hS1 rfl (wpAny_pure ⟨plainId_quiet PySem.F.plain_extend_loop _, ?_⟩) (by simp) (by simp [sizeLine_eq])
  have hit2 : PySem.W.KdxIt (h1.update S (Obj.mapSeq (·.push (Value.ref h.objs.size)))) I d 1 1 ep e.key e.val h.objs.size false := up I _ hne.symm hit1
  refine codeAny_builtin PySem.F.entry_extend_loop ?_
  rw [Around.under_plainId PySem.F.plain_extend_loop _]
  show wpAny _ A.in1 (pyNext (.ref I) >>= _) _ _ _
  refine wpAny_bind (wpAny_pyNext_items_end_out_raw (es := #[e]) (s := { s with heap := (h1.update S (Obj.mapSeq (·.push (Value.ref h.objs.size)))), toks := tk }) (A := A.in1) hh hit2 (raw.at fun o q => up d o hSd (hk d o hId q)) (by simp) fun h2 he => ?_)
  refine wpAny_pure (hR h2 tk _ h.objs.size (fun b o b1 b2 q => he b o b2 (up b o b1 (hk b o b2 q))) (Nat.le_refl _) (he S _ hne (Heap.get?_update_self _ hS1 rfl)) (he _ _ (Nat.ne_of_gt hIl) (up _ _ (Nat.ne_of_gt hSl) hT)))
theorem one_extend {R : Result → Shared → Prop} (hh : A.handled = none) (hv : s.heap.IsItemsView r d) (raw : s.heap.DictRaw d #[e] ep) (S : Addr) (hSr : S ≠ r) (hSd : d ≠ S) (res : Value) (c₀ : Nat) (hS : s.heap.get? S = some { cls := .type "list", data := .seq #[] c₀ })
    (hR : ∀ h' tk' c' T, (∀ b o, b ≠ S → s.heap.get? b = some o → h'.get? b = some o) → s.heap.objs.size ≤ T → h'.get? S = some { cls := .type "list", data := .seq #[.ref T] c' } → h'.get? T = some { cls := .type "tuple", data := .seq #[e.key, e.val] } → R (.ok (.ret res)) { s with heap := h', toks := tk' }) :
    wpAny (model prog w) A.in1 (Builtin.List.listExtendWith (.ref S) (.ref r) res)
      (fun fin s' => match fin with | .done f => R (.ok f) s' | .again c' => c'.quiet = true ∧ codeAny (model prog w) A c' R s') (fun e s' => R (.error e) s') s := by
  have hSI : S < s.heap.objs.size := Heap.lt_size hS
  have hdI : d < s.heap.objs.size := raw.lt_size
  have key : ∀ (h : Heap) (c₁ tk : Nat), (∀ b o, b ≠ S → (s.heap.push { cls := .type "dict_itemiterator", data := .fields #[.none, .bool false, .ref d, .int 0 0, .int (#[e] : Array DictEntry).size 0, .int ep 0, .none, .none] }).get? b = some o → h.get? b = some o) →
      h.get? S = some { cls := .type "list", data := .seq #[] c₁ } → s.heap.objs.size ≤ h.objs.size → codeAny (model prog w) A (.builtin "list.extend.loop" ⟨[.ref S, .ref s.heap.objs.size, res], []⟩) R { s with heap := h, toks := tk } := by
    intro h c₁ tk hk hS₁ hle
    have hI := hk s.heap.objs.size _ (Nat.ne_of_gt hSI) (Heap.get?_push_size _ rfl)
    refine one_loop (e := e) (ep := ep) hh hSI hSd (Nat.ne_of_lt hdI) res hI (raw.at fun o q => hk d o hSd (Heap.get?_push_of_some _ q)) hS₁ fun h' tk' c' T k1 k2 k3 k4 => hR h' tk' c' T (fun b o hb q => k1 b o hb (Nat.ne_of_lt (Heap.lt_size q)) (hk b o hb (Heap.get?_push_of_some _ q))) (Nat.le_trans hle k2) k3 k4
  unfold Builtin.List.listExtendWith
  refine wpAny_bind (wpAny_typeOf (T := "dict_items") hv.typeIs ?_)
  have h1 : Builtin.List.listSameRef (.ref S) (.ref r) = false := by simp [Builtin.List.listSameRef, hSr]
  have h2 : (Value.type "dict_items" == Value.type "list") = false := by decide
  have h3 : (Value.type "dict_items" == Value.type "tuple") = false := by decide
  simp only [h1, h2, h3, Bool.or_false, Bool.false_eq_true, if_false]
  refine wpAny_bind (wpAny_pyIter_items_raw hv raw ?_)
  have hS₁ := Heap.get?_push_of_some { cls := .type "dict_itemiterator", data := .fields #[.none, .bool false, .ref d, .int 0 0, .int (#[e] : Array DictEntry).size 0, .int ep 0, .none, .none] } hS
  refine wpAny_bind (wpAny_holding (PySem.W.kdx_hint (let ⟨o, ho, hc, _⟩ := hv; ⟨o, Heap.get?_push_of_some _ ho, hc⟩) ?_))
  refine wpAny_ite_split (fun _ => ?_) (fun _ => wpAny_pure ⟨plainId_quiet PySem.F.plain_extend_loop _, key _ c₀ _ (fun b o _ e => e) hS₁ (by rw [Heap.size_push]; omega)⟩)
  refine wpAny_bind (wpAny_rule ?_)
  refine wpAny_bind ?_
  show wpAny _ _ (updateSeq S (·.push .none) >>= fun _ => updateSeq S (·.pop)) _ _ _
  refine wpAny_bind (wpAny_updateSeq hS₁ rfl ?_)
  have hS₂ := Heap.get?_update_self (Obj.mapSeq (·.push Value.none)) hS₁ rfl
  refine wpAny_updateSeq (hz := by seq_fits) hS₂ rfl ?_
  have hS₃ := Heap.get?_update_self (Obj.mapSeq (·.pop)) hS₂ rfl
  refine wpAny_pure ⟨plainId_quiet PySem.F.plain_extend_loop _, key _ _ _ (fun b o hb e => ?_) hS₃ (by rw [Heap.size_update, Heap.size_update, Heap.size_push]; omega)⟩
  exact (Heap.get?_update_other _ _ (Ne.symm hb)).trans ((Heap.get?_update_other _ _ (Ne.symm hb)).trans e)
theorem one_call {Q : Value → Shared → Prop} (hh : A.handled = none) (hv : s.heap.IsItemsView r d) (raw : s.heap.DictRaw d #[e] ep)
    (hQ : ∀ h' tk c T, (∀ b o, s.heap.get? b = some o → h'.get? b = some o) → s.heap.objs.size < T → h'.get? s.heap.objs.size = some { cls := .type "list", data := .seq #[.ref T] c } → h'.get? T = some { cls := .type "tuple", data := .seq #[e.key, e.val] } → Q (.ref s.heap.objs.size) { s with heap := h', toks := tk }) :
    wpAny (model prog w) A (call (.type "list") [.ref r]) Q E s := by
  refine callType_codes (Q₁ := fun obj s₁ => obj = .ref s.heap.objs.size ∧ s₁ = { s with heap := s.heap.push { cls := .type "list", data := .seq #[] } }) PySem.F.called_list (PySem.F.typeCall_list_1 _) PySem.F.entry_list_init
    (code_list_new _ ⟨rfl, rfl⟩) fun obj s₁ h₁ => ?_
  obtain ⟨rfl, rfl⟩ := h₁
  have hS : (s.heap.push { cls := .type "list", data := .seq #[] }).get? s.heap.objs.size = some { cls := .type "list", data := .seq #[] } := Heap.get?_push_size _ rfl
  have hr : r < s.heap.objs.size := let ⟨_, ho, _⟩ := hv; Heap.lt_size ho
  have hd : d < s.heap.objs.size := raw.lt_size
  refine ⟨⟨_, hS, rfl⟩, PySem.F.args_list_init_2 _ _, ?_⟩
  show wpAny _ A.in1.in1 (do let old ← Builtin.List.listItems (.ref s.heap.objs.size); Builtin.List.listUpdate (.ref s.heap.objs.size) (fun _ => #[]); letGo old.toList.reverse; Builtin.List.listExtendWith (.ref s.heap.objs.size) (.ref r) .none) _ _ _
  refine wpAny_bind ?_
  unfold Builtin.List.listItems
  refine wpAny_bind (wpAny_seqItems hS rfl (wpAny_pure ?_))
  show wpAny _ _ (updateSeq s.heap.objs.size (fun _ => #[]) >>= fun _ => letGo (#[] : Array Value).toList.reverse >>= fun _ => Builtin.List.listExtendWith (.ref s.heap.objs.size) (.ref r) .none) _ _ _
  refine wpAny_bind (wpAny_updateSeq hS rfl ?_)
  have hS₂ := Heap.get?_update_self (Obj.mapSeq (fun _ => (#[] : Array Value))) hS rfl
  have oth : ∀ b o, b ≠ s.heap.objs.size → (s.heap.push { cls := .type "list", data := .seq #[] }).get? b = some o → ((s.heap.push { cls := .type "list", data := .seq #[] }).update s.heap.objs.size (Obj.mapSeq (fun _ => (#[] : Array Value)))).get? b = some o :=
    fun b o hb e => (Heap.get?_update_other _ _ (Ne.symm hb)).trans e
  have old : ∀ b o, s.heap.get? b = some o → b ≠ s.heap.objs.size := fun b o q => Nat.ne_of_lt (Heap.lt_size q)
  refine wpAny_bind (wpAny_letGo ?_)
  refine one_extend (A := A.in1) (e := e) (ep := ep) hh (let ⟨o, ho, x⟩ := hv; ⟨o, oth r o (Nat.ne_of_lt hr) (Heap.get?_push_of_some _ ho), x⟩) (raw.at fun o q => oth d o (Nat.ne_of_lt hd) (Heap.get?_push_of_some _ q)) s.heap.objs.size (Nat.ne_of_gt hr) (Nat.ne_of_lt hd) .none _ hS₂ (fun h' tk c T k1 k2 k3 k4 => ?_)
  refine ⟨rfl, hQ h' tk c T (fun b o q => k1 b o (old b o q) (oth b o (old b o q) (Heap.get?_push_of_some _ q))) ?_ k3 k4⟩
  have : s.heap.objs.size + 1 ≤ T := by
    refine Nat.le_trans ?_ k2
    show s.heap.objs.size + 1 ≤ ((s.heap.push { cls := .type "list", data := .seq #[] }).update s.heap.objs.size (Obj.mapSeq (fun _ => (#[] : Array Value)))).objs.size
    rw [Heap.size_update, Heap.size_push]
    exact Nat.le_refl _
  exact this
end
def rItemsO : V → Hp → VK → Prop := fun x H Q => ∃ (d : Addr) (o : Obj) (k v : V), x = .ref d ∧ H d = some (Od d o k v) ∧
  ∀ (p T : Addr), H p = none → H T = none → p ≠ T → Q (.ref p) (upd (upd H p (.lst [.ref T])) T (.tup [k, v]))
def tListItemsO (te : TE) : TE := fun σ H Q => te σ H fun x H1 => rItemsO x H1 Q
section
variable {X : Cx} {e : Expr} {te : TE} {p apos cpos pos : Pos}
theorem two_laid {pins : List (Addr × Obj)} {σ : L2.St} {H : Hp} {s : Shared} {h' : Heap} {tk : Nat} {S T : Addr} {o1 o2 : HO} (I : Inv X pins σ H s) (hk : ∀ b o, s.heap.get? b = some o → h'.get? b = some o) (hS : s.heap.objs.size ≤ S) (hT : s.heap.objs.size ≤ T) (ne : S ≠ T)
    (new1 : ObjOk X.prog X.w (upd (upd H S o1) T o2) h' S o1) (new2 : ObjOk X.prog X.w (upd (upd H S o1) T o2) h' T o2) : Inv X pins σ (upd (upd H S o1) T o2) { s with heap := h', toks := tk } := by
  have nS : H S = none := I.hok.fresh hS
  have nT : H T = none := I.hok.fresh hT
  have off : ∀ b, b ≠ S → b ≠ T → upd (upd H S o1) T o2 b = H b := fun b h1 h2 => by rw [upd_ne h2, upd_ne h1]
  have low : ∀ b o, s.heap.get? b = some o → b ≠ S ∧ b ≠ T := fun b o q => ⟨Nat.ne_of_lt (Nat.lt_of_lt_of_le (Heap.lt_size q) hS), Nat.ne_of_lt (Nat.lt_of_lt_of_le (Heap.lt_size q) hT)⟩
  have kp : ∀ b u, H b = some u → upd (upd H S o1) T o2 b = some u := fun b u q => by
    rw [off b (ne_of_none q nS) (ne_of_none q nT)]
    exact q
  refine I.call' (ch := []) rfl ⟨fun b o q _ _ _ => hk b o q, fun b o q _ _ _ => ⟨o.slots, hk b o q⟩, fun b o q n _ => ?_, fun b o q _ => ⟨o, hk b o q⟩, fun b xs q => kp b _ q, fun b o u q => kp b _ q, fun b ps q => ⟨#[], by rw [kp b _ q]; simp⟩⟩ (fun b u q => ?_) I.bare fun b z => by simp at z
  · obtain ⟨z1, z2⟩ := low b o q
    rw [off b z1 z2]
    exact n
  · by_cases hb : b = T
    · subst hb
      rw [upd_same] at q
      cases q
      exact new2
    · by_cases hb2 : b = S
      · subst hb2
        rw [upd_ne ne, upd_same] at q
        cases q
        exact new1
      · rw [off b hb2 hb] at q
        exact (I.hok b u q).stay (fun d v _ y => hk d v y) (fun d y => kp d _ y) fun d xs y => kp d _ y
/-- list(e.items()), one entry -/
theorem pe_listItemsO (hc : X.calm = true) (he : PE X e te) (hg : Gl X "list") (hm : X.mg "list" = none) (hv : bootBuiltins "list" = some (.type "list")) (hbase : attributeBase e "items" X.env (eval e X.env) = eval e X.env := by rfl) (hline : (apos.endLine == cpos.line) = true := by rfl)
    (hs : starEach [.Call (.Attribute e "items" apos) [] [] cpos] X.env = (false, eval (.Call (.Attribute e "items" apos) [] [] cpos) X.env) :: starEach [] X.env := by rfl) :
    PE X (.Call (.Name "list" p) [.Call (.Attribute e "items" apos) [] [] cpos] [] pos) (tListItemsO te) := by
  refine ⟨fun pins s σ H Q I hq => ?_⟩
  refine wpAny_Call_Name_kw (ld_blt I hg hm hv ?_)
  refine PyProof.Rows.callWith_type1 ?_ hs rfl
  rw [hs]
  show wpAny _ _ (spliced ((false, eval (.Call (.Attribute e "items" apos) [] [] cpos) X.env) :: backTo pos (starEach [] X.env))) _ _ s
  refine Calls.spliced_cons ?_
  refine wpAny_Call_method (T := "dict") (id := "dict.items") hbase rfl hline F.plainAttrs_dict F.slot_dict_items F.type_dict_items (thn (he.run pins s σ H _ I hq) fun u s1 ⟨x, H1, I1, rx, d, o, k, v, ex, hd, q⟩ => ?_)
  subst ex
  obtain rfl : u = Value.ref d := rx
  have op := od_of I1 hd
  obtain ⟨en, ep, raw, hod, rk, rv⟩ := op.raw
  have I2 : Inv X pins σ H1 { s1 with heap := s1.heap.push { cls := .type "dict_items", data := .fields #[.ref d] } } := I1.kept (t' := s1.toks) fun b ob q => Heap.get?_push_of_some _ q
  refine ⟨raw.typeIs, fun b z => by cases z; exact ⟨o, op.get, op.ex.2.1⟩, ?_⟩
  show wpAny _ _ (callWith cpos (.builtin "dict.items") [.ref d] [] []) _ X.xe s1
  refine method_meetsIn F.slot_dict_items F.entry_dict_items rfl (PySem.evalArgs_none ⟨rfl, raw.typeIs, F.args_dict_items_1 _, _, meets_dict_items_raw d op.sys, ⟨_, _, raw⟩, ?_⟩)
  refine Calls.spliced_nil ?_
  refine one_call (d := d) (e := en) (ep := ep) (I1.ok.hd hc) ⟨_, Heap.get?_push_size _ rfl, rfl, rfl⟩ (raw.push _) fun h' tk c T k1 k2 k3 k4 => ?_
  have ne : (s1.heap.push { cls := .type "dict_items", data := .fields #[.ref d] }).objs.size ≠ T := Nat.ne_of_lt k2
  have nS := I2.hok.fresh (Nat.le_refl (s1.heap.push { cls := .type "dict_items", data := .fields #[.ref d] }).objs.size)
  have nT : H1 T = none := I2.hok.fresh (Nat.le_of_lt k2)
  refine ⟨.ref _, _, two_laid (tk := tk) I2 k1 (Nat.le_refl _) (Nat.le_of_lt k2) ne ?_ ?_, rfl, q _ T nS nT ne⟩
  · exact ⟨by show 1 ≤ sizeLine; decide, [.ref T], c, .cons rfl .nil, k3⟩
  · exact ⟨by show 2 ≤ sizeLine; decide, [en.key, en.val], .cons rk (.cons rv .nil), ⟨_, k4, rfl, _, rfl⟩⟩
end
end Mo
namespace Md
open PySem PySem.Spec PyProof.Rows L2
section
variable {P : Program} {w : World} {K : PySem.W.Frag} {mg : Str → Option Value} {base : Heap}
theorem scDraw : FnScope ["_law_stream", "_law_many", "_law_cell", "_law_digit", "_law_mixed_here"] ["_law_stream", "_law_many"] (defScope sDraw) := ⟨rfl, rfl, rfl, by decide +kernel, rfl, by decide +kernel, by decide +kernel⟩
theorem ok_draw {f : Addr} {fd : FuncData} (F : Fun K "_law_draw" "_law_draw" sDraw f fd) (gI : mg "int" = none) : FnOk P w K mg base CX0 1 f fd ["_law_stream", "_law_many"] spDraw := by
  refine F.ok scDraw (fun vs H Q E h => ?_) (fun cdv A outer s H vs Q E hr h => ?_)
  · obtain ⟨a, b, ns, p, q, r, m, rfl, _⟩ := h
    rfl
  · obtain ⟨a, b, ns, p, q, r, m, rfl, S, m0, m1, hq, k⟩ := h
    have hu := hu_of hr
    have hu64 : A.units + 3 + 64 < cLine := by
      have := hr.un
      exact Nat.lt_of_le_of_lt (by show A.units + 3 + 64 ≤ A.units + 3 + 16 * 0 + 200; omega) this
    refine ⟨_, pss_cons (ps_asg (pe_op op_add (pe_ix ix_list (pv 0) pe_int (fun _ _ => rfl)) pe_int) (pg_sub (pv 0) pe_int set_list))
      (pss_cons (ps_while PassesOwn.never (PW.pt (pw_and (pt_cmpR op_eq (pe_ix ix_list (pv 0) pe_int (fun _ _ => rfl)) pe_int (nomark _)) (pw_and1 (pt_cmpR (op_neD hu64) (pe_ix ix_list (pv 0) pe_int (fun _ _ => rfl)) (pe_lst pa_nil) (nomark _)))))
        (pss_cons (ps_set (i := 2) scDraw.nd rfl (Or.inl rfl) (pe_bm PySem.F.plainAttrs_list PySem.F.slot_list_pop PySem.F.type_list_pop mt_popAt (pe_ix ix_list (pv 0) pe_int (fun _ _ => rfl)) (pa_cons pe_int pa_nil)))
        (pss_cons (ps_asg (pe_op op_mod (pe_callTy call_int1 rfl gI boot_int (pa_cons (pe_op op_add (pe_op op_add (pe_op op_mul (pe_ix ix_list (pv 0) pe_int (fun _ _ => rfl)) pe_int) (pv 2)) pe_int) pa_nil)) pe_int) (pg_sub (pv 0) pe_int set_list))
        (pss_one (ps_asg (pe_ifExp (pt_cmpR op_ge (pv 2) (pe_op op_pow pe_int pe_int) (nomark _)) (pv 2) pe_int) (pg_sub (pv 0) pe_int set_list))))))
      (pss_cons (ps_if (pt_cmpR op_gt (pe_ix ix_list (pv 0) pe_int (fun _ _ => rfl)) pe_int (nomark _))
        (pss_cons (ps_set (i := 3) scDraw.nd rfl (Or.inl rfl) (pe_op op_mod (pe_callTy call_int1 rfl gI boot_int (pa_cons (pe_ix ix_list (pv 0) pe_int (fun _ _ => rfl)) pa_nil)) (pv 1)))
        (pss_cons (ps_asg (pe_op op_fdiv (pe_ix ix_list (pv 0) pe_int (fun _ _ => rfl)) (pv 1)) (pg_sub (pv 0) pe_int set_list))
        (pss_one (ps_ret (pv 3))))) pss_nil)
      (pss_cons (ps_set (i := 4) scDraw.nd rfl (Or.inl rfl) (pe_op op_mod (pe_callTy call_int1 rfl gI boot_int (pa_cons (pe_op op_pow (pe_op op_add (pe_op op_add (pe_ix ix_list (pv 0) pe_int (fun _ _ => rfl)) (pe_op op_mul pe_int (pe_ix ix_list (pv 0) pe_int (fun _ _ => rfl)))) pe_int) pe_int) pa_nil)) pe_int))
      (pss_one (ps_ret (pe_op op_mod (pe_op op_mod (pe_callTy call_int1 rfl gI boot_int (pa_cons (pe_op op_pow (pe_op op_add (pe_op op_add (pe_op op_mul (pv 4) pe_int) (pe_op op_mul pe_int (pe_ix ix_list (pv 0) pe_int (fun _ _ => rfl)))) pe_int) pe_int) pa_nil)) pe_int) (pv 1))))))), ?_⟩
    refine ⟨_, rfl, a, _, _, _, rfl, rfl, SqL.of S.ha, at2, _, _, rfl, rfl, _, rfl, a, _, _, _, rfl, rfl, S.ha, rfl, ?_⟩
    have q0 := S.q0
    have S1 := S.setA (p' := p) (q' := q + 1) (r' := r) S.p0 (by omega) S.r0 S.r1
    refine while_by2 (fun σ H' => ∃ (ns : List Int) (p r : Int) (c : Option V), σ = [some (.ref a), some (.int m), c, none, none] ∧ Strm H' a b ns p (q + 1) r ∧ KeepBut a b H H')
      (fun _ H' => lenAt H' b) (fun σ H' => ∃ (ns : List Int) (p r : Int) (c : Option V), σ = [some (.ref a), some (.int m), c, none, none] ∧ Strm H' a b ns p (q + 1) r ∧ KeepBut a b H H') ⟨ns, p, r, none, rfl, S1, .atA⟩ ?_ ?_ ?_
    · rintro σ H1 ⟨ns, p, r, c, rfl, S, kp⟩
      refine ⟨_, rfl, a, _, _, _, rfl, rfl, SqL.of S.ha, at1, rfl, _, rfl, ?_⟩
      refine ite2 (fun hp => ?_) (fun hp => iteF ⟨ns, p, r, c, rfl, S, kp⟩)
      refine ⟨_, rfl, a, _, _, _, rfl, rfl, SqL.of S.ha, at0, Nat.zero_le _, fun l hl => ?_⟩
      have S2 := S.new (o := .lst []) hl
      have kp2 : KeepBut a b H (upd H1 l (.lst [])) := kp.trans (.new hl)
      refine ⟨_, _, .lst (SqL.of S2.hb) (dp_ints ns), .lst (SqL.of upd_same) .nil, shaped_ints ns, shaped_ints [], _, rfl, ?_⟩
      rw [eqv_nil]
      cases ns with
      | nil => exact iteF ⟨[], p, r, c, rfl, S2, kp2⟩
      | cons n ns =>
        refine iteT ?_
        refine ⟨_, rfl, a, _, _, _, rfl, rfl, SqL.of S2.ha, at0, .inl ⟨rfl, _, SqL.of S2.hb⟩, b, _, 0, 0, _, rfl, rfl, S2.hb, by decide, by decide, seq0 (by simp), rfl, ?_⟩
        have S3 := S2.setB (ns' := ns)
        have kp3 : KeepBut a b H (upd (upd H1 l (.lst [])) b (.lst (ns.map V.int))) := kp2.trans .atB
        refine ⟨_, rfl, a, _, _, _, rfl, rfl, SqL.of S3.ha, at3, _, _, rfl, rfl, .inr ⟨by decide, by decide⟩, _, rfl, _, _, rfl, rfl, _, _, rfl, rfl, .inl ⟨_, rfl, _, _, rfl, rfl, (by decide : (0 : Int) < 2147483647), _, rfl, a, _, _, _, rfl, rfl, S3.ha, rfl, ?_⟩⟩
        have z0 := Int.emod_nonneg (r * 8191 + n + 3) (by decide : (2147483647 : Int) ≠ 0)
        have z1 := Int.emod_lt_of_pos (r * 8191 + n + 3) (by decide : (0 : Int) < 2147483647)
        have S4 := S3.setA (p' := p) (q' := q + 1) (r' := (r * 8191 + n + 3) % 2147483647) S3.p0 S3.q0 z0 z1
        have kp4 := kp3.trans (KeepBut.atA (o := .lst [.ref b, .int p, .int (q + 1), .int ((r * 8191 + n + 3) % 2147483647)]))
        have fall : ∀ p', lenAt (upd (upd (upd (upd H1 l (.lst [])) b (.lst (ns.map V.int))) a (.lst [.ref b, .int p, .int (q + 1), .int ((r * 8191 + n + 3) % 2147483647)])) a (.lst [.ref b, .int p', .int (q + 1), .int ((r * 8191 + n + 3) % 2147483647)])) b < lenAt H1 b := fun p' => by
          have e : (upd (upd (upd (upd H1 l (.lst [])) b (.lst (ns.map V.int))) a (.lst [.ref b, .int p, .int (q + 1), .int ((r * 8191 + n + 3) % 2147483647)])) a (.lst [.ref b, .int p', .int (q + 1), .int ((r * 8191 + n + 3) % 2147483647)])) b = some (.lst (ns.map V.int)) := by
            rw [upd_ne S.ne.symm]
            exact S4.hb
          rw [lenAt_of e, lenAt_of S.hb]
          simp
        refine ⟨_, rfl, _, _, rfl, rfl, ⟨by decide, by decide, by decide⟩, _, _, rfl, rfl, _, rfl, ?_⟩
        refine ite2 (fun hc => ?_) (fun hc => ?_)
        · have hc' : (10 : Int) ^ (18 : Int).toNat ≤ n := of_decide_eq_true hc
          have n0 : 0 ≤ n := Int.le_trans (by decide) hc'
          refine ⟨_, rfl, _, rfl, a, _, _, _, rfl, rfl, S4.ha, rfl, ?_⟩
          exact ⟨⟨ns, n, _, _, rfl, S4.setA n0 S4.q0 z0 z1, kp4.trans .atA⟩, fall n⟩
        · refine ⟨_, rfl, a, _, _, _, rfl, rfl, S4.ha, rfl, ?_⟩
          exact ⟨⟨ns, 0, _, _, rfl, S4.setA (by decide) S4.q0 z0 z1, kp4.trans .atA⟩, fall 0⟩
    · rintro σ H Q Q' hq ⟨v, e1, p, xs, i, z, e2, e3, e4, e5, e6, k, e7, h⟩
      refine ⟨v, e1, p, xs, i, z, e2, e3, e4, e5, e6, k, e7, ?_⟩
      cases k with
      | false => exact hq _ _ h
      | true =>
        obtain ⟨v, e1, p, xs, i, z, e2, e3, e4, e5, e6, h⟩ := h
        refine ⟨v, e1, p, xs, i, z, e2, e3, e4, e5, e6, fun l hl => ?_⟩
        obtain ⟨d, e, d1, d2, s1, s2, k, ek, h⟩ := h l hl
        exact ⟨d, e, d1, d2, s1, s2, k, ek, hq _ _ h⟩
    · rintro σ H1 ⟨ns, p, r, c, rfl, S, kp⟩
      refine ⟨_, rfl, a, _, _, _, rfl, rfl, SqL.of S.ha, at1, _, _, rfl, rfl, _, rfl, ?_⟩
      refine ite2 (fun hp => ?_) (fun hp => ?_)
      · have hp' : 0 < p := of_decide_eq_true hp
        refine ⟨_, rfl, a, _, _, _, rfl, rfl, SqL.of S.ha, at1, .inl ⟨_, rfl, _, rfl, _, _, rfl, rfl, m0, ?_⟩⟩
        refine ⟨_, rfl, a, _, _, _, rfl, rfl, SqL.of S.ha, at1, _, rfl, _, _, rfl, rfl, ⟨m0, m1⟩, _, rfl, a, _, _, _, rfl, rfl, S.ha, rfl, ?_⟩
        refine ⟨_, rfl, k _ ns (p / m) r (p % m) (Int.emod_nonneg _ (by omega)) (Int.emod_lt_of_pos _ m0) (S.setA (Int.ediv_nonneg S.p0 (by omega)) S.q0 S.r0 S.r1) (kp.trans .atA)⟩
      · have r0 := S.r0
        have r1 := S.r1
        have q0 := S.q0
        have z1 : (r + 7919 * (q + 1) + 104729).natAbs < 2 ^ 64 := by omega
        refine ⟨_, rfl, a, _, _, _, rfl, rfl, SqL.of S.ha, at3, _, rfl, a, _, _, _, rfl, rfl, SqL.of S.ha, at2, _, _, rfl, rfl, .inl ⟨by decide, by decide⟩, _, _, rfl, rfl, _, _, rfl, rfl, _, _, rfl, rfl, ⟨by decide, by decide, z1⟩, .inl ⟨_, rfl, _, _, rfl, rfl, (by decide : (0 : Int) < 2147483629), ?_⟩⟩
        have z2 : ∀ x : Int, 0 ≤ x → x < 2147483629 → (x * 48271 + 30011 * (q + 1) + 29).natAbs < 2 ^ 64 := by
          intro x x0 x1
          omega
        refine ⟨_, rfl, _, _, rfl, rfl, .inr ⟨by decide, by decide⟩, _, rfl, a, _, _, _, rfl, rfl, SqL.of S.ha, at2, _, _, rfl, rfl, .inl ⟨by decide, by decide⟩, _, _, rfl, rfl, _, _, rfl, rfl, _, _, rfl, rfl, ⟨by decide, by decide, z2 _ (Int.emod_nonneg _ (by decide)) (Int.emod_lt_of_pos _ (by decide))⟩, .inl ⟨_, rfl, _, _, rfl, rfl, (by decide : (0 : Int) < 1000000007), _, rfl, _, _, rfl, rfl, m0, ?_⟩⟩
        exact k _ ns p r _ (Int.emod_nonneg _ (by omega)) (Int.emod_lt_of_pos _ m0) S kp
end
end Md
namespace Md
open PySem PySem.Spec PyProof.Rows L2
abbrev sMixed : Stmt := top 57
theorem perm_pick {α : Type} : ∀ {l : List α} {k : Nat} {y : α}, l[k]? = some y → (y :: l.eraseIdx k).Perm l
  | [], _, _, h => by simp at h
  | x :: l, 0, y, h => by
    have e : x = y := by simpa using h
    subst e
    exact List.Perm.refl _
  | x :: l, k + 1, y, h => by
    have ih := perm_pick (l := l) (k := k) (y := y) (by simpa using h)
    show (y :: x :: l.eraseIdx k).Perm (x :: l)
    exact (List.Perm.swap x y _).trans (ih.cons x)
theorem ixN_at {n : Nat} {d : Int} (h0 : 0 ≤ d) (h1 : d < n) : seqIndex? d n = some d.toNat := by
  refine (ixN_seq ?_).1
  unfold ixN
  rw [if_pos h0, if_pos h1]
abbrev rLenS (K : PySem.W.Frag) : List V → Hp → VK → Prop := fun xs H Q => ∃ p ys, xs = [.ref p] ∧ (SqL K H p ys ∨ SqT K H p ys) ∧ Q (.int ys.length) H
def tePop (K : PySem.W.Frag) : TE := tBM K "list" rPopAt (tVar 2) (tCons (tCall spDraw [] E0 (tCons (tVar 0) (tCons (tCB (rLenS K) (tCons (tVar 2) tNil)) tNil))) tNil)
def spMixed (K : PySem.W.Frag) : Sp := fun vs H Q _ => ∃ (a b c : Addr) (ns : List Int) (p q r : Int) (xs : List V), vs = [.ref a, .ref c] ∧ Strm H a b ns p q r ∧ (SqL K H c xs ∨ SqT K H c xs) ∧ xs.length ≤ 1000 ∧ q + xs.length ≤ 1000000000000 ∧
  ∀ (H' : Hp) (ns' : List Int) (p' r' : Int) (l : Addr) (ys : List V), Strm H' a b ns' p' (q + xs.length) r' → KeepBut a b H H' → H l = none → H' l = some (.lst ys) → ys.Perm xs → Q (.ref l) H'
section
variable {P : Program} {w : World} {K : PySem.W.Frag} {mg : Str → Option Value} {base : Heap}
theorem scMixed : FnScope ["_law_stream", "_law_some", "_law_left", "_law_k"] ["_law_stream", "_law_some"] (defScope sMixed) := ⟨rfl, rfl, rfl, by decide +kernel, rfl, by decide +kernel, by decide +kernel⟩
theorem ok_mixed {f fD : Addr} {fd fdD : FuncData} (F : Fun K "_law_mixed" "_law_mixed" sMixed f fd) (FD : Fun K "_law_draw" "_law_draw" sDraw fD fdD) (bD : Binds K fdD ["_law_stream", "_law_many"] []) (gD : mg "_law_draw" = some (.ref fD)) (gI : mg "int" = none) (gL : mg "list" = none) (gN : mg "len" = none) (gR : mg "range" = none) : FnOk P w K mg base CX0 2 f fd ["_law_stream", "_law_some"] (spMixed K) := by
  have GD : FnOk P w K mg base CX0 1 fD fdD ["_law_stream", "_law_many"] spDraw := ok_draw FD gI
  refine F.ok scMixed (fun vs H Q E h => ?_) (fun cdv A outer s H vs Q E hr h => ?_)
  · obtain ⟨a, b, c, ns, p, q, r, xs, rfl, _⟩ := h
    rfl
  · obtain ⟨a, b, c, ns, p, q, r, xs, rfl, S, hc, hn, hq, k⟩ := h
    refine ⟨_, pss_cons (ps_set (i := 2) scMixed.nd rfl (Or.inr rfl) (pe_callTy call_list_of rfl gL boot_list (pa_cons (pv 1) pa_nil)))
      (pss_one (ps_ret (pe_lc (own := [("_law_k", 3)]) (g := gName 3) (tt := tYes) (te := tePop K) rfl scMixed.nd (pi_range1 rfl gR (pa_cons (pe_callB call_len_seq (by rfl) gN PySem.boot_len (pa_cons (pv 2) pa_nil)) pa_nil)) (blkOk_by (N := ["_law_stream", "_law_some", "_law_left", "_law_k"]) (sc := defScope sMixed) (by decide +kernel))
        (fun _ _ _ _ _ => pg_name (i := 3) scMixed.nd rfl (Or.inl rfl)) (fun _ _ _ _ _ => pts_nil)
        (fun _ _ _ _ _ => by exact pe_bm PySem.F.plainAttrs_list PySem.F.slot_list_pop PySem.F.type_list_pop mt_popAt (pv 2) (pa_cons (pe_call GD (hr.mono (by decide)) rfl gD FD.kp bD .nil pass0 (pa_cons (pv 0) (pa_cons (pe_callB call_len_seq (by rfl) gN PySem.boot_len (pa_cons (pv 2) pa_nil)) pa_nil))) pa_nil))))), ?_⟩
    refine ⟨_, rfl, c, xs, rfl, hc, fun L hL => ?_⟩
    have S1 := S.new (o := .lst xs) hL
    have La : L ≠ a := (ne_of_none S.ha hL).symm
    have Lb : L ≠ b := (ne_of_none S.hb hL).symm
    refine ⟨_, rfl, L, xs, rfl, .inl (SqL.of upd_same), _, rfl, by omega, by omega, fun D hD => ?_⟩
    have DL : D ≠ L := (ne_of_none upd_same hD).symm
    have Da : D ≠ a := (ne_of_none S1.ha hD).symm
    have Db : D ≠ b := (ne_of_none S1.hb hD).symm
    have hDH : H D = none := by
      rw [upd_ne DL] at hD
      exact hD
    refine lc_range (n := xs.length) (fun i H' => ∃ (ns : List Int) (p r : Int) (left acc : List V), Strm H' a b ns p (q + i) r ∧ KeepBut a b H H' ∧ H' L = some (.lst left) ∧ H' D = some (.lst acc) ∧ (acc ++ left).Perm xs ∧ acc.length = i) ?_ ?_ ?_
    · exact ⟨ns, p, r, xs, [], by simpa using (S1.new (o := .lst []) hD), (KeepBut.new hL).trans (.new hD), by rw [upd_ne DL.symm]; exact upd_same, upd_same, List.Perm.refl _, rfl⟩
    · rintro i H1 hi ⟨ns, p, r, left, acc, S2, kp, hL1, hD1, pm, ha⟩
      have hl : acc.length + left.length = xs.length := by
        have := pm.length_eq
        rw [List.length_append] at this
        exact this
      refine ⟨rfl, (?_ : tePop K _ H1 _)⟩
      refine ⟨_, rfl, .inl ⟨rfl, _, SqL.of hL1⟩, _, rfl, _, rfl, L, left, rfl, .inl (SqL.of hL1), a, b, ns, p, q + i, r, _, rfl, S2, by omega, by omega, by omega, fun H2 ns2 p2 r2 d d0 d1 S3 kp2 => ?_⟩
      have hL2 := kp2 L _ La Lb hL1
      have hD2 := kp2 D _ Da Db hD1
      have hlt : d.toNat < left.length := by omega
      have hy : left[d.toNat]? = some left[d.toNat] := List.getElem?_eq_getElem hlt
      refine ⟨L, left, d, d.toNat, _, rfl, rfl, hL2, by omega, by omega, ixN_at d0 (by omega), hy, acc, by rw [upd_ne DL]; exact hD2, small1000 (by omega), ?_⟩
      refine ⟨ns2, p2, r2, left.eraseIdx d.toNat, acc ++ [left[d.toNat]], ?_, ?_, by rw [upd_ne DL.symm]; exact upd_same, upd_same, ?_, ?_⟩
      · exact ((S3.other La Lb).other Da Db).cast (by push_cast; omega)
      · exact ((kp.trans kp2).un hL).un hDH
      · rw [List.append_assoc]
        exact ((perm_pick hy).append_left acc).trans pm
      · rw [List.length_append, ha]
        rfl
    · rintro H1 ⟨ns, p, r, left, acc, S2, kp, hL1, hD1, pm, ha⟩
      have hl : left = [] := by
        have := pm.length_eq
        rw [List.length_append] at this
        exact List.length_eq_zero_iff.mp (by omega)
      subst hl
      rw [List.append_nil] at pm
      exact k H1 ns p r D acc S2 kp hDH hD1 pm
end
end Md
/-! Market.__eq__, ==, != -/
namespace Mn
open PySem PySem.Spec PyProof.Rows L2 Md Me Ml LamX
/-- what isinstance and == ask of the class Market -/
structure MkE (K : PySem.W.Frag) (C f : Addr) : Prop where
  c : MkC K C
  cc : PySem.W.findIn K (.ref C) "__class__" = some (some (.builtin "object.__class__"))
  gd : PySem.W.specialIn K (.builtin "object.__class__") "__get__" = some (some (.builtin "getset_descriptor.__get__"))
  tk : PySem.W.takesIn K (.builtin "object.__class__") = some true
  mo : PySem.W.mroIn K C (.type "object") = some true
  eq : PySem.W.findIn K (.ref C) "__eq__" = some (some (.ref f))
  fn : PySem.W.isFn K (.ref f) = true
  ne : PySem.W.findIn K (.ref C) "__ne__" = some (some (.builtin "object.__ne__"))
theorem MkE.ty {K : PySem.W.Frag} {C f a dx : Addr} {H : Hp} {fs : List (Str × V)} (M : MkE K C f) (h : H a = some (.ins C dx fs)) : TyX K H (.ref a) (.ref C) := .base (.ins h M.c.c M.cc M.gd M.tk M.mo)
theorem kit_self {K : PySem.W.Frag} {C : Addr} : PySem.W.kitOne K (.ref C) (.ref C) = some true := by
  unfold PySem.W.kitOne
  rw [if_pos (by simp)]
def eqM (ns : List Str) (rw1 : Str → List Str) (ns' : List Str) (rw2 : Str → List Str) : Bool := decide (ns = ns') && ns.all fun n => decide (rw1 n = rw2 n)
/-- names and rows that are texts of signs -/
structure MkOk (ns : List Str) (rw_ : Str → List Str) : Prop where
  nd : ns.Nodup
  ok : StrsOk ns
  rk : ∀ n ∈ ns, StrsOk (rw_ n)
def spEqM (K : PySem.W.Frag) (C0 : Addr) : Sp := fun vs H Q _ => ∃ (m : Addr) (y : V) (ns ys : List Str) (rw_ : Str → List Str), vs = [.ref m, y] ∧ MkAt H C0 m ns ys rw_ ∧ MkOk ns rw_ ∧
  ((∃ t, TyX K H y t ∧ PySem.W.kitOne K t (.ref C0) = some false ∧ Q (.bl false) H) ∨
   ∃ (m' : Addr) (ns' ys' : List Str) (rw' : Str → List Str), y = .ref m' ∧ MkAt H C0 m' ns' ys' rw' ∧ MkOk ns' rw' ∧ Q (.bl (eqM ns rw_ ns' rw')) H)
theorem scEq : FnScope ["self", "other"] ["self", "other"] (defScope (sMk 4)) := ⟨rfl, rfl, rfl, by decide +kernel, rfl, by decide +kernel, by decide +kernel⟩
theorem all_perm {α : Type} {p : α → Bool} {l1 l2 : List α} (h : l1.Perm l2) : l1.all p = l2.all p := by
  rw [Bool.eq_iff_iff, List.all_eq_true, List.all_eq_true]
  exact ⟨fun k x hx => k x (h.mem_iff.mpr hx), fun k x hx => k x (h.mem_iff.mp hx)⟩
theorem rows_paired {H : Hp} {ns ys' : List Str} {rw1 rw2 : Str → List Str} {as' : List Addr} (ha' : as'.length = ys'.length) (nd' : ys'.Nodup) (h' : ∀ (i : Nat) (n : Str) (a : Addr), ys'[i]? = some n → as'[i]? = some a → H a = some (.lst ((rw2 n).map V.str))) (ok : ∀ n ∈ ns, StrsOk (rw1 n) ∧ StrsOk (rw2 n)) :
    ∀ (ys : List Str) (as : List Addr), as.length = ys.length → (∀ n ∈ ys, n ∈ ns ∧ n ∈ ys') → (∀ (i : Nat) (n : Str) (a : Addr), ys[i]? = some n → as[i]? = some a → H a = some (.lst ((rw1 n).map V.str))) →
    Paired (RowEqB H ((ys'.zip as').map fun p => (Sum.inr p.1, V.ref p.2))) ((ys.zip as).map fun p => (Sum.inr p.1, V.ref p.2)) (ys.map fun n => decide (rw1 n = rw2 n))
  | [], [], _, _, _ => .nil
  | [], _ :: _, h, _, _ => by simp at h
  | _ :: _, [], h, _, _ => by simp at h
  | y :: ys, a :: as, ha, hm, hr => by
    refine .cons ?_ (rows_paired ha' nd' h' ok ys as (by simpa using ha) (fun n hn => hm n (by simp [hn])) fun i n b h1 h2 => hr (i + 1) n b (by simpa using h1) (by simpa using h2))
    obtain ⟨i, hi⟩ := List.getElem?_of_mem (hm y (by simp)).2
    have hil : i < ys'.length := by
      rcases Nat.lt_or_ge i ys'.length with q | q
      · exact q
      · rw [List.getElem?_eq_none q] at hi
        cases hi
    obtain ⟨q, hq⟩ : ∃ q, as'[i]? = some q := ⟨as'[i]'(by omega), List.getElem?_eq_getElem _⟩
    obtain ⟨o1, o2⟩ := ok y (hm y (by simp)).1
    exact ⟨a, q, rw1 y, rw2 y, rfl, valV_zip ha' nd' hi hq, hr 0 y a rfl rfl, h' i y q hi hq, o1, o2, rfl⟩
section
variable {P : Program} {w : World} {K : PySem.W.Frag} {mg : Str → Option Value} {base : Heap}
theorem ok_eq {f C0 : Addr} {fd : FuncData} (F : Fun K "__eq__" "Market.__eq__" (sMk 4) f fd) (M : MkE K C0 f) (gM : mg "Market" = some (.ref C0)) (gI : mg "isinstance" = none) : FnOk P w K mg base CX0 1 f fd ["self", "other"] (spEqM K C0) := by
  refine F.ok scEq (fun vs H Q E h => ?_) (fun cdv A outer s H vs Q E hr h => ?_)
  · obtain ⟨m, y, ns, ys, rw_, rfl, _⟩ := h
    rfl
  · obtain ⟨m, y, ns, ys, rw_, rfl, A1, ok1, h⟩ := h
    have hu66 : A.units + 3 + 66 < cLine := by
      have := hr.un
      exact Nat.lt_of_le_of_lt (by show A.units + 3 + 66 ≤ A.units + 3 + 16 * 0 + 200; omega) this
    have hu64 : A.units + 3 + 64 < cLine := by omega
    refine ⟨_, pss_one (ps_ret (pe_and (pe_callB call_isi (by rfl) gI boot_isinstance (pa_cons (pv 1) (pa_cons (pe_glob rfl gM (v := .ref C0) rfl) pa_nil)))
      (pe_and (pe_cmpR (op_eqD hu64) (pe_fld (pv 0) rfl) (pe_fld (pv 1) rfl) (nomark _)) (pe_one (pe_cmpR (op_eqRows hu66) (pe_fld (pv 0) rfl) (pe_fld (pv 1) rfl) (nomark _)))))), ?_⟩
    obtain ⟨dx, pl, rd, hm, hp, as, ha, hrd, hrows⟩ := A1.ex
    rcases h with ⟨t, ty, e, k⟩ | ⟨m', ns', ys', rw', rfl, A2, ok2, k⟩
    · exact ⟨_, rfl, _, _, _, _, false, rfl, .own _, ty, e, false, rfl, iteF k⟩
    · obtain ⟨dx', pl', rd', hm', hp', as', ha', hrd', hrows'⟩ := A2.ex
      refine ⟨_, rfl, _, _, _, _, true, rfl, .own _, M.ty hm', kit_self, true, rfl, iteT ?_⟩
      refine ⟨_, rfl, m, C0, dx, _, _, rfl, hm, M.c.c, M.c.n1, rfl, _, rfl, m', C0, dx', _, _, rfl, hm', M.c.c, M.c.n1, rfl, _, _, .lst (SqL.of hp) (dp_strs ns), .lst (SqL.of hp') (dp_strs ns'), shaped_strs ok1.ok, shaped_strs ok2.ok, _, rfl, ?_⟩
      rw [eqv_strs]
      by_cases hns : ns = ns'
      · subst hns
        rw [decide_eq_true rfl]
        refine iteT ⟨_, rfl, m, C0, dx, _, _, rfl, hm, M.c.c, M.c.n2, rfl, _, rfl, m', C0, dx', _, _, rfl, hm', M.c.c, M.c.n2, rfl, rd, rd', _, _, _, rfl, rfl, hrd, hrd', ?_,
          rows_paired (ns := ns) ha' (A2.pm.nodup_iff.mpr ok1.nd) hrows' (fun n hn => ⟨ok1.rk n hn, ok2.rk n hn⟩) ys as ha (fun n hn => ⟨A1.pm.mem_iff.mp hn, A2.pm.mem_iff.mpr (A1.pm.mem_iff.mp hn)⟩) hrows, ?_⟩
        · rw [List.length_map, List.length_map, List.length_zip, List.length_zip, ha, ha', Nat.min_self, Nat.min_self, A1.pm.length_eq, A2.pm.length_eq]
        · have e : (ys.map fun n => decide (rw_ n = rw' n)).all id = eqM ns rw_ ns rw' := by
            unfold eqM
            rw [decide_eq_true rfl, Bool.true_and, ← all_perm A1.pm, List.all_map]
            rfl
          rw [e]
          exact k
      · rw [decide_eq_false hns]
        have e : eqM ns rw_ ns' rw' = false := by
          unfold eqM
          rw [decide_eq_false hns]
          rfl
        rw [e] at k
        exact iteF k
end
/-! ### x == y, x != y -/
/-- the type of the right side -/
inductive TyR (H : Hp) : V → Value → Prop
  | lst {a : Addr} {xs : List V} (h : H a = some (.lst xs)) : TyR H (.ref a) (.type "list")
  | tup {a : Addr} {xs : List V} (h : H a = some (.tup xs)) : TyR H (.ref a) (.type "tuple")
  | dic {a : Addr} {xs : List (Key × V)} (h : H a = some (.dK xs)) : TyR H (.ref a) (.type "dict")
  | ins {a C dx : Addr} {fs : List (Str × V)} (h : H a = some (.ins C dx fs)) : TyR H (.ref a) (.ref C)
section
variable {X : Cx} {pins : List (Addr × Obj)} {σ : L2.St} {H : Hp} {s : Shared}
theorem TyR.looks {y : V} {t u : Value} (I : Inv X pins σ H s) (h : TyR H y t) (r : RelV y u) : PySem.W.Looks (model X.prog X.w) s.heap (typeOf u) t := by
  cases h with
  | @lst a xs h =>
    cases (show u = Value.ref a from r)
    obtain ⟨_, _, n, _, h1⟩ := (show ObjOk X.prog X.w H s.heap a (.lst xs) from I.hok a _ h)
    exact fun A Q E s k q => wpAny_typeOf_ref (k _ _ h1) q
  | @tup a xs h =>
    cases (show u = Value.ref a from r)
    obtain ⟨_, _, _, o, h1, h2, _⟩ := (show ObjOk X.prog X.w H s.heap a (.tup xs) from I.hok a _ h)
    exact fun A Q E s k q => wpAny_typeOf_ref (k _ _ h1) (by rw [h2]; exact q)
  | @dic a xs h =>
    cases (show u = Value.ref a from r)
    obtain ⟨_, _, vs, _, o, es, ep, h1, h2, _⟩ := (show ObjOk X.prog X.w H s.heap a (.dK xs) from I.hok a _ h)
    exact fun A Q E s k q => wpAny_typeOf_ref (k _ _ h1) (by rw [h2.1]; exact q)
  | @ins a C dx fs h =>
    cases (show u = Value.ref a from r)
    obtain ⟨mA, O, _⟩ := ins_get I.hok h
    obtain ⟨od, J, _⟩ := O.look
    exact J.type
end
end Mn
namespace Mn
open PySem PySem.Spec PyProof.Rows L2 Md Me Ml LamX
section
variable {M : Model} {prog : Program} {w : World} {A : Around} {E : Value → Shared → Prop} {s : Shared} {K : PySem.W.Frag} {x C f : Addr} {ox : Obj} {od : Option Obj}
theorem ifBound_objNe {args : List Value} {Q : Option Value → Shared → Prop} (X : K.In s.heap) (I : PySem.W.InstAt s.heap x ox C od) (hs : PySem.W.findIn K (.ref C) "__ne__" = some (some (.builtin "object.__ne__")))
    (h : wpAny M A (call (.builtin "object.__ne__") (.ref x :: args)) (fun v => Q (some v)) E s) : wpAny M A (callSpecialIfBound? (.ref x) "__ne__" args) Q E s := by
  simp only [callSpecialIfBound?, bindSpecialIfBound?]
  refine wpAny_holding (wpAny_bind (wpAny_bind (wpAny_bind (I.type.here ((PySem.W.looks_findIn X hs).here ?_)))))
  refine wpAny_bind (wpAny_askSetting (wpAny_ite ?_))
  have fin : wpAny M A (call (.builtin "object.__ne__") ([.ref x] ++ args) >>= fun v => pure (some v)) Q E s := wpAny_bind (wpAny_mono h (fun v s' h' => wpAny_pure h') fun _ _ h' => h')
  split
  · exact wpAny_bind (wpAny_of_eq (F.cmp_object.ne.bind _) (wpAny_pure (by exact fin)))
  · exact wpAny_tryCatch (wpAny_bind (wpAny_of_eq (F.cmp_object.ne.bind _) (wpAny_pure (by exact fin))))
theorem entry_ne {b : Value} {Q : Fin → Shared → Prop} (X : K.In s.heap) (I : PySem.W.InstAt s.heap x ox C od) (hs : PySem.W.findIn K (.ref C) "__eq__" = some (some (.ref f))) (hf : PySem.W.isFn K (.ref f) = true) (hu : A.units < cLine)
    (h : wpAny (model prog w) A (call (.ref f) [.ref x, b]) (fun v s' => ∃ k, v = .bool k ∧ Q (.done (.ret (.bool (!k)))) s') E s) : wpAny (model prog w) A (Builtin.«object.__ne__» ⟨[.ref x, b], []⟩) Q E s := by
  unfold Builtin.«object.__ne__»
  repeat (first
    | with_reducible refine wpAny_cRoomFor hu ?_
    | (refine wpAny_bind (m := callSpecialIfBound? (.ref x) (Str.ofString "__eq__") [b])
        (PySem.W.ifBound_K X I hs hf (wpAny_mono h (fun r s' hr => by
          obtain ⟨k, rfl, hq⟩ := hr
          repeat (first | exact hq | exact wpAny_pure hq | exact wpAny_truthy_bool hq | (refine wpAny_bind (m := truthy (.bool _)) (wpAny_truthy_bool ?_)) | wp_step)) fun _ _ e => e)))
    | wp_step)
theorem cmp_ne {h₀ : Heap} {L : Addr} {m : Str → Option Value} {b tb : Value} {Q : Value → Shared → Prop} (hu : A.units + 1 < cLine) (F0 : Fr h₀ L s.heap m) (X₀ : K.In h₀) (I : PySem.W.InstAt s.heap x ox C od) (hb : PySem.W.Looks (model prog w) s.heap (typeOf b) tb) (hn : PySem.W.notFirst K C tb = true)
    (hm : PySem.W.mroIn K C (.type "object") = some true) (hne : PySem.W.findIn K (.ref C) "__ne__" = some (some (.builtin "object.__ne__"))) (hs : PySem.W.findIn K (.ref C) "__eq__" = some (some (.ref f))) (hf : PySem.W.isFn K (.ref f) = true)
    (h : wpAny (model prog w) A.in1 (call (.ref f) [.ref x, b]) (fun v s' => ∃ k, v = .bool k ∧ Q (.bool (!k)) s') E s) : wpAny (model prog w) A (richCompare .NotEq (.ref x) b) Q E s := by
  have X := X₀.keeps F0.keep
  have one : wpAny (model prog w) A (tryCompare (.ref x) (cmpInfo .NotEq).2.1 b) (fun r s' => ∃ v, r = some v ∧ Q v s') E s := by
    unfold tryCompare
    refine wpAny_bind (ifBound_objNe X I hne (wpAny_call (codeAny_call_builtin F.cmp_object.ne.plain F.cmpEntry_ne (PySem.W.check_slot F.cmpKind_ne F.cmpSplit_ne (I.type.andThen (PySem.W.looks_mroIn X hm)) (F.cmpArgs_ne _ _)
      (entry_ne (A := A.in1) X I hs hf (by show A.units + 1 < cLine; exact hu) (wpAny_mono h (fun v s' hv => ?_) fun _ _ e => e))))))
    obtain ⟨k, rfl, hq⟩ := hv
    first | exact ⟨k, rfl, wpAny_pure ⟨_, rfl, hq⟩⟩ | exact ⟨k, rfl, _, rfl, hq⟩
  unfold richCompare
  simp only [oneThing_ref]
  refine wpAny_holding (wpAny_bind (wpAny_cRoomFor (Nat.lt_of_succ_lt hu) ?_))
  refine wpAny_bind (I.type.here (wpAny_bind (hb.here ?_)))
  split
  · rename_i q
    have e : PySem.W.subIn K tb (.ref C) = some false := by
      rcases Bool.or_eq_true_iff.mp hn with e | e
      · rw [beq_iff_eq.mp e] at q
        simp at q
      · exact beq_iff_eq.mp e
    refine wpAny_bind ((PySem.W.looks_subIn X e).here ?_)
    simp only [Bool.false_eq_true, if_false]
    refine wpAny_bind (wpAny_mono one (fun r s' z => ?_) fun _ _ e => e)
    obtain ⟨v, rfl, hq⟩ := z
    exact wpAny_pure hq
  · refine wpAny_bind (wpAny_pure ?_)
    simp only [Bool.false_eq_true, if_false]
    refine wpAny_bind (wpAny_mono one (fun r s' z => ?_) fun _ _ e => e)
    obtain ⟨v, rfl, hq⟩ := z
    exact wpAny_pure hq
end
def rOwn (K : PySem.W.Frag) (C0 : Addr) (neg : Bool) : R2 := fun x y H Q => ∃ (a dx : Addr) (fs : List (Str × V)) (tb : Value), x = .ref a ∧ H a = some (.ins C0 dx fs) ∧ TyR H y tb ∧ PySem.W.notFirst K C0 tb = true ∧
  spEqM K C0 [.ref a, y] H (fun v H' => ∃ b, v = .bl b ∧ Q (.bl (if neg then !b else b)) H') E0
section
variable {X : Cx} {C0 f : Addr} {fd : FuncData} {n : Nat}
theorem callEq (F : FnOk X.prog X.w X.K X.mg X.base CX0 n f fd ["self", "other"] (spEqM X.K C0)) (hb : Binds X.K fd ["self", "other"] []) {A : Around} {pins : List (Addr × Obj)} {σ : L2.St} {H : Hp} {s : Shared} {a : Addr} {y : V} {u : Value} {Qv : VK} (hr : Room n A) (hfr : A.frames = X.A.frames)
    (I : Inv X pins σ H s) (ry : RelV y u) (hsp : spEqM X.K C0 [.ref a, y] H Qv E0) : wpAny (model X.prog X.w) A (call (.ref f) [.ref a, u]) (EP X pins σ Qv) X.xe s := by
  have e0 : Env0 X.prog X.w X.K X.mg X.base A X.stack s H := by
    have e := I.env0
    exact ⟨by rw [hfr]; exact e.frames, e.mod, e.bs, e.bsz, e.funs, e.frf, e.hok, e.bare⟩
  have r2 : Vals [V.ref a, y] [Value.ref a, u] := .cons rfl (.cons ry .nil)
  refine wpAny_call (codeAny_mono (F.run A X.stack s H ⟨[.ref a, u], []⟩ [.ref a, u] [.ref a, y] Qv E0 hr e0 (by
    have := hb s [.ref a, u] I.kIn rfl
    simpa using this) r2 hsp) fun r s' hq => ?_)
  cases r with
  | error e => exact (show False from hq).elim
  | ok fl =>
    cases fl with
    | ret w => exact I.after hq
    | next => exact False.elim hq
    | brk => exact False.elim hq
    | cont => exact False.elim hq
theorem op_eqM (F : FnOk X.prog X.w X.K X.mg X.base CX0 n f fd ["self", "other"] (spEqM X.K C0)) (hb : Binds X.K fd ["self", "other"] []) (M : MkE X.K C0 f) (hr : Room n X.A) : OpR X (compareOp .Eq) (rOwn X.K C0 false) := by
  intro pins s σ H x y v u Q I rx ry h
  obtain ⟨a, dx, fs, tb, rfl, ha, ty, nf, hsp⟩ := h
  obtain rfl : v = Value.ref a := rx
  obtain ⟨mA, J, _⟩ := ins_get I.hok ha
  obtain ⟨od, J, _⟩ := J.look
  obtain ⟨m, hF⟩ := I.fr
  refine PySem.W.cmp_K (op := .Eq) (tb := tb) hr.units0 hF I.ok.mod.kin J (ty.looks I ry) nf M.eq M.fn ?_
  refine wpAny_mono (callEq F hb hr rfl I ry hsp) (fun r s' hq => ?_) fun _ _ e => e
  obtain ⟨z, H', I', rz, b, rfl, q⟩ := hq
  obtain rfl : r = Value.bool b := rz
  exact ⟨.bl b, H', I', rfl, q⟩
theorem op_neM (F : FnOk X.prog X.w X.K X.mg X.base CX0 n f fd ["self", "other"] (spEqM X.K C0)) (hb : Binds X.K fd ["self", "other"] []) (M : MkE X.K C0 f) (hr : Room (n + 1) X.A) : OpR X (compareOp .NotEq) (rOwn X.K C0 true) := by
  intro pins s σ H x y v u Q I rx ry h
  obtain ⟨a, dx, fs, tb, rfl, ha, ty, nf, hsp⟩ := h
  obtain rfl : v = Value.ref a := rx
  obtain ⟨mA, J, _⟩ := ins_get I.hok ha
  obtain ⟨od, J, _⟩ := J.look
  obtain ⟨m, hF⟩ := I.fr
  have hu := hu_of hr
  refine cmp_ne (tb := tb) hu hF I.ok.mod.kin J (ty.looks I ry) nf M.mo M.ne M.eq M.fn ?_
  refine wpAny_mono (callEq F hb hr.in1 rfl I ry hsp) (fun r s' hq => ?_) fun _ _ e => e
  obtain ⟨z, H', I', rz, b, rfl, q⟩ := hq
  obtain rfl : r = Value.bool b := rz
  exact ⟨b, rfl, .bl (!b), H', I', rfl, q⟩
end
end Mn
/-! a dict of two entries, the first one's key None: made by a second key, asked for its kind, listed -/
namespace Mo
open PySem PySem.Spec PyProof.Rows L2
structure OtP (d : Addr) (o : Obj) (k v k2 v2 : V) (h : Heap) : Prop where
  sys : (d == sysModules) = false
  get : h.get? d = some o
  ex : o.ExactDict
  en : ∃ (e e2 : DictEntry) (ep : Nat), o.data = .dict #[e, e2] ep ∧ RelV k e.key ∧ RelV v e.val ∧ RelV k2 e2.key ∧ RelV v2 e2.val
def Ot (d : Addr) (o : Obj) (k v k2 v2 : V) : HO := .ext (OtP d o k v k2 v2)
theorem OtP.keep {d : Addr} {o : Obj} {k v k2 v2 : V} {h h' : Heap} (x : OtP d o k v k2 v2 h) (e : ∀ o, h.get? d = some o → h'.get? d = some o) : OtP d o k v k2 v2 h' := ⟨x.sys, e _ x.get, x.ex, x.en⟩
theorem OtP.ok {P : Program} {w : World} {H : Hp} {d : Addr} {o : Obj} {k v k2 v2 : V} {h : Heap} (x : OtP d o k v k2 v2 h) : ObjOk P w H h d (Ot d o k v k2 v2) := ⟨x, ⟨o, x.get⟩, fun h1 h2 a b => a.keep b⟩
theorem OtP.raw {d : Addr} {o : Obj} {k v k2 v2 : V} {h : Heap} (x : OtP d o k v k2 v2 h) : ∃ (e e2 : DictEntry) (ep : Nat), h.DictRaw d #[e, e2] ep ∧ RelV k e.key ∧ RelV v e.val ∧ RelV k2 e2.key ∧ RelV v2 e2.val := by
  obtain ⟨e, e2, ep, h1, h2, h3, h4, h5⟩ := x.en
  exact ⟨e, e2, ep, ⟨o, x.get, x.ex, h1⟩, h2, h3, h4, h5⟩
section
variable {X : Cx} {pins : List (Addr × Obj)} {σ : L2.St} {H : Hp} {s : Shared}
theorem ot_of (I : Inv X pins σ H s) {d : Addr} {o : Obj} {k v k2 v2 : V} (h : H d = some (Ot d o k v k2 v2)) : OtP d o k v k2 v2 s.heap := by
  have x : ObjOk X.prog X.w H s.heap d (.ext (OtP d o k v k2 v2)) := I.hok d _ h
  exact x.1
/-! ### isinstance -/
def rIsiT (K : PySem.W.Frag) : List V → Hp → VK → Prop := fun xs H Q => ∃ (d : Addr) (o : Obj) (k v k2 v2 c : V) (u : Value) (b : Bool), xs = [.ref d, c] ∧ ClsV c u ∧ H d = some (Ot d o k v k2 v2) ∧ PySem.W.kitOne K (.type "dict") u = some b ∧ Q (.bl b) H
def rIsiTT (K : PySem.W.Frag) : List V → Hp → VK → Prop := fun xs H Q => ∃ (d : Addr) (o : Obj) (k v k2 v2 : V) (tp : Addr) (cs : List V) (us : List Value) (b : Bool), xs = [.ref d, .ref tp] ∧ H tp = some (.tup cs) ∧ Paired ClsV cs us ∧ H d = some (Ot d o k v k2 v2) ∧ PySem.W.kitAny K (.type "dict") us = some b ∧ Q (.bl b) H
theorem kit_ot {d : Addr} {o : Obj} {k v k2 v2 : V} (x : OtP d o k v k2 v2 s.heap) : ∃ P : Heap → Prop, PySem.W.KitX X.K (.ref d) (.type "dict") P ∧ P s.heap ∧ (Value.ref d) ≠ .builtin "__main__.__loader__#opaque" := by
  exact ⟨_, PySem.W.kitx_dict, ⟨o, x.get, x.ex.1⟩, fun z => nomatch z⟩
theorem call_isiT2 : CallR X (.builtin "isinstance") (rIsiT X.K) := by
  intro pins s σ H xs us Q I r h
  obtain ⟨d, o, k, v, k2, v2, c, u, b, rfl, hc, hd, e, q⟩ := h
  obtain ⟨u1, u2, rfl, r1, r2⟩ := vals2 r
  have e2 := hc.eq r2
  subst e2
  obtain rfl : u1 = Value.ref d := r1
  obtain ⟨P, Z, p, hx⟩ := kit_ot (X := X) (ot_of I hd)
  exact PySem.W.kia_one Z I.kIn p e hx fun tk => ⟨.bl b, H, I.tok tk, rfl, q⟩
theorem call_isiTT2 : CallR X (.builtin "isinstance") (rIsiTT X.K) := by
  intro pins s σ H xs us Q I r h
  obtain ⟨d, od, k, v, k2, v2, tp, cs, ws, b, rfl, hT, hc, hd, e, q⟩ := h
  obtain ⟨u1, u2, rfl, r1, r2⟩ := vals2 r
  cases (show u2 = Value.ref tp from r2)
  obtain rfl : u1 = Value.ref d := r1
  obtain ⟨P, Z, p, hx⟩ := kit_ot (X := X) (ot_of I hd)
  obtain ⟨_, its, rv, o, h1, h2, n, h3⟩ := (show ObjOk X.prog X.w H s.heap tp (.tup cs) from I.hok tp _ hT)
  have e3 := ClsV.all hc rv
  subst e3
  obtain ⟨oc, od, dt, sl⟩ := o
  simp only at h2 h3
  subst h2 h3
  exact PySem.W.kia_tup Z I.kIn p h1 e hx fun tk => ⟨.bl b, H, I.tok tk, rfl, q⟩
end
/-! ### a second key -/
theorem kV_rel {t : Str} {u : Value} (h : nkIs (some (Sum.inr t)) u = true) : RelV (.str t) u := by
  rcases keyIs_shape (show keyIs (Sum.inr t) u = true from h) with ⟨i, k, e, _⟩ | ⟨x, k, e, rfl⟩
  · cases e
  · cases e
    exact ⟨k, rfl⟩
theorem ot_raw {P : Program} {w : World} {κ : Type} [DecidableEq κ] {knd : PySem.KeyKind P w κ} {d : Addr} {k k2 : κ} {x y x2 y2 : V} {u u2 : Value} {h' : Heap} (hs : (d == sysModules) = false) (rx : ∀ u', knd.is k u' = true → RelV x u') (ry : RelV y u) (rx2 : ∀ u', knd.is k2 u' = true → RelV x2 u') (ry2 : RelV y2 u2) (dd : h'.DictOf knd d [(k, u), (k2, u2)]) : ∃ o, OtP d o x y x2 y2 h' := by
  obtain ⟨o, es, ep, ho, hx, hd, hko, hp, hn⟩ := dd
  cases hl : es.toList with
  | nil =>
    rw [hl] at hp
    cases hp
  | cons e r =>
    rw [hl] at hp
    cases hp with
    | cons e1 e2 e3 =>
      cases r with
      | nil => cases e3
      | cons f r =>
        cases e3 with
        | cons f1 f2 f3 =>
          cases f3
          have ee : es = #[e, f] := Array.toList_inj.mp (by rw [hl])
          rw [ee] at hd
          exact ⟨o, hs, ho, hx, e, f, ep, hd, rx _ e1, by rw [e2]; exact ry, rx2 _ f1, by rw [f2]; exact ry2⟩
/-- a dict that is given a key: one of the usual kind, or one with None alone -/
def DPutO (H : Hp) (a : Addr) (y v : V) (R : Hp → Prop) : Prop := (∃ H', DPut H a y v H' ∧ R H') ∨ ∃ (o : Obj) (x : V) (t : Str), H a = some (Od a o .non x) ∧ y = .str t ∧ ∀ o', R (upd H a (Ot a o' .non x (.str t) v))
def sDPutO (td ty tv : TE) : TS := fun D σ H => tv σ H fun v H1 => td σ H1 fun x H2 => ty σ H2 fun y H3 => ∃ a, x = .ref a ∧ DPutO H3 a y v fun H4 => D.nx σ H4
section
variable {X : Cx} {o i value : Expr} {pos pos' : Pos} {td ty tv : TE}
theorem ps_dputO (hu : X.A.units + 1 < cLine) (ho : PE X o td) (hi : PE X i ty) (hv : PE X value tv) (hs : swapsWith value (some (.Subscript o i pos')) pos.line X.env = pure false) :
    PS X (.Assign [.Subscript o i pos'] value pos) (sDPutO td ty tv) := by
  refine ⟨fun pins s σ H D I h => ?_⟩
  refine wpAny_Assign_Subscript (thn (hv.run pins s σ H _ I h) fun r s1 ⟨v, H1, I1, rv, q1⟩ => thn (ho.run pins s1 σ H1 _ I1 q1) fun u s2 ⟨x, H2, I2, rx, q2⟩ => thn (hi.run pins s2 σ H2 _ I2 q2) fun iv s3 ⟨y, H3, I3, ry, a, ex, g⟩ => ?_) hs
  subst ex
  obtain rfl : u = Value.ref a := rx
  rcases g with ⟨H4, g, q3⟩ | ⟨oo, x, t, hd, rfl, q3⟩
  · exact d_setItem hu I3 g ry rv fun s4 I4 => ⟨σ, H4, I4, q3⟩
  · have op := od_of I3 hd
    obtain ⟨e, ep, raw, hod, rk, re⟩ := op.raw
    have ek : e.key = .none := rk
    have dd : s3.heap.DictOf (noneKind X.prog X.w) a [(none, e.val)] := ⟨oo, #[e], ep, op.get, op.ex, hod, fun e' he' => ⟨none, by
      obtain rfl : e' = e := by simpa using he'
      rw [ek]
      rfl, by
      obtain rfl : e' = e := by simpa using he'
      exact op.hs rfl _ _ hod⟩, .cons (by rw [ek]; rfl) rfl .nil, by simp⟩
    have kis : (noneKind X.prog X.w).is (some (Sum.inr t)) iv = true := kV_is (P := X.prog) (w := X.w) (k := Sum.inr t) ry
    refine wpAny_setItem_pairs (hsz := by simp [sizeLine_eq]) kis dd fun h' dd' hs => ?_
    have est : stored [((none : Option Key), e.val)] (some (Sum.inr t)) r = [(none, e.val), (some (Sum.inr t), r)] := rfl
    rw [est] at dd'
    obtain ⟨oN, P0⟩ : ∃ o, OtP a o .non x (.str t) v h' := ot_raw op.sys (fun u' hu => nk_none hu) re (fun u' hu => kV_rel hu) rv dd'
    have he : ∃ q, h'.get? a = some q := let ⟨q, _, _, hq, _⟩ := dd'; ⟨q, hq⟩
    exact ⟨σ, _, d_write I3 (by rw [hd]; exact True.intro) hs he P0.ok, q3 oN⟩
end
/-! ### list(d.items()) -/
section
variable {prog : Program} {w : World} {A : Around} {E : Value → Shared → Prop} {s : Shared} {r d : Addr} {e f : DictEntry} {ep : Nat}
theorem two_loop {S I : Addr} {R : Result → Shared → Prop} (hh : A.handled = none) (hSI : S < I) (hSd : d ≠ S) (hId : d ≠ I) (res : Value) {h : Heap} {tk c : Nat} (hit : IsItemIter h I d 0 2 ep .none .none) (raw : h.DictRaw d #[e, f] ep) (hS : h.get? S = some { cls := .type "list", data := .seq #[] c })
    (hR : ∀ h' tk' c' T U, (∀ b o, b ≠ S → b ≠ I → h.get? b = some o → h'.get? b = some o) → h.objs.size ≤ T → T < U → h'.get? S = some { cls := .type "list", data := .seq #[.ref T, .ref U] c' } → h'.get? T = some { cls := .type "tuple", data := .seq #[e.key, e.val] } → h'.get? U = some { cls := .type "tuple", data := .seq #[f.key, f.val] } → R (.ok (.ret res)) { s with heap := h', toks := tk' }) :
    codeAny (model prog w) A (.builtin "list.extend.loop" ⟨[.ref S, .ref I, res], []⟩) R { s with heap := h, toks := tk } := by
  have hne : S ≠ I := Nat.ne_of_lt hSI
  have hIl : I < h.objs.size := Heap.lt_size hit
  have hSl : S < h.objs.size := Heap.lt_size hS
  refine codeAny_builtin PySem.F.entry_extend_loop ?_
  rw [Around.under_plainId PySem.F.plain_extend_loop _]
  show wpAny _ A.in1 (pyNext (.ref I) >>= _) _ _ _
  refine wpAny_bind (wpAny_pyNext_items_item_raw (s := { s with heap := h, toks := tk }) (A := A.in1) hit raw (by simp) fun h1 hit1 hT hz hk => ?_)
  dsimp only at hT hz hk ⊢
  have hS1 := hk S _ hne hS
  have up : ∀ b o, b ≠ S → h1.get? b = some o → (h1.update S (Obj.mapSeq (·.push (Value.ref h.objs.size)))).get? b = some o := fun b o hb e => (Heap.get?_update_other _ _ (Ne.symm hb)).trans e
  show wpAny _ A.in1 (updateSeq S (·.push (Value.ref h.objs.size)) >>= _) _ _ _
  refine wpAny_bind ?_
  refine wpAny_updateSeq hS1 rfl (wpAny_pure ⟨plainId_quiet PySem.F.plain_extend_loop _, ?_⟩) (by simp) (by simp [sizeLine_eq])
  have hit2 : PySem.W.KdxIt (h1.update S (Obj.mapSeq (·.push (Value.ref h.objs.size)))) I d 1 2 ep e.key e.val h.objs.size false := up I _ hne.symm hit1
  have hT2 := up _ _ (Nat.ne_of_gt hSl) hT
  have hS2 := Heap.get?_update_self (Obj.mapSeq (·.push (Value.ref h.objs.size))) hS1 rfl
  have hz2 : (h1.update S (Obj.mapSeq (·.push (Value.ref h.objs.size)))).objs.size = h.objs.size + 1 := by rw [Heap.size_update, hz]
  refine codeAny_builtin PySem.F.entry_extend_loop ?_
  rw [Around.under_plainId PySem.F.plain_extend_loop _]
  show wpAny _ A.in1 (pyNext (.ref I) >>= _) _ _ _
  refine wpAny_bind (wpAny_pyNext_items_item_out_raw (es := #[e, f]) (s := { s with heap := (h1.update S (Obj.mapSeq (·.push (Value.ref h.objs.size)))), toks := tk }) (A := A.in1) hit2 hT2 (Nat.ne_of_gt hIl) (raw.at fun o q => up d o hSd (hk d o hId q)) (by simp) fun h2 hit3 hU hzU hkU => ?_)
  dsimp only at hU hzU hkU ⊢
  rw [hz2] at hU hzU ⊢
  have hS3 := hkU S _ hne hS2
  have up2 : ∀ b o, b ≠ S → h2.get? b = some o → (h2.update S (Obj.mapSeq (·.push (Value.ref (h.objs.size + 1))))).get? b = some o := fun b o hb e => (Heap.get?_update_other _ _ (Ne.symm hb)).trans e
  show wpAny _ A.in1 (updateSeq S (·.push (Value.ref (h.objs.size + 1))) >>= _) _ _ _
  refine wpAny_bind ?_
  refine wpAny_updateSeq hS3 rfl (wpAny_pure ⟨plainId_quiet PySem.F.plain_extend_loop _, ?_⟩) (by simp; decide) (by simp [sizeLine_eq])
  have hit4 : PySem.W.KdxIt (h2.update S (Obj.mapSeq (·.push (Value.ref (h.objs.size + 1))))) I d 2 2 ep e.key e.val h.objs.size true := up2 I _ hne.symm hit3
  have hS4 := Heap.get?_update_self (Obj.mapSeq (·.push (Value.ref (h.objs.size + 1)))) hS3 rfl
  refine codeAny_builtin PySem.F.entry_extend_loop ?_
  rw [Around.under_plainId PySem.F.plain_extend_loop _]
  show wpAny _ A.in1 (pyNext (.ref I) >>= _) _ _ _
  refine wpAny_bind (wpAny_pyNext_items_end_out_raw (es := #[e, f]) (s := { s with heap := (h2.update S (Obj.mapSeq (·.push (Value.ref (h.objs.size + 1))))), toks := tk }) (A := A.in1) hh hit4 (raw.at fun o q => up2 d o hSd (hkU d o hId (up d o hSd (hk d o hId q)))) (by simp) fun h3 he => ?_)
  refine wpAny_pure (hR h3 tk _ h.objs.size (h.objs.size + 1) (fun b o b1 b2 q => he b o b2 (up2 b o b1 (hkU b o b2 (up b o b1 (hk b o b2 q))))) (Nat.le_refl _) (Nat.lt_succ_self _) (he S _ hne hS4) (he _ _ (Nat.ne_of_gt hIl) (up2 _ _ (Nat.ne_of_gt hSl) (hkU _ _ (Nat.ne_of_gt hIl) hT2))) (he _ _ (Nat.ne_of_gt (Nat.lt_succ_of_lt hIl)) (up2 _ _ (Nat.ne_of_gt (Nat.lt_succ_of_lt hSl)) hU)))
theorem two_extend {R : Result → Shared → Prop} (hh : A.handled = none) (hv : s.heap.IsItemsView r d) (raw : s.heap.DictRaw d #[e, f] ep) (S : Addr) (hSr : S ≠ r) (hSd : d ≠ S) (res : Value) (c₀ : Nat) (hS : s.heap.get? S = some { cls := .type "list", data := .seq #[] c₀ })
    (hR : ∀ h' tk' c' T U, (∀ b o, b ≠ S → s.heap.get? b = some o → h'.get? b = some o) → s.heap.objs.size ≤ T → T < U → h'.get? S = some { cls := .type "list", data := .seq #[.ref T, .ref U] c' } → h'.get? T = some { cls := .type "tuple", data := .seq #[e.key, e.val] } → h'.get? U = some { cls := .type "tuple", data := .seq #[f.key, f.val] } → R (.ok (.ret res)) { s with heap := h', toks := tk' }) :
    wpAny (model prog w) A.in1 (Builtin.List.listExtendWith (.ref S) (.ref r) res)
      (fun fin s' => match fin with | .done f => R (.ok f) s' | .again c' => c'.quiet = true ∧ codeAny (model prog w) A c' R s') (fun e s' => R (.error e) s') s := by
  have hSI : S < s.heap.objs.size := Heap.lt_size hS
  have hdI : d < s.heap.objs.size := raw.lt_size
  have key : ∀ (h : Heap) (c₁ tk : Nat), (∀ b o, b ≠ S → (s.heap.push { cls := .type "dict_itemiterator", data := .fields #[.none, .bool false, .ref d, .int 0 0, .int (#[e, f] : Array DictEntry).size 0, .int ep 0, .none, .none] }).get? b = some o → h.get? b = some o) →
      h.get? S = some { cls := .type "list", data := .seq #[] c₁ } → s.heap.objs.size ≤ h.objs.size → codeAny (model prog w) A (.builtin "list.extend.loop" ⟨[.ref S, .ref s.heap.objs.size, res], []⟩) R { s with heap := h, toks := tk } := by
    intro h c₁ tk hk hS₁ hle
    have hI := hk s.heap.objs.size _ (Nat.ne_of_gt hSI) (Heap.get?_push_size _ rfl)
    refine two_loop (e := e) (f := f) (ep := ep) hh hSI hSd (Nat.ne_of_lt hdI) res hI (raw.at fun o q => hk d o hSd (Heap.get?_push_of_some _ q)) hS₁ fun h' tk' c' T U k1 k2 kU k3 k4 k5 => hR h' tk' c' T U (fun b o hb q => k1 b o hb (Nat.ne_of_lt (Heap.lt_size q)) (hk b o hb (Heap.get?_push_of_some _ q))) (Nat.le_trans hle k2) kU k3 k4 k5
  unfold Builtin.List.listExtendWith
  refine wpAny_bind (wpAny_typeOf (T := "dict_items") hv.typeIs ?_)
  have h1 : Builtin.List.listSameRef (.ref S) (.ref r) = false := by simp [Builtin.List.listSameRef, hSr]
  have h2 : (Value.type "dict_items" == Value.type "list") = false := by decide
  have h3 : (Value.type "dict_items" == Value.type "tuple") = false := by decide
  simp only [h1, h2, h3, Bool.or_false, Bool.false_eq_true, if_false]
  refine wpAny_bind (wpAny_pyIter_items_raw hv raw ?_)
  have hS₁ := Heap.get?_push_of_some { cls := .type "dict_itemiterator", data := .fields #[.none, .bool false, .ref d, .int 0 0, .int (#[e, f] : Array DictEntry).size 0, .int ep 0, .none, .none] } hS
  refine wpAny_bind (wpAny_holding (PySem.W.kdx_hint (let ⟨o, ho, hc, _⟩ := hv; ⟨o, Heap.get?_push_of_some _ ho, hc⟩) ?_))
  refine wpAny_ite_split (fun _ => ?_) (fun _ => wpAny_pure ⟨plainId_quiet PySem.F.plain_extend_loop _, key _ c₀ _ (fun b o _ e => e) hS₁ (by rw [Heap.size_push]; omega)⟩)
  refine wpAny_bind (wpAny_rule ?_)
  refine wpAny_bind ?_
  show wpAny _ _ (updateSeq S (·.push .none) >>= fun _ => updateSeq S (·.pop)) _ _ _
  refine wpAny_bind (wpAny_updateSeq hS₁ rfl ?_)
  have hS₂ := Heap.get?_update_self (Obj.mapSeq (·.push Value.none)) hS₁ rfl
  refine wpAny_updateSeq (hz := by seq_fits) hS₂ rfl ?_
  have hS₃ := Heap.get?_update_self (Obj.mapSeq (·.pop)) hS₂ rfl
  refine wpAny_pure ⟨plainId_quiet PySem.F.plain_extend_loop _, key _ _ _ (fun b o hb e => ?_) hS₃ (by rw [Heap.size_update, Heap.size_update, Heap.size_push]; omega)⟩
  exact (Heap.get?_update_other _ _ (Ne.symm hb)).trans ((Heap.get?_update_other _ _ (Ne.symm hb)).trans e)
theorem two_call {Q : Value → Shared → Prop} (hh : A.handled = none) (hv : s.heap.IsItemsView r d) (raw : s.heap.DictRaw d #[e, f] ep)
    (hQ : ∀ h' tk c T U, (∀ b o, s.heap.get? b = some o → h'.get? b = some o) → s.heap.objs.size < T → T < U → h'.get? s.heap.objs.size = some { cls := .type "list", data := .seq #[.ref T, .ref U] c } → h'.get? T = some { cls := .type "tuple", data := .seq #[e.key, e.val] } → h'.get? U = some { cls := .type "tuple", data := .seq #[f.key, f.val] } → Q (.ref s.heap.objs.size) { s with heap := h', toks := tk }) :
    wpAny (model prog w) A (call (.type "list") [.ref r]) Q E s := by
  refine callType_codes (Q₁ := fun obj s₁ => obj = .ref s.heap.objs.size ∧ s₁ = { s with heap := s.heap.push { cls := .type "list", data := .seq #[] } }) PySem.F.called_list (PySem.F.typeCall_list_1 _) PySem.F.entry_list_init
    (code_list_new _ ⟨rfl, rfl⟩) fun obj s₁ h₁ => ?_
  obtain ⟨rfl, rfl⟩ := h₁
  have hS : (s.heap.push { cls := .type "list", data := .seq #[] }).get? s.heap.objs.size = some { cls := .type "list", data := .seq #[] } := Heap.get?_push_size _ rfl
  have hr : r < s.heap.objs.size := let ⟨_, ho, _⟩ := hv; Heap.lt_size ho
  have hd : d < s.heap.objs.size := raw.lt_size
  refine ⟨⟨_, hS, rfl⟩, PySem.F.args_list_init_2 _ _, ?_⟩
  show wpAny _ A.in1.in1 (do let old ← Builtin.List.listItems (.ref s.heap.objs.size); Builtin.List.listUpdate (.ref s.heap.objs.size) (fun _ => #[]); letGo old.toList.reverse; Builtin.List.listExtendWith (.ref s.heap.objs.size) (.ref r) .none) _ _ _
  refine wpAny_bind ?_
  unfold Builtin.List.listItems
  refine wpAny_bind (wpAny_seqItems hS rfl (wpAny_pure ?_))
  show wpAny _ _ (updateSeq s.heap.objs.size (fun _ => #[]) >>= fun _ => letGo (#[] : Array Value).toList.reverse >>= fun _ => Builtin.List.listExtendWith (.ref s.heap.objs.size) (.ref r) .none) _ _ _
  refine wpAny_bind (wpAny_updateSeq hS rfl ?_)
  have hS₂ := Heap.get?_update_self (Obj.mapSeq (fun _ => (#[] : Array Value))) hS rfl
  have oth : ∀ b o, b ≠ s.heap.objs.size → (s.heap.push { cls := .type "list", data := .seq #[] }).get? b = some o → ((s.heap.push { cls := .type "list", data := .seq #[] }).update s.heap.objs.size (Obj.mapSeq (fun _ => (#[] : Array Value)))).get? b = some o :=
    fun b o hb e => (Heap.get?_update_other _ _ (Ne.symm hb)).trans e
  have old : ∀ b o, s.heap.get? b = some o → b ≠ s.heap.objs.size := fun b o q => Nat.ne_of_lt (Heap.lt_size q)
  refine wpAny_bind (wpAny_letGo ?_)
  refine two_extend (A := A.in1) (e := e) (f := f) (ep := ep) hh (let ⟨o, ho, x⟩ := hv; ⟨o, oth r o (Nat.ne_of_lt hr) (Heap.get?_push_of_some _ ho), x⟩) (raw.at fun o q => oth d o (Nat.ne_of_lt hd) (Heap.get?_push_of_some _ q)) s.heap.objs.size (Nat.ne_of_gt hr) (Nat.ne_of_lt hd) .none _ hS₂ (fun h' tk c T U k1 k2 kU k3 k4 k5 => ?_)
  refine ⟨rfl, hQ h' tk c T U (fun b o q => k1 b o (old b o q) (oth b o (old b o q) (Heap.get?_push_of_some _ q))) ?_ kU k3 k4 k5⟩
  have : s.heap.objs.size + 1 ≤ T := by
    refine Nat.le_trans ?_ k2
    show s.heap.objs.size + 1 ≤ ((s.heap.push { cls := .type "list", data := .seq #[] }).update s.heap.objs.size (Obj.mapSeq (fun _ => (#[] : Array Value)))).objs.size
    rw [Heap.size_update, Heap.size_push]
    exact Nat.le_refl _
  exact this
end
def rItemsT : V → Hp → VK → Prop := fun x H Q => ∃ (d : Addr) (o : Obj) (k v k2 v2 : V), x = .ref d ∧ H d = some (Ot d o k v k2 v2) ∧
  ∀ (p T U : Addr), H p = none → H T = none → H U = none → p ≠ T → p ≠ U → T ≠ U → Q (.ref p) (upd (upd (upd H p (.lst [.ref T, .ref U])) T (.tup [k, v])) U (.tup [k2, v2]))
def tListItemsT (te : TE) : TE := fun σ H Q => te σ H fun x H1 => rItemsT x H1 Q
section
variable {X : Cx} {e : Expr} {te : TE} {p apos cpos pos : Pos}
theorem three_laid {pins : List (Addr × Obj)} {σ : L2.St} {H : Hp} {s : Shared} {h' : Heap} {tk : Nat} {S T U : Addr} {o1 o2 o3 : HO} (I : Inv X pins σ H s) (hk : ∀ b o, s.heap.get? b = some o → h'.get? b = some o) (hS : s.heap.objs.size ≤ S) (hT : s.heap.objs.size ≤ T) (hU : s.heap.objs.size ≤ U) (ne : S ≠ T) (ne2 : S ≠ U) (ne3 : T ≠ U)
    (new1 : ObjOk X.prog X.w (upd (upd (upd H S o1) T o2) U o3) h' S o1) (new2 : ObjOk X.prog X.w (upd (upd (upd H S o1) T o2) U o3) h' T o2) (new3 : ObjOk X.prog X.w (upd (upd (upd H S o1) T o2) U o3) h' U o3) : Inv X pins σ (upd (upd (upd H S o1) T o2) U o3) { s with heap := h', toks := tk } := by
  have nS : H S = none := I.hok.fresh hS
  have nT : H T = none := I.hok.fresh hT
  have nU : H U = none := I.hok.fresh hU
  have off : ∀ b, b ≠ S → b ≠ T → b ≠ U → upd (upd (upd H S o1) T o2) U o3 b = H b := fun b h1 h2 h3 => by rw [upd_ne h3, upd_ne h2, upd_ne h1]
  have low : ∀ b o, s.heap.get? b = some o → b ≠ S ∧ b ≠ T ∧ b ≠ U := fun b o q => ⟨Nat.ne_of_lt (Nat.lt_of_lt_of_le (Heap.lt_size q) hS), Nat.ne_of_lt (Nat.lt_of_lt_of_le (Heap.lt_size q) hT), Nat.ne_of_lt (Nat.lt_of_lt_of_le (Heap.lt_size q) hU)⟩
  have kp : ∀ b u, H b = some u → upd (upd (upd H S o1) T o2) U o3 b = some u := fun b u q => by
    rw [off b (ne_of_none q nS) (ne_of_none q nT) (ne_of_none q nU)]
    exact q
  refine I.call' (ch := []) rfl ⟨fun b o q _ _ _ => hk b o q, fun b o q _ _ _ => ⟨o.slots, hk b o q⟩, fun b o q n _ => ?_, fun b o q _ => ⟨o, hk b o q⟩, fun b xs q => kp b _ q, fun b o u q => kp b _ q, fun b ps q => ⟨#[], by rw [kp b _ q]; simp⟩⟩ (fun b u q => ?_) I.bare fun b z => by simp at z
  · obtain ⟨z1, z2, z3⟩ := low b o q
    rw [off b z1 z2 z3]
    exact n
  · by_cases hb : b = U
    · subst hb
      rw [upd_same] at q
      cases q
      exact new3
    · by_cases hb2 : b = T
      · subst hb2
        rw [upd_ne ne3, upd_same] at q
        cases q
        exact new2
      · by_cases hb3 : b = S
        · subst hb3
          rw [upd_ne ne2, upd_ne ne, upd_same] at q
          cases q
          exact new1
        · rw [off b hb3 hb2 hb] at q
          exact (I.hok b u q).stay (fun d v _ y => hk d v y) (fun d y => kp d _ y) fun d xs y => kp d _ y
/-- list(e.items()), two entries -/
theorem pe_listItemsT (hc : X.calm = true) (he : PE X e te) (hg : Gl X "list") (hm : X.mg "list" = none) (hv : bootBuiltins "list" = some (.type "list")) (hbase : attributeBase e "items" X.env (eval e X.env) = eval e X.env := by rfl) (hline : (apos.endLine == cpos.line) = true := by rfl)
    (hs : starEach [.Call (.Attribute e "items" apos) [] [] cpos] X.env = (false, eval (.Call (.Attribute e "items" apos) [] [] cpos) X.env) :: starEach [] X.env := by rfl) :
    PE X (.Call (.Name "list" p) [.Call (.Attribute e "items" apos) [] [] cpos] [] pos) (tListItemsT te) := by
  refine ⟨fun pins s σ H Q I hq => ?_⟩
  refine wpAny_Call_Name_kw (ld_blt I hg hm hv ?_)
  refine PyProof.Rows.callWith_type1 ?_ hs rfl
  rw [hs]
  show wpAny _ _ (spliced ((false, eval (.Call (.Attribute e "items" apos) [] [] cpos) X.env) :: backTo pos (starEach [] X.env))) _ _ s
  refine Calls.spliced_cons ?_
  refine wpAny_Call_method (T := "dict") (id := "dict.items") hbase rfl hline F.plainAttrs_dict F.slot_dict_items F.type_dict_items (thn (he.run pins s σ H _ I hq) fun u s1 ⟨x, H1, I1, rx, d, o, k, v, k2, v2, ex, hd, q⟩ => ?_)
  subst ex
  obtain rfl : u = Value.ref d := rx
  have op := ot_of I1 hd
  obtain ⟨en, en2, ep, raw, rk, rv, rk2, rv2⟩ := op.raw
  have I2 : Inv X pins σ H1 { s1 with heap := s1.heap.push { cls := .type "dict_items", data := .fields #[.ref d] } } := I1.kept (t' := s1.toks) fun b ob q => Heap.get?_push_of_some _ q
  refine ⟨raw.typeIs, fun b z => by cases z; exact ⟨o, op.get, op.ex.2.1⟩, ?_⟩
  show wpAny _ _ (callWith cpos (.builtin "dict.items") [.ref d] [] []) _ X.xe s1
  refine method_meetsIn F.slot_dict_items F.entry_dict_items rfl (PySem.evalArgs_none ⟨rfl, raw.typeIs, F.args_dict_items_1 _, _, meets_dict_items_raw d op.sys, ⟨_, _, raw⟩, ?_⟩)
  refine Calls.spliced_nil ?_
  refine two_call (d := d) (e := en) (f := en2) (ep := ep) (I1.ok.hd hc) ⟨_, Heap.get?_push_size _ rfl, rfl, rfl⟩ (raw.push _) fun h' tk c T U k1 k2 kU k3 k4 k5 => ?_
  have kSU := Nat.lt_trans k2 kU
  have ne : (s1.heap.push { cls := .type "dict_items", data := .fields #[.ref d] }).objs.size ≠ T := Nat.ne_of_lt k2
  have ne2 : (s1.heap.push { cls := .type "dict_items", data := .fields #[.ref d] }).objs.size ≠ U := Nat.ne_of_lt kSU
  have nS := I2.hok.fresh (Nat.le_refl (s1.heap.push { cls := .type "dict_items", data := .fields #[.ref d] }).objs.size)
  have nT : H1 T = none := I2.hok.fresh (Nat.le_of_lt k2)
  have nU : H1 U = none := I2.hok.fresh (Nat.le_of_lt kSU)
  refine ⟨.ref _, _, three_laid (tk := tk) I2 k1 (Nat.le_refl _) (Nat.le_of_lt k2) (Nat.le_of_lt kSU) ne ne2 (Nat.ne_of_lt kU) ?_ ?_ ?_, rfl, q _ T U nS nT nU ne ne2 (Nat.ne_of_lt kU)⟩
  · exact ⟨by show 2 ≤ sizeLine; decide, [.ref T, .ref U], c, .cons rfl (.cons rfl .nil), k3⟩
  · exact ⟨by show 2 ≤ sizeLine; decide, [en.key, en.val], .cons rk (.cons rv .nil), ⟨_, k4, rfl, _, rfl⟩⟩
  · exact ⟨by show 2 ≤ sizeLine; decide, [en2.key, en2.val], .cons rk2 (.cons rv2 .nil), ⟨_, k5, rfl, _, rfl⟩⟩
end
end Mo
/-! _law_same -/
namespace Mn
open PySem PySem.Spec PyProof.Rows L2 Md Me Ml LamX
abbrev sSame : Stmt := top 58
/-- what isinstance tells of a value: list, tuple, dict, int, bool -/
structure Ans (K : PySem.W.Frag) (H : Hp) (v : V) (l t d i b : Bool) : Prop where
  ex : ∃ ty, TyX K H v ty ∧ PySem.W.kitOne K ty (.type "list") = some l ∧ PySem.W.kitOne K ty (.type "tuple") = some t ∧ PySem.W.kitOne K ty (.type "dict") = some d ∧ PySem.W.kitOne K ty (.type "int") = some i ∧ PySem.W.kitOne K ty (.type "bool") = some b
theorem kitAny2 {K : PySem.W.Frag} {ty c1 c2 : Value} {a b : Bool} (h1 : PySem.W.kitOne K ty c1 = some a) (h2 : PySem.W.kitOne K ty c2 = some b) : PySem.W.kitAny K ty [c1, c2] = some (a || b) :=
  kitAny_cons h1 (fun z => by subst z; exact kitAny_cons h2 (fun z => by subst z; rfl) (fun z => by rw [z]; rfl)) (fun z => by rw [z]; rfl)
theorem kitAny4 {K : PySem.W.Frag} {ty c1 c2 c3 c4 : Value} {a b c d : Bool} (h1 : PySem.W.kitOne K ty c1 = some a) (h2 : PySem.W.kitOne K ty c2 = some b) (h3 : PySem.W.kitOne K ty c3 = some c) (h4 : PySem.W.kitOne K ty c4 = some d) :
    PySem.W.kitAny K ty [c1, c2, c3, c4] = some (a || (b || (c || d))) :=
  kitAny_cons h1 (fun z => by
    subst z
    exact kitAny_cons h2 (fun z => by
      subst z
      exact (kitAny2 h3 h4 : _ = some (c || d))) (fun z => by rw [z]; rfl)) (fun z => by rw [z]; rfl)
/-- the class Market is none of these -/
structure MkT (K : PySem.W.Frag) (C : Addr) : Prop where
  l : PySem.W.kitOne K (.ref C) (.type "list") = some false
  t : PySem.W.kitOne K (.ref C) (.type "tuple") = some false
  d : PySem.W.kitOne K (.ref C) (.type "dict") = some false
  i : PySem.W.kitOne K (.ref C) (.type "int") = some false
  b : PySem.W.kitOne K (.ref C) (.type "bool") = some false
  s : PySem.W.kitOne K (.ref C) (.type "str") = some false
section
variable {K : PySem.W.Frag} {H : Hp}
theorem ans_non : Ans K H .non false false false false false := ⟨_, .base .non, kit_ty (by decide +kernel), kit_ty (by decide +kernel), kit_ty (by decide +kernel), kit_ty (by decide +kernel), kit_ty (by decide +kernel)⟩
theorem ans_str {x : Str} : Ans K H (.str x) false false false false false := ⟨_, .base (.str x), kit_ty (by decide +kernel), kit_ty (by decide +kernel), kit_ty (by decide +kernel), kit_ty (by decide +kernel), kit_ty (by decide +kernel)⟩
theorem ans_int {x : Int} : Ans K H (.int x) false false false true false := ⟨_, .base (.int x), kit_ty (by decide +kernel), kit_ty (by decide +kernel), kit_ty (by decide +kernel), kit_ty (by decide +kernel), kit_ty (by decide +kernel)⟩
theorem ans_bl {x : Bool} : Ans K H (.bl x) false false false true true := ⟨_, .base (.bl x), kit_ty (by decide +kernel), kit_ty (by decide +kernel), kit_ty (by decide +kernel), kit_ty (by decide +kernel), kit_ty (by decide +kernel)⟩
theorem ans_lst {a : Addr} {xs : List V} (h : H a = some (.lst xs)) : Ans K H (.ref a) true false false false false := ⟨_, .base (.lst h), kit_ty (by decide +kernel), kit_ty (by decide +kernel), kit_ty (by decide +kernel), kit_ty (by decide +kernel), kit_ty (by decide +kernel)⟩
theorem ans_tup {a : Addr} {xs : List V} (h : H a = some (.tup xs)) : Ans K H (.ref a) false true false false false := ⟨_, .base (.tup h), kit_ty (by decide +kernel), kit_ty (by decide +kernel), kit_ty (by decide +kernel), kit_ty (by decide +kernel), kit_ty (by decide +kernel)⟩
theorem ans_dK {a : Addr} {xs : List (Key × V)} (h : H a = some (.dK xs)) : Ans K H (.ref a) false false true false false := ⟨_, .base (.dK h), kit_ty (by decide +kernel), kit_ty (by decide +kernel), kit_ty (by decide +kernel), kit_ty (by decide +kernel), kit_ty (by decide +kernel)⟩
theorem ans_mk {a C f dx : Addr} {fs : List (Str × V)} (M : MkE K C f) (T : MkT K C) (h : H a = some (.ins C dx fs)) : Ans K H (.ref a) false false false false false := ⟨_, M.ty h, T.l, T.t, T.d, T.i, T.b⟩
end
/-- the type of a value, also of a dict of one odd key -/
inductive TyY (K : PySem.W.Frag) (H : Hp) : V → Value → Prop
  | x {v : V} {t : Value} (h : TyX K H v t) : TyY K H v t
  | od {d : Addr} {o : Obj} {k x : V} (h : H d = some (Mo.Od d o k x)) : TyY K H (.ref d) (.type "dict")
  | ot {d : Addr} {o : Obj} {k x k2 x2 : V} (h : H d = some (Mo.Ot d o k x k2 x2)) : TyY K H (.ref d) (.type "dict")
def rIsiY (K : PySem.W.Frag) : List V → Hp → VK → Prop := fun xs H Q => ∃ (x c : V) (t u : Value) (b : Bool), xs = [x, c] ∧ ClsV c u ∧ TyY K H x t ∧ PySem.W.kitOne K t u = some b ∧ Q (.bl b) H
def rIsiTY (K : PySem.W.Frag) : List V → Hp → VK → Prop := fun xs H Q => ∃ (x : V) (tp : Addr) (cs : List V) (t : Value) (us : List Value) (b : Bool), xs = [x, .ref tp] ∧ H tp = some (.tup cs) ∧ Paired ClsV cs us ∧ TyY K H x t ∧ PySem.W.kitAny K t us = some b ∧ Q (.bl b) H
theorem call_isiY {X : Cx} : CallR X (.builtin "isinstance") (rIsiY X.K) := by
  intro pins s σ H xs us Q I r h
  obtain ⟨x, c, t, u, b, e0, hc, ty, e, q⟩ := h
  cases ty with
  | x ty => exact call_isi pins s σ H xs us Q I r ⟨x, c, t, u, b, e0, hc, ty, e, q⟩
  | od hd => exact Mo.call_isiO pins s σ H xs us Q I r ⟨_, _, _, _, c, u, b, e0, hc, hd, e, q⟩
  | ot hd => exact Mo.call_isiT2 pins s σ H xs us Q I r ⟨_, _, _, _, _, _, c, u, b, e0, hc, hd, e, q⟩
theorem call_isiTY {X : Cx} : CallR X (.builtin "isinstance") (rIsiTY X.K) := by
  intro pins s σ H xs us Q I r h
  obtain ⟨x, tp, cs, t, ws, b, e0, hT, hc, ty, e, q⟩ := h
  cases ty with
  | x ty => exact call_isiT pins s σ H xs us Q I r ⟨x, tp, cs, t, ws, b, e0, hT, hc, ty, e, q⟩
  | od hd => exact Mo.call_isiOT pins s σ H xs us Q I r ⟨_, _, _, _, tp, cs, ws, b, e0, hT, hc, hd, e, q⟩
  | ot hd => exact Mo.call_isiTT2 pins s σ H xs us Q I r ⟨_, _, _, _, _, _, tp, cs, ws, b, e0, hT, hc, hd, e, q⟩
/-- the same by looking: what _law_same finds to be the same -/
inductive Sm (C0 : Addr) (H : Hp) : Nat → V → V → Prop
  | non (n : Nat) : Sm C0 H n .non .non
  | int (n : Nat) (i : Int) : Sm C0 H n (.int i) (.int i)
  | bl (n : Nat) (b : Bool) : Sm C0 H n (.bl b) (.bl b)
  | str (n : Nat) (x : Str) : Sm C0 H n (.str x) (.str x)
  | mk (n : Nat) {m : Addr} {ns ys : List Str} {rw_ : Str → List Str} (h : MkAt H C0 m ns ys rw_) (ok : MkOk ns rw_) : Sm C0 H n (.ref m) (.ref m)
  | lst {n : Nat} {a b : Addr} {xs ys : List V} (ha : H a = some (.lst xs)) (hb : H b = some (.lst ys)) (hl : xs.length = ys.length) (hn : xs.length ≤ 1000) (h : ∀ (i : Nat) (x y : V), xs[i]? = some x → ys[i]? = some y → Sm C0 H n x y) : Sm C0 H (n + 1) (.ref a) (.ref b)
  | tup {n : Nat} {a b : Addr} {xs ys : List V} (ha : H a = some (.tup xs)) (hb : H b = some (.tup ys)) (hl : xs.length = ys.length) (hn : xs.length ≤ 1000) (h : ∀ (i : Nat) (x y : V), xs[i]? = some x → ys[i]? = some y → Sm C0 H n x y) : Sm C0 H (n + 1) (.ref a) (.ref b)
  | dic {n : Nat} {a b : Addr} {ks ls : List (Key × V)} (ha : H a = some (.dK ks)) (hb : H b = some (.dK ls)) (hl : ks.length = ls.length) (hn : ks.length ≤ 1000) (hk : ∀ (i : Nat) (p q : Key × V), ks[i]? = some p → ls[i]? = some q → p.1 = q.1) (h : ∀ (i : Nat) (p q : Key × V), ks[i]? = some p → ls[i]? = some q → Sm C0 H n p.2 q.2) : Sm C0 H (n + 3) (.ref a) (.ref b)
  | od {n : Nat} {d : Addr} {o : Obj} {k x : V} (h : H d = some (Mo.Od d o k x)) (hk : Sm C0 H n k k) (hx : Sm C0 H n x x) : Sm C0 H (n + 3) (.ref d) (.ref d)
  | ot {n : Nat} {d : Addr} {o : Obj} {k x k2 x2 : V} (h : H d = some (Mo.Ot d o k x k2 x2)) (hk : Sm C0 H n k k) (hx : Sm C0 H n x x) (hk2 : Sm C0 H n k2 k2) (hx2 : Sm C0 H n x2 x2) : Sm C0 H (n + 3) (.ref d) (.ref d)
theorem MkAt.ext {H H' : Hp} {C m : Addr} {ns ys : List Str} {rw_ : Str → List Str} (s : ExtN H H') (h : MkAt H C m ns ys rw_) : MkAt H' C m ns ys rw_ := by
  obtain ⟨⟨dx, pl, rd, h1, h2, as, h3, h4, h5⟩, h6, h7⟩ := h
  exact ⟨⟨dx, pl, rd, s _ _ h1 ntb_ins, s _ _ h2 ntb_lst, as, h3, s _ _ h4 ntb_dK, fun i n a e1 e2 => s _ _ (h5 i n a e1 e2) ntb_lst⟩, h6, h7⟩
theorem Sm.ext {C0 : Addr} {H H' : Hp} (s : ExtN H H') : ∀ {n : Nat} {x y : V}, Sm C0 H n x y → Sm C0 H' n x y := by
  intro n x y h
  induction h with
  | non n => exact .non n
  | int n i => exact .int n i
  | bl n b => exact .bl n b
  | str n x => exact .str n x
  | mk n h ok => exact .mk n (h.ext s) ok
  | lst ha hb hl hn _ ih => exact .lst (s _ _ ha ntb_lst) (s _ _ hb ntb_lst) hl hn ih
  | tup ha hb hl hn _ ih => exact .tup (s _ _ ha ntb_tup) (s _ _ hb ntb_tup) hl hn ih
  | dic ha hb hl hn hk _ ih => exact .dic (s _ _ ha ntb_dK) (s _ _ hb ntb_dK) hl hn hk ih
  | od h _ _ ih1 ih2 => exact .od (s _ _ h (fun ps z => by cases z)) ih1 ih2
  | ot h _ _ _ _ ih1 ih2 ih3 ih4 => exact .ot (s _ _ h (fun ps z => by cases z)) ih1 ih2 ih3 ih4
def spSame (C0 : Addr) (n : Nat) : Sp := fun vs H Q _ => ∃ x y : V, vs = [x, y] ∧ Sm C0 H n x y ∧ ∀ H', Same H H' → Q (.bl true) H'
def spPrev (C0 : Addr) : Nat → Sp
  | 0 => fun _ _ _ _ => False
  | n + 1 => spSame C0 n
theorem scSame : FnScope ["_law_found", "_law_due", "_law_x", "_law_y"] ["_law_found", "_law_due"] (defScope sSame) := ⟨rfl, rfl, rfl, by decide +kernel, rfl, by decide +kernel, by decide +kernel⟩
theorem boot_dict2 : bootBuiltins "dict" = some (.type "dict") := by decide +kernel
theorem boot_int2 : bootBuiltins "int" = some (.type "int") := by decide +kernel
theorem boot_bool2 : bootBuiltins "bool" = some (.type "bool") := by decide +kernel
theorem ans_of_mk {K : PySem.W.Frag} {H : Hp} {C f m : Addr} {ns ys : List Str} {rw_ : Str → List Str} (M : MkE K C f) (T : MkT K C) (h : MkAt H C m ns ys rw_) : Ans K H (.ref m) false false false false false := by
  obtain ⟨⟨dx, pl, rd, hm, _⟩, _⟩ := h
  exact ans_mk M T hm
theorem walk_zipT {K : PySem.W.Frag} {a b : Addr} {xs ys : List V} {n : Nat} (hn : n = min xs.length ys.length) : Walk (RZ.ItzT K a b) n (fun H => SqT K H a xs ∧ SqT K H b ys) (YPair (fun i => xs[i]?) (fun i => ys[i]?)) := by
  subst hn
  refine ⟨fun i _ hi q => ?_, fun _ q => ⟨xs, ys, q.1, q.2, by omega⟩, fun i H v H' _ q y => ?_⟩
  · have h1 : i < xs.length := by omega
    have h2 : i < ys.length := by omega
    exact ⟨xs, ys, xs[i], ys[i], q.1, q.2, by simp [h1], by simp [h2]⟩
  · obtain ⟨T, x, y', h1, h2, h3, h4, h5⟩ := y
    exact ⟨T, x, y', h1, h2, h3, h4 xs q.1, h5 ys q.2⟩
section
variable {P : Program} {w : World} {K : PySem.W.Frag} {mg : Str → Option Value} {base : Heap}
theorem same_step {n : Nat} {f fE C0 : Addr} {fd fdE : FuncData} (F : Fun K "_law_same" "_law_same" sSame f fd) (bF : Binds K fd ["_law_found", "_law_due"] []) (gF : mg "_law_same" = some (.ref f)) (GP : FnOk P w K mg base CX0 (n + 2) f fd ["_law_found", "_law_due"] (spPrev C0 n))
    (GE : FnOk P w K mg base CX0 1 fE fdE ["self", "other"] (spEqM K C0)) (bE : Binds K fdE ["self", "other"] []) (M : MkE K C0 fE) (MT : MkT K C0)
    (gIs : mg "isinstance" = none) (gList : mg "list" = none) (gTuple : mg "tuple" = none) (gDict : mg "dict" = none) (gInt : mg "int" = none) (gBool : mg "bool" = none) (gLen : mg "len" = none) (gAll : mg "all" = none) (gZip : mg "zip" = none) :
    FnOk P w K mg base CX0 (n + 3) f fd ["_law_found", "_law_due"] (spSame C0 n) := by
  refine F.ok scSame (fun vs H Q E h => ?_) (fun cdv A outer s H vs Q E hr h => ?_)
  · obtain ⟨x, y, rfl, _⟩ := h
    rfl
  · obtain ⟨x, y, rfl, sm, k⟩ := h
    have nd := scSame.nd
    have hr1 := hr.mono (show 1 ≤ n + 2 by omega)
    have kP := F.kp
    have bP := bF
    have gP := gF
    refine ⟨_, pss_cons (ps_if (pt_val (pe_callB call_isiTY (by rfl) gIs boot_isinstance (pa_cons (pv 1) (pa_cons (pe_tup (pa_cons (pe_bltn (v := .ty "list") rfl gList boot_list2 rfl) (pa_cons (pe_bltn (v := .ty "tuple") rfl gTuple boot_tuple2 rfl) pa_nil))) pa_nil)))) (pss_cons (ps_if (PW.pt (pw_or (pt_cmpR op_ne (pe_callB call_isiY (by rfl) gIs boot_isinstance (pa_cons (pv 0) (pa_cons (pe_bltn (v := .ty "list") rfl gList boot_list2 rfl) pa_nil))) (pe_callB call_isiY (by rfl) gIs boot_isinstance (pa_cons (pv 1) (pa_cons (pe_bltn (v := .ty "list") rfl gList boot_list2 rfl) pa_nil))) (nomark _)) (pw_or1 (pt_cmpR op_ne (pe_callB call_isiY (by rfl) gIs boot_isinstance (pa_cons (pv 0) (pa_cons (pe_bltn (v := .ty "tuple") rfl gTuple boot_tuple2 rfl) pa_nil))) (pe_callB call_isiY (by rfl) gIs boot_isinstance (pa_cons (pv 1) (pa_cons (pe_bltn (v := .ty "tuple") rfl gTuple boot_tuple2 rfl) pa_nil))) (nomark _))))) (pss_one (ps_ret pe_bl)) pss_nil)
      (pss_one (ps_ret (pe_and (pe_cmpR op_eq (pe_callB call_len_seq (by rfl) gLen PySem.boot_len (pa_cons (pv 0) pa_nil)) (pe_callB call_len_seq (by rfl) gLen PySem.boot_len (pa_cons (pv 1) pa_nil)) (nomark _)) (pe_one (pe_callB (cr_all rfl) (by rfl) gAll (by decide +kernel) (pa_cons (pe_lc (own := [("_law_x", 2), ("_law_y", 3)]) (g := gTup K 2 (gCons (gName 2) (gCons (gName 3) gNil))) (tt := tYes) (te := tCall (spPrev C0 n) [] E0 (tCons (tVar 2) (tCons (tVar 3) tNil))) rfl nd (RZ.pi_zipA rfl gZip (pa_cons (pv 0) (pa_cons (pv 1) pa_nil))) (blkOk_by (N := ["_law_found", "_law_due", "_law_x", "_law_y"]) (sc := defScope sSame) (by decide +kernel)) (fun _ _ _ _ _ => pg_tup rfl (pgs_cons (pg_name (i := 2) nd rfl (Or.inl rfl)) (pgs_cons (pg_name (i := 3) nd rfl (Or.inl rfl)) pgs_nil))) (fun _ _ _ _ _ => pts_nil) (fun _ _ _ _ _ => by exact pe_call GP hr rfl gP kP bP .nil pass0 (pa_cons (pv 2) (pa_cons (pv 3) pa_nil)))) pa_nil))))))) pss_nil)
      (pss_cons (ps_if (pt_val (pe_callB call_isiY (by rfl) gIs boot_isinstance (pa_cons (pv 1) (pa_cons (pe_bltn (v := .ty "dict") rfl gDict boot_dict2 rfl) pa_nil)))) (pss_one (ps_ret (pe_and (pe_callB call_isiY (by rfl) gIs boot_isinstance (pa_cons (pv 0) (pa_cons (pe_bltn (v := .ty "dict") rfl gDict boot_dict2 rfl) pa_nil))) (pe_one (pe_call GP hr rfl gP kP bP .nil pass0 (pa_cons (pe_or2 (LiI.pe_listItems rfl (pv 0) rfl gList boot_list2) (pe_or2 (Mo.pe_listItemsO rfl (pv 0) rfl gList boot_list2) (Mo.pe_listItemsT rfl (pv 0) rfl gList boot_list2))) (pa_cons (pe_or2 (LiI.pe_listItems rfl (pv 1) rfl gList boot_list2) (pe_or2 (Mo.pe_listItemsO rfl (pv 1) rfl gList boot_list2) (Mo.pe_listItemsT rfl (pv 1) rfl gList boot_list2))) pa_nil))))))) pss_nil)
      (pss_cons (ps_if (pt_val (pe_callB call_isiY (by rfl) gIs boot_isinstance (pa_cons (pv 1) (pa_cons (pe_bltn (v := .ty "int") rfl gInt boot_int2 rfl) pa_nil)))) (pss_one (ps_ret (pe_and (pe_callB call_isiY (by rfl) gIs boot_isinstance (pa_cons (pv 0) (pa_cons (pe_bltn (v := .ty "int") rfl gInt boot_int2 rfl) pa_nil))) (pe_and (pe_cmpR op_eq (pe_callB call_isiY (by rfl) gIs boot_isinstance (pa_cons (pv 0) (pa_cons (pe_bltn (v := .ty "bool") rfl gBool boot_bool2 rfl) pa_nil))) (pe_callB call_isiY (by rfl) gIs boot_isinstance (pa_cons (pv 1) (pa_cons (pe_bltn (v := .ty "bool") rfl gBool boot_bool2 rfl) pa_nil))) (nomark _)) (pe_one (pe_cmpR op_eq (pv 0) (pv 1) (nomark _))))))) pss_nil)
      (pss_one (ps_ret (pe_and (pe_not (pe_callB call_isiTY (by rfl) gIs boot_isinstance (pa_cons (pv 0) (pa_cons (pe_tup (pa_cons (pe_bltn (v := .ty "int") rfl gInt boot_int2 rfl) (pa_cons (pe_bltn (v := .ty "list") rfl gList boot_list2 rfl) (pa_cons (pe_bltn (v := .ty "tuple") rfl gTuple boot_tuple2 rfl) (pa_cons (pe_bltn (v := .ty "dict") rfl gDict boot_dict2 rfl) pa_nil))))) pa_nil)))) (pe_one (pe_cmpR (op_eq.or (op_eqM GE bE M hr1)) (pv 0) (pv 1) (nomark _)))))))), ?_⟩
    cases sm with
    | non n =>
      obtain ⟨ty, t0, kl, kt, kd, ki, kb⟩ := (ans_non : Ans K H .non _ _ _ _ _)
      refine ⟨_, rfl, (show 2 ≤ sizeLine by decide), fun p1 np1 => ⟨_, p1, _, ty, _, _, rfl, upd_same, .cons (.ty _) (.cons (.ty _) .nil), .x (TyX.same (sameUp np1) t0), kitAny2 kl kt, _, rfl, iteF ?_⟩⟩
      have s1 := sameUp (o := .tup [.ty "list", .ty "tuple"]) np1
      have t1 := TyX.same s1 t0
      refine ⟨_, rfl, _, _, _, _, _, rfl, .ty _, .x t1, kd, _, rfl, iteF ?_⟩
      refine ⟨_, rfl, _, _, _, _, _, rfl, .ty _, .x t1, ki, _, rfl, iteF ?_⟩
      refine ⟨_, rfl, (show 4 ≤ sizeLine by decide), fun p2 np2 => ⟨_, p2, _, ty, _, _, rfl, upd_same, .cons (.ty _) (.cons (.ty _) (.cons (.ty _) (.cons (.ty _) .nil))), .x (TyX.same (sameUp np2) t1), kitAny4 ki kl kt kd, _, rfl, _, rfl, iteT ⟨_, rfl, _, rfl, ?_⟩⟩⟩
      have s2 := s1.trans (sameUp (o := .tup [.ty "int", .ty "list", .ty "tuple", .ty "dict"]) np2)
      refine .inl ⟨rfl, ?_⟩
      rw [decide_eq_true rfl]
      exact k _ s2
    | str n x =>
      obtain ⟨ty, t0, kl, kt, kd, ki, kb⟩ := (ans_str : Ans K H (.str x) _ _ _ _ _)
      refine ⟨_, rfl, (show 2 ≤ sizeLine by decide), fun p1 np1 => ⟨_, p1, _, ty, _, _, rfl, upd_same, .cons (.ty _) (.cons (.ty _) .nil), .x (TyX.same (sameUp np1) t0), kitAny2 kl kt, _, rfl, iteF ?_⟩⟩
      have s1 := sameUp (o := .tup [.ty "list", .ty "tuple"]) np1
      have t1 := TyX.same s1 t0
      refine ⟨_, rfl, _, _, _, _, _, rfl, .ty _, .x t1, kd, _, rfl, iteF ?_⟩
      refine ⟨_, rfl, _, _, _, _, _, rfl, .ty _, .x t1, ki, _, rfl, iteF ?_⟩
      refine ⟨_, rfl, (show 4 ≤ sizeLine by decide), fun p2 np2 => ⟨_, p2, _, ty, _, _, rfl, upd_same, .cons (.ty _) (.cons (.ty _) (.cons (.ty _) (.cons (.ty _) .nil))), .x (TyX.same (sameUp np2) t1), kitAny4 ki kl kt kd, _, rfl, _, rfl, iteT ⟨_, rfl, _, rfl, ?_⟩⟩⟩
      have s2 := s1.trans (sameUp (o := .tup [.ty "int", .ty "list", .ty "tuple", .ty "dict"]) np2)
      refine .inl ⟨rfl, ?_⟩
      rw [decide_eq_true rfl]
      exact k _ s2
    | @mk n m ns ys rw_ h ok =>
      obtain ⟨ty, t0, kl, kt, kd, ki, kb⟩ := ans_of_mk M MT h
      refine ⟨_, rfl, (show 2 ≤ sizeLine by decide), fun p1 np1 => ⟨_, p1, _, ty, _, _, rfl, upd_same, .cons (.ty _) (.cons (.ty _) .nil), .x (TyX.same (sameUp np1) t0), kitAny2 kl kt, _, rfl, iteF ?_⟩⟩
      have s1 := sameUp (o := .tup [.ty "list", .ty "tuple"]) np1
      have t1 := TyX.same s1 t0
      refine ⟨_, rfl, _, _, _, _, _, rfl, .ty _, .x t1, kd, _, rfl, iteF ?_⟩
      refine ⟨_, rfl, _, _, _, _, _, rfl, .ty _, .x t1, ki, _, rfl, iteF ?_⟩
      refine ⟨_, rfl, (show 4 ≤ sizeLine by decide), fun p2 np2 => ⟨_, p2, _, ty, _, _, rfl, upd_same, .cons (.ty _) (.cons (.ty _) (.cons (.ty _) (.cons (.ty _) .nil))), .x (TyX.same (sameUp np2) t1), kitAny4 ki kl kt kd, _, rfl, _, rfl, iteT ⟨_, rfl, _, rfl, ?_⟩⟩⟩
      have s2 := s1.trans (sameUp (o := .tup [.ty "int", .ty "list", .ty "tuple", .ty "dict"]) np2)
      have hM := h.ext (ExtN.of s2)
      obtain ⟨⟨dx, pl, rd, hm, _⟩, _⟩ := id hM
      have e1 : eqM ns rw_ ns rw_ = true := by
        unfold eqM
        rw [decide_eq_true rfl, Bool.true_and]
        exact List.all_eq_true.mpr fun n _ => decide_eq_true rfl
      refine .inr ⟨m, dx, _, .ref C0, rfl, hm, .ins hm, by simp [PySem.W.notFirst], m, _, ns, _, rw_, rfl, hM, ok, .inr ⟨m, ns, _, rw_, rfl, hM, ok, _, rfl, ?_⟩⟩
      rw [e1]
      exact k _ s2
    | int n i =>
      obtain ⟨ty, t0, kl, kt, kd, ki, kb⟩ := (ans_int : Ans K H (.int i) _ _ _ _ _)
      refine ⟨_, rfl, (show 2 ≤ sizeLine by decide), fun p1 np1 => ⟨_, p1, _, ty, _, _, rfl, upd_same, .cons (.ty _) (.cons (.ty _) .nil), .x (TyX.same (sameUp np1) t0), kitAny2 kl kt, _, rfl, iteF ?_⟩⟩
      have s1 := sameUp (o := .tup [.ty "list", .ty "tuple"]) np1
      have t1 := TyX.same s1 t0
      refine ⟨_, rfl, _, _, _, _, _, rfl, .ty _, .x t1, kd, _, rfl, iteF ?_⟩
      refine ⟨_, rfl, _, _, _, _, _, rfl, .ty _, .x t1, ki, _, rfl, iteT ?_⟩
      refine ⟨_, rfl, _, _, _, _, _, rfl, .ty _, .x t1, ki, _, rfl, iteT ?_⟩
      refine ⟨_, rfl, _, _, _, _, _, rfl, .ty _, .x t1, kb, _, rfl, _, _, _, _, _, rfl, .ty _, .x t1, kb, rfl, ?_⟩
      refine ⟨_, rfl, ?_⟩
      rw [decide_eq_true rfl]
      refine iteT ⟨_, rfl, _, rfl, rfl, ?_⟩
      rw [decide_eq_true rfl]
      exact k _ s1
    | bl n b =>
      obtain ⟨ty, t0, kl, kt, kd, ki, kb⟩ := (ans_bl : Ans K H (.bl b) _ _ _ _ _)
      refine ⟨_, rfl, (show 2 ≤ sizeLine by decide), fun p1 np1 => ⟨_, p1, _, ty, _, _, rfl, upd_same, .cons (.ty _) (.cons (.ty _) .nil), .x (TyX.same (sameUp np1) t0), kitAny2 kl kt, _, rfl, iteF ?_⟩⟩
      have s1 := sameUp (o := .tup [.ty "list", .ty "tuple"]) np1
      have t1 := TyX.same s1 t0
      refine ⟨_, rfl, _, _, _, _, _, rfl, .ty _, .x t1, kd, _, rfl, iteF ?_⟩
      refine ⟨_, rfl, _, _, _, _, _, rfl, .ty _, .x t1, ki, _, rfl, iteT ?_⟩
      refine ⟨_, rfl, _, _, _, _, _, rfl, .ty _, .x t1, ki, _, rfl, iteT ?_⟩
      refine ⟨_, rfl, _, _, _, _, _, rfl, .ty _, .x t1, kb, _, rfl, _, _, _, _, _, rfl, .ty _, .x t1, kb, rfl, ?_⟩
      refine ⟨_, rfl, ?_⟩
      rw [decide_eq_true rfl]
      refine iteT ⟨_, rfl, _, rfl, rfl, ?_⟩
      rw [decide_eq_true rfl]
      exact k _ s1
    | @lst n a b xs ys ha hb hl hn hs =>
      obtain ⟨ty, t0, kl, kt, kd, ki, kb⟩ := (ans_lst hb : Ans K H (.ref b) _ _ _ _ _)
      obtain ⟨ty', t0', kl', kt', kd', ki', kb'⟩ := (ans_lst ha : Ans K H (.ref a) _ _ _ _ _)
      refine ⟨_, rfl, (show 2 ≤ sizeLine by decide), fun p1 np1 => ⟨_, p1, _, ty, _, _, rfl, upd_same, .cons (.ty _) (.cons (.ty _) .nil), .x (TyX.same (sameUp np1) t0), kitAny2 kl kt, _, rfl, iteT ?_⟩⟩
      have s1 := sameUp (o := .tup [.ty "list", .ty "tuple"]) np1
      have t1 := TyX.same s1 t0
      have t1' := TyX.same s1 t0'
      refine ⟨_, rfl, _, _, _, _, _, rfl, .ty _, .x t1', kl', _, rfl, _, _, _, _, _, rfl, .ty _, .x t1, kl, rfl, _, rfl, ?_⟩
      rw [decide_eq_true rfl]
      refine iteF ?_
      refine ⟨_, rfl, _, _, _, _, _, rfl, .ty _, .x t1', kt', _, rfl, _, _, _, _, _, rfl, .ty _, .x t1, kt, rfl, _, rfl, ?_⟩
      rw [decide_eq_true rfl]
      refine iteF ?_
      have ha1 := s1 _ _ ha
      have hb1 := s1 _ _ hb
      refine ⟨_, rfl, a, xs, rfl, .inl (SqL.of ha1), _, rfl, b, ys, rfl, .inl (SqL.of hb1), rfl, ?_⟩
      rw [hl, decide_eq_true rfl]
      refine ⟨_, rfl, iteT ?_⟩
      refine ⟨_, rfl, _, rfl, a, b, xs, ys, rfl, .inl ⟨SqL.of ha1, SqL.of hb1, fun D hD => ?_⟩⟩
      refine lc_it (walk_zip (by rw [hl, Nat.min_self] : ys.length = min xs.length ys.length)) (fun i H' => Same (upd H p1 (.tup [.ty "list", .ty "tuple"])) H' ∧ H' D = some (.lst ((List.replicate i true).map V.bl))) ⟨sameUp hD, upd_same⟩ (fun i H' _ ⟨s, _⟩ => ⟨SqL.of (s _ _ ha1), SqL.of (s _ _ hb1)⟩) ?_ ?_
      · rintro i v H2 H3 hi ⟨s2, hD2⟩ ⟨T0, x1, y1, rfl, nT0, rfl, e1, e2⟩
        have s3 := s2.trans (sameUp (o := .tup [x1, y1]) nT0)
        refine ⟨T0, _, rfl, SqT.of upd_same, rfl, _, _, rfl, _, _, rfl, rfl, rfl, ?_⟩
        refine ⟨_, rfl, _, rfl, x1, y1, rfl, Sm.ext (ExtN.of (s1.trans s3)) (hs i x1 y1 e1 e2), fun H4 s4 => ?_⟩
        refine ⟨_, s4 _ _ ((sameUp (o := .tup [x1, y1]) nT0) _ _ hD2), ?_, fun b' o e => ?_, ?_⟩
        · rw [List.length_map, List.length_replicate]
          exact small1000 (by omega)
        · rw [upd_ne (ne_of_none e hD)]
          exact s4 _ _ (s3 _ _ e)
        · rw [upd_same, List.replicate_succ', List.map_append]
          rfl
      · rintro H2 ⟨s2, hD2⟩
        refine ⟨D, _, rfl, SqL.of hD2, ?_⟩
        have e : (List.replicate ys.length true).all id = true := List.all_eq_true.mpr fun z hz => by rw [(List.mem_replicate.mp hz).2]; rfl
        rw [e]
        exact k _ (s1.trans s2)
    | @tup n a b xs ys ha hb hl hn hs =>
      obtain ⟨ty, t0, kl, kt, kd, ki, kb⟩ := (ans_tup hb : Ans K H (.ref b) _ _ _ _ _)
      obtain ⟨ty', t0', kl', kt', kd', ki', kb'⟩ := (ans_tup ha : Ans K H (.ref a) _ _ _ _ _)
      refine ⟨_, rfl, (show 2 ≤ sizeLine by decide), fun p1 np1 => ⟨_, p1, _, ty, _, _, rfl, upd_same, .cons (.ty _) (.cons (.ty _) .nil), .x (TyX.same (sameUp np1) t0), kitAny2 kl kt, _, rfl, iteT ?_⟩⟩
      have s1 := sameUp (o := .tup [.ty "list", .ty "tuple"]) np1
      have t1 := TyX.same s1 t0
      have t1' := TyX.same s1 t0'
      refine ⟨_, rfl, _, _, _, _, _, rfl, .ty _, .x t1', kl', _, rfl, _, _, _, _, _, rfl, .ty _, .x t1, kl, rfl, _, rfl, ?_⟩
      rw [decide_eq_true rfl]
      refine iteF ?_
      refine ⟨_, rfl, _, _, _, _, _, rfl, .ty _, .x t1', kt', _, rfl, _, _, _, _, _, rfl, .ty _, .x t1, kt, rfl, _, rfl, ?_⟩
      rw [decide_eq_true rfl]
      refine iteF ?_
      have ha1 := s1 _ _ ha
      have hb1 := s1 _ _ hb
      refine ⟨_, rfl, a, xs, rfl, .inr (SqT.of ha1), _, rfl, b, ys, rfl, .inr (SqT.of hb1), rfl, ?_⟩
      rw [hl, decide_eq_true rfl]
      refine ⟨_, rfl, iteT ?_⟩
      refine ⟨_, rfl, _, rfl, a, b, xs, ys, rfl, .inr ⟨SqT.of ha1, SqT.of hb1, fun D hD => ?_⟩⟩
      refine lc_it (walk_zipT (by rw [hl, Nat.min_self] : ys.length = min xs.length ys.length)) (fun i H' => Same (upd H p1 (.tup [.ty "list", .ty "tuple"])) H' ∧ H' D = some (.lst ((List.replicate i true).map V.bl))) ⟨sameUp hD, upd_same⟩ (fun i H' _ ⟨s, _⟩ => ⟨SqT.of (s _ _ ha1), SqT.of (s _ _ hb1)⟩) ?_ ?_
      · rintro i v H2 H3 hi ⟨s2, hD2⟩ ⟨T0, x1, y1, rfl, nT0, rfl, e1, e2⟩
        have s3 := s2.trans (sameUp (o := .tup [x1, y1]) nT0)
        refine ⟨T0, _, rfl, SqT.of upd_same, rfl, _, _, rfl, _, _, rfl, rfl, rfl, ?_⟩
        refine ⟨_, rfl, _, rfl, x1, y1, rfl, Sm.ext (ExtN.of (s1.trans s3)) (hs i x1 y1 e1 e2), fun H4 s4 => ?_⟩
        refine ⟨_, s4 _ _ ((sameUp (o := .tup [x1, y1]) nT0) _ _ hD2), ?_, fun b' o e => ?_, ?_⟩
        · rw [List.length_map, List.length_replicate]
          exact small1000 (by omega)
        · rw [upd_ne (ne_of_none e hD)]
          exact s4 _ _ (s3 _ _ e)
        · rw [upd_same, List.replicate_succ', List.map_append]
          rfl
      · rintro H2 ⟨s2, hD2⟩
        refine ⟨D, _, rfl, SqL.of hD2, ?_⟩
        have e : (List.replicate ys.length true).all id = true := List.all_eq_true.mpr fun z hz => by rw [(List.mem_replicate.mp hz).2]; rfl
        rw [e]
        exact k _ (s1.trans s2)
    | @dic n a b ks ls ha hb hl hn hk hs =>
      obtain ⟨ty, t0, kl, kt, kd, ki, kb⟩ := (ans_dK hb : Ans K H (.ref b) _ _ _ _ _)
      obtain ⟨ty', t0', kl', kt', kd', ki', kb'⟩ := (ans_dK ha : Ans K H (.ref a) _ _ _ _ _)
      refine ⟨_, rfl, (show 2 ≤ sizeLine by decide), fun p1 np1 => ⟨_, p1, _, ty, _, _, rfl, upd_same, .cons (.ty _) (.cons (.ty _) .nil), .x (TyX.same (sameUp np1) t0), kitAny2 kl kt, _, rfl, iteF ?_⟩⟩
      have s1 := sameUp (o := .tup [.ty "list", .ty "tuple"]) np1
      have t1 := TyX.same s1 t0
      have t1' := TyX.same s1 t0'
      refine ⟨_, rfl, _, _, _, _, _, rfl, .ty _, .x t1, kd, _, rfl, iteT ?_⟩
      refine ⟨_, rfl, _, _, _, _, _, rfl, .ty _, .x t1', kd', _, rfl, iteT ?_⟩
      refine .inl ⟨_, rfl, a, ks, rfl, s1 _ _ ha, fun H2 q1 ts1 s2 nq1 fr1 nm1 hq1 pr1 => ?_⟩
      refine .inl ⟨_, rfl, b, ls, rfl, s2 _ _ (s1 _ _ hb), fun H3 q2 ts2 s3 nq2 fr2 nm2 hq2 pr2 => ?_⟩
      have sA := (s1.trans s2).trans s3
      refine ⟨_, _, rfl, .lst (s3 _ _ hq1) hq2 ?_ ?_ fun i x y h1 h2 => ?_, fun H4 s4 => k H4 (sA.trans s4)⟩
      · rw [List.length_map, List.length_map, Paired.length pr1, Paired.length pr2, hl]
      · rw [List.length_map, Paired.length pr1]
        exact hn
      · rw [List.getElem?_map] at h1 h2
        obtain ⟨t1, ht1, rfl⟩ := Option.map_eq_some_iff.mp h1
        obtain ⟨t2, ht2, rfl⟩ := Option.map_eq_some_iff.mp h2
        obtain ⟨p, hp, e1⟩ := LiI.paired_get pr1 ht1
        obtain ⟨q, hq, e2⟩ := LiI.paired_get pr2 ht2
        refine .tup (s3 _ _ e1) e2 rfl (show 2 ≤ 1000 by decide) fun j x y h1 h2 => ?_
        match j, h1, h2 with
        | 0, h1, h2 =>
          have e3 : kV p.1 = x := Option.some.inj h1
          have e4 : kV q.1 = y := Option.some.inj h2
          rw [← e3, ← e4, hk i p q hp hq]
          cases q.1 with
          | inl z => exact .int _ z
          | inr z => exact .str _ z
        | 1, h1, h2 =>
          have e3 : p.2 = x := Option.some.inj h1
          have e4 : q.2 = y := Option.some.inj h2
          rw [← e3, ← e4]
          exact Sm.ext (ExtN.of sA) (hs i p q hp hq)
        | j + 2, h1, _ => cases h1
    | @od n d o kk x hd hk hx =>
      have kl : PySem.W.kitOne K (.type "dict") (.type "list") = some false := kit_ty (by decide +kernel)
      have kt : PySem.W.kitOne K (.type "dict") (.type "tuple") = some false := kit_ty (by decide +kernel)
      refine ⟨_, rfl, (show 2 ≤ sizeLine by decide), fun p1 np1 => ⟨_, p1, _, _, _, _, rfl, upd_same, .cons (.ty _) (.cons (.ty _) .nil), .od (sameUp np1 _ _ hd), kitAny2 kl kt, _, rfl, iteF ?_⟩⟩
      have s1 := sameUp (o := .tup [.ty "list", .ty "tuple"]) np1
      refine ⟨_, rfl, _, _, _, _, _, rfl, .ty _, .od (s1 _ _ hd), kit_dictT, _, rfl, iteT ?_⟩
      refine ⟨_, rfl, _, _, _, _, _, rfl, .ty _, .od (s1 _ _ hd), kit_dictT, _, rfl, iteT ?_⟩
      refine .inr (.inl ⟨_, rfl, d, o, kk, x, rfl, s1 _ _ hd, fun q1 T1 nq1 nT1 ne1 => ?_⟩)
      have two : ∀ {H0 : Hp} {q T : Addr}, H0 q = none → H0 T = none → q ≠ T → Same H0 (upd (upd H0 q (.lst [.ref T])) T (.tup [kk, x])) := fun {H0 q T} n1 n2 ne => (sameUp n1).trans (sameUp (by rw [upd_ne ne.symm]; exact n2))
      have s2 := s1.trans (two nq1 nT1 ne1)
      refine .inr (.inl ⟨_, rfl, d, o, kk, x, rfl, s2 _ _ hd, fun q2 T2 nq2 nT2 ne2 => ?_⟩)
      have s3 := two nq2 nT2 ne2
      have sA := s2.trans s3
      refine ⟨_, _, rfl, .lst (xs := [.ref T1]) (ys := [.ref T2]) (s3 _ _ (by rw [upd_ne ne1, upd_same])) (by rw [upd_ne ne2, upd_same]) rfl (show 1 ≤ 1000 by decide) fun i u v h1 h2 => ?_, fun H4 s4 => k H4 (sA.trans s4)⟩
      match i, h1, h2 with
      | 0, h1, h2 =>
        have e3 : V.ref T1 = u := Option.some.inj h1
        have e4 : V.ref T2 = v := Option.some.inj h2
        rw [← e3, ← e4]
        refine .tup (xs := [kk, x]) (ys := [kk, x]) (s3 _ _ upd_same) upd_same rfl (show 2 ≤ 1000 by decide) fun j y z h1 h2 => ?_
        match j, h1, h2 with
        | 0, h1, h2 =>
          have e5 : kk = y := Option.some.inj h1
          have e6 : kk = z := Option.some.inj h2
          rw [← e5, ← e6]
          exact Sm.ext (ExtN.of sA) hk
        | 1, h1, h2 =>
          have e5 : x = y := Option.some.inj h1
          have e6 : x = z := Option.some.inj h2
          rw [← e5, ← e6]
          exact Sm.ext (ExtN.of sA) hx
        | j + 2, h1, _ => cases h1
      | i + 1, h1, _ => cases h1
    | @ot n d o kk x k2 x2 hd hk hx hk2 hx2 =>
      have kl : PySem.W.kitOne K (.type "dict") (.type "list") = some false := kit_ty (by decide +kernel)
      have kt : PySem.W.kitOne K (.type "dict") (.type "tuple") = some false := kit_ty (by decide +kernel)
      refine ⟨_, rfl, (show 2 ≤ sizeLine by decide), fun p1 np1 => ⟨_, p1, _, _, _, _, rfl, upd_same, .cons (.ty _) (.cons (.ty _) .nil), .ot (sameUp np1 _ _ hd), kitAny2 kl kt, _, rfl, iteF ?_⟩⟩
      have s1 := sameUp (o := .tup [.ty "list", .ty "tuple"]) np1
      refine ⟨_, rfl, _, _, _, _, _, rfl, .ty _, .ot (s1 _ _ hd), kit_dictT, _, rfl, iteT ?_⟩
      refine ⟨_, rfl, _, _, _, _, _, rfl, .ty _, .ot (s1 _ _ hd), kit_dictT, _, rfl, iteT ?_⟩
      refine .inr (.inr ⟨_, rfl, d, o, kk, x, k2, x2, rfl, s1 _ _ hd, fun q1 T1 U1 nq1 nT1 nU1 ne1 nf1 ng1 => ?_⟩)
      have thr : ∀ {H0 : Hp} {q T U : Addr}, H0 q = none → H0 T = none → H0 U = none → q ≠ T → q ≠ U → T ≠ U → Same H0 (upd (upd (upd H0 q (.lst [.ref T, .ref U])) T (.tup [kk, x])) U (.tup [k2, x2])) := fun {H0 q T U} n1 n2 n3 e1 e2 e3 =>
        ((sameUp n1).trans (sameUp (by rw [upd_ne e1.symm]; exact n2))).trans (sameUp (by rw [upd_ne e3.symm, upd_ne e2.symm]; exact n3))
      have s2 := s1.trans (thr nq1 nT1 nU1 ne1 nf1 ng1)
      refine .inr (.inr ⟨_, rfl, d, o, kk, x, k2, x2, rfl, s2 _ _ hd, fun q2 T2 U2 nq2 nT2 nU2 ne2 nf2 ng2 => ?_⟩)
      have s3 := thr nq2 nT2 nU2 ne2 nf2 ng2
      have sA := s2.trans s3
      refine ⟨_, _, rfl, .lst (xs := [.ref T1, .ref U1]) (ys := [.ref T2, .ref U2]) (s3 _ _ (by rw [upd_ne nf1, upd_ne ne1, upd_same])) (by rw [upd_ne nf2, upd_ne ne2, upd_same]) rfl (show 2 ≤ 1000 by decide) fun i u v h1 h2 => ?_, fun H4 s4 => k H4 (sA.trans s4)⟩
      match i, h1, h2 with
      | 0, h1, h2 =>
        have e3 : V.ref T1 = u := Option.some.inj h1
        have e4 : V.ref T2 = v := Option.some.inj h2
        rw [← e3, ← e4]
        refine .tup (xs := [kk, x]) (ys := [kk, x]) (s3 _ _ (by rw [upd_ne ng1, upd_same])) (by rw [upd_ne ng2, upd_same]) rfl (show 2 ≤ 1000 by decide) fun j y z h1 h2 => ?_
        match j, h1, h2 with
        | 0, h1, h2 =>
          have e5 : kk = y := Option.some.inj h1
          have e6 : kk = z := Option.some.inj h2
          rw [← e5, ← e6]
          exact Sm.ext (ExtN.of sA) hk
        | 1, h1, h2 =>
          have e5 : x = y := Option.some.inj h1
          have e6 : x = z := Option.some.inj h2
          rw [← e5, ← e6]
          exact Sm.ext (ExtN.of sA) hx
        | j + 2, h1, _ => cases h1
      | 1, h1, h2 =>
        have e3 : V.ref U1 = u := Option.some.inj h1
        have e4 : V.ref U2 = v := Option.some.inj h2
        rw [← e3, ← e4]
        refine .tup (xs := [k2, x2]) (ys := [k2, x2]) (s3 _ _ upd_same) upd_same rfl (show 2 ≤ 1000 by decide) fun j y z h1 h2 => ?_
        match j, h1, h2 with
        | 0, h1, h2 =>
          have e5 : k2 = y := Option.some.inj h1
          have e6 : k2 = z := Option.some.inj h2
          rw [← e5, ← e6]
          exact Sm.ext (ExtN.of sA) hk2
        | 1, h1, h2 =>
          have e5 : x2 = y := Option.some.inj h1
          have e6 : x2 = z := Option.some.inj h2
          rw [← e5, ← e6]
          exact Sm.ext (ExtN.of sA) hx2
        | j + 2, h1, _ => cases h1
      | i + 2, h1, _ => cases h1
theorem ok_same {f fE C0 : Addr} {fd fdE : FuncData} (F : Fun K "_law_same" "_law_same" sSame f fd) (bF : Binds K fd ["_law_found", "_law_due"] []) (gF : mg "_law_same" = some (.ref f))
    (GE : FnOk P w K mg base CX0 1 fE fdE ["self", "other"] (spEqM K C0)) (bE : Binds K fdE ["self", "other"] []) (M : MkE K C0 fE) (MT : MkT K C0)
    (gIs : mg "isinstance" = none) (gList : mg "list" = none) (gTuple : mg "tuple" = none) (gDict : mg "dict" = none) (gInt : mg "int" = none) (gBool : mg "bool" = none) (gLen : mg "len" = none) (gAll : mg "all" = none) (gZip : mg "zip" = none) :
    ∀ n, FnOk P w K mg base CX0 (n + 3) f fd ["_law_found", "_law_due"] (spSame C0 n)
  | 0 => same_step F bF gF ⟨fun _ _ _ _ h => h.elim, fun _ _ _ _ _ _ _ _ _ _ _ _ _ h => h.elim⟩ GE bE M MT gIs gList gTuple gDict gInt gBool gLen gAll gZip
  | n + 1 => same_step F bF gF (ok_same F bF gF GE bE M MT gIs gList gTuple gDict gInt gBool gLen gAll gZip n) GE bE M MT gIs gList gTuple gDict gInt gBool gLen gAll gZip
end
end Mn
/-! _law_draw by bounds, _law_loose -/
namespace Mn
open PySem PySem.Spec PyProof.Rows L2 Md Me Ml LamX
/-- the stream, at most B numbers drawn -/
def Stm (H : Hp) (a b : Addr) (B : Nat) : Prop := ∃ (ns : List Int) (p q r : Int), Strm H a b ns p q r ∧ q ≤ (B : Int)
theorem Stm.ha {H : Hp} {a b : Addr} {B : Nat} (S : Stm H a b B) : ∃ xs, H a = some (.lst xs) := by
  obtain ⟨ns, p, q, r, S, _⟩ := S
  exact ⟨_, S.ha⟩
theorem Stm.hb {H : Hp} {a b : Addr} {B : Nat} (S : Stm H a b B) : ∃ xs, H b = some (.lst xs) := by
  obtain ⟨ns, p, q, r, S, _⟩ := S
  exact ⟨_, S.hb⟩
theorem Stm.ext {H H' : Hp} {a b : Addr} {B : Nat} (e : ExtN H H') (S : Stm H a b B) : Stm H' a b B := by
  obtain ⟨ns, p, q, r, S, h⟩ := S
  exact ⟨ns, p, q, r, ⟨S.ne, e _ _ S.ha ntb_lst, e _ _ S.hb ntb_lst, S.p0, S.q0, S.r0, S.r1⟩, h⟩
theorem Stm.up {H : Hp} {a b : Addr} {B B' : Nat} (h : B ≤ B') (S : Stm H a b B) : Stm H a b B' := by
  obtain ⟨ns, p, q, r, S, hq⟩ := S
  exact ⟨ns, p, q, r, S, by omega⟩
theorem Stm.set {H : Hp} {a b c : Addr} {o : HO} {B : Nat} (S : Stm H a b B) (h1 : c ≠ a) (h2 : c ≠ b) : Stm (upd H c o) a b B := by
  obtain ⟨ns, p, q, r, S, h⟩ := S
  exact ⟨ns, p, q, r, S.other h1 h2, h⟩
def spDrawB : Sp := fun vs H Q _ => ∃ (a b : Addr) (B : Nat) (m : Int), vs = [.ref a, .int m] ∧ Stm H a b B ∧ B < 1000000000000 ∧ 0 < m ∧ m < 1073741824 ∧
  ∀ (H' : Hp) (d : Int), 0 ≤ d → d < m → Stm H' a b (B + 1) → KeepBut a b H H' → Q (.int d) H'
theorem drawB {P : Program} {w : World} {K : PySem.W.Frag} {mg : Str → Option Value} {base : Heap} {f : Addr} {fd : FuncData} (G : FnOk P w K mg base CX0 1 f fd ["_law_stream", "_law_many"] spDraw) : FnOk P w K mg base CX0 1 f fd ["_law_stream", "_law_many"] spDrawB :=
  G.imp fun vs H Q E ⟨a, b, B, m, e, ⟨ns, p, q, r, S, hq⟩, hB, h0, h1, k⟩ => ⟨a, b, ns, p, q, r, m, e, S, h0, h1, by omega, fun H' ns' p' r' d d0 d1 S' kb => k H' d d0 d1 ⟨ns', p', q + 1, r', S', by push_cast; omega⟩ kb⟩
/-! ### things loosened -/
inductive Tree where
  | leaf (v : V)
  | node (ts : List Tree)
inductive Dep : Nat → Tree → Prop
  | leaf (n : Nat) (v : V) : Dep n (.leaf v)
  | node {n : Nat} {ts : List Tree} (h : ∀ t ∈ ts, Dep n t) : Dep (n + 1) (.node ts)
mutual
inductive DatT (K : PySem.W.Frag) (H : Hp) (a b : Addr) : Tree → V → Prop
  | leaf {v : V} (h : NoSeq K H v) : DatT K H a b (.leaf v) v
  | node {ts : List Tree} {c : Addr} {xs : List V} (h1 : c ≠ a) (h2 : c ≠ b) (h : Seq H c xs) (hn : xs.length ≤ 200) (r : DatTs K H a b ts xs) : DatT K H a b (.node ts) (.ref c)
inductive DatTs (K : PySem.W.Frag) (H : Hp) (a b : Addr) : List Tree → List V → Prop
  | nil : DatTs K H a b [] []
  | cons {t : Tree} {ts : List Tree} {v : V} {vs : List V} (h : DatT K H a b t v) (r : DatTs K H a b ts vs) : DatTs K H a b (t :: ts) (v :: vs)
end
mutual
inductive OutT (H : Hp) : Tree → V → List Addr → Prop
  | leaf (v : V) : OutT H (.leaf v) v []
  | node {ts : List Tree} {p : Addr} {ys : List V} {S : List Addr} (h : Seq H p ys) (r : OutTs H ts ys S) (hp : p ∉ S) : OutT H (.node ts) (.ref p) (p :: S)
inductive OutTs (H : Hp) : List Tree → List V → List Addr → Prop
  | nil : OutTs H [] [] []
  | cons {t : Tree} {ts : List Tree} {v : V} {vs : List V} {S S' : List Addr} (h : OutT H t v S) (r : OutTs H ts vs S') (hd : ∀ s ∈ S, s ∉ S') : OutTs H (t :: ts) (v :: vs) (S ++ S')
end
theorem NoSeq.but {K : PySem.W.Frag} {H H' : Hp} {a b : Addr} {v : V} (k : KeepBut a b H H') (ha : ∃ xs, H a = some (.lst xs)) (hb : ∃ xs, H b = some (.lst xs)) (h : NoSeq K H v) : NoSeq K H' v := by
  obtain ⟨t, h1, h2⟩ := h
  obtain ⟨xs, ha⟩ := ha
  obtain ⟨ys, hb⟩ := hb
  have go : ∀ {c : Addr} {o : HO}, H c = some o → (∀ zs, o ≠ .lst zs) → H' c = some o := fun {c o} e n => k c o (fun z => by
    rw [z, ha] at e
    exact n _ (Option.some.inj e).symm) (fun z => by
    rw [z, hb] at e
    exact n _ (Option.some.inj e).symm) e
  refine ⟨t, ?_, h2⟩
  cases h1 with
  | base q =>
    cases q with
    | non => exact .base .non
    | bl y => exact .base (.bl y)
    | int i => exact .base (.int i)
    | str y => exact .base (.str y)
    | flt y => exact .base (.flt y)
    | lst e =>
      rw [kit_seqL] at h2
      cases h2
    | frz e => exact .base (.frz (go e (fun zs z => by cases z)))
    | tup e => exact .base (.tup (go e (fun zs z => by cases z)))
    | dK e => exact .base (.dK (go e (fun zs z => by cases z)))
    | dT e => exact .base (.dT (go e (fun zs z => by cases z)))
    | ins e cl hx hn htk hm => exact .base (.ins (go e (fun zs z => by cases z)) cl hx hn htk hm)
  | byt y => exact .byt y
  | set e => exact .set (go e (fun zs z => by cases z))
  | kList e c => exact .kList e c
  | kTuple e c => exact .kTuple e c
  | kDict e c => exact .kDict e c
  | fTuple e => exact .fTuple (go e (fun zs z => by cases z))
  | fDict e => exact .fDict (go e (fun zs z => by cases z))
theorem Seq.but {H H' : Hp} {a b c : Addr} {xs : List V} (k : KeepBut a b H H') (h1 : c ≠ a) (h2 : c ≠ b) (h : Seq H c xs) : Seq H' c xs := h.imp (k c _ h1 h2) (k c _ h1 h2)
section
variable {K : PySem.W.Frag} {H H' : Hp} {a b : Addr}
mutual
theorem DatT.but (k : KeepBut a b H H') (ha : ∃ xs, H a = some (.lst xs)) (hb : ∃ xs, H b = some (.lst xs)) : ∀ {t : Tree} {v : V}, DatT K H a b t v → DatT K H' a b t v
  | _, _, .leaf h => .leaf (h.but k ha hb)
  | _, _, .node h1 h2 h hn r => .node h1 h2 (h.but k h1 h2) hn (DatTs.but k ha hb r)
theorem DatTs.but (k : KeepBut a b H H') (ha : ∃ xs, H a = some (.lst xs)) (hb : ∃ xs, H b = some (.lst xs)) : ∀ {ts : List Tree} {vs : List V}, DatTs K H a b ts vs → DatTs K H' a b ts vs
  | _, _, .nil => .nil
  | _, _, .cons h r => .cons (DatT.but k ha hb h) (DatTs.but k ha hb r)
end
mutual
theorem OutT.keep : ∀ {t : Tree} {v : V} {S : List Addr}, (∀ s ∈ S, ∀ o, H s = some o → H' s = some o) → OutT H t v S → OutT H' t v S
  | _, _, _, _, .leaf v => .leaf v
  | _, _, _, k, .node h r hp => .node (h.imp (k _ (by simp) _) (k _ (by simp) _)) (OutTs.keep (fun s hs => k s (by simp [hs])) r) hp
theorem OutTs.keep : ∀ {ts : List Tree} {vs : List V} {S : List Addr}, (∀ s ∈ S, ∀ o, H s = some o → H' s = some o) → OutTs H ts vs S → OutTs H' ts vs S
  | _, _, _, _, .nil => .nil
  | _, _, _, k, .cons h r hd => .cons (OutT.keep (fun s hs => k s (by simp [hs])) h) (OutTs.keep (fun s hs => k s (by simp [hs])) r) hd
end
theorem OutTs.snoc {t : Tree} {v : V} {S' : List Addr} (h : OutT H t v S') : ∀ {ts : List Tree} {vs : List V} {S : List Addr}, OutTs H ts vs S → (∀ s ∈ S, s ∉ S') → ∃ S2, OutTs H (ts ++ [t]) (vs ++ [v]) S2 ∧ ∀ s, s ∈ S2 ↔ s ∈ S ∨ s ∈ S'
  | _, _, _, .nil, _ => ⟨S' ++ [], .cons h .nil (by simp), fun s => by simp⟩
  | _, _, _, @OutTs.cons _ t1 ts1 v1 vs1 S1 S2 h1 r1 hd1, hd => by
    obtain ⟨S3, h3, m3⟩ := OutTs.snoc h r1 (fun s hs => hd s (by simp [hs]))
    refine ⟨S1 ++ S3, .cons h1 h3 fun s hs z => ?_, fun s => ?_⟩
    · rcases (m3 s).mp z with q | q
      · exact hd1 s hs q
      · exact hd s (by simp [hs]) q
    · rw [List.mem_append, m3 s, List.mem_append, or_assoc]
mutual
theorem OutT.live : ∀ {t : Tree} {v : V} {S : List Addr}, OutT H t v S → ∀ s ∈ S, H s ≠ none
  | _, _, _, .leaf v, s, hs => by simp at hs
  | _, _, _, .node h r hp, s, hs => by
    rcases List.mem_cons.mp hs with e | e
    · subst e
      rcases h with h | h <;> (rw [h]; simp)
    · exact OutTs.live r s e
theorem OutTs.live : ∀ {ts : List Tree} {vs : List V} {S : List Addr}, OutTs H ts vs S → ∀ s ∈ S, H s ≠ none
  | _, _, _, .nil, s, hs => by simp at hs
  | _, _, _, .cons h r hd, s, hs => by
    rcases List.mem_append.mp hs with e | e
    · exact OutT.live h s e
    · exact OutTs.live r s e
end
theorem DatTs.len : ∀ {ts : List Tree} {vs : List V}, DatTs K H a b ts vs → ts.length = vs.length
  | _, _, .nil => rfl
  | _, _, .cons _ r => by rw [List.length_cons, List.length_cons, DatTs.len r]
theorem DatTs.at_ : ∀ {ts : List Tree} {vs : List V} {i : Nat} {v : V}, DatTs K H a b ts vs → vs[i]? = some v → ∃ t, ts[i]? = some t ∧ DatT K H a b t v
  | _, _, _, _, .nil, h => by simp at h
  | _, _, 0, _, .cons h r, e => ⟨_, rfl, by
    have e' := Option.some.inj (show some _ = some _ from e)
    rw [← e']
    exact h⟩
  | _, _, i + 1, _, .cons h r, e => DatTs.at_ (i := i) r (by simpa using e)
end
end Mn
/-! _law_loose -/
namespace Mn
open PySem PySem.Spec PyProof.Rows L2 Md Me Ml LamX
abbrev sLoose : Stmt := top 60
theorem kb_free {H H' : Hp} {a b s : Addr} (k : KeepBut a b H H') (ha : H' a ≠ none) (hb : H' b ≠ none) (h : H' s = none) : H s = none := by
  cases e : H s with
  | none => rfl
  | some o =>
    by_cases h1 : s = a
    · exact absurd (h1 ▸ h) ha
    · by_cases h2 : s = b
      · exact absurd (h2 ▸ h) hb
      · rw [k s o h1 h2 e] at h
        cases h
theorem Stm.na {H : Hp} {a b : Addr} {B : Nat} (S : Stm H a b B) : H a ≠ none ∧ H b ≠ none := by
  obtain ⟨xs, h1⟩ := S.ha
  obtain ⟨ys, h2⟩ := S.hb
  exact ⟨by rw [h1]; simp, by rw [h2]; simp⟩
theorem Stm.nd {H : Hp} {a b p : Addr} {B : Nat} (S : Stm H a b B) (h : H p = none) : p ≠ a ∧ p ≠ b := ⟨fun z => S.na.1 (z ▸ h), fun z => S.na.2 (z ▸ h)⟩
theorem KeepBut.same {H H' : Hp} {a b : Addr} (s : Same H H') : KeepBut a b H H' := fun c o _ _ e => s c o e
def spLoose (K : PySem.W.Frag) (n : Nat) : Sp := fun vs H Q _ => ∃ (a b : Addr) (B : Nat) (x : V) (t : Tree), vs = [.ref a, x] ∧ Stm H a b B ∧ B + 1000 ^ n ≤ 900000000000 ∧ DatT K H a b t x ∧ Dep n t ∧ n ≤ 3 ∧
  ∀ (H' : Hp) (x' : V) (S : List Addr), Stm H' a b (B + 1000 ^ n) → KeepBut a b H H' → OutT H' t x' S → (∀ s ∈ S, H s = none) → Q x' H'
def spPrevL (K : PySem.W.Frag) : Nat → Sp
  | 0 => fun _ _ _ _ => False
  | n + 1 => spLoose K n
theorem scLoose : FnScope ["_law_stream", "_law_thing", "_law_found", "_law_part"] ["_law_stream", "_law_thing"] (defScope sLoose) := ⟨rfl, rfl, rfl, by decide +kernel, rfl, by decide +kernel, by decide +kernel⟩
section
variable {P : Program} {w : World} {K : PySem.W.Frag} {mg : Str → Option Value} {base : Heap}
theorem loose_step {n : Nat} {f fD : Addr} {fd fdD : FuncData} (F : Fun K "_law_loose" "_law_loose" sLoose f fd) (bP : Binds K fd ["_law_stream", "_law_thing"] []) (gP : mg "_law_loose" = some (.ref f)) (GP : FnOk P w K mg base CX0 (n + 1) f fd ["_law_stream", "_law_thing"] (spPrevL K n))
    (GD : FnOk P w K mg base CX0 1 fD fdD ["_law_stream", "_law_many"] spDrawB) (kD : PySem.W.keepIn K (.ref fD) = true) (bD : Binds K fdD ["_law_stream", "_law_many"] []) (gD : mg "_law_draw" = some (.ref fD))
    (gIs : mg "isinstance" = none) (gList : mg "list" = none) (gTuple : mg "tuple" = none) : FnOk P w K mg base CX0 (n + 2) f fd ["_law_stream", "_law_thing"] (spLoose K n) := by
  refine F.ok scLoose (fun vs H Q E h => ?_) (fun cdv A outer s H vs Q E hr h => ?_)
  · obtain ⟨a, b, B, x, t, rfl, _⟩ := h
    rfl
  · obtain ⟨a, b, B, x, t, rfl, St, hB, dt, dp, hn3, k⟩ := h
    have nd := scLoose.nd
    have kP := F.kp
    refine ⟨_, pss_cons (ps_if (pt_not (pt_val (pe_callB call_isiT (by rfl) gIs boot_isinstance (pa_cons (pv 1) (pa_cons (pe_tup (pa_cons (pe_bltn (v := .ty "list") rfl gList boot_list2 rfl) (pa_cons (pe_bltn (v := .ty "tuple") rfl gTuple boot_tuple2 rfl) pa_nil))) pa_nil))))) (pss_one (ps_ret (pv 1))) pss_nil)
      (pss_cons (ps_setLc (i := 2) (own := [("_law_part", 3)]) (g := gName 3) (tt := tYes) (te := tCall (spPrevL K n) [] E0 (tCons (tVar 0) (tCons (tVar 3) tNil))) rfl nd rfl rfl (sw_true rfl rfl rfl (by decide +kernel)) (pi_or (pi_list (pv 1)) (pi_tup (pv 1))) (blkOk_by (N := ["_law_stream", "_law_thing", "_law_found", "_law_part"]) (sc := defScope sLoose) (by decide +kernel)) (fun _ _ _ _ _ => pg_name (i := 3) nd rfl (Or.inl rfl)) (fun _ _ _ _ _ => pts_nil) (fun _ _ _ _ _ => by exact pe_call GP hr rfl gP kP bP .nil pass0 (pa_cons (pv 0) (pa_cons (pv 3) pa_nil))))
      (pss_one (ps_ret (pe_ifExp (pt_cmpR op_eq (pe_call GD (hr.mono (by omega)) rfl gD kD bD .nil pass0 (pa_cons (pv 0) (pa_cons pe_int pa_nil))) pe_int (nomark _)) (pv 2) (pe_callTy call_tuple_of rfl gTuple boot_tuple2 (pa_cons (pv 2) pa_nil)))))), ?_⟩
    cases dt with
    | leaf hns =>
      obtain ⟨ty, t0, e⟩ := hns
      refine ⟨_, rfl, (show 2 ≤ sizeLine by decide), fun p1 np1 => ⟨_, p1, _, ty, _, _, rfl, upd_same, .cons (.ty _) (.cons (.ty _) .nil), TyX.same (sameUp np1) t0, e, _, rfl, iteT ⟨_, rfl, ?_⟩⟩⟩
      have s1 := sameUp (o := .tup [.ty "list", .ty "tuple"]) np1
      exact k _ _ [] ((St.ext (ExtN.of s1)).up (Nat.le_add_right _ _)) (KeepBut.same s1) (.leaf _) (fun s hs => by simp at hs)
    | @node ts c xs h1 h2 hq hlen dts =>
      obtain ⟨ty, t0, e⟩ := hq.ty (K := K)
      refine ⟨_, rfl, (show 2 ≤ sizeLine by decide), fun p1 np1 => ⟨_, p1, _, ty, _, _, rfl, upd_same, .cons (.ty _) (.cons (.ty _) .nil), TyX.same (sameUp np1) t0, e, _, rfl, iteF ?_⟩⟩
      have s1 := sameUp (o := .tup [.ty "list", .ty "tuple"]) np1
      cases dp with
      | @node n' _ hdep =>
        have hq1 := hq.same s1
        have wk : ∃ (J : It) (o : HO), upd H p1 (.tup [.ty "list", .ty "tuple"]) c = some o ∧ (∀ H', H' c = some o → Seq H' c xs) ∧ Walk J xs.length (fun H => H c = some o) (YAt xs) ∧
            ((upd H p1 (.tup [.ty "list", .ty "tuple"]) c = some (.lst xs) ∧ J = Itl K c) ∨ (upd H p1 (.tup [.ty "list", .ty "tuple"]) c = some (.tup xs) ∧ J = Itt K c)) := by
          rcases hq1 with h | h
          · exact ⟨Itl K c, .lst xs, h, fun H' e => .inl e, walk_list.mono (fun H e => SqL.of e) (fun _ _ _ _ _ _ y => y), .inl ⟨h, rfl⟩⟩
          · exact ⟨Itt K c, .tup xs, h, fun H' e => .inr e, walk_tup.mono (fun H e => SqT.of e) (fun _ _ _ _ _ _ y => y), .inr ⟨h, rfl⟩⟩
        obtain ⟨J, o, ho, hsq, wJ, hR⟩ := wk
        have St1 := St.ext (ExtN.of s1)
        have dts1 := DatTs.but (KeepBut.same s1) St.ha St.hb dts
        have pw : 1000 ^ (n' + 1) = 1000 ^ n' * 1000 := Nat.pow_succ ..
        have p0 : 0 < 1000 ^ n' := Nat.pow_pos (by decide)
        have p3 : 1000 ^ n' ≤ 1000 ^ 2 := Nat.pow_le_pow_right (by decide) (by omega)
        rcases hR with ⟨hc, rfl⟩ | ⟨hc, rfl⟩
        all_goals
          first | refine .inl ⟨_, rfl, c, rfl, ⟨_, SqL.of hc⟩, fun D hD => ?_⟩ | refine .inr ⟨_, rfl, c, rfl, ⟨_, SqT.of hc⟩, fun D hD => ?_⟩
          have hDH := s1.free hD
          obtain ⟨Da, Db⟩ := St1.nd hD
          refine lc_it wJ (fun i H' => ∃ (ys : List V) (S : List Addr), Stm H' a b (B + i * 1000 ^ n') ∧ KeepBut a b (upd H p1 (.tup [.ty "list", .ty "tuple"])) H' ∧ H' D = some (.lst ys) ∧ ys.length = i ∧ OutTs H' (ts.take i) ys S ∧ ∀ s ∈ S, H s = none ∧ s ≠ D) ?_ (fun i H' _ ⟨ys, S, _, kb, _⟩ => kb c o h1 h2 ho) ?_ ?_
          · exact ⟨[], [], (St1.set Da Db).up (by omega), KeepBut.new hD, upd_same, rfl, .nil, fun s hs => by simp at hs⟩
          · rintro i v H2 H3 hi ⟨ys, S, St2, kb, hD2, hly, ot, hS⟩ ⟨rfl, hv⟩
            obtain ⟨t1, ht1, dt1⟩ := DatTs.at_ dts1 hv
            refine ⟨rfl, _, rfl, _, rfl, a, b, B + i * 1000 ^ n', v, t1, rfl, St2, ?_, DatT.but kb St1.ha St1.hb dt1, hdep t1 (List.mem_of_getElem? ht1), by omega, fun H4 x' S' St4 kb4 ot4 hS' => ?_⟩
            · have h5 : (i + 1) * 1000 ^ n' ≤ 200 * 1000 ^ n' := Nat.mul_le_mul_right _ (by omega)
              have h6 : (i + 1) * 1000 ^ n' = i * 1000 ^ n' + 1000 ^ n' := Nat.succ_mul ..
              omega
            have hD4 := kb4 D _ Da Db hD2
            have kbA := (KeepBut.same s1).trans (kb.trans kb4)
            have fr : ∀ s ∈ S', H s = none ∧ s ≠ D := fun s hs => ⟨kb_free ((KeepBut.same s1).trans kb) St2.na.1 St2.na.2 (hS' s hs), fun z => by
              have := hS' s hs
              rw [z, hD2] at this
              cases this⟩
            have live : ∀ s ∈ S, H3 s ≠ none := OutTs.live ot
            have keepS : ∀ s ∈ S, ∀ o, H3 s = some o → upd H4 D (.lst (ys ++ [x'])) s = some o := fun s hs o e => by
              rw [upd_ne (hS s hs).2]
              exact kb4 s o (fun z => St.na.1 (z ▸ (hS s hs).1)) (fun z => St.na.2 (z ▸ (hS s hs).1)) e
            have ot4' : OutT (upd H4 D (.lst (ys ++ [x']))) t1 x' S' := OutT.keep (fun s hs o e => by
              rw [upd_ne (fr s hs).2]
              exact e) ot4
            obtain ⟨S2, ot2, m2⟩ := OutTs.snoc ot4' (OutTs.keep keepS ot) (fun s hs z => live s hs (hS' s z))
            refine ⟨ys, hD4, small1000 (by omega), ys ++ [x'], S2, (St4.set Da Db).up ?_, (kb.trans kb4).un hD, upd_same, by rw [List.length_append, hly]; rfl, ?_, fun s hs => ?_⟩
            · have : (i + 1) * 1000 ^ n' = i * 1000 ^ n' + 1000 ^ n' := Nat.succ_mul ..
              omega
            · rw [List.take_add_one, ht1]
              exact ot2
            · rcases (m2 s).mp hs with z | z
              · exact hS s z
              · exact fr s z
          · rintro H2 ⟨ys, S, St2, kb, hD2, hly, ot, hS⟩
            have lts := DatTs.len dts
            rw [List.take_of_length_le (by omega)] at ot
            have b1 : xs.length * 1000 ^ n' ≤ 200 * 1000 ^ n' := Nat.mul_le_mul_right _ hlen
            have b2 : 200 * 1000 ^ n' ≤ 200 * 1000 ^ 2 := Nat.mul_le_mul_left _ p3
            refine ⟨_, rfl, a, b, B + xs.length * 1000 ^ n', 3, rfl, St2, by omega, by decide, by decide, fun H3 d d0 d1 St3 kb3 => ?_⟩
            have hD3 := kb3 D _ Da Db hD2
            have keepS : ∀ s ∈ S, ∀ o, H2 s = some o → H3 s = some o := fun s hs o e => kb3 s o (fun z => St.na.1 (z ▸ (hS s hs).1)) (fun z => St.na.2 (z ▸ (hS s hs).1)) e
            have ot3 := OutTs.keep keepS ot
            have kbA := (KeepBut.same s1).trans (kb.trans kb3)
            refine ⟨rfl, _, rfl, ite2 (fun hz => ?_) (fun hz => ?_)⟩
            · refine ⟨_, rfl, k H3 _ (D :: S) (St3.up (by omega)) kbA (.node (.inl hD3) ot3 (fun z => (hS D z).2 rfl)) fun s hs => ?_⟩
              rcases List.mem_cons.mp hs with z | z
              · rw [z]
                exact hDH
              · exact (hS s z).1
            · refine ⟨_, rfl, D, _, rfl, .inl ⟨SqL.of hD3, fun l hl => ?_⟩⟩
              have sl := sameUp (o := .tup ys) hl
              refine k _ _ (l :: S) ((St3.ext (ExtN.of sl)).up (by omega)) (kbA.trans (KeepBut.same sl)) (.node (.inr upd_same) (OutTs.keep (fun s hs o e => sl s o e) ot3) (fun z => OutTs.live ot3 l z hl)) fun s hs => ?_
              rcases List.mem_cons.mp hs with z | z
              · rw [z]
                exact kb_free kbA St3.na.1 St3.na.2 hl
              · exact (hS s z).1
theorem ok_loose {f fD : Addr} {fd fdD : FuncData} (F : Fun K "_law_loose" "_law_loose" sLoose f fd) (bP : Binds K fd ["_law_stream", "_law_thing"] []) (gP : mg "_law_loose" = some (.ref f))
    (GD : FnOk P w K mg base CX0 1 fD fdD ["_law_stream", "_law_many"] spDrawB) (kD : PySem.W.keepIn K (.ref fD) = true) (bD : Binds K fdD ["_law_stream", "_law_many"] []) (gD : mg "_law_draw" = some (.ref fD))
    (gIs : mg "isinstance" = none) (gList : mg "list" = none) (gTuple : mg "tuple" = none) : ∀ n, FnOk P w K mg base CX0 (n + 2) f fd ["_law_stream", "_law_thing"] (spLoose K n)
  | 0 => loose_step F bP gP ⟨fun _ _ _ _ h => h.elim, fun _ _ _ _ _ _ _ _ _ _ _ _ _ h => h.elim⟩ GD kD bD gD gIs gList gTuple
  | n + 1 => loose_step F bP gP (ok_loose F bP gP GD kD bD gD gIs gList gTuple n) GD kD bD gD gIs gList gTuple
end
end Mn
/-! _law_pick, _law_a_name, _law_a_names -/
namespace Mn
open PySem PySem.Spec PyProof.Rows L2 Md Me Ml LamX
abbrev sPick : Stmt := top 56
abbrev sName : Stmt := top 38
abbrev sNames : Stmt := top 39
def some14 : List Str := ["ann", "bo", "cy", "an", "a", "b", "x9", "n0", "annabel", "eightsgn", "zz9", "rules", "persona", "r"]
def pn (k : Nat) : Str := "p" ++ toString (k : Int)
/-- all names that are drawn -/
def nm114 : List Str := some14 ++ ((["dan", "eve", "fay", "c"] : List Str) ++ (List.range 100).map pn)
def goodNm (x : Str) : Bool := isNm x && (PyData.strOk x && (decide (x.length ≤ 8) && decide (x ∈ nm114)))
theorem goodNm.nm {x : Str} (h : goodNm x = true) : isNm x = true := (Bool.and_eq_true_iff.mp h).1
theorem goodNm.ok {x : Str} (h : goodNm x = true) : PyData.strOk x = true := (Bool.and_eq_true_iff.mp (Bool.and_eq_true_iff.mp h).2).1
theorem goodNm.len {x : Str} (h : goodNm x = true) : x.length ≤ 8 := of_decide_eq_true (Bool.and_eq_true_iff.mp (Bool.and_eq_true_iff.mp (Bool.and_eq_true_iff.mp h).2).2).1
theorem goodNm.mem {x : Str} (h : goodNm x = true) : x ∈ nm114 := of_decide_eq_true (Bool.and_eq_true_iff.mp (Bool.and_eq_true_iff.mp (Bool.and_eq_true_iff.mp h).2).2).2
theorem nm_odd : ("zed9" : Str) ∉ nm114 ∧ ("" : Str) ∉ nm114 ∧ (∀ x ∈ nm114, x ++ "q" ∉ nm114) ∧ ∀ x ∈ nm114, Txt.upper x ∉ nm114 := by decide +kernel
theorem some14_good : ∀ x ∈ some14, goodNm x = true := by decide +kernel
theorem pn_good : ∀ k, k < 100 → goodNm (pn k) = true := by decide +kernel
theorem pn_nodup : ((List.range 100).map pn).Nodup := by decide +kernel
theorem pn_inj {i j : Nat} (hi : i < 100) (hj : j < 100) (h : pn i = pn j) : i = j := by
  have e : ((List.range 100).map pn)[i]? = ((List.range 100).map pn)[j]? := by
    rw [List.getElem?_map, List.getElem?_map, List.getElem?_range hi, List.getElem?_range hj]
    exact congrArg some h
  exact (List.getElem?_inj (by simpa using hi) pn_nodup).mp e
theorem pigeon {α : Type} [DecidableEq α] : ∀ {l1 l2 : List α}, l1.Nodup → (∀ x ∈ l1, x ∈ l2) → l1.length ≤ l2.length
  | [], _, _, _ => Nat.zero_le _
  | x :: l1, l2, nd, h => by
    have hx := h x (by simp)
    have ih := pigeon (l1 := l1) (l2 := l2.erase x) (List.nodup_cons.mp nd).2 fun y hy => (List.mem_erase_of_ne (fun z => (List.nodup_cons.mp nd).1 (by rw [← z]; exact hy))).mpr (h y (by simp [hy]))
    rw [List.length_erase_of_mem hx] at ih
    have : 0 < l2.length := List.length_pos_of_mem hx
    simp
    omega
def spPick (K : PySem.W.Frag) : Sp := fun vs H Q _ => ∃ (a b c : Addr) (B : Nat) (xs : List V), vs = [.ref a, .ref c] ∧ Stm H a b B ∧ B < 1000000000000 ∧ c ≠ a ∧ c ≠ b ∧ H c = some (.lst xs) ∧ 0 < xs.length ∧ xs.length ≤ 1000 ∧
  ∀ (H' : Hp) (x : V), x ∈ xs → Stm H' a b (B + 1) → KeepBut a b H H' → Q x H'
def spName (K : PySem.W.Frag) : Sp := fun vs H Q _ => ∃ (a b c : Addr) (B : Nat) (ns : List Str), vs = [.ref a, .ref c] ∧ Stm H a b B ∧ B < 1000000000000 ∧ c ≠ a ∧ c ≠ b ∧ H c = some (.lst (ns.map V.str)) ∧ ns.length ≤ 63 ∧
  ∀ (H' : Hp) (x : Str), x ∉ ns → goodNm x = true → Stm H' a b (B + 1) → KeepBut a b H H' → Q (.str x) H'
def spNames (K : PySem.W.Frag) : Sp := fun vs H Q _ => ∃ (a b : Addr) (B m : Nat), vs = [.ref a, .int m] ∧ Stm H a b B ∧ B + 100 < 1000000000000 ∧ m ≤ 63 ∧
  ∀ (H' : Hp) (l : Addr) (ns : List Str), ns.length = m → ns.Nodup → (∀ x ∈ ns, goodNm x = true) → H l = none → H' l = some (.lst (ns.map V.str)) → Stm H' a b (B + 100) → KeepBut a b H H' → Q (.ref l) H'
theorem flat_strs (ns : List Str) : (ns.map V.str).all flatV = true := List.all_eq_true.mpr fun v hv => by
  obtain ⟨n, _, rfl⟩ := List.mem_map.mp hv
  rfl
theorem inV_strs {x : Str} : ∀ {ns : List Str}, inV (.str x) (ns.map V.str) = decide (x ∈ ns)
  | [] => by simp [inV]
  | n :: r => by
    have ih := inV_strs (x := x) (ns := r)
    unfold inV at ih ⊢
    rw [List.map_cons, List.any_cons, ih]
    have e : eqV (V.str n) (V.str x) = decide (n = x) := rfl
    rw [e]
    by_cases h1 : n = x
    · subst h1
      simp
    · have h2 : ¬ x = n := fun z => h1 z.symm
      rw [decide_eq_false h1]
      by_cases h3 : x ∈ r
      · rw [decide_eq_true h3, decide_eq_true (by simp [h3])]
        rfl
      · rw [decide_eq_false h3, decide_eq_false (by simp [h2, h3])]
        rfl
section
variable {P : Program} {w : World} {K : PySem.W.Frag} {mg : Str → Option Value} {base : Heap}
theorem scPick : FnScope ["_law_stream", "_law_some"] ["_law_stream", "_law_some"] (defScope sPick) := ⟨rfl, rfl, rfl, by decide +kernel, rfl, by decide +kernel, by decide +kernel⟩
theorem scName : FnScope ["_law_stream", "_law_taken", "_law_some", "_law_name", "_law_number"] ["_law_stream", "_law_taken"] (defScope sName) := ⟨rfl, rfl, rfl, by decide +kernel, rfl, by decide +kernel, by decide +kernel⟩
theorem scNames : FnScope ["_law_stream", "_law_many", "_law_found", "_law_k"] ["_law_stream", "_law_many"] (defScope sNames) := ⟨rfl, rfl, rfl, by decide +kernel, rfl, by decide +kernel, by decide +kernel⟩
theorem ok_pick {f fD : Addr} {fd fdD : FuncData} (F : Fun K "_law_pick" "_law_pick" sPick f fd) (GD : FnOk P w K mg base CX0 1 fD fdD ["_law_stream", "_law_many"] spDrawB) (kD : PySem.W.keepIn K (.ref fD) = true) (bD : Binds K fdD ["_law_stream", "_law_many"] []) (gD : mg "_law_draw" = some (.ref fD)) (gLen : mg "len" = none) : FnOk P w K mg base CX0 2 f fd ["_law_stream", "_law_some"] (spPick K) := by
  refine F.ok scPick (fun vs H Q E h => ?_) (fun cdv A outer s H vs Q E hr h => ?_)
  · obtain ⟨a, b, c, B, xs, rfl, _⟩ := h
    rfl
  · obtain ⟨a, b, c, B, xs, rfl, S, hB, ca, cb, hc, h0, hn, k⟩ := h
    refine ⟨_, pss_one (ps_ret (pe_ix ix_list (pv 1) (pe_call GD (hr) rfl gD kD bD .nil pass0 (pa_cons (pv 0) (pa_cons (pe_callB call_len_seq (by rfl) gLen PySem.boot_len (pa_cons (pv 1) pa_nil)) pa_nil))) (fun _ _ => rfl))), ?_⟩
    refine ⟨_, rfl, _, rfl, _, rfl, c, xs, rfl, .inl (SqL.of hc), a, b, B, _, rfl, S, hB, by omega, by omega, fun H2 d d0 d1 S2 kb => ?_⟩
    obtain ⟨i, rfl⟩ := Int.eq_ofNat_of_zero_le d0
    have hlt : i < xs.length := by omega
    exact ⟨c, xs, (i : Int), xs[i], rfl, rfl, SqL.of (kb c _ ca cb hc), atI_nat (by simp [hlt]), k _ _ (List.getElem_mem hlt) S2 kb⟩
theorem ok_name {f fK : Addr} {fd fdK : FuncData} (F : Fun K "_law_a_name" "_law_a_name" sName f fd) (GK : FnOk P w K mg base CX0 2 fK fdK ["_law_stream", "_law_some"] (spPick K)) (kK : PySem.W.keepIn K (.ref fK) = true) (bK : Binds K fdK ["_law_stream", "_law_some"] []) (gK : mg "_law_pick" = some (.ref fK))
    (gStr : mg "str" = none) : FnOk P w K mg base CX0 3 f fd ["_law_stream", "_law_taken"] (spName K) := by
  refine F.ok scName (fun vs H Q E h => ?_) (fun cdv A outer s H vs Q E hr h => ?_)
  · obtain ⟨a, b, c, B, ns, rfl, _⟩ := h
    rfl
  · obtain ⟨a, b, c, B, ns, rfl, S, hB, ca, cb, hc, hn, k⟩ := h
    have nd := scName.nd
    refine ⟨_, pss_cons (ps_set (i := 2) nd rfl (Or.inl rfl) (pe_lst (pa_cons pe_str (pa_cons pe_str (pa_cons pe_str (pa_cons pe_str (pa_cons pe_str (pa_cons pe_str (pa_cons pe_str (pa_cons pe_str (pa_cons pe_str (pa_cons pe_str (pa_cons pe_str (pa_cons pe_str (pa_cons pe_str (pa_cons pe_str pa_nil))))))))))))))))
      (pss_cons (ps_par (i := 3) (j := 4) rfl nd rfl rfl (by decide) rfl rfl (pa_cons (pe_call GK hr rfl gK kK bK .nil pass0 (pa_cons (pv 0) (pa_cons (pv 2) pa_nil))) (pa_cons pe_int pa_nil)) rfl)
      (pss_cons (ps_while PassesOwn.never (pt_cmpR op_in_seq (pv 3) (pv 1) (by with_unfolding_all rfl)) (pss_one (ps_par (i := 3) (j := 4) rfl nd rfl rfl (by decide) rfl rfl (pa_cons (pe_op op_add_str pe_str (pe_callTy call_str_int rfl gStr boot_str2 (pa_cons (pv 4) pa_nil))) (pa_cons (pe_op op_add (pv 4) pe_int) pa_nil)) rfl)))
      (pss_one (ps_ret (pv 3))))), ?_⟩
    refine ⟨show 14 ≤ sizeLine by decide, fun p np => ?_⟩
    have S1 := S.ext (ExtN.of (sameUp (o := .lst (some14.map V.str)) np))
    obtain ⟨pa, pb⟩ := S.nd np
    refine ⟨_, rfl, _, rfl, a, b, p, B, some14.map V.str, rfl, S1, hB, pa, pb, upd_same, by decide, by decide, fun H2 x hx S2 kb => ?_⟩
    obtain ⟨n0, hn0, rfl⟩ := List.mem_map.mp hx
    have kb2 : KeepBut a b H H2 := (KeepBut.same (sameUp np)).trans kb
    have hc2 := kb2 c _ ca cb hc
    refine ⟨_, _, rfl, ?_⟩
    refine while_by2 (fun σ H' => H' = H2 ∧ ∃ (j : Nat) (x : Str), σ = [some (.ref a), some (.ref c), some (.ref p), some (.str x), some (.int (j : Int))] ∧ goodNm x = true ∧ (∀ i, i + 1 < j → pn i ∈ ns) ∧ j ≤ ns.length + 1 ∧ (0 < j → x = pn (j - 1)))
      (fun σ _ => match σ with
        | [_, _, _, _, some (.int j)] => ns.length + 1 - j.toNat
        | _ => 0) (fun σ H' => H' = H2 ∧ ∃ (x : Str) (o : Option V), σ = [some (.ref a), some (.ref c), some (.ref p), some (.str x), o] ∧ goodNm x = true ∧ x ∉ ns) ?_ ?_ ?_ ?_
    · exact ⟨rfl, 0, n0, rfl, some14_good _ hn0, fun i h => by omega, by omega, fun h => by omega⟩
    · rintro σ H3 ⟨rfl, j, x, rfl, gx, hj, hl, hx2⟩
      refine ⟨_, rfl, _, rfl, c, ns.map V.str, rfl, .inl (SqL.of hc2), rfl, flat_strs ns, ?_⟩
      refine ⟨_, rfl, ?_⟩
      show (if inV (.str x) (ns.map V.str) = true then _ else _)
      rw [inV_strs]
      refine ite2 (fun h => ?_) (fun h => ?_)
      · have hx3 : x ∈ ns := of_decide_eq_true h
        have all : ∀ i, i < j → pn i ∈ ns := fun i hi => by
          by_cases z : i + 1 < j
          · exact hj i z
          · have e : i = j - 1 := by omega
            rw [e, ← hx2 (by omega)]
            exact hx3
        have hj2 : j ≤ ns.length := by
          have := pigeon (l1 := (List.range j).map pn) (l2 := ns) (by
            rw [List.nodup_iff_pairwise_ne, List.pairwise_map]
            exact List.nodup_range.imp_of_mem fun {x y} hx hy n z => n (pn_inj (by have := List.mem_range.mp hx; omega) (by have := List.mem_range.mp hy; omega) z)) fun y hy => by
            obtain ⟨i, hi, rfl⟩ := List.mem_map.mp hy
            exact all i (List.mem_range.mp hi)
          simpa using this
        have gp := pn_good j (by omega)
        have gp := pn_good j (by omega)
        refine ⟨_, rfl, _, rfl, ?_, "p", _, rfl, rfl, ?_, _, rfl, _, _, rfl, rfl, _, _, rfl, ?_⟩
        · show (j : Int).natAbs.log2 < 1920
          have h1 : (j : Int).natAbs.log2 ≤ (j : Int).natAbs := Nat.log2_le_self _
          omega
        · have h1 : ∀ j : Nat, j < 100 → ("p" : Str).length + (toString (j : Int) : Str).length ≤ 10 := by decide +kernel
          exact Nat.le_trans (h1 j (by omega)) (by decide)
        · refine ⟨⟨rfl, j + 1, pn j, rfl, gp, fun i hi => all i (by omega), by omega, fun _ => rfl⟩, ?_⟩
          show ns.length + 1 - ((j : Int) + 1).toNat < ns.length + 1 - (j : Int).toNat
          omega
      · exact ⟨rfl, x, _, rfl, gx, of_decide_eq_false (Bool.eq_false_iff.mpr h)⟩
    · rintro σ H Q Q' hq ⟨v, e1, u, e2, p, xs, e3, e4, e5, e6, z, e7, h⟩
      exact ⟨v, e1, u, e2, p, xs, e3, e4, e5, e6, z, e7, hq _ _ h⟩
    · rintro σ H3 ⟨rfl, x, o, rfl, gx, hx3⟩
      exact ⟨_, rfl, k _ x hx3 gx S2 kb2⟩
theorem ok_names {f fN : Addr} {fd fdN : FuncData} (F : Fun K "_law_a_names" "_law_a_names" sNames f fd) (GN : FnOk P w K mg base CX0 3 fN fdN ["_law_stream", "_law_taken"] (spName K)) (kN : PySem.W.keepIn K (.ref fN) = true) (bN : Binds K fdN ["_law_stream", "_law_taken"] []) (gN : mg "_law_a_name" = some (.ref fN))
    (gRange : mg "range" = none) : FnOk P w K mg base CX0 4 f fd ["_law_stream", "_law_many"] (spNames K) := by
  refine F.ok scNames (fun vs H Q E h => ?_) (fun cdv A outer s H vs Q E hr h => ?_)
  · obtain ⟨a, b, B, m, rfl, _⟩ := h
    rfl
  · obtain ⟨a, b, B, m, rfl, S, hB, hm, k⟩ := h
    have nd := scNames.nd
    refine ⟨_, pss_cons (ps_set (i := 2) nd rfl (Or.inl rfl) (pe_lst pa_nil))
      (pss_cons (ps_for PassesOwn.never rfl (pi_range1 rfl gRange (pa_cons (pv 1) pa_nil)) (pg_name (i := 3) nd rfl (Or.inl rfl)) (pss_one (ps_expr (pe_bm PySem.F.plainAttrs_list PySem.F.slot_list_append PySem.F.type_list_append mt_append (pv 2) (pa_cons (pe_call GN hr rfl gN kN bN .nil pass0 (pa_cons (pv 0) (pa_cons (pv 2) pa_nil))) pa_nil)))))
      (pss_one (ps_ret (pv 2)))), ?_⟩
    refine ⟨Nat.zero_le _, fun p np => ?_⟩
    obtain ⟨pa, pb⟩ := S.nd np
    refine ⟨_, rfl, _, rfl, by omega, by omega, ?_⟩
    have e0 : ((m : Int)).toNat = m := by omega
    rw [e0]
    refine for_it walk_range (fun i σ H' => ∃ (ns : List Str) (o : Option V), σ = [some (.ref a), some (.int m), some (.ref p), o] ∧ ns.length = i ∧ ns.Nodup ∧ (∀ x ∈ ns, goodNm x = true) ∧ H' p = some (.lst (ns.map V.str)) ∧ Stm H' a b (B + i) ∧ KeepBut a b H H') ?_ (fun _ _ _ _ _ => trivial) ?_ ?_
    · exact ⟨[], none, rfl, rfl, by simp, by simp, upd_same, S.ext (ExtN.of (sameUp np)), KeepBut.new np⟩
    · rintro i v σ H2 H3 hi ⟨ns, o, rfl, hl, hnd, hg, hp, S2, kb⟩ ⟨rfl, e⟩
      refine ⟨_, rfl, .inl ⟨rfl, _, SqL.of hp⟩, _, rfl, _, rfl, a, b, p, B + i, ns, rfl, S2, by omega, pa, pb, hp, by omega, fun H4 x hx gx S4 kb4 => ?_⟩
      have hp4 := kb4 p _ pa pb hp
      refine ⟨p, _, _, rfl, rfl, hp4, small1000 (by rw [List.length_map]; omega), ns ++ [x], _, rfl, ?_, ?_, ?_, ?_, ?_, ?_⟩
      · rw [List.length_append, hl]
        rfl
      · rw [List.nodup_append]
        exact ⟨hnd, by simp, fun y hy z hz e => hx (by
          have e2 : z = x := by simpa using hz
          rw [← e2, ← e]
          exact hy)⟩
      · intro y hy
        rcases List.mem_append.mp hy with z | z
        · exact hg y z
        · have e2 : y = x := by simpa using z
          rw [e2]
          exact gx
      · rw [upd_same, List.map_append]
        rfl
      · exact (S4.set pa pb).up (by omega)
      · exact (kb.trans kb4).un np
    · rintro σ H2 ⟨ns, o, rfl, hl, hnd, hg, hp, S2, kb⟩
      exact ⟨_, rfl, k H2 p ns hl hnd hg np hp (S2.up (by omega)) kb⟩
end
end Mn
/-! _law_a_rows -/
namespace Mn
open PySem PySem.Spec PyProof.Rows L2 Md Me Ml LamX
/-! ### rows by lists -/
def rwOf (ys : List Str) (rs : List (List Str)) (n : Str) : List Str := match (ys.zip rs).find? (fun p => decide (p.1 = n)) with
  | some p => p.2
  | none => []
theorem rwOf_at : ∀ {ys : List Str} {rs : List (List Str)} {j : Nat} {n : Str} {r : List Str}, ys.Nodup → ys[j]? = some n → rs[j]? = some r → rwOf ys rs n = r
  | [], _, _, _, _, _, h, _ => by simp at h
  | _ :: _, [], _, _, _, _, _, h => by simp at h
  | y :: ys, r0 :: rs, 0, n, r, nd, h1, h2 => by
    have e1 : y = n := by simpa using h1
    have e2 : r0 = r := by simpa using h2
    subst e1 e2
    unfold rwOf
    rw [List.zip_cons_cons, List.find?_cons, decide_eq_true rfl]
  | y :: ys, r0 :: rs, j + 1, n, r, nd, h1, h2 => by
    have h1' : ys[j]? = some n := by simpa using h1
    have h2' : rs[j]? = some r := by simpa using h2
    have ne : ¬ y = n := fun z => (List.nodup_cons.mp nd).1 (by rw [z]; exact List.mem_of_getElem? h1')
    have ih := rwOf_at (List.nodup_cons.mp nd).2 h1' h2'
    unfold rwOf at ih ⊢
    rw [List.zip_cons_cons, List.find?_cons, decide_eq_false ne]
    exact ih
structure GoodRow (ys : List Str) (n : Str) (r : List Str) : Prop where
  nd : r.Nodup
  ne : n ∉ r
  sub : ∀ x ∈ r, x ∈ ys
def GoodRows (ys : List Str) (rw_ : Str → List Str) : Prop := ∀ n ∈ ys, GoodRow ys n (rw_ n)
/-- new rows by lists, laid one after the other, while the stream is drawn from -/
structure RowsK (a b : Addr) (H0 H1 : Hp) (D : Addr) (ys : List Str) (rs : List (List Str)) (i : Nat) (bs : List Addr) : Prop where
  k : KeepBut a b H0 H1
  l : bs.length = i
  lr : rs.length = i
  d : H1 D = some (.dK (((ys.take i).zip bs).map fun p => (Sum.inr p.1, V.ref p.2)))
  r : ∀ (j : Nat) (r : List Str) (c : Addr), rs[j]? = some r → bs[j]? = some c → H1 c = some (.lst (r.map V.str))
  f : ∀ c ∈ bs, H0 c = none
  n : bs.Nodup
  g : ∀ (j : Nat) (r : List Str) (n : Str), rs[j]? = some r → ys[j]? = some n → GoodRow ys n r
theorem RowsK.nil {a b : Addr} {H0 : Hp} {D : Addr} {ys : List Str} (h : H0 D = none) : RowsK a b H0 (upd H0 D (.dK [])) D ys [] 0 [] := ⟨KeepBut.new h, rfl, rfl, upd_same, fun j r c h1 _ => by simp at h1, fun b hb => absurd hb (by simp), by simp, fun j r n h1 _ => by simp at h1⟩
theorem lt_of_get {α : Type} {xs : List α} {i : Nat} {x : α} (h : xs[i]? = some x) : i < xs.length := by
  rcases Nat.lt_or_ge i xs.length with q | q
  · exact q
  · rw [List.getElem?_eq_none q] at h
    cases h
theorem snoc_get {α : Type} {xs : List α} {x y : α} {j : Nat} (h : (xs ++ [x])[j]? = some y) : (j < xs.length ∧ xs[j]? = some y) ∨ (j = xs.length ∧ y = x) := by
  by_cases hj : j < xs.length
  · rw [List.getElem?_append_left hj] at h
    exact .inl ⟨hj, h⟩
  · have hl := lt_of_get h
    have e : j = xs.length := by
      simp at hl
      omega
    subst e
    rw [List.getElem?_append_right (Nat.le_refl _)] at h
    simp at h
    exact .inr ⟨rfl, h.symm⟩
theorem KeepBut.free {H0 H1 : Hp} {a b c : Addr} (S : ∃ B, Stm H1 a b B) (k : KeepBut a b H0 H1) (h : H1 c = none) : H0 c = none := by
  obtain ⟨B, S⟩ := S
  exact kb_free k S.na.1 S.na.2 h
theorem RowsK.snoc {a b : Addr} {H0 H1 H2 : Hp} {D l : Addr} {ys : List Str} {rs : List (List Str)} {i : Nat} {bs : List Addr} {n : Str} {r : List Str} {B : Nat} (R : RowsK a b H0 H1 D ys rs i bs) (nd : ys.Nodup) (hl : ys.length ≤ 63) (hD : H0 D = none) (Da : D ≠ a) (Db : D ≠ b) (hn : ys[i]? = some n) (k2 : KeepBut a b H1 H2)
    (S0 : ∃ B, Stm H0 a b B) (S2 : Stm H2 a b B) (hl2 : H2 l = none) (hg : GoodRow ys n r) :
    ∃ kvs, upd H2 l (.lst (r.map V.str)) D = some (.dK kvs) ∧ kvs.length < sizeLine ∧ RowsK a b H0 (upd (upd H2 l (.lst (r.map V.str))) D (.dK (putK kvs (Sum.inr n) (.ref l)))) D ys (rs ++ [r]) (i + 1) (bs ++ [l]) := by
  have s3 := sameUp (o := .lst (r.map V.str)) hl2
  have hD2 := k2 D _ Da Db R.d
  have hD3 := s3 _ _ hD2
  have lD : l ≠ D := (ne_of_none hD2 hl2).symm
  have hil := lt_of_get hn
  have kA := R.k.trans (k2.trans (KeepBut.same s3))
  obtain ⟨B0, S0⟩ := S0
  refine ⟨_, hD3, ?_, ⟨kA.un hD, ?_, ?_, ?_, fun j r' c h1 h2 => ?_, fun c hc => ?_, ?_, fun j r' m h1 h2 => ?_⟩⟩
  · rw [List.length_map, List.length_zip]
    refine Nat.lt_of_le_of_lt (Nat.min_le_right _ _) ?_
    rw [R.l]
    exact small1000 (by omega)
  · rw [List.length_append, R.l]
    rfl
  · rw [List.length_append, R.lr]
    rfl
  · rw [upd_same, putK_new, zip_snoc R.l hn, List.map_append]
    · rfl
    · intro kv hk z
      obtain ⟨⟨m, c⟩, hm, rfl⟩ := List.mem_map.mp hk
      have e3 : m = n := Sum.inr.inj z
      subst e3
      have hm2 := (List.of_mem_zip hm).1
      obtain ⟨j, hj⟩ := List.getElem?_of_mem hm2
      have hji : j < i := by
        rcases Nat.lt_or_ge j i with q | q
        · exact q
        · rw [List.getElem?_take, if_neg (by omega)] at hj
          cases hj
      rw [List.getElem?_take_of_lt hji] at hj
      have := (List.getElem?_inj (by omega) nd).mp (hj.trans hn.symm)
      omega
  · rcases snoc_get h1 with ⟨q1, h1⟩ | ⟨e1, rfl⟩
    · rcases snoc_get h2 with ⟨_, h2⟩ | ⟨e2, _⟩
      · have h4 := R.r j r' c h1 h2
        have cD : c ≠ D := fun z => by
          have hd := R.d
          rw [z, hd] at h4
          cases h4
        have h0 := R.f c (List.mem_of_getElem? h2)
        obtain ⟨ca, cb⟩ := S0.nd h0
        rw [upd_ne cD]
        exact s3 _ _ (k2 c _ ca cb h4)
      · have e3 := R.l
        have e4 := R.lr
        omega
    · rcases snoc_get h2 with ⟨q2, _⟩ | ⟨_, rfl⟩
      · have e3 := R.l
        have e4 := R.lr
        omega
      · rw [upd_ne lD, upd_same]
  · rcases List.mem_append.mp hc with z | z
    · exact R.f c z
    · have e : c = l := by simpa using z
      rw [e]
      exact kb_free (R.k.trans k2) S2.na.1 S2.na.2 hl2
  · rw [List.nodup_append]
    refine ⟨R.n, by simp, fun c hc d hd z => ?_⟩
    have e : d = l := by simpa using hd
    rw [z, e] at hc
    obtain ⟨j, hj⟩ := List.getElem?_of_mem hc
    have hjl := lt_of_get hj
    obtain ⟨r', hr'⟩ : ∃ r', rs[j]? = some r' := ⟨rs[j]'(by have := R.l; have := R.lr; omega), List.getElem?_eq_getElem _⟩
    have h0 := R.f l (List.mem_of_getElem? hj)
    obtain ⟨ca, cb⟩ := S0.nd h0
    have h4 := k2 l _ ca cb (R.r j r' l hr' hj)
    rw [hl2] at h4
    cases h4
  · rcases snoc_get h1 with ⟨_, h1⟩ | ⟨e1, rfl⟩
    · exact R.g j r' m h1 h2
    · have e4 := R.lr
      have e5 : j = i := by omega
      rw [e5, hn] at h2
      rw [← Option.some.inj h2]
      exact hg
/-- new rows, the stream drawn from -/
structure RowsN (H0 H1 : Hp) (D : Addr) (ys : List Str) (rw_ : Str → List Str) (bs : List Addr) : Prop extends RowsF H0 H1 D ys rw_ bs where
  g : GoodRows ys rw_
theorem RowsK.done {a b : Addr} {H0 H1 : Hp} {D : Addr} {ys : List Str} {rs : List (List Str)} {bs : List Addr} (nd : ys.Nodup) (hD : H0 D = none) (R : RowsK a b H0 H1 D ys rs ys.length bs) : RowsN H0 H1 D ys (rwOf ys rs) bs := by
  have rat : ∀ {j : Nat} {n : Str}, ys[j]? = some n → ∃ r, rs[j]? = some r ∧ rwOf ys rs n = r := fun {j n} h => by
    have hj := lt_of_get h
    obtain ⟨r, hr⟩ : ∃ r, rs[j]? = some r := ⟨rs[j]'(by have := R.lr; omega), List.getElem?_eq_getElem _⟩
    exact ⟨r, hr, rwOf_at nd h hr⟩
  refine ⟨⟨R.l, by have h := R.d; rw [List.take_length] at h; exact h, fun j n c h1 h2 => ?_, hD, R.f, R.n⟩, fun n hn => ?_⟩
  · obtain ⟨r, hr, e⟩ := rat h1
    rw [e]
    exact R.r j r c hr h2
  · obtain ⟨j, hj⟩ := List.getElem?_of_mem hn
    obtain ⟨r, hr, e⟩ := rat hj
    rw [e]
    exact R.g j r n hr hj
theorem perm_strs {ys : List V} {ns : List Str} (h : ys.Perm (ns.map V.str)) : ∃ ms : List Str, ms.Perm ns ∧ ys = ms.map V.str := by
  refine ⟨ys.map fun v => match v with | .str x => x | _ => "", ?_, ?_⟩
  · have h2 := h.map fun v => match v with | .str x => x | _ => ("" : Str)
    rw [List.map_map] at h2
    have e : (ns.map ((fun v => match v with | .str x => x | _ => ("" : Str)) ∘ V.str)) = ns := by
      conv => rhs; rw [← List.map_id ns]
      rfl
    rw [e] at h2
    exact h2
  · rw [List.map_map]
    conv => lhs; rw [← List.map_id ys]
    refine List.map_congr_left fun v hv => ?_
    obtain ⟨n, _, rfl⟩ := List.mem_map.mp (h.subset hv)
    rfl
def spMixedB (K : PySem.W.Frag) : Sp := fun vs H Q _ => ∃ (a b c : Addr) (B : Nat) (xs : List V), vs = [.ref a, .ref c] ∧ Stm H a b B ∧ (SqL K H c xs ∨ SqT K H c xs) ∧ xs.length ≤ 1000 ∧ B + 1000 ≤ 1000000000000 ∧
  ∀ (H' : Hp) (l : Addr) (ys : List V), Stm H' a b (B + 1000) → KeepBut a b H H' → H l = none → H' l = some (.lst ys) → ys.Perm xs → Q (.ref l) H'
def spARows (K : PySem.W.Frag) : Sp := fun vs H Q _ => ∃ (a b c : Addr) (B m : Nat) (ns : List Str), vs = [.ref a, .ref c, .int m] ∧ Stm H a b B ∧ c ≠ a ∧ c ≠ b ∧ H c = some (.lst (ns.map V.str)) ∧ ns.Nodup ∧ ns.length ≤ 63 ∧ m ≤ 63 ∧ B + 200000 ≤ 1000000000000 ∧
  ∀ (H' : Hp) (D : Addr) (rw_ : Str → List Str) (bs : List Addr), Stm H' a b (B + 200000) → KeepBut a b H H' → RowsN H H' D ns rw_ bs → Q (.ref D) H'
section
variable {P : Program} {w : World} {K : PySem.W.Frag} {mg : Str → Option Value} {base : Heap}
theorem mixedB {f : Addr} {fd : FuncData} (G : FnOk P w K mg base CX0 2 f fd ["_law_stream", "_law_some"] (spMixed K)) : FnOk P w K mg base CX0 2 f fd ["_law_stream", "_law_some"] (spMixedB K) :=
  G.imp fun vs H Q E ⟨a, b, c, B, xs, e, ⟨ns, p, q, r, S, hq⟩, hc, hn, hB, k⟩ => ⟨a, b, c, ns, p, q, r, xs, e, S, hc, hn, by omega, fun H' ns' p' r' l ys S' kb h1 h2 pm => k H' l ys ⟨ns', p', q + xs.length, r', S', by push_cast; omega⟩ kb h1 h2 pm⟩
end
end Mn
/-! [.. for pair in d.items() ..], the pair under one name -/
namespace Mi
open PySem PySem.Spec PyProof.Rows L2
def stN (it d : Addr) (n ep : Nat) : Option Addr → Nat → Heap → Prop
  | none, i, h => i = 0 ∧ ∃ ok ov, IsItemIter h it d 0 n ep ok ov
  | some a, i, h => a ≠ it ∧ ∃ ok ov f, PySem.W.KdxIt h it d i n ep ok ov a f
theorem stN.get {it d : Addr} {n ep i : Nat} {g : Option Addr} {h : Heap} (s : stN it d n ep g i h) : ∃ o, h.get? it = some o ∧ (∀ v, o.data ≠ Data.cell v) ∧ ∀ h', h'.get? it = some o → stN it d n ep g i h' := by
  cases g with
  | none =>
    obtain ⟨e, ok, ov, q⟩ := s
    exact ⟨_, q, (by intro v z; cases z), fun h' e' => ⟨e, ok, ov, e'⟩⟩
  | some a =>
    obtain ⟨e, ok, ov, f, q⟩ := s
    exact ⟨_, q, (by intro v z; cases z), fun h' e' => ⟨e, ok, ov, f, e'⟩⟩
theorem stN.keep {it d : Addr} {n ep i : Nat} {g : Option Addr} {h h' : Heap} (s : stN it d n ep g i h) (k : ∀ o, h.get? it = some o → h'.get? it = some o) : stN it d n ep g i h' := by
  obtain ⟨o, e, _, q⟩ := s.get
  exact q h' (k o e)
section
variable {X : Cx} {pins : List (Addr × Obj)} {s : Shared} {σ : L2.St} {H : Hp} {it d : Addr} {o : Obj} {kvs : List (Key × V)} {i : Nat} {g : Option Addr}
theorem item_N {E : Value → Shared → Prop} {k : Key} {v : V} {es : Array DictEntry} {ep : Nat} {y : Str} {py : Pos} (I : Inv X pins σ H s) (f : FpOk X pins H it) (hd : H d = some (.frz o (.dK kvs))) (hod : o.data = .dict es ep) (hi : kvs[i]? = some (k, v))
    (st : stN it d kvs.length ep g i s.heap) (ha : ∀ a, g = some a → ∃ xs, H a = some (.tup xs)) :
    wpAny (model X.prog X.w) X.A (pyNext (.ref it)) (fun r s1 => ∃ u, r = some u ∧ wpAny (model X.prog X.w) X.A (letOwnedTupleGo (.Name y py) (.ref it) u) (fun _ s2 => ∃ T, H T = none ∧ Inv X pins σ (upd H T (.tup [kV k, v])) s2 ∧ RelV (.ref T) u ∧
      stN it d kvs.length ep (some (g.getD T)) (i + 1) s2.heap ∧ upd H T (.tup [kV k, v]) it = none) E s1) E s := by
  obtain ⟨hs, hgd, hx, es', ep', vs, hdt, hsz, kv, hm⟩ := I.frzK hd
  obtain ⟨rfl, rfl⟩ := dict_ep hod hdt
  obtain ⟨u, hu, ru⟩ := kv_get kv hi
  have hl : kvs.length = vs.length := Paired.length kv
  obtain ⟨oi, hoi, _, _⟩ := st.get
  have hlt : it < s.heap.objs.size := Heap.lt_size hoi
  have fin : ∀ (key : Value) (h' : Heap), keyIs k key = true → h'.get? s.heap.objs.size = some { cls := .type "tuple", data := .seq #[key, u] } → (∀ b o, b ≠ it → s.heap.get? b = some o → h'.get? b = some o) →
      stN it d kvs.length ep' (some (g.getD s.heap.objs.size)) (i + 1) h' → ∃ z, (some (Value.ref s.heap.objs.size) : Option Value) = some z ∧ wpAny (model X.prog X.w) X.A (letOwnedTupleGo (.Name y py) (.ref it) z) (fun _ s2 => ∃ T, H T = none ∧ Inv X pins σ (upd H T (.tup [kV k, v])) s2 ∧ RelV (.ref T) z ∧
      stN it d kvs.length ep' (some (g.getD T)) (i + 1) s2.heap ∧ upd H T (.tup [kV k, v]) it = none) E { s with heap := h' } := by
    intro key h' hkey hT hk st'
    have new : ObjOk X.prog X.w (upd H s.heap.objs.size (.tup [kV k, v])) h' s.heap.objs.size (.tup [kV k, v]) :=
      ⟨by show 2 ≤ sizeLine; decide, [key, u], .cons (relV_key hkey) (.cons ru .nil), ⟨_, hT, rfl, _, rfl⟩⟩
    have I1 : Inv X pins σ (upd H s.heap.objs.size (.tup [kV k, v])) { s with heap := h' } :=
      I.turnedNew (t' := s.toks) (ch := [it]) (fun b ob hb e => hk b ob (by simpa using hb) e) (fun b hb => by
        have e : b = it := by simpa using hb
        rw [e]
        exact f) (Nat.le_refl _) new
    refine ⟨_, rfl, ?_⟩
    unfold letOwnedTupleGo
    refine wpAny_pure ⟨s.heap.objs.size, I.hok.fresh (Nat.le_refl _), I1, rfl, st', ?_⟩
    rw [upd_ne (Nat.ne_of_lt hlt)]
    exact f.1
  cases g with
  | none =>
    obtain ⟨rfl, ok, ov, he⟩ := st
    rw [hl] at he
    exact wpAny_pyNext_items_item he hm hu fun key h' hkey ho hT hz hk => fin key h' hkey hT hk ⟨Nat.ne_of_gt hlt, key, u, false, by rw [hl]; exact ho⟩
  | some a =>
    obtain ⟨hne, ok, ov, fl, he⟩ := st
    rw [hl] at he
    obtain ⟨xs, hxs⟩ := ha a rfl
    obtain ⟨_, _, _, oa, hoa, _⟩ := (show ObjOk X.prog X.w H s.heap a (.tup xs) from I.hok a _ hxs)
    exact PySem.W.kdx_next_out he hoa hne hm hu fun key h' hkey ho hT hz hk => fin key h' hkey hT hk ⟨hne, ok, ov, true, by rw [hl]; exact ho⟩
theorem done_N {E : Value → Shared → Prop} {es : Array DictEntry} {ep : Nat} (hc : X.calm = true) (I : Inv X pins σ H s) (f : FpOk X pins H it) (hd : H d = some (.frz o (.dK kvs))) (hod : o.data = .dict es ep) (hi : kvs.length ≤ i) (st : stN it d kvs.length ep g i s.heap) :
    wpAny (model X.prog X.w) X.A (pyNext (.ref it)) (fun r s1 => r = none ∧ Inv X pins σ H s1) E s := by
  obtain ⟨f0, f1, f2, f3, f4, f5⟩ := f
  obtain ⟨hs, hgd, hx, es', ep', vs, hdt, hsz, kv, hm⟩ := I.frzK hd
  obtain ⟨rfl, rfl⟩ := dict_ep hod hdt
  have hl : kvs.length = vs.length := Paired.length kv
  cases g with
  | none =>
    obtain ⟨rfl, ok, ov, he⟩ := st
    rw [hl] at he
    exact wpAny_pyNext_items_end (I.ok.hd hc) he hm (List.getElem?_eq_none (by omega)) fun h' eb => ⟨rfl, I.turned (t' := s.toks) (fun b ob hb e => eb b ob hb e) f0 f1 f3 f4 f5⟩
  | some a =>
    obtain ⟨hne, ok, ov, fl, he⟩ := st
    rw [hl] at he
    exact PySem.W.kdx_end_out (I.ok.hd hc) he hm (List.getElem?_eq_none (by omega)) fun h' eb => ⟨rfl, I.turned (t' := s.toks) (fun b ob hb e => eb b ob hb e) f0 f1 f3 f4 f5⟩
end
theorem self_N {P : Program} {w : World} {A : Around} {s : Shared} {it d : Addr} {n ep : Nat} {Q : Value → Shared → Prop} {E : Value → Shared → Prop} (st : stN it d n ep none 0 s.heap) (h : Q (.ref it) s) : wpAny (model P w) A (pyIter (.ref it)) Q E s := by
  obtain ⟨_, ok, ov, e⟩ := st
  exact PySem.W.kcp_self e h
/-- an iterator over the pairs of a locked dict has come -/
def PIN (X : Cx) (pins : List (Addr × Obj)) (σ : L2.St) (R : Addr → Obj → List (Key × V) → Hp → Prop) (itv : Value) (s2 : Shared) : Prop :=
  ∃ (it d : Addr) (o : Obj) (kvs : List (Key × V)) (H' : Hp) (es : Array DictEntry) (ep : Nat), itv = .ref it ∧ Inv X pins σ H' s2 ∧ H' d = some (.frz o (.dK kvs)) ∧ o.data = .dict es ep ∧ stN it d kvs.length ep none 0 s2.heap ∧ FpOk X pins H' it ∧ R d o kvs H'
def RN (g : TG) (tt : TT) (te : TE) (vs : List Nat) (σ : L2.St) (Q : VK) (d : Addr) (o : Obj) (kvs : List (Key × V)) (H1 : Hp) : Prop := ∀ D, H1 D = none → ∃ W : Option Addr → Nat → Hp → Prop, W none 0 (upd H1 D (.lst [])) ∧
  (∀ g0 i H, W g0 i H → H d = some (.frz o (.dK kvs)) ∧ ∀ a, g0 = some a → ∃ xs, H a = some (.tup xs)) ∧
  (∀ g0 i H k v T, kvs[i]? = some (k, v) → W g0 i H → H T = none → g (.ref T) (wipe σ vs) (upd H T (.tup [kV k, v])) fun σ2 H2 => wipe σ2 vs = wipe σ vs ∧ tt σ2 H2 fun b H3 =>
    if b = true then te σ2 H3 fun y H4 => ∃ acc, H4 D = some (.lst acc) ∧ acc.length < sizeLine ∧ W (some (g0.getD T)) (i + 1) (upd H4 D (.lst (acc ++ [y]))) else W (some (g0.getD T)) (i + 1) H3) ∧
  ∀ g0 H, W g0 kvs.length H → Q (.ref D) H
def tLcN (td : TE) (g : TG) (tt : TT) (te : TE) (vs : List Nat) : TE := fun σ H Q => td σ H fun x H1 => ∃ d o kvs, x = .ref d ∧ H1 d = some (.frz o (.dK kvs)) ∧ RN g tt te vs σ Q d o kvs H1
section
variable {X : Cx}
theorem lc_coreN {pins : List (Addr × Obj)} {s : Shared} {σ : L2.St} {H : Hp} {Q : VK} {elt iter : Expr} {y0 : Str} {py0 : Pos} {ifs : List Expr} {scope : Scope} {own : List (Str × Nat)} {pos pos' : Pos} {td : TE} {g : TG} {tt : TT} {te : TE} {use : Option (Value → Sem Unit)} {Qf : Value → Shared → Prop}
    (hc : X.calm = true) (hN : X.N.Nodup) (I : Inv X pins σ H s)
    (hi : ∀ (pins : List (Addr × Obj)) (s : Shared) (σ : L2.St) (H : Hp) (R : Addr → Obj → List (Key × V) → Hp → Prop), Inv X pins σ H s → (td σ H fun x H1 => ∃ d o kvs, x = .ref d ∧ H1 d = some (.frz o (.dK kvs)) ∧ R d o kvs H1) →
      wpAny (model X.prog X.w) X.A (eval iter X.env) (fun v s1 => wpAny (model X.prog X.w) X.A (pyIter v) (PIN X pins σ R) X.xe s1) X.xe s) (ok : BlkOk X.N X.env.scope scope own)
    (hg : ∀ (s : Shared) (H : Hp) (C : Addr) (cl : List (Str × Addr)) (fp : List Addr), PG (X.blk s H scope (compEnvC scope cl C X.env) fp) (.Name y0 py0) g) (ht : ∀ (s : Shared) (H : Hp) (C : Addr) (cl : List (Str × Addr)) (fp : List Addr), PTs (X.blk s H scope (compEnvC scope cl C X.env) fp) ifs tt)
    (he : ∀ (s : Shared) (H : Hp) (C : Addr) (cl : List (Str × Addr)) (fp : List Addr), PE (X.blk s H scope (compEnvC scope cl C X.env) fp) elt te) (hs : ∀ x, foldedSetIterable iter X.env x = pure x)
    (h : td σ H fun x H1 => ∃ d o kvs, x = .ref d ∧ H1 d = some (.frz o (.dK kvs)) ∧ RN g tt te (own.map (·.2)) σ Q d o kvs H1)
    (hRR : ∀ D C s' m H', Inv X pins σ H' s' → Q (.ref D) H' → s'.heap.Ns C m → FpOk X pins H' C → compPost (model X.prog X.w) X.A X.xe use Qf (.ref D) C (.ok .next) s') :
    wpAny (model X.prog X.w) X.A (comprehension (.ListComp elt [⟨.Name y0 py0, iter, ifs, 0⟩] scope pos) scope X.env pos' (newList []) false (eval iter X.env) use) Qf X.xe s := by
  have hfree : ∀ y ∈ scope.names, y.2 = .free → ∃ c, X.env.cells.lookup y.1 = some c := fun y hy e => by
    rcases ok.free y hy e with k | k
    · exact I.ok.has _ (.inl k)
    · exact I.ok.has _ (.inr k)
  refine wpAny_comprehension_free (use := use) rfl hs (closure_ok hfree) ok.kind (fun y hy e => by rw [ok.uniq y hy, e])
    (thn (hi pins s σ H _ I h) fun xv s1 hx => thn hx fun itv s2 h2 => ?_)
  obtain ⟨it, d, o0, kvs, H2, es, ep, e, I2, hd2, hod, st2, f2', q⟩ := h2
  subst e
  generalize hfp : [it] = fp at *
  have hfpi : ∀ b ∈ fp, b = it := fun b hb => by rw [← hfp] at hb; simpa using hb
  have hitf : it ∈ fp := by rw [← hfp]; simp
  have f2 : ∀ b ∈ fp, FpOk X pins H2 b := fun b hb => by rw [hfpi b hb]; exact f2'
  refine wpAny_newObj_type (newEnv_comp ?_) (by show 0 ≤ sizeLine; decide)
  generalize hD : s2.heap.objs.size = D
  have hDn : H2 D = none := I2.hok.fresh (Nat.le_of_eq hD)
  obtain ⟨W, w0, wr, turn, stopp⟩ := q D hDn
  -- the new list
  generalize hs3 : ({ s2 with heap := s2.heap.push { cls := .type "list", data := .seq ([] : List Value).toArray } } : Shared) = s3
  have I3 : Inv X pins σ (upd H2 D (.lst [])) s3 := by
    rw [← hs3]
    refine I2.laid (t' := s2.toks) (fun b o e => Heap.get?_push_of_some _ e) (Nat.le_of_eq hD) ⟨Nat.zero_le _, [], 0, .nil, ?_⟩
    rw [← hD]
    exact Heap.get?_push_size _ rfl
  have h3 : s3.heap = s2.heap.push { cls := .type "list", data := .seq ([] : List Value).toArray } := by rw [← hs3]
  have sz : ∀ b ∈ fp, b < s2.heap.objs.size := fun b hb => by
    obtain ⟨o, e, _⟩ := st2.get
    rw [hfpi b hb]
    exact Heap.lt_size e
  have f3 : ∀ b ∈ fp, FpOk X pins (upd H2 D (.lst [])) b ∧ b < s3.heap.objs.size := fun b hb => by
    have hlt := sz b hb
    refine ⟨⟨?_, (f2 b hb).2⟩, by rw [h3, Heap.size_push]; exact Nat.lt_succ_of_lt hlt⟩
    rw [upd_ne (by rw [← hD]; exact Nat.ne_of_lt hlt)]
    exact (f2 b hb).1
  have st3 : stN it d kvs.length ep none 0 s3.heap := st2.keep fun o e => by rw [h3]; exact Heap.get?_push_of_some _ e
  have I4 := block_start I3 ok hN f3
  have pg := hg s3 (upd H2 D (.lst [])) s3.heap.objs.size (cellsFrom (s3.heap.objs.size + 1) scope.names (cloFrom X.env.cells scope.names [])) fp
  have pt := ht s3 (upd H2 D (.lst [])) s3.heap.objs.size (cellsFrom (s3.heap.objs.size + 1) scope.names (cloFrom X.env.cells scope.names [])) fp
  have pe := he s3 (upd H2 D (.lst [])) s3.heap.objs.size (cellsFrom (s3.heap.objs.size + 1) scope.names (cloFrom X.env.cells scope.names [])) fp
  show codeAny _ _ (.compStart (.ListComp elt [⟨.Name y0 py0, iter, ifs, 0⟩] scope pos) 0 (.ref it) (.ref D) (compEnvC scope (cellsFrom (s3.heap.objs.size + 1) scope.names (cloFrom X.env.cells scope.names [])) s3.heap.objs.size X.env)) (compPost (model X.prog X.w) X.A X.xe use Qf (.ref D) s3.heap.objs.size) { s3 with heap := pushCells (s3.heap.push { cls := .type "dict", data := .dict #[] }) scope.names }
  have nfp : ∀ b ∈ fp, (upd H2 D (.lst [])) b = none := fun b hb => (f3 b hb).1.1
  generalize hce : compEnvC scope (cellsFrom (s3.heap.objs.size + 1) scope.names (cloFrom X.env.cells scope.names [])) s3.heap.objs.size X.env = ce at I4 pg pt pe ⊢
  have cL : ce.locals = s3.heap.objs.size := by subst hce; rfl
  generalize hH3 : upd H2 D (.lst []) = H3 at I3 I4 pg pt pe w0 nfp f3
  generalize hs4 : ({ s3 with heap := pushCells (s3.heap.push { cls := .type "dict", data := .dict #[] }) scope.names } : Shared) = s4 at I4 ⊢
  have st4 : stN it d kvs.length ep none 0 s4.heap := st3.keep fun o e => by rw [← hs4]; exact pushCells_keeps _ _ _ _ (Heap.get?_push_of_some _ e)
  have stat : ∀ {σ' : L2.St} {H' : Hp} {s' : Shared}, Inv (X.blk s3 H3 scope ce fp) [] σ' H' s' → (∀ b ∈ fp, H' b = none) → ∀ b ∈ fp, FpOk (X.blk s3 H3 scope ce fp) [] H' b := fun {σ' H' s'} I' hn b hb =>
    ⟨hn b hb, (I'.ok.exf b hb).1, I'.ok.exfs b hb, .inl hb, fun x c e => (I'.ok.exf b hb).2 x c e, fun p hp => absurd (show p ∈ ([] : List (Addr × Obj)) ++ [] from hp) (by simp)⟩
  have loop : codeAny (model X.prog X.w) X.A (.compLoop (.ListComp elt [⟨.Name y0 py0, iter, ifs, 0⟩] scope pos) 0 (.ref it) (.ref D) ce) (compPost (model X.prog X.w) X.A X.xe use Qf (.ref D) s3.heap.objs.size) s4 := by
    refine compLoop_any (fun n s' => ∃ g i H', n = kvs.length - i ∧ i ≤ kvs.length ∧ Inv (X.blk s3 H3 scope ce fp) [] (wipe σ (own.map (·.2))) H' s' ∧ stN it d kvs.length ep g i s'.heap ∧ (∀ b ∈ fp, H' b = none) ∧ W g i H') ?_ _ ⟨none, 0, H3, rfl, Nat.zero_le _, I4, st4, nfp, w0⟩
    rintro n s5 ⟨g0, i, H5, hni, hile, I5, st5, n5, w5⟩
    obtain ⟨hd5, ha5⟩ := wr g0 i H5 w5
    by_cases hlt : i < kvs.length
    rotate_left
    · have hie : i = kvs.length := by omega
      have qq : Q (.ref D) H5 := stopp g0 H5 (by rw [← hie]; exact w5)
      have td := done_N (X := X.blk s3 H3 scope ce fp) (E := fun _ _ => False) hc I5 (stat I5 n5 it hitf) hd5 hod (by omega) st5
      refine thnF td fun r s6 ⟨hr, I6⟩ => ?_
      subst hr
      -- back in the def's context
      have I7 : Inv X pins σ H5 s6 := I3.call' (ch := fp) I6.os I6.base I6.hok I6.bare fun b hb => ⟨(f3 b hb).1.2.2.2.1, (f3 b hb).1.2.1, (f3 b hb).1.2.2.2.2.1, (f3 b hb).1.2.2.2.2.2⟩
      have nC : H5 s3.heap.objs.size = none := by
        have z : H5 ce.locals = none := I6.free
        rw [cL] at z
        exact z
      obtain ⟨m, hn, _⟩ := I6.loc
      have hn : s6.heap.Ns ce.locals m := hn
      rw [cL] at hn
      exact hRR D s3.heap.objs.size s6 m H5 I7 qq hn (I3.fpOk (Nat.le_refl _) nC)
    · obtain ⟨⟨k0, v0⟩, hkv⟩ : ∃ p, kvs[i]? = some p := ⟨kvs[i], List.getElem?_eq_getElem hlt⟩
      have ti := item_N (X := X.blk s3 H3 scope ce fp) (E := fun _ _ => False) (y := y0) (py := py0) I5 (stat I5 n5 it hitf) hd5 hod hkv st5 ha5
      refine thnF ti fun r s6 ⟨u, hr, h6⟩ => ?_
      subst hr
      refine thnF h6 fun _ s7 ⟨T0, hT0, I7, r7, st7, n7'⟩ => ?_
      have n7 : ∀ b ∈ fp, upd H5 T0 (.tup [kV k0, v0]) b = none := fun b hb => by rw [hfpi b hb]; exact n7'
      have tobj : ∀ b ∈ fp, ∃ o, s7.heap.get? b = some o ∧ ∀ v, o.data ≠ .cell v := fun b hb => by
        obtain ⟨o, e, e2, _⟩ := st7.get
        rw [hfpi b hb]
        exact ⟨o, e, e2⟩
      have I7' := I7.pinned (stat I7 n7) tobj
      refine thnF (pg.run _ s7 _ _ (.ref T0) u _ I7' r7 (turn g0 i H5 k0 v0 T0 hkv w5 hT0)) fun _ s8 ⟨σ8, H8, I8, hw8, q8⟩ => ?_
      refine thnF (pt.run _ s8 σ8 H8 _ I8 q8) fun b s9 ⟨H9, I9, q9⟩ => ?_
      -- the turn's end
      have fin : ∀ {s' : Shared} {H' : Hp}, Inv (X.blk s3 H3 scope ce fp) ([] ++ pinsAt fp s7.heap) σ8 H' s' → W (some (g0.getD T0)) (i + 1) H' → ∃ m, m < n ∧ ∃ g i H', m = kvs.length - i ∧ i ≤ kvs.length ∧ Inv (X.blk s3 H3 scope ce fp) [] (wipe σ (own.map (·.2))) H' s' ∧ stN it d kvs.length ep g i s'.heap ∧ (∀ b ∈ fp, H' b = none) ∧ W g i H' := fun {s' H'} I' w' => by
        have pin' : ∀ b ∈ fp, ∀ o, s7.heap.get? b = some o → s'.heap.get? b = some o ∧ H' b = none := fun b hb o e =>
          let z := I'.pin (b, o) (List.mem_append_right _ (List.mem_append_right _ (mem_pinsAt hb e)))
          ⟨z.1, z.2.1⟩
        have hl : (wipe σ (own.map (·.2))).length = σ8.length := by rw [← hw8, wipe_length]
        refine ⟨kvs.length - (i + 1), by omega, some (g0.getD T0), i + 1, H', rfl, by omega, (I'.unpinned (pins := [])).weak hl (fun j v e => ?_), st7.keep fun o e => (pin' it hitf o e).1, fun b hb => ?_, w'⟩
        · rw [← hw8] at e
          exact (wipe_some e).1
        · obtain ⟨o, e, _⟩ := tobj b hb
          exact (pin' b hb o e).2
      cases b with
      | false =>
        simp only [Bool.false_eq_true, if_false] at q9 ⊢
        exact fin I9 q9
      | true =>
        simp only [if_true] at q9 ⊢
        refine thnF (pe.run _ s9 σ8 H9 _ I9 q9) fun z s10 ⟨yv, H10, I10, r10, acc, hD10, hz10, nx⟩ => ?_
        exact app_ok (X := X.blk s3 H3 scope ce fp) I10 hD10 hz10 r10 fun s11 I11 => fin I11 nx
  exact codeAny_compStart_list loop (self_N (A := X.A) st4 loop)
theorem pi_itemsN {e : Expr} {td : TE} {apos cpos : Pos} (he : PE X e td) (hbase : attributeBase e "items" X.env (eval e X.env) = eval e X.env := by rfl) (hline : (apos.endLine == cpos.line) = true := by rfl) :
    ∀ (pins : List (Addr × Obj)) (s : Shared) (σ : L2.St) (H : Hp) (R : Addr → Obj → List (Key × V) → Hp → Prop), Inv X pins σ H s → (td σ H fun x H1 => ∃ d o kvs, x = .ref d ∧ H1 d = some (.frz o (.dK kvs)) ∧ R d o kvs H1) →
      wpAny (model X.prog X.w) X.A (eval (.Call (.Attribute e "items" apos) [] [] cpos) X.env) (fun v s1 => wpAny (model X.prog X.w) X.A (pyIter v) (PIN X pins σ R) X.xe s1) X.xe s := by
  intro pins s σ H R I h
  refine wpAny_Call_method (T := "dict") (id := "dict.items") hbase rfl hline F.plainAttrs_dict F.slot_dict_items F.type_dict_items (thn (he.run pins s σ H _ I h) fun u s1 ⟨x, H1, I1, rx, d, o, kvs, ex, hd, q⟩ => ?_)
  subst ex
  obtain rfl : u = Value.ref d := rx
  obtain ⟨hs, hgd, hx, es, ep, vs, hdt, hsz, kv, hm⟩ := I1.frzK hd
  have hl : kvs.length = vs.length := Paired.length kv
  refine ⟨hm.dictOf.typeIs, hm.dictOf.mapOf.noDict, ?_⟩
  have I2 : Inv X pins σ H1 { s1 with heap := s1.heap.push { cls := .type "dict_items", data := .fields #[.ref d] } } := I1.kept (t' := s1.toks) fun b ob q => Heap.get?_push_of_some _ q
  have fin : wpAny (model X.prog X.w) X.A (pyIter (.ref s1.heap.objs.size)) (PIN X pins σ R) X.xe { s1 with heap := s1.heap.push { cls := .type "dict_items", data := .fields #[.ref d] } } := by
    refine wpAny_pyIter_items (d := d) (knd := mixKind X.prog X.w) ⟨_, Heap.get?_push_size _ rfl, rfl, rfl⟩ (hm.push _) ?_
    refine ⟨_, d, o, kvs, H1, es, ep, rfl, I2.kept fun b ob e => Heap.get?_push_of_some _ e, hd, hdt, ⟨rfl, .none, .none, ?_⟩, I2.fpOk (Nat.le_refl _) (I2.hok.fresh (Nat.le_refl _)), q⟩
    rw [hl]
    exact Heap.get?_push_size _ rfl
  show wpAny _ _ (callWith cpos (.builtin "dict.items") [.ref d] [] []) _ X.xe s1
  exact method_meetsIn F.slot_dict_items F.entry_dict_items rfl (PySem.evalArgs_none ⟨rfl, hm.dictOf.typeIs, F.args_dict_items_1 _, _, meets_dict_items (mixKind X.prog X.w) d hs, ⟨vs, hm.dictOf⟩, fin⟩)
/-- name = [..] on one line, the name a local -/
theorem ps_setLcN {i : Nat} {y : Str} {py : Pos} {elt iter : Expr} {y0 : Str} {py0 : Pos} {ifs : List Expr} {scope : Scope} {own : List (Str × Nat)} {pos spos : Pos} {td : TE} {g : TG} {tt : TT} {te : TE} (hc : X.calm = true) (hN : X.N.Nodup) (hy : X.N[i]? = some y) (hyl : X.env.scope.names.lookup y = some .local)
    (hsw : swapsWith (.ListComp elt [⟨.Name y0 py0, iter, ifs, 0⟩] scope pos) (some (.Name y py)) spos.line X.env = pure true) (hi : ∀ (pins : List (Addr × Obj)) (s : Shared) (σ : L2.St) (H : Hp) (R : Addr → Obj → List (Key × V) → Hp → Prop), Inv X pins σ H s → (td σ H fun x H1 => ∃ d o kvs, x = .ref d ∧ H1 d = some (.frz o (.dK kvs)) ∧ R d o kvs H1) →
      wpAny (model X.prog X.w) X.A (eval iter X.env) (fun v s1 => wpAny (model X.prog X.w) X.A (pyIter v) (PIN X pins σ R) X.xe s1) X.xe s) (ok : BlkOk X.N X.env.scope scope own)
    (hg : ∀ (s : Shared) (H : Hp) (C : Addr) (cl : List (Str × Addr)) (fp : List Addr), PG (X.blk s H scope (compEnvC scope cl C X.env) fp) (.Name y0 py0) g) (ht : ∀ (s : Shared) (H : Hp) (C : Addr) (cl : List (Str × Addr)) (fp : List Addr), PTs (X.blk s H scope (compEnvC scope cl C X.env) fp) ifs tt)
    (he : ∀ (s : Shared) (H : Hp) (C : Addr) (cl : List (Str × Addr)) (fp : List Addr), PE (X.blk s H scope (compEnvC scope cl C X.env) fp) elt te) (hs : ∀ x, foldedSetIterable iter X.env x = pure x := by intro _; rfl) :
    PS X (.Assign [.Name y py] (.ListComp elt [⟨.Name y0 py0, iter, ifs, 0⟩] scope pos) spos) (tAsg (tLcN td g tt te (own.map (·.2))) (gName i)) := by
  refine ⟨fun pins s σ H D I h => ?_⟩
  rw [exec_Assign_Name_used _ _ _ _ hsw]
  refine wpAny_bind (wpAny_standAt (wpAny_bind ?_))
  show wpAny _ X.A (do let _ ← comprehension (.ListComp elt [⟨.Name y0 py0, iter, ifs, 0⟩] scope pos) scope X.env (firstIterPos [⟨.Name y0 py0, iter, ifs, 0⟩] pos) (newList []) false (eval iter X.env) (some (assign (.Name y py) X.env))) _ _ s
  have h : td σ H fun x H1 => ∃ d o kvs, x = .ref d ∧ H1 d = some (.frz o (.dK kvs)) ∧ RN g tt te (own.map (·.2)) σ (fun x H1 => gName i x σ H1 D.nx) d o kvs H1 := h
  refine wpAny_bind (thn (lc_coreN (Qf := fun _ s' => SP X pins D .next s') hc hN I hi ok hg ht he hs h fun L C s' m H' I' q hn f => ?_) fun _ s' hq => wpAny_pure (wpAny_pure hq))
  show wpAny _ _ (assign (.Name y py) X.env (.ref L)) _ _ _
  refine wpAny_assign_Name (store_ok2 (v := V.ref L) I' hN hy (.inl hyl) rfl (fun s2 I2 ⟨a, sb, ha⟩ => ?_) (.inr hyl))
  obtain ⟨f0, f1, f2, f3, f4, f5⟩ := f
  have haC : C ≠ a := by
    rcases ha with z | z
    · rw [z]; exact f1
    · exact fun e => f4 y a z e.symm
  refine ⟨m, hn.sameBut sb haC, fun h3 sb3 => ?_⟩
  exact ⟨_, H', I2.turned (t' := s2.toks) (fun b o hb e => (sb3.2 b hb).trans e) f0 f1 f3 f4 f5, q⟩
end
end Mi
/-! _law_a_loose_wishes -/
namespace Mn
open PySem PySem.Spec PyProof.Rows L2 Md Me Ml LamX Mi
abbrev sLw : Stmt := top 41
/-- rows that stand apart from the stream -/
structure RowsS (a b : Addr) (H : Hp) (D : Addr) (ys : List Str) (rw_ : Str → List Str) (as : List Addr) : Prop where
  l : as.length = ys.length
  d : H D = some (.dK ((ys.zip as).map fun p => (Sum.inr p.1, V.ref p.2)))
  r : ∀ (i : Nat) (n : Str) (c : Addr), ys[i]? = some n → as[i]? = some c → H c = some (.lst ((rw_ n).map V.str))
  na : ∀ c ∈ as, c ≠ a ∧ c ≠ b
  nD : D ≠ a ∧ D ≠ b
theorem RowsS.keep {a b : Addr} {H H' : Hp} {D : Addr} {ys : List Str} {rw_ : Str → List Str} {as : List Addr} (k : KeepBut a b H H') (R : RowsS a b H D ys rw_ as) : RowsS a b H' D ys rw_ as :=
  ⟨R.l, k _ _ R.nD.1 R.nD.2 R.d, fun i n c h1 h2 => by
    obtain ⟨q1, q2⟩ := R.na c (List.mem_of_getElem? h2)
    exact k _ _ q1 q2 (R.r i n c h1 h2), R.na, R.nD⟩
/-- wishes loosely written: which names stand, where their rows are -/
structure Loosed (H0 H : Hp) (D : Addr) (ys : List Str) (rw_ : Str → List Str) (ps : List (Str × Addr)) : Prop where
  d : H D = some (.dK (ps.map fun p => (Sum.inr p.1, V.ref p.2)))
  nd : (ps.map Prod.fst).Nodup
  mem : ∀ p ∈ ps, p.1 ∈ ys
  out : ∀ n ∈ ys, n ∉ ps.map Prod.fst → rw_ n = []
  r : ∀ p ∈ ps, Seq H p.2 ((rw_ p.1).map V.str)
  f : ∀ p ∈ ps, H0 p.2 = none
  n : (ps.map Prod.snd).Nodup
  fD : H0 D = none
/-- the pairs chosen so far -/
structure Chos (a b : Addr) (H0 H : Hp) (L : Addr) (zs : List (Str × Addr)) (rw_ : Str → List Str) (ts : List (Str × Addr × Addr)) : Prop where
  k : KeepBut a b H0 H
  L : H L = some (.lst (ts.map fun t => .ref t.2.2))
  t : ∀ t ∈ ts, H t.2.2 = some (.tup [.str t.1, .ref t.2.1])
  sub : (ts.map fun t => (t.1, t.2.1)).Sublist zs
  out : ∀ p ∈ zs, p ∉ (ts.map fun t => (t.1, t.2.1)) → rw_ p.1 = []
theorem Chos.take {a b : Addr} {H0 H H1 : Hp} {L T : Addr} {zs : List (Str × Addr)} {rw_ : Str → List Str} {ts : List (Str × Addr × Addr)} {n : Str} {c : Addr} {B : Nat} (C : Chos a b H0 H L zs rw_ ts) (S : Stm H a b B) (hT : H T = none) (hL0 : H0 L = none) (Lab : L ≠ a ∧ L ≠ b) (k : KeepBut a b (upd H T (.tup [.str n, .ref c])) H1) :
    H1 L = some (.lst (ts.map fun t => .ref t.2.2)) ∧ Chos a b H0 (upd H1 L (.lst ((ts.map fun t => .ref t.2.2) ++ [.ref T]))) L (zs ++ [(n, c)]) rw_ (ts ++ [(n, c, T)]) := by
  have s := sameUp (o := .tup [.str n, .ref c]) hT
  have nab : ∀ {q : Addr} {xs : List V}, H q = some (.tup xs) → q ≠ a ∧ q ≠ b := fun {q xs} e => by
    obtain ⟨_, h1⟩ := S.ha
    obtain ⟨_, h2⟩ := S.hb
    exact ⟨fun z => (by rw [z, h1] at e; cases e), fun z => (by rw [z, h2] at e; cases e)⟩
  obtain ⟨Ta, Tb⟩ := S.nd hT
  have hL1 := C.L
  have h1 := k L _ Lab.1 Lab.2 (s _ _ C.L)
  have TL : T ≠ L := (ne_of_none C.L hT).symm
  refine ⟨h1, ((C.k.trans (KeepBut.same s)).trans k).un hL0, ?_, fun t ht => ?_, ?_, fun p hp hn => ?_⟩
  · rw [upd_same, List.map_append]
    rfl
  · rcases List.mem_append.mp ht with z | z
    · have e := C.t t z
      obtain ⟨q1, q2⟩ := nab e
      rw [upd_ne (fun y => by rw [y, C.L] at e; cases e)]
      exact k _ _ q1 q2 (s _ _ e)
    · have e : t = (n, c, T) := by simpa using z
      subst e
      rw [upd_ne TL]
      exact k _ _ Ta Tb upd_same
  · rw [List.map_append]
    exact C.sub.append (List.Sublist.refl _)
  · rw [List.map_append] at hn
    rcases List.mem_append.mp hp with z | z
    · exact C.out p z (fun q => hn (List.mem_append_left _ q))
    · exact absurd (List.mem_append_right _ z) hn
theorem Chos.skip {a b : Addr} {H0 H H1 : Hp} {L T : Addr} {zs : List (Str × Addr)} {rw_ : Str → List Str} {ts : List (Str × Addr × Addr)} {n : Str} {c : Addr} {B : Nat} (C : Chos a b H0 H L zs rw_ ts) (S : Stm H a b B) (hT : H T = none) (hL : L ≠ a ∧ L ≠ b) (k : KeepBut a b (upd H T (.tup [.str n, .ref c])) H1) (hr : rw_ n = []) :
    Chos a b H0 H1 L (zs ++ [(n, c)]) rw_ ts := by
  have s := sameUp (o := .tup [.str n, .ref c]) hT
  have nab : ∀ {q : Addr} {xs : List V}, H q = some (.tup xs) → q ≠ a ∧ q ≠ b := fun {q xs} e => by
    obtain ⟨_, h1⟩ := S.ha
    obtain ⟨_, h2⟩ := S.hb
    exact ⟨fun z => (by rw [z, h1] at e; cases e), fun z => (by rw [z, h2] at e; cases e)⟩
  refine ⟨(C.k.trans (KeepBut.same s)).trans k, k L _ hL.1 hL.2 (s _ _ C.L), fun t ht => ?_, C.sub.trans (List.sublist_append_left _ _), fun p hp hn => ?_⟩
  · obtain ⟨q1, q2⟩ := nab (C.t t ht)
    exact k _ _ q1 q2 (s _ _ (C.t t ht))
  · rcases List.mem_append.mp hp with z | z
    · exact C.out p z hn
    · have e : p = (n, c) := by simpa using z
      rw [e]
      exact hr
theorem perm_map {α β : Type} {f : α → β} {l : List α} {ys zs : List β} (h : ys.Perm zs) (e : zs = l.map f) : ∃ l' : List α, l'.Perm l ∧ ys = l'.map f := by
  induction h generalizing l with
  | nil =>
    cases l with
    | nil => exact ⟨[], List.Perm.refl _, rfl⟩
    | cons a l => cases e
  | cons x _ ih =>
    cases l with
    | nil => cases e
    | cons a l =>
      rw [List.map_cons] at e
      obtain ⟨e1, e2⟩ := List.cons.inj e
      obtain ⟨l', p, q⟩ := ih e2
      exact ⟨a :: l', p.cons a, by rw [List.map_cons, ← q, e1]⟩
  | swap x y t =>
    cases l with
    | nil => cases e
    | cons a l =>
      cases l with
      | nil => cases (List.cons.inj e).2
      | cons b l =>
        rw [List.map_cons, List.map_cons] at e
        obtain ⟨e1, e2⟩ := List.cons.inj e
        obtain ⟨e2, e3⟩ := List.cons.inj e2
        exact ⟨b :: a :: l, List.Perm.swap a b l, by rw [List.map_cons, List.map_cons, ← e1, ← e2, ← e3]⟩
  | trans _ _ ih1 ih2 =>
    obtain ⟨l2, p2, q2⟩ := ih2 e
    obtain ⟨l1, p1, q1⟩ := ih1 q2
    exact ⟨l1, p1.trans p2, q1⟩
theorem nodup_mapI {α β : Type} {f : α → β} (inj : ∀ x y, f x = f y → x = y) {l : List α} (h : l.Nodup) : (l.map f).Nodup := by
  rw [List.nodup_iff_pairwise_ne, List.pairwise_map]
  exact (List.nodup_iff_pairwise_ne.mp h).imp fun n z => n (inj _ _ z)
theorem mergeK_new : ∀ (kvs acc : List (Key × V)), ((acc ++ kvs).map Prod.fst).Nodup → mergeK acc kvs = acc ++ kvs
  | [], acc, _ => by simp [mergeK]
  | p :: r, acc, h => by
    have hne : ∀ kv ∈ acc, kv.1 ≠ p.1 := fun kv hk z => by
      rw [List.map_append, List.nodup_append] at h
      exact h.2.2 kv.1 (List.mem_map_of_mem hk) p.1 (by simp) z
    have e : mergeK acc (p :: r) = mergeK (putK acc p.1 p.2) r := rfl
    rw [e, putK_new hne]
    have e2 : acc ++ [(p.1, p.2)] = acc ++ [p] := rfl
    rw [e2, mergeK_new r (acc ++ [p]) (by rw [List.append_assoc]; exact h), List.append_assoc]
    rfl
theorem noSeq_str {K : PySem.W.Frag} {H : Hp} {x : Str} : NoSeq K H (.str x) := by
  obtain ⟨ty, t0, h1, h2, _⟩ := (ans_str : Ans K H (.str x) _ _ _ _ _)
  exact ⟨ty, t0, kitAny2 h1 h2⟩
def rowT (r : List Str) : Tree := .node (r.map fun x => .leaf (.str x))
theorem datTs_strs {K : PySem.W.Frag} {H : Hp} {a b : Addr} : ∀ r : List Str, DatTs K H a b (r.map fun x => .leaf (.str x)) (r.map V.str)
  | [] => .nil
  | x :: r => .cons (.leaf noSeq_str) (datTs_strs r)
theorem dat_row {K : PySem.W.Frag} {H : Hp} {a b c : Addr} {r : List Str} (ca : c ≠ a) (cb : c ≠ b) (h : Seq H c (r.map V.str)) (hn : r.length ≤ 200) : DatT K H a b (rowT r) (.ref c) := .node ca cb h (by rw [List.length_map]; exact hn) (datTs_strs r)
theorem dep_row {n : Nat} (r : List Str) : Dep (n + 1) (rowT r) := .node fun t ht => by
  obtain ⟨x, _, rfl⟩ := List.mem_map.mp ht
  exact .leaf _ _
theorem outTs_strs {H : Hp} : ∀ {r : List Str} {ts : List Tree} {ys : List V} {S : List Addr}, ts = (r.map fun x => .leaf (.str x)) → OutTs H ts ys S → ys = r.map V.str ∧ S = []
  | [], _, _, _, e, .nil => ⟨rfl, rfl⟩
  | _ :: _, _, _, _, e, .nil => by cases e
  | [], _, _, _, e, .cons _ _ _ => by cases e
  | x :: r, _, _, _, e, .cons h q hd => by
    rw [List.map_cons] at e
    obtain ⟨e1, e2⟩ := List.cons.inj e
    subst e1
    obtain ⟨q1, q2⟩ := outTs_strs e2 q
    cases h
    exact ⟨by rw [q1]; rfl, by rw [q2]; rfl⟩
theorem out_row {H : Hp} {r : List Str} {v : V} {S : List Addr} (h : OutT H (rowT r) v S) : ∃ p, v = .ref p ∧ Seq H p (r.map V.str) ∧ S = [p] := by
  unfold rowT at h
  cases h with
  | node hs hr hp =>
    obtain ⟨e1, e2⟩ := outTs_strs rfl hr
    subst e1 e2
    exact ⟨_, rfl, hs, rfl⟩
/-- rows made loose so far: name, the new row, the pair -/
structure Lws (a b : Addr) (H0 H4 H : Hp) (L : Addr) (rw_ : Str → List Str) (ns : List Str) (es : List (Str × Addr × Addr)) : Prop where
  k : KeepBut a b H4 H
  hL : H L = some (.lst (es.map fun e => .ref e.2.2))
  nm : es.map (fun e => e.1) = ns
  r : ∀ e ∈ es, Seq H e.2.1 ((rw_ e.1).map V.str)
  t : ∀ e ∈ es, H e.2.2 = some (.tup [.str e.1, .ref e.2.1])
  f : ∀ e ∈ es, H0 e.2.1 = none
  n : (es.map fun e => e.2.1).Nodup
  nL : ∀ e ∈ es, e.2.1 ≠ L
theorem Lws.snoc {a b : Addr} {H0 H4 H H1 : Hp} {L T p : Addr} {rw_ : Str → List Str} {ns : List Str} {es : List (Str × Addr × Addr)} {n : Str} (W : Lws a b H0 H4 H L rw_ ns es) (Lab : L ≠ a ∧ L ≠ b) (hL4 : H4 L = none) (hab : ∀ e ∈ es, (e.2.1 ≠ a ∧ e.2.1 ≠ b ∧ e.2.1 ≠ L) ∧ (e.2.2 ≠ a ∧ e.2.2 ≠ b))
    (k : KeepBut a b H H1) (hp0 : H0 p = none) (hpH : H p = none) (hp : Seq H1 p ((rw_ n).map V.str)) (hT : H1 T = none) :
    H1 L = some (.lst (es.map fun e => .ref e.2.2)) ∧ Lws a b H0 H4 (upd (upd H1 T (.tup [.str n, .ref p])) L (.lst ((es.map fun e => .ref e.2.2) ++ [.ref T]))) L rw_ (ns ++ [n]) (es ++ [(n, p, T)]) := by
  have s := sameUp (o := .tup [.str n, .ref p]) hT
  have hL1 := k L _ Lab.1 Lab.2 W.hL
  have TL : T ≠ L := (ne_of_none hL1 hT).symm
  have pL : p ≠ L := fun z => by
    rw [z, W.hL] at hpH
    cases hpH
  refine ⟨hL1, (((W.k.trans k).trans (KeepBut.same s))).un hL4, ?_, ?_, fun e he => ?_, fun e he => ?_, fun e he => ?_, ?_, fun e he => ?_⟩
  · rw [upd_same, List.map_append]
    rfl
  · rw [List.map_append, W.nm]
    rfl
  · rcases List.mem_append.mp he with z | z
    · obtain ⟨⟨q1, q2, q3⟩, _⟩ := hab e z
      exact (W.r e z).imp (fun h => by rw [upd_ne q3]; exact s _ _ (k _ _ q1 q2 h)) (fun h => by rw [upd_ne q3]; exact s _ _ (k _ _ q1 q2 h))
    · have e1 : e = (n, p, T) := by simpa using z
      subst e1
      exact hp.imp (fun h => by rw [upd_ne pL]; exact s _ _ h) (fun h => by rw [upd_ne pL]; exact s _ _ h)
  · rcases List.mem_append.mp he with z | z
    · obtain ⟨_, q1, q2⟩ := hab e z
      have e0 := W.t e z
      rw [upd_ne (fun y => by rw [y, W.hL] at e0; cases e0)]
      exact s _ _ (k _ _ q1 q2 e0)
    · have e1 : e = (n, p, T) := by simpa using z
      subst e1
      rw [upd_ne TL]
      exact upd_same
  · rcases List.mem_append.mp he with z | z
    · exact W.f e z
    · have e1 : e = (n, p, T) := by simpa using z
      subst e1
      exact hp0
  · rw [List.map_append, List.nodup_append]
    refine ⟨W.n, by simp, fun x hx y hy z => ?_⟩
    have e1 : y = p := by simpa using hy
    obtain ⟨e, he, rfl⟩ := List.mem_map.mp hx
    have h1 := W.r e he
    rw [z, e1] at h1
    rcases h1 with h1 | h1 <;> (rw [hpH] at h1; cases h1)
  · rcases List.mem_append.mp he with z | z
    · exact W.nL e z
    · have e1 : e = (n, p, T) := by simpa using z
      subst e1
      exact pL
def spLw (K : PySem.W.Frag) : Sp := fun vs H Q _ => ∃ (a b D : Addr) (B : Nat) (ys : List Str) (rw_ : Str → List Str) (as : List Addr), vs = [.ref a, .ref D] ∧ Stm H a b B ∧ RowsS a b H D ys rw_ as ∧ ys.Nodup ∧ ys.length ≤ 63 ∧ (∀ n ∈ ys, StrsOk (rw_ n) ∧ (rw_ n).length ≤ 63) ∧ B + 100000 ≤ 800000000000 ∧
  ∀ (H' : Hp) (D' : Addr) (ps : List (Str × Addr)), Stm H' a b (B + 100000) → KeepBut a b H H' → Loosed H H' D' ys rw_ ps → Q (.ref D') H'
theorem kb_unlock {a b d : Addr} {od : Obj} {u : HO} {H H' : Hp} (hd : H d = some u) (k : KeepBut a b (upd H d (.frz od u)) H') : KeepBut a b H (upd H' d u) := fun c o h1 h2 e => by
  by_cases z : c = d
  · rw [z, upd_same, ← e, z, hd]
  · rw [upd_ne z]
    exact k c o h1 h2 (by rw [upd_ne z]; exact e)
theorem hu64_of {k : Nat} {A : Around} (hr : Room k A) : A.units + 64 < cLine := by
  have := hr.un
  omega
section
variable {P : Program} {w : World} {K : PySem.W.Frag} {mg : Str → Option Value} {base : Heap}
theorem scLw : FnScope ["_law_stream", "_law_wishes", "_law_some", "_law_pair", "_law_person", "_law_row"] ["_law_stream", "_law_wishes"] (defScope sLw) := ⟨rfl, rfl, rfl, by decide +kernel, rfl, by decide +kernel, by decide +kernel⟩
theorem ok_lw {f fD fX fL : Addr} {fd fdD fdX fdL : FuncData} (F : Fun K "_law_a_loose_wishes" "_law_a_loose_wishes" sLw f fd) (GD : FnOk P w K mg base CX0 1 fD fdD ["_law_stream", "_law_many"] spDrawB) (kD : PySem.W.keepIn K (.ref fD) = true) (bD : Binds K fdD ["_law_stream", "_law_many"] []) (gD : mg "_law_draw" = some (.ref fD)) (GX : FnOk P w K mg base CX0 2 fX fdX ["_law_stream", "_law_some"] (spMixedB K)) (kX : PySem.W.keepIn K (.ref fX) = true) (bX : Binds K fdX ["_law_stream", "_law_some"] []) (gX : mg "_law_mixed" = some (.ref fX)) (GL : FnOk P w K mg base CX0 3 fL fdL ["_law_stream", "_law_thing"] (spLoose K 1)) (kL : PySem.W.keepIn K (.ref fL) = true) (bL : Binds K fdL ["_law_stream", "_law_thing"] []) (gL : mg "_law_loose" = some (.ref fL)) (gDict : mg "dict" = none) : FnOk P w K mg base CX0 4 f fd ["_law_stream", "_law_wishes"] (spLw K) := by
  refine F.ok scLw (fun vs H Q E h => ?_) (fun cdv A outer s H vs Q E hr h => ?_)
  · obtain ⟨a, b, D, B, ys, rw_, as, rfl, _⟩ := h
    rfl
  · obtain ⟨a, b, D, B, ys, rw_, as, rfl, S, R, hnd, hn, hrw, hB, k⟩ := h
    have nd := scLw.nd
    have hu64 := hu64_of hr
    refine ⟨_, pss_cons (ps_lock (ps_setLcN (i := 2) (own := [("_law_pair", 3)]) (g := gName 3) (tt := tOr (tTest (tOp (rNeD K) (tOp (rIxT K) (tVar 3) (tC (.int 1))) (tLst tNil))) (tTest (tOp rEq (tCall spDrawB [] E0 (tCons (tVar 0) (tCons (tC (.int 2)) tNil))) (tC (.int 0))))) (te := tVar 3) rfl nd rfl rfl (sw_true rfl rfl rfl (by decide +kernel)) (pi_itemsN (pv 1)) (blkOk_by (N := ["_law_stream", "_law_wishes", "_law_some", "_law_pair", "_law_person", "_law_row"]) (sc := defScope sLw) (by decide +kernel)) (fun _ _ _ _ _ => pg_name (i := 3) nd rfl (Or.inl rfl)) (fun _ _ _ _ _ => pts_one (PW.pt (pw_or (pt_cmpR ((op_neD hu64)) (pe_ix ix_tup (pv 3) pe_int (fun _ _ => rfl)) (pe_lst pa_nil) (nomark _)) (pw_or1 (pt_cmpR op_eq (pe_call GD (hr.mono (by decide)) rfl gD kD bD .nil pass0 (pa_cons (pv 0) (pa_cons pe_int pa_nil))) pe_int (nomark _)))))) (fun _ _ _ _ _ => by exact pv 3)))
      (pss_one (ps_ret (pe_callTy (call_dictP rfl) rfl gDict boot_dict2 (pa_cons (pe_lc (own := [("_law_person", 4), ("_law_row", 5)]) (g := gTup K 2 (gCons (gName 4) (gCons (gName 5) gNil))) (tt := tYes) (te := tTup (tCons (tVar 4) (tCons (tCall (spLoose K 1) [] E0 (tCons (tVar 0) (tCons (tVar 5) tNil))) tNil))) rfl nd (pi_list (pe_call GX (hr.mono (by decide)) rfl gX kX bX .nil pass0 (pa_cons (pv 0) (pa_cons (pv 2) pa_nil)))) (blkOk_by (N := ["_law_stream", "_law_wishes", "_law_some", "_law_pair", "_law_person", "_law_row"]) (sc := defScope sLw) (by decide +kernel)) (fun _ _ _ _ _ => pg_tup rfl (pgs_cons (pg_name (i := 4) nd rfl (Or.inl rfl)) (pgs_cons (pg_name (i := 5) nd rfl (Or.inl rfl)) pgs_nil))) (fun _ _ _ _ _ => pts_nil) (fun _ _ _ _ _ => by exact pe_tup (pa_cons (pv 4) (pa_cons (pe_call GL hr rfl gL kL bL .nil pass0 (pa_cons (pv 0) (pa_cons (pv 5) pa_nil))) pa_nil)))) pa_nil)))), ?_⟩
    refine ⟨D, _, R.d, trivial, fun od => ?_⟩
    generalize hkv : ((ys.zip as).map fun p => ((Sum.inr p.1 : Key), V.ref p.2)) = kvs
    have hRd := R.d
    rw [hkv] at hRd
    have hDl : upd H D (.frz od (.dK kvs)) D = some (.frz od (.dK kvs)) := upd_same
    have hzl : (ys.zip as).length = ys.length := by rw [List.length_zip, R.l, Nat.min_self]
    have hkl : kvs.length = ys.length := by rw [← hkv, List.length_map, hzl]
    have hlock : ∀ {q : Addr} {xs : List V}, H q = some (.lst xs) → upd H D (.frz od (.dK kvs)) q = some (.lst xs) := fun {q xs} e => by
      rw [upd_ne (fun z => by
        rw [z, hRd] at e
        cases e)]
      exact e
    have S1 : Stm (upd H D (.frz od (.dK kvs))) a b B := S.set R.nD.1 R.nD.2
    refine ⟨_, rfl, D, od, kvs, rfl, hDl, fun L hL => ?_⟩
    have Lab := S1.nd hL
    have kv_at : ∀ {i : Nat} {k : Key} {v : V}, kvs[i]? = some (k, v) → ∃ n c, (ys.zip as)[i]? = some (n, c) ∧ ys[i]? = some n ∧ as[i]? = some c ∧ k = Sum.inr n ∧ v = .ref c := fun {i k v} h => by
      rw [← hkv, List.getElem?_map] at h
      obtain ⟨⟨n, c⟩, h1, h2⟩ := Option.map_eq_some_iff.mp h
      have h3 := List.getElem?_zip_eq_some.mp h1
      exact ⟨n, c, h1, h3.1, h3.2, (Prod.mk.inj h2).1.symm, (Prod.mk.inj h2).2.symm⟩
    refine ⟨fun g0 i H' => ∃ ts, Chos a b (upd H D (.frz od (.dK kvs))) H' L ((ys.zip as).take i) rw_ ts ∧ Stm H' a b (B + i) ∧ ∀ a', g0 = some a' → ∃ xs, H' a' = some (.tup xs), ?_, ?_, ?_, ?_⟩
    · exact ⟨[], ⟨KeepBut.new hL, upd_same, fun t ht => absurd ht (by simp), by simp, fun p hp => by simp at hp⟩, S1.ext (ExtN.of (sameUp hL)), fun a' h => by cases h⟩
    · rintro g0 i H' ⟨ts, C, S2, hg⟩
      exact ⟨C.k D _ R.nD.1 R.nD.2 hDl, hg⟩
    · rintro g0 i H1 k0 v T hki ⟨ts, C, S2, hg⟩ hT
      obtain ⟨n, c, hz, hyn, hac, rfl, rfl⟩ := kv_at hki
      have hi := lt_of_get hyn
      have hnm := List.mem_of_getElem? hyn
      obtain ⟨ca, cb⟩ := R.na c (List.mem_of_getElem? hac)
      have hc2 := C.k c _ ca cb (hlock (R.r i n c hyn hac))
      have sT := sameUp (o := .tup [kV (Sum.inr n), .ref c]) hT
      have S3 := S2.ext (ExtN.of sT)
      have et : (ys.zip as).take (i + 1) = (ys.zip as).take i ++ [(n, c)] := by rw [List.take_add_one, hz]; rfl
      have gtup : ∀ H', KeepBut a b (upd H1 T (.tup [kV (Sum.inr n), .ref c])) H' → ∀ a', (some (g0.getD T)) = some a' → ∃ xs, H' a' = some (.tup xs) := fun H' kb a' ea => by
        have ea' := Option.some.inj ea
        have key : ∃ xs, upd H1 T (.tup [kV (Sum.inr n), .ref c]) a' = some (.tup xs) := by
          cases g0 with
          | none =>
            have e : T = a' := ea'
            rw [← e]
            exact ⟨_, upd_same⟩
          | some g1 =>
            have e : g1 = a' := ea'
            obtain ⟨xs, q⟩ := hg g1 rfl
            rw [← e]
            exact ⟨xs, sT _ _ q⟩
        obtain ⟨xs, q⟩ := key
        obtain ⟨_, h1⟩ := S3.ha
        obtain ⟨_, h2⟩ := S3.hb
        exact ⟨xs, kb _ _ (fun z => by rw [z, h1] at q; cases q) (fun z => by rw [z, h2] at q; cases q) q⟩
      refine ⟨rfl, _, rfl, T, _, 1, .ref c, rfl, rfl, SqT.of upd_same, rfl, Nat.zero_le _, fun l hl => ?_⟩
      have sl := sameUp (o := .lst []) hl
      have S4 := S3.ext (ExtN.of sl)
      have hc4 := sl _ _ (sT _ _ hc2)
      have okr := hrw n hnm
      have tlen : (ts.map fun t => V.ref t.2.2).length < sizeLine := by
        have h1 := C.sub.length_le
        rw [List.length_take] at h1
        rw [List.length_map] at h1 ⊢
        exact small1000 (by omega)
      have take : ∀ H2 B2, Stm H2 a b B2 → B2 ≤ B + (i + 1) → KeepBut a b (upd H1 T (.tup [kV (Sum.inr n), .ref c])) H2 → ∃ acc, H2 L = some (.lst acc) ∧ acc.length < sizeLine ∧ ∃ ts', Chos a b (upd H D (.frz od (.dK kvs))) (upd H2 L (.lst (acc ++ [.ref T]))) L ((ys.zip as).take (i + 1)) rw_ ts' ∧
          Stm (upd H2 L (.lst (acc ++ [.ref T]))) a b (B + (i + 1)) ∧ ∀ a', (some (g0.getD T)) = some a' → ∃ xs, upd H2 L (.lst (acc ++ [.ref T])) a' = some (.tup xs) := fun H2 B2 S5 hB5 kb => by
        obtain ⟨q1, q2⟩ := C.take S2 hT hL Lab kb
        rw [et]
        refine ⟨_, q1, tlen, _, q2, (S5.set Lab.1 Lab.2).up hB5, fun a' ea => ?_⟩
        obtain ⟨xs, q⟩ := gtup H2 kb a' ea
        exact ⟨xs, by rw [upd_ne (fun z => by rw [z, q1] at q; cases q)]; exact q⟩
      refine ⟨_, _, .lst (SqL.of hc4) (dp_strs _), .lst (SqL.of upd_same) .nil, shaped_strs okr.1, shaped_strs (ns := []) (fun m hm => absurd hm (by simp)), _, rfl, ?_⟩
      have ee : PyData.eqv (.list ((rw_ n).map PyData.str)) (.list []) = decide (rw_ n = []) := eqv_strs (rw_ n) []
      rw [ee]
      by_cases hz0 : rw_ n = []
      · rw [decide_eq_true hz0]
        refine iteF ⟨_, rfl, a, b, B + i, 2, rfl, S4, by omega, by decide, by decide, fun H5 e e0 e1 S5 kb5 => ?_⟩
        have kb6 := (KeepBut.same sl).trans kb5
        refine ⟨rfl, _, rfl, ite2 (fun hz => ?_) (fun hz => ?_)⟩
        · exact ⟨_, rfl, take H5 _ S5 (by omega) kb6⟩
        · exact ⟨ts, by rw [et]; exact C.skip S2 hT Lab kb6 hz0, S5.up (by omega), fun a' ea => gtup H5 kb6 a' ea⟩
      · rw [decide_eq_false hz0]
        exact iteT ⟨_, rfl, take _ _ S4 (by omega) (KeepBut.same sl)⟩
    · rintro g0 H1 ⟨ts, C, S2, hg⟩
      rw [hkl, List.take_of_length_le (by omega)] at C
      rw [hkl] at S2
      have hD1 := C.k D _ R.nD.1 R.nD.2 hDl
      refine ⟨hD1, ?_⟩
      have S3 := S2.set (o := .dK kvs) R.nD.1 R.nD.2
      have kb3 : KeepBut a b H (upd H1 D (.dK kvs)) := kb_unlock hRd C.k
      have nfr : ∀ {q : Addr} {u : HO}, H1 q = some u → (∀ od u', u ≠ .frz od u') → upd H1 D (.dK kvs) q = some u := fun {q u} e n => by
        rw [upd_ne (fun z => by
          rw [z, hD1] at e
          exact n _ _ (Option.some.inj e).symm)]
        exact e
      have hL3 := nfr C.L (fun _ _ z => by cases z)
      have hLH : H L = none := by
        by_cases z : L = D
        · rw [z, upd_same] at hL
          cases hL
        · rw [upd_ne z] at hL
          exact hL
      have R3 := R.keep kb3
      have tl : ts.length ≤ 63 := by
        have h1 := C.sub.length_le
        rw [List.length_map] at h1
        omega
      refine ⟨_, rfl, _, rfl, a, b, L, _, _, rfl, S3, .inl (SqL.of hL3), by rw [List.length_map]; omega, by omega, fun H4 l zs S4 kb4 hl4 hl4' pm => ?_⟩
      obtain ⟨ts', pm', rfl⟩ := perm_map pm rfl
      have kbA := kb3.trans kb4
      have R4 := R.keep kbA
      have nab : ∀ {q : Addr} {xs : List V}, H1 q = some (.tup xs) → q ≠ a ∧ q ≠ b := fun {q xs} e => by
        obtain ⟨_, h1⟩ := S2.ha
        obtain ⟨_, h2⟩ := S2.hb
        exact ⟨fun z => (by rw [z, h1] at e; cases e), fun z => (by rw [z, h2] at e; cases e)⟩
      have tup4 : ∀ t ∈ ts', H4 t.2.2 = some (.tup [.str t.1, .ref t.2.1]) := fun t ht => by
        have e := C.t t (pm'.subset ht)
        obtain ⟨q1, q2⟩ := nab e
        exact kb4 _ _ q1 q2 (nfr e (fun _ _ z => by cases z))
      have at4 : ∀ t ∈ ts', ∃ i, ys[i]? = some t.1 ∧ as[i]? = some t.2.1 := fun t ht => by
        have h1 : (t.1, t.2.1) ∈ ys.zip as := C.sub.subset (List.mem_map_of_mem (f := fun t : Str × Addr × Addr => (t.1, t.2.1)) (pm'.subset ht))
        obtain ⟨i, hi⟩ := List.getElem?_of_mem h1
        have h3 := List.getElem?_zip_eq_some.mp hi
        exact ⟨i, h3.1, h3.2⟩
      have tl' : ts'.length ≤ 63 := by rw [pm'.length_eq]; exact tl
      refine ⟨l, rfl, ⟨_, SqL.of hl4'⟩, fun L2 hL2 => ?_⟩
      have Lab2 := S4.nd hL2
      have lab := S3.nd hl4
      have hndz : (ts'.map fun t => t.1).Nodup := by
        have h1 : (ts.map fun t => t.1).Sublist ys := by
          have h2 := C.sub.map Prod.fst
          rw [List.map_map, List.map_fst_zip (by rw [R.l]; exact Nat.le_refl _)] at h2
          exact h2
        exact ((pm'.map fun t => t.1).nodup_iff).mpr (hnd.sublist h1)
      refine lc_it (walk_list (xs := ts'.map fun t => V.ref t.2.2)) (fun j H' => ∃ es, Lws a b H H4 H' L2 rw_ ((ts'.take j).map fun t => t.1) es ∧ Stm H' a b (B + 5000 + j * 1000)) ?_ (fun j H' _ ⟨es, W, _⟩ => SqL.of (W.k l _ lab.1 lab.2 hl4')) ?_ ?_
      · exact ⟨[], ⟨KeepBut.new hL2, upd_same, rfl, by simp, by simp, by simp, by simp, by simp⟩, (S4.ext (ExtN.of (sameUp hL2))).up (by omega)⟩
      · rintro j v H5 H6 hj ⟨es, W, S5⟩ ⟨rfl, hv⟩
        rw [List.length_map] at hj
        rw [List.getElem?_map] at hv
        obtain ⟨t, ht, rfl⟩ := Option.map_eq_some_iff.mp hv
        have htm := List.mem_of_getElem? ht
        obtain ⟨i, hi1, hi2⟩ := at4 t htm
        obtain ⟨ca, cb⟩ := R.na _ (List.mem_of_getElem? hi2)
        have hty := tup4 t htm
        have tyab : t.2.2 ≠ a ∧ t.2.2 ≠ b := by
          obtain ⟨_, h1⟩ := S4.ha
          obtain ⟨_, h2⟩ := S4.hb
          exact ⟨fun z => (by rw [z, h1] at hty; cases hty), fun z => (by rw [z, h2] at hty; cases hty)⟩
        have hty6 := W.k _ _ tyab.1 tyab.2 hty
        have hrow6 := W.k _ _ ca cb (R4.r i _ _ hi1 hi2)
        have okr := hrw _ (List.mem_of_getElem? hi1)
        refine ⟨_, _, rfl, SqT.of hty6, rfl, _, _, rfl, _, _, rfl, rfl, rfl, _, rfl, _, rfl, _, rfl, a, b, _, _, rowT (rw_ t.1), rfl, S5, by omega, dat_row ca cb (.inl hrow6) (by omega), dep_row _, by decide, fun H7 x' S7 S8 kb7 ot fr => ?_⟩
        obtain ⟨p, rfl, hp, rfl⟩ := out_row ot
        have hpH : H6 p = none := fr p (by simp)
        refine ⟨(show 2 ≤ sizeLine by decide), fun T hT => ?_⟩
        have eab : ∀ e ∈ es, (e.2.1 ≠ a ∧ e.2.1 ≠ b ∧ e.2.1 ≠ L2) ∧ (e.2.2 ≠ a ∧ e.2.2 ≠ b) := fun e he => by
          obtain ⟨q1, q2⟩ := S.nd (W.f e he)
          have hte := W.t e he
          obtain ⟨_, h1⟩ := S5.ha
          obtain ⟨_, h2⟩ := S5.hb
          exact ⟨⟨q1, q2, W.nL e he⟩, fun z => (by rw [z, h1] at hte; cases hte), fun z => (by rw [z, h2] at hte; cases hte)⟩
        obtain ⟨q1, q2⟩ := W.snoc Lab2 hL2 eab kb7 (kb_free (kbA.trans W.k) S5.na.1 S5.na.2 hpH) hpH hp hT
        refine ⟨_, (sameUp hT) _ _ q1, small1000 ?_, es ++ [(t.1, p, T)], ?_, ?_⟩
        · have h1 := congrArg List.length W.nm
          rw [List.length_map, List.length_map, List.length_take] at h1
          rw [List.length_map]
          omega
        · rw [List.take_add_one, ht, List.map_append]
          exact q2
        · refine (((S8.ext (ExtN.of (sameUp hT))).set Lab2.1 Lab2.2).up ?_)
          have e1 : (j + 1) * 1000 = j * 1000 + 1000 := Nat.succ_mul ..
          omega
      · rintro H5 ⟨es, W, S5⟩
        rw [List.length_map] at W S5
        rw [List.take_length] at W
        have hL5 : H5 L2 = some (.lst ((es.map fun e => e.2.2).map V.ref)) := by
          rw [W.hL, List.map_map]
          rfl
        have hfst : (es.map fun e => (e.1, e.2.1)).map Prod.fst = ts'.map fun t => t.1 := by
          rw [List.map_map]
          exact W.nm
        have hmg : mergeK [] (es.map fun e => ((Sum.inr e.1 : Key), V.ref e.2.1)) = (es.map fun e => (e.1, e.2.1)).map fun p => (Sum.inr p.1, V.ref p.2) := by
          rw [mergeK_new]
          · rw [List.nil_append, List.map_map]
            rfl
          · rw [List.nil_append, List.map_map]
            have h1 : ((es.map fun e => e.1).map (Sum.inr : Str → Key)).Nodup := by
              rw [W.nm]
              exact nodup_mapI (fun x y z => Sum.inr.inj z) hndz
            rw [List.map_map] at h1
            exact h1
        have prd : ∀ es' : List (Str × Addr × Addr), (∀ e ∈ es', H5 e.2.2 = some (.tup [.str e.1, .ref e.2.1])) → Paired (fun p kv => SqT K H5 p [kV kv.1, kv.2]) (es'.map fun e => e.2.2) (es'.map fun e => ((Sum.inr e.1 : Key), V.ref e.2.1)) := by
          intro es'
          induction es' with
          | nil => exact fun _ => .nil
          | cons e r ih => exact fun h => .cons (SqT.of (h e (by simp))) (ih fun e' he' => h e' (by simp [he']))
        refine ⟨L2, _, _, rfl, SqL.of hL5, prd es W.t, fun D' hD' => ?_⟩
        rw [hmg]
        have hD4 : H D' = none := kb_free (kbA.trans W.k) S5.na.1 S5.na.2 hD'
        refine k _ D' _ ((S5.ext (ExtN.of (sameUp hD'))).up (by omega)) ((kbA.trans W.k).trans (KeepBut.new hD')) ⟨upd_same, by rw [hfst]; exact hndz, fun p hp => ?_, fun n hn2 hno => ?_, fun p hp => ?_, fun p hp => ?_, ?_, hD4⟩
        · have h1 : p.1 ∈ ts'.map fun t => t.1 := by
            rw [← hfst]
            exact List.mem_map_of_mem hp
          obtain ⟨t, ht, e⟩ := List.mem_map.mp h1
          obtain ⟨i, hi, _⟩ := at4 t ht
          rw [← e]
          exact List.mem_of_getElem? hi
        · obtain ⟨i, hi⟩ := List.getElem?_of_mem hn2
          obtain ⟨c, hc⟩ : ∃ c, as[i]? = some c := ⟨as[i]'(by have := lt_of_get hi; have := R.l; omega), List.getElem?_eq_getElem _⟩
          refine C.out (n, c) (List.mem_of_getElem? (List.getElem?_zip_eq_some.mpr ⟨hi, hc⟩)) fun h1 => hno ?_
          obtain ⟨t, ht, e⟩ := List.mem_map.mp h1
          rw [hfst]
          exact List.mem_map.mpr ⟨t, pm'.symm.subset ht, (Prod.mk.inj e).1⟩
        · obtain ⟨e, he, rfl⟩ := List.mem_map.mp hp
          exact (W.r e he).same (sameUp hD')
        · obtain ⟨e, he, rfl⟩ := List.mem_map.mp hp
          exact W.f e he
        · rw [List.map_map]
          exact W.n
end
end Mn
/-! list(d.values()); spoiling -/
namespace Mo
open PySem PySem.Spec PyProof.Rows L2
def rValsL : V → Hp → VK → Prop := fun x H Q => ∃ (d : Addr) (kvs : List (Key × V)), x = .ref d ∧ H d = some (.dK kvs) ∧ ∀ p, H p = none → Q (.ref p) (upd H p (.lst (kvs.map Prod.snd)))
def tListVals (te : TE) : TE := fun σ H Q => te σ H fun x H1 => rValsL x H1 Q
theorem kv_snd : ∀ {kvs : List (Key × V)} {vs : List (Key × Value)}, KV kvs vs → Vals (kvs.map Prod.snd) (vs.map Prod.snd)
  | _, _, .nil => .nil
  | _, _, .cons h t => .cons h.2 (kv_snd t)
section
variable {X : Cx} {e : Expr} {te : TE} {p apos cpos pos : Pos}
/-- list(e.values()) -/
theorem pe_listVals (hc : X.calm = true) (he : PE X e te) (hg : Gl X "list") (hm : X.mg "list" = none) (hv : bootBuiltins "list" = some (.type "list")) (hbase : attributeBase e "values" X.env (eval e X.env) = eval e X.env := by rfl) (hline : (apos.endLine == cpos.line) = true := by rfl)
    (hs : starEach [.Call (.Attribute e "values" apos) [] [] cpos] X.env = (false, eval (.Call (.Attribute e "values" apos) [] [] cpos) X.env) :: starEach [] X.env := by rfl) :
    PE X (.Call (.Name "list" p) [.Call (.Attribute e "values" apos) [] [] cpos] [] pos) (tListVals te) := by
  refine ⟨fun pins s σ H Q I hq => ?_⟩
  refine wpAny_Call_Name_kw (ld_blt I hg hm hv ?_)
  refine PyProof.Rows.callWith_type1 ?_ hs rfl
  rw [hs]
  show wpAny _ _ (spliced ((false, eval (.Call (.Attribute e "values" apos) [] [] cpos) X.env) :: backTo pos (starEach [] X.env))) _ _ s
  refine Calls.spliced_cons ?_
  refine wpAny_Call_method (T := "dict") (id := "dict.values") hbase rfl hline F.plainAttrs_dict F.slot_dict_values F.type_dict_values (thn (he.run pins s σ H _ I hq) fun u s1 ⟨x, H1, I1, rx, d, kvs, ex, hd, q⟩ => ?_)
  subst ex
  obtain rfl : u = Value.ref d := rx
  obtain ⟨hz, hs0, vs, kv, hdo⟩ := I1.hok d _ hd
  obtain ⟨ep, hat⟩ := hdo.dictAt
  have lk : kvs.length = vs.length := Paired.length kv
  have I2 : Inv X pins σ H1 { s1 with heap := s1.heap.push { cls := .type "dict_values", data := .fields #[.ref d] } } := I1.kept (t' := s1.toks) fun b ob q => Heap.get?_push_of_some _ q
  refine ⟨hdo.typeIs, hdo.mapOf.noDict, ?_⟩
  show wpAny _ _ (callWith cpos (.builtin "dict.values") [.ref d] [] []) _ X.xe s1
  refine method_meetsIn F.slot_dict_values F.entry_dict_values rfl (PySem.evalArgs_none ⟨rfl, hdo.typeIs, F.args_dict_values_1 _, _, meets_dict_values (mixKind X.prog X.w) d hs0, ⟨vs, hdo⟩, ?_⟩)
  refine Calls.spliced_nil ?_
  refine PySem.W.kdl_call (PySem.W.kdl_values (knd := mixKind X.prog X.w) (kvs := vs) (d := d) (r := s1.heap.objs.size) (ep := ep)) (I1.ok.hd hc) ⟨⟨_, Heap.get?_push_size _ rfl, rfl, rfl⟩, hat.push _⟩ (by omega) fun h' tk acc c hk hS hacc => ?_
  have eacc : acc.toList = vs.map Prod.snd := by
    refine List.ext_getElem? fun j => ?_
    rw [List.getElem?_map]
    by_cases hj : j < vs.length
    · have h1 : j < acc.size := by rw [hacc.1]; exact hj
      obtain ⟨k, hk⟩ := hacc.2 j acc[j] (by simp [h1])
      rw [hk]
      simp [h1]
    · rw [List.getElem?_eq_none (by rw [Array.length_toList, hacc.1]; omega), List.getElem?_eq_none (by omega)]
      rfl
  have nS := I2.hok.fresh (Nat.le_refl (s1.heap.push { cls := .type "dict_values", data := .fields #[.ref d] }).objs.size)
  refine ⟨.ref _, _, I2.laid (a := (s1.heap.push { cls := .type "dict_values", data := .fields #[.ref d] }).objs.size) (o := .lst (kvs.map Prod.snd)) (t' := tk) hk (Nat.le_refl _) ⟨by rw [List.length_map]; exact hz, acc.toList, c, by rw [eacc]; exact kv_snd kv, ?_⟩, rfl, q _ nS⟩
  rw [Array.toArray_toList]
  exact hS
end
end Mo
/-! _law_a_spoiled -/
namespace Mn
open PySem PySem.Spec PyProof.Rows L2 Md Me Ml LamX Mi Mo
mutual
/-- lists, tuples, dicts of texts, each object once: the objects -/
inductive Ow (H : Hp) : Nat → V → List Addr → Prop
  | leaf (n : Nat) (x : Str) : Ow H n (.str x) []
  | seq {n : Nat} {p : Addr} {xs : List V} {S : List Addr} (h : Seq H p xs) (hl : xs.length ≤ 1000) (r : Ows H n xs S) (hp : p ∉ S) : Ow H (n + 1) (.ref p) (p :: S)
  | dic {n : Nat} {p : Addr} {kvs : List (Key × V)} {S : List Addr} (h : H p = some (.dK kvs)) (hl : kvs.length ≤ 1000) (r : Ows H n (kvs.map Prod.snd) S) (hp : p ∉ S) : Ow H (n + 1) (.ref p) (p :: S)
inductive Ows (H : Hp) : Nat → List V → List Addr → Prop
  | nil (n : Nat) : Ows H n [] []
  | cons {n : Nat} {v : V} {vs : List V} {S S' : List Addr} (h : Ow H n v S) (r : Ows H n vs S') (d : ∀ s ∈ S, s ∉ S') : Ows H n (v :: vs) (S ++ S')
end
section
variable {H H' : Hp}
mutual
theorem Ow.keep : ∀ {n : Nat} {v : V} {S : List Addr}, (∀ s ∈ S, ∀ o, H s = some o → H' s = some o) → Ow H n v S → Ow H' n v S
  | _, _, _, _, .leaf n x => .leaf n x
  | _, _, _, k, .seq h hl r hp => .seq (h.imp (k _ (by simp) _) (k _ (by simp) _)) hl (Ows.keep (fun s hs => k s (by simp [hs])) r) hp
  | _, _, _, k, .dic h hl r hp => .dic (k _ (by simp) _ h) hl (Ows.keep (fun s hs => k s (by simp [hs])) r) hp
theorem Ows.keep : ∀ {n : Nat} {vs : List V} {S : List Addr}, (∀ s ∈ S, ∀ o, H s = some o → H' s = some o) → Ows H n vs S → Ows H' n vs S
  | _, _, _, _, .nil n => .nil n
  | _, _, _, k, .cons h r d => .cons (Ow.keep (fun s hs => k s (by simp [hs])) h) (Ows.keep (fun s hs => k s (by simp [hs])) r) d
end
mutual
theorem Ow.live : ∀ {n : Nat} {v : V} {S : List Addr}, Ow H n v S → ∀ s ∈ S, H s ≠ none
  | _, _, _, .leaf n x, s, hs => by simp at hs
  | _, _, _, .seq h hl r hp, s, hs => by
    rcases List.mem_cons.mp hs with z | z
    · rw [z]
      rcases h with h | h <;> (rw [h]; exact fun q => by cases q)
    · exact Ows.live r s z
  | _, _, _, .dic h hl r hp, s, hs => by
    rcases List.mem_cons.mp hs with z | z
    · rw [z, h]
      exact fun q => by cases q
    · exact Ows.live r s z
theorem Ows.live : ∀ {n : Nat} {vs : List V} {S : List Addr}, Ows H n vs S → ∀ s ∈ S, H s ≠ none
  | _, _, _, .nil n, s, hs => by simp at hs
  | _, _, _, .cons h r d, s, hs => by
    rcases List.mem_append.mp hs with z | z
    · exact Ow.live h s z
    · exact Ows.live r s z
end
end
end Mn
/-! calls by keywords; a market is made -/
namespace Mn
open PySem PySem.Spec PyProof.Rows L2 Md Me Ml LamX Mi Mo
/-- o.m(k = v, ..) -/
def tMethK (C : Addr) (m : Str) (n : Nat) (sp : Sp) (gV : List V → List V → List V) (E : XK) (ta : TE) (tk : TA) : TE := fun σ H Q => ta σ H fun x H1 => ∃ a dx fs, x = .ref a ∧ H1 a = some (.ins C dx fs) ∧ fs.lookup m = none ∧ tk σ H1 fun zs H2 => zs.length = n ∧ sp (gV [x] zs) H2 Q E
section
variable {X : Cx} {CX : CXT} {k : Nat} {f C : Addr} {fd : FuncData} {ps ks : List Str} {sp : Sp} {E : XK} {m : Str} {apos pos : Pos} {o : Expr} {kws : List Keyword} {ta : TE} {tk : TA} {g : List Value → List Value → List Value} {gV : List V → List V → List V}
theorem pe_methK {pl : Sem Bool} (he : PE X o ta) (c : Cls X.K C) (hm : Meth X.K C m f) (F : FnOk X.prog X.w X.K X.mg X.base CX k f fd ps sp) (hr : Room k X.A) (hb : KBn X.K fd ps 1 ks g gV) (hx : Passes CX X E) (hkw : PK X kws tk)
    (hall : (backToKw pos (keywordEach kws X.env)).all (·.1.isSome) = true := by rfl) (hks : (backToKw pos (keywordEach kws X.env)).filterMap (·.1) = ks := by rfl)
    (hpl : ((backTo pos (starEach [] X.env)).any (·.1) || (backToKw pos (keywordEach kws X.env)).any (·.1.isNone)) = false := by rfl)
    (ht : eval (.Call (.Attribute o m apos) [] kws pos) X.env = (do
      let ov ← eval o X.env
      standAt apos.atName
      let (f, first) ← holding [ov] (getMethod ov m pl)
      callWith pos f first (backTo pos (starEach [] X.env)) (backToKw pos (keywordEach kws X.env))) := by rfl) :
    PE X (.Call (.Attribute o m apos) [] kws pos) (tMethK C m ks.length sp gV E ta tk) := by
  refine ⟨fun pins s σ H Q I h => ?_⟩
  refine PySem.W.methodCall_KW (pl := pl) (thn (he.run pins s σ H _ I h) fun u s1 ⟨x, H1, I1, rx, a, dx, fs, ex, ea, l, q⟩ => ?_) ht
  subst ex
  obtain rfl : u = Value.ref a := rx
  refine getmeth_ok I1 ea c hm l ?_
  refine PySem.W.callWith_KW0 (first := [.ref a]) (h₀ := X.base) I.ok.mod.kin hm.kp hall (thn (hkw.run pos pins s1 σ H1 _ I1 q) fun ws s2 ⟨zs, H2, I2, rz, l2, q2⟩ => ⟨I2.kIn, ?_⟩) hpl
  rw [hks]
  exact run_fnN (us := [.ref a]) (vs := [.ref a]) F hr hb hx I2 (.cons rfl .nil) rz rfl l2 q2
end
section
variable {K : PySem.W.Frag}
theorem vals_rev : ∀ {xs : List V} {us : List Value}, Vals xs us → Vals xs.reverse us.reverse
  | _, _, .nil => .nil
  | _, _, .cons r t => by
    rw [List.reverse_cons, List.reverse_cons]
    exact (vals_rev t).append (.cons r .nil)
theorem kb_wants {f : Addr} {fd : FuncData} (F : Fun K "wants" "Market.wants" (sMk 3) f fd) : KBn K fd ["self", "person"] 1 ["person"] (fun us ws => us ++ ws) (fun vs zs => vs ++ zs) := by
  obtain ⟨oc, od, kV, doc, pm, an, cdv, ct, osl, rfl, lk, hcd⟩ := F.ex
  refine ⟨fun s us ws X l1 l2 => ?_, fun r1 r2 => r1.append r2⟩
  match us, ws, l1, l2 with
  | [u], [w], _, _ => exact BindsTo.of_looks fun M => PySem.W.Looks.of_pure rfl
theorem kb_init {f : Addr} {fd : FuncData} (F : Fun K "__init__" "Market.__init__" (sMk 0) f fd) : KBn K fd ["self", "people", "wishes"] 1 ["wishes", "people"] (fun us ws => us ++ ws.reverse) (fun vs zs => vs ++ zs.reverse) := by
  obtain ⟨oc, od, kV, doc, pm, an, cdv, ct, osl, rfl, lk, hcd⟩ := F.ex
  refine ⟨fun s us ws X l1 l2 => ?_, fun {vs us zs ws} r1 r2 => r1.append (vals_rev r2)⟩
  match us, ws, l1, l2 with
  | [u], [w, p], _, _ => exact BindsTo.of_looks fun M => PySem.W.Looks.of_pure rfl
end
end Mn
/-! _law_told -/
namespace Mn
open PySem PySem.Spec PyProof.Rows L2 Md Me Ml LamX Mi Mo
theorem ows_strs {H : Hp} {n : Nat} : ∀ r : List Str, Ows H n (r.map V.str) []
  | [] => .nil n
  | x :: r => .cons (.leaf n x) (ows_strs r) (fun s hs => by simp at hs)
theorem ow_strs {H : Hp} {n : Nat} {p : Addr} {r : List Str} (h : Seq H p (r.map V.str)) (hl : r.length ≤ 1000) : Ow H (n + 1) (.ref p) [p] := .seq h (by rw [List.length_map]; exact hl) (ows_strs r) (by simp)
theorem ows_refs {H : Hp} {n : Nat} : ∀ {cs : List Addr}, cs.Nodup → (∀ c ∈ cs, ∃ r : List Str, Seq H c (r.map V.str) ∧ r.length ≤ 1000) → Ows H (n + 1) (cs.map V.ref) cs
  | [], _, _ => .nil _
  | c :: cs, nd, h => by
    obtain ⟨n1, n2⟩ := List.nodup_cons.mp nd
    obtain ⟨r, h1, h2⟩ := h c (by simp)
    exact .cons (S := [c]) (ow_strs h1 h2) (ows_refs n2 fun d hd => h d (by simp [hd])) (fun s hs z => n1 (by
      have e : s = c := by simpa using hs
      rw [← e]
      exact z))
/-- what a market told: people, wishes, wants; all new -/
structure ToldAt (H H' : Hp) (L : Addr) (ns ys : List Str) (rw_ : Str → List Str) : Prop where
  ex : ∃ (pl D wl : Addr) (bs cs : List Addr), H' L = some (.lst [.ref pl, .ref D, .ref wl]) ∧ H' pl = some (.lst (ns.map V.str)) ∧ RowsF H H' D ys rw_ bs ∧ H' wl = some (.lst (cs.map V.ref)) ∧ cs.length = ns.length ∧
    (∀ (i : Nat) (n : Str) (c : Addr), ns[i]? = some n → cs[i]? = some c → H' c = some (.lst ((rw_ n).map V.str)))
  ow : ∃ S, Ow H' 3 (.ref L) S ∧ ∀ s ∈ S, H s = none
  fL : H L = none
def spTold (C0 : Addr) : Sp := fun vs H Q _ => ∃ (m : Addr) (ns ys : List Str) (rw_ : Str → List Str), vs = [.ref m] ∧ MkAt H C0 m ns ys rw_ ∧ ns.Nodup ∧ ns.length ≤ 63 ∧ (∀ n ∈ ns, (rw_ n).length ≤ 1000) ∧ ∀ (H' : Hp) (L : Addr), Same H H' → ToldAt H H' L ns ys rw_ → Q (.ref L) H'
abbrev spPeopleM (C0 : Addr) : Sp := fun vs H Q E => ∃ (m : Addr) (ns ys : List Str) (rw_ : Str → List Str), vs = [.ref m] ∧ MkAt H C0 m ns ys rw_ ∧ ∀ l, H l = none → Q (.ref l) (upd H l (.lst (ns.map V.str)))
abbrev spWishesM (C0 : Addr) : Sp := fun vs H Q E => ∃ (m : Addr) (ns ys : List Str) (rw_ : Str → List Str), vs = [.ref m] ∧ MkAt H C0 m ns ys rw_ ∧ ns.Nodup ∧ ns.length ≤ 63 ∧ ∀ (H' : Hp) (D : Addr) (bs : List Addr), Same H H' → RowsF H H' D ys rw_ bs → Q (.ref D) H'
theorem MkAt.ins {H : Hp} {C m : Addr} {ns ys : List Str} {rw_ : Str → List Str} (M : MkAt H C m ns ys rw_) : ∃ dx fs, H m = some (.ins C dx fs) ∧ fs.lookup ("people" : Str) = none ∧ fs.lookup ("wishes" : Str) = none ∧ fs.lookup ("wants" : Str) = none := by
  obtain ⟨dx, pl, rd, h1, _⟩ := M.ex
  exact ⟨dx, _, h1, rfl, rfl, rfl⟩
theorem passE0 {X : Cx} : Passes (L2.CX X.prog X.w) X E0 := passes_call LamX.takes0 (fun _ _ _ _ z => (show False from z).elim)
section
variable {P : Program} {w : World} {K : PySem.W.Frag} {mg : Str → Option Value} {base : Heap}
end
end Mn
/-! markets made of good people and rows; _law_a_made -/
namespace Mn
open PySem PySem.Spec PyProof.Rows L2 Md Me Ml LamX Mi Mo
abbrev sMade : Stmt := top 42
/-- all but the stream and the tables stays -/
structure UpS (T : List (Addr × Str)) (a b : Addr) (H H' : Hp) : Prop where
  e : ∀ c o, c ≠ a → c ≠ b → H c = some o → (∀ ps, o ≠ .tbl ps) → H' c = some o
  t : Tabs T H'
theorem UpS.refl {T : List (Addr × Str)} {a b : Addr} {H : Hp} (t : Tabs T H) : UpS T a b H H := ⟨fun _ _ _ _ e _ => e, t⟩
theorem UpS.trans {T : List (Addr × Str)} {a b : Addr} {H H1 H2 : Hp} (x : UpS T a b H H1) (y : UpS T a b H1 H2) : UpS T a b H H2 := ⟨fun c o h1 h2 e n => y.e c o h1 h2 (x.e c o h1 h2 e n) n, y.t⟩
theorem UpS.up {T : List (Addr × Str)} {a b : Addr} {H H' : Hp} (u : Up T H H') : UpS T a b H H' := ⟨fun c o _ _ e n => u.e c o e n, u.t⟩
theorem UpS.same {T : List (Addr × Str)} {a b : Addr} {H H' : Hp} (t : Tabs T H) (s : Same H H') : UpS T a b H H' := .up (.same t s)
theorem Tabs.but {T : List (Addr × Str)} {a b : Addr} {H H' : Hp} {B : Nat} (t : Tabs T H) (S : Stm H a b B) (k : KeepBut a b H H') : Tabs T H' := by
  obtain ⟨xs, ha⟩ := S.ha
  obtain ⟨zs, hb⟩ := S.hb
  have go : ∀ {c : Addr} {o : HO}, H c = some o → (∀ xs, o ≠ .lst xs) → H' c = some o := fun {c o} e n => k c o (fun z => by
    rw [z, ha] at e
    exact n _ (Option.some.inj e).symm) (fun z => by
    rw [z, hb] at e
    exact n _ (Option.some.inj e).symm) e
  intro p hp
  obtain ⟨ps, h1, h2, h3⟩ := t p hp
  refine ⟨ps, go h1 (fun xs z => by cases z), h2, fun pos cv hc => ?_⟩
  obtain ⟨c0, e1, e2⟩ := h3 pos cv hc
  exact ⟨c0, e1, go e2 (fun xs z => by cases z)⟩
theorem UpS.kb {T : List (Addr × Str)} {a b : Addr} {H H' : Hp} {B : Nat} (t : Tabs T H) (S : Stm H a b B) (k : KeepBut a b H H') : UpS T a b H H' := ⟨fun c o h1 h2 e _ => k c o h1 h2 e, Tabs.but t S k⟩
/-! ### people and rows that are right -/
theorem fwI_ok {fit : Str → Bool} : ∀ (ns seen : List Str) (i : Nat), ns.Nodup → (∀ n ∈ ns, fit n = true ∧ n ∉ seen) → fwI fit (ns.map V.str) seen i = none
  | [], _, _, _, _ => rfl
  | n :: ns, seen, i, nd, h => by
    obtain ⟨n1, n2⟩ := List.nodup_cons.mp nd
    obtain ⟨h1, h2⟩ := h n (by simp)
    show (if (decide (n ∈ seen) || !fit n) = true then some i else fwI fit (ns.map V.str) (n :: seen) (i + 1)) = none
    rw [decide_eq_false h2, h1, if_neg (by decide)]
    refine fwI_ok ns (n :: seen) (i + 1) n2 fun m hm => ⟨(h m (by simp [hm])).1, fun z => ?_⟩
    rcases List.mem_cons.mp z with z | z
    · rw [z] at hm
      exact n1 hm
    · exact (h m (by simp [hm])).2 z
/-- names and how many -/
structure GoodNs (ns : List Str) : Prop where
  nd : ns.Nodup
  g : ∀ n ∈ ns, goodNm n = true
  l : ns.length ≤ 63
theorem pplOk {H : Hp} {p : Addr} {ns : List Str} (h : Seq H p (ns.map V.str)) (g : GoodNs ns) : PplOk H (.ref p) ns :=
  ⟨p, rfl, h, fwI_ok ns [] 0 g.nd fun n hn => ⟨goodNm.nm (g.g n hn), by simp⟩, g.nd, g.l, fun n hn => Nat.le_trans (goodNm.len (g.g n hn)) (by decide)⟩
structure DRows (H : Hp) (D : Addr) (ps : List (Str × Addr)) (rw_ : Str → List Str) (ns : List Str) : Prop where
  d : H D = some (.dK (ps.map fun p => (Sum.inr p.1, V.ref p.2)))
  nd : (ps.map Prod.fst).Nodup
  mem : ∀ p ∈ ps, p.1 ∈ ns
  r : ∀ p ∈ ps, Seq H p.2 ((rw_ p.1).map V.str)
  out : ∀ n ∈ ns, n ∉ ps.map Prod.fst → rw_ n = []
theorem Loosed.dr {H0 H : Hp} {D : Addr} {ys : List Str} {rw_ : Str → List Str} {ps : List (Str × Addr)} (L : Loosed H0 H D ys rw_ ps) : DRows H D ps rw_ ys := ⟨L.d, L.nd, L.mem, L.r, L.out⟩
theorem inD_names {ns : List Str} {x : Str} (h : x ∈ ns) : inD (namesD ns) x = true := by
  show (valV (namesD ns) (Sum.inr x)).isSome = true
  rw [← valV_any, List.any_eq_true]
  exact ⟨(Sum.inr x, .bl true), List.mem_map.mpr ⟨x, h, rfl⟩, decide_eq_true rfl⟩
theorem row_true {K : PySem.W.Frag} {H : Hp} {ns : List Str} {n : Str} {r : List Str} {c : Addr} (h : Seq H c (r.map V.str)) (g : GoodRow ns n r) (gn : GoodNs ns) : RowB K H (namesD ns) n (.ref c) true := by
  have hl : r.length ≤ ns.length := pigeon g.nd g.sub
  have e1 : unlB (namesD ns) (r.map V.str) = true := by
    unfold unlB
    rw [fwI_ok r [] 0 g.nd fun x hx => ⟨inD_names (g.sub x hx), by simp⟩]
    rfl
  have e2 : inV (.str n) (r.map V.str) = false := by
    rw [inV_strs]
    exact decide_eq_false g.ne
  have q : RowB K H (namesD ns) n (.ref c) (unlB (namesD ns) (r.map V.str) && !inV (.str n) (r.map V.str)) := .seq h (items_strs fun x hx => Nat.le_trans (goodNm.len (gn.g x (g.sub x hx))) (by decide)) (by
    have := gn.l
    rw [List.length_map]
    omega)
  rw [e1, e2] at q
  exact q
theorem ents_true {K : PySem.W.Frag} {H : Hp} {ns : List Str} {rw_ : Str → List Str} (gn : GoodNs ns) (g : GoodRows ns rw_) : ∀ ps : List (Str × Addr), (∀ p ∈ ps, p.1 ∈ ns) → (∀ p ∈ ps, Seq H p.2 ((rw_ p.1).map V.str)) →
    Paired (EntB K H (namesD ns)) (ps.map fun p => (Sum.inr p.1, V.ref p.2)) (ps.map fun _ => true)
  | [], _, _ => .nil
  | p :: ps, h1, h2 => .cons (.row (inD_names (h1 p (by simp))) (row_true (h2 p (by simp)) (g p.1 (h1 p (by simp))) gn)) (ents_true gn g ps (fun q hq => h1 q (by simp [hq])) fun q hq => h2 q (by simp [hq]))
theorem valV_find {ps : List (Str × Addr)} {n : Str} : valV (ps.map fun p => ((Sum.inr p.1 : Key), V.ref p.2)) (Sum.inr n) = (ps.find? fun p => decide (p.1 = n)).map fun p => V.ref p.2 := by
  induction ps with
  | nil => rfl
  | cons p ps ih =>
    rw [List.map_cons, List.find?_cons]
    by_cases h : p.1 = n
    · rw [decide_eq_true h, valV_pos (p := ((Sum.inr p.1 : Key), V.ref p.2)) (congrArg Sum.inr h)]
      rfl
    · rw [decide_eq_false h, valV_neg (p := ((Sum.inr p.1 : Key), V.ref p.2)) (fun z => h (Sum.inr.inj z))]
      exact ih
theorem wshOk {K : PySem.W.Frag} {H : Hp} {D : Addr} {ps : List (Str × Addr)} {rw_ : Str → List Str} {ns : List Str} (d : DRows H D ps rw_ ns) (g : GoodRows ns rw_) (gn : GoodNs ns) : WshOk K H (.ref D) ns rw_ := by
  have hl : ps.length ≤ 63 := by
    have h1 := pigeon d.nd (l2 := ns) fun x hx => by
      obtain ⟨p, hp, rfl⟩ := List.mem_map.mp hx
      exact d.mem p hp
    rw [List.length_map] at h1
    have := gn.l
    omega
  refine ⟨D, _, ps.map fun _ => true, rfl, d.d, ents_true gn g ps d.mem d.r, by rw [List.length_map]; omega, by rw [List.all_map]; exact List.all_eq_true.mpr fun _ _ => rfl, fun n hn => ⟨?_, ?_⟩⟩
  · unfold RowIs
    rw [valV_find]
    cases e : ps.find? fun p => decide (p.1 = n) with
    | none =>
      refine .inr ⟨rfl, d.out n hn fun z => ?_⟩
      obtain ⟨p, hp, e2⟩ := List.mem_map.mp z
      have := List.find?_eq_none.mp e p hp
      exact this (decide_eq_true e2)
    | some p =>
      have hp := List.mem_of_find?_eq_some e
      have e2 : p.1 = n := by
        have := List.find?_some e
        exact of_decide_eq_true this
      refine .inl ⟨p.2, rfl, ?_⟩
      rw [← e2]
      exact d.r p hp
  · have := pigeon (g n hn).nd (g n hn).sub
    have := gn.l
    omega
theorem PplOk.ext {H H' : Hp} {v : V} {ns : List Str} (s : ExtN H H') (h : PplOk H v ns) : PplOk H' v ns := by
  obtain ⟨a, e, h1, h2⟩ := h
  exact ⟨a, e, h1.ext s, h2⟩
theorem WshOk.ext {K : PySem.W.Frag} {H H' : Hp} {v : V} {ns : List Str} {rw_ : Str → List Str} (s : ExtN H H') (h : WshOk K H v ns rw_) : WshOk K H' v ns rw_ := by
  obtain ⟨d, kvs, bs, e, h1, h2, h3, h4, h5⟩ := h
  exact ⟨d, kvs, bs, e, s _ _ h1 ntb_dK, paired_imp (fun _ _ x => x.ext s) h2, h3, h4, fun n hn => ⟨(h5 n hn).1.imp (fun ⟨a, e1, e2⟩ => ⟨a, e1, e2.ext s⟩) id, (h5 n hn).2⟩⟩
/-- what Market(people, wishes) asks, where both are right -/
theorem mk_reads {K : PySem.W.Frag} {T : List (Addr × Str)} {C : Addr} {H1 : Hp} {pv_ wv : V} {ns : List Str} {rw_ : Str → List Str} {R : Addr → Hp → Prop} {E : XK} (MC : MkC K C) (hT : Tabs T H1) (hp : PplOk H1 pv_ ns) (hw : WshOk K H1 wv ns rw_)
    (k : ∀ H' x ys, Up T H1 H' → H1 x = none → MkAt H' C x ns ys rw_ → MkKeep H1 H' x C ns ys rw_ → R x H') :
    ∀ x dx, H1 x = none → H1 dx = none → dx ≠ x → spInit K T [.ref x, pv_, wv] (upd (upd H1 dx (.own x)) x (.ins C dx [])) (fun v H2 => v = .non ∧ R x H2) E := by
  intro x dx nx ndx ne
  have s1 := sameUp (o := .own x) ndx
  have nx2 : upd H1 dx (.own x) x = none := by
    rw [upd_ne ne.symm]
    exact nx
  have s2 := s1.trans (sameUp (o := .ins C dx []) nx2)
  refine ⟨x, C, dx, pv_, wv, rfl, upd_same, MC.c, MC.n1, MC.n2, hT.ext s2, .inr (.inr ⟨ns, rw_, hp.ext (ExtN.of s2), hw.ext (ExtN.of s2), fun ys H' u M MK => ⟨rfl, k H' x ys ⟨fun b o e n => ?_, u.t⟩ nx M fun H'' kk => MK H'' fun c o hc nt => kk c o (hc.imp (fun q o e => q o (s2 _ _ e)) id) nt⟩⟩)⟩
  exact u.e b o (ne_of_none e nx) (s2 _ _ e) n
/-! ### _law_a_made -/
/-- a market that stays while the stream is drawn from -/
def MkSt (C a b : Addr) (H : Hp) (m : Addr) (ns ys : List Str) (rw_ : Str → List Str) : Prop := ∀ H'', (∀ q o, q ≠ a → q ≠ b → H q = some o → (∀ ps, o ≠ .tbl ps) → H'' q = some o) → MkAt H'' C m ns ys rw_
theorem mkSt_of {C a b x : Addr} {H1 H' : Hp} {ns ys : List Str} {rw_ : Str → List Str} {B : Nat} (S : Stm H1 a b B) (nx : H1 x = none) (keep : MkKeep H1 H' x C ns ys rw_) : MkSt C a b H' x ns ys rw_ := fun H'' kk => keep H'' fun c o hc nt e => by
  obtain ⟨xs, ha⟩ := S.ha
  obtain ⟨zs, hb⟩ := S.hb
  have no : ∀ {q : Addr} {l : List V}, H1 q = some (.lst l) → c ≠ q := fun {q l} h z => by
    rcases hc with w | w
    · obtain ⟨ps, e⟩ := w _ (z ▸ h)
      cases e
    · rw [← z, w, nx] at h
      cases h
  exact kk c o (no ha) (no hb) e nt
def spMade (K : PySem.W.Frag) (T : List (Addr × Str)) (C0 : Addr) : Sp := fun vs H Q _ => ∃ (a b c D : Addr) (B : Nat) (ns : List Str) (rw_ : Str → List Str) (as : List Addr), vs = [.ref a, .ref c, .ref D] ∧ Stm H a b B ∧ Tabs T H ∧ c ≠ a ∧ c ≠ b ∧ H c = some (.lst (ns.map V.str)) ∧ RowsS a b H D ns rw_ as ∧ GoodNs ns ∧ GoodRows ns rw_ ∧
  B + 1000000 ≤ 800000000000 ∧ ∀ (H' : Hp) (x : Addr) (ys : List Str), UpS T a b H H' → Stm H' a b (B + 1000000) → H x = none → MkAt H' C0 x ns ys rw_ → MkSt C0 a b H' x ns ys rw_ → Q (.ref x) H'
theorem strsOk_of {ns : List Str} (g : GoodNs ns) : StrsOk ns := fun n hn => goodNm.ok (g.g n hn)
theorem rowOk_of {ns : List Str} {rw_ : Str → List Str} (gn : GoodNs ns) (g : GoodRows ns rw_) {n : Str} (h : n ∈ ns) : StrsOk (rw_ n) ∧ (rw_ n).length ≤ 63 :=
  ⟨fun x hx => goodNm.ok (gn.g x ((g n h).sub x hx)), Nat.le_trans (pigeon (g n h).nd (g n h).sub) gn.l⟩
section
variable {P : Program} {w : World} {K : PySem.W.Frag} {mg : Str → Option Value} {base : Heap}
theorem scMade : FnScope ["_law_stream", "_law_people", "_law_wishes"] ["_law_stream", "_law_people", "_law_wishes"] (defScope sMade) := ⟨rfl, rfl, rfl, by decide +kernel, rfl, by decide +kernel, by decide +kernel⟩
theorem ok_made {T : List (Addr × Str)} {f fL fW fI C0 : Addr} {fd fdL fdW fdI : FuncData} (F : Fun K "_law_a_made" "_law_a_made" sMade f fd) (MC : MkC K C0) (MM : Mk K C0 fI) (gM : mg "Market" = some (.ref C0))
    (GI : FnOk P w K mg base (L2.CX P w) 6 fI fdI ["self", "people", "wishes"] (spInit K T)) (bI : Binds K fdI ["self", "people", "wishes"] [])
    (GL : FnOk P w K mg base CX0 3 fL fdL ["_law_stream", "_law_thing"] (spLoose K 1)) (kL : PySem.W.keepIn K (.ref fL) = true) (bL : Binds K fdL ["_law_stream", "_law_thing"] []) (gL : mg "_law_loose" = some (.ref fL))
    (GW : FnOk P w K mg base CX0 4 fW fdW ["_law_stream", "_law_wishes"] (spLw K)) (kW : PySem.W.keepIn K (.ref fW) = true) (bW : Binds K fdW ["_law_stream", "_law_wishes"] []) (gW : mg "_law_a_loose_wishes" = some (.ref fW)) :
    FnOk P w K mg base CX0 8 f fd ["_law_stream", "_law_people", "_law_wishes"] (spMade K T C0) := by
  refine F.ok scMade (fun vs H Q E h => ?_) (fun cdv A outer s H vs Q E hr h => ?_)
  · obtain ⟨a, b, c, D, B, ns, rw_, as, rfl, _⟩ := h
    rfl
  · obtain ⟨a, b, c, D, B, ns, rw_, as, rfl, S, hT, ca, cb, hc, R, gn, gr, hB, k⟩ := h
    refine ⟨_, pss_one (ps_ret (pe_make MM GI hr rfl gM bI .nil passE0 (pa_cons (pe_call GL (hr.mono (by decide)) rfl gL kL bL .nil pass0 (pa_cons (pv 0) (pa_cons (pv 1) pa_nil))) (pa_cons (pe_call GW (hr.mono (by decide)) rfl gW kW bW .nil pass0 (pa_cons (pv 0) (pa_cons (pv 2) pa_nil))) pa_nil)))), ?_⟩
    have hl := gn.l
    refine ⟨_, rfl, _, rfl, a, b, B, _, rowT ns, rfl, S, by omega, dat_row ca cb (.inl hc) (by omega), dep_row _, by decide, fun H1 x' S0 S1 kb1 ot fr => ?_⟩
    obtain ⟨p, rfl, hp, rfl⟩ := out_row ot
    have hp0 : H p = none := fr p (by simp)
    obtain ⟨pa, pb⟩ := S.nd hp0
    refine ⟨_, rfl, _, rfl, a, b, D, _, ns, rw_, as, rfl, S1, R.keep kb1, gn.nd, hl, fun n hn => rowOk_of gn gr hn, by omega, fun H2 D2 ps S2 kb2 L => ?_⟩
    have kbA := kb1.trans kb2
    have uA : UpS T a b H H2 := .kb hT S kbA
    refine mk_reads MC uA.t (pplOk (Seq.but kb2 pa pb hp) gn) (wshOk L.dr gr gn) fun H3 x ys u nx M keep => ?_
    exact k H3 x ys (uA.trans (.up u)) ((S2.ext u.e).up (by omega)) (kb_free kbA S2.na.1 S2.na.2 nx) M (mkSt_of S2 nx keep)
end
end Mn
/-! Defs that ask what repr says: the layer's promise of a def, told only where no repr runs around it. -/
namespace Mg
open PySem PySem.Spec PyProof.Rows L2
structure FnG (P : Program) (w : World) (K : PySem.W.Frag) (mg : Str → Option Value) (base : Heap) (k : Nat) (f : Addr) (fd : FuncData) (ps : List Str) (sp : Sp) : Prop where
  long : ∀ vs H Q E, sp vs H Q E → vs.length = ps.length
  goes : ∀ (A : Around) (outer : List Env) (s : Shared) (H : Hp) (args : Args) (us : List Value) (vs : List V) (Q : VK) (E : XK), A.guards = some [] → Room k A →
    Env0 P w K mg base A outer s H → BindsTo s fd args (ps.zip us) → Vals vs us → sp vs H Q E → codeAny (model P w) A (.call (.ref f) args) (CR CX0 outer P w H s Q E) s
section
variable {P : Program} {w : World} {K : PySem.W.Frag} {mg : Str → Option Value} {base : Heap}
theorem FnG.made {x qual : Str} {st : Stmt} {f : Addr} {fd : FuncData} {N ps : List Str} {k : Nat} {sp : Sp} (F : Fun K x qual st f fd) (S : FnScope N ps (defScope st))
    (long : ∀ vs H Q E, sp vs H Q E → vs.length = ps.length)
    (hb : ∀ (cdv : Value) (A : Around) (outer : List Env) (s : Shared) (H : Hp) (vs : List V) (Q : VK) (E : XK), A.guards = some [] → Room k (A.deeper (envOfC qual (defScope st) s.heap.objs.size f cdv)) → sp vs H Q E →
      ∃ t, PSs (cxOf CX0 P w K mg base N qual (defScope st) f cdv A outer s H E).nox (defBody st) t ∧ t { nx := fun _ H' => Q .non H', rt := Q } (start N vs) H) : FnG P w K mg base (k + 1) f fd ps sp := by
  obtain ⟨oc, od, kV, doc, pm, an, cdv, ct, osl, rfl, lk, hcd⟩ := F.ex
  refine ⟨long, fun A outer s H args us vs Q E hgd hr e0 hbi r hsp => ?_⟩
  have hl := long _ _ _ _ hsp
  have up : ∀ b o, base.get? b = some o → s.heap.get? b = some o :=
    fun b o e => (e0.bs b o e).1
  have KX : K.In s.heap := e0.mod.kin.keeps up
  have lim : s.heap.NoLimit := e0.mod.nolimit.keeps up
  have hk : ∀ y ∈ ps.zip us, (defScope st).names.lookup y.1 = some .local ∨ ((defScope st).names.lookup y.1 = some .cell ∧ ((cellsFrom (s.heap.objs.size + 1) (defScope st).names []).lookup y.1).isSome = true) := by
    intro y hy
    obtain ⟨n, v⟩ := y
    rcases S.par n (List.of_mem_zip hy).1 with q | q
    · left
      exact q
    · right
      exact ⟨q, PySem.W.cellsFrom_some _ _ _ (.inl q)⟩
  refine codeAny_call_function hr.depth (KX _ _ lk) rfl S.co S.gen rfl
    (PySem.W.codeRec_of KX hcd) (hbi _ _ _ _ ?_)
  refine wpAny_newFunctionEnv_cells S.kind hk
    fun env he s1 x => ?_
  subst he
  refine ⟨lim.keeps x.toInCall.keep,
    codeAny_func ?_⟩
  obtain ⟨t, ht, hq⟩ := hb cdv A outer s H vs Q E hgd (hr.deeper _) hsp
  have I : Inv (cxOf CX0 P w K mg base N qual (defScope st) f cdv A outer s H E) [] (start N vs) H s1 :=
    inv_start S hr.hd e0 hl r x
  refine wpAny_mono (ht.nox.run [] s1 (start N vs) H _ I hq)
    (fun fl s' hs => ?_) fun e s' hs => hs
  have fin : ∀ {σ' : L2.St} {H' : Hp} {v : V} {u : Value}, Inv (cxOf CX0 P w K mg base N qual (defScope st) f cdv A outer s H E) [] σ' H' s' → RelV v u → Q v H' → CE outer P w H s Q u s' :=
    fun {σ' H' v u} J rv q =>
      ⟨v, H', J.os, J.bare, J.base, J.hok, rv, q⟩
  cases fl with
  | ret u =>
    obtain ⟨v, _, _, J, rv, q⟩ := hs
    exact fin J rv q
  | next =>
    obtain ⟨_, _, J, q⟩ := hs
    exact fin (v := V.non) (u := Value.none) J rfl q
  | brk =>
    obtain ⟨_, _, _, q⟩ := hs
    exact q.elim
  | cont =>
    obtain ⟨_, _, _, q⟩ := hs
    exact q.elim
end
section
variable {X : Cx} {k : Nat} {f : Addr} {fd : FuncData} {ps : List Str} {sp : Sp} {x : Str} {p pos : Pos} {e : Expr} {es : List Expr} {t : TA}
theorem pe_callG (F : FnG X.prog X.w X.K X.mg X.base k f fd ps sp) (hgd : X.A.guards = some []) (hr : Room k X.A) (hg : Gl X x) (hm : X.mg x = some (.ref f))
    (hk : PySem.W.keepIn X.K (.ref f) = true) (hb : Binds X.K fd ps []) (ha : PA X (e :: es) t)
    (hdb : (x == ("__debug__" : Str)) = false := by decide) (he : starEach (e :: es) X.env = (false, eval e X.env) :: starEach es X.env := by rfl)
    (hpl : (backTo pos (starEach es X.env)).any (·.1) = false := by rfl) :
    PE X (.Call (.Name x p) (e :: es) [] pos) (tCall sp [] E0 t) := by
  refine ⟨fun pins s σ H Q I h => ?_⟩
  refine wpAny_Call_Name_kw (ld_glob I hg hm ?_ hdb)
  refine PySem.W.callWith_K (h₀ := X.base) I.ok.mod.kin hk (thn (ha.run pos pins s σ H _ I h)
    fun us s1 ⟨vs, H1, I1, r, q⟩ => ⟨I1.kIn, ?_⟩) he hpl
  have q' : sp (vs ++ []) H1 Q E0 := q
  rw [List.append_nil] at q'
  have hl : us.length = ps.length := by
    rw [← r.length]
    exact F.long _ _ _ _ q'
  have bt := hb s1 us I1.kIn (by rw [List.append_nil]; exact hl)
  rw [List.append_nil] at bt
  refine wpAny_call (codeAny_mono (F.goes X.A X.stack s1 H1 ⟨us, []⟩ us vs Q E0 hgd hr I1.env0 bt r q')
    fun r s' hq => ?_)
  cases r with
  | error e => exact False.elim hq
  | ok fl =>
    cases fl with
    | ret u => exact I1.after hq
    | next => exact False.elim hq
    | brk => exact False.elim hq
    | cont => exact False.elim hq
end
/-- the law's promise at the heap behind the top -/
theorem law_goes {P : Program} {w : World} {K : PySem.W.Frag} {mg mb : Str → Option Value} {k : Nat} {fa a : Addr} {fd : FuncData} {x : Str} {sp : Sp} {s1 : Shared} {vs : List Value} {ns : List Int}
    (KX : K.In s1.heap) (hns : s1.heap.Ns mainGlobals mg) (hb : s1.heap.Ns builtinsNs mb) (hbb : ∀ x : Str, x ≠ "__name__" → mb x = bootBuiltins x)
    (hlim : s1.heap.NoLimit) (hg : s1.gens = #[])
    (ha : s1.heap.get? a = some { cls := .type "list", data := .seq vs.toArray }) (hi : IntsAre vs ns)
    (hl : ns.length ≤ sizeLine) (hr : Room k callerA)
    (F : ∀ base : Heap, K.In base → base.Ns mainGlobals mg → FnG P w K mg base k fa fd [x] sp)
    (hbind : ∀ (s : Shared) (u : Value), BindsTo s fd ⟨[u], []⟩ [(x, u)])
    (hsp : ∀ H : Hp, Only H → SqL K H a (ns.map V.int) → sp [.ref a] H (fun v _ => v = .bl true) fun _ _ _ => False) :
    codeAny (model P w) callerA (.call (.ref fa) ⟨[.ref a], []⟩)
      (fun r s' => r = .ok (.ret (.bool true)) ∧ OldK s1.heap s'.heap ∧ s'.os = s1.os ∧ AllBare s'.gens) s1 := by
  have rv := vals_ints hi
  have lenV := hi.length
  have core : ∀ H : Hp, Only H → SqL K H a (ns.map V.int) → HOk P w H s1.heap →
      (∀ b, H b ≠ none → b = a) → (H a ≠ none → K.lookup a = none) →
      codeAny (model P w) callerA (.call (.ref fa) ⟨[.ref a], []⟩)
        (fun r s' => r = .ok (.ret (.bool true)) ∧ OldK s1.heap s'.heap ∧ s'.os = s1.os ∧ AllBare s'.gens) s1 := by
    intro H hO hS hok hA hK
    have eqa : ∀ {b : Addr} {u : HO}, H b = some u → b = a :=
      fun {b u} q => hA b (by rw [q]; simp)
    have base_of : ∀ {b : Addr} {o : Obj}, s1.heap.get? b = some o → H b = none → (hidT s1.heap H).get? b = some o :=
      fun e n => hidT_get e n
    have noA : ∀ {b : Addr} {o : Obj} {es : Array DictEntry} {ep : Nat},
        s1.heap.get? b = some o → o.data = .dict es ep → H b = none := by
      intro b o es ep e d
      cases q : H b with
      | none => rfl
      | some u =>
        have e' := eqa q
        subst e'
        rw [ha] at e
        cases e
        have d' : Data.seq vs.toArray _ = Data.dict es ep := d
        cases d'
    have nsK : ∀ {b : Addr} {m : Str → Option Value}, s1.heap.Ns b m → (hidT s1.heap H).Ns b m := by
      intro b m z
      obtain ⟨o, es, ep, e, d, r⟩ := z
      exact ⟨o, es, ep, base_of e (noA e d), d, r⟩
    have hKb : K.In (hidT s1.heap H) := by
      intro b o e
      refine base_of (KX b o e) ?_
      cases q : H b with
      | none => rfl
      | some u =>
        have e' := eqa q
        subst e'
        rw [hK (by rw [q]; simp)] at e
        cases e
    obtain ⟨mc, lim1, lim2⟩ := hlim
    have hM : Mod K mg (hidT s1.heap H) :=
      ⟨hKb, nsK hns, ⟨mb, nsK hb, hbb⟩, ⟨mc, nsK lim1, lim2⟩⟩
    have nil : ∀ b : Addr, b ∉ ([] : List Addr) := fun b => by simp
    have e0 : Env0 P w K mg (hidT s1.heap H) callerA [] s1 H :=
      ⟨rfl, hM, fun b o e => of_hidT e, Nat.le_of_eq (hidT_size _ _), trivial,
        fun b z => (nil b z).elim, hok, .of_eq hg⟩
    refine codeAny_mono ((F _ hKb (nsK hns)).goes callerA [] s1 H ⟨[.ref a], []⟩ [.ref a] [.ref a] _ _ rfl hr e0
      (hbind s1 (.ref a)) (.cons rfl .nil) (hsp H hO hS)) fun r s' h => ?_
    cases r with
    | error e => exact False.elim h
    | ok fl =>
      cases fl with
      | next => exact h.elim
      | brk => exact h.elim
      | cont => exact h.elim
      | ret u =>
        obtain ⟨v, H', os, bare, un, hok', r', q⟩ := h
        have q' : v = .bl true := q
        subst q'
        obtain rfl : u = Value.bool true := r'
        refine ⟨rfl, OldK.of_keep fun b o e => ?_, os, bare⟩
        cases q : H b with
        | none => exact un.keep b o e q (nil b) (by simp)
        | some u =>
          rcases hO b with z | ⟨ob, xs, z⟩
          · rw [q] at z
            cases z
          · have z2 := un.frzs b ob _ z
            obtain ⟨e1, _⟩ := hok b _ z
            obtain ⟨e2, _⟩ := hok' b _ z2
            rw [e] at e1
            cases e1
            exact e2
  cases hk : K.lookup a with
  | some o =>
    have e := KX a o hk
    rw [ha] at e
    cases e
    refine core (fun _ => none) (fun _ => .inl rfl)
      (.inr ⟨_, vs.toArray, _, hk, rfl, rfl, rfl, by rw [List.size_toArray, lenV]; exact hl, by simpa using rv⟩)
      (fun b u z => ?_) (fun b z => absurd rfl z) fun z => absurd rfl z
    have z' : (none : Option HO) = some u := z
    cases z'
  | none =>
    refine core (fun b => if b = a then some (.frz { cls := .type "list", data := .seq vs.toArray } (.lst (ns.map V.int))) else none)
      (fun b => ?_) (.inl (.inr ⟨{ cls := .type "list", data := .seq vs.toArray }, if_pos rfl⟩))
      (fun b u z => ?_) (fun b z => ?_) fun _ => hk
    · by_cases hb : b = a
      · right
        exact ⟨_, _, if_pos hb⟩
      · left
        exact if_neg hb
    · by_cases hb : b = a
      · have z' := (if_pos hb).symm.trans z
        cases z'
        subst hb
        exact ⟨ha, by rw [List.length_map]; exact hl, vs, _, rv, ha⟩
      · have z' := (if_neg hb).symm.trans z
        cases z'
    · by_cases hb : b = a
      · exact hb
      · exact absurd (if_neg hb) z
theorem walkG {l : PySem.W.OpenLaw} {n k : Nat} {q : Program} {loose : List Str} {XP : (Str → Option Value) → Heap → Prop} {YP : World → Heap → Prop}
    {d : DefRec} {K : Params → PySem.W.Frag} {sp : World → Sp} {x : Str}
    (hn : l.most = some n) (hn2 : n ≤ sizeLine) (hdf : d.params.defaults = []) (hr : Room k callerA)
    (hY : ∀ (w : World) (h : Heap), YP w h → (K w.params).In h)
    (F : ∀ (w : World) (mg : Str → Option Value) (fa : Addr) (h : Heap), (K w.params).In h → h.Ns mainGlobals mg → mg d.name = some (.ref fa) →
      ∃ fd : FuncData, (∀ (s : Shared) (u : Value), BindsTo s fd ⟨[u], []⟩ [(x, u)]) ∧
        ∀ base : Heap, (K w.params).In base → base.Ns mainGlobals mg → FnG l.prog w (K w.params) mg base k fa fd [x] (sp w))
    (hsp : ∀ (w : World) (H : Hp) (a : Addr) (ns : List Int), ns.length ≤ n → (∀ z ∈ ns, Builtin.Int.intBits z ≤ 1048576) → Only H →
      SqL (K w.params) H a (ns.map V.int) → sp w [.ref a] H (fun v _ => v = .bl true) fun _ _ _ => False) :
    PySem.W.WalkO q loose XP YP l.row.toRowW d [] (fun f vs => PySem.call f vs) := by
  refine Att.attach_callB hn hdf fun w s0 s1 mg mb fa o pm cd doc a vs ns G Y ho hd hcd hmg hobj hints hlen hbits hg => ?_
  obtain ⟨fd, hb, hF⟩ := F w mg fa _ (hY w _ Y) G.T.g hmg
  exact law_goes (hY w _ Y) G.T.g G.T.b G.T.builtins G.T.nolimit hg hobj hints (Nat.le_trans hlen hn2) hr hF hb
    fun H hO hS => hsp w H a ns hlen hbits hO hS
end Mg
/-! repr of what was handed -/
namespace Mq
open PySem PySem.Spec PyProof.Rows L2
mutual
inductive Dx (H : Hp) : V → PyData → Prop
  | str (x : Str) : Dx H (.str x) (.str x)
  | lst {a : Addr} {xs : List V} {ds : List PyData} (h : H a = some (.lst xs)) (r : DxAll H xs ds) : Dx H (.ref a) (.list ds)
  | tup {a : Addr} {xs : List V} {ds : List PyData} (h : H a = some (.tup xs)) (r : DxAll H xs ds) : Dx H (.ref a) (.tuple ds)
  | dic {a : Addr} {kvs : List (Key × V)} {ks : List Str} {ds : List PyData} (h : H a = some (.dK kvs)) (hk : kvs.map Prod.fst = ks.map Sum.inr) (r : DxAll H (kvs.map Prod.snd) ds) : Dx H (.ref a) (.dict ((ks.map PyData.str).zip ds))
inductive DxAll (H : Hp) : List V → List PyData → Prop
  | nil : DxAll H [] []
  | cons {v : V} {vs : List V} {d : PyData} {ds : List PyData} (h : Dx H v d) (r : DxAll H vs ds) : DxAll H (v :: vs) (d :: ds)
end
theorem DxAll.len {H : Hp} : ∀ {vs : List V} {ds : List PyData}, DxAll H vs ds → vs.length = ds.length
  | _, _, .nil => rfl
  | _, _, .cons _ r => by rw [List.length_cons, List.length_cons, DxAll.len r]
theorem dxAll_strs {H : Hp} : ∀ r : List Str, DxAll H (r.map V.str) (r.map PyData.str)
  | [] => .nil
  | x :: r => .cons (.str x) (dxAll_strs r)
theorem keys_read {P : Program} {w : World} {h : Heap} : ∀ {kvs : List (Key × V)} {vs : List (Key × Value)} {es : List DictEntry} {ks : List Str}, KV kvs vs → Pairs (mixKind P w) es vs → kvs.map Prod.fst = ks.map Sum.inr → ReadsAll h (es.map (·.key)) (ks.map PyData.str) []
  | _, _, _, [], .nil, .nil, _ => .nil
  | _, _, _, [], .cons _ _, _, e => by cases e
  | _, _, _, k :: ks, .nil, _, e => by cases e
  | p :: ps, q :: qs, en :: es, k :: ks, .cons h1 t, .cons h2 h3 r, e => by
    rw [List.map_cons, List.map_cons] at e
    obtain ⟨e1, e2⟩ := List.cons.inj e
    obtain ⟨e3, _⟩ := h1
    have h2' : keyIs q.1 en.key = true := h2
    rw [← e3, e1] at h2'
    obtain ⟨tk, ek⟩ := Value.isStrOf_shape (show Value.isStrOf k en.key = true from h2')
    rw [List.map_cons, List.map_cons, ek]
    exact .cons (as := []) (.str k tk) (keys_read t r e2)
theorem vals_of_pairs {P : Program} {w : World} : ∀ {vs : List (Key × Value)} {es : List DictEntry}, Pairs (mixKind P w) es vs → es.map (·.val) = vs.map Prod.snd
  | _, _, .nil => rfl
  | _, _, .cons h1 h2 r => by rw [List.map_cons, List.map_cons, vals_of_pairs r, h2]
section
variable {X : Cx} {pins : List (Addr × Obj)} {σ : L2.St} {H : Hp} {s : Shared}
theorem sys_ne (I : Inv X pins σ H s) {a : Addr} {xs : List V} (h : H a = some (.lst xs)) (hs : ∃ o, X.base.get? sysModules = some o) : a ≠ sysModules := by
  intro z
  obtain ⟨o, e⟩ := hs
  have := (I.bs _ _ e).2
  rw [← z, h] at this
  cases this
mutual
theorem Dx.reads (I : Inv X pins σ H s) (hs : ∃ o, X.base.get? sysModules = some o) : ∀ {v : V} {d : PyData}, Dx H v d → ∀ u, RelV v u → ∃ as, Reads s.heap u d as ∧ sysModules ∉ as
  | _, _, .str x, _, r => by
    obtain ⟨t, rfl⟩ := r
    exact ⟨[], .str x t, by simp⟩
  | _, _, .lst e ha, _, r => by
    cases r
    obtain ⟨_, its, n, rv, ho⟩ := (show ObjOk X.prog X.w H s.heap _ (.lst _) from I.hok _ _ e)
    obtain ⟨as, hr, hn⟩ := DxAll.reads I hs ha its rv
    refine ⟨_, .list ho rfl rfl (by simpa using hr), ?_⟩
    intro z
    rcases List.mem_cons.mp z with z | z
    · exact sys_ne I e hs z.symm
    · exact hn z
  | _, _, .tup e ha, _, r => by
    cases r
    obtain ⟨_, its, rv, o, ho, hc, n, hd⟩ := (show ObjOk X.prog X.w H s.heap _ (.tup _) from I.hok _ _ e)
    obtain ⟨as, hr, hn⟩ := DxAll.reads I hs ha its rv
    exact ⟨_, .tuple ho hc hd (by simpa using hr), hn⟩
  | _, _, @Dx.dic _ a kvs ks ds e hk ha, _, r => by
    cases r
    obtain ⟨_, hm, vs, kv, o, es, ep, ho, ex, hd, _, pr, _⟩ := dk_of I.hok e
    obtain ⟨as, hr, hn⟩ := DxAll.reads I hs ha (vs.map Prod.snd) (Mo.kv_snd kv)
    have lk : ks.length = kvs.length := by
      have := congrArg List.length hk
      rw [List.length_map, List.length_map] at this
      exact this.symm
    have ld : ds.length = kvs.length := by
      have := DxAll.len ha
      rw [List.length_map] at this
      exact this.symm
    have e1 : (((ks.map PyData.str).zip ds).map (·.1)) = ks.map PyData.str := List.map_fst_zip (by rw [List.length_map]; omega)
    have e2 : (((ks.map PyData.str).zip ds).map (·.2)) = ds := List.map_snd_zip (by rw [List.length_map]; omega)
    refine ⟨_, .dict ho ex.1 hd (as := []) (bs := as) ?_ ?_, ?_⟩
    · rw [e1]
      exact keys_read kv pr hk
    · rw [e2, vals_of_pairs pr]
      exact hr
    · intro z
      have z' : sysModules = a ∨ sysModules ∈ as := by simpa using z
      rcases z' with z | z
      · rw [← z] at hm
        simp at hm
      · exact hn z
theorem DxAll.reads (I : Inv X pins σ H s) (hs : ∃ o, X.base.get? sysModules = some o) : ∀ {vs : List V} {ds : List PyData}, DxAll H vs ds → ∀ us, Vals vs us → ∃ as, ReadsAll s.heap us ds as ∧ sysModules ∉ as
  | _, _, .nil, _, r => by
    cases r
    exact ⟨[], .nil, by simp⟩
  | _, _, .cons h1 h2, _, r => by
    cases r with
    | cons r1 r2 =>
      obtain ⟨as, q1, n1⟩ := Dx.reads I hs h1 _ r1
      obtain ⟨bs, q2, n2⟩ := DxAll.reads I hs h2 _ r2
      exact ⟨_, .cons q1 q2, by simp [n1, n2]⟩
end
def rRepr : List V → Hp → VK → Prop := fun xs H Q => ∃ a d, xs = [.ref a] ∧ Dx H (.ref a) d ∧ d.showable = true ∧ d.depth ≤ 60 ∧ d.shown.length ≤ sizeLine ∧ Q (.str d.shown) H
theorem call_repr (hg : X.A.guards = some []) (hu : X.A.units + 64 < cLine) (hs : ∃ o, X.base.get? sysModules = some o) : CallR X (.builtin "repr") rRepr := by
  intro pins s σ H xs us Q I r h
  obtain ⟨a, d, rfl, hd, sh, dp, sz, q⟩ := h
  obtain ⟨u, rfl, rx⟩ := vals1 r
  obtain ⟨as, hr, hn⟩ := Dx.reads I hs hd u rx
  obtain rfl : u = Value.ref a := rx
  exact repr_of_reads' hr sh (fun _ => hn) hg (by omega) (fun _ _ e => e) (fun h' u tk k => ⟨.str d.shown, H, I.kept (t' := tk) k, ⟨u, rfl⟩, q⟩) sz
end
/-! ### how long the texts are -/
theorem sign_len : ∀ c ∈ Mn.signs.cps.toList, (Builtin.Str.reprChar 39 c).length ≤ 2 ∧ (Builtin.Str.reprChar 34 c).length ≤ 2 := by decide +kernel
theorem fold_len {q : Nat} : ∀ (l : List Nat) (n : Nat), (∀ c ∈ l, (Builtin.Str.reprChar q c).length ≤ 2) → l.foldl (fun n c => n + (Builtin.Str.reprChar q c).length) n ≤ n + 2 * l.length
  | [], n, _ => by simp
  | c :: r, n, h => by
    have h1 := h c (by simp)
    have h2 := fold_len r (n + (Builtin.Str.reprChar q c).length) fun d hd => h d (by simp [hd])
    rw [List.foldl_cons, List.length_cons]
    omega
theorem repr_len {x : Str} (g : Mn.goodNm x = true) : (reprText x).length ≤ 18 := by
  have hb := Mn.goodNm.nm g
  have hl := Mn.goodNm.len g
  have h1 : Mn.begins x = true := by
    unfold Mn.isNm at hb
    simp only [Bool.and_eq_true] at hb
    exact hb.2.1
  have h2 : ∀ c ∈ x.cps.toList, c ∈ Mn.signs.cps.toList := fun c hc => by
    unfold Mn.begins at h1
    simp only [Bool.and_eq_true, List.all_eq_true, decide_eq_true_eq] at h1
    exact h1.2.2 c hc
  rw [← reprLen_eq, ← Array.foldl_toList]
  have h3 : ∀ c ∈ x.cps.toList, (Builtin.Str.reprChar (reprQuote x) c).length ≤ 2 := fun c hc => by
    have h4 := sign_len c (h2 c hc)
    unfold reprQuote
    split
    · exact h4.2
    · exact h4.1
  have h5 := fold_len x.cps.toList 2 h3
  have h6 : x.cps.toList.length = x.length := Array.length_toList
  omega
theorem from_len {L : Nat} : ∀ (ts : List Str) (k : Nat) (acc : Str), (∀ t ∈ ts, t.length ≤ L) → (textFrom k acc ts).length ≤ acc.length + ts.length * (L + 2)
  | [], k, acc, _ => by show acc.length ≤ acc.length + 0 * (L + 2); omega
  | t :: r, k, acc, h => by
    have h1 := h t (by simp)
    have h2 := from_len r (k + 1) (acc ++ (if k > 0 then ", " else "" : String) ++ t) fun u hu => h u (by simp [hu])
    have e : (acc ++ (if k > 0 then ", " else "" : String) ++ t).length ≤ acc.length + 2 + t.length := by
      rw [strLen_append, strLen_append]
      split
      · show acc.length + 2 + t.length ≤ _
        omega
      · show acc.length + 0 + t.length ≤ _
        omega
    show (textFrom (k + 1) _ r).length ≤ _
    have e2 : (r.length + 1) * (L + 2) = r.length * (L + 2) + (L + 2) := Nat.succ_mul ..
    rw [List.length_cons, e2]
    omega
theorem join_len {L : Nat} : ∀ ts : List Str, (∀ t ∈ ts, t.length ≤ L) → (Str.join ", " ts).length ≤ ts.length * (L + 2)
  | [], _ => by show 0 ≤ _; omega
  | [t], h => by
    have h1 := h t (by simp)
    show t.length ≤ 1 * (L + 2)
    omega
  | t :: u :: r, h => by
    have h1 := h t (by simp)
    have h2 := join_len (u :: r) fun v hv => h v (by simp [hv])
    show (t ++ (", " : Str) ++ Str.join ", " (u :: r)).length ≤ _
    rw [strLen_append, strLen_append]
    have e3 : (", " : Str).length = 2 := rfl
    have e2 : ((u :: r).length + 1) * (L + 2) = (u :: r).length * (L + 2) + (L + 2) := Nat.succ_mul ..
    rw [List.length_cons (a := t), e2, e3]
    omega
theorem list_len {L : Nat} (ts : List Str) (h : ∀ t ∈ ts, t.length ≤ L) : (listText ts).length ≤ 2 + ts.length * (L + 2) := by
  unfold listText
  rw [strLen_append]
  have h1 := from_len ts 0 "[" h
  have e1 : ("[" : Str).length = 1 := rfl
  have e2 : ("]" : Str).length = 1 := rfl
  omega
theorem tup_len {L : Nat} (ts : List Str) (h : ∀ t ∈ ts, t.length ≤ L) : (tupleText ts).length ≤ 3 + ts.length * (L + 2) := by
  unfold tupleText
  rw [strLen_append, strLen_append]
  have h1 := join_len ts h
  have e1 : ("(" : Str).length = 1 := rfl
  split
  · show ("(" : Str).length + _ + 2 ≤ _
    omega
  · show ("(" : Str).length + _ + 1 ≤ _
    omega
theorem dict_len {L : Nat} (ts : List Str) (h : ∀ t ∈ ts, t.length ≤ L) : (dictText ts).length ≤ 2 + ts.length * (L + 2) := by
  unfold dictText
  rw [strLen_append, strLen_append]
  have h1 := join_len ts h
  have e1 : ("{" : Str).length = 1 := rfl
  have e2 : ("}" : Str).length = 1 := rfl
  omega
theorem shownAll_map : ∀ ds : List PyData, PyData.shownAll ds = ds.map PyData.shown
  | [] => rfl
  | d :: ds => by
    show PyData.shown d :: PyData.shownAll ds = _
    rw [shownAll_map ds]
    rfl
theorem shownKv_map : ∀ ds : List (PyData × PyData), PyData.shownKv ds = ds.map fun p => PyData.shown p.1 ++ ": " ++ PyData.shown p.2
  | [] => rfl
  | (k, v) :: ds => by
    show (PyData.shown k ++ ": " ++ PyData.shown v) :: PyData.shownKv ds = _
    rw [shownKv_map ds]
    rfl
/-- a row as data -/
inductive RowD : PyData → List Str → Prop
  | l (r : List Str) : RowD (.list (r.map PyData.str)) r
  | t (r : List Str) : RowD (.tuple (r.map PyData.str)) r
theorem row_len {d : PyData} {r : List Str} (h : RowD d r) (g : ∀ x ∈ r, Mn.goodNm x = true) (hl : r.length ≤ 63) : d.shown.length ≤ 1300 := by
  have key : ∀ t ∈ PyData.shownAll (r.map PyData.str), t.length ≤ 18 := fun t ht => by
    rw [shownAll_map, List.map_map] at ht
    obtain ⟨x, hx, rfl⟩ := List.mem_map.mp ht
    exact repr_len (g x hx)
  have ll : (PyData.shownAll (r.map PyData.str)).length = r.length := by rw [shownAll_map, List.length_map, List.length_map]
  cases h with
  | l =>
    have h1 := list_len _ key
    rw [ll] at h1
    show (listText (PyData.shownAll (r.map PyData.str))).length ≤ 1300
    omega
  | t =>
    have h1 := tup_len _ key
    rw [ll] at h1
    show (tupleText (PyData.shownAll (r.map PyData.str))).length ≤ 1300
    omega
theorem row_show {d : PyData} {r : List Str} (h : RowD d r) : d.showable = true ∧ d.depth ≤ 2 := by
  have k1 : ∀ r : List Str, PyData.showableAll (r.map PyData.str) = true := fun r => by
    induction r with
    | nil => rfl
    | cons x r ih => exact ih
  have k2 : ∀ r : List Str, PyData.depthAll (r.map PyData.str) ≤ 1 := Mn.depth_strs
  cases h with
  | l =>
    refine ⟨k1 r, ?_⟩
    have := k2 r
    show PyData.depthAll (r.map PyData.str) + 1 ≤ 2
    omega
  | t =>
    refine ⟨k1 r, ?_⟩
    have := k2 r
    show PyData.depthAll (r.map PyData.str) + 1 ≤ 2
    omega
theorem row_dx {H : Hp} {p : Addr} {r : List Str} (h : Mn.Seq H p (r.map V.str)) : ∃ d, Dx H (.ref p) d ∧ RowD d r := by
  rcases h with h | h
  · exact ⟨_, .lst h (dxAll_strs r), .l r⟩
  · exact ⟨_, .tup h (dxAll_strs r), .t r⟩
mutual
theorem Dx.ext {H H' : Hp} (s : LamX.ExtN H H') : ∀ {v : V} {d : PyData}, Dx H v d → Dx H' v d
  | _, _, .str x => .str x
  | _, _, .lst h r => .lst (s _ _ h Mn.ntb_lst) (DxAll.ext s r)
  | _, _, .tup h r => .tup (s _ _ h Mn.ntb_tup) (DxAll.ext s r)
  | _, _, .dic h hk r => .dic (s _ _ h Mn.ntb_dK) hk (DxAll.ext s r)
theorem DxAll.ext {H H' : Hp} (s : LamX.ExtN H H') : ∀ {vs : List V} {ds : List PyData}, DxAll H vs ds → DxAll H' vs ds
  | _, _, .nil => .nil
  | _, _, .cons h r => .cons (Dx.ext s h) (DxAll.ext s r)
end
end Mq
/-! sorted names are told by who they are; what was handed; the same -/
namespace Mn
open PySem PySem.Spec PyProof.Rows L2 Md Me Ml LamX Mi Mo
theorem rising_pw : ∀ (l : List Str) (p : Str), risingS p l = true → (∀ x ∈ l, p.cps.toList ≤ x.cps.toList) ∧ l.Pairwise fun a b => a.cps.toList ≤ b.cps.toList
  | [], p, _ => ⟨fun x hx => by simp at hx, .nil⟩
  | x :: r, p, h => by
    have h' : (!ltCps x.cps.toList p.cps.toList && risingS x r) = true := h
    rw [Bool.and_eq_true, Bool.not_eq_true', ltCps_eq, decide_eq_false_iff_not] at h'
    obtain ⟨h1, h2⟩ := h'
    obtain ⟨i1, i2⟩ := rising_pw r x h2
    have px : p.cps.toList ≤ x.cps.toList := List.not_lt.mp h1
    refine ⟨fun y hy => ?_, .cons i1 i2⟩
    rcases List.mem_cons.mp hy with z | z
    · rw [z]
      exact px
    · exact List.le_trans px (i1 y z)
theorem sorted_pw : ∀ (l : List Str), sortedS l = true → l.Pairwise fun a b => a.cps.toList ≤ b.cps.toList
  | [], _ => .nil
  | x :: r, h => by
    obtain ⟨i1, i2⟩ := rising_pw r x h
    exact .cons i1 i2
theorem sorted_uniq {ys zs : List Str} (h : ys.Perm zs) (h1 : sortedS ys = true) (h2 : sortedS zs = true) : ys = zs := by
  refine List.Perm.eq_of_pairwise (le := fun a b : Str => a.cps.toList ≤ b.cps.toList) (fun a b _ _ x y => ?_) (sorted_pw ys h1) (sorted_pw zs h2) h
  have e := List.le_antisymm x y
  obtain ⟨a⟩ := a
  obtain ⟨b⟩ := b
  exact congrArg Str.mk (Array.toList_inj.mp e)
/-! ### the same -/
theorem sm_strs {C0 : Addr} {H : Hp} {n : Nat} {a b : Addr} {r : List Str} (ha : H a = some (.lst (r.map V.str))) (hb : H b = some (.lst (r.map V.str))) (hl : r.length ≤ 1000) : Sm C0 H (n + 1) (.ref a) (.ref b) := by
  refine .lst ha hb rfl (by rw [List.length_map]; exact hl) fun i x y h1 h2 => ?_
  rw [h1] at h2
  obtain rfl := Option.some.inj h2
  rw [List.getElem?_map] at h1
  obtain ⟨z, _, rfl⟩ := Option.map_eq_some_iff.mp h1
  exact .str _ z
theorem sm_rows {C0 : Addr} {H : Hp} {n : Nat} {a b : Addr} {ys : List Str} {as bs : List Addr} {rw_ : Str → List Str} (ha : H a = some (.dK ((ys.zip as).map fun p => (Sum.inr p.1, V.ref p.2)))) (hb : H b = some (.dK ((ys.zip bs).map fun p => (Sum.inr p.1, V.ref p.2)))) (la : as.length = ys.length) (lb : bs.length = ys.length) (hl : ys.length ≤ 1000) (hr : ∀ n ∈ ys, (rw_ n).length ≤ 1000)
    (ra : ∀ (i : Nat) (n : Str) (c : Addr), ys[i]? = some n → as[i]? = some c → H c = some (.lst ((rw_ n).map V.str))) (rb : ∀ (i : Nat) (n : Str) (c : Addr), ys[i]? = some n → bs[i]? = some c → H c = some (.lst ((rw_ n).map V.str))) : Sm C0 H (n + 1 + 3) (.ref a) (.ref b) := by
  have at_ : ∀ {cs : List Addr} {i : Nat} {p : Key × V}, ((ys.zip cs).map fun p => ((Sum.inr p.1 : Key), V.ref p.2))[i]? = some p → ∃ m c, ys[i]? = some m ∧ cs[i]? = some c ∧ p = (Sum.inr m, V.ref c) := fun {cs i p} h => by
    rw [List.getElem?_map] at h
    obtain ⟨⟨m, c⟩, h1, h2⟩ := Option.map_eq_some_iff.mp h
    have h3 := List.getElem?_zip_eq_some.mp h1
    exact ⟨m, c, h3.1, h3.2, h2.symm⟩
  refine .dic ha hb ?_ ?_ (fun i p q h1 h2 => ?_) fun i p q h1 h2 => ?_
  · rw [List.length_map, List.length_map, List.length_zip, List.length_zip, la, lb]
  · rw [List.length_map, List.length_zip, la, Nat.min_self]
    exact hl
  · obtain ⟨m1, c1, e1, e2, rfl⟩ := at_ h1
    obtain ⟨m2, c2, e3, e4, rfl⟩ := at_ h2
    rw [e1] at e3
    rw [Option.some.inj e3]
  · obtain ⟨m1, c1, e1, e2, rfl⟩ := at_ h1
    obtain ⟨m2, c2, e3, e4, rfl⟩ := at_ h2
    rw [e1] at e3
    obtain rfl := Option.some.inj e3
    exact sm_strs (ra i m1 c1 e1 e2) (rb i m1 c2 e1 e4) (hr m1 (List.mem_of_getElem? e1))
theorem sm_lists {C0 : Addr} {H : Hp} {n : Nat} {a b : Addr} {ys : List Str} {as bs : List Addr} {rw_ : Str → List Str} (ha : H a = some (.lst (as.map V.ref))) (hb : H b = some (.lst (bs.map V.ref))) (la : as.length = ys.length) (lb : bs.length = ys.length) (hl : ys.length ≤ 1000) (hr : ∀ n ∈ ys, (rw_ n).length ≤ 1000)
    (ra : ∀ (i : Nat) (n : Str) (c : Addr), ys[i]? = some n → as[i]? = some c → H c = some (.lst ((rw_ n).map V.str))) (rb : ∀ (i : Nat) (n : Str) (c : Addr), ys[i]? = some n → bs[i]? = some c → H c = some (.lst ((rw_ n).map V.str))) : Sm C0 H (n + 1 + 1) (.ref a) (.ref b) := by
  refine .lst ha hb (by rw [List.length_map, List.length_map, la, lb]) (by rw [List.length_map, la]; exact hl) fun i x y h1 h2 => ?_
  rw [List.getElem?_map] at h1 h2
  obtain ⟨c1, e1, rfl⟩ := Option.map_eq_some_iff.mp h1
  obtain ⟨c2, e2, rfl⟩ := Option.map_eq_some_iff.mp h2
  obtain ⟨m, hm⟩ : ∃ m, ys[i]? = some m := ⟨ys[i]'(by have := lt_of_get e1; omega), List.getElem?_eq_getElem _⟩
  exact sm_strs (ra i m c1 hm e1) (rb i m c2 hm e2) (hr m (List.mem_of_getElem? hm))
/-! ### what was handed -/
theorem DRows.ext {H H' : Hp} {D : Addr} {ps : List (Str × Addr)} {rw_ : Str → List Str} {ns : List Str} (s : ExtN H H') (d : DRows H D ps rw_ ns) : DRows H' D ps rw_ ns := ⟨s _ _ d.d ntb_dK, d.nd, d.mem, fun p hp => (d.r p hp).ext s, d.out⟩
theorem rows_dx {H : Hp} {rw_ : Str → List Str} : ∀ ps : List (Str × Addr), (∀ p ∈ ps, Seq H p.2 ((rw_ p.1).map V.str)) → ∃ ds : List PyData, Mq.DxAll H (ps.map fun p => V.ref p.2) ds ∧ ds.length = ps.length ∧ ∀ (i : Nat) (p : Str × Addr) (d : PyData), ps[i]? = some p → ds[i]? = some d → Mq.RowD d (rw_ p.1)
  | [], _ => ⟨[], .nil, rfl, fun i p d h => by simp at h⟩
  | p :: ps, h => by
    obtain ⟨d, d1, d2⟩ := Mq.row_dx (h p (by simp))
    obtain ⟨ds, e1, e2, e3⟩ := rows_dx ps fun q hq => h q (by simp [hq])
    refine ⟨d :: ds, .cons d1 e1, by rw [List.length_cons, List.length_cons, e2], fun i q e h1 h2 => ?_⟩
    cases i with
    | zero =>
      have a1 : p = q := by simpa using h1
      have a2 : d = e := by simpa using h2
      rw [← a1, ← a2]
      exact d2
    | succ j => exact e3 j q e (by simpa using h1) (by simpa using h2)
theorem showKv : ∀ l : List (PyData × PyData), (∀ p ∈ l, p.1.showable = true ∧ p.2.showable = true) → PyData.showableKv l = true
  | [], _ => rfl
  | (k, v) :: l, h => by
    obtain ⟨h1, h2⟩ := h (k, v) (by simp)
    show (k.showable && v.showable && PyData.showableKv l) = true
    rw [h1, h2, showKv l fun p hp => h p (by simp [hp])]
    rfl
theorem depthKv_le {n : Nat} : ∀ l : List (PyData × PyData), (∀ p ∈ l, p.1.depth ≤ n ∧ p.2.depth ≤ n) → PyData.depthKv l ≤ n
  | [], _ => Nat.zero_le _
  | (k, v) :: l, h => by
    obtain ⟨h1, h2⟩ := h (k, v) (by simp)
    have h3 := depthKv_le l fun p hp => h p (by simp [hp])
    have h1' : k.depth ≤ n := h1
    have h2' : v.depth ≤ n := h2
    simp only [PyData.depthKv]
    omega
theorem handed_dx {H : Hp} {Hd p D : Addr} {ns : List Str} {rw_ : Str → List Str} {ps : List (Str × Addr)} (hH : H Hd = some (.lst [.ref p, .ref D])) (hp : Seq H p (ns.map V.str)) (dr : DRows H D ps rw_ ns) (gn : GoodNs ns) (gr : GoodRows ns rw_) :
    ∃ d, Mq.Dx H (.ref Hd) d ∧ d.showable = true ∧ d.depth ≤ 60 ∧ d.shown.length ≤ sizeLine := by
  obtain ⟨d1, x1, r1⟩ := Mq.row_dx hp
  obtain ⟨ds, x2, hl2, r2⟩ := rows_dx ps dr.r
  have hk : (ps.map fun p => ((Sum.inr p.1 : Key), V.ref p.2)).map Prod.fst = (ps.map Prod.fst).map Sum.inr := by rw [List.map_map, List.map_map]; rfl
  have hv : (ps.map fun p => ((Sum.inr p.1 : Key), V.ref p.2)).map Prod.snd = ps.map fun p => V.ref p.2 := by rw [List.map_map]; rfl
  have x3 : Mq.Dx H (.ref D) (.dict (((ps.map Prod.fst).map PyData.str).zip ds)) := .dic dr.d hk (by rw [hv]; exact x2)
  have each : ∀ q ∈ ((ps.map Prod.fst).map PyData.str).zip ds, ∃ n d, q = (PyData.str n, d) ∧ n ∈ ns ∧ Mq.RowD d (rw_ n) := fun q hq => by
    obtain ⟨i, hi⟩ := List.getElem?_of_mem hq
    have h3 := List.getElem?_zip_eq_some.mp hi
    rw [List.map_map, List.getElem?_map] at h3
    obtain ⟨e1, e2⟩ := h3
    obtain ⟨r, hr, e3⟩ := Option.map_eq_some_iff.mp e1
    refine ⟨r.1, q.2, ?_, dr.mem r (List.mem_of_getElem? hr), r2 i r q.2 hr e2⟩
    rw [show PyData.str r.1 = q.1 from e3]
  have rl : ∀ n ∈ ns, (rw_ n).length ≤ 63 := fun n hn => Nat.le_trans (pigeon (gr n hn).nd (gr n hn).sub) gn.l
  obtain ⟨sh1, dp1⟩ := Mq.row_show r1
  have ln1 := Mq.row_len r1 gn.g gn.l
  have plen : ps.length ≤ 63 := by
    have h1 := pigeon dr.nd (l2 := ns) fun x hx => by
      obtain ⟨p, hp, rfl⟩ := List.mem_map.mp hx
      exact dr.mem p hp
    rw [List.length_map] at h1
    have := gn.l
    omega
  have lnD : (PyData.dict (((ps.map Prod.fst).map PyData.str).zip ds)).shown.length ≤ 90000 := by
    have h1 := Mq.dict_len (L := 1400) (PyData.shownKv (((ps.map Prod.fst).map PyData.str).zip ds)) fun t ht => by
      rw [Mq.shownKv_map] at ht
      obtain ⟨q, hq, rfl⟩ := List.mem_map.mp ht
      obtain ⟨n, d, rfl, hn, hd⟩ := each q hq
      have a1 := Mq.repr_len (gn.g n hn)
      have a2 := Mq.row_len hd (fun x hx => gn.g x ((gr n hn).sub x hx)) (rl n hn)
      show (reprText n ++ (": " : Str) ++ d.shown).length ≤ 1400
      rw [strLen_append, strLen_append]
      have e3 : (": " : Str).length = 2 := rfl
      omega
    have h2 : (PyData.shownKv (((ps.map Prod.fst).map PyData.str).zip ds)).length ≤ 63 := by
      rw [Mq.shownKv_map, List.length_map, List.length_zip, hl2]
      exact Nat.le_trans (Nat.min_le_right _ _) plen
    show (dictText (PyData.shownKv (((ps.map Prod.fst).map PyData.str).zip ds))).length ≤ 90000
    have h3 : (PyData.shownKv (((ps.map Prod.fst).map PyData.str).zip ds)).length * (1400 + 2) ≤ 63 * (1400 + 2) := Nat.mul_le_mul_right _ h2
    omega
  refine ⟨_, .lst hH (.cons x1 (.cons x3 .nil)), ?_, ?_, ?_⟩
  · show (d1.showable && (PyData.showableKv (((ps.map Prod.fst).map PyData.str).zip ds) && true)) = true
    rw [sh1, showKv _ fun q hq => ?_]
    · rfl
    · obtain ⟨n, d, rfl, hn, hd⟩ := each q hq
      exact ⟨rfl, (Mq.row_show hd).1⟩
  · have h1 := depthKv_le (n := 2) (((ps.map Prod.fst).map PyData.str).zip ds) fun q hq => by
      obtain ⟨n, d, rfl, hn, hd⟩ := each q hq
      exact ⟨by show PyData.depth (.str n) ≤ 2; simp [PyData.depth], (Mq.row_show hd).2⟩
    simp only [PyData.depth, PyData.depthAll]
    omega
  · have h1 := Mq.list_len (L := 90000) (PyData.shownAll [d1, PyData.dict (((ps.map Prod.fst).map PyData.str).zip ds)]) fun t ht => by
      rw [Mq.shownAll_map] at ht
      rw [List.map_cons, List.map_cons, List.map_nil] at ht
      rcases List.mem_cons.mp ht with e | ht
      · rw [e]
        omega
      · rw [List.mem_singleton.mp ht]
        exact lnD
    have h2 : (PyData.shownAll [d1, PyData.dict (((ps.map Prod.fst).map PyData.str).zip ds)]).length = 2 := rfl
    show (listText (PyData.shownAll [d1, PyData.dict (((ps.map Prod.fst).map PyData.str).zip ds)])).length ≤ sizeLine
    rw [h2] at h1
    exact Nat.le_trans h1 (by decide)
end Mn
/-! _law_told_right -/
namespace Mn
open PySem PySem.Spec PyProof.Rows L2 Md Me Ml LamX Mi Mo
/-- a def that is called -/
structure Cl (P : Program) (w : World) (K : PySem.W.Frag) (mg : Str → Option Value) (base : Heap) (k : Nat) (x : Str) (ps : List Str) (sp : Sp) : Prop where
  ex : ∃ (f : Addr) (fd : FuncData), FnOk P w K mg base CX0 k f fd ps sp ∧ PySem.W.keepIn K (.ref f) = true ∧ Binds K fd ps [] ∧ mg x = some (.ref f)
/-- what == and isinstance ask of the class -/
structure MkQ (K : PySem.W.Frag) (C : Addr) : Prop where
  nl : PySem.W.notFirst K C (.type "list") = true
  nt : PySem.W.notFirst K C (.type "tuple") = true
  nd : PySem.W.notFirst K C (.type "dict") = true
  nm : PySem.W.notFirst K C (.ref C) = true
  kl : PySem.W.kitOne K (.type "list") (.ref C) = some false
  kt : PySem.W.kitOne K (.type "tuple") (.ref C) = some false
  kd : PySem.W.kitOne K (.type "dict") (.ref C) = some false
theorem eqM_refl {ns : List Str} {rw_ : Str → List Str} : eqM ns rw_ ns rw_ = true := by
  unfold eqM
  rw [decide_eq_true rfl, Bool.true_and, List.all_eq_true]
  exact fun n _ => decide_eq_true rfl
theorem mkOk_of {ns : List Str} {rw_ : Str → List Str} (gn : GoodNs ns) (gr : GoodRows ns rw_) : MkOk ns rw_ := ⟨gn.nd, strsOk_of gn, fun n hn => (rowOk_of gn gr hn).1⟩
/-- the market's == with another one, or with what is none -/
theorem eq_mk {K : PySem.W.Frag} {C0 m m' : Addr} {H : Hp} {ns ys ns' ys' : List Str} {rw_ rw' : Str → List Str} {neg : Bool} {Q : VK} (MQ : MkQ K C0) (M : MkAt H C0 m ns ys rw_) (ok : MkOk ns rw_) (M' : MkAt H C0 m' ns' ys' rw') (ok' : MkOk ns' rw') (k : Q (.bl (if neg then !eqM ns rw_ ns' rw' else eqM ns rw_ ns' rw')) H) : rOwn K C0 neg (.ref m) (.ref m') H Q := by
  obtain ⟨dx, fs, hm, _⟩ := M.ins
  obtain ⟨dx', fs', hm', _⟩ := M'.ins
  exact ⟨m, dx, fs, _, rfl, hm, .ins hm', MQ.nm, m, _, ns, ys, rw_, rfl, M, ok, .inr ⟨m', ns', ys', rw', rfl, M', ok', _, rfl, k⟩⟩
theorem eq_lst {K : PySem.W.Frag} {C0 m a : Addr} {H : Hp} {ns ys : List Str} {rw_ : Str → List Str} {xs : List V} {neg : Bool} {Q : VK} (MQ : MkQ K C0) (M : MkAt H C0 m ns ys rw_) (ok : MkOk ns rw_) (h : H a = some (.lst xs)) (k : Q (.bl (if neg then true else false)) H) : rOwn K C0 neg (.ref m) (.ref a) H Q := by
  obtain ⟨dx, fs, hm, _⟩ := M.ins
  refine ⟨m, dx, fs, _, rfl, hm, .lst h, MQ.nl, m, _, ns, ys, rw_, rfl, M, ok, .inl ⟨_, .base (.lst h), MQ.kl, _, rfl, ?_⟩⟩
  cases neg <;> exact k
theorem eq_tup {K : PySem.W.Frag} {C0 m a : Addr} {H : Hp} {ns ys : List Str} {rw_ : Str → List Str} {xs : List V} {neg : Bool} {Q : VK} (MQ : MkQ K C0) (M : MkAt H C0 m ns ys rw_) (ok : MkOk ns rw_) (h : H a = some (.tup xs)) (k : Q (.bl (if neg then true else false)) H) : rOwn K C0 neg (.ref m) (.ref a) H Q := by
  obtain ⟨dx, fs, hm, _⟩ := M.ins
  refine ⟨m, dx, fs, _, rfl, hm, .tup h, MQ.nt, m, _, ns, ys, rw_, rfl, M, ok, .inl ⟨_, .base (.tup h), MQ.kt, _, rfl, ?_⟩⟩
  cases neg <;> exact k
theorem eq_dic {K : PySem.W.Frag} {C0 m a : Addr} {H : Hp} {ns ys : List Str} {rw_ : Str → List Str} {xs : List (Key × V)} {neg : Bool} {Q : VK} (MQ : MkQ K C0) (M : MkAt H C0 m ns ys rw_) (ok : MkOk ns rw_) (h : H a = some (.dK xs)) (k : Q (.bl (if neg then true else false)) H) : rOwn K C0 neg (.ref m) (.ref a) H Q := by
  obtain ⟨dx, fs, hm, _⟩ := M.ins
  refine ⟨m, dx, fs, _, rfl, hm, .dic h, MQ.nd, m, _, ns, ys, rw_, rfl, M, ok, .inl ⟨_, .base (.dK h), MQ.kd, _, rfl, ?_⟩⟩
  cases neg <;> exact k
/-- what stands at the start of the three parts: stream, people, wishes -/
structure Ini (T : List (Addr × Str)) (H : Hp) (a b c D : Addr) (B : Nat) (ns : List Str) (rw_ : Str → List Str) (as : List Addr) : Prop where
  S : Stm H a b B
  T : Tabs T H
  ca : c ≠ a
  cb : c ≠ b
  c : H c = some (.lst (ns.map V.str))
  R : RowsS a b H D ns rw_ as
  gn : GoodNs ns
  gr : GoodRows ns rw_
def spTR (T : List (Addr × Str)) : Sp := fun vs H Q _ => ∃ (a b c D : Addr) (B : Nat) (ns : List Str) (rw_ : Str → List Str) (as : List Addr), vs = [.ref a, .ref c, .ref D] ∧ Ini T H a b c D B ns rw_ as ∧ B + 3000000 ≤ 1000000000 ∧ ∀ H', UpS T a b H H' → Stm H' a b (B + 3000000) → Q (.bl true) H'
theorem Stm.two {H H' : Hp} {a b : Addr} {B : Nat} (S : Stm H a b B) (ka : ∀ o, H a = some o → H' a = some o) (kb : ∀ o, H b = some o → H' b = some o) : Stm H' a b B := by
  obtain ⟨ns, p, q, r, S, hq⟩ := S
  exact ⟨ns, p, q, r, ⟨S.ne, ka _ S.ha, kb _ S.hb, S.p0, S.q0, S.r0, S.r1⟩, hq⟩
theorem Tabs.keepS {T : List (Addr × Str)} {H H' : Hp} (t : Tabs T H) (k : ∀ q o, ((∃ ps, o = .tbl ps) ∨ ∃ φ, o = .ext φ) → H q = some o → H' q = some o) : Tabs T H' := by
  intro p hp
  obtain ⟨ps, h1, h2, h3⟩ := t p hp
  refine ⟨ps, k _ _ (.inl ⟨_, rfl⟩) h1, h2, fun pos cv hc => ?_⟩
  obtain ⟨c0, e1, e2⟩ := h3 pos cv hc
  exact ⟨c0, e1, k _ _ (.inr ⟨_, rfl⟩) e2⟩
section
variable {P : Program} {w : World} {K : PySem.W.Frag} {mg : Str → Option Value} {base : Heap}
end
end Mn
/-! an exception of an own class as a value: made, isinstance, == of one and the same -/
namespace Exo
open PySem PySem.Spec PyProof.Rows L2
abbrev veBm : List Value := [.type "ValueError", .type "Exception", .type "BaseException", .type "object"]
theorem cmp_ve : CmpFacts "ValueError" veBm where
  mro := by kernel_rfl
  eq := .of (owner := "object") (n := "__eq__") (by rw [typeLookup_type, builtinLookup_eq_fast]; kernel_rfl) (by decide +kernel) (by decide +kernel) (by decide +kernel)
    (by first | exact .inl (by decide +kernel) | exact .inr (by decide +kernel)) (by rw [isSubtype_type]; kernel_rfl)
  ne := .of (owner := "object") (n := "__ne__") (by rw [typeLookup_type, builtinLookup_eq_fast]; kernel_rfl) (by decide +kernel) (by decide +kernel) (by decide +kernel)
    (by first | exact .inl (by decide +kernel) | exact .inr (by decide +kernel)) (by rw [isSubtype_type]; kernel_rfl)
  hasObject := by decide +kernel
  noRef := fun a => by first | rfl | simp
/-- an own class right beneath ValueError that says nothing of its own -/
def excEq (K : PySem.W.Frag) (C : Addr) : Bool := match K.lookup C with
  | some ⟨.type "type", _, .cls cd, sl⟩ => (match cd.mro, sl.toList with
    | .ref C' :: bm, [_, _, _, _, some (.builtin n), _] => C' == C && n == "ValueError.__new__" && !cd.hasDel && bm == veBm && PySem.W.nsOkIn K cd.ns && PySem.W.nsIn K cd.ns "__init__" == some none && PySem.W.nsIn K cd.ns "__eq__" == some none && PySem.W.nsIn K cd.ns "__ne__" == some none
    | _, _ => false)
  | _ => false
theorem excEq_obj {K : PySem.W.Frag} {h : Heap} {C : Addr} (X : K.In h) (q : excEq K C = true) :
    ∃ N nm qn bs hdct sn sub ab col dd k0 k1 k2 k3 k5 mN, h.get? C = some (excClassObj nm qn C N bs veBm hdct sn sub ab col dd k0 k1 k2 k3 k5 "ValueError.__new__") ∧ h.Ns N mN ∧ mN "__init__" = none ∧ mN "__eq__" = none ∧ mN "__ne__" = none := by
  unfold excEq at q
  split at q
  · rename_i dd cd sl ho
    split at q
    · rename_i C' bm k0 k1 k2 k3 n k5 hm hs
      simp only [Bool.and_eq_true, beq_iff_eq, Bool.not_eq_true'] at q
      obtain ⟨⟨⟨⟨⟨⟨⟨rfl, rfl⟩, hdel⟩, rfl⟩, hok⟩, hni⟩, heq⟩, hne⟩ := q
      obtain ⟨nm, bs, mro, ns, qn, hd, sn, sub, ab, col, del⟩ := cd
      dsimp only at hm hdel hok hni heq hne
      subst hm hdel
      have hsl : sl = #[k0, k1, k2, k3, some (.builtin "ValueError.__new__"), k5] := by
        obtain ⟨l⟩ := sl
        simp only at hs
        rw [hs]
      subst hsl
      exact ⟨ns, nm, qn, bs, hd, sn, sub, ab, col, dd, k0, k1, k2, k3, k5, _, X _ _ ho, .of_isNs (PySem.W.isNs_of_in X hok), PySem.W.nsMap_none_of_in X hok hni, PySem.W.nsMap_none_of_in X hok heq, PySem.W.nsMap_none_of_in X hok hne⟩
    · cases q
  · cases q
end Exo
namespace Mn
open PySem PySem.Spec PyProof.Rows L2 Md Me Ml LamX
def rIsiE (K : PySem.W.Frag) : List V → Hp → VK → Prop := fun xs H Q => ∃ (a C : Addr) (c : V) (u : Value) (b : Bool), xs = [.ref a, c] ∧ ClsV c u ∧ H a = some (ExO (.ref C) a) ∧ ExcC K C ∧ PySem.W.kitOne K (.ref C) u = some b ∧ Q (.bl b) H
def rIsiET (K : PySem.W.Frag) : List V → Hp → VK → Prop := fun xs H Q => ∃ (a C tp : Addr) (cs : List V) (us : List Value) (b : Bool), xs = [.ref a, .ref tp] ∧ H tp = some (.tup cs) ∧ Paired ClsV cs us ∧ H a = some (ExO (.ref C) a) ∧ ExcC K C ∧ PySem.W.kitAny K (.ref C) us = some b ∧ Q (.bl b) H
def rEqE (K : PySem.W.Frag) : R2 := fun x y H Q => ∃ a C : Addr, x = .ref a ∧ y = .ref a ∧ H a = some (ExO (.ref C) a) ∧ Exo.excEq K C = true ∧ Q (.bl true) H
theorem exo_inst {P : Program} {w : World} {H : Hp} {h : Heap} {a C : Addr} (x : HOk P w H h) (e : H a = some (ExO (.ref C) a)) : ∃ oe, PySem.W.InstAt h a oe C none := by
  obtain ⟨⟨oe, vs, ho, hz, hv, h1, _⟩, _, _⟩ := x a _ e
  refine ⟨oe, ?_⟩
  obtain ⟨oc, od, oda, osl⟩ := oe
  obtain ⟨h1, h2⟩ := hz
  dsimp only at h1 h2 hv
  subst h1 h2 hv
  exact ⟨ho, rfl, rfl, trivial⟩
section
variable {X : Cx}
theorem call_isiE : CallR X (.builtin "isinstance") (rIsiE X.K) := by
  intro pins s σ H xs us Q I r h
  obtain ⟨a, D, c, u, b, rfl, k, ha, C, e, q⟩ := h
  obtain ⟨u1, u2, rfl, r1, r2⟩ := vals2 r
  have e3 := k.eq r2
  subst e3
  cases (show u1 = Value.ref a from r1)
  obtain ⟨oe, J⟩ := exo_inst I.hok ha
  exact PySem.W.kia_one (PySem.W.handS_kitx_exc C.hg C.hk C.hs C.hd C.ha C.hn C.ht C.hm) I.kIn J e (fun z => nomatch z) fun tk => ⟨.bl b, H, I.tok tk, rfl, q⟩
theorem call_isiET : CallR X (.builtin "isinstance") (rIsiET X.K) := by
  intro pins s σ H xs us Q I r h
  obtain ⟨a, D, tp, cs, ws, b, rfl, hT, k, ha, C, e, q⟩ := h
  obtain ⟨u1, u2, rfl, r1, r2⟩ := vals2 r
  cases (show u2 = Value.ref tp from r2)
  cases (show u1 = Value.ref a from r1)
  obtain ⟨_, its, rv, o, h1, h2, n, h3⟩ := (show ObjOk X.prog X.w H s.heap tp (.tup cs) from I.hok tp _ hT)
  have e3 := ClsV.all k rv
  subst e3
  obtain ⟨oc, od, dt, sl⟩ := o
  simp only at h2 h3
  subst h2 h3
  obtain ⟨oe, J⟩ := exo_inst I.hok ha
  exact PySem.W.kia_tup (PySem.W.handS_kitx_exc C.hg C.hk C.hs C.hd C.ha C.hn C.ht C.hm) I.kIn J h1 e (fun z => nomatch z) fun tk => ⟨.bl b, H, I.tok tk, rfl, q⟩
theorem op_eqE (hu : X.A.units < cLine) : OpR X (compareOp .Eq) (rEqE X.K) := by
  intro pins s σ H x y v u Q I rx ry h
  obtain ⟨a, C, rfl, rfl, ha, q0, q⟩ := h
  cases (show v = Value.ref a from rx)
  cases (show u = Value.ref a from ry)
  obtain ⟨oe, J⟩ := exo_inst I.hok ha
  obtain ⟨N, nm, qn, bs, hdct, sn, sub, ab, col, dd, k0, k1, k2, k3, k5, mN, hC, hN, _, he, hn⟩ := Exo.excEq_obj I.kIn q0
  have CI : s.heap.CmpInst a C Exo.veBm := ⟨oe, nm, qn, N, bs, hdct, sn, sub, ab, col, dd, k0, k1, k2, k3, k5, _, mN, J.at_, J.cls, hC, hN, he, hn⟩
  obtain ⟨hp, g, d, t, os⟩ := s
  exact richCompare_eq_same Exo.cmp_ve CI hu ⟨.bl true, H, I, rfl, q⟩
/-- X(), an own exception class that says nothing of its own, as a value: a new exception object -/
theorem pe_exc0 {C : Addr} {x : Str} {p pos : Pos} (q : Exo.excEq X.K C = true) (gC : X.mg x = some (.ref C)) (kC : PySem.W.keepIn X.K (.ref C) = true) (hg : Gl X x) (hdb : (x == ("__debug__" : Str)) = false := by decide) :
    PE X (.Call (.Name x p) [] [] pos) (fun σ H Q => ∀ a, H a = none → Q (.ref a) (upd H a (ExO (.ref C) a))) := by
  refine ⟨fun pins s σ H Q I h => ?_⟩
  refine wpAny_Call_Name_kw (ld_glob I hg gC ?_ hdb)
  refine PySem.W.callWith_K0 I.kIn kC ?_
  obtain ⟨N, nm, qn, bs, hdct, sn, sub, ab, col, dd, k0, k1, k2, k3, k5, mN, hC, hN, hni, _, _⟩ := Exo.excEq_obj I.kIn q
  obtain ⟨hp, g, d, t, os⟩ := s
  refine wpAny_call_exc_subT PySem.F.excBase_ValueError .base hC hN hni (fun h' a hm => ?_) (by show 0 ≤ sizeLine; rw [sizeLine_eq]; omega)
  have hn : H a = none := I.hok.gone hm.new
  obtain ⟨t, ht, _, _⟩ := hm.there
  exact ⟨.ref a, upd H a (ExO (.ref C) a), I.laidN hm.keeps hm.new hn (exO_ok ht ⟨rfl, rfl⟩ rfl rfl rfl (show 4 < 6 by decide)), rfl, h a hn⟩
end
end Mn
/-! is_one_of with a tuple; check_market; needs_fault -/
namespace Mn
open PySem PySem.Spec PyProof.Rows L2 Md Me Ml LamX Mi Mo
abbrev sChk : Stmt := top 26
abbrev sRowsOf : Stmt := top 28
/-- no market -/
def NoMk (K : PySem.W.Frag) (C0 : Addr) (H : Hp) (v : V) : Prop := (∃ t, TyX K H v t ∧ PySem.W.kitOne K t (.ref C0) = some false) ∨ ∃ a C : Addr, v = .ref a ∧ H a = some (ExO (.ref C) a) ∧ ExcC K C ∧ PySem.W.kitOne K (.ref C) (.ref C0) = some false
theorem NoMk.same {K : PySem.W.Frag} {C0 : Addr} {H H' : Hp} {v : V} (s : Same H H') (h : NoMk K C0 H v) : NoMk K C0 H' v :=
  h.imp (fun ⟨t, ty, e⟩ => ⟨t, TyX.same s ty, e⟩) fun ⟨a, C, e, h, c, q⟩ => ⟨a, C, e, s _ _ h, c, q⟩
def spChk (K : PySem.W.Frag) (C0 : Addr) : Sp := fun vs H Q E => ∃ v : V, vs = [v] ∧ ((∃ (m dx : Addr) (fs : List (Str × V)), v = .ref m ∧ H m = some (.ins C0 dx fs) ∧ Q .non H) ∨
  (NoMk K C0 H v ∧ ∀ (H' : Hp) (d : Addr), Same H H' → H' d = some (.xd [("thing", v)]) → E (.ref (He.ga K "BadMarket")) (some d) H'))
/-- the rows of a market, for no person in particular -/
def spRowsOf (K : PySem.W.Frag) (C0 : Addr) : Sp := fun vs H Q E => ∃ (v : V) (p : Addr), vs = [v, .ref p] ∧ H p = some (.lst []) ∧
  ((∃ (m : Addr) (ns ys : List Str) (rw_ : Str → List Str), v = .ref m ∧ MkAt H C0 m ns ys rw_ ∧ ns.Nodup ∧ ns.length ≤ 63 ∧ ∀ (H' : Hp) (D : Addr) (bs : List Addr), Same H H' → RowsF H H' D ys rw_ bs → Q (.ref D) H') ∨
   (NoMk K C0 H v ∧ ∀ (H' : Hp) (d : Addr), Same H H' → H' d = some (.xd [("thing", v)]) → E (.ref (He.ga K "BadMarket")) (some d) H'))
def spNever : Sp := fun _ _ _ _ => False
theorem never {CX : CXT} {P : Program} {w : World} {K : PySem.W.Frag} {mg : Str → Option Value} {base : Heap} {k : Nat} {f : Addr} {fd : FuncData} {ps : List Str} : FnOk P w K mg base CX k f fd ps spNever := ⟨fun _ _ _ _ h => h.elim, fun _ _ _ _ _ _ _ _ _ _ _ _ _ h => h.elim⟩
section
variable {P : Program} {w : World} {K : PySem.W.Frag} {mg : Str → Option Value} {base : Heap}
theorem scChk : FnScope ["market"] ["market"] (defScope sChk) := ⟨rfl, rfl, rfl, by decide +kernel, rfl, by decide +kernel, by decide +kernel⟩
theorem ok_chk {f fE C0 : Addr} {fd fdB : FuncData} (F : Fun K "check_market" "check_market" sChk f fd) (M : MkE K C0 fE) (gM : mg "Market" = some (.ref C0)) (BM : ExX K mg "BadMarket" "thing") (FB : FnOk P w K mg base CX0 1 (He.ma K (He.ga K "BadMarket") "__init__") fdB ["self", "thing"] (spI1 K "thing")) (bB : Binds K fdB ["self", "thing"] [])
    (gI : mg "isinstance" = none) : FnOk P w K mg base (L2.CX P w) 3 f fd ["market"] (spChk K C0) := by
  refine F.okX scChk (fun vs H Q E h => ?_) (fun cdv A outer s H vs Q E hr h => ?_)
  · obtain ⟨v, rfl, _⟩ := h
    rfl
  · obtain ⟨v, rfl, h⟩ := h
    refine ⟨_, pss_one (ps_if (pt_not (pt_val (pe_callB (Mo.callR_or call_isi call_isiE) (by rfl) gI boot_isinstance (pa_cons (pv 0) (pa_cons (pe_glob rfl gM (v := .ref C0) rfl) pa_nil))))) (pss_one (ps_raise rfl (takes_of rfl rfl rfl rfl) (pmk_oex BM.ox BM.iC BM.tI FB (hr.mono (by decide)) bB .nil pass0 rfl BM.g (pa_cons (pv 0) pa_nil)))) pss_nil), ?_⟩
    rcases h with ⟨m, dx, fs, rfl, hm, k⟩ | ⟨nk, k⟩
    · exact ⟨_, rfl, .inl ⟨_, _, _, _, true, rfl, .own _, M.ty hm, kit_self, true, rfl, iteF k⟩⟩
    · have fin : ∀ a, H a = none → spI1 K "thing" (.ref a :: ([v] ++ [])) (upd H a (exo a (He.ga K "BadMarket") none)) (fun u H2 => u = .non ∧ ∃ (d : Addr) (fs : List (Str × V)), H2 a = some (exo a (He.ga K "BadMarket") (some d)) ∧ H2 d = some (exd d fs) ∧ H d = none ∧ E (.ref (He.ga K "BadMarket")) (some d) (upd (del H2 a) d (.xd fs))) (fun _ _ _ => False) :=
        raised1 BM.ox BM.no fun H' d s n e => k H' d s e
      rcases nk with ⟨t, ty, e⟩ | ⟨a, C, ev, ha, ec, e⟩
      · exact ⟨_, rfl, .inl ⟨_, _, _, _, false, rfl, .own _, ty, e, false, rfl, iteT ⟨_, rfl, (show 1 ≤ 1000 by decide), fin⟩⟩⟩
      · exact ⟨_, rfl, .inr ⟨a, C, _, _, false, by rw [ev], .own _, ha, ec, e, false, rfl, iteT ⟨_, rfl, (show 1 ≤ 1000 by decide), fin⟩⟩⟩
theorem scRowsOf : FnScope ["market", "people", "rows", "person"] ["market", "people"] (defScope sRowsOf) := ⟨rfl, rfl, rfl, by decide +kernel, rfl, by decide +kernel, by decide +kernel⟩
theorem passL {X : Cx} {E : XK} (tk : Takes X (fun cls d _ H => E cls d H)) : Passes (L2.CX X.prog X.w) X E := passes_call tk (fun _ _ _ _ h => h)
theorem ok_rowsOf {f fC fW fP C0 : Addr} {fd fdC fdW fdP : FuncData} (F : Fun K "rows_of" "rows_of" sRowsOf f fd) (MC : MkC K C0)
    (GC : FnOk P w K mg base (L2.CX P w) 3 fC fdC ["market"] (spChk K C0)) (kC : PySem.W.keepIn K (.ref fC) = true) (bC : Binds K fdC ["market"] []) (gC : mg "check_market" = some (.ref fC))
    (GW : FnOk P w K mg base CX0 1 fW fdW ["self"] (spWishesM C0)) (mW : Meth K C0 "wishes" fW) (bW : Binds K fdW ["self"] [])
    (kP : PySem.W.keepIn K (.ref fP) = true) (bP : Binds K fdP ["people", "person"] []) (gP : mg "check_person" = some (.ref fP)) : FnOk P w K mg base (L2.CX P w) 4 f fd ["market", "people"] (spRowsOf K C0) := by
  refine F.okX scRowsOf (fun vs H Q E h => ?_) (fun cdv A outer s H vs Q E hr h => ?_)
  · obtain ⟨v, p, rfl, _⟩ := h
    rfl
  · obtain ⟨v, p, rfl, hp, h⟩ := h
    have nd := scRowsOf.nd
    have GP : FnOk P w K mg base CX0 1 fP fdP ["people", "person"] spNever := never
    refine ⟨_, pss_cons (ps_expr (pe_call (E := E) GC (hr.mono (by decide)) rfl gC kC bC .nil (passL (takes_of rfl rfl rfl rfl)) (pa_cons (pv 0) pa_nil)))
      (pss_cons (ps_set (i := 2) nd rfl (Or.inl rfl) (pe_meth0 (pv 0) MC.c mW GW (hr.mono (by decide)) bW .nil pass0))
      (pss_cons (ps_for (passes_of rfl) rfl (pi_list (pv 1)) (pg_name (i := 3) nd rfl (Or.inl rfl)) (pss_one (ps_expr (pe_call GP (hr.mono (by decide)) rfl gP kP bP .nil pass0 (pa_cons (pv 2) (pa_cons (pv 3) pa_nil))))))
      (pss_one (ps_ret (pv 2))))), ?_⟩
    rcases h with ⟨m, ns, ys, rw_, rfl, M, ndn, hl, k⟩ | ⟨hb, k⟩
    · obtain ⟨dm, fm, hm, l1, l2, l3⟩ := M.ins
      refine ⟨_, rfl, _, rfl, .inl ⟨m, dm, fm, rfl, hm, ?_⟩⟩
      refine ⟨_, rfl, m, dm, fm, rfl, hm, l2, m, ns, ys, rw_, rfl, M, ndn, hl, fun H1 D bs s1 R => ?_⟩
      refine ⟨_, rfl, p, rfl, ⟨_, SqL.of (s1 _ _ hp)⟩, ?_⟩
      refine for_it (walk_list (xs := [])) (fun i σ H' => H' = H1 ∧ ∃ o, σ = [some (.ref m), some (.ref p), some (.ref D), o]) ⟨rfl, _, rfl⟩ (fun i σ H' _ h => by
        rw [h.1]
        exact SqL.of (s1 _ _ hp)) (fun i v σ H1 H2 hi => absurd hi (by simp)) ?_
      rintro σ H2 ⟨rfl, o, rfl⟩
      exact ⟨_, rfl, k _ D bs s1 R⟩
    · exact ⟨_, rfl, v, rfl, .inr ⟨hb, fun H' d s e => k H' d s e⟩⟩
end
end Mn
/-! Asking: everybody asks the first of its row, who strikes all behind; what is left does not hang on the order -/
namespace Ak
variable {α : Type} [DecidableEq α]
/-- somebody's place in a row -/
def rk (R : α → List α) (x a : α) : Nat := (R x).idxOf a
structure Tab (R T : α → List α) : Prop where
  mem : ∀ x y, y ∈ T x → y ∈ R x
  ord : ∀ x, (T x).Pairwise fun a b => rk R x a < rk R x b
  sym : ∀ x y, y ∈ T x → x ∈ T y
def Held (T : α → List α) (u : α) : Prop := ∃ y, (T u).getLast? = some y ∧ (T y).head? = some u
structure Inv (R T : α → List α) : Prop extends Tab R T where
  gone : ∀ u v, v ∈ R u → v ∉ T u → (Held T u ∧ ∀ w ∈ T u, rk R u w < rk R u v) ∨ (Held T v ∧ ∀ w ∈ T v, rk R v w < rk R v u)
/-- what is left when x asks f -/
def cut (R T : α → List α) (x f u : α) : List α := (T u).filter fun v => !(decide (u = f) && decide (rk R f x < rk R f v)) && !(decide (v = f) && decide (rk R f x < rk R f u))
theorem mem_cut {R T : α → List α} {x f u v : α} : v ∈ cut R T x f u ↔ v ∈ T u ∧ ¬ (u = f ∧ rk R f x < rk R f v) ∧ ¬ (v = f ∧ rk R f x < rk R f u) := by
  unfold cut
  rw [List.mem_filter, Bool.and_eq_true]
  refine and_congr_right fun _ => and_congr ?_ ?_
  · rw [Bool.not_eq_true', Bool.and_eq_false_iff, decide_eq_false_iff_not, decide_eq_false_iff_not]
    exact ⟨fun h z => h.elim (fun h => h z.1) fun h => h z.2, fun h => by
      by_cases c : u = f
      · exact .inr fun z => h ⟨c, z⟩
      · exact .inl c⟩
  · rw [Bool.not_eq_true', Bool.and_eq_false_iff, decide_eq_false_iff_not, decide_eq_false_iff_not]
    exact ⟨fun h z => h.elim (fun h => h z.1) fun h => h z.2, fun h => by
      by_cases c : v = f
      · exact .inr fun z => h ⟨c, z⟩
      · exact .inl c⟩
section
variable {r : α → Nat}
theorem head_le {l : List α} (o : l.Pairwise fun a b => r a < r b) {h w : α} (hh : l.head? = some h) (hw : w ∈ l) : w = h ∨ r h < r w := by
  cases l with
  | nil => cases hh
  | cons a t =>
    cases hh
    rcases List.mem_cons.mp hw with rfl | hw
    · exact .inl rfl
    · exact .inr (List.rel_of_pairwise_cons o hw)
theorem head_of {l : List α} (o : l.Pairwise fun a b => r a < r b) {h : α} (hw : h ∈ l) (le : ∀ w ∈ l, r h ≤ r w) : l.head? = some h := by
  cases l with
  | nil => cases hw
  | cons a t =>
    rcases List.mem_cons.mp hw with rfl | hw
    · rfl
    · have := List.rel_of_pairwise_cons o hw
      have := le a List.mem_cons_self
      omega
theorem last_le {l : List α} (o : l.Pairwise fun a b => r a < r b) {h w : α} (hh : l.getLast? = some h) (hw : w ∈ l) : w = h ∨ r w < r h := by
  obtain ⟨t, rfl⟩ := List.getLast?_eq_some_iff.mp hh
  rcases List.mem_append.mp hw with hw | hw
  · exact .inr ((List.pairwise_append.mp o).2.2 w hw h (by simp))
  · exact .inl (List.mem_singleton.mp hw)
theorem last_of {l : List α} (o : l.Pairwise fun a b => r a < r b) {h : α} (hw : h ∈ l) (le : ∀ w ∈ l, r w ≤ r h) : l.getLast? = some h := by
  have ne : l ≠ [] := List.ne_nil_of_mem hw
  obtain ⟨z, hz⟩ : ∃ z, l.getLast? = some z := ⟨_, List.getLast?_eq_some_getLast ne⟩
  rcases last_le o hz hw with rfl | q
  · exact hz
  · have := le z (List.mem_of_getLast? hz)
    omega
end
section
variable {R T T1 : α → List α} {x f : α}
theorem head_mem {l : List α} {h : α} (e : l.head? = some h) : h ∈ l := by
  cases l with
  | nil => cases e
  | cons a t =>
    cases e
    exact List.mem_cons_self
theorem Tab.cut (I : Tab R T) : Tab R (cut R T x f) :=
  ⟨fun u v h => I.mem u v (mem_cut.mp h).1, fun u => (I.ord u).sublist List.filter_sublist, fun u v h => by
    obtain ⟨h1, h2, h3⟩ := mem_cut.mp h
    exact mem_cut.mpr ⟨I.sym u v h1, h3, h2⟩⟩
theorem Inv.held (I : Inv R T) (hx : (T x).head? = some f) : (cut R T x f f).getLast? = some x ∧ (cut R T x f x).head? = some f := by
  have xf := I.sym x f (head_mem hx)
  have C := I.toTab.cut (x := x) (f := f)
  have m1 : x ∈ cut R T x f f := mem_cut.mpr ⟨xf, fun z => Nat.lt_irrefl _ z.2, fun z => by
    have h := z.2
    rw [z.1] at h
    exact Nat.lt_irrefl _ h⟩
  have m2 := C.sym f x m1
  refine ⟨last_of (r := rk R f) (C.ord f) m1 fun w hw => ?_, head_of (r := rk R x) (C.ord x) m2 fun w hw => ?_⟩
  · have := (mem_cut.mp hw).2.1
    exact Nat.le_of_not_lt fun z => this ⟨rfl, z⟩
  · rcases head_le (I.ord x) hx (mem_cut.mp hw).1 with rfl | q
    · exact Nat.le_refl _
    · exact Nat.le_of_lt q
theorem Inv.keep (I : Inv R T) (hx : (T x).head? = some f) {u : α} (h : Held T u) : Held (Ak.cut R T x f) u := by
  by_cases e : u = f
  · rw [e]
    exact ⟨x, I.held hx⟩
  obtain ⟨y, h1, h2⟩ := h
  have C := I.toTab.cut (x := x) (f := f)
  have xf := I.sym x f (head_mem hx)
  have m1 : y ∈ Ak.cut R T x f u := mem_cut.mpr ⟨List.mem_of_getLast? h1, fun z => e z.1, fun ⟨z1, z2⟩ => by
    rw [z1] at h2
    rcases head_le (I.ord f) h2 xf with q | q
    · rw [q] at z2
      exact Nat.lt_irrefl _ z2
    · omega⟩
  have m2 := C.sym u y m1
  refine ⟨y, last_of (r := rk R u) (C.ord u) m1 fun w hw => ?_, head_of (r := rk R y) (C.ord y) m2 fun w hw => ?_⟩
  · rcases last_le (I.ord u) h1 (mem_cut.mp hw).1 with rfl | q
    · exact Nat.le_refl _
    · exact Nat.le_of_lt q
  · rcases head_le (I.ord y) h2 (mem_cut.mp hw).1 with rfl | q
    · exact Nat.le_refl _
    · exact Nat.le_of_lt q
theorem Inv.cut (I : Inv R T) (hx : (T x).head? = some f) : Inv R (Ak.cut R T x f) := by
  have le : ∀ w ∈ Ak.cut R T x f f, rk R f w ≤ rk R f x := fun w hw => Nat.le_of_not_lt fun z => (mem_cut.mp hw).2.1 ⟨rfl, z⟩
  refine ⟨I.toTab.cut, fun u v hv nv => ?_⟩
  by_cases c : v ∈ T u
  · by_cases d : u = f ∧ rk R f x < rk R f v
    · rw [d.1]
      exact .inl ⟨⟨x, I.held hx⟩, fun w hw => Nat.lt_of_le_of_lt (le w hw) d.2⟩
    · by_cases d2 : v = f ∧ rk R f x < rk R f u
      · rw [d2.1]
        exact .inr ⟨⟨x, I.held hx⟩, fun w hw => Nat.lt_of_le_of_lt (le w hw) d2.2⟩
      · exact absurd (mem_cut.mpr ⟨c, d, d2⟩) nv
  · rcases I.gone u v hv c with ⟨h1, h2⟩ | ⟨h1, h2⟩
    · exact .inl ⟨I.keep hx h1, fun w hw => h2 w (mem_cut.mp hw).1⟩
    · exact .inr ⟨I.keep hx h1, fun w hw => h2 w (mem_cut.mp hw).1⟩
/-- who asks is last in the row of its first -/
def Cl (T : α → List α) (z : α) : Prop := ∀ f, (T z).head? = some f → (T f).getLast? = some z
theorem Inv.closed (I : Inv R T) (hx : (T x).head? = some f) {A A' : α → Prop} (h : ∀ z, T z ≠ [] → A z ∨ z = x ∨ Cl T z) (sub : ∀ z, A z → A' z) (new : ∀ z, z ∈ T f → rk R f x < rk R f z → (T z).head? = some f → A' z) : ∀ z, Ak.cut R T x f z ≠ [] → A' z ∨ Cl (Ak.cut R T x f) z := fun z nz => by
  have C := I.toTab.cut (x := x) (f := f)
  have xf := I.sym x f (head_mem hx)
  have nT : T z ≠ [] := fun e => nz (by unfold Ak.cut; rw [e]; rfl)
  rcases h z nT with q | rfl | q
  · exact .inl (sub z q)
  · refine .inr fun g hg => ?_
    rw [(I.held hx).2] at hg
    cases hg
    exact (I.held hx).1
  · obtain ⟨g, hg⟩ : ∃ g, (T z).head? = some g := by
      cases e : T z with
      | nil => exact absurd e nT
      | cons a t => exact ⟨a, rfl⟩
    by_cases m : g ∈ Ak.cut R T x f z
    · refine .inr fun g' hg' => ?_
      have e : g' = g := by
        have h1 := head_of (r := rk R z) (C.ord z) m fun w hw => by
          rcases head_le (I.ord z) hg (mem_cut.mp hw).1 with rfl | q
          · exact Nat.le_refl _
          · exact Nat.le_of_lt q
        rw [h1] at hg'
        exact (Option.some.inj hg').symm
      rw [e]
      have m2 := C.sym z g m
      exact last_of (r := rk R g) (C.ord g) m2 fun w hw => by
        rcases last_le (I.ord g) (q g hg) (mem_cut.mp hw).1 with rfl | q
        · exact Nat.le_refl _
        · exact Nat.le_of_lt q
    · by_cases d : z = f ∧ rk R f x < rk R f g
      · obtain ⟨rfl, d2⟩ := d
        rcases head_le (I.ord z) hg xf with q | q
        · rw [q] at d2
          exact absurd d2 (Nat.lt_irrefl _)
        · omega
      · by_cases d2 : g = f ∧ rk R f x < rk R f z
        · rw [d2.1] at hg
          exact .inl (new z (I.sym z f (head_mem hg)) d2.2 hg)
        · exact absurd (mem_cut.mpr ⟨head_mem hg, d, d2⟩) m
/-- what is left of a closed one is left by every step -/
theorem cut_above (I : Inv R T) (hx : (T x).head? = some f) (I1 : Inv R T1) (C1 : ∀ z, Cl T1 z) (sub : ∀ u v, v ∈ T1 u → v ∈ T u) : ∀ u v, v ∈ T1 u → v ∈ Ak.cut R T x f u := by
  have no : ∀ o, o ∈ T1 f → ¬ rk R f x < rk R f o := fun o ho lt => by
    have fx := head_mem hx
    by_cases c : f ∈ T1 x
    · have hd : (T1 x).head? = some f := head_of (r := rk R x) (I1.ord x) c fun w hw => by
        rcases head_le (I.ord x) hx (sub x w hw) with rfl | q
        · exact Nat.le_refl _
        · exact Nat.le_of_lt q
      rcases last_le (I1.ord f) (C1 x f hd) ho with rfl | q
      · exact Nat.lt_irrefl _ lt
      · omega
    · rcases I1.gone x f (I.mem x f fx) c with ⟨⟨y, h1, _⟩, h2⟩ | ⟨_, h2⟩
      · have hy := List.mem_of_getLast? h1
        have := h2 y hy
        rcases head_le (I.ord x) hx (sub x y hy) with rfl | q
        · exact Nat.lt_irrefl _ this
        · omega
      · have := h2 o ho
        omega
  exact fun u v h => mem_cut.mpr ⟨sub u v h, fun z => no v (z.1 ▸ h) z.2, fun z => no u (z.1 ▸ I1.sym u v h) z.2⟩
theorem ord_eq {r : α → Nat} : ∀ {l m : List α}, l.Pairwise (fun a b => r a < r b) → m.Pairwise (fun a b => r a < r b) → (∀ a, a ∈ l ↔ a ∈ m) → l = m
  | [], [], _, _, _ => rfl
  | [], b :: m, _, _, h => absurd ((h b).mpr List.mem_cons_self) (by simp)
  | a :: l, [], _, _, h => absurd ((h a).mp List.mem_cons_self) (by simp)
  | a :: l, b :: m, ol, om, h => by
    have e : a = b := by
      rcases List.mem_cons.mp ((h a).mp List.mem_cons_self) with q | q
      · exact q
      · rcases List.mem_cons.mp ((h b).mpr List.mem_cons_self) with q2 | q2
        · exact q2.symm
        · have := List.rel_of_pairwise_cons ol q2
          have := List.rel_of_pairwise_cons om q
          omega
    subst e
    congr 1
    refine ord_eq (List.pairwise_cons.mp ol).2 (List.pairwise_cons.mp om).2 fun z => ⟨fun hz => ?_, fun hz => ?_⟩
    · rcases List.mem_cons.mp ((h z).mp (List.mem_cons_of_mem _ hz)) with q | q
      · have := List.rel_of_pairwise_cons ol hz
        rw [q] at this
        exact absurd this (Nat.lt_irrefl _)
      · exact q
    · rcases List.mem_cons.mp ((h z).mpr (List.mem_cons_of_mem _ hz)) with q | q
      · have := List.rel_of_pairwise_cons om hz
        rw [q] at this
        exact absurd this (Nat.lt_irrefl _)
      · exact q
/-- a party: who is next to whom, and ahead of whom -/
structure Pty (R : α → List α) (nx ah : α → α) : Prop where
  may : ∀ p, nx p ≠ p → nx p ∈ R p
  an : ∀ p, ah (nx p) = p
  na : ∀ p, nx (ah p) = p
  turned : ∀ p, nx p ≠ p → nx p = ah p ∨ rk R p (nx p) < rk R p (ah p)
  stay : ∀ p q, q ∈ R p → ¬ (rk R p q < rk R p (ah p) ∧ rk R q p < rk R q (ah q))
theorem cut_pty {nx ah : α → α} (I : Inv R T) (hx : (T x).head? = some f) (ir : ∀ p, p ∉ R p) (P : Pty R nx ah) (sub : ∀ p, nx p ≠ p → nx p ∈ T p) : ∀ p, nx p ≠ p → nx p ∈ Ak.cut R T x f p := by
  have fx := head_mem hx
  have fxR := I.mem x f fx
  have nfx : f ≠ x := fun z => ir x (z ▸ fxR)
  have self : ∀ p q, q ∈ R p → rk R p q < rk R p p := fun p q h => by
    unfold rk
    rw [List.idxOf_eq_length (ir p)]
    exact List.idxOf_lt_length_of_mem h
  have pair : ∀ p, nx p ≠ p → ah p ≠ p ∧ ah p ∈ T p := fun p h => by
    have h1 : ah p ≠ p := fun z => h (by have := P.na p; rw [z] at this; exact this)
    refine ⟨h1, ?_⟩
    have h2 := sub (ah p) (fun z => h1 (by rw [P.na] at z; exact z.symm))
    rw [P.na] at h2
    exact I.sym _ _ h2
  have no : ∀ o, nx f ≠ f → (o = nx f ∨ o = ah f) → ¬ rk R f x < rk R f o := fun o hf ho lt => by
    have l1 : rk R f x < rk R f (ah f) := by
      rcases ho with rfl | rfl
      · rcases P.turned f hf with q | q
        · rw [← q]
          exact lt
        · omega
      · exact lt
    have l2 : rk R x f < rk R x (ah x) := by
      by_cases c : nx x = x
      · have : ah x = x := by have := P.an x; rw [c] at this; exact this
        rw [this]
        exact self x f fxR
      · obtain ⟨h1, h2⟩ := pair x c
        rcases head_le (I.ord x) hx h2 with q | q
        · exfalso
          have nf : nx f = x := by rw [← q]; exact P.na x
          rcases P.turned x c with t | t
          · have e : ah f = x := by
              have := P.an x
              rw [t, q] at this
              exact this
            rcases ho with rfl | rfl
            · rw [nf] at lt
              exact Nat.lt_irrefl _ lt
            · rw [e] at lt
              exact Nat.lt_irrefl _ lt
          · rw [q] at t
            rcases head_le (I.ord x) hx (sub x c) with w | w
            · rw [w] at t
              exact Nat.lt_irrefl _ t
            · omega
        · exact q
    exact P.stay x f fxR ⟨l2, l1⟩
  intro p hp
  refine mem_cut.mpr ⟨sub p hp, fun z => ?_, fun z => ?_⟩
  · obtain ⟨rfl, z2⟩ := z
    exact no (nx p) hp (.inl rfl) z2
  · have hf : nx f ≠ f := fun w => by
      have h1 := P.an p
      have h2 := P.an f
      rw [w] at h2
      rw [z.1, h2] at h1
      exact hp (by rw [z.1, h1])
    exact no p hf (.inr (by rw [← z.1]; exact (P.an p).symm)) z.2
/-- what every run keeps -/
structure Run (R T : α → List α) : Prop where
  i : Inv R T
  up : ∀ T1 : α → List α, Inv R T1 → (∀ z, Cl T1 z) → ∀ u v, v ∈ T1 u → v ∈ T u
  pty : ∀ nx ah : α → α, Pty R nx ah → ∀ p, nx p ≠ p → nx p ∈ T p
theorem Run.cut (ir : ∀ p, p ∉ R p) (r : Run R T) (hx : (T x).head? = some f) : Run R (Ak.cut R T x f) :=
  ⟨r.i.cut hx, fun T1 I1 C1 => cut_above r.i hx I1 C1 (r.up T1 I1 C1), fun nx ah P => cut_pty r.i hx ir P (r.pty nx ah P)⟩
theorem ord_rk (nd : ∀ p, (R p).Nodup) (x : α) : (R x).Pairwise fun a b => rk R x a < rk R x b := by
  refine List.pairwise_iff_getElem.mpr fun i j hi hj lt => ?_
  unfold rk
  rw [(nd x).idxOf_getElem i hi, (nd x).idxOf_getElem j hj]
  exact lt
theorem Run.start (nd : ∀ p, (R p).Nodup) (sym : ∀ x y, y ∈ R x → x ∈ R y) : Run R R :=
  ⟨⟨⟨fun _ _ h => h, ord_rk nd, sym⟩, fun u v h n => absurd h n⟩, fun T1 I1 _ u v h => I1.mem u v h, fun nx ah P p h => P.may p h⟩
/-- two runs that are at their ends have left the same -/
theorem Run.uniq (r : Run R T) (c : ∀ z, Cl T z) (r1 : Run R T1) (c1 : ∀ z, Cl T1 z) (x : α) : T x = T1 x :=
  ord_eq (r.i.ord x) (r1.i.ord x) fun a => ⟨fun h => r1.up T r.i c x a h, fun h => r.up T1 r1.i c1 x a h⟩
end
end Ak
/-! dicts of rows, by names; rows of those who share, as they are cut -/
namespace Mn
open PySem PySem.Spec PyProof.Rows L2 Md Me Ml LamX Mi Mo
theorem valG_none {β : Type} {g : β → V} {n : Str} : ∀ {ps : List (Str × β)}, n ∉ ps.map (·.1) → valV (ps.map fun p => ((Sum.inr p.1 : Key), g p.2)) (Sum.inr n) = none
  | [], _ => rfl
  | p :: ps, h => by
    rw [List.map_cons, valV_neg fun z => h (by
      have : p.1 = n := Sum.inr.inj z
      simp [this])]
    exact valG_none fun z => h (by
      rw [List.map_cons]
      exact List.mem_cons_of_mem _ z)
theorem valG_some {β : Type} {g : β → V} {n : Str} {x : β} : ∀ {ps : List (Str × β)}, (ps.map (·.1)).Nodup → (n, x) ∈ ps → valV (ps.map fun p => ((Sum.inr p.1 : Key), g p.2)) (Sum.inr n) = some (g x)
  | [], _, h => absurd h (by simp)
  | p :: ps, nd, h => by
    rw [List.map_cons] at nd ⊢
    rcases List.mem_cons.mp h with e | h
    · subst e
      exact valV_pos rfl
    · rw [valV_neg fun z => (List.nodup_cons.mp nd).1 (by
        have : p.1 = n := Sum.inr.inj z
        rw [this]
        exact List.mem_map.mpr ⟨_, h, rfl⟩)]
      exact valG_some (List.nodup_cons.mp nd).2 h
def dcOf (ys : List Str) (g : Str → V) : List (Key × V) := ys.map fun y => ((Sum.inr y : Key), g y)
theorem dcOf_none {ys : List Str} {g : Str → V} {n : Str} (h : n ∉ ys) : valV (dcOf ys g) (Sum.inr n) = none := by
  have := valG_none (g := g) (n := n) (ps := ys.map fun y => (y, y)) (by rw [List.map_map]; simpa [Function.comp_def] using h)
  rw [List.map_map] at this
  exact this
theorem dcOf_some {ys : List Str} {g : Str → V} (nd : ys.Nodup) {n : Str} (h : n ∈ ys) : valV (dcOf ys g) (Sum.inr n) = some (g n) := by
  have := valG_some (g := g) (n := n) (x := n) (ps := ys.map fun y => (y, y)) (by rw [List.map_map]; simpa [Function.comp_def] using nd) (List.mem_map.mpr ⟨n, h, rfl⟩)
  rw [List.map_map] at this
  exact this
theorem not_take {ys : List Str} (nd : ys.Nodup) {i : Nat} {n : Str} (h : ys[i]? = some n) : n ∉ ys.take i := fun z => by
  obtain ⟨j, hj⟩ := List.getElem?_of_mem z
  have hji : j < i := by
    rcases Nat.lt_or_ge j i with q | q
    · exact q
    · rw [List.getElem?_take, if_neg (by omega)] at hj
      cases hj
  rw [List.getElem?_take_of_lt hji] at hj
  have := (List.getElem?_inj (List.getElem?_eq_some_iff.mp hj).1 nd).mp (hj.trans h.symm)
  omega
theorem put_take {ys : List Str} {g : Str → V} (nd : ys.Nodup) {i : Nat} {n : Str} (h : ys[i]? = some n) : L2.putK (dcOf (ys.take i) g) (Sum.inr n) (g n) = dcOf (ys.take (i + 1)) g := by
  rw [L2.putK_new _ (dcOf_none (not_take nd h))]
  unfold dcOf
  rw [List.take_add_one, h, List.map_append]
  rfl
/-- a lock is taken off -/
theorem unl {H1 H2 : Hp} {rd : Addr} {od : Obj} {u : HO} (h : H1 rd = some u) (s : Same (upd H1 rd (.frz od u)) H2) : Same H1 (upd H2 rd u) := fun c o e => by
  by_cases z : c = rd
  · rw [z, upd_same]
    rw [z, h] at e
    exact e
  · rw [upd_ne z]
    exact s _ _ (by rw [upd_ne z]; exact e)
theorem lockFree {H1 : Hp} {rd D : Addr} {od : Obj} {u : HO} (h : upd H1 rd (.frz od u) D = none) : H1 D = none ∧ D ≠ rd := by
  have : D ≠ rd := fun z => by
    rw [z, upd_same] at h
    cases h
  rw [upd_ne this] at h
  exact ⟨h, this⟩
theorem dcOf_len {ys : List Str} {g : Str → V} : (dcOf ys g).length = ys.length := List.length_map _
theorem dcOf_at {ys : List Str} {g : Str → V} {i : Nat} {k : Key} {v : V} (h : (dcOf ys g)[i]? = some (k, v)) : ∃ n, ys[i]? = some n ∧ k = Sum.inr n ∧ v = g n := by
  unfold dcOf at h
  rw [List.getElem?_map] at h
  obtain ⟨n, h1, h2⟩ := Option.map_eq_some_iff.mp h
  exact ⟨n, h1, (Prod.mk.inj h2).1.symm, (Prod.mk.inj h2).2.symm⟩
theorem put_same {ys : List Str} {g : Str → V} {n : Str} {v : V} (h : n ∈ ys) : L2.putK (dcOf ys g) (Sum.inr n) v = dcOf ys fun y => if y = n then v else g y := by
  unfold L2.putK
  have ha : ((dcOf ys g).any fun kv => decide (kv.1 = Sum.inr n)) = true := List.any_eq_true.mpr ⟨(Sum.inr n, g n), List.mem_map.mpr ⟨n, h, rfl⟩, decide_eq_true rfl⟩
  rw [if_pos ha]
  unfold dcOf
  rw [List.map_map]
  refine List.map_congr_left fun y _ => ?_
  show (if (Sum.inr y : Key) = Sum.inr n then ((Sum.inr y : Key), v) else (Sum.inr y, g y)) = (Sum.inr y, if y = n then v else g y)
  by_cases e : y = n
  · rw [if_pos (by rw [e]), if_pos e]
  · rw [if_neg (fun z => e (Sum.inr.inj z)), if_neg e]
theorem same_unX {H H' : Hp} {a : Addr} {o : HO} (hn : H a = none) (s : Same H H') : Same H (upd H' a o) := fun c u e => by
  rw [upd_ne (ne_of_none e hn)]
  exact s c u e
theorem put_ad {ks : List Str} {ad : Str → Addr} {n : Str} {l : Addr} (h : n ∉ ks) : putK (dcOf ks fun y => V.ref (ad y)) (Sum.inr n) (.ref l) = dcOf (ks ++ [n]) fun y => V.ref (if y = n then l else ad y) := by
  rw [L2.putK_new _ (dcOf_none h)]
  unfold dcOf
  rw [List.map_append]
  congr 1
  · exact List.map_congr_left fun y hy => by
      have c : y ≠ n := fun z => h (z ▸ hy)
      dsimp only
      rw [if_neg c]
  · rw [List.map_cons, List.map_nil]
    dsimp only
    rw [if_pos rfl]
/-- rows of one's own, by people -/
structure Tbl (H : Hp) (D : Addr) (ys : List Str) (cp : Str → Addr) (T : Str → List Str) : Prop where
  d : H D = some (.dK (dcOf ys fun y => .ref (cp y)))
  r : ∀ y ∈ ys, H (cp y) = some (.lst ((T y).map V.str))
  inj : ∀ x ∈ ys, ∀ y ∈ ys, cp x = cp y → x = y
theorem Tbl.ext {H H' : Hp} {D : Addr} {ys : List Str} {cp : Str → Addr} {T : Str → List Str} (s : ExtN H H') (h : Tbl H D ys cp T) : Tbl H' D ys cp T :=
  ⟨s _ _ h.d ntb_dK, fun y hy => s _ _ (h.r y hy) ntb_lst, h.inj⟩
theorem Tbl.get {H : Hp} {D : Addr} {ys : List Str} {cp : Str → Addr} {T : Str → List Str} (nd : ys.Nodup) (h : Tbl H D ys cp T) {y : Str} (hy : y ∈ ys) : DGet H D (.str y) (some (.ref (cp y))) := by
  rw [← dcOf_some (g := fun y => V.ref (cp y)) nd hy]
  exact DGet.k (k := Sum.inr y) h.d
/-- nothing but the table's own was changed -/
def KeepT (D : Addr) (ys : List Str) (cp : Str → Addr) (H H' : Hp) : Prop := ∀ c o, c ≠ D → (∀ y ∈ ys, c ≠ cp y) → H c = some o → H' c = some o
/-- those who share -/
def shR (ys : List Str) (rw_ : Str → List Str) (x : Str) : List Str := if x ∈ ys then (rw_ x).filter fun y => decide (x ∈ rw_ y) else []
theorem shR_at {ys : List Str} {rw_ : Str → List Str} {x : Str} (h : x ∈ ys) : shR ys rw_ x = (rw_ x).filter fun y => decide (x ∈ rw_ y) := if_pos h
theorem shR_mem {ys : List Str} {rw_ : Str → List Str} {x y : Str} : y ∈ shR ys rw_ x ↔ x ∈ ys ∧ y ∈ rw_ x ∧ x ∈ rw_ y := by
  unfold shR
  by_cases c : x ∈ ys
  · rw [if_pos c, List.mem_filter, decide_eq_true_iff]
    exact ⟨fun h => ⟨c, h⟩, fun h => h.2⟩
  · rw [if_neg c]
    exact ⟨fun h => absurd h (by simp), fun h => absurd h.1 c⟩
/-- rows that are shared: whom, back and forth -/
structure ShOk (ys : List Str) (R : Str → List Str) : Prop where
  nd : ∀ p, (R p).Nodup
  sym : ∀ x y, y ∈ R x → x ∈ R y
  ir : ∀ p, p ∉ R p
  sub : ∀ x y, y ∈ R x → x ∈ ys ∧ y ∈ ys
theorem shR_ok {ys : List Str} {rw_ : Str → List Str} (g : GoodRows ys rw_) : ShOk ys (shR ys rw_) := by
  refine ⟨fun p => ?_, fun x y h => ?_, fun p h => ?_, fun x y h => ?_⟩
  · by_cases c : p ∈ ys
    · rw [shR_at c]
      exact (g p c).nd.filter _
    · unfold shR
      rw [if_neg c]
      exact .nil
  · obtain ⟨h1, h2, h3⟩ := shR_mem.mp h
    exact shR_mem.mpr ⟨(g x h1).sub y h2, h3, h2⟩
  · obtain ⟨h1, h2, _⟩ := shR_mem.mp h
    exact (g p h1).ne h2
  · obtain ⟨h1, h2, _⟩ := shR_mem.mp h
    exact ⟨h1, (g x h1).sub y h2⟩
theorem zip_pp {ts : List Str} {pp : Str → Addr} : ((ts.zip (ts.map pp)).map fun p => ((Sum.inr p.1 : Key), V.ref p.2)) = dcOf ts fun y => .ref (pp y) := by
  unfold dcOf
  induction ts with
  | nil => rfl
  | cons t ts ih =>
    rw [List.map_cons, List.zip_cons_cons, List.map_cons, ih]
    rfl
theorem merge_dcOf {ys : List Str} {g : Str → V} (nd : ys.Nodup) : mergeK [] (dcOf ys g) = dcOf ys g := by
  rw [mergeK_new _ _ (by
    rw [List.nil_append]
    unfold dcOf
    rw [List.map_map]
    exact nodup_mapI (fun x y z => Sum.inr.inj z) nd)]
  rfl
theorem exists_pp {α : Type} : ∀ {ts : List Str} {cs : List α}, cs.length = ts.length → ts.Nodup → [Inhabited α] → ∃ cp : Str → α, cs = ts.map cp
  | [], [], _, _, _ => ⟨fun _ => default, rfl⟩
  | [], _ :: _, h, _, _ => by cases h
  | _ :: _, [], h, _, _ => by cases h
  | t :: ts, c :: cs, h, n, _ => by
    obtain ⟨n1, n2⟩ := List.nodup_cons.mp n
    obtain ⟨cp, e⟩ := exists_pp (cs := cs) (Nat.succ.inj h) n2
    refine ⟨fun y => if y = t then c else cp y, ?_⟩
    rw [List.map_cons, if_pos rfl, e]
    congr 1
    refine List.map_congr_left fun y hy => ?_
    rw [if_neg (fun z => n1 (by rw [← z]; exact hy))]
theorem dget_fz {H : Hp} {a : Addr} {od : Obj} {kvs : List (Key × V)} {k : Key} (e : H a = some (.frz od (.dK kvs))) : DGet H a (kV k) (valV kvs k) := .inl ⟨kvs, k, .inr ⟨od, e⟩, rfl, rfl⟩
end Mn
/-! list.remove of a text; places of texts -/
namespace Mn
open PySem PySem.Spec PyProof.Rows L2
theorem erase_mapS : ∀ (l : List Str) (j : Nat), (l.map V.str).eraseIdx j = (l.eraseIdx j).map V.str
  | [], j => by simp
  | a :: r, 0 => by simp
  | a :: r, j + 1 => by
    have ih := erase_mapS r j
    simp [ih]
section
variable {X : Cx}
def rRemS : V → List V → Hp → VK → Prop := fun x xs H Q => ∃ (l : Addr) (ns : List Str) (k : Str), x = .ref l ∧ xs = [.str k] ∧ H l = some (.lst (ns.map V.str)) ∧ k ∈ ns ∧ Q .non (upd H l (.lst ((ns.erase k).map V.str)))
theorem mt_removeS : MtM X "list.remove" rRemS := by
  intro pins s σ H x xs v us Q I rx rxs h
  obtain ⟨l, ns, k, rfl, rfl, hH, hk, q⟩ := h
  cases rx
  obtain ⟨u, rfl, ru⟩ := rxs.one
  obtain ⟨t, rfl⟩ := ru
  obtain ⟨z, its, n, r, hl, e⟩ := I.lstM hH
  have hi := Vals.strs r
  rw [List.length_map] at hl z
  obtain ⟨j, hj⟩ : ∃ j, j = ns.idxOf k := ⟨_, rfl⟩
  have hjn : j < ns.length := by rw [hj]; exact List.idxOf_lt_length_of_mem hk
  have hjk : ns[j]? = some k := by
    rw [List.getElem?_eq_getElem hjn]
    congr 1
    subst hj
    exact List.getElem_idxOf hjn
  have hjl : j < its.toArray.size := by rw [List.size_toArray]; omega
  have at_ : ∀ {m : Nat} {w : Str}, ns[m]? = some w → ∃ tm, its[m]? = some (.str w tm) := fun {m w} h => hi.at h
  refine call_meets PySem.F.slot_list_remove ⟨_, e, rfl⟩ PySem.F.entry_list_remove (PySem.F.args_list_remove_2 _ _)
    (MeetsSeq.list_remove l its.toArray n (.str k t) (isStrOf k) (fun y hy => eq_isStrOf k t hi y (by simpa using hy)) j hjl ?_ ?_ (by rw [List.size_toArray]; omega)) ⟨e, ?_⟩
  · obtain ⟨tj, hjt⟩ := at_ hjk
    obtain ⟨h1, h2⟩ := List.getElem?_eq_some_iff.mp hjt
    have e1 : its.toArray[j] = .str k tj := by simpa using h2
    rw [e1]
    exact beq_self_eq_true k
  · intro m hm hmj
    have hmn : m < ns.length := by omega
    obtain ⟨tm, hmt⟩ := at_ (List.getElem?_eq_getElem hmn)
    obtain ⟨h1, h2⟩ := List.getElem?_eq_some_iff.mp hmt
    have e1 : its.toArray[m] = .str ns[m] tm := by simpa using h2
    rw [e1]
    refine beq_eq_false_iff_ne.mpr fun e2 => ?_
    rw [hj] at hmj
    have := List.not_of_lt_findIdx hmj
    rw [e2] at this
    simp at this
  · have rr := r.eraseIdx j
    rw [erase_mapS] at rr
    have er : ns.eraseIdx j = ns.erase k := by
      rw [List.erase_eq_eraseIdx_of_idxOf hj.symm]
    rw [er] at rr
    refine ⟨.non, _, I.lset (its' := its.eraseIdx j) (t' := s.toks) hH e ?_ rr ?_, rfl, q⟩
    · show its.toArray.eraseIdxIfInBounds j = (its.eraseIdx j).toArray
      rw [List.eraseIdxIfInBounds_toArray]
    · have z2 := List.length_erase_le (a := k) (l := ns)
      rw [List.length_map]
      omega
/-- xs.index(x), xs texts -/
theorem idxS_of {K : PySem.W.Frag} {H : Hp} {Q : VK} {a : Addr} {l : List Str} {x : Str} (h : H a = some (.lst (l.map V.str))) (hx : x ∈ l) (q : Q (.int (l.idxOf x : Nat)) H) : rIndex K (.ref a) [.str x] H Q := by
  have hlt := List.idxOf_lt_length_of_mem hx
  refine ⟨a, _, .str x, l.idxOf x, .str x, rfl, rfl, SqL.of h, rfl, flat_strs l, ?_, by simp [eqV], fun m z hm hz => ?_, q⟩
  · rw [List.getElem?_map, List.getElem?_eq_getElem hlt, List.getElem_idxOf hlt]
    rfl
  · rw [List.getElem?_map] at hz
    obtain ⟨w, hw, rfl⟩ := Option.map_eq_some_iff.mp hz
    obtain ⟨hm2, e⟩ := List.getElem?_eq_some_iff.mp hw
    have := List.not_of_lt_findIdx hm
    rw [e] at this
    have n : w ≠ x := by simpa using this
    simp [eqV, n]
end
end Mn
/-! _law_a_mutual -/
namespace Mn
open PySem PySem.Spec PyProof.Rows L2 Md Me Ml LamX Mi Mo
/-- _law_a_mutual: rows by ties -/
def spMut (K : PySem.W.Frag) : Sp := fun vs H Q _ => ∃ (a b c : Addr) (B sh : Nat) (ns : List Str), vs = [.ref a, .ref c, .int (sh : Nat)] ∧ Stm H a b B ∧ c ≠ a ∧ c ≠ b ∧ H c = some (.lst (ns.map V.str)) ∧ ns.Nodup ∧ ns.length ≤ 63 ∧ sh ≤ 6 ∧ B + 200000 ≤ 1000000000000 ∧
  ∀ (H' : Hp) (D : Addr) (rw_ : Str → List Str) (bs : List Addr), Stm H' a b (B + 200000) → KeepBut a b H H' → RowsN H H' D ns rw_ bs → Q (.ref D) H'
theorem same_un {H H' : Hp} {p : Addr} {o : HO} (n : H p = none) (s : Same H H') : Same H (upd H' p o) := fun b u e => by
  rw [upd_ne (ne_of_none e n)]
  exact s _ _ e
theorem zip_paired {K : PySem.W.Frag} {H : Hp} : ∀ (zs : List Str) (ts qs : List Addr), ts.length = zs.length → qs.length = zs.length → (∀ (j : Nat) (n : Str) (t q : Addr), zs[j]? = some n → ts[j]? = some t → qs[j]? = some q → H t = some (.tup [.str n, .ref q])) → Paired (fun p kv => SqT K H p [kV kv.1, kv.2]) ts ((zs.zip qs).map fun p => ((Sum.inr p.1 : Key), V.ref p.2))
  | [], ts, qs, h1, _, _ => by
    obtain rfl := List.length_eq_zero_iff.mp h1
    exact .nil
  | z :: zs, [], qs, h1, _, _ => by cases h1
  | z :: zs, t :: ts, [], _, h2, _ => by cases h2
  | z :: zs, t :: ts, q :: qs, h1, h2, h3 => .cons (SqT.of (h3 0 z t q rfl rfl rfl)) (zip_paired zs ts qs (by simpa using h1) (by simpa using h2) fun j n t q a1 a2 a3 => h3 (j + 1) n t q (by simpa using a1) (by simpa using a2) (by simpa using a3))
theorem mergeK_zip {zs : List Str} {qs : List Addr} (lq : qs.length = zs.length) (nd : zs.Nodup) : mergeK [] ((zs.zip qs).map fun p => ((Sum.inr p.1 : Key), V.ref p.2)) = (zs.zip qs).map fun p => ((Sum.inr p.1 : Key), V.ref p.2) := by
  rw [mergeK_new, List.nil_append]
  rw [List.nil_append, List.map_map]
  have e : (Prod.fst ∘ fun p : Str × Addr => ((Sum.inr p.1 : Key), V.ref p.2)) = Sum.inr ∘ Prod.fst := rfl
  rw [e, ← List.map_map, List.map_fst_zip (by rw [lq]; exact Nat.le_refl _)]
  exact nodup_mapI (fun x y z => Sum.inr.inj z) nd
theorem paired_append {α β : Type} {F : α → β → Prop} : ∀ {xs : List α} {ys : List β} {xs' : List α} {ys' : List β}, Paired F xs ys → Paired F xs' ys' → Paired F (xs ++ xs') (ys ++ ys')
  | _, _, _, _, .nil, h => h
  | _, _, _, _, .cons r t, h => .cons r (paired_append t h)
theorem Stm.off {H : Hp} {a b p : Addr} {B : Nat} {o : HO} (S : Stm H a b B) (h : H p = some o) (n : ∀ xs, o ≠ .lst xs) : p ≠ a ∧ p ≠ b := by
  obtain ⟨xs, ha⟩ := S.ha
  obtain ⟨zs, hb⟩ := S.hb
  constructor
  · intro z
    rw [z, ha] at h
    exact n _ (Option.some.inj h).symm
  · intro z
    rw [z, hb] at h
    exact n _ (Option.some.inj h).symm
abbrev sMut : Stmt := top 40
/-- rows by ties so far: A says whose names a row may hold -/
structure Mu (a b : Addr) (H0 H : Hp) (F : Addr) (ns : List Str) (ls : List Addr) (rows : List (List Str)) (A : Nat → Nat → Prop) : Prop where
  k : KeepBut a b H0 H
  d : H F = some (.dK ((ns.zip ls).map fun p => (Sum.inr p.1, V.ref p.2)))
  fF : H0 F = none
  ll : ls.length = ns.length
  lr : rows.length = ns.length
  c : ∀ (j : Nat) (l : Addr) (row : List Str), ls[j]? = some l → rows[j]? = some row → H l = some (.lst (row.map V.str))
  f : ∀ l ∈ ls, H0 l = none
  n : ls.Nodup
  g : ∀ (j : Nat) (row : List Str), rows[j]? = some row → row.Nodup ∧ ∀ x ∈ row, ∃ k, ns[k]? = some x ∧ k ≠ j ∧ A j k
theorem Mu.mono {a b : Addr} {H0 H : Hp} {F : Addr} {ns : List Str} {ls : List Addr} {rows : List (List Str)} {A A' : Nat → Nat → Prop} (M : Mu a b H0 H F ns ls rows A) (h : ∀ j k, A j k → A' j k) : Mu a b H0 H F ns ls rows A' :=
  ⟨M.k, M.d, M.fF, M.ll, M.lr, M.c, M.f, M.n, fun j row e => ⟨(M.g j row e).1, fun x hx => by
    obtain ⟨k, h1, h2, h3⟩ := (M.g j row e).2 x hx
    exact ⟨k, h1, h2, h _ _ h3⟩⟩⟩
theorem Mu.keep {a b : Addr} {H0 H H' : Hp} {F : Addr} {ns : List Str} {ls : List Addr} {rows : List (List Str)} {A : Nat → Nat → Prop} {B : Nat} (S0 : Stm H0 a b B) (M : Mu a b H0 H F ns ls rows A) (k : KeepBut a b H H') : Mu a b H0 H' F ns ls rows A := by
  have off : ∀ {q : Addr}, H0 q = none → q ≠ a ∧ q ≠ b := fun h => S0.nd h
  exact ⟨M.k.trans k, k _ _ (off M.fF).1 (off M.fF).2 M.d, M.fF, M.ll, M.lr, fun j l row h1 h2 => k _ _ (off (M.f l (List.mem_of_getElem? h1))).1 (off (M.f l (List.mem_of_getElem? h1))).2 (M.c j l row h1 h2), M.f, M.n, M.g⟩
theorem Mu.put {a b : Addr} {H0 H : Hp} {F W : Addr} {o : HO} {ns : List Str} {ls : List Addr} {rows : List (List Str)} {A : Nat → Nat → Prop} (M : Mu a b H0 H F ns ls rows A) (nW : H0 W = none) (FW : F ≠ W) (lW : ∀ l ∈ ls, l ≠ W) : Mu a b H0 (upd H W o) F ns ls rows A :=
  ⟨M.k.un nW, by rw [upd_ne FW]; exact M.d, M.fF, M.ll, M.lr, fun j l row h1 h2 => by rw [upd_ne (lW l (List.mem_of_getElem? h1))]; exact M.c j l row h1 h2, M.f, M.n, M.g⟩
/-- one name more in one row -/
theorem Mu.add {a b : Addr} {H0 H : Hp} {F : Addr} {ns : List Str} {ls : List Addr} {rows : List (List Str)} {A : Nat → Nat → Prop} {j k : Nat} {l : Addr} {row : List Str} {x : Str} (M : Mu a b H0 H F ns ls rows A) (nd : ns.Nodup) (hl : ls[j]? = some l) (hr : rows[j]? = some row) (hx : ns[k]? = some x) (jk : k ≠ j) (nA : ¬ A j k) :
    Mu a b H0 (upd H l (.lst (row.map V.str ++ [.str x]))) F ns ls (rows.set j (row ++ [x])) (fun p q => A p q ∨ (p = j ∧ q = k)) := by
  have hc := M.c j l row hl hr
  have hlm := M.f l (List.mem_of_getElem? hl)
  have Fl : F ≠ l := fun z => by
    have := M.d
    rw [z, hc] at this
    cases this
  have hjr : j < rows.length := lt_of_get hr
  refine ⟨M.k.un hlm, by rw [upd_ne Fl]; exact M.d, M.fF, M.ll, by rw [List.length_set]; exact M.lr, fun j' l' row' h1 h2 => ?_, M.f, M.n, fun j' row' h => ?_⟩
  · by_cases e : j' = j
    · subst e
      rw [hl] at h1
      obtain rfl := Option.some.inj h1
      rw [List.getElem?_set_self hjr] at h2
      obtain rfl := Option.some.inj h2
      rw [upd_same, List.map_append]
      rfl
    · rw [List.getElem?_set_ne (Ne.symm e)] at h2
      have ne : l' ≠ l := fun z => by
        subst z
        exact e ((List.getElem?_inj (lt_of_get h1) M.n).mp (h1.trans hl.symm))
      rw [upd_ne ne]
      exact M.c j' l' row' h1 h2
  · by_cases e : j' = j
    · subst e
      rw [List.getElem?_set_self hjr] at h
      obtain rfl := Option.some.inj h
      obtain ⟨g1, g2⟩ := M.g j' row hr
      refine ⟨?_, fun y hy => ?_⟩
      · rw [List.nodup_append]
        refine ⟨g1, by simp, fun y hy z hz e => ?_⟩
        obtain rfl : z = x := by simpa using hz
        obtain ⟨k', e1, e2, e3⟩ := g2 y hy
        rw [e] at e1
        have : k' = k := (List.getElem?_inj (lt_of_get e1) nd).mp (e1.trans hx.symm)
        exact nA (this ▸ e3)
      · rcases List.mem_append.mp hy with hy | hy
        · obtain ⟨k', e1, e2, e3⟩ := g2 y hy
          exact ⟨k', e1, e2, .inl e3⟩
        · obtain rfl : y = x := by simpa using hy
          exact ⟨k, hx, jk, .inr ⟨rfl, rfl⟩⟩
    · rw [List.getElem?_set_ne (Ne.symm e)] at h
      obtain ⟨g1, g2⟩ := M.g j' row' h
      exact ⟨g1, fun y hy => by
        obtain ⟨k', e1, e2, e3⟩ := g2 y hy
        exact ⟨k', e1, e2, .inl e3⟩⟩
theorem cut_fromN (xs : List V) (n : Nat) : cutV xs (some (n : Int)) none = xs.drop n := by
  show (xs.drop (HT.sIx xs.length 0 (some (n : Int)))).take (HT.sIx xs.length xs.length none - HT.sIx xs.length 0 (some (n : Int))) = xs.drop n
  rw [HT.sIx_nat, HT.sIx_none]
  rcases Nat.le_total n xs.length with h | h
  · rw [Nat.min_eq_left h]
    exact List.take_of_length_le (by rw [List.length_drop]; omega)
  · rw [Nat.min_eq_right h, Nat.sub_self, List.take_zero, List.drop_of_length_le h]
/-- which pairs were seen: the at-th with pos of those behind it -/
def Seen (at_ pos : Nat) : Nat → Nat → Prop := fun j k => min j k < at_ ∨ (min j k = at_ ∧ max j k < at_ + 1 + pos)
section
variable {P : Program} {w : World} {K : PySem.W.Frag} {mg : Str → Option Value} {base : Heap}
theorem scMut : FnScope ["_law_stream", "_law_people", "_law_share", "_law_found", "_law_person", "_law_at", "_law_one", "_law_other", "_law_way"] ["_law_stream", "_law_people", "_law_share"] (defScope sMut) := ⟨rfl, rfl, rfl, by decide +kernel, rfl, by decide +kernel, by decide +kernel⟩
theorem ok_mut {f : Addr} {fd : FuncData} (F : Fun K "_law_a_mutual" "_law_a_mutual" sMut f fd) (CD : Cl P w K mg base 1 "_law_draw" ["_law_stream", "_law_many"] spDrawB) (CX_ : Cl P w K mg base 2 "_law_mixed" ["_law_stream", "_law_some"] (spMixedB K)) (gDict : mg "dict" = none) (gE : mg "enumerate" = none) :
    FnOk P w K mg base CX0 4 f fd ["_law_stream", "_law_people", "_law_share"] (spMut K) := by
  obtain ⟨fD, fdD, GD, kD, bD, gD⟩ := CD.ex
  obtain ⟨fX, fdX, GX, kX, bX, gX⟩ := CX_.ex
  refine F.ok scMut (fun vs H Q E h => ?_) (fun cdv A outer s H vs Q E hr h => ?_)
  · obtain ⟨a, b, c, B, sh, ns, rfl, _⟩ := h
    rfl
  · obtain ⟨a, b, c, B, sh, ns, rfl, S, ca, cb, hc, hnd, hn, hsh, hB, k⟩ := h
    have nd := scMut.nd
    have hu := hu_of hr
    refine ⟨_, pss_cons (ps_set (i := 3) nd rfl (Or.inr rfl) (pe_callTy (call_dictP rfl) rfl gDict boot_dict2 (pa_cons (pe_lc (own := [("_law_person", 4)]) (g := gName 4) (tt := tYes) (te := tTup (tCons (tVar 4) (tCons (tLst tNil) tNil))) rfl nd (pi_list (pv 1)) (blkOk_by (N := ["_law_stream", "_law_people", "_law_share", "_law_found", "_law_person", "_law_at", "_law_one", "_law_other", "_law_way"]) (sc := defScope sMut) (by decide +kernel)) (fun _ _ _ _ _ => pg_name (i := 4) nd rfl (Or.inl rfl)) (fun _ _ _ _ _ => pts_nil) (fun _ _ _ _ _ => by exact pe_tup (pa_cons (pv 4) (pa_cons (pe_lst pa_nil) pa_nil)))) pa_nil)))
      (pss_cons (ps_for PassesOwn.never rfl (pi_enumA rfl gE (pa_cons (pv 1) pa_nil)) (pg_tup rfl (pgs_cons (pg_name (i := 5) nd rfl (Or.inl rfl)) (pgs_cons (pg_name (i := 6) nd rfl (Or.inl rfl)) pgs_nil)))
        (pss_one (ps_for PassesOwn.never rfl (pi_list (pe_slice sl_list (pv 1) (po_some (pe_op op_add (pv 5) pe_int)) po_none)) (pg_name (i := 7) nd rfl (Or.inl rfl))
          (pss_cons (ps_set (i := 8) nd rfl (Or.inl rfl) (pe_call GD (hr.mono (by decide)) rfl gD kD bD .nil pass0 (pa_cons (pv 0) (pa_cons pe_int pa_nil))))
          (C8.pss_cut (ps_if (PW.pt (pw_or (pt_cmpR op_lt (pv 8) (pe_op op_mul pe_int (pv 2)) (nomark _)) (pw_or1 (pt_cmpR op_eq (pv 8) pe_int (nomark _))))) (pss_one (ps_expr (pe_bm PySem.F.plainAttrs_list PySem.F.slot_list_append PySem.F.type_list_append mt_append (pe_dget hu (pv 3) (pv 6) (fun _ _ => rfl)) (pa_cons (pv 7) pa_nil)))) pss_nil)
          (pss_one (ps_if (PW.pt (pw_or (pt_cmpR op_lt (pv 8) (pe_op op_mul pe_int (pv 2)) (nomark _)) (pw_or1 (pt_cmpR op_eq (pv 8) pe_int (nomark _))))) (pss_one (ps_expr (pe_bm PySem.F.plainAttrs_list PySem.F.slot_list_append PySem.F.type_list_append mt_append (pe_dget hu (pv 3) (pv 7) (fun _ _ => rfl)) (pa_cons (pv 6) pa_nil)))) pss_nil)))))))
      (pss_one (ps_ret (pe_callTy (call_dictP rfl) rfl gDict boot_dict2 (pa_cons (pe_lc (own := [("_law_person", 4)]) (g := gName 4) (tt := tYes) (te := tTup (tCons (tVar 4) (tCons (tCall (spMixedB K) [] E0 (tCons (tVar 0) (tCons (tDGet (tVar 3) (tVar 4)) tNil))) tNil))) rfl nd (pi_list (pv 1)) (blkOk_by (N := ["_law_stream", "_law_people", "_law_share", "_law_found", "_law_person", "_law_at", "_law_one", "_law_other", "_law_way"]) (sc := defScope sMut) (by decide +kernel)) (fun _ _ _ _ _ => pg_name (i := 4) nd rfl (Or.inl rfl)) (fun _ _ _ _ _ => pts_nil)
          (fun _ _ _ _ _ => by exact pe_tup (pa_cons (pv 4) (pa_cons (pe_call GX (hr.mono (by decide)) rfl gX kX bX .nil pass0 (pa_cons (pv 0) (pa_cons (pe_dget hu (pv 3) (pv 4) (fun _ _ => rfl)) pa_nil))) pa_nil)))) pa_nil))))), ?_⟩
    -- empty rows
    refine ⟨_, rfl, c, rfl, ⟨_, SqL.of hc⟩, fun W nW => ?_⟩
    refine lc_it (walk_list (xs := ns.map V.str)) (fun i H' => Same H H' ∧ ∃ ts ls : List Addr, H' W = some (.lst (ts.map V.ref)) ∧ ts.length = i ∧ ls.length = i ∧ (∀ q ∈ ls, H q = none ∧ q ≠ W) ∧ ls.Nodup ∧
      ∀ (j : Nat) (n : Str) (t l : Addr), ns[j]? = some n → ts[j]? = some t → ls[j]? = some l → H' t = some (.tup [.str n, .ref l]) ∧ H' l = some (.lst [])) ⟨sameUp nW, [], [], upd_same, rfl, rfl, fun q h => by simp at h, List.nodup_nil, fun j n t q _ h2 => by simp at h2⟩ (fun i H' _ h => SqL.of (h.1 _ _ hc)) ?_ ?_
    · rintro i v H5 H6 hi ⟨s7, ts, ls, hW7, lt, lq, hls, lnd, htq⟩ ⟨rfl, hv⟩
      rw [List.length_map] at hi
      rw [List.getElem?_map] at hv
      obtain ⟨n, hnI, rfl⟩ := Option.map_eq_some_iff.mp hv
      refine ⟨rfl, _, rfl, Nat.zero_le _, fun l nl => ⟨(show 2 ≤ sizeLine by decide), fun t nt => ?_⟩⟩
      have sl := sameUp (o := .lst []) nl
      have sT := sameUp (o := .tup [.str n, .ref l]) nt
      have tW : t ≠ W := (ne_of_none (sl _ _ hW7) nt).symm
      have lW : l ≠ W := (ne_of_none hW7 nl).symm
      have lnew : l ∉ ls := fun z => by
        obtain ⟨j, hj⟩ := List.getElem?_of_mem z
        have hjl := lt_of_get hj
        obtain ⟨t', ht'⟩ : ∃ t', ts[j]? = some t' := ⟨ts[j]'(by omega), List.getElem?_eq_getElem _⟩
        obtain ⟨n', hn'⟩ : ∃ n', ns[j]? = some n' := ⟨ns[j]'(by omega), List.getElem?_eq_getElem _⟩
        have := (htq j n' t' l hn' ht' hj).2
        rw [nl] at this
        cases this
      refine ⟨_, sT _ _ (sl _ _ hW7), small1000 (by rw [List.length_map, lt]; omega), same_un nW ((s7.trans sl).trans sT), ts ++ [t], ls ++ [l], ?_, ?_, ?_, fun q hq => ?_, ?_, fun j n' t' q' h1 h2 h3 => ?_⟩
      · rw [upd_same, List.map_append]
        rfl
      · rw [List.length_append, lt]
        rfl
      · rw [List.length_append, lq]
        rfl
      · rcases List.mem_append.mp hq with hq | hq
        · exact hls q hq
        · obtain rfl : q = l := by simpa using hq
          exact ⟨s7.free nl, lW⟩
      · rw [List.nodup_append]
        exact ⟨lnd, by simp, fun y hy z hz e => by
          obtain rfl : z = l := by simpa using hz
          exact lnew (e ▸ hy)⟩
      · rcases snoc_get h2 with ⟨c2, h2⟩ | ⟨c2, rfl⟩
        · rcases snoc_get h3 with ⟨_, h3⟩ | ⟨c3, _⟩
          · obtain ⟨e1, e2⟩ := htq j n' t' q' h1 h2 h3
            refine ⟨?_, ?_⟩
            · rw [upd_ne (fun z => by rw [z, hW7] at e1; cases e1)]
              exact sT _ _ (sl _ _ e1)
            · rw [upd_ne (hls q' (List.mem_of_getElem? h3)).2]
              exact sT _ _ (sl _ _ e2)
          · omega
        · rcases snoc_get h3 with ⟨c3, _⟩ | ⟨_, rfl⟩
          · omega
          · have ej : j = i := by omega
            subst ej
            rw [hnI] at h1
            obtain rfl := Option.some.inj h1
            exact ⟨by rw [upd_ne tW]; exact upd_same, by rw [upd_ne lW]; exact sT _ _ upd_same⟩
    rintro H5 ⟨s7, ts, ls, hW7, lt, lq, hls, lnd, htq⟩
    rw [List.length_map] at lt lq
    refine ⟨W, ts, _, rfl, SqL.of hW7, zip_paired ns ts ls lt lq fun j n t q a1 a2 a3 => (htq j n t q a1 a2 a3).1, fun F0 nF => ?_⟩
    rw [mergeK_zip lq hnd]
    have s8 := sameUp (o := .dK ((ns.zip ls).map fun p => ((Sum.inr p.1 : Key), V.ref p.2))) nF
    have s58 := s7.trans s8
    have M0 : Mu a b H (upd H5 F0 (.dK ((ns.zip ls).map fun p => ((Sum.inr p.1 : Key), V.ref p.2)))) F0 ns ls (List.replicate ns.length []) (Seen 0 0) := by
      refine ⟨KeepBut.same s58, upd_same, s7.free nF, lq, by rw [List.length_replicate], fun j l row h1 h2 => ?_, fun q hq => (hls q hq).1, lnd, fun j row h => ?_⟩
      · have hj := lt_of_get h1
        obtain ⟨t, ht⟩ : ∃ t, ts[j]? = some t := ⟨ts[j]'(by omega), List.getElem?_eq_getElem _⟩
        obtain ⟨n, hn'⟩ : ∃ n, ns[j]? = some n := ⟨ns[j]'(by omega), List.getElem?_eq_getElem _⟩
        have e : row = [] := (List.mem_replicate.mp (List.mem_of_getElem? h2)).2
        rw [e]
        exact s8 _ _ (htq j n t l hn' ht h1).2
      · have e : row = [] := (List.mem_replicate.mp (List.mem_of_getElem? h)).2
        rw [e]
        exact ⟨List.nodup_nil, fun x hx => by simp at hx⟩
    have S8 := S.ext (ExtN.of s58)
    generalize upd H5 F0 (.dK ((ns.zip ls).map fun p => ((Sum.inr p.1 : Key), V.ref p.2))) = H8 at M0 S8 ⊢
    have hc8 : ∀ {H' : Hp} {rows : List (List Str)} {A : Nat → Nat → Prop}, Mu a b H H' F0 ns ls rows A → H' c = some (.lst (ns.map V.str)) := fun M => M.k c _ ca cb hc
    -- the pairs
    refine ⟨_, rfl, c, _, rfl, .inl ⟨SqL.of (hc8 M0), ?_⟩⟩
    refine for_it (walk_enum (xs := ns.map V.str)) (fun i σ H' => ∃ (rows : List (List Str)) (o5 o6 o7 o8 : Option V), σ = [some (.ref a), some (.ref c), some (.int (sh : Nat)), some (.ref F0), none, o5, o6, o7, o8] ∧ Mu a b H H' F0 ns ls rows (Seen i 0) ∧ Stm H' a b (B + 100 * i)) ⟨_, none, none, none, none, rfl, M0, by simpa using S8⟩ (fun i σ H' _ ⟨_, _, _, _, _, _, M, _⟩ => SqL.of (hc8 M)) ?_ ?_
    · rintro i v σ H9 H10 hi ⟨rows, o5, o6, o7, o8, rfl, M9, S9⟩ ⟨T, x1, y1, rfl, nT, rfl, e1, e2⟩
      have e1' : V.int (i : Int) = x1 := Option.some.inj e1
      subst e1'
      replace e2 : (ns.map V.str)[i]? = some y1 := e2
      rw [List.getElem?_map] at e2
      obtain ⟨one, h1, rfl⟩ := Option.map_eq_some_iff.mp e2
      have sT := sameUp (o := .tup [V.int (i : Int), .str one]) nT
      have M10 := M9.keep S (KeepBut.same sT)
      have S10 := S9.ext (ExtN.of sT)
      refine ⟨T, _, rfl, SqT.of upd_same, rfl, _, _, rfl, _, _, rfl, rfl, ?_⟩
      generalize upd H9 T (.tup [V.int (i : Int), .str one]) = H10 at M10 S10 ⊢
      refine ⟨_, rfl, _, rfl, _, _, rfl, rfl, _, rfl, c, _, rfl, SqL.of (hc8 M10), fun p np => ?_⟩
      have ec : cutV (ns.map V.str) (some ((i : Int) + 1)) none = (ns.drop (i + 1)).map V.str := by
        rw [show ((i : Int) + 1) = ((i + 1 : Nat) : Int) by push_cast; rfl, cut_fromN, List.map_drop]
      have sp := sameUp (o := .lst (cutV (ns.map V.str) (some ((i : Int) + 1)) none)) np
      have hp : upd H10 p (.lst (cutV (ns.map V.str) (some ((i : Int) + 1)) none)) p = some (.lst ((ns.drop (i + 1)).map V.str)) := by
        rw [upd_same, ec]
      obtain ⟨pa, pb⟩ := S10.nd np
      have ll := M10.ll
      have lp : ∀ q ∈ ls, q ≠ p := fun q hq z => by
        obtain ⟨j, hj⟩ := List.getElem?_of_mem hq
        have hjl := lt_of_get hj
        obtain ⟨row, hrow⟩ : ∃ row, rows[j]? = some row := ⟨rows[j]'(by have := M10.lr; omega), List.getElem?_eq_getElem _⟩
        have := M10.c j q row hj hrow
        rw [z, np] at this
        cases this
      have M11 := M10.keep S (KeepBut.same sp)
      have S11 := S10.ext (ExtN.of sp)
      refine ⟨p, rfl, ⟨_, SqL.of hp⟩, ?_⟩
      have iL : i < ns.length := lt_of_get h1
      refine for_it (walk_list (xs := (ns.drop (i + 1)).map V.str)) (fun j σ H' => ∃ (rows : List (List Str)) (o7 o8 : Option V), σ = [some (.ref a), some (.ref c), some (.int (sh : Nat)), some (.ref F0), none, some (.int (i : Int)), some (.str one), o7, o8] ∧ Mu a b H H' F0 ns ls rows (Seen i j) ∧ Stm H' a b (B + 100 * i + j) ∧ H' p = some (.lst ((ns.drop (i + 1)).map V.str)))
        ⟨rows, _, _, rfl, M11, S11, hp⟩ (fun j σ H' _ ⟨_, _, _, _, _, _, h⟩ => SqL.of h) ?_ ?_
      · rintro j v σ H12 H13 hj ⟨rows, o7, o8, rfl, M13, S13, hp13⟩ ⟨rfl, hv⟩
        rw [List.length_map, List.length_drop] at hj
        rw [List.getElem?_map] at hv
        obtain ⟨oth, h2, rfl⟩ := Option.map_eq_some_iff.mp hv
        rw [List.getElem?_drop] at h2
        refine ⟨_, rfl, a, b, _, 24, rfl, S13, by omega, by decide, by decide, fun H14 d d0 d1 S14 kb14 => ?_⟩
        have M14 := M13.keep S kb14
        have hp14 := kb14 p _ pa pb hp13
        obtain ⟨li, hli⟩ : ∃ l, ls[i]? = some l := ⟨ls[i]'(by omega), List.getElem?_eq_getElem _⟩
        obtain ⟨lo, hlo⟩ : ∃ l, ls[i + 1 + j]? = some l := ⟨ls[i + 1 + j]'(by omega), List.getElem?_eq_getElem _⟩
        have small : ∀ {H' : Hp} {rows : List (List Str)} {A : Nat → Nat → Prop} {j : Nat} {row : List Str}, Mu a b H H' F0 ns ls rows A → rows[j]? = some row → row.length < sizeLine := fun M h => by
          obtain ⟨g1, g2⟩ := M.g _ _ h
          have := pigeon g1 (l2 := ns) fun x hx => by
            obtain ⟨k, e, _⟩ := g2 x hx
            exact List.mem_of_getElem? e
          exact small1000 (by omega)
        -- the one's row
        refine ⟨fun σ H' => σ = [some (.ref a), some (.ref c), some (.int (sh : Nat)), some (.ref F0), none, some (.int (i : Int)), some (.str one), some (.str oth), some (.int d)] ∧ ∃ rows, Mu a b H H' F0 ns ls rows (fun p q => Seen i j p q ∨ (p = i ∧ q = i + 1 + j)) ∧ Stm H' a b (B + 100 * i + j + 1) ∧ H' p = some (.lst ((ns.drop (i + 1)).map V.str)), ?_, ?_⟩
        · have gi : DGet H14 F0 (.str one) (some (.ref li)) := by
            rw [← valV_zip M14.ll hnd h1 hli]
            exact DGet.k (k := Sum.inr one) M14.d
          obtain ⟨row, hrow⟩ : ∃ row, rows[i]? = some row := ⟨rows[i]'(by have := M14.lr; omega), List.getElem?_eq_getElem _⟩
          have hci := M14.c i li row hli hrow
          have nS : ¬ Seen i j i (i + 1 + j) := by
            unfold Seen
            omega
          have fin := M14.add (x := oth) hnd hli hrow h2 (by omega) nS
          have lia := S.nd (M14.f li (List.mem_of_getElem? hli))
          have finS : ∀ o, Stm (upd H14 li o) a b (B + 100 * i + j + 1) := fun o => S14.set lia.1 lia.2
          have finP : ∀ o, upd H14 li o p = some (.lst ((ns.drop (i + 1)).map V.str)) := fun o => by
            rw [upd_ne (lp li (List.mem_of_getElem? hli)).symm]
            exact hp14
          refine ⟨_, rfl, _, rfl, _, _, rfl, rfl, ?_, _, _, rfl, rfl, _, rfl, ite2 (fun _ => ?_) (fun _ => ⟨_, rfl, rfl, _, rfl, ite2 (fun _ => ?_) (fun _ => ?_)⟩)⟩
          · exact .inl ⟨by decide, by decide⟩
          all_goals first
            | exact ⟨rfl, rows, M14.mono (fun _ _ h => .inl h), S14, hp14⟩
            | exact ⟨_, rfl, _, rfl, F0, .ref li, rfl, gi, .inl ⟨rfl, _, SqL.of hci⟩, _, rfl, li, _, .str oth, rfl, rfl, hci, by rw [List.length_map]; exact small M14 hrow, rfl, _, fin, finS _, finP _⟩
        · rintro σ H15 ⟨rfl, rows, M15, S15, hp15⟩
          have gi : DGet H15 F0 (.str oth) (some (.ref lo)) := by
            rw [← valV_zip M15.ll hnd h2 hlo]
            exact DGet.k (k := Sum.inr oth) M15.d
          obtain ⟨row, hrow⟩ : ∃ row, rows[i + 1 + j]? = some row := ⟨rows[i + 1 + j]'(by have := M15.lr; omega), List.getElem?_eq_getElem _⟩
          have hci := M15.c (i + 1 + j) lo row hlo hrow
          have nS : ¬ (Seen i j (i + 1 + j) i ∨ (i + 1 + j = i ∧ i = i + 1 + j)) := by
            unfold Seen
            omega
          have more : ∀ p q, ((Seen i j p q ∨ (p = i ∧ q = i + 1 + j)) ∨ (p = i + 1 + j ∧ q = i)) → Seen i (j + 1) p q := fun p q h => by
            unfold Seen at h ⊢
            omega
          have fin := (M15.add (x := one) hnd hlo hrow h1 (by omega) nS).mono more
          have lia := S.nd (M15.f lo (List.mem_of_getElem? hlo))
          have finS : ∀ o, Stm (upd H15 lo o) a b (B + 100 * i + (j + 1)) := fun o => (S15.set lia.1 lia.2).up (by omega)
          have finP : ∀ o, upd H15 lo o p = some (.lst ((ns.drop (i + 1)).map V.str)) := fun o => by
            rw [upd_ne (lp lo (List.mem_of_getElem? hlo)).symm]
            exact hp15
          refine ⟨_, rfl, _, rfl, _, _, rfl, rfl, ?_, _, _, rfl, rfl, _, rfl, ite2 (fun _ => ?_) (fun _ => ⟨_, rfl, rfl, _, rfl, ite2 (fun _ => ?_) (fun _ => ?_)⟩)⟩
          · exact .inl ⟨by decide, by decide⟩
          all_goals first
            | exact ⟨rows, _, _, rfl, M15.mono (fun p q h => more p q (.inl h)), S15.up (by omega), hp15⟩
            | exact ⟨_, rfl, _, rfl, F0, .ref lo, rfl, gi, .inl ⟨rfl, _, SqL.of hci⟩, _, rfl, lo, _, .str one, rfl, rfl, hci, by rw [List.length_map]; exact small M15 hrow, _, _, _, rfl, fin, finS _, finP _⟩
      · rintro σ H12 ⟨rows, o7, o8, rfl, M12, S12, hp12⟩
        rw [List.length_map, List.length_drop] at M12 S12
        refine ⟨rows, _, _, _, _, rfl, ?_, S12.up (by omega)⟩
        -- a pair that both stand within the people was seen
        have M := M12
        refine ⟨M.k, M.d, M.fF, M.ll, M.lr, M.c, M.f, M.n, fun j row h => ⟨(M.g j row h).1, fun x hx => ?_⟩⟩
        obtain ⟨k, e, kj, A⟩ := (M.g j row h).2 x hx
        refine ⟨k, e, kj, ?_⟩
        unfold Seen at A ⊢
        omega
    · rintro σ H9 ⟨rows, o5, o6, o7, o8, rfl, M9, S9⟩
      rw [List.length_map] at M9 S9
      have ll := M9.ll
      have lr := M9.lr
      refine ⟨_, rfl, c, rfl, ⟨_, SqL.of (hc8 M9)⟩, fun W nW => ?_⟩
      obtain ⟨Wa, Wb⟩ := S9.nd nW
      have nWH : H W = none := kb_free M9.k S9.na.1 S9.na.2 nW
      have FW : F0 ≠ W := ne_of_none M9.d nW
      have lW : ∀ l ∈ ls, l ≠ W := fun l hl => by
        obtain ⟨j, hj⟩ := List.getElem?_of_mem hl
        have hjl := lt_of_get hj
        exact ne_of_none (M9.c j l _ hj (List.getElem?_eq_getElem (by omega))) nW
      refine lc_it (walk_list (xs := ns.map V.str)) (fun i H' => Mu a b H H' F0 ns ls rows (Seen ns.length 0) ∧ Stm H' a b (B + 100 * ns.length + 1000 * i) ∧ ∃ (ts qs : List Addr) (rws : List (List Str)), H' W = some (.lst (ts.map V.ref)) ∧ ts.length = i ∧ qs.length = i ∧ rws.length = i ∧ (∀ q ∈ qs, H q = none ∧ q ≠ W) ∧ qs.Nodup ∧
        ∀ (j : Nat) (n : Str) (t q : Addr) (r row : List Str), ns[j]? = some n → ts[j]? = some t → qs[j]? = some q → rws[j]? = some r → rows[j]? = some row → H' t = some (.tup [.str n, .ref q]) ∧ H' q = some (.lst (r.map V.str)) ∧ r.Perm row)
        ⟨M9.keep S (KeepBut.new nW), (S9.set Wa Wb).up (by omega), [], [], [], upd_same, rfl, rfl, rfl, fun q h => by simp at h, List.nodup_nil, fun j n t q r row _ h2 => by simp at h2⟩ (fun i H' _ h => SqL.of (hc8 h.1)) ?_ ?_
      · rintro i v H10 H11 hi ⟨M11, S11, ts, qs, rws, hW, lt, lq, lw, hqs, qnd, htq⟩ ⟨rfl, hv⟩
        rw [List.length_map] at hi
        rw [List.getElem?_map] at hv
        obtain ⟨n, hnI, rfl⟩ := Option.map_eq_some_iff.mp hv
        obtain ⟨l, hl⟩ : ∃ l, ls[i]? = some l := ⟨ls[i]'(by omega), List.getElem?_eq_getElem _⟩
        obtain ⟨row, hrow⟩ : ∃ row, rows[i]? = some row := ⟨rows[i]'(by omega), List.getElem?_eq_getElem _⟩
        have hcl := M11.c i l row hl hrow
        have gi : DGet H11 F0 (.str n) (some (.ref l)) := by
          rw [← valV_zip M11.ll hnd hnI hl]
          exact DGet.k (k := Sum.inr n) M11.d
        have rl : row.length ≤ 63 := by
          obtain ⟨g1, g2⟩ := M11.g i row hrow
          have := pigeon g1 (l2 := ns) fun x hx => by
            obtain ⟨k, e, _⟩ := g2 x hx
            exact List.mem_of_getElem? e
          omega
        refine ⟨rfl, _, rfl, _, rfl, _, rfl, _, rfl, F0, .ref l, rfl, gi, a, b, l, _, _, rfl, S11, .inl (SqL.of hcl), by rw [List.length_map]; omega, by omega, fun H12 q ys S12 kb12 nq hq pm => ⟨(show 2 ≤ sizeLine by decide), fun t nt => ?_⟩⟩
        obtain ⟨r, pr, rfl⟩ := perm_strs pm
        have hW12 := kb12 W _ Wa Wb hW
        have st := sameUp (o := .tup [.str n, .ref q]) nt
        have qW : q ≠ W := (ne_of_none hW nq).symm
        have tW : t ≠ W := (ne_of_none hW12 nt).symm
        have qH : H q = none := kb_free M11.k S11.na.1 S11.na.2 nq
        have qnew : q ∉ qs := fun z => by
          obtain ⟨j, hj⟩ := List.getElem?_of_mem z
          have hjl := lt_of_get hj
          have := (htq j _ _ q _ _ (List.getElem?_eq_getElem (by omega)) (List.getElem?_eq_getElem (by omega)) hj (List.getElem?_eq_getElem (by omega)) (List.getElem?_eq_getElem (by omega))).2.1
          rw [nq] at this
          cases this
        refine ⟨_, st _ _ hW12, small1000 (by rw [List.length_map, lt]; omega), ((M11.keep S kb12).keep S (KeepBut.same st)).put nWH FW lW, ((S12.ext (ExtN.of st)).set Wa Wb).up (by omega), ts ++ [t], qs ++ [q], rws ++ [r], ?_, ?_, ?_, ?_, fun q' hq' => ?_, ?_, fun j n' t' q' r' row' h1 h2 h3 h4 h5 => ?_⟩
        · rw [upd_same, List.map_append]
          rfl
        · rw [List.length_append, lt]
          rfl
        · rw [List.length_append, lq]
          rfl
        · rw [List.length_append, lw]
          rfl
        · rcases List.mem_append.mp hq' with h | h
          · exact hqs q' h
          · obtain rfl : q' = q := by simpa using h
            exact ⟨qH, qW⟩
        · rw [List.nodup_append]
          exact ⟨qnd, by simp, fun y hy z hz e => by
            obtain rfl : z = q := by simpa using hz
            exact qnew (e ▸ hy)⟩
        · rcases snoc_get h2 with ⟨c2, h2⟩ | ⟨c2, rfl⟩
          · rcases snoc_get h3 with ⟨_, h3⟩ | ⟨c3, _⟩
            · rcases snoc_get h4 with ⟨_, h4⟩ | ⟨c4, _⟩
              · obtain ⟨e1, e2, e3⟩ := htq j n' t' q' r' row' h1 h2 h3 h4 h5
                obtain ⟨ta, tb⟩ := S11.off e1 (fun xs z => by cases z)
                obtain ⟨qa, qb⟩ := S.nd (hqs q' (List.mem_of_getElem? h3)).1
                refine ⟨?_, ?_, e3⟩
                · rw [upd_ne (fun z => by rw [z, hW] at e1; cases e1)]
                  exact st _ _ (kb12 _ _ ta tb e1)
                · rw [upd_ne (hqs q' (List.mem_of_getElem? h3)).2]
                  exact st _ _ (kb12 _ _ qa qb e2)
              · omega
            · omega
          · rcases snoc_get h3 with ⟨c3, _⟩ | ⟨_, rfl⟩
            · omega
            · rcases snoc_get h4 with ⟨c4, _⟩ | ⟨_, rfl⟩
              · omega
              · have ej : j = i := by omega
                subst ej
                rw [hnI] at h1
                obtain rfl := Option.some.inj h1
                rw [hrow] at h5
                obtain rfl := Option.some.inj h5
                exact ⟨by rw [upd_ne tW]; exact upd_same, by rw [upd_ne qW]; exact st _ _ hq, pr⟩
      · rintro H10 ⟨M10, S10, ts, qs, rws, hW, lt, lq, lw, hqs, qnd, htq⟩
        rw [List.length_map] at lt lq lw S10
        refine ⟨W, ts, _, rfl, SqL.of hW, zip_paired ns ts qs lt lq fun j n t q a1 a2 a3 => ?_, fun D nD => ?_⟩
        · have hj := lt_of_get a1
          exact (htq j n t q _ _ a1 a2 a3 (List.getElem?_eq_getElem (by omega)) (List.getElem?_eq_getElem (by omega))).1
        rw [mergeK_zip lq hnd]
        have sD := sameUp (o := .dK ((ns.zip qs).map fun p => ((Sum.inr p.1 : Key), V.ref p.2))) nD
        have at_ : ∀ {j : Nat} {n : Str}, ns[j]? = some n → ∃ r row, rws[j]? = some r ∧ rows[j]? = some row ∧ r.Perm row ∧ rwOf ns rws n = r := fun {j n} h => by
          have hj := lt_of_get h
          have e4 : rws[j]? = some (rws[j]'(by omega)) := List.getElem?_eq_getElem _
          have e5 : rows[j]? = some (rows[j]'(by omega)) := List.getElem?_eq_getElem _
          exact ⟨_, _, e4, e5, (htq j n _ _ _ _ h (List.getElem?_eq_getElem (by omega)) (List.getElem?_eq_getElem (by omega)) e4 e5).2.2, rwOf_at hnd h e4⟩
        refine k _ D (rwOf ns rws) qs ((S10.ext (ExtN.of sD)).up (by omega)) (M10.k.trans (KeepBut.same sD)) ⟨⟨lq, upd_same, fun j n q h1 h3 => ?_, kb_free M10.k S10.na.1 S10.na.2 nD, fun q hq => (hqs q hq).1, qnd⟩, fun n hn' => ?_⟩
        · obtain ⟨r, row, e4, e5, pr, er⟩ := at_ h1
          rw [er]
          exact sD _ _ (htq j n _ q r row h1 (List.getElem?_eq_getElem (by have := lt_of_get h1; omega)) h3 e4 e5).2.1
        · obtain ⟨j, hj⟩ := List.getElem?_of_mem hn'
          obtain ⟨r, row, e4, e5, pr, er⟩ := at_ hj
          obtain ⟨g1, g2⟩ := M10.g j row e5
          rw [er]
          refine ⟨pr.nodup_iff.mpr g1, fun z => ?_, fun x hx => ?_⟩
          · obtain ⟨k', e1, e2, _⟩ := g2 n (pr.mem_iff.mp z)
            exact e2 ((List.getElem?_inj (lt_of_get e1) hnd).mp (e1.trans hj.symm))
          · obtain ⟨k', e1, _⟩ := g2 x (pr.mem_iff.mp hx)
            exact List.mem_of_getElem? e1
end
end Mn
/-! cut_at, cut_behind -/
namespace Mn
open PySem PySem.Spec PyProof.Rows L2 Md Me Ml LamX Mi Mo
abbrev sCut : Stmt := top 32
abbrev cutN : List Str := ["rows", "person", "at", "struck", "other"]
theorem scCut : FnScope cutN ["rows", "person", "at"] (defScope sCut) := ⟨rfl, rfl, rfl, by decide +kernel, rfl, by decide +kernel, by decide +kernel⟩
theorem cut_toN (xs : List V) (n : Nat) : cutV xs none (some (n : Int)) = xs.take n := by
  show (xs.drop (HT.sIx xs.length 0 none)).take (HT.sIx xs.length xs.length (some (n : Int)) - HT.sIx xs.length 0 none) = xs.take n
  rw [HT.sIx_nat, HT.sIx_none, List.drop_zero, Nat.sub_zero]
  rcases Nat.le_total n xs.length with h | h
  · rw [Nat.min_eq_left h]
  · rw [Nat.min_eq_right h, List.take_of_length_le (Nat.le_refl _), List.take_of_length_le h]
theorem KeepT.refl {D : Addr} {ys : List Str} {cp : Str → Addr} {H : Hp} : KeepT D ys cp H H := fun _ _ _ _ e => e
theorem KeepT.trans {D : Addr} {ys : List Str} {cp : Str → Addr} {H H1 H2 : Hp} (x : KeepT D ys cp H H1) (y : KeepT D ys cp H1 H2) : KeepT D ys cp H H2 := fun c o h1 h2 e => y c o h1 h2 (x c o h1 h2 e)
theorem KeepT.same {D : Addr} {ys : List Str} {cp : Str → Addr} {H H' : Hp} (s : Same H H') : KeepT D ys cp H H' := fun c o _ _ e => s c o e
/-- the table behind a cut -/
def cutK (T : Str → List Str) (p : Str) (k : Nat) (y : Str) : List Str := if y = p then (T p).take k else if y ∈ (T p).drop k then (T y).erase p else T y
structure CutOk (ys : List Str) (T : Str → List Str) (p : Str) : Prop where
  nd : (T p).Nodup
  ir : p ∉ T p
  sym : ∀ z ∈ T p, z ∈ ys ∧ p ∈ T z
  l : ∀ z ∈ ys, (T z).length ≤ 63
/-- what a cut promises -/
def Liv (H H' : Hp) : Prop := ∀ c, H' c = none → H c = none
theorem Liv.same {H H' : Hp} (s : Same H H') : Liv H H' := fun _ e => s.free e
theorem Liv.upd {H : Hp} {a : Addr} {o : HO} : Liv H (upd H a o) := fun c e => by
  by_cases z : c = a
  · rw [z, upd_same] at e
    cases e
  · rw [upd_ne z] at e
    exact e
theorem Liv.trans {H H1 H2 : Hp} (x : Liv H H1) (y : Liv H1 H2) : Liv H H2 := fun c e => x c (y c e)
def CutQ (H : Hp) (D : Addr) (ys : List Str) (cp : Str → Addr) (T : Str → List Str) (p : Str) (k : Nat) (Q : VK) : Prop :=
  ∀ (H' : Hp) (q : Addr) (cp' : Str → Addr), KeepT D ys cp H H' → Liv H H' → (∀ y ∈ ys, cp' y = cp y ∨ H (cp' y) = none) → Tbl H' D ys cp' (cutK T p k) → H q = none → H' q = some (.lst (((T p).drop k).map V.str)) → (∀ y ∈ ys, cp' y ≠ q) → Q (.ref q) H'
def spCut : Sp := fun vs H Q _ => ∃ (D : Addr) (ys : List Str) (cp : Str → Addr) (T : Str → List Str) (p : Str) (k : Nat), vs = [.ref D, .str p, .int (k : Nat)] ∧ Tbl H D ys cp T ∧ ys.Nodup ∧ ys.length ≤ 63 ∧ p ∈ ys ∧ CutOk ys T p ∧ CutQ H D ys cp T p k Q
section
variable {P : Program} {w : World} {K : PySem.W.Frag} {mg : Str → Option Value} {base : Heap}
theorem ok_cut {f : Addr} {fd : FuncData} (F : Fun K "cut_at" "cut_at" sCut f fd) : FnOk P w K mg base CX0 1 f fd ["rows", "person", "at"] spCut := by
  refine F.ok scCut (fun vs H Q E h => ?_) (fun cdv A outer s H vs Q E hr h => ?_)
  · obtain ⟨D, ys, cp, T, p, k, rfl, _⟩ := h
    rfl
  · obtain ⟨D, ys, cp, T, p, k, rfl, TB, ndy, lys, hp, CO, kk⟩ := h
    have nd := scCut.nd
    have hu := hu_of hr
    refine ⟨_, (pss_cons (ps_set (i := 3) nd rfl (Or.inl rfl) (pe_slice sl_list (pe_dget hu (pv 0) (pv 1) (fun _ _ => rfl)) (po_some (pv 2)) po_none))
      (pss_cons (ps_for PassesOwn.never rfl (pi_list (pv 3)) (pg_name (i := 4) nd rfl (Or.inl rfl)) (pss_one (ps_expr (pe_bm PySem.F.plainAttrs_list PySem.F.slot_list_remove PySem.F.type_list_remove mt_removeS (pe_dget hu (pv 0) (pv 4) (fun _ _ => rfl)) (pa_cons (pv 1) pa_nil)))))
      (pss_cons (ps_dput hu (pv 0) (pv 1) (pe_slice sl_list (pe_dget hu (pv 0) (pv 1) (fun _ _ => rfl)) po_none (po_some (pv 2))) rfl)
      (pss_one (ps_ret (pv 3)))))), ?_⟩

    refine ⟨_, rfl, _, rfl, D, .ref (cp p), rfl, TB.get ndy hp, _, rfl, _, rfl, cp p, _, rfl, SqL.of (TB.r p hp), fun q nq => ?_⟩
    have ek : cutV ((T p).map V.str) (some (k : Int)) none = ((T p).drop k).map V.str := by
      rw [cut_fromN, List.map_drop]
    rw [ek]
    have sq := sameUp (o := .lst (((T p).drop k).map V.str)) nq
    have hq : upd H q (.lst (((T p).drop k).map V.str)) q = some (.lst (((T p).drop k).map V.str)) := upd_same
    have TB1 := TB.ext (ExtN.of sq)
    have qD : q ≠ D := (ne_of_none TB.d nq).symm
    have qc : ∀ y ∈ ys, q ≠ cp y := fun y hy => (ne_of_none (TB.r y hy) nq).symm
    generalize upd H q (.lst (((T p).drop k).map V.str)) = H1 at sq hq TB1 ⊢
    have ndd : ((T p).drop k).Nodup := CO.nd.sublist (List.drop_sublist _ _)
    refine ⟨_, rfl, q, rfl, ⟨_, SqL.of hq⟩, ?_⟩
    refine for_it (walk_list (xs := ((T p).drop k).map V.str)) (fun i σ H' => ∃ o4, σ = [some (.ref D), some (.str p), some (.int (k : Nat)), some (.ref q), o4] ∧ Tbl H' D ys cp (fun y => if y ∈ ((T p).drop k).take i then (T y).erase p else T y) ∧ KeepT D ys cp H1 H' ∧ Liv H1 H' ∧ H' q = some (.lst (((T p).drop k).map V.str))) ⟨none, rfl, ⟨TB1.d, fun y hy => ?_, TB1.inj⟩, .refl, fun _ e => e, hq⟩ (fun i σ H' _ ⟨_, _, _, _, _, h⟩ => SqL.of h) ?_ ?_
    · rw [if_neg (by simp)]
      exact TB1.r y hy
    · rintro i v σ H2 H3 hi ⟨o4, rfl, TB2, k2, v2, hq2⟩ ⟨rfl, hv⟩
      rw [List.getElem?_map] at hv
      obtain ⟨z, hz, rfl⟩ := Option.map_eq_some_iff.mp hv
      have hzd := List.mem_of_getElem? hz
      have hzT := List.mem_of_mem_drop hzd
      obtain ⟨hzy, pz⟩ := CO.sym z hzT
      have nz : z ∉ ((T p).drop k).take i := not_take ndd hz
      have et : ((T p).drop k).take (i + 1) = ((T p).drop k).take i ++ [z] := by
        rw [List.take_add_one, hz]
        rfl
      have hcz := TB2.r z hzy
      rw [if_neg nz] at hcz
      refine ⟨_, rfl, _, rfl, D, .ref (cp z), rfl, TB2.get ndy hzy, .inl ⟨rfl, _, SqL.of hcz⟩, _, rfl, cp z, T z, p, rfl, rfl, hcz, pz, ?_⟩
      have zD : cp z ≠ D := fun w => by
        rw [w, TB2.d] at hcz
        cases hcz
      refine ⟨_, rfl, ⟨(upd_ne zD.symm).trans TB2.d, fun y hy => ?_, TB2.inj⟩, fun c o h1 h2 e => ?_, v2.trans Liv.upd, (upd_ne (qc z hzy)).trans hq2⟩
      · rw [et]
        by_cases c : y = z
        · rw [c, if_pos (by simp), upd_same]
        · rw [upd_ne fun w => c (TB2.inj y hy z hzy w), TB2.r y hy]
          by_cases d : y ∈ ((T p).drop k).take i
          · rw [if_pos d, if_pos (List.mem_append_left _ d)]
          · rw [if_neg d, if_neg fun w => (List.mem_append.mp w).elim d fun w => c (List.mem_singleton.mp w)]
      · rw [upd_ne (h2 z hzy)]
        exact k2 c o h1 h2 e
    rintro σ H2 ⟨o4, rfl, TB2, k2, v2, hq2⟩
    rw [List.length_map, List.take_length] at TB2
    have np : p ∉ (T p).drop k := fun h => CO.ir (List.mem_of_mem_drop h)
    have hcp := TB2.r p hp
    rw [if_neg np] at hcp
    refine ⟨_, rfl, _, rfl, D, .ref (cp p), rfl, TB2.get ndy hp, _, rfl, _, rfl, cp p, _, rfl, SqL.of hcp, fun l nl => ?_⟩
    have el : cutV ((T p).map V.str) none (some (k : Int)) = ((T p).take k).map V.str := by
      rw [cut_toN, List.map_take]
    rw [el]
    have sl := sameUp (o := .lst (((T p).take k).map V.str)) nl
    have hl : upd H2 l (.lst (((T p).take k).map V.str)) l = some (.lst (((T p).take k).map V.str)) := upd_same
    have TB3 := TB2.ext (ExtN.of sl)
    have hq3 := sl _ _ hq2
    have k3 := k2.trans (KeepT.same sl)
    have lD : l ≠ D := (ne_of_none TB2.d nl).symm
    have lc : ∀ y ∈ ys, l ≠ cp y := fun y hy => (ne_of_none (TB2.r y hy) nl).symm
    have fl : H l = none := by
      cases e : H l with
      | none => rfl
      | some o =>
        have := k2 l o lD lc (sq _ _ e)
        rw [nl] at this
        cases this
    have lq : l ≠ q := (ne_of_none hq2 nl).symm
    have v3 := ((Liv.same sq).trans v2).trans (Liv.same sl)
    generalize upd H2 l (.lst (((T p).take k).map V.str)) = H3 at hl TB3 hq3 k3 v3 ⊢
    refine ⟨_, rfl, _, rfl, D, _, rfl, DPut.k (k := Sum.inr p) TB3.d (by rw [dcOf_len]; exact small1000 (by omega)), ?_⟩
    rw [put_same (g := fun y => V.ref (cp y)) hp]
    have e6 : (dcOf ys fun y => if y = p then V.ref l else V.ref (cp y)) = dcOf ys fun y => V.ref (if y = p then l else cp y) := by
      unfold dcOf
      refine List.map_congr_left fun y _ => ?_
      show ((Sum.inr y : Key), (if y = p then V.ref l else V.ref (cp y))) = ((Sum.inr y : Key), V.ref (if y = p then l else cp y))
      by_cases c : y = p
      · rw [if_pos c, if_pos c]
      · rw [if_neg c, if_neg c]
    rw [e6]
    refine ⟨_, rfl, kk _ q (fun y => if y = p then l else cp y) (fun c o h1 h2 e => ?_) (v3.trans Liv.upd) (fun y hy => ?_) ⟨upd_same, fun y hy => ?_, fun x hx y hy e => ?_⟩ nq ((upd_ne qD).trans hq3) fun y hy => ?_⟩
    · rw [upd_ne h1]
      exact k3 c o h1 h2 (sq _ _ e)
    · by_cases c : y = p
      · rw [if_pos c]
        exact .inr fl
      · rw [if_neg c]
        exact .inl rfl
    · unfold cutK
      by_cases c : y = p
      · rw [if_pos c, if_pos c, upd_ne lD]
        exact hl
      · have r3 := TB3.r y hy
        rw [if_neg c, if_neg c, upd_ne fun w => by rw [w, TB3.d] at r3; cases r3]
        exact r3
    · by_cases c1 : x = p
      · by_cases c2 : y = p
        · rw [c1, c2]
        · rw [if_pos c1, if_neg c2] at e
          exact absurd e (lc y hy)
      · by_cases c2 : y = p
        · rw [if_neg c1, if_pos c2] at e
          exact absurd e.symm (lc x hx)
        · rw [if_neg c1, if_neg c2] at e
          exact TB.inj x hx y hy e
    · by_cases c : y = p
      · rw [if_pos c]
        exact lq
      · rw [if_neg c]
        exact (qc y hy).symm
abbrev sCb : Stmt := top 33
theorem scCb : FnScope ["rows", "person", "other"] ["rows", "person", "other"] (defScope sCb) := ⟨rfl, rfl, rfl, by decide +kernel, rfl, by decide +kernel, by decide +kernel⟩
def spCb : Sp := fun vs H Q _ => ∃ (D : Addr) (ys : List Str) (cp : Str → Addr) (T : Str → List Str) (f x : Str), vs = [.ref D, .str f, .str x] ∧ Tbl H D ys cp T ∧ ys.Nodup ∧ ys.length ≤ 63 ∧ f ∈ ys ∧ x ∈ T f ∧ CutOk ys T f ∧ CutQ H D ys cp T f ((T f).idxOf x + 1) Q
theorem ok_cb {f fC : Addr} {fd fdC : FuncData} (F : Fun K "cut_behind" "cut_behind" sCb f fd) (GC : FnOk P w K mg base CX0 1 fC fdC ["rows", "person", "at"] spCut) (kC : PySem.W.keepIn K (.ref fC) = true) (bC : Binds K fdC ["rows", "person", "at"] []) (gC : mg "cut_at" = some (.ref fC)) : FnOk P w K mg base CX0 2 f fd ["rows", "person", "other"] spCb := by
  refine F.ok scCb (fun vs H Q E h => ?_) (fun cdv A outer s H vs Q E hr h => ?_)
  · obtain ⟨D, ys, cp, T, p, x, rfl, _⟩ := h
    rfl
  · obtain ⟨D, ys, cp, T, p, x, rfl, TB, ndy, lys, hp, hx, CO, kk⟩ := h
    have nd := scCb.nd
    have hu := hu_of hr
    refine ⟨_, pss_one (ps_ret (pe_call GC hr rfl gC kC bC .nil pass0 (pa_cons (pv 0) (pa_cons (pv 1) (pa_cons (pe_op op_add (pe_bm PySem.F.plainAttrs_list PySem.F.slot_list_index PySem.F.type_list_index mt_index (pe_dget hu (pv 0) (pv 1) (fun _ _ => rfl)) (pa_cons (pv 2) pa_nil)) pe_int) pa_nil))))), ?_⟩
    refine ⟨_, rfl, _, rfl, _, rfl, _, rfl, D, .ref (cp p), rfl, TB.get ndy hp, .inl ⟨rfl, _, SqL.of (TB.r p hp)⟩, _, rfl, ?_⟩
    delta tNil
    dsimp only
    refine idxS_of (TB.r p hp) hx ?_
    refine ⟨_, _, rfl, rfl, D, ys, cp, T, p, (T p).idxOf x + 1, congrArg (fun z => [V.ref D, V.str p, V.int z]) (by push_cast; rfl), TB, ndy, lys, hp, CO, kk⟩
end
end Mn
/-! a cut as it is done, and as it is meant -/
namespace Ak
variable {α : Type} [DecidableEq α] {r : α → Nat}
theorem split_at {l : List α} (o : l.Pairwise fun a b => r a < r b) {x : α} (hx : x ∈ l) (v : α) : (v ∈ l.take (l.idxOf x + 1) ↔ v ∈ l ∧ ¬ r x < r v) ∧ (v ∈ l.drop (l.idxOf x + 1) ↔ v ∈ l ∧ r x < r v) := by
  obtain ⟨l1, l2, rfl, n1⟩ := List.eq_append_cons_of_mem hx
  have e : (l1 ++ x :: l2).idxOf x = l1.length := by
    rw [List.idxOf_append, if_neg n1, List.idxOf_cons_self]; omega
  obtain ⟨o1, o2, o3⟩ := List.pairwise_append.mp o
  have e1 : (l1 ++ x :: l2).take (l1.length + 1) = l1 ++ [x] := by
    rw [List.take_append, List.take_of_length_le (by omega), Nat.add_sub_cancel_left]
    rfl
  have e2 : (l1 ++ x :: l2).drop (l1.length + 1) = l2 := by
    rw [List.drop_append, List.drop_of_length_le (by omega), Nat.add_sub_cancel_left]
    rfl
  have b1 : ∀ a ∈ l1, r a < r x := fun a ha => o3 a ha x List.mem_cons_self
  have b2 : ∀ a ∈ l2, r x < r a := fun a ha => List.rel_of_pairwise_cons o2 ha
  rw [e, e1, e2]
  constructor
  · constructor
    · intro h
      rcases List.mem_append.mp h with h | h
      · exact ⟨List.mem_append_left _ h, by have := b1 v h; omega⟩
      · rw [List.mem_singleton.mp h]
        exact ⟨List.mem_append_right _ List.mem_cons_self, Nat.lt_irrefl _⟩
    · rintro ⟨h, n⟩
      rcases List.mem_append.mp h with h | h
      · exact List.mem_append_left _ h
      · rcases List.mem_cons.mp h with rfl | h
        · simp
        · exact absurd (b2 v h) n
  · constructor
    · intro h
      exact ⟨List.mem_append_right _ (List.mem_cons_of_mem _ h), b2 v h⟩
    · rintro ⟨h, n⟩
      rcases List.mem_append.mp h with h | h
      · have := b1 v h
        omega
      · rcases List.mem_cons.mp h with rfl | h
        · exact absurd n (Nat.lt_irrefl _)
        · exact h
end Ak
namespace Mn
open PySem PySem.Spec PyProof.Rows L2 Md Me Ml LamX Mi Mo
theorem ord_nd {r : Str → Nat} : ∀ {l : List Str}, l.Pairwise (fun a b => r a < r b) → l.Nodup
  | [], _ => .nil
  | a :: l, o => by
    obtain ⟨h1, h2⟩ := List.pairwise_cons.mp o
    refine List.nodup_cons.mpr ⟨fun h => Nat.lt_irrefl _ (h1 a h), ord_nd h2⟩
section
variable {ys : List Str} {R T : Str → List Str} {x f : Str}
theorem cut_ok (I : Ak.Tab R T) (S : ShOk ys R) (hl : ys.length ≤ 63) : CutOk ys T f :=
  ⟨ord_nd (I.ord f), fun h => S.ir f (I.mem f f h), fun z hz => ⟨(S.sub f z (I.mem f z hz)).2, I.sym f z hz⟩, fun z hz => Nat.le_trans (pigeon (ord_nd (I.ord z)) fun y hy => (S.sub z y (I.mem z y hy)).2) hl⟩
theorem cutK_is (I : Ak.Tab R T) (S : ShOk ys R) (hx : x ∈ T f) (y : Str) : cutK T f ((T f).idxOf x + 1) y = Ak.cut R T x f y := by
  have sp := Ak.split_at (I.ord f) hx
  unfold cutK
  by_cases c : y = f
  · rw [if_pos c]
    subst c
    refine Ak.ord_eq (r := Ak.rk R y) ((I.ord y).sublist (List.take_sublist _ _)) (I.cut.ord y) fun v => ?_
    rw [(sp v).1, Ak.mem_cut]
    refine ⟨fun ⟨h1, h2⟩ => ⟨h1, fun z => h2 z.2, fun z => ?_⟩, fun ⟨h1, h2, _⟩ => ⟨h1, fun z => h2 ⟨rfl, z⟩⟩⟩
    exact S.ir y (I.mem y y (by rw [← z.1]; rw [z.1] at h1; exact z.1 ▸ h1))
  · rw [if_neg c]
    by_cases d : y ∈ (T f).drop ((T f).idxOf x + 1)
    · rw [if_pos d, (ord_nd (I.ord y)).erase_eq_filter]
      have h := ((sp y).2.mp d).2
      unfold Ak.cut
      refine List.filter_congr fun v _ => ?_
      rw [decide_eq_false c, decide_eq_true h]
      by_cases e : v = f
      · simp [e]
      · simp [e]
    · rw [if_neg d]
      unfold Ak.cut
      symm
      refine List.filter_eq_self.mpr fun v hv => ?_
      rw [decide_eq_false c]
      by_cases e : v = f
      · rw [e] at hv
        have : ¬ Ak.rk R f x < Ak.rk R f y := fun z => d ((sp y).2.mpr ⟨I.sym y f hv, z⟩)
        simp [this]
      · simp [e]
theorem struck_is (I : Ak.Tab R T) (hx : x ∈ T f) (z : Str) : z ∈ (T f).drop ((T f).idxOf x + 1) ↔ z ∈ T f ∧ Ak.rk R f x < Ak.rk R f z := (Ak.split_at (I.ord f) hx z).2
end
/-- how much is left -/
def tsum (T : Str → List Str) : List Str → Nat
  | [] => 0
  | y :: ys => (T y).length + tsum T ys
theorem tsum_le {T T' : Str → List Str} : ∀ {ys : List Str}, (∀ y ∈ ys, (T' y).length ≤ (T y).length) → tsum T' ys ≤ tsum T ys
  | [], _ => Nat.le_refl _
  | y :: ys, h => Nat.add_le_add (h y List.mem_cons_self) (tsum_le fun z hz => h z (List.mem_cons_of_mem _ hz))
theorem tsum_cut {T T' : Str → List Str} {p : Str} {d : Nat} : ∀ {ys : List Str}, (∀ y ∈ ys, (T' y).length ≤ (T y).length) → p ∈ ys → (T' p).length + d ≤ (T p).length → tsum T' ys + d ≤ tsum T ys
  | [], _, h, _ => by cases h
  | y :: ys, h, hp, hd => by
    show (T' y).length + tsum T' ys + d ≤ (T y).length + tsum T ys
    have h0 := tsum_le (T := T) (T' := T') (ys := ys) fun z hz => h z (List.mem_cons_of_mem _ hz)
    rcases List.mem_cons.mp hp with rfl | hp
    · omega
    · have h1 := tsum_cut (fun z hz => h z (List.mem_cons_of_mem _ hz)) hp hd
      have h2 := h y List.mem_cons_self
      omega
theorem tsum_bound {T : Str → List Str} {n : Nat} : ∀ {ys : List Str}, (∀ y ∈ ys, (T y).length ≤ n) → tsum T ys ≤ ys.length * n
  | [], _ => Nat.zero_le _
  | y :: ys, h => by
    have h1 := tsum_bound (T := T) (ys := ys) fun z hz => h z (List.mem_cons_of_mem _ hz)
    have h2 := h y List.mem_cons_self
    show (T y).length + tsum T ys ≤ (ys.length + 1) * n
    rw [Nat.succ_mul]
    omega
theorem cutK_len {T : Str → List Str} {f : Str} {k : Nat} (y : Str) : (cutK T f k y).length ≤ (T y).length := by
  unfold cutK
  by_cases c : y = f
  · rw [if_pos c, c, List.length_take]
    omega
  · rw [if_neg c]
    by_cases d : y ∈ (T f).drop k
    · rw [if_pos d]
      exact List.length_erase_le
    · rw [if_neg d]
      exact Nat.le_refl _
end Mn
/-! sharing_rows -/
namespace Mn
open PySem PySem.Spec PyProof.Rows L2 Md Me Ml LamX Mi Mo
abbrev sShr : Stmt := top 30
abbrev shrN : List Str := ["market", "rows", "person", "other"]
theorem scShr : FnScope shrN ["market"] (defScope sShr) := ⟨rfl, rfl, rfl, by decide +kernel, rfl, by decide +kernel, by decide +kernel⟩
def spShr (K : PySem.W.Frag) (C0 : Addr) : Sp := fun vs H Q E => ∃ (v : V), vs = [v] ∧
  ((∃ (m : Addr) (ns ys : List Str) (rw_ : Str → List Str), v = .ref m ∧ MkAt H C0 m ns ys rw_ ∧ GoodNs ns ∧ GoodRows ns rw_ ∧ ∀ (H' : Hp) (D : Addr) (cp : Str → Addr), Same H H' → H D = none → Tbl H' D ys cp (shR ys rw_) → (∀ y ∈ ys, H (cp y) = none) → Q (.ref D) H') ∨
   (NoMk K C0 H v ∧ ∀ (H' : Hp) (d : Addr), Same H H' → H' d = some (.xd [("thing", v)]) → E (.ref (He.ga K "BadMarket")) (some d) H'))
section
variable {P : Program} {w : World} {K : PySem.W.Frag} {mg : Str → Option Value} {base : Heap}
theorem ok_shr {f fR C0 : Addr} {fd fdR : FuncData} (F : Fun K "sharing_rows" "sharing_rows" sShr f fd)
    (GR : FnOk P w K mg base (L2.CX P w) 4 fR fdR ["market", "people"] (spRowsOf K C0)) (kR : PySem.W.keepIn K (.ref fR) = true) (bR : Binds K fdR ["market", "people"] []) (gR : mg "rows_of" = some (.ref fR)) :
    FnOk P w K mg base (L2.CX P w) 5 f fd ["market"] (spShr K C0) := by
  refine F.okX scShr (fun vs H Q E h => ?_) (fun cdv A outer s H vs Q E hr h => ?_)
  · obtain ⟨v, rfl, _⟩ := h
    rfl
  · obtain ⟨v, rfl, h⟩ := h
    have nd := scShr.nd
    have hu := hu_of hr
    refine ⟨_, pss_cons (ps_set (i := 1) nd rfl (Or.inr rfl) (pe_call (E := E) GR (hr.mono (by decide)) rfl gR kR bR .nil (passL (takes_of rfl rfl rfl rfl)) (pa_cons (pv 0) (pa_cons (pe_lst pa_nil) pa_nil)))) (PSs.nox (pss_one (ps_ret (pe_lock (pe_dc (own := [("person", 2)]) (g := gName 2) (tt := tYes) (tk := tVar 2) (tv := tLc (iList K (tDGet (tVar 1) (tVar 2))) (gName 3) (tTest (tOp (rIn K false) (tVar 2) (tDGet (tVar 1) (tVar 3)))) (tVar 3) (List.map (fun x => x.2) [(("other" : Str), 3)])) rfl nd (pi_keys (pv 1)) (blkOk_by (N := shrN) (sc := defScope sShr) (by decide +kernel)) (fun _ _ _ _ _ => (pg_name (i := 2) nd rfl (Or.inr rfl))) (fun _ _ _ _ _ => pts_nil) (fun _ _ _ _ _ => by exact pv 2) (fun _ _ _ _ _ => by exact (pe_lc (own := [("other", 3)]) (g := gName 3) (tt := tTest (tOp (rIn K false) (tVar 2) (tDGet (tVar 1) (tVar 3)))) (te := tVar 3) rfl nd (pi_list (pe_dget hu (pv 1) (pv 2) (fun _ _ => rfl))) (blkOk_by (N := shrN) (by rfl)) (fun _ _ _ _ _ => (pg_name (i := 3) nd rfl (Or.inl rfl))) (fun _ _ _ _ _ => pts_one (pt_cmpR op_in_seq (pv 2) (pe_dget hu (pv 1) (pv 3) (fun _ _ => rfl)) (by with_unfolding_all rfl))) (fun _ _ _ _ _ => by exact pv 3)))))))), ?_⟩

    refine ⟨_, rfl, (show 0 ≤ sizeLine by decide), fun p np => ?_⟩
    have sp := sameUp (o := .lst []) np
    have hp : upd H p (.lst []) p = some (.lst []) := upd_same
    refine ⟨v, p, rfl, hp, ?_⟩
    rcases h with ⟨m, ns, ys, rw_, rfl, M, gn, gr, k⟩ | ⟨nk, k⟩
    rotate_left
    · exact .inr ⟨nk.same sp, fun H' d s h => k H' d (sp.trans s) h⟩
    refine .inl ⟨m, ns, ys, rw_, rfl, M.ext (ExtN.of sp), gn.nd, gn.l, fun H1 R0 bs s1 RF => ?_⟩
    have s01 := sp.trans s1
    have hR0 := RF.d
    obtain ⟨od0, ehod⟩ : ∃ kvs, kvs = ((ys.zip bs).map fun p => ((Sum.inr p.1 : Key), V.ref p.2)) := ⟨_, rfl⟩
    rw [← ehod] at hR0
    refine ⟨R0, _, hR0, trivial, fun od => ?_⟩
    have hfz : upd H1 R0 (.frz od (.dK od0)) R0 = some (.frz od (.dK od0)) := upd_same
    refine ⟨_, rfl, R0, od, rfl, .inl ⟨_, hfz, fun D hD => ?_⟩⟩
    obtain ⟨fD1, DR⟩ := lockFree hD
    have ndy : ys.Nodup := M.pm.nodup_iff.mpr gn.nd
    have mm : ∀ x, x ∈ ys ↔ x ∈ ns := fun x => M.pm.mem_iff
    have lys : ys.length ≤ 63 := by rw [M.pm.length_eq]; exact gn.l
    have gry : GoodRows ys rw_ := fun y hy => ⟨(gr y ((mm y).mp hy)).nd, (gr y ((mm y).mp hy)).ne, fun x hx => (mm x).mpr ((gr y ((mm y).mp hy)).sub x hx)⟩
    obtain ⟨cq, ecq⟩ := exists_pp (α := Addr) RF.l ndy
    have ekv : od0 = dcOf ys fun y => .ref (cq y) := by
      rw [ehod, ecq, zip_pp]
    subst ekv
    have hcq : ∀ y ∈ ys, H1 (cq y) = some (.lst ((rw_ y).map V.str)) := fun y hy => by
      obtain ⟨j, hj⟩ := List.getElem?_of_mem hy
      exact RF.r j y _ hj (by rw [ecq, List.getElem?_map, hj]; rfl)
    have cqR : ∀ y ∈ ys, cq y ≠ R0 := fun y hy z => by
      have := hcq y hy
      rw [z, hR0] at this
      cases this
    have getr : ∀ {H' : Hp} {n : Str}, Same (upd H1 R0 (.frz od (.dK (dcOf ys fun y => V.ref (cq y))))) H' → n ∈ ys → DGet H' R0 (.str n) (some (.ref (cq n))) ∧ H' (cq n) = some (.lst ((rw_ n).map V.str)) := fun {H' n} s hn => by
      refine ⟨?_, s _ _ ((upd_ne (cqR n hn)).trans (hcq n hn))⟩
      rw [← dcOf_some (g := fun y => V.ref (cq y)) ndy hn]
      exact dget_fz (k := Sum.inr n) (s _ _ hfz)
    refine dc_it walk_keys (fun i H' => ∃ ad : Str → Addr, Same (upd H1 R0 (.frz od (.dK (dcOf ys fun y => V.ref (cq y))))) H' ∧ H' D = some (.dK (dcOf (ys.take i) fun y => .ref (ad y))) ∧ (∀ y ∈ ys.take i, H' (ad y) = some (.lst ((shR ys rw_ y).map V.str)) ∧ H1 (ad y) = none ∧ ad y ≠ R0) ∧ ∀ x ∈ ys.take i, ∀ y ∈ ys.take i, ad x = ad y → x = y) ⟨fun _ => 0, sameUp hD, upd_same, fun y hy => by simp at hy, fun y hy => by simp at hy⟩ (fun i H' _ ⟨_, s, _⟩ => s _ _ hfz) ?_ ?_
    · rintro i v H2 H3 hi ⟨ad, s2, hd2, hf2, inj2⟩ ⟨rfl, k0, v0, hk, rfl⟩
      obtain ⟨n, hn, rfl, rfl⟩ := dcOf_at hk
      have hny := List.mem_of_getElem? hn
      obtain ⟨gn3, ln3⟩ := getr s2 hny
      refine ⟨rfl, _, rfl, _, rfl, _, rfl, R0, .ref (cq n), rfl, gn3, cq n, rfl, ⟨_, SqL.of ln3⟩, fun L hL => ?_⟩
      refine lc_it (walk_list (xs := (rw_ n).map V.str)) (fun j H' => Same H3 H' ∧ H' L = some (.lst ((((rw_ n).take j).filter fun y => decide (n ∈ rw_ y)).map V.str))) ⟨sameUp hL, upd_same⟩ (fun j H' _ h => SqL.of (h.1 _ _ ln3)) ?_ ?_
      · rintro j w H4 H5 hj ⟨s4, hL4⟩ ⟨rfl, hw⟩
        rw [List.getElem?_map] at hw
        obtain ⟨x, hx, rfl⟩ := Option.map_eq_some_iff.mp hw
        have hxy := (gry n hny).sub x (List.mem_of_getElem? hx)
        obtain ⟨gx, lx⟩ := getr (s2.trans s4) hxy
        have tk : (rw_ n).take (j + 1) = (rw_ n).take j ++ [x] := by
          rw [List.take_add_one, hx]
          rfl
        have lj : ((rw_ n).take j).length ≤ 63 := by
          have := pigeon (gry n hny).nd (gry n hny).sub
          rw [List.length_take]
          omega
        refine ⟨rfl, _, rfl, _, rfl, _, rfl, R0, .ref (cq x), rfl, gx, cq x, _, rfl, .inl (SqL.of lx), rfl, flat_strs _, ?_⟩
        show ∃ k, V.bl (inV (V.str n) ((rw_ x).map V.str)) = V.bl k ∧ _
        rw [inV_strs]
        by_cases c : n ∈ rw_ x
        · rw [decide_eq_true c]
          refine ⟨true, rfl, iteT ⟨_, rfl, _, hL4, ?_, fun c o e => ?_, ?_⟩⟩
          · rw [List.length_map]
            exact small1000 (by have := List.length_filter_le (fun y => decide (n ∈ rw_ y)) ((rw_ n).take j); omega)
          · rw [upd_ne (ne_of_none e hL)]
            exact s4 _ _ e
          · rw [upd_same, tk, List.filter_append, List.map_append, show [x].filter (fun y => decide (n ∈ rw_ y)) = [x] by rw [List.filter_cons_of_pos (by simpa using c)]; rfl]
            rfl
        · rw [decide_eq_false c]
          refine ⟨false, rfl, iteF ⟨s4, ?_⟩⟩
          rw [tk, List.filter_append, show [x].filter (fun y => decide (n ∈ rw_ y)) = [] by rw [List.filter_cons_of_neg (by simpa using c)]; rfl, List.append_nil]
          exact hL4
      rintro H4 ⟨s4, hL4⟩
      rw [List.length_map, List.take_length, ← shR_at hny] at hL4
      have hd4 := s4 _ _ hd2
      have lD : L ≠ D := (ne_of_none hd2 hL).symm
      have ny := not_take ndy hn
      have et : ys.take (i + 1) = ys.take i ++ [n] := by
        rw [List.take_add_one, hn]
        rfl
      obtain ⟨fL1, LR⟩ := lockFree (s2.free hL)
      have fr : ∀ y ∈ ys.take i, ad y ≠ L := fun y hy => ne_of_none (hf2 y hy).1 hL
      refine ⟨_, Sum.inr n, rfl, hd4, small1000 (by rw [dcOf_len, List.length_take]; omega), fun z => if z = n then L else ad z, ?_, ?_, fun y hy => ?_, fun x hx y hy e => ?_⟩
      · exact same_unX hD (s2.trans s4)
      · rw [upd_same, put_ad ny, ← et]
      · rw [et] at hy
        dsimp only
        by_cases c : y = n
        · rw [if_pos c, upd_ne lD, c]
          exact ⟨hL4, fL1, LR⟩
        · rw [if_neg c]
          have hy' : y ∈ ys.take i := by
            rcases List.mem_append.mp hy with q | q
            · exact q
            · exact absurd (List.mem_singleton.mp q) c
          obtain ⟨e1, e2, e3⟩ := hf2 y hy'
          have e4 := s4 _ _ e1
          refine ⟨?_, e2, e3⟩
          rw [upd_ne fun w => by
            rw [w, hd4] at e4
            cases e4]
          exact e4
      · rw [et] at hx hy
        dsimp only at e
        have inT : ∀ {z}, z ∈ ys.take i ++ [n] → z ≠ n → z ∈ ys.take i := fun {z} h c => by
          rcases List.mem_append.mp h with q | q
          · exact q
          · exact absurd (List.mem_singleton.mp q) c
        by_cases c1 : x = n
        · by_cases c2 : y = n
          · rw [c1, c2]
          · rw [if_pos c1, if_neg c2] at e
            exact absurd e.symm (fr y (inT hy c2))
        · by_cases c2 : y = n
          · rw [if_neg c1, if_pos c2] at e
            exact absurd e (fr x (inT hx c1))
          · rw [if_neg c1, if_neg c2] at e
            exact inj2 x (inT hx c1) y (inT hy c2) e
    rintro H2 ⟨ad, s2, hd2, hf2, inj2⟩
    rw [dcOf_len, List.take_length] at hd2 hf2 inj2
    refine ⟨s2 _ _ hfz, ?_⟩
    have s3 := unl hR0 s2
    refine k _ D ad (s01.trans s3) (s01.free fD1) ⟨(upd_ne DR).trans hd2, fun y hy => (upd_ne (hf2 y hy).2.2).trans (hf2 y hy).1, inj2⟩ fun y hy => s01.free (hf2 y hy).2.1
end
end Mn
/-! ask_through, asked_rows -/
namespace Mn
open PySem PySem.Spec PyProof.Rows L2 Md Me Ml LamX Mi Mo
abbrev sAsk : Stmt := top 34
abbrev sAr : Stmt := top 36
theorem scAsk : FnScope ["rows", "asking", "person"] ["rows"] (defScope sAsk) := ⟨rfl, rfl, rfl, by decide +kernel, rfl, by decide +kernel, by decide +kernel⟩
theorem KeepT.step {D : Addr} {ys : List Str} {cp cp1 : Str → Addr} {H H1 H2 : Hp} (k : KeepT D ys cp H H1) (n : ∀ y ∈ ys, cp1 y = cp y ∨ H (cp1 y) = none) (k2 : KeepT D ys cp1 H1 H2) : KeepT D ys cp H H2 := fun c o h1 h2 e => k2 c o h1 (fun y hy z => by
  rcases n y hy with q | q
  · exact h2 y hy (z.trans q)
  · rw [← z, e] at q
    cases q) (k c o h1 h2 e)
theorem new_step {ys : List Str} {cp cp1 cp2 : Str → Addr} {H H1 : Hp} (l : Liv H H1) (n : ∀ y ∈ ys, cp1 y = cp y ∨ H (cp1 y) = none) (n2 : ∀ y ∈ ys, cp2 y = cp1 y ∨ H1 (cp2 y) = none) : ∀ y ∈ ys, cp2 y = cp y ∨ H (cp2 y) = none := fun y hy => by
  rcases n2 y hy with q | q
  · rw [q]
    exact n y hy
  · exact .inr (l _ q)
def spAsk : Sp := fun vs H Q _ => ∃ (D : Addr) (ys : List Str) (cp : Str → Addr) (R : Str → List Str), vs = [.ref D] ∧ Tbl H D ys cp R ∧ ys.Nodup ∧ ys.length ≤ 63 ∧ ShOk ys R ∧
  ∀ (H' : Hp) (cp' : Str → Addr) (T : Str → List Str), KeepT D ys cp H H' → Liv H H' → (∀ y ∈ ys, cp' y = cp y ∨ H (cp' y) = none) → Tbl H' D ys cp' T → Ak.Run R T → (∀ z, Ak.Cl T z) → Q .non H'
section
variable {P : Program} {w : World} {K : PySem.W.Frag} {mg : Str → Option Value} {base : Heap}
theorem ok_ask {f fC : Addr} {fd fdC : FuncData} (F : Fun K "ask_through" "ask_through" sAsk f fd) (GC : FnOk P w K mg base CX0 2 fC fdC ["rows", "person", "other"] spCb) (kC : PySem.W.keepIn K (.ref fC) = true) (bC : Binds K fdC ["rows", "person", "other"] []) (gC : mg "cut_behind" = some (.ref fC)) (gList : mg "list" = none) : FnOk P w K mg base CX0 3 f fd ["rows"] spAsk := by
  refine F.ok scAsk (fun vs H Q E h => ?_) (fun cdv A outer s H vs Q E hr h => ?_)
  · obtain ⟨D, ys, cp, R, rfl, _⟩ := h
    rfl
  · obtain ⟨D, ys, cp, R, rfl, TB, ndy, lys, SO, kk⟩ := h
    have nd := scAsk.nd
    have hu := hu_of hr
    refine ⟨_, (pss_cons (ps_set (i := 1) nd rfl (Or.inl rfl) (pe_callTy (call_listD rfl) rfl gList boot_list (pa_cons (pv 0) pa_nil)))
      (pss_one (ps_while PassesOwn.never (pt_truth (pv 1) (by intro _; rfl)) (pss_cons (ps_set (i := 2) nd rfl (Or.inl rfl) (pe_bm0 PySem.F.plainAttrs_list PySem.F.slot_list_pop PySem.F.type_list_pop mt_pop (pv 1)))
      (pss_one (ps_if (pt_truth (pe_dget hu (pv 0) (pv 2) (fun _ _ => rfl)) (by intro _; rfl)) (pss_one (ps_expr (pe_bm PySem.F.plainAttrs_list PySem.F.slot_list_extend PySem.F.type_list_extend mt_extend (pv 1) (pa_cons (pe_call GC (hr.mono (by decide)) rfl gC kC bC .nil pass0 (pa_cons (pv 0) (pa_cons (pe_ix ix_list (pe_dget hu (pv 0) (pv 2) (fun _ _ => rfl)) pe_int (fun _ _ => rfl)) (pa_cons (pv 2) pa_nil)))) pa_nil)))) pss_nil)))))), ?_⟩

    refine ⟨_, rfl, D, _, rfl, .inl TB.d, fun W nW => ?_⟩
    have ek : ((dcOf ys fun y => V.ref (cp y)).map fun kv => kV kv.1) = ys.map V.str := by
      unfold dcOf
      rw [List.map_map]
      rfl
    rw [ek]
    have sW := sameUp (o := .lst (ys.map V.str)) nW
    have hW : upd H W (.lst (ys.map V.str)) W = some (.lst (ys.map V.str)) := upd_same
    have TB1 := TB.ext (ExtN.of sW)
    have WD : W ≠ D := (ne_of_none TB.d nW).symm
    have Wc : ∀ y ∈ ys, W ≠ cp y := fun y hy => (ne_of_none (TB.r y hy) nW).symm
    generalize upd H W (.lst (ys.map V.str)) = H1 at sW hW TB1 ⊢
    have run0 : Ak.Run R R := Ak.Run.start SO.nd SO.sym
    have lR : ∀ {T : Str → List Str}, Ak.Run R T → ∀ z ∈ ys, (T z).length ≤ 63 := fun {T} r => (cut_ok (f := (default : Str)) r.i.toTab SO lys).l
    have b0 : tsum R ys ≤ ys.length * 63 := tsum_bound (lR run0)
    obtain ⟨Wv, hWv⟩ : ∃ Wv : Nat → L2.St → Hp → Prop, Wv = fun μ σ H' => ∃ (ws : List Str) (cp1 : Str → Addr) (T : Str → List Str) (o2 : Option V), σ = [some (.ref D), some (.ref W), o2] ∧ μ = ws.length + tsum T ys ∧ μ ≤ 5000 ∧ KeepT D ys cp H H' ∧ Liv H H' ∧ (∀ y ∈ ys, cp1 y = cp y ∨ H (cp1 y) = none) ∧ Tbl H' D ys cp1 T ∧ Ak.Run R T ∧ H' W = some (.lst (ws.map V.str)) ∧ (∀ y ∈ ys, W ≠ cp1 y) ∧ (∀ z ∈ ws, z ∈ ys) ∧ ∀ z, T z ≠ [] → z ∈ ws ∨ Ak.Cl T z := ⟨_, rfl⟩
    refine ⟨Wv, ⟨_, by
      rw [hWv]
      exact ⟨ys, cp, R, none, rfl, rfl, by omega, KeepT.same sW, Liv.same sW, fun y _ => .inl rfl, TB1, run0, hW, Wc, fun z h => h, fun z h => by
        obtain ⟨y, hy⟩ := List.exists_mem_of_ne_nil _ h
        exact .inl (SO.sub z y hy).1⟩⟩, ?_⟩
    rw [hWv]
    rintro μ σ H' ⟨ws, cp1, T, o2, rfl, rfl, bd, kt, lv, nw, TBA, RT, hWA, WcA, wsy, cl⟩
    refine ⟨_, rfl, _, .inl ⟨_, SqL.of hWA, rfl⟩, ?_⟩
    rcases List.eq_nil_or_concat ws with rfl | ⟨wi, x, rfl⟩
    · refine iteF (kk H' cp1 T kt lv nw TBA RT fun z f hf => ?_)
      rcases cl z (fun e => by rw [e] at hf; cases hf) with q | q
      · cases q
      · exact q f hf
    rw [List.concat_eq_append] at hWA bd wsy cl ⊢
    have hne : (!(List.map V.str (wi ++ [x])).isEmpty) = true := by simp
    rw [hne]
    refine iteT ⟨fun σ' H'' => ∃ m', m' < (wi ++ [x]).length + tsum T ys ∧ Wv m' σ' H'', fun _ _ h => by rw [hWv] at h; exact h, ?_⟩
    have hx := wsy x (by simp)
    refine ⟨_, rfl, .inl ⟨rfl, _, SqL.of hWA⟩, W, _, .str x, rfl, rfl, hWA, by simp, ?_⟩
    have edr : (List.map V.str (wi ++ [x])).dropLast = wi.map V.str := by simp
    rw [edr]
    have hWB : upd H' W (.lst (wi.map V.str)) W = some (.lst (wi.map V.str)) := upd_same
    have TBB : Tbl (upd H' W (.lst (wi.map V.str))) D ys cp1 T := ⟨(upd_ne WD.symm).trans TBA.d, fun y hy => (upd_ne (WcA y hy).symm).trans (TBA.r y hy), TBA.inj⟩
    have ktB : KeepT D ys cp H (upd H' W (.lst (wi.map V.str))) := fun c o h1 h2 e => by
      rw [upd_ne (ne_of_none e nW)]
      exact kt c o h1 h2 e
    have lvB : Liv H (upd H' W (.lst (wi.map V.str))) := lv.trans Liv.upd
    generalize upd H' W (.lst (wi.map V.str)) = HB at hWB TBB ktB lvB ⊢
    have lwi : (wi ++ [x]).length = wi.length + 1 := by rw [List.length_append]; rfl
    refine ⟨_, rfl, _, rfl, D, .ref (cp1 x), rfl, TBB.get ndy hx, _, .inl ⟨_, SqL.of (TBB.r x hx), rfl⟩, ?_⟩
    cases eT : T x with
    | nil =>
      refine iteF ⟨wi.length + tsum T ys, by omega, ?_⟩
      rw [hWv]
      refine ⟨wi, cp1, T, _, rfl, rfl, by omega, ktB, lvB, nw, TBB, RT, hWB, WcA, fun z hz => wsy z (List.mem_append_left _ hz), fun z hz => ?_⟩
      rcases cl z hz with q | q
      · rcases List.mem_append.mp q with q | q
        · exact .inl q
        · rw [List.mem_singleton.mp q] at hz
          exact absurd eT hz
      · exact .inr q
    | cons f r =>
      have hh : (T x).head? = some f := by rw [eT]; rfl
      have fx : f ∈ T x := Ak.head_mem hh
      have xf := RT.i.sym x f fx
      have hfy := (SO.sub x f (RT.i.mem x f fx)).2
      refine iteT ?_
      have at0 : atI ((T x).map V.str) 0 = some (.str f) := atI_nat (j := 0) (by rw [eT]; rfl)
      refine ⟨_, rfl, .inl ⟨rfl, _, SqL.of hWB⟩, _, rfl, _, rfl, _, rfl, D, .ref (cp1 x), rfl, TBB.get ndy hx, cp1 x, _, _, _, rfl, rfl, SqL.of (TBB.r x hx), at0, _, rfl, ?_⟩
      refine ⟨D, ys, cp1, T, f, x, rfl, TBB, ndy, lys, hfy, xf, cut_ok RT.i.toTab SO lys, fun HC q cp2 kC lC nC TC fq hq nq => ?_⟩
      have hWC := kC W _ WD WcA hWB
      have Wq : W ≠ q := ne_of_none hWB fq
      have dl : ((T f).drop ((T f).idxOf x + 1)).length + ((T f).take ((T f).idxOf x + 1)).length = (T f).length := by
        rw [List.length_drop, List.length_take]
        omega
      have tT : tsum (cutK T f ((T f).idxOf x + 1)) ys + ((T f).drop ((T f).idxOf x + 1)).length ≤ tsum T ys := tsum_cut (fun y _ => cutK_len y) hfy (by
        have : cutK T f ((T f).idxOf x + 1) f = (T f).take ((T f).idxOf x + 1) := if_pos rfl
        rw [this]
        omega)
      refine ⟨W, q, _, _, rfl, rfl, hWC, hq, Nat.le_trans (show (wi.map V.str).length + (((T f).drop ((T f).idxOf x + 1)).map V.str).length ≤ 9000 by rw [List.length_map, List.length_map]; omega) (by decide), ?_⟩
      have ecut : cutK T f ((T f).idxOf x + 1) = Ak.cut R T x f := funext fun y => cutK_is RT.i.toTab SO xf y
      refine ⟨(wi ++ (T f).drop ((T f).idxOf x + 1)).length + tsum (cutK T f ((T f).idxOf x + 1)) ys, by rw [List.length_append]; omega, ?_⟩
      rw [hWv]
      refine ⟨wi ++ (T f).drop ((T f).idxOf x + 1), cp2, cutK T f ((T f).idxOf x + 1), _, rfl, rfl, by rw [List.length_append]; omega, fun c o h1 h2 e => ?_, (lvB.trans lC).trans Liv.upd, new_step lvB nw nC, ⟨(upd_ne WD.symm).trans TC.d, fun y hy => ?_, TC.inj⟩, ?_, by rw [upd_same, List.map_append], fun y hy => ?_, fun z hz => ?_, ?_⟩
      · rw [upd_ne (ne_of_none e nW)]
        exact (KeepT.step ktB nw kC) c o h1 h2 e
      · have Wy : W ≠ cp2 y := by
          rcases nC y hy with q | q
          · rw [q]
            exact WcA y hy
          · exact ne_of_none hWB q
        exact (upd_ne Wy.symm).trans (TC.r y hy)
      · rw [ecut]
        exact RT.cut SO.ir hh
      · rcases nC y hy with q | q
        · rw [q]
          exact WcA y hy
        · exact ne_of_none hWB q
      · rcases List.mem_append.mp hz with q | q
        · exact wsy z (List.mem_append_left _ q)
        · exact (SO.sub f z (RT.i.mem f z (List.mem_of_mem_drop q))).2
      · rw [ecut]
        exact RT.i.closed hh (A := fun z => z ∈ wi) (A' := fun z => z ∈ wi ++ (T f).drop ((T f).idxOf x + 1)) (fun z hz => by
          rcases cl z hz with q | q
          · rcases List.mem_append.mp q with q | q
            · exact .inl q
            · exact .inr (.inl (List.mem_singleton.mp q))
          · exact .inr (.inr q)) (fun z hz => List.mem_append_left _ hz) fun z h1 h2 _ => List.mem_append_right _ ((struck_is RT.i.toTab xf z).mpr ⟨h1, h2⟩)
theorem scAr : FnScope ["market", "rows"] ["market"] (defScope sAr) := ⟨rfl, rfl, rfl, by decide +kernel, rfl, by decide +kernel, by decide +kernel⟩
/-- what asking leaves: new rows, that do not hang on the order -/
structure AskD (H0 H : Hp) (D : Addr) (ys : List Str) (R T : Str → List Str) (cp : Str → Addr) : Prop where
  t : Tbl H D ys cp T
  run : Ak.Run R T
  cl : ∀ z, Ak.Cl T z
  fD : H0 D = none
  f : ∀ y ∈ ys, H0 (cp y) = none
def spArs (K : PySem.W.Frag) (C0 : Addr) : Sp := fun vs H Q E => ∃ (v : V), vs = [v] ∧
  ((∃ (m : Addr) (ns ys : List Str) (rw_ : Str → List Str), v = .ref m ∧ MkAt H C0 m ns ys rw_ ∧ GoodNs ns ∧ GoodRows ns rw_ ∧ ∀ (H' : Hp) (D : Addr) (cp : Str → Addr) (T : Str → List Str), Same H H' → AskD H H' D ys (shR ys rw_) T cp → Q (.ref D) H') ∨
   (NoMk K C0 H v ∧ ∀ (H' : Hp) (d : Addr), Same H H' → H' d = some (.xd [("thing", v)]) → E (.ref (He.ga K "BadMarket")) (some d) H'))
theorem ok_ars {f fS fA C0 : Addr} {fd fdS fdA : FuncData} (F : Fun K "asked_rows" "asked_rows" sAr f fd) (GS : FnOk P w K mg base (L2.CX P w) 5 fS fdS ["market"] (spShr K C0)) (kS : PySem.W.keepIn K (.ref fS) = true) (bS : Binds K fdS ["market"] []) (gS : mg "sharing_rows" = some (.ref fS))
    (GA : FnOk P w K mg base CX0 3 fA fdA ["rows"] spAsk) (kA : PySem.W.keepIn K (.ref fA) = true) (bA : Binds K fdA ["rows"] []) (gA : mg "ask_through" = some (.ref fA)) : FnOk P w K mg base (L2.CX P w) 6 f fd ["market"] (spArs K C0) := by
  refine F.okX scAr (fun vs H Q E h => ?_) (fun cdv A outer s H vs Q E hr h => ?_)
  · obtain ⟨v, rfl, _⟩ := h
    rfl
  · obtain ⟨v, rfl, h⟩ := h
    have nd := scAr.nd
    refine ⟨_, pss_cons (ps_set (i := 1) nd rfl (Or.inl rfl) (pe_call (E := E) GS (hr.mono (by decide)) rfl gS kS bS .nil (passL (takes_of rfl rfl rfl rfl)) (pa_cons (pv 0) pa_nil))) (PSs.nox (pss_cons (ps_expr (pe_call GA (hr.mono (by decide)) rfl gA kA bA .nil pass0 (pa_cons (pv 1) pa_nil))) (pss_one (ps_ret (pv 1))))), ?_⟩
    refine ⟨_, rfl, v, rfl, ?_⟩
    rcases h with ⟨m, ns, ys, rw_, rfl, M, gn, gr, k⟩ | h
    rotate_left
    · exact .inr h
    have mm : ∀ x, x ∈ ys ↔ x ∈ ns := fun x => M.pm.mem_iff
    have gry : GoodRows ys rw_ := fun y hy => ⟨(gr y ((mm y).mp hy)).nd, (gr y ((mm y).mp hy)).ne, fun x hx => (mm x).mpr ((gr y ((mm y).mp hy)).sub x hx)⟩
    have ndy : ys.Nodup := M.pm.nodup_iff.mpr gn.nd
    have lys : ys.length ≤ 63 := by rw [M.pm.length_eq]; exact gn.l
    refine .inl ⟨m, ns, ys, rw_, rfl, M, gn, gr, fun H1 D cp s1 fD TB fc => ?_⟩
    refine ⟨_, rfl, D, ys, cp, _, rfl, TB, ndy, lys, shR_ok gry, fun H2 cp2 T kt lv nw T2 RT cl => ⟨_, rfl, ?_⟩⟩
    refine k H2 D cp2 T (fun c o e => ?_) ⟨T2, RT, cl, fD, fun y hy => ?_⟩
    · refine kt c o (ne_of_none e fD) (fun y hy => ne_of_none e (fc y hy)) (s1 _ _ e)
    · rcases nw y hy with q | q
      · rw [q]
        exact fc y hy
      · exact s1.free q
end
end Mn
/-! _law_g_rows -/
namespace Mn
open PySem PySem.Spec PyProof.Rows L2 Md Me Ml LamX Mi Mo
abbrev sGro : Stmt := top 43
abbrev groN : List Str := ["_law_people", "_law_wishes", "_law_found", "_law_person", "_law_other"]
theorem scGro : FnScope groN ["_law_people", "_law_wishes"] (defScope sGro) := ⟨rfl, rfl, rfl, by decide +kernel, rfl, by decide +kernel, by decide +kernel⟩
def spGro (K : PySem.W.Frag) : Sp := fun vs H Q _ => ∃ (pa wd : Addr) (ns : List Str) (rw_ : Str → List Str), vs = [.ref pa, .ref wd] ∧ H pa = some (.lst (ns.map V.str)) ∧ RowsAt H wd ns rw_ ∧ GoodNs ns ∧ GoodRows ns rw_ ∧
  ∀ (H' : Hp) (D : Addr) (cp : Str → Addr) (ss : List Str), Same H H' → H D = none → ss.Perm ns → sortedS ss = true → Tbl H' D ss cp (shR ss rw_) → (∀ y ∈ ss, H (cp y) = none) → Q (.ref D) H'
section
variable {P : Program} {w : World} {K : PySem.W.Frag} {mg : Str → Option Value} {base : Heap}
theorem ok_gro {f : Addr} {fd : FuncData} (F : Fun K "_law_g_rows" "_law_g_rows" sGro f fd) (gSorted : mg "sorted" = none) : FnOk P w K mg base CX0 1 f fd ["_law_people", "_law_wishes"] (spGro K) := by
  refine F.ok scGro (fun vs H Q E h => ?_) (fun cdv A outer s H vs Q E hr h => ?_)
  · obtain ⟨pa, wd, ns, rw_, rfl, _⟩ := h
    rfl
  · obtain ⟨pa, wd, ns, rw_, rfl, hpa, RA, gn, gr, k⟩ := h
    have nd := scGro.nd
    have hu := hu_of hr
    refine ⟨_, (pss_cons (ps_set (i := 2) nd rfl (Or.inl rfl) pe_dnewK)
      (pss_cons (ps_for PassesOwn.never rfl (pi_list (pe_callB cr_sortedA (by rfl) gSorted (by decide +kernel) (pa_cons (pv 0) pa_nil))) (pg_name (i := 3) nd rfl (Or.inr rfl)) (pss_one (ps_dput hu (pv 2) (pv 3) (pe_lc (own := [("_law_other", 4)]) (g := gName 4) (tt := tTest (tOp (rIn K false) (tVar 3) (tDGet2 (tVar 1) (tVar 4) (tLst tNil)))) (te := tVar 4) rfl nd (pi_list (pe_dget2 hu (pv 1) (pv 3) (pe_lst pa_nil) ⟨rfl, rfl, rfl, rfl⟩)) (blkOk_by (N := groN) (sc := defScope sGro) (by decide +kernel)) (fun _ _ _ _ _ => (pg_name (i := 4) nd rfl (Or.inl rfl))) (fun _ _ _ _ _ => pts_one (pt_cmpR op_in_seq (pv 3) (pe_dget2 hu (pv 1) (pv 4) (pe_lst pa_nil) ⟨rfl, rfl, rfl, rfl⟩) (by with_unfolding_all rfl))) (fun _ _ _ _ _ => by exact pv 4)) rfl)))
      (pss_one (ps_ret (pv 2))))), ?_⟩

    have ndn := gn.nd
    obtain ⟨as, las, hwd, hrows⟩ := RA
    obtain ⟨cq, ecq⟩ := exists_pp (α := Addr) las ndn
    rw [ecq, zip_pp] at hwd
    have hcq : ∀ y ∈ ns, H (cq y) = some (.lst ((rw_ y).map V.str)) := fun y hy => by
      obtain ⟨j, hj⟩ := List.getElem?_of_mem hy
      exact hrows j y _ hj (by rw [ecq, List.getElem?_map, hj]; rfl)
    have getr : ∀ {H' : Hp} {n : Str}, Same H H' → n ∈ ns → DGet H' wd (.str n) (some (.ref (cq n))) ∧ H' (cq n) = some (.lst ((rw_ n).map V.str)) ∧ H' wd = some (.dK (dcOf ns fun y => .ref (cq y))) := fun {H' n} s hn => by
      refine ⟨?_, s _ _ (hcq n hn), s _ _ hwd⟩
      rw [← dcOf_some (g := fun y => V.ref (cq y)) ndn hn]
      exact DGet.k (k := Sum.inr n) (s _ _ hwd)
    refine fun D nD => ?_
    have sD := sameUp (o := .dK []) nD
    have hD : upd H D (.dK []) D = some (.dK []) := upd_same
    generalize upd H D (.dK []) = H1 at sD hD ⊢
    refine ⟨_, rfl, pa, ns, rfl, .inl (SqL.of (sD _ _ hpa)), by have := gn.l; omega, fun ss z pz soz nz => ⟨z, rfl, ⟨_, SqL.of upd_same⟩, ?_⟩⟩
    have sz := sameUp (o := .lst (ss.map V.str)) nz
    have hz : upd H1 z (.lst (ss.map V.str)) z = some (.lst (ss.map V.str)) := upd_same
    have hD2 := sz _ _ hD
    have zD : z ≠ D := (ne_of_none hD nz).symm
    have s02 := sD.trans sz
    generalize upd H1 z (.lst (ss.map V.str)) = H2 at hz hD2 s02 ⊢
    have nds : ss.Nodup := pz.nodup_iff.mpr ndn
    have lss : ss.length ≤ 63 := by rw [pz.length_eq]; exact gn.l
    refine for_it (walk_list (xs := ss.map V.str)) (fun i σ H' => ∃ (o3 : Option V) (ad : Str → Addr), σ = [some (.ref pa), some (.ref wd), some (.ref D), o3, none] ∧ Same H H' ∧ H' z = some (.lst (ss.map V.str)) ∧ H' D = some (.dK (dcOf (ss.take i) fun y => .ref (ad y))) ∧ (∀ y ∈ ss.take i, H' (ad y) = some (.lst ((shR ss rw_ y).map V.str)) ∧ H (ad y) = none) ∧ ∀ x ∈ ss.take i, ∀ y ∈ ss.take i, ad x = ad y → x = y) ⟨none, fun _ => 0, rfl, s02, hz, hD2, fun y hy => by simp at hy, fun y hy => by simp at hy⟩ (fun i σ H' _ ⟨_, _, _, _, h, _⟩ => SqL.of h) ?_ ?_
    · rintro i v σ HA HB hi ⟨o3, ad, rfl, sA, hzA, hdA, hfA, injA⟩ ⟨rfl, hv⟩
      rw [List.getElem?_map] at hv
      obtain ⟨n, hn, rfl⟩ := Option.map_eq_some_iff.mp hv
      have hns := List.mem_of_getElem? hn
      have hnn := pz.mem_iff.mp hns
      obtain ⟨gA, lA, wA⟩ := getr sA hnn
      refine ⟨_, rfl, wd, rfl, .inl ⟨_, .inl wA⟩, _, rfl, (show 0 ≤ sizeLine by decide), fun e1 ne1 => ?_⟩
      have se := sameUp (o := .lst []) ne1
      have sB := sA.trans se
      obtain ⟨gB, lB, wB⟩ := getr sB hnn
      refine ⟨some (.ref (cq n)), gB, cq n, rfl, ⟨_, SqL.of lB⟩, fun L hL => ?_⟩
      have fL : HB L = none := se.free hL
      have hdB := se _ _ hdA
      have hzB := se _ _ hzA
      have hfB : ∀ y ∈ ss.take i, upd HB e1 (.lst []) (ad y) = some (.lst ((shR ss rw_ y).map V.str)) := fun y hy => se _ _ (hfA y hy).1
      generalize upd HB e1 (.lst []) = HC at sB lB hdB hzB hfB hL ⊢
      refine lc_it (walk_list (xs := (rw_ n).map V.str)) (fun j H' => Same HC H' ∧ H' L = some (.lst ((((rw_ n).take j).filter fun y => decide (n ∈ rw_ y)).map V.str))) ⟨sameUp hL, upd_same⟩ (fun j H' _ h => SqL.of (h.1 _ _ lB)) ?_ ?_
      · rintro j w H4 H5 hj ⟨s4, hL4⟩ ⟨rfl, hw⟩
        rw [List.getElem?_map] at hw
        obtain ⟨x, hx, rfl⟩ := Option.map_eq_some_iff.mp hw
        have hxn := (gr n hnn).sub x (List.mem_of_getElem? hx)
        have tk : (rw_ n).take (j + 1) = (rw_ n).take j ++ [x] := by
          rw [List.take_add_one, hx]
          rfl
        have lj : ((rw_ n).take j).length ≤ 63 := by
          have := pigeon (gr n hnn).nd (gr n hnn).sub
          have := gn.l
          rw [List.length_take]
          omega
        obtain ⟨g5, l5, w5⟩ := getr (sB.trans s4) hxn
        refine ⟨rfl, _, rfl, _, rfl, wd, rfl, .inl ⟨_, .inl w5⟩, _, rfl, (show 0 ≤ sizeLine by decide), fun e2 ne2 => ?_⟩
        have s5 := sameUp (o := .lst []) ne2
        have s45 := s4.trans s5
        obtain ⟨g6, l6, w6⟩ := getr (sB.trans s45) hxn
        have hL6 := s5 _ _ hL4
        generalize upd H5 e2 (.lst []) = H6 at s45 g6 l6 w6 hL6 ⊢
        refine ⟨some (.ref (cq x)), g6, cq x, _, rfl, .inl (SqL.of l6), rfl, flat_strs _, ?_⟩
        show ∃ k, V.bl (inV (V.str n) ((rw_ x).map V.str)) = V.bl k ∧ _
        rw [inV_strs]
        by_cases c : n ∈ rw_ x
        · rw [decide_eq_true c]
          refine ⟨true, rfl, iteT ⟨_, rfl, _, hL6, ?_, fun c o e => ?_, ?_⟩⟩
          · rw [List.length_map]
            exact small1000 (by have := List.length_filter_le (fun y => decide (n ∈ rw_ y)) ((rw_ n).take j); omega)
          · rw [upd_ne (ne_of_none e hL)]
            exact s45 _ _ e
          · rw [upd_same, tk, List.filter_append, List.map_append, show [x].filter (fun y => decide (n ∈ rw_ y)) = [x] by rw [List.filter_cons_of_pos (by simpa using c)]; rfl]
            rfl
        · rw [decide_eq_false c]
          refine ⟨false, rfl, iteF ⟨s45, ?_⟩⟩
          rw [tk, List.filter_append, show [x].filter (fun y => decide (n ∈ rw_ y)) = [] by rw [List.filter_cons_of_neg (by simpa using c)]; rfl, List.append_nil]
          exact hL6
      rintro H4 ⟨s4, hL4⟩
      rw [List.length_map, List.take_length, ← shR_at hns] at hL4
      have hd4 := s4 _ _ hdB
      have lD : L ≠ D := (ne_of_none hdB hL).symm
      have ny := not_take nds hn
      have et : ss.take (i + 1) = ss.take i ++ [n] := by
        rw [List.take_add_one, hn]
        rfl
      have fr : ∀ y ∈ ss.take i, ad y ≠ L := fun y hy => ne_of_none (hfB y hy) hL
      have s14 := sB.trans s4
      refine ⟨_, rfl, _, rfl, D, _, rfl, DPut.k (k := Sum.inr n) hd4 (by rw [dcOf_len, List.length_take]; exact small1000 (by omega)), ?_⟩
      rw [put_ad ny, ← et]
      refine ⟨_, fun y => if y = n then L else ad y, rfl, same_unX nD s14, (upd_ne zD).trans (s4 _ _ hzB), upd_same, fun y hy => ?_, fun x hx y hy e => ?_⟩
      · rw [et] at hy
        dsimp only
        by_cases c : y = n
        · rw [if_pos c, upd_ne lD, c]
          exact ⟨hL4, sA.free fL⟩
        · rw [if_neg c]
          have hy' : y ∈ ss.take i := by
            rcases List.mem_append.mp hy with q | q
            · exact q
            · exact absurd (List.mem_singleton.mp q) c
          have e4 := s4 _ _ (hfB y hy')
          refine ⟨?_, (hfA y hy').2⟩
          rw [upd_ne fun w => by
            rw [w, hd4] at e4
            cases e4]
          exact e4
      · rw [et] at hx hy
        dsimp only at e
        have inT : ∀ {z}, z ∈ ss.take i ++ [n] → z ≠ n → z ∈ ss.take i := fun {z} h c => by
          rcases List.mem_append.mp h with q | q
          · exact q
          · exact absurd (List.mem_singleton.mp q) c
        by_cases c1 : x = n
        · by_cases c2 : y = n
          · rw [c1, c2]
          · rw [if_pos c1, if_neg c2] at e
            exact absurd e.symm (fr y (inT hy c2))
        · by_cases c2 : y = n
          · rw [if_neg c1, if_pos c2] at e
            exact absurd e (fr x (inT hx c1))
          · rw [if_neg c1, if_neg c2] at e
            exact injA x (inT hx c1) y (inT hy c2) e
    rintro σ HA ⟨o3, ad, rfl, sA, hzA, hdA, hfA, injA⟩
    rw [List.length_map, List.take_length] at hdA hfA injA
    exact ⟨_, rfl, k _ D ad ss sA nD pz soz ⟨hdA, fun y hy => (hfA y hy).1, injA⟩ fun y hy => (hfA y hy).2⟩
end
end Mn
/-! _law_g_place, _law_g_likes -/
namespace Mn
open PySem PySem.Spec PyProof.Rows L2 Md Me Ml LamX Mi Mo
abbrev sGpl : Stmt := top 44
abbrev sGli : Stmt := top 45
theorem scGpl : FnScope ["_law_rows", "_law_person", "_law_other"] ["_law_rows", "_law_person", "_law_other"] (defScope sGpl) := ⟨rfl, rfl, rfl, by decide +kernel, rfl, by decide +kernel, by decide +kernel⟩
theorem scGli : FnScope ["_law_rows", "_law_person", "_law_one", "_law_other"] ["_law_rows", "_law_person", "_law_one", "_law_other"] (defScope sGli) := ⟨rfl, rfl, rfl, by decide +kernel, rfl, by decide +kernel, by decide +kernel⟩
/-- a dict that is read, locked or not -/
def FzD (H : Hp) (D : Addr) (kvs : List (Key × V)) : Prop := H D = some (.dK kvs) ∨ ∃ od, H D = some (.frz od (.dK kvs))
theorem FzD.same {H H' : Hp} {D : Addr} {kvs : List (Key × V)} (s : Same H H') (h : FzD H D kvs) : FzD H' D kvs := h.imp (fun h => s _ _ h) fun ⟨od, h⟩ => ⟨od, s _ _ h⟩
theorem FzD.get {H : Hp} {D : Addr} {kvs : List (Key × V)} (h : FzD H D kvs) (k : Key) : DGet H D (kV k) (valV kvs k) := by
  rcases h with h | ⟨od, h⟩
  · exact DGet.k h
  · exact dget_fz h
/-- rows by people, to be read -/
structure Rdt (H : Hp) (D : Addr) (ys : List Str) (R : Str → List Str) : Prop where
  nd : ys.Nodup
  ex : ∃ cp : Str → Addr, FzD H D (dcOf ys fun y => .ref (cp y)) ∧ ∀ y ∈ ys, H (cp y) = some (.lst ((R y).map V.str))
theorem Rdt.same {H H' : Hp} {D : Addr} {ys : List Str} {R : Str → List Str} (s : Same H H') (h : Rdt H D ys R) : Rdt H' D ys R := by
  obtain ⟨cp, h1, h2⟩ := h.ex
  exact ⟨h.nd, cp, h1.same s, fun y hy => s _ _ (h2 y hy)⟩
theorem Rdt.get {H : Hp} {D : Addr} {ys : List Str} {R : Str → List Str} (h : Rdt H D ys R) {p : Str} (hp : p ∈ ys) : ∃ c, DGet H D (.str p) (some (.ref c)) ∧ H c = some (.lst ((R p).map V.str)) := by
  obtain ⟨cp, h1, h2⟩ := h.ex
  refine ⟨cp p, ?_, h2 p hp⟩
  rw [← dcOf_some (g := fun y => V.ref (cp y)) h.nd hp]
  exact h1.get (Sum.inr p)
theorem Tbl.rdt {H : Hp} {D : Addr} {ys : List Str} {cp : Str → Addr} {T : Str → List Str} (nd : ys.Nodup) (h : Tbl H D ys cp T) : Rdt H D ys T := ⟨nd, cp, .inl h.d, h.r⟩
theorem Tbl.fz {H : Hp} {D : Addr} {ys : List Str} {cp : Str → Addr} {T : Str → List Str} {od : Obj} (nd : ys.Nodup) (h : Tbl H D ys cp T) : Rdt (upd H D (.frz od (.dK (dcOf ys fun y => .ref (cp y))))) D ys T := ⟨nd, cp, .inr ⟨od, upd_same⟩, fun y hy => by
  rw [upd_ne fun z => by
    have := h.r y hy
    rw [z, h.d] at this
    cases this]
  exact h.r y hy⟩
def spGpl : Sp := fun vs H Q _ => ∃ (rd : Addr) (p x : Str) (ys : List Str) (R : Str → List Str), vs = [.ref rd, .str p, .str x] ∧ Rdt H rd ys R ∧ p ∈ ys ∧ Q (.int ((R p).idxOf x : Nat)) H
def spGli : Sp := fun vs H Q _ => ∃ (rd : Addr) (p x z : Str) (ys : List Str) (R : Str → List Str), vs = [.ref rd, .str p, .str x, .str z] ∧ Rdt H rd ys R ∧ p ∈ ys ∧ Q (.bl (decide (Ak.rk R p x < Ak.rk R p z))) H
section
variable {P : Program} {w : World} {K : PySem.W.Frag} {mg : Str → Option Value} {base : Heap}
theorem ok_gpl {f : Addr} {fd : FuncData} (F : Fun K "_law_g_place" "_law_g_place" sGpl f fd) (gLen : mg "len" = none) : FnOk P w K mg base CX0 1 f fd ["_law_rows", "_law_person", "_law_other"] spGpl := by
  refine F.ok scGpl (fun vs H Q E h => ?_) (fun cdv A outer s H vs Q E hr h => ?_)
  · obtain ⟨rd, p, x, ys, R, rfl, _⟩ := h
    rfl
  · obtain ⟨rd, p, x, ys, R, rfl, RD, hp, k⟩ := h
    have nd := scGpl.nd
    have hu := hu_of hr
    obtain ⟨c, g, l⟩ := RD.get hp
    refine ⟨_, pss_one (ps_ret (pe_ifExp (pt_cmpR op_in_seq (pv 2) (pe_dget hu (pv 0) (pv 1) (fun _ _ => rfl)) (by with_unfolding_all rfl)) (pe_bm PySem.F.plainAttrs_list PySem.F.slot_list_index PySem.F.type_list_index mt_index (pe_dget hu (pv 0) (pv 1) (fun _ _ => rfl)) (pa_cons (pv 2) pa_nil)) (pe_callB call_len_seq (by rfl) gLen PySem.boot_len (pa_cons (pe_dget hu (pv 0) (pv 1) (fun _ _ => rfl)) pa_nil)))), ?_⟩
    refine ⟨_, rfl, _, rfl, _, rfl, rd, .ref c, rfl, g, c, _, rfl, .inl (SqL.of l), rfl, flat_strs _, ?_⟩
    show ∃ k, V.bl (inV (V.str x) ((R p).map V.str)) = V.bl k ∧ _
    rw [inV_strs]
    by_cases cx : x ∈ R p
    · rw [decide_eq_true cx]
      refine ⟨true, rfl, iteT ⟨_, rfl, _, rfl, rd, .ref c, rfl, g, .inl ⟨rfl, _, SqL.of l⟩, _, rfl, ?_⟩⟩
      delta tNil
      dsimp only
      exact idxS_of l cx k
    · rw [decide_eq_false cx]
      refine ⟨false, rfl, iteF ⟨_, rfl, _, rfl, rd, .ref c, rfl, g, c, _, rfl, .inl (SqL.of l), ?_⟩⟩
      rw [List.length_map]
      rw [List.idxOf_eq_length cx] at k
      exact k
theorem ok_gli {f fP : Addr} {fd fdP : FuncData} (F : Fun K "_law_g_likes" "_law_g_likes" sGli f fd) (GP : FnOk P w K mg base CX0 1 fP fdP ["_law_rows", "_law_person", "_law_other"] spGpl) (kP : PySem.W.keepIn K (.ref fP) = true) (bP : Binds K fdP ["_law_rows", "_law_person", "_law_other"] []) (gP : mg "_law_g_place" = some (.ref fP)) : FnOk P w K mg base CX0 2 f fd ["_law_rows", "_law_person", "_law_one", "_law_other"] spGli := by
  refine F.ok scGli (fun vs H Q E h => ?_) (fun cdv A outer s H vs Q E hr h => ?_)
  · obtain ⟨rd, p, x, z, ys, R, rfl, _⟩ := h
    rfl
  · obtain ⟨rd, p, x, z, ys, R, rfl, RD, hp, k⟩ := h
    have nd := scGli.nd
    refine ⟨_, pss_one (ps_ret (pe_cmpR op_lt (pe_call GP hr rfl gP kP bP .nil pass0 (pa_cons (pv 0) (pa_cons (pv 1) (pa_cons (pv 2) pa_nil)))) (pe_call GP hr rfl gP kP bP .nil pass0 (pa_cons (pv 0) (pa_cons (pv 1) (pa_cons (pv 3) pa_nil)))) (nomark _))), ?_⟩
    refine ⟨_, rfl, _, rfl, _, rfl, rd, p, x, ys, R, rfl, RD, hp, _, rfl, _, rfl, _, rfl, rd, p, z, ys, R, rfl, RD, hp, _, _, rfl, rfl, ?_⟩
    have e : decide ((((R p).idxOf x : Nat) : Int) < (((R p).idxOf z : Nat) : Int)) = decide (Ak.rk R p x < Ak.rk R p z) := decide_eq_decide.mpr (by unfold Ak.rk; omega)
    show Q (.bl (decide ((((R p).idxOf x : Nat) : Int) < (((R p).idxOf z : Nat) : Int)))) H
    rw [e]
    exact k
end
end Mn
/-! _law_g_leaving -/
namespace Mn
open PySem PySem.Spec PyProof.Rows L2 Md Me Ml LamX Mi Mo
abbrev sGlv : Stmt := top 46
abbrev glvN : List Str := ["_law_rows", "_law_have", "_law_found", "_law_person", "_law_wanted", "_law_other"]
theorem scGlv : FnScope glvN ["_law_rows", "_law_have"] (defScope sGlv) := ⟨rfl, rfl, rfl, by decide +kernel, rfl, by decide +kernel, by decide +kernel⟩
theorem small5000 {n : Nat} (h : n ≤ 5000) : n < sizeLine := Nat.lt_of_le_of_lt h (by decide)
/-- two who would leave -/
def Leave (R : Str → List Str) (hv : Str → Str) (p x : Str) : Prop := Ak.rk R p x < Ak.rk R p (hv p) ∧ Ak.rk R x p < Ak.rk R x (hv x)
def spGlv (K : PySem.W.Frag) : Sp := fun vs H Q _ => ∃ (rd hd : Addr) (ys zs : List Str) (cp : Str → Addr) (R : Str → List Str) (hv : Str → Str), vs = [.ref rd, .ref hd] ∧ Tbl H rd ys cp R ∧ ys.Nodup ∧ ys.length ≤ 63 ∧ ShOk ys R ∧ H hd = some (.dK (dcOf zs fun y => .str (hv y))) ∧ zs.Nodup ∧ (∀ y ∈ ys, y ∈ zs) ∧ hd ≠ rd ∧
  ∀ (H' : Hp) (q : Addr) (ts : List Addr), Same H H' → H q = none → H' q = some (.lst (ts.map V.ref)) → (∀ t ∈ ts, ∃ x y : Str, (x ∈ ys ∧ y ∈ ys) ∧ H' t = some (.tup [.str x, .str y])) → ts.length ≤ 5000 → (ts = [] → ∀ p ∈ ys, ∀ x ∈ R p, p.cps.toList < x.cps.toList → ¬ Leave R hv p x) → Q (.ref q) H'
section
variable {P : Program} {w : World} {K : PySem.W.Frag} {mg : Str → Option Value} {base : Heap}
theorem ok_glv {f fL : Addr} {fd fdL : FuncData} (F : Fun K "_law_g_leaving" "_law_g_leaving" sGlv f fd) (GL : FnOk P w K mg base CX0 2 fL fdL ["_law_rows", "_law_person", "_law_one", "_law_other"] spGli) (kL : PySem.W.keepIn K (.ref fL) = true) (bL : Binds K fdL ["_law_rows", "_law_person", "_law_one", "_law_other"] []) (gL : mg "_law_g_likes" = some (.ref fL)) (gSorted : mg "sorted" = none) : FnOk P w K mg base CX0 3 f fd ["_law_rows", "_law_have"] (spGlv K) := by
  refine F.ok scGlv (fun vs H Q E h => ?_) (fun cdv A outer s H vs Q E hr h => ?_)
  · obtain ⟨rd, hd, ys, zs, cp, R, hv, rfl, _⟩ := h
    rfl
  · obtain ⟨rd, hd, ys, zs, cp, R, hv, rfl, TB, ndy, lys, SO, hhd, ndz, sub, hdr, k⟩ := h
    have nd := scGlv.nd
    have hu := hu_of hr
    refine ⟨_, (pss_cons (ps_set (i := 2) nd rfl (Or.inl rfl) (pe_lst pa_nil))
      (pss_cons (ps_lock (ps_for PassesOwn.never rfl (pi_keys (pv 0)) (pg_name (i := 3) nd rfl (Or.inr rfl)) (pss_cons (ps_setLc (i := 4) (own := [("_law_other", 5)]) (g := gName 5) (tt := tTest (tOp (fun x y H Q => ∃ i j, x = V.str i ∧ y = V.str j ∧ Q (.bl (decide (i.cps.toList < j.cps.toList))) H) (tVar 3) (tVar 5))) (te := tVar 5) rfl nd rfl rfl (sw_true rfl rfl rfl (by decide +kernel)) (pi_list (pe_callB cr_sortedA (by rfl) gSorted (by decide +kernel) (pa_cons (pe_dget hu (pv 0) (pv 3) (fun _ _ => rfl)) pa_nil))) (blkOk_by (N := glvN) (sc := defScope sGlv) (by decide +kernel)) (fun _ _ _ _ _ => (pg_name (i := 5) nd rfl (Or.inl rfl))) (fun _ _ _ _ _ => pts_one (pt_cmpR op_lt_str (pv 3) (pv 5) (nomark _))) (fun _ _ _ _ _ => by exact pv 5))
      (pss_one (ps_for PassesOwn.never rfl (pi_list (pv 4)) (pg_name (i := 5) nd rfl (Or.inl rfl)) (pss_one (ps_if (PW.pt (pw_and (pt_val (pe_call GL (hr.mono (by decide)) rfl gL kL bL .nil pass0 (pa_cons (pv 0) (pa_cons (pv 3) (pa_cons (pv 5) (pa_cons (pe_dget hu (pv 1) (pv 3) (fun _ _ => rfl)) pa_nil)))))) (pw_and1 (pt_val (pe_call GL (hr.mono (by decide)) rfl gL kL bL .nil pass0 (pa_cons (pv 0) (pa_cons (pv 5) (pa_cons (pv 3) (pa_cons (pe_dget hu (pv 1) (pv 5) (fun _ _ => rfl)) pa_nil))))))))) (pss_one (ps_expr (pe_bm PySem.F.plainAttrs_list PySem.F.slot_list_append PySem.F.type_list_append mt_append (pv 2) (pa_cons (pe_tup (pa_cons (pv 3) (pa_cons (pv 5) pa_nil))) pa_nil)))) pss_nil)))))))
      (pss_one (ps_ret (pv 2))))), ?_⟩

    refine ⟨(show 0 ≤ sizeLine by decide), fun q nq => ?_⟩
    have sq := sameUp (o := .lst []) nq
    have hq : upd H q (.lst []) q = some (.lst []) := upd_same
    have TB1 := TB.ext (ExtN.of sq)
    have hhd1 := sq _ _ hhd
    have qrd : rd ≠ q := ne_of_none TB.d nq
    have qhd : hd ≠ q := ne_of_none hhd nq
    have qc : ∀ y ∈ ys, cp y ≠ q := fun y hy => ne_of_none (TB.r y hy) nq
    generalize upd H q (.lst []) = H1 at sq hq TB1 hhd1 ⊢
    refine ⟨rd, _, TB1.d, trivial, fun od => ?_⟩
    have hfz : upd H1 rd (.frz od (.dK (dcOf ys fun y => V.ref (cp y)))) rd = some (.frz od (.dK (dcOf ys fun y => V.ref (cp y)))) := upd_same
    have hq1 := (upd_ne qrd.symm (o := .frz od (.dK (dcOf ys fun y => V.ref (cp y))))).trans hq
    have hhd2 := (upd_ne hdr (o := .frz od (.dK (dcOf ys fun y => V.ref (cp y))))).trans hhd1
    have cr : ∀ y ∈ ys, cp y ≠ rd := fun y hy z => by
      have := TB.r y hy
      rw [z, TB.d] at this
      cases this
    have rdk : ∀ {H' : Hp}, KeepBut q q (upd H1 rd (.frz od (.dK (dcOf ys fun y => V.ref (cp y))))) H' → Rdt H' rd ys R := fun {H'} kb => ⟨ndy, cp, .inr ⟨od, kb _ _ qrd qrd hfz⟩, fun y hy => kb _ _ (qc y hy) (qc y hy) ((upd_ne (cr y hy)).trans (TB1.r y hy))⟩
    have hget : ∀ {H' : Hp} {y : Str}, KeepBut q q (upd H1 rd (.frz od (.dK (dcOf ys fun y => V.ref (cp y))))) H' → y ∈ ys → DGet H' hd (.str y) (some (.str (hv y))) := fun {H' y} kb hy => by
      rw [← dcOf_some (g := fun y => V.str (hv y)) ndz (sub y hy)]
      exact DGet.k (k := Sum.inr y) (kb _ _ qhd qhd hhd2)
    have unlk : ∀ {H' : Hp}, KeepBut q q (upd H1 rd (.frz od (.dK (dcOf ys fun y => V.ref (cp y))))) H' → Same H (upd H' rd (.dK (dcOf ys fun y => V.ref (cp y)))) := fun {H'} kb c o e => by
      by_cases c1 : c = rd
      · rw [c1] at e
        rw [c1, upd_same, ← e, TB.d]
      · rw [upd_ne c1]
        exact kb _ _ (ne_of_none e nq) (ne_of_none e nq) ((upd_ne c1).trans (sq _ _ e))
    have lR : ∀ y ∈ ys, (R y).length ≤ 63 := fun y hy => Nat.le_trans (pigeon (SO.nd y) fun z hz => (SO.sub y z hz).2) lys
    refine ⟨_, rfl, rd, od, rfl, .inl ⟨_, hfz, ?_⟩⟩
    refine for_it walk_keys (fun i σ H' => ∃ (o3 o4 o5 : Option V) (ts : List Addr), σ = [some (.ref rd), some (.ref hd), some (.ref q), o3, o4, o5] ∧ KeepBut q q (upd H1 rd (.frz od (.dK (dcOf ys fun y => V.ref (cp y))))) H' ∧ H' q = some (.lst (ts.map V.ref)) ∧ ts.length ≤ i * 63 ∧ (∀ t ∈ ts, t ≠ q ∧ ∃ x y : Str, (x ∈ ys ∧ y ∈ ys) ∧ H' t = some (.tup [.str x, .str y])) ∧ (ts = [] → ∀ p ∈ ys.take i, ∀ x ∈ R p, p.cps.toList < x.cps.toList → ¬ Leave R hv p x)) ⟨none, none, none, [], rfl, .refl, hq1, Nat.zero_le _, fun t h => by simp at h, fun _ p h => by simp at h⟩ (fun i σ H' _ ⟨_, _, _, _, _, kb, _⟩ => kb _ _ qrd qrd hfz) ?_ ?_
    · rintro i v σ H2 H3 hi ⟨o3, o4, o5, ts, rfl, kb, hq3, lts, hts, none3⟩ ⟨rfl, k0, v0, hk, rfl⟩
      obtain ⟨p, hp, rfl, rfl⟩ := dcOf_at hk
      have hpy := List.mem_of_getElem? hp
      have hil : i < ys.length := (List.getElem?_eq_some_iff.mp hp).1
      obtain ⟨c, gc, lc⟩ := (rdk kb).get hpy
      refine ⟨_, rfl, _, rfl, rd, .ref c, rfl, gc, c, R p, rfl, .inl (SqL.of lc), by have := lR p hpy; omega, fun ss z pz soz nz => ⟨z, rfl, ⟨_, SqL.of upd_same⟩, fun L hL => ?_⟩⟩
      have sz := sameUp (o := .lst (ss.map V.str)) nz
      have hz : upd H3 z (.lst (ss.map V.str)) z = some (.lst (ss.map V.str)) := upd_same
      have kb4 := kb.trans (KeepBut.same (a := q) (b := q) sz)
      have hq4 := sz _ _ hq3
      have hts4 : ∀ t ∈ ts, t ≠ q ∧ ∃ x y : Str, (x ∈ ys ∧ y ∈ ys) ∧ upd H3 z (.lst (ss.map V.str)) t = some (.tup [.str x, .str y]) := fun t ht => by
        obtain ⟨n, x, y, m, e⟩ := hts t ht
        exact ⟨n, x, y, m, sz _ _ e⟩
      generalize upd H3 z (.lst (ss.map V.str)) = H4 at hz kb4 hq4 hts4 hL ⊢
      refine lc_it (walk_list (xs := ss.map V.str)) (fun j H' => Same H4 H' ∧ H' L = some (.lst (((ss.take j).filter fun x => decide (p.cps.toList < x.cps.toList)).map V.str))) ⟨sameUp hL, upd_same⟩ (fun j H' _ h => SqL.of (h.1 _ _ hz)) ?_ ?_
      · rintro j w H5 H6 hj ⟨s5, hL5⟩ ⟨rfl, hw⟩
        rw [List.getElem?_map] at hw
        obtain ⟨x, hx, rfl⟩ := Option.map_eq_some_iff.mp hw
        have tk : ss.take (j + 1) = ss.take j ++ [x] := by
          rw [List.take_add_one, hx]
          rfl
        have lj : (ss.take j).length ≤ 63 := by
          have := pz.length_eq
          have := lR p hpy
          rw [List.length_take]
          omega
        refine ⟨rfl, _, rfl, _, rfl, p, x, rfl, rfl, ?_⟩
        by_cases cx : p.cps.toList < x.cps.toList
        · rw [decide_eq_true cx]
          refine ⟨true, rfl, iteT ⟨_, rfl, _, hL5, ?_, fun c o e => ?_, ?_⟩⟩
          · rw [List.length_map]
            exact small1000 (by have := List.length_filter_le (fun x : Str => decide (p.cps.toList < x.cps.toList)) (ss.take j); omega)
          · rw [upd_ne (ne_of_none e hL)]
            exact s5 _ _ e
          · rw [upd_same, tk, List.filter_append, List.map_append, show [x].filter (fun x => decide (p.cps.toList < x.cps.toList)) = [x] by rw [List.filter_cons_of_pos (by simpa using cx)]; rfl]
            rfl
        · rw [decide_eq_false cx]
          refine ⟨false, rfl, iteF ⟨s5, ?_⟩⟩
          rw [tk, List.filter_append, show [x].filter (fun x => decide (p.cps.toList < x.cps.toList)) = [] by rw [List.filter_cons_of_neg (by simpa using cx)]; rfl, List.append_nil]
          exact hL5
      rintro H5 ⟨s5, hL5⟩
      rw [List.length_map, List.take_length] at hL5
      obtain ⟨ws, ews⟩ : ∃ ws, ws = ss.filter fun x => decide (p.cps.toList < x.cps.toList) := ⟨_, rfl⟩
      rw [← ews] at hL5
      have mws : ∀ x, x ∈ ws ↔ x ∈ R p ∧ p.cps.toList < x.cps.toList := fun x => by
        rw [ews, List.mem_filter, pz.mem_iff, decide_eq_true_iff]
      have lws : ws.length ≤ 63 := by
        have h1 := List.length_filter_le (fun x : Str => decide (p.cps.toList < x.cps.toList)) ss
        have h2 := pz.length_eq
        have h3 := lR p hpy
        rw [ews]
        omega
      have Lq : L ≠ q := (ne_of_none hq4 hL).symm
      have kb5 := kb4.trans (KeepBut.same (a := q) (b := q) s5)
      have hq5 := s5 _ _ hq4
      refine ⟨_, rfl, L, rfl, ⟨_, SqL.of hL5⟩, ?_⟩
      refine for_it (walk_list (xs := ws.map V.str)) (fun j σ H' => ∃ (o5 : Option V) (us : List Addr), σ = [some (.ref rd), some (.ref hd), some (.ref q), some (.str p), some (.ref L), o5] ∧ KeepBut q q H5 H' ∧ H' q = some (.lst (us.map V.ref)) ∧ us.length ≤ i * 63 + j ∧ (∀ t ∈ us, t ≠ q ∧ ∃ x y : Str, (x ∈ ys ∧ y ∈ ys) ∧ H' t = some (.tup [.str x, .str y])) ∧ (us = [] → ts = [] ∧ ∀ x ∈ ws.take j, ¬ Leave R hv p x)) ⟨_, ts, rfl, .refl, hq5, by omega, fun t ht => ?_, fun e => ⟨e, fun x h => by simp at h⟩⟩ (fun j σ H' _ ⟨_, _, _, k2, _⟩ => SqL.of (k2 _ _ Lq Lq hL5)) ?_ ?_
      · obtain ⟨n, x, y, m, e⟩ := hts4 t ht
        exact ⟨n, x, y, m, s5 _ _ e⟩
      · rintro j v σ H6 H7 hj ⟨o5', us, rfl, k6, hq6, lus, hus, none6⟩ ⟨rfl, hvv⟩
        rw [List.getElem?_map] at hvv
        obtain ⟨x, hx, rfl⟩ := Option.map_eq_some_iff.mp hvv
        obtain ⟨xR, px⟩ := (mws x).mp (List.mem_of_getElem? hx)
        have hxy := (SO.sub p x xR).2
        have jl : j < 63 := by have := (List.getElem?_eq_some_iff.mp hx).1; omega
        have kb6 := kb5.trans k6
        have tk : ws.take (j + 1) = ws.take j ++ [x] := by
          rw [List.take_add_one, hx]
          rfl
        have stay : ¬ Leave R hv p x → us = [] → ts = [] ∧ ∀ y ∈ ws.take (j + 1), ¬ Leave R hv p y := fun nl e => by
          refine ⟨(none6 e).1, fun y hy => ?_⟩
          rw [tk] at hy
          rcases List.mem_append.mp hy with q | q
          · exact (none6 e).2 y q
          · rw [List.mem_singleton.mp q]
            exact nl
        refine ⟨_, rfl, _, rfl, _, rfl, _, rfl, _, rfl, hd, _, rfl, hget kb6 hpy, rd, p, x, hv p, ys, R, rfl, rdk kb6, hpy, _, rfl, ?_⟩
        by_cases c1 : Ak.rk R p x < Ak.rk R p (hv p)
        rotate_left
        · rw [decide_eq_false c1]
          exact iteF ⟨_, us, rfl, k6, hq6, by omega, hus, stay fun z => c1 z.1⟩
        rw [decide_eq_true c1]
        refine iteT ⟨_, rfl, _, rfl, _, rfl, _, rfl, _, rfl, hd, _, rfl, hget kb6 hxy, rd, x, p, hv x, ys, R, rfl, rdk kb6, hxy, _, rfl, ?_⟩
        by_cases c2 : Ak.rk R x p < Ak.rk R x (hv x)
        rotate_left
        · rw [decide_eq_false c2]
          exact iteF ⟨_, us, rfl, k6, hq6, by omega, hus, stay fun z => c2 z.2⟩
        rw [decide_eq_true c2]
        refine iteT ⟨_, rfl, .inl ⟨rfl, _, SqL.of hq6⟩, _, rfl, _, rfl, (show 2 ≤ sizeLine by decide), fun t nt => ?_⟩
        have st := sameUp (o := .tup [V.str p, V.str x]) nt
        have hq7 := st _ _ hq6
        have tq : t ≠ q := (ne_of_none hq6 nt).symm
        have ht : upd H7 t (.tup [V.str p, V.str x]) t = some (.tup [V.str p, V.str x]) := upd_same
        have k7 := k6.trans (KeepBut.same (a := q) (b := q) st)
        have hus7 : ∀ u ∈ us, u ≠ q ∧ ∃ y1 y2 : Str, (y1 ∈ ys ∧ y2 ∈ ys) ∧ upd H7 t (.tup [V.str p, V.str x]) u = some (.tup [.str y1, .str y2]) := fun u hu => by
          obtain ⟨n, y1, y2, m, e⟩ := hus u hu
          exact ⟨n, y1, y2, m, st _ _ e⟩
        generalize upd H7 t (.tup [V.str p, V.str x]) = H8 at ht hq7 k7 hus7 ⊢
        refine ⟨q, _, _, rfl, rfl, hq7, small5000 (by rw [List.length_map]; omega), ?_⟩
        refine ⟨_, us ++ [t], rfl, fun c o h1 h2 e => ?_, by rw [upd_same, List.map_append]; rfl, by rw [List.length_append]; show us.length + 1 ≤ _; omega, fun u hu => ?_, fun e => by simp at e⟩
        · rw [upd_ne h1]
          exact k7 _ _ h1 h2 e
        · rcases List.mem_append.mp hu with h | h
          · obtain ⟨n, x, y, m, e⟩ := hus7 u h
            exact ⟨n, x, y, m, (upd_ne n).trans e⟩
          · rw [List.mem_singleton.mp h]
            exact ⟨tq, p, x, ⟨hpy, hxy⟩, (upd_ne tq).trans ht⟩
      rintro σ H6 ⟨o5', us, rfl, k6, hq6, lus, hus, none6⟩
      rw [List.length_map] at lus none6
      rw [List.take_length] at none6
      refine ⟨_, _, _, us, rfl, kb5.trans k6, hq6, by rw [Nat.succ_mul]; omega, hus, fun e p' hp' x hx lt => ?_⟩
      rw [List.take_add_one, hp] at hp'
      rcases List.mem_append.mp hp' with h | h
      · exact none3 (none6 e).1 p' h x hx lt
      · have : p' = p := by simpa using h
        subst this
        exact (none6 e).2 x ((mws x).mpr ⟨hx, lt⟩)
    rintro σ H2 ⟨o3, o4, o5, ts, rfl, kb, hq2, lts, hts, none2⟩
    rw [dcOf_len, List.take_length] at none2
    refine ⟨kb _ _ qrd qrd hfz, _, rfl, ?_⟩
    refine k _ q ts (unlk kb) nq ((upd_ne qrd.symm).trans hq2) (fun t ht => ?_) (by rw [dcOf_len] at lts; omega) none2
    obtain ⟨n, x, y, m, e⟩ := hts t ht
    refine ⟨x, y, m, (upd_ne fun z => ?_).trans e⟩
    have := kb _ _ qrd qrd hfz
    rw [← z, e] at this
    cases this
end
end Mn
/-! _law_g_ring -/
namespace Mn
open PySem PySem.Spec PyProof.Rows L2 Md Me Ml LamX Mi Mo
abbrev sGri : Stmt := top 47
theorem scGri : FnScope ["_law_nexts", "_law_person", "_law_found"] ["_law_nexts", "_law_person"] (defScope sGri) := ⟨rfl, rfl, rfl, by decide +kernel, rfl, by decide +kernel, by decide +kernel⟩
/-- people to unlike people -/
structure Perm1 (ys : List Str) (nx : Str → Str) : Prop where
  to : ∀ y ∈ ys, nx y ∈ ys
  inj : ∀ x ∈ ys, ∀ y ∈ ys, nx x = nx y → x = y
/-- going round, so far -/
structure Go (ys : List Str) (nx : Str → Str) (p : Str) (l : List Str) : Prop where
  ne : l[0]? = some p
  nd : l.Nodup
  sub : ∀ x ∈ l, x ∈ ys
  st : ∀ (j : Nat) (x y : Str), l[j]? = some x → l[j + 1]? = some y → y = nx x
theorem Go.snoc {ys : List Str} {nx : Str → Str} {p z : Str} {l : List Str} (P : Perm1 ys nx) (g : Go ys nx p l) (hz : l.getLast? = some z) (n : nx z ≠ p) : Go ys nx p (l ++ [nx z]) := by
  have hzl : l[l.length - 1]? = some z := by rw [← List.getLast?_eq_getElem?]; exact hz
  have zy := g.sub z (List.mem_of_getElem? hzl)
  have l0 : 0 < l.length := (List.getElem?_eq_some_iff.mp g.ne).1
  have nm : nx z ∉ l := fun h => by
    obtain ⟨j, hj⟩ := List.getElem?_of_mem h
    have hjl := (List.getElem?_eq_some_iff.mp hj).1
    cases j with
    | zero =>
      rw [g.ne] at hj
      exact n (Option.some.inj hj).symm
    | succ j =>
      obtain ⟨x, hx⟩ : ∃ x, l[j]? = some x := ⟨_, List.getElem?_eq_getElem (by omega)⟩
      have e := g.st j x _ hx hj
      have := P.inj z zy x (g.sub x (List.mem_of_getElem? hx)) e
      rw [← this] at hx
      have h1 := (List.getElem?_inj (by omega) g.nd).mp (hx.trans hzl.symm)
      omega
  refine ⟨?_, ?_, fun x hx => ?_, fun j x y h1 h2 => ?_⟩
  · rw [List.getElem?_append_left l0]
    exact g.ne
  · exact List.nodup_append.mpr ⟨g.nd, by simp, fun a ha b hb e => nm (by rw [List.mem_singleton.mp hb] at e; exact e ▸ ha)⟩
  · rcases List.mem_append.mp hx with h | h
    · exact g.sub x h
    · rw [List.mem_singleton.mp h]
      exact P.to z zy
  · rcases snoc_get h2 with ⟨c, h2⟩ | ⟨c, rfl⟩
    · rw [List.getElem?_append_left (by omega)] at h1
      exact g.st j x y h1 h2
    · rw [List.getElem?_append_left (by omega), show j = l.length - 1 by omega, hzl] at h1
      rw [← Option.some.inj h1]
theorem Go.done {ys : List Str} {nx : Str → Str} {p z : Str} {l : List Str} (g : Go ys nx p l) (hz : l.getLast? = some z) (e : nx z = p) (h2 : l.length ≤ 2) : nx (nx p) = p := by
  have hzl : l[l.length - 1]? = some z := by rw [← List.getLast?_eq_getElem?]; exact hz
  have l0 : 0 < l.length := (List.getElem?_eq_some_iff.mp g.ne).1
  rcases Nat.lt_or_ge 1 l.length with h | h
  · rw [show l.length - 1 = 0 + 1 by omega] at hzl
    have := g.st 0 p z g.ne hzl
    rw [← this]
    exact e
  · rw [show l.length - 1 = 0 by omega, g.ne] at hzl
    have hzp := Option.some.inj hzl
    rw [← hzp] at e
    rw [e, e]
def pw (nx : Str → Str) (p : Str) : Nat → Str
  | 0 => p
  | k + 1 => nx (pw nx p k)
/-- behind how many steps one comes back -/
def per (nx : Str → Str) (p : Str) : Nat := ((List.range 64).find? fun k => decide (pw nx p (k + 1) = p)).getD 0 + 1
theorem Go.at_ {ys : List Str} {nx : Str → Str} {p : Str} {l : List Str} (g : Go ys nx p l) : ∀ j, j < l.length → l[j]? = some (pw nx p j)
  | 0, _ => g.ne
  | j + 1, h => by
    have h1 := g.at_ j (by omega)
    obtain ⟨y, hy⟩ : ∃ y, l[j + 1]? = some y := ⟨_, List.getElem?_eq_getElem h⟩
    rw [hy, g.st j _ y h1 hy]
    rfl
theorem Go.per {ys : List Str} {nx : Str → Str} {p z : Str} {l : List Str} (g : Go ys nx p l) (hz : l.getLast? = some z) (e : nx z = p) (l63 : l.length ≤ 63) : l.length = Mn.per nx p := by
  have hzl : l[l.length - 1]? = some z := by rw [← List.getLast?_eq_getElem?]; exact hz
  have l0 : 0 < l.length := (List.getElem?_eq_some_iff.mp g.ne).1
  have ez : pw nx p (l.length - 1) = z := by
    have := g.at_ (l.length - 1) (by omega)
    rw [hzl] at this
    exact (Option.some.inj this).symm
  have f : (List.range 64).find? (fun k => decide (pw nx p (k + 1) = p)) = some (l.length - 1) := by
    rw [List.find?_range_eq_some]
    refine ⟨?_, List.mem_range.mpr (by omega), fun j hj => ?_⟩
    · show decide (nx (pw nx p (l.length - 1)) = p) = true
      rw [ez, e]
      simp
    · have h1 := g.at_ (j + 1) (by omega)
      have : pw nx p (j + 1) ≠ p := fun w => by
        rw [w] at h1
        have := (List.getElem?_inj (by omega) g.nd).mp (h1.trans g.ne.symm)
        omega
      simp [this]
  unfold Mn.per
  rw [f]
  show l.length = l.length - 1 + 1
  omega
def spGri : Sp := fun vs H Q _ => ∃ (nd_ : Addr) (p : Str) (ys zs : List Str) (nx : Str → Str), vs = [.ref nd_, .str p] ∧ H nd_ = some (.dK (dcOf zs fun y => .str (nx y))) ∧ zs.Nodup ∧ (∀ y ∈ ys, y ∈ zs) ∧ ys.length ≤ 63 ∧ p ∈ ys ∧ Perm1 ys nx ∧
  ∀ (H' : Hp) (q : Addr) (l : List Str), Same H H' → H q = none → H' q = some (.lst (l.map V.str)) → 1 ≤ l.length → l.length ≤ 63 → (l.length ≤ 2 → nx (nx p) = p) → l.length = per nx p → Q (.ref q) H'
section
variable {P : Program} {w : World} {K : PySem.W.Frag} {mg : Str → Option Value} {base : Heap}
theorem ok_gri {f : Addr} {fd : FuncData} (F : Fun K "_law_g_ring" "_law_g_ring" sGri f fd) : FnOk P w K mg base CX0 1 f fd ["_law_nexts", "_law_person"] spGri := by
  refine F.ok scGri (fun vs H Q E h => ?_) (fun cdv A outer s H vs Q E hr h => ?_)
  · obtain ⟨nd_, p, ys, zs, nx, rfl, _⟩ := h
    rfl
  · obtain ⟨nd_, p, ys, zs, nx, rfl, hN, ndz, sub, lys, hp, P1, k⟩ := h
    have nd := scGri.nd
    have hu := hu_of hr
    refine ⟨_, (pss_cons (ps_set (i := 2) nd rfl (Or.inl rfl) (pe_lst (pa_cons (pv 1) pa_nil)))
      (pss_cons (ps_while PassesOwn.never (pt_cmpR op_ne (pe_dget hu (pv 0) (pe_ix ix_list (pv 2) (pe_un un_neg pe_int) (fun _ _ => rfl)) (fun _ _ => rfl)) (pv 1) (nomark _)) (pss_one (ps_expr (pe_bm PySem.F.plainAttrs_list PySem.F.slot_list_append PySem.F.type_list_append mt_append (pv 2) (pa_cons (pe_dget hu (pv 0) (pe_ix ix_list (pv 2) (pe_un un_neg pe_int) (fun _ _ => rfl)) (fun _ _ => rfl)) pa_nil)))))
      (pss_one (ps_ret (pv 2))))), ?_⟩

    refine ⟨_, rfl, (show 1 ≤ sizeLine by decide), fun q nq => ?_⟩
    have sq := sameUp (o := .lst [V.str p]) nq
    have hq : upd H q (.lst [V.str p]) q = some (.lst [V.str p]) := upd_same
    have qN : nd_ ≠ q := ne_of_none hN nq
    generalize upd H q (.lst [V.str p]) = H1 at sq hq ⊢
    have g0 : Go ys nx p [p] := ⟨rfl, by simp, fun x hx => by rw [List.mem_singleton.mp hx]; exact hp, fun j x y h1 h2 => by simp at h2⟩
    obtain ⟨Wv, hWv⟩ : ∃ Wv : Nat → L2.St → Hp → Prop, Wv = fun μ σ H' => ∃ l : List Str, σ = [some (.ref nd_), some (.str p), some (.ref q)] ∧ μ = 64 - l.length ∧ Same H H' ∧ H' q = some (.lst (l.map V.str)) ∧ Go ys nx p l := ⟨_, rfl⟩
    refine ⟨Wv, ⟨_, by rw [hWv]; exact ⟨[p], rfl, rfl, sq, hq, g0⟩⟩, ?_⟩
    rw [hWv]
    rintro μ σ H' ⟨l, rfl, rfl, s1, hq1, g⟩
    have l63 : l.length ≤ 63 := Nat.le_trans (pigeon g.nd g.sub) lys
    have l0 : 0 < l.length := (List.getElem?_eq_some_iff.mp g.ne).1
    obtain ⟨z, hz⟩ : ∃ z, l.getLast? = some z := ⟨_, List.getLast?_eq_some_getLast (List.ne_nil_of_length_pos l0)⟩
    obtain ⟨l', el⟩ := List.getLast?_eq_some_iff.mp hz
    have zy := g.sub z (by rw [el]; simp)
    have atz : ∀ {H' : Hp}, H' q = some (.lst (l.map V.str)) → atI (l.map V.str) (-1) = some (.str z) := fun {H'} _ => by
      rw [el, List.map_append]
      exact atI_last _ _
    have getz : ∀ {H' : Hp}, Same H H' → DGet H' nd_ (.str z) (some (.str (nx z))) := fun {H'} s => by
      rw [← dcOf_some (g := fun y => V.str (nx y)) ndz (sub z zy)]
      exact DGet.k (k := Sum.inr z) (s _ _ hN)
    refine ⟨_, rfl, _, rfl, _, rfl, q, _, _, _, rfl, rfl, SqL.of hq1, atz hq1, nd_, _, rfl, getz s1, _, rfl, rfl, _, rfl, ?_⟩
    by_cases c : nx z = p
    · rw [show (!decide (V.str (nx z) = V.str p)) = false by rw [c]; simp]
      exact iteF ⟨_, rfl, k H' q l s1 nq hq1 l0 l63 (fun h => g.done hz c h) (g.per hz c l63)⟩
    · rw [show (!decide (V.str (nx z) = V.str p)) = true by simp [c]]
      refine iteT ⟨fun σ' H'' => ∃ m', m' < 64 - l.length ∧ Wv m' σ' H'', fun _ _ h => by rw [hWv] at h; exact h, ?_⟩
      refine ⟨_, rfl, .inl ⟨rfl, _, SqL.of hq1⟩, _, rfl, _, rfl, _, rfl, q, _, _, _, rfl, rfl, SqL.of hq1, atz hq1, nd_, _, rfl, getz s1, q, _, _, rfl, rfl, hq1, small1000 (by rw [List.length_map]; omega), 64 - (l ++ [nx z]).length, by rw [List.length_append]; show 64 - (l.length + 1) < _; omega, ?_⟩
      rw [hWv]
      refine ⟨l ++ [nx z], rfl, rfl, fun c' o e => ?_, by rw [upd_same, List.map_append]; rfl, g.snoc P1 hz c⟩
      rw [upd_ne (ne_of_none e nq)]
      exact s1 _ _ e
end
end Mn
/-! a list of pairs, laid one after the other -/
namespace Mn
open PySem PySem.Spec PyProof.Rows L2 Md Me Ml LamX
structure PrB (H0 H : Hp) (L : Addr) (kvs : List (Key × V)) (i : Nat) (ts : List Addr) : Prop where
  s : Same H0 H
  l : ts.length = i
  h : H L = some (.lst (ts.map V.ref))
  r : Paired (fun p (kv : Key × V) => H p = some (.tup [kV kv.1, kv.2])) ts (kvs.take i)
theorem paired_snoc {α β : Type} {R : α → β → Prop} {a : α} {b : β} (h : R a b) : ∀ {l1 : List α} {l2 : List β}, Paired R l1 l2 → Paired R (l1 ++ [a]) (l2 ++ [b])
  | _, _, .nil => .cons h .nil
  | _, _, .cons r t => .cons r (paired_snoc h t)
theorem PrB.nil {H0 : Hp} {L : Addr} {kvs : List (Key × V)} (h : H0 L = none) : PrB H0 (upd H0 L (.lst [])) L kvs 0 [] := ⟨sameUp h, rfl, upd_same, by rw [List.take_zero]; exact .nil⟩
theorem PrB.snoc {H0 H1 H2 : Hp} {L T : Addr} {kvs : List (Key × V)} {i : Nat} {ts : List Addr} {k : Key} {v : V} (B : PrB H0 H1 L kvs i ts) (hL : H0 L = none) (hk : kvs[i]? = some (k, v)) (s2 : Same H1 H2) (hT : H2 T = none) :
    upd H2 T (.tup [kV k, v]) L = some (.lst (ts.map V.ref)) ∧ PrB H0 (upd (upd H2 T (.tup [kV k, v])) L (.lst (ts.map V.ref ++ [V.ref T]))) L kvs (i + 1) (ts ++ [T]) := by
  have s3 := s2.trans (sameUp (o := .tup [kV k, v]) hT)
  have hL3 := s3 _ _ B.h
  have TL : T ≠ L := fun z => by
    rw [← z, upd_same] at hL3
    cases hL3
  refine ⟨hL3, ⟨fun c o e => ?_, by rw [List.length_append, B.l]; rfl, by rw [upd_same, List.map_append]; rfl, ?_⟩⟩
  · rw [upd_ne (ne_of_none e hL)]
    exact s3 _ _ (B.s _ _ e)
  · rw [List.take_add_one, hk]
    refine paired_snoc (by rw [upd_ne TL, upd_same]) (paired_imp (fun p kv e => ?_) B.r)
    rw [upd_ne (fun z => by
      rw [z, B.h] at e
      cases e)]
    exact s3 _ _ e
theorem PrB.done {K : PySem.W.Frag} {H0 H : Hp} {L : Addr} {kvs : List (Key × V)} {ts : List Addr} (B : PrB H0 H L kvs kvs.length ts) : Paired (fun p kv => SqT K H p [kV kv.1, kv.2]) ts kvs := by
  have h := B.r
  rw [List.take_length] at h
  exact paired_imp (fun p kv e => SqT.of e) h
theorem merge_dc {ks l : List Str} {g f : Str → V} (nd : (ks ++ l).Nodup) : mergeK (dcOf ks g) (dcOf l f) = dcOf (ks ++ l) fun y => if y ∈ l then f y else g y := by
  have e : ((dcOf ks g ++ dcOf l f).map Prod.fst) = (ks ++ l).map Sum.inr := by
    unfold dcOf
    rw [List.map_append, List.map_map, List.map_map, List.map_append]
    rfl
  rw [mergeK_new _ _ (by
    rw [e]
    exact nodup_mapI (fun x y z => Sum.inr.inj z) nd)]
  unfold dcOf
  rw [List.map_append]
  have dj := (List.nodup_append.mp nd).2.2
  have e1 : ks.map (fun y => ((Sum.inr y : Key), g y)) = ks.map (fun y => ((Sum.inr y : Key), if y ∈ l then f y else g y)) := List.map_congr_left fun y hy => by
    rw [if_neg fun z => dj y hy y z rfl]
  have e2 : l.map (fun y => ((Sum.inr y : Key), f y)) = l.map (fun y => ((Sum.inr y : Key), if y ∈ l then f y else g y)) := List.map_congr_left fun y hy => by
    rw [if_pos hy]
  rw [e1, e2]
end Mn
/-! _law_g_party_fault -/
namespace Mn
open PySem PySem.Spec PyProof.Rows L2 Md Me Ml LamX Mi Mo
abbrev sPyf : Stmt := top 48
abbrev pyfN : List Str := ["_law_rows", "_law_thing", "_law_met", "_law_person", "_law_other", "_law_sizes", "_law_ahead", "_law_pairs", "_law_key"]
theorem scPyf : FnScope pyfN ["_law_rows", "_law_thing"] (defScope sPyf) := ⟨rfl, rfl, rfl, by decide +kernel, rfl, by decide +kernel, by decide +kernel⟩
theorem str_tri {a b : Str} (h : a ≠ b) : a.cps.toList < b.cps.toList ∨ b.cps.toList < a.cps.toList := by
  by_cases c1 : a.cps.toList < b.cps.toList
  · exact .inl c1
  · by_cases c2 : b.cps.toList < a.cps.toList
    · exact .inr c2
    · exfalso
      have e := List.le_antisymm (List.not_lt.mp c2) (List.not_lt.mp c1)
      obtain ⟨a⟩ := a
      obtain ⟨b⟩ := b
      exact h (congrArg Str.mk (Array.toList_inj.mp e))
/-- a party among people -/
structure PtyY (ys : List Str) (R : Str → List Str) (nx : Str → Str) (ah : Str → Str) : Prop where
  an : ∀ p ∈ ys, ah (nx p) = p
  to : ∀ p ∈ ys, ah p ∈ ys
  turned : ∀ p ∈ ys, nx p ≠ p → nx p = ah p ∨ Ak.rk R p (nx p) < Ak.rk R p (ah p)
  stay : ∀ p ∈ ys, ∀ x ∈ R p, ¬ Leave R ah p x
def spPyf (K : PySem.W.Frag) : Sp := fun vs H Q _ => ∃ (rd td : Addr) (ys : List Str) (cp : Str → Addr) (R : Str → List Str) (nx : Str → Str), vs = [.ref rd, .ref td] ∧ Tbl H rd ys cp R ∧ GoodNs ys ∧ sortedS ys = true ∧ ShOk ys R ∧ td ≠ rd ∧ H td = some (.dK (dcOf ys fun y => .str (nx y))) ∧ Perm1 ys nx ∧ (∀ y ∈ ys, nx y = y ∨ nx y ∈ R y) ∧
  ∀ (H' : Hp) (z : V), Same H H' → (z = .non → ∃ ah, PtyY ys R nx ah) → (z ≠ .non → ∃ t, z = .ref t) → Q z H'
section
variable {P : Program} {w : World} {K : PySem.W.Frag} {mg : Str → Option Value} {base : Heap}
theorem ok_pyf {f fL fR fV : Addr} {fd fdL fdR fdV : FuncData} (F : Fun K "_law_g_party_fault" "_law_g_party_fault" sPyf f fd) (GL : FnOk P w K mg base CX0 2 fL fdL ["_law_rows", "_law_person", "_law_one", "_law_other"] spGli) (kL : PySem.W.keepIn K (.ref fL) = true) (bL : Binds K fdL ["_law_rows", "_law_person", "_law_one", "_law_other"] []) (gL : mg "_law_g_likes" = some (.ref fL))
    (GR : FnOk P w K mg base CX0 1 fR fdR ["_law_nexts", "_law_person"] spGri) (kR : PySem.W.keepIn K (.ref fR) = true) (bR : Binds K fdR ["_law_nexts", "_law_person"] []) (gR : mg "_law_g_ring" = some (.ref fR))
    (GV : FnOk P w K mg base CX0 3 fV fdV ["_law_rows", "_law_have"] (spGlv K)) (kV : PySem.W.keepIn K (.ref fV) = true) (bV : Binds K fdV ["_law_rows", "_law_have"] []) (gV : mg "_law_g_leaving" = some (.ref fV))
    (gSorted : mg "sorted" = none) (gIs : mg "isinstance" = none) (gDict : mg "dict" = none) (gStr : mg "str" = none) (gList : mg "list" = none) (gAll : mg "all" = none) (gLen : mg "len" = none) (gInt : mg "int" = none) : FnOk P w K mg base CX0 4 f fd ["_law_rows", "_law_thing"] (spPyf K) := by
  refine F.ok scPyf (fun vs H Q E h => ?_) (fun cdv A outer s H vs Q E hr h => ?_)
  · obtain ⟨rd, td, ys, cp, R, nx, rfl, _⟩ := h
    rfl
  · obtain ⟨rd, td, ys, cp, R, nx, rfl, TB, gn, soy, SO, tdr, htd, P1, may, k⟩ := h
    have nd := scPyf.nd
    have hu := hu_of hr
    have hu64 := hu64_of hr
    refine ⟨_, (pss_cons (ps_if (PW.pt (pw_or (pt_not (pt_val (pe_callB call_isi (by rfl) gIs boot_isinstance (pa_cons (pv 1) (pa_cons (pe_bltn (v := .ty "dict") rfl gDict boot_dict2 rfl) pa_nil))))) (pw_or1 (pt_cmpR (op_neD hu64) (pe_callB cr_sortedA (by rfl) gSorted (by decide +kernel) (pa_cons (pe_lock (pe_lc (own := [("_law_key", 8)]) (g := gName 8) (tt := tYes) (te := (tCB (fun xs H Q => ∃ a, xs = [.str a] ∧ Q (.str a) H) (tCons (tVar 8) tNil))) rfl nd (pi_keys (pv 1)) (blkOk_by (N := pyfN) (sc := defScope sPyf) (by decide +kernel)) (fun _ _ _ _ _ => (pg_name (i := 8) nd rfl (Or.inl rfl))) (fun _ _ _ _ _ => pts_nil) (fun _ _ _ _ _ => by exact (pe_callTy SkE.call_str_str rfl gStr boot_str2 (pa_cons (pv 8) pa_nil))))) pa_nil)) (pe_callTy (call_listD rfl) rfl gList boot_list (pa_cons (pv 0) pa_nil)) (nomark _))))) (pss_one (ps_ret (pe_tup (pa_cons pe_str pa_nil)))) pss_nil)
      (pss_cons (ps_if (pt_not (pt_val (pe_callB (cr_all rfl) (by rfl) gAll (by decide +kernel) (pa_cons (pe_lock (pe_lc (own := [("_law_key", 8)]) (g := gName 8) (tt := tYes) (te := (tCB (rIsi K) (tCons (tVar 8) (tCons (tC (.ty "str")) tNil)))) rfl nd (pi_keys (pv 1)) (blkOk_by (N := pyfN) (sc := defScope sPyf) (by decide +kernel)) (fun _ _ _ _ _ => (pg_name (i := 8) nd rfl (Or.inl rfl))) (fun _ _ _ _ _ => pts_nil) (fun _ _ _ _ _ => by exact (pe_callB call_isi (by rfl) gIs boot_isinstance (pa_cons (pv 8) (pa_cons (pe_bltn (v := .ty "str") rfl gStr boot_str2 rfl) pa_nil)))))) pa_nil)))) (pss_one (ps_ret (pe_tup (pa_cons pe_str pa_nil)))) pss_nil)
      (pss_cons (ps_set (i := 2) nd rfl (Or.inl rfl) (pe_lst pa_nil))
      (pss_cons (ps_lock (ps_for PassesOwn.never rfl (pi_keys (pv 0)) (pg_name (i := 3) nd rfl (Or.inl rfl)) (pss_cons (ps_set (i := 4) nd rfl (Or.inl rfl) (pe_dget hu (pv 1) (pv 3) (fun _ _ => rfl)))
      (pss_cons (ps_if (PW.pt (pw_or (pt_not (pt_val (pe_callB call_isi (by rfl) gIs boot_isinstance (pa_cons (pv 4) (pa_cons (pe_bltn (v := .ty "str") rfl gStr boot_str2 rfl) pa_nil))))) (pw_or (pt_cmpR op_in_seq (pv 4) (pv 2) (by with_unfolding_all rfl)) (pw_or1 (PW.pt (pw_and (pt_cmpR op_ne (pv 4) (pv 3) (nomark _)) (pw_and1 (pt_cmpR op_notIn_seq (pv 4) (pe_dget hu (pv 0) (pv 3) (fun _ _ => rfl)) (by with_unfolding_all rfl))))))))) (pss_one (ps_ret (pe_tup (pa_cons pe_str pa_nil)))) pss_nil)
      (pss_one (ps_expr (pe_bm PySem.F.plainAttrs_list PySem.F.slot_list_append PySem.F.type_list_append mt_append (pv 2) (pa_cons (pv 4) pa_nil))))))))
      (pss_cons (ps_set (i := 5) nd rfl (Or.inl rfl) (pe_callTy (call_dictP rfl) rfl gDict boot_dict2 (pa_cons (pe_lock (pe_lc (own := [("_law_person", 3)]) (g := gName 3) (tt := tYes) (te := (tTup (tCons (tVar 3) (tCons (tCB (rLenS K) (tCons (tCall spGri [] E0 (tCons (tVar 1) (tCons (tVar 3) tNil))) tNil)) tNil)))) rfl nd (pi_keys (pv 0)) (blkOk_by (N := pyfN) (sc := defScope sPyf) (by decide +kernel)) (fun _ _ _ _ _ => (pg_name (i := 3) nd rfl (Or.inl rfl))) (fun _ _ _ _ _ => pts_nil) (fun _ _ _ _ _ => by exact (pe_tup (pa_cons (pv 3) (pa_cons (pe_callB call_len_seq (by rfl) gLen PySem.boot_len (pa_cons (pe_call GR (hr.mono (by decide)) rfl gR kR bR .nil pass0 (pa_cons (pv 1) (pa_cons (pv 3) pa_nil))) pa_nil)) pa_nil)))))) pa_nil)))
      (pss_cons (ps_set (i := 6) nd rfl (Or.inl rfl) (pe_callTy (call_dictP rfl) rfl gDict boot_dict2 (pa_cons (pe_lock (pe_lc (own := [("_law_person", 3)]) (g := gName 3) (tt := tYes) (te := (tTup (tCons (tDGet (tVar 1) (tVar 3)) (tCons (tVar 3) tNil)))) rfl nd (pi_keys (pv 0)) (blkOk_by (N := pyfN) (sc := defScope sPyf) (by decide +kernel)) (fun _ _ _ _ _ => (pg_name (i := 3) nd rfl (Or.inl rfl))) (fun _ _ _ _ _ => pts_nil) (fun _ _ _ _ _ => by exact (pe_tup (pa_cons (pe_dget hu (pv 1) (pv 3) (fun _ _ => rfl)) (pa_cons (pv 3) pa_nil)))))) pa_nil)))
      (pss_cons (ps_lock (ps_for PassesOwn.never rfl (pi_keys (pv 0)) (pg_name (i := 3) nd rfl (Or.inl rfl)) (pss_one (ps_if (PW.pt (pw_and (pt_cmpR op_gt (pe_dget hu (pv 5) (pv 3) (fun _ _ => rfl)) pe_int (nomark _)) (pw_and1 (pt_cmpR op_eq (pe_op op_mod (pe_callTy call_int1 rfl gInt boot_int (pa_cons (pe_dget hu (pv 5) (pv 3) (fun _ _ => rfl)) pa_nil)) pe_int) pe_int (nomark _))))) (pss_one (ps_ret (pe_tup (pa_cons pe_str (pa_cons (pv 3) pa_nil))))) pss_nil))))
      (pss_cons (ps_lock (ps_for PassesOwn.never rfl (pi_keys (pv 0)) (pg_name (i := 3) nd rfl (Or.inl rfl)) (pss_one (ps_if (PW.pt (pw_and (pt_cmpR op_gt (pe_dget hu (pv 5) (pv 3) (fun _ _ => rfl)) pe_int (nomark _)) (pw_and1 (pt_not (pt_val (pe_call GL (hr.mono (by decide)) rfl gL kL bL .nil pass0 (pa_cons (pv 0) (pa_cons (pv 3) (pa_cons (pe_dget hu (pv 1) (pv 3) (fun _ _ => rfl)) (pa_cons (pe_dget hu (pv 6) (pv 3) (fun _ _ => rfl)) pa_nil)))))))))) (pss_one (ps_ret (pe_tup (pa_cons pe_str (pa_cons (pv 3) pa_nil))))) pss_nil))))
      (pss_cons (ps_set (i := 7) nd rfl (Or.inl rfl) (pe_call GV (hr.mono (by decide)) rfl gV kV bV .nil pass0 (pa_cons (pv 0) (pa_cons (pv 6) pa_nil))))
      (pss_one (ps_ret (pe_ifExp (pt_cmpR (op_neD hu64) (pv 7) (pe_lst pa_nil) (nomark _)) (pe_op op_catT (pe_tup (pa_cons pe_str pa_nil)) (pe_ix ix_list (pv 7) pe_int (fun _ _ => rfl))) pe_non)))))))))))), ?_⟩

    have ndy := gn.nd
    have lys := gn.l
    have crd : ∀ y ∈ ys, cp y ≠ rd := fun y hy z => by
      have := TB.r y hy
      rw [z, TB.d] at this
      cases this
    refine ⟨_, rfl, _, _, _, _, true, rfl, .ty _, .base (.dK htd), kit_ty (by decide +kernel), true, rfl, iteF ?_⟩
    refine ⟨td, _, htd, trivial, fun od => ⟨_, rfl, td, od, rfl, .inl ⟨_, upd_same, fun L hL => ?_⟩⟩⟩
    obtain ⟨fL, Ltd⟩ := lockFree hL
    refine lc_it walk_keys (fun i H' => Same (upd H td (.frz od (.dK (dcOf ys fun y => V.str (nx y))))) H' ∧ H' L = some (.lst ((ys.take i).map V.str))) ⟨sameUp hL, upd_same⟩ (fun i H' _ h => h.1 _ _ upd_same) ?_ ?_
    · rintro i v H2 H3 hi ⟨s2, hL2⟩ ⟨rfl, k0, v0, hk, rfl⟩
      obtain ⟨n, hn, rfl, rfl⟩ := dcOf_at hk
      refine ⟨rfl, _, rfl, n, rfl, _, hL2, small1000 (by rw [List.length_map, List.length_take]; omega), fun c o e => ?_, ?_⟩
      · rw [upd_ne (ne_of_none e hL)]
        exact s2 _ _ e
      · rw [upd_same, List.take_add_one, hn, List.map_append]
        rfl
    rintro H2 ⟨s2, hL2⟩
    rw [dcOf_len, List.take_length] at hL2
    refine ⟨s2 _ _ upd_same, ?_⟩
    have s3 := unl htd s2
    have hL3 := (upd_ne Ltd (o := .dK (dcOf ys fun y => V.str (nx y)))).trans hL2
    generalize upd H2 td (.dK (dcOf ys fun y => V.str (nx y))) = H3 at s3 hL3 ⊢
    clear s2 hL2 hL
    refine ⟨L, ys, rfl, .inl (SqL.of hL3), by omega, fun zs z pz soz nz => ?_⟩
    obtain rfl : zs = ys := sorted_uniq pz soz soy
    have sz := sameUp (o := .lst (zs.map V.str)) nz
    have hz : upd H3 z (.lst (zs.map V.str)) z = some (.lst (zs.map V.str)) := upd_same
    have s4 := s3.trans sz
    generalize upd H3 z (.lst (zs.map V.str)) = H4 at sz hz s4 ⊢
    refine ⟨_, rfl, rd, _, rfl, .inl (s4 _ _ TB.d), fun w2 nw2 => ?_⟩
    have ek : ((dcOf zs fun y => V.ref (cp y)).map fun kv => L2.kV kv.1) = zs.map V.str := by
      unfold dcOf
      rw [List.map_map]
      rfl
    rw [ek]
    have s5 := sameUp (o := .lst (zs.map V.str)) nw2
    have sok := strsOk_of gn
    refine ⟨.list (zs.map PyData.str), .list (zs.map PyData.str), .lst (SqL.of (s5 _ _ hz)) (dp_strs _), .lst (SqL.of upd_same) (dp_strs _), shaped_strs sok, shaped_strs sok, ?_⟩
    have sB := s4.trans s5
    generalize upd H4 w2 (.lst (zs.map V.str)) = H5 at sB ⊢
    have eqr : PyData.eqv (.list (zs.map PyData.str)) (.list (zs.map PyData.str)) = true := by
      rw [eqv_strs]
      simp
    refine ⟨false, by rw [eqr]; rfl, iteF ?_⟩
    clear hL3 hz s3 sz s4 s5
    -- all are texts
    have htd5 := sB _ _ htd
    refine ⟨td, _, htd5, trivial, fun od => ⟨_, rfl, td, od, rfl, .inl ⟨_, upd_same, fun L hL => ?_⟩⟩⟩
    obtain ⟨fL, Ltd⟩ := lockFree hL
    refine lc_it walk_keys (fun i H' => Same (upd H5 td (.frz od (.dK (dcOf zs fun y => V.str (nx y))))) H' ∧ H' L = some (.lst ((List.replicate i true).map V.bl))) ⟨sameUp hL, upd_same⟩ (fun i H' _ h => h.1 _ _ upd_same) ?_ ?_
    · rintro i v H2 H3 hi ⟨s2, hL2⟩ ⟨rfl, k0, v0, hk, rfl⟩
      obtain ⟨n, hn, rfl, rfl⟩ := dcOf_at hk
      have hil := (List.getElem?_eq_some_iff.mp hn).1
      refine ⟨rfl, _, rfl, _, _, _, _, true, rfl, .ty _, .base (.str n), kit_ty (by decide +kernel), _, hL2, small1000 (by rw [List.length_map, List.length_replicate]; omega), fun c o e => ?_, ?_⟩
      · rw [upd_ne (ne_of_none e hL)]
        exact s2 _ _ e
      · rw [upd_same, List.replicate_succ', List.map_append]
        rfl
    rintro H2 ⟨s2, hL2⟩
    refine ⟨s2 _ _ upd_same, ?_⟩
    have s3 := unl htd5 s2
    have hL3 := (upd_ne Ltd (o := .dK (dcOf zs fun y => V.str (nx y)))).trans hL2
    generalize upd H2 td (.dK (dcOf zs fun y => V.str (nx y))) = H3 at s3 hL3 ⊢
    have eall : (List.replicate (dcOf zs fun y => V.str (nx y)).length true).all id = true := by
      rw [List.all_replicate]
      simp
    refine ⟨L, _, rfl, SqL.of hL3, ?_⟩
    rw [eall]
    refine ⟨true, rfl, iteF ?_⟩
    have sC := sB.trans s3
    clear s2 hL2 hL hL3 s3 htd5 eall
    have cinj : ∀ {i j : Nat} {x y : Str}, zs[i]? = some x → zs[j]? = some y → nx x = nx y → i = j := fun {i j x y} h1 h2 e => by
      have := P1.inj x (List.mem_of_getElem? h1) y (List.mem_of_getElem? h2) e
      subst this
      exact (List.getElem?_inj (List.getElem?_eq_some_iff.mp h1).1 ndy).mp (h1.trans h2.symm)
    refine ⟨(show 0 ≤ sizeLine by decide), fun M nM => ?_⟩
    have sM := sameUp (o := .lst []) nM
    have hM : upd H3 M (.lst []) M = some (.lst []) := upd_same
    have sD := sC.trans sM
    have fM : H M = none := sC.free nM
    have Mrd : rd ≠ M := ne_of_none (sC _ _ TB.d) nM
    have Mtd : td ≠ M := ne_of_none (sC _ _ htd) nM
    have Mc : ∀ y ∈ zs, cp y ≠ M := fun y hy => ne_of_none (sC _ _ (TB.r y hy)) nM
    generalize upd H3 M (.lst []) = H4 at hM sD ⊢
    have TB4 := TB.ext (ExtN.of sD)
    refine ⟨rd, _, TB4.d, trivial, fun od => ?_⟩
    have hfz : upd H4 rd (.frz od (.dK (dcOf zs fun y => V.ref (cp y)))) rd = some (.frz od (.dK (dcOf zs fun y => V.ref (cp y)))) := upd_same
    have hM4 := (upd_ne Mrd.symm (o := .frz od (.dK (dcOf zs fun y => V.ref (cp y))))).trans hM
    have htd4 := (upd_ne tdr (o := .frz od (.dK (dcOf zs fun y => V.ref (cp y))))).trans (sD _ _ htd)
    have rdk : ∀ {H' : Hp}, KeepBut M M (upd H4 rd (.frz od (.dK (dcOf zs fun y => V.ref (cp y))))) H' → Rdt H' rd zs R := fun {H'} kb => ⟨ndy, cp, .inr ⟨od, kb _ _ Mrd Mrd hfz⟩, fun y hy => kb _ _ (Mc y hy) (Mc y hy) ((upd_ne (crd y hy)).trans (TB4.r y hy))⟩
    have nget : ∀ {H' : Hp} {y : Str}, KeepBut M M (upd H4 rd (.frz od (.dK (dcOf zs fun y => V.ref (cp y))))) H' → y ∈ zs → DGet H' td (.str y) (some (.str (nx y))) := fun {H' y} kb hy => by
      rw [← dcOf_some (g := fun y => V.str (nx y)) ndy hy]
      exact DGet.k (k := Sum.inr y) (kb _ _ Mtd Mtd htd4)
    refine ⟨_, rfl, rd, od, rfl, .inl ⟨_, hfz, ?_⟩⟩
    refine for_it walk_keys (fun i σ H' => ∃ (o3 o4 : Option V), σ = [some (.ref rd), some (.ref td), some (.ref M), o3, o4, none, none, none, none] ∧ KeepBut M M (upd H4 rd (.frz od (.dK (dcOf zs fun y => V.ref (cp y))))) H' ∧ H' M = some (.lst (((zs.take i).map nx).map V.str))) ⟨none, none, rfl, .refl, hM4⟩ (fun i σ H' _ ⟨_, _, _, kb, _⟩ => kb _ _ Mrd Mrd hfz) ?_ ?_
    · rintro i v σ H2 H6 hi ⟨o3, o4, rfl, kb, hM2⟩ ⟨rfl, k0, v0, hk, rfl⟩
      obtain ⟨p, hp, rfl, rfl⟩ := dcOf_at hk
      have hpy := List.mem_of_getElem? hp
      have hil := (List.getElem?_eq_some_iff.mp hp).1
      have nin : nx p ∉ (zs.take i).map nx := fun h => by
        obtain ⟨x, hx, e⟩ := List.mem_map.mp h
        obtain ⟨j, hj⟩ := List.getElem?_of_mem hx
        have hjl := (List.getElem?_eq_some_iff.mp hj).1
        rw [List.length_take] at hjl
        rw [List.getElem?_take_of_lt (by omega)] at hj
        have := cinj hj hp e
        omega
      refine ⟨_, rfl, _, rfl, td, _, rfl, nget kb hpy, ?_⟩
      refine ⟨_, rfl, _, _, _, _, true, rfl, .ty _, .base (.str (nx p)), kit_ty (by decide +kernel), true, rfl, iteF ?_⟩
      refine ⟨_, rfl, _, rfl, M, _, rfl, .inl (SqL.of hM2), rfl, flat_strs _, ?_⟩
      show ∃ k, V.bl (inV (V.str (nx p)) (((zs.take i).map nx).map V.str)) = V.bl k ∧ _
      rw [inV_strs, decide_eq_false nin]
      refine ⟨false, rfl, iteF ?_⟩
      have fin : ∀ (σ' : L2.St) (H' : Hp), H' M = some (.lst (((zs.take i).map nx).map V.str ++ [V.str (nx p)])) → H' M = some (.lst (((zs.take (i + 1)).map nx).map V.str)) := fun _ H' h => by
        rw [h, List.take_add_one, hp, List.map_append, List.map_append]
        rfl
      by_cases c : nx p = p
      · refine ⟨_, rfl, _, rfl, rfl, false, ?_, iteF ?_⟩
        · show V.bl (!decide (V.str (nx p) = V.str p)) = V.bl false
          rw [c]
          simp
        refine ⟨_, rfl, .inl ⟨rfl, _, SqL.of hM2⟩, _, rfl, M, _, _, rfl, rfl, hM2, small1000 (by rw [List.length_map, List.length_map, List.length_take]; omega), ?_⟩
        refine ⟨_, _, rfl, fun c o h1 h2 e => ?_, fin [] _ upd_same⟩
        rw [upd_ne h1]
        exact kb _ _ h1 h2 e
      · obtain ⟨cc, gc, lc⟩ := (rdk kb).get hpy
        have hR : nx p ∈ R p := (may p hpy).resolve_left c
        refine ⟨_, rfl, _, rfl, rfl, true, ?_, iteT ⟨_, rfl, _, rfl, _, rfl, rd, .ref cc, rfl, gc, cc, _, rfl, .inl (SqL.of lc), rfl, flat_strs _, ?_⟩⟩
        · show V.bl (!decide (V.str (nx p) = V.str p)) = V.bl true
          simp [c]
        show ∃ k, V.bl (!inV (V.str (nx p)) ((R p).map V.str)) = V.bl k ∧ _
        rw [inV_strs, decide_eq_true hR]
        refine ⟨false, rfl, iteF ?_⟩
        refine ⟨_, rfl, .inl ⟨rfl, _, SqL.of hM2⟩, _, rfl, M, _, _, rfl, rfl, hM2, small1000 (by rw [List.length_map, List.length_map, List.length_take]; omega), ?_⟩
        refine ⟨_, _, rfl, fun c o h1 h2 e => ?_, fin [] _ upd_same⟩
        rw [upd_ne h1]
        exact kb _ _ h1 h2 e
    rintro σ H2 ⟨o3, o4, rfl, kb, hM2⟩
    refine ⟨kb _ _ Mrd Mrd hfz, ?_⟩
    have s6 : Same H (upd H2 rd (.dK (dcOf zs fun y => V.ref (cp y)))) := fun c o e => by
      by_cases c1 : c = rd
      · rw [c1] at e
        rw [c1, upd_same, ← e, TB.d]
      · rw [upd_ne c1]
        exact kb _ _ (ne_of_none e fM) (ne_of_none e fM) ((upd_ne c1).trans (sD _ _ e))
    generalize upd H2 rd (.dK (dcOf zs fun y => V.ref (cp y))) = H6 at s6 ⊢
    clear kb hM2 rdk nget htd4 hM4 hfz TB4 sD hM sM sC sB
    -- the sizes
    have TB6 := TB.ext (ExtN.of s6)
    have lkD : ∀ {kvs : List (Key × V)} {g : Str → V}, kvs = dcOf zs g → kvs.length = zs.length := fun {kvs g} e => by rw [e, dcOf_len]
    refine ⟨rd, _, TB6.d, trivial, fun od => ⟨_, rfl, rd, od, rfl, .inl ⟨_, upd_same, fun L hL => ?_⟩⟩⟩
    obtain ⟨fL, Lrd⟩ := lockFree hL
    refine lc_it walk_keys (fun i H' => ∃ ts, PrB (upd H6 rd (.frz od (.dK (dcOf zs fun y => V.ref (cp y))))) H' L (dcOf zs fun y => .int (per nx y : Nat)) i ts ∧ ∀ q ∈ zs.take i, per nx q ≤ 2 → nx (nx q) = q) ⟨[], .nil hL, fun q h => by simp at h⟩ (fun i H' _ ⟨ts, B, _⟩ => B.s _ _ upd_same) ?_ ?_
    · rintro i v H2 H3 hi ⟨ts, B, pl⟩ ⟨rfl, k0, v0, hk, rfl⟩
      obtain ⟨p, hp, rfl, rfl⟩ := dcOf_at hk
      have hpy := List.mem_of_getElem? hp
      have hz' : (dcOf zs fun y => V.int (per nx y : Nat))[i]? = some (Sum.inr p, V.int (per nx p : Nat)) := by
        unfold dcOf
        rw [List.getElem?_map, hp]
        rfl
      have htd3 := B.s _ _ ((upd_ne tdr).trans (s6 _ _ htd))
      refine ⟨rfl, _, rfl, _, rfl, _, rfl, td, p, zs, zs, nx, rfl, htd3, ndy, fun _ h => h, lys, hpy, P1, fun H4 q l s4 fq hq l1 l63 lp el => ?_⟩
      refine ⟨q, _, rfl, .inl (SqL.of hq), (show 2 ≤ sizeLine by decide), fun T0 hT0 => ?_⟩
      rw [List.length_map, el]
      obtain ⟨q1, q2⟩ := B.snoc hL hz' s4 hT0
      exact ⟨_, q1, small1000 (by rw [List.length_map, B.l]; have := (List.getElem?_eq_some_iff.mp hp).1; omega), _, q2, fun q' hq' hle => by
        rw [List.take_add_one, hp] at hq'
        rcases List.mem_append.mp hq' with h | h
        · exact pl q' h hle
        · have : q' = p := by simpa using h
          rw [this] at hle ⊢
          exact lp (by rw [el]; exact hle)⟩
    rintro H2 ⟨ts, B, perlp⟩
    rw [dcOf_len, List.take_length] at perlp
    refine ⟨B.s _ _ upd_same, ?_⟩
    have s7 := unl TB6.d B.s
    have hL7 := (upd_ne Lrd (o := .dK (dcOf zs fun y => V.ref (cp y)))).trans B.h
    rw [dcOf_len, ← dcOf_len (ys := zs) (g := fun y => V.int (per nx y : Nat))] at B
    have pr7 : Paired (fun p kv => SqT K (upd H2 rd (.dK (dcOf zs fun y => V.ref (cp y)))) p [L2.kV kv.1, kv.2]) ts (dcOf zs fun y => V.int (per nx y : Nat)) := by
      have h := B.r
      rw [List.take_length] at h
      refine paired_imp (fun p kv e => SqT.of ((upd_ne fun w => ?_).trans e)) h
      rw [w, B.s _ _ upd_same] at e
      cases e
    generalize upd H2 rd (.dK (dcOf zs fun y => V.ref (cp y))) = H7 at s7 hL7 pr7 ⊢
    refine ⟨L, ts, _, rfl, SqL.of hL7, pr7, fun sd nsd => ?_⟩
    rw [merge_dcOf ndy]
    have s8 := sameUp (o := .dK (dcOf zs fun y => V.int (per nx y : Nat))) nsd
    have hsd : upd H7 sd (.dK (dcOf zs fun y => V.int (per nx y : Nat))) sd = some (.dK (dcOf zs fun y => V.int (per nx y : Nat))) := upd_same
    have s08 := (s6.trans s7).trans s8
    have fsd : H sd = none := (s6.trans s7).free nsd
    generalize upd H7 sd (.dK (dcOf zs fun y => V.int (per nx y : Nat))) = H8 at hsd s08 ⊢
    clear B hL7 pr7 s7 s8 nsd hL TB6 s6
    -- who is ahead of whom
    obtain ⟨ah, eah⟩ : ∃ ah : Str → Str, ah = fun y => (zs.find? fun p => decide (nx p = y)).getD y := ⟨_, rfl⟩
    have han : ∀ p ∈ zs, ah (nx p) = p := fun p hp => by
      rw [eah]
      show (zs.find? fun p' => decide (nx p' = nx p)).getD (nx p) = p
      cases e : zs.find? fun p' => decide (nx p' = nx p) with
      | none => exact absurd (decide_eq_true rfl) (List.find?_eq_none.mp e p hp)
      | some p' =>
        have h1 := List.find?_some e
        have h2 := List.mem_of_find?_eq_some e
        exact P1.inj p' h2 p hp (of_decide_eq_true h1)
    have ndm : (zs.map nx).Nodup := List.pairwise_map.mpr (ndy.imp_of_mem fun {a b} ha hb hab e => hab (P1.inj a ha b hb e))
    have onto : ∀ y ∈ zs, y ∈ zs.map nx := fun y hy => by
      by_cases c : y ∈ zs.map nx
      · exact c
      · have h1 : (y :: zs.map nx).Nodup := List.nodup_cons.mpr ⟨c, ndm⟩
        have h2 := pigeon h1 (l2 := zs) fun z hz => by
          rcases List.mem_cons.mp hz with rfl | h
          · exact hy
          · obtain ⟨x, hx, rfl⟩ := List.mem_map.mp h
            exact P1.to x hx
        rw [List.length_cons, List.length_map] at h2
        omega
    have hto : ∀ p ∈ zs, ah p ∈ zs := fun p hp => by
      obtain ⟨x, hx, rfl⟩ := List.mem_map.mp (onto p hp)
      rw [han x hx]
      exact hx
    have TB8 := TB.ext (ExtN.of s08)
    refine ⟨rd, _, TB8.d, trivial, fun od => ⟨_, rfl, rd, od, rfl, .inl ⟨_, upd_same, fun L hL => ?_⟩⟩⟩
    obtain ⟨fL, Lrd⟩ := lockFree hL
    refine lc_it walk_keys (fun i H' => ∃ ts, PrB (upd H8 rd (.frz od (.dK (dcOf zs fun y => V.ref (cp y))))) H' L (dcOf (zs.map nx) fun y => .str (ah y)) i ts) ⟨[], .nil hL⟩ (fun i H' _ ⟨ts, B⟩ => B.s _ _ upd_same) ?_ ?_
    · rintro i v H2 H3 hi ⟨ts, B⟩ ⟨rfl, k0, v0, hk, rfl⟩
      obtain ⟨p, hp, rfl, rfl⟩ := dcOf_at hk
      have hpy := List.mem_of_getElem? hp
      have hz' : (dcOf (zs.map nx) fun y => V.str (ah y))[i]? = some (Sum.inr (nx p), V.str p) := by
        unfold dcOf
        rw [List.getElem?_map, List.getElem?_map, hp]
        show some ((Sum.inr (nx p) : Key), V.str (ah (nx p))) = _
        rw [han p hpy]
      have htd3 := B.s _ _ ((upd_ne tdr).trans (s08 _ _ htd))
      have gp : DGet H3 td (.str p) (some (.str (nx p))) := by
        rw [← dcOf_some (g := fun y => V.str (nx y)) ndy hpy]
        exact DGet.k (k := Sum.inr p) htd3
      refine ⟨rfl, _, rfl, _, rfl, td, _, rfl, gp, _, rfl, (show 2 ≤ sizeLine by decide), fun T0 hT0 => ?_⟩
      obtain ⟨q1, q2⟩ := B.snoc hL hz' (Same.refl _) hT0
      exact ⟨_, q1, small1000 (by rw [List.length_map, B.l]; have := (List.getElem?_eq_some_iff.mp hp).1; omega), _, q2⟩
    rintro H2 ⟨ts, B⟩
    refine ⟨B.s _ _ upd_same, ?_⟩
    have s9 := unl TB8.d B.s
    have hL9 := (upd_ne Lrd (o := .dK (dcOf zs fun y => V.ref (cp y)))).trans B.h
    have el9 : (dcOf zs fun y => V.ref (cp y)).length = (dcOf (zs.map nx) fun y => V.str (ah y)).length := by rw [dcOf_len, dcOf_len, List.length_map]
    rw [el9] at B
    have pr9 : Paired (fun p kv => SqT K (upd H2 rd (.dK (dcOf zs fun y => V.ref (cp y)))) p [L2.kV kv.1, kv.2]) ts (dcOf (zs.map nx) fun y => V.str (ah y)) := by
      have h := B.r
      rw [List.take_length] at h
      refine paired_imp (fun p kv e => SqT.of ((upd_ne fun w => ?_).trans e)) h
      rw [w, B.s _ _ upd_same] at e
      cases e
    generalize upd H2 rd (.dK (dcOf zs fun y => V.ref (cp y))) = H9 at s9 hL9 pr9 ⊢
    refine ⟨L, ts, _, rfl, SqL.of hL9, pr9, fun ad nad => ?_⟩
    rw [merge_dcOf ndm]
    have s10 := sameUp (o := .dK (dcOf (zs.map nx) fun y => V.str (ah y))) nad
    have had : upd H9 ad (.dK (dcOf (zs.map nx) fun y => V.str (ah y))) ad = some (.dK (dcOf (zs.map nx) fun y => V.str (ah y))) := upd_same
    have s0 := (s08.trans s9).trans s10
    have hsdA := (s9.trans s10) _ _ hsd
    have fad : H ad = none := (s08.trans s9).free nad
    generalize upd H9 ad (.dK (dcOf (zs.map nx) fun y => V.str (ah y))) = HA at had hsdA s0 ⊢
    clear B hL9 pr9 s9 s10 nad hL TB8 s08 hsd el9
    have TBA := TB.ext (ExtN.of s0)
    have sdr : sd ≠ rd := (ne_of_none TB.d fsd).symm
    have adr : ad ≠ rd := (ne_of_none TB.d fad).symm
    have htdA := s0 _ _ htd
    have szget : ∀ {od : Obj} {H' : Hp} {y : Str}, Same (upd HA rd (.frz od (.dK (dcOf zs fun y => V.ref (cp y))))) H' → y ∈ zs → DGet H' sd (.str y) (some (.int (per nx y : Nat))) := fun {od H' y} s hy => by
      rw [← dcOf_some (g := fun y => V.int (per nx y : Nat)) ndy hy]
      exact DGet.k (k := Sum.inr y) (s _ _ ((upd_ne sdr).trans hsdA))
    refine ⟨rd, _, TBA.d, trivial, fun od => ⟨_, rfl, rd, od, rfl, .inl ⟨_, upd_same, ?_⟩⟩⟩
    refine for_it walk_keys (fun i σ H' => ∃ o3, σ = [some (.ref rd), some (.ref td), some (.ref M), o3, o4, some (.ref sd), some (.ref ad), none, none] ∧ Same (upd HA rd (.frz od (.dK (dcOf zs fun y => V.ref (cp y))))) H') ⟨_, rfl, .refl _⟩ (fun i σ H' _ ⟨_, _, s⟩ => s _ _ upd_same) ?_ ?_
    · rintro i v σ H2 H3 hi ⟨o3, rfl, sL⟩ ⟨rfl, k0, v0, hk, rfl⟩
      obtain ⟨p, hp, rfl, rfl⟩ := dcOf_at hk
      have hpy := List.mem_of_getElem? hp
      refine ⟨_, rfl, _, rfl, sd, _, rfl, szget sL hpy, _, _, rfl, rfl, _, rfl, ?_⟩
      by_cases c : (2 : Int) < (per nx p : Nat)
      rotate_left
      · rw [decide_eq_false c]
        exact iteF ⟨_, rfl, sL⟩
      rw [decide_eq_true c]
      refine iteT ⟨_, rfl, _, rfl, sd, _, rfl, szget sL hpy, ?_⟩
      delta tNil
      dsimp only
      refine .inl ⟨_, rfl, _, _, rfl, rfl, (show (0 : Int) < 2 by decide), rfl, _, rfl, ?_⟩
      have ext : ∀ {H' : Hp}, Same H3 H' → Same H (upd H' rd (.dK (dcOf zs fun y => V.ref (cp y)))) := fun {H'} s => s0.trans (unl TBA.d (sL.trans s))
      by_cases c2 : V.int (((per nx p : Nat) : Int) % 2) = V.int 0
      · rw [decide_eq_true c2]
        refine iteT ⟨_, rfl, (show 2 ≤ sizeLine by decide), fun t nt => ?_⟩
        have st := sameUp (o := .tup [V.str "ring", V.str p]) nt
        exact ⟨st _ _ (sL _ _ upd_same), k _ _ (ext st) (fun z => by cases z) fun _ => ⟨_, rfl⟩⟩
      · rw [decide_eq_false c2]
        exact iteF ⟨_, rfl, sL⟩
    rintro σ H2 ⟨o3, rfl, sL⟩
    refine ⟨sL _ _ upd_same, ?_⟩
    have sM2 := unl TBA.d sL
    generalize upd H2 rd (.dK (dcOf zs fun y => V.ref (cp y))) = HB at sM2 ⊢
    clear sL
    have sB0 := s0.trans sM2
    have TBB := TB.ext (ExtN.of sB0)
    have hadB := sM2 _ _ had
    have hsdB := sM2 _ _ hsdA
    have htdB := sB0 _ _ htd
    refine ⟨rd, _, TBB.d, trivial, fun od => ⟨_, rfl, rd, od, rfl, .inl ⟨_, upd_same, ?_⟩⟩⟩
    refine for_it walk_keys (fun i σ H' => ∃ o3, σ = [some (.ref rd), some (.ref td), some (.ref M), o3, o4, some (.ref sd), some (.ref ad), none, none] ∧ Same (upd HB rd (.frz od (.dK (dcOf zs fun y => V.ref (cp y))))) H' ∧ ∀ p ∈ zs.take i, nx p ≠ p → nx p = ah p ∨ Ak.rk R p (nx p) < Ak.rk R p (ah p)) ⟨_, rfl, .refl _, fun p h => by simp at h⟩ (fun i σ H' _ ⟨_, _, s, _⟩ => s _ _ upd_same) ?_ ?_
    · rintro i v σ H2 H3 hi ⟨o3, rfl, sL, dn⟩ ⟨rfl, k0, v0, hk, rfl⟩
      obtain ⟨p, hp, rfl, rfl⟩ := dcOf_at hk
      have hpy := List.mem_of_getElem? hp
      have next : (nx p ≠ p → nx p = ah p ∨ Ak.rk R p (nx p) < Ak.rk R p (ah p)) → ∀ q ∈ zs.take (i + 1), nx q ≠ q → nx q = ah q ∨ Ak.rk R q (nx q) < Ak.rk R q (ah q) := fun h q hq => by
        rw [List.take_add_one, hp] at hq
        rcases List.mem_append.mp hq with q1 | q1
        · exact dn q q1
        · have : q = p := by simpa using q1
          rw [this]
          exact h
      have ext : ∀ {H' : Hp}, Same H3 H' → Same H (upd H' rd (.dK (dcOf zs fun y => V.ref (cp y)))) := fun {H'} s => sB0.trans (unl TBB.d (sL.trans s))
      have gsz : DGet H3 sd (.str p) (some (.int (per nx p : Nat))) := by
        rw [← dcOf_some (g := fun y => V.int (per nx y : Nat)) ndy hpy]
        exact DGet.k (k := Sum.inr p) (sL _ _ ((upd_ne sdr).trans hsdB))
      have gnx : DGet H3 td (.str p) (some (.str (nx p))) := by
        rw [← dcOf_some (g := fun y => V.str (nx y)) ndy hpy]
        exact DGet.k (k := Sum.inr p) (sL _ _ ((upd_ne tdr).trans htdB))
      have gah : DGet H3 ad (.str p) (some (.str (ah p))) := by
        rw [← dcOf_some (g := fun y => V.str (ah y)) ndm (onto p hpy)]
        exact DGet.k (k := Sum.inr p) (sL _ _ ((upd_ne adr).trans hadB))
      have rd3 : Rdt H3 rd zs R := (TBB.fz ndy).same sL
      refine ⟨_, rfl, _, rfl, sd, _, rfl, gsz, _, _, rfl, rfl, _, rfl, ?_⟩
      by_cases c : (2 : Int) < (per nx p : Nat)
      rotate_left
      · rw [decide_eq_false c]
        refine iteF ⟨_, rfl, sL, next fun hn => .inl ?_⟩
        have e2 : nx (nx p) = p := perlp p hpy (by omega)
        have := han (nx p) (P1.to p hpy)
        rw [e2] at this
        exact this.symm
      rw [decide_eq_true c]
      refine iteT ⟨_, rfl, _, rfl, _, rfl, _, rfl, td, _, rfl, gnx, _, rfl, _, rfl, ad, _, rfl, gah, rd, p, nx p, ah p, zs, R, rfl, rd3, hpy, _, rfl, ?_⟩
      by_cases c2 : Ak.rk R p (nx p) < Ak.rk R p (ah p)
      · rw [decide_eq_true c2]
        exact iteF ⟨_, rfl, sL, next fun _ => .inr c2⟩
      · rw [decide_eq_false c2]
        refine iteT ⟨_, rfl, (show 2 ≤ sizeLine by decide), fun t nt => ?_⟩
        have st := sameUp (o := .tup [V.str "turned", V.str p]) nt
        exact ⟨st _ _ (sL _ _ upd_same), k _ _ (ext st) (fun z => by cases z) fun _ => ⟨_, rfl⟩⟩
    rintro σ H2 ⟨o3, rfl, sL, dn⟩
    rw [dcOf_len, List.take_length] at dn
    refine ⟨sL _ _ upd_same, ?_⟩
    have sM3 := unl TBB.d sL
    generalize upd H2 rd (.dK (dcOf zs fun y => V.ref (cp y))) = HC at sM3 ⊢
    have sC0 := sB0.trans sM3
    refine ⟨_, rfl, _, rfl, rd, ad, zs, zs.map nx, cp, R, ah, rfl, TB.ext (ExtN.of sC0), ndy, lys, SO, sM3 _ _ hadB, ndm, onto, adr, fun HD q ts sD fq hq hts lts no => ?_⟩
    have s0D := sC0.trans sD
    refine ⟨_, rfl, (show 0 ≤ sizeLine by decide), fun e ne => ?_⟩
    have se := sameUp (o := .lst []) ne
    have hqE := se _ _ hq
    have htsE : ∀ t ∈ ts, ∃ x y : Str, (x ∈ zs ∧ y ∈ zs) ∧ upd HD e (.lst []) t = some (.tup [.str x, .str y]) := fun t ht => by
      obtain ⟨x, y, m, h⟩ := hts t ht
      exact ⟨x, y, m, se _ _ h⟩
    have heE : upd HD e (.lst []) e = some (.lst []) := upd_same
    have s0E := s0D.trans se
    generalize upd HD e (.lst []) = HE at hqE htsE heE s0E ⊢
    have dpa : ∀ {us : List Addr}, (∀ t ∈ us, ∃ x y : Str, (x ∈ zs ∧ y ∈ zs) ∧ HE t = some (.tup [.str x, .str y])) → ∃ ds, DpAll K HE (us.map V.ref) ds ∧ PyData.canLayAll0 ds = true ∧ PyData.depthAll ds ≤ 3 ∧ (ds = [] ↔ us = []) := fun {us} h => by
      induction us with
      | nil => exact ⟨[], .nil, rfl, Nat.zero_le _, by simp⟩
      | cons u us ih =>
        obtain ⟨ds, e1, e2, e3, _⟩ := ih fun t ht => h t (List.mem_cons_of_mem _ ht)
        obtain ⟨x, y, ⟨mx, my⟩, hu⟩ := h u List.mem_cons_self
        have ox := strsOk_of gn x mx
        have oy := strsOk_of gn y my
        refine ⟨.tuple [.str x, .str y] :: ds, .cons (.tup (SqT.of hu) (.cons (.str _) (.cons (.str _) .nil))) e1, ?_, ?_, by simp⟩
        · simp [PyData.canLayAll0, PyData.canLay0, ox, oy, e2]
        · simp [PyData.depthAll, PyData.depth]
          omega
    obtain ⟨ds, dp, cl, dep, dnil⟩ := dpa htsE
    refine ⟨.list ds, .list [], .lst (SqL.of hqE) dp, .lst (SqL.of heE) .nil, ?_, rfl, ?_⟩
    · simp [SeqAt.shaped, PyData.canLay0, PyData.depth, cl]
      omega
    have ee : PyData.eqv (.list ds) (.list []) = decide (ts = []) := by
      cases ds with
      | nil => exact (decide_eq_true (dnil.mp rfl)).symm
      | cons d r =>
        have : ts ≠ [] := fun z => by
          have := dnil.mpr z
          cases this
        rw [decide_eq_false this]
        simp [PyData.eqv, PyData.eqvAll]
    rw [ee]
    by_cases tn : ts = []
    · rw [decide_eq_true tn]
      refine ⟨false, rfl, iteF (k _ _ s0E (fun _ => ⟨ah, han, hto, dn, fun p hp x hx => ?_⟩) fun z => absurd rfl z)⟩
      have nn := no tn
      have pxne : p ≠ x := fun z => SO.ir p (by rw [← z] at hx; exact hx)
      have hxy := (SO.sub p x hx).2
      rcases str_tri pxne with lt | lt
      · exact nn p hp x hx lt
      · exact fun z => nn x hxy p (SO.sym p x hx) lt ⟨z.2, z.1⟩
    · rw [decide_eq_false tn]
      refine ⟨true, rfl, iteT ?_⟩
      obtain ⟨t0, tr, et⟩ : ∃ t0 tr, ts = t0 :: tr := by
        cases ts with
        | nil => exact absurd rfl tn
        | cons a l => exact ⟨a, l, rfl⟩
      obtain ⟨x0, y0, _, ht0⟩ := htsE t0 (by rw [et]; simp)
      refine ⟨(show 1 ≤ sizeLine by decide), fun t1 nt1 => ?_⟩
      have s1 := sameUp (o := .tup [V.str "leave"]) nt1
      have at0 : atI (ts.map V.ref) 0 = some (.ref t0) := atI_nat (j := 0) (by rw [et]; rfl)
      refine ⟨_, rfl, q, _, _, _, rfl, rfl, SqL.of (s1 _ _ hqE), at0, t1, t0, [V.str "leave"], [.str x0, .str y0], rfl, rfl, SqT.of upd_same, SqT.of (s1 _ _ ht0), by simp, (show 3 ≤ sizeLine by decide), fun z => by simp at z, fun _ p np => ?_⟩
      exact k _ _ ((s0E.trans s1).trans (sameUp np)) (fun z => by cases z) fun _ => ⟨_, rfl⟩
end
end Mn
/-! _law_asked -/
namespace Mn
open PySem PySem.Spec PyProof.Rows L2 Md Me Ml LamX Mi Mo
abbrev sAsd : Stmt := top 61
abbrev asdN : List Str := ["_law_stream", "_law_rows", "_law_left", "_law_free", "_law_person", "_law_first", "_law_gone", "_law_other", "_law_was"]
theorem scAsd : FnScope asdN ["_law_stream", "_law_rows"] (defScope sAsd) := ⟨rfl, rfl, rfl, by decide +kernel, rfl, by decide +kernel, by decide +kernel⟩
def lstQ (K : PySem.W.Frag) : List V → Hp → VK → Prop := fun xs H Q => ∃ p ys, xs = [V.ref p] ∧ (SqL K H p ys ∨ SqT K H p ys) ∧ ∀ l, H l = none → Q (.ref l) (upd H l (.lst ys))
def spAsd : Sp := fun vs H Q _ => ∃ (a b rd : Addr) (B : Nat) (ys : List Str) (cp : Str → Addr) (R : Str → List Str), vs = [.ref a, .ref rd] ∧ Stm H a b B ∧ B + 1000 ≤ 800000000000 ∧ Tbl H rd ys cp R ∧ GoodNs ys ∧ ShOk ys R ∧
  ∀ (H' : Hp) (D : Addr) (cp' : Str → Addr) (T : Str → List Str), Stm H' a b (B + 1000) → KeepBut a b H H' → AskD H H' D ys R T cp' → Q (.ref D) H'
section
variable {P : Program} {w : World} {K : PySem.W.Frag} {mg : Str → Option Value} {base : Heap}
theorem ok_asd {f fX : Addr} {fd fdX : FuncData} (F : Fun K "_law_asked" "_law_asked" sAsd f fd) (GX : FnOk P w K mg base CX0 2 fX fdX ["_law_stream", "_law_some"] (spMixedB K)) (kX : PySem.W.keepIn K (.ref fX) = true) (bX : Binds K fdX ["_law_stream", "_law_some"] []) (gX : mg "_law_mixed" = some (.ref fX))
    (gList : mg "list" = none) (gDict : mg "dict" = none) : FnOk P w K mg base CX0 3 f fd ["_law_stream", "_law_rows"] spAsd := by
  refine F.ok scAsd (fun vs H Q E h => ?_) (fun cdv A outer s H vs Q E hr h => ?_)
  · obtain ⟨a, b, rd, B, ys, cp, R, rfl, _⟩ := h
    rfl
  · obtain ⟨a, b, rd, B, ys, cp, R, rfl, S, hB, TB, gn, SO, k⟩ := h
    have nd := scAsd.nd
    have hu := hu_of hr
    have hu64 := hu64_of hr
    refine ⟨_, (pss_cons (ps_par (i := 2) (j := 3) rfl nd rfl rfl (by decide) rfl rfl (pa_cons (pe_callTy (call_dictP rfl) rfl gDict boot_dict2 (pa_cons (pe_lock (pe_lc (own := [("_law_person", 4)]) (g := gName 4) (tt := tYes) (te := tTup (tCons (tVar 4) (tCons (tCB (lstQ K) (tCons (tDGet (tVar 1) (tVar 4)) tNil)) tNil))) rfl nd (pi_keys (pv 1)) (blkOk_by (N := asdN) (sc := defScope sAsd) (by decide +kernel)) (fun _ _ _ _ _ => (pg_name (i := 4) nd rfl (Or.inl rfl))) (fun _ _ _ _ _ => pts_nil) (fun _ _ _ _ _ => by exact pe_tup (pa_cons (pv 4) (pa_cons (pe_callTy call_list_of rfl gList boot_list (pa_cons (pe_dget hu (pv 1) (pv 4) (fun _ _ => rfl)) pa_nil)) pa_nil))))) pa_nil)) (pa_cons (pe_call GX (hr.mono (by decide)) rfl gX kX bX .nil pass0 (pa_cons (pv 0) (pa_cons (pe_callTy (call_listD rfl) rfl gList boot_list (pa_cons (pv 1) pa_nil)) pa_nil))) pa_nil)) rfl)
      (pss_cons (ps_while PassesOwn.never (pt_cmpR (op_neD hu64) (pv 3) (pe_lst pa_nil) (nomark _)) (pss_cons (ps_set (i := 4) nd rfl (Or.inl rfl) (pe_bm0 PySem.F.plainAttrs_list PySem.F.slot_list_pop PySem.F.type_list_pop mt_pop (pv 3)))
      (pss_one (ps_if (pt_cmpR (op_neD hu64) (pe_dget hu (pv 2) (pv 4) (fun _ _ => rfl)) (pe_lst pa_nil) (nomark _)) (pss_cons (ps_set (i := 5) nd rfl (Or.inl rfl) (pe_ix ix_list (pe_dget hu (pv 2) (pv 4) (fun _ _ => rfl)) pe_int (fun _ _ => rfl)))
      (pss_cons (ps_set (i := 6) nd rfl (Or.inl rfl) (pe_slice sl_list (pe_dget hu (pv 2) (pv 5) (fun _ _ => rfl)) (po_some (pe_op op_add (pe_bm PySem.F.plainAttrs_list PySem.F.slot_list_index PySem.F.type_list_index mt_index (pe_dget hu (pv 2) (pv 5) (fun _ _ => rfl)) (pa_cons (pv 4) pa_nil)) pe_int)) po_none))
      (pss_cons (ps_dput hu (pv 2) (pv 5) (pe_slice sl_list (pe_dget hu (pv 2) (pv 5) (fun _ _ => rfl)) po_none (po_some (pe_op op_add (pe_bm PySem.F.plainAttrs_list PySem.F.slot_list_index PySem.F.type_list_index mt_index (pe_dget hu (pv 2) (pv 5) (fun _ _ => rfl)) (pa_cons (pv 4) pa_nil)) pe_int))) rfl)
      (pss_one (ps_for PassesOwn.never rfl (pi_list (pv 6)) (pg_name (i := 7) nd rfl (Or.inl rfl)) (pss_cons (ps_set (i := 8) nd rfl (Or.inl rfl) (pe_ix ix_list (pe_dget hu (pv 2) (pv 7) (fun _ _ => rfl)) pe_int (fun _ _ => rfl)))
      (pss_cons (ps_expr (pe_bm PySem.F.plainAttrs_list PySem.F.slot_list_remove PySem.F.type_list_remove mt_removeS (pe_dget hu (pv 2) (pv 7) (fun _ _ => rfl)) (pa_cons (pv 5) pa_nil)))
      (pss_one (ps_expr (pe_bm PySem.F.plainAttrs_list PySem.F.slot_list_extend PySem.F.type_list_extend mt_extend (pv 3) (pa_cons (pe_ifExp (PW.pt (pw_and (pt_cmpR op_eq (pv 8) (pv 5) (nomark _)) (pw_and1 (pt_cmpR op_notIn_seq (pv 7) (pv 3) (by with_unfolding_all rfl))))) (pe_lst (pa_cons (pv 7) pa_nil)) (pe_lst pa_nil)) pa_nil))))))))))) pss_nil))))
      (pss_one (ps_ret (pv 2))))), ?_⟩

    have ndy := gn.nd
    have lys := gn.l
    have sok := strsOk_of gn
    have lR : ∀ y ∈ ys, (R y).length ≤ 63 := fun y hy => Nat.le_trans (pigeon (SO.nd y) fun z hz => (SO.sub y z hz).2) lys
    refine ⟨rd, _, TB.d, trivial, fun od => ⟨_, rfl, rd, od, rfl, .inl ⟨_, upd_same, fun L hL => ?_⟩⟩⟩
    obtain ⟨fL, Lrd⟩ := lockFree hL
    have rd0 := TB.fz (od := od) ndy
    refine lc_it walk_keys (fun i H' => ∃ (ts cs : List Addr), ts.length = i ∧ cs.length = i ∧ Same (upd H rd (.frz od (.dK (dcOf ys fun y => V.ref (cp y))))) H' ∧ H' L = some (.lst (ts.map V.ref)) ∧ cs.Nodup ∧ (∀ c ∈ cs, c ≠ L ∧ c ≠ rd ∧ H c = none) ∧ ∀ (j : Nat) (n : Str) (t c : Addr), ys[j]? = some n → ts[j]? = some t → cs[j]? = some c → H' t = some (.tup [.str n, .ref c]) ∧ H' c = some (.lst ((R n).map V.str))) ⟨[], [], rfl, rfl, sameUp hL, upd_same, .nil, fun c h => by simp at h, fun j n t c _ h => by simp at h⟩ (fun i H' _ ⟨_, _, _, _, s, _⟩ => s _ _ upd_same) ?_ ?_
    · rintro i v H2 H3 hi ⟨ts, cs, lt, lc, s2, hL2, ndc, hcs, hf⟩ ⟨rfl, k0, v0, hk, rfl⟩
      obtain ⟨n, hn, rfl, rfl⟩ := dcOf_at hk
      have hny := List.mem_of_getElem? hn
      have hil := (List.getElem?_eq_some_iff.mp hn).1
      obtain ⟨c0, gc, lc0⟩ := (rd0.same s2).get hny
      refine ⟨rfl, _, rfl, _, rfl, _, rfl, rd, .ref c0, rfl, gc, c0, _, rfl, .inl (SqL.of lc0), fun c nc => ⟨(show 2 ≤ sizeLine by decide), fun t nt => ?_⟩⟩
      have s3 := sameUp (o := .lst ((R n).map V.str)) nc
      have s4 := sameUp (o := .tup [L2.kV (Sum.inr n), V.ref c]) nt
      have s34 := s3.trans s4
      have hL3 := s34 _ _ hL2
      have hc3 := s4 _ _ (upd_same (H := H3) (a := c) (o := .lst ((R n).map V.str)))
      have ht3 : upd (upd H3 c (.lst ((R n).map V.str))) t (.tup [L2.kV (Sum.inr n), V.ref c]) t = some (.tup [L2.kV (Sum.inr n), V.ref c]) := upd_same
      have cL : c ≠ L := (ne_of_none hL2 nc).symm
      have tL : t ≠ L := (ne_of_none (s3 _ _ hL2) nt).symm
      have fc := lockFree (s2.free nc)
      have cnew : c ∉ cs := fun h => by
        obtain ⟨j, hj⟩ := List.getElem?_of_mem h
        have hjl := (List.getElem?_eq_some_iff.mp hj).1
        obtain ⟨n', hn'⟩ : ∃ n', ys[j]? = some n' := ⟨_, List.getElem?_eq_getElem (by omega)⟩
        obtain ⟨t', ht'⟩ : ∃ t', ts[j]? = some t' := ⟨_, List.getElem?_eq_getElem (by omega)⟩
        rw [(hf j n' t' c hn' ht' hj).2] at nc
        cases nc
      generalize upd (upd H3 c (.lst ((R n).map V.str))) t (.tup [L2.kV (Sum.inr n), V.ref c]) = H4 at s34 hL3 hc3 ht3 ⊢
      refine ⟨_, hL3, small1000 (by rw [List.length_map]; omega), ts ++ [t], cs ++ [c], by rw [List.length_append, lt]; rfl, by rw [List.length_append, lc]; rfl, fun c' o e => ?_, by rw [upd_same, List.map_append]; rfl, List.nodup_append.mpr ⟨ndc, by simp, fun x hx y hy e => cnew (by rw [List.mem_singleton.mp hy] at e; exact e ▸ hx)⟩, fun c' h => ?_, fun j n' t' c' h1 h2 h3 => ?_⟩
      · rw [upd_ne (ne_of_none e hL)]
        exact s34 _ _ (s2 _ _ e)
      · rcases List.mem_append.mp h with h | h
        · exact hcs c' h
        · rw [List.mem_singleton.mp h]
          exact ⟨cL, fc.2, fc.1⟩
      · rcases snoc_get h2 with ⟨hj, h2⟩ | ⟨hj, rfl⟩
        · rw [List.getElem?_append_left (by omega)] at h3
          obtain ⟨e1, e2⟩ := hf j n' t' c' h1 h2 h3
          refine ⟨?_, ?_⟩
          · rw [upd_ne fun z => by rw [z, hL2] at e1; cases e1]
            exact s34 _ _ e1
          · rw [upd_ne (hcs c' (List.mem_of_getElem? h3)).1]
            exact s34 _ _ e2
        · rw [List.getElem?_append_right (by omega), show j - cs.length = 0 by omega] at h3
          have : c = c' := by simpa using h3
          subst this
          have ej : j = i := by omega
          rw [ej, hn] at h1
          cases h1
          exact ⟨(upd_ne tL).trans ht3, (upd_ne cL).trans hc3⟩
    rintro H2 ⟨ts, cs, lt, lc, s2, hL2, ndc, hcs, hf⟩
    rw [dcOf_len] at lt lc
    refine ⟨s2 _ _ upd_same, ?_⟩
    have s3 := unl TB.d s2
    have hL3 := (upd_ne Lrd (o := .dK (dcOf ys fun y => V.ref (cp y)))).trans hL2
    have hf3 : ∀ (j : Nat) (n : Str) (t c : Addr), ys[j]? = some n → ts[j]? = some t → cs[j]? = some c → upd H2 rd (.dK (dcOf ys fun y => V.ref (cp y))) t = some (.tup [.str n, .ref c]) ∧ upd H2 rd (.dK (dcOf ys fun y => V.ref (cp y))) c = some (.lst ((R n).map V.str)) := fun j n t c h1 h2 h3 => by
      obtain ⟨e1, e2⟩ := hf j n t c h1 h2 h3
      refine ⟨(upd_ne fun z => ?_).trans e1, (upd_ne (hcs c (List.mem_of_getElem? h3)).2.1).trans e2⟩
      rw [z, s2 _ _ upd_same] at e1
      cases e1
    generalize upd H2 rd (.dK (dcOf ys fun y => V.ref (cp y))) = H3 at s3 hL3 hf3 ⊢
    refine ⟨L, ts, _, rfl, SqL.of hL3, zip_paired ys ts cs lt lc fun j n t q a1 a2 a3 => (hf3 j n t q a1 a2 a3).1, fun D nD => ?_⟩
    rw [mergeK_zip lc ndy]
    have s4 := sameUp (o := .dK ((ys.zip cs).map fun p => ((Sum.inr p.1 : Key), V.ref p.2))) nD
    have hD : upd H3 D (.dK ((ys.zip cs).map fun p => ((Sum.inr p.1 : Key), V.ref p.2))) D = some (.dK ((ys.zip cs).map fun p => ((Sum.inr p.1 : Key), V.ref p.2))) := upd_same
    have s04 := s3.trans s4
    have fD : H D = none := s3.free nD
    have hc4 : ∀ (j : Nat) (n : Str) (c : Addr), ys[j]? = some n → cs[j]? = some c → upd H3 D (.dK ((ys.zip cs).map fun p => ((Sum.inr p.1 : Key), V.ref p.2))) c = some (.lst ((R n).map V.str)) := fun j n c h1 h2 => by
      obtain ⟨t, ht⟩ : ∃ t, ts[j]? = some t := ⟨_, List.getElem?_eq_getElem (by have := (List.getElem?_eq_some_iff.mp h1).1; omega)⟩
      exact s4 _ _ (hf3 j n t c h1 ht h2).2
    generalize upd H3 D (.dK ((ys.zip cs).map fun p => ((Sum.inr p.1 : Key), V.ref p.2))) = H4 at hD s04 hc4 ⊢
    obtain ⟨cp1, ecp⟩ := exists_pp (α := Addr) lc ndy
    have TB4 : Tbl H4 D ys cp1 R := by
      refine ⟨?_, fun y hy => ?_, fun x hx y hy e => ?_⟩
      · rw [hD, ecp, zip_pp]
      · obtain ⟨j, hj⟩ := List.getElem?_of_mem hy
        exact hc4 j y _ hj (by rw [ecp, List.getElem?_map, hj]; rfl)
      · rw [ecp] at ndc
        obtain ⟨i, hi⟩ := List.getElem?_of_mem hx
        obtain ⟨j, hj⟩ := List.getElem?_of_mem hy
        have := (List.getElem?_inj (l := ys.map cp1) (by rw [List.length_map]; exact (List.getElem?_eq_some_iff.mp hi).1) ndc).mp (show (ys.map cp1)[i]? = (ys.map cp1)[j]? by rw [List.getElem?_map, List.getElem?_map, hi, hj]; show some (cp1 x) = some (cp1 y); rw [e])
        subst this
        exact Option.some.inj (hi.symm.trans hj)
    have f1 : ∀ y ∈ ys, H (cp1 y) = none := fun y hy => (hcs _ (by rw [ecp]; exact List.mem_map_of_mem hy)).2.2
    clear hf hf3 hL3 hL2 s2 hcs hc4 hD hL s3 s4 nD ndc
    obtain ⟨Da, Db⟩ := S.nd fD
    have S4 := S.ext (ExtN.of s04)
    refine ⟨_, rfl, _, rfl, rd, _, rfl, .inl (s04 _ _ TB.d), fun w2 nw2 => ?_⟩
    have ek : ((dcOf ys fun y => V.ref (cp y)).map fun kv => L2.kV kv.1) = ys.map V.str := by
      unfold dcOf
      rw [List.map_map]
      rfl
    rw [ek]
    have s5 := sameUp (o := .lst (ys.map V.str)) nw2
    refine ⟨a, b, w2, B, ys.map V.str, rfl, S4.ext (ExtN.of s5), .inl (SqL.of upd_same), by rw [List.length_map]; omega, by omega, fun H5 l zs0 S5 kb5 nl hl pz0 => ⟨_, _, rfl, ?_⟩⟩
    have k05 : KeepBut a b H H5 := (KeepBut.same (s04.trans s5)).trans kb5
    have TB5 : Tbl H5 D ys cp1 R := by
      have T5 := TB4.ext (ExtN.of s5)
      exact ⟨kb5 _ _ Da Db T5.d, fun y hy => kb5 _ _ (S.nd (f1 y hy)).1 (S.nd (f1 y hy)).2 (T5.r y hy), T5.inj⟩
    obtain ⟨zs, pz, rfl⟩ := perm_strs pz0
    have fl : H l = none := (s04.trans s5).free nl
    obtain ⟨la, lb⟩ := S.nd fl
    have lD : l ≠ D := fun z => by
      rw [z] at hl
      rw [TB5.d] at hl
      cases hl
    have lcp : ∀ y ∈ ys, l ≠ cp1 y := fun y hy z => by
      have h1 := (TB4.ext (ExtN.of s5)).r y hy
      rw [← z, nl] at h1
      cases h1
    clear kb5 nl nw2 s5 S4 TB4 ek pz0
    have run0 : Ak.Run R R := Ak.Run.start SO.nd SO.sym
    have lT : ∀ {T : Str → List Str}, Ak.Run R T → ∀ z ∈ ys, (T z).length ≤ 63 := fun {T} r => (cut_ok (f := (default : Str)) r.i.toTab SO lys).l
    obtain ⟨Wv, hWv⟩ : ∃ Wv : Nat → L2.St → Hp → Prop, Wv = fun μ σ H' => ∃ (ws : List Str) (cpx : Str → Addr) (T : Str → List Str) (o4 o5 o6 o7 o8 : Option V), σ = [some (.ref a), some (.ref rd), some (.ref D), some (.ref l), o4, o5, o6, o7, o8] ∧ μ = ws.length + tsum T ys ∧ KeepBut a b H H' ∧ Stm H' a b (B + 1000) ∧ (∀ y ∈ ys, H (cpx y) = none) ∧ Tbl H' D ys cpx T ∧ Ak.Run R T ∧ H' l = some (.lst (ws.map V.str)) ∧ (∀ y ∈ ys, l ≠ cpx y) ∧ ws.Nodup ∧ (∀ z ∈ ws, z ∈ ys) ∧ ∀ z, T z ≠ [] → z ∈ ws ∨ Ak.Cl T z := ⟨_, rfl⟩
    refine ⟨Wv, ⟨_, by
      rw [hWv]
      exact ⟨zs, cp1, R, none, none, none, none, none, rfl, rfl, k05, S5, f1, TB5, run0, hl, lcp, pz.nodup_iff.mpr ndy, fun z h => pz.mem_iff.mp h, fun z h => by
        obtain ⟨y, hy⟩ := List.exists_mem_of_ne_nil _ h
        exact .inl (pz.mem_iff.mpr (SO.sub z y hy).1)⟩⟩, ?_⟩
    clear TB5 hl lcp S5 k05 pz f1 run0
    rw [hWv]
    rintro μ σ H' ⟨ws, cpx, T, o4, o5, o6, o7, o8, rfl, rfl, kA, SA, fA, TA, RT, hlA, lcA, ndw, wsy, cl⟩
    have okw : ∀ {us : List Str}, (∀ z ∈ us, z ∈ ys) → StrsOk us := fun {us} h z hz => sok z (h z hz)
    have tsub : ∀ {T : Str → List Str}, Ak.Run R T → ∀ y, ∀ z ∈ T y, z ∈ ys := fun {T} r y z hz => (SO.sub y z (r.i.mem y z hz)).2
    -- is anybody free
    refine ⟨_, rfl, (show 0 ≤ sizeLine by decide), fun e ne => ?_⟩
    have se := sameUp (o := .lst []) ne
    have he : upd H' e (.lst []) e = some (.lst []) := upd_same
    have hlE := se _ _ hlA
    have TE_ := TA.ext (ExtN.of se)
    have kE := kA.trans (KeepBut.same (a := a) (b := b) se)
    have SE := SA.ext (ExtN.of se)
    generalize upd H' e (.lst []) = HE at he hlE TE_ kE SE ⊢
    clear se ne
    refine ⟨.list (ws.map PyData.str), .list (([] : List Str).map PyData.str), .lst (SqL.of hlE) (dp_strs _), .lst (SqL.of he) (dp_strs []), shaped_strs (okw wsy), rfl, ?_⟩
    rw [eqv_strs]
    refine ⟨_, rfl, ?_⟩
    rcases List.eq_nil_or_concat ws with rfl | ⟨wi, x, rfl⟩
    · rw [show (!decide (([] : List Str) = [])) = false by simp]
      refine iteF ⟨_, rfl, k HE D cpx T SE kE ⟨TE_, RT, fun z f hf => ?_, fD, fA⟩⟩
      rcases cl z (fun w => by rw [w] at hf; cases hf) with q | q
      · cases q
      · exact q f hf
    rw [List.concat_eq_append] at hlE ndw wsy cl ⊢
    rw [show (!decide (wi ++ [x] = [])) = true by simp]
    refine iteT ⟨fun σ' H'' => ∃ m', m' < (wi ++ [x]).length + tsum T ys ∧ Wv m' σ' H'', fun _ _ h => by rw [hWv] at h; exact h, ?_⟩
    have hx := wsy x (by simp)
    have lwi : (wi ++ [x]).length = wi.length + 1 := by rw [List.length_append]; rfl
    have ndwi : wi.Nodup := (List.nodup_append.mp ndw).1
    refine ⟨_, rfl, .inl ⟨rfl, _, SqL.of hlE⟩, l, _, .str x, rfl, rfl, hlE, by simp, ?_⟩
    have edr : (List.map V.str (wi ++ [x])).dropLast = wi.map V.str := by simp
    rw [edr]
    have hlF : upd HE l (.lst (wi.map V.str)) l = some (.lst (wi.map V.str)) := upd_same
    have TF : Tbl (upd HE l (.lst (wi.map V.str))) D ys cpx T := ⟨(upd_ne lD.symm).trans TE_.d, fun y hy => (upd_ne (lcA y hy).symm).trans (TE_.r y hy), TE_.inj⟩
    have kF : KeepBut a b H (upd HE l (.lst (wi.map V.str))) := kE.un fl
    have SF : Stm (upd HE l (.lst (wi.map V.str))) a b (B + 1000) := SE.set la lb
    generalize upd HE l (.lst (wi.map V.str)) = HF at hlF TF kF SF ⊢
    -- has it anybody to ask
    refine ⟨_, rfl, _, rfl, D, .ref (cpx x), rfl, TF.get ndy hx, (show 0 ≤ sizeLine by decide), fun e2 ne2 => ?_⟩
    have se2 := sameUp (o := .lst []) ne2
    have he2 : upd HF e2 (.lst []) e2 = some (.lst []) := upd_same
    have hlG := se2 _ _ hlF
    have TG := TF.ext (ExtN.of se2)
    have kG := kF.trans (KeepBut.same (a := a) (b := b) se2)
    have SG := SF.ext (ExtN.of se2)
    generalize upd HF e2 (.lst []) = HG at he2 hlG TG kG SG ⊢
    clear se2 ne2 TF kF SF hlF TE_ kE SE hlE he
    refine ⟨.list ((T x).map PyData.str), .list (([] : List Str).map PyData.str), .lst (SqL.of (TG.r x hx)) (dp_strs _), .lst (SqL.of he2) (dp_strs []), shaped_strs (okw fun z hz => tsub RT x z hz), rfl, ?_⟩
    rw [eqv_strs]
    refine ⟨_, rfl, ?_⟩
    cases eT : T x with
    | nil =>
      rw [show (!decide (([] : List Str) = [])) = false by simp]
      refine iteF ⟨wi.length + tsum T ys, by omega, ?_⟩
      rw [hWv]
      refine ⟨wi, cpx, T, _, _, _, _, _, rfl, rfl, kG, SG, fA, TG, RT, hlG, lcA, ndwi, fun z hz => wsy z (List.mem_append_left _ hz), fun z hz => ?_⟩
      rcases cl z hz with q | q
      · rcases List.mem_append.mp q with q | q
        · exact .inl q
        · rw [List.mem_singleton.mp q] at hz
          exact absurd eT hz
      · exact .inr q
    | cons f r =>
      rw [show (!decide (f :: r = [])) = true by simp]
      refine iteT ?_
      have hh : (T x).head? = some f := by rw [eT]; rfl
      have fx : f ∈ T x := Ak.head_mem hh
      have xf := RT.i.sym x f fx
      have hfy := (SO.sub x f (RT.i.mem x f fx)).2
      have nfx : f ≠ x := fun z => SO.ir x (by have := RT.i.mem x f fx; rw [z] at this; exact this)
      have at0 : atI ((T x).map V.str) 0 = some (.str f) := atI_nat (j := 0) (by rw [eT]; rfl)
      have CO : CutOk ys T f := cut_ok RT.i.toTab SO lys
      refine ⟨_, rfl, _, rfl, D, .ref (cpx x), rfl, TG.get ndy hx, cpx x, _, _, _, rfl, rfl, SqL.of (TG.r x hx), at0, ?_⟩
      obtain ⟨k0, ek0⟩ : ∃ k0, k0 = (T f).idxOf x + 1 := ⟨_, rfl⟩
      refine ⟨_, rfl, _, rfl, D, .ref (cpx f), rfl, TG.get ndy hfy, _, rfl, _, rfl, D, .ref (cpx f), rfl, TG.get ndy hfy, .inl ⟨rfl, _, SqL.of (TG.r f hfy)⟩, _, rfl, ?_⟩
      delta tNil
      dsimp only
      refine idxS_of (TG.r f hfy) xf ?_
      have ec : (((T f).idxOf x : Nat) : Int) + 1 = ((k0 : Nat) : Int) := by rw [ek0]; push_cast; rfl
      refine ⟨_, _, rfl, rfl, _, rfl, cpx f, _, rfl, SqL.of (TG.r f hfy), fun g ng => ?_⟩
      rw [ec]
      have eg : cutV ((T f).map V.str) (some (k0 : Int)) none = ((T f).drop k0).map V.str := by
        rw [cut_fromN, List.map_drop]
      rw [eg]
      have sg := sameUp (o := .lst (((T f).drop k0).map V.str)) ng
      have hg : upd HG g (.lst (((T f).drop k0).map V.str)) g = some (.lst (((T f).drop k0).map V.str)) := upd_same
      have TI := TG.ext (ExtN.of sg)
      have hlI := sg _ _ hlG
      have kI := kG.trans (KeepBut.same (a := a) (b := b) sg)
      have SI := SG.ext (ExtN.of sg)
      have gD : g ≠ D := (ne_of_none TG.d ng).symm
      have gc : ∀ y ∈ ys, g ≠ cpx y := fun y hy => (ne_of_none (TG.r y hy) ng).symm
      have gl : g ≠ l := (ne_of_none hlG ng).symm
      have fg : H g = none := kb_free kG SG.na.1 SG.na.2 ng
      generalize upd HG g (.lst (((T f).drop k0).map V.str)) = HI at hg TI hlI kI SI ⊢
      clear sg ng TG hlG kG SG he2
      -- the first one's row, cut
      refine ⟨_, rfl, _, rfl, D, .ref (cpx f), rfl, TI.get ndy hfy, _, rfl, _, rfl, D, .ref (cpx f), rfl, TI.get ndy hfy, .inl ⟨rfl, _, SqL.of (TI.r f hfy)⟩, _, rfl, ?_⟩
      dsimp only
      refine idxS_of (TI.r f hfy) xf ?_
      refine ⟨_, _, rfl, rfl, _, rfl, cpx f, _, rfl, SqL.of (TI.r f hfy), fun m nm => ?_⟩
      rw [ec]
      have em : cutV ((T f).map V.str) none (some (k0 : Int)) = ((T f).take k0).map V.str := by
        rw [cut_toN, List.map_take]
      rw [em]
      have sm := sameUp (o := .lst (((T f).take k0).map V.str)) nm
      have hm : upd HI m (.lst (((T f).take k0).map V.str)) m = some (.lst (((T f).take k0).map V.str)) := upd_same
      have TJ := TI.ext (ExtN.of sm)
      have hlJ := sm _ _ hlI
      have hgJ := sm _ _ hg
      have kJ := kI.trans (KeepBut.same (a := a) (b := b) sm)
      have SJ := SI.ext (ExtN.of sm)
      have mD : m ≠ D := (ne_of_none TI.d nm).symm
      have mc : ∀ y ∈ ys, m ≠ cpx y := fun y hy => (ne_of_none (TI.r y hy) nm).symm
      have ml : m ≠ l := (ne_of_none hlI nm).symm
      have mg_ : m ≠ g := (ne_of_none hg nm).symm
      have fm : H m = none := kb_free kI SI.na.1 SI.na.2 nm
      generalize upd HI m (.lst (((T f).take k0).map V.str)) = HJ at hm TJ hlJ hgJ kJ SJ ⊢
      clear sm nm TI hlI kI SI hg
      refine ⟨_, rfl, _, rfl, D, _, rfl, DPut.k (k := Sum.inr f) TJ.d (by rw [dcOf_len]; exact small1000 (by omega)), ?_⟩
      rw [put_same (g := fun y => V.ref (cpx y)) hfy]
      obtain ⟨cpn, ecpn⟩ : ∃ cpn : Str → Addr, cpn = fun y => if y = f then m else cpx y := ⟨_, rfl⟩
      have e6 : (dcOf ys fun y => if y = f then V.ref m else V.ref (cpx y)) = dcOf ys fun y => V.ref (cpn y) := by
        rw [ecpn]
        unfold dcOf
        refine List.map_congr_left fun y _ => ?_
        show ((Sum.inr y : Key), (if y = f then V.ref m else V.ref (cpx y))) = ((Sum.inr y : Key), V.ref (if y = f then m else cpx y))
        by_cases c : y = f
        · rw [if_pos c, if_pos c]
        · rw [if_neg c, if_neg c]
      rw [e6]
      have cpf : cpn f = m := by rw [ecpn]; exact if_pos rfl
      have cpo : ∀ {y}, y ≠ f → cpn y = cpx y := fun {y} n => by rw [ecpn]; exact if_neg n
      have hgK := (upd_ne gD (o := .dK (dcOf ys fun y => .ref (cpn y)))).trans hgJ
      have hlK := (upd_ne lD (o := .dK (dcOf ys fun y => .ref (cpn y)))).trans hlJ
      have kK : KeepBut a b H (upd HJ D (.dK (dcOf ys fun y => .ref (cpn y)))) := kJ.un fD
      have SK : Stm (upd HJ D (.dK (dcOf ys fun y => .ref (cpn y)))) a b (B + 1000) := SJ.set Da Db
      have TK : Tbl (upd HJ D (.dK (dcOf ys fun y => .ref (cpn y)))) D ys cpn (fun y => if y = f then (T f).take k0 else T y) := by
        refine ⟨upd_same, fun y hy => ?_, fun y hy z hz e => ?_⟩
        · by_cases c : y = f
          · rw [if_pos c, c, cpf, upd_ne mD]
            exact hm
          · rw [if_neg c, cpo c, upd_ne fun w => by have := TJ.r y hy; rw [w, TJ.d] at this; cases this]
            exact TJ.r y hy
        · by_cases c1 : y = f
          · by_cases c2 : z = f
            · rw [c1, c2]
            · rw [c1, cpf, cpo c2] at e
              exact absurd e (mc z hz)
          · by_cases c2 : z = f
            · rw [c2, cpf, cpo c1] at e
              exact absurd e.symm (mc y hy)
            · rw [cpo c1, cpo c2] at e
              exact TJ.inj y hy z hz e
      have fn : ∀ y ∈ ys, H (cpn y) = none := fun y hy => by
        by_cases c : y = f
        · rw [c, cpf]
          exact fm
        · rw [cpo c]
          exact fA y hy
      have gcn : ∀ y ∈ ys, g ≠ cpn y := fun y hy => by
        by_cases c : y = f
        · rw [c, cpf]
          exact mg_.symm
        · rw [cpo c]
          exact gc y hy
      have lcn : ∀ y ∈ ys, l ≠ cpn y := fun y hy => by
        by_cases c : y = f
        · rw [c, cpf]
          exact ml.symm
        · rw [cpo c]
          exact lcA y hy
      generalize upd HJ D (.dK (dcOf ys fun y => .ref (cpn y))) = HK at hgK hlK kK SK TK ⊢
      clear hm TJ hlJ hgJ kJ SJ e6
      have ndd : ((T f).drop k0).Nodup := CO.nd.sublist (List.drop_sublist _ _)
      have ldd : ((T f).drop k0).length ≤ 63 := by have := CO.l f hfy; rw [List.length_drop]; omega
      refine ⟨_, rfl, g, rfl, ⟨_, SqL.of hgK⟩, ?_⟩
      have tT : tsum (cutK T f k0) ys + ((T f).drop k0).length ≤ tsum T ys := tsum_cut (fun y _ => cutK_len y) hfy (by
        have : cutK T f k0 f = (T f).take k0 := if_pos rfl
        rw [this, List.length_drop, List.length_take]
        omega)
      have ecut : cutK T f k0 = Ak.cut R T x f := funext fun y => by rw [ek0]; exact cutK_is RT.i.toTab SO xf y
      refine for_it (walk_list (xs := ((T f).drop k0).map V.str)) (fun i σ H2 => ∃ (ws : List Str) (o7 o8 : Option V), σ = [some (.ref a), some (.ref rd), some (.ref D), some (.ref l), some (.str x), some (.str f), some (.ref g), o7, o8] ∧ KeepBut a b H H2 ∧ Stm H2 a b (B + 1000) ∧ Tbl H2 D ys cpn (fun y => if y = f then (T f).take k0 else if y ∈ ((T f).drop k0).take i then (T y).erase f else T y) ∧ H2 g = some (.lst (((T f).drop k0).map V.str)) ∧ H2 l = some (.lst (ws.map V.str)) ∧ ws.Nodup ∧ (∀ z ∈ ws, z ∈ ys) ∧ (∀ z ∈ wi, z ∈ ws) ∧ ws.length ≤ wi.length + i ∧ ∀ z ∈ ((T f).drop k0).take i, (T z).head? = some f → z ∈ ws) ⟨wi, _, _, rfl, kK, SK, ?_, hgK, hlK, ndwi, fun z hz => wsy z (List.mem_append_left _ hz), fun z hz => hz, Nat.le_refl _, fun z hz => by simp at hz⟩ (fun i σ H2 _ h => SqL.of (by obtain ⟨_, _, _, _, _, _, _, h, _⟩ := h; exact h)) ?_ ?_
      · refine ⟨TK.d, fun y hy => ?_, TK.inj⟩
        rw [TK.r y hy]
        by_cases c : y = f
        · rw [if_pos c, if_pos c]
        · rw [if_neg c, if_neg c, if_neg (by simp)]
      · rintro i v σ H2 H3 hi ⟨ws2, o7, o8, rfl, k2, S2, TB2, hg2, hl2, nd2, sub2, wi2, le2, pr2⟩ ⟨rfl, hv⟩
        rw [List.getElem?_map] at hv
        obtain ⟨z, hz, rfl⟩ := Option.map_eq_some_iff.mp hv
        have hzd := List.mem_of_getElem? hz
        have hzT := List.mem_of_mem_drop hzd
        obtain ⟨hzy, pz⟩ := CO.sym z hzT
        have nz : z ∉ ((T f).drop k0).take i := not_take ndd hz
        have nzf : z ≠ f := fun w => CO.ir (w ▸ hzT)
        have et : ((T f).drop k0).take (i + 1) = ((T f).drop k0).take i ++ [z] := by
          rw [List.take_add_one, hz]
          rfl
        have hcz := TB2.r z hzy
        rw [if_neg nzf, if_neg nz] at hcz
        obtain ⟨u, us, eu⟩ : ∃ u us, T z = u :: us := by
          cases e : T z with
          | nil => rw [e] at pz; cases pz
          | cons u us => exact ⟨u, us, rfl⟩
        have hu0 : atI ((T z).map V.str) 0 = some (.str u) := atI_nat (j := 0) (by rw [eu]; rfl)
        refine ⟨_, rfl, _, rfl, D, .ref (cpn z), rfl, TB2.get ndy hzy, cpn z, _, _, _, rfl, rfl, SqL.of hcz, hu0, ?_⟩
        refine ⟨_, rfl, _, rfl, D, .ref (cpn z), rfl, TB2.get ndy hzy, .inl ⟨rfl, _, SqL.of hcz⟩, _, rfl, cpn z, T z, f, rfl, rfl, hcz, pz, ?_⟩
        have zD : cpn z ≠ D := fun w => by
          rw [w, TB2.d] at hcz
          cases hcz
        have TB3 : Tbl (upd H3 (cpn z) (.lst (((T z).erase f).map V.str))) D ys cpn (fun y => if y = f then (T f).take k0 else if y ∈ ((T f).drop k0).take (i + 1) then (T y).erase f else T y) := by
          refine ⟨(upd_ne zD.symm).trans TB2.d, fun y hy => ?_, TB2.inj⟩
          rw [et]
          by_cases c : y = z
          · rw [c, if_neg nzf, if_pos (by simp), upd_same]
          · rw [upd_ne fun w => c (TB2.inj y hy z hzy w), TB2.r y hy]
            by_cases cf : y = f
            · rw [if_pos cf, if_pos cf]
            · rw [if_neg cf, if_neg cf]
              by_cases d : y ∈ ((T f).drop k0).take i
              · rw [if_pos d, if_pos (List.mem_append_left _ d)]
              · rw [if_neg d, if_neg fun w => (List.mem_append.mp w).elim d fun w => c (List.mem_singleton.mp w)]
        have hg3 := (upd_ne (gcn z hzy) (o := .lst (((T z).erase f).map V.str))).trans hg2
        have hl3 := (upd_ne (lcn z hzy) (o := .lst (((T z).erase f).map V.str))).trans hl2
        obtain ⟨za, zb⟩ := S.nd (fn z hzy)
        have k3 : KeepBut a b H (upd H3 (cpn z) (.lst (((T z).erase f).map V.str))) := k2.un (fn z hzy)
        have S3 : Stm (upd H3 (cpn z) (.lst (((T z).erase f).map V.str))) a b (B + 1000) := S2.set za zb
        generalize upd H3 (cpn z) (.lst (((T z).erase f).map V.str)) = H4 at TB3 hg3 hl3 k3 S3 ⊢
        refine ⟨_, rfl, .inl ⟨rfl, _, SqL.of hl3⟩, _, rfl, _, rfl, (rfl : scal (V.str u) (V.str f) = true), ?_⟩
        have hfz : (T z).head? = some u := by rw [eu]; rfl
        have lw2 : ws2.length ≤ 63 := Nat.le_trans (pigeon nd2 sub2) lys
        have fin : ∀ (e : Addr) (add : List Str), H4 e = none → (add = [] ∨ (add = [z] ∧ z ∉ ws2)) → (u = f → z ∈ ws2 ++ add) → _root_.L2.rExtend (.ref l) [.ref e] (upd H4 e (.lst (add.map V.str))) fun _ H5 => ∃ (ws : List Str) (o7 o8 : Option V), [some (V.ref a), some (.ref rd), some (.ref D), some (.ref l), some (.str x), some (.str f), some (.ref g), some (.str z), some (.str u)] = [some (V.ref a), some (.ref rd), some (.ref D), some (.ref l), some (.str x), some (.str f), some (.ref g), o7, o8] ∧ KeepBut a b H H5 ∧ Stm H5 a b (B + 1000) ∧ Tbl H5 D ys cpn (fun y => if y = f then (T f).take k0 else if y ∈ ((T f).drop k0).take (i + 1) then (T y).erase f else T y) ∧ H5 g = some (.lst (((T f).drop k0).map V.str)) ∧ H5 l = some (.lst (ws.map V.str)) ∧ ws.Nodup ∧ (∀ z ∈ ws, z ∈ ys) ∧ (∀ z ∈ wi, z ∈ ws) ∧ ws.length ≤ wi.length + (i + 1) ∧ ∀ z ∈ ((T f).drop k0).take (i + 1), (T z).head? = some f → z ∈ ws := by
          intro e add ne ha hm
          have se := sameUp (o := .lst (add.map V.str)) ne
          have he : upd H4 e (.lst (add.map V.str)) e = some (.lst (add.map V.str)) := upd_same
          have TB5 := TB3.ext (ExtN.of se)
          have hg5 := se _ _ hg3
          have hl5 := se _ _ hl3
          have k5 := k3.trans (KeepBut.same (a := a) (b := b) se)
          have S5 := S3.ext (ExtN.of se)
          have le := ne_of_none hl3 ne
          generalize upd H4 e (.lst (add.map V.str)) = H6 at he TB5 hg5 hl5 k5 S5 ⊢
          have la1 : add.length ≤ 1 := by
            rcases ha with q | ⟨q, _⟩
            · rw [q]; exact Nat.zero_le _
            · rw [q]; exact Nat.le_refl _
          refine ⟨l, e, _, _, rfl, rfl, hl5, he, Nat.le_trans (show (ws2.map V.str).length + (add.map V.str).length ≤ 9000 by rw [List.length_map, List.length_map]; omega) (by decide), ?_⟩
          rw [← List.map_append]
          refine ⟨ws2 ++ add, _, _, rfl, k5.un fl, S5.set la lb, ⟨(upd_ne lD.symm).trans TB5.d, fun y hy => (upd_ne (lcn y hy).symm).trans (TB5.r y hy), TB5.inj⟩, (upd_ne gl).trans hg5, upd_same, ?_, fun y hy => ?_, fun y hy => List.mem_append_left _ (wi2 y hy), by rw [List.length_append]; omega, fun y hy h1 => ?_⟩
          · rcases ha with q | ⟨q, q2⟩
            · rw [q, List.append_nil]
              exact nd2
            · rw [q]
              exact List.nodup_append.mpr ⟨nd2, by simp, fun v h1 w h2 e => q2 (by rw [← List.mem_singleton.mp h2, ← e]; exact h1)⟩
          · rcases List.mem_append.mp hy with h | h
            · exact sub2 y h
            · rcases ha with q | ⟨q, q2⟩
              · rw [q] at h
                cases h
              · rw [q] at h
                rw [List.mem_singleton.mp h]
                exact hzy
          · rw [et] at hy
            rcases List.mem_append.mp hy with h | h
            · exact List.mem_append_left _ (pr2 y h h1)
            · rw [List.mem_singleton.mp h] at h1 ⊢
              rw [hfz] at h1
              exact hm (Option.some.inj h1)
        have eqd : decide (V.str u = V.str f) = decide (u = f) := decide_eq_decide.mpr ⟨fun h => V.str.inj h, fun h => congrArg V.str h⟩
        rw [eqd]
        by_cases c : u = f
        · rw [decide_eq_true c]
          refine ⟨true, rfl, iteT ⟨_, rfl, _, rfl, l, _, rfl, .inl (SqL.of hl3), rfl, flat_strs _, ?_⟩⟩
          show ∃ k, V.bl (!inV (V.str z) (ws2.map V.str)) = V.bl k ∧ _
          rw [inV_strs]
          by_cases d : z ∈ ws2
          · rw [decide_eq_true d]
            refine ⟨false, rfl, iteF ⟨(show 0 ≤ sizeLine by decide), fun e ne => ?_⟩⟩
            exact fin e [] ne (.inl rfl) fun _ => List.mem_append_left _ d
          · rw [decide_eq_false d]
            refine ⟨true, rfl, iteT ⟨_, rfl, (show 1 ≤ sizeLine by decide), fun e ne => ?_⟩⟩
            exact fin e [z] ne (.inr ⟨rfl, d⟩) fun _ => List.mem_append_right _ List.mem_cons_self
        · rw [decide_eq_false c]
          refine ⟨false, rfl, iteF (iteF ⟨(show 0 ≤ sizeLine by decide), fun e ne => ?_⟩)⟩
          exact fin e [] ne (.inl rfl) fun h => absurd h c
      rintro σ H2 ⟨ws2, o7, o8, rfl, k2, S2, TB2, hg2, hl2, nd2, sub2, wi2, le2, pr2⟩
      rw [List.length_map] at le2
      rw [List.length_map, List.take_length] at pr2 TB2
      refine ⟨ws2.length + tsum (cutK T f k0) ys, by omega, ?_⟩
      rw [hWv]
      refine ⟨ws2, cpn, cutK T f k0, _, _, _, _, _, rfl, rfl, k2, S2, fn, TB2, ?_, hl2, lcn, nd2, sub2, ?_⟩
      · rw [ecut]
        exact RT.cut SO.ir hh
      · rw [ecut]
        exact RT.i.closed hh (A := fun z => z ∈ wi) (A' := fun z => z ∈ ws2) (fun z hz => by
          rcases cl z hz with q | q
          · rcases List.mem_append.mp q with q | q
            · exact .inl q
            · exact .inr (.inl (List.mem_singleton.mp q))
          · exact .inr (.inr q)) (fun z hz => wi2 z hz) fun z h1 h2 h3 => pr2 z (by rw [ek0]; exact (struck_is RT.i.toTab xf z).mpr ⟨h1, h2⟩) h3
end
end Mn
/-! _law_each_once -/
namespace Mn
open PySem PySem.Spec PyProof.Rows L2 Md Me Ml LamX Mi Mo
abbrev sEo : Stmt := top 59
theorem scEo : FnScope ["_law_things", "_law_found", "_law_thing"] ["_law_things"] (defScope sEo) := ⟨rfl, rfl, rfl, by decide +kernel, rfl, by decide +kernel, by decide +kernel⟩
def spEo : Sp := fun vs H Q _ => ∃ (p : Addr) (xs : List Str), vs = [.ref p] ∧ H p = some (.lst (xs.map V.str)) ∧ xs.length ≤ 1000 ∧ ∀ (H' : Hp) (q : Addr) (zs : List Str), Same H H' → H q = none → zs.Nodup → (∀ x, x ∈ zs ↔ x ∈ xs) → H' q = some (.lst (zs.map V.str)) → Q (.ref q) H'
section
variable {P : Program} {w : World} {K : PySem.W.Frag} {mg : Str → Option Value} {base : Heap}
theorem ok_eo {f : Addr} {fd : FuncData} (F : Fun K "_law_each_once" "_law_each_once" sEo f fd) : FnOk P w K mg base CX0 1 f fd ["_law_things"] spEo := by
  refine F.ok scEo (fun vs H Q E h => ?_) (fun cdv A outer s H vs Q E hr h => ?_)
  · obtain ⟨p, xs, rfl, _⟩ := h
    rfl
  · obtain ⟨p, xs, rfl, hp, hl, k⟩ := h
    have nd := scEo.nd
    refine ⟨_, pss_cons (ps_set (i := 1) nd rfl (Or.inl rfl) (pe_lst pa_nil))
      (pss_cons (ps_for PassesOwn.never rfl (pi_list (pv 0)) (pg_name (i := 2) nd rfl (Or.inl rfl)) (pss_one (ps_if (pt_cmpR op_notIn_seq (pv 2) (pv 1) (by with_unfolding_all rfl)) (pss_one (ps_expr (pe_bm PySem.F.plainAttrs_list PySem.F.slot_list_append PySem.F.type_list_append mt_append (pv 1) (pa_cons (pv 2) pa_nil)))) pss_nil)))
      (pss_one (ps_ret (pv 1)))), ?_⟩
    refine ⟨(show 0 ≤ sizeLine by decide), fun q nq => ⟨_, rfl, p, rfl, ⟨_, SqL.of (sameUp nq _ _ hp)⟩, ?_⟩⟩
    refine for_it (walk_list (xs := xs.map V.str)) (fun i σ H' => ∃ (o2 : Option V) (zs : List Str), σ = [some (.ref p), some (.ref q), o2] ∧ Same H H' ∧ H' q = some (.lst (zs.map V.str)) ∧ zs.Nodup ∧ zs.length ≤ i ∧ ∀ x, x ∈ zs ↔ x ∈ xs.take i) ⟨none, [], rfl, sameUp nq, upd_same, .nil, Nat.le_refl _, by simp⟩ (fun i σ H' _ ⟨_, _, _, s, _⟩ => SqL.of (s _ _ hp)) ?_ ?_
    · rintro i v σ H1 H2 hi ⟨o2, zs, rfl, s1, hq, ndz, lz, mz⟩ ⟨rfl, hv⟩
      rw [List.getElem?_map] at hv
      obtain ⟨x, hx, rfl⟩ := Option.map_eq_some_iff.mp hv
      have nx : ∀ y, y ∈ xs.take (i + 1) ↔ y ∈ xs.take i ∨ y = x := fun y => by
        rw [List.take_add_one, hx, Option.toList_some, List.mem_append, List.mem_singleton]
      refine ⟨_, rfl, _, rfl, q, _, rfl, .inl (SqL.of hq), rfl, flat_strs _, ?_⟩
      show ∃ k, V.bl (!inV (V.str x) (zs.map V.str)) = V.bl k ∧ _
      rw [inV_strs]
      by_cases c : x ∈ zs
      · rw [decide_eq_true c]
        refine ⟨_, rfl, iteF ⟨_, zs, rfl, s1, hq, ndz, by omega, fun y => ?_⟩⟩
        rw [nx, ← mz]
        exact ⟨fun h => .inl h, fun h => h.elim id fun e => e ▸ c⟩
      · rw [decide_eq_false c]
        have lzz : zs.length ≤ 1000 := by
          rw [List.length_map] at hi
          omega
        refine ⟨_, rfl, iteT ⟨_, rfl, .inl ⟨rfl, _, SqL.of hq⟩, _, rfl, q, _, _, rfl, rfl, hq, small1000 (by rw [List.length_map]; exact lzz), _, zs ++ [x], rfl, fun b o e => ?_, ?_, ?_, ?_, fun y => ?_⟩⟩
        · rw [upd_ne (ne_of_none e nq)]
          exact s1 _ _ e
        · rw [upd_same, List.map_append]
          rfl
        · rw [List.nodup_append]
          exact ⟨ndz, by simp, fun a h1 b h2 e => c (by rw [← List.mem_singleton.mp h2, ← e]; exact h1)⟩
        · rw [List.length_append]
          show zs.length + 1 ≤ i + 1
          omega
        · rw [nx, List.mem_append, List.mem_singleton, mz]
    · rintro σ H1 ⟨o2, zs, rfl, s1, hq, ndz, lz, mz⟩
      rw [List.length_map, List.take_length] at mz
      exact ⟨_, rfl, k H1 q zs s1 nq ndz mz hq⟩
end
end Mn
/-! max of texts; planted rows while they are written -/
namespace Mn
open PySem PySem.Spec PyProof.Rows L2 Md Me Ml LamX Mi Mo
def rMaxS (K : PySem.W.Frag) : List V → Hp → VK → Prop := fun vs H Q => ∃ (a : Addr) (xs : List Str), vs = [V.ref a] ∧ SqL K H a (xs.map V.str) ∧ xs ≠ [] ∧ ∀ m, m ∈ xs → Q (.str m) H
theorem maxD_strs : ∀ (xs : List Str) (x : Str), ∃ m, PySem.W.maxD (PyData.str x) (xs.map PyData.str) = .str m ∧ m ∈ x :: xs
  | [], x => ⟨x, rfl, by simp⟩
  | y :: xs, x => by
    obtain ⟨z, hz, hzx⟩ : ∃ z : Str, (if PySem.W.dataLt (PyData.str x) (PyData.str y) = true then PyData.str y else PyData.str x) = PyData.str z ∧ (z = y ∨ z = x) := by
      by_cases c : PySem.W.dataLt (PyData.str x) (PyData.str y) = true
      · exact ⟨y, if_pos c, .inl rfl⟩
      · exact ⟨x, if_neg c, .inr rfl⟩
    obtain ⟨m, e, hm⟩ := maxD_strs xs z
    refine ⟨m, ?_, ?_⟩
    · show ((y :: xs).map PyData.str).foldl _ (PyData.str x) = _
      rw [List.map_cons, List.foldl_cons, hz]
      exact e
    · rcases List.mem_cons.mp hm with rfl | hm
      · rcases hzx with e | e
        · rw [e]
          simp
        · rw [e]
          simp
      · simp [hm]
section
variable {X : Cx}
theorem cr_maxS (hc : X.calm = true) (hu : X.A.units + 64 < cLine) : CallR X (.builtin "max") (rMaxS X.K) := by
  intro pins s σ H vs us Q I r h
  obtain ⟨a, xs, rfl, hs, hne, q⟩ := h
  obtain ⟨its, rv, hl, _⟩ := I.list hs
  rw [Vals.ref1 r]
  obtain ⟨x, xs', rfl⟩ : ∃ x xs', xs = x :: xs' := by
    cases xs with
    | nil => exact absurd rfl hne
    | cons x r => exact ⟨x, r, rfl⟩
  obtain ⟨as, ra⟩ := readsAll_strs (h := s.heap) rv
  have hd := depth_strs (ns := x :: xs')
  refine PySem.W.max_list_data (x := .str x) (xs := xs'.map PyData.str) (I.ok.hd hc) hl.isList ra ⟨fun d hd e he => ?_, fun d hd => ?_⟩ (by
    have : PyData.depthAll (PyData.str x :: xs'.map PyData.str) ≤ 1 := hd
    show X.A.units + 1 + _ < cLine
    omega) fun i v h' tk bs hv hr hk => ?_
  · obtain ⟨u, _, rfl⟩ := List.mem_map.mp (show d ∈ (x :: xs').map PyData.str from hd)
    obtain ⟨v, _, rfl⟩ := List.mem_map.mp (show e ∈ (x :: xs').map PyData.str from he)
    rfl
  · obtain ⟨u, _, rfl⟩ := List.mem_map.mp (show d ∈ (x :: xs').map PyData.str from hd)
    exact fun z => by cases z
  · obtain ⟨m, e, h1⟩ := maxD_strs xs' x
    rw [e] at hr
    cases hr
    exact ⟨.str m, H, I.kept hk, ⟨_, rfl⟩, q m h1⟩
end
/-- planted rows, rings and pairs so far -/
structure Pln (a b : Addr) (H H' : Hp) (D RL PL : Addr) (ns : List Str) (cp : Str → Addr) (T : Str → List Str) (rs ps : List Addr) : Prop where
  k : KeepBut a b H H'
  t : Tbl H' D ns cp T
  g : GoodRows ns T
  f : ∀ y ∈ ns, H (cp y) = none ∧ cp y ≠ RL ∧ cp y ≠ PL
  rl : H' RL = some (.lst (rs.map V.ref))
  pl : H' PL = some (.lst (ps.map V.ref))
  r : ∀ q ∈ rs, H q = none ∧ q ≠ RL ∧ q ≠ PL ∧ ∃ xs : List Str, H' q = some (.lst (xs.map V.str))
  p : ∀ q ∈ ps, H q = none ∧ ∃ x y : Str, H' q = some (.tup [.str x, .str y])
  fD : H D = none
  fR : H RL = none
  fP : H PL = none
  rp : RL ≠ PL
section
variable {a b : Addr} {H H' H'' : Hp} {B : Nat} {D RL PL : Addr} {ns : List Str} {cp : Str → Addr} {T : Str → List Str} {rs ps : List Addr}
theorem Pln.kb (S : Stm H a b B) (P : Pln a b H H' D RL PL ns cp T rs ps) (k : KeepBut a b H' H'') : Pln a b H H'' D RL PL ns cp T rs ps := by
  have nn : ∀ {c : Addr} {o : HO}, H c = none → H' c = some o → H'' c = some o := fun {c o} h e => k c o (S.nd h).1 (S.nd h).2 e
  exact ⟨P.k.trans k, ⟨nn P.fD P.t.d, fun y hy => nn (P.f y hy).1 (P.t.r y hy), P.t.inj⟩, P.g, P.f, nn P.fR P.rl, nn P.fP P.pl, fun q hq => by
    obtain ⟨h1, h2, h3, xs, h4⟩ := P.r q hq
    exact ⟨h1, h2, h3, xs, nn h1 h4⟩, fun q hq => by
    obtain ⟨h1, x, y, h4⟩ := P.p q hq
    exact ⟨h1, x, y, nn h1 h4⟩, P.fD, P.fR, P.fP, P.rp⟩
theorem Pln.same (S : Stm H a b B) (P : Pln a b H H' D RL PL ns cp T rs ps) (s : Same H' H'') : Pln a b H H'' D RL PL ns cp T rs ps := P.kb S (KeepBut.same s)
theorem Pln.dr (P : Pln a b H H' D RL PL ns cp T rs ps) : D ≠ RL ∧ D ≠ PL :=
  ⟨fun z => (by have := P.t.d; rw [z, P.rl] at this; cases this), fun z => (by have := P.t.d; rw [z, P.pl] at this; cases this)⟩
theorem Pln.dc (P : Pln a b H H' D RL PL ns cp T rs ps) {q : Addr} {xs : List V} (h : H' q = some (.lst xs)) : q ≠ D := fun z => by rw [z, P.t.d] at h; cases h
/-- somebody's row is written anew -/
theorem Pln.row (P : Pln a b H H' D RL PL ns cp T rs ps) (S : ∃ B, Stm H' a b B) {f : Str} {m : Addr} {zs : List Str} (hf : f ∈ ns) (hm : H' m = some (.lst (zs.map V.str))) (fm : H m = none) (mR : m ≠ RL) (mP : m ≠ PL) (mc : ∀ y ∈ ns, m ≠ cp y) (g : GoodRow ns f zs) :
    ∃ cp' : Str → Addr, (L2.putK (dcOf ns fun y => V.ref (cp y)) (Sum.inr f) (.ref m)) = (dcOf ns fun y => V.ref (cp' y)) ∧ Pln a b H (upd H' D (.dK (dcOf ns fun y => V.ref (cp' y)))) D RL PL ns cp' (fun y => if y = f then zs else T y) rs ps := by
  refine ⟨fun y => if y = f then m else cp y, ?_, ?_⟩
  · rw [put_same (g := fun y => V.ref (cp y)) hf]
    unfold dcOf
    refine List.map_congr_left fun y _ => ?_
    show ((Sum.inr y : Key), (if y = f then V.ref m else V.ref (cp y))) = ((Sum.inr y : Key), V.ref (if y = f then m else cp y))
    by_cases c : y = f
    · rw [if_pos c, if_pos c]
    · rw [if_neg c, if_neg c]
  · have up : ∀ {q : Addr} {xs : List V}, H' q = some (.lst xs) → (upd H' D (.dK (dcOf ns fun y => V.ref (if y = f then m else cp y)))) q = some (.lst xs) := fun {q xs} h => (upd_ne (P.dc h)).trans h
    refine ⟨P.k.un P.fD, ⟨upd_same, fun y hy => ?_, fun y hy z hz e => ?_⟩, fun y hy => ?_, fun y hy => ?_, up P.rl, up P.pl, fun q hq => ?_, fun q hq => ?_, P.fD, P.fR, P.fP, P.rp⟩
    · by_cases c : y = f
      · rw [if_pos c, if_pos c]
        exact up hm
      · rw [if_neg c, if_neg c]
        exact up (P.t.r y hy)
    · by_cases c1 : y = f
      · by_cases c2 : z = f
        · rw [c1, c2]
        · rw [if_pos c1, if_neg c2] at e
          exact absurd e (mc z hz)
      · by_cases c2 : z = f
        · rw [if_neg c1, if_pos c2] at e
          exact absurd e.symm (mc y hy)
        · rw [if_neg c1, if_neg c2] at e
          exact P.t.inj y hy z hz e
    · by_cases c : y = f
      · rw [if_pos c, c]
        exact g
      · rw [if_neg c]
        exact P.g y hy
    · by_cases c : y = f
      · rw [if_pos c]
        exact ⟨fm, mR, mP⟩
      · rw [if_neg c]
        exact P.f y hy
    · obtain ⟨h1, h2, h3, xs, h4⟩ := P.r q hq
      exact ⟨h1, h2, h3, xs, up h4⟩
    · obtain ⟨h1, x, y, h4⟩ := P.p q hq
      exact ⟨h1, x, y, (upd_ne fun z => by rw [z, P.t.d] at h4; cases h4).trans h4⟩
theorem Pln.ring (P : Pln a b H H' D RL PL ns cp T rs ps) {q : Addr} {xs : List Str} (hq : H' q = some (.lst (xs.map V.str))) (fq : H q = none) (qR : q ≠ RL) (qP : q ≠ PL) :
    Pln a b H (upd H' RL (.lst (rs.map V.ref ++ [V.ref q]))) D RL PL ns cp T (rs ++ [q]) ps := by
  have up : ∀ {c : Addr} {o : HO}, c ≠ RL → H' c = some o → (upd H' RL (.lst (rs.map V.ref ++ [V.ref q]))) c = some o := fun {c o} h e => (upd_ne h).trans e
  refine ⟨P.k.un P.fR, ⟨up P.dr.1 P.t.d, fun y hy => up (P.f y hy).2.1 (P.t.r y hy), P.t.inj⟩, P.g, P.f, by rw [upd_same, List.map_append]; rfl, up P.rp.symm P.pl, fun c hc => ?_, fun c hc => ?_, P.fD, P.fR, P.fP, P.rp⟩
  · rcases List.mem_append.mp hc with h | h
    · obtain ⟨h1, h2, h3, xs, h4⟩ := P.r c h
      exact ⟨h1, h2, h3, xs, up h2 h4⟩
    · rw [List.mem_singleton.mp h]
      exact ⟨fq, qR, qP, xs, up qR hq⟩
  · obtain ⟨h1, x, y, h4⟩ := P.p c hc
    exact ⟨h1, x, y, up (fun z => by rw [z, P.rl] at h4; cases h4) h4⟩
theorem Pln.pair (P : Pln a b H H' D RL PL ns cp T rs ps) {q : Addr} {x y : Str} (hq : H' q = some (.tup [.str x, .str y])) (fq : H q = none) :
    Pln a b H (upd H' PL (.lst (ps.map V.ref ++ [V.ref q]))) D RL PL ns cp T rs (ps ++ [q]) := by
  have up : ∀ {c : Addr} {o : HO}, c ≠ PL → H' c = some o → (upd H' PL (.lst (ps.map V.ref ++ [V.ref q]))) c = some o := fun {c o} h e => (upd_ne h).trans e
  have tp : ∀ {c : Addr} {xs : List V}, H' c = some (.tup xs) → c ≠ PL := fun {c xs} h z => by rw [z, P.pl] at h; cases h
  refine ⟨P.k.un P.fP, ⟨up P.dr.2 P.t.d, fun y hy => up (P.f y hy).2.2 (P.t.r y hy), P.t.inj⟩, P.g, P.f, up P.rp P.rl, by rw [upd_same, List.map_append]; rfl, fun c hc => ?_, fun c hc => ?_, P.fD, P.fR, P.fP, P.rp⟩
  · obtain ⟨h1, h2, h3, xs, h4⟩ := P.r c hc
    exact ⟨h1, h2, h3, xs, up h3 h4⟩
  · rcases List.mem_append.mp hc with h | h
    · obtain ⟨h1, x, y, h4⟩ := P.p c h
      exact ⟨h1, x, y, up (tp h4) h4⟩
    · rw [List.mem_singleton.mp h]
      exact ⟨fq, x, y, up (tp hq) hq⟩
theorem pick_fn {α β : Type} [Nonempty β] {l : List α} {p : α → β → Prop} (h : ∀ x ∈ l, ∃ y, p x y) : ∃ M : α → β, ∀ x ∈ l, p x (M x) :=
  ⟨fun x => Classical.epsilon (p x), fun x hx => Classical.epsilon_spec (h x hx)⟩
theorem Pln.done (P : Pln a b H H' D RL PL ns cp T rs ps) (nd : ns.Nodup) : RowsN H H' D ns T (ns.map cp) := by
  refine ⟨⟨List.length_map _, by rw [zip_pp]; exact P.t.d, fun j n c h1 h2 => ?_, P.fD, fun q hq => ?_, ?_⟩, P.g⟩
  · rw [List.getElem?_map, h1] at h2
    cases h2
    exact P.t.r n (List.mem_of_getElem? h1)
  · obtain ⟨y, hy, rfl⟩ := List.mem_map.mp hq
    exact (P.f y hy).1
  · refine List.pairwise_map.mpr (List.Pairwise.imp_of_mem (fun {x y} hx hy n e => n (P.t.inj x hx y hy e)) nd)
/-- a row with the best in front -/
theorem best_row {f : Str} {bs r : List Str} (g : GoodRow ns f r) (nd : bs.Nodup) (ne : f ∉ bs) (sub : ∀ x ∈ bs, x ∈ ns) : GoodRow ns f (bs ++ r.filter fun x => !decide (x ∈ bs)) := by
  refine ⟨List.nodup_append.mpr ⟨nd, g.nd.sublist List.filter_sublist, fun x h1 y h2 e => ?_⟩, fun h => ?_, fun x h => ?_⟩
  · have := (List.mem_filter.mp h2).2
    rw [← e] at this
    simp [h1] at this
  · rcases List.mem_append.mp h with h | h
    · exact ne h
    · exact g.ne (List.mem_filter.mp h).1
  · rcases List.mem_append.mp h with h | h
    · exact sub x h
    · exact g.sub x (List.mem_filter.mp h).1
/-- those next to somebody in a lot -/
theorem lot_next {l : List Str} (nd : l.Nodup) (h2 : 2 ≤ l.length) {i : Nat} {p : Str} (hp : l[i]? = some p) : ∃ x y, l[(i + 1) % l.length]? = some x ∧ x ≠ p ∧ atI (l.map V.str) ((i : Int) - 1) = some (.str y) ∧ y ∈ l ∧ y ≠ p := by
  have hi := (List.getElem?_eq_some_iff.mp hp).1
  have m1 : (i + 1) % l.length < l.length := Nat.mod_lt _ (by omega)
  have df : ∀ {j : Nat} {z : Str}, l[j]? = some z → j ≠ i → z ≠ p := fun {j z} h n e => n ((List.getElem?_inj (List.getElem?_eq_some_iff.mp h).1 nd).mp (h.trans (by rw [e, hp])))
  have m2 : (i + 1) % l.length ≠ i := by
    by_cases c : i + 1 = l.length
    · rw [c, Nat.mod_self]
      omega
    · rw [Nat.mod_eq_of_lt (by omega)]
      omega
  obtain ⟨x, hx⟩ : ∃ x, l[(i + 1) % l.length]? = some x := ⟨_, List.getElem?_eq_getElem m1⟩
  cases i with
  | zero =>
    obtain ⟨y, hy⟩ : ∃ y, l.getLast? = some y := ⟨_, List.getLast?_eq_some_getLast (List.ne_nil_of_length_pos (by omega))⟩
    have hy' : l[l.length - 1]? = some y := by rw [← List.getLast?_eq_getElem?]; exact hy
    refine ⟨x, y, hx, df hx m2, ?_, List.mem_of_getElem? hy', df hy' (by omega)⟩
    obtain ⟨l', el⟩ := List.getLast?_eq_some_iff.mp hy
    rw [el, List.map_append]
    exact atI_last _ _
  | succ j =>
    obtain ⟨y, hy⟩ : ∃ y, l[j]? = some y := ⟨_, List.getElem?_eq_getElem (by omega)⟩
    refine ⟨x, y, hx, df hx m2, ?_, List.mem_of_getElem? hy, df hy (by omega)⟩
    rw [show ((j + 1 : Nat) : Int) - 1 = ((j : Nat) : Int) by push_cast; omega]
    exact atI_nat (by rw [List.getElem?_map, hy]; rfl)
end
end Mn
/-! _law_g_planted -/
namespace Mn
open PySem PySem.Spec PyProof.Rows L2 Md Me Ml LamX Mi Mo
abbrev sPln : Stmt := top 49
abbrev plnN : List Str := ["_law_stream", "_law_people", "_law_share", "_law_left", "_law_rings", "_law_pairs", "_law_wishes", "_law_size", "_law_lot", "_law_at", "_law_person", "_law_best", "_law_other"]
theorem scPln : FnScope plnN ["_law_stream", "_law_people", "_law_share"] (defScope sPln) := ⟨rfl, rfl, rfl, by decide +kernel, rfl, by decide +kernel, by decide +kernel⟩
def spPln (K : PySem.W.Frag) : Sp := fun vs H Q _ => ∃ (a b c : Addr) (B sh : Nat) (ns : List Str), vs = [.ref a, .ref c, .int (sh : Nat)] ∧ Stm H a b B ∧ c ≠ a ∧ c ≠ b ∧ H c = some (.lst (ns.map V.str)) ∧ ns.Nodup ∧ ns.length ≤ 63 ∧ sh ≤ 6 ∧ B + 300000 ≤ 1000000000000 ∧
  ∀ (H' : Hp) (t D : Addr) (x y : V) (rw_ : Str → List Str) (bs : List Addr), Stm H' a b (B + 300000) → KeepBut a b H H' → H t = none → H' t = some (.tup [.ref D, x, y]) → RowsN H H' D ns rw_ bs → Q (.ref t) H'
theorem asg_if {i : Nat} {v0 : V} {t : TT} {ta tb : TE} {g : TG} {u : TS} {D : Ends} {σ : L2.St} {H : Hp} {rt : V → Hp → Prop} {bk ct : L2.St → Hp → Prop} (p : V → Prop) (h : ∀ Q' : VK, (∀ v, p v → Q' v H) → tIf t ta tb (σ.set i (some v0)) H Q') (q : ∀ v, p v → g v (σ.set i (some v0)) H ({ D with nx := u D } : Ends).nx) :
    gName i v0 σ H (Ends.mk (tSeq (tAsg (tIf t ta tb) g) u D) rt bk ct).nx := h _ q
section
variable {P : Program} {w : World} {K : PySem.W.Frag} {mg : Str → Option Value} {base : Heap}
theorem ok_pln {f fX fM fP fE : Addr} {fd fdX fdM fdP fdE : FuncData} (F : Fun K "_law_g_planted" "_law_g_planted" sPln f fd)
    (GX : FnOk P w K mg base CX0 2 fX fdX ["_law_stream", "_law_some"] (spMixedB K)) (kX : PySem.W.keepIn K (.ref fX) = true) (bX : Binds K fdX ["_law_stream", "_law_some"] []) (gX : mg "_law_mixed" = some (.ref fX))
    (GM : FnOk P w K mg base CX0 4 fM fdM ["_law_stream", "_law_people", "_law_share"] (spMut K)) (kM : PySem.W.keepIn K (.ref fM) = true) (bM : Binds K fdM ["_law_stream", "_law_people", "_law_share"] []) (gM : mg "_law_a_mutual" = some (.ref fM))
    (GP : FnOk P w K mg base CX0 2 fP fdP ["_law_stream", "_law_some"] (spPick K)) (kP : PySem.W.keepIn K (.ref fP) = true) (bP : Binds K fdP ["_law_stream", "_law_some"] []) (gP : mg "_law_pick" = some (.ref fP))
    (GE : FnOk P w K mg base CX0 1 fE fdE ["_law_things"] spEo) (kE : PySem.W.keepIn K (.ref fE) = true) (bE : Binds K fdE ["_law_things"] []) (gE : mg "_law_each_once" = some (.ref fE))
    (gLen : mg "len" = none) (gMin : mg "min" = none) (gMax : mg "max" = none) (gInt : mg "int" = none) (gEn : mg "enumerate" = none) (gSorted : mg "sorted" = none) : FnOk P w K mg base CX0 5 f fd ["_law_stream", "_law_people", "_law_share"] (spPln K) := by
  refine F.ok scPln (fun vs H Q E h => ?_) (fun cdv A outer s H vs Q E hr h => ?_)
  · obtain ⟨a, b, c, B, sh, ns, rfl, _⟩ := h
    rfl
  · obtain ⟨a, b, c, B, sh, ns, rfl, S, ca, cb, hc, hnd, hn, hsh, hB, k⟩ := h
    have nd := scPln.nd
    have hu := hu_of hr
    have hu64 := hu64_of hr
    refine ⟨_, (pss_cons (ps_par3 (i := 3) (j := 4) (l := 5) rfl nd rfl rfl rfl (by decide) (by decide) (by decide) rfl rfl rfl (pa_cons (pe_call GX (hr.mono (by decide)) rfl gX kX bX .nil pass0 (pa_cons (pv 0) (pa_cons (pv 1) pa_nil))) (pa_cons (pe_lst pa_nil) (pa_cons (pe_lst pa_nil) pa_nil))) rfl)
      (pss_cons (ps_set (i := 6) nd rfl (Or.inl rfl) (pe_call GM (hr.mono (by decide)) rfl gM kM bM .nil pass0 (pa_cons (pv 0) (pa_cons (pv 1) (pa_cons (pv 2) pa_nil)))))
      (pss_cons (ps_while PassesOwn.never (pt_cmpR op_gt (pe_callB call_len_seq (by rfl) gLen PySem.boot_len (pa_cons (pv 3) pa_nil)) pe_int (nomark _)) (pss_cons (ps_set (i := 7) nd rfl (Or.inl rfl) (pe_callB (call_min2 rfl) (by rfl) gMin boot_min (pa_cons (pe_call GP (hr.mono (by decide)) rfl gP kP bP .nil pass0 (pa_cons (pv 0) (pa_cons (pe_lst (pa_cons pe_int (pa_cons pe_int (pa_cons pe_int (pa_cons pe_int (pa_cons pe_int (pa_cons pe_int pa_nil))))))) pa_nil))) (pa_cons (pe_callB call_len_seq (by rfl) gLen PySem.boot_len (pa_cons (pv 3) pa_nil)) pa_nil))))
      (pss_cons (ps_set (i := 7) nd rfl (Or.inl rfl) (pe_ifExp (PW.pt (pw_and (pt_cmpR op_gt (pv 7) pe_int (nomark _)) (pw_and1 (pt_cmpR op_eq (pe_op op_mod (pe_callTy call_int1 rfl gInt boot_int (pa_cons (pv 7) pa_nil)) pe_int) pe_int (nomark _))))) (pe_op op_sub (pv 7) pe_int) (pv 7)))
      (pss_cons (ps_par (i := 8) (j := 3) rfl nd rfl rfl (by decide) rfl rfl (pa_cons (pe_slice sl_list (pv 3) po_none (po_some (pv 7))) (pa_cons (pe_slice sl_list (pv 3) (po_some (pv 7)) po_none) pa_nil)) rfl)
      (pss_cons (ps_for PassesOwn.never rfl (pi_enumA rfl gEn (pa_cons (pv 8) pa_nil)) (pg_tup rfl (pgs_cons (pg_name (i := 9) nd rfl (Or.inl rfl)) (pgs_cons (pg_name (i := 10) nd rfl (Or.inl rfl)) pgs_nil))) (pss_cons (ps_set (i := 11) nd rfl (Or.inr rfl) (pe_call GE (hr.mono (by decide)) rfl gE kE bE .nil pass0 (pa_cons (pe_lst (pa_cons (pe_ix ix_list (pv 8) (pe_op op_mod (pe_op op_add (pv 9) pe_int) (pv 7)) (fun _ _ => rfl)) (pa_cons (pe_ix ix_list (pv 8) (pe_op op_sub (pv 9) pe_int) (fun _ _ => rfl)) pa_nil))) pa_nil)))
      (pss_one (ps_dput hu (pv 6) (pv 10) (pe_op op_cat (pv 11) (pe_lc (own := [("_law_other", 12)]) (g := gName 12) (tt := tTest (tOp (rIn K true) (tVar 12) (tVar 11))) (te := tVar 12) rfl nd (pi_list (pe_dget hu (pv 6) (pv 10) (fun _ _ => rfl))) (blkOk_by (N := plnN) (sc := defScope sPln) (by decide +kernel)) (fun _ _ _ _ _ => (pg_name (i := 12) nd rfl (Or.inl rfl))) (fun _ _ _ _ _ => pts_one (pt_cmpR op_notIn_seq (pv 12) (pv 11) (by with_unfolding_all rfl))) (fun _ _ _ _ _ => by exact pv 12))) rfl))))
      (pss_one (ps_if (pt_cmpR op_gt (pv 7) pe_int (nomark _)) (pss_cons (ps_set (i := 9) nd rfl (Or.inl rfl) (pe_bm PySem.F.plainAttrs_list PySem.F.slot_list_index PySem.F.type_list_index mt_index (pv 8) (pa_cons (pe_callB (cr_minS rfl hu64) (by rfl) gMin boot_min (pa_cons (pv 8) pa_nil)) pa_nil)))
      (pss_one (ps_expr (pe_bm PySem.F.plainAttrs_list PySem.F.slot_list_append PySem.F.type_list_append mt_append (pv 4) (pa_cons (pe_op op_cat (pe_slice sl_list (pv 8) (po_some (pv 9)) po_none) (pe_slice sl_list (pv 8) po_none (po_some (pv 9)))) pa_nil))))) (pss_one (ps_expr (pe_bm PySem.F.plainAttrs_list PySem.F.slot_list_append PySem.F.type_list_append mt_append (pv 5) (pa_cons (pe_tup (pa_cons (pe_callB (cr_minS rfl hu64) (by rfl) gMin boot_min (pa_cons (pv 8) pa_nil)) (pa_cons (pe_callB (cr_maxS rfl hu64) (by rfl) gMax boot_max (pa_cons (pv 8) pa_nil)) pa_nil))) pa_nil)))))))))))
      (pss_one (ps_ret (pe_tup (pa_cons (pv 6) (pa_cons (pe_callB (cr_sortedR hu64) (by rfl) gSorted (by decide +kernel) (pa_cons (pv 4) pa_nil)) (pa_cons (pe_callB (cr_sortedP hu64) (by rfl) gSorted (by decide +kernel) (pa_cons (pv 5) pa_nil)) pa_nil))))))))), ?_⟩

    refine ⟨_, rfl, _, rfl, a, b, c, B, _, rfl, S, .inl (SqL.of hc), by rw [List.length_map]; omega, by omega, fun H1 la l0 S1 kb1 fla hla pz0 => ?_⟩
    obtain ⟨left0, pz, rfl⟩ := perm_strs pz0
    refine ⟨(show 0 ≤ sizeLine by decide), fun RL nR => ⟨(show 0 ≤ sizeLine by decide), fun PL nP => ?_⟩⟩
    have sR := sameUp (o := .lst []) nR
    have sP := sameUp (o := .lst []) nP
    have hR : upd (upd H1 RL (.lst [])) PL (.lst []) RL = some (.lst []) := sP _ _ upd_same
    have hP : upd (upd H1 RL (.lst [])) PL (.lst []) PL = some (.lst []) := upd_same
    have RP : RL ≠ PL := ne_of_none (upd_same (H := H1) (a := RL) (o := .lst [])) nP
    have s2 := sR.trans sP
    have hla2 := s2 _ _ hla
    have laR : la ≠ RL := ne_of_none hla nR
    have laP : la ≠ PL := ne_of_none (sR _ _ hla) nP
    have fR : H RL = none := kb_free kb1 S1.na.1 S1.na.2 nR
    have fP : H PL = none := kb_free kb1 S1.na.1 S1.na.2 (sR.free nP)
    have S2 := S1.ext (ExtN.of s2)
    have kb2 := kb1.trans (KeepBut.same (a := a) (b := b) s2)
    generalize upd (upd H1 RL (.lst [])) PL (.lst []) = H2 at hR hP hla2 S2 kb2 ⊢
    clear s2 sR sP nR nP
    refine ⟨_, _, _, rfl, _, rfl, _, rfl, _, rfl, a, b, c, _, sh, ns, rfl, S2, ca, cb, kb2 _ _ ca cb hc, hnd, hn, hsh, by omega, fun H3 D rw0 bs S3 kb3 R3 => ?_⟩
    obtain ⟨cp0, rfl⟩ := exists_pp (α := Addr) R3.l hnd
    have P3 : Pln a b H H3 D RL PL ns cp0 rw0 [] [] := by
      obtain ⟨Ra, Rb⟩ := S.nd fR
      obtain ⟨Pa, Pb⟩ := S.nd fP
      refine ⟨kb2.trans kb3, ⟨by rw [R3.d, zip_pp], fun y hy => ?_, fun x hx y hy e => ?_⟩, R3.g, fun y hy => ?_, kb3 _ _ Ra Rb hR, kb3 _ _ Pa Pb hP, fun q h => by (cases h), fun q h => by (cases h), kb_free kb2 S2.na.1 S2.na.2 R3.fD, fR, fP, RP⟩
      · obtain ⟨j, hj⟩ := List.getElem?_of_mem hy
        exact R3.r j y _ hj (by rw [List.getElem?_map, hj]; rfl)
      · obtain ⟨i, hi⟩ := List.getElem?_of_mem hx
        obtain ⟨j, hj⟩ := List.getElem?_of_mem hy
        have := (List.getElem?_inj (l := ns.map cp0) (by rw [List.length_map]; exact (List.getElem?_eq_some_iff.mp hi).1) R3.n).mp (show (ns.map cp0)[i]? = (ns.map cp0)[j]? by rw [List.getElem?_map, List.getElem?_map, hi, hj]; show some (cp0 x) = some (cp0 y); rw [e])
        subst this
        exact Option.some.inj (hi.symm.trans hj)
      · have h := R3.f (cp0 y) (List.mem_map_of_mem hy)
        exact ⟨kb_free kb2 S2.na.1 S2.na.2 h, (ne_of_none hR h).symm, (ne_of_none hP h).symm⟩
    obtain ⟨laa, lab⟩ := S.nd fla
    have hla3 := kb3 _ _ laa lab hla2
    have lz : left0.length = ns.length := pz.length_eq
    obtain ⟨Wv, hWv⟩ : ∃ Wv : Nat → L2.St → Hp → Prop, Wv = fun μ σ H' => ∃ (la : Addr) (left : List Str) (rs ps : List Addr) (cp : Str → Addr) (T : Str → List Str) (o7 o8 o9 o10 o11 : Option V), σ = [some (.ref a), some (.ref c), some (.int (sh : Nat)), some (.ref la), some (.ref RL), some (.ref PL), some (.ref D), o7, o8, o9, o10, o11, none] ∧ μ = left.length ∧ left.length ≤ ns.length ∧ Pln a b H H' D RL PL ns cp T rs ps ∧ Stm H' a b (B + 201000 + (63 - left.length)) ∧ left.Nodup ∧ (∀ z ∈ left, z ∈ ns) ∧ H la = none ∧ la ≠ RL ∧ la ≠ PL ∧ H' la = some (.lst (left.map V.str)) ∧ rs.length + left.length ≤ 63 ∧ ps.length + left.length ≤ 63 := ⟨_, rfl⟩
    refine ⟨Wv, ⟨_, by
      rw [hWv]
      exact ⟨la, left0, [], [], cp0, rw0, none, none, none, none, none, rfl, rfl, by omega, P3, S3.up (by omega), pz.nodup_iff.mpr hnd, fun z h => pz.mem_iff.mp h, fla, laR, laP, hla3, by show 0 + _ ≤ 63; omega, by show 0 + _ ≤ 63; omega⟩⟩, ?_⟩
    clear S3 P3 kb3 R3 hla3 hP hR hla2 laR laP fla pz hla S1 kb1
    rw [hWv]
    rintro μ σ H' ⟨la, left, rs, ps, cp, T, o7, o8, o9, o10, o11, rfl, rfl, lns, PA, SA, ndl, lsub, fla, laR, laP, hlA, lrs, lps⟩
    refine ⟨_, rfl, la, _, rfl, .inl (SqL.of hlA), _, _, rfl, rfl, _, rfl, ?_⟩
    have eqd : decide ((1 : Int) < ((left.map V.str).length : Nat)) = decide (1 < left.length) := by
      rw [List.length_map]
      exact decide_eq_decide.mpr (by omega)
    rw [eqd]
    by_cases c1 : 1 < left.length
    rotate_left
    · rw [decide_eq_false c1]
      refine iteF ?_
      obtain ⟨M1, hM1⟩ := pick_fn (fun q hq => (PA.r q hq).2.2.2)
      obtain ⟨M2, hM2⟩ := pick_fn (l := ps) (p := fun q (z : Str × Str) => H' q = some (.tup [.str z.1, .str z.2])) (fun q hq => by
        obtain ⟨_, x, y, e⟩ := PA.p q hq
        exact ⟨(x, y), e⟩)
      refine ⟨_, rfl, _, rfl, RL, rs, M1, rfl, SqL.of PA.rl, fun q hq => SqL.of (hM1 q hq), by omega, fun p1 np1 => ?_⟩
      have s1 := sameUp (o := .lst ((rs.mergeSort (rowLe M1)).map V.ref)) np1
      have P1 := PA.same S s1
      have S1' := SA.ext (ExtN.of s1)
      have hM2' : ∀ q ∈ ps, upd H' p1 (.lst ((rs.mergeSort (rowLe M1)).map V.ref)) q = some (.tup [.str (M2 q).1, .str (M2 q).2]) := fun q hq => s1 _ _ (hM2 q hq)
      generalize upd H' p1 (.lst ((rs.mergeSort (rowLe M1)).map V.ref)) = H3 at P1 S1' hM2' ⊢
      refine ⟨_, rfl, PL, ps, M2, rfl, SqL.of P1.pl, fun q hq => SqT.of (hM2' q hq), by omega, fun p2 np2 => ?_⟩
      have s2 := sameUp (o := .lst ((ps.mergeSort (pairLe M2)).map V.ref)) np2
      have P2 := P1.same S s2
      have S2' := S1'.ext (ExtN.of s2)
      generalize upd H3 p2 (.lst ((ps.mergeSort (pairLe M2)).map V.ref)) = H4 at P2 S2' ⊢
      refine ⟨(show 3 ≤ sizeLine by decide), fun t nt => ?_⟩
      have s3 := sameUp (o := .tup [V.ref D, .ref p1, .ref p2]) nt
      have P3 := P2.same S s3
      exact k _ t D _ _ T _ ((S2'.ext (ExtN.of s3)).up (by omega)) P3.k (kb_free P2.k S2'.na.1 S2'.na.2 nt) upd_same (P3.done hnd)
    rw [decide_eq_true c1]
    refine iteT ⟨fun σ' H'' => ∃ m', m' < left.length ∧ Wv m' σ' H'', fun _ _ h => by rw [hWv] at h; exact h, ?_⟩
    -- how many
    refine ⟨_, rfl, (show 6 ≤ sizeLine by decide), fun q6 nq6 => ?_⟩
    have s6 := sameUp (o := .lst [V.int 2, .int 2, .int 3, .int 3, .int 5, .int 7]) nq6
    have hq6 : upd H' q6 (.lst [V.int 2, .int 2, .int 3, .int 3, .int 5, .int 7]) q6 = some (.lst [V.int 2, .int 2, .int 3, .int 3, .int 5, .int 7]) := upd_same
    have P6 := PA.same S s6
    have S6 := SA.ext (ExtN.of s6)
    have hl6 := s6 _ _ hlA
    obtain ⟨q6a, q6b⟩ := SA.nd nq6
    generalize upd H' q6 (.lst [V.int 2, .int 2, .int 3, .int 3, .int 5, .int 7]) = H6 at hq6 P6 S6 hl6 ⊢
    refine ⟨a, b, q6, _, _, rfl, S6, by omega, q6a, q6b, hq6, by decide, by decide, fun H7 z hz S7 kb7 => ?_⟩
    have P7 := P6.kb S kb7
    obtain ⟨laa, lab⟩ := S.nd fla
    have hl7 := kb7 _ _ laa lab hl6
    obtain ⟨m, rfl, hm⟩ : ∃ m : Nat, z = .int m ∧ (m = 2 ∨ m = 3 ∨ m = 5 ∨ m = 7) := by
      simp only [List.mem_cons, List.mem_nil_iff, or_false] at hz
      rcases hz with h | h | h | h | h | h
      · exact ⟨2, h, by simp⟩
      · exact ⟨2, h, by simp⟩
      · exact ⟨3, h, by simp⟩
      · exact ⟨3, h, by simp⟩
      · exact ⟨5, h, by simp⟩
      · exact ⟨7, h, by simp⟩
    refine ⟨_, rfl, la, _, rfl, .inl (SqL.of hl7), _, _, rfl, ?_⟩
    obtain ⟨n1, e1, h1a, h1b⟩ : ∃ n1 : Nat, (if (((left.map V.str).length : Nat) : Int) < ((m : Nat) : Int) then (((left.map V.str).length : Nat) : Int) else ((m : Nat) : Int)) = ((n1 : Nat) : Int) ∧ 2 ≤ n1 ∧ n1 ≤ left.length := by
      rw [List.length_map]
      by_cases c : ((left.length : Nat) : Int) < ((m : Nat) : Int)
      · exact ⟨left.length, by rw [if_pos c], by omega, Nat.le_refl _⟩
      · exact ⟨m, by rw [if_neg c], by omega, by omega⟩
    rw [e1]
    refine asg_if (fun v => ∃ n2 : Nat, v = .int (n2 : Nat) ∧ 2 ≤ n2 ∧ n2 ≤ left.length) (fun Q' q' => ?_) ?_
    · refine ⟨_, rfl, _, _, rfl, rfl, _, rfl, ?_⟩
      by_cases c2 : (2 : Int) < ((n1 : Nat) : Int)
      · rw [decide_eq_true c2]
        refine iteT ⟨_, rfl, ?_⟩
        delta tNil
        dsimp only
        refine .inl ⟨_, rfl, _, _, rfl, rfl, (show (0 : Int) < 2 by decide), rfl, _, rfl, ?_⟩
        by_cases c3 : V.int (((n1 : Nat) : Int) % 2) = V.int 0
        · rw [decide_eq_true c3]
          refine iteT ⟨_, rfl, _, _, rfl, rfl, q' _ ⟨n1 - 1, ?_, ?_, ?_⟩⟩
          · exact congrArg V.int (by omega)
          · have := V.int.inj c3
            omega
          · omega
        · rw [decide_eq_false c3]
          exact iteF ⟨_, rfl, q' _ ⟨n1, rfl, h1a, h1b⟩⟩
      · rw [decide_eq_false c2]
        exact iteF (iteF ⟨_, rfl, q' _ ⟨n1, rfl, h1a, h1b⟩⟩)
    rintro v ⟨n2, rfl, h2a, h2b⟩
    refine ⟨_, rfl, _, rfl, _, rfl, la, _, rfl, SqL.of hl7, fun lt nlt => ?_⟩
    rw [cut_toN, ← List.map_take]
    have s8 := sameUp (o := .lst ((left.take n2).map V.str)) nlt
    have hlt : upd H7 lt (.lst ((left.take n2).map V.str)) lt = some (.lst ((left.take n2).map V.str)) := upd_same
    have P8 := P7.same S s8
    have S8 := S7.ext (ExtN.of s8)
    have hl8 := s8 _ _ hl7
    have flt : H lt = none := kb_free P7.k S7.na.1 S7.na.2 nlt
    have ltR : lt ≠ RL := (ne_of_none P7.rl nlt).symm
    have ltP : lt ≠ PL := (ne_of_none P7.pl nlt).symm
    generalize upd H7 lt (.lst ((left.take n2).map V.str)) = H8 at hlt P8 S8 hl8 ⊢
    refine ⟨_, rfl, _, rfl, _, rfl, la, _, rfl, SqL.of hl8, fun ln nln => ?_⟩
    rw [cut_fromN, ← List.map_drop]
    have s9 := sameUp (o := .lst ((left.drop n2).map V.str)) nln
    have hln : upd H8 ln (.lst ((left.drop n2).map V.str)) ln = some (.lst ((left.drop n2).map V.str)) := upd_same
    have P9 := P8.same S s9
    have S9 := S8.ext (ExtN.of s9)
    have hlt9 := s9 _ _ hlt
    have fln : H ln = none := kb_free P8.k S8.na.1 S8.na.2 nln
    have lnR : ln ≠ RL := (ne_of_none P8.rl nln).symm
    have lnP : ln ≠ PL := (ne_of_none P8.pl nln).symm
    have lnt : ln ≠ lt := (ne_of_none hlt nln).symm
    generalize upd H8 ln (.lst ((left.drop n2).map V.str)) = H9 at hln P9 S9 hlt9 ⊢
    refine ⟨_, _, rfl, ?_⟩
    have ndt : (left.take n2).Nodup := ndl.sublist (List.take_sublist _ _)
    have ltl : (left.take n2).length = n2 := by rw [List.length_take]; omega
    have lsubt : ∀ z ∈ left.take n2, z ∈ ns := fun z hz => lsub z (List.mem_of_mem_take hz)
    have ndd : (left.drop n2).Nodup := ndl.sublist (List.drop_sublist _ _)
    have lsubd : ∀ z ∈ left.drop n2, z ∈ ns := fun z hz => lsub z (List.mem_of_mem_drop hz)
    have lld : (left.drop n2).length + n2 = left.length := by rw [List.length_drop]; omega
    generalize left.take n2 = lot at hlt9 ndt ltl lsubt
    generalize left.drop n2 = rest at hln ndd lsubd lld
    clear hlt hl8 S8 P8 S7 P7 hl7 hl6 P6 S6 nln nlt hq6 kb7 hlA PA SA s8 s9
    obtain ⟨ltb, ltc⟩ := S.nd flt
    obtain ⟨lnb, lnc⟩ := S.nd fln
    refine ⟨_, rfl, lt, _, rfl, .inl ⟨SqL.of hlt9, ?_⟩⟩
    obtain ⟨B9, eB9⟩ : ∃ B9, B9 = B + 201000 + (63 - left.length) + 1 := ⟨_, rfl⟩
    rw [← eB9] at S9
    refine for_it (walk_enum (xs := lot.map V.str)) (fun i σ H2 => ∃ (cp : Str → Addr) (T : Str → List Str) (o9 o10 o11 : Option V), σ = [some (.ref a), some (.ref c), some (.int (sh : Nat)), some (.ref ln), some (.ref RL), some (.ref PL), some (.ref D), some (.int (n2 : Nat)), some (.ref lt), o9, o10, o11, none] ∧ Pln a b H H2 D RL PL ns cp T rs ps ∧ Stm H2 a b B9 ∧ H2 lt = some (.lst (lot.map V.str)) ∧ H2 ln = some (.lst (rest.map V.str))) ⟨cp, T, _, _, _, rfl, P9, S9, hlt9, hln⟩ (fun i σ H2 _ h => SqL.of (by obtain ⟨_, _, _, _, _, _, _, _, h, _⟩ := h; exact h)) ?_ ?_
    · rintro i v σ HA HB hi ⟨cp, T, o9, o10, o11, rfl, PA, SA, hltA, hlnA⟩ ⟨T1, x1, y1, rfl, nT, rfl, e1, e2⟩
      have e1' : V.int (i : Int) = x1 := Option.some.inj e1
      subst e1'
      replace e2 : (lot.map V.str)[i]? = some y1 := e2
      rw [List.getElem?_map] at e2
      obtain ⟨p, hp, rfl⟩ := Option.map_eq_some_iff.mp e2
      have sT := sameUp (o := .tup [V.int (i : Int), .str p]) nT
      have PB := PA.same S sT
      have SB := SA.ext (ExtN.of sT)
      have hltB := sT _ _ hltA
      have hlnB := sT _ _ hlnA
      refine ⟨T1, _, rfl, SqT.of upd_same, rfl, _, _, rfl, _, _, rfl, rfl, ?_⟩
      generalize upd HA T1 (.tup [V.int (i : Int), .str p]) = HB at PB SB hltB hlnB ⊢
      obtain ⟨x, y, hx, nx, hy, yl, ny⟩ := lot_next ndt (by omega) hp
      have hxl := List.mem_of_getElem? hx
      rw [ltl] at hx
      have hpl := List.mem_of_getElem? hp
      have ax : atI (lot.map V.str) ((((i : Nat) : Int) + 1) % ((n2 : Nat) : Int)) = some (.str x) := by
        rw [show (((i : Nat) : Int) + 1) % ((n2 : Nat) : Int) = (((i + 1) % n2 : Nat) : Int) by push_cast; rfl]
        exact atI_nat (by rw [List.getElem?_map, hx]; rfl)
      refine ⟨_, rfl, _, rfl, _, _, rfl, rfl, _, rfl, _, _, rfl, rfl, (by omega : (0 : Int) < ((n2 : Nat) : Int)), lt, _, _, _, rfl, rfl, SqL.of hltB, ax, ?_⟩
      refine ⟨_, rfl, _, rfl, _, _, rfl, rfl, lt, _, _, _, rfl, rfl, SqL.of hltB, hy, (show 2 ≤ sizeLine by decide), fun b1 nb1 => ?_⟩
      have s1 := sameUp (o := .lst [V.str x, .str y]) nb1
      have hb1 : upd HB b1 (.lst [V.str x, .str y]) b1 = some (.lst (([x, y] : List Str).map V.str)) := upd_same
      have PC := PB.same S s1
      have SC := SB.ext (ExtN.of s1)
      have hltC := s1 _ _ hltB
      have hlnC := s1 _ _ hlnB
      generalize upd HB b1 (.lst [V.str x, .str y]) = HC at hb1 PC SC hltC hlnC ⊢
      refine ⟨b1, [x, y], rfl, hb1, (show 2 ≤ 1000 by decide), fun HD b2 bs2 sD nb2 ndb memb hb2 => ?_⟩
      have PD := PC.same S sD
      have SD := SC.ext (ExtN.of sD)
      have hltD := sD _ _ hltC
      have hlnD := sD _ _ hlnC
      clear hb1 PC SC hltC hlnC PB SB hltB hlnB PA SA hltA hlnA sD s1 sT nb2 nb1 nT
      have bsub : ∀ z ∈ bs2, z ∈ ns := fun z hz => by
        have := (memb z).mp hz
        simp only [List.mem_cons, List.mem_nil_iff, or_false] at this
        rcases this with rfl | rfl
        · exact lsubt _ hxl
        · exact lsubt _ yl
      have bp : p ∉ bs2 := fun hz => by
        have := (memb p).mp hz
        simp only [List.mem_cons, List.mem_nil_iff, or_false] at this
        rcases this with h | h
        · exact nx h.symm
        · exact ny h.symm
      have hpn := lsubt p hpl
      have lb2 : bs2.length ≤ 63 := Nat.le_trans (pigeon ndb bsub) hn
      have lT : (T p).length ≤ 63 := Nat.le_trans (pigeon (PD.g p hpn).nd (PD.g p hpn).sub) hn
      refine ⟨_, rfl, _, rfl, _, rfl, D, .ref (cp p), rfl, PD.t.get hnd hpn, cp p, rfl, ⟨_, SqL.of (PD.t.r p hpn)⟩, fun L hL => ?_⟩
      refine lc_it (walk_list (xs := (T p).map V.str)) (fun j H' => Same HD H' ∧ H' L = some (.lst ((((T p).take j).filter fun z => !decide (z ∈ bs2)).map V.str))) ⟨sameUp hL, upd_same⟩ (fun j H' _ h => SqL.of (h.1 _ _ (PD.t.r p hpn))) ?_ ?_
      · rintro j w HE HF hj ⟨sE, hLE⟩ ⟨rfl, hw⟩
        rw [List.getElem?_map] at hw
        obtain ⟨z, hz, rfl⟩ := Option.map_eq_some_iff.mp hw
        have tk : (T p).take (j + 1) = (T p).take j ++ [z] := by
          rw [List.take_add_one, hz]
          rfl
        have lj : ((T p).take j).length ≤ 63 := by
          rw [List.length_take]
          omega
        refine ⟨rfl, _, rfl, _, rfl, b2, _, rfl, .inl (SqL.of (sE _ _ hb2)), rfl, flat_strs _, ?_⟩
        show ∃ k, V.bl (!inV (V.str z) (bs2.map V.str)) = V.bl k ∧ _
        rw [inV_strs]
        by_cases d : z ∈ bs2
        · rw [decide_eq_true d]
          refine ⟨false, rfl, iteF ⟨sE, ?_⟩⟩
          rw [tk, List.filter_append, show [z].filter (fun z => !decide (z ∈ bs2)) = [] by rw [List.filter_cons_of_neg (by simp [d])]; rfl, List.append_nil]
          exact hLE
        · rw [decide_eq_false d]
          refine ⟨true, rfl, iteT ⟨_, rfl, _, hLE, ?_, fun c o e => ?_, ?_⟩⟩
          · rw [List.length_map]
            exact small1000 (by have := List.length_filter_le (fun z : Str => !decide (z ∈ bs2)) ((T p).take j); omega)
          · rw [upd_ne (ne_of_none e hL)]
            exact sE _ _ e
          · rw [upd_same, tk, List.filter_append, List.map_append, show [z].filter (fun z => !decide (z ∈ bs2)) = [z] by rw [List.filter_cons_of_pos (by simp [d])]; rfl]
            rfl
      rintro HE ⟨sE, hLE⟩
      rw [List.length_map, List.take_length] at hLE
      have lF : ((T p).filter fun z => !decide (z ∈ bs2)).length ≤ 63 := Nat.le_trans (List.length_filter_le _ _) lT
      refine ⟨b2, L, _, _, rfl, rfl, sE _ _ hb2, hLE, Nat.le_trans (show (bs2.map V.str).length + (((T p).filter fun z => !decide (z ∈ bs2)).map V.str).length ≤ 9000 by rw [List.length_map, List.length_map]; omega) (by decide), fun mm nm => ?_⟩
      rw [← List.map_append]
      have sm := sameUp (o := .lst ((bs2 ++ (T p).filter fun z => !decide (z ∈ bs2)).map V.str)) nm
      have hm : upd HE mm (.lst ((bs2 ++ (T p).filter fun z => !decide (z ∈ bs2)).map V.str)) mm = some (.lst ((bs2 ++ (T p).filter fun z => !decide (z ∈ bs2)).map V.str)) := upd_same
      have PE := PD.same S (sE.trans sm)
      have SE := SD.ext (ExtN.of (sE.trans sm))
      have hltE := (sE.trans sm) _ _ hltD
      have hlnE := (sE.trans sm) _ _ hlnD
      have fm : H mm = none := kb_free PD.k SD.na.1 SD.na.2 (sE.free nm)
      have mR : mm ≠ RL := (ne_of_none PD.rl (sE.free nm)).symm
      have mP : mm ≠ PL := (ne_of_none PD.pl (sE.free nm)).symm
      have mc : ∀ y ∈ ns, mm ≠ cp y := fun y hy => (ne_of_none (PD.t.r y hy) (sE.free nm)).symm
      generalize upd HE mm (.lst ((bs2 ++ (T p).filter fun z => !decide (z ∈ bs2)).map V.str)) = HG at hm PE SE hltE hlnE ⊢
      obtain ⟨cp', ecp, PF⟩ := PE.row ⟨_, SE⟩ hpn hm fm mR mP mc (best_row (PD.g p hpn) ndb bp bsub)
      obtain ⟨Da, Db⟩ := S.nd PE.fD
      refine ⟨_, rfl, _, rfl, D, _, rfl, DPut.k (k := Sum.inr p) PE.t.d (by rw [dcOf_len]; exact small1000 (by omega)), ?_⟩
      rw [ecp]
      exact ⟨cp', _, _, _, _, rfl, PF, SE.set Da Db, (upd_ne (PE.dc hltE)).trans hltE, (upd_ne (PE.dc hlnE)).trans hlnE⟩
    rintro σ HA ⟨cp, T, o9, o10, o11, rfl, PA, SA, hltA, hlnA⟩
    refine ⟨_, rfl, _, _, rfl, rfl, _, rfl, ?_⟩
    have lne : lot ≠ [] := List.ne_nil_of_length_pos (by omega)
    by_cases c2 : (2 : Int) < ((n2 : Nat) : Int)
    · rw [decide_eq_true c2]
      refine iteT ⟨_, rfl, .inl ⟨rfl, _, SqL.of hltA⟩, _, rfl, lt, lot, rfl, SqL.of hltA, lne, fun m0 hm0 _ => ?_⟩
      delta tNil
      dsimp only
      refine idxS_of hltA hm0 ?_
      refine ⟨_, rfl, .inl ⟨rfl, _, SqL.of PA.rl⟩, _, rfl, _, rfl, _, rfl, lt, _, rfl, SqL.of hltA, fun a1 na1 => ?_⟩
      rw [cut_fromN, ← List.map_drop]
      have s1 := sameUp (o := .lst ((lot.drop (lot.idxOf m0)).map V.str)) na1
      have ha1 : upd HA a1 (.lst ((lot.drop (lot.idxOf m0)).map V.str)) a1 = some (.lst ((lot.drop (lot.idxOf m0)).map V.str)) := upd_same
      have PB := PA.same S s1
      have SB := SA.ext (ExtN.of s1)
      have hltB := s1 _ _ hltA
      have hlnB := s1 _ _ hlnA
      generalize upd HA a1 (.lst ((lot.drop (lot.idxOf m0)).map V.str)) = HB at ha1 PB SB hltB hlnB ⊢
      refine ⟨_, rfl, _, rfl, _, rfl, lt, _, rfl, SqL.of hltB, fun a2 na2 => ?_⟩
      rw [cut_toN, ← List.map_take]
      have s2 := sameUp (o := .lst ((lot.take (lot.idxOf m0)).map V.str)) na2
      have ha2 : upd HB a2 (.lst ((lot.take (lot.idxOf m0)).map V.str)) a2 = some (.lst ((lot.take (lot.idxOf m0)).map V.str)) := upd_same
      have PC := PB.same S s2
      have SC := SB.ext (ExtN.of s2)
      have hlnC := s2 _ _ hlnB
      have ha1C := s2 _ _ ha1
      generalize upd HB a2 (.lst ((lot.take (lot.idxOf m0)).map V.str)) = HC at ha2 PC SC hlnC ha1C ⊢
      refine ⟨a1, a2, _, _, rfl, rfl, ha1C, ha2, Nat.le_trans (show ((lot.drop (lot.idxOf m0)).map V.str).length + ((lot.take (lot.idxOf m0)).map V.str).length ≤ 9000 by rw [List.length_map, List.length_map, List.length_drop, List.length_take]; omega) (by decide), fun q nq => ?_⟩
      rw [← List.map_append]
      have s3 := sameUp (o := .lst ((lot.drop (lot.idxOf m0) ++ lot.take (lot.idxOf m0)).map V.str)) nq
      have hq : upd HC q (.lst ((lot.drop (lot.idxOf m0) ++ lot.take (lot.idxOf m0)).map V.str)) q = some (.lst ((lot.drop (lot.idxOf m0) ++ lot.take (lot.idxOf m0)).map V.str)) := upd_same
      have PD := PC.same S s3
      have SD := SC.ext (ExtN.of s3)
      have hlnD := s3 _ _ hlnC
      have fq : H q = none := kb_free PC.k SC.na.1 SC.na.2 nq
      have qR : q ≠ RL := (ne_of_none PC.rl nq).symm
      have qP : q ≠ PL := (ne_of_none PC.pl nq).symm
      generalize upd HC q (.lst ((lot.drop (lot.idxOf m0) ++ lot.take (lot.idxOf m0)).map V.str)) = HD at hq PD SD hlnD ⊢
      obtain ⟨Ra, Rb⟩ := S.nd fR
      refine ⟨RL, _, _, rfl, rfl, PD.rl, small1000 (by rw [List.length_map]; omega), rest.length, by omega, ?_⟩
      rw [hWv]
      exact ⟨ln, rest, _, _, cp, T, _, _, _, _, _, rfl, rfl, by omega, PD.ring hq fq qR qP, (SD.set Ra Rb).up (by omega), ndd, lsubd, fln, lnR, lnP, (upd_ne lnR).trans hlnD, by rw [List.length_append]; show rs.length + 1 + _ ≤ 63; omega, by omega⟩
    · rw [decide_eq_false c2]
      refine iteF ⟨_, rfl, .inl ⟨rfl, _, SqL.of PA.pl⟩, _, rfl, lt, lot, rfl, SqL.of hltA, lne, fun m0 hm0 _ => ⟨_, rfl, lt, lot, rfl, SqL.of hltA, lne, fun m1 hm1 => ⟨(show 2 ≤ sizeLine by decide), fun q nq => ?_⟩⟩⟩
      have s3 := sameUp (o := .tup [V.str m0, .str m1]) nq
      have hq : upd HA q (.tup [V.str m0, .str m1]) q = some (.tup [V.str m0, .str m1]) := upd_same
      have PD := PA.same S s3
      have SD := SA.ext (ExtN.of s3)
      have hlnD := s3 _ _ hlnA
      have fq : H q = none := kb_free PA.k SA.na.1 SA.na.2 nq
      generalize upd HA q (.tup [V.str m0, .str m1]) = HD at hq PD SD hlnD ⊢
      obtain ⟨Pa, Pb⟩ := S.nd fP
      refine ⟨PL, _, _, rfl, rfl, PD.pl, small1000 (by rw [List.length_map]; omega), rest.length, by omega, ?_⟩
      rw [hWv]
      exact ⟨ln, rest, _, _, cp, T, _, _, _, _, _, rfl, rfl, by omega, PD.pair hq fq, (SD.set Pa Pb).up (by omega), ndd, lsubd, fln, lnR, lnP, (upd_ne lnP).trans hlnD, by omega, by rw [List.length_append]; show ps.length + 1 + _ ≤ 63; omega⟩
end
end Mn
/-! _law_g_drawn -/
namespace Mn
open PySem PySem.Spec PyProof.Rows L2 Md Me Ml LamX Mi Mo
abbrev sGd : Stmt := top 50
theorem scGd : FnScope ["_law_stream", "_law_many", "_law_people"] ["_law_stream", "_law_many"] (defScope sGd) := ⟨rfl, rfl, rfl, by decide +kernel, rfl, by decide +kernel, by decide +kernel⟩
def spGd (K : PySem.W.Frag) : Sp := fun vs H Q _ => ∃ (a b : Addr) (B many : Nat), vs = [.ref a, .int (many : Nat)] ∧ Stm H a b B ∧ many ≤ 63 ∧ B + 400000 ≤ 1000000000000 ∧
  ∀ (H' : Hp) (t pa D : Addr) (ns : List Str) (rw_ : Str → List Str) (bs : List Addr), Stm H' a b (B + 400000) → KeepBut a b H H' → H' t = some (.tup [.ref pa, .ref D]) → ns.length = many → GoodNs ns → H pa = none → H' pa = some (.lst (ns.map V.str)) → RowsN H H' D ns rw_ bs → Q (.ref t) H'
theorem RowsN.back {H0 H1 H' : Hp} {D : Addr} {ns : List Str} {rw_ : Str → List Str} {bs : List Addr} (h : RowsN H1 H' D ns rw_ bs) (f : ∀ c, H1 c = none → H0 c = none) : RowsN H0 H' D ns rw_ bs :=
  ⟨⟨h.l, h.d, h.r, f _ h.fD, fun b hb => f _ (h.f b hb), h.n⟩, h.g⟩
theorem RowsN.fwd {H0 H1 H' : Hp} {D : Addr} {ns : List Str} {rw_ : Str → List Str} {bs : List Addr} (h : RowsN H0 H1 D ns rw_ bs) (s : Same H1 H') : RowsN H0 H' D ns rw_ bs :=
  ⟨⟨h.l, s _ _ h.d, fun j n c h1 h2 => s _ _ (h.r j n c h1 h2), h.fD, h.f, h.n⟩, h.g⟩
section
variable {P : Program} {w : World} {K : PySem.W.Frag} {mg : Str → Option Value} {base : Heap}
theorem ok_gd {f fN fD fP fM : Addr} {fd fdN fdD fdP fdM : FuncData} (F : Fun K "_law_g_drawn" "_law_g_drawn" sGd f fd)
    (GN : FnOk P w K mg base CX0 4 fN fdN ["_law_stream", "_law_many"] (spNames K)) (kN : PySem.W.keepIn K (.ref fN) = true) (bN : Binds K fdN ["_law_stream", "_law_many"] []) (gN : mg "_law_a_names" = some (.ref fN))
    (GD : FnOk P w K mg base CX0 1 fD fdD ["_law_stream", "_law_many"] spDrawB) (kD : PySem.W.keepIn K (.ref fD) = true) (bD : Binds K fdD ["_law_stream", "_law_many"] []) (gD : mg "_law_draw" = some (.ref fD))
    (GP : FnOk P w K mg base CX0 5 fP fdP ["_law_stream", "_law_people", "_law_share"] (spPln K)) (kP : PySem.W.keepIn K (.ref fP) = true) (bP : Binds K fdP ["_law_stream", "_law_people", "_law_share"] []) (gP : mg "_law_g_planted" = some (.ref fP))
    (GM : FnOk P w K mg base CX0 4 fM fdM ["_law_stream", "_law_people", "_law_share"] (spMut K)) (kM : PySem.W.keepIn K (.ref fM) = true) (bM : Binds K fdM ["_law_stream", "_law_people", "_law_share"] []) (gM : mg "_law_a_mutual" = some (.ref fM)) : FnOk P w K mg base CX0 6 f fd ["_law_stream", "_law_many"] (spGd K) := by
  refine F.ok scGd (fun vs H Q E h => ?_) (fun cdv A outer s H vs Q E hr h => ?_)
  · obtain ⟨a, b, B, many, rfl, _⟩ := h
    rfl
  · obtain ⟨a, b, B, many, rfl, S, hmany, hB, k⟩ := h
    have nd := scGd.nd
    refine ⟨_, (pss_cons (ps_set (i := 2) nd rfl (Or.inl rfl) (pe_call GN (hr.mono (by decide)) rfl gN kN bN .nil pass0 (pa_cons (pv 0) (pa_cons (pv 1) pa_nil))))
      (pss_cons (ps_if (pt_cmpR op_eq (pe_call GD (hr.mono (by decide)) rfl gD kD bD .nil pass0 (pa_cons (pv 0) (pa_cons pe_int pa_nil))) pe_int (nomark _)) (pss_one (ps_ret (pe_tup (pa_cons (pv 2) (pa_cons (pe_ix ix_tup (pe_call GP (hr.mono (by decide)) rfl gP kP bP .nil pass0 (pa_cons (pv 0) (pa_cons (pv 2) (pa_cons (pe_call GD (hr.mono (by decide)) rfl gD kD bD .nil pass0 (pa_cons (pv 0) (pa_cons pe_int pa_nil))) pa_nil)))) pe_int (fun _ _ => rfl)) pa_nil))))) pss_nil)
      (pss_one (ps_ret (pe_tup (pa_cons (pv 2) (pa_cons (pe_call GM (hr.mono (by decide)) rfl gM kM bM .nil pass0 (pa_cons (pv 0) (pa_cons (pv 2) (pa_cons (pe_op op_add pe_int (pe_call GD (hr.mono (by decide)) rfl gD kD bD .nil pass0 (pa_cons (pv 0) (pa_cons pe_int pa_nil)))) pa_nil)))) pa_nil))))))), ?_⟩

    refine ⟨_, rfl, _, rfl, a, b, B, many, rfl, S, by omega, hmany, fun H1 pa ns ln ndn gn fpa hpa S1 kb1 => ?_⟩
    obtain ⟨paa, pab⟩ := S.nd fpa
    refine ⟨_, rfl, a, b, _, 3, rfl, S1, by omega, by decide, by decide, fun H2 d d0 d1 S2 kb2 => ?_⟩
    have hpa2 := kb2 _ _ paa pab hpa
    have kb12 := kb1.trans kb2
    refine ⟨rfl, _, rfl, ?_⟩
    by_cases c : V.int d = V.int 0
    · rw [decide_eq_true c]
      refine iteT ⟨_, rfl, _, rfl, _, rfl, _, rfl, a, b, _, 6, rfl, S2, by omega, by decide, by decide, fun H3 e e0 e1 S3 kb3 => ?_⟩
      obtain ⟨sh, rfl⟩ := Int.eq_ofNat_of_zero_le e0
      have hpa3 := kb3 _ _ paa pab hpa2
      have kb13 := kb12.trans kb3
      refine ⟨a, b, pa, _, sh, ns, rfl, S3, paa, pab, hpa3, ndn, by omega, by omega, by omega, fun H4 t D x y rw_ bs S4 kb4 nt ht R => ?_⟩
      have hpa4 := kb4 _ _ paa pab hpa3
      have back : ∀ c, H3 c = none → H c = none := fun c h => kb_free kb13 S3.na.1 S3.na.2 h
      refine ⟨t, _, 0, _, rfl, rfl, SqT.of ht, rfl, (show 2 ≤ sizeLine by decide), fun t2 nt2 => ?_⟩
      have s5 := sameUp (o := .tup [V.ref pa, .ref D]) nt2
      exact k _ t2 pa D ns rw_ bs ((S4.ext (ExtN.of s5)).up (by omega)) ((kb13.trans kb4).trans (KeepBut.same s5)) upd_same ln ⟨ndn, gn, by omega⟩ fpa (s5 _ _ hpa4) ((R.back back).fwd s5)
    · rw [decide_eq_false c]
      refine iteF ⟨_, rfl, _, rfl, _, rfl, _, rfl, a, b, _, 5, rfl, S2, by omega, by decide, by decide, fun H3 e e0 e1 S3 kb3 => ?_⟩
      obtain ⟨sh, rfl⟩ := Int.eq_ofNat_of_zero_le e0
      have hpa3 := kb3 _ _ paa pab hpa2
      have kb13 := kb12.trans kb3
      refine ⟨_, _, rfl, rfl, a, b, pa, _, sh + 2, ns, ?_, S3, paa, pab, hpa3, ndn, by omega, by omega, by omega, fun H4 D rw_ bs S4 kb4 R => ?_⟩
      · exact congrArg (fun z => [V.ref a, V.ref pa, V.int z]) (by push_cast; omega)
      have hpa4 := kb4 _ _ paa pab hpa3
      have back : ∀ c, H3 c = none → H c = none := fun c h => kb_free kb13 S3.na.1 S3.na.2 h
      refine ⟨(show 2 ≤ sizeLine by decide), fun t2 nt2 => ?_⟩
      have s5 := sameUp (o := .tup [V.ref pa, .ref D]) nt2
      exact k _ t2 pa D ns rw_ bs ((S4.ext (ExtN.of s5)).up (by omega)) ((kb13.trans kb4).trans (KeepBut.same s5)) upd_same ln ⟨ndn, gn, by omega⟩ fpa (s5 _ _ hpa4) ((R.back back).fwd s5)
end
end Mn
/-! list(zip(xs, ys)) -/
namespace Zp
open PySem PySem.W PySem.Calls PyProof.Rows PyProof.V PySem.Spec
abbrev ZipF (h : Heap) (z TI TO a : Addr) (f : Bool) : Prop :=
  h.get? z = some { cls := .type "zip", dict := none, data := .fields #[rawInt a, .bool f, .bool false, .ref TI, .ref TO], slots := #[] }
section
variable {prog : Program} {w : World} {A : Around} {E : Value → Shared → Prop} {s : Shared}
theorem taken {z TI TO a : Addr} {f : Bool} {oa : Obj} {Q' : Bool → Shared → Prop} (hz : ZipF s.heap z TI TO a f) (ha : s.heap.get? a = some oa)
    (h : ∀ h₁ : Heap, ZipF h₁ z TI TO a true → Heap.SameBut z s.heap h₁ → Q' false { s with heap := h₁ }) : wpAny (model prog w) A (Builtin.SmallTypes.ownedTupleIsFree (.ref z)) Q' E s := by
  unfold Builtin.SmallTypes.ownedTupleIsFree
  refine wpAny_bind (wpAny_field hz rfl (x := rawInt a) rfl ?_)
  show wpAny _ _ (loadIfAlive ((a : Int).toNat) >>= _) _ _ _
  rw [Int.toNat_natCast]
  refine wpAny_bind (kdx_alive ha ?_)
  simp only [Option.isNone_some, Bool.false_eq_true, if_false]
  refine wpAny_bind (wpAny_field hz rfl (x := .bool f) rfl ?_)
  cases f with
  | true =>
    rw [if_neg (show ¬ ((Value.bool true != Value.bool true) = true) from Bool.false_ne_true)]
    exact wpAny_pure (h _ hz (Heap.SameBut.refl _ _))
  | false =>
    rw [if_pos (show (Value.bool false != Value.bool true) = true from rfl)]
    refine wpAny_bind (wpAny_setField_rec hz (by simp) fun h₃ he₃ hs₃ => ?_)
    exact wpAny_pure (h h₃ he₃ hs₃)
theorem zip_next_out {z TI TO i1 i2 l1 l2 a : Addr} {f : Bool} {oa : Obj} {k1 k2 : Nat} {xs ys : Array Value} {x y : Value} {Q : Value → Shared → Prop} (D : ZipApart z TI TO i1 i2 l1 l2)
    (hz : ZipF s.heap z TI TO a f) (ha : s.heap.get? a = some oa) (hTI : IsPair s.heap TI (.ref i1) (.ref i2))
    (h1 : s.heap.IsListIter i1 l1 k1) (h2 : s.heap.IsListIter i2 l2 k2) (hl1 : s.heap.IsList l1 xs) (hl2 : s.heap.IsList l2 ys) (hx : xs[k1]? = some x) (hy : ys[k2]? = some y)
    (hQ : ∀ h', ZipF h' z TI TO a true → h'.IsListIter i1 l1 (k1 + 1) → h'.IsListIter i2 l2 (k2 + 1) → IsPair h' s.heap.objs.size x y → h'.objs.size = s.heap.objs.size + 1 →
      (∀ c o, c ≠ z → c ≠ i1 → c ≠ i2 → s.heap.get? c = some o → h'.get? c = some o) → Q (.ref s.heap.objs.size) { s with heap := h' }) :
    wpAny (model prog w) A (Builtin.«zip.__next__» ⟨[.ref z], []⟩) (fun fin s' => ∃ v, fin = .done (.ret v) ∧ Q v s') E s := by
  show wpAny _ _ (field (.ref z) 2 >>= _) _ _ _
  refine wpAny_bind (wpAny_field hz rfl (x := .bool false) rfl ?_)
  show wpAny _ _ (field (.ref z) 3 >>= _) _ _ _
  refine wpAny_bind (wpAny_field hz rfl (x := .ref TI) rfl ?_)
  refine wpAny_bind (wpAny_seqItems hTI rfl ?_)
  show wpAny _ _ (Builtin.SmallTypes.ownedTupleIsFree (.ref z) >>= _) _ _ _
  refine wpAny_bind (taken hz ha fun h₁ hz₁ hs₁ => ?_)
  simp only [Bool.false_eq_true, if_false]
  refine wpAny_bind ?_
  simp only [← Array.forIn_toList, List.forIn_cons, List.forIn_nil]
  refine wpAny_bind (wpAny_bind (wpAny_holding ?_))
  show wpAny _ _ (Builtin.SmallTypes.nextOf (.ref i1) >>= _) _ _ _
  refine wpAny_bind (wpAny_nextOf_list_item (h1.extBut hs₁.extBut D.i1z) (hl1.extBut hs₁.extBut D.l1z) hx fun h₂ h1₂ hs₂ => wpAny_pure ?_)
  refine wpAny_pure ?_
  refine wpAny_bind (wpAny_bind (wpAny_holding ?_))
  show wpAny _ _ (Builtin.SmallTypes.nextOf (.ref i2) >>= _) _ _ _
  refine wpAny_bind (wpAny_nextOf_list_item ((h2.extBut hs₁.extBut D.i2z).extBut hs₂.extBut D.i12.symm) ((hl2.extBut hs₁.extBut D.l2z).extBut hs₂.extBut D.l2i1) hy fun h₄ h2₄ hs₄ => wpAny_pure ?_)
  refine wpAny_pure (wpAny_pure ?_)
  refine wpAny_bind (wpAny_newTuple (hsz := (show 2 ≤ sizeLine by decide)) ?_)
  have hsz : h₄.objs.size = s.heap.objs.size := by rw [hs₄.1, hs₂.1, hs₁.1]
  have hz₄ : ZipF h₄ z TI TO a true := hs₄.extBut _ _ D.i2z.symm (hs₂.extBut _ _ D.i1z.symm hz₁)
  refine wpAny_pure ⟨_, rfl, ?_⟩
  show Q (.ref h₄.objs.size) _
  have hT : (h₄.push { cls := .type "tuple", data := .seq #[x, y] }).get? h₄.objs.size = some { cls := .type "tuple", data := .seq #[x, y] } := Heap.get?_push_size _ rfl
  rw [hsz] at hT ⊢
  refine hQ (h₄.push { cls := .type "tuple", data := .seq #[x, y] }) (Heap.get?_push_of_some _ hz₄) ((h1₂.extBut hs₄.extBut D.i12).at fun o e => Heap.get?_push_of_some _ e) (h2₄.at fun o e => Heap.get?_push_of_some _ e) hT (by rw [Heap.size_push, hsz]) fun c o c1 c3 c4 e => ?_
  exact Heap.get?_push_of_some _ (hs₄.extBut _ _ c4 (hs₂.extBut _ _ c3 (hs₁.extBut _ _ c1 e)))
theorem zip_end_out {z TI TO i1 i2 l1 l2 a : Addr} {f : Bool} {oa : Obj} {k1 k2 : Nat} {xs ys : Array Value} {Q : PySem.Fin → Shared → Prop} (hh : A.handled = none) (D : ZipApart z TI TO i1 i2 l1 l2)
    (hz : ZipF s.heap z TI TO a f) (ha : s.heap.get? a = some oa) (hTI : IsPair s.heap TI (.ref i1) (.ref i2))
    (h1 : s.heap.IsListIter i1 l1 k1) (h2 : s.heap.IsListIter i2 l2 k2) (hl1 : s.heap.IsList l1 xs) (hl2 : s.heap.IsList l2 ys) (hend : xs[k1]? = none ∨ ys[k2]? = none)
    (hE : ∀ h' e, (∀ c o, c ≠ z → c ≠ i1 → c ≠ i2 → s.heap.get? c = some o → h'.get? c = some o) → (∃ o, h'.get? e = some o ∧ o.cls = .type "StopIteration") → E (.ref e) { s with heap := h' }) :
    wpAny (model prog w) A (Builtin.«zip.__next__» ⟨[.ref z], []⟩) Q E s := by
  show wpAny _ _ (field (.ref z) 2 >>= _) _ _ _
  refine wpAny_bind (wpAny_field hz rfl (x := .bool false) rfl ?_)
  show wpAny _ _ (field (.ref z) 3 >>= _) _ _ _
  refine wpAny_bind (wpAny_field hz rfl (x := .ref TI) rfl ?_)
  refine wpAny_bind (wpAny_seqItems hTI rfl ?_)
  show wpAny _ _ (Builtin.SmallTypes.ownedTupleIsFree (.ref z) >>= _) _ _ _
  refine wpAny_bind (taken hz ha fun h₁ hz₁ hs₁ => ?_)
  simp only [Bool.false_eq_true, if_false]
  refine wpAny_bind ?_
  simp only [← Array.forIn_toList, List.forIn_cons, List.forIn_nil]
  refine wpAny_bind (wpAny_bind (wpAny_holding ?_))
  show wpAny _ _ (Builtin.SmallTypes.nextOf (.ref i1) >>= _) _ _ _
  cases hx : xs[k1]? with
  | none =>
    refine wpAny_bind (wpAny_nextOf_list_end hh (h1.extBut hs₁.extBut D.i1z) (hl1.extBut hs₁.extBut D.l1z) hx fun h₂ e hs₂ he => ?_)
    exact hE h₂ e (fun c o c1 c3 _ x => hs₂ _ _ c3 (hs₁.extBut _ _ c1 x)) he
  | some x =>
    have hy : ys[k2]? = none := by rcases hend with h | h; rw [hx] at h; cases h; exact h
    refine wpAny_bind (wpAny_nextOf_list_item (h1.extBut hs₁.extBut D.i1z) (hl1.extBut hs₁.extBut D.l1z) hx fun h₂ h1₂ hs₂ => wpAny_pure ?_)
    refine wpAny_pure ?_
    refine wpAny_bind (wpAny_bind (wpAny_holding ?_))
    show wpAny _ _ (Builtin.SmallTypes.nextOf (.ref i2) >>= _) _ _ _
    refine wpAny_bind (wpAny_nextOf_list_end hh ((h2.extBut hs₁.extBut D.i2z).extBut hs₂.extBut D.i12.symm) ((hl2.extBut hs₁.extBut D.l2z).extBut hs₂.extBut D.l2i1) hy fun h₄ e hs₄ he => ?_)
    exact hE h₄ e (fun c o c1 c3 c4 x => hs₄ _ _ c4 (hs₂.extBut _ _ c3 (hs₁.extBut _ _ c1 x))) he
/-- what stands of a zip whose tuples are kept -/
structure Zst (h : Heap) (z TI TO i1 i2 l1 l2 : Addr) (xs ys : Array Value) (i : Nat) (S : Addr) : Prop where
  z : (i = 0 ∧ IsZip h z TI TO .none ∧ ∃ a b, IsPair h TO a b) ∨ ∃ a f o, ZipF h z TI TO a f ∧ h.get? a = some o ∧ a ≠ z ∧ a ≠ i1 ∧ a ≠ i2 ∧ a ≠ S
  t : IsPair h TI (.ref i1) (.ref i2)
  a : h.IsListIter i1 l1 i
  b : h.IsListIter i2 l2 i
  x : h.IsList l1 xs
  y : h.IsList l2 ys
theorem Zst.keep {h h' : Heap} {z TI TO i1 i2 l1 l2 S : Addr} {xs ys : Array Value} {i : Nat} (Z : Zst h z TI TO i1 i2 l1 l2 xs ys i S) (hk : ∀ b o, b ≠ S → h.get? b = some o → h'.get? b = some o) (n : ∀ c ∈ [z, TI, TO, i1, i2, l1, l2], c ≠ S) : Zst h' z TI TO i1 i2 l1 l2 xs ys i S := by
  have n' : ∀ {c}, c ∈ [z, TI, TO, i1, i2, l1, l2] → ∀ o, h.get? c = some o → h'.get? c = some o := fun hc o e => hk _ o (n _ hc) e
  refine ⟨?_, n' (by simp) _ Z.t, Z.a.at fun o e => n' (by simp) o e, Z.b.at fun o e => n' (by simp) o e, Z.x.at fun o e => n' (by simp) o e, Z.y.at fun o e => n' (by simp) o e⟩
  rcases Z.z with ⟨e, hz, a, b, ht⟩ | ⟨a, f, o, hz, ha, n1, n2, n3, n4⟩
  · exact .inl ⟨e, n' (by simp) _ hz, a, b, n' (by simp) _ ht⟩
  · exact .inr ⟨a, f, o, n' (by simp) _ hz, hk _ _ n4 ha, n1, n2, n3, n4⟩
theorem zst_item {z TI TO i1 i2 l1 l2 S : Addr} {xs ys : Array Value} {i : Nat} {x y : Value} {Q : Option Value → Shared → Prop} (D : ZipApart z TI TO i1 i2 l1 l2) (Z : Zst s.heap z TI TO i1 i2 l1 l2 xs ys i S) (hS : S < s.heap.objs.size) (hx : xs[i]? = some x) (hy : ys[i]? = some y)
    (hQ : ∀ h', Zst h' z TI TO i1 i2 l1 l2 xs ys (i + 1) S → IsPair h' s.heap.objs.size x y → h'.objs.size = s.heap.objs.size + 1 →
      (∀ c o, c ≠ z → c ≠ TO → c ≠ i1 → c ≠ i2 → s.heap.get? c = some o → h'.get? c = some o) → Q (some (.ref s.heap.objs.size)) { s with heap := h' }) :
    wpAny (model prog w) A (pyNext (.ref z)) Q E s := by
  have lt : ∀ {c o}, s.heap.get? c = some o → s.heap.objs.size ≠ c := fun e => Nat.ne_of_gt (Heap.lt_size e)
  have li1 : s.heap.objs.size ≠ i1 := by obtain ⟨_, e, _⟩ := Z.a; exact lt e
  have li2 : s.heap.objs.size ≠ i2 := by obtain ⟨_, e, _⟩ := Z.b; exact lt e
  rcases Z.z with ⟨rfl, hz, a, b, ht⟩ | ⟨a, f, o, hz, ha, n1, n2, n3, n4⟩
  · refine wpAny_pyNext_zip_item D hz Z.t ht Z.a Z.b Z.x Z.y hx hy fun h' a1 a2 a3 a4 a5 a6 hk => hQ h' ⟨.inr ⟨_, false, _, a1, a5, lt hz, li1, li2, Nat.ne_of_gt hS⟩, hk _ _ D.TIz D.TITO D.TIi1 D.TIi2 Z.t, a3, a4, Z.x.at fun o e => hk _ o D.l1z D.l1TO D.l1i1 D.l1i2 e, Z.y.at fun o e => hk _ o D.l2z D.l2TO D.l2i1 D.l2i2 e⟩ a5 a6 hk
  · have hT : s.TypeIs (.ref z) "zip" := ⟨_, hz, rfl⟩
    unfold pyNext
    exact wpAny_bind (wpAny_attempt (wpAny_callSpecial?_slot (name := Str.ofString "__next__") hT PySem.F.slot_zip_next
      (wpAny_call_entry PySem.F.slot_zip_next hT PySem.F.entry_zip_next
        (zip_next_out D hz ha Z.t Z.a Z.b Z.x Z.y hx hy fun h' a1 a2 a3 a4 a5 hk => wpAny_pure (hQ h' ⟨.inr ⟨a, true, o, a1, hk _ _ n1 n2 n3 ha, n1, n2, n3, n4⟩, hk _ _ D.TIz D.TIi1 D.TIi2 Z.t, a2, a3, Z.x.at fun o e => hk _ o D.l1z D.l1i1 D.l1i2 e, Z.y.at fun o e => hk _ o D.l2z D.l2i1 D.l2i2 e⟩ a4 a5 fun c o c1 _ c3 c4 e => hk c o c1 c3 c4 e)) (PySem.F.args_zip_next_1 _))))
theorem zst_done {z TI TO i1 i2 l1 l2 S : Addr} {xs ys : Array Value} {i : Nat} {Q : Option Value → Shared → Prop} (hh : A.handled = none) (D : ZipApart z TI TO i1 i2 l1 l2) (Z : Zst s.heap z TI TO i1 i2 l1 l2 xs ys i S) (hend : xs[i]? = none ∨ ys[i]? = none)
    (hQ : ∀ h', (∀ c o, c ≠ z → c ≠ TO → c ≠ i1 → c ≠ i2 → s.heap.get? c = some o → h'.get? c = some o) → Q none { s with heap := h' }) : wpAny (model prog w) A (pyNext (.ref z)) Q E s := by
  rcases Z.z with ⟨rfl, hz, a, b, ht⟩ | ⟨a, f, o, hz, ha, n1, n2, n3, n4⟩
  · exact wpAny_pyNext_zip_end hh D hz Z.t ht Z.a Z.b Z.x Z.y hend hQ
  · have hT : s.TypeIs (.ref z) "zip" := ⟨_, hz, rfl⟩
    unfold pyNext
    refine wpAny_bind (wpAny_attempt (wpAny_callSpecial?_slot (name := Str.ofString "__next__") hT PySem.F.slot_zip_next
      (wpAny_call_entry PySem.F.slot_zip_next hT PySem.F.entry_zip_next (zip_end_out hh D hz ha Z.t Z.a Z.b Z.x Z.y hend fun h' e hk he => ?_) (PySem.F.args_zip_next_1 _))))
    obtain ⟨o, ho, hc⟩ := he
    refine wpAny_bind (wpAny_isInstance (T := "StopIteration") (b := true) ⟨o, ho, hc⟩ isSubtype_stop ?_)
    exact wpAny_pure (hQ _ fun c o c1 _ c3 c4 e => hk c o c1 c3 c4 e)
/-- the tuples that were laid -/
structure ZpG (xs ys : Array Value) (lo : Addr) (h : Heap) (as : List Addr) : Prop where
  rise : as.Pairwise (· < ·)
  above : ∀ a ∈ as, lo < a
  pairs : ∀ (j : Nat) (a : Addr), as[j]? = some a → ∃ x y, xs[j]? = some x ∧ ys[j]? = some y ∧ h.get? a = some { cls := .type "tuple", data := .seq #[x, y] }
theorem ZpG.there {xs ys : Array Value} {lo : Addr} {h : Heap} {as : List Addr} (g : ZpG xs ys lo h as) {a : Addr} (ha : a ∈ as) : a < h.objs.size := by
  obtain ⟨j, hj⟩ := List.mem_iff_getElem?.mp ha
  obtain ⟨_, _, _, _, e⟩ := g.pairs j a hj
  exact Heap.lt_size e
end
section
variable {prog : Program} {w : World} {A : Around} {s : Shared} {R : Result → Shared → Prop}
theorem zp_loop {S z TI TO i1 i2 l1 l2 : Addr} {xs ys : Array Value} (hh : A.handled = none) (D : ZipApart z TI TO i1 i2 l1 l2) (nS : ∀ c ∈ [z, TI, TO, i1, i2, l1, l2], c < S) (hl : ys.size = xs.size) (hn : xs.size ≤ sizeLine) (res : Value) {h₁ : Heap}
    (hR : ∀ h' tk acc c as, (∀ b o, b ≠ S → b ≠ z → b ≠ TO → b ≠ i1 → b ≠ i2 → h₁.get? b = some o → h'.get? b = some o) → h'.get? S = some { cls := .type "list", dict := none, data := .seq acc c, slots := #[] } → as.length = xs.size → ZpG xs ys S h' as →
      acc.toList = as.map Value.ref → R (.ok (.ret res)) { s with heap := h', toks := tk }) :
    ∀ (k i : Nat) (h : Heap) (tk c : Nat) (acc : Array Value) (as : List Addr), xs.size - i = k → i ≤ xs.size → Zst h z TI TO i1 i2 l1 l2 xs ys i S → (∀ b o, b ≠ S → b ≠ z → b ≠ TO → b ≠ i1 → b ≠ i2 → h₁.get? b = some o → h.get? b = some o) →
      h.get? S = some { cls := .type "list", dict := none, data := .seq acc c, slots := #[] } → acc.toList = as.map Value.ref → as.length = i → ZpG xs ys S h as →
      codeAny (model prog w) A (.builtin "list.extend.loop" ⟨[.ref S, .ref z, res], []⟩) R { s with heap := h, toks := tk } := by
  have ne : ∀ {c}, c ∈ [z, TI, TO, i1, i2, l1, l2] → c ≠ S := fun hc => Nat.ne_of_lt (nS _ hc)
  have gt : ∀ {a c}, c ∈ [z, TI, TO, i1, i2, l1, l2] → S < a → a ≠ c := fun hc h => Nat.ne_of_gt (Nat.lt_trans (nS _ hc) h)
  intro k
  induction k with
  | zero =>
    intro i h tk c acc as hk hi hst hkeep hS hacc hal hG
    have hin : i = xs.size := by omega
    refine codeAny_builtin PySem.F.entry_extend_loop ?_
    rw [Around.under_plainId PySem.F.plain_extend_loop _]
    show wpAny _ A.in1 (pyNext (.ref z) >>= _) _ _ _
    refine wpAny_bind (zst_done (s := { s with heap := h, toks := tk }) (A := A.in1) hh D hst (.inl (Array.getElem?_eq_none (by omega))) fun h' he => ?_)
    have up : ∀ {a o}, S < a → h.get? a = some o → h'.get? a = some o := fun {a o} ha e => he a o (gt (by simp) ha) (gt (by simp) ha) (gt (by simp) ha) (gt (by simp) ha) e
    refine wpAny_pure (hR h' tk acc c as (fun b o n1 n2 n3 n4 n5 e => he b o n2 n3 n4 n5 (hkeep b o n1 n2 n3 n4 n5 e)) (he S _ (ne (by simp)).symm (ne (by simp)).symm (ne (by simp)).symm (ne (by simp)).symm hS) (by omega) ⟨hG.rise, hG.above, fun j a hj => ?_⟩ hacc)
    obtain ⟨x, y, e1, e2, e3⟩ := hG.pairs j a hj
    exact ⟨x, y, e1, e2, up (hG.above a (List.mem_of_getElem? hj)) e3⟩
  | succ k ih =>
    intro i h tk c acc as hk hi hst hkeep hS hacc hal hG
    have hlt : i < xs.size := by omega
    obtain ⟨x, hx⟩ : ∃ x, xs[i]? = some x := ⟨xs[i], Array.getElem?_eq_getElem hlt⟩
    obtain ⟨y, hy⟩ : ∃ y, ys[i]? = some y := ⟨ys[i]'(by omega), Array.getElem?_eq_getElem _⟩
    have hsz : acc.size = i := by rw [← Array.length_toList, hacc, List.length_map, hal]
    have hSl : S < h.objs.size := Heap.lt_size hS
    refine codeAny_builtin PySem.F.entry_extend_loop ?_
    rw [Around.under_plainId PySem.F.plain_extend_loop _]
    show wpAny _ A.in1 (pyNext (.ref z) >>= _) _ _ _
    refine wpAny_bind (zst_item (s := { s with heap := h, toks := tk }) (S := S) D hst hSl hx hy fun h' hst' ht hz hkp => ?_)
    dsimp only at ht hz hkp ⊢
    have hS' := hkp S _ (ne (by simp)).symm (ne (by simp)).symm (ne (by simp)).symm (ne (by simp)).symm hS
    have up : ∀ b o, b ≠ S → h'.get? b = some o → (h'.update S (Obj.mapSeq (·.push (Value.ref h.objs.size)))).get? b = some o := fun b o hb e => (Heap.get?_update_other _ _ (Ne.symm hb)).trans e
    show wpAny _ A.in1 (updateSeq S (·.push (Value.ref h.objs.size)) >>= _) _ _ _
    refine wpAny_bind ?_
    refine wpAny_updateSeq hS' rfl (wpAny_pure ⟨plainId_quiet PySem.F.plain_extend_loop _, ih (i + 1) _ tk _ (acc.push (Value.ref h.objs.size)) (as ++ [h.objs.size]) (by omega) hlt (hst'.keep up fun c hc => ne hc)
      (fun b o n1 n2 n3 n4 n5 e => up b o n1 (hkp b o n2 n3 n4 n5 (hkeep b o n1 n2 n3 n4 n5 e))) (Heap.get?_update_self _ hS' rfl) (by rw [Array.toList_push, hacc, List.map_append]; rfl) (by rw [List.length_append, hal]; rfl) ⟨?_, ?_, ?_⟩⟩) (by rw [hsz]; omega) (by show (acc.push (Value.ref h.objs.size)).size ≤ sizeLine + 1; rw [Array.size_push, hsz]; omega)
    · refine List.pairwise_append.mpr ⟨hG.rise, List.pairwise_singleton _ _, fun a ha b hb => ?_⟩
      rw [List.mem_singleton.mp hb]
      exact hG.there ha
    · intro a ha
      rcases List.mem_append.mp ha with ha | ha
      · exact hG.above a ha
      · rw [List.mem_singleton.mp ha]; exact hSl
    · intro j b hj
      rcases Nat.lt_trichotomy j as.length with h1 | h1 | h1
      · rw [List.getElem?_append_left h1] at hj
        obtain ⟨x', y', e1, e2, e3⟩ := hG.pairs j b hj
        have hb := hG.above b (List.mem_of_getElem? hj)
        exact ⟨x', y', e1, e2, up b _ (Nat.ne_of_gt hb) (hkp b _ (gt (by simp) hb) (gt (by simp) hb) (gt (by simp) hb) (gt (by simp) hb) e3)⟩
      · subst h1
        have hb : h.objs.size = b := by simpa using hj
        subst hb
        exact ⟨x, y, by rw [hal]; exact hx, by rw [hal]; exact hy, up _ _ (Nat.ne_of_gt hSl) ht⟩
      · have hnone : (as ++ [h.objs.size])[j]? = none := List.getElem?_eq_none (by rw [List.length_append, List.length_singleton]; omega)
        rw [hnone] at hj; cases hj
end
theorem zip_len : typeLookup (.type "zip") "__len__" = pure none := by rw [typeLookup_type, builtinLookup_eq_fast]; kernel_rfl
theorem zip_hint : typeLookup (.type "zip") "__length_hint__" = pure none := by rw [typeLookup_type, builtinLookup_eq_fast]; kernel_rfl
section
variable {prog : Program} {w : World} {A : Around} {E : Value → Shared → Prop} {s : Shared}
theorem zp_hint {z : Addr} (hT : s.TypeIs (.ref z) "zip") {Q : Bool → Shared → Prop} (h : Q true s) : wpAny (model prog w) A (Builtin.List.listLengthHint (.ref z)) Q E s := by
  unfold Builtin.List.listLengthHint
  refine wpAny_bind (wpAny_specialOf hT zip_len ?_)
  wp_delta
  refine wpAny_ite_split (fun hab => absurd hab (by decide)) (fun _ => ?_)
  refine wpAny_ite_split (fun hab => absurd hab (by decide)) (fun _ => ?_)
  refine wpAny_bind (wpAny_specialOf hT zip_hint ?_)
  exact wpAny_pure h
variable {z TI TO i1 i2 l1 l2 : Addr} {xs ys : Array Value}
theorem ZpG.low {lo lo' : Addr} {h : Heap} {as : List Addr} (g : ZpG xs ys lo h as) (hl : lo' ≤ lo) : ZpG xs ys lo' h as := ⟨g.rise, fun a ha => Nat.lt_of_le_of_lt hl (g.above a ha), g.pairs⟩
theorem zp_extend {R : Result → Shared → Prop} (hh : A.handled = none) (D : ZipApart z TI TO i1 i2 l1 l2) (S : Addr) (nS : ∀ c ∈ [z, TI, TO, i1, i2, l1, l2], c < S) (hl : ys.size = xs.size) (hn : xs.size ≤ sizeLine) (Z : Zst s.heap z TI TO i1 i2 l1 l2 xs ys 0 S) (hz0 : IsZip s.heap z TI TO .none) (res : Value) (c₀ : Nat) (hS : s.heap.get? S = some { cls := .type "list", data := .seq #[] c₀ })
    (hR : ∀ h' tk acc c as, (∀ b o, b ≠ S → b ≠ z → b ≠ TO → b ≠ i1 → b ≠ i2 → s.heap.get? b = some o → h'.get? b = some o) → h'.get? S = some { cls := .type "list", dict := none, data := .seq acc c, slots := #[] } → as.length = xs.size → ZpG xs ys S h' as →
      acc.toList = as.map Value.ref → R (.ok (.ret res)) { s with heap := h', toks := tk }) :
    wpAny (model prog w) A.in1 (Builtin.List.listExtendWith (.ref S) (.ref z) res)
      (fun fin s' => match fin with | .done f => R (.ok f) s' | .again c' => c'.quiet = true ∧ codeAny (model prog w) A c' R s') (fun e s' => R (.error e) s') s := by
  have ne : ∀ {c}, c ∈ [z, TI, TO, i1, i2, l1, l2] → c ≠ S := fun hc => Nat.ne_of_lt (nS _ hc)
  have hz : IsZip s.heap z TI TO .none := by
    exact hz0
  have key : ∀ (h : Heap) (c₁ tk : Nat), (∀ b o, b ≠ S → s.heap.get? b = some o → h.get? b = some o) →
      h.get? S = some { cls := .type "list", data := .seq #[] c₁ } → codeAny (model prog w) A (.builtin "list.extend.loop" ⟨[.ref S, .ref z, res], []⟩) R { s with heap := h, toks := tk } := by
    intro h c₁ tk hk hS₁
    exact zp_loop (s := s) (h₁ := s.heap) hh D nS hl hn res hR xs.size 0 h tk c₁ #[] [] (Nat.sub_zero _) (Nat.zero_le _) (Z.keep hk fun c hc => ne hc) (fun b o hb _ _ _ _ e => hk b o hb e) hS₁ rfl rfl
      ⟨List.Pairwise.nil, (fun _ ha => nomatch ha), (fun j a hj => by simp at hj)⟩
  have hT : s.TypeIs (.ref z) "zip" := ⟨_, hz, rfl⟩
  unfold Builtin.List.listExtendWith
  refine wpAny_bind (wpAny_typeOf (T := "zip") hT ?_)
  have h1 : Builtin.List.listSameRef (.ref S) (.ref z) = false := by simp [Builtin.List.listSameRef, (ne (by simp : z ∈ [z, TI, TO, i1, i2, l1, l2])).symm]
  have h2 : (Value.type "zip" == Value.type "list") = false := by decide
  have h3 : (Value.type "zip" == Value.type "tuple") = false := by decide
  simp only [h1, h2, h3, Bool.or_false, Bool.false_eq_true, if_false]
  refine wpAny_bind (wpAny_pyIter_zip hz ?_)
  refine wpAny_bind (wpAny_holding (zp_hint hT ?_))
  refine wpAny_ite_split (fun _ => ?_) (fun _ => wpAny_pure ⟨plainId_quiet PySem.F.plain_extend_loop _, key _ c₀ _ (fun b o _ e => e) hS⟩)
  refine wpAny_bind (wpAny_rule ?_)
  refine wpAny_bind ?_
  show wpAny _ _ (updateSeq S (·.push .none) >>= fun _ => updateSeq S (·.pop)) _ _ _
  refine wpAny_bind (wpAny_updateSeq hS rfl ?_)
  have hS₂ := Heap.get?_update_self (Obj.mapSeq (·.push Value.none)) hS rfl
  refine wpAny_updateSeq (hz := by seq_fits) hS₂ rfl ?_
  have hS₃ := Heap.get?_update_self (Obj.mapSeq (·.pop)) hS₂ rfl
  refine wpAny_pure ⟨plainId_quiet PySem.F.plain_extend_loop _, key _ _ _ (fun b o hb e => ?_) hS₃⟩
  exact (Heap.get?_update_other _ _ (Ne.symm hb)).trans ((Heap.get?_update_other _ _ (Ne.symm hb)).trans e)
theorem zp_init {R : Result → Shared → Prop} (hh : A.handled = none) (D : ZipApart z TI TO i1 i2 l1 l2) (S : Addr) (nS : ∀ c ∈ [z, TI, TO, i1, i2, l1, l2], c < S) (hl : ys.size = xs.size) (hn : xs.size ≤ sizeLine) (Z : Zst s.heap z TI TO i1 i2 l1 l2 xs ys 0 S) (hz0 : IsZip s.heap z TI TO .none) (hS : s.heap.get? S = some { cls := .type "list", data := .seq #[] })
    (hR : ∀ h' tk acc c as, (∀ b o, b ≠ S → b ≠ z → b ≠ TO → b ≠ i1 → b ≠ i2 → s.heap.get? b = some o → h'.get? b = some o) → h'.get? S = some { cls := .type "list", dict := none, data := .seq acc c, slots := #[] } → as.length = xs.size → ZpG xs ys S h' as →
      acc.toList = as.map Value.ref → R (.ok (.ret .none)) { s with heap := h', toks := tk }) :
    wpAny (model prog w) A.in1 (Builtin.«list.__init__» ⟨[.ref S, .ref z], []⟩)
      (fun fin s' => match fin with | .done f => R (.ok f) s' | .again c' => c'.quiet = true ∧ codeAny (model prog w) A c' R s') (fun e s' => R (.error e) s') s := by
  have ne : ∀ {c}, c ∈ [z, TI, TO, i1, i2, l1, l2] → c ≠ S := fun hc => Nat.ne_of_lt (nS _ hc)
  show wpAny _ _ (do let old ← Builtin.List.listItems (.ref S); Builtin.List.listUpdate (.ref S) (fun _ => #[]); letGo old.toList.reverse; Builtin.List.listExtendWith (.ref S) (.ref z) .none) _ _ s
  refine wpAny_bind ?_
  unfold Builtin.List.listItems
  refine wpAny_bind (wpAny_seqItems hS rfl (wpAny_pure ?_))
  show wpAny _ _ (updateSeq S (fun _ => #[]) >>= fun _ => letGo (#[] : Array Value).toList.reverse >>= fun _ => Builtin.List.listExtendWith (.ref S) (.ref z) .none) _ _ s
  refine wpAny_bind (wpAny_updateSeq hS rfl ?_)
  have hS₂ := Heap.get?_update_self (Obj.mapSeq (fun _ => (#[] : Array Value))) hS rfl
  have oth : ∀ b o, b ≠ S → s.heap.get? b = some o → (s.heap.update S (Obj.mapSeq (fun _ => (#[] : Array Value)))).get? b = some o :=
    fun b o hb e => (Heap.get?_update_other _ _ (Ne.symm hb)).trans e
  refine wpAny_bind (wpAny_letGo ?_)
  exact zp_extend (s := { s with heap := s.heap.update S (Obj.mapSeq (fun _ => (#[] : Array Value))) }) hh D S nS hl hn (Z.keep oth fun c hc => ne hc) (oth _ _ (ne (by simp)) hz0) .none _ hS₂ fun h' tk acc c as hk hS' hl' hG hacc => hR h' tk acc c as (fun b o n1 n2 n3 n4 n5 e => hk b o n1 n2 n3 n4 n5 (oth b o n1 e)) hS' hl' hG hacc
theorem zp_call {Q : Value → Shared → Prop} (hh : A.handled = none) (D : ZipApart z TI TO i1 i2 l1 l2) (nS : ∀ c ∈ [z, TI, TO, i1, i2, l1, l2], c < s.heap.objs.size) (hl : ys.size = xs.size) (hn : xs.size ≤ sizeLine) (hz : IsZip s.heap z TI TO .none) (hTI : IsPair s.heap TI (.ref i1) (.ref i2)) {a b : Value} (hTO : IsPair s.heap TO a b) (h1 : s.heap.IsListIter i1 l1 0) (h2 : s.heap.IsListIter i2 l2 0) (hx : s.heap.IsList l1 xs) (hy : s.heap.IsList l2 ys)
    (hQ : ∀ h' tk acc c as, (∀ b o, b ≠ z → b ≠ TO → b ≠ i1 → b ≠ i2 → s.heap.get? b = some o → h'.get? b = some o) → h'.get? s.heap.objs.size = some { cls := .type "list", dict := none, data := .seq acc c, slots := #[] } → as.length = xs.size → ZpG xs ys s.heap.objs.size h' as →
      acc.toList = as.map Value.ref → Q (.ref s.heap.objs.size) { s with heap := h', toks := tk }) :
    wpAny (model prog w) A (call (.type "list") [.ref z]) Q E s := by
  refine callType_codes (Q₁ := fun obj s₁ => obj = .ref s.heap.objs.size ∧ s₁ = { s with heap := s.heap.push { cls := .type "list", data := .seq #[] } }) PySem.F.called_list (PySem.F.typeCall_list_1 _) PySem.F.entry_list_init
    (code_list_new _ ⟨rfl, rfl⟩) fun obj s₁ h₁ => ?_
  obtain ⟨rfl, rfl⟩ := h₁
  have hS : (s.heap.push { cls := .type "list", data := .seq #[] }).get? s.heap.objs.size = some { cls := .type "list", data := .seq #[] } := Heap.get?_push_size _ rfl
  have ps : ∀ {c o}, s.heap.get? c = some o → (s.heap.push { cls := .type "list", data := .seq #[] }).get? c = some o := fun e => Heap.get?_push_of_some _ e
  refine ⟨⟨_, hS, rfl⟩, PySem.F.args_list_init_2 _ _, zp_init (A := A.in1) (s := { s with heap := s.heap.push { cls := .type "list", data := .seq #[] } }) hh D s.heap.objs.size nS hl hn ⟨.inl ⟨rfl, ps hz, a, b, ps hTO⟩, ps hTI, h1.at fun o e => ps e, h2.at fun o e => ps e, hx.at fun o e => ps e, hy.at fun o e => ps e⟩ (ps hz) hS fun h' tk acc c as hk hS' hl' hG hacc => ?_⟩
  exact ⟨rfl, hQ h' tk acc c as (fun b o n2 n3 n4 n5 e => hk b o (Nat.ne_of_lt (Heap.lt_size e)) n2 n3 n4 n5 (ps e)) hS' hl' hG hacc⟩
end
end Zp
namespace Zp
open PySem PySem.Spec PyProof.Rows L2
/-- the tuples tracked at their addresses -/
def putP : Hp → List Addr → List (V × V) → Hp
  | H, a :: as, p :: kvs => putP (upd H a (.tup [p.1, p.2])) as kvs
  | H, _, _ => H
theorem putP_off {b : Addr} : ∀ (as : List Addr) (kvs : List (V × V)) (H : Hp), b ∉ as → putP H as kvs b = H b
  | [], _, _, _ => rfl
  | _ :: _, [], _, _ => rfl
  | a :: as, p :: kvs, H, h => by
    show putP (upd H a (.tup [p.1, p.2])) as kvs b = H b
    rw [putP_off as kvs _ (fun z => h (List.mem_cons_of_mem _ z)), upd_ne (fun z => h (by rw [z]; exact List.mem_cons_self))]
theorem putP_at : ∀ (as : List Addr) (kvs : List (V × V)) (H : Hp), as.length = kvs.length → as.Nodup → Paired (fun (t : Addr) (p : V × V) => putP H as kvs t = some (.tup [p.1, p.2])) as kvs
  | [], [], _, _, _ => .nil
  | [], _ :: _, _, h, _ => by cases h
  | _ :: _, [], _, h, _ => by cases h
  | a :: as, p :: kvs, H, h, hn => by
    have hn' := List.nodup_cons.mp hn
    have ih := putP_at as kvs (upd H a (.tup [p.1, p.2])) (Nat.succ.inj h) hn'.2
    refine .cons ?_ ih
    show putP (upd H a (.tup [p.1, p.2])) as kvs a = some (.tup [p.1, p.2])
    rw [putP_off as kvs _ hn'.1, upd_same]
def tListZip (K : PySem.W.Frag) (ta : TA) : TE := fun σ H Q => ta σ H fun vs H1 => ∃ a b xs ys, vs = [.ref a, .ref b] ∧ SqL K H1 a xs ∧ SqL K H1 b ys ∧ ys.length = xs.length ∧ xs.length ≤ sizeLine ∧
  ∀ (H' : Hp) (p : Addr) (ts : List Addr), (∀ b o, H1 b = some o → H' b = some o) → H1 p = none → (∀ t ∈ ts, H1 t = none) → p ∉ ts → H' p = some (.lst (ts.map V.ref)) → Paired (fun (t : Addr) (q : V × V) => H' t = some (.tup [q.1, q.2])) ts (xs.zip ys) → Q (.ref p) H'
section
variable {X : Cx}
theorem zip_laid {pins : List (Addr × Obj)} {σ : L2.St} {H : Hp} {s : Shared} {h' : Heap} {tk : Nat} {xs ys : List V} {us vs : List Value} {S : Addr} {acc : Array Value} {c : Nat} {as : List Addr} (I : Inv X pins σ H s) (hx : Vals xs us) (hy : Vals ys vs) (hl : ys.length = xs.length) (hz : xs.length ≤ sizeLine) (hle : s.heap.objs.size ≤ S)
    (hk : ∀ b o, s.heap.get? b = some o → h'.get? b = some o) (hS : h'.get? S = some { cls := .type "list", dict := none, data := .seq acc c, slots := #[] }) (hal : as.length = us.length) (hG : ZpG us.toArray vs.toArray S h' as) (hacc : acc.toList = as.map Value.ref) :
    ∃ H' : Hp, (∀ b o, H b = some o → H' b = some o) ∧ H S = none ∧ (∀ t ∈ as, H t = none) ∧ S ∉ as ∧ H' S = some (.lst (as.map V.ref)) ∧ Paired (fun (t : Addr) (q : V × V) => H' t = some (.tup [q.1, q.2])) as (xs.zip ys) ∧ Inv X pins σ H' { s with heap := h', toks := tk } := by
  have lx : xs.length = us.length := hx.length
  have ly : ys.length = vs.length := hy.length
  have lk : (xs.zip ys).length = as.length := by rw [List.length_zip]; omega
  have hSn : S ∉ as := fun z => Nat.lt_irrefl _ (hG.above _ z)
  have nd : as.Nodup := List.Pairwise.imp (fun {a b} (h : a < b) => Nat.ne_of_lt h) hG.rise
  have new : ∀ t ∈ as, H t = none := fun t ht => I.hok.fresh (Nat.le_of_lt (Nat.lt_of_le_of_lt hle (hG.above t ht)))
  have newS : H S = none := I.hok.fresh hle
  have atP := putP_at as (xs.zip ys) (upd H S (.lst (as.map V.ref))) lk.symm nd
  have off : ∀ b, b ∉ as → b ≠ S → putP (upd H S (.lst (as.map V.ref))) as (xs.zip ys) b = H b := fun b h1 h2 => by rw [putP_off as _ _ h1, upd_ne h2]
  have low : ∀ b o, s.heap.get? b = some o → b ∉ as ∧ b ≠ S := fun b o e => ⟨fun z => absurd (Heap.lt_size e) (Nat.not_lt.mpr (Nat.le_of_lt (Nat.lt_of_le_of_lt hle (hG.above b z)))), Nat.ne_of_lt (Nat.lt_of_lt_of_le (Heap.lt_size e) hle)⟩
  have kp : ∀ b u, H b = some u → (putP (upd H S (.lst (as.map V.ref))) as (xs.zip ys)) b = some u := fun b u e => by
    rw [off b (fun z => by rw [new b z] at e; cases e) (fun z => by rw [z, newS] at e; cases e)]
    exact e
  have eS : putP (upd H S (.lst (as.map V.ref))) as (xs.zip ys) S = some (.lst (as.map V.ref)) := by rw [putP_off as _ _ hSn, upd_same]
  refine ⟨putP (upd H S (.lst (as.map V.ref))) as (xs.zip ys), kp, newS, new, hSn, eS, atP, ?_⟩
  refine I.call' (ch := []) rfl ⟨fun b o q _ _ _ => hk b o q, fun b o q _ _ _ => ⟨o.slots, hk b o q⟩, fun b o q n _ => ?_, fun b o q _ => ⟨o, hk b o q⟩, fun b xs q => kp b _ q, fun b o u q => kp b _ q, fun b ps q => ⟨#[], by rw [kp b _ q]; simp⟩⟩ (fun b u q => ?_) I.bare fun b z => by simp at z
  · obtain ⟨z1, z2⟩ := low b o q
    rw [off b z1 z2]
    exact n
  · by_cases hb : b ∈ as
    · obtain ⟨j, pk, e1, e2, e3⟩ := LiI.paired_ix atP hb
      rw [e3] at q
      cases q
      obtain ⟨x, y, f1, f2, f3⟩ := hG.pairs j b e1
      obtain ⟨h1, h2⟩ := List.getElem?_zip_eq_some.mp e2
      obtain ⟨u1, g1, g2⟩ := LiI.paired_get hx h1
      obtain ⟨u2, g3, g4⟩ := LiI.paired_get hy h2
      have ex : u1 = x := by
        have : us[j]? = some x := by simpa using f1
        rw [g1] at this
        exact Option.some.inj this
      have ey : u2 = y := by
        have : vs[j]? = some y := by simpa using f2
        rw [g3] at this
        exact Option.some.inj this
      subst ex ey
      exact ⟨by show 2 ≤ sizeLine; decide, [u1, u2], .cons g2 (.cons g4 .nil), ⟨_, f3, rfl, _, rfl⟩⟩
    · by_cases hb2 : b = S
      · rw [hb2] at q ⊢
        rw [eS] at q
        cases q
        refine ⟨by rw [List.length_map]; omega, acc.toList, c, by rw [hacc]; exact LiI.vals_refs as, ?_⟩
        rw [Array.toArray_toList]
        exact hS
      · rw [off b hb hb2] at q
        exact (I.hok b u q).stay (fun d v _ y => hk d v y) (fun d y => kp d _ y) fun d xs y => kp d _ y
/-- list(zip(e, e2)) -/
theorem pe_listZip {e e2 : Expr} {ta : TA} {p p2 cpos pos : Pos} (hc : X.calm = true) (ha : PA X [e, e2] ta) (hg : Gl X "list") (hm : X.mg "list" = none) (hv : bootBuiltins "list" = some (.type "list")) (hgz : Gl X "zip") (hmz : X.mg "zip" = none)
    (hs : starEach [.Call (.Name "zip" p2) [e, e2] [] cpos] X.env = (false, eval (.Call (.Name "zip" p2) [e, e2] [] cpos) X.env) :: starEach [] X.env := by rfl)
    (hs2 : starEach [e, e2] X.env = (false, eval e X.env) :: starEach [e2] X.env := by rfl) (hpl : (backTo cpos (starEach [e2] X.env)).any (·.1) = false := by rfl) :
    PE X (.Call (.Name "list" p) [.Call (.Name "zip" p2) [e, e2] [] cpos] [] pos) (tListZip X.K ta) := by
  refine ⟨fun pins s σ H Q I hq => ?_⟩
  refine wpAny_Call_Name_kw (ld_blt I hg hm hv ?_)
  refine PyProof.Rows.callWith_type1 ?_ hs rfl
  rw [hs]
  show wpAny _ _ (spliced ((false, eval (.Call (.Name "zip" p2) [e, e2] [] cpos) X.env) :: backTo pos (starEach [] X.env))) _ _ s
  refine Calls.spliced_cons ?_
  refine wpAny_Call_Name_kw (ld_blt I hgz hmz PyProof.Rows.boot_zip (PyProof.Rows.callWith_type1 (thn (ha.run cpos pins s σ H _ I hq) fun us s1 ⟨vs, H1, I1, r1, q1⟩ => ?_) hs2 hpl))
  obtain ⟨a, b, xs, ys, ex, hqx, hqy, hl, hn, q⟩ := q1
  subst ex
  cases r1 with
  | cons r rr =>
    cases rr with
    | cons r' rr =>
      cases rr
      cases r
      cases r'
      obtain ⟨its, rv, p1, _⟩ := I1.list hqx
      obtain ⟨its2, rv2, p2, _⟩ := I1.list hqy
      have la : a < s1.heap.objs.size := p1.lt
      have lb : b < s1.heap.objs.size := p2.lt
      refine call_zip_2 p1.isList p2.isList fun h' hz hTI hTO h1 h2 hsz hk => ?_
      refine Calls.spliced_nil ?_
      have lx : xs.length = its.length := rv.length
      have ly : ys.length = its2.length := rv2.length
      refine zp_call (s := { s1 with heap := h' }) (I1.ok.hd hc) (PySem.W.ktu_apart s1.heap.objs.size a b la lb) (fun c hcm => ?_) (by simp; omega) (by simp; omega) hz hTI hTO h1 h2 (p1.isList.at fun o e => hk _ o e) (p2.isList.at fun o e => hk _ o e) fun h'' tk acc c as hk2 hS hal hG hacc => ?_
      · show c < h'.objs.size
        rw [hsz]
        simp only [List.mem_cons, List.not_mem_nil, or_false] at hcm
        rcases hcm with z | z | z | z | z | z | z <;> rw [z]
        · exact Nat.add_lt_add_left (by decide : 4 < 5) _
        · exact Nat.add_lt_add_left (by decide : 2 < 5) _
        · exact Nat.add_lt_add_left (by decide : 3 < 5) _
        · exact Nat.lt_add_of_pos_right (by decide)
        · exact Nat.add_lt_add_left (by decide : 1 < 5) _
        · exact Nat.lt_of_lt_of_le la (Nat.le_add_right _ _)
        · exact Nat.lt_of_lt_of_le lb (Nat.le_add_right _ _)
      · have hS' : h''.get? (s1.heap.objs.size + 5) = some { cls := .type "list", dict := none, data := .seq acc c, slots := #[] } := by
          have := hS
          dsimp only at this
          rw [hsz] at this
          exact this
        have hG' : ZpG its.toArray its2.toArray (s1.heap.objs.size + 5) h'' as := by
          have := hG
          dsimp only at this
          rw [hsz] at this
          exact this
        have hk3 : ∀ b o, s1.heap.get? b = some o → h''.get? b = some o := fun b o e => by
          have lt := Heap.lt_size e
          have ne : ∀ k, b ≠ s1.heap.objs.size + k := fun k => Nat.ne_of_lt (Nat.lt_of_lt_of_le lt (Nat.le_add_right _ _))
          exact hk2 b o (ne 4) (ne 3) (ne 0) (ne 1) (hk b o e)
        obtain ⟨H', k1, k2, k3, k4, k5, k6, J⟩ := zip_laid (tk := tk) I1 rv rv2 hl hn (Nat.le_add_right _ _) hk3 hS' (by simpa using hal) hG' hacc
        have q' := q H' _ as k1 k2 k3 k4 k5 k6
        refine ⟨.ref (s1.heap.objs.size + 5), H', J, ?_, q'⟩
        show Value.ref h'.objs.size = Value.ref (s1.heap.objs.size + 5)
        rw [hsz]
end
end Zp
/-! _law_parties -/
namespace Mn
open PySem PySem.Spec PyProof.Rows L2 Md Me Ml LamX Mi Mo
abbrev sPar : Stmt := top 63
abbrev parN : List Str := ["_law_rows", "_law_left", "_law_people", "_law_found", "_law_other"]
theorem scPar : FnScope parN ["_law_rows", "_law_left"] (defScope sPar) := ⟨rfl, rfl, rfl, by decide +kernel, rfl, by decide +kernel, by decide +kernel⟩
/-- from all people to unlike ones -/
structure NxD (H0 H : Hp) (ys : List Str) (R : Str → List Str) (d : Addr) : Prop where
  f : H0 d = none
  ex : ∃ nx : Str → Str, H d = some (.dK (dcOf ys fun y => .str (nx y))) ∧ Perm1 ys nx ∧ ∀ y ∈ ys, nx y = y ∨ nx y ∈ R y
def spPar (n : Nat) : Sp := fun vs H Q _ => ∃ (rd ld : Addr) (ys : List Str) (cp : Str → Addr) (R : Str → List Str) (l : List Str), vs = [.ref rd, .ref ld] ∧ Tbl H rd ys cp R ∧ GoodNs ys ∧ ShOk ys R ∧ ys.length ≤ 5 ∧ H ld = some (.lst (l.map V.str)) ∧ l.length + n = ys.length ∧ l.Nodup ∧ (∀ (i : Nat) (y z : Str), ys[i]? = some y → l[i]? = some z → z = y ∨ z ∈ R y) ∧
  ∀ (H' : Hp) (q : Addr) (ds : List Addr), Same H H' → H q = none → H' q = some (.lst (ds.map V.ref)) → ds.length ≤ 5 ^ n → (∀ d ∈ ds, NxD H H' ys R d) → Q (.ref q) H'
def spPrevP : Nat → Sp
  | 0 => fun _ _ _ _ => False
  | n + 1 => spPar n
theorem paired_dc {K : PySem.W.Frag} {H : Hp} {nx : Str → Str} : ∀ {ys : List Str} {ts : List Addr}, Paired (fun (t : Addr) (q : V × V) => H t = some (.tup [q.1, q.2])) ts ((ys.map V.str).zip ((ys.map nx).map V.str)) → Paired (fun p kv => SqT K H p [L2.kV kv.1, kv.2]) ts (dcOf ys fun y => .str (nx y))
  | [], ts, h => by
    cases h
    exact .nil
  | y :: ys, _, h => by
    cases h with
    | cons h1 h2 => exact .cons (SqT.of h1) (paired_dc h2)
theorem NxD.ext {H0 H H' : Hp} {ys : List Str} {R : Str → List Str} {d : Addr} (h : NxD H0 H ys R d) (s : ∀ o, H d = some o → H' d = some o) : NxD H0 H' ys R d :=
  ⟨h.f, h.ex.imp fun nx h => ⟨s _ h.1, h.2⟩⟩
section
variable {P : Program} {w : World} {K : PySem.W.Frag} {mg : Str → Option Value} {base : Heap}
theorem par_step {n : Nat} {f : Addr} {fd : FuncData} (F : Fun K "_law_parties" "_law_parties" sPar f fd) (bP : Binds K fd ["_law_rows", "_law_left"] []) (gP : mg "_law_parties" = some (.ref f)) (GP : FnOk P w K mg base CX0 (n + 1) f fd ["_law_rows", "_law_left"] (spPrevP n))
    (gList : mg "list" = none) (gDict : mg "dict" = none) (gZip : mg "zip" = none) (gLen : mg "len" = none) : FnOk P w K mg base CX0 (n + 2) f fd ["_law_rows", "_law_left"] (spPar n) := by
  refine F.ok scPar (fun vs H Q E h => ?_) (fun cdv A outer s H vs Q E hr h => ?_)
  · obtain ⟨rd, ld, ys, cp, R, l, rfl, _⟩ := h
    rfl
  · obtain ⟨rd, ld, ys, cp, R, l, rfl, TB, gn, SO, l5, hld, hln, ndl, may, k⟩ := h
    have nd := scPar.nd
    have hu := hu_of hr
    have kP := F.kp
    refine ⟨_, (pss_cons (ps_set (i := 2) nd rfl (Or.inl rfl) (pe_callTy (call_listD rfl) rfl gList boot_list (pa_cons (pv 0) pa_nil)))
      (pss_cons (ps_if (pt_cmpR op_eq (pe_callB call_len_seq (by rfl) gLen PySem.boot_len (pa_cons (pv 1) pa_nil)) (pe_callB call_len_seq (by rfl) gLen PySem.boot_len (pa_cons (pv 2) pa_nil)) (nomark _)) (pss_one (ps_ret (pe_lst (pa_cons (pe_callTy (call_dictP rfl) rfl gDict boot_dict2 (pa_cons (Zp.pe_listZip rfl (pa_cons (pv 2) (pa_cons (pv 1) pa_nil)) rfl gList boot_list rfl gZip) pa_nil)) pa_nil)))) pss_nil)
      (pss_cons (ps_set (i := 3) nd rfl (Or.inl rfl) (pe_lst pa_nil))
      (pss_cons (ps_for PassesOwn.never rfl (pi_list (pe_op op_cat (pe_lst (pa_cons (pe_ix ix_list (pv 2) (pe_callB call_len_seq (by rfl) gLen PySem.boot_len (pa_cons (pv 1) pa_nil)) (fun _ _ => rfl)) pa_nil)) (pe_dget hu (pv 0) (pe_ix ix_list (pv 2) (pe_callB call_len_seq (by rfl) gLen PySem.boot_len (pa_cons (pv 1) pa_nil)) (fun _ _ => rfl)) (fun _ _ => rfl)))) (pg_name (i := 4) nd rfl (Or.inl rfl)) (pss_one (ps_if (pt_cmpR op_notIn_seq (pv 4) (pv 1) (by with_unfolding_all rfl)) (pss_one (ps_expr (pe_bm PySem.F.plainAttrs_list PySem.F.slot_list_extend PySem.F.type_list_extend mt_extend (pv 3) (pa_cons (pe_call GP (hr.mono (by omega)) rfl gP kP bP .nil pass0 (pa_cons (pv 0) (pa_cons (pe_op op_cat (pv 1) (pe_lst (pa_cons (pv 4) pa_nil))) pa_nil))) pa_nil)))) pss_nil)))
      (pss_one (ps_ret (pv 3))))))), ?_⟩

    have ndy := gn.nd
    refine ⟨_, rfl, rd, _, rfl, .inl TB.d, fun pl npl => ?_⟩
    have ek : ((dcOf ys fun y => V.ref (cp y)).map fun kv => L2.kV kv.1) = ys.map V.str := by
      unfold dcOf
      rw [List.map_map]
      rfl
    rw [ek]
    have s1 := sameUp (o := .lst (ys.map V.str)) npl
    have hpl : upd H pl (.lst (ys.map V.str)) pl = some (.lst (ys.map V.str)) := upd_same
    generalize upd H pl (.lst (ys.map V.str)) = H1 at s1 hpl ⊢
    have hld1 := s1 _ _ hld
    refine ⟨_, rfl, ld, _, rfl, .inl (SqL.of hld1), _, rfl, pl, _, rfl, .inl (SqL.of hpl), rfl, ?_⟩
    have eqd : decide (V.int ((l.map V.str).length : Nat) = V.int ((ys.map V.str).length : Nat)) = decide (l.length = ys.length) := by
      rw [List.length_map, List.length_map]
      exact decide_eq_decide.mpr ⟨fun h => by have := V.int.inj h; omega, fun h => by rw [h]⟩
    rw [eqd]
    by_cases c : n = 0
    · rw [decide_eq_true (by omega)]
      obtain ⟨nx, rfl⟩ := exists_pp (α := Str) (cs := l) (ts := ys) (by omega) ndy
      refine ⟨true, rfl, iteT ⟨_, rfl, _, rfl, pl, ld, _, _, rfl, SqL.of hpl, SqL.of hld1, by simp, Nat.le_trans (show (ys.map V.str).length ≤ 9000 by rw [List.length_map]; omega) (by decide), fun H2 p ts s2 fp ft pt hp pz => ?_⟩⟩
      refine ⟨p, ts, _, rfl, SqL.of hp, paired_dc pz, fun D nD => ?_⟩
      rw [merge_dcOf ndy]
      have sD := sameUp (o := .dK (dcOf ys fun y => V.str (nx y))) nD
      have hD : upd H2 D (.dK (dcOf ys fun y => V.str (nx y))) D = some (.dK (dcOf ys fun y => V.str (nx y))) := upd_same
      have s2' : Same H H2 := s1.trans s2
      have s3 := s2'.trans sD
      have fD := s2'.free nD
      generalize upd H2 D (.dK (dcOf ys fun y => V.str (nx y))) = H3 at hD s3 ⊢
      refine ⟨(show 1 ≤ sizeLine by decide), fun q nq => ?_⟩
      have sq := sameUp (o := .lst [V.ref D]) nq
      have may' : ∀ y ∈ ys, nx y = y ∨ nx y ∈ R y := fun y hy => by
        obtain ⟨j, hj⟩ := List.getElem?_of_mem hy
        exact may j y (nx y) hj (by rw [List.getElem?_map, hj]; rfl)
      refine k _ q [D] (s3.trans sq) (s3.free nq) upd_same (Nat.one_le_pow _ _ (by decide)) fun d hd => ?_
      rw [List.mem_singleton.mp hd]
      refine ⟨fD, nx, sq _ _ hD, ⟨fun y hy => ?_, fun x hx y hy e => ?_⟩, may'⟩
      · rcases may' y hy with h | h
        · rw [h]
          exact hy
        · exact (SO.sub y _ h).2
      · obtain ⟨i, hi⟩ := List.getElem?_of_mem hx
        obtain ⟨j, hj⟩ := List.getElem?_of_mem hy
        have := (List.getElem?_inj (l := ys.map nx) (by rw [List.length_map]; exact (List.getElem?_eq_some_iff.mp hi).1) ndl).mp (show (ys.map nx)[i]? = (ys.map nx)[j]? by rw [List.getElem?_map, List.getElem?_map, hi, hj]; show some (nx x) = some (nx y); rw [e])
        subst this
        exact Option.some.inj (hi.symm.trans hj)
    · rw [decide_eq_false (by omega)]
      refine ⟨false, rfl, iteF ?_⟩
      obtain ⟨m, rfl⟩ := Nat.exists_eq_succ_of_ne_zero c
      obtain ⟨y0, hy0⟩ : ∃ y0, ys[l.length]? = some y0 := ⟨_, List.getElem?_eq_getElem (by omega)⟩
      have y0y := List.mem_of_getElem? hy0
      refine ⟨(show 0 ≤ sizeLine by decide), fun fl nfl => ?_⟩
      have s2 := sameUp (o := .lst []) nfl
      have hfl : upd H1 fl (.lst []) fl = some (.lst []) := upd_same
      have hpl2 := s2 _ _ hpl
      have s02 := s1.trans s2
      have ffl := s1.free nfl
      generalize upd H1 fl (.lst []) = H2 at hfl hpl2 s02 ⊢
      have hld2 := s02 _ _ hld
      have at1 : ∀ {H' : Hp}, atI (ys.map V.str) ((l.map V.str).length : Nat) = some (.str y0) := fun {H'} => by
        rw [List.length_map]
        exact atI_nat (j := l.length) (by rw [List.getElem?_map, hy0]; rfl)
      refine ⟨_, rfl, _, rfl, ld, _, rfl, .inl (SqL.of hld2), pl, _, _, _, rfl, rfl, SqL.of hpl2, at1 (H' := H2), (show 1 ≤ sizeLine by decide), fun a1 na1 => ?_⟩
      have s3 := sameUp (o := .lst [V.str y0]) na1
      have ha1 : upd H2 a1 (.lst [V.str y0]) a1 = some (.lst [V.str y0]) := upd_same
      have hfl3 := s3 _ _ hfl
      have hpl3 := s3 _ _ hpl2
      have s03 := s02.trans s3
      generalize upd H2 a1 (.lst [V.str y0]) = H3 at ha1 hfl3 hpl3 s03 ⊢
      have TB3 := TB.ext (ExtN.of s03)
      have lR : (y0 :: R y0).length ≤ 5 := Nat.le_trans (pigeon (List.nodup_cons.mpr ⟨SO.ir y0, SO.nd y0⟩) fun z hz => by
        rcases List.mem_cons.mp hz with rfl | hz
        · exact y0y
        · exact (SO.sub y0 z hz).2) l5
      refine ⟨_, rfl, _, rfl, _, rfl, ld, _, rfl, .inl (SqL.of (s03 _ _ hld)), pl, _, _, _, rfl, rfl, SqL.of hpl3, at1 (H' := H3), rd, .ref (cp y0), rfl, TB3.get ndy y0y, a1, cp y0, _, _, rfl, rfl, ha1, TB3.r y0 y0y, Nat.le_trans (show [V.str y0].length + ((R y0).map V.str).length ≤ 9000 by rw [List.length_map]; rw [List.length_cons] at lR; show 1 + (R y0).length ≤ 9000; omega) (by decide), fun a2 na2 => ?_⟩
      have s4 := sameUp (o := .lst ([V.str y0] ++ (R y0).map V.str)) na2
      have ha2 : upd H3 a2 (.lst ([V.str y0] ++ (R y0).map V.str)) a2 = some (.lst ((y0 :: R y0).map V.str)) := upd_same
      have hfl4 := s4 _ _ hfl3
      have s04 := s03.trans s4
      have fl2 : a2 ≠ fl := (ne_of_none hfl3 na2).symm
      generalize upd H3 a2 (.lst ([V.str y0] ++ (R y0).map V.str)) = H4 at ha2 hfl4 s04 ⊢
      have hmem : ∀ z ∈ y0 :: R y0, z = y0 ∨ z ∈ R y0 := fun z hz => List.mem_cons.mp hz
      generalize y0 :: R y0 = zs at ha2 lR hmem
      refine ⟨_, rfl, ⟨_, SqL.of ha2⟩, ?_⟩
      have pw : 5 ^ (m + 1) = 5 ^ m * 5 := Nat.pow_succ ..
      have pm : 5 ^ m ≤ 3125 := Nat.le_trans (Nat.pow_le_pow_right (by decide) (show m ≤ 5 by omega)) (by decide)
      have mulb : ∀ j, j ≤ 5 → j * 5 ^ m ≤ 5 * 3125 := fun j hj => Nat.mul_le_mul hj pm
      refine for_it (walk_list (xs := zs.map V.str)) (fun i σ H' => ∃ o4 ds, σ = [some (.ref rd), some (.ref ld), some (.ref pl), some (.ref fl), o4] ∧ Same H H' ∧ H' a2 = some (.lst (zs.map V.str)) ∧ H' fl = some (.lst (ds.map V.ref)) ∧ ds.length ≤ i * 5 ^ m ∧ ∀ d ∈ ds, NxD H H' ys R d) ⟨_, [], rfl, s04, ha2, hfl4, Nat.zero_le _, fun d hd => by cases hd⟩ (fun i σ H' _ h => SqL.of (by obtain ⟨_, _, _, _, h, _⟩ := h; exact h)) ?_ ?_
      · rintro i v σ H5 H6 hi ⟨o4, ds, rfl, s5, ha5, hfl5, lds, hds⟩ ⟨rfl, hv⟩
        rw [List.getElem?_map] at hv
        obtain ⟨z, hz, rfl⟩ := Option.map_eq_some_iff.mp hv
        have hil := (List.getElem?_eq_some_iff.mp hz).1
        have hld5 := s5 _ _ hld
        refine ⟨_, rfl, _, rfl, ld, _, rfl, .inl (SqL.of hld5), rfl, flat_strs _, ?_⟩
        show ∃ k, V.bl (!inV (V.str z) (l.map V.str)) = V.bl k ∧ _
        rw [inV_strs]
        have mi : (i + 1) * 5 ^ m = i * 5 ^ m + 5 ^ m := Nat.succ_mul ..
        by_cases d : z ∈ l
        · rw [decide_eq_true d]
          exact ⟨_, rfl, iteF ⟨_, ds, rfl, s5, ha5, hfl5, by omega, hds⟩⟩
        · rw [decide_eq_false d]
          refine ⟨_, rfl, iteT ⟨_, rfl, .inl ⟨rfl, _, SqL.of hfl5⟩, _, rfl, _, rfl, _, rfl, (show 1 ≤ sizeLine by decide), fun b1 nb1 => ?_⟩⟩
          have s6 := sameUp (o := .lst [V.str z]) nb1
          have hb1 : upd H6 b1 (.lst [V.str z]) b1 = some (.lst [V.str z]) := upd_same
          have hfl6 := s6 _ _ hfl5
          have ha6 := s6 _ _ ha5
          have s06 := s5.trans s6
          have hds6 : ∀ d ∈ ds, NxD H (upd H6 b1 (.lst [V.str z])) ys R d := fun d hd => (hds d hd).ext fun o e => s6 _ _ e
          generalize upd H6 b1 (.lst [V.str z]) = H7 at hb1 hfl6 ha6 s06 hds6 ⊢
          refine ⟨ld, b1, _, _, rfl, rfl, s06 _ _ hld, hb1, Nat.le_trans (show (l.map V.str).length + 1 ≤ 9000 by rw [List.length_map]; omega) (by decide), fun b2 nb2 => ?_⟩
          have s7 := sameUp (o := .lst (l.map V.str ++ [V.str z])) nb2
          have hb2 : upd H7 b2 (.lst (l.map V.str ++ [V.str z])) b2 = some (.lst ((l ++ [z]).map V.str)) := by
            rw [upd_same, List.map_append]
            rfl
          have hfl7 := s7 _ _ hfl6
          have ha7 := s7 _ _ ha6
          have s07 := s06.trans s7
          have hds7 : ∀ d ∈ ds, NxD H (upd H7 b2 (.lst (l.map V.str ++ [V.str z]))) ys R d := fun d hd => (hds6 d hd).ext fun o e => s7 _ _ e
          generalize upd H7 b2 (.lst (l.map V.str ++ [V.str z])) = H8 at hb2 hfl7 ha7 s07 hds7 ⊢
          refine ⟨rd, b2, ys, cp, R, l ++ [z], rfl, TB.ext (ExtN.of s07), gn, SO, l5, hb2, by rw [List.length_append]; show l.length + 1 + m = _; omega, List.nodup_append.mpr ⟨ndl, by simp, fun x h1 y h2 e => d (by rw [← List.mem_singleton.mp h2, ← e]; exact h1)⟩, fun j y z' h1 h2 => ?_, fun H9 q es s9 nq hq les hes => ?_⟩
          · rcases snoc_get h2 with ⟨hj, h2⟩ | ⟨hj, rfl⟩
            · exact may j y z' h1 h2
            · rw [hj, hy0] at h1
              cases h1
              exact hmem _ (List.mem_of_getElem? hz)
          · have hfl9 := s9 _ _ hfl7
            have bi := mulb (i + 1) (by rw [List.length_map] at hi; omega)
            refine ⟨fl, q, _, _, rfl, rfl, hfl9, hq, Nat.le_trans (show (ds.map V.ref).length + (es.map V.ref).length ≤ 20000 by rw [List.length_map, List.length_map]; omega) (by decide), ?_⟩
            have nfl_ : ∀ {H' : Hp} {d : Addr} {xs : List V}, H' fl = some (.lst xs) → NxD H H' ys R d → d ≠ fl := fun {H' d xs} e h w => by
              obtain ⟨nx, e1, _⟩ := h.ex
              rw [w, e] at e1
              cases e1
            have keep : ∀ {d}, NxD H H9 ys R d → NxD H (upd H9 fl (.lst (ds.map V.ref ++ es.map V.ref))) ys R d := fun {d} h => h.ext fun o e => (upd_ne (nfl_ hfl9 h)).trans e
            refine ⟨_, ds ++ es, rfl, fun c o e => ?_, (upd_ne fl2).trans (s9 _ _ ha7), by rw [upd_same, List.map_append], by rw [List.length_append]; omega, fun d hd => ?_⟩
            · rw [upd_ne (ne_of_none e ffl)]
              exact s9 _ _ (s07 _ _ e)
            · rcases List.mem_append.mp hd with h | h
              · exact keep ((hds7 d h).ext fun o e => s9 _ _ e)
              · exact keep ⟨s07.free (hes d h).f, (hes d h).ex⟩
      rintro σ H5 ⟨o4, ds, rfl, s5, ha5, hfl5, lds, hds⟩
      have bi := mulb zs.length lR
      have le5 : zs.length * 5 ^ m ≤ 5 * 5 ^ m := Nat.mul_le_mul_right _ lR
      rw [List.length_map] at lds
      exact ⟨_, rfl, k H5 fl ds s5 ffl hfl5 (by show ds.length ≤ 5 ^ (m + 1); omega) hds⟩
theorem ok_par {f : Addr} {fd : FuncData} (F : Fun K "_law_parties" "_law_parties" sPar f fd) (bP : Binds K fd ["_law_rows", "_law_left"] []) (gP : mg "_law_parties" = some (.ref f))
    (gList : mg "list" = none) (gDict : mg "dict" = none) (gZip : mg "zip" = none) (gLen : mg "len" = none) : ∀ n, FnOk P w K mg base CX0 (n + 2) f fd ["_law_rows", "_law_left"] (spPar n)
  | 0 => par_step F bP gP ⟨fun _ _ _ _ h => h.elim, fun _ _ _ _ _ _ _ _ _ _ _ _ _ h => h.elim⟩ gList gDict gZip gLen
  | n + 1 => par_step F bP gP (ok_par F bP gP gList gDict gZip gLen n) gList gDict gZip gLen
end
end Mn
/-! _law_told_right -/
namespace Mn
open PySem PySem.Spec PyProof.Rows L2 Md Me Ml LamX Mi Mo
abbrev sTld : Stmt := top 62
abbrev tldN : List Str := ["_law_stream", "_law_people", "_law_wishes", "_law_market", "_law_rows", "_law_due", "_law_again", "_law_told", "_law_person"]
theorem scTld : FnScope tldN ["_law_stream", "_law_people", "_law_wishes"] (defScope sTld) := ⟨rfl, rfl, rfl, by decide +kernel, rfl, by decide +kernel, by decide +kernel⟩
/-- two dicts of lists that hold the same -/
theorem dicts_sm {C0 : Addr} {H : Hp} {n : Nat} {D D' : Addr} {ys : List Str} {T T' : Str → List Str} {cp cp' : Str → Addr} (h : Tbl H D ys cp T) (h' : Tbl H D' ys cp' T') (e : ∀ y ∈ ys, T y = T' y) (hl : ys.length ≤ 63) (hr : ∀ y ∈ ys, (T y).length ≤ 63) :
    Sm C0 H (n + 4) (.ref D) (.ref D') := by
  have at_ : ∀ {c : Str → Addr} {i : Nat} {p : Key × V}, (dcOf ys fun y => V.ref (c y))[i]? = some p → ∃ y, ys[i]? = some y ∧ p = (Sum.inr y, .ref (c y)) := fun {c i p} h => by
    unfold dcOf at h
    rw [List.getElem?_map] at h
    obtain ⟨y, hy, rfl⟩ := Option.map_eq_some_iff.mp h
    exact ⟨y, hy, rfl⟩
  refine .dic (n := n + 1) h.d h'.d (by rw [dcOf_len, dcOf_len]) (by rw [dcOf_len]; omega) (fun i p q e1 e2 => ?_) fun i p q e1 e2 => ?_
  · obtain ⟨y, hy, rfl⟩ := at_ e1
    obtain ⟨z, hz, rfl⟩ := at_ e2
    rw [hy] at hz
    cases hz
    rfl
  · obtain ⟨y, hy, rfl⟩ := at_ e1
    obtain ⟨z, hz, rfl⟩ := at_ e2
    rw [hy] at hz
    cases hz
    have hm := List.mem_of_getElem? hy
    exact sm_strs (h.r y hm) (by rw [e y hm]; exact h'.r y hm) (by have := hr y hm; omega)
def spTld (T : List (Addr × Str)) : Sp := fun vs H Q _ => ∃ (a b pa wd : Addr) (B : Nat) (ns : List Str) (rw_ : Str → List Str) (as : List Addr), vs = [.ref a, .ref pa, .ref wd] ∧ Stm H a b B ∧ Tabs T H ∧ pa ≠ a ∧ pa ≠ b ∧ H pa = some (.lst (ns.map V.str)) ∧ RowsS a b H wd ns rw_ as ∧ GoodNs ns ∧ GoodRows ns rw_ ∧
  B + 3000000 ≤ 800000000000 ∧ ∀ (H' : Hp), UpS T a b H H' → Stm H' a b (B + 3000000) → Q (.bl true) H'
section
variable {P : Program} {w : World} {K : PySem.W.Frag} {mg : Str → Option Value} {base : Heap}
theorem ok_tld {T : List (Addr × Str)} {f fM fG fA fR fS C0 : Addr} {fd fdM fdG fdA fdR fdS : FuncData} (F : Fun K "_law_told_right" "_law_told_right" sTld f fd)
    (GM : FnOk P w K mg base CX0 8 fM fdM ["_law_stream", "_law_people", "_law_wishes"] (spMade K T C0)) (kM : PySem.W.keepIn K (.ref fM) = true) (bM : Binds K fdM ["_law_stream", "_law_people", "_law_wishes"] []) (gM : mg "_law_a_made" = some (.ref fM))
    (GG : FnOk P w K mg base CX0 1 fG fdG ["_law_people", "_law_wishes"] (spGro K)) (kG : PySem.W.keepIn K (.ref fG) = true) (bG : Binds K fdG ["_law_people", "_law_wishes"] []) (gG : mg "_law_g_rows" = some (.ref fG))
    (GA : FnOk P w K mg base CX0 3 fA fdA ["_law_stream", "_law_rows"] spAsd) (kA : PySem.W.keepIn K (.ref fA) = true) (bA : Binds K fdA ["_law_stream", "_law_rows"] []) (gA : mg "_law_asked" = some (.ref fA))
    (GR : FnOk P w K mg base (L2.CX P w) 6 fR fdR ["market"] (spArs K C0)) (kR : PySem.W.keepIn K (.ref fR) = true) (bR : Binds K fdR ["market"] []) (gR : mg "asked_rows" = some (.ref fR))
    (GS : FnOk P w K mg base CX0 10 fS fdS ["_law_found", "_law_due"] (spSame C0 7)) (kS : PySem.W.keepIn K (.ref fS) = true) (bS : Binds K fdS ["_law_found", "_law_due"] []) (gS : mg "_law_same" = some (.ref fS))
    (gRange : mg "range" = none) : FnOk P w K mg base CX0 11 f fd ["_law_stream", "_law_people", "_law_wishes"] (spTld T) := by
  refine F.ok scTld (fun vs H Q E h => ?_) (fun cdv A outer s H vs Q E hr h => ?_)
  · obtain ⟨a, b, pa, wd, B, ns, rw_, as, rfl, _⟩ := h
    rfl
  · obtain ⟨a, b, pa, wd, B, ns, rw_, as, rfl, S, hT, paa, pab, hpa, RS, gn, gr, hB, k⟩ := h
    have nd := scTld.nd
    have hu := hu_of hr
    have hu64 := hu64_of hr
    refine ⟨_, (pss_cons (ps_par (i := 3) (j := 4) rfl nd rfl rfl (by decide) rfl rfl (pa_cons (pe_call GM (hr.mono (by decide)) rfl gM kM bM .nil pass0 (pa_cons (pv 0) (pa_cons (pv 1) (pa_cons (pv 2) pa_nil)))) (pa_cons (pe_call GG (hr.mono (by decide)) rfl gG kG bG .nil pass0 (pa_cons (pv 1) (pa_cons (pv 2) pa_nil))) pa_nil)) rfl)
      (pss_cons (ps_set (i := 5) nd rfl (Or.inl rfl) (pe_call GA (hr.mono (by decide)) rfl gA kA bA .nil pass0 (pa_cons (pv 0) (pa_cons (pv 4) pa_nil))))
      (pss_cons (ps_for PassesOwn.never rfl (pi_range1 rfl gRange (pa_cons pe_int pa_nil)) (pg_name (i := 6) nd rfl (Or.inl rfl)) (pss_cons (ps_set (i := 7) nd rfl (Or.inl rfl) (pe_call GR (hr.mono (by decide)) rfl gR kR bR .nil passE0 (pa_cons (pv 3) pa_nil)))
      (pss_cons (ps_if (pt_not (pt_val (pe_call GS (hr.mono (by decide)) rfl gS kS bS .nil pass0 (pa_cons (pv 7) (pa_cons (pv 5) pa_nil))))) (pss_one (ps_ret pe_bl)) pss_nil)
      (pss_cons (ps_lock (ps_for PassesOwn.never rfl (pi_keys (pv 7)) (pg_name (i := 8) nd rfl (Or.inl rfl)) (pss_one (ps_expr (pe_bm PySem.F.plainAttrs_list PySem.F.slot_list_append PySem.F.type_list_append mt_append (pe_dget hu (pv 7) (pv 8) (fun _ _ => rfl)) (pa_cons pe_str pa_nil))))))
      (pss_one (ps_dput hu (pv 7) pe_str (pe_lst pa_nil) rfl))))))
      (pss_cons (ps_lock (ps_for PassesOwn.never rfl (pi_keys (pv 5)) (pg_name (i := 8) nd rfl (Or.inl rfl)) (pss_one (ps_if (PW.pt (pw_and (pt_cmpR (op_neD hu64) (pe_dget hu (pv 5) (pv 8) (fun _ _ => rfl)) (pe_lst pa_nil) (nomark _)) (pw_and1 (pt_cmpR op_ne (pe_ix ix_list (pe_dget hu (pv 5) (pe_ix ix_list (pe_dget hu (pv 5) (pv 8) (fun _ _ => rfl)) pe_int (fun _ _ => rfl)) (fun _ _ => rfl)) (pe_un un_neg pe_int) (fun _ _ => rfl)) (pv 8) (nomark _))))) (pss_one (ps_ret pe_bl)) pss_nil))))
      (pss_one (ps_ret (pe_call GS (hr.mono (by decide)) rfl gS kS bS .nil pass0 (pa_cons (pe_call GR (hr.mono (by decide)) rfl gR kR bR .nil passE0 (pa_cons (pe_call GM (hr.mono (by decide)) rfl gM kM bM .nil pass0 (pa_cons (pv 0) (pa_cons (pv 1) (pa_cons (pv 2) pa_nil)))) pa_nil)) (pa_cons (pv 5) pa_nil))))))))), ?_⟩

    have l63 := gn.l
    refine ⟨_, rfl, _, rfl, _, rfl, a, b, pa, wd, B, ns, rw_, as, rfl, S, hT, paa, pab, hpa, RS, gn, gr, by omega, fun H1 m my u1 S1 nm M1 K1 => ?_⟩
    have hpa1 := u1.e _ _ paa pab hpa ntb_lst
    have RS1 : RowsS a b H1 wd ns rw_ as := ⟨RS.l, u1.e _ _ RS.nD.1 RS.nD.2 RS.d ntb_dK, fun j n c h1 h2 => u1.e _ _ (RS.na c (List.mem_of_getElem? h2)).1 (RS.na c (List.mem_of_getElem? h2)).2 (RS.r j n c h1 h2) ntb_lst, RS.na, RS.nD⟩
    refine ⟨_, rfl, _, rfl, pa, wd, ns, rw_, rfl, hpa1, ⟨as, RS1.l, RS1.d, RS1.r⟩, gn, gr, fun H2 rd cp ss s2 nrd pss soss TB fcp => ?_⟩
    have mm : ∀ x, x ∈ ss ↔ x ∈ ns := fun x => pss.mem_iff
    have grs : GoodRows ss rw_ := fun y hy => ⟨(gr y ((mm y).mp hy)).nd, (gr y ((mm y).mp hy)).ne, fun x hx => (mm x).mpr ((gr y ((mm y).mp hy)).sub x hx)⟩
    have gns : GoodNs ss := ⟨pss.nodup_iff.mpr gn.nd, fun x hx => gn.g x ((mm x).mp hx), by rw [pss.length_eq]; exact l63⟩
    have lss := gns.l
    have nds := gns.nd
    have SO := shR_ok grs
    have S2 := S1.ext (ExtN.of s2)
    refine ⟨_, _, rfl, _, rfl, _, rfl, a, b, rd, _, ss, cp, shR ss rw_, rfl, S2, by omega, TB, gns, SO, fun H3 D cpd TT S3 kb3 AD => ?_⟩
    have u3 : UpS T a b H1 H3 := (UpS.same u1.t s2).trans (UpS.kb (UpS.same (a := a) (b := b) u1.t s2).t S2 kb3)
    have emy : my = ss := sorted_uniq (M1.pm.trans pss.symm) M1.so soss
    subst emy
    have lT : ∀ {T' : Str → List Str}, Ak.Run (shR my rw_) T' → ∀ z ∈ my, (T' z).length ≤ 63 := fun {T'} r => (cut_ok (f := (default : Str)) r.i.toTab SO lss).l
    have tsub : ∀ {T' : Str → List Str}, Ak.Run (shR my rw_) T' → ∀ y, ∀ z ∈ T' y, z ∈ my := fun {T'} r y z hz => (SO.sub y z (r.i.mem y z hz)).2
    have M3 : MkAt H3 C0 m ns my rw_ := K1 H3 fun q o q1 q2 e n => u3.e q o q1 q2 e n
    refine ⟨_, rfl, by decide, by decide, ?_⟩
    refine for_it (n := 2) walk_range (fun i σ H' => ∃ o6 o7 o8, σ = [some (.ref a), some (.ref pa), some (.ref wd), some (.ref m), some (.ref rd), some (.ref D), o6, o7, o8] ∧ Same H3 H') ⟨_, _, _, rfl, .refl _⟩ (fun _ _ _ _ _ => trivial) ?_ ?_
    · rintro i v σ H4 H5 hi ⟨o6, o7, o8, rfl, s4⟩ ⟨rfl, rfl⟩
      have M4 := M3.ext (ExtN.of s4)
      refine ⟨_, rfl, _, rfl, .inl ⟨m, ns, my, rw_, rfl, M4, gn, gr, fun H6 D2 cp2 T2 s6 A2 => ?_⟩⟩
      have TB6 := (AD.t.ext (ExtN.of s4)).ext (ExtN.of s6)
      have e2 : ∀ y, T2 y = TT y := fun y => Ak.Run.uniq A2.run A2.cl AD.run AD.cl y
      refine ⟨_, rfl, _, rfl, _, _, rfl, dicts_sm (n := 3) A2.t TB6 (fun y _ => e2 y) lss (lT A2.run), fun H7 s7 => ⟨true, rfl, iteF ?_⟩⟩
      have TB7 := A2.t.ext (ExtN.of s7)
      have s37 := (s4.trans s6).trans s7
      have fD : H3 D2 = none := s4.free A2.fD
      have fc : ∀ y ∈ my, H3 (cp2 y) = none := fun y hy => s4.free (A2.f y hy)
      refine ⟨D2, _, TB7.d, trivial, fun od => ?_⟩
      refine ⟨_, rfl, D2, od, rfl, .inl ⟨_, upd_same, ?_⟩⟩
      have dc : ∀ y ∈ my, cp2 y ≠ D2 := fun y hy z => by
        have := TB7.r y hy
        rw [z, TB7.d] at this
        cases this
      refine for_it walk_keys (fun j σ H' => ∃ o6 o8, σ = [some (.ref a), some (.ref pa), some (.ref wd), some (.ref m), some (.ref rd), some (.ref D), o6, some (.ref D2), o8] ∧ Same H3 H' ∧ H' D2 = some (.frz od (.dK (dcOf my fun y => V.ref (cp2 y)))) ∧ ∀ (l : Nat) (y : Str), j ≤ l → my[l]? = some y → H' (cp2 y) = some (.lst ((T2 y).map V.str))) ⟨_, _, rfl, fun c o e => ?_, upd_same, fun l y _ hy => ?_⟩ (fun j σ H' _ h => by obtain ⟨_, _, _, _, h, _⟩ := h; exact h) ?_ ?_
      · rw [upd_ne (ne_of_none e fD)]
        exact s37 _ _ e
      · have hy' := List.mem_of_getElem? hy
        exact (upd_ne (dc y hy')).trans (TB7.r y hy')
      · rintro j v σ H8 H9 hj ⟨o6, o8, rfl, s8, hD8, hl8⟩ ⟨rfl, k0, v0, hk, rfl⟩
        obtain ⟨p, hp, rfl, rfl⟩ := dcOf_at hk
        have hpy := List.mem_of_getElem? hp
        have hcp := hl8 j p (Nat.le_refl _) hp
        refine ⟨_, rfl, _, rfl, D2, .ref (cp2 p), rfl, ?_, .inl ⟨rfl, _, SqL.of hcp⟩, cp2 p, _, _, rfl, rfl, hcp, small1000 (by have := lT A2.run p hpy; rw [List.length_map]; omega), _, _, rfl, fun c o e => ?_, ?_, fun l y hl hy => ?_⟩
        · rw [← dcOf_some (g := fun y => V.ref (cp2 y)) nds hpy]
          exact dget_fz hD8
        · rw [upd_ne (ne_of_none e (fc p hpy))]
          exact s8 _ _ e
        · exact (upd_ne (dc p hpy).symm).trans hD8
        · refine (upd_ne fun z => ?_).trans (hl8 l y (by omega) hy)
          have := TB7.inj y (List.mem_of_getElem? hy) p hpy z
          subst this
          have := (List.getElem?_inj (List.getElem?_eq_some_iff.mp hp).1 nds).mp (hp.trans hy.symm)
          omega
      rintro σ H8 ⟨o6, o8, rfl, s8, hD8, _⟩
      refine ⟨hD8, ?_⟩
      have s9 : Same H3 (upd H8 D2 (.dK (dcOf my fun y => V.ref (cp2 y)))) := fun c o e => by
        rw [upd_ne (ne_of_none e fD)]
        exact s8 _ _ e
      have hD9 : upd H8 D2 (.dK (dcOf my fun y => V.ref (cp2 y))) D2 = some (.dK (dcOf my fun y => V.ref (cp2 y))) := upd_same
      generalize upd H8 D2 (.dK (dcOf my fun y => V.ref (cp2 y))) = H9 at s9 hD9 ⊢
      refine ⟨(show 0 ≤ sizeLine by decide), fun e ne => ?_⟩
      have se := sameUp (o := .lst []) ne
      have hDe := se _ _ hD9
      have s10 := s9.trans se
      generalize upd H9 e (.lst []) = HA at hDe s10 ⊢
      refine ⟨_, rfl, D2, _, rfl, DPut.k (k := Sum.inr "late") hDe (by rw [dcOf_len]; exact small1000 (by omega)), _, _, _, rfl, fun c o e => ?_⟩
      rw [upd_ne (ne_of_none e fD)]
      exact s10 _ _ e
    rintro σ H4 ⟨o6, o7, o8, rfl, s4⟩
    have TB4 := AD.t.ext (ExtN.of s4)
    refine ⟨D, _, TB4.d, trivial, fun od => ?_⟩
    refine ⟨_, rfl, D, od, rfl, .inl ⟨_, upd_same, ?_⟩⟩
    have F4 := TB4.fz (od := od) nds
    refine for_it walk_keys (fun j σ H' => ∃ o8, σ = [some (.ref a), some (.ref pa), some (.ref wd), some (.ref m), some (.ref rd), some (.ref D), o6, o7, o8] ∧ Same (upd H4 D (.frz od (.dK (dcOf my fun y => V.ref (cpd y))))) H') ⟨_, rfl, .refl _⟩ (fun j σ H' _ h => by obtain ⟨_, _, h⟩ := h; exact h _ _ upd_same) ?_ ?_
    · rintro j v σ H8 H9 hj ⟨o8, rfl, s8⟩ ⟨rfl, k0, v0, hk, rfl⟩
      obtain ⟨p, hp, rfl, rfl⟩ := dcOf_at hk
      have hpy := List.mem_of_getElem? hp
      obtain ⟨c1, g1, l1⟩ := (F4.same s8).get hpy
      refine ⟨_, rfl, _, rfl, D, .ref c1, rfl, g1, (show 0 ≤ sizeLine by decide), fun e ne => ?_⟩
      have se := sameUp (o := .lst []) ne
      have he : upd H9 e (.lst []) e = some (.lst []) := upd_same
      have s10 := s8.trans se
      have l1' := se _ _ l1
      generalize upd H9 e (.lst []) = HA at he s10 l1' ⊢
      refine ⟨.list ((TT p).map PyData.str), .list (([] : List Str).map PyData.str), .lst (SqL.of l1') (dp_strs _), .lst (SqL.of he) (dp_strs []), shaped_strs (fun z hz => strsOk_of gns z (tsub AD.run p z hz)), rfl, ?_⟩
      rw [eqv_strs]
      refine ⟨_, rfl, ?_⟩
      cases eT : TT p with
      | nil =>
        rw [show (!decide (([] : List Str) = [])) = false by simp]
        exact iteF (iteF ⟨_, rfl, s10⟩)
      | cons f r =>
        rw [show (!decide (f :: r = [])) = true by simp]
        have hh : (TT p).head? = some f := by rw [eT]; rfl
        have hl := AD.cl p f hh
        have hfy : f ∈ my := tsub AD.run p f (Ak.head_mem hh)
        obtain ⟨c2, g2, l2⟩ := (F4.same s10).get hfy
        obtain ⟨c3, g3, l3⟩ := (F4.same s10).get hpy
        have at0 : atI ((TT p).map V.str) 0 = some (.str f) := atI_nat (j := 0) (by rw [eT]; rfl)
        have atl : atI ((TT f).map V.str) (-1) = some (.str p) := by
          obtain ⟨l', el⟩ := List.getLast?_eq_some_iff.mp hl
          rw [el, List.map_append]
          exact atI_last _ _
        refine iteT ⟨_, rfl, _, rfl, _, rfl, D, .ref c3, rfl, g3, c3, _, _, _, rfl, rfl, SqL.of l3, at0, D, .ref c2, rfl, g2, _, rfl, c2, _, _, _, rfl, rfl, SqL.of l2, atl, _, rfl, rfl, _, rfl, ?_⟩
        rw [show (!decide (V.str p = L2.kV (Sum.inr p))) = false by simp [L2.kV]]
        exact iteF ⟨_, rfl, s10⟩
    rintro σ H8 ⟨o8, rfl, s8⟩
    refine ⟨s8 _ _ upd_same, ?_⟩
    have s9 := s4.trans (unl TB4.d s8)
    generalize upd H8 D (.dK (dcOf my fun y => V.ref (cpd y))) = H9 at s9 ⊢
    have S9 := S3.ext (ExtN.of s9)
    have u9 : UpS T a b H H9 := (u1.trans u3).trans (.same u3.t s9)
    have RS9 : RowsS a b H9 wd ns rw_ as := ⟨RS.l, u9.e _ _ RS.nD.1 RS.nD.2 RS.d ntb_dK, fun j n c h1 h2 => u9.e _ _ (RS.na c (List.mem_of_getElem? h2)).1 (RS.na c (List.mem_of_getElem? h2)).2 (RS.r j n c h1 h2) ntb_lst, RS.na, RS.nD⟩
    refine ⟨_, rfl, _, rfl, _, rfl, a, b, pa, wd, _, ns, rw_, as, rfl, S9, u9.t, paa, pab, u9.e _ _ paa pab hpa ntb_lst, RS9, gn, gr, by omega, fun HB m2 my2 uB SB nmB MB KB => ?_⟩
    refine ⟨_, rfl, .inl ⟨m2, ns, my2, rw_, rfl, MB, gn, gr, fun HC D2 cp2 T2 sC A2 => ?_⟩⟩
    have emy : my2 = my := sorted_uniq (MB.pm.trans pss.symm) MB.so soss
    subst emy
    have e2 : ∀ y, T2 y = TT y := fun y => Ak.Run.uniq A2.run A2.cl AD.run AD.cl y
    obtain ⟨Da, Db⟩ : D ≠ a ∧ D ≠ b := S2.nd AD.fD
    have TB9 := AD.t.ext (ExtN.of s9)
    have TBB : Tbl HB D my2 cpd TT := ⟨uB.e _ _ Da Db TB9.d ntb_dK, fun y hy => by
      obtain ⟨q1, q2⟩ := S2.nd (AD.f y hy)
      exact uB.e _ _ q1 q2 (TB9.r y hy) ntb_lst, TB9.inj⟩
    refine ⟨_, rfl, _, _, rfl, dicts_sm (n := 3) A2.t (TBB.ext (ExtN.of sC)) (fun y _ => e2 y) lss (lT A2.run), fun HD sD => ?_⟩
    have sBD := sC.trans sD
    exact k HD ((u9.trans uB).trans (.same uB.t sBD)) ((SB.ext (ExtN.of sBD)).up (by omega))
end
end Mn
/-! _law_small_right -/
namespace Mn
open PySem PySem.Spec PyProof.Rows L2 Md Me Ml LamX Mi Mo
abbrev sSrt : Stmt := top 64
abbrev srtN : List Str := ["_law_stream", "_law_people", "_law_wishes", "_law_rows", "_law_told", "_law_nexts", "_law_pairs", "_law_person", "_law_other"]
theorem scSrt : FnScope srtN ["_law_stream"] (defScope sSrt) := ⟨rfl, rfl, rfl, by decide +kernel, rfl, by decide +kernel, by decide +kernel⟩
theorem pty_all {ys : List Str} {R : Str → List Str} {nx ah : Str → Str} (SO : ShOk ys R) (nd : ys.Nodup) (P1 : Perm1 ys nx) (may : ∀ y ∈ ys, nx y = y ∨ nx y ∈ R y) (PY : PtyY ys R nx ah) : ∃ nx' ah' : Str → Str, Ak.Pty R nx' ah' ∧ ∀ y ∈ ys, nx' y = nx y := by
  have sur : ∀ p ∈ ys, ∃ q ∈ ys, nx q = p := fun p hp => by
    by_cases c : p ∈ ys.map nx
    · obtain ⟨q, hq, e⟩ := List.mem_map.mp c
      exact ⟨q, hq, e⟩
    · have h1 : (p :: ys.map nx).Nodup := List.nodup_cons.mpr ⟨c, List.pairwise_map.mpr (List.Pairwise.imp_of_mem (fun {x y} hx hy n e => n (P1.inj x hx y hy e)) nd)⟩
      have h2 : (p :: ys.map nx).length ≤ ys.length := pigeon h1 fun z hz => by
        rcases List.mem_cons.mp hz with rfl | hz
        · exact hp
        · obtain ⟨q, hq, rfl⟩ := List.mem_map.mp hz
          exact P1.to q hq
      rw [List.length_cons, List.length_map] at h2
      omega
  have na : ∀ p ∈ ys, nx (ah p) = p := fun p hp => by
    obtain ⟨q, hq, rfl⟩ := sur p hp
    rw [PY.an q hq]
  refine ⟨fun p => if p ∈ ys then nx p else p, fun p => if p ∈ ys then ah p else p, ⟨fun p h => ?_, fun p => ?_, fun p => ?_, fun p h => ?_, fun p q hq => ?_⟩, fun y hy => if_pos hy⟩
  · by_cases c : p ∈ ys
    · rw [if_pos c] at h ⊢
      exact (may p c).resolve_left h
    · rw [if_neg c] at h
      exact absurd rfl h
  · by_cases c : p ∈ ys
    · rw [if_pos c, if_pos (P1.to p c)]
      exact PY.an p c
    · rw [if_neg c, if_neg c]
  · by_cases c : p ∈ ys
    · rw [if_pos c, if_pos (PY.to p c)]
      exact na p c
    · rw [if_neg c, if_neg c]
  · by_cases c : p ∈ ys
    · rw [if_pos c] at h
      rw [if_pos c, if_pos c]
      exact PY.turned p c h
    · rw [if_neg c] at h
      exact absurd rfl h
  · obtain ⟨h1, h2⟩ := SO.sub p q hq
    rw [if_pos h1, if_pos h2]
    exact PY.stay p h1 q hq
theorem fnOk_ex {P : Program} {w : World} {K : PySem.W.Frag} {mg : Str → Option Value} {base : Heap} {CX : CXT} {k : Nat} {f : Addr} {fd : FuncData} {ps : List Str} {ι : Type} {sp : ι → Sp} (h : ∀ i, FnOk P w K mg base CX k f fd ps (sp i)) : FnOk P w K mg base CX k f fd ps (fun vs H Q E => ∃ i, sp i vs H Q E) :=
  ⟨fun vs H Q E ⟨i, z⟩ => (h i).len vs H Q E z, fun A outer s H args us vs Q E hr e0 hb r ⟨i, z⟩ => (h i).run A outer s H args us vs Q E hr e0 hb r z⟩
def spParA : Sp := fun vs H Q E => ∃ i : Fin 6, spPar i.val vs H Q E
def spSml (T : List (Addr × Str)) : Sp := fun vs H Q _ => ∃ (a b : Addr) (B : Nat), vs = [.ref a] ∧ Stm H a b B ∧ Tabs T H ∧ B + 3000000 ≤ 800000000000 ∧ ∀ (H' : Hp), UpS T a b H H' → Stm H' a b (B + 3000000) → Q (.bl true) H'
section
variable {P : Program} {w : World} {K : PySem.W.Frag} {mg : Str → Option Value} {base : Heap}
theorem ok_parA {f : Addr} {fd : FuncData} (F : Fun K "_law_parties" "_law_parties" sPar f fd) (bP : Binds K fd ["_law_rows", "_law_left"] []) (gP : mg "_law_parties" = some (.ref f))
    (gList : mg "list" = none) (gDict : mg "dict" = none) (gZip : mg "zip" = none) (gLen : mg "len" = none) : FnOk P w K mg base CX0 7 f fd ["_law_rows", "_law_left"] spParA :=
  fnOk_ex fun i : Fin 6 => (ok_par F bP gP gList gDict gZip gLen i.val).mono (by omega)
theorem ok_srt {T : List (Addr × Str)} {f fN fD fG fR fM fY fF C0 : Addr} {fd fdN fdD fdG fdR fdM fdY fdF : FuncData} (F : Fun K "_law_small_right" "_law_small_right" sSrt f fd)
    (GN : FnOk P w K mg base CX0 6 fN fdN ["_law_stream", "_law_many"] (spGd K)) (kN : PySem.W.keepIn K (.ref fN) = true) (bN : Binds K fdN ["_law_stream", "_law_many"] []) (gN : mg "_law_g_drawn" = some (.ref fN))
    (GD : FnOk P w K mg base CX0 1 fD fdD ["_law_stream", "_law_many"] spDrawB) (kD : PySem.W.keepIn K (.ref fD) = true) (bD : Binds K fdD ["_law_stream", "_law_many"] []) (gD : mg "_law_draw" = some (.ref fD))
    (GG : FnOk P w K mg base CX0 1 fG fdG ["_law_people", "_law_wishes"] (spGro K)) (kG : PySem.W.keepIn K (.ref fG) = true) (bG : Binds K fdG ["_law_people", "_law_wishes"] []) (gG : mg "_law_g_rows" = some (.ref fG))
    (GR : FnOk P w K mg base (L2.CX P w) 6 fR fdR ["market"] (spArs K C0)) (kR : PySem.W.keepIn K (.ref fR) = true) (bR : Binds K fdR ["market"] []) (gR : mg "asked_rows" = some (.ref fR))
    (GM : FnOk P w K mg base CX0 8 fM fdM ["_law_stream", "_law_people", "_law_wishes"] (spMade K T C0)) (kM : PySem.W.keepIn K (.ref fM) = true) (bM : Binds K fdM ["_law_stream", "_law_people", "_law_wishes"] []) (gM : mg "_law_a_made" = some (.ref fM))
    (GY : FnOk P w K mg base CX0 7 fY fdY ["_law_rows", "_law_left"] spParA) (kY : PySem.W.keepIn K (.ref fY) = true) (bY : Binds K fdY ["_law_rows", "_law_left"] []) (gY : mg "_law_parties" = some (.ref fY))
    (GF : FnOk P w K mg base CX0 4 fF fdF ["_law_rows", "_law_thing"] (spPyf K)) (kF : PySem.W.keepIn K (.ref fF) = true) (bF : Binds K fdF ["_law_rows", "_law_thing"] []) (gF : mg "_law_g_party_fault" = some (.ref fF))
    (gAll : mg "all" = none) : FnOk P w K mg base CX0 9 f fd ["_law_stream"] (spSml T) := by
  refine F.ok scSrt (fun vs H Q E h => ?_) (fun cdv A outer s H vs Q E hr h => ?_)
  · obtain ⟨a, b, B, rfl, _⟩ := h
    rfl
  · obtain ⟨a, b, B, rfl, S, hT, hB, k⟩ := h
    have nd := scSrt.nd
    have hu := hu_of hr
    have hu64 := hu64_of hr
    refine ⟨_, (pss_cons (ps_asg (pe_call GN (hr.mono (by decide)) rfl gN kN bN .nil pass0 (pa_cons (pv 0) (pa_cons (pe_call GD (hr.mono (by decide)) rfl gD kD bD .nil pass0 (pa_cons (pv 0) (pa_cons pe_int pa_nil))) pa_nil))) (pg_tup rfl (pgs_cons (pg_name (i := 1) nd rfl (Or.inl rfl)) (pgs_cons (pg_name (i := 2) nd rfl (Or.inl rfl)) pgs_nil))))
      (pss_cons (ps_asg (pe_tup (pa_cons (pe_call GG (hr.mono (by decide)) rfl gG kG bG .nil pass0 (pa_cons (pv 1) (pa_cons (pv 2) pa_nil))) (pa_cons (pe_call GR (hr.mono (by decide)) rfl gR kR bR .nil passE0 (pa_cons (pe_call GM (hr.mono (by decide)) rfl gM kM bM .nil pass0 (pa_cons (pv 0) (pa_cons (pv 1) (pa_cons (pv 2) pa_nil)))) pa_nil)) pa_nil))) (pg_tup rfl (pgs_cons (pg_name (i := 3) nd rfl (Or.inl rfl)) (pgs_cons (pg_name (i := 4) nd rfl (Or.inr rfl)) pgs_nil))))
      (pss_cons (ps_for PassesOwn.never rfl (pi_list (pe_call GY (hr.mono (by decide)) rfl gY kY bY .nil pass0 (pa_cons (pv 3) (pa_cons (pe_lst pa_nil) pa_nil)))) (pg_name (i := 5) nd rfl (Or.inr rfl)) (pss_one (ps_if (pt_cmpR op_isN (pe_call GF (hr.mono (by decide)) rfl gF kF bF .nil pass0 (pa_cons (pv 3) (pa_cons (pv 5) pa_nil))) pe_non (nomark _)) (pss_cons (ps_lock (ps_setLc (i := 6) (own := [("_law_person", 7)]) (g := gName 7) (tt := tTest (tOp rNe (tDGet (tVar 5) (tVar 7)) (tVar 7))) (te := tTup (tCons (tVar 7) (tCons (tDGet (tVar 5) (tVar 7)) tNil))) rfl nd rfl rfl (sw_true rfl rfl rfl (by decide +kernel)) (pi_keys (pv 3)) (blkOk_by (N := srtN) (sc := defScope sSrt) (by decide +kernel)) (fun _ _ _ _ _ => (pg_name (i := 7) nd rfl (Or.inl rfl))) (fun _ _ _ _ _ => pts_one (pt_cmpR op_ne (pe_dget hu (pv 5) (pv 7) (fun _ _ => rfl)) (pv 7) (nomark _))) (fun _ _ _ _ _ => by exact (pe_tup (pa_cons (pv 7) (pa_cons (pe_dget hu (pv 5) (pv 7) (fun _ _ => rfl)) pa_nil))))))
      (pss_one (ps_if (pt_not (pt_val (pe_callB (cr_all rfl) (by rfl) gAll (by decide +kernel) (pa_cons (pe_lc (own := [("_law_person", 7), ("_law_other", 8)]) (g := gTup K 2 (gCons (gName 7) (gCons (gName 8) gNil))) (tt := tYes) (te := (tAndV (tOp (rIn K false) (tVar 8) (tDGet (tVar 4) (tVar 7))) (tOp (rIn K false) (tVar 7) (tDGet (tVar 4) (tVar 8))))) rfl nd (pi_list (pv 6)) (blkOk_by (N := srtN) (sc := defScope sSrt) (by decide +kernel)) (fun _ _ _ _ _ => (pg_tup rfl (pgs_cons (pg_name (i := 7) nd rfl (Or.inl rfl)) (pgs_cons (pg_name (i := 8) nd rfl (Or.inl rfl)) pgs_nil)))) (fun _ _ _ _ _ => pts_nil) (fun _ _ _ _ _ => by exact (pe_and (pe_cmpR op_in_seq (pv 8) (pe_dget hu (pv 4) (pv 7) (fun _ _ => rfl)) (by with_unfolding_all rfl)) (pe_one (pe_cmpR op_in_seq (pv 7) (pe_dget hu (pv 4) (pv 8) (fun _ _ => rfl)) (by with_unfolding_all rfl)))))) pa_nil)))) (pss_one (ps_ret pe_bl)) pss_nil))) pss_nil)))
      (pss_one (ps_ret pe_bl))))), ?_⟩

    refine ⟨_, rfl, _, rfl, a, b, B, 6, rfl, S, by omega, by decide, by decide, fun H1 d d0 d1 S1 kb1 => ?_⟩
    obtain ⟨many, rfl⟩ := Int.eq_ofNat_of_zero_le d0
    refine ⟨a, b, _, many, rfl, S1, by omega, by omega, fun H2 t pa D ns rw_ bs S2 kb2 ht ln gn fpa hpa R => ?_⟩
    refine ⟨t, _, rfl, SqT.of ht, rfl, _, _, rfl, _, _, rfl, rfl, ?_⟩
    have u2 : UpS T a b H H2 := .kb hT S (kb1.trans kb2)
    obtain ⟨paa, pab⟩ := S1.nd fpa
    have nD := S1.nd R.fD
    have nb : ∀ c ∈ bs, c ≠ a ∧ c ≠ b := fun q hq => S1.nd (R.f q hq)
    have gr := R.g
    refine ⟨_, rfl, _, rfl, pa, D, ns, rw_, rfl, hpa, ⟨bs, R.l, R.d, R.r⟩, gn, gr, fun H3 rd cp ss s3 nrd pss soss TB fcp => ?_⟩
    have S3 := S2.ext (ExtN.of s3)
    have u3 := u2.trans (.same u2.t s3)
    refine ⟨_, rfl, _, rfl, _, rfl, a, b, pa, D, _, ns, rw_, bs, rfl, S3, u3.t, paa, pab, s3 _ _ hpa, ⟨R.l, s3 _ _ R.d, fun j n c h1 h2 => s3 _ _ (R.r j n c h1 h2), nb, nD⟩, gn, gr, by omega, fun H4 m my u4 S4 nm M4 K4 => ?_⟩
    refine ⟨_, rfl, .inl ⟨m, ns, my, rw_, rfl, M4, gn, gr, fun H5 D2 cp2 T2 s5 A2 => ?_⟩⟩
    have mm : ∀ x, x ∈ ss ↔ x ∈ ns := fun x => pss.mem_iff
    have grs : GoodRows ss rw_ := fun y hy => ⟨(gr y ((mm y).mp hy)).nd, (gr y ((mm y).mp hy)).ne, fun x hx => (mm x).mpr ((gr y ((mm y).mp hy)).sub x hx)⟩
    have gns : GoodNs ss := ⟨pss.nodup_iff.mpr gn.nd, fun x hx => gn.g x ((mm x).mp hx), by rw [pss.length_eq]; exact gn.l⟩
    have lss := gns.l
    have nds := gns.nd
    have SO := shR_ok grs
    have l5 : ss.length ≤ 5 := by rw [pss.length_eq]; omega
    have emy : my = ss := sorted_uniq (M4.pm.trans pss.symm) M4.so soss
    subst emy
    have TB5 : Tbl H5 rd my cp (shR my rw_) := by
      obtain ⟨q1, q2⟩ := S2.nd nrd
      exact ⟨s5 _ _ (u4.e _ _ q1 q2 TB.d ntb_dK), fun y hy => by
        obtain ⟨q3, q4⟩ := S2.nd (fcp y hy)
        exact s5 _ _ (u4.e _ _ q3 q4 (TB.r y hy) ntb_lst), TB.inj⟩
    have u5 := (u3.trans u4).trans (.same u4.t s5)
    have S5 := S4.ext (ExtN.of s5)
    have A2t := A2.t
    refine ⟨(show 2 ≤ sizeLine by decide), fun t2 nt2 => ⟨t2, _, rfl, SqT.of upd_same, rfl, _, _, rfl, _, _, rfl, rfl, ?_⟩⟩
    have s6 := sameUp (o := .tup [V.ref rd, .ref D2]) nt2
    have TB6 := TB5.ext (ExtN.of s6)
    have T26 := A2t.ext (ExtN.of s6)
    have u6 := u5.trans (.same u5.t s6)
    have S6 := S5.ext (ExtN.of s6)
    generalize upd H5 t2 (.tup [V.ref rd, .ref D2]) = H6 at TB6 T26 u6 S6 ⊢
    refine ⟨_, rfl, (show 0 ≤ sizeLine by decide), fun e ne => ?_⟩
    have s7 := sameUp (o := .lst []) ne
    have he : upd H6 e (.lst []) e = some (.lst (([] : List Str).map V.str)) := upd_same
    have TB7 := TB6.ext (ExtN.of s7)
    have T27 := T26.ext (ExtN.of s7)
    have u7 := u6.trans (.same u6.t s7)
    have S7 := S6.ext (ExtN.of s7)
    generalize upd H6 e (.lst []) = H7 at he TB7 T27 u7 S7 ⊢
    refine ⟨⟨my.length, by omega⟩, rd, e, my, cp, shR my rw_, [], rfl, TB7, gns, SO, l5, he, Nat.zero_add _, .nil, fun i y z _ h => by simp at h, fun H8 q ds s8 nq hq lds hds => ?_⟩
    refine ⟨_, rfl, ⟨_, SqL.of hq⟩, ?_⟩
    refine for_it (walk_list (xs := ds.map V.ref)) (fun i σ H' => ∃ (o5 o6 : Option V), σ = [some (.ref a), some (.ref pa), some (.ref D), some (.ref rd), some (.ref D2), o5, o6, none, none] ∧ Same H8 H') ⟨_, _, rfl, .refl _⟩ (fun i σ H' _ ⟨_, _, _, s⟩ => SqL.of (s _ _ hq)) ?_ ?_
    · rintro i v σ H9 HA hi ⟨o5, o6, rfl, s9⟩ ⟨rfl, hv⟩
      rw [List.getElem?_map] at hv
      obtain ⟨d, hd, rfl⟩ := Option.map_eq_some_iff.mp hv
      obtain ⟨fd_, nx, hnx, P1, may⟩ := hds d (List.mem_of_getElem? hd)
      have s79 := s8.trans s9
      have TB9 := TB7.ext (ExtN.of s79)
      have T29 := T27.ext (ExtN.of s79)
      have drd : d ≠ rd := (ne_of_none TB7.d fd_).symm
      have hnx9 := s9 _ _ hnx
      refine ⟨_, rfl, _, rfl, rd, d, my, cp, shR my rw_, nx, rfl, TB9, gns, soss, SO, drd, hnx9, P1, may, fun HB z sB hz hnz => ?_⟩
      refine ⟨rfl, _, rfl, ?_⟩
      by_cases c : z = .non
      rotate_left
      · rw [decide_eq_false c]
        exact iteF ⟨_, _, rfl, s9.trans sB⟩
      rw [decide_eq_true c]
      obtain ⟨ah, PY⟩ := hz c
      obtain ⟨nx', ah', PT, enx⟩ := pty_all SO nds P1 may PY
      have inT : ∀ p ∈ my, nx p ≠ p → nx p ∈ T2 p := fun p hp n => by
        have := A2.run.pty nx' ah' PT p (by rw [enx p hp]; exact n)
        rw [enx p hp] at this
        exact this
      have TBB := TB9.ext (ExtN.of sB)
      have T2B := T29.ext (ExtN.of sB)
      have hnxB := sB _ _ hnx9
      refine iteT ?_
      refine ⟨rd, _, TBB.d, trivial, fun od => ⟨_, rfl, rd, od, rfl, .inl ⟨_, upd_same, fun L hL => ?_⟩⟩⟩
      obtain ⟨fL, Lrd⟩ := lockFree hL
      have hnxF := (upd_ne drd (o := .frz od (.dK (dcOf my fun y => V.ref (cp y))))).trans hnxB
      refine lc_it walk_keys (fun j H' => ∃ ts : List Addr, Same (upd HB rd (.frz od (.dK (dcOf my fun y => V.ref (cp y))))) H' ∧ H' L = some (.lst (ts.map V.ref)) ∧ ts.length ≤ j ∧ ∀ t ∈ ts, ∃ p, p ∈ my ∧ nx p ≠ p ∧ H' t = some (.tup [.str p, .str (nx p)])) ⟨[], sameUp hL, upd_same, Nat.le_refl _, fun t h => by cases h⟩ (fun j H' _ ⟨_, s, _⟩ => s _ _ upd_same) ?_ ?_
      · rintro j v HC HD hj ⟨ts, sC, hLC, lts, hts⟩ ⟨rfl, k0, v0, hk, rfl⟩
        obtain ⟨p, hp, rfl, rfl⟩ := dcOf_at hk
        have hpy := List.mem_of_getElem? hp
        have hjl := (List.getElem?_eq_some_iff.mp hp).1
        have gd : ∀ {H' : Hp}, Same (upd HB rd (.frz od (.dK (dcOf my fun y => V.ref (cp y))))) H' → DGet H' d (.str p) (some (.str (nx p))) := fun {H'} s => by
          rw [← dcOf_some (g := fun y => V.str (nx y)) nds hpy]
          exact DGet.k (k := Sum.inr p) (s _ _ hnxF)
        refine ⟨rfl, _, rfl, _, rfl, d, _, rfl, gd sC, _, rfl, rfl, _, rfl, ?_⟩
        by_cases c : nx p = p
        · rw [show (!decide (V.str (nx p) = L2.kV (Sum.inr p))) = false by rw [c]; simp [L2.kV]]
          exact iteF ⟨ts, sC, hLC, by omega, hts⟩
        · rw [show (!decide (V.str (nx p) = L2.kV (Sum.inr p))) = true by simp [L2.kV, c]]
          refine iteT ⟨_, rfl, _, rfl, _, rfl, d, _, rfl, gd sC, (show 2 ≤ sizeLine by decide), fun t nt => ?_⟩
          have st := sameUp (o := .tup [L2.kV (Sum.inr p), V.str (nx p)]) nt
          have tL : t ≠ L := (ne_of_none hLC nt).symm
          refine ⟨_, st _ _ hLC, small1000 (by rw [List.length_map]; omega), ts ++ [t], fun c' o e => ?_, by rw [upd_same, List.map_append]; rfl, by rw [List.length_append]; show ts.length + 1 ≤ _; omega, fun t' ht' => ?_⟩
          · rw [upd_ne (ne_of_none e hL)]
            exact st _ _ (sC _ _ e)
          · rcases List.mem_append.mp ht' with h | h
            · obtain ⟨p', h1, h2, h3⟩ := hts t' h
              exact ⟨p', h1, h2, (upd_ne fun z => by rw [z, hLC] at h3; cases h3).trans (st _ _ h3)⟩
            · rw [List.mem_singleton.mp h]
              exact ⟨p, hpy, c, (upd_ne tL).trans upd_same⟩
      rintro HC ⟨ts, sC, hLC, lts, hts⟩
      refine ⟨sC _ _ upd_same, ?_⟩
      have sU := unl TBB.d sC
      have hLU := (upd_ne Lrd (o := .dK (dcOf my fun y => V.ref (cp y)))).trans hLC
      have htU : ∀ t ∈ ts, ∃ p, p ∈ my ∧ nx p ≠ p ∧ upd HC rd (.dK (dcOf my fun y => V.ref (cp y))) t = some (.tup [.str p, .str (nx p)]) := fun t ht => by
        obtain ⟨p', h1, h2, h3⟩ := hts t ht
        exact ⟨p', h1, h2, (upd_ne fun z => by rw [z, sC _ _ upd_same] at h3; cases h3).trans h3⟩
      generalize upd HC rd (.dK (dcOf my fun y => V.ref (cp y))) = HD at sU hLU htU ⊢
      rw [dcOf_len] at lts
      have T2D := T2B.ext (ExtN.of sU)
      refine ⟨_, rfl, L, rfl, ⟨_, SqL.of hLU⟩, fun W hW => ?_⟩
      refine lc_it (walk_list (xs := ts.map V.ref)) (fun j H' => Same HD H' ∧ H' W = some (.lst ((List.replicate j true).map V.bl))) ⟨sameUp hW, upd_same⟩ (fun j H' _ h => SqL.of (h.1 _ _ hLU)) ?_ ?_
      · rintro j v HE HF hj ⟨sE, hWE⟩ ⟨rfl, hv⟩
        rw [List.getElem?_map] at hv
        obtain ⟨t, ht, rfl⟩ := Option.map_eq_some_iff.mp hv
        have hjl := (List.getElem?_eq_some_iff.mp ht).1
        obtain ⟨p, hpy, hn, htt⟩ := htU t (List.mem_of_getElem? ht)
        have hnT := inT p hpy hn
        have hpT := A2.run.i.sym p _ hnT
        have hny := P1.to p hpy
        have T2E := T2D.ext (ExtN.of sE)
        refine ⟨t, _, rfl, SqT.of (sE _ _ htt), rfl, _, _, rfl, _, _, rfl, rfl, rfl, ?_⟩
        refine ⟨_, rfl, _, rfl, _, rfl, D2, .ref (cp2 p), rfl, T2E.get nds hpy, cp2 p, _, rfl, .inl (SqL.of (T2E.r p hpy)), rfl, flat_strs _, ?_⟩
        have e1 : inV (V.str (nx p)) ((T2 p).map V.str) = true := by
          rw [inV_strs]
          exact decide_eq_true hnT
        have e2 : inV (V.str p) ((T2 (nx p)).map V.str) = true := by
          rw [inV_strs]
          exact decide_eq_true hpT
        refine ⟨true, congrArg V.bl e1, iteT ⟨_, rfl, _, rfl, _, rfl, D2, .ref (cp2 (nx p)), rfl, T2E.get nds hny, cp2 (nx p), _, rfl, .inl (SqL.of (T2E.r _ hny)), rfl, flat_strs _, ?_⟩⟩
        have e3 : V.bl (if false = true then !inV (V.str p) ((T2 (nx p)).map V.str) else inV (V.str p) ((T2 (nx p)).map V.str)) = V.bl true := congrArg V.bl e2
        rw [e3]
        refine ⟨_, hWE, small1000 (by rw [List.length_map, List.length_replicate]; omega), fun c' o e => ?_, ?_⟩
        · rw [upd_ne (ne_of_none e hW)]
          exact sE _ _ e
        · rw [upd_same, List.replicate_succ', List.map_append]
          rfl
      rintro HE ⟨sE, hWE⟩
      refine ⟨W, _, rfl, SqL.of hWE, ?_⟩
      rw [show (List.replicate (ts.map V.ref).length true).all id = true by rw [List.all_replicate]; simp]
      exact ⟨true, rfl, iteF ⟨_, _, rfl, (s9.trans sB).trans (sU.trans sE)⟩⟩
    rintro σ H9 ⟨o5, o6, rfl, s9⟩
    have u8 := u7.trans (.same u7.t (s8.trans s9))
    exact k H9 u8 ((S7.ext (ExtN.of (s8.trans s9))).up (by omega))
end
end Mn
/-! _law_round -/
namespace Mn
open PySem PySem.Spec PyProof.Rows L2 Md Me Ml LamX Mi Mo
abbrev sRnd : Stmt := top 65
abbrev rndN : List Str := ["_law_stream", "_law_many", "_law_people", "_law_wishes", "_law_at", "_law_person"]
theorem scRnd : FnScope rndN ["_law_stream", "_law_many"] (defScope sRnd) := ⟨rfl, rfl, rfl, by decide +kernel, rfl, by decide +kernel, by decide +kernel⟩
/-- those behind somebody, then those before -/
def rndR (ns : List Str) (n : Str) : List Str := ns.drop (ns.idxOf n + 1) ++ ns.take (ns.idxOf n)
theorem rndR_at {ns : List Str} (nd : ns.Nodup) {i : Nat} {n : Str} (h : ns[i]? = some n) : rndR ns n = ns.drop (i + 1) ++ ns.take i := by
  obtain ⟨hi, e⟩ := List.getElem?_eq_some_iff.mp h
  have : ns.idxOf n = i := by
    rw [← e]
    exact nd.idxOf_getElem i hi
  unfold rndR
  rw [this]
theorem rndR_good {ns : List Str} (nd : ns.Nodup) : GoodRows ns (rndR ns) := fun n hn => by
  obtain ⟨i, hi⟩ := List.getElem?_of_mem hn
  rw [rndR_at nd hi]
  have hil := (List.getElem?_eq_some_iff.mp hi).1
  have e : ns = ns.take i ++ n :: ns.drop (i + 1) := by
    have h1 : ns.drop i = n :: ns.drop (i + 1) := by
      rw [List.drop_eq_getElem_cons hil, (List.getElem?_eq_some_iff.mp hi).2]
    rw [← h1, List.take_append_drop]
  have p : (n :: (ns.drop (i + 1) ++ ns.take i)).Perm ns := by
    refine .trans ?_ (.of_eq e.symm)
    refine .trans (List.Perm.cons _ List.perm_append_comm) ?_
    exact List.perm_middle.symm
  have h := List.nodup_cons.mp (p.nodup_iff.mpr nd)
  exact ⟨h.2, h.1, fun x hx => p.mem_iff.mp (List.mem_cons_of_mem _ hx)⟩
def spRnd (K : PySem.W.Frag) : Sp := fun vs H Q _ => ∃ (a b : Addr) (B many : Nat), vs = [.ref a, .int (many : Nat)] ∧ Stm H a b B ∧ many ≤ 62 ∧ B + 400000 ≤ 1000000000000 ∧
  ∀ (H' : Hp) (t pa D : Addr) (ns : List Str) (rw_ : Str → List Str) (bs : List Addr), Stm H' a b (B + 400000) → KeepBut a b H H' → H' t = some (.tup [.ref pa, .ref D]) → GoodNs ns → H pa = none → H' pa = some (.lst (ns.map V.str)) → RowsN H H' D ns rw_ bs → Q (.ref t) H'
section
variable {P : Program} {w : World} {K : PySem.W.Frag} {mg : Str → Option Value} {base : Heap}
theorem ok_rnd {f fN : Addr} {fd fdN : FuncData} (F : Fun K "_law_round" "_law_round" sRnd f fd)
    (GN : FnOk P w K mg base CX0 4 fN fdN ["_law_stream", "_law_many"] (spNames K)) (kN : PySem.W.keepIn K (.ref fN) = true) (bN : Binds K fdN ["_law_stream", "_law_many"] []) (gN : mg "_law_a_names" = some (.ref fN))
    (gSorted : mg "sorted" = none) (gDict : mg "dict" = none) (gEn : mg "enumerate" = none) : FnOk P w K mg base CX0 5 f fd ["_law_stream", "_law_many"] (spRnd K) := by
  refine F.ok scRnd (fun vs H Q E h => ?_) (fun cdv A outer s H vs Q E hr h => ?_)
  · obtain ⟨a, b, B, many, rfl, _⟩ := h
    rfl
  · obtain ⟨a, b, B, many, rfl, S, hmany, hB, k⟩ := h
    have nd := scRnd.nd
    refine ⟨_, (pss_cons (ps_set (i := 2) nd rfl (Or.inr rfl) (pe_callB cr_sortedA (by rfl) gSorted (by decide +kernel) (pa_cons (pe_call GN (hr.mono (by decide)) rfl gN kN bN .nil pass0 (pa_cons (pv 0) (pa_cons (pv 1) pa_nil))) pa_nil)))
      (pss_cons (ps_set (i := 3) nd rfl (Or.inl rfl) (pe_callTy (call_dictP rfl) rfl gDict boot_dict2 (pa_cons (pe_lc (own := [("_law_at", 4), ("_law_person", 5)]) (g := gTup K 2 (gCons (gName 4) (gCons (gName 5) gNil))) (tt := tYes) (te := (tTup (tCons (tVar 5) (tCons (tOp rCat (tSl (rSlL K) (tVar 2) (tPart (tOp (rI0 fun i j => .int (i + j)) (tVar 4) (tC (.int 1)))) tNoPart) (tSl (rSlL K) (tVar 2) tNoPart (tPart (tVar 4)))) tNil)))) rfl nd (pi_enumA rfl gEn (pa_cons (pv 2) pa_nil)) (blkOk_by (N := rndN) (sc := defScope sRnd) (by decide +kernel)) (fun _ _ _ _ _ => (pg_tup rfl (pgs_cons (pg_name (i := 4) nd rfl (Or.inl rfl)) (pgs_cons (pg_name (i := 5) nd rfl (Or.inl rfl)) pgs_nil)))) (fun _ _ _ _ _ => pts_nil) (fun _ _ _ _ _ => by exact (pe_tup (pa_cons (pv 5) (pa_cons (pe_op op_cat (pe_slice sl_list (pv 2) (po_some (pe_op op_add (pv 4) pe_int)) po_none) (pe_slice sl_list (pv 2) po_none (po_some (pv 4)))) pa_nil))))) pa_nil)))
      (pss_one (ps_ret (pe_tup (pa_cons (pv 2) (pa_cons (pv 3) pa_nil))))))), ?_⟩

    refine ⟨_, rfl, _, rfl, a, b, B, many, rfl, S, by omega, by omega, fun H1 l0 ms ln ndm gm fl0 hl0 S1 kb1 => ?_⟩
    refine ⟨l0, ms, rfl, .inl (SqL.of hl0), by omega, fun ns pa pns sns npa => ?_⟩
    have s2 := sameUp (o := .lst (ns.map V.str)) npa
    have hpa : upd H1 pa (.lst (ns.map V.str)) pa = some (.lst (ns.map V.str)) := upd_same
    have S2 := S1.ext (ExtN.of s2)
    have kb2 := kb1.trans (KeepBut.same (a := a) (b := b) s2)
    have fpa : H pa = none := kb_free kb1 S1.na.1 S1.na.2 npa
    have gn : GoodNs ns := ⟨pns.nodup_iff.mpr ndm, fun x hx => gm x (pns.mem_iff.mp hx), by rw [pns.length_eq]; omega⟩
    have ndn := gn.nd
    have l63 := gn.l
    generalize upd H1 pa (.lst (ns.map V.str)) = H2 at s2 hpa S2 kb2 ⊢
    have gr := rndR_good ndn
    refine ⟨_, rfl, pa, _, rfl, .inl ⟨SqL.of hpa, fun L hL => ?_⟩⟩
    refine lc_it (walk_enum (xs := ns.map V.str)) (fun i H' => ∃ (ts cs : List Addr), ts.length = i ∧ cs.length = i ∧ Same H2 H' ∧ H' L = some (.lst (ts.map V.ref)) ∧ cs.Nodup ∧ (∀ c ∈ cs, c ≠ L ∧ H2 c = none) ∧ ∀ (j : Nat) (n : Str) (t c : Addr), ns[j]? = some n → ts[j]? = some t → cs[j]? = some c → H' t = some (.tup [.str n, .ref c]) ∧ H' c = some (.lst ((rndR ns n).map V.str))) ⟨[], [], rfl, rfl, sameUp hL, upd_same, .nil, fun c h => by simp at h, fun j n t c _ h => by simp at h⟩ (fun i H' _ ⟨_, _, _, _, s, _⟩ => SqL.of (s _ _ hpa)) ?_ ?_
    · rintro i v HA HB hi ⟨ts, cs, lt, lc, sA, hLA, ndc, hcs, hf⟩ ⟨T1, x1, y1, rfl, nT, rfl, e1, e2⟩
      have e1' : V.int (i : Int) = x1 := Option.some.inj e1
      subst e1'
      replace e2 : (ns.map V.str)[i]? = some y1 := e2
      rw [List.getElem?_map] at e2
      obtain ⟨n, hn, rfl⟩ := Option.map_eq_some_iff.mp e2
      have hil := (List.getElem?_eq_some_iff.mp hn).1
      have sT := sameUp (o := .tup [V.int (i : Int), .str n]) nT
      refine ⟨T1, _, rfl, SqT.of upd_same, rfl, _, _, rfl, _, _, rfl, rfl, rfl, ?_⟩
      have sB := sA.trans sT
      have hLB := sT _ _ hLA
      have hfB : ∀ (j : Nat) (m : Str) (t c : Addr), ns[j]? = some m → ts[j]? = some t → cs[j]? = some c → upd HA T1 (.tup [V.int (i : Int), .str n]) t = some (.tup [.str m, .ref c]) ∧ upd HA T1 (.tup [V.int (i : Int), .str n]) c = some (.lst ((rndR ns m).map V.str)) := fun j n' t c h1 h2 h3 => by
        obtain ⟨q1, q2⟩ := hf j n' t c h1 h2 h3
        exact ⟨sT _ _ q1, sT _ _ q2⟩
      generalize upd HA T1 (.tup [V.int (i : Int), .str n]) = HB at sB hLB hfB ⊢
      refine ⟨_, rfl, _, rfl, _, rfl, _, _, rfl, rfl, _, rfl, pa, _, rfl, SqL.of (sB _ _ hpa), fun p1 np1 => ?_⟩
      have ec : cutV (ns.map V.str) (some ((i : Int) + 1)) none = (ns.drop (i + 1)).map V.str := by
        rw [show ((i : Int) + 1) = ((i + 1 : Nat) : Int) by push_cast; rfl, cut_fromN, List.map_drop]
      rw [ec]
      have s3 := sameUp (o := .lst ((ns.drop (i + 1)).map V.str)) np1
      have hp1 : upd HB p1 (.lst ((ns.drop (i + 1)).map V.str)) p1 = some (.lst ((ns.drop (i + 1)).map V.str)) := upd_same
      refine ⟨_, rfl, _, rfl, _, rfl, pa, _, rfl, SqL.of (s3 _ _ (sB _ _ hpa)), fun p2 np2 => ?_⟩
      rw [cut_toN, ← List.map_take]
      have s4 := sameUp (o := .lst ((ns.take i).map V.str)) np2
      have hp2 : upd (upd HB p1 (.lst ((ns.drop (i + 1)).map V.str))) p2 (.lst ((ns.take i).map V.str)) p2 = some (.lst ((ns.take i).map V.str)) := upd_same
      have hp1' := s4 _ _ hp1
      have s34 := s3.trans s4
      generalize upd (upd HB p1 (.lst ((ns.drop (i + 1)).map V.str))) p2 (.lst ((ns.take i).map V.str)) = HC at hp2 hp1' s34 ⊢
      refine ⟨p1, p2, _, _, rfl, rfl, hp1', hp2, Nat.le_trans (show ((ns.drop (i + 1)).map V.str).length + ((ns.take i).map V.str).length ≤ 9000 by rw [List.length_map, List.length_map, List.length_drop, List.length_take]; omega) (by decide), fun c nc => ?_⟩
      rw [← List.map_append, ← rndR_at ndn hn]
      have s5 := sameUp (o := .lst ((rndR ns n).map V.str)) nc
      refine ⟨(show 2 ≤ sizeLine by decide), fun t nt => ?_⟩
      have s6 := sameUp (o := .tup [V.str n, V.ref c]) nt
      have s36 := s34.trans (s5.trans s6)
      have hL3 := s36 _ _ hLB
      have hc3 := s6 _ _ (upd_same (H := HC) (a := c) (o := .lst ((rndR ns n).map V.str)))
      have ht3 : upd (upd HC c (.lst ((rndR ns n).map V.str))) t (.tup [V.str n, V.ref c]) t = some (.tup [V.str n, V.ref c]) := upd_same
      have ncB : HB c = none := s34.free nc
      have cL : c ≠ L := (ne_of_none hLB ncB).symm
      have tL : t ≠ L := (ne_of_none (s5 _ _ (s34 _ _ hLB)) nt).symm
      have fc : H2 c = none := sB.free ncB
      have cnew : c ∉ cs := fun h => by
        obtain ⟨j, hj⟩ := List.getElem?_of_mem h
        have hjl := (List.getElem?_eq_some_iff.mp hj).1
        obtain ⟨n', hn'⟩ : ∃ n', ns[j]? = some n' := ⟨_, List.getElem?_eq_getElem (by omega)⟩
        obtain ⟨t', ht'⟩ : ∃ t', ts[j]? = some t' := ⟨_, List.getElem?_eq_getElem (by omega)⟩
        have := (hfB j n' t' c hn' ht' hj).2
        rw [ncB] at this
        cases this
      generalize upd (upd HC c (.lst ((rndR ns n).map V.str))) t (.tup [V.str n, V.ref c]) = H4 at s36 hL3 hc3 ht3 ⊢
      refine ⟨_, hL3, small1000 (by rw [List.length_map]; omega), ts ++ [t], cs ++ [c], by rw [List.length_append, lt]; rfl, by rw [List.length_append, lc]; rfl, fun c' o e => ?_, by rw [upd_same, List.map_append]; rfl, List.nodup_append.mpr ⟨ndc, by simp, fun x hx y hy e => cnew (by rw [List.mem_singleton.mp hy] at e; exact e ▸ hx)⟩, fun c' h => ?_, fun j n' t' c' h1 h2 h3 => ?_⟩
      · rw [upd_ne (ne_of_none e hL)]
        exact s36 _ _ (sB _ _ e)
      · rcases List.mem_append.mp h with h | h
        · exact hcs c' h
        · rw [List.mem_singleton.mp h]
          exact ⟨cL, fc⟩
      · rcases snoc_get h2 with ⟨hj, h2⟩ | ⟨hj, rfl⟩
        · rw [List.getElem?_append_left (by omega)] at h3
          obtain ⟨e1, e2⟩ := hfB j n' t' c' h1 h2 h3
          refine ⟨?_, ?_⟩
          · rw [upd_ne fun z => by rw [z, hLB] at e1; cases e1]
            exact s36 _ _ e1
          · rw [upd_ne (hcs c' (List.mem_of_getElem? h3)).1]
            exact s36 _ _ e2
        · rw [List.getElem?_append_right (by omega), show j - cs.length = 0 by omega] at h3
          have : c = c' := by simpa using h3
          subst this
          have ej : j = i := by omega
          rw [ej, hn] at h1
          cases h1
          exact ⟨(upd_ne tL).trans ht3, (upd_ne cL).trans hc3⟩
    rintro HA ⟨ts, cs, lt, lc, sA, hLA, ndc, hcs, hf⟩
    rw [List.length_map] at lt lc
    refine ⟨L, ts, _, rfl, SqL.of hLA, zip_paired ns ts cs lt lc fun j n t q a1 a2 a3 => (hf j n t q a1 a2 a3).1, fun D nD => ?_⟩
    rw [mergeK_zip lc ndn]
    have sD := sameUp (o := .dK ((ns.zip cs).map fun p => ((Sum.inr p.1 : Key), V.ref p.2))) nD
    have hD : upd HA D (.dK ((ns.zip cs).map fun p => ((Sum.inr p.1 : Key), V.ref p.2))) D = some (.dK ((ns.zip cs).map fun p => ((Sum.inr p.1 : Key), V.ref p.2))) := upd_same
    have s2D := sA.trans sD
    have back : ∀ c, H2 c = none → H c = none := fun c h => kb_free kb2 S2.na.1 S2.na.2 h
    have R : RowsN H (upd HA D (.dK ((ns.zip cs).map fun p => ((Sum.inr p.1 : Key), V.ref p.2)))) D ns (rndR ns) cs := by
      refine ⟨⟨lc, hD, fun j n c h1 h2 => ?_, back _ (sA.free nD), fun c hc => back _ (hcs c hc).2, ndc⟩, gr⟩
      obtain ⟨t, ht⟩ : ∃ t, ts[j]? = some t := ⟨_, List.getElem?_eq_getElem (by have := (List.getElem?_eq_some_iff.mp h1).1; omega)⟩
      exact sD _ _ (hf j n t c h1 ht h2).2
    generalize upd HA D (.dK ((ns.zip cs).map fun p => ((Sum.inr p.1 : Key), V.ref p.2))) = HE at s2D R ⊢
    refine ⟨_, rfl, _, rfl, (show 2 ≤ sizeLine by decide), fun t nt => ?_⟩
    have s7 := sameUp (o := .tup [V.ref pa, .ref D]) nt
    have s27 := s2D.trans s7
    exact k _ t pa D ns _ cs ((S2.ext (ExtN.of s27)).up (by omega)) (kb2.trans (KeepBut.same s27)) upd_same gn fpa (s27 _ _ hpa) (R.fwd s7)
end
end Mn
/-! A lambda without captured names as a value; its call. -/
namespace Kl
open PySem PySem.Spec PyProof.Rows L2 LamX
/-- what a lambda's text is -/
structure Lam where
  qual : Str
  params : Arguments
  body : Expr
  scope : Scope
def LamO (f c' : Addr) (L : Lam) : HO := .ext fun h => ∃ pm ctv : Value, h.get? f = some (PySem.W.kla_obj "<lambda>" L.qual L.params L.body L.scope [] pm c' ctv)
theorem lamO_at {P : Program} {w : World} {H : Hp} {h : Heap} {f c' : Addr} {L : Lam} (hok : HOk P w H h) (e : H f = some (LamO f c' L)) :
    ∃ pm ctv : Value, h.get? f = some (PySem.W.kla_obj "<lambda>" L.qual L.params L.body L.scope [] pm c' ctv) := by
  have x : ObjOk P w H h f (.ext fun h => ∃ pm ctv : Value, h.get? f = some (PySem.W.kla_obj "<lambda>" L.qual L.params L.body L.scope [] pm c' ctv)) := hok f _ e
  exact x.1
theorem lamO_ok {P : Program} {w : World} {H : Hp} {h : Heap} {f c' : Addr} {L : Lam} {pm ctv : Value} (e : h.get? f = some (PySem.W.kla_obj "<lambda>" L.qual L.params L.body L.scope [] pm c' ctv)) :
    ObjOk P w H h f (LamO f c' L) := by
  refine ⟨⟨pm, ctv, e⟩, ⟨_, e⟩, fun h1 h2 z k => ?_⟩
  obtain ⟨a, b, q⟩ := z
  exact ⟨a, b, k _ q⟩
/-- all but the table at P stays -/
def KeepP (P : Addr) (H H' : Hp) : Prop := ∀ b o, b ≠ P → H b = some o → H' b = some o
theorem KeepP.refl {P : Addr} {H : Hp} : KeepP P H H := fun _ _ _ h => h
theorem KeepP.trans {P : Addr} {H H1 H2 : Hp} (x : KeepP P H H1) (y : KeepP P H1 H2) : KeepP P H H2 := fun b o n h => y b o n (x b o n h)
theorem KeepP.new {P l : Addr} {o : HO} {H : Hp} (h : H l = none) : KeepP P H (upd H l o) := fun b u _ e => by
  rw [upd_ne (ne_of_none e h)]
  exact e
theorem KeepP.none {P : Addr} {H H' : Hp} (k : KeepP P H H') (hP : ∃ o, H P = some o) {l : Addr} (h : H' l = none) (h2 : ∃ o, H' P = some o) : H l = none := by
  cases e : H l with
  | none => rfl
  | some o =>
    by_cases z : l = P
    · obtain ⟨u, q⟩ := h2
      rw [z, q] at h
      cases h
    · rw [k l o z e] at h
      cases h
section
variable {X : Cx} {pins : List (Addr × Obj)} {σ : L2.St} {H : Hp} {s : Shared}
/-- lambda ..: .. -/
theorem lam_new {c P : Addr} {params : Arguments} {body : Expr} {scope : Scope} {pos : Pos} {E : Value → Shared → Prop} {Q : Value → Shared → Prop}
    (I : Inv X pins σ H s) (TB : TabB X.base X.mg c P) (hcode : X.env.code = .ref c) (hT : TabS H P (X.env.qual ++ "<lambda>"))
    (hdef : defaultsOf params X.env = ([], [])) (hcl : closureFor scope X.env = pure [])
    (h : ∀ (f c' : Addr) (H2 : Hp) (s' : Shared), Inv X pins σ H2 s' → KeepP P H H2 → TabS H2 P (X.env.qual ++ "<lambda>") → H f = none →
      H2 f = some (LamO f c' ⟨X.env.qual ++ "<lambda>", params, body, scope⟩) → H2 c' = some (CodeO c' (X.env.qual ++ "<lambda>")) → Q (.ref f) s') :
    wpAny (model X.prog X.w) X.A (eval (.Lambda params body scope pos) X.env) Q E s := by
  obtain ⟨ps, hP, ht, ha⟩ := hT
  refine PySem.W.kla_eval hdef ?_
  have bP : s.heap.BuiltinsAt X.mg P := TB.bm.keeps I.bk
  have hP' : s.heap.get? P = some { cls := .none, data := .fields ps } := I.hok P _ hP
  cases hc : codeAmong pos ps.toList with
  | none =>
    refine PySem.W.kla_makeFunction (mg := X.mg) (c := c) (P := P) (ps := ps) hcl I.ok.glob (I.mod.glob.keeps I.bk) hcode
      (TB.code.keeps I.bk) hP' ht hc TB.gP bP fun c' ctv h' tk hx hge hlt hrec htb => ?_
    obtain ⟨c2, oc, vs, t, e2, hoc, hd, hv⟩ := hrec
    cases e2
    have nC : H c' = none := I.hok.fresh hge
    have sz : s.heap.objs.size ≤ h'.objs.size := Nat.le_trans hge (Nat.le_of_lt hlt)
    have I1 := inv_table (t' := tk) (more := #[rawInt pos.line, rawInt pos.col, .ref c']) (h' := h') I hP hx htb hge ⟨oc, vs, t, hoc, hd, hv⟩
    have nf1 := I1.hok.fresh (Nat.le_refl h'.objs.size)
    have I2 := I1.laid (t' := tk) (a := h'.objs.size) (o := LamO h'.objs.size c' ⟨X.env.qual ++ "<lambda>", params, body, scope⟩)
      (h' := h'.push (PySem.W.kla_obj "<lambda>" (X.env.qual ++ "<lambda>") params body scope [] ((X.mg "__name__").getD .none) c' ctv))
      (fun b o e => Heap.get?_push_of_some _ e) (Nat.le_refl _) (lamO_ok (Heap.get?_push_size _ rfl))
    have nPc : P ≠ c' := ne_of_none hP nC
    have nf : H h'.objs.size = none := I.hok.fresh sz
    have nPf : P ≠ h'.objs.size := ne_of_none hP nf
    have kp : KeepP P H (upd (upd H P (.tbl (ps ++ #[rawInt pos.line, rawInt pos.col, .ref c']))) c' (CodeO c' (X.env.qual ++ "<lambda>"))) := fun b o n e => by
      rw [upd_ne (ne_of_none e nC), upd_ne n]
      exact e
    have eL : (ps ++ #[rawInt pos.line, rawInt pos.col, .ref c']).toList = ps.toList ++ [rawInt pos.line, rawInt pos.col, .ref c'] := by simp
    have tb1 : TabS (upd (upd H P (.tbl (ps ++ #[rawInt pos.line, rawInt pos.col, .ref c']))) c' (CodeO c' (X.env.qual ++ "<lambda>"))) P (X.env.qual ++ "<lambda>") := by
      refine ⟨_, by rw [upd_ne nPc, upd_same], by rw [eL]; exact PySem.TriplesOk_snoc _ _ _ _ ht, fun p' cv hcv => ?_⟩
      rw [eL] at hcv
      rcases among_app _ ht hcv with z | z
      · obtain ⟨c0, e1, e2⟩ := ha p' cv z
        exact ⟨c0, e1, kp _ _ (fun y => by rw [y, hP] at e2; exact codeO_ne ps (Option.some.inj e2).symm) e2⟩
      · exact ⟨c', z, upd_same⟩
    have nCf : c' ≠ h'.objs.size := Nat.ne_of_lt hlt
    refine h h'.objs.size c' _ _ I2 (kp.trans (.new nf1)) (tb1.ext fun b o e => ?_) nf upd_same (by rw [upd_ne nCf]; exact upd_same)
    rw [upd_ne (ne_of_none e nf1)]
    exact e
  | some cv =>
    obtain ⟨c', e, hco⟩ := ha pos cv hc
    subst e
    refine PySem.W.kla_makeFunctionHit (mg := X.mg) (c := c) (P := P) (ps := ps) hcl I.ok.glob (I.mod.glob.keeps I.bk) hcode
      (TB.code.keeps I.bk) hP' ht hc bP fun ctv h' tk hx hsz => ?_
    have I1 : Inv X pins σ H { s with heap := h', toks := tk } := I.kept hx
    have nf1 := I1.hok.fresh (Nat.le_refl h'.objs.size)
    have I2 := I1.laid (t' := tk) (a := h'.objs.size) (o := LamO h'.objs.size c' ⟨X.env.qual ++ "<lambda>", params, body, scope⟩)
      (h' := h'.push (PySem.W.kla_obj "<lambda>" (X.env.qual ++ "<lambda>") params body scope [] ((X.mg "__name__").getD .none) c' ctv))
      (fun b o e => Heap.get?_push_of_some _ e) (Nat.le_refl _) (lamO_ok (Heap.get?_push_size _ rfl))
    have tb : TabS H P (X.env.qual ++ "<lambda>") := ⟨ps, hP, ht, ha⟩
    refine h h'.objs.size c' _ _ I2 (.new nf1) (tb.ext fun b o e => ?_) nf1 upd_same (by rw [upd_ne (ne_of_none hco nf1)]; exact hco)
    rw [upd_ne (ne_of_none e nf1)]
    exact e
/-- the reading of a lambda as a value -/
def tLamV (P : Addr) (L : Lam) : TE := fun _ H Q => TabS H P L.qual ∧ ∀ (f c' : Addr) (H2 : Hp), KeepP P H H2 → TabS H2 P L.qual → H f = none →
  H2 f = some (LamO f c' L) → H2 c' = some (CodeO c' L.qual) → Q (.ref f) H2
theorem pe_lamv {c P : Addr} {params : Arguments} {body : Expr} {scope : Scope} {pos : Pos} (TB : TabB X.base X.mg c P) (hcode : X.env.code = .ref c)
    (hdef : defaultsOf params X.env = ([], [])) (hcl : closureFor scope X.env = pure []) :
    PE X (.Lambda params body scope pos) (tLamV P ⟨X.env.qual ++ "<lambda>", params, body, scope⟩) := by
  refine ⟨fun pins s σ H Q I h => ?_⟩
  obtain ⟨hT, h⟩ := h
  exact lam_new I TB hcode hT hdef hcl fun f c' H2 s' I2 k1 k2 k3 k4 k5 => ⟨.ref f, H2, I2, rfl, h f c' H2 k1 k2 k3 k4 k5⟩
end
/-- what a lambda's call keeps -/
structure LamOk (P : Program) (w : World) (K : PySem.W.Frag) (mg : Str → Option Value) (base : Heap) (k : Nat) (L : Lam) (ps : List Str) (sp : Sp) : Prop where
  long : ∀ vs H Q E, sp vs H Q E → vs.length = ps.length
  goes : ∀ (A : Around) (outer : List Env) (s : Shared) (H : Hp) (f c' : Addr) (us : List Value) (vs : List V) (Q : VK) (E : XK), Room k A → Env0 P w K mg base A outer s H →
    H f = some (LamO f c' L) → H c' = some (CodeO c' L.qual) → Vals vs us → sp vs H Q E → codeAny (model P w) A (.call (.ref f) ⟨us, []⟩) (CR CX0 outer P w H s Q E) s
section
variable {P : Program} {w : World} {K : PySem.W.Frag} {mg : Str → Option Value} {base : Heap}
theorem LamOk.made {k : Nat} {L : Lam} {N ps : List Str} {sp : Sp} (S : FnScope N ps L.scope) (long : ∀ vs H Q E, sp vs H Q E → vs.length = ps.length)
    (hbind : ∀ (pm : Value) (c' : Addr) (ctv : Value) (us : List Value), us.length = ps.length → bindArgs (PySem.W.kla_fn "<lambda>" L.qual L.params L.body L.scope [] pm (.ref c') ctv) ⟨us, []⟩ = pure (ps.zip us))
    (hb : ∀ (f c' : Addr) (A : Around) (outer : List Env) (s : Shared) (H : Hp) (vs : List V) (Q : VK) (E : XK), Room k (A.deeper (envOfC L.qual L.scope s.heap.objs.size f (.ref c'))) → sp vs H Q E →
      ∃ t, PE (cxOf CX0 P w K mg base N L.qual L.scope f (.ref c') A outer s H E).nox L.body t ∧ t (start N vs) H Q) : LamOk P w K mg base (k + 1) L ps sp := by
  refine ⟨long, fun A outer s H f c' us vs Q E hr e0 hf hc r hsp => ?_⟩
  obtain ⟨pm, ctv, of⟩ := lamO_at e0.hok hf
  obtain ⟨⟨oc, fv, t0, hoc, hdc, hvc⟩, _, _⟩ := e0.hok c' _ hc
  have hl := long _ _ _ _ hsp
  have lim : s.heap.NoLimit := e0.mod.nolimit.keeps fun b o e => (e0.bs b o e).1
  have hk : ∀ y ∈ ps.zip us, L.scope.names.lookup y.1 = some .local ∨ (L.scope.names.lookup y.1 = some .cell ∧ ((cellsFrom (s.heap.objs.size + 1) L.scope.names []).lookup y.1).isSome = true) := by
    intro y hy
    obtain ⟨n, v⟩ := y
    rcases S.par n (List.of_mem_zip hy).1 with q | q
    · left
      exact q
    · right
      exact ⟨q, PySem.W.cellsFrom_some _ _ _ (.inl q)⟩
  refine PySem.W.kla_callFunE hr.depth of rfl S.co S.gen rfl ⟨c', oc, fv, t0, rfl, hoc, hdc, hvc⟩ ?_
  rw [hbind pm c' ctv us (r.length.symm.trans hl)]
  refine wpAny_pure (wpAny_newFunctionEnv_cells S.kind hk fun env he s1 x => ?_)
  subst he
  refine ⟨lim.keeps x.toInCall.keep, ?_⟩
  obtain ⟨t, ht, hq⟩ := hb f c' A outer s H vs Q E (hr.deeper _) hsp
  have I : Inv (cxOf CX0 P w K mg base N L.qual L.scope f (.ref c') A outer s H E) [] (start N vs) H s1 := inv_start S hr.hd e0 hl r x
  refine PySem.W.kla_codeExpr (wpAny_mono (ht.nox.run [] s1 (start N vs) H Q I hq) (fun u s' hs => ?_) fun e s' hs => hs)
  obtain ⟨v, H', J, rv, q⟩ := hs
  exact ⟨v, H', J.os, J.bare, J.base, J.hok, rv, q⟩
end
/-- x(e), x a name that holds such a lambda -/
def tCallLm (i : Nat) (LS : Lam → Sp → Prop) (t : TA) : TE := fun σ H Q => ∃ (f c' : Addr) (L : Lam) (sp : Sp), σ[i]? = some (some (.ref f)) ∧ LS L sp ∧ H f = some (LamO f c' L) ∧
  t σ H fun vs H1 => H1 f = some (LamO f c' L) ∧ H1 c' = some (CodeO c' L.qual) ∧ sp vs H1 Q E0
section
variable {X : Cx} {i k : Nat} {x : Str} {LS : Lam → Sp → Prop} {t : TA} {e : Expr} {es : List Expr} {p pos : Pos} {ps : List Str}
theorem fnAtL {pins : List (Addr × Obj)} {σ : L2.St} {H : Hp} {s : Shared} {f c' : Addr} {L : Lam} (I : Inv X pins σ H s) (e : H f = some (LamO f c' L)) : PySem.W.FnAt f s.heap := by
  obtain ⟨pm, ctv, ho⟩ := lamO_at I.hok e
  exact ⟨_, _, _, _, ho⟩
theorem pe_callLm (Fn : ∀ L sp, LS L sp → LamOk X.prog X.w X.K X.mg X.base k L ps sp) (hr : Room k X.A) (hN : X.N[i]? = some x) (hv : Vis X.env.scope x) (ha : PA X (e :: es) t)
    (hd : (x == ("__debug__" : Str)) = false := by decide) (hcd : (x == ("__classdict__" : Str)) = false := by decide)
    (he : starEach (e :: es) X.env = (false, eval e X.env) :: starEach es X.env := by rfl) (hpl : (backTo pos (starEach es X.env)).any (·.1) = false := by rfl) :
    PE X (.Call (.Name x p) (e :: es) [] pos) (tCallLm i LS t) := by
  refine ⟨fun pins s σ H Q I h => ?_⟩
  obtain ⟨f, c', L, sp, hs, hL, hf, ht⟩ := h
  refine wpAny_Call_Name_kw (thn ((pe_var (pos := p) hN hv hd hcd).run pins s σ H (fun v H1 => v = .ref f ∧ H1 = H) I ⟨.ref f, hs, rfl, rfl⟩) fun u s1 ⟨v, H1, I1, r1, q1⟩ => ?_)
  obtain ⟨ev, eH⟩ := q1
  subst ev
  rw [eH] at I1
  obtain rfl : u = Value.ref f := r1
  refine PySem.W.callWith_F (first := []) (fnAtL I1 hf) (thn (ha.run pos pins s1 σ H _ I1 ht)
    fun us s2 ⟨vs, H2, I2, r, h1, h2, q⟩ => ⟨fnAtL I2 h1, ?_⟩) he hpl
  show wpAny _ _ (call (.ref f) us) _ _ _
  refine wpAny_call (codeAny_mono ((Fn L sp hL).goes X.A X.stack s2 H2 f c' us vs Q E0 hr I2.env0 h1 h2 r q) fun r s' hq => ?_)
  cases r with
  | error e => exact False.elim hq
  | ok fl =>
    cases fl with
    | ret u => exact I2.after hq
    | next => exact False.elim hq
    | brk => exact False.elim hq
    | cont => exact False.elim hq
end
/-- the same for a lambda that may raise -/
structure LamOkX (P : Program) (w : World) (K : PySem.W.Frag) (mg : Str → Option Value) (base : Heap) (k : Nat) (L : Lam) (ps : List Str) (sp : Sp) : Prop where
  long : ∀ vs H Q E, sp vs H Q E → vs.length = ps.length
  goes : ∀ (A : Around) (outer : List Env) (s : Shared) (H : Hp) (f c' : Addr) (us : List Value) (vs : List V) (Q : VK) (E : XK), Room k A → Env0 P w K mg base A outer s H →
    H f = some (LamO f c' L) → H c' = some (CodeO c' L.qual) → Vals vs us → sp vs H Q E → codeAny (model P w) A (.call (.ref f) ⟨us, []⟩) (CR (L2.CX P w) outer P w H s Q E) s
section
variable {P : Program} {w : World} {K : PySem.W.Frag} {mg : Str → Option Value} {base : Heap}
theorem LamOkX.made {k : Nat} {L : Lam} {N ps : List Str} {sp : Sp} (S : FnScope N ps L.scope) (long : ∀ vs H Q E, sp vs H Q E → vs.length = ps.length)
    (hbind : ∀ (pm : Value) (c' : Addr) (ctv : Value) (us : List Value), us.length = ps.length → bindArgs (PySem.W.kla_fn "<lambda>" L.qual L.params L.body L.scope [] pm (.ref c') ctv) ⟨us, []⟩ = pure (ps.zip us))
    (hb : ∀ (f c' : Addr) (A : Around) (outer : List Env) (s : Shared) (H : Hp) (vs : List V) (Q : VK) (E : XK), Room k (A.deeper (envOfC L.qual L.scope s.heap.objs.size f (.ref c'))) → sp vs H Q E →
      ∃ t, PE (cxOf (L2.CX P w) P w K mg base N L.qual L.scope f (.ref c') A outer s H E) L.body t ∧ t (start N vs) H Q) : LamOkX P w K mg base (k + 1) L ps sp := by
  refine ⟨long, fun A outer s H f c' us vs Q E hr e0 hf hc r hsp => ?_⟩
  obtain ⟨pm, ctv, of⟩ := lamO_at e0.hok hf
  obtain ⟨⟨oc, fv, t0, hoc, hdc, hvc⟩, _, _⟩ := e0.hok c' _ hc
  have hl := long _ _ _ _ hsp
  have lim : s.heap.NoLimit := e0.mod.nolimit.keeps fun b o e => (e0.bs b o e).1
  have hk : ∀ y ∈ ps.zip us, L.scope.names.lookup y.1 = some .local ∨ (L.scope.names.lookup y.1 = some .cell ∧ ((cellsFrom (s.heap.objs.size + 1) L.scope.names []).lookup y.1).isSome = true) := by
    intro y hy
    obtain ⟨n, v⟩ := y
    rcases S.par n (List.of_mem_zip hy).1 with q | q
    · left
      exact q
    · right
      exact ⟨q, PySem.W.cellsFrom_some _ _ _ (.inl q)⟩
  refine PySem.W.kla_callFunE hr.depth of rfl S.co S.gen rfl ⟨c', oc, fv, t0, rfl, hoc, hdc, hvc⟩ ?_
  rw [hbind pm c' ctv us (r.length.symm.trans hl)]
  refine wpAny_pure (wpAny_newFunctionEnv_cells S.kind hk fun env he s1 x => ?_)
  subst he
  refine ⟨lim.keeps x.toInCall.keep, ?_⟩
  obtain ⟨t, ht, hq⟩ := hb f c' A outer s H vs Q E (hr.deeper _) hsp
  have I : Inv (cxOf (L2.CX P w) P w K mg base N L.qual L.scope f (.ref c') A outer s H E) [] (start N vs) H s1 := inv_start S hr.hd e0 hl r x
  refine PySem.W.kla_codeExpr (wpAny_mono (ht.run [] s1 (start N vs) H Q I hq) (fun u s' hs => ?_) fun e s' hs => hs)
  obtain ⟨v, H', J, rv, q⟩ := hs
  exact ⟨v, H', J.os, J.bare, J.base, J.hok, rv, q⟩
end
/-- x(e), x a name that holds such a lambda -/
def tCallLmX (i : Nat) (LS : Lam → Sp → Prop) (E : XK) (t : TA) : TE := fun σ H Q => ∃ (f c' : Addr) (L : Lam) (sp : Sp), σ[i]? = some (some (.ref f)) ∧ LS L sp ∧ H f = some (LamO f c' L) ∧
  t σ H fun vs H1 => H1 f = some (LamO f c' L) ∧ H1 c' = some (CodeO c' L.qual) ∧ sp vs H1 Q E
section
variable {X : Cx} {i k : Nat} {x : Str} {LS : Lam → Sp → Prop} {t : TA} {e : Expr} {es : List Expr} {p pos : Pos} {ps : List Str} {E : XK}
theorem pe_callLmX (hx : Passes (L2.CX X.prog X.w) X E) (Fn : ∀ L sp, LS L sp → LamOkX X.prog X.w X.K X.mg X.base k L ps sp) (hr : Room k X.A) (hN : X.N[i]? = some x) (hv : Vis X.env.scope x) (ha : PA X (e :: es) t)
    (hd : (x == ("__debug__" : Str)) = false := by decide) (hcd : (x == ("__classdict__" : Str)) = false := by decide)
    (he : starEach (e :: es) X.env = (false, eval e X.env) :: starEach es X.env := by rfl) (hpl : (backTo pos (starEach es X.env)).any (·.1) = false := by rfl) :
    PE X (.Call (.Name x p) (e :: es) [] pos) (tCallLmX i LS E t) := by
  refine ⟨fun pins s σ H Q I h => ?_⟩
  obtain ⟨f, c', L, sp, hs, hL, hf, ht⟩ := h
  refine wpAny_Call_Name_kw (thn ((pe_var (pos := p) hN hv hd hcd).run pins s σ H (fun v H1 => v = .ref f ∧ H1 = H) I ⟨.ref f, hs, rfl, rfl⟩) fun u s1 ⟨v, H1, I1, r1, q1⟩ => ?_)
  obtain ⟨ev, eH⟩ := q1
  subst ev
  rw [eH] at I1
  obtain rfl : u = Value.ref f := r1
  refine PySem.W.callWith_F (first := []) (fnAtL I1 hf) (thn (ha.run pos pins s1 σ H _ I1 ht)
    fun us s2 ⟨vs, H2, I2, r, h1, h2, q⟩ => ⟨fnAtL I2 h1, ?_⟩) he hpl
  show wpAny _ _ (call (.ref f) us) _ _ _
  refine wpAny_call (codeAny_mono ((Fn L sp hL).goes X.A X.stack s2 H2 f c' us vs Q E hr I2.env0 h1 h2 r q) fun r s' hq => ?_)
  cases r with
  | error e => exact hx pins σ H2 s2 e s' I2 hq
  | ok fl =>
    cases fl with
    | ret u => exact I2.after hq
    | next => exact False.elim hq
    | brk => exact False.elim hq
    | cont => exact False.elim hq
end
end Kl
/-! several except clauses with a name -/
namespace Mn
open PySem PySem.Spec PyProof.Rows L2 Md Me Ml LamX
/-- the ends behind a suite: the name is gone -/
abbrev gone (i : Nat) (D : Ends) : Ends := { nx := fun σ' H' => D.nx (σ'.set i none) H', rt := D.rt, bk := fun σ' H' => D.bk (σ'.set i none) H', ct := fun σ' H' => D.ct (σ'.set i none) H' }
def wManyAs (K : PySem.W.Frag) (i : Nat) (Wout : WX) (D : Ends) : List (Value × (Addr → Value → Option Addr → TS)) → WX
  | [] => Wout
  | (c, ts) :: r => fun cls d σ H => ∃ b, PySem.W.exmOne K cls c = some b ∧ (b = true → ∀ a, H a = none → ts a cls d (gone i D) (σ.set i (some (.ref a))) H) ∧ (b = false → wManyAs K i Wout D r cls d σ H)
inductive HdsAs (X : Cx) (n : Str) : List ExceptHandler → List (Value × (Addr → Value → Option Addr → TS)) → Prop
  | nil : HdsAs X n [] []
  | cons {x : Str} {c : Value} {ts : Addr → Value → Option Addr → TS} {b₀ : Stmt} {suite : List Stmt} {np pos' : Pos} {hds : List ExceptHandler} {l : List (Value × (Addr → Value → Option Addr → TS))} (hc : Names X x c)
      (hsu : ∀ (a : Addr) (oe : Obj) (cls : Value) (d : Option Addr) (pn : List (Addr × Obj)), Zc cls d oe → (∃ vs, oe.data = .fields vs) → PSs (X.suite a ((a, oe) :: pn)) (b₀ :: suite) (ts a cls d)) (r : HdsAs X n hds l) :
      HdsAs X n (.ExceptHandler (some (.Name x np)) (some n) (b₀ :: suite) pos' :: hds) ((c, ts) :: l)
section
variable {X : Cx} {n : Str} {i : Nat} {body : List Stmt} {h₀ : ExceptHandler} {hds : List ExceptHandler} {l : List (Value × (Addr → Value → Option Addr → TS))} {pos : Pos} {tb : WX → TS} {Wout : WX}
theorem ps_try_manyAs (hs : X.stack = X.env :: X.outer) (hf : X.env.frame = some X.env.locals) (hN : X.N.Nodup) (hi : X.N[i]? = some n) (hln : X.env.kindOf n = some .local) (tk : Takes X Wout)
    (hb : ∀ (W : WX) (pn : List (Addr × Obj)) (xe : Value → Shared → Prop), Takes (X.tr pn xe) W → PassesOwn (model X.prog X.w) X.A X.env xe → PSs (X.tr pn xe) body (tb W))
    (hh : HdsAs X n (h₀ :: hds) l) : PS X (.Try body (h₀ :: hds) [] [] pos) (fun D σ H => tb (wManyAs X.K i Wout D l) D σ H) := by
  refine ⟨fun pins s σ H D I h => ?_⟩
  have ok := I.ok
  have hfr : X.A.frames = some (X.env :: X.outer) := by rw [ok.frames, hs]
  have hloc : Loc X.env.scope n := .inl hln
  refine wpAny_Try_except ?_
  refine wpAny_mono ((hb (wManyAs X.K i Wout D l) (X.pn ++ pins) (fun e s₁ => wpAny (model X.prog X.w) X.A (noteFrame e X.env) (fun _ s₂ => wpAny (model X.prog X.w) X.A (setFlight e none) (fun _ s₃ =>
    wpAny (model X.prog X.w) X.A (handleBy e X.env (h₀ :: hds)) (SP X pins D) X.xe s₃) X.xe s₂) X.xe s₁) (fun u s' xx => ?_) PassesOwn.looking).run [] s σ H D (I.toTry _) h) (fun f s1 hsp => ?_) (fun e s1 he => he)
  · obtain ⟨a, B, sI, pins', σ', H', cls, d, rfl, J', nb, up, sky, na, os, ag, w⟩ := xx
    have J : Inv X pins σ' H' sI := J'.ofTry ok
    have sky' : Sky B (X.env :: X.outer) a (Zc cls d) X.env.locals s'.heap := by
      rw [← hs]
      exact sky
    show wpAny (model X.prog X.w) X.A (noteFrame (.ref a) X.env) _ _ _
    refine Sky.land Zc.steady hfr hf sky' fun h3 fl3 up3 => ?_
    have J3 : Inv X pins σ' H' { s' with heap := h3 } := J.landed nb fl3.1 (up.trans up3) os ag
    obtain ⟨oe3, vs3, he3, hz3, hd3⟩ := fl3.there
    have notFr : ∀ {h : Heap} {o : Obj} {vs : Array Value}, h.FunFrames B (X.env :: X.outer) → h.get? a = some o → o.data = .fields vs → a ∉ frs (X.env :: X.outer) := fun {h o vs} ff e dd hm => by
      obtain ⟨_, o', e', hnf⟩ := ff.mem hm
      rw [e] at e'
      cases e'
      exact hnf _ dd
    have nfr := notFr fl3.2.2.1 he3 hd3
    have nL : a ≠ X.env.locals := fun z => nfr (List.mem_filterMap.mpr ⟨X.env, List.mem_cons_self, by rw [hf, z]⟩)
    have nF : a ∉ X.fs := fun hm => by
      obtain ⟨e, he, q⟩ := List.mem_filterMap.mp hm
      exact nfr (List.mem_filterMap.mpr ⟨e, List.mem_cons_of_mem _ he, q⟩)
    have S3 := J3.suite he3 hd3 na nL nF
    have go : ∀ {hds' : List ExceptHandler} {l' : List (Value × (Addr → Value → Option Addr → TS))}, HdsAs X n hds' l' → wManyAs X.K i Wout D l' cls d σ' H' →
        wpAny (model X.prog X.w) X.A (handleBy (.ref a) X.env hds') (SP X pins D) X.xe { s' with heap := h3 } := by
      intro hds' l' hk
      induction hk with
      | nil =>
        intro w
        refine wpAny_handleBy_nil ?_
        obtain ⟨k1, k2, k3, oe, vs, T, oT, ts', he, hz, hd, h1, hr⟩ := id fl3
        unfold PySem.passOn
        refine wpAny_bind (wpAny_field he hd h1 ?_)
        rw [if_neg (show ¬ ((Value.ref T == Value.none) = true) from by simp)]
        have fin : wpAny (model X.prog X.w) X.A (setFlight (.ref a) X.env.frame) (fun _ s4 => wpAny (model X.prog X.w) X.A (throw (.ref a) : Sem Flow) (SP X pins D) X.xe s4) X.xe { s' with heap := h3 } := by
          rw [hf]
          refine HandSPX.setFlight_upZ fl3 fun h4 hh4 up4 => wpAny_throw (tk _ _ ?_)
          exact ⟨a, B, sI, pins, σ', H', cls, d, rfl, J, nb, (up.trans up3).trans up4, .inr (.inr (by rw [hs]; exact hh4)), na, os, ag, w⟩
        first
          | exact wpAny_bind (wpAny_pure (wpAny_bind fin))
          | exact wpAny_bind fin
      | @cons x c ts b₀ suite np pos' hds2 l2 hc hsu r ih =>
        intro w
        obtain ⟨b, hb1, hyes, hno⟩ := w
        refine wpAny_handleBy_cons (codeAny_handlers_test ?_) (by intro q; cases q)
        have LT : PySem.W.Looks (model X.prog X.w) h3 (typeOf (.ref a)) cls := fun A Q E s k q => wpAny_typeOf_ref (k _ _ he3) (by rw [hz3.1]; exact q)
        have LM := PySem.W.exm_one (M := model X.prog X.w) (J3.kIn) LT hb1
        have test : ∀ {Q : Value → Shared → Prop} {E : Value → Shared → Prop}, Q c { s' with heap := h3 } → wpAny (model X.prog X.w) (X.A.mark (some (.ref a))) (eval (.Name x np) X.env) Q E { s' with heap := h3 } := fun {Q E} q => by
          obtain ⟨hg, hdbg, hm | ⟨hm, hv, hnn⟩⟩ := hc
          · exact ld_glob (X := X.suite a ((a, oe3) :: (X.pn ++ pins))) S3 hg hm q hdbg
          · exact ld_blt (X := X.suite a ((a, oe3) :: (X.pn ++ pins))) S3 hg hm hv q hnn hdbg
        refine test (LM.here ?_)
        cases b with
        | true =>
          refine codeAny_handlers_suite_as ?_
          refine HandSPX.lands_againZ fl3 fun h4 fl4 up4 => ?_
          have J4 : Inv X pins σ' H' { s' with heap := h4 } := J.landed nb fl4.1 ((up.trans up3).trans up4) os ag
          obtain ⟨oe4, vs4, he4, hz4, hd4⟩ := fl4.there
          have S4 := J4.suite he4 hd4 na nL nF
          refine store_ok (X := X.suite a ((a, oe4) :: (X.pn ++ pins))) (v := .ref a) S4 hN hi hloc rfl (fun s5 S5 => ?_) (.inr hln)
          refine wpAny_mono ((hsu a oe4 cls d (X.pn ++ pins) hz4 ⟨_, hd4⟩).run [] s5 _ H' _ S5 (hyes rfl a na)) (fun f s6 hsp => ?_) (fun _ _ z => False.elim z)
          have end_ : ∀ {σ6 : L2.St} {H6 : Hp} {Q : Shared → Prop}, Inv (X.suite a ((a, oe4) :: (X.pn ++ pins))) [] σ6 H6 s6 → (∀ s7, Inv X pins (σ6.set i none) H6 s7 → Q s7) →
              wpAny (model X.prog X.w) X.A (do bindName X.env n .none; unbindBehindTheSuite X.env n pos') (fun _ s7 => Q s7) X.xe s6 := fun {σ6 H6 Q} S6 hq => gone_ok (S6.unsuite ok) hN hi hln hq
          cases f with
          | next =>
            obtain ⟨σ6, H6, S6, q6⟩ := hsp
            exact end_ S6 fun s7 J7 => ⟨_, _, J7, q6⟩
          | brk =>
            obtain ⟨σ6, H6, S6, q6⟩ := hsp
            exact end_ S6 fun s7 J7 => ⟨_, _, J7, q6⟩
          | cont =>
            obtain ⟨σ6, H6, S6, q6⟩ := hsp
            exact end_ S6 fun s7 J7 => ⟨_, _, J7, q6⟩
          | ret u =>
            obtain ⟨v6, σ6, H6, S6, r6, q6⟩ := hsp
            exact end_ S6 fun s7 J7 => ⟨_, _, _, J7, r6, q6⟩
        | false =>
          show wpAny _ X.A (handleBy (.ref a) X.env hds2) _ _ _
          exact ih (hno rfl)
    exact go hh w
  · cases f with
    | next =>
      obtain ⟨σ', H', J', q⟩ := hsp
      exact wpAny_execs_nil ⟨σ', H', J'.ofTry ok, q⟩
    | brk =>
      obtain ⟨σ', H', J', q⟩ := hsp
      exact ⟨σ', H', J'.ofTry ok, q⟩
    | cont =>
      obtain ⟨σ', H', J', q⟩ := hsp
      exact ⟨σ', H', J'.ofTry ok, q⟩
    | ret u =>
      obtain ⟨v, σ', H', J', r, q⟩ := hsp
      exact ⟨v, σ', H', J'.ofTry ok, r, q⟩
end
end Mn
/-! _law_g_met -/
namespace Mn
open PySem PySem.Spec PyProof.Rows L2 Md Me Ml LamX
abbrev sMet : Stmt := top 52
theorem scMet : FnScope ["_law_ask", "e"] ["_law_ask"] (defScope sMet) := ⟨rfl, rfl, rfl, by decide +kernel, rfl, by decide +kernel, by decide +kernel⟩
theorem takes_len {X : Cx} {W : WX} (tk : Takes X W) : Takes X (fun cls d σ H => σ.length = X.N.length → W cls d σ H) := fun u s' ⟨a, B, sI, pins, σ, H, cls, d, e, I, nb, up, sky, na, os, ag, w⟩ =>
  tk u s' ⟨a, B, sI, pins, σ, H, cls, d, e, I, nb, up, sky, na, os, ag, w I.len⟩
theorem two_set {σ : L2.St} {v : Option V} (h : σ.length = 2) : (σ.set 1 v)[1]? = some v := by
  match σ, h with
  | [_, _], _ => rfl
def TTmet (P : Addr) : (XK → Hp → VK → Prop) → Hp → VK → Prop := fun tl H Q =>
  tl (fun cls d H' => ∃ (dd : Addr) (v : V), cls = .ref P ∧ d = some dd ∧ H' dd = some (.xd [("thing", v)]) ∧ ∀ p, H' p = none → Q (.ref p) (upd H' p (.tup [.str "market", v]))) H
    (fun v H' => 2 ≤ sizeLine ∧ ∀ p, H' p = none → Q (.ref p) (upd H' p (.tup [.str "told", v])))
abbrev tSu (K : PySem.W.Frag) (C : Addr) (f tag : Str) : Addr → Value → Option Addr → TS := fun a cls d => tRet (tTup (tCons (tC (.str tag)) (tCons (tXf a cls d C f (tVar 1)) tNil)))
/-- a clause that is never taken -/
abbrev tNo : Addr → Value → Option Addr → TS := fun _ _ _ _ _ _ => False
theorem pss_no {X : Cx} {b : List Stmt} : PSs X b (fun _ _ _ => False) := ⟨fun _ _ _ _ _ _ h => h.elim⟩
theorem met_gives {X : Cx} {g CP CN CW CS : Addr} {cdv : Value} {q : Str} (BP : ExX X.K X.mg "BadMarket" "thing") (gCP : X.mg "BadPairing" = some (.ref CP)) (gCN : X.mg "BadNumber" = some (.ref CN)) (gCW : X.mg "NoPerson" = some (.ref CW)) (gCS : X.mg "Stays" = some (.ref CS)) (ex : PySem.W.exmOne X.K (.ref (He.ga X.K "BadMarket")) (.ref (He.ga X.K "BadMarket")) = some true) :
    GivesTo X ["_law_ask", "e"] "_law_g_met" (defScope sMet) g cdv (defBody sMet) "_law_ask" q (TTmet (He.ga X.K "BadMarket")) := by
  intro f c' s H Q tl act hc h
  refine ⟨_, pss_one (ps_try_manyAs (i := 1) (n := "e") (X := (cxOf C8.CX0 X.prog X.w X.K X.mg X.base ["_law_ask", "e"] "_law_g_met" (defScope sMet) g cdv X.A X.stack s H C8.E0).nox)
      (l := [(.ref (He.ga X.K "BadMarket"), tSu X.K (He.ga X.K "BadMarket") "thing" "market"), (.ref CP, tNo), (.ref CN, tNo), (.ref CW, tNo), (.ref CS, tNo)])
      (tb := fun W D σ H => ∃ Ech : XK, (∀ cls d (σ' : L2.St) H', σ'.length = 2 → Ech cls d H' → W cls d σ' H') ∧ σ[0]? = some (some (.ref f)) ∧ H c' = some (CodeO c' q) ∧ tl Ech H (fun v H' => 2 ≤ sizeLine ∧ ∀ p, H' p = none → D.rt (.ref p) (upd H' p (.tup [.str "told", v]))))
      rfl rfl scMet.nd rfl rfl LamX.takes0 (fun W pn xe tk _ => ?_) (.cons ⟨rfl, by decide, .inl BP.g⟩ (fun a oe cls d pn hz hf => ?_) (.cons ⟨rfl, by decide, .inl gCP⟩ (fun a oe cls d pn hz hf => ?_) (.cons ⟨rfl, by decide, .inl gCN⟩ (fun a oe cls d pn hz hf => ?_) (.cons ⟨rfl, by decide, .inl gCW⟩ (fun a oe cls d pn hz hf => ?_) (.cons ⟨rfl, by decide, .inl gCS⟩ (fun a oe cls d pn hz hf => ?_) .nil)))))), ?_⟩
  · refine ⟨fun pins s' σ H' D I h' => ?_⟩
    obtain ⟨Ech, hW, h1, h2, h3⟩ := h'
    exact (pss_one (ps_ret (pe_tup (pa_cons pe_str (pa_cons (act _ pn xe Ech _ _ (takes_len tk) (fun cls d σ' H' e hl => hW cls d σ' H' hl e)) pa_nil))))).run pins s' σ H' D I ⟨h1, h2, h3⟩
  · exact pss_one (ps_ret (pe_tup (pa_cons pe_str (pa_cons (pe_xf BP.xf BP.no hz hf (pv 1)) pa_nil))))
  · exact pss_no
  · exact pss_no
  · exact pss_no
  · exact pss_no
  · refine ⟨fun cls d H' => ∃ (dd : Addr) (v : V), cls = .ref (He.ga X.K "BadMarket") ∧ d = some dd ∧ H' dd = some (.xd [("thing", v)]) ∧ ∀ p, H' p = none → Q (.ref p) (upd H' p (.tup [.str "market", v])), fun cls d σ' H' hl e => ?_, rfl, hc, h⟩
    obtain ⟨dd, v, rfl, rfl, hd, k⟩ := e
    exact ⟨true, ex, fun _ a na => ⟨_, two_set hl, rfl, rfl, dd, [("thing", v)], v, rfl, hd, by rw [List.lookup_cons_self], (show 2 ≤ sizeLine by decide), fun p np => k p np⟩, fun z => by cases z⟩
end Mn
/-! _law_g_odd_markets -/
namespace Mn
open PySem PySem.Spec PyProof.Rows L2 Md Me Ml LamX Mi Mo
abbrev sOdm : Stmt := top 51
theorem scOdm : FnScope ["_law_people", "_law_wishes"] ["_law_people", "_law_wishes"] (defScope sOdm) := ⟨rfl, rfl, rfl, by decide +kernel, rfl, by decide +kernel, by decide +kernel⟩
structure Odm (H H' : Hp) (CE pa wd L l1 d1 t1 l2 x : Addr) : Prop where
  s : Same H H'
  n : H L = none
  L : H' L = some (.lst [.non, .int 5, .str "ann", .ref l1, .ref d1, .bl true, .ref t1, .ref l2, .ref x])
  l1 : H' l1 = some (.lst [])
  d1 : H' d1 = some (.dK [])
  t1 : H' t1 = some (.tup [.ref pa, .ref wd])
  l2 : H' l2 = some (.lst [.ref pa, .ref wd])
  x : H' x = some (ExO (.ref CE) x)
def spOdm (CE : Addr) : Sp := fun vs H Q _ => ∃ (pa wd : Addr), vs = [.ref pa, .ref wd] ∧ ∀ (H' : Hp) (L l1 d1 t1 l2 x : Addr), Odm H H' CE pa wd L l1 d1 t1 l2 x → Q (.ref L) H'
section
variable {P : Program} {w : World} {K : PySem.W.Frag} {mg : Str → Option Value} {base : Heap}
theorem ok_odm {f CE : Addr} {fd : FuncData} (F : Fun K "_law_g_odd_markets" "_law_g_odd_markets" sOdm f fd) (gE : mg "SwapError" = some (.ref CE)) (kE : PySem.W.keepIn K (.ref CE) = true) (qE : Exo.excEq K CE = true) : FnOk P w K mg base CX0 1 f fd ["_law_people", "_law_wishes"] (spOdm CE) := by
  refine F.ok scOdm (fun vs H Q E h => ?_) (fun cdv A outer s H vs Q E hr h => ?_)
  · obtain ⟨pa, wd, rfl, _⟩ := h
    rfl
  · obtain ⟨pa, wd, rfl, k⟩ := h
    refine ⟨_, pss_one (ps_ret (pe_lst (pa_cons pe_non (pa_cons pe_int (pa_cons pe_str (pa_cons (pe_lst pa_nil) (pa_cons pe_dnewK (pa_cons pe_bl (pa_cons (pe_tup (pa_cons (pv 0) (pa_cons (pv 1) pa_nil))) (pa_cons (pe_lst (pa_cons (pv 0) (pa_cons (pv 1) pa_nil))) (pa_cons (pe_exc0 qE gE kE rfl) pa_nil))))))))))), ?_⟩
    refine ⟨(show 0 ≤ sizeLine by decide), fun l1 nl1 d1 nd1 => ⟨_, rfl, _, rfl, (show 2 ≤ sizeLine by decide), fun t1 nt1 => ⟨_, rfl, _, rfl, (show 2 ≤ sizeLine by decide), fun l2 nl2 x nx => ⟨(show 9 ≤ sizeLine by decide), fun L nL => ?_⟩⟩⟩⟩
    have g1 := sameUp (o := .lst []) nl1
    have g2 := sameUp (o := .dK []) nd1
    have g3 := sameUp (o := .tup [V.ref pa, .ref wd]) nt1
    have g4 := sameUp (o := .lst [V.ref pa, .ref wd]) nl2
    have g5 := sameUp (o := ExO (.ref CE) x) nx
    have g6 := sameUp (o := .lst [V.non, .int 5, .str "ann", .ref l1, .ref d1, .bl true, .ref t1, .ref l2, .ref x]) nL
    have g15 := (((g1.trans g2).trans g3).trans g4).trans g5
    exact k _ L l1 d1 t1 l2 x ⟨g15.trans g6, g15.free nL, upd_same, ((((g2.trans g3).trans g4).trans g5).trans g6) _ _ upd_same, (((g3.trans g4).trans g5).trans g6) _ _ upd_same, ((g4.trans g5).trans g6) _ _ upd_same, (g5.trans g6) _ _ upd_same, g6 _ _ upd_same⟩
end
end Mn
/-! _law_same of an exception -/
namespace Mn
open PySem PySem.Spec PyProof.Rows L2 Md Me Ml LamX Mi Mo
/-- the same by looking, or one of two odd things -/
inductive Sx (K : PySem.W.Frag) (C0 : Addr) (H : Hp) : Nat → V → V → Prop
  | old {n : Nat} {x y : V} (h : Sm C0 H n x y) : Sx K C0 H n x y
  | ex (n : Nat) {a C : Addr} (h : H a = some (ExO (.ref C) a)) (c : ExcC K C) (q : Exo.excEq K C = true) (kl : PySem.W.kitOne K (.ref C) (.type "list") = some false) (kt : PySem.W.kitOne K (.ref C) (.type "tuple") = some false) (kd : PySem.W.kitOne K (.ref C) (.type "dict") = some false) (ki : PySem.W.kitOne K (.ref C) (.type "int") = some false) : Sx K C0 H n (.ref a) (.ref a)
  | lst {n : Nat} {a b : Addr} {xs ys : List V} (ha : H a = some (.lst xs)) (hb : H b = some (.lst ys)) (hl : xs.length = ys.length) (hn : xs.length ≤ 1000) (h : ∀ (i : Nat) (x y : V), xs[i]? = some x → ys[i]? = some y → Sx K C0 H n x y) : Sx K C0 H (n + 1) (.ref a) (.ref b)
  | tup {n : Nat} {a b : Addr} {xs ys : List V} (ha : H a = some (.tup xs)) (hb : H b = some (.tup ys)) (hl : xs.length = ys.length) (hn : xs.length ≤ 1000) (h : ∀ (i : Nat) (x y : V), xs[i]? = some x → ys[i]? = some y → Sx K C0 H n x y) : Sx K C0 H (n + 1) (.ref a) (.ref b)
theorem Sx.ext {K : PySem.W.Frag} {C0 : Addr} {H H' : Hp} (s : ExtN H H') : ∀ {n : Nat} {x y : V}, Sx K C0 H n x y → Sx K C0 H' n x y := by
  intro n x y h
  induction h with
  | old h => exact .old (Sm.ext s h)
  | ex n h c q kl kt kd ki => exact .ex n (s _ _ h (fun _ z => by cases z)) c q kl kt kd ki
  | lst ha hb hl hn _ ih => exact .lst (s _ _ ha ntb_lst) (s _ _ hb ntb_lst) hl hn ih
  | tup ha hb hl hn _ ih => exact .tup (s _ _ ha ntb_tup) (s _ _ hb ntb_tup) hl hn ih
def spSx (K : PySem.W.Frag) (C0 : Addr) (n : Nat) : Sp := fun vs H Q _ => ∃ x y : V, vs = [x, y] ∧ Sx K C0 H n x y ∧ ∀ H', Same H H' → Q (.bl true) H'
def spSxPrev (K : PySem.W.Frag) (C0 : Addr) : Nat → Sp
  | 0 => fun _ _ _ _ => False
  | n + 1 => spSx K C0 n
def spSn (K : PySem.W.Frag) (C0 : Addr) (n : Nat) : Sp := fun vs H Q _ => ∃ x y : V, vs = [x, y] ∧ Sx K C0 H n x y ∧ ¬ Sm C0 H n x y ∧ ∀ H', Same H H' → Q (.bl true) H'
section
variable {P : Program} {w : World} {K : PySem.W.Frag} {mg : Str → Option Value} {base : Heap}
theorem fnOk_or {CX : CXT} {k : Nat} {f : Addr} {fd : FuncData} {ps : List Str} {sp1 sp2 sp : Sp} (h1 : FnOk P w K mg base CX k f fd ps sp1) (h2 : FnOk P w K mg base CX k f fd ps sp2) (h : ∀ vs H Q E, sp vs H Q E → sp1 vs H Q E ∨ sp2 vs H Q E) : FnOk P w K mg base CX k f fd ps sp :=
  ⟨fun vs H Q E z => (h vs H Q E z).elim (h1.len vs H Q E) (h2.len vs H Q E), fun A stack s H args us vs Q E hr e0 hb r z => (h vs H Q E z).elim (h1.run A stack s H args us vs Q E hr e0 hb r) (h2.run A stack s H args us vs Q E hr e0 hb r)⟩
theorem samex_step {n : Nat} {f C0 : Addr} {fd : FuncData} (F : Fun K "_law_same" "_law_same" sSame f fd) (bF : Binds K fd ["_law_found", "_law_due"] []) (gF : mg "_law_same" = some (.ref f)) (GP : FnOk P w K mg base CX0 (n + 2) f fd ["_law_found", "_law_due"] (spSxPrev K C0 n))
    (GO : FnOk P w K mg base CX0 (n + 3) f fd ["_law_found", "_law_due"] (spSame C0 n))
    (gIs : mg "isinstance" = none) (gList : mg "list" = none) (gTuple : mg "tuple" = none) (gDict : mg "dict" = none) (gInt : mg "int" = none) (gBool : mg "bool" = none) (gLen : mg "len" = none) (gAll : mg "all" = none) (gZip : mg "zip" = none) :
    FnOk P w K mg base CX0 (n + 3) f fd ["_law_found", "_law_due"] (spSx K C0 n) := by
  refine fnOk_or (sp2 := spSn K C0 n) GO ?_ (fun vs H Q E ⟨x, y, e, sm, k⟩ => ?_)
  rotate_left
  · by_cases z : Sm C0 H n x y
    · exact .inl ⟨x, y, e, z, k⟩
    · exact .inr ⟨x, y, e, sm, z, k⟩
  refine F.ok scSame (fun vs H Q E h => ?_) (fun cdv A outer s H vs Q E hr h => ?_)
  · obtain ⟨x, y, rfl, _⟩ := h
    rfl
  · obtain ⟨x, y, rfl, sm, nsm, k⟩ := h
    have nd := scSame.nd
    have hr1 := hr.mono (show 1 ≤ n + 2 by omega)
    have kP := F.kp
    have bP := bF
    have gP := gF
    refine ⟨_, pss_cons (ps_if (pt_val (pe_callB (Mo.callR_or call_isiTY call_isiET) (by rfl) gIs boot_isinstance (pa_cons (pv 1) (pa_cons (pe_tup (pa_cons (pe_bltn (v := .ty "list") rfl gList boot_list2 rfl) (pa_cons (pe_bltn (v := .ty "tuple") rfl gTuple boot_tuple2 rfl) pa_nil))) pa_nil)))) (pss_cons (ps_if (PW.pt (pw_or (pt_cmpR op_ne (pe_callB (Mo.callR_or call_isiY call_isiE) (by rfl) gIs boot_isinstance (pa_cons (pv 0) (pa_cons (pe_bltn (v := .ty "list") rfl gList boot_list2 rfl) pa_nil))) (pe_callB (Mo.callR_or call_isiY call_isiE) (by rfl) gIs boot_isinstance (pa_cons (pv 1) (pa_cons (pe_bltn (v := .ty "list") rfl gList boot_list2 rfl) pa_nil))) (nomark _)) (pw_or1 (pt_cmpR op_ne (pe_callB (Mo.callR_or call_isiY call_isiE) (by rfl) gIs boot_isinstance (pa_cons (pv 0) (pa_cons (pe_bltn (v := .ty "tuple") rfl gTuple boot_tuple2 rfl) pa_nil))) (pe_callB (Mo.callR_or call_isiY call_isiE) (by rfl) gIs boot_isinstance (pa_cons (pv 1) (pa_cons (pe_bltn (v := .ty "tuple") rfl gTuple boot_tuple2 rfl) pa_nil))) (nomark _))))) (pss_one (ps_ret pe_bl)) pss_nil)
      (pss_one (ps_ret (pe_and (pe_cmpR op_eq (pe_callB call_len_seq (by rfl) gLen PySem.boot_len (pa_cons (pv 0) pa_nil)) (pe_callB call_len_seq (by rfl) gLen PySem.boot_len (pa_cons (pv 1) pa_nil)) (nomark _)) (pe_one (pe_callB (cr_all rfl) (by rfl) gAll (by decide +kernel) (pa_cons (pe_lc (own := [("_law_x", 2), ("_law_y", 3)]) (g := gTup K 2 (gCons (gName 2) (gCons (gName 3) gNil))) (tt := tYes) (te := tCall (spSxPrev K C0 n) [] E0 (tCons (tVar 2) (tCons (tVar 3) tNil))) rfl nd (RZ.pi_zipA rfl gZip (pa_cons (pv 0) (pa_cons (pv 1) pa_nil))) (blkOk_by (N := ["_law_found", "_law_due", "_law_x", "_law_y"]) (sc := defScope sSame) (by decide +kernel)) (fun _ _ _ _ _ => pg_tup rfl (pgs_cons (pg_name (i := 2) nd rfl (Or.inl rfl)) (pgs_cons (pg_name (i := 3) nd rfl (Or.inl rfl)) pgs_nil))) (fun _ _ _ _ _ => pts_nil) (fun _ _ _ _ _ => by exact pe_call GP hr rfl gP kP bP .nil pass0 (pa_cons (pv 2) (pa_cons (pv 3) pa_nil)))) pa_nil))))))) pss_nil)
      (pss_cons (ps_if (pt_val (pe_callB (Mo.callR_or call_isiY call_isiE) (by rfl) gIs boot_isinstance (pa_cons (pv 1) (pa_cons (pe_bltn (v := .ty "dict") rfl gDict boot_dict2 rfl) pa_nil)))) (pss_one (ps_ret (pe_and (pe_callB (Mo.callR_or call_isiY call_isiE) (by rfl) gIs boot_isinstance (pa_cons (pv 0) (pa_cons (pe_bltn (v := .ty "dict") rfl gDict boot_dict2 rfl) pa_nil))) (pe_one (pe_call GP hr rfl gP kP bP .nil pass0 (pa_cons (pe_or2 (LiI.pe_listItems rfl (pv 0) rfl gList boot_list2) (pe_or2 (Mo.pe_listItemsO rfl (pv 0) rfl gList boot_list2) (Mo.pe_listItemsT rfl (pv 0) rfl gList boot_list2))) (pa_cons (pe_or2 (LiI.pe_listItems rfl (pv 1) rfl gList boot_list2) (pe_or2 (Mo.pe_listItemsO rfl (pv 1) rfl gList boot_list2) (Mo.pe_listItemsT rfl (pv 1) rfl gList boot_list2))) pa_nil))))))) pss_nil)
      (pss_cons (ps_if (pt_val (pe_callB (Mo.callR_or call_isiY call_isiE) (by rfl) gIs boot_isinstance (pa_cons (pv 1) (pa_cons (pe_bltn (v := .ty "int") rfl gInt boot_int2 rfl) pa_nil)))) (pss_one (ps_ret (pe_and (pe_callB (Mo.callR_or call_isiY call_isiE) (by rfl) gIs boot_isinstance (pa_cons (pv 0) (pa_cons (pe_bltn (v := .ty "int") rfl gInt boot_int2 rfl) pa_nil))) (pe_and (pe_cmpR op_eq (pe_callB (Mo.callR_or call_isiY call_isiE) (by rfl) gIs boot_isinstance (pa_cons (pv 0) (pa_cons (pe_bltn (v := .ty "bool") rfl gBool boot_bool2 rfl) pa_nil))) (pe_callB (Mo.callR_or call_isiY call_isiE) (by rfl) gIs boot_isinstance (pa_cons (pv 1) (pa_cons (pe_bltn (v := .ty "bool") rfl gBool boot_bool2 rfl) pa_nil))) (nomark _)) (pe_one (pe_cmpR op_eq (pv 0) (pv 1) (nomark _))))))) pss_nil)
      (pss_one (ps_ret (pe_and (pe_not (pe_callB (Mo.callR_or call_isiTY call_isiET) (by rfl) gIs boot_isinstance (pa_cons (pv 0) (pa_cons (pe_tup (pa_cons (pe_bltn (v := .ty "int") rfl gInt boot_int2 rfl) (pa_cons (pe_bltn (v := .ty "list") rfl gList boot_list2 rfl) (pa_cons (pe_bltn (v := .ty "tuple") rfl gTuple boot_tuple2 rfl) (pa_cons (pe_bltn (v := .ty "dict") rfl gDict boot_dict2 rfl) pa_nil))))) pa_nil)))) (pe_one (pe_cmpR (op_eqE (Nat.lt_of_succ_lt (hu_of hr))) (pv 0) (pv 1) (nomark _)))))))), ?_⟩
    cases sm with
    | old h => exact absurd h nsm
    | @ex n a0 CC h c q kl kt kd ki =>
      refine ⟨_, rfl, (show 2 ≤ sizeLine by decide), fun p1 np1 => .inr ⟨a0, CC, p1, _, _, _, rfl, upd_same, .cons (.ty _) (.cons (.ty _) .nil), sameUp np1 _ _ h, c, kitAny2 kl kt, _, rfl, iteF ?_⟩⟩
      have s1 := sameUp (o := .tup [.ty "list", .ty "tuple"]) np1
      refine ⟨_, rfl, .inr ⟨a0, CC, _, _, _, rfl, .ty _, s1 _ _ h, c, kd, _, rfl, iteF ?_⟩⟩
      refine ⟨_, rfl, .inr ⟨a0, CC, _, _, _, rfl, .ty _, s1 _ _ h, c, ki, _, rfl, iteF ?_⟩⟩
      refine ⟨_, rfl, (show 4 ≤ sizeLine by decide), fun p2 np2 => .inr ⟨a0, CC, p2, _, _, _, rfl, upd_same, .cons (.ty _) (.cons (.ty _) (.cons (.ty _) (.cons (.ty _) .nil))), sameUp np2 _ _ (s1 _ _ h), c, kitAny4 ki kl kt kd, _, rfl, _, rfl, iteT ⟨_, rfl, _, rfl, ?_⟩⟩⟩
      have s2 := s1.trans (sameUp (o := .tup [.ty "int", .ty "list", .ty "tuple", .ty "dict"]) np2)
      exact ⟨a0, CC, rfl, rfl, s2 _ _ h, q, k _ s2⟩
    | @lst n a b xs ys ha hb hl hn hs =>
      obtain ⟨ty, t0, kl, kt, kd, ki, kb⟩ := (ans_lst hb : Ans K H (.ref b) _ _ _ _ _)
      obtain ⟨ty', t0', kl', kt', kd', ki', kb'⟩ := (ans_lst ha : Ans K H (.ref a) _ _ _ _ _)
      refine ⟨_, rfl, (show 2 ≤ sizeLine by decide), fun p1 np1 => .inl ⟨_, p1, _, ty, _, _, rfl, upd_same, .cons (.ty _) (.cons (.ty _) .nil), .x (TyX.same (sameUp np1) t0), kitAny2 kl kt, _, rfl, iteT ?_⟩⟩
      have s1 := sameUp (o := .tup [.ty "list", .ty "tuple"]) np1
      have t1 := TyX.same s1 t0
      have t1' := TyX.same s1 t0'
      refine ⟨_, rfl, .inl ⟨_, _, _, _, _, rfl, .ty _, .x t1', kl', _, rfl, .inl ⟨_, _, _, _, _, rfl, .ty _, .x t1, kl, rfl, _, rfl, ?_⟩⟩⟩
      rw [decide_eq_true rfl]
      refine iteF ?_
      refine ⟨_, rfl, .inl ⟨_, _, _, _, _, rfl, .ty _, .x t1', kt', _, rfl, .inl ⟨_, _, _, _, _, rfl, .ty _, .x t1, kt, rfl, _, rfl, ?_⟩⟩⟩
      rw [decide_eq_true rfl]
      refine iteF ?_
      have ha1 := s1 _ _ ha
      have hb1 := s1 _ _ hb
      refine ⟨_, rfl, a, xs, rfl, .inl (SqL.of ha1), _, rfl, b, ys, rfl, .inl (SqL.of hb1), rfl, ?_⟩
      rw [hl, decide_eq_true rfl]
      refine ⟨_, rfl, iteT ?_⟩
      refine ⟨_, rfl, _, rfl, a, b, xs, ys, rfl, .inl ⟨SqL.of ha1, SqL.of hb1, fun D hD => ?_⟩⟩
      refine lc_it (walk_zip (by rw [hl, Nat.min_self] : ys.length = min xs.length ys.length)) (fun i H' => Same (upd H p1 (.tup [.ty "list", .ty "tuple"])) H' ∧ H' D = some (.lst ((List.replicate i true).map V.bl))) ⟨sameUp hD, upd_same⟩ (fun i H' _ ⟨s, _⟩ => ⟨SqL.of (s _ _ ha1), SqL.of (s _ _ hb1)⟩) ?_ ?_
      · rintro i v H2 H3 hi ⟨s2, hD2⟩ ⟨T0, x1, y1, rfl, nT0, rfl, e1, e2⟩
        have s3 := s2.trans (sameUp (o := .tup [x1, y1]) nT0)
        refine ⟨T0, _, rfl, SqT.of upd_same, rfl, _, _, rfl, _, _, rfl, rfl, rfl, ?_⟩
        refine ⟨_, rfl, _, rfl, x1, y1, rfl, Sx.ext (ExtN.of (s1.trans s3)) (hs i x1 y1 e1 e2), fun H4 s4 => ?_⟩
        refine ⟨_, s4 _ _ ((sameUp (o := .tup [x1, y1]) nT0) _ _ hD2), ?_, fun b' o e => ?_, ?_⟩
        · rw [List.length_map, List.length_replicate]
          exact small1000 (by omega)
        · rw [upd_ne (ne_of_none e hD)]
          exact s4 _ _ (s3 _ _ e)
        · rw [upd_same, List.replicate_succ', List.map_append]
          rfl
      · rintro H2 ⟨s2, hD2⟩
        refine ⟨D, _, rfl, SqL.of hD2, ?_⟩
        have e : (List.replicate ys.length true).all id = true := List.all_eq_true.mpr fun z hz => by rw [(List.mem_replicate.mp hz).2]; rfl
        rw [e]
        exact k _ (s1.trans s2)
    | @tup n a b xs ys ha hb hl hn hs =>
      obtain ⟨ty, t0, kl, kt, kd, ki, kb⟩ := (ans_tup hb : Ans K H (.ref b) _ _ _ _ _)
      obtain ⟨ty', t0', kl', kt', kd', ki', kb'⟩ := (ans_tup ha : Ans K H (.ref a) _ _ _ _ _)
      refine ⟨_, rfl, (show 2 ≤ sizeLine by decide), fun p1 np1 => .inl ⟨_, p1, _, ty, _, _, rfl, upd_same, .cons (.ty _) (.cons (.ty _) .nil), .x (TyX.same (sameUp np1) t0), kitAny2 kl kt, _, rfl, iteT ?_⟩⟩
      have s1 := sameUp (o := .tup [.ty "list", .ty "tuple"]) np1
      have t1 := TyX.same s1 t0
      have t1' := TyX.same s1 t0'
      refine ⟨_, rfl, .inl ⟨_, _, _, _, _, rfl, .ty _, .x t1', kl', _, rfl, .inl ⟨_, _, _, _, _, rfl, .ty _, .x t1, kl, rfl, _, rfl, ?_⟩⟩⟩
      rw [decide_eq_true rfl]
      refine iteF ?_
      refine ⟨_, rfl, .inl ⟨_, _, _, _, _, rfl, .ty _, .x t1', kt', _, rfl, .inl ⟨_, _, _, _, _, rfl, .ty _, .x t1, kt, rfl, _, rfl, ?_⟩⟩⟩
      rw [decide_eq_true rfl]
      refine iteF ?_
      have ha1 := s1 _ _ ha
      have hb1 := s1 _ _ hb
      refine ⟨_, rfl, a, xs, rfl, .inr (SqT.of ha1), _, rfl, b, ys, rfl, .inr (SqT.of hb1), rfl, ?_⟩
      rw [hl, decide_eq_true rfl]
      refine ⟨_, rfl, iteT ?_⟩
      refine ⟨_, rfl, _, rfl, a, b, xs, ys, rfl, .inr ⟨SqT.of ha1, SqT.of hb1, fun D hD => ?_⟩⟩
      refine lc_it (walk_zipT (by rw [hl, Nat.min_self] : ys.length = min xs.length ys.length)) (fun i H' => Same (upd H p1 (.tup [.ty "list", .ty "tuple"])) H' ∧ H' D = some (.lst ((List.replicate i true).map V.bl))) ⟨sameUp hD, upd_same⟩ (fun i H' _ ⟨s, _⟩ => ⟨SqT.of (s _ _ ha1), SqT.of (s _ _ hb1)⟩) ?_ ?_
      · rintro i v H2 H3 hi ⟨s2, hD2⟩ ⟨T0, x1, y1, rfl, nT0, rfl, e1, e2⟩
        have s3 := s2.trans (sameUp (o := .tup [x1, y1]) nT0)
        refine ⟨T0, _, rfl, SqT.of upd_same, rfl, _, _, rfl, _, _, rfl, rfl, rfl, ?_⟩
        refine ⟨_, rfl, _, rfl, x1, y1, rfl, Sx.ext (ExtN.of (s1.trans s3)) (hs i x1 y1 e1 e2), fun H4 s4 => ?_⟩
        refine ⟨_, s4 _ _ ((sameUp (o := .tup [x1, y1]) nT0) _ _ hD2), ?_, fun b' o e => ?_, ?_⟩
        · rw [List.length_map, List.length_replicate]
          exact small1000 (by omega)
        · rw [upd_ne (ne_of_none e hD)]
          exact s4 _ _ (s3 _ _ e)
        · rw [upd_same, List.replicate_succ', List.map_append]
          rfl
      · rintro H2 ⟨s2, hD2⟩
        refine ⟨D, _, rfl, SqL.of hD2, ?_⟩
        have e : (List.replicate ys.length true).all id = true := List.all_eq_true.mpr fun z hz => by rw [(List.mem_replicate.mp hz).2]; rfl
        rw [e]
        exact k _ (s1.trans s2)
theorem ok_samex {f C0 : Addr} {fd : FuncData} (F : Fun K "_law_same" "_law_same" sSame f fd) (bF : Binds K fd ["_law_found", "_law_due"] []) (gF : mg "_law_same" = some (.ref f))
    (GO : ∀ n, FnOk P w K mg base CX0 (n + 3) f fd ["_law_found", "_law_due"] (spSame C0 n))
    (gIs : mg "isinstance" = none) (gList : mg "list" = none) (gTuple : mg "tuple" = none) (gDict : mg "dict" = none) (gInt : mg "int" = none) (gBool : mg "bool" = none) (gLen : mg "len" = none) (gAll : mg "all" = none) (gZip : mg "zip" = none) :
    ∀ n, FnOk P w K mg base CX0 (n + 3) f fd ["_law_found", "_law_due"] (spSx K C0 n)
  | 0 => samex_step F bF gF ⟨fun _ _ _ _ h => h.elim, fun _ _ _ _ _ _ _ _ _ _ _ _ _ h => h.elim⟩ (GO 0) gIs gList gTuple gDict gInt gBool gLen gAll gZip
  | n + 1 => samex_step F bF gF (ok_samex F bF gF GO gIs gList gTuple gDict gInt gBool gLen gAll gZip n) (GO (n + 1)) gIs gList gTuple gDict gInt gBool gLen gAll gZip
end
end Mn
/-! _law_g_refused -/
namespace Mn
open PySem PySem.Spec PyProof.Rows L2 Md Me Ml LamX Mi Mo
abbrev sRfd : Stmt := top 53
abbrev rfN : List Str := ["_law_people", "_law_wishes", "_law_asks", "_law_held", "_law_odd", "_law_ask", "_law_found"]
abbrev qRfd : Str := (envOfC "_law_g_refused" { kind := .function, names := [], isGenerator := false, isCoroutine := false } 0 0 .none).qual ++ "<lambda>"
theorem scRfd : FnScope rfN ["_law_people", "_law_wishes", "_law_asks"] (defScope sRfd) := ⟨rfl, rfl, rfl, by decide +kernel, rfl, by decide +kernel, by decide +kernel⟩
/-- no object of the class C is one of these -/
structure NoK (K : PySem.W.Frag) (C : Addr) : Prop where
  k : ∀ s ∈ (["NoneType", "int", "bool", "str", "list", "tuple", "dict"] : List String), PySem.W.kitOne K (.type s) (.ref C) = some false
section
variable {K : PySem.W.Frag} {H : Hp} {C0 : Addr}
theorem nk_non (N : NoK K C0) : NoMk K C0 H .non := .inl ⟨_, .base .non, N.k _ (by simp)⟩
theorem nk_int {i : Int} (N : NoK K C0) : NoMk K C0 H (.int i) := .inl ⟨_, .base (.int i), N.k _ (by simp)⟩
theorem nk_bl {i : Bool} (N : NoK K C0) : NoMk K C0 H (.bl i) := .inl ⟨_, .base (.bl i), N.k _ (by simp)⟩
theorem nk_str {i : Str} (N : NoK K C0) : NoMk K C0 H (.str i) := .inl ⟨_, .base (.str i), N.k _ (by simp)⟩
theorem nk_lst {p : Addr} {xs : List V} (N : NoK K C0) (h : H p = some (.lst xs)) : NoMk K C0 H (.ref p) := .inl ⟨_, .base (.lst h), N.k _ (by simp)⟩
theorem nk_tup {p : Addr} {xs : List V} (N : NoK K C0) (h : H p = some (.tup xs)) : NoMk K C0 H (.ref p) := .inl ⟨_, .base (.tup h), N.k _ (by simp)⟩
theorem nk_dK {p : Addr} {xs : List (Key × V)} (N : NoK K C0) (h : H p = some (.dK xs)) : NoMk K C0 H (.ref p) := .inl ⟨_, .base (.dK h), N.k _ (by simp)⟩
end
/-- what an error's class must say to be an odd thing -/
structure ExOdd (K : PySem.W.Frag) (C0 CE : Addr) : Prop where
  c : ExcC K CE
  q : Exo.excEq K CE = true
  k : PySem.W.kitOne K (.ref CE) (.ref C0) = some false
  kl : PySem.W.kitOne K (.ref CE) (.type "list") = some false
  kt : PySem.W.kitOne K (.ref CE) (.type "tuple") = some false
  kd : PySem.W.kitOne K (.ref CE) (.type "dict") = some false
  ki : PySem.W.kitOne K (.ref CE) (.type "int") = some false
def OkM (K : PySem.W.Frag) (C0 : Addr) (G : Hp) (v : V) : Prop := ∀ H', ExtN G H' → NoMk K C0 H' v ∧ Sx K C0 H' 6 v v
theorem tag_sx {K : PySem.W.Frag} {C0 : Addr} {H : Hp} {p q : Addr} {tag : Str} {v : V} (hp : H p = some (.tup [.str tag, v])) (hq : H q = some (.tup [.str tag, v])) (s : Sx K C0 H 6 v v) : Sx K C0 H 7 (.ref p) (.ref q) := by
  refine .tup (n := 6) hp hq rfl (show 2 ≤ 1000 by decide) fun i x y h1 h2 => ?_
  rw [h1] at h2
  obtain rfl := Option.some.inj h2
  have hx := List.mem_of_getElem? h1
  simp only [List.mem_cons, List.not_mem_nil, or_false] at hx
  rcases hx with rfl | rfl
  · exact .old (.str _ _)
  · exact s
theorem ntb_exo {c : Value} {a : Addr} : ∀ ps, ExO c a ≠ .tbl ps := fun ps z => by cases z
def spRfd (T : List (Addr × Str)) (C0 fB : Addr) : Sp := fun vs H Q _ => ∃ (pa wd ak : Addr) (ns : List Str) (cp : Str → Addr) (rw_ : Str → List Str), vs = [.ref pa, .ref wd, .ref ak] ∧ Tabs T H ∧ H pa = some (.lst (ns.map V.str)) ∧ Tbl H wd ns cp rw_ ∧ ns.length ≤ 63 ∧ (∀ n ∈ ns, (rw_ n).length ≤ 63) ∧ H ak = some (.lst [.ref fB]) ∧
  ∀ H', Up T H H' → Q (.bl true) H'
section
variable {P : Program} {w : World} {K : PySem.W.Frag} {mg : Str → Option Value} {base : Heap}
theorem ok_rfd {T : List (Addr × Str)} {f C0 CE CP CN CW CS fM fB fO fS : Addr} {fd fdM fdB fdO fdS : FuncData} (F : Fun K "_law_g_refused" "_law_g_refused" sRfd f fd) (hf : f = He.fAd K ("_law_g_refused", none)) (TB : TabB base mg (He.cT K ("_law_g_refused", none)).1 (He.cT K ("_law_g_refused", none)).2)
    (hmT : ((He.cT K ("_law_g_refused", none)).2, qRfd) ∈ T) (hu : ∀ p ∈ T, p.1 = (He.cT K ("_law_g_refused", none)).2 → p.2 = qRfd)
    (FM : Fun K "_law_g_met" "_law_g_met" sMet fM fdM) (bM : Binds K fdM ["_law_ask"] []) (gMet : mg "_law_g_met" = some (.ref fM))
    (BP : ExX K mg "BadMarket" "thing") (gCP : mg "BadPairing" = some (.ref CP)) (gCN : mg "BadNumber" = some (.ref CN)) (gCW : mg "NoPerson" = some (.ref CW)) (gCS : mg "Stays" = some (.ref CS)) (ex : PySem.W.exmOne K (.ref (He.ga K "BadMarket")) (.ref (He.ga K "BadMarket")) = some true)
    (NK : NoK K C0) (EO : ExOdd K C0 CE)
    (GB : FnOk P w K mg base (L2.CX P w) 6 fB fdB ["market"] (spArs K C0)) (kB : PySem.W.keepIn K (.ref fB) = true) (bB : Binds K fdB ["market"] [])
    (GO : FnOk P w K mg base CX0 1 fO fdO ["_law_people", "_law_wishes"] (spOdm CE)) (kO : PySem.W.keepIn K (.ref fO) = true) (bO : Binds K fdO ["_law_people", "_law_wishes"] []) (gO : mg "_law_g_odd_markets" = some (.ref fO))
    (GS : FnOk P w K mg base CX0 10 fS fdS ["_law_found", "_law_due"] (spSx K C0 7)) (kS : PySem.W.keepIn K (.ref fS) = true) (bS : Binds K fdS ["_law_found", "_law_due"] []) (gS : mg "_law_same" = some (.ref fS))
    (gLen : mg "len" = none) (gAll : mg "all" = none) :
    FnOk P w K mg base CX0 11 f fd ["_law_people", "_law_wishes", "_law_asks"] (spRfd T C0 fB) := by
  obtain ⟨oc, od, kV', doc, pm, an, cdv, ct, osl, rfl, lk, hcd⟩ := F.ex
  obtain ⟨c0, rfl⟩ := He.codeIn_ref hcd
  have ec : He.codeOf K ("_law_g_refused", none) = c0 := He.codeOf_eq (by rw [← hf]; exact lk) rfl
  obtain ⟨oc2, od2, kV2, doc2, pm2, an2, cdv2, ct2, osl2, rfl, lk2, hcd2⟩ := FM.ex
  refine fn_of lk hcd scRfd (fun vs H Q E h => ?_) (fun A outer s H vs Q E hr h => ?_)
  · obtain ⟨pa, wd, ak, ns, cp, rw_, rfl, _⟩ := h
    rfl
  · obtain ⟨pa, wd, ak, ns, cp, rw_, rfl, hT, hpa, TW, hln, hrl, hak, k⟩ := h
    have TB' : TabB base mg c0 (He.cT K ("_law_g_refused", none)).2 := by
      rw [← ec]
      exact TB
    have nd := scRfd.nd
    refine ⟨_, PSs.nox (pss_cons (ps_set (i := 3) nd rfl (Or.inr rfl) (pe_lst (pa_cons pe_str pa_nil)))
      (pss_cons (ps_for PassesOwn.never rfl (pi_list (pe_call GO (hr.mono (by decide)) rfl gO kO bO .nil pass0 (pa_cons (pv 0) (pa_cons (pv 1) pa_nil)))) (pg_name (i := 4) nd rfl (Or.inr rfl)) (pss_one (ps_if (pt_not (pt_val (pe_callB (cr_all rfl) (by rfl) gAll (by decide +kernel) (pa_cons (pe_lc (own := [("_law_ask", 5)]) (g := gName 5) (tt := tYes) (te := (tCall (spSx K C0 7) [] E0 (tCons (tLam T (TTmet (He.ga K "BadMarket")) (fun E => tCallL 5 fB (spArs K C0) [] E (tCons (tVar 4) tNil))) (tCons (tTup (tCons (tC (.str "market")) (tCons (tVar 4) tNil))) tNil)))) rfl nd (pi_list (pv 2)) (blkOk_by (N := rfN) (sc := defScope sRfd) (by decide +kernel)) (fun _ _ _ _ _ => (pg_name (i := 5) nd rfl (Or.inr rfl))) (fun _ _ _ _ _ => pts_nil) (fun _ _ _ _ _ => by exact (pe_call GS (hr.mono (by decide)) rfl gS kS bS .nil pass0 (pa_cons (pe_lamcall (k := 6) rfl gMet FM.kp lk2 hcd2 bM scMet rfl (Or.inl rfl) (met_gives BP gCP gCN gCW gCS ex) TB' rfl hmT hu (hr.mono (by decide)) (lamS_by (by rfl)) rfl (fun _ _ _ _ _ => rfl) (fun A outer s H E f c' hr2 => pe_callL (i := 5) (E := E) GB (hr2.mono (by decide)) rfl (Or.inr (Or.inr rfl)) kB bB .nil (passL (takes_of rfl rfl rfl rfl)) (pa_cons (pv 4) pa_nil))) (pa_cons (pe_tup (pa_cons pe_str (pa_cons (pv 4) pa_nil))) pa_nil))))) pa_nil)))) (pss_one (ps_ret pe_bl)) pss_nil)))
      (pss_cons (ps_setLc (i := 6) (own := [("_law_ask", 5)]) (g := gName 5) (tt := tYes) (te := (tLam T (TTmet (He.ga K "BadMarket")) (fun E => tCallL 5 fB (spArs K C0) [] E (tCons (tVar 3) tNil)))) rfl nd rfl rfl (sw_true rfl rfl rfl rfl) (pi_list (pv 2)) (blkOk_by (N := rfN) (sc := defScope sRfd) (by decide +kernel)) (fun _ _ _ _ _ => (pg_name (i := 5) nd rfl (Or.inr rfl))) (fun _ _ _ _ _ => pts_nil) (fun _ _ _ _ _ => by exact (pe_lamcall (k := 6) rfl gMet FM.kp lk2 hcd2 bM scMet rfl (Or.inl rfl) (met_gives BP gCP gCN gCW gCS ex) TB' rfl hmT hu (hr.mono (by decide)) (lamS_by (by rfl)) rfl (fun _ _ _ _ _ => rfl) (fun A outer s H E f c' hr2 => pe_callL (i := 5) (E := E) GB (hr2.mono (by decide)) rfl (Or.inr (Or.inr rfl)) kB bB .nil (passL (takes_of rfl rfl rfl rfl)) (pa_cons (pv 3) pa_nil)))))
      (pss_cons (ps_expr (pe_bm PySem.F.plainAttrs_list PySem.F.slot_list_append PySem.F.type_list_append mt_append (pv 3) (pa_cons pe_str pa_nil)))
      (pss_one (ps_ret (pe_call GS (hr.mono (by decide)) rfl gS kS bS .nil pass0 (pa_cons (pv 6) (pa_cons (pe_op op_rep (pe_lst (pa_cons (pe_tup (pa_cons pe_str (pa_cons (pe_lst (pa_cons pe_str (pa_cons pe_str pa_nil))) pa_nil))) pa_nil)) (pe_callB call_len_seq (by rfl) gLen PySem.boot_len (pa_cons (pv 2) pa_nil))) pa_nil))))))))), ?_⟩

    refine ⟨(show 1 ≤ sizeLine by decide), fun hd nhd => ?_⟩
    have s1 := sameUp (o := .lst [V.str "x"]) nhd
    have hhd : upd H hd (.lst [V.str "x"]) hd = some (.lst [V.str "x"]) := upd_same
    have uA : Up T H (upd H hd (.lst [V.str "x"])) := .same hT s1
    generalize upd H hd (.lst [V.str "x"]) = H1 at s1 hhd uA ⊢
    refine ⟨_, rfl, _, rfl, pa, wd, rfl, fun G L l1 d1 t1 l2 x O => ?_⟩
    have uG : Up T H G := uA.trans (.same uA.t O.s)
    have gpa : G pa = some (.lst (ns.map V.str)) := O.s _ _ (s1 _ _ hpa)
    have TWG := (TW.ext (ExtN.of s1)).ext (ExtN.of O.s)
    have gak : G ak = some (.lst [.ref fB]) := O.s _ _ (s1 _ _ hak)
    have ghd : G hd = some (.lst [V.str "x"]) := O.s _ _ hhd
    have TG : Tabs T G := uG.t
    have hL := O.L
    have both : ∀ {H' : Hp}, ExtN G H' → ∀ (i : Nat) (x y : V), [V.ref pa, V.ref wd][i]? = some x → [V.ref pa, V.ref wd][i]? = some y → Sm C0 H' 5 x y := fun {H'} e i x y h1 h2 => by
      rw [h1] at h2
      obtain rfl := Option.some.inj h2
      have hx := List.mem_of_getElem? h1
      simp only [List.mem_cons, List.not_mem_nil, or_false] at hx
      rcases hx with rfl | rfl
      · exact sm_strs (n := 4) (e _ _ gpa ntb_lst) (e _ _ gpa ntb_lst) (by omega)
      · exact dicts_sm (n := 1) (TWG.ext e) (TWG.ext e) (fun _ _ => rfl) hln hrl
    have okm : ∀ v ∈ ([V.non, .int 5, .str "ann", .ref l1, .ref d1, .bl true, .ref t1, .ref l2, .ref x] : List V), OkM K C0 G v := by
      intro v hv H' e
      simp only [List.mem_cons, List.not_mem_nil, or_false] at hv
      rcases hv with rfl | rfl | rfl | rfl | rfl | rfl | rfl | rfl | rfl
      · exact ⟨nk_non NK, .old (.non _)⟩
      · exact ⟨nk_int NK, .old (.int _ _)⟩
      · exact ⟨nk_str NK, .old (.str _ _)⟩
      · have h := e _ _ O.l1 ntb_lst
        exact ⟨nk_lst NK h, .old (.lst (n := 5) h h rfl (by simp) fun i x y h1 _ => by simp at h1)⟩
      · have h := e _ _ O.d1 ntb_dK
        exact ⟨nk_dK NK h, .old (.dic (n := 3) h h rfl (by simp) (fun i p q e => by simp at e) (fun i p q e => by simp at e))⟩
      · exact ⟨nk_bl NK, .old (.bl _ _)⟩
      · have h := e _ _ O.t1 ntb_tup
        exact ⟨nk_tup NK h, .old (.tup (n := 5) h h rfl (by simp) (both e))⟩
      · have h := e _ _ O.l2 ntb_lst
        exact ⟨nk_lst NK h, .old (.lst (n := 5) h h rfl (by simp) (both e))⟩
      · have h := e _ _ O.x ntb_exo
        exact ⟨.inr ⟨x, CE, rfl, h, EO.c, EO.k⟩, .ex 6 h EO.c EO.q EO.kl EO.kt EO.kd EO.ki⟩
    generalize ([V.non, .int 5, .str "ann", .ref l1, .ref d1, .bl true, .ref t1, .ref l2, .ref x] : List V) = vs1 at hL okm
    refine ⟨_, rfl, ⟨_, SqL.of hL⟩, ?_⟩
    refine for_it (walk_list (xs := vs1)) (fun i σ H' => ∃ o4 o5, σ = [some (.ref pa), some (.ref wd), some (.ref ak), some (.ref hd), o4, o5, none] ∧ ExtN G H' ∧ Tabs T H') ⟨_, _, rfl, fun c o e _ => e, TG⟩ (fun i σ H' _ ⟨_, _, _, e, _⟩ => SqL.of (e _ _ hL ntb_lst)) ?_ ?_
    · rintro i v σ HL HM hi ⟨o4, o5, rfl, eL, TL⟩ ⟨rfl, hv⟩
      have ov := okm v (List.mem_of_getElem? hv)
      have akL := eL _ _ gak ntb_lst
      refine ⟨_, rfl, ak, rfl, ⟨_, SqL.of akL⟩, fun W hW => ?_⟩
      have sW := sameUp (o := .lst []) hW
      refine lc_it (walk_list (xs := [V.ref fB])) (fun j H' => ExtN HM H' ∧ Tabs T H' ∧ H' W = some (.lst ((List.replicate j true).map V.bl))) ⟨ExtN.of sW, TL.ext sW, upd_same⟩ (fun j H' _ h => SqL.of (h.1 _ _ akL ntb_lst)) ?_ ?_
      · rintro j u HN HP hj ⟨eN, TN, hWN⟩ ⟨rfl, hu0⟩
        have hj0 : j = 0 := by
          have : j < 1 := hj
          omega
        subst hj0
        cases hu0
        refine ⟨rfl, TN, fun H7 e7 t7 => ⟨rfl, _, rfl, v, rfl, .inr ⟨(ov H7 ((eL.trans eN).trans e7)).1, fun H8 dd s8 hd8 => ⟨dd, v, rfl, rfl, hd8, fun p np => ?_⟩⟩⟩⟩
        have s9 := sameUp (o := .tup [.str "market", v]) np
        have hp := (upd_same : upd H8 p (.tup [.str "market", v]) p = some (.tup [.str "market", v]))
        refine ⟨_, rfl, (show 2 ≤ sizeLine by decide), fun q nq => ?_⟩
        have sq := sameUp (o := .tup [.str "market", v]) nq
        have eA : ExtN HP (upd (upd H8 p (.tup [.str "market", v])) q (.tup [.str "market", v])) := e7.trans (ExtN.of ((s8.trans s9).trans sq))
        refine ⟨_, _, rfl, tag_sx (tag := "market") (sq _ _ hp) upd_same (ov _ ((eL.trans eN).trans eA)).2, fun H16 s16 => ?_⟩
        have e16 := eA.trans (ExtN.of s16)
        have hW16 := e16 _ _ hWN ntb_lst
        have t16 := t7.ext (((s8.trans s9).trans sq).trans s16)
        refine ⟨_, hW16, small1000 (by rw [List.length_map, List.length_replicate]; omega), fun c o e n => ?_, Tabs.put t16 hW16 ntb_lst (fun φ z => by cases z), by rw [upd_same]; rfl⟩
        rw [upd_ne (ne_of_none e hW)]
        exact e16 _ _ (eN _ _ e n) n
      rintro HN ⟨eN, TN, hWN⟩
      refine ⟨W, _, rfl, SqL.of hWN, ?_⟩
      rw [show (List.replicate ([V.ref fB] : List V).length true).all id = true from rfl]
      exact ⟨true, rfl, iteF ⟨_, _, rfl, eL.trans eN, TN⟩⟩
    rintro σ HL ⟨o4, o5, rfl, eL, TL⟩
    have akL := eL _ _ gak ntb_lst
    have hhL := eL _ _ ghd ntb_lst
    refine ⟨_, rfl, ak, rfl, ⟨_, SqL.of akL⟩, fun W hW => ?_⟩
    have sW := sameUp (o := .lst []) hW
    have Whd : W ≠ hd := (ne_of_none hhL hW).symm
    refine lc_it (walk_list (xs := [V.ref fB])) (fun j H' => ∃ ps : List Addr, ps.length = j ∧ ExtN HL H' ∧ Tabs T H' ∧ H' W = some (.lst (ps.map V.ref)) ∧ ∀ p ∈ ps, p ≠ W ∧ p ≠ hd ∧ H' p = some (.tup [.str "market", .ref hd])) ⟨[], rfl, ExtN.of sW, TL.ext sW, upd_same, fun p h => by cases h⟩ (fun j H' _ ⟨_, _, e, _⟩ => SqL.of (e _ _ akL ntb_lst)) ?_ ?_
    · rintro j u HN HP hj ⟨ps, lp, eN, TN, hWN, hps⟩ ⟨rfl, hu0⟩
      have hj0 : j = 0 := by
        have : j < 1 := hj
        omega
      subst hj0
      cases hu0
      obtain rfl := List.length_eq_zero_iff.mp lp
      refine ⟨rfl, TN, fun H7 e7 t7 => ⟨rfl, _, rfl, .ref hd, rfl, .inr ⟨nk_lst NK (e7 _ _ (eN _ _ hhL ntb_lst) ntb_lst), fun H8 dd s8 hd8 => ⟨dd, .ref hd, rfl, rfl, hd8, fun p np => ?_⟩⟩⟩⟩
      have s9 := sameUp (o := .tup [.str "market", V.ref hd]) np
      have hp := (upd_same : upd H8 p (.tup [.str "market", V.ref hd]) p = some (.tup [.str "market", V.ref hd]))
      have e9 : ExtN HP (upd H8 p (.tup [.str "market", V.ref hd])) := e7.trans (ExtN.of (s8.trans s9))
      have hW9 := e9 _ _ hWN ntb_lst
      have t9 := t7.ext (s8.trans s9)
      have pW : p ≠ W := (ne_of_none (s8 _ _ (e7 _ _ hWN ntb_lst)) np).symm
      have ph : p ≠ hd := (ne_of_none (s8 _ _ (e7 _ _ (eN _ _ hhL ntb_lst) ntb_lst)) np).symm
      refine ⟨_, hW9, (show 0 < sizeLine by decide), [p], rfl, fun c o e n => ?_, Tabs.put t9 hW9 ntb_lst (fun φ z => by cases z), by rw [upd_same]; rfl, fun p' hp' => ?_⟩
      · rw [upd_ne (ne_of_none e hW)]
        exact e9 _ _ (eN _ _ e n) n
      · rw [List.mem_singleton.mp hp']
        exact ⟨pW, ph, (upd_ne pW).trans hp⟩
    rintro HN ⟨ps, lp, eN, TN, hWN, hps⟩
    obtain ⟨p, rfl⟩ : ∃ p, ps = [p] := by
      match ps, lp with
      | [p], _ => exact ⟨p, rfl⟩
    obtain ⟨pW, ph, hp⟩ := hps p (by simp)
    have hhN := eN _ _ hhL ntb_lst
    refine ⟨_, rfl, .inl ⟨rfl, _, SqL.of hhN⟩, hd, _, _, rfl, rfl, hhN, (show 1 < sizeLine by decide), ?_⟩
    have hhX : upd HN hd (.lst ([V.str "x"] ++ [V.str "late"])) hd = some (.lst ((["x", "late"] : List Str).map V.str)) := upd_same
    have hWX := (upd_ne Whd (o := .lst ([V.str "x"] ++ [V.str "late"]))).trans hWN
    have hpX := (upd_ne ph (o := .lst ([V.str "x"] ++ [V.str "late"]))).trans hp
    have akh : ak ≠ hd := ne_of_none hak nhd
    have akX := (upd_ne akh (o := .lst ([V.str "x"] ++ [V.str "late"]))).trans (eN _ _ akL ntb_lst)
    have tX : Tabs T (upd HN hd (.lst ([V.str "x"] ++ [V.str "late"]))) := Tabs.put TN hhN ntb_lst (fun φ z => by cases z)
    have eX : ∀ c o, H c = some o → (∀ ps, o ≠ .tbl ps) → upd HN hd (.lst ([V.str "x"] ++ [V.str "late"])) c = some o := fun c o e n => by
      rw [upd_ne (ne_of_none e nhd)]
      exact eN _ _ (eL _ _ (O.s _ _ (s1 _ _ e)) n) n
    generalize upd HN hd (.lst ([V.str "x"] ++ [V.str "late"])) = HX at hhX hWX hpX akX tX eX ⊢
    refine ⟨_, rfl, (show 2 ≤ sizeLine by decide), fun a1 na1 => ⟨(show 2 ≤ sizeLine by decide), fun q nq => ⟨(show 1 ≤ sizeLine by decide), fun l3 nl3 => ?_⟩⟩⟩
    have x1 := sameUp (o := .lst [V.str "x", .str "late"]) na1
    have x2 := sameUp (o := .tup [.str "market", V.ref a1]) nq
    have x3 := sameUp (o := .lst [V.ref q]) nl3
    have ha1 := (x2.trans x3) _ _ (upd_same (H := HX) (a := a1) (o := .lst [V.str "x", .str "late"]))
    have hq := x3 _ _ (upd_same (a := q) (o := .tup [.str "market", V.ref a1]))
    have hl3 : upd (upd (upd HX a1 (.lst [V.str "x", .str "late"])) q (.tup [.str "market", V.ref a1])) l3 (.lst [V.ref q]) l3 = some (.lst [V.ref q]) := upd_same
    have x13 := (x1.trans x2).trans x3
    generalize upd (upd (upd HX a1 (.lst [V.str "x", .str "late"])) q (.tup [.str "market", V.ref a1])) l3 (.lst [V.ref q]) = HY at ha1 hq hl3 x13 ⊢
    refine ⟨_, rfl, ak, _, rfl, .inl (SqL.of (x13 _ _ akX)), ?_⟩
    refine ⟨l3, ((1 : Nat) : Int), _, rfl, rfl, hl3, by decide, by decide, (show 1 * 1 ≤ sizeLine by decide), fun r nr => ?_⟩
    have sr := sameUp (o := .lst (List.replicate (((1 : Nat) : Int)).toNat [V.ref q]).flatten) nr
    have hrr : upd HY r (.lst (List.replicate (((1 : Nat) : Int)).toNat [V.ref q]).flatten) r = some (.lst [V.ref q]) := upd_same
    have sE := x13.trans sr
    refine ⟨_, _, rfl, .old (.lst (n := 6) (sE _ _ hWX) hrr rfl (show 1 ≤ 1000 by decide) fun i x y h1 h2 => ?_), fun HZ sZ => ?_⟩
    · match i, h1, h2 with
      | 0, h1, h2 =>
        cases h1
        cases h2
        refine .tup (n := 5) (sE _ _ hpX) (sr _ _ hq) rfl (show 2 ≤ 1000 by decide) fun i x y h1 h2 => ?_
        match i, h1, h2 with
        | 0, h1, h2 =>
          cases h1
          cases h2
          exact .str _ _
        | 1, h1, h2 =>
          cases h1
          cases h2
          exact sm_strs (n := 4) (r := ["x", "late"]) (sE _ _ hhX) (sr _ _ ha1) (show 2 ≤ 1000 by decide)
        | i + 2, h1, _ => simp at h1
      | i + 1, h1, _ => simp at h1
    · have sF := sE.trans sZ
      exact k HZ ⟨fun c o e n => sF _ _ (eX c o e n), tX.ext sF⟩
end
end Mn
/-! _law_start -/
namespace Mn
open PySem PySem.Spec PyProof.Rows L2 Md Me Ml LamX Mi Mo
abbrev sStart : Stmt := top 54
def spStart (K : PySem.W.Frag) : Sp := fun vs H Q _ => ∃ (c : Addr) (ns : List Int), vs = [.ref c] ∧ SqL K H c (ns.map V.int) ∧ ∀ (H' : Hp) (a b : Addr), Same H H' → Strm H' a b ns 0 0 11 → Q (.ref a) H'
section
variable {P : Program} {w : World} {K : PySem.W.Frag} {mg : Str → Option Value} {base : Heap}
theorem scStart : FnScope ["_law_script"] ["_law_script"] (defScope sStart) := ⟨rfl, rfl, rfl, by decide +kernel, rfl, by decide +kernel, by decide +kernel⟩
theorem ok_start {f : Addr} {fd : FuncData} (F : Fun K "_law_start" "_law_start" sStart f fd) (gL : mg "list" = none) : FnOk P w K mg base CX0 1 f fd ["_law_script"] (spStart K) := by
  refine F.ok scStart (fun vs H Q E h => ?_) (fun cdv A outer s H vs Q E hr h => ?_)
  · obtain ⟨c, ns, rfl, _⟩ := h
    rfl
  · obtain ⟨c, ns, rfl, hc, k⟩ := h
    refine ⟨_, pss_one (ps_ret (pe_lst (pa_cons (pe_callTy call_list_of rfl gL boot_list (pa_cons (pv 0) pa_nil)) (pa_cons pe_int (pa_cons pe_int (pa_cons pe_int pa_nil)))))), ?_⟩
    refine ⟨_, rfl, c, _, rfl, .inl hc, fun b hb => ⟨(by show 4 ≤ sizeLine; decide), fun a ha => ?_⟩⟩
    have ab : a ≠ b := (ne_of_none upd_same ha).symm
    refine k _ a b ((sameUp hb).trans (sameUp ha)) ⟨ab, upd_same, ?_, by decide, by decide, by decide, by decide⟩
    rw [upd_ne ab.symm]
    exact upd_same
end
end Mn
/-! law -/
namespace Mn
open PySem PySem.Spec PyProof.Rows L2 Md Me Ml LamX Mi Mo
abbrev sLaw : Stmt := top 66
abbrev lawN : List Str := ["_law_script", "_law_stream", "_law_turn", "_law_people", "_law_wishes"]
theorem scLaw : FnScope lawN ["_law_script"] (defScope sLaw) := ⟨rfl, rfl, rfl, by decide +kernel, rfl, by decide +kernel, by decide +kernel⟩
def spLaw (K : PySem.W.Frag) (T : List (Addr × Str)) : Sp := fun vs H Q _ => ∃ (s0 : Addr) (ns : List Int), vs = [.ref s0] ∧ SqL K H s0 (ns.map V.int) ∧ Tabs T H ∧ ∀ H', Q (.bl true) H'
/-! the written market -/
theorem ne_fresh {H : Hp} {p q : Addr} {o1 : HO} (nq : upd H p o1 q = none) : q ≠ p := fun z => by
  rw [z, upd_same] at nq
  cases nq
def fo : List Str := ["ann", "bo", "cy", "dan"]
def rwF (y : Str) : List Str := if y = "ann" then ["bo", "dan"] else if y = "bo" then ["cy", "ann"] else if y = "cy" then ["dan", "bo"] else if y = "dan" then ["ann", "cy"] else []
theorem fo_so : fo.Nodup ∧ sortedS fo = true := by decide +kernel
def fo2 : List Str := ["dan", "ann", "bo", "cy"]
theorem fo2_gn : GoodNs fo2 := ⟨by decide +kernel, by decide +kernel, by decide +kernel⟩
theorem fo_gr : GoodRows fo rwF := by
  have h : ∀ n ∈ fo, (rwF n).Nodup ∧ n ∉ rwF n ∧ ∀ x ∈ rwF n, x ∈ fo := by decide +kernel
  exact fun n hn => ⟨(h n hn).1, (h n hn).2.1, (h n hn).2.2⟩
theorem fo2_gr : GoodRows fo2 rwF := by
  have h : ∀ n ∈ fo2, (rwF n).Nodup ∧ n ∉ rwF n ∧ ∀ x ∈ rwF n, x ∈ fo2 := by decide +kernel
  exact fun n hn => ⟨(h n hn).1, (h n hn).2.1, (h n hn).2.2⟩
theorem fo_pm : fo.Perm fo2 := by decide +kernel
theorem fo_shr : ∀ y ∈ fo, shR fo rwF y = rwF y := by decide +kernel
theorem fo_l : ∀ y ∈ fo, (rwF y).length ≤ 63 := by decide +kernel
theorem fo_cl : ∀ z, Ak.Cl (shR fo rwF) z := by
  have h : ∀ z ∈ fo, ∀ f ∈ fo, (shR fo rwF z).head? = some f → (shR fo rwF f).getLast? = some z := by decide +kernel
  have SO := shR_ok fo_gr
  intro z f hf
  have m := SO.sub z f (Ak.head_mem hf)
  exact h z m.1 f m.2 hf
theorem rowsN_tbl {H0 H1 : Hp} {D : Addr} {ns : List Str} {rw_ : Str → List Str} {bs : List Addr} (R : RowsN H0 H1 D ns rw_ bs) (nd : ns.Nodup) : ∃ cp : Str → Addr, Tbl H1 D ns cp rw_ ∧ ∀ y ∈ ns, H0 (cp y) = none := by
  obtain ⟨cp, rfl⟩ := exists_pp (α := Addr) R.l nd
  refine ⟨cp, ⟨by rw [R.d, zip_pp], fun y hy => ?_, fun x hx y hy e => ?_⟩, fun y hy => R.f _ (List.mem_map_of_mem hy)⟩
  · obtain ⟨j, hj⟩ := List.getElem?_of_mem hy
    exact R.r j y _ hj (by rw [List.getElem?_map, hj]; rfl)
  · obtain ⟨i, hi⟩ := List.getElem?_of_mem hx
    obtain ⟨j, hj⟩ := List.getElem?_of_mem hy
    have := (List.getElem?_inj (l := ns.map cp) (by rw [List.length_map]; exact (List.getElem?_eq_some_iff.mp hi).1) R.n).mp (show (ns.map cp)[i]? = (ns.map cp)[j]? by rw [List.getElem?_map, List.getElem?_map, hi, hj]; show some (cp x) = some (cp y); rw [e])
    subst this
    exact Option.some.inj (hi.symm.trans hj)
theorem rowsN_s {a b : Addr} {B : Nat} {H0 H1 : Hp} {D : Addr} {ns : List Str} {rw_ : Str → List Str} {bs : List Addr} (S : Stm H0 a b B) (R : RowsN H0 H1 D ns rw_ bs) : RowsS a b H1 D ns rw_ bs :=
  ⟨R.l, R.d, R.r, fun c hc => S.nd (R.f c hc), S.nd R.fD⟩
section
variable {P : Program} {w : World} {K : PySem.W.Frag} {mg : Str → Option Value} {base : Heap}
theorem ok_law {T : List (Addr × Str)} {f C0 fI fZ fN fP fT fY fQ fO fD fR fS : Addr} {fd fdI fdZ fdN fdP fdT fdY fdQ fdO fdD fdR fdS : FuncData} (F : Fun K "law" "law" sLaw f fd)
    (MC : MkC K C0) (MM : Mk K C0 fI) (gMk : mg "Market" = some (.ref C0))
    (GI : FnOk P w K mg base (L2.CX P w) 6 fI fdI ["self", "people", "wishes"] (spInit K T)) (bI : Binds K fdI ["self", "people", "wishes"] [])
    (GZ : FnOk P w K mg base CX0 1 fZ fdZ ["_law_script"] (spStart K)) (kZ : PySem.W.keepIn K (.ref fZ) = true) (bZ : Binds K fdZ ["_law_script"] []) (gZ : mg "_law_start" = some (.ref fZ))
    (GN : FnOk P w K mg base CX0 6 fN fdN ["_law_stream", "_law_many"] (spGd K)) (kN : PySem.W.keepIn K (.ref fN) = true) (bN : Binds K fdN ["_law_stream", "_law_many"] []) (gN : mg "_law_g_drawn" = some (.ref fN))
    (GP : FnOk P w K mg base CX0 2 fP fdP ["_law_stream", "_law_some"] (spPick K)) (kP : PySem.W.keepIn K (.ref fP) = true) (bP : Binds K fdP ["_law_stream", "_law_some"] []) (gP : mg "_law_pick" = some (.ref fP))
    (GT : FnOk P w K mg base CX0 11 fT fdT ["_law_stream", "_law_people", "_law_wishes"] (spTld T)) (kT : PySem.W.keepIn K (.ref fT) = true) (bT : Binds K fdT ["_law_stream", "_law_people", "_law_wishes"] []) (gT : mg "_law_told_right" = some (.ref fT))
    (GY : FnOk P w K mg base CX0 9 fY fdY ["_law_stream"] (spSml T)) (kY : PySem.W.keepIn K (.ref fY) = true) (bY : Binds K fdY ["_law_stream"] []) (gY : mg "_law_small_right" = some (.ref fY))
    (GQ : FnOk P w K mg base CX0 11 fQ fdQ ["_law_people", "_law_wishes", "_law_asks"] (spRfd T C0 fR)) (kQ : PySem.W.keepIn K (.ref fQ) = true) (bQ : Binds K fdQ ["_law_people", "_law_wishes", "_law_asks"] []) (gQ : mg "_law_g_refused" = some (.ref fQ))
    (GO : FnOk P w K mg base CX0 5 fO fdO ["_law_stream", "_law_many"] (spRnd K)) (kO : PySem.W.keepIn K (.ref fO) = true) (bO : Binds K fdO ["_law_stream", "_law_many"] []) (gO : mg "_law_round" = some (.ref fO))
    (GD : FnOk P w K mg base CX0 1 fD fdD ["_law_stream", "_law_many"] (spDrawB)) (kD : PySem.W.keepIn K (.ref fD) = true) (bD : Binds K fdD ["_law_stream", "_law_many"] []) (gD : mg "_law_draw" = some (.ref fD))
    (GR : FnOk P w K mg base (L2.CX P w) 6 fR fdR ["market"] (spArs K C0)) (kR : PySem.W.keepIn K (.ref fR) = true) (bR : Binds K fdR ["market"] []) (gR : mg "asked_rows" = some (.ref fR))
    (GS : FnOk P w K mg base CX0 10 fS fdS ["_law_found", "_law_due"] (spSame C0 7)) (kS : PySem.W.keepIn K (.ref fS) = true) (bS : Binds K fdS ["_law_found", "_law_due"] []) (gS : mg "_law_same" = some (.ref fS))
    (gRange : mg "range" = none) : FnOk P w K mg base CX0 12 f fd ["_law_script"] (spLaw K T) := by
  refine F.ok scLaw (fun vs H Q E h => ?_) (fun cdv A outer s H vs Q E hr h => ?_)
  · obtain ⟨s0, ns, rfl, _⟩ := h
    rfl
  · obtain ⟨s0, is, rfl, hs0, hT, k⟩ := h
    have nd := scLaw.nd
    refine ⟨_, (pss_cons (ps_set (i := 1) nd rfl (Or.inl rfl) (pe_call GZ (hr.mono (by decide)) rfl gZ kZ bZ .nil pass0 (pa_cons (pv 0) pa_nil)))
      (pss_cons (ps_for PassesOwn.never rfl (pi_range1 rfl gRange (pa_cons pe_int pa_nil)) (pg_name (i := 2) nd rfl (Or.inl rfl)) (pss_cons (ps_asg (pe_call GN (hr.mono (by decide)) rfl gN kN bN .nil pass0 (pa_cons (pv 1) (pa_cons (pe_call GP (hr.mono (by decide)) rfl gP kP bP .nil pass0 (pa_cons (pv 1) (pa_cons (pe_lst (pa_cons pe_int (pa_cons pe_int (pa_cons pe_int (pa_cons pe_int (pa_cons pe_int (pa_cons pe_int pa_nil))))))) pa_nil))) pa_nil))) (pg_tup rfl (pgs_cons (pg_name (i := 3) nd rfl (Or.inl rfl)) (pgs_cons (pg_name (i := 4) nd rfl (Or.inl rfl)) pgs_nil))))
      (pss_one (ps_if (PW.pt (pw_or (pt_not (pt_val (pe_call GT (hr.mono (by decide)) rfl gT kT bT .nil pass0 (pa_cons (pv 1) (pa_cons (pv 3) (pa_cons (pv 4) pa_nil)))))) (pw_or1 (pt_not (pt_val (pe_call GY (hr.mono (by decide)) rfl gY kY bY .nil pass0 (pa_cons (pv 1) pa_nil))))))) (pss_one (ps_ret pe_bl)) pss_nil))))
      (pss_cons (ps_if (pt_not (pt_val (pe_call GQ (hr.mono (by decide)) rfl gQ kQ bQ .nil pass0 (pa_cons (pv 3) (pa_cons (pv 4) (pa_cons (pe_lst (pa_cons (pe_glob rfl gR (v := .ref fR) rfl) pa_nil)) pa_nil)))))) (pss_one (ps_ret pe_bl)) pss_nil)
      (pss_cons (ps_asg (pe_call GN (hr.mono (by decide)) rfl gN kN bN .nil pass0 (pa_cons (pv 1) (pa_cons pe_int pa_nil))) (pg_tup rfl (pgs_cons (pg_name (i := 3) nd rfl (Or.inl rfl)) (pgs_cons (pg_name (i := 4) nd rfl (Or.inl rfl)) pgs_nil))))
      (pss_cons (ps_if (pt_not (pt_val (pe_call GT (hr.mono (by decide)) rfl gT kT bT .nil pass0 (pa_cons (pv 1) (pa_cons (pv 3) (pa_cons (pv 4) pa_nil)))))) (pss_one (ps_ret pe_bl)) pss_nil)
      (pss_cons (ps_asg (pe_call GO (hr.mono (by decide)) rfl gO kO bO .nil pass0 (pa_cons (pv 1) (pa_cons (pe_op op_add pe_int (pe_call GD (hr.mono (by decide)) rfl gD kD bD .nil pass0 (pa_cons (pv 1) (pa_cons pe_int pa_nil)))) pa_nil))) (pg_tup rfl (pgs_cons (pg_name (i := 3) nd rfl (Or.inl rfl)) (pgs_cons (pg_name (i := 4) nd rfl (Or.inl rfl)) pgs_nil))))
      (pss_cons (ps_if (pt_not (pt_val (pe_call GT (hr.mono (by decide)) rfl gT kT bT .nil pass0 (pa_cons (pv 1) (pa_cons (pv 3) (pa_cons (pv 4) pa_nil)))))) (pss_one (ps_ret pe_bl)) pss_nil)
      (pss_cons (ps_set (i := 4) nd rfl (Or.inl rfl) (pe_disp (pps_cons pe_str (pe_lst (pa_cons pe_str (pa_cons pe_str pa_nil))) (pps_cons pe_str (pe_lst (pa_cons pe_str (pa_cons pe_str pa_nil))) (pps_cons pe_str (pe_lst (pa_cons pe_str (pa_cons pe_str pa_nil))) (pps_cons pe_str (pe_lst (pa_cons pe_str (pa_cons pe_str pa_nil))) pps_nil)))) rfl rfl (by simp) (by simp)))
      (pss_one (ps_ret (pe_call GS (hr.mono (by decide)) rfl gS kS bS .nil pass0 (pa_cons (pe_call GR (hr.mono (by decide)) rfl gR kR bR .nil passE0 (pa_cons (pe_make MM GI (hr.mono (by decide)) rfl gMk bI .nil passE0 (pa_cons (pe_lst (pa_cons pe_str (pa_cons pe_str (pa_cons pe_str (pa_cons pe_str pa_nil))))) (pa_cons (pv 4) pa_nil))) pa_nil)) (pa_cons (pv 4) pa_nil))))))))))))), ?_⟩

    refine ⟨_, rfl, s0, is, rfl, hs0, fun H1 a b s1 Sm1 => ?_⟩
    have S1 : Stm H1 a b 0 := ⟨is, 0, 0, 11, Sm1, by simp⟩
    have T1 : Tabs T H1 := hT.ext s1
    refine ⟨_, rfl, by decide, by decide, ?_⟩
    refine for_it (n := 5) walk_range (fun i σ H' => ∃ o2 o3 o4, σ = [some (.ref s0), some (.ref a), o2, o3, o4] ∧ Tabs T H' ∧ Stm H' a b (i * 10000000) ∧
        (i = 5 → ∃ (pa wd : Addr) (ns : List Str) (cp : Str → Addr) (rw_ : Str → List Str), o3 = some (.ref pa) ∧ o4 = some (.ref wd) ∧ H' pa = some (.lst (ns.map V.str)) ∧ Tbl H' wd ns cp rw_ ∧ ns.length ≤ 63 ∧ ∀ n ∈ ns, (rw_ n).length ≤ 63)) ⟨_, _, _, rfl, T1, by simpa using S1, fun z => by cases z⟩ (fun _ _ _ _ _ => trivial) ?_ ?_
    · rintro i v σ H2 H3 hi ⟨o2, o3, o4, rfl, T3, S3, _⟩ ⟨rfl, rfl⟩
      have hi5 : i < 5 := hi
      refine ⟨_, rfl, _, rfl, (show 6 ≤ sizeLine by decide), fun q6 nq6 => ?_⟩
      have s6 := sameUp (o := .lst [V.int 0, .int 1, .int 3, .int 6, .int 12, .int 20]) nq6
      have hq6 : upd H3 q6 (.lst [V.int 0, .int 1, .int 3, .int 6, .int 12, .int 20]) q6 = some (.lst [V.int 0, .int 1, .int 3, .int 6, .int 12, .int 20]) := upd_same
      obtain ⟨q6a, q6b⟩ := S3.nd nq6
      have S4 := S3.ext (ExtN.of s6)
      have T4 := T3.ext s6
      generalize upd H3 q6 (.lst [V.int 0, .int 1, .int 3, .int 6, .int 12, .int 20]) = H4 at hq6 S4 T4 ⊢
      refine ⟨a, b, q6, _, _, rfl, S4, by omega, q6a, q6b, hq6, by decide, by decide, fun H5 z hz S5 kb5 => ?_⟩
      obtain ⟨m, rfl, hm⟩ : ∃ m : Nat, z = .int m ∧ m ≤ 20 := by
        simp only [List.mem_cons, List.mem_nil_iff, or_false] at hz
        rcases hz with h | h | h | h | h | h
        · exact ⟨0, h, by simp⟩
        · exact ⟨1, h, by simp⟩
        · exact ⟨3, h, by simp⟩
        · exact ⟨6, h, by simp⟩
        · exact ⟨12, h, by simp⟩
        · exact ⟨20, h, by simp⟩
      have T5 := Tabs.but T4 S4 kb5
      refine ⟨a, b, _, m, rfl, S5, by omega, by omega, fun H6 t pa D ns rw_ bs S6 kb6 ht ln gn fpa hpa R => ?_⟩
      have T6 := Tabs.but T5 S5 kb6
      obtain ⟨paa, pab⟩ := S5.nd fpa
      have RS := rowsN_s S5 R
      refine ⟨t, _, rfl, SqT.of ht, rfl, _, _, rfl, _, _, rfl, rfl, ?_⟩
      refine ⟨_, rfl, _, rfl, _, rfl, a, b, pa, D, _, ns, rw_, bs, rfl, S6, T6, paa, pab, hpa, RS, gn, R.g, by omega, fun H7 u7 S7 => ⟨true, rfl, iteF ⟨_, rfl, a, b, _, rfl, S7, u7.t, by omega, fun H8 u8 S8 => ⟨true, rfl, iteF ?_⟩⟩⟩⟩
      have u68 := u7.trans u8
      refine ⟨_, _, _, rfl, u8.t, S8.up (by omega), fun _ => ?_⟩
      obtain ⟨cp, TW, fc⟩ := rowsN_tbl R gn.nd
      obtain ⟨Da, Db⟩ := S5.nd R.fD
      exact ⟨pa, D, ns, cp, rw_, rfl, rfl, u68.e _ _ paa pab hpa ntb_lst, ⟨u68.e _ _ Da Db TW.d ntb_dK, fun y hy => u68.e _ _ (S5.nd (fc y hy)).1 (S5.nd (fc y hy)).2 (TW.r y hy) ntb_lst, TW.inj⟩, gn.l, fun n hn => Nat.le_trans (pigeon (R.g n hn).nd (R.g n hn).sub) gn.l⟩
    rintro σ H2 ⟨o2, o3, o4, rfl, T2, S2, k5⟩
    obtain ⟨pa, wd, ns, cp, rw_, rfl, rfl, hpa, TW, hln, hrl⟩ := k5 rfl
    clear k5
    refine ⟨_, rfl, _, rfl, (show 1 ≤ sizeLine by decide), fun ak nak => ?_⟩
    have sk := sameUp (o := .lst [V.ref fR]) nak
    have hak : upd H2 ak (.lst [V.ref fR]) ak = some (.lst [V.ref fR]) := upd_same
    have hpa3 := sk _ _ hpa
    have TW3 := TW.ext (ExtN.of sk)
    have S3 := S2.ext (ExtN.of sk)
    have T3 := T2.ext sk
    generalize upd H2 ak (.lst [V.ref fR]) = H3 at hak hpa3 TW3 S3 T3 ⊢
    refine ⟨pa, wd, ak, ns, cp, rw_, rfl, T3, hpa3, TW3, hln, hrl, hak, fun H4 u4 => ⟨true, rfl, iteF ?_⟩⟩
    have S4 : Stm H4 a b (5 * 10000000) := S3.ext u4.e
    have T4 := u4.t
    clear hak hpa3 TW3 S3 T3 u4 TW hpa hln hrl
    -- forty people
    refine ⟨_, rfl, a, b, _, 40, rfl, S4, by decide, by decide, fun H6 t pa2 D ns2 rw2 bs S6 kb6 ht ln gn fpa hpa R => ?_⟩
    have T6 := Tabs.but T4 S4 kb6
    obtain ⟨paa, pab⟩ := S4.nd fpa
    refine ⟨t, _, rfl, SqT.of ht, rfl, _, _, rfl, _, _, rfl, rfl, ?_⟩
    refine ⟨_, rfl, _, rfl, _, rfl, a, b, pa2, D, _, ns2, rw2, bs, rfl, S6, T6, paa, pab, hpa, rowsN_s S4 R, gn, R.g, by decide, fun H7 u7 S7 => ⟨true, rfl, iteF ?_⟩⟩
    have T7 := u7.t
    clear u7 hpa ht kb6 S6 T6 S4 T4
    -- rows that go round
    refine ⟨_, rfl, _, rfl, a, b, _, 20, rfl, S7, by decide, by decide, by decide, fun H8 d d0 d1 S8 kb8 => ?_⟩
    obtain ⟨m, rfl⟩ := Int.eq_ofNat_of_zero_le d0
    have T8 := Tabs.but T7 S7 kb8
    refine ⟨_, _, rfl, rfl, a, b, _, m + 2, congrArg (fun z => [V.ref a, V.int z]) (by push_cast; omega), S8, by omega, by decide, fun H9 t2 pa3 D3 ns3 rw3 bs3 S9 kb9 ht2 gn3 fpa3 hpa3 R3 => ?_⟩
    have T9 := Tabs.but T8 S8 kb9
    obtain ⟨pc, pd⟩ := S8.nd fpa3
    refine ⟨t2, _, rfl, SqT.of ht2, rfl, _, _, rfl, _, _, rfl, rfl, ?_⟩
    refine ⟨_, rfl, _, rfl, _, rfl, a, b, pa3, D3, _, ns3, rw3, bs3, rfl, S9, T9, pc, pd, hpa3, rowsN_s S8 R3, gn3, R3.g, by decide, fun HA uA SA => ⟨true, rfl, iteF ?_⟩⟩
    have TA := uA.t
    clear uA hpa3 ht2 kb9 S9 T9 S8 T8 kb8 S7 T7
    -- the written market
    refine fun p np => ⟨(show 2 ≤ sizeLine by decide), fun l1 n1 => ⟨(show 2 ≤ sizeLine by decide), fun l2 n2 => ⟨(show 2 ≤ sizeLine by decide), fun l3 n3 => ⟨(show 2 ≤ sizeLine by decide), fun l4 n4 => ?_⟩⟩⟩⟩
    have x0 := sameUp (o := .dK []) np
    have x1 := sameUp (o := .lst [V.str "bo", .str "dan"]) n1
    have x2 := sameUp (o := .lst [V.str "cy", .str "ann"]) n2
    have x3 := sameUp (o := .lst [V.str "dan", .str "bo"]) n3
    have x4 := sameUp (o := .lst [V.str "ann", .str "cy"]) n4
    have hp := (((x1.trans x2).trans x3).trans x4) _ _ (upd_same : upd HA p (.dK []) p = some (.dK []))
    have a1 := ((x2.trans x3).trans x4) _ _ (upd_same (a := l1) (o := .lst [V.str "bo", .str "dan"]))
    have a2 := (x3.trans x4) _ _ (upd_same (a := l2) (o := .lst [V.str "cy", .str "ann"]))
    have a3 := x4 _ _ (upd_same (a := l3) (o := .lst [V.str "dan", .str "bo"]))
    have a4 : upd (upd (upd (upd (upd HA p (.dK [])) l1 (.lst [V.str "bo", .str "dan"])) l2 (.lst [V.str "cy", .str "ann"])) l3 (.lst [V.str "dan", .str "bo"])) l4 (.lst [V.str "ann", .str "cy"]) l4 = some (.lst [V.str "ann", .str "cy"]) := upd_same
    have xp := x0.trans (((x1.trans x2).trans x3).trans x4)
    generalize upd (upd (upd (upd (upd HA p (.dK [])) l1 (.lst [V.str "bo", .str "dan"])) l2 (.lst [V.str "cy", .str "ann"])) l3 (.lst [V.str "dan", .str "bo"])) l4 (.lst [V.str "ann", .str "cy"]) = HB at hp a1 a2 a3 a4 xp ⊢
    clear x0 x1 x2 x3 x4 n1 n2 n3 n4
    refine ⟨hp, [(Sum.inr "ann", .ref l1), (Sum.inr "bo", .ref l2), (Sum.inr "cy", .ref l3), (Sum.inr "dan", .ref l4)], rfl, by simp, ?_⟩
    have e4 : mergeK [] [((Sum.inr "ann" : Key), V.ref l1), (Sum.inr "bo", .ref l2), (Sum.inr "cy", .ref l3), (Sum.inr "dan", .ref l4)] = (fo.zip [l1, l2, l3, l4]).map fun p => ((Sum.inr p.1 : Key), V.ref p.2) := mergeK_new _ _ (by
      show ([Sum.inr "ann", Sum.inr "bo", Sum.inr "cy", Sum.inr "dan"] : List Key).Nodup
      decide +kernel)
    rw [e4]
    have at4 : ∀ (j : Nat) (y : Str) (c : Addr), fo[j]? = some y → [l1, l2, l3, l4][j]? = some c → HB c = some (.lst ((rwF y).map V.str)) := fun j y c h1 h2 => by
      match j, h1, h2 with
      | 0, h1, h2 =>
        cases h1
        cases h2
        exact a1
      | 1, h1, h2 =>
        cases h1
        cases h2
        exact a2
      | 2, h1, h2 =>
        cases h1
        cases h2
        exact a3
      | 3, h1, h2 =>
        cases h1
        cases h2
        exact a4
      | j + 4, h1, _ => simp [fo] at h1
    have nps : ((fo.zip [l1, l2, l3, l4]).map Prod.fst) = fo := rfl
    obtain ⟨cpF, ecp⟩ := exists_pp (α := Addr) (show [l1, l2, l3, l4].length = fo.length from rfl) fo_so.1
    rw [ecp] at at4 nps ⊢
    clear e4 a1 a2 a3 a4 ecp
    have atF : ∀ y ∈ fo, HB (cpF y) = some (.lst ((rwF y).map V.str)) := fun y hy => by
      obtain ⟨j, hj⟩ := List.getElem?_of_mem hy
      exact at4 j y _ hj (by rw [List.getElem?_map, hj]; rfl)
    have fp : ∀ y ∈ fo, cpF y ≠ p := fun y hy z => by
      have := atF y hy
      rw [z, hp] at this
      cases this
    have TBF : Tbl (upd HB p (.dK (dcOf fo fun y => V.ref (cpF y)))) p fo cpF rwF := by
      refine ⟨upd_same, fun y hy => (upd_ne (fp y hy)).trans (atF y hy), fun x hx y hy e => ?_⟩
      have h := atF x hx
      rw [e, atF y hy] at h
      have h2 : (rwF y).map V.str = (rwF x).map V.str := HO.lst.inj (Option.some.inj h)
      have h3 : rwF y = rwF x := (List.map_inj_right (fun a b h => V.str.inj h)).mp h2
      exact (show ∀ x ∈ fo, ∀ y ∈ fo, rwF y = rwF x → x = y by decide +kernel) x hx y hy h3
    have eD := zip_pp (ts := fo) (pp := cpF)
    rw [eD]
    have xs : Same HA (upd HB p (.dK (dcOf fo fun y => V.ref (cpF y)))) := fun c o e => by
      rw [upd_ne (ne_of_none e np)]
      exact xp _ _ e
    generalize upd HB p (.dK (dcOf fo fun y => V.ref (cpF y))) = HC at TBF xs ⊢
    refine ⟨(show 4 ≤ sizeLine by decide), fun q2 nq2 => ⟨_, rfl, ?_⟩⟩
    have sq2 := sameUp (o := .lst [V.str "dan", .str "ann", .str "bo", .str "cy"]) nq2
    have hq2 : upd HC q2 (.lst [V.str "dan", .str "ann", .str "bo", .str "cy"]) q2 = some (.lst (fo2.map V.str)) := upd_same
    have TB5 := TBF.ext (ExtN.of sq2)
    have T5 := TA.ext (xs.trans sq2)
    generalize upd HC q2 (.lst [V.str "dan", .str "ann", .str "bo", .str "cy"]) = H5 at hq2 T5 TB5 ⊢
    have hp5 : H5 p = some (.dK ((fo.zip (fo.map cpF)).map fun p => ((Sum.inr p.1 : Key), V.ref p.2))) := by
      rw [eD]
      exact TB5.d
    refine mk_reads MC T5 (pplOk (.inl hq2) fo2_gn) (wshOk (ps := fo.zip (fo.map cpF)) ⟨hp5, by rw [nps]; exact fo_so.1, fun r hr => fo_pm.mem_iff.mp (by rw [← nps]; exact List.mem_map_of_mem hr), fun r hr => .inl ?_, fun n hn z => absurd (by rw [nps]; exact fo_pm.mem_iff.mpr hn) z⟩ fo2_gr fo2_gn) fun H6 x ys u6 nx M6 keep6 => ?_
    · have ez : fo.zip (fo.map cpF) = fo.map fun y => (y, cpF y) := rfl
      rw [ez] at hr
      obtain ⟨y, hy, rfl⟩ := List.mem_map.mp hr
      exact TB5.r y hy
    have ey : ys = fo := sorted_uniq (M6.pm.trans fo_pm.symm) M6.so fo_so.2
    subst ey
    refine ⟨_, rfl, .inl ⟨x, fo2, fo, rwF, rfl, M6, fo2_gn, fo2_gr, fun H7 D2 cp2 T2 s7 A2 => ?_⟩⟩
    have SO := shR_ok fo_gr
    have eT : ∀ y ∈ fo, T2 y = rwF y := fun y hy => (Ak.Run.uniq A2.run A2.cl (Ak.Run.start SO.nd SO.sym) fo_cl y).trans (fo_shr y hy)
    exact ⟨_, rfl, _, _, rfl, dicts_sm (n := 3) A2.t ((TB5.ext u6.e).ext (ExtN.of s7)) eT (by decide) (fun y hy => by rw [eT y hy]; exact fo_l y hy), fun HZ _ => k HZ⟩
end
end Mn
/-! facts about the classes, as a kernel can look them up -/
namespace Qf
open PySem PySem.Spec PyProof.Rows L2 Md
open PySem.W (nsIn findIn typeIn subIn keepIn clsIn hasDictIn specialIn takesIn mroIn kitOne kitCls)
abbrev veT : List Value := [.type "ValueError", .type "Exception", .type "BaseException", .type "object"]
/-- the class at C: its mro is C and bm, it is made by ValueError's new -/
def clsB (K : PySem.W.Frag) (C : Addr) (bm : List Value) : Bool := match K.lookup C with
  | some ⟨.type "type", _, .cls cd, sl⟩ => (match sl.toList with
    | [_, _, _, _, some (.builtin n), _] => n == "ValueError.__new__" && (!cd.hasDel && (cd.hasDict && cd.mro == .ref C :: bm))
    | _ => false)
  | _ => false
theorem clsB_ok {K : PySem.W.Frag} {C : Addr} {bm : List Value} (q : clsB K C bm = true) : ∃ nm qn N bs sn sub ab col dd k0 k1 k2 k3 k5,
    K.lookup C = some (excClassObj nm qn C N bs bm true sn sub ab col dd k0 k1 k2 k3 k5 "ValueError.__new__") := by
  unfold clsB at q
  split at q
  · rename_i dd cd sl ho
    split at q
    · rename_i k0 k1 k2 k3 n k5 hs
      simp only [Bool.and_eq_true, beq_iff_eq, Bool.not_eq_true'] at q
      obtain ⟨rfl, hdel, hdi, hmro⟩ := q
      obtain ⟨nm, bs, mro, ns, qn, hd, sn, sub, ab, col, del⟩ := cd
      dsimp only at hdel hdi hmro
      subst hdel hdi hmro
      have hsl : sl = #[k0, k1, k2, k3, some (.builtin "ValueError.__new__"), k5] := by
        obtain ⟨l⟩ := sl
        simp only at hs
        rw [hs]
      subst hsl
      exact ⟨nm, qn, ns, bs, sn, sub, ab, col, dd, k0, k1, k2, k3, k5, ho⟩
    · cases q
  · cases q
theorem clsIn_of {K : PySem.W.Frag} {C : Addr} {bm : List Value} (q : clsB K C bm = true) : ∃ cd, clsIn K C = some cd ∧ cd.mro = .ref C :: bm ∧ cd.hasDict = true := by
  obtain ⟨nm, qn, N, bs, sn, sub, ab, col, dd, k0, k1, k2, k3, k5, h⟩ := clsB_ok q
  unfold clsIn
  rw [h]
  exact ⟨_, rfl, rfl, rfl⟩
theorem typeIn_of {K : PySem.W.Frag} {C : Addr} {bm : List Value} (q : clsB K C bm = true) : typeIn K (.ref C) = some (.type "type") := by
  obtain ⟨nm, qn, N, bs, sn, sub, ab, col, dd, k0, k1, k2, k3, k5, h⟩ := clsB_ok q
  show (K.lookup C).map (·.cls) = _
  rw [h]
  rfl
theorem mroIn_of {K : PySem.W.Frag} {C : Addr} {bm : List Value} (q : clsB K C bm = true) (b : Value) : mroIn K C b = some ((Value.ref C :: bm).contains b) := by
  obtain ⟨cd, h1, h2, _⟩ := clsIn_of q
  unfold mroIn
  rw [h1]
  show (if cd.mro.isEmpty = true then none else some (cd.mro.contains b)) = _
  rw [h2]
  rfl
/-- one class of errors, its field -/
def oneB (K : PySem.W.Frag) (C S : Addr) (fs : List Str) : Bool :=
  clsB K C (.ref S :: veT) && (xfB K C && (He.eqO (findIn K (.ref C) "__setattr__") (some (some (.builtin "object.__setattr__"))) && (keepIn K (.ref C) &&
    (He.eqO (findIn K (.ref C) "__init__") (some (some (.ref (He.ma K C "__init__")))) && (decide (typeIn K (.ref (He.ma K C "__init__")) = some (.type "function")) && fs.all fun f => He.eqO (findIn K (.ref C) f) (some none))))))
theorem one_of {K : PySem.W.Frag} {mg : Str → Option Value} {x f : Str} {S : Addr} (g : mg x = some (.ref (He.ga K x))) (q : oneB K (He.ga K x) S [f] = true) : Mn.ExX K mg x f := by
  obtain ⟨q1, q⟩ := He.ba q
  obtain ⟨q2, q⟩ := He.ba q
  obtain ⟨q3, q⟩ := He.ba q
  obtain ⟨q4, q⟩ := He.ba q
  obtain ⟨q5, q⟩ := He.ba q
  obtain ⟨q6, q7⟩ := He.ba q
  have xf := xfB_ok q2
  obtain ⟨nm, qn, N, bs, sn, sub, ab, col, dd, k0, k1, k2, k3, k5, h⟩ := clsB_ok q1
  exact ⟨g, ⟨⟨nm, qn, N, bs, _, sn, sub, ab, col, dd, k0, k1, k2, k3, k5, h, rfl⟩, He.eqO_ok q3, xf.exC, typeIn_of q1, q4⟩, He.eqO_ok q5, of_decide_eq_true q6, He.eqO_ok (List.all_eq_true.mp q7 f (by simp)), xf⟩
/-- what is asked of the class Market -/
def mkB (K : PySem.W.Frag) (C : Addr) : Bool :=
  (He.eqO (findIn K (.ref C) "__class__") (some (some (.builtin "object.__class__"))) && (He.eqO (specialIn K (.builtin "object.__class__") "__get__") (some (some (.builtin "getset_descriptor.__get__"))) && (decide (takesIn K (.builtin "object.__class__") = some true) && (decide (mroIn K C (.type "object") = some true) &&
    (He.eqO (findIn K (.ref C) "__eq__") (some (some (.ref (He.ma K C "__eq__")))) && (PySem.W.isFn K (.ref (He.ma K C "__eq__")) && He.eqO (findIn K (.ref C) "__ne__") (some (some (.builtin "object.__ne__"))))))))) &&
  ((decide (kitOne K (.ref C) (.type "list") = some false) && (decide (kitOne K (.ref C) (.type "tuple") = some false) && (decide (kitOne K (.ref C) (.type "dict") = some false) && (decide (kitOne K (.ref C) (.type "int") = some false) && (decide (kitOne K (.ref C) (.type "bool") = some false) && decide (kitOne K (.ref C) (.type "str") = some false)))))) &&
   (PySem.W.notFirst K C (.type "list") && (PySem.W.notFirst K C (.type "tuple") && (PySem.W.notFirst K C (.type "dict") && (PySem.W.notFirst K C (.ref C) &&
     (decide (kitOne K (.type "list") (.ref C) = some false) && (decide (kitOne K (.type "tuple") (.ref C) = some false) && decide (kitOne K (.type "dict") (.ref C) = some false))))))))
theorem mk_of {K : PySem.W.Frag} {C : Addr} (c : Mn.MkC K C) (q : mkB K C = true) : Mn.MkE K C (He.ma K C "__eq__") ∧ Mn.MkT K C ∧ Mn.MkQ K C := by
  obtain ⟨qe, q⟩ := He.ba q
  obtain ⟨qt, qq⟩ := He.ba q
  obtain ⟨e1, q⟩ := He.ba qe
  obtain ⟨e2, q⟩ := He.ba q
  obtain ⟨e3, q⟩ := He.ba q
  obtain ⟨e4, q⟩ := He.ba q
  obtain ⟨e5, q⟩ := He.ba q
  obtain ⟨e6, e7⟩ := He.ba q
  obtain ⟨t1, q⟩ := He.ba qt
  obtain ⟨t2, q⟩ := He.ba q
  obtain ⟨t3, q⟩ := He.ba q
  obtain ⟨t4, q⟩ := He.ba q
  obtain ⟨t5, t6⟩ := He.ba q
  obtain ⟨n1, q⟩ := He.ba qq
  obtain ⟨n2, q⟩ := He.ba q
  obtain ⟨n3, q⟩ := He.ba q
  obtain ⟨n4, q⟩ := He.ba q
  obtain ⟨k1, q⟩ := He.ba q
  obtain ⟨k2, k3⟩ := He.ba q
  exact ⟨⟨c, He.eqO_ok e1, He.eqO_ok e2, of_decide_eq_true e3, of_decide_eq_true e4, He.eqO_ok e5, e6, He.eqO_ok e7⟩,
    ⟨of_decide_eq_true t1, of_decide_eq_true t2, of_decide_eq_true t3, of_decide_eq_true t4, of_decide_eq_true t5, of_decide_eq_true t6⟩,
    ⟨n1, n2, n3, n4, of_decide_eq_true k1, of_decide_eq_true k2, of_decide_eq_true k3⟩⟩
def noT : List String := ["NoneType", "int", "bool", "str", "list", "tuple", "dict"]
def noB (K : PySem.W.Frag) (C : Addr) : Bool := noT.all fun s => decide (kitOne K (.type s) (.ref C) = some false)
theorem no_of {K : PySem.W.Frag} {C : Addr} (q : noB K C = true) : Mn.NoK K C := ⟨fun s hs => of_decide_eq_true (List.all_eq_true.mp q s hs)⟩
/-- the error that says nothing of its own -/
def swB (K : PySem.W.Frag) (S C : Addr) : Bool :=
  keepIn K (.ref S) && (Exo.excEq K S && (xfB K S && (He.eqO (findIn K (.ref S) "__class__") (some (some (.builtin "object.__class__"))) && (He.eqO (specialIn K (.builtin "object.__class__") "__get__") (some (some (.builtin "getset_descriptor.__get__"))) && (decide (takesIn K (.builtin "object.__class__") = some true) && (decide (mroIn K S (.type "object") = some true) &&
    (decide (kitOne K (.ref S) (.ref C) = some false) && (decide (kitOne K (.ref S) (.type "list") = some false) && (decide (kitOne K (.ref S) (.type "tuple") = some false) && (decide (kitOne K (.ref S) (.type "dict") = some false) && decide (kitOne K (.ref S) (.type "int") = some false)))))))))))
theorem sw_of {K : PySem.W.Frag} {S C : Addr} (q : swB K S C = true) : keepIn K (.ref S) = true ∧ Mn.ExOdd K C S := by
  obtain ⟨q1, q⟩ := He.ba q
  obtain ⟨q2, q⟩ := He.ba q
  obtain ⟨q3, q⟩ := He.ba q
  obtain ⟨q4, q⟩ := He.ba q
  obtain ⟨q5, q⟩ := He.ba q
  obtain ⟨q6, q⟩ := He.ba q
  obtain ⟨q7, q⟩ := He.ba q
  obtain ⟨q8, q⟩ := He.ba q
  obtain ⟨q9, q⟩ := He.ba q
  obtain ⟨q10, q⟩ := He.ba q
  obtain ⟨q11, q12⟩ := He.ba q
  have xf := xfB_ok q3
  exact ⟨q1, ⟨xf.ga, xf.gg, xf.exC, xf.hdC, He.eqO_ok q4, He.eqO_ok q5, of_decide_eq_true q6, of_decide_eq_true q7⟩, q2, of_decide_eq_true q8, of_decide_eq_true q9, of_decide_eq_true q10, of_decide_eq_true q11, of_decide_eq_true q12⟩
end Qf
namespace Qh
open PySem PySem.Spec PyProof.Rows L2 Md
/-- a def of the top at the i-th place -/
def gD (i : Nat) (x : Str) : He.DefD := ⟨(x, none), x, x, defArgs (top i), defBody (top i), defScope (top i), [], []⟩
/-- the j-th def of the class at the i-th place -/
def cD (i j : Nat) (x m q : Str) : He.DefD := ⟨(x, some m), m, q, defArgs (inClass (top i) j), defBody (inClass (top i) j), defScope (inClass (top i) j), [], []⟩
def names : List Str := (["SwapError", "BadMarket", "BadNumber", "BadPairing", "BadPeople", "BadWishes", "NoPerson", "Stays", "WORDS", "Market", "is_list", "is_one_of", "first_wrong", "are_unlike", "is_row", "begins_name"] : List Str) ++ (["is_name", "people_fault", "are_rows", "check_market", "check_person", "rows_of", "sharing_rows", "cut_at", "cut_behind", "ask_through", "asked_rows", "_law_a_name", "_law_a_names", "_law_a_mutual", "_law_a_loose_wishes", "_law_a_made"] : List Str) ++ (["_law_g_rows", "_law_g_place", "_law_g_likes", "_law_g_leaving", "_law_g_ring", "_law_g_party_fault", "_law_g_planted", "_law_g_drawn", "_law_g_odd_markets", "_law_g_met", "_law_g_refused", "_law_start", "_law_draw", "_law_pick", "_law_mixed", "_law_same"] : List Str) ++ (["_law_each_once", "_law_loose", "_law_asked", "_law_told_right", "_law_parties", "_law_small_right", "_law_round"] : List Str)
def fn : List He.DefD := ([gD 10 "is_list", gD 11 "is_one_of", gD 12 "first_wrong", gD 13 "are_unlike", gD 14 "is_row", gD 20 "begins_name", gD 21 "is_name", gD 22 "people_fault", gD 24 "are_rows", gD 26 "check_market", gD 27 "check_person", gD 28 "rows_of", gD 30 "sharing_rows", gD 32 "cut_at", gD 33 "cut_behind", gD 34 "ask_through"] : List He.DefD) ++ ([gD 36 "asked_rows", gD 38 "_law_a_name", gD 39 "_law_a_names", gD 40 "_law_a_mutual", gD 41 "_law_a_loose_wishes", gD 42 "_law_a_made", gD 43 "_law_g_rows", gD 44 "_law_g_place", gD 45 "_law_g_likes", gD 46 "_law_g_leaving", gD 47 "_law_g_ring", gD 48 "_law_g_party_fault", gD 49 "_law_g_planted", gD 50 "_law_g_drawn", gD 51 "_law_g_odd_markets", gD 52 "_law_g_met"] : List He.DefD) ++ ([gD 53 "_law_g_refused", gD 54 "_law_start", gD 55 "_law_draw", gD 56 "_law_pick", gD 57 "_law_mixed", gD 58 "_law_same", gD 59 "_law_each_once", gD 60 "_law_loose", gD 61 "_law_asked", gD 62 "_law_told_right", gD 63 "_law_parties", gD 64 "_law_small_right", gD 65 "_law_round", gD 66 "law", cD 2 0 "BadMarket" "__init__" "BadMarket.__init__", cD 5 0 "BadPeople" "__init__" "BadPeople.__init__"] : List He.DefD) ++ ([cD 6 0 "BadWishes" "__init__" "BadWishes.__init__", cD 25 0 "Market" "__init__" "Market.__init__", cD 25 2 "Market" "wishes" "Market.wishes", cD 25 4 "Market" "__eq__" "Market.__eq__"] : List He.DefD)
def fr : List Str := (["int", "list", "len", "range", "isinstance", "enumerate", "str", "tuple", "dict", "set", "all", "zip", "min", "max", "sorted", "bool"] : List Str)
def cl : List (Str × Str) := [("BadMarket", "thing"), ("BadPeople", "index"), ("BadWishes", "thing")]
def loose : List Str := (["SwapError", "LETTERS", "SIGNS", "LONGEST"] : List Str) ++ names.tail
abbrev R : PySem.W.OpenRow := PySem.W.OpenLaw.row PySem.Challenge.rw_swaphouse_k38_whole_asked
/-! ### the objects that the facts speak of -/
def refs1 (o : Obj) : List Addr := match o.data with
  | .cls cd => [cd.ns]
  | .func fd => He.refV fd.code
  | .dict es _ => es.toList.flatMap fun e => He.refV e.val
  | _ => []
def gr (g : Addr → Option Obj) (as : List Addr) : List Addr := as.flatMap fun a => match g a with
  | some o => refs1 o
  | none => []
def addrs (g : Addr → Option Obj) : List Addr :=
  [mainGlobals, sysModules] ++ (gr g [mainGlobals] ++ (gr g (gr g [mainGlobals]) ++ (gr g (gr g (gr g [mainGlobals])) ++ gr g (gr g (gr g (gr g [mainGlobals]))))))
/-- a list of objects, each address known -/
def force {α : Type} : PySem.W.Frag → (PySem.W.Frag → α) → α
  | [], k => k []
  | (a, o) :: r, k => HandSHeadRun.frNat a fun a => force r fun r => k ((a, o) :: r)
theorem force_eq {α : Type} : ∀ (K : PySem.W.Frag) (k : PySem.W.Frag → α), force K k = k K
  | [], _ => rfl
  | (a, o) :: r, k => by
    show (HandSHeadRun.frNat a fun a => force r fun r => k ((a, o) :: r)) = _
    rw [HandSHeadRun.frNat_eq, force_eq r]
def tf : List He.Defn := [("are_unlike", none), ("_law_g_refused", none)]
abbrev tP (K : PySem.W.Frag) (x : Str) : Addr := (He.cT K (x, none)).2
abbrev Mkt (K : PySem.W.Frag) : Addr := He.ga K "Market"
abbrev Swe (K : PySem.W.Frag) : Addr := He.ga K "SwapError"
def faC : List He.Fa := [.str "LETTERS" Mn.letters, .str "SIGNS" Mn.signs, .int "LONGEST" 8]
def faE : List He.Fa := [.exm "BadMarket" "BadMarket" true]
def faM : List He.Fa := [.cls "Market", .noat "Market" "_people", .noat "Market" "_rows", .meth "Market" "wishes", .mkr "Market"]
def wordsD : List He.Dv := [.str "rule", .str "person", .str "wants", .str "needs", .str "gets", .str "with", .str "ring", .str "out", .str "without", .str "lot", .str "watch", .str "hold"]
def F1 (K : PySem.W.Frag) : Bool := (names.all fun x => (He.Fa.glo x).ok K) && (He.Fa.glo "law").ok K
def F2 (K : PySem.W.Frag) : Bool := fr.all fun x => (He.Fa.free x).ok K
def F3 (K : PySem.W.Frag) : Bool := fn.all fun d => d.ok K
def F4 (K : PySem.W.Frag) : Bool := HandSHeadRun.frNat (He.ga K "SwapError") fun S => cl.all fun p => HandSHeadRun.frNat (He.ga K p.1) fun C => Qf.oneB K C S [p.2]
def F5 (K : PySem.W.Frag) : Bool := (faC.all fun f => f.ok K) && He.tupB K "WORDS" wordsD
def F6 (K : PySem.W.Frag) : Bool := faE.all fun f => f.ok K
def F7 (K : PySem.W.Frag) : Bool := (faM.all fun f => f.ok K)
def F8 (K : PySem.W.Frag) : Bool := HandSHeadRun.frNat (Mkt K) fun C => Qf.mkB K C && (Qf.noB K C && HandSHeadRun.frNat (Swe K) fun S => Qf.swB K S C)
def F9 (K : PySem.W.Frag) : Bool := tf.all fun p => PySem.W.codeHdIn K (He.cT K p).1 (He.cT K p).2 && (K.lookup (He.cT K p).2).isNone
def F10 (K : PySem.W.Frag) : Bool := !(Nat.beq (tP K "are_unlike") (tP K "_law_g_refused"))
def F11 (K : PySem.W.Frag) : Bool := (K.lookup sysModules).isSome
def facts (K : PySem.W.Frag) : Bool := F1 K && (F2 K && (F3 K && (F4 K && (F5 K && (F6 K && (F7 K && (F8 K && (F9 K && (F10 K && F11 K)))))))))
def empt (g : Addr → Option Obj) (K : PySem.W.Frag) : Bool := tf.all fun p => match g (He.cT K p).2 with
  | some o => He.emptyTab o
  | none => false
abbrev Al : Type := (Bool × Bool) × List He.FnW
def obsK (g : Addr → Option Obj) (K : PySem.W.Frag) : Al := ((facts K, empt g K), fn.map fun d => He.fnW K d.at_)
def obs0 (g : Addr → Option Obj) : Al := force (He.frG g (addrs g)) (obsK g)
def val0 : Al := ((true, true), fn.map He.DefD.val)
structure Says (h : Heap) (K : PySem.W.Frag) : Prop where
  f : facts K = true
  d : fn.map (fun d => He.fnW K d.at_) = fn.map He.DefD.val
  e : ∀ p ∈ tf, h.get? (He.cT K p).2 = some { cls := .none, data := .fields #[] }
theorem says_of {h : Heap} (e : obs0 h.get? = val0) : ∃ K : PySem.W.Frag, K.In h ∧ Says h K := by
  unfold obs0 at e
  rw [force_eq] at e
  refine ⟨He.frG h.get? (addrs h.get?), He.frG_in, ?_⟩
  generalize He.frG h.get? (addrs h.get?) = K at e ⊢
  have e1 : (facts K, empt h.get? K) = (true, true) := congrArg (fun z : Al => z.1) e
  have e2 : fn.map (fun d => He.fnW K d.at_) = fn.map He.DefD.val := congrArg (fun z : Al => z.2) e
  have e3 : facts K = true := congrArg (fun z : Bool × Bool => z.1) e1
  have e4 : empt h.get? K = true := congrArg (fun z : Bool × Bool => z.2) e1
  refine ⟨e3, e2, fun p hp => ?_⟩
  have z := List.all_eq_true.mp e4 p hp
  cases q : h.get? (He.cT K p).2 with
  | none =>
    rw [q] at z
    cases z
  | some o =>
    rw [q] at z
    rw [He.emptyTab_eq z]
def hk : PySem.W.Hook where
  α := Al
  obs := fun s => obs0 s.heap.get?
  val := fun _ => val0
  says := fun _ h => ∃ K : PySem.W.Frag, K.In h ∧ Says h K
  of := fun _ _ e => says_of e
  keeps := fun _ _ _ ⟨K, hK, c⟩ k => ⟨K, PySem.W.Frag.In.keeps hK k, ⟨c.f, c.d, fun p hp => k _ _ (c.e p hp)⟩⟩
def ob (s : PySem.W.SharedT) : Al := obs0 (HandSHeadRun.getT s)
theorem ob_eq (s : PySem.W.SharedT) : ob s = hk.obs s.abs := by
  have e : HandSHeadRun.getT s = s.abs.heap.get? := funext (HandSHeadRun.getT_eq s)
  show obs0 (HandSHeadRun.getT s) = obs0 s.abs.heap.get?
  rw [e]
theorem run (w : World) : HandSHeadRun.RunEq R (PySem.W.view R.prog [66]) hk ob 13000 loose w := by
  intro os
  kernel_rfl
end Qh
/-! what the facts say; all that the law calls -/
namespace Qh
open PySem PySem.Spec PyProof.Rows L2 Md Mn LamX
section
variable {h : Heap} {K : PySem.W.Frag} (c : Says h K)
include c
theorem Says.all : F1 K = true ∧ F2 K = true ∧ F3 K = true ∧ F4 K = true ∧ F5 K = true ∧ F6 K = true ∧ F7 K = true ∧ F8 K = true ∧ F9 K = true ∧ F10 K = true ∧ F11 K = true := by
  obtain ⟨a1, f⟩ := He.ba c.f
  obtain ⟨a2, f⟩ := He.ba f
  obtain ⟨a3, f⟩ := He.ba f
  obtain ⟨a4, f⟩ := He.ba f
  obtain ⟨a5, f⟩ := He.ba f
  obtain ⟨a6, f⟩ := He.ba f
  obtain ⟨a7, f⟩ := He.ba f
  obtain ⟨a8, f⟩ := He.ba f
  obtain ⟨a9, f⟩ := He.ba f
  obtain ⟨a10, f⟩ := He.ba f
  exact ⟨a1, a2, a3, a4, a5, a6, a7, a8, a9, a10, f⟩
theorem Says.glo {mg : Str → Option Value} (X : K.In h) (G : h.Ns mainGlobals mg) {x : Str} (hx : x ∈ names) : mg x = some (.ref (He.ga K x)) :=
  He.glo_ok X G (List.all_eq_true.mp (He.ba c.all.1).1 x hx)
theorem Says.gloL {mg : Str → Option Value} (X : K.In h) (G : h.Ns mainGlobals mg) : mg "law" = some (.ref (He.ga K "law")) := He.glo_ok X G (He.ba c.all.1).2
theorem Says.free {mg : Str → Option Value} (X : K.In h) (G : h.Ns mainGlobals mg) {x : Str} (hx : x ∈ fr) : mg x = none := He.free_ok X G (List.all_eq_true.mp c.all.2.1 x hx)
theorem Says.def_ (j : Nat) {d : He.DefD} (hj : fn[j]? = some d) : ∃ fd, FunD K d.name d.qual d.params d.body d.scope (d.dvs K) (d.kws K) (He.fAd K d.at_) fd := by
  have e2 : (fn.map fun d => He.fnW K d.at_)[j]? = (fn.map He.DefD.val)[j]? := by rw [c.d]
  rw [List.getElem?_map, List.getElem?_map, hj] at e2
  exact He.DefD.funD (Option.some.inj e2) (List.all_eq_true.mp c.all.2.2.1 d (List.mem_of_getElem? hj))
omit c in
theorem toFun {x q : Str} {st : Stmt} {f : Addr} {fd : FuncData} {kws : List (Str × V)} (F : FunD K x q (defArgs st) (defBody st) (defScope st) [] kws f fd) : Fun K x q st f fd := by
  obtain ⟨oc, od, dV, kV, doc, pm, an, cdv, ct, osl, rfl, lk, hcd, hD, hK⟩ := F.ex
  rcases hD with ⟨_, rfl⟩ | ⟨e, _⟩
  · exact ⟨⟨oc, od, kV, doc, pm, an, cdv, ct, osl, rfl, lk, hcd⟩, F.kp⟩
  · exact absurd rfl e
theorem Says.gF (j : Nat) {i : Nat} {x : Str} (hj : fn[j]? = some (gD i x)) : ∃ fd, Fun K x x (top i) (He.ga K x) fd := by
  obtain ⟨fd, F⟩ := c.def_ j hj
  exact ⟨fd, toFun F⟩
theorem Says.cF (j : Nat) {i k : Nat} {x m q : Str} (hj : fn[j]? = some (cD i k x m q)) : ∃ fd, Fun K m q (inClass (top i) k) (He.ma K (He.ga K x) m) fd := by
  obtain ⟨fd, F⟩ := c.def_ j hj
  exact ⟨fd, toFun F⟩
theorem Says.one : ∀ p ∈ cl, Qf.oneB K (He.ga K p.1) (He.ga K "SwapError") [p.2] = true := by
  have f4 := c.all.2.2.2.1
  unfold F4 at f4
  rw [HandSHeadRun.frNat_eq] at f4
  intro p hp
  have z := List.all_eq_true.mp f4 p hp
  rw [HandSHeadRun.frNat_eq] at z
  exact z
theorem Says.consts {mg : Str → Option Value} (X : K.In h) (G : h.Ns mainGlobals mg) : Consts K mg := by
  obtain ⟨a1, a2⟩ := He.ba c.all.2.2.2.2.1
  have q : ∀ (i : Nat) (f : He.Fa), faC[i]? = some f → f.ok K = true := fun i f e => List.all_eq_true.mp a1 f (List.mem_of_getElem? e)
  exact ⟨He.str_ok X G (q 0 _ rfl), He.str_ok X G (q 1 _ rfl), He.int_ok X G (q 2 _ rfl), c.glo X G (List.mem_of_getElem? (i := 8) rfl), fun H => He.tupB_ok a2 H⟩
theorem Says.exm : PySem.W.exmOne K (.ref (He.ga K "BadMarket")) (.ref (He.ga K "BadMarket")) = some true := by
  have q : ∀ (i : Nat) (f : He.Fa), faE[i]? = some f → f.ok K = true := fun i f e => List.all_eq_true.mp c.all.2.2.2.2.2.1 f (List.mem_of_getElem? e)
  exact He.exm_ok (q 0 _ rfl)
theorem Says.mkc : MkC K (Mkt K) ∧ Meth K (Mkt K) "wishes" (He.ma K (Mkt K) "wishes") ∧ Mk K (Mkt K) (He.ma K (Mkt K) "__init__") := by
  have q : ∀ (i : Nat) (f : He.Fa), faM[i]? = some f → f.ok K = true := fun i f e => List.all_eq_true.mp c.all.2.2.2.2.2.2.1 f (List.mem_of_getElem? e)
  exact ⟨⟨He.cls_ok (q 0 _ rfl), He.noat_ok (q 1 _ rfl), He.noat_ok (q 2 _ rfl)⟩, He.meth_ok (q 3 _ rfl), He.mkr_ok (q 4 _ rfl)⟩
theorem Says.mke : (MkE K (Mkt K) (He.ma K (Mkt K) "__eq__") ∧ MkT K (Mkt K) ∧ MkQ K (Mkt K)) ∧ NoK K (Mkt K) ∧ PySem.W.keepIn K (.ref (Swe K)) = true ∧ ExOdd K (Mkt K) (Swe K) := by
  have f8 := c.all.2.2.2.2.2.2.2.1
  unfold F8 at f8
  rw [HandSHeadRun.frNat_eq] at f8
  obtain ⟨b1, b⟩ := He.ba f8
  obtain ⟨b2, b3⟩ := He.ba b
  rw [HandSHeadRun.frNat_eq] at b3
  exact ⟨Qf.mk_of c.mkc.1 b1, Qf.no_of b2, Qf.sw_of b3⟩
theorem Says.tab : (∀ p ∈ tf, PySem.W.codeHdIn K (He.cT K p).1 (He.cT K p).2 = true ∧ K.lookup (He.cT K p).2 = none) := by
  intro p hp
  obtain ⟨a1, a2⟩ := He.ba (List.all_eq_true.mp c.all.2.2.2.2.2.2.2.2.1 p hp)
  refine ⟨a1, ?_⟩
  cases q : K.lookup (He.cT K p).2 with
  | none => rfl
  | some o =>
    rw [q] at a2
    cases a2
omit c in
theorem ne_of {a b : Nat} (z : (!(Nat.beq a b)) = true) : a ≠ b := fun e => by
  rw [e, Nat.beq_refl] at z
  cases z
theorem Says.ne : tP K "are_unlike" ≠ tP K "_law_g_refused" := by
  have z := c.all.2.2.2.2.2.2.2.2.2.1
  unfold F10 at z
  exact ne_of z
theorem Says.mods {base : Heap} (hK : K.In base) : ∃ o, base.get? sysModules = some o := by
  have f := c.all.2.2.2.2.2.2.2.2.2.2
  unfold F11 at f
  cases q : K.lookup sysModules with
  | none =>
    rw [q] at f
    cases f
  | some o => exact ⟨o, hK _ _ q⟩
end
abbrev TT (K : PySem.W.Frag) : List (Addr × Str) := [(tP K "are_unlike", qUnl), (tP K "_law_g_refused", qRfd)]
theorem scI2 : FnScope ["self", "thing"] ["self", "thing"] (defScope (inClass (top 2) 0)) := ⟨rfl, rfl, rfl, by decide +kernel, rfl, by decide +kernel, by decide +kernel⟩
theorem scI5 : FnScope ["self", "index"] ["self", "index"] (defScope (inClass (top 5) 0)) := ⟨rfl, rfl, rfl, by decide +kernel, rfl, by decide +kernel, by decide +kernel⟩
theorem scI6 : FnScope ["self", "thing"] ["self", "thing"] (defScope (inClass (top 6) 0)) := ⟨rfl, rfl, rfl, by decide +kernel, rfl, by decide +kernel, by decide +kernel⟩
theorem law_goes {Pg : Program} {w : World} {K : PySem.W.Frag} {mg : Str → Option Value} {base h : Heap} (c : Says h K) (X : K.In h) (G : h.Ns mainGlobals mg) (hK : K.In base)
    (TB : ∀ p ∈ tf.map (He.cT K), LamX.TabB base mg p.1 p.2) {fd : FuncData} (F : Fun K "law" "law" sLaw (He.ga K "law") fd) : Mg.FnG Pg w K mg base 13 (He.ga K "law") fd ["_law_script"] (spLaw K (TT K)) := by
  have hF : ∀ x ∈ fr, mg x = none := fun x hx => c.free X G hx
  have g_int : mg "int" = none := hF "int" (List.mem_of_getElem? (i := 0) rfl)
  have g_list : mg "list" = none := hF "list" (List.mem_of_getElem? (i := 1) rfl)
  have g_len : mg "len" = none := hF "len" (List.mem_of_getElem? (i := 2) rfl)
  have g_range : mg "range" = none := hF "range" (List.mem_of_getElem? (i := 3) rfl)
  have g_isinstance : mg "isinstance" = none := hF "isinstance" (List.mem_of_getElem? (i := 4) rfl)
  have g_enumerate : mg "enumerate" = none := hF "enumerate" (List.mem_of_getElem? (i := 5) rfl)
  have g_str : mg "str" = none := hF "str" (List.mem_of_getElem? (i := 6) rfl)
  have g_tuple : mg "tuple" = none := hF "tuple" (List.mem_of_getElem? (i := 7) rfl)
  have g_dict : mg "dict" = none := hF "dict" (List.mem_of_getElem? (i := 8) rfl)
  have g_set : mg "set" = none := hF "set" (List.mem_of_getElem? (i := 9) rfl)
  have g_all : mg "all" = none := hF "all" (List.mem_of_getElem? (i := 10) rfl)
  have g_zip : mg "zip" = none := hF "zip" (List.mem_of_getElem? (i := 11) rfl)
  have g_min : mg "min" = none := hF "min" (List.mem_of_getElem? (i := 12) rfl)
  have g_max : mg "max" = none := hF "max" (List.mem_of_getElem? (i := 13) rfl)
  have g_sorted : mg "sorted" = none := hF "sorted" (List.mem_of_getElem? (i := 14) rfl)
  have g_bool : mg "bool" = none := hF "bool" (List.mem_of_getElem? (i := 15) rfl)
  obtain ⟨d_is_list, F_is_list⟩ := c.gF 0 (i := 10) (x := "is_list") rfl
  have b_is_list : Binds K d_is_list ["thing"] [] := F_is_list.binds fun _ _ _ _ _ _ us hl => match us, hl with | [_], _ => rfl
  have g_is_list : mg "is_list" = some (.ref (He.ga K "is_list")) := c.glo X G (List.mem_of_getElem? (i := 10) rfl)
  obtain ⟨d_is_one_of, F_is_one_of⟩ := c.gF 1 (i := 11) (x := "is_one_of") rfl
  have b_is_one_of : Binds K d_is_one_of ["thing", "names"] [] := F_is_one_of.binds fun _ _ _ _ _ _ us hl => match us, hl with | [_, _], _ => rfl
  have g_is_one_of : mg "is_one_of" = some (.ref (He.ga K "is_one_of")) := c.glo X G (List.mem_of_getElem? (i := 11) rfl)
  obtain ⟨d_first_wrong, F_first_wrong⟩ := c.gF 2 (i := 12) (x := "first_wrong") rfl
  have b_first_wrong : Binds K d_first_wrong ["things", "fits"] [] := F_first_wrong.binds fun _ _ _ _ _ _ us hl => match us, hl with | [_, _], _ => rfl
  have g_first_wrong : mg "first_wrong" = some (.ref (He.ga K "first_wrong")) := c.glo X G (List.mem_of_getElem? (i := 12) rfl)
  obtain ⟨d_are_unlike, F_are_unlike⟩ := c.gF 3 (i := 13) (x := "are_unlike") rfl
  have b_are_unlike : Binds K d_are_unlike ["thing", "names"] [] := F_are_unlike.binds fun _ _ _ _ _ _ us hl => match us, hl with | [_, _], _ => rfl
  have g_are_unlike : mg "are_unlike" = some (.ref (He.ga K "are_unlike")) := c.glo X G (List.mem_of_getElem? (i := 13) rfl)
  obtain ⟨d_is_row, F_is_row⟩ := c.gF 4 (i := 14) (x := "is_row") rfl
  have b_is_row : Binds K d_is_row ["thing", "person", "names"] [] := F_is_row.binds fun _ _ _ _ _ _ us hl => match us, hl with | [_, _, _], _ => rfl
  have g_is_row : mg "is_row" = some (.ref (He.ga K "is_row")) := c.glo X G (List.mem_of_getElem? (i := 14) rfl)
  obtain ⟨d_begins_name, F_begins_name⟩ := c.gF 5 (i := 20) (x := "begins_name") rfl
  have b_begins_name : Binds K d_begins_name ["part"] [] := F_begins_name.binds fun _ _ _ _ _ _ us hl => match us, hl with | [_], _ => rfl
  have g_begins_name : mg "begins_name" = some (.ref (He.ga K "begins_name")) := c.glo X G (List.mem_of_getElem? (i := 15) rfl)
  obtain ⟨d_is_name, F_is_name⟩ := c.gF 6 (i := 21) (x := "is_name") rfl
  have b_is_name : Binds K d_is_name ["thing"] [] := F_is_name.binds fun _ _ _ _ _ _ us hl => match us, hl with | [_], _ => rfl
  have g_is_name : mg "is_name" = some (.ref (He.ga K "is_name")) := c.glo X G (List.mem_of_getElem? (i := 16) rfl)
  obtain ⟨d_people_fault, F_people_fault⟩ := c.gF 7 (i := 22) (x := "people_fault") rfl
  have b_people_fault : Binds K d_people_fault ["people"] [] := F_people_fault.binds fun _ _ _ _ _ _ us hl => match us, hl with | [_], _ => rfl
  have g_people_fault : mg "people_fault" = some (.ref (He.ga K "people_fault")) := c.glo X G (List.mem_of_getElem? (i := 17) rfl)
  obtain ⟨d_are_rows, F_are_rows⟩ := c.gF 8 (i := 24) (x := "are_rows") rfl
  have b_are_rows : Binds K d_are_rows ["thing", "people"] [] := F_are_rows.binds fun _ _ _ _ _ _ us hl => match us, hl with | [_, _], _ => rfl
  have g_are_rows : mg "are_rows" = some (.ref (He.ga K "are_rows")) := c.glo X G (List.mem_of_getElem? (i := 18) rfl)
  obtain ⟨d_check_market, F_check_market⟩ := c.gF 9 (i := 26) (x := "check_market") rfl
  have b_check_market : Binds K d_check_market ["market"] [] := F_check_market.binds fun _ _ _ _ _ _ us hl => match us, hl with | [_], _ => rfl
  have g_check_market : mg "check_market" = some (.ref (He.ga K "check_market")) := c.glo X G (List.mem_of_getElem? (i := 19) rfl)
  obtain ⟨d_check_person, F_check_person⟩ := c.gF 10 (i := 27) (x := "check_person") rfl
  have b_check_person : Binds K d_check_person ["people", "person"] [] := F_check_person.binds fun _ _ _ _ _ _ us hl => match us, hl with | [_, _], _ => rfl
  have g_check_person : mg "check_person" = some (.ref (He.ga K "check_person")) := c.glo X G (List.mem_of_getElem? (i := 20) rfl)
  obtain ⟨d_rows_of, F_rows_of⟩ := c.gF 11 (i := 28) (x := "rows_of") rfl
  have b_rows_of : Binds K d_rows_of ["market", "people"] [] := F_rows_of.binds fun _ _ _ _ _ _ us hl => match us, hl with | [_, _], _ => rfl
  have g_rows_of : mg "rows_of" = some (.ref (He.ga K "rows_of")) := c.glo X G (List.mem_of_getElem? (i := 21) rfl)
  obtain ⟨d_sharing_rows, F_sharing_rows⟩ := c.gF 12 (i := 30) (x := "sharing_rows") rfl
  have b_sharing_rows : Binds K d_sharing_rows ["market"] [] := F_sharing_rows.binds fun _ _ _ _ _ _ us hl => match us, hl with | [_], _ => rfl
  have g_sharing_rows : mg "sharing_rows" = some (.ref (He.ga K "sharing_rows")) := c.glo X G (List.mem_of_getElem? (i := 22) rfl)
  obtain ⟨d_cut_at, F_cut_at⟩ := c.gF 13 (i := 32) (x := "cut_at") rfl
  have b_cut_at : Binds K d_cut_at ["rows", "person", "at"] [] := F_cut_at.binds fun _ _ _ _ _ _ us hl => match us, hl with | [_, _, _], _ => rfl
  have g_cut_at : mg "cut_at" = some (.ref (He.ga K "cut_at")) := c.glo X G (List.mem_of_getElem? (i := 23) rfl)
  obtain ⟨d_cut_behind, F_cut_behind⟩ := c.gF 14 (i := 33) (x := "cut_behind") rfl
  have b_cut_behind : Binds K d_cut_behind ["rows", "person", "other"] [] := F_cut_behind.binds fun _ _ _ _ _ _ us hl => match us, hl with | [_, _, _], _ => rfl
  have g_cut_behind : mg "cut_behind" = some (.ref (He.ga K "cut_behind")) := c.glo X G (List.mem_of_getElem? (i := 24) rfl)
  obtain ⟨d_ask_through, F_ask_through⟩ := c.gF 15 (i := 34) (x := "ask_through") rfl
  have b_ask_through : Binds K d_ask_through ["rows"] [] := F_ask_through.binds fun _ _ _ _ _ _ us hl => match us, hl with | [_], _ => rfl
  have g_ask_through : mg "ask_through" = some (.ref (He.ga K "ask_through")) := c.glo X G (List.mem_of_getElem? (i := 25) rfl)
  obtain ⟨d_asked_rows, F_asked_rows⟩ := c.gF 16 (i := 36) (x := "asked_rows") rfl
  have b_asked_rows : Binds K d_asked_rows ["market"] [] := F_asked_rows.binds fun _ _ _ _ _ _ us hl => match us, hl with | [_], _ => rfl
  have g_asked_rows : mg "asked_rows" = some (.ref (He.ga K "asked_rows")) := c.glo X G (List.mem_of_getElem? (i := 26) rfl)
  obtain ⟨d_L_a_name, F_L_a_name⟩ := c.gF 17 (i := 38) (x := "_law_a_name") rfl
  have b_L_a_name : Binds K d_L_a_name ["_law_stream", "_law_taken"] [] := F_L_a_name.binds fun _ _ _ _ _ _ us hl => match us, hl with | [_, _], _ => rfl
  have g_L_a_name : mg "_law_a_name" = some (.ref (He.ga K "_law_a_name")) := c.glo X G (List.mem_of_getElem? (i := 27) rfl)
  obtain ⟨d_L_a_names, F_L_a_names⟩ := c.gF 18 (i := 39) (x := "_law_a_names") rfl
  have b_L_a_names : Binds K d_L_a_names ["_law_stream", "_law_many"] [] := F_L_a_names.binds fun _ _ _ _ _ _ us hl => match us, hl with | [_, _], _ => rfl
  have g_L_a_names : mg "_law_a_names" = some (.ref (He.ga K "_law_a_names")) := c.glo X G (List.mem_of_getElem? (i := 28) rfl)
  obtain ⟨d_L_a_mutual, F_L_a_mutual⟩ := c.gF 19 (i := 40) (x := "_law_a_mutual") rfl
  have b_L_a_mutual : Binds K d_L_a_mutual ["_law_stream", "_law_people", "_law_share"] [] := F_L_a_mutual.binds fun _ _ _ _ _ _ us hl => match us, hl with | [_, _, _], _ => rfl
  have g_L_a_mutual : mg "_law_a_mutual" = some (.ref (He.ga K "_law_a_mutual")) := c.glo X G (List.mem_of_getElem? (i := 29) rfl)
  obtain ⟨d_L_a_loose_wishes, F_L_a_loose_wishes⟩ := c.gF 20 (i := 41) (x := "_law_a_loose_wishes") rfl
  have b_L_a_loose_wishes : Binds K d_L_a_loose_wishes ["_law_stream", "_law_wishes"] [] := F_L_a_loose_wishes.binds fun _ _ _ _ _ _ us hl => match us, hl with | [_, _], _ => rfl
  have g_L_a_loose_wishes : mg "_law_a_loose_wishes" = some (.ref (He.ga K "_law_a_loose_wishes")) := c.glo X G (List.mem_of_getElem? (i := 30) rfl)
  obtain ⟨d_L_a_made, F_L_a_made⟩ := c.gF 21 (i := 42) (x := "_law_a_made") rfl
  have b_L_a_made : Binds K d_L_a_made ["_law_stream", "_law_people", "_law_wishes"] [] := F_L_a_made.binds fun _ _ _ _ _ _ us hl => match us, hl with | [_, _, _], _ => rfl
  have g_L_a_made : mg "_law_a_made" = some (.ref (He.ga K "_law_a_made")) := c.glo X G (List.mem_of_getElem? (i := 31) rfl)
  obtain ⟨d_L_g_rows, F_L_g_rows⟩ := c.gF 22 (i := 43) (x := "_law_g_rows") rfl
  have b_L_g_rows : Binds K d_L_g_rows ["_law_people", "_law_wishes"] [] := F_L_g_rows.binds fun _ _ _ _ _ _ us hl => match us, hl with | [_, _], _ => rfl
  have g_L_g_rows : mg "_law_g_rows" = some (.ref (He.ga K "_law_g_rows")) := c.glo X G (List.mem_of_getElem? (i := 32) rfl)
  obtain ⟨d_L_g_place, F_L_g_place⟩ := c.gF 23 (i := 44) (x := "_law_g_place") rfl
  have b_L_g_place : Binds K d_L_g_place ["_law_rows", "_law_person", "_law_other"] [] := F_L_g_place.binds fun _ _ _ _ _ _ us hl => match us, hl with | [_, _, _], _ => rfl
  have g_L_g_place : mg "_law_g_place" = some (.ref (He.ga K "_law_g_place")) := c.glo X G (List.mem_of_getElem? (i := 33) rfl)
  obtain ⟨d_L_g_likes, F_L_g_likes⟩ := c.gF 24 (i := 45) (x := "_law_g_likes") rfl
  have b_L_g_likes : Binds K d_L_g_likes ["_law_rows", "_law_person", "_law_one", "_law_other"] [] := F_L_g_likes.binds fun _ _ _ _ _ _ us hl => match us, hl with | [_, _, _, _], _ => rfl
  have g_L_g_likes : mg "_law_g_likes" = some (.ref (He.ga K "_law_g_likes")) := c.glo X G (List.mem_of_getElem? (i := 34) rfl)
  obtain ⟨d_L_g_leaving, F_L_g_leaving⟩ := c.gF 25 (i := 46) (x := "_law_g_leaving") rfl
  have b_L_g_leaving : Binds K d_L_g_leaving ["_law_rows", "_law_have"] [] := F_L_g_leaving.binds fun _ _ _ _ _ _ us hl => match us, hl with | [_, _], _ => rfl
  have g_L_g_leaving : mg "_law_g_leaving" = some (.ref (He.ga K "_law_g_leaving")) := c.glo X G (List.mem_of_getElem? (i := 35) rfl)
  obtain ⟨d_L_g_ring, F_L_g_ring⟩ := c.gF 26 (i := 47) (x := "_law_g_ring") rfl
  have b_L_g_ring : Binds K d_L_g_ring ["_law_nexts", "_law_person"] [] := F_L_g_ring.binds fun _ _ _ _ _ _ us hl => match us, hl with | [_, _], _ => rfl
  have g_L_g_ring : mg "_law_g_ring" = some (.ref (He.ga K "_law_g_ring")) := c.glo X G (List.mem_of_getElem? (i := 36) rfl)
  obtain ⟨d_L_g_party_fault, F_L_g_party_fault⟩ := c.gF 27 (i := 48) (x := "_law_g_party_fault") rfl
  have b_L_g_party_fault : Binds K d_L_g_party_fault ["_law_rows", "_law_thing"] [] := F_L_g_party_fault.binds fun _ _ _ _ _ _ us hl => match us, hl with | [_, _], _ => rfl
  have g_L_g_party_fault : mg "_law_g_party_fault" = some (.ref (He.ga K "_law_g_party_fault")) := c.glo X G (List.mem_of_getElem? (i := 37) rfl)
  obtain ⟨d_L_g_planted, F_L_g_planted⟩ := c.gF 28 (i := 49) (x := "_law_g_planted") rfl
  have b_L_g_planted : Binds K d_L_g_planted ["_law_stream", "_law_people", "_law_share"] [] := F_L_g_planted.binds fun _ _ _ _ _ _ us hl => match us, hl with | [_, _, _], _ => rfl
  have g_L_g_planted : mg "_law_g_planted" = some (.ref (He.ga K "_law_g_planted")) := c.glo X G (List.mem_of_getElem? (i := 38) rfl)
  obtain ⟨d_L_g_drawn, F_L_g_drawn⟩ := c.gF 29 (i := 50) (x := "_law_g_drawn") rfl
  have b_L_g_drawn : Binds K d_L_g_drawn ["_law_stream", "_law_many"] [] := F_L_g_drawn.binds fun _ _ _ _ _ _ us hl => match us, hl with | [_, _], _ => rfl
  have g_L_g_drawn : mg "_law_g_drawn" = some (.ref (He.ga K "_law_g_drawn")) := c.glo X G (List.mem_of_getElem? (i := 39) rfl)
  obtain ⟨d_L_g_odd_markets, F_L_g_odd_markets⟩ := c.gF 30 (i := 51) (x := "_law_g_odd_markets") rfl
  have b_L_g_odd_markets : Binds K d_L_g_odd_markets ["_law_people", "_law_wishes"] [] := F_L_g_odd_markets.binds fun _ _ _ _ _ _ us hl => match us, hl with | [_, _], _ => rfl
  have g_L_g_odd_markets : mg "_law_g_odd_markets" = some (.ref (He.ga K "_law_g_odd_markets")) := c.glo X G (List.mem_of_getElem? (i := 40) rfl)
  obtain ⟨d_L_g_met, F_L_g_met⟩ := c.gF 31 (i := 52) (x := "_law_g_met") rfl
  have b_L_g_met : Binds K d_L_g_met ["_law_ask"] [] := F_L_g_met.binds fun _ _ _ _ _ _ us hl => match us, hl with | [_], _ => rfl
  have g_L_g_met : mg "_law_g_met" = some (.ref (He.ga K "_law_g_met")) := c.glo X G (List.mem_of_getElem? (i := 41) rfl)
  obtain ⟨d_L_g_refused, F_L_g_refused⟩ := c.gF 32 (i := 53) (x := "_law_g_refused") rfl
  have b_L_g_refused : Binds K d_L_g_refused ["_law_people", "_law_wishes", "_law_asks"] [] := F_L_g_refused.binds fun _ _ _ _ _ _ us hl => match us, hl with | [_, _, _], _ => rfl
  have g_L_g_refused : mg "_law_g_refused" = some (.ref (He.ga K "_law_g_refused")) := c.glo X G (List.mem_of_getElem? (i := 42) rfl)
  obtain ⟨d_L_start, F_L_start⟩ := c.gF 33 (i := 54) (x := "_law_start") rfl
  have b_L_start : Binds K d_L_start ["_law_script"] [] := F_L_start.binds fun _ _ _ _ _ _ us hl => match us, hl with | [_], _ => rfl
  have g_L_start : mg "_law_start" = some (.ref (He.ga K "_law_start")) := c.glo X G (List.mem_of_getElem? (i := 43) rfl)
  obtain ⟨d_L_draw, F_L_draw⟩ := c.gF 34 (i := 55) (x := "_law_draw") rfl
  have b_L_draw : Binds K d_L_draw ["_law_stream", "_law_many"] [] := F_L_draw.binds fun _ _ _ _ _ _ us hl => match us, hl with | [_, _], _ => rfl
  have g_L_draw : mg "_law_draw" = some (.ref (He.ga K "_law_draw")) := c.glo X G (List.mem_of_getElem? (i := 44) rfl)
  obtain ⟨d_L_pick, F_L_pick⟩ := c.gF 35 (i := 56) (x := "_law_pick") rfl
  have b_L_pick : Binds K d_L_pick ["_law_stream", "_law_some"] [] := F_L_pick.binds fun _ _ _ _ _ _ us hl => match us, hl with | [_, _], _ => rfl
  have g_L_pick : mg "_law_pick" = some (.ref (He.ga K "_law_pick")) := c.glo X G (List.mem_of_getElem? (i := 45) rfl)
  obtain ⟨d_L_mixed, F_L_mixed⟩ := c.gF 36 (i := 57) (x := "_law_mixed") rfl
  have b_L_mixed : Binds K d_L_mixed ["_law_stream", "_law_some"] [] := F_L_mixed.binds fun _ _ _ _ _ _ us hl => match us, hl with | [_, _], _ => rfl
  have g_L_mixed : mg "_law_mixed" = some (.ref (He.ga K "_law_mixed")) := c.glo X G (List.mem_of_getElem? (i := 46) rfl)
  obtain ⟨d_L_same, F_L_same⟩ := c.gF 37 (i := 58) (x := "_law_same") rfl
  have b_L_same : Binds K d_L_same ["_law_found", "_law_due"] [] := F_L_same.binds fun _ _ _ _ _ _ us hl => match us, hl with | [_, _], _ => rfl
  have g_L_same : mg "_law_same" = some (.ref (He.ga K "_law_same")) := c.glo X G (List.mem_of_getElem? (i := 47) rfl)
  obtain ⟨d_L_each_once, F_L_each_once⟩ := c.gF 38 (i := 59) (x := "_law_each_once") rfl
  have b_L_each_once : Binds K d_L_each_once ["_law_things"] [] := F_L_each_once.binds fun _ _ _ _ _ _ us hl => match us, hl with | [_], _ => rfl
  have g_L_each_once : mg "_law_each_once" = some (.ref (He.ga K "_law_each_once")) := c.glo X G (List.mem_of_getElem? (i := 48) rfl)
  obtain ⟨d_L_loose, F_L_loose⟩ := c.gF 39 (i := 60) (x := "_law_loose") rfl
  have b_L_loose : Binds K d_L_loose ["_law_stream", "_law_thing"] [] := F_L_loose.binds fun _ _ _ _ _ _ us hl => match us, hl with | [_, _], _ => rfl
  have g_L_loose : mg "_law_loose" = some (.ref (He.ga K "_law_loose")) := c.glo X G (List.mem_of_getElem? (i := 49) rfl)
  obtain ⟨d_L_asked, F_L_asked⟩ := c.gF 40 (i := 61) (x := "_law_asked") rfl
  have b_L_asked : Binds K d_L_asked ["_law_stream", "_law_rows"] [] := F_L_asked.binds fun _ _ _ _ _ _ us hl => match us, hl with | [_, _], _ => rfl
  have g_L_asked : mg "_law_asked" = some (.ref (He.ga K "_law_asked")) := c.glo X G (List.mem_of_getElem? (i := 50) rfl)
  obtain ⟨d_L_told_right, F_L_told_right⟩ := c.gF 41 (i := 62) (x := "_law_told_right") rfl
  have b_L_told_right : Binds K d_L_told_right ["_law_stream", "_law_people", "_law_wishes"] [] := F_L_told_right.binds fun _ _ _ _ _ _ us hl => match us, hl with | [_, _, _], _ => rfl
  have g_L_told_right : mg "_law_told_right" = some (.ref (He.ga K "_law_told_right")) := c.glo X G (List.mem_of_getElem? (i := 51) rfl)
  obtain ⟨d_L_parties, F_L_parties⟩ := c.gF 42 (i := 63) (x := "_law_parties") rfl
  have b_L_parties : Binds K d_L_parties ["_law_rows", "_law_left"] [] := F_L_parties.binds fun _ _ _ _ _ _ us hl => match us, hl with | [_, _], _ => rfl
  have g_L_parties : mg "_law_parties" = some (.ref (He.ga K "_law_parties")) := c.glo X G (List.mem_of_getElem? (i := 52) rfl)
  obtain ⟨d_L_small_right, F_L_small_right⟩ := c.gF 43 (i := 64) (x := "_law_small_right") rfl
  have b_L_small_right : Binds K d_L_small_right ["_law_stream"] [] := F_L_small_right.binds fun _ _ _ _ _ _ us hl => match us, hl with | [_], _ => rfl
  have g_L_small_right : mg "_law_small_right" = some (.ref (He.ga K "_law_small_right")) := c.glo X G (List.mem_of_getElem? (i := 53) rfl)
  obtain ⟨d_L_round, F_L_round⟩ := c.gF 44 (i := 65) (x := "_law_round") rfl
  have b_L_round : Binds K d_L_round ["_law_stream", "_law_many"] [] := F_L_round.binds fun _ _ _ _ _ _ us hl => match us, hl with | [_, _], _ => rfl
  have g_L_round : mg "_law_round" = some (.ref (He.ga K "_law_round")) := c.glo X G (List.mem_of_getElem? (i := 54) rfl)
  obtain ⟨d_BadMarket, F_BadMarket⟩ := c.cF 46 (i := 2) (k := 0) (x := "BadMarket") (m := "__init__") (q := "BadMarket.__init__") rfl
  have b_BadMarket : Binds K d_BadMarket ["self", "thing"] [] := F_BadMarket.binds fun _ _ _ _ _ _ us hl => match us, hl with | [_, _], _ => rfl
  have x_BadMarket : ExX K mg "BadMarket" "thing" := Qf.one_of (c.glo X G (List.mem_of_getElem? (i := 1) rfl)) (c.one ("BadMarket", "thing") (List.mem_of_getElem? (i := 0) rfl))
  have G_BadMarket : FnOk Pg w K mg base CX0 1 (He.ma K (He.ga K "BadMarket") "__init__") d_BadMarket ["self", "thing"] (spI1 K "thing") := okI1 F_BadMarket scI2 rfl rfl rfl (by decide) (by decide)
  obtain ⟨d_BadPeople, F_BadPeople⟩ := c.cF 47 (i := 5) (k := 0) (x := "BadPeople") (m := "__init__") (q := "BadPeople.__init__") rfl
  have b_BadPeople : Binds K d_BadPeople ["self", "index"] [] := F_BadPeople.binds fun _ _ _ _ _ _ us hl => match us, hl with | [_, _], _ => rfl
  have x_BadPeople : ExX K mg "BadPeople" "index" := Qf.one_of (c.glo X G (List.mem_of_getElem? (i := 4) rfl)) (c.one ("BadPeople", "index") (List.mem_of_getElem? (i := 1) rfl))
  have G_BadPeople : FnOk Pg w K mg base CX0 1 (He.ma K (He.ga K "BadPeople") "__init__") d_BadPeople ["self", "index"] (spI1 K "index") := okI1 F_BadPeople scI5 rfl rfl rfl (by decide) (by decide)
  obtain ⟨d_BadWishes, F_BadWishes⟩ := c.cF 48 (i := 6) (k := 0) (x := "BadWishes") (m := "__init__") (q := "BadWishes.__init__") rfl
  have b_BadWishes : Binds K d_BadWishes ["self", "thing"] [] := F_BadWishes.binds fun _ _ _ _ _ _ us hl => match us, hl with | [_, _], _ => rfl
  have x_BadWishes : ExX K mg "BadWishes" "thing" := Qf.one_of (c.glo X G (List.mem_of_getElem? (i := 5) rfl)) (c.one ("BadWishes", "thing") (List.mem_of_getElem? (i := 2) rfl))
  have G_BadWishes : FnOk Pg w K mg base CX0 1 (He.ma K (He.ga K "BadWishes") "__init__") d_BadWishes ["self", "thing"] (spI1 K "thing") := okI1 F_BadWishes scI6 rfl rfl rfl (by decide) (by decide)
  obtain ⟨d_M_init, F_M_init⟩ := c.cF 49 (i := 25) (k := 0) (x := "Market") (m := "__init__") (q := "Market.__init__") rfl
  have b_M_init : Binds K d_M_init ["self", "people", "wishes"] [] := F_M_init.binds fun _ _ _ _ _ _ us hl => match us, hl with | [_, _, _], _ => rfl
  obtain ⟨d_M_wishes, F_M_wishes⟩ := c.cF 50 (i := 25) (k := 2) (x := "Market") (m := "wishes") (q := "Market.wishes") rfl
  have b_M_wishes : Binds K d_M_wishes ["self"] [] := F_M_wishes.binds fun _ _ _ _ _ _ us hl => match us, hl with | [_], _ => rfl
  obtain ⟨d_M_eq, F_M_eq⟩ := c.cF 51 (i := 25) (k := 4) (x := "Market") (m := "__eq__") (q := "Market.__eq__") rfl
  have b_M_eq : Binds K d_M_eq ["self", "other"] [] := F_M_eq.binds fun _ _ _ _ _ _ us hl => match us, hl with | [_, _], _ => rfl
  have C := c.consts X G
  have hs := c.mods hK
  have gMk : mg "Market" = some (.ref (Mkt K)) := c.glo X G (List.mem_of_getElem? (i := 9) rfl)
  obtain ⟨MC, mW, MM⟩ := c.mkc
  obtain ⟨⟨ME, MT, MQ⟩, NK, kE, EO⟩ := c.mke
  have t0 := TB (He.cT K ("are_unlike", none)) (List.mem_map.mpr ⟨_, List.mem_of_getElem? (i := 0) rfl, rfl⟩)
  have t1 := TB (He.cT K ("_law_g_refused", none)) (List.mem_map.mpr ⟨_, List.mem_of_getElem? (i := 1) rfl, rfl⟩)
  have n01 := c.ne
  have u0 : ∀ p ∈ TT K, p.1 = tP K "are_unlike" → p.2 = qUnl := fun p hp e => by
    simp only [List.mem_cons, List.not_mem_nil, or_false] at hp
    rcases hp with rfl | rfl
    · rfl
    · exact absurd e.symm n01
  have m0 : (tP K "are_unlike", qUnl) ∈ TT K := List.mem_of_getElem? (i := 0) rfl
  have u1 : ∀ p ∈ TT K, p.1 = tP K "_law_g_refused" → p.2 = qRfd := fun p hp e => by
    simp only [List.mem_cons, List.not_mem_nil, or_false] at hp
    rcases hp with rfl | rfl
    · exact absurd e n01
    · rfl
  have m1 : (tP K "_law_g_refused", qRfd) ∈ TT K := List.mem_of_getElem? (i := 1) rfl
  -- the program
  have G1 : FnOk Pg w K mg base CX0 1 _ d_is_list _ _ := ok_isList F_is_list g_isinstance g_list g_tuple
  have G2 : FnOk Pg w K mg base CX0 1 _ d_is_one_of _ _ := ok_isOne F_is_one_of g_isinstance g_str
  have G3 : FnOk Pg w K mg base CX0 2 _ d_is_name _ _ := ok_isName F_is_name F_begins_name b_begins_name g_begins_name C g_isinstance g_str g_len g_all
  have G4 : FnOk Pg w K mg base CX0 3 _ d_first_wrong _ _ := ok_fwN F_first_wrong G3 F_is_name.kp b_is_name g_isinstance g_str g_enumerate g_set
  have G5 : FnOk Pg w K mg base CX0 4 _ d_people_fault _ _ := ok_pf F_people_fault G1 F_is_list.kp b_is_list g_is_list G4 F_first_wrong.kp b_first_wrong g_first_wrong g_is_name
  have G6 : FnOk Pg w K mg base CX0 3 _ d_are_unlike _ _ := ok_unl (T := TT K) F_are_unlike rfl t0 m0 u0 G1 F_is_list.kp b_is_list g_is_list F_first_wrong b_first_wrong g_first_wrong g_isinstance g_str g_enumerate g_set
  have G7 : FnOk Pg w K mg base CX0 4 _ d_is_row _ _ := ok_row F_is_row G6 F_are_unlike.kp b_are_unlike g_are_unlike
  have G8 : FnOk Pg w K mg base CX0 5 _ d_are_rows _ _ := ok_rows F_are_rows G7 F_is_row.kp b_is_row g_is_row g_isinstance g_dict g_all
  have GI : FnOk Pg w K mg base (L2.CX Pg w) 6 (He.ma K (Mkt K) "__init__") d_M_init ["self", "people", "wishes"] (spInit K (TT K)) := ok_init (fB := 0) (fW := 0) F_M_init G5 F_people_fault.kp b_people_fault g_people_fault G8 F_are_rows.kp b_are_rows g_are_rows x_BadPeople G_BadPeople b_BadPeople x_BadWishes G_BadWishes b_BadWishes g_list g_sorted
  have GW : FnOk Pg w K mg base CX0 1 (He.ma K (Mkt K) "wishes") d_M_wishes ["self"] (spWishesM (Mkt K)) := ok_wishes F_M_wishes MC g_list
  have GE : FnOk Pg w K mg base CX0 1 (He.ma K (Mkt K) "__eq__") d_M_eq ["self", "other"] (spEqM K (Mkt K)) := ok_eq F_M_eq ME gMk g_isinstance
  have GC : FnOk Pg w K mg base (L2.CX Pg w) 3 _ d_check_market ["market"] (spChk K (Mkt K)) := ok_chk F_check_market ME gMk x_BadMarket G_BadMarket b_BadMarket g_isinstance
  have GRo : FnOk Pg w K mg base (L2.CX Pg w) 4 _ d_rows_of ["market", "people"] (spRowsOf K (Mkt K)) := ok_rowsOf F_rows_of MC GC F_check_market.kp b_check_market g_check_market GW mW b_M_wishes F_check_person.kp b_check_person g_check_person
  have GSh : FnOk Pg w K mg base (L2.CX Pg w) 5 _ d_sharing_rows ["market"] (spShr K (Mkt K)) := ok_shr F_sharing_rows GRo F_rows_of.kp b_rows_of g_rows_of
  have GCu : FnOk Pg w K mg base CX0 1 _ d_cut_at ["rows", "person", "at"] spCut := ok_cut F_cut_at
  have GCb : FnOk Pg w K mg base CX0 2 _ d_cut_behind ["rows", "person", "other"] spCb := ok_cb F_cut_behind GCu F_cut_at.kp b_cut_at g_cut_at
  have GAt : FnOk Pg w K mg base CX0 3 _ d_ask_through ["rows"] spAsk := ok_ask F_ask_through GCb F_cut_behind.kp b_cut_behind g_cut_behind g_list
  have GAr : FnOk Pg w K mg base (L2.CX Pg w) 6 _ d_asked_rows ["market"] (spArs K (Mkt K)) := ok_ars F_asked_rows GSh F_sharing_rows.kp b_sharing_rows g_sharing_rows GAt F_ask_through.kp b_ask_through g_ask_through
  -- the law's own
  have D0 : FnOk Pg w K mg base CX0 1 _ d_L_draw _ _ := drawB (ok_draw F_L_draw g_int)
  have X0 : FnOk Pg w K mg base CX0 2 _ d_L_mixed _ _ := mixedB (ok_mixed F_L_mixed F_L_draw b_L_draw g_L_draw g_int g_list g_len g_range)
  have P0 : FnOk Pg w K mg base CX0 2 _ d_L_pick _ _ := ok_pick F_L_pick D0 F_L_draw.kp b_L_draw g_L_draw g_len
  have N0 : FnOk Pg w K mg base CX0 3 _ d_L_a_name _ _ := ok_name F_L_a_name P0 F_L_pick.kp b_L_pick g_L_pick g_str
  have N1 : FnOk Pg w K mg base CX0 4 _ d_L_a_names _ _ := ok_names F_L_a_names N0 F_L_a_name.kp b_L_a_name g_L_a_name g_range
  have LL : ∀ n, FnOk Pg w K mg base CX0 (n + 2) _ d_L_loose _ (spLoose K n) := ok_loose F_L_loose b_L_loose g_L_loose D0 F_L_draw.kp b_L_draw g_L_draw g_isinstance g_list g_tuple
  have W0 : FnOk Pg w K mg base CX0 4 _ d_L_a_loose_wishes _ _ := ok_lw F_L_a_loose_wishes D0 F_L_draw.kp b_L_draw g_L_draw X0 F_L_mixed.kp b_L_mixed g_L_mixed (LL 1) F_L_loose.kp b_L_loose g_L_loose g_dict
  have S0 : ∀ n, FnOk Pg w K mg base CX0 (n + 3) _ d_L_same _ (spSame (Mkt K) n) := ok_same F_L_same b_L_same g_L_same GE b_M_eq ME MT g_isinstance g_list g_tuple g_dict g_int g_bool g_len g_all g_zip
  have Ma : FnOk Pg w K mg base CX0 8 _ d_L_a_made _ (spMade K (TT K) (Mkt K)) := ok_made F_L_a_made MC MM gMk GI b_M_init (LL 1) F_L_loose.kp b_L_loose g_L_loose W0 F_L_a_loose_wishes.kp b_L_a_loose_wishes g_L_a_loose_wishes
  have St : FnOk Pg w K mg base CX0 1 _ d_L_start _ _ := ok_start F_L_start g_list
  have Mu : FnOk Pg w K mg base CX0 4 _ d_L_a_mutual ["_law_stream", "_law_people", "_law_share"] (spMut K) := ok_mut F_L_a_mutual ⟨⟨_, _, D0, F_L_draw.kp, b_L_draw, g_L_draw⟩⟩ ⟨⟨_, _, X0, F_L_mixed.kp, b_L_mixed, g_L_mixed⟩⟩ g_dict g_enumerate
  have Eo : FnOk Pg w K mg base CX0 1 _ d_L_each_once ["_law_things"] spEo := ok_eo F_L_each_once
  have Gw : FnOk Pg w K mg base CX0 1 _ d_L_g_rows ["_law_people", "_law_wishes"] (spGro K) := ok_gro F_L_g_rows g_sorted
  have Gp : FnOk Pg w K mg base CX0 1 _ d_L_g_place ["_law_rows", "_law_person", "_law_other"] spGpl := ok_gpl F_L_g_place g_len
  have Gl : FnOk Pg w K mg base CX0 2 _ d_L_g_likes ["_law_rows", "_law_person", "_law_one", "_law_other"] spGli := ok_gli F_L_g_likes Gp F_L_g_place.kp b_L_g_place g_L_g_place
  have Gv : FnOk Pg w K mg base CX0 3 _ d_L_g_leaving ["_law_rows", "_law_have"] (spGlv K) := ok_glv F_L_g_leaving Gl F_L_g_likes.kp b_L_g_likes g_L_g_likes g_sorted
  have Gr : FnOk Pg w K mg base CX0 1 _ d_L_g_ring ["_law_nexts", "_law_person"] spGri := ok_gri F_L_g_ring
  have Gf : FnOk Pg w K mg base CX0 4 _ d_L_g_party_fault ["_law_rows", "_law_thing"] (spPyf K) := ok_pyf F_L_g_party_fault Gl F_L_g_likes.kp b_L_g_likes g_L_g_likes Gr F_L_g_ring.kp b_L_g_ring g_L_g_ring Gv F_L_g_leaving.kp b_L_g_leaving g_L_g_leaving g_sorted g_isinstance g_dict g_str g_list g_all g_len g_int
  have Gn : FnOk Pg w K mg base CX0 5 _ d_L_g_planted ["_law_stream", "_law_people", "_law_share"] (spPln K) := ok_pln F_L_g_planted X0 F_L_mixed.kp b_L_mixed g_L_mixed Mu F_L_a_mutual.kp b_L_a_mutual g_L_a_mutual P0 F_L_pick.kp b_L_pick g_L_pick Eo F_L_each_once.kp b_L_each_once g_L_each_once g_len g_min g_max g_int g_enumerate g_sorted
  have Gd : FnOk Pg w K mg base CX0 6 _ d_L_g_drawn ["_law_stream", "_law_many"] (spGd K) := ok_gd F_L_g_drawn N1 F_L_a_names.kp b_L_a_names g_L_a_names D0 F_L_draw.kp b_L_draw g_L_draw Gn F_L_g_planted.kp b_L_g_planted g_L_g_planted Mu F_L_a_mutual.kp b_L_a_mutual g_L_a_mutual
  have Go : FnOk Pg w K mg base CX0 1 _ d_L_g_odd_markets ["_law_people", "_law_wishes"] (spOdm (Swe K)) := ok_odm F_L_g_odd_markets (c.glo X G (List.mem_of_getElem? (i := 0) rfl)) kE EO.q
  have SX : ∀ n, FnOk Pg w K mg base CX0 (n + 3) _ d_L_same ["_law_found", "_law_due"] (spSx K (Mkt K) n) := ok_samex F_L_same b_L_same g_L_same S0 g_isinstance g_list g_tuple g_dict g_int g_bool g_len g_all g_zip
  have Rf : FnOk Pg w K mg base CX0 11 _ d_L_g_refused ["_law_people", "_law_wishes", "_law_asks"] (spRfd (TT K) (Mkt K) (He.ga K "asked_rows")) := ok_rfd F_L_g_refused rfl t1 m1 u1 F_L_g_met b_L_g_met g_L_g_met x_BadMarket (c.glo X G (List.mem_of_getElem? (i := 3) rfl)) (c.glo X G (List.mem_of_getElem? (i := 2) rfl)) (c.glo X G (List.mem_of_getElem? (i := 6) rfl)) (c.glo X G (List.mem_of_getElem? (i := 7) rfl)) c.exm NK EO GAr F_asked_rows.kp b_asked_rows Go F_L_g_odd_markets.kp b_L_g_odd_markets g_L_g_odd_markets (SX 7) F_L_same.kp b_L_same g_L_same g_len g_all
  have As : FnOk Pg w K mg base CX0 3 _ d_L_asked ["_law_stream", "_law_rows"] spAsd := ok_asd F_L_asked X0 F_L_mixed.kp b_L_mixed g_L_mixed g_list g_dict
  have Tr : FnOk Pg w K mg base CX0 11 _ d_L_told_right ["_law_stream", "_law_people", "_law_wishes"] (spTld (TT K)) := ok_tld F_L_told_right Ma F_L_a_made.kp b_L_a_made g_L_a_made Gw F_L_g_rows.kp b_L_g_rows g_L_g_rows As F_L_asked.kp b_L_asked g_L_asked GAr F_asked_rows.kp b_asked_rows g_asked_rows (S0 7) F_L_same.kp b_L_same g_L_same g_range
  have Py : FnOk Pg w K mg base CX0 7 _ d_L_parties ["_law_rows", "_law_left"] spParA := ok_parA F_L_parties b_L_parties g_L_parties g_list g_dict g_zip g_len
  have Sm : FnOk Pg w K mg base CX0 9 _ d_L_small_right ["_law_stream"] (spSml (TT K)) := ok_srt F_L_small_right Gd F_L_g_drawn.kp b_L_g_drawn g_L_g_drawn D0 F_L_draw.kp b_L_draw g_L_draw Gw F_L_g_rows.kp b_L_g_rows g_L_g_rows GAr F_asked_rows.kp b_asked_rows g_asked_rows Ma F_L_a_made.kp b_L_a_made g_L_a_made Py F_L_parties.kp b_L_parties g_L_parties Gf F_L_g_party_fault.kp b_L_g_party_fault g_L_g_party_fault g_all
  have Rn : FnOk Pg w K mg base CX0 5 _ d_L_round ["_law_stream", "_law_many"] (spRnd K) := ok_rnd F_L_round N1 F_L_a_names.kp b_L_a_names g_L_a_names g_sorted g_dict g_enumerate
  have LW := ok_law F MC MM gMk GI b_M_init St F_L_start.kp b_L_start g_L_start Gd F_L_g_drawn.kp b_L_g_drawn g_L_g_drawn P0 F_L_pick.kp b_L_pick g_L_pick Tr F_L_told_right.kp b_L_told_right g_L_told_right Sm F_L_small_right.kp b_L_small_right g_L_small_right Rf F_L_g_refused.kp b_L_g_refused g_L_g_refused Rn F_L_round.kp b_L_round g_L_round D0 F_L_draw.kp b_L_draw g_L_draw GAr F_asked_rows.kp b_asked_rows g_asked_rows (S0 7) F_L_same.kp b_L_same g_L_same g_range
  exact ⟨LW.len, fun A outer s H args us vs Q E _ hr e0 hb r z => (LW.mono (by decide)).run A outer s H args us vs Q E hr e0 hb r z⟩
theorem law_facts {P : Program} {w : World} {K : PySem.W.Frag} {h : Heap} {mg : Str → Option Value} {f : Addr} (X : K.In h) (G : h.Ns mainGlobals mg) (hfa : mg ("law" : Str) = some (.ref f)) (c : Says h K) :
    ∃ fd : FuncData, (∀ (s : Shared) (v : Value), BindsTo s fd ⟨[v], []⟩ [("_law_script", v)]) ∧
      ∀ base : Heap, K.In base → base.Ns mainGlobals mg → (∀ p ∈ tf.map (He.cT K), LamX.TabB base mg p.1 p.2) → Mg.FnG P w K mg base 13 f fd ["_law_script"] (spLaw K (TT K)) := by
  obtain ⟨fd, F0⟩ := c.def_ 45 (d := gD 66 "law") rfl
  have e := hfa.symm.trans (c.gloL X G)
  have e : f = He.ga K "law" := Value.ref.inj (Option.some.inj e)
  subst e
  have F : Fun K "law" "law" sLaw (He.ga K "law") fd := toFun F0
  have b := FunD.bindsA (ps := ["_law_script"]) F0 fun _ _ _ _ _ _ us hl => match us, hl with | [_], _ => rfl
  exact ⟨fd, fun s v => b s [v] rfl, fun base hK _ TB => law_goes c X G hK TB F⟩
end Qh
namespace Mg
open PySem PySem.Spec PyProof.Rows L2 LamX
/-- the law's promise at the heap behind the top, the tables of some code objects known -/
theorem law_goesT {P : Program} {w : World} {K : PySem.W.Frag} {mg mb : Str → Option Value} {k : Nat} {fa a : Addr} {cs : List (Addr × Addr)} {fd : FuncData} {x : Str} {sp : Sp} {s1 : Shared} {vs : List Value} {ns : List Int}
    (KX : K.In s1.heap) (hns : s1.heap.Ns mainGlobals mg) (hb : s1.heap.Ns builtinsNs mb) (hbb : ∀ x : Str, x ≠ "__name__" → mb x = bootBuiltins x)
    (hlim : s1.heap.NoLimit) (hg : s1.gens = #[])
    (hT : ∀ p ∈ cs, s1.heap.get? p.2 = some { cls := .none, data := .fields #[] }) (nT : ∀ p ∈ cs, K.lookup p.2 = none) (hC : ∀ p ∈ cs, PySem.W.CodeHd s1.heap p.1 p.2)
    (hbm : ∃ (bm : Addr) (ob : Obj), mg "__builtins__" = some (.ref bm) ∧ bm ≠ builtinsNs ∧ s1.heap.get? bm = some ob ∧ ob.cls = .type "module" ∧ ob.dict = some builtinsNs ∧ ob.data = .plain)
    (ha : s1.heap.get? a = some { cls := .type "list", data := .seq vs.toArray }) (hi : IntsAre vs ns)
    (hl : ns.length ≤ sizeLine) (hr : Room k callerA)
    (F : ∀ base : Heap, K.In base → base.Ns mainGlobals mg → (∀ p ∈ cs, TabB base mg p.1 p.2) → FnG P w K mg base k fa fd [x] sp)
    (hbind : ∀ (s : Shared) (u : Value), BindsTo s fd ⟨[u], []⟩ [(x, u)])
    (hsp : ∀ H : Hp, (∀ p ∈ cs, H p.2 = some (.tbl #[])) → SqL K H a (ns.map V.int) → sp [.ref a] H (fun v _ => v = .bl true) fun _ _ _ => False) :
    codeAny (model P w) callerA (.call (.ref fa) ⟨[.ref a], []⟩)
      (fun r s' => r = .ok (.ret (.bool true)) ∧ OldK s1.heap s'.heap ∧ s'.os = s1.os ∧ AllBare s'.gens) s1 := by
  have rv := vals_ints hi
  have lenV := hi.length
  have nil : ∀ b : Addr, b ∉ ([] : List Addr) := fun b => by simp
  have memT : ∀ p ∈ cs, p.2 ∈ cs.map (·.2) :=
    fun p hp => List.mem_map.mpr ⟨p, hp, rfl⟩
  have isT : ∀ b : Addr, b ∈ cs.map (·.2) → s1.heap.get? b = some { cls := .none, data := .fields #[] } := by
    intro b hb
    obtain ⟨p, hp, e⟩ := List.mem_map.mp hb
    subst e
    exact hT p hp
  have aT : a ∉ cs.map (·.2) := by
    intro z
    have q := isT a z
    rw [ha] at q
    have z' : Data.seq vs.toArray _ = Data.fields #[] := congrArg Obj.data (Option.some.inj q)
    cases z'
  have core : ∀ H : Hp, (∀ p ∈ cs, H p.2 = some (.tbl #[])) →
      (∀ b, H b = none ∨ b ∈ cs.map (·.2) ∨ ∃ o xs, H b = some (.frz o (.lst xs))) →
      SqL K H a (ns.map V.int) → HOk P w H s1.heap →
      (∀ b, H b ≠ none → b = a ∨ b ∈ cs.map (·.2)) → (H a ≠ none → K.lookup a = none) →
      codeAny (model P w) callerA (.call (.ref fa) ⟨[.ref a], []⟩)
        (fun r s' => r = .ok (.ret (.bool true)) ∧ OldK s1.heap s'.heap ∧ s'.os = s1.os ∧ AllBare s'.gens) s1 := by
    intro H hH hO hS hok hA hK
    have here : ∀ {b : Addr} {u : HO}, H b = some u → b = a ∨ b ∈ cs.map (·.2) :=
      fun {b u} q => hA b (by rw [q]; simp)
    have base_of : ∀ {b : Addr} {o : Obj}, s1.heap.get? b = some o → H b = none → (hidT s1.heap H).get? b = some o :=
      fun e n => hidT_get e n
    have noD : ∀ {b : Addr} {o : Obj}, s1.heap.get? b = some o → (∀ vs n, o.data ≠ .seq vs n) → o.data ≠ .fields #[] → H b = none := by
      intro b o e h1 h2
      cases q : H b with
      | none => rfl
      | some u =>
        rcases here q with e' | e'
        · subst e'
          rw [ha] at e
          cases e
          exact absurd rfl (h1 _ _)
        · rw [isT b e'] at e
          cases e
          exact absurd rfl h2
    have noA : ∀ {b : Addr} {o : Obj} {es : Array DictEntry} {ep : Nat},
        s1.heap.get? b = some o → o.data = .dict es ep → H b = none := by
      intro b o es ep e d
      refine noD e (fun vs n z => ?_) fun z => ?_ <;>
        (rw [d] at z; cases z)
    have nsK : ∀ {b : Addr} {m : Str → Option Value}, s1.heap.Ns b m → (hidT s1.heap H).Ns b m := by
      intro b m z
      obtain ⟨o, es, ep, e, d, r⟩ := z
      exact ⟨o, es, ep, base_of e (noA e d), d, r⟩
    have hKb : K.In (hidT s1.heap H) := by
      intro b o e
      refine base_of (KX b o e) ?_
      cases q : H b with
      | none => rfl
      | some u =>
        rcases here q with e' | e'
        · subst e'
          rw [hK (by rw [q]; simp)] at e
          cases e
        · obtain ⟨p, hp, ep⟩ := List.mem_map.mp e'
          subst ep
          rw [nT p hp] at e
          cases e
    obtain ⟨mc, lim1, lim2⟩ := hlim
    have hM : Mod K mg (hidT s1.heap H) :=
      ⟨hKb, nsK hns, ⟨mb, nsK hb, hbb⟩, ⟨mc, nsK lim1, lim2⟩⟩
    have TB : ∀ p ∈ cs, TabB (hidT s1.heap H) mg p.1 p.2 := by
      intro p hp
      have hTp := hT p hp
      refine ⟨?_, ?_, fun z => ?_⟩
      · obtain ⟨o, us, file, tf, flags, tg, inF, text, tt, e1, r1, r2, r3, r4, r5, r6, r7, r8, hne⟩ := hC p hp
        refine ⟨o, us, file, tf, flags, tg, inF, text, tt, base_of e1 (noD e1 (fun vs n z => ?_) fun z => ?_), r1, r2, r3, r4, r5, r6, r7, r8, hne⟩
        · rw [r2] at z
          cases z
        · rw [r2] at z
          cases z
          simp at r3
      · obtain ⟨bm, ob, b1, b2, b3, b4, b5, b6⟩ := hbm
        have nG : bm ≠ mainGlobals := by
          intro q
          obtain ⟨o, es, ep, e, hd, _⟩ := hns
          rw [q, e] at b3
          cases b3
          rw [hd] at b6
          cases b6
        have nP : bm ≠ p.2 := by
          intro q
          rw [q, hTp] at b3
          cases b3
          cases b6
        refine ⟨bm, ob, b1, b2, nG, nP, base_of b3 (noD b3 (fun vs n z => ?_) fun z => ?_), b4, b5, b6⟩ <;>
          (rw [b6] at z; cases z)
      · obtain ⟨o, es, ep, e, hd, _⟩ := hns
        rw [z, hTp] at e
        cases e
        cases hd
    have e0 : Env0 P w K mg (hidT s1.heap H) callerA [] s1 H :=
      ⟨rfl, hM, fun b o e => of_hidT e, Nat.le_of_eq (hidT_size _ _), trivial,
        fun b z => (nil b z).elim, hok, .of_eq hg⟩
    refine codeAny_mono ((F _ hKb (nsK hns) TB).goes callerA [] s1 H ⟨[.ref a], []⟩ [.ref a] [.ref a] _ _ rfl hr e0
      (hbind s1 (.ref a)) (.cons rfl .nil) (hsp H hH hS)) fun r s' h => ?_
    cases r with
    | error e => exact False.elim h
    | ok fl =>
      cases fl with
      | next => exact h.elim
      | brk => exact h.elim
      | cont => exact h.elim
      | ret u =>
        obtain ⟨v, H', os, bare, un, hok', r', q⟩ := h
        have q' : v = .bl true := q
        subst q'
        obtain rfl : u = Value.bool true := r'
        have key : ∀ b o, b ∉ cs.map (·.2) → s1.heap.get? b = some o → s'.heap.get? b = some o := by
          intro b o nb e
          cases q : H b with
          | none => exact un.keep b o e q (nil b) (by simp)
          | some u =>
            rcases hO b with z | z | ⟨ob, xs, z⟩
            · rw [q] at z
              cases z
            · exact absurd z nb
            · have z2 := un.frzs b ob _ z
              obtain ⟨e1, _⟩ := hok b _ z
              obtain ⟨e2, _⟩ := hok' b _ z2
              rw [e] at e1
              cases e1
              exact e2
        have grown : ∀ p ∈ cs, ∃ more : Array Value, s'.heap.get? p.2 = some { cls := .none, data := .fields more } := by
          intro p hp
          obtain ⟨more, z⟩ := un.tbls p.2 #[] (hH p hp)
          exact ⟨_, hok' p.2 _ z⟩
        refine ⟨rfl, ⟨fun b o e => ?_, fun b o e => ?_⟩, os, bare⟩
        · by_cases hb : b ∈ cs.map (·.2)
          · obtain ⟨p, hp, ep⟩ := List.mem_map.mp hb
            obtain ⟨more, hm⟩ := grown p hp
            subst ep
            rw [hT p hp] at e
            cases e
            exact .inr (.inl ⟨((hC p hp).tab (hT p hp)).isCodeTable, rfl, #[], more, rfl, by rw [Array.empty_append]; exact hm⟩)
          · exact .inl (key b o hb e)
        · by_cases hb : b ∈ cs.map (·.2)
          · obtain ⟨p, hp, ep⟩ := List.mem_map.mp hb
            obtain ⟨more, hm⟩ := grown p hp
            subst ep
            exact ⟨_, hm⟩
          · exact ⟨o, key b o hb e⟩
  cases hk : K.lookup a with
  | some o =>
    have e := KX a o hk
    rw [ha] at e
    cases e
    refine core (fun b => if b ∈ cs.map (·.2) then some (.tbl #[]) else none) (fun p hp => if_pos (memT p hp)) (fun b => ?_)
      (.inr ⟨_, vs.toArray, _, hk, rfl, rfl, rfl, by rw [List.size_toArray, lenV]; exact hl, by simpa using rv⟩)
      (fun b u z => ?_) (fun b z => ?_) fun z => absurd (show (if a ∈ cs.map (·.2) then some (HO.tbl #[]) else none) = none from if_neg aT) z
    · by_cases hb : b ∈ cs.map (·.2)
      · exact .inr (.inl hb)
      · exact .inl (if_neg hb)
    · by_cases hb : b ∈ cs.map (·.2)
      · have z' := (if_pos hb).symm.trans z
        cases z'
        exact isT b hb
      · have z' := (if_neg hb).symm.trans z
        cases z'
    · by_cases hb : b ∈ cs.map (·.2)
      · exact .inr hb
      · exact absurd (if_neg hb) z
  | none =>
    refine core (fun b => if b = a then some (.frz { cls := .type "list", data := .seq vs.toArray } (.lst (ns.map V.int))) else if b ∈ cs.map (·.2) then some (.tbl #[]) else none)
      (fun p hp => (if_neg (show ¬ p.2 = a from fun z => aT (by rw [← z]; exact memT p hp))).trans (if_pos (memT p hp))) (fun b => ?_)
      (.inl (.inr ⟨{ cls := .type "list", data := .seq vs.toArray }, if_pos rfl⟩)) (fun b u z => ?_) (fun b z => ?_) fun _ => hk
    · by_cases hb : b = a
      · exact .inr (.inr ⟨_, _, if_pos hb⟩)
      · by_cases hb2 : b ∈ cs.map (·.2)
        · exact .inr (.inl hb2)
        · exact .inl ((if_neg hb).trans (if_neg hb2))
    · by_cases hb : b = a
      · have z' := (if_pos hb).symm.trans z
        cases z'
        subst hb
        exact ⟨ha, by rw [List.length_map]; exact hl, vs, _, rv, ha⟩
      · have z1 := (if_neg hb).symm.trans z
        by_cases hb2 : b ∈ cs.map (·.2)
        · have z' := (if_pos hb2).symm.trans z1
          cases z'
          exact isT b hb2
        · have z' := (if_neg hb2).symm.trans z1
          cases z'
    · by_cases hb : b = a
      · exact .inl hb
      · by_cases hb2 : b ∈ cs.map (·.2)
        · exact .inr hb2
        · exact absurd ((if_neg hb).trans (if_neg hb2)) z
theorem walkT {l : PySem.W.OpenLaw} {n k : Nat} {q : Program} {loose : List Str} {XP : (Str → Option Value) → Heap → Prop} {YP : World → Heap → Prop} {d : DefRec} {x : Str}
    (hn : l.most = some n) (hn2 : n ≤ sizeLine) (hdf : d.params.defaults = []) (hr : Room k callerA)
    (F : ∀ (w : World) (mg : Str → Option Value) (fa : Addr) (h : Heap), YP w h → h.Ns mainGlobals mg → mg d.name = some (.ref fa) →
      ∃ (K : PySem.W.Frag) (fd : FuncData) (cs : List (Addr × Addr)) (sp : Sp), K.In h ∧ (∀ p ∈ cs, h.get? p.2 = some { cls := .none, data := .fields #[] }) ∧ (∀ p ∈ cs, K.lookup p.2 = none) ∧ (∀ p ∈ cs, PySem.W.CodeHd h p.1 p.2) ∧
        (∀ (s : Shared) (u : Value), BindsTo s fd ⟨[u], []⟩ [(x, u)]) ∧
        (∀ (H : Hp) (a : Addr) (ns : List Int), ns.length ≤ n → (∀ p ∈ cs, H p.2 = some (.tbl #[])) → SqL K H a (ns.map V.int) → sp [.ref a] H (fun v _ => v = .bl true) fun _ _ _ => False) ∧
        ∀ base : Heap, K.In base → base.Ns mainGlobals mg → (∀ p ∈ cs, TabB base mg p.1 p.2) → FnG l.prog w K mg base k fa fd [x] sp) :
    PySem.W.WalkO q loose XP YP l.row.toRowW d [] (fun f vs => PySem.call f vs) := by
  refine Att.attach_callB hn hdf fun w s0 s1 mg mb fa o pm cd doc a vs ns G Y ho hd hcd hmg hobj hints hlen hbits hg => ?_
  obtain ⟨K, fd, cs, sp, KX, hT, nT, hC, hb, hsp, hF⟩ := F w mg fa _ Y G.T.g hmg
  exact law_goesT KX G.T.g G.T.b G.T.builtins G.T.nolimit hg hT nT hC G.T.bmain hobj hints (Nat.le_trans hlen hn2) hr hF hb
    fun H hH hS => hsp H a ns hlen hH hS
end Mg
open PySem PySem.W PySem.Calls PyProof.Rows
theorem PySem.Challenge.cw_swaphouse_k38_whole_asked_holds : PySem.Challenge.rw_swaphouse_k38_whole_asked.Holds := by
  w_on; o_law
  refine HandSHeadRun.head_any (r := OpenLaw.row PySem.Challenge.rw_swaphouse_k38_whole_asked) (q := view (OpenLaw.row PySem.Challenge.rw_swaphouse_k38_whole_asked).prog [66]) (H := Qh.hk) (ob := Qh.ob) (M := 13000) (loose := Qh.loose) (d := HandSHeadRun.topDef (OpenLaw.row PySem.Challenge.rw_swaphouse_k38_whole_asked).prog 66) (kwd := []) Qh.ob_eq
    (by kernel_rfl) (fun s => by kernel_rfl) Qh.run (by kernel_rfl) (by kernel_rfl) (by kernel_rfl) (by rfl) (by first | assumption | decide +kernel) (by decide +kernel) ⟨rfl, rfl, rfl, rfl, rfl, by decide +kernel⟩ ?hw ?hc
  case hw => w_witness2
  case hc =>
    refine Mg.walkT (l := PySem.Challenge.rw_swaphouse_k38_whole_asked) (n := 63) (k := 13) (x := "_law_script") rfl (by decide) (by kernel_rfl) ⟨rfl, by decide, by decide⟩ ?F
    intro w mg fa h Y G hmg0
    obtain ⟨K, KX, c⟩ := Y
    have hmg : mg ("law" : PySem.Str) = some (.ref fa) := by
      have e : (HandSHeadRun.topDef (OpenLaw.row PySem.Challenge.rw_swaphouse_k38_whole_asked).prog 66).name = ("law" : PySem.Str) := by kernel_rfl
      rw [← e]
      exact hmg0
    obtain ⟨fd, hb, hF⟩ := Qh.law_facts (P := (PySem.Challenge.rw_swaphouse_k38_whole_asked).prog) (w := w) KX G hmg c
    refine ⟨K, fd, Qh.tf.map (He.cT K), _, KX, fun p hp => ?_, fun p hp => ?_, fun p hp => ?_, hb, fun H a ns hl hT hS => ?_, hF⟩
    · obtain ⟨q, hq, rfl⟩ := List.mem_map.mp hp
      exact c.e q hq
    · obtain ⟨q, hq, rfl⟩ := List.mem_map.mp hp
      exact (c.tab q hq).2
    · obtain ⟨q, hq, rfl⟩ := List.mem_map.mp hp
      exact codeHd_of_K KX (c.tab q hq).1
    · have m : ∀ i q, Qh.tf[i]? = some q → H (He.cT K q).2 = some (.tbl #[]) := fun i q e => hT _ (List.mem_map.mpr ⟨q, List.mem_of_getElem? e, rfl⟩)
      refine ⟨a, ns, rfl, hS, fun p hp => ?_, fun _ => rfl⟩
      rcases List.mem_cons.mp hp with rfl | hp
      · exact LamX.TabS.nil (m 0 _ rfl)
      · obtain rfl : p = (Qh.tP K "_law_g_refused", Mn.qRfd) := by simpa using hp
        exact LamX.TabS.nil (m 1 _ rfl)
