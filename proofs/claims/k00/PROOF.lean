import PyProof.Rows.All
import Wide.All
import OpenK.AllK
import Wide.FinOn
import HandS.ForMost
import HandS.Flow
import HandS.EndBits
import PySem.Challenge.RW_swaphouse_k00_errors_made
import PyProof.ReprRoads
import HandS.ExcInit
import HandS.MakeKwOnly
import HandS.ExcIs
import HandS.ExcField
import HandS.IsInst
import KE.KExcIs
import HandS.ExcValue
import HandS.Lambda
import HandS.Defaults
import HandS.HeadHook1
import HandS.HeadHook4
import HandS.EndTab
import HandS.NoneIn
import HandS.Walk
import KE.KStateDown
import HandS.Head0
import HandS.Head1
import HandS.Head2
import HandS.HeadEnd
import HandS.HeadHook2
import HandS.HeadHook3
set_option Elab.async false
set_option linter.all false
set_option maxRecDepth 100000
set_option maxHeartbeats 0
namespace Kd
open PySem PySem.Spec PyProof.Rows L2
/-! ### the text by places -/
def top (i : Nat) : Stmt := PySem.Challenge.pw_swaphouse_k00_errors_made.main.body.getD i (.Pass ⟨0, 0, 0, 0⟩)
abbrev sDraw : Stmt := top 51
/-! ### the stream: at a what is left, the digits, how many draws, the sum; at b the numbers left -/
structure Strm (H : Hp) (a b : Addr) (ns : List Int) (p q r : Int) : Prop where
  ne : a ≠ b
  ha : H a = some (.lst [.ref b, .int p, .int q, .int r])
  hb : H b = some (.lst (ns.map V.int))
  p0 : 0 ≤ p
  q0 : 0 ≤ q
  r0 : 0 ≤ r
  r1 : r < 2147483647
/-- all that was tracked but at a, b is as it was -/
def KeepBut (a b : Addr) (H H' : Hp) : Prop := ∀ c o, c ≠ a → c ≠ b → H c = some o → H' c = some o
theorem KeepBut.refl {a b : Addr} {H : Hp} : KeepBut a b H H := fun _ _ _ _ h => h
theorem KeepBut.trans {a b : Addr} {H H1 H2 : Hp} (x : KeepBut a b H H1) (y : KeepBut a b H1 H2) : KeepBut a b H H2 := fun c o h1 h2 h => y c o h1 h2 (x c o h1 h2 h)
theorem KeepBut.new {a b l : Addr} {o : HO} {H : Hp} (h : H l = none) : KeepBut a b H (upd H l o) := fun c u _ _ e => by
  rw [upd_ne (ne_of_none e h)]
  exact e
theorem KeepBut.atA {a b : Addr} {o : HO} {H : Hp} : KeepBut a b H (upd H a o) := fun c u h _ e => by
  rw [upd_ne h]
  exact e
theorem KeepBut.atB {a b : Addr} {o : HO} {H : Hp} : KeepBut a b H (upd H b o) := fun c u _ h e => by
  rw [upd_ne h]
  exact e
/-- how many items the list at b has -/
def lenAt (H : Hp) (b : Addr) : Nat := match H b with
  | some (.lst xs) => xs.length
  | _ => 0
theorem lenAt_of {H : Hp} {b : Addr} {xs : List V} (h : H b = some (.lst xs)) : lenAt H b = xs.length := by
  unfold lenAt
  rw [h]
def spDraw : Sp := fun vs H Q _ => ∃ (a b : Addr) (ns : List Int) (p q r m : Int), vs = [.ref a, .int m] ∧ Strm H a b ns p q r ∧ 0 < m ∧ m < 1073741824 ∧ q < 1000000 ∧
  ∀ (H' : Hp) (ns' : List Int) (p' r' d : Int), 0 ≤ d → d < m → Strm H' a b ns' p' (q + 1) r' → KeepBut a b H H' → Q (.int d) H'
/-! ### lists of ints as data -/
theorem dp_ints {K : PySem.W.Frag} {H : Hp} : ∀ ns : List Int, DpAll K H (ns.map V.int) (ns.map PyData.int)
  | [] => .nil
  | n :: r => .cons (.int n) (dp_ints r)
theorem canLay_ints : ∀ ns : List Int, PyData.canLayAll0 (ns.map PyData.int) = true
  | [] => by simp [PyData.canLayAll0]
  | n :: r => by simp [PyData.canLayAll0, PyData.canLay0, canLay_ints r]
theorem depth_ints : ∀ ns : List Int, PyData.depthAll (ns.map PyData.int) ≤ 1
  | [] => by simp [PyData.depthAll]
  | n :: r => by
    have := depth_ints r
    simp [PyData.depthAll, PyData.depth]
    omega
theorem shaped_ints (ns : List Int) : SeqAt.shaped (.list (ns.map PyData.int)) = true := by
  have h1 := canLay_ints ns
  have h2 := depth_ints ns
  simp [SeqAt.shaped, PyData.canLay0, PyData.depth, h1]
  omega
theorem eqv_nil (ns : List Int) : PyData.eqv (.list (ns.map PyData.int)) (.list []) = decide (ns = []) := by
  cases ns with
  | nil => simp [PyData.eqv, PyData.eqvAll]
  | cons n r => simp [PyData.eqv, PyData.eqvAll]
theorem at0 {α : Type} {x y z w : α} : atI [x, y, z, w] 0 = some x := rfl
theorem at1 {α : Type} {x y z w : α} : atI [x, y, z, w] 1 = some y := rfl
theorem at2 {α : Type} {x y z w : α} : atI [x, y, z, w] 2 = some z := rfl
theorem at3 {α : Type} {x y z w : α} : atI [x, y, z, w] 3 = some w := rfl
section
variable {H : Hp} {a b l : Addr} {ns : List Int} {p q r : Int}
theorem Strm.new {o : HO} (S : Strm H a b ns p q r) (h : H l = none) : Strm (upd H l o) a b ns p q r :=
  ⟨S.ne, by rw [upd_ne (ne_of_none S.ha h)]; exact S.ha, by rw [upd_ne (ne_of_none S.hb h)]; exact S.hb, S.p0, S.q0, S.r0, S.r1⟩
theorem Strm.other {o : HO} {c : Addr} (S : Strm H a b ns p q r) (h1 : c ≠ a) (h2 : c ≠ b) : Strm (upd H c o) a b ns p q r :=
  ⟨S.ne, by rw [upd_ne h1.symm]; exact S.ha, by rw [upd_ne h2.symm]; exact S.hb, S.p0, S.q0, S.r0, S.r1⟩
theorem Strm.cast {q' : Int} (S : Strm H a b ns p q r) (e : q = q') : Strm H a b ns p q' r := e ▸ S
theorem KeepBut.un {H0 : Hp} {o : HO} (k : KeepBut a b H0 H) (h : H0 l = none) : KeepBut a b H0 (upd H l o) := fun c u h1 h2 e => by
  rw [upd_ne (ne_of_none e h)]
  exact k c u h1 h2 e
theorem Strm.setA {p' q' r' : Int} (S : Strm H a b ns p q r) (h1 : 0 ≤ p') (h2 : 0 ≤ q') (h3 : 0 ≤ r') (h4 : r' < 2147483647) : Strm (upd H a (.lst [.ref b, .int p', .int q', .int r'])) a b ns p' q' r' :=
  ⟨S.ne, upd_same, by rw [upd_ne S.ne.symm]; exact S.hb, h1, h2, h3, h4⟩
theorem Strm.setB {ns' : List Int} (S : Strm H a b ns p q r) : Strm (upd H b (.lst (ns'.map V.int))) a b ns' p q r :=
  ⟨S.ne, by rw [upd_ne S.ne]; exact S.ha, upd_same, S.p0, S.q0, S.r0, S.r1⟩
end
theorem seq0 {n : Nat} (h : 0 < n) : seqIndex? 0 n = some 0 := by
  refine (ixN_seq ?_).1
  unfold ixN
  rw [if_pos (by decide), if_pos (by omega)]
  rfl
theorem while_by2 {c : TT} {tb : TS} {D : Ends} {σ : L2.St} {H : Hp} (Pv : L2.St → Hp → Prop) (μ : L2.St → Hp → Nat) (Ex : L2.St → Hp → Prop) (h0 : Pv σ H)
    (hs : ∀ σ H, Pv σ H → c σ H fun b H1 => if b = true then tb { D with nx := fun σ' H' => Pv σ' H' ∧ μ σ' H' < μ σ H, ct := fun σ' H' => Pv σ' H' ∧ μ σ' H' < μ σ H, bk := D.nx } σ H1 else Ex σ H1)
    (mono : ∀ σ H Q Q', (∀ b H1, Q b H1 → Q' b H1) → c σ H Q → c σ H Q') (fin : ∀ σ H, Ex σ H → D.nx σ H) : tWhile c tb D σ H :=
  while_by Pv μ h0 (fun σ H p => mono σ H _ _ (fun b H1 q => by
    cases b with
    | true => exact q
    | false => exact fin _ _ q) (hs σ H p)) mono
end Kd
namespace Kd
open PySem PySem.Spec PyProof.Rows L2
section
variable {P : Program} {w : World} {K : PySem.W.Frag} {mg : Str → Option Value} {base : Heap}
theorem scDraw : FnScope ["stream", "many", "cell", "digit", "mixed"] ["stream", "many"] (defScope sDraw) := ⟨rfl, rfl, rfl, by decide +kernel, rfl, by decide +kernel, by decide +kernel⟩
theorem ok_draw {f : Addr} {fd : FuncData} (F : Fun K "_law_draw" "_law_draw" sDraw f fd) (gI : mg "int" = none) : FnOk P w K mg base CX0 1 f fd ["stream", "many"] spDraw := by
  refine F.ok scDraw (fun vs H Q E h => ?_) (fun cdv A outer s H vs Q E hr h => ?_)
  · obtain ⟨a, b, ns, p, q, r, m, rfl, _⟩ := h
    rfl
  · obtain ⟨a, b, ns, p, q, r, m, rfl, S, m0, m1, hq, k⟩ := h
    have hu := hu_of hr
    have hu64 : A.units + 3 + 64 < cLine := by
      have := hr.un
      exact Nat.lt_of_le_of_lt (by show A.units + 3 + 64 ≤ A.units + 3 + 16 * 0 + 200; omega) this
    refine ⟨_, pss_cons (ps_asg (pe_op op_add (pe_ix ix_list (pv 0) pe_int (fun _ _ => rfl)) pe_int) (pg_sub (pv 0) pe_int set_list))
      (pss_cons (ps_while PassesOwn.never (PW.pt (pw_and (pt_cmpR op_eq (pe_ix ix_list (pv 0) pe_int (fun _ _ => rfl)) pe_int (nomark _)) (pw_and1 (pt_cmpR (op_neD hu64) (pe_ix ix_list (pv 0) pe_int (fun _ _ => rfl)) (pe_lst pa_nil) (nomark _)))))
        (pss_cons (ps_set (i := 2) scDraw.nd rfl (Or.inl rfl) (pe_bm PySem.F.plainAttrs_list PySem.F.slot_list_pop PySem.F.type_list_pop mt_popAt (pe_ix ix_list (pv 0) pe_int (fun _ _ => rfl)) (pa_cons pe_int pa_nil)))
        (pss_cons (ps_asg (pe_op op_mod (pe_callTy call_int1 rfl gI boot_int (pa_cons (pe_op op_add (pe_op op_add (pe_op op_mul (pe_ix ix_list (pv 0) pe_int (fun _ _ => rfl)) pe_int) (pv 2)) pe_int) pa_nil)) pe_int) (pg_sub (pv 0) pe_int set_list))
        (pss_one (ps_asg (pe_ifExp (pt_cmpR op_ge (pv 2) (pe_op op_pow pe_int pe_int) (nomark _)) (pv 2) pe_int) (pg_sub (pv 0) pe_int set_list))))))
      (pss_cons (ps_if (pt_cmpR op_gt (pe_ix ix_list (pv 0) pe_int (fun _ _ => rfl)) pe_int (nomark _))
        (pss_cons (ps_set (i := 3) scDraw.nd rfl (Or.inl rfl) (pe_op op_mod (pe_callTy call_int1 rfl gI boot_int (pa_cons (pe_ix ix_list (pv 0) pe_int (fun _ _ => rfl)) pa_nil)) (pv 1)))
        (pss_cons (ps_asg (pe_op op_fdiv (pe_ix ix_list (pv 0) pe_int (fun _ _ => rfl)) (pv 1)) (pg_sub (pv 0) pe_int set_list))
        (pss_one (ps_ret (pv 3))))) pss_nil)
      (pss_cons (ps_set (i := 4) scDraw.nd rfl (Or.inl rfl) (pe_op op_mod (pe_callTy call_int1 rfl gI boot_int (pa_cons (pe_op op_pow (pe_op op_add (pe_op op_add (pe_ix ix_list (pv 0) pe_int (fun _ _ => rfl)) (pe_op op_mul pe_int (pe_ix ix_list (pv 0) pe_int (fun _ _ => rfl)))) pe_int) pe_int) pa_nil)) pe_int))
      (pss_one (ps_ret (pe_op op_mod (pe_op op_mod (pe_callTy call_int1 rfl gI boot_int (pa_cons (pe_op op_pow (pe_op op_add (pe_op op_add (pe_op op_mul (pv 4) pe_int) (pe_op op_mul pe_int (pe_ix ix_list (pv 0) pe_int (fun _ _ => rfl)))) pe_int) pe_int) pa_nil)) pe_int) (pv 1))))))), ?_⟩
    refine ⟨_, rfl, a, _, _, _, rfl, rfl, SqL.of S.ha, at2, _, _, rfl, rfl, _, rfl, a, _, _, _, rfl, rfl, S.ha, rfl, ?_⟩
    have q0 := S.q0
    have S1 := S.setA (p' := p) (q' := q + 1) (r' := r) S.p0 (by omega) S.r0 S.r1
    refine while_by2 (fun σ H' => ∃ (ns : List Int) (p r : Int) (c : Option V), σ = [some (.ref a), some (.int m), c, none, none] ∧ Strm H' a b ns p (q + 1) r ∧ KeepBut a b H H')
      (fun _ H' => lenAt H' b) (fun σ H' => ∃ (ns : List Int) (p r : Int) (c : Option V), σ = [some (.ref a), some (.int m), c, none, none] ∧ Strm H' a b ns p (q + 1) r ∧ KeepBut a b H H') ⟨ns, p, r, none, rfl, S1, .atA⟩ ?_ ?_ ?_
    · rintro σ H1 ⟨ns, p, r, c, rfl, S, kp⟩
      refine ⟨_, rfl, a, _, _, _, rfl, rfl, SqL.of S.ha, at1, rfl, _, rfl, ?_⟩
      refine ite2 (fun hp => ?_) (fun hp => iteF ⟨ns, p, r, c, rfl, S, kp⟩)
      refine ⟨_, rfl, a, _, _, _, rfl, rfl, SqL.of S.ha, at0, Nat.zero_le _, fun l hl => ?_⟩
      have S2 := S.new (o := .lst []) hl
      have kp2 : KeepBut a b H (upd H1 l (.lst [])) := kp.trans (.new hl)
      refine ⟨_, _, .lst (SqL.of S2.hb) (dp_ints ns), .lst (SqL.of upd_same) .nil, shaped_ints ns, shaped_ints [], _, rfl, ?_⟩
      rw [eqv_nil]
      cases ns with
      | nil => exact iteF ⟨[], p, r, c, rfl, S2, kp2⟩
      | cons n ns =>
        refine iteT ?_
        refine ⟨_, rfl, a, _, _, _, rfl, rfl, SqL.of S2.ha, at0, .inl ⟨rfl, _, SqL.of S2.hb⟩, b, _, 0, 0, _, rfl, rfl, S2.hb, by decide, by decide, seq0 (by simp), rfl, ?_⟩
        have S3 := S2.setB (ns' := ns)
        have kp3 : KeepBut a b H (upd (upd H1 l (.lst [])) b (.lst (ns.map V.int))) := kp2.trans .atB
        refine ⟨_, rfl, a, _, _, _, rfl, rfl, SqL.of S3.ha, at3, _, _, rfl, rfl, .inr ⟨by decide, by decide⟩, _, rfl, _, _, rfl, rfl, _, _, rfl, rfl, .inl ⟨_, rfl, _, _, rfl, rfl, (by decide : (0 : Int) < 2147483647), _, rfl, a, _, _, _, rfl, rfl, S3.ha, rfl, ?_⟩⟩
        have z0 := Int.emod_nonneg (r * 8191 + n + 3) (by decide : (2147483647 : Int) ≠ 0)
        have z1 := Int.emod_lt_of_pos (r * 8191 + n + 3) (by decide : (0 : Int) < 2147483647)
        have S4 := S3.setA (p' := p) (q' := q + 1) (r' := (r * 8191 + n + 3) % 2147483647) S3.p0 S3.q0 z0 z1
        have kp4 := kp3.trans (KeepBut.atA (o := .lst [.ref b, .int p, .int (q + 1), .int ((r * 8191 + n + 3) % 2147483647)]))
        have fall : ∀ p', lenAt (upd (upd (upd (upd H1 l (.lst [])) b (.lst (ns.map V.int))) a (.lst [.ref b, .int p, .int (q + 1), .int ((r * 8191 + n + 3) % 2147483647)])) a (.lst [.ref b, .int p', .int (q + 1), .int ((r * 8191 + n + 3) % 2147483647)])) b < lenAt H1 b := fun p' => by
          have e : (upd (upd (upd (upd H1 l (.lst [])) b (.lst (ns.map V.int))) a (.lst [.ref b, .int p, .int (q + 1), .int ((r * 8191 + n + 3) % 2147483647)])) a (.lst [.ref b, .int p', .int (q + 1), .int ((r * 8191 + n + 3) % 2147483647)])) b = some (.lst (ns.map V.int)) := by
            rw [upd_ne S.ne.symm]
            exact S4.hb
          rw [lenAt_of e, lenAt_of S.hb]
          simp
        refine ⟨_, rfl, _, _, rfl, rfl, ⟨by decide, by decide, by decide⟩, _, _, rfl, rfl, _, rfl, ?_⟩
        refine ite2 (fun hc => ?_) (fun hc => ?_)
        · have hc' : (10 : Int) ^ (18 : Int).toNat ≤ n := of_decide_eq_true hc
          have n0 : 0 ≤ n := Int.le_trans (by decide) hc'
          refine ⟨_, rfl, _, rfl, a, _, _, _, rfl, rfl, S4.ha, rfl, ?_⟩
          exact ⟨⟨ns, n, _, _, rfl, S4.setA n0 S4.q0 z0 z1, kp4.trans .atA⟩, fall n⟩
        · refine ⟨_, rfl, a, _, _, _, rfl, rfl, S4.ha, rfl, ?_⟩
          exact ⟨⟨ns, 0, _, _, rfl, S4.setA (by decide) S4.q0 z0 z1, kp4.trans .atA⟩, fall 0⟩
    · rintro σ H Q Q' hq ⟨v, e1, p, xs, i, z, e2, e3, e4, e5, e6, k, e7, h⟩
      refine ⟨v, e1, p, xs, i, z, e2, e3, e4, e5, e6, k, e7, ?_⟩
      cases k with
      | false => exact hq _ _ h
      | true =>
        obtain ⟨v, e1, p, xs, i, z, e2, e3, e4, e5, e6, h⟩ := h
        refine ⟨v, e1, p, xs, i, z, e2, e3, e4, e5, e6, fun l hl => ?_⟩
        obtain ⟨d, e, d1, d2, s1, s2, k, ek, h⟩ := h l hl
        exact ⟨d, e, d1, d2, s1, s2, k, ek, hq _ _ h⟩
    · rintro σ H1 ⟨ns, p, r, c, rfl, S, kp⟩
      refine ⟨_, rfl, a, _, _, _, rfl, rfl, SqL.of S.ha, at1, _, _, rfl, rfl, _, rfl, ?_⟩
      refine ite2 (fun hp => ?_) (fun hp => ?_)
      · have hp' : 0 < p := of_decide_eq_true hp
        refine ⟨_, rfl, a, _, _, _, rfl, rfl, SqL.of S.ha, at1, .inl ⟨_, rfl, _, rfl, _, _, rfl, rfl, m0, ?_⟩⟩
        refine ⟨_, rfl, a, _, _, _, rfl, rfl, SqL.of S.ha, at1, _, rfl, _, _, rfl, rfl, ⟨m0, m1⟩, _, rfl, a, _, _, _, rfl, rfl, S.ha, rfl, ?_⟩
        refine ⟨_, rfl, k _ ns (p / m) r (p % m) (Int.emod_nonneg _ (by omega)) (Int.emod_lt_of_pos _ m0) (S.setA (Int.ediv_nonneg S.p0 (by omega)) S.q0 S.r0 S.r1) (kp.trans .atA)⟩
      · have r0 := S.r0
        have r1 := S.r1
        have q0 := S.q0
        have z1 : (r + 7919 * (q + 1) + 104729).natAbs < 2 ^ 64 := by omega
        refine ⟨_, rfl, a, _, _, _, rfl, rfl, SqL.of S.ha, at3, _, rfl, a, _, _, _, rfl, rfl, SqL.of S.ha, at2, _, _, rfl, rfl, .inl ⟨by decide, by decide⟩, _, _, rfl, rfl, _, _, rfl, rfl, _, _, rfl, rfl, ⟨by decide, by decide, z1⟩, .inl ⟨_, rfl, _, _, rfl, rfl, (by decide : (0 : Int) < 2147483629), ?_⟩⟩
        have z2 : ∀ x : Int, 0 ≤ x → x < 2147483629 → (x * 48271 + 30011 * (q + 1) + 29).natAbs < 2 ^ 64 := by
          intro x x0 x1
          omega
        refine ⟨_, rfl, _, _, rfl, rfl, .inr ⟨by decide, by decide⟩, _, rfl, a, _, _, _, rfl, rfl, SqL.of S.ha, at2, _, _, rfl, rfl, .inl ⟨by decide, by decide⟩, _, _, rfl, rfl, _, _, rfl, rfl, _, _, rfl, rfl, ⟨by decide, by decide, z2 _ (Int.emod_nonneg _ (by decide)) (Int.emod_lt_of_pos _ (by decide))⟩, .inl ⟨_, rfl, _, _, rfl, rfl, (by decide : (0 : Int) < 1000000007), _, rfl, _, _, rfl, rfl, m0, ?_⟩⟩
        exact k _ ns p r _ (Int.emod_nonneg _ (by omega)) (Int.emod_lt_of_pos _ m0) S kp
end
end Kd
namespace Kd
open PySem PySem.Spec PyProof.Rows L2
abbrev sMixed : Stmt := top 52
theorem perm_pick {α : Type} : ∀ {l : List α} {k : Nat} {y : α}, l[k]? = some y → (y :: l.eraseIdx k).Perm l
  | [], _, _, h => by simp at h
  | x :: l, 0, y, h => by
    have e : x = y := by simpa using h
    subst e
    exact List.Perm.refl _
  | x :: l, k + 1, y, h => by
    have ih := perm_pick (l := l) (k := k) (y := y) (by simpa using h)
    show (y :: x :: l.eraseIdx k).Perm (x :: l)
    exact (List.Perm.swap x y _).trans (ih.cons x)
theorem ixN_at {n : Nat} {d : Int} (h0 : 0 ≤ d) (h1 : d < n) : seqIndex? d n = some d.toNat := by
  refine (ixN_seq ?_).1
  unfold ixN
  rw [if_pos h0, if_pos h1]
abbrev rLenS (K : PySem.W.Frag) : List V → Hp → VK → Prop := fun xs H Q => ∃ p ys, xs = [.ref p] ∧ (SqL K H p ys ∨ SqT K H p ys) ∧ Q (.int ys.length) H
def tePop (K : PySem.W.Frag) : TE := tBM K "list" rPopAt (tVar 2) (tCons (tCall spDraw [] E0 (tCons (tVar 0) (tCons (tCB (rLenS K) (tCons (tVar 2) tNil)) tNil))) tNil)
def spMixed (K : PySem.W.Frag) : Sp := fun vs H Q _ => ∃ (a b c : Addr) (ns : List Int) (p q r : Int) (xs : List V), vs = [.ref a, .ref c] ∧ Strm H a b ns p q r ∧ (SqL K H c xs ∨ SqT K H c xs) ∧ xs.length ≤ 1000 ∧ q + xs.length ≤ 1000000 ∧
  ∀ (H' : Hp) (ns' : List Int) (p' r' : Int) (l : Addr) (ys : List V), Strm H' a b ns' p' (q + xs.length) r' → KeepBut a b H H' → H l = none → H' l = some (.lst ys) → ys.Perm xs → Q (.ref l) H'
section
variable {P : Program} {w : World} {K : PySem.W.Frag} {mg : Str → Option Value} {base : Heap}
theorem scMixed : FnScope ["stream", "some", "left", "k"] ["stream", "some"] (defScope sMixed) := ⟨rfl, rfl, rfl, by decide +kernel, rfl, by decide +kernel, by decide +kernel⟩
theorem ok_mixed {f fD : Addr} {fd fdD : FuncData} (F : Fun K "_law_mixed" "_law_mixed" sMixed f fd) (FD : Fun K "_law_draw" "_law_draw" sDraw fD fdD) (bD : Binds K fdD ["stream", "many"] []) (gD : mg "_law_draw" = some (.ref fD)) (gI : mg "int" = none) (gL : mg "list" = none) (gN : mg "len" = none) (gR : mg "range" = none) : FnOk P w K mg base CX0 2 f fd ["stream", "some"] (spMixed K) := by
  have GD : FnOk P w K mg base CX0 1 fD fdD ["stream", "many"] spDraw := ok_draw FD gI
  refine F.ok scMixed (fun vs H Q E h => ?_) (fun cdv A outer s H vs Q E hr h => ?_)
  · obtain ⟨a, b, c, ns, p, q, r, xs, rfl, _⟩ := h
    rfl
  · obtain ⟨a, b, c, ns, p, q, r, xs, rfl, S, hc, hn, hq, k⟩ := h
    refine ⟨_, pss_cons (ps_set (i := 2) scMixed.nd rfl (Or.inr rfl) (pe_callTy call_list_of rfl gL boot_list (pa_cons (pv 1) pa_nil)))
      (pss_one (ps_ret (pe_lc (own := [("k", 3)]) (g := gName 3) (tt := tYes) (te := tePop K) rfl scMixed.nd (pi_range1 rfl gR (pa_cons (pe_callB call_len_seq (by rfl) gN PySem.boot_len (pa_cons (pv 2) pa_nil)) pa_nil)) (blkOk_by (N := ["stream", "some", "left", "k"]) (sc := defScope sMixed) (by decide +kernel))
        (fun _ _ _ _ _ => pg_name (i := 3) scMixed.nd rfl (Or.inl rfl)) (fun _ _ _ _ _ => pts_nil)
        (fun _ _ _ _ _ => by exact pe_bm PySem.F.plainAttrs_list PySem.F.slot_list_pop PySem.F.type_list_pop mt_popAt (pv 2) (pa_cons (pe_call GD (hr.mono (by decide)) rfl gD FD.kp bD .nil pass0 (pa_cons (pv 0) (pa_cons (pe_callB call_len_seq (by rfl) gN PySem.boot_len (pa_cons (pv 2) pa_nil)) pa_nil))) pa_nil))))), ?_⟩
    refine ⟨_, rfl, c, xs, rfl, hc, fun L hL => ?_⟩
    have S1 := S.new (o := .lst xs) hL
    have La : L ≠ a := (ne_of_none S.ha hL).symm
    have Lb : L ≠ b := (ne_of_none S.hb hL).symm
    refine ⟨_, rfl, L, xs, rfl, .inl (SqL.of upd_same), _, rfl, by omega, by omega, fun D hD => ?_⟩
    have DL : D ≠ L := (ne_of_none upd_same hD).symm
    have Da : D ≠ a := (ne_of_none S1.ha hD).symm
    have Db : D ≠ b := (ne_of_none S1.hb hD).symm
    have hDH : H D = none := by
      rw [upd_ne DL] at hD
      exact hD
    refine lc_range (n := xs.length) (fun i H' => ∃ (ns : List Int) (p r : Int) (left acc : List V), Strm H' a b ns p (q + i) r ∧ KeepBut a b H H' ∧ H' L = some (.lst left) ∧ H' D = some (.lst acc) ∧ (acc ++ left).Perm xs ∧ acc.length = i) ?_ ?_ ?_
    · exact ⟨ns, p, r, xs, [], by simpa using (S1.new (o := .lst []) hD), (KeepBut.new hL).trans (.new hD), by rw [upd_ne DL.symm]; exact upd_same, upd_same, List.Perm.refl _, rfl⟩
    · rintro i H1 hi ⟨ns, p, r, left, acc, S2, kp, hL1, hD1, pm, ha⟩
      have hl : acc.length + left.length = xs.length := by
        have := pm.length_eq
        rw [List.length_append] at this
        exact this
      refine ⟨rfl, (?_ : tePop K _ H1 _)⟩
      refine ⟨_, rfl, .inl ⟨rfl, _, SqL.of hL1⟩, _, rfl, _, rfl, L, left, rfl, .inl (SqL.of hL1), a, b, ns, p, q + i, r, _, rfl, S2, by omega, by omega, by omega, fun H2 ns2 p2 r2 d d0 d1 S3 kp2 => ?_⟩
      have hL2 := kp2 L _ La Lb hL1
      have hD2 := kp2 D _ Da Db hD1
      have hlt : d.toNat < left.length := by omega
      have hy : left[d.toNat]? = some left[d.toNat] := List.getElem?_eq_getElem hlt
      refine ⟨L, left, d, d.toNat, _, rfl, rfl, hL2, by omega, by omega, ixN_at d0 (by omega), hy, acc, by rw [upd_ne DL]; exact hD2, small1000 (by omega), ?_⟩
      refine ⟨ns2, p2, r2, left.eraseIdx d.toNat, acc ++ [left[d.toNat]], ?_, ?_, by rw [upd_ne DL.symm]; exact upd_same, upd_same, ?_, ?_⟩
      · exact ((S3.other La Lb).other Da Db).cast (by push_cast; omega)
      · exact ((kp.trans kp2).un hL).un hDH
      · rw [List.append_assoc]
        exact ((perm_pick hy).append_left acc).trans pm
      · rw [List.length_append, ha]
        rfl
    · rintro H1 ⟨ns, p, r, left, acc, S2, kp, hL1, hD1, pm, ha⟩
      have hl : left = [] := by
        have := pm.length_eq
        rw [List.length_append] at this
        exact List.length_eq_zero_iff.mp (by omega)
      subst hl
      rw [List.append_nil] at pm
      exact k H1 ns p r D acc S2 kp hDH hD1 pm
end
end Kd
/-! Defs that ask what repr says: the layer's promise of a def, told only where no repr runs around it. -/
namespace Kg
open PySem PySem.Spec PyProof.Rows L2
structure FnG (P : Program) (w : World) (K : PySem.W.Frag) (mg : Str → Option Value) (base : Heap) (k : Nat) (f : Addr) (fd : FuncData) (ps : List Str) (sp : Sp) : Prop where
  long : ∀ vs H Q E, sp vs H Q E → vs.length = ps.length
  goes : ∀ (A : Around) (outer : List Env) (s : Shared) (H : Hp) (args : Args) (us : List Value) (vs : List V) (Q : VK) (E : XK), A.guards = some [] → Room k A →
    Env0 P w K mg base A outer s H → BindsTo s fd args (ps.zip us) → Vals vs us → sp vs H Q E → codeAny (model P w) A (.call (.ref f) args) (CR CX0 outer P w H s Q E) s
section
variable {P : Program} {w : World} {K : PySem.W.Frag} {mg : Str → Option Value} {base : Heap}
theorem FnG.made {x qual : Str} {st : Stmt} {f : Addr} {fd : FuncData} {N ps : List Str} {k : Nat} {sp : Sp} (F : Fun K x qual st f fd) (S : FnScope N ps (defScope st))
    (long : ∀ vs H Q E, sp vs H Q E → vs.length = ps.length)
    (hb : ∀ (cdv : Value) (A : Around) (outer : List Env) (s : Shared) (H : Hp) (vs : List V) (Q : VK) (E : XK), A.guards = some [] → Room k (A.deeper (envOfC qual (defScope st) s.heap.objs.size f cdv)) → sp vs H Q E →
      ∃ t, PSs (cxOf CX0 P w K mg base N qual (defScope st) f cdv A outer s H E).nox (defBody st) t ∧ t { nx := fun _ H' => Q .non H', rt := Q } (start N vs) H) : FnG P w K mg base (k + 1) f fd ps sp := by
  obtain ⟨oc, od, kV, doc, pm, an, cdv, ct, osl, rfl, lk, hcd⟩ := F.ex
  refine ⟨long, fun A outer s H args us vs Q E hgd hr e0 hbi r hsp => ?_⟩
  have hl := long _ _ _ _ hsp
  have up : ∀ b o, base.get? b = some o → s.heap.get? b = some o :=
    fun b o e => (e0.bs b o e).1
  have KX : K.In s.heap := e0.mod.kin.keeps up
  have lim : s.heap.NoLimit := e0.mod.nolimit.keeps up
  have hk : ∀ y ∈ ps.zip us, (defScope st).names.lookup y.1 = some .local ∨ ((defScope st).names.lookup y.1 = some .cell ∧ ((cellsFrom (s.heap.objs.size + 1) (defScope st).names []).lookup y.1).isSome = true) := by
    intro y hy
    obtain ⟨n, v⟩ := y
    rcases S.par n (List.of_mem_zip hy).1 with q | q
    · left
      exact q
    · right
      exact ⟨q, PySem.W.cellsFrom_some _ _ _ (.inl q)⟩
  refine codeAny_call_function hr.depth (KX _ _ lk) rfl S.co S.gen rfl
    (PySem.W.codeRec_of KX hcd) (hbi _ _ _ _ ?_)
  refine wpAny_newFunctionEnv_cells S.kind hk
    fun env he s1 x => ?_
  subst he
  refine ⟨lim.keeps x.toInCall.keep,
    codeAny_func ?_⟩
  obtain ⟨t, ht, hq⟩ := hb cdv A outer s H vs Q E hgd (hr.deeper _) hsp
  have I : Inv (cxOf CX0 P w K mg base N qual (defScope st) f cdv A outer s H E) [] (start N vs) H s1 :=
    inv_start S hr.hd e0 hl r x
  refine wpAny_mono (ht.nox.run [] s1 (start N vs) H _ I hq)
    (fun fl s' hs => ?_) fun e s' hs => hs
  have fin : ∀ {σ' : L2.St} {H' : Hp} {v : V} {u : Value}, Inv (cxOf CX0 P w K mg base N qual (defScope st) f cdv A outer s H E) [] σ' H' s' → RelV v u → Q v H' → CE outer P w H s Q u s' :=
    fun {σ' H' v u} J rv q =>
      ⟨v, H', J.os, J.bare, J.base, J.hok, rv, q⟩
  cases fl with
  | ret u =>
    obtain ⟨v, _, _, J, rv, q⟩ := hs
    exact fin J rv q
  | next =>
    obtain ⟨_, _, J, q⟩ := hs
    exact fin (v := V.non) (u := Value.none) J rfl q
  | brk =>
    obtain ⟨_, _, _, q⟩ := hs
    exact q.elim
  | cont =>
    obtain ⟨_, _, _, q⟩ := hs
    exact q.elim
end
section
variable {X : Cx} {k : Nat} {f : Addr} {fd : FuncData} {ps : List Str} {sp : Sp} {x : Str} {p pos : Pos} {e : Expr} {es : List Expr} {t : TA}
theorem pe_callG (F : FnG X.prog X.w X.K X.mg X.base k f fd ps sp) (hgd : X.A.guards = some []) (hr : Room k X.A) (hg : Gl X x) (hm : X.mg x = some (.ref f))
    (hk : PySem.W.keepIn X.K (.ref f) = true) (hb : Binds X.K fd ps []) (ha : PA X (e :: es) t)
    (hdb : (x == ("__debug__" : Str)) = false := by decide) (he : starEach (e :: es) X.env = (false, eval e X.env) :: starEach es X.env := by rfl)
    (hpl : (backTo pos (starEach es X.env)).any (·.1) = false := by rfl) :
    PE X (.Call (.Name x p) (e :: es) [] pos) (tCall sp [] E0 t) := by
  refine ⟨fun pins s σ H Q I h => ?_⟩
  refine wpAny_Call_Name_kw (ld_glob I hg hm ?_ hdb)
  refine PySem.W.callWith_K (h₀ := X.base) I.ok.mod.kin hk (thn (ha.run pos pins s σ H _ I h)
    fun us s1 ⟨vs, H1, I1, r, q⟩ => ⟨I1.kIn, ?_⟩) he hpl
  have q' : sp (vs ++ []) H1 Q E0 := q
  rw [List.append_nil] at q'
  have hl : us.length = ps.length := by
    rw [← r.length]
    exact F.long _ _ _ _ q'
  have bt := hb s1 us I1.kIn (by rw [List.append_nil]; exact hl)
  rw [List.append_nil] at bt
  refine wpAny_call (codeAny_mono (F.goes X.A X.stack s1 H1 ⟨us, []⟩ us vs Q E0 hgd hr I1.env0 bt r q')
    fun r s' hq => ?_)
  cases r with
  | error e => exact False.elim hq
  | ok fl =>
    cases fl with
    | ret u => exact I1.after hq
    | next => exact False.elim hq
    | brk => exact False.elim hq
    | cont => exact False.elim hq
end
/-- the law's promise at the heap behind the top -/
theorem law_goes {P : Program} {w : World} {K : PySem.W.Frag} {mg mb : Str → Option Value} {k : Nat} {fa a : Addr} {fd : FuncData} {x : Str} {sp : Sp} {s1 : Shared} {vs : List Value} {ns : List Int}
    (KX : K.In s1.heap) (hns : s1.heap.Ns mainGlobals mg) (hb : s1.heap.Ns builtinsNs mb) (hbb : ∀ x : Str, x ≠ "__name__" → mb x = bootBuiltins x)
    (hlim : s1.heap.NoLimit) (hg : s1.gens = #[])
    (ha : s1.heap.get? a = some { cls := .type "list", data := .seq vs.toArray }) (hi : IntsAre vs ns)
    (hl : ns.length ≤ sizeLine) (hr : Room k callerA)
    (F : ∀ base : Heap, K.In base → base.Ns mainGlobals mg → FnG P w K mg base k fa fd [x] sp)
    (hbind : ∀ (s : Shared) (u : Value), BindsTo s fd ⟨[u], []⟩ [(x, u)])
    (hsp : ∀ H : Hp, Only H → SqL K H a (ns.map V.int) → sp [.ref a] H (fun v _ => v = .bl true) fun _ _ _ => False) :
    codeAny (model P w) callerA (.call (.ref fa) ⟨[.ref a], []⟩)
      (fun r s' => r = .ok (.ret (.bool true)) ∧ OldK s1.heap s'.heap ∧ s'.os = s1.os ∧ AllBare s'.gens) s1 := by
  have rv := vals_ints hi
  have lenV := hi.length
  have core : ∀ H : Hp, Only H → SqL K H a (ns.map V.int) → HOk P w H s1.heap →
      (∀ b, H b ≠ none → b = a) → (H a ≠ none → K.lookup a = none) →
      codeAny (model P w) callerA (.call (.ref fa) ⟨[.ref a], []⟩)
        (fun r s' => r = .ok (.ret (.bool true)) ∧ OldK s1.heap s'.heap ∧ s'.os = s1.os ∧ AllBare s'.gens) s1 := by
    intro H hO hS hok hA hK
    have eqa : ∀ {b : Addr} {u : HO}, H b = some u → b = a :=
      fun {b u} q => hA b (by rw [q]; simp)
    have base_of : ∀ {b : Addr} {o : Obj}, s1.heap.get? b = some o → H b = none → (hidT s1.heap H).get? b = some o :=
      fun e n => hidT_get e n
    have noA : ∀ {b : Addr} {o : Obj} {es : Array DictEntry} {ep : Nat},
        s1.heap.get? b = some o → o.data = .dict es ep → H b = none := by
      intro b o es ep e d
      cases q : H b with
      | none => rfl
      | some u =>
        have e' := eqa q
        subst e'
        rw [ha] at e
        cases e
        have d' : Data.seq vs.toArray _ = Data.dict es ep := d
        cases d'
    have nsK : ∀ {b : Addr} {m : Str → Option Value}, s1.heap.Ns b m → (hidT s1.heap H).Ns b m := by
      intro b m z
      obtain ⟨o, es, ep, e, d, r⟩ := z
      exact ⟨o, es, ep, base_of e (noA e d), d, r⟩
    have hKb : K.In (hidT s1.heap H) := by
      intro b o e
      refine base_of (KX b o e) ?_
      cases q : H b with
      | none => rfl
      | some u =>
        have e' := eqa q
        subst e'
        rw [hK (by rw [q]; simp)] at e
        cases e
    obtain ⟨mc, lim1, lim2⟩ := hlim
    have hM : Mod K mg (hidT s1.heap H) :=
      ⟨hKb, nsK hns, ⟨mb, nsK hb, hbb⟩, ⟨mc, nsK lim1, lim2⟩⟩
    have nil : ∀ b : Addr, b ∉ ([] : List Addr) := fun b => by simp
    have e0 : Env0 P w K mg (hidT s1.heap H) callerA [] s1 H :=
      ⟨rfl, hM, fun b o e => of_hidT e, Nat.le_of_eq (hidT_size _ _), trivial,
        fun b z => (nil b z).elim, hok, .of_eq hg⟩
    refine codeAny_mono ((F _ hKb (nsK hns)).goes callerA [] s1 H ⟨[.ref a], []⟩ [.ref a] [.ref a] _ _ rfl hr e0
      (hbind s1 (.ref a)) (.cons rfl .nil) (hsp H hO hS)) fun r s' h => ?_
    cases r with
    | error e => exact False.elim h
    | ok fl =>
      cases fl with
      | next => exact h.elim
      | brk => exact h.elim
      | cont => exact h.elim
      | ret u =>
        obtain ⟨v, H', os, bare, un, hok', r', q⟩ := h
        have q' : v = .bl true := q
        subst q'
        obtain rfl : u = Value.bool true := r'
        refine ⟨rfl, OldK.of_keep fun b o e => ?_, os, bare⟩
        cases q : H b with
        | none => exact un.keep b o e q (nil b) (by simp)
        | some u =>
          rcases hO b with z | ⟨ob, xs, z⟩
          · rw [q] at z
            cases z
          · have z2 := un.frzs b ob _ z
            obtain ⟨e1, _⟩ := hok b _ z
            obtain ⟨e2, _⟩ := hok' b _ z2
            rw [e] at e1
            cases e1
            exact e2
  cases hk : K.lookup a with
  | some o =>
    have e := KX a o hk
    rw [ha] at e
    cases e
    refine core (fun _ => none) (fun _ => .inl rfl)
      (.inr ⟨_, vs.toArray, _, hk, rfl, rfl, rfl, by rw [List.size_toArray, lenV]; exact hl, by simpa using rv⟩)
      (fun b u z => ?_) (fun b z => absurd rfl z) fun z => absurd rfl z
    have z' : (none : Option HO) = some u := z
    cases z'
  | none =>
    refine core (fun b => if b = a then some (.frz { cls := .type "list", data := .seq vs.toArray } (.lst (ns.map V.int))) else none)
      (fun b => ?_) (.inl (.inr ⟨{ cls := .type "list", data := .seq vs.toArray }, if_pos rfl⟩))
      (fun b u z => ?_) (fun b z => ?_) fun _ => hk
    · by_cases hb : b = a
      · right
        exact ⟨_, _, if_pos hb⟩
      · left
        exact if_neg hb
    · by_cases hb : b = a
      · have z' := (if_pos hb).symm.trans z
        cases z'
        subst hb
        exact ⟨ha, by rw [List.length_map]; exact hl, vs, _, rv, ha⟩
      · have z' := (if_neg hb).symm.trans z
        cases z'
    · by_cases hb : b = a
      · exact hb
      · exact absurd (if_neg hb) z
theorem walkG {l : PySem.W.OpenLaw} {n k : Nat} {q : Program} {loose : List Str} {XP : (Str → Option Value) → Heap → Prop} {YP : World → Heap → Prop}
    {d : DefRec} {K : Params → PySem.W.Frag} {sp : World → Sp} {x : Str}
    (hn : l.most = some n) (hn2 : n ≤ sizeLine) (hdf : d.params.defaults = []) (hr : Room k callerA)
    (hY : ∀ (w : World) (h : Heap), YP w h → (K w.params).In h)
    (F : ∀ (w : World) (mg : Str → Option Value) (fa : Addr) (h : Heap), (K w.params).In h → h.Ns mainGlobals mg → mg d.name = some (.ref fa) →
      ∃ fd : FuncData, (∀ (s : Shared) (u : Value), BindsTo s fd ⟨[u], []⟩ [(x, u)]) ∧
        ∀ base : Heap, (K w.params).In base → base.Ns mainGlobals mg → FnG l.prog w (K w.params) mg base k fa fd [x] (sp w))
    (hsp : ∀ (w : World) (H : Hp) (a : Addr) (ns : List Int), ns.length ≤ n → (∀ z ∈ ns, Builtin.Int.intBits z ≤ 1048576) → Only H →
      SqL (K w.params) H a (ns.map V.int) → sp w [.ref a] H (fun v _ => v = .bl true) fun _ _ _ => False) :
    PySem.W.WalkO q loose XP YP l.row.toRowW d [] (fun f vs => PySem.call f vs) := by
  refine Att.attach_callB hn hdf fun w s0 s1 mg mb fa o pm cd doc a vs ns G Y ho hd hcd hmg hobj hints hlen hbits hg => ?_
  obtain ⟨fd, hb, hF⟩ := F w mg fa _ (hY w _ Y) G.T.g hmg
  exact law_goes (hY w _ Y) G.T.g G.T.b G.T.builtins G.T.nolimit hg hobj hints (Nat.le_trans hlen hn2) hr hF hb
    fun H hO hS => hsp w H a ns hlen hbits hO hS
end Kg
/-! repr of what is tracked, where no repr runs around -/
namespace Kr
open PySem PySem.Spec PyProof.Rows L2
mutual
inductive Dx (H : Hp) : V → PyData → Prop
  | non : Dx H .non .none
  | bl (b : Bool) : Dx H (.bl b) (.bool b)
  | int (i : Int) : Dx H (.int i) (.int i)
  | str (x : Str) : Dx H (.str x) (.str x)
  | lst {a : Addr} {xs : List V} {ds : List PyData} : H a = some (.lst xs) → DxAll H xs ds → Dx H (.ref a) (.list ds)
  | tup {a : Addr} {xs : List V} {ds : List PyData} : H a = some (.tup xs) → DxAll H xs ds → Dx H (.ref a) (.tuple ds)
  | dic {a : Addr} {x : Str} {i : Int} : H a = some (.dK [(.inr x, .int i)]) → Dx H (.ref a) (.dict [(.str x, .int i)])
inductive DxAll (H : Hp) : List V → List PyData → Prop
  | nil : DxAll H [] []
  | cons {v : V} {vs : List V} {d : PyData} {ds : List PyData} : Dx H v d → DxAll H vs ds → DxAll H (v :: vs) (d :: ds)
end
mutual
theorem Dx.same {H H' : Hp} (s : Same H H') : ∀ (d : PyData) (v : V), Dx H v d → Dx H' v d
  | .none, _, h => by cases h; exact .non
  | .bool b, _, h => by cases h; exact .bl b
  | .int i, _, h => by cases h; exact .int i
  | .str x, _, h => by cases h; exact .str x
  | .list ds, _, h => by
    cases h with
    | lst e r => exact .lst (s _ _ e) (DxAll.same s ds _ r)
  | .tuple ds, _, h => by
    cases h with
    | tup e r => exact .tup (s _ _ e) (DxAll.same s ds _ r)
  | .dict _, _, h => by
    cases h with
    | dic e => exact .dic (s _ _ e)
theorem DxAll.same {H H' : Hp} (s : Same H H') : ∀ (ds : List PyData) (vs : List V), DxAll H vs ds → DxAll H' vs ds
  | [], _, h => by cases h; exact .nil
  | d :: ds, _, h => by
    cases h with
    | cons h1 h2 => exact .cons (Dx.same s d _ h1) (DxAll.same s ds _ h2)
end
section
variable {X : Cx} {pins : List (Addr × Obj)} {σ : L2.St} {H : Hp} {s : Shared}
/-- the boot's dict of modules is none of what is tracked as a list -/
theorem sys_ne (I : Inv X pins σ H s) {a : Addr} {xs : List V} (h : H a = some (.lst xs)) (hs : ∃ o, X.base.get? sysModules = some o) : a ≠ sysModules := by
  intro z
  obtain ⟨o, e⟩ := hs
  have := (I.bs _ _ e).2
  rw [← z, h] at this
  cases this
mutual
theorem Dx.reads (I : Inv X pins σ H s) (hs : ∃ o, X.base.get? sysModules = some o) : ∀ (d : PyData) (v : V) (u : Value), Dx H v d → RelV v u → ∃ as, Reads s.heap u d as ∧ sysModules ∉ as
  | .none, _, _, h, r => by
    cases h
    cases r
    exact ⟨[], .none, by simp⟩
  | .bool b, _, _, h, r => by
    cases h
    cases r
    exact ⟨[], .bool b, by simp⟩
  | .int i, _, _, h, r => by
    cases h
    obtain ⟨t, rfl⟩ := r
    exact ⟨[], .int i t, by simp⟩
  | .str x, _, _, h, r => by
    cases h
    obtain ⟨t, rfl⟩ := r
    exact ⟨[], .str x t, by simp⟩
  | .list ds, _, _, h, r => by
    cases h with
    | lst e ha =>
      cases r
      obtain ⟨_, its, n, rv, ho⟩ := (show ObjOk X.prog X.w H s.heap _ (.lst _) from I.hok _ _ e)
      obtain ⟨as, hr, hn⟩ := DxAll.reads I hs ds _ its ha rv
      refine ⟨_, .list ho rfl rfl (by simpa using hr), ?_⟩
      intro z
      rcases List.mem_cons.mp z with z | z
      · exact sys_ne I e hs z.symm
      · exact hn z
  | .tuple ds, _, _, h, r => by
    cases h with
    | tup e ha =>
      cases r
      obtain ⟨_, its, rv, o, ho, hc, n, hd⟩ := (show ObjOk X.prog X.w H s.heap _ (.tup _) from I.hok _ _ e)
      obtain ⟨as, hr, hn⟩ := DxAll.reads I hs ds _ its ha rv
      exact ⟨_, .tuple ho hc hd (by simpa using hr), hn⟩
  | .dict _, _, _, h, r => by
    cases h with
    | dic e =>
      cases r
      obtain ⟨_, hm, vs, kv, o, es, ep, ho, ex, hd, _, pr, _⟩ := dk_of I.hok e
      cases kv with
      | @cons p q _ _ pq kr =>
        cases kr
        obtain ⟨kq, uq⟩ := q
        obtain ⟨e1, t, e2⟩ := pq
        dsimp only at e1 e2
        subst e1 e2
        obtain ⟨l⟩ := es
        cases pr with
        | @cons en _ _ _ h1 h2 h3 =>
          cases h3
          obtain ⟨tk, ek⟩ := Value.isStrOf_shape (show Value.isStrOf _ en.key = true from h1)
          refine ⟨_, .dict ho ex.1 hd (as := []) (bs := []) ?_ ?_, ?_⟩
          · show ReadsAll s.heap [en.key] [.str _] []
            rw [ek]
            exact .cons (.str _ tk) .nil
          · show ReadsAll s.heap [en.val] [.int _] []
            rw [h2]
            exact .cons (.int _ t) .nil
          · intro z
            have z' := List.mem_singleton.mp z
            rw [← z'] at hm
            simp at hm
theorem DxAll.reads (I : Inv X pins σ H s) (hs : ∃ o, X.base.get? sysModules = some o) : ∀ (ds : List PyData) (vs : List V) (us : List Value), DxAll H vs ds → Vals vs us → ∃ as, ReadsAll s.heap us ds as ∧ sysModules ∉ as
  | [], _, _, h, r => by
    cases h
    cases r
    exact ⟨[], .nil, by simp⟩
  | d :: ds, _, _, h, r => by
    cases h with
    | cons h1 h2 =>
      cases r with
      | cons r1 r2 =>
        obtain ⟨as, q1, n1⟩ := Dx.reads I hs d _ _ h1 r1
        obtain ⟨bs, q2, n2⟩ := DxAll.reads I hs ds _ _ h2 r2
        exact ⟨_, .cons q1 q2, by simp [n1, n2]⟩
end
/-- repr of a list -/
def rRepr : List V → Hp → VK → Prop := fun xs H Q => ∃ a d, xs = [.ref a] ∧ Dx H (.ref a) d ∧ d.showable = true ∧ d.depth ≤ 60 ∧ d.shown.length ≤ sizeLine ∧ Q (.str d.shown) H
theorem call_repr (hg : X.A.guards = some []) (hu : X.A.units + 64 < cLine) (hs : ∃ o, X.base.get? sysModules = some o) : CallR X (.builtin "repr") rRepr := by
  intro pins s σ H xs us Q I r h
  obtain ⟨a, d, rfl, hd, sh, dp, sz, q⟩ := h
  obtain ⟨u, rfl, rx⟩ := vals1 r
  obtain ⟨as, hr, hn⟩ := Dx.reads I hs d _ u hd rx
  obtain rfl : u = Value.ref a := rx
  exact repr_of_reads' hr sh (fun _ => hn) hg (by omega) (fun _ _ e => e) (fun h' u tk k => ⟨.str d.shown, H, I.kept (t' := tk) k, ⟨u, rfl⟩, q⟩) sz
end
end Kr
namespace Kd
open PySem PySem.Spec PyProof.Rows L2
abbrev sThese : Stmt := top 61
def spThese : Sp := fun vs H Q _ => ∃ (a b : Addr) (xs : List V) (ds : List PyData), vs = [.ref a, .ref b] ∧ H a = some (.lst xs) ∧ H b = some (.lst xs) ∧ Kr.DxAll H xs ds ∧
  (PyData.list ds).showable = true ∧ (PyData.list ds).depth ≤ 60 ∧ (PyData.list ds).shown.length ≤ sizeLine ∧ Q (.bl true) H
section
variable {P : Program} {w : World} {K : PySem.W.Frag} {mg : Str → Option Value} {base : Heap}
theorem scThese : FnScope ["found", "due"] ["found", "due"] (defScope sThese) := ⟨rfl, rfl, rfl, by decide +kernel, rfl, by decide +kernel, by decide +kernel⟩
theorem ok_these {f : Addr} {fd : FuncData} (F : Fun K "_law_are_these" "_law_are_these" sThese f fd) (gR : mg "repr" = none) (gN : mg "len" = none) (hs : ∃ o, base.get? sysModules = some o) :
    Kg.FnG P w K mg base 1 f fd ["found", "due"] spThese := by
  refine Kg.FnG.made F scThese (fun vs H Q E h => ?_) (fun cdv A outer s H vs Q E hg hr h => ?_)
  · obtain ⟨a, b, xs, ds, rfl, _⟩ := h
    rfl
  · obtain ⟨a, b, xs, ds, rfl, ha, hb, hd, sh, dp, sz, k⟩ := h
    have hu64 : A.units + 3 + 64 < cLine := by
      have := hr.un
      exact Nat.lt_of_le_of_lt (by show A.units + 3 + 64 ≤ A.units + 3 + 16 * 0 + 200; omega) this
    refine ⟨_, pss_one (ps_ret (pe_and (pe_cmpR op_eq (pe_callB (Kr.call_repr hg hu64 hs) (by rfl) gR boot_repr (pa_cons (pv 0) pa_nil)) (pe_callB (Kr.call_repr hg hu64 hs) (by rfl) gR boot_repr (pa_cons (pv 1) pa_nil)) (nomark _))
      (pe_one (pe_cmpR op_eq (pe_callB call_len_seq (by rfl) gN PySem.boot_len (pa_cons (pv 0) pa_nil)) (pe_callB call_len_seq (by rfl) gN PySem.boot_len (pa_cons (pv 1) pa_nil)) (nomark _))))), ?_⟩
    refine ⟨_, rfl, a, _, rfl, .lst ha hd, sh, dp, sz, _, rfl, b, _, rfl, .lst hb hd, sh, dp, sz, rfl, _, rfl, ?_⟩
    rw [decide_eq_true rfl]
    refine iteT ⟨_, rfl, a, xs, rfl, .inl (SqL.of ha), _, rfl, b, xs, rfl, .inl (SqL.of hb), rfl, ?_⟩
    rw [decide_eq_true rfl]
    exact k
end
end Kd
namespace Kx
open PySem PySem.HandSPX
open Builtin Builtin.ObjectAttr
/-! an own exception class called by keywords too: what the library says of places alone -/
section
variable {prog : Program} {w : World} {A : Around} {E : Value → Shared → Prop} {R : Result → Shared → Prop} {h : Heap} {g : Array GenState} {d : Drawn} {t : Nat} {os : OsState}
variable {nm q : Str} {C N : Addr} {bs bm bmB : List Value} {hdct : Bool} {sn : List Str} {sub : List Value} {ab : Bool} {col : Option Bool}
variable {dd : Option Addr} {k0 k1 k2 k3 k5 : Option Value} {B newId initId : String} {ps : List Value} {kw : List (Str × Value)}
abbrev Cob (nm q : Str) (C N : Addr) (bs bm : List Value) (hdct : Bool) (sn : List Str) (sub : List Value) (ab : Bool) (col : Option Bool) (dd : Option Addr) (k0 k1 k2 k3 k5 : Option Value) (newId : String) : Obj :=
  excClassObj nm q C N bs bm hdct sn sub ab col dd k0 k1 k2 k3 k5 newId
theorem kwNewCheck {M : Model} (F : ExcBaseFacts B newId initId bmB)
    (hT : ∀ Y : String, bm.contains (.type Y) = bmB.contains (.type Y)) {Q : Unit → Shared → Prop}
    (hC : h.get? C = some (Cob nm q C N bs bm hdct sn sub ab col dd k0 k1 k2 k3 k5 newId))
    (z : Q () ⟨h, g, d, t, os⟩) :
    wpAny M A (checkBuiltinCall newId ⟨.ref C :: ps, kw⟩) Q E ⟨h, g, d, t, os⟩ := by
  have c1 : (Value.ref C :: bm).contains (.type B) = true := by
    rw [List.contains_cons, hT, F.hasB]
    exact Bool.or_true _
  have c2 := F.noStar
  simp only [checkBuiltinCall, F.newKind,
    F.newSplit, F.newRow]
  repeat (first
    | refine wpAny_loadPart_at hC ?_
    | (refine wpAny_isSubtype_exc hC ?_
       rw [c1])
    | refine wpAny_staticBase_exc hC ?_
    | refine wpAny_madeBy_exc hC ?_
    | simp only [bne_self_eq_false, Bool.false_eq_true,
        if_false]
    | wp_step)
  exact z
theorem kwNew (F : ExcBaseFacts B newId initId bmB)
    (hT : ∀ Y : String, bm.contains (.type Y) = bmB.contains (.type Y))
    (hC : h.get? C = some (Cob nm q C N bs bm hdct sn sub ab col dd k0 k1 k2 k3 k5 newId))
    (z : R (.ok (.ret (.ref (h.objs.size + 1)))) ⟨(h.push (W.kdv_tup ps)).push (excO C h.objs.size), g, d, t, os⟩)
    (hps : ps.length ≤ sizeLine) :
    codeAny (model prog w) A (.builtin newId ⟨.ref C :: ps, kw⟩) R ⟨h, g, d, t, os⟩ := by
  have c0 := F.ends
  have c1 : (Value.ref C :: bm).contains (.type B) = true := by
    rw [List.contains_cons, hT, F.hasB]
    exact Bool.or_true _
  have c2 : (Value.ref C :: bm).contains (.type "AttributeError") = false := by
    rw [List.contains_cons, hT, F.noAttr]
    rfl
  have c3 : (Value.ref C :: bm).contains (.type "NameError") = false := by
    rw [List.contains_cons, hT, F.noName]
    rfl
  refine codeAny_builtinAt F.entry ?_
  unfold Builtin.«BaseException.__new__»
  refine wpAt_bind ?_
  show wpAt _ _ _ (stack >>= _) _ _ _
  refine wpAt_bind (wpAt_stack fun p below =>
    wpAt_of_wpAny ?_)
  wp_walk
  refine wpAt_of_wpAny ?_
  rw [F.owner]
  repeat (first
    | with_reducible refine wpAny_madeHere_exc F.canon hC ?_
    | with_reducible refine wpAny_loadPart_at hC ?_
    | (with_reducible refine wpAny_isSubtype_exc hC ?_
       first
         | rw [c1]
         | rw [c2]
         | rw [c3])
    | wp_step)
  show R _ _
  rw [Heap.size_push]
  exact z
theorem kwTypeCall (F : ExcBaseFacts B newId initId bmB)
    (hT : ∀ Y : String, bm.contains (.type Y) = bmB.contains (.type Y)) {fI : Addr} {Q : Fin → Shared → Prop}
    (hC : h.get? C = some (Cob nm q C N bs bm hdct sn sub ab col dd k0 k1 k2 k3 k5 newId))
    (hi : W.Looks (model prog w) h (typeLookup (.ref C) "__init__") (some (.ref fI)))
    (hb : ∀ self, W.Looks (model prog w) h (bindSpecial (.ref fI) self) (.ref fI, [self]))
    (hps : ps.length ≤ sizeLine)
    (z : codeAny (model prog w) A (.call (.ref fI) ⟨.ref (h.objs.size + 1) :: ps, kw⟩)
      (fun r s' => match r with
        | .ok (.ret v) => v = .none ∧ Q (.done (.ret (.ref (h.objs.size + 1)))) s'
        | .ok _ => False
        | .error e => E e s')
      ⟨(h.push (W.kdv_tup ps)).push (excO C h.objs.size), g, d, t, os⟩) :
    wpAny (model prog w) A (Builtin.«type.__call__» ⟨.ref C :: ps, kw⟩) Q E ⟨h, g, d, t, os⟩ := by
  repeat (first
    | with_reducible refine wpAny_loadPart_at hC ?_
    | with_reducible refine wpAny_madeBy_exc hC ?_
    | wp_step)
  refine codeAny_call_builtin_code (Code.quiet_builtin _ F.quiet)
    (kwNewCheck F hT hC ?_)
  refine kwNew F hT hC ?_ hps
  show wpAny _ _ _ _ _ _
  have k : ∀ b o, h.get? b = some o → ((h.push (W.kdv_tup ps)).push (excO C h.objs.size)).get? b = some o :=
    fun b o e => Heap.get?_push_of_some _ (Heap.get?_push_of_some _ e)
  have hC1 := k _ _ hC
  have hget : ((h.push (W.kdv_tup ps)).push (excO C h.objs.size)).get? (h.objs.size + 1) = some (excO C h.objs.size) := by
    heap_get
  have cC : (Value.ref C :: bm).contains (.ref C) = true := by
    simp
  have i1 := hi.keeps k
  have b1 := (hb (.ref (h.objs.size + 1))).keeps k
  unfold isInstance
  repeat (first
    | with_reducible refine wpAny_loadPart_at hget ?_
    | (with_reducible refine wpAny_isSubtype_exc hC1 ?_
       rw [cC])
    | wp_step)
  show wpAny _ _ (typeLookup (.ref C) _) _ _ _
  refine i1.at ?_
  refine wpAny_holding (wpAny_bind (b1.at ?_))
  refine wpAny_bind (wpAny_call (codeAny_mono z fun r s' y => ?_))
  rcases r with e | (v | _ | _ | _) <;> first
    | exact y
    | exact y.elim
    | skip
  obtain ⟨rfl, y⟩ := y
  first
    | exact wpAny_pure (wpAny_pure y)
    | (wp_walk
       exact y)
theorem kwCall (F : ExcBaseFacts B newId initId bmB)
    (hT : ∀ Y : String, bm.contains (.type Y) = bmB.contains (.type Y)) {fI : Addr}
    (hC : h.get? C = some (Cob nm q C N bs bm hdct sn sub ab col dd k0 k1 k2 k3 k5 newId))
    (hi : W.Looks (model prog w) h (typeLookup (.ref C) "__init__") (some (.ref fI)))
    (hb : ∀ self, W.Looks (model prog w) h (bindSpecial (.ref fI) self) (.ref fI, [self]))
    (hps : ps.length ≤ sizeLine)
    (z : codeAny (model prog w) (A.under (.builtin "type.__call__" ⟨.ref C :: ps, kw⟩)) (.call (.ref fI) ⟨.ref (h.objs.size + 1) :: ps, kw⟩)
      (W.InitBack (h.objs.size + 1) R) ⟨(h.push (W.kdv_tup ps)).push (excO C h.objs.size), g, d, t, os⟩) :
    codeAny (model prog w) A (.call (.ref C) ⟨ps, kw⟩) R ⟨h, g, d, t, os⟩ := by
  have f1 := tc_lookup
  have f2 := tc_bind (.ref C)
  have hTy : (⟨h, g, d, t, os⟩ : Shared).TypeIs (.ref C) "type" := ⟨_, hC, rfl⟩
  refine codeAny_of_tree ?_
  show wpAny _ _ (callAny (.ref C) _) _ _ _
  repeat (any_goals (first
    | assumption
    | with_reducible refine wpAny_loadPart_at hC ?_
    | wp_step))
  refine ⟨rfl, ?_⟩
  refine codeAny_call_builtin_at (Code.quiet_builtin _ (by decide +kernel)) entry_typeCall
    (wpAny_check_type_call_sub hC (kwTypeCall F hT hC hi hb hps ?_))
  refine codeAny_mono z fun r s' y => ?_
  rcases r with e | (v | _ | _ | _) <;> exact y
end
end Kx
namespace Kx
open PySem PySem.Spec PyProof.Rows L2
/-- C(e, .., k = v, ..), C an own exception class with its own __init__: a new exception as a value -/
def tMkE (C : Addr) (n m : Nat) (sp : Sp) (gV : List V → List V → List V) (E : XK) (t tk : TA) : TE := fun σ H Q => t σ H fun vs H1 => tk σ H1 fun zs H2 =>
  vs.length = n ∧ zs.length = m ∧ ∀ a, H2 a = none → sp (gV (.ref a :: vs) zs) (upd H2 a (exo a C none)) (fun v H3 => v = .non ∧ Q (.ref a) H3) E
section
variable {X : Cx} {CX : CXT} {k n : Nat} {fI C : Addr} {fd : FuncData} {ps ks : List Str} {sp : Sp} {E : XK} {x : Str} {p pos : Pos} {e : Expr} {es : List Expr} {kws : List Keyword}
variable {t tk : TA} {g : List Value → List Value → List Value} {gV : List V → List V → List V}
theorem run_mkE {pins : List (Addr × Obj)} {σ : L2.St} {H : Hp} {s : Shared} {Q : VK} {us ws : List Value} {vs zs : List V} (T : OexC X.K C)
    (iC : PySem.W.findIn X.K (.ref C) "__init__" = some (some (.ref fI))) (tI : PySem.W.typeIn X.K (.ref fI) = some (.type "function"))
    (F : FnOk X.prog X.w X.K X.mg X.base CX k fI fd ps sp) (hr : Room (k + 1) X.A) (hb : KBn X.K fd ps (n + 1) ks g gV) (hx : Passes CX X E)
    (I : Inv X pins σ H s) (r : Vals vs us) (rz : Vals zs ws) (l1 : vs.length = n) (l2 : zs.length = ks.length) (hn : n ≤ 1000)
    (h : ∀ a, H a = none → sp (gV (.ref a :: vs) zs) (upd H a (exo a C none)) (fun v H2 => v = .non ∧ Q (.ref a) H2) E) :
    wpAny (model X.prog X.w) X.A (call (.ref C) us (ks.zip ws)) (EP X pins σ Q) X.xe s := by
  obtain ⟨nm, q, N, bs, bm, sn, sub, ab, col, dd, k0, k1, k2, k3, k5, hC, hbm⟩ := T.cls
  obtain ⟨hp, gs, dr, tk, os⟩ := s
  have sz : hp.objs.size ≤ hp.objs.size + 1 := Nat.le_succ _
  have hq := h (hp.objs.size + 1) (I.hok.fresh sz)
  have kk : ∀ b o, hp.get? b = some o → ((hp.push (PySem.W.kdv_tup us)).push (PySem.HandSPX.excO C hp.objs.size)).get? b = some o :=
    fun b o e => Heap.get?_push_of_some _ (Heap.get?_push_of_some _ e)
  have hget : ((hp.push (PySem.W.kdv_tup us)).push (PySem.HandSPX.excO C hp.objs.size)).get? (hp.objs.size + 1) = some (PySem.HandSPX.excO C hp.objs.size) := by
    heap_get
  have I2 : Inv X pins σ (upd H (hp.objs.size + 1) (exo (hp.objs.size + 1) C none)) ⟨(hp.push (PySem.W.kdv_tup us)).push (PySem.HandSPX.excO C hp.objs.size), gs, dr, tk, os⟩ :=
    I.laid (t' := tk) (a := hp.objs.size + 1) kk sz (exo_ok hget)
  have r1 : Vals (V.ref (hp.objs.size + 1) :: vs) (Value.ref (hp.objs.size + 1) :: us) := .cons rfl r
  have r2 := hb.rel r1 rz
  have n1 : (Value.ref (hp.objs.size + 1) :: us).length = n + 1 := by
    rw [List.length_cons, ← r.length, l1]
  have hus : us.length ≤ sizeLine := by
    rw [← r.length, sizeLine_eq]
    omega
  refine wpAny_call (kwCall PySem.F.excBase_ValueError (fun Y => PySem.HandSPX.refsVE_contains Y bm hbm) (I.kIn _ _ hC) (PySem.W.looks_findIn I.kIn iC)
    (fun self => PySem.W.bind_fn I.kIn self tI) hus
    (codeAny_mono (F.run _ X.stack _ _ ⟨Value.ref (hp.objs.size + 1) :: us, ks.zip ws⟩ (g (Value.ref (hp.objs.size + 1) :: us) ws) _ _ E (hr.make C us (ks.zip ws))
      (I2.env0.make C us (ks.zip ws)) (hb.to _ (Value.ref (hp.objs.size + 1) :: us) ws I2.kIn n1 (rz.length.symm.trans l2)) r2 hq) fun r s' hq' => ?_))
  cases r with
  | error e => exact hx pins σ _ _ e s' I2 hq'
  | ok fl =>
    cases fl with
    | ret u =>
      obtain ⟨v, H', I3, rv, ev, q3⟩ := I2.after hq'
      subst ev
      exact ⟨rv, ⟨V.ref (hp.objs.size + 1), H', I3, rfl, q3⟩⟩
    | next => exact False.elim hq'
    | brk => exact False.elim hq'
    | cont => exact False.elim hq'
/-- C(k = v, ..) -/
theorem pe_mkE0 (T : OexC X.K C) (iC : PySem.W.findIn X.K (.ref C) "__init__" = some (some (.ref fI))) (tI : PySem.W.typeIn X.K (.ref fI) = some (.type "function"))
    (F : FnOk X.prog X.w X.K X.mg X.base CX k fI fd ps sp) (hr : Room (k + 1) X.A) (hg : Gl X x) (hm : X.mg x = some (.ref C)) (hb : KBn X.K fd ps 1 ks g gV) (hx : Passes CX X E) (hkw : PK X kws tk)
    (hall : (backToKw pos (keywordEach kws X.env)).all (·.1.isSome) = true := by rfl) (hks : (backToKw pos (keywordEach kws X.env)).filterMap (·.1) = ks := by rfl)
    (hdb : (x == ("__debug__" : Str)) = false := by decide)
    (hpl : ((backTo pos (starEach [] X.env)).any (·.1) || (backToKw pos (keywordEach kws X.env)).any (·.1.isNone)) = false := by rfl) :
    PE X (.Call (.Name x p) [] kws pos) (tMkE C 0 ks.length sp gV E tNil tk) := by
  refine ⟨fun pins s σ H Q I h => ?_⟩
  refine wpAny_Call_Name_kw (ld_glob I hg hm ?_ hdb)
  refine PySem.W.callWith_KW0 (h₀ := X.base) I.ok.mod.kin T.kC hall ?_ hpl
  refine thn (hkw.run pos pins s σ H _ I h) fun ws s2 ⟨zs, H2, I2, rz, l1, l2, q2⟩ => ⟨I2.kIn, ?_⟩
  rw [hks]
  exact run_mkE (us := []) (vs := []) T iC tI F hr hb hx I2 .nil rz rfl l2 (by decide) q2
/-- C(e, ..) -/
theorem pe_mkEp (T : OexC X.K C) (iC : PySem.W.findIn X.K (.ref C) "__init__" = some (some (.ref fI))) (tI : PySem.W.typeIn X.K (.ref fI) = some (.type "function"))
    (F : FnOk X.prog X.w X.K X.mg X.base CX k fI fd ps sp) (hr : Room (k + 1) X.A) (hg : Gl X x) (hm : X.mg x = some (.ref C)) (hb : KBn X.K fd ps (n + 1) [] g gV) (hx : Passes CX X E) (hn : n ≤ 1000) (ha : PA X (e :: es) t)
    (hdb : (x == ("__debug__" : Str)) = false := by decide)
    (he : starEach (e :: es) X.env = (false, eval e X.env) :: starEach es X.env := by rfl) (hpl : (backTo pos (starEach es X.env)).any (·.1) = false := by rfl) :
    PE X (.Call (.Name x p) (e :: es) [] pos) (tMkE C n 0 sp gV E t tNil) := by
  refine ⟨fun pins s σ H Q I h => ?_⟩
  refine wpAny_Call_Name_kw (ld_glob I hg hm ?_ hdb)
  refine PySem.W.callWith_K (h₀ := X.base) I.ok.mod.kin T.kC (thn (ha.run pos pins s σ H _ I h) fun us s1 ⟨vs, H1, I1, r1, l1, l2, q1⟩ => ⟨I1.kIn, ?_⟩) he hpl
  exact run_mkE (ks := []) (ws := []) (zs := []) T iC tI F hr hb hx I1 r1 .nil l1 rfl hn q1
end
end Kx
namespace Kx
open PySem PySem.Spec PyProof.Rows L2
/-- an exception of the class at C stands at a, its fields fs -/
def ExAt (H : Hp) (a C : Addr) (fs : List (Str × V)) : Prop := ∃ dx, H a = some (exo a C (some dx)) ∧ H dx = some (exd dx fs)
theorem ExAt.same {H H' : Hp} {a C : Addr} {fs : List (Str × V)} (x : ExAt H a C fs) (s : Same H H') : ExAt H' a C fs := by
  obtain ⟨dx, h1, h2⟩ := x
  exact ⟨dx, s _ _ h1, s _ _ h2⟩
/-- an exception of the class at C stands at a, with or without a dict of its own -/
def ExI (H : Hp) (a C : Addr) : Prop := (∃ fs, ExAt H a C fs) ∨ H a = some (ExO (.ref C) a)
theorem ExI.keep {H H' : Hp} {a C : Addr} (x : ExI H a C) (k : ∀ (b : Addr) (φ : Heap → Prop), H b = some (.ext φ) → H' b = some (.ext φ)) : ExI H' a C := by
  rcases x with ⟨fs, dx, h1, h2⟩ | x
  · exact .inl ⟨fs, dx, k _ _ h1, k _ _ h2⟩
  · exact .inr (k _ _ x)
theorem ExI.same {H H' : Hp} {a C : Addr} (x : ExI H a C) (s : Same H H') : ExI H' a C := x.keep fun b φ e => s b _ e
section
variable {X : Cx} {pins : List (Addr × Obj)} {σ : L2.St} {H : Hp} {s : Shared}
theorem ExAt.inst {a C : Addr} {fs : List (Str × V)} (I : Inv X pins σ H s) (x : ExAt H a C fs) : ∃ (ox od : Obj) (mA : Str → Option Value) (dx : Addr),
    PySem.W.InstAt s.heap a ox C (some od) ∧ ox.dict = some dx ∧ s.heap.get? dx = some od ∧ s.heap.Ns1 dx mA ∧ (∀ f, RelO (fs.lookup f) (mA f)) := by
  obtain ⟨dx, h1, h2⟩ := x
  obtain ⟨t1, ho⟩ := exo_at I.hok h1
  obtain ⟨mA, hns, rel⟩ := exd_at I.hok h2
  obtain ⟨od, _, _, hod, _⟩ := id hns
  exact ⟨_, od, mA, dx, ⟨ho, rfl, rfl, hod⟩, rfl, hod, hns, rel⟩
theorem ExI.inst {a C : Addr} (I : Inv X pins σ H s) (x : ExI H a C) : ∃ (ox : Obj) (od : Option Obj), PySem.W.InstAt s.heap a ox C od := by
  rcases x with ⟨fs, x⟩ | x
  · obtain ⟨ox, od, _, _, J, _⟩ := x.inst I
    exact ⟨ox, some od, J⟩
  · have y : ObjOk X.prog X.w H s.heap a (.ext fun h => ∃ (oe : Obj) (vs : Array Value), h.get? a = some oe ∧ Zc (.ref C) none oe ∧ oe.data = .fields vs ∧ vs[1]? = some .none ∧ vs[2]? = some .none ∧ 4 < vs.size) := I.hok a _ x
    obtain ⟨⟨oe, vs, ho, hz, hd, _⟩, _, _⟩ := y
    obtain ⟨oc, odd, oda, osl⟩ := oe
    obtain ⟨h1, h2⟩ := hz
    dsimp only at h1 h2 hd
    subst h1 h2 hd
    exact ⟨_, none, ho, rfl, rfl, trivial⟩
/-- isinstance(e, c), e an exception that stands in H -/
def rIsX (K : PySem.W.Frag) : List V → Hp → VK → Prop := fun xs H Q => ∃ (a D : Addr) (c : V) (u : Value) (b : Bool),
  xs = [.ref a, c] ∧ ClsV c u ∧ ExI H a D ∧ ExcC K D ∧ PySem.W.kitOne K (.ref D) u = some b ∧ Q (.bl b) H
theorem call_isX : CallR X (.builtin "isinstance") (rIsX X.K) := by
  intro pins s σ H xs us Q I r h
  obtain ⟨a, D, c, u, b, rfl, hc, ea, C, e, q⟩ := h
  cases r with
  | cons rx rr =>
    cases rr with
    | cons rt rr =>
      cases rr
      cases rx
      have ec := hc.eq rt
      subst ec
      obtain ⟨ox, od, J⟩ := ea.inst I
      obtain ⟨cd, hcd, _⟩ := PySem.W.any_some C.hd
      exact PySem.W.kia_one (PySem.W.kitx_exc (by rw [hcd]; rfl) C.hg C.hk C.hs C.ha C.hn C.ht C.hm) I.kIn J e (fun z => nomatch z)
        fun tk => ⟨.bl b, H, I.kept (t' := tk) fun _ _ z => z, rfl, q⟩
/-- e.n, e an exception that stands in H -/
def tXv (K : PySem.W.Frag) (n : Str) (te : TE) : TE := fun σ H Q => te σ H fun x H1 => ∃ (a C : Addr) (fs : List (Str × V)) (v : V),
  x = .ref a ∧ ExAt H1 a C fs ∧ XfC K C ∧ PySem.W.findIn K (.ref C) n = some none ∧ fs.lookup n = some v ∧ Q v H1
theorem pe_xv {e : Expr} {te : TE} {pos : Pos} {n : Str} (he : PE X e te) (hb : attributeBase e n X.env (eval e X.env) = eval e X.env := by rfl) :
    PE X (.Attribute e n pos) (tXv X.K n te) := by
  refine ⟨fun pins s σ H Q I h => ?_⟩
  refine attr_of hb (thn (he.run pins s σ H _ I h) fun u s1 hh => ?_)
  obtain ⟨x, H1, I1, rx, a, C, fs, v, ex, ea, T, hno, l, q⟩ := hh
  subst ex
  obtain rfl : u = Value.ref a := rx
  obtain ⟨ox, od, mA, dx, J, hdx, hod, hns, hr⟩ := ea.inst I1
  obtain ⟨od', ho', hl⟩ := lookIn_ns hns
  have eo : od' = od := Option.some.inj (ho'.symm.trans hod)
  subst eo
  obtain ⟨w, hw, rw'⟩ := RelO.some_of (v := v) (o := mA n) (by rw [← l]; exact hr n)
  exact HandSPX.exc_get I1.kIn J T.ga T.gg T.exC (PySem.W.findObj_own T.hdC hno rfl (by rw [hl, hw])) (handed_of rw') ⟨v, H1, I1.tok _, rw', q⟩
/-- X(), X an own exception class without own __init__ -/
theorem pe_exc0 {C : Addr} {bmB : List Value} {B newId initId : String} {x : Str} {p pos : Pos} (F : ExcBaseFacts B newId initId bmB) (q : PySem.W.excIn X.K C bmB newId = true) (gC : X.mg x = some (.ref C))
    (kC : PySem.W.keepIn X.K (.ref C) = true) (hg : Gl X x) (hdb : (x == ("__debug__" : Str)) = false := by decide) :
    PE X (.Call (.Name x p) [] [] pos) (fun _ H Q => ∀ a, H a = none → Q (.ref a) (upd H a (ExO (.ref C) a))) := by
  refine ⟨fun pins s σ H Q I h => ?_⟩
  refine wpAny_Call_Name_kw (ld_glob I hg gC ?_ hdb)
  refine PySem.W.callWith_K0 I.kIn kC ?_
  show wpAny _ _ (call (.ref C) []) _ _ _
  obtain ⟨bm, N, nm, qn, bs, hdct, sn, sub, ab, col, dd, k0, k1, k2, k3, k5, mN, hC, hN, hni, T⟩ := exc_obj I.kIn q
  refine wpAny_call_exc_subT F T hC hN hni (fun h' a hm => ?_) (Nat.zero_le _)
  have hn : H a = none := I.hok.gone hm.new
  obtain ⟨t, ht, _, _⟩ := hm.there
  exact ⟨.ref a, upd H a (ExO (.ref C) a), I.laidN hm.keeps hm.new hn (exO_ok ht ⟨rfl, rfl⟩ rfl rfl rfl (show 4 < 6 by decide)), rfl, h a hn⟩
end
end Kx
/-! A lambda without captured names as a value; its call. -/
namespace Kl
open PySem PySem.Spec PyProof.Rows L2 LamX
/-- what a lambda's text is -/
structure Lam where
  qual : Str
  params : Arguments
  body : Expr
  scope : Scope
def LamO (f c' : Addr) (L : Lam) : HO := .ext fun h => ∃ pm ctv : Value, h.get? f = some (PySem.W.kla_obj "<lambda>" L.qual L.params L.body L.scope [] pm c' ctv)
theorem lamO_at {P : Program} {w : World} {H : Hp} {h : Heap} {f c' : Addr} {L : Lam} (hok : HOk P w H h) (e : H f = some (LamO f c' L)) :
    ∃ pm ctv : Value, h.get? f = some (PySem.W.kla_obj "<lambda>" L.qual L.params L.body L.scope [] pm c' ctv) := by
  have x : ObjOk P w H h f (.ext fun h => ∃ pm ctv : Value, h.get? f = some (PySem.W.kla_obj "<lambda>" L.qual L.params L.body L.scope [] pm c' ctv)) := hok f _ e
  exact x.1
theorem lamO_ok {P : Program} {w : World} {H : Hp} {h : Heap} {f c' : Addr} {L : Lam} {pm ctv : Value} (e : h.get? f = some (PySem.W.kla_obj "<lambda>" L.qual L.params L.body L.scope [] pm c' ctv)) :
    ObjOk P w H h f (LamO f c' L) := by
  refine ⟨⟨pm, ctv, e⟩, ⟨_, e⟩, fun h1 h2 z k => ?_⟩
  obtain ⟨a, b, q⟩ := z
  exact ⟨a, b, k _ q⟩
/-- all but the table at P stays -/
def KeepP (P : Addr) (H H' : Hp) : Prop := ∀ b o, b ≠ P → H b = some o → H' b = some o
theorem KeepP.refl {P : Addr} {H : Hp} : KeepP P H H := fun _ _ _ h => h
theorem KeepP.trans {P : Addr} {H H1 H2 : Hp} (x : KeepP P H H1) (y : KeepP P H1 H2) : KeepP P H H2 := fun b o n h => y b o n (x b o n h)
theorem KeepP.new {P l : Addr} {o : HO} {H : Hp} (h : H l = none) : KeepP P H (upd H l o) := fun b u _ e => by
  rw [upd_ne (ne_of_none e h)]
  exact e
theorem KeepP.none {P : Addr} {H H' : Hp} (k : KeepP P H H') (hP : ∃ o, H P = some o) {l : Addr} (h : H' l = none) (h2 : ∃ o, H' P = some o) : H l = none := by
  cases e : H l with
  | none => rfl
  | some o =>
    by_cases z : l = P
    · obtain ⟨u, q⟩ := h2
      rw [z, q] at h
      cases h
    · rw [k l o z e] at h
      cases h
section
variable {X : Cx} {pins : List (Addr × Obj)} {σ : L2.St} {H : Hp} {s : Shared}
/-- lambda ..: .. -/
theorem lam_new {c P : Addr} {params : Arguments} {body : Expr} {scope : Scope} {pos : Pos} {E : Value → Shared → Prop} {Q : Value → Shared → Prop}
    (I : Inv X pins σ H s) (TB : TabB X.base X.mg c P) (hcode : X.env.code = .ref c) (hT : TabS H P (X.env.qual ++ "<lambda>"))
    (hdef : defaultsOf params X.env = ([], [])) (hcl : closureFor scope X.env = pure [])
    (h : ∀ (f c' : Addr) (H2 : Hp) (s' : Shared), Inv X pins σ H2 s' → KeepP P H H2 → TabS H2 P (X.env.qual ++ "<lambda>") → H f = none →
      H2 f = some (LamO f c' ⟨X.env.qual ++ "<lambda>", params, body, scope⟩) → H2 c' = some (CodeO c' (X.env.qual ++ "<lambda>")) → Q (.ref f) s') :
    wpAny (model X.prog X.w) X.A (eval (.Lambda params body scope pos) X.env) Q E s := by
  obtain ⟨ps, hP, ht, ha⟩ := hT
  refine PySem.W.kla_eval hdef ?_
  have bP : s.heap.BuiltinsAt X.mg P := TB.bm.keeps I.bk
  have hP' : s.heap.get? P = some { cls := .none, data := .fields ps } := I.hok P _ hP
  cases hc : codeAmong pos ps.toList with
  | none =>
    refine PySem.W.kla_makeFunction (mg := X.mg) (c := c) (P := P) (ps := ps) hcl I.ok.glob (I.mod.glob.keeps I.bk) hcode
      (TB.code.keeps I.bk) hP' ht hc TB.gP bP fun c' ctv h' tk hx hge hlt hrec htb => ?_
    obtain ⟨c2, oc, vs, t, e2, hoc, hd, hv⟩ := hrec
    cases e2
    have nC : H c' = none := I.hok.fresh hge
    have sz : s.heap.objs.size ≤ h'.objs.size := Nat.le_trans hge (Nat.le_of_lt hlt)
    have I1 := inv_table (t' := tk) (more := #[rawInt pos.line, rawInt pos.col, .ref c']) (h' := h') I hP hx htb hge ⟨oc, vs, t, hoc, hd, hv⟩
    have nf1 := I1.hok.fresh (Nat.le_refl h'.objs.size)
    have I2 := I1.laid (t' := tk) (a := h'.objs.size) (o := LamO h'.objs.size c' ⟨X.env.qual ++ "<lambda>", params, body, scope⟩)
      (h' := h'.push (PySem.W.kla_obj "<lambda>" (X.env.qual ++ "<lambda>") params body scope [] ((X.mg "__name__").getD .none) c' ctv))
      (fun b o e => Heap.get?_push_of_some _ e) (Nat.le_refl _) (lamO_ok (Heap.get?_push_size _ rfl))
    have nPc : P ≠ c' := ne_of_none hP nC
    have nf : H h'.objs.size = none := I.hok.fresh sz
    have nPf : P ≠ h'.objs.size := ne_of_none hP nf
    have kp : KeepP P H (upd (upd H P (.tbl (ps ++ #[rawInt pos.line, rawInt pos.col, .ref c']))) c' (CodeO c' (X.env.qual ++ "<lambda>"))) := fun b o n e => by
      rw [upd_ne (ne_of_none e nC), upd_ne n]
      exact e
    have eL : (ps ++ #[rawInt pos.line, rawInt pos.col, .ref c']).toList = ps.toList ++ [rawInt pos.line, rawInt pos.col, .ref c'] := by simp
    have tb1 : TabS (upd (upd H P (.tbl (ps ++ #[rawInt pos.line, rawInt pos.col, .ref c']))) c' (CodeO c' (X.env.qual ++ "<lambda>"))) P (X.env.qual ++ "<lambda>") := by
      refine ⟨_, by rw [upd_ne nPc, upd_same], by rw [eL]; exact PySem.TriplesOk_snoc _ _ _ _ ht, fun p' cv hcv => ?_⟩
      rw [eL] at hcv
      rcases among_app _ ht hcv with z | z
      · obtain ⟨c0, e1, e2⟩ := ha p' cv z
        exact ⟨c0, e1, kp _ _ (fun y => by rw [y, hP] at e2; exact codeO_ne ps (Option.some.inj e2).symm) e2⟩
      · exact ⟨c', z, upd_same⟩
    have nCf : c' ≠ h'.objs.size := Nat.ne_of_lt hlt
    refine h h'.objs.size c' _ _ I2 (kp.trans (.new nf1)) (tb1.ext fun b o e => ?_) nf upd_same (by rw [upd_ne nCf]; exact upd_same)
    rw [upd_ne (ne_of_none e nf1)]
    exact e
  | some cv =>
    obtain ⟨c', e, hco⟩ := ha pos cv hc
    subst e
    refine PySem.W.kla_makeFunctionHit (mg := X.mg) (c := c) (P := P) (ps := ps) hcl I.ok.glob (I.mod.glob.keeps I.bk) hcode
      (TB.code.keeps I.bk) hP' ht hc bP fun ctv h' tk hx hsz => ?_
    have I1 : Inv X pins σ H { s with heap := h', toks := tk } := I.kept hx
    have nf1 := I1.hok.fresh (Nat.le_refl h'.objs.size)
    have I2 := I1.laid (t' := tk) (a := h'.objs.size) (o := LamO h'.objs.size c' ⟨X.env.qual ++ "<lambda>", params, body, scope⟩)
      (h' := h'.push (PySem.W.kla_obj "<lambda>" (X.env.qual ++ "<lambda>") params body scope [] ((X.mg "__name__").getD .none) c' ctv))
      (fun b o e => Heap.get?_push_of_some _ e) (Nat.le_refl _) (lamO_ok (Heap.get?_push_size _ rfl))
    have tb : TabS H P (X.env.qual ++ "<lambda>") := ⟨ps, hP, ht, ha⟩
    refine h h'.objs.size c' _ _ I2 (.new nf1) (tb.ext fun b o e => ?_) nf1 upd_same (by rw [upd_ne (ne_of_none hco nf1)]; exact hco)
    rw [upd_ne (ne_of_none e nf1)]
    exact e
/-- the reading of a lambda as a value -/
def tLamV (P : Addr) (L : Lam) : TE := fun _ H Q => TabS H P L.qual ∧ ∀ (f c' : Addr) (H2 : Hp), KeepP P H H2 → TabS H2 P L.qual → H f = none →
  H2 f = some (LamO f c' L) → H2 c' = some (CodeO c' L.qual) → Q (.ref f) H2
theorem pe_lamv {c P : Addr} {params : Arguments} {body : Expr} {scope : Scope} {pos : Pos} (TB : TabB X.base X.mg c P) (hcode : X.env.code = .ref c)
    (hdef : defaultsOf params X.env = ([], [])) (hcl : closureFor scope X.env = pure []) :
    PE X (.Lambda params body scope pos) (tLamV P ⟨X.env.qual ++ "<lambda>", params, body, scope⟩) := by
  refine ⟨fun pins s σ H Q I h => ?_⟩
  obtain ⟨hT, h⟩ := h
  exact lam_new I TB hcode hT hdef hcl fun f c' H2 s' I2 k1 k2 k3 k4 k5 => ⟨.ref f, H2, I2, rfl, h f c' H2 k1 k2 k3 k4 k5⟩
end
/-- what a lambda's call keeps -/
structure LamOk (P : Program) (w : World) (K : PySem.W.Frag) (mg : Str → Option Value) (base : Heap) (k : Nat) (L : Lam) (ps : List Str) (sp : Sp) : Prop where
  long : ∀ vs H Q E, sp vs H Q E → vs.length = ps.length
  goes : ∀ (A : Around) (outer : List Env) (s : Shared) (H : Hp) (f c' : Addr) (us : List Value) (vs : List V) (Q : VK) (E : XK), Room k A → Env0 P w K mg base A outer s H →
    H f = some (LamO f c' L) → H c' = some (CodeO c' L.qual) → Vals vs us → sp vs H Q E → codeAny (model P w) A (.call (.ref f) ⟨us, []⟩) (CR CX0 outer P w H s Q E) s
section
variable {P : Program} {w : World} {K : PySem.W.Frag} {mg : Str → Option Value} {base : Heap}
theorem LamOk.made {k : Nat} {L : Lam} {N ps : List Str} {sp : Sp} (S : FnScope N ps L.scope) (long : ∀ vs H Q E, sp vs H Q E → vs.length = ps.length)
    (hbind : ∀ (pm : Value) (c' : Addr) (ctv : Value) (us : List Value), us.length = ps.length → bindArgs (PySem.W.kla_fn "<lambda>" L.qual L.params L.body L.scope [] pm (.ref c') ctv) ⟨us, []⟩ = pure (ps.zip us))
    (hb : ∀ (f c' : Addr) (A : Around) (outer : List Env) (s : Shared) (H : Hp) (vs : List V) (Q : VK) (E : XK), Room k (A.deeper (envOfC L.qual L.scope s.heap.objs.size f (.ref c'))) → sp vs H Q E →
      ∃ t, PE (cxOf CX0 P w K mg base N L.qual L.scope f (.ref c') A outer s H E).nox L.body t ∧ t (start N vs) H Q) : LamOk P w K mg base (k + 1) L ps sp := by
  refine ⟨long, fun A outer s H f c' us vs Q E hr e0 hf hc r hsp => ?_⟩
  obtain ⟨pm, ctv, of⟩ := lamO_at e0.hok hf
  obtain ⟨⟨oc, fv, t0, hoc, hdc, hvc⟩, _, _⟩ := e0.hok c' _ hc
  have hl := long _ _ _ _ hsp
  have lim : s.heap.NoLimit := e0.mod.nolimit.keeps fun b o e => (e0.bs b o e).1
  have hk : ∀ y ∈ ps.zip us, L.scope.names.lookup y.1 = some .local ∨ (L.scope.names.lookup y.1 = some .cell ∧ ((cellsFrom (s.heap.objs.size + 1) L.scope.names []).lookup y.1).isSome = true) := by
    intro y hy
    obtain ⟨n, v⟩ := y
    rcases S.par n (List.of_mem_zip hy).1 with q | q
    · left
      exact q
    · right
      exact ⟨q, PySem.W.cellsFrom_some _ _ _ (.inl q)⟩
  refine PySem.W.kla_callFunE hr.depth of rfl S.co S.gen rfl ⟨c', oc, fv, t0, rfl, hoc, hdc, hvc⟩ ?_
  rw [hbind pm c' ctv us (r.length.symm.trans hl)]
  refine wpAny_pure (wpAny_newFunctionEnv_cells S.kind hk fun env he s1 x => ?_)
  subst he
  refine ⟨lim.keeps x.toInCall.keep, ?_⟩
  obtain ⟨t, ht, hq⟩ := hb f c' A outer s H vs Q E (hr.deeper _) hsp
  have I : Inv (cxOf CX0 P w K mg base N L.qual L.scope f (.ref c') A outer s H E) [] (start N vs) H s1 := inv_start S hr.hd e0 hl r x
  refine PySem.W.kla_codeExpr (wpAny_mono (ht.nox.run [] s1 (start N vs) H Q I hq) (fun u s' hs => ?_) fun e s' hs => hs)
  obtain ⟨v, H', J, rv, q⟩ := hs
  exact ⟨v, H', J.os, J.bare, J.base, J.hok, rv, q⟩
end
/-- x(e), x a name that holds such a lambda -/
def tCallLm (i : Nat) (LS : Lam → Sp → Prop) (t : TA) : TE := fun σ H Q => ∃ (f c' : Addr) (L : Lam) (sp : Sp), σ[i]? = some (some (.ref f)) ∧ LS L sp ∧ H f = some (LamO f c' L) ∧
  t σ H fun vs H1 => H1 f = some (LamO f c' L) ∧ H1 c' = some (CodeO c' L.qual) ∧ sp vs H1 Q E0
section
variable {X : Cx} {i k : Nat} {x : Str} {LS : Lam → Sp → Prop} {t : TA} {e : Expr} {es : List Expr} {p pos : Pos} {ps : List Str}
theorem fnAtL {pins : List (Addr × Obj)} {σ : L2.St} {H : Hp} {s : Shared} {f c' : Addr} {L : Lam} (I : Inv X pins σ H s) (e : H f = some (LamO f c' L)) : PySem.W.FnAt f s.heap := by
  obtain ⟨pm, ctv, ho⟩ := lamO_at I.hok e
  exact ⟨_, _, _, _, ho⟩
theorem pe_callLm (Fn : ∀ L sp, LS L sp → LamOk X.prog X.w X.K X.mg X.base k L ps sp) (hr : Room k X.A) (hN : X.N[i]? = some x) (hv : Vis X.env.scope x) (ha : PA X (e :: es) t)
    (hd : (x == ("__debug__" : Str)) = false := by decide) (hcd : (x == ("__classdict__" : Str)) = false := by decide)
    (he : starEach (e :: es) X.env = (false, eval e X.env) :: starEach es X.env := by rfl) (hpl : (backTo pos (starEach es X.env)).any (·.1) = false := by rfl) :
    PE X (.Call (.Name x p) (e :: es) [] pos) (tCallLm i LS t) := by
  refine ⟨fun pins s σ H Q I h => ?_⟩
  obtain ⟨f, c', L, sp, hs, hL, hf, ht⟩ := h
  refine wpAny_Call_Name_kw (thn ((pe_var (pos := p) hN hv hd hcd).run pins s σ H (fun v H1 => v = .ref f ∧ H1 = H) I ⟨.ref f, hs, rfl, rfl⟩) fun u s1 ⟨v, H1, I1, r1, q1⟩ => ?_)
  obtain ⟨ev, eH⟩ := q1
  subst ev
  rw [eH] at I1
  obtain rfl : u = Value.ref f := r1
  refine PySem.W.callWith_F (first := []) (fnAtL I1 hf) (thn (ha.run pos pins s1 σ H _ I1 ht)
    fun us s2 ⟨vs, H2, I2, r, h1, h2, q⟩ => ⟨fnAtL I2 h1, ?_⟩) he hpl
  show wpAny _ _ (call (.ref f) us) _ _ _
  refine wpAny_call (codeAny_mono ((Fn L sp hL).goes X.A X.stack s2 H2 f c' us vs Q E0 hr I2.env0 h1 h2 r q) fun r s' hq => ?_)
  cases r with
  | error e => exact False.elim hq
  | ok fl =>
    cases fl with
    | ret u => exact I2.after hq
    | next => exact False.elim hq
    | brk => exact False.elim hq
    | cont => exact False.elim hq
end
end Kl
namespace Kc
open PySem PySem.Spec PyProof.Rows L2 Kx Kl LamX
/-- what is known of one class of errors: its name, its fields -/
structure ClsX (K : PySem.W.Frag) (mg : Str → Option Value) (x : Str) (fs : List Str) : Prop where
  g : mg x = some (.ref (He.ga K x))
  ox : OexC K (He.ga K x)
  iC : PySem.W.findIn K (.ref (He.ga K x)) "__init__" = some (some (.ref (He.ma K (He.ga K x) "__init__")))
  tI : PySem.W.typeIn K (.ref (He.ma K (He.ga K x) "__init__")) = some (.type "function")
  no : ∀ f ∈ fs, PySem.W.findIn K (.ref (He.ga K x)) f = some none
  ec : ExcC K (He.ga K x)
  xf : XfC K (He.ga K x)
/-- __init__(self, f): self.f = f -/
def spI1 (K : PySem.W.Frag) (f : Str) : Sp := fun vs H Q _ => ∃ (a C : Addr) (v : V), vs = [.ref a, v] ∧ OexC K C ∧ PySem.W.findIn K (.ref C) f = some none ∧ H a = some (exo a C none) ∧
  ∀ dx, H dx = none → dx ≠ a → Q .non (upd (upd H dx (exd dx [(f, v)])) a (exo a C (some dx)))
/-- __init__(self, f, g): self.f = f; self.g = g -/
def spI2 (K : PySem.W.Frag) (f g : Str) : Sp := fun vs H Q _ => ∃ (a C : Addr) (v u : V), vs = [.ref a, v, u] ∧ OexC K C ∧ PySem.W.findIn K (.ref C) f = some none ∧ PySem.W.findIn K (.ref C) g = some none ∧ H a = some (exo a C none) ∧
  ∀ dx, H dx = none → dx ≠ a → Q .non (upd (upd (upd H dx (exd dx [(f, v)])) a (exo a C (some dx))) dx (exd dx [(g, u), (f, v)]))
section
variable {P : Program} {w : World} {K : PySem.W.Frag} {mg : Str → Option Value} {base : Heap}
theorem okI1 {fI : Addr} {fd : FuncData} {st : Stmt} {q f : Str} {p1 p2 p3 p4 : Pos} (F : Fun K "__init__" q st fI fd) (S : FnScope ["self", f] ["self", f] (defScope st))
    (hb : defBody st = [.Assign [.Attribute (.Name "self" p1) f p2] (.Name f p3) p4]) (h0 : (defScope st).names.lookup ("self" : Str) = some .local) (h1 : (defScope st).names.lookup f = some .local)
    (hd : (f == ("__debug__" : Str)) = false) (hcd : (f == ("__classdict__" : Str)) = false) :
    FnOk P w K mg base CX0 1 fI fd ["self", f] (spI1 K f) := by
  refine F.ok S (fun vs H Q E h => ?_) (fun cdv A outer s H vs Q E hr h => ?_)
  · obtain ⟨a, C, v, rfl, _⟩ := h
    rfl
  · obtain ⟨a, C, v, rfl, ox, no, ha, k⟩ := h
    rw [hb]
    refine ⟨_, pss_one (ps_ost (pe_var (i := 0) rfl (.inl h0) (by decide) (by decide)) (pe_var (i := 1) rfl (.inl h1) hd hcd) (by rfl)), ?_⟩
    exact ⟨_, rfl, _, rfl, a, C, rfl, ox, no, .inl ⟨ha, fun dx n ne => k dx n ne⟩⟩
theorem okI2 {fI : Addr} {fd : FuncData} {st : Stmt} {q f g : Str} {p1 p2 p3 p4 r1 r2 r3 r4 : Pos} (F : Fun K "__init__" q st fI fd) (S : FnScope ["self", f, g] ["self", f, g] (defScope st))
    (hb : defBody st = [.Assign [.Attribute (.Name "self" p1) f p2] (.Name f p3) p4, .Assign [.Attribute (.Name "self" r1) g r2] (.Name g r3) r4])
    (h0 : (defScope st).names.lookup ("self" : Str) = some .local) (h1 : (defScope st).names.lookup f = some .local) (h2 : (defScope st).names.lookup g = some .local)
    (hd : (f == ("__debug__" : Str)) = false) (hcd : (f == ("__classdict__" : Str)) = false) (hd2 : (g == ("__debug__" : Str)) = false) (hcd2 : (g == ("__classdict__" : Str)) = false) :
    FnOk P w K mg base CX0 1 fI fd ["self", f, g] (spI2 K f g) := by
  refine F.ok S (fun vs H Q E h => ?_) (fun cdv A outer s H vs Q E hr h => ?_)
  · obtain ⟨a, C, v, u, rfl, _⟩ := h
    rfl
  · obtain ⟨a, C, v, u, rfl, ox, no, no2, ha, k⟩ := h
    rw [hb]
    refine ⟨_, pss_cons (ps_ost (pe_var (i := 0) rfl (.inl h0) (by decide) (by decide)) (pe_var (i := 1) rfl (.inl h1) hd hcd) (by rfl))
      (pss_one (ps_ost (pe_var (i := 0) rfl (.inl h0) (by decide) (by decide)) (pe_var (i := 2) rfl (.inl h2) hd2 hcd2) (by rfl))), ?_⟩
    refine ⟨_, rfl, _, rfl, a, C, rfl, ox, no, .inl ⟨ha, fun dx n ne => ?_⟩⟩
    exact ⟨_, rfl, _, rfl, a, C, rfl, ox, no2, .inr ⟨dx, _, upd_same, (by rw [upd_ne ne]; exact upd_same), Nat.le_of_lt_succ (Nat.lt_of_lt_of_le (show 1 < 2 by decide) (by decide)), k dx n ne⟩⟩
end
/-- lambda e: [e.n ..] -/
def spLm (C : Addr) (ns : List Str) : Sp := fun vs H Q _ => ∃ (a : Addr) (fs : List (Str × V)) (xs : List V), vs = [.ref a] ∧ ExAt H a C fs ∧ ns.map (fun n => fs.lookup n) = xs.map some ∧ ∀ p, H p = none → Q (.ref p) (upd H p (.lst xs))
section
variable {P : Program} {w : World} {K : PySem.W.Frag} {mg : Str → Option Value} {base : Heap}
theorem lam1 {L : Lam} {C : Addr} {n : Str} {p1 p2 p3 : Pos} (hL : L.body = .List [.Attribute (.Name "e" p1) n p2] p3) (S : FnScope ["e"] ["e"] L.scope) (h0 : L.scope.names.lookup ("e" : Str) = some .local)
    (hbind : ∀ (pm : Value) (c' : Addr) (ctv : Value) (us : List Value), us.length = ["e"].length → bindArgs (PySem.W.kla_fn "<lambda>" L.qual L.params L.body L.scope [] pm (.ref c') ctv) ⟨us, []⟩ = pure ((["e"] : List Str).zip us))
    (xf : XfC K C) (no : PySem.W.findIn K (.ref C) n = some none) : LamOk P w K mg base 1 L ["e"] (spLm C [n]) := by
  refine LamOk.made (N := ["e"]) S (fun vs H Q E h => ?_) hbind (fun f c' A outer s H vs Q E hr h => ?_)
  · obtain ⟨a, fs, xs, rfl, _⟩ := h
    rfl
  · obtain ⟨a, fs, xs, rfl, ex, hx, k⟩ := h
    rw [hL]
    refine ⟨_, pe_lst (pa_cons (pe_xv (pe_var (i := 0) rfl (.inl h0) (by decide) (by decide))) pa_nil), ?_⟩
    have hlen := congrArg List.length hx
    match xs, hlen with
    | [v], _ =>
      have h1 : fs.lookup n = some v := by simpa using hx
      exact ⟨_, rfl, a, C, fs, v, rfl, ex, xf, no, h1, (show 1 ≤ sizeLine from by decide), k⟩
theorem lam2 {L : Lam} {C : Addr} {n m : Str} {p1 p2 p3 p4 p5 : Pos} (hL : L.body = .List [.Attribute (.Name "e" p1) n p2, .Attribute (.Name "e" p3) m p4] p5) (S : FnScope ["e"] ["e"] L.scope) (h0 : L.scope.names.lookup ("e" : Str) = some .local)
    (hbind : ∀ (pm : Value) (c' : Addr) (ctv : Value) (us : List Value), us.length = ["e"].length → bindArgs (PySem.W.kla_fn "<lambda>" L.qual L.params L.body L.scope [] pm (.ref c') ctv) ⟨us, []⟩ = pure ((["e"] : List Str).zip us))
    (xf : XfC K C) (no : PySem.W.findIn K (.ref C) n = some none) (no2 : PySem.W.findIn K (.ref C) m = some none) : LamOk P w K mg base 1 L ["e"] (spLm C [n, m]) := by
  refine LamOk.made (N := ["e"]) S (fun vs H Q E h => ?_) hbind (fun f c' A outer s H vs Q E hr h => ?_)
  · obtain ⟨a, fs, xs, rfl, _⟩ := h
    rfl
  · obtain ⟨a, fs, xs, rfl, ex, hx, k⟩ := h
    rw [hL]
    refine ⟨_, pe_lst (pa_cons (pe_xv (pe_var (i := 0) rfl (.inl h0) (by decide) (by decide))) (pa_cons (pe_xv (pe_var (i := 0) rfl (.inl h0) (by decide) (by decide))) pa_nil)), ?_⟩
    have hlen := congrArg List.length hx
    match xs, hlen with
    | [v, u], _ =>
      have h1 : fs.lookup n = some v ∧ fs.lookup m = some u := by simpa using hx
      exact ⟨_, rfl, a, C, fs, v, rfl, ex, xf, no, h1.1, _, rfl, a, C, fs, u, rfl, ex, xf, no2, h1.2, (show 2 ≤ sizeLine from by decide), k⟩
end
end Kc
namespace Kc
open PySem PySem.Spec PyProof.Rows L2 Kx Kl LamX
/-! ### how an __init__ takes its arguments -/
section
variable {K : PySem.W.Frag} {x qual : Str} {st : Stmt} {f : Addr} {fd : FuncData} {ps ks : List Str} {n : Nat}
theorem kbP (F : Fun K x qual st f fd)
    (h : ∀ (kV doc pm : Value) (an : Option Addr) (cdv ct : Value) (us : List Value), us.length = n → bindArgs (PySem.W.fnOf x qual (defArgs st) (defBody st) (defScope st) .none kV doc pm an cdv ct) ⟨us, []⟩ = pure (ps.zip us)) :
    KBn K fd ps n [] (fun us _ => us) (fun vs _ => vs) := by
  obtain ⟨oc, od, kV, doc, pm, an, cdv, ct, osl, rfl, lk, hcd⟩ := F.ex
  exact ⟨fun s us ws _ hl _ => BindsTo.of_eq (h kV doc pm an cdv ct us hl), fun r _ => r⟩
theorem kbK {g : List Value → List Value → List Value} {gV : List V → List V → List V} (F : Fun K x qual st f fd)
    (hrel : ∀ {vs zs : List V} {us ws : List Value}, Vals vs us → Vals zs ws → Vals (gV vs zs) (g us ws))
    (h : ∀ (kV doc pm : Value) (an : Option Addr) (cdv ct : Value) (us ws : List Value), us.length = 1 → ws.length = ks.length →
      bindArgs (PySem.W.fnOf x qual (defArgs st) (defBody st) (defScope st) .none kV doc pm an cdv ct) ⟨us, ks.zip ws⟩ = pure (ps.zip (g us ws))) : KBn K fd ps 1 ks g gV := by
  obtain ⟨oc, od, kV, doc, pm, an, cdv, ct, osl, rfl, lk, hcd⟩ := F.ex
  exact ⟨fun s us ws _ hl hw => BindsTo.of_eq (h kV doc pm an cdv ct us ws hl hw), hrel⟩
end
/-! ### heaps -/
/-- all but the list at l and the table at P stays -/
def KeepLP (l P : Addr) (H H' : Hp) : Prop := ∀ b o, b ≠ l → b ≠ P → H b = some o → H' b = some o
theorem KeepLP.refl {l P : Addr} {H : Hp} : KeepLP l P H H := fun _ _ _ _ h => h
theorem KeepLP.trans {l P : Addr} {H H1 H2 : Hp} (x : KeepLP l P H H1) (y : KeepLP l P H1 H2) : KeepLP l P H H2 := fun b o n1 n2 h => y b o n1 n2 (x b o n1 n2 h)
theorem KeepLP.same {l P : Addr} {H H' : Hp} (x : Same H H') : KeepLP l P H H' := fun b o _ _ h => x b o h
theorem same_new {H : Hp} {a : Addr} {o : HO} (h : H a = none) : Same H (upd H a o) := fun b u e => by
  rw [upd_ne (ne_of_none e h)]
  exact e
/-- the heap behind the making of an error -/
abbrev mkH (H : Hp) (a dx C : Addr) (fs : List (Str × V)) : Hp := upd (upd (upd H a (exo a C none)) dx (exd dx fs)) a (exo a C (some dx))
theorem mk_facts {H : Hp} {a dx C : Addr} {fs : List (Str × V)} (na : H a = none) (nd : upd H a (exo a C none) dx = none) (ne : dx ≠ a) : Same H (mkH H a dx C fs) ∧ ExAt (mkH H a dx C fs) a C fs := by
  have nd' : H dx = none := by
    rw [upd_ne ne] at nd
    exact nd
  refine ⟨fun b o e => ?_, dx, upd_same, ?_⟩
  · show upd (upd (upd H a _) dx _) a _ b = _
    rw [upd_ne (ne_of_none e na), upd_ne (ne_of_none e nd'), upd_ne (ne_of_none e na)]
    exact e
  · show upd (upd (upd H a _) dx _) a _ dx = _
    rw [upd_ne ne]
    exact upd_same
/-- what one tuple of the list holds -/
def Item (Pg : Program) (w : World) (K : PySem.W.Frag) (mg : Str → Option Value) (base : Heap) (H : Hp) (t d C : Addr) (xs : List V) : Prop :=
  ∃ (m tw f c' : Addr) (L : Lam) (ns : List Str) (fs1 fs2 : List (Str × V)), H t = some (.tup [.ref m, .ref tw, .ref f, .ref d]) ∧ ExAt H m C fs1 ∧ ExAt H tw C fs2 ∧ H f = some (LamO f c' L) ∧ H c' = some (CodeO c' L.qual) ∧
    H d = some (.lst xs) ∧ LamOk Pg w K mg base 1 L ["e"] (spLm C ns) ∧ ns.map (fun n => fs1.lookup n) = xs.map some ∧ ns.map (fun n => fs2.lookup n) = xs.map some
section
variable {Pg : Program} {w : World} {K : PySem.W.Frag} {mg : Str → Option Value} {base : Heap} {H H' : Hp} {t d C : Addr} {xs : List V}
/-- what an item leans on: no list but its own, no table -/
theorem Item.keep (I : Item Pg w K mg base H t d C xs) (k : ∀ b o, H b = some o → (∀ ps, o ≠ .tbl ps) → ((∃ ys, o = .lst ys) → b = d) → H' b = some o) : Item Pg w K mg base H' t d C xs := by
  obtain ⟨m, tw, f, c', L, ns, fs1, fs2, h1, ⟨d1, e1, e2⟩, ⟨d2, e3, e4⟩, h4, h5, h6, h7, h8, h9⟩ := I
  have ex : ∀ (b : Addr) (φ : Heap → Prop), H b = some (.ext φ) → H' b = some (.ext φ) := fun b φ e =>
    k b _ e (fun ps z => by cases z) (fun ⟨ys, z⟩ => by cases z)
  exact ⟨m, tw, f, c', L, ns, fs1, fs2, k _ _ h1 (fun ps z => by cases z) (fun ⟨ys, z⟩ => by cases z), ⟨d1, ex _ _ e1, ex _ _ e2⟩, ⟨d2, ex _ _ e3, ex _ _ e4⟩, ex _ _ h4, ex _ _ h5,
    k _ _ h6 (fun ps z => by cases z) (fun _ => rfl), h7, h8, h9⟩
theorem Item.lp {l P : Addr} {ys : List V} {ps : Array Value} (I : Item Pg w K mg base H t d C xs) (hl : H l = some (.lst ys)) (hP : H P = some (.tbl ps)) (nd : d ≠ l) (k : KeepLP l P H H') : Item Pg w K mg base H' t d C xs :=
  I.keep fun b o e n1 n2 => k b o (fun z => by
    rw [z, hl] at e
    exact nd (by rw [← z]; exact (n2 ⟨ys, (Option.some.inj e).symm⟩).symm)) (fun z => by
    rw [z, hP] at e
    exact n1 ps (Option.some.inj e).symm) e
theorem Item.same (I : Item Pg w K mg base H t d C xs) (s : Same H H') : Item Pg w K mg base H' t d C xs := I.keep fun b o e _ _ => s b o e
end
/-! ### found.append((X(..), X(n=..), lambda e: [..], [..])) -/
def tIt (Pg : Program) (w : World) (K : PySem.W.Frag) (mg : Str → Option Value) (base : Heap) (P : Addr) (q : Str) (C : Addr) (js : List Nat) : TS := fun D σ H =>
  ∃ (l : Addr) (xs vals : List V), js.map (fun j => σ[j]?) = vals.map (fun v => some (some v)) ∧ σ[3]? = some (some (.ref l)) ∧ H l = some (.lst xs) ∧ xs.length ≤ 900 ∧ TabS H P q ∧
    ∀ (H' : Hp) (t d : Addr), KeepLP l P H H' → TabS H' P q → H' l = some (.lst (xs ++ [.ref t])) → Item Pg w K mg base H' t d C vals → d ≠ l → D.nx σ H'
theorem exkp {H H2 : Hp} {a C P : Addr} {q : Str} {fs : List (Str × V)} (x : ExAt H a C fs) (hT : TabS H P q) (k : KeepP P H H2) : ExAt H2 a C fs := by
  obtain ⟨ps, hP, _⟩ := hT
  obtain ⟨dx, e1, e2⟩ := x
  have ne : ∀ (b : Addr) (φ : Heap → Prop), H b = some (.ext φ) → b ≠ P := fun b φ e z => by
    rw [z, hP] at e
    cases e
  exact ⟨dx, k _ _ (ne _ _ e1) e1, k _ _ (ne _ _ e2) e2⟩
theorem tabAtL {H : Hp} {P l : Addr} {q : Str} {xs ys : List V} (hT : TabS H P q) (hl : H l = some (.lst xs)) : TabS (upd H l (.lst ys)) P q := by
  obtain ⟨ps, h1, h2, h3⟩ := hT
  refine ⟨ps, ?_, h2, fun pos cv hc => ?_⟩
  · rw [upd_ne (fun z => by rw [z, hl] at h1; cases h1)]
    exact h1
  · obtain ⟨c0, e1, e2⟩ := h3 pos cv hc
    refine ⟨c0, e1, ?_⟩
    rw [upd_ne (fun z => by rw [z, hl] at e2; cases e2)]
    exact e2
theorem look1 {n : Str} {v : V} : [n].map (fun m => List.lookup m [(n, v)]) = [v].map some := by
  show [List.lookup n [(n, v)]] = [some v]
  rw [lookup_put, if_pos rfl]
section
variable {X : Cx}
theorem PS.imp {st : Stmt} {t t' : TS} (p : PS X st t) (h : ∀ D σ H, t' D σ H → t D σ H) : PS X st t' := ⟨fun pins s σ H D I q => p.run pins s σ H D I (h D σ H q)⟩
end
section
variable {X : Cx} {c P fI : Addr} {fd : FuncData} {nX n : Str} {prm : Arguments} {scp : Scope} {a1 a2 b1 b2 b3 c1 c2 c3 c4 d1 d2 d3 lp e1 e2 f1 f2 f3 : Pos} {k2 : Nat}
theorem ps_item1 (S : ClsX X.K X.mg nX [n]) (F : FnOk X.prog X.w X.K X.mg X.base CX0 1 fI fd ["self", n] (spI1 X.K n)) (eI : fI = He.ma X.K (He.ga X.K nX) "__init__")
    (kb1 : KBn X.K fd ["self", n] 2 [] (fun us _ => us) (fun vs _ => vs)) (kb2 : KBn X.K fd ["self", n] 1 [n] (fun us ws => us ++ ws) (fun vs zs => vs ++ zs)) (hr : Room 2 X.A)
    (TB : TabB X.base X.mg c P) (hcode : X.env.code = .ref c) (hdef : defaultsOf prm X.env = ([], [])) (hcl : closureFor scp X.env = pure [])
    (lm : LamOk X.prog X.w X.K X.mg X.base 1 ⟨X.env.qual ++ "<lambda>", prm, .List [.Attribute (.Name "e" d1) n d2] d3, scp⟩ ["e"] (spLm (He.ga X.K nX) [n]))
    (hg : Gl X nX) (hN0 : X.N[0]? = some ("x" : Str)) (hN3 : X.N[3]? = some ("found" : Str)) (v0 : Vis X.env.scope "x") (v3 : Vis X.env.scope "found") (hdb : (nX == ("__debug__" : Str)) = false)
    (hline : (a2.endLine == f2.line) = true)
    (hsw : swapsWith (.Call (.Attribute (.Name "found" a1) "append" a2) [.Tuple [.Call (.Name nX b1) [.Name "x" b2] [] b3, .Call (.Name nX c1) [] [⟨some n, .Name "x" c2, c3⟩] c4,
      .Lambda prm (.List [.Attribute (.Name "e" d1) n d2] d3) scp lp, .List [.Name "x" e1] e2] k2 f1] [] f2) none f3.line X.env = pure false) :
    PS X (.Expr (.Call (.Attribute (.Name "found" a1) "append" a2) [.Tuple [.Call (.Name nX b1) [.Name "x" b2] [] b3, .Call (.Name nX c1) [] [⟨some n, .Name "x" c2, c3⟩] c4,
      .Lambda prm (.List [.Attribute (.Name "e" d1) n d2] d3) scp lp, .List [.Name "x" e1] e2] k2 f1] [] f2) f3)
      (tIt X.prog X.w X.K X.mg X.base P (X.env.qual ++ "<lambda>") (He.ga X.K nX) [0]) := by
  have iC := S.iC
  have tI := S.tI
  rw [← eI] at iC tI
  refine PS.imp (ps_expr (pe_bm PySem.F.plainAttrs_list PySem.F.slot_list_append PySem.F.type_list_append mt_append (pe_var hN3 v3 (by decide) (by decide))
    (pa_cons (pe_tup (pa_cons (pe_mkEp (n := 1) S.ox iC tI F hr hg S.g kb1 pass0 (by decide) (pa_cons (pe_var hN0 v0 (by decide) (by decide)) pa_nil) hdb)
      (pa_cons (pe_mkE0 S.ox iC tI F hr hg S.g kb2 pass0 (pk_cons (pe_var hN0 v0 (by decide) (by decide)) pk_nil) (by rfl) (by rfl) hdb (by rfl))
      (pa_cons (pe_lamv TB hcode hdef hcl) (pa_cons (pe_lst (pa_cons (pe_var hN0 v0 (by decide) (by decide)) pa_nil)) pa_nil))))) pa_nil) (by rfl) (by rfl) hline) hsw) ?_
  rintro D σ H ⟨l, xs, vals, hj, h3, hl, hz, hT, k⟩
  obtain ⟨v, rfl, hx⟩ : ∃ v, vals = [v] ∧ σ[0]? = some (some v) := by
    have hlen := congrArg List.length hj
    match vals, hlen with
    | [v], _ => exact ⟨v, rfl, by simpa using hj⟩
  refine ⟨_, h3, .inl ⟨rfl, _, SqL.of hl⟩, v, hx, rfl, rfl, fun a na => ⟨a, _, v, rfl, S.ox, S.no n (by simp), upd_same, fun dx ndx nda => ⟨rfl, ?_⟩⟩⟩
  obtain ⟨s1, x1⟩ := mk_facts (fs := [(n, v)]) na ndx nda
  refine ⟨v, hx, rfl, rfl, fun b nb => ⟨b, _, v, rfl, S.ox, S.no n (by simp), upd_same, fun dy ndy ndb => ⟨rfl, ?_⟩⟩⟩
  obtain ⟨s2, x2⟩ := mk_facts (fs := [(n, v)]) nb ndy ndb
  refine ⟨hT.ext (s1.trans s2), fun f c' H2 kp T2 nf hf hc => ⟨v, hx, (show 1 ≤ sizeLine from by decide), fun d nd => ⟨(show 4 ≤ sizeLine from by decide), fun t nt => ?_⟩⟩⟩
  obtain ⟨ps, hP, _⟩ := id hT
  have T1 := hT.ext (s1.trans s2)
  have lP : l ≠ P := fun z => by
    rw [z, hP] at hl
    cases hl
  have hl1 := (s1.trans s2) l _ hl
  have hl2 := kp l _ lP hl1
  have dl : d ≠ l := (ne_of_none hl2 nd).symm
  have sd : Same H2 (upd (upd H2 d (.lst [v])) t (.tup [.ref a, .ref b, .ref f, .ref d])) := (same_new nd).trans (same_new nt)
  have hl3 := sd l _ hl2
  have td : t ≠ d := (ne_of_none upd_same nt).symm
  have it : Item X.prog X.w X.K X.mg X.base (upd (upd H2 d (.lst [v])) t (.tup [.ref a, .ref b, .ref f, .ref d])) t d (He.ga X.K nX) [v] :=
    ⟨a, b, f, c', _, [n], _, _, upd_same, (exkp (x1.same s2) T1 kp).same sd, (exkp x2 T1 kp).same sd, sd _ _ hf, sd _ _ hc, by rw [upd_ne td.symm]; exact upd_same, lm, look1, look1⟩
  refine ⟨l, xs, _, rfl, rfl, hl3, small1000 (by omega), ?_⟩
  refine k _ t d (fun b' o n1 n2 e => ?_) (tabAtL (T2.ext sd) hl3) upd_same (it.keep fun b' o e n1 n2 => ?_) dl
  · rw [upd_ne n1]
    exact sd _ _ (kp _ _ n2 ((s1.trans s2) _ _ e))
  · rw [upd_ne]
    · exact e
    · intro z
      rw [z, hl3] at e
      exact dl (by rw [← z]; exact (n2 ⟨xs, (Option.some.inj e).symm⟩).symm)
end
theorem look2 {n m : Str} {v u : V} (h : n ≠ m) : [n, m].map (fun k => List.lookup k [(m, u), (n, v)]) = [v, u].map some := by
  show [List.lookup n [(m, u), (n, v)], List.lookup m [(m, u), (n, v)]] = [some v, some u]
  rw [lookup_put, if_neg h, lookup_put, if_pos rfl, lookup_put, if_pos rfl]
theorem mk_facts2 {H : Hp} {a dx C : Addr} {fs gs : List (Str × V)} (na : H a = none) (nd : upd H a (exo a C none) dx = none) (ne : dx ≠ a) :
    Same H (upd (mkH H a dx C fs) dx (exd dx gs)) ∧ ExAt (upd (mkH H a dx C fs) dx (exd dx gs)) a C gs := by
  obtain ⟨s, _⟩ := mk_facts (fs := fs) na nd ne
  have nd' : H dx = none := by
    rw [upd_ne ne] at nd
    exact nd
  refine ⟨fun b o e => ?_, dx, ?_, upd_same⟩
  · rw [upd_ne (ne_of_none e nd')]
    exact s _ _ e
  · rw [upd_ne ne.symm]
    exact upd_same
section
variable {X : Cx} {c P fI : Addr} {fd : FuncData} {nX n m : Str} {prm : Arguments} {scp : Scope} {a1 a2 b1 b2 b3 b4 c1 c2 c3 c4 c5 c6 d1 d2 d3 d4 d5 lp e1 e2 e3 f1 f2 f3 : Pos} {k2 : Nat}
theorem ps_item2 (S : ClsX X.K X.mg nX [n, m]) (F : FnOk X.prog X.w X.K X.mg X.base CX0 1 fI fd ["self", n, m] (spI2 X.K n m)) (eI : fI = He.ma X.K (He.ga X.K nX) "__init__")
    (kb1 : KBn X.K fd ["self", n, m] 3 [] (fun us _ => us) (fun vs _ => vs)) (kb2 : KBn X.K fd ["self", n, m] 1 [m, n] (fun us ws => us ++ ws.reverse) (fun vs zs => vs ++ zs.reverse)) (hr : Room 2 X.A)
    (TB : TabB X.base X.mg c P) (hcode : X.env.code = .ref c) (hdef : defaultsOf prm X.env = ([], [])) (hcl : closureFor scp X.env = pure [])
    (lm : LamOk X.prog X.w X.K X.mg X.base 1 ⟨X.env.qual ++ "<lambda>", prm, .List [.Attribute (.Name "e" d1) n d2, .Attribute (.Name "e" d4) m d5] d3, scp⟩ ["e"] (spLm (He.ga X.K nX) [n, m]))
    (hg : Gl X nX) (hN0 : X.N[0]? = some ("x" : Str)) (hN1 : X.N[1]? = some ("y" : Str)) (hN3 : X.N[3]? = some ("found" : Str)) (v0 : Vis X.env.scope "x") (v1 : Vis X.env.scope "y") (v3 : Vis X.env.scope "found") (nm : n ≠ m) (hdb : (nX == ("__debug__" : Str)) = false)
    (hline : (a2.endLine == f2.line) = true)
    (hsw : swapsWith (.Call (.Attribute (.Name "found" a1) "append" a2) [.Tuple [.Call (.Name nX b1) [.Name "x" b2, .Name "y" b4] [] b3, .Call (.Name nX c1) [] [⟨some m, .Name "y" c5, c6⟩, ⟨some n, .Name "x" c2, c3⟩] c4,
      .Lambda prm (.List [.Attribute (.Name "e" d1) n d2, .Attribute (.Name "e" d4) m d5] d3) scp lp, .List [.Name "x" e1, .Name "y" e3] e2] k2 f1] [] f2) none f3.line X.env = pure false) :
    PS X (.Expr (.Call (.Attribute (.Name "found" a1) "append" a2) [.Tuple [.Call (.Name nX b1) [.Name "x" b2, .Name "y" b4] [] b3, .Call (.Name nX c1) [] [⟨some m, .Name "y" c5, c6⟩, ⟨some n, .Name "x" c2, c3⟩] c4,
      .Lambda prm (.List [.Attribute (.Name "e" d1) n d2, .Attribute (.Name "e" d4) m d5] d3) scp lp, .List [.Name "x" e1, .Name "y" e3] e2] k2 f1] [] f2) f3)
      (tIt X.prog X.w X.K X.mg X.base P (X.env.qual ++ "<lambda>") (He.ga X.K nX) [0, 1]) := by
  have iC := S.iC
  have tI := S.tI
  rw [← eI] at iC tI
  refine PS.imp (ps_expr (pe_bm PySem.F.plainAttrs_list PySem.F.slot_list_append PySem.F.type_list_append mt_append (pe_var hN3 v3 (by decide) (by decide))
    (pa_cons (pe_tup (pa_cons (pe_mkEp (n := 2) S.ox iC tI F hr hg S.g kb1 pass0 (by decide) (pa_cons (pe_var hN0 v0 (by decide) (by decide)) (pa_cons (pe_var hN1 v1 (by decide) (by decide)) pa_nil)) hdb)
      (pa_cons (pe_mkE0 S.ox iC tI F hr hg S.g kb2 pass0 (pk_cons (pe_var hN1 v1 (by decide) (by decide)) (pk_cons (pe_var hN0 v0 (by decide) (by decide)) pk_nil)) (by rfl) (by rfl) hdb (by rfl))
      (pa_cons (pe_lamv TB hcode hdef hcl) (pa_cons (pe_lst (pa_cons (pe_var hN0 v0 (by decide) (by decide)) (pa_cons (pe_var hN1 v1 (by decide) (by decide)) pa_nil))) pa_nil))))) pa_nil) (by rfl) (by rfl) hline) hsw) ?_
  rintro D σ H ⟨l, xs, vals, hj, h3, hl, hz, hT, k⟩
  obtain ⟨v, u, rfl, hx, hy⟩ : ∃ v u, vals = [v, u] ∧ σ[0]? = some (some v) ∧ σ[1]? = some (some u) := by
    have hlen := congrArg List.length hj
    match vals, hlen with
    | [v, u], _ =>
      have q : σ[0]? = some (some v) ∧ σ[1]? = some (some u) := by simpa using hj
      exact ⟨v, u, rfl, q.1, q.2⟩
  refine ⟨_, h3, .inl ⟨rfl, _, SqL.of hl⟩, v, hx, u, hy, rfl, rfl, fun a na => ⟨a, _, v, u, rfl, S.ox, S.no n (by simp), S.no m (by simp), upd_same, fun dx ndx nda => ⟨rfl, ?_⟩⟩⟩
  obtain ⟨s1, x1⟩ := mk_facts2 (fs := [(n, v)]) (gs := [(m, u), (n, v)]) na ndx nda
  refine ⟨u, hy, v, hx, rfl, rfl, fun b nb => ⟨b, _, v, u, rfl, S.ox, S.no n (by simp), S.no m (by simp), upd_same, fun dy ndy ndb => ⟨rfl, ?_⟩⟩⟩
  obtain ⟨s2, x2⟩ := mk_facts2 (fs := [(n, v)]) (gs := [(m, u), (n, v)]) nb ndy ndb
  refine ⟨hT.ext (s1.trans s2), fun f c' H2 kp T2 nf hf hc => ⟨v, hx, u, hy, (show 2 ≤ sizeLine from by decide), fun d nd => ⟨(show 4 ≤ sizeLine from by decide), fun t nt => ?_⟩⟩⟩
  obtain ⟨ps, hP, _⟩ := id hT
  have T1 := hT.ext (s1.trans s2)
  have lP : l ≠ P := fun z => by
    rw [z, hP] at hl
    cases hl
  have hl1 := (s1.trans s2) l _ hl
  have hl2 := kp l _ lP hl1
  have dl : d ≠ l := (ne_of_none hl2 nd).symm
  have sd : Same H2 (upd (upd H2 d (.lst [v, u])) t (.tup [.ref a, .ref b, .ref f, .ref d])) := (same_new nd).trans (same_new nt)
  have hl3 := sd l _ hl2
  have td : t ≠ d := (ne_of_none upd_same nt).symm
  have it : Item X.prog X.w X.K X.mg X.base (upd (upd H2 d (.lst [v, u])) t (.tup [.ref a, .ref b, .ref f, .ref d])) t d (He.ga X.K nX) [v, u] :=
    ⟨a, b, f, c', _, [n, m], _, _, upd_same, (exkp (x1.same s2) T1 kp).same sd, (exkp x2 T1 kp).same sd, sd _ _ hf, sd _ _ hc, by rw [upd_ne td.symm]; exact upd_same, lm, look2 nm, look2 nm⟩
  refine ⟨l, xs, _, rfl, rfl, hl3, small1000 (by omega), ?_⟩
  refine k _ t d (fun b' o n1 n2 e => ?_) (tabAtL (T2.ext sd) hl3) upd_same (it.keep fun b' o e n1 n2 => ?_) dl
  · rw [upd_ne n1]
    exact sd _ _ (kp _ _ n2 ((s1.trans s2) _ _ e))
  · rw [upd_ne]
    · exact e
    · intro z
      rw [z, hl3] at e
      exact dl (by rw [← z]; exact (n2 ⟨xs, (Option.some.inj e).symm⟩).symm)
end
end Kc
namespace Kc
open PySem PySem.Spec PyProof.Rows L2 Kx Kl LamX
/-- one class of errors, of one field; of two -/
def CB1 (Pg : Program) (w : World) (K : PySem.W.Frag) (mg : Str → Option Value) (base : Heap) (x n : Str) : Prop :=
  ClsX K mg x [n] ∧ ∃ fd : FuncData, FnOk Pg w K mg base CX0 1 (He.ma K (He.ga K x) "__init__") fd ["self", n] (spI1 K n) ∧
    KBn K fd ["self", n] 2 [] (fun us _ => us) (fun vs _ => vs) ∧ KBn K fd ["self", n] 1 [n] (fun us ws => us ++ ws) (fun vs zs => vs ++ zs)
def CB2 (Pg : Program) (w : World) (K : PySem.W.Frag) (mg : Str → Option Value) (base : Heap) (x n m : Str) : Prop :=
  ClsX K mg x [n, m] ∧ n ≠ m ∧ ∃ fd : FuncData, FnOk Pg w K mg base CX0 1 (He.ma K (He.ga K x) "__init__") fd ["self", n, m] (spI2 K n m) ∧
    KBn K fd ["self", n, m] 3 [] (fun us _ => us) (fun vs _ => vs) ∧ KBn K fd ["self", n, m] 1 [m, n] (fun us ws => us ++ ws.reverse) (fun vs zs => vs ++ zs.reverse)
abbrev scE : Scope := { kind := .function, names := [("e", .local)], isGenerator := false, isCoroutine := false, more := [] }
abbrev prE (p : Pos) : Arguments := { posonlyargs := [], args := [{ arg := "e", annotation := none, pos := p }], vararg := none, kwonlyargs := [], kw_defaults := [], kwarg := none, defaults := [] }
theorem scE_ok : FnScope ["e"] ["e"] scE := ⟨rfl, rfl, rfl, by decide +kernel, rfl, by decide +kernel, by decide +kernel⟩
theorem bindE {q : Str} {pp : Pos} {bd : Expr} (pm : Value) (c' : Addr) (ctv : Value) (us : List Value) (h : us.length = ["e"].length) :
    bindArgs (PySem.W.kla_fn "<lambda>" q (prE pp) bd scE [] pm (.ref c') ctv) ⟨us, []⟩ = pure ((["e"] : List Str).zip us) := match us, h with
  | [_], _ => rfl
section
variable {X : Cx} {c P : Addr} {nX n m : Str} {a1 a2 b1 b2 b3 b4 c1 c2 c3 c4 c5 c6 d1 d2 d3 d4 d5 lp e1 e2 e3 f1 f2 f3 pp : Pos} {k2 : Nat}
theorem ps_it1 (B : CB1 X.prog X.w X.K X.mg X.base nX n) (hr : Room 2 X.A) (TB : TabB X.base X.mg c P) (hcode : X.env.code = .ref c)
    (hg : Gl X nX) (hN0 : X.N[0]? = some ("x" : Str)) (hN3 : X.N[3]? = some ("found" : Str)) (v0 : Vis X.env.scope "x") (v3 : Vis X.env.scope "found") (hdb : (nX == ("__debug__" : Str)) = false) (hline : (a2.endLine == f2.line) = true) :
    PS X (.Expr (.Call (.Attribute (.Name "found" a1) "append" a2) [.Tuple [.Call (.Name nX b1) [.Name "x" b2] [] b3, .Call (.Name nX c1) [] [⟨some n, .Name "x" c2, c3⟩] c4,
      .Lambda (prE pp) (.List [.Attribute (.Name "e" d1) n d2] d3) scE lp, .List [.Name "x" e1] e2] k2 f1] [] f2) f3)
      (tIt X.prog X.w X.K X.mg X.base P (X.env.qual ++ "<lambda>") (He.ga X.K nX) [0]) := by
  obtain ⟨S, fd, F, kb1, kb2⟩ := B
  exact ps_item1 S F rfl kb1 kb2 hr TB hcode rfl rfl (lam1 rfl scE_ok rfl bindE S.xf (S.no n (by simp))) hg hN0 hN3 v0 v3 hdb hline (by rfl)
theorem ps_it2 (B : CB2 X.prog X.w X.K X.mg X.base nX n m) (hr : Room 2 X.A) (TB : TabB X.base X.mg c P) (hcode : X.env.code = .ref c)
    (hg : Gl X nX) (hN0 : X.N[0]? = some ("x" : Str)) (hN1 : X.N[1]? = some ("y" : Str)) (hN3 : X.N[3]? = some ("found" : Str)) (v0 : Vis X.env.scope "x") (v1 : Vis X.env.scope "y") (v3 : Vis X.env.scope "found") (hdb : (nX == ("__debug__" : Str)) = false) (hline : (a2.endLine == f2.line) = true) :
    PS X (.Expr (.Call (.Attribute (.Name "found" a1) "append" a2) [.Tuple [.Call (.Name nX b1) [.Name "x" b2, .Name "y" b4] [] b3, .Call (.Name nX c1) [] [⟨some m, .Name "y" c5, c6⟩, ⟨some n, .Name "x" c2, c3⟩] c4,
      .Lambda (prE pp) (.List [.Attribute (.Name "e" d1) n d2, .Attribute (.Name "e" d4) m d5] d3) scE lp, .List [.Name "x" e1, .Name "y" e3] e2] k2 f1] [] f2) f3)
      (tIt X.prog X.w X.K X.mg X.base P (X.env.qual ++ "<lambda>") (He.ga X.K nX) [0, 1]) := by
  obtain ⟨S, nm, fd, F, kb1, kb2⟩ := B
  exact ps_item2 S F rfl kb1 kb2 hr TB hcode rfl rfl (lam2 rfl scE_ok rfl bindE S.xf (S.no n (by simp)) (S.no m (by simp))) hg hN0 hN1 hN3 v0 v1 v3 nm hdb hline (by rfl)
end
/-! ### the list that grows -/
def valsB (x y : V) (b : Bool) : List V := if b then [x, y] else [x]
abbrev ItF (Pg : Program) (w : World) (K : PySem.W.Frag) (mg : Str → Option Value) (base : Heap) (H : Hp) (x y : V) (t : Addr × Addr) (c : Str × Bool) : Prop :=
  Item Pg w K mg base H t.1 t.2 (He.ga K c.1) (valsB x y c.2)
abbrev Items (Pg : Program) (w : World) (K : PySem.W.Frag) (mg : Str → Option Value) (base : Heap) (H : Hp) (x y : V) (ts : List (Addr × Addr)) (cs : List (Str × Bool)) : Prop :=
  Paired (ItF Pg w K mg base H x y) ts cs
theorem paired_snoc {α β : Type} {F : α → β → Prop} {a : α} {b : β} (h : F a b) : ∀ {l1 : List α} {l2 : List β}, Paired F l1 l2 → Paired F (l1 ++ [a]) (l2 ++ [b])
  | _, _, .nil => .cons h .nil
  | _, _, .cons r t => .cons r (paired_snoc h t)
theorem paired_app {α β : Type} {F : α → β → Prop} : ∀ {l1 l3 : List α} {l2 l4 : List β}, Paired F l1 l2 → Paired F l3 l4 → Paired F (l1 ++ l3) (l2 ++ l4)
  | _, _, _, _, .nil, s => s
  | _, _, _, _, .cons r t, s => .cons r (paired_app t s)
theorem paired_mem {α β : Type} {F G : α → β → Prop} : ∀ {l1 : List α} {l2 : List β}, Paired F l1 l2 → (∀ a b, a ∈ l1 → F a b → G a b) → Paired G l1 l2
  | _, _, .nil, _ => .nil
  | _, _, .cons r t, f => .cons (f _ _ (by simp) r) (paired_mem t fun a b h => f a b (by simp [h]))
structure Grown (Pg : Program) (w : World) (K : PySem.W.Frag) (mg : Str → Option Value) (base : Heap) (P : Addr) (q : Str) (x y : V) (H0 H : Hp) (l : Addr) (ts : List (Addr × Addr)) (cs : List (Str × Bool)) : Prop where
  kp : KeepP P H0 H
  nl : H0 l = none
  tb : TabS H P q
  hl : H l = some (.lst (ts.map fun t => V.ref t.1))
  ne : ∀ t ∈ ts, t.2 ≠ l
  it : Items Pg w K mg base H x y ts cs
  few : ts.length ≤ 100
section
variable {Pg : Program} {w : World} {K : PySem.W.Frag} {mg : Str → Option Value} {base : Heap} {P l : Addr} {q nX : Str} {x y z : V} {H0 H : Hp} {ts : List (Addr × Addr)} {cs : List (Str × Bool)} {D : Ends}
theorem grow (G : Grown Pg w K mg base P q x y H0 H l ts cs) (b : Bool) {js : List Nat} {σ : L2.St} (hj : js.map (fun j => σ[j]?) = (valsB x y b).map (fun v => some (some v))) (h3 : σ[3]? = some (some (.ref l))) (hz : ts.length < 100)
    (k : ∀ (H' : Hp) (ts' : List (Addr × Addr)), ts'.length = ts.length + 1 → Grown Pg w K mg base P q x y H0 H' l ts' (cs ++ [(nX, b)]) → D.nx σ H') : tIt Pg w K mg base P q (He.ga K nX) js D σ H := by
  refine ⟨l, _, valsB x y b, hj, h3, G.hl, by rw [List.length_map]; have := G.few; omega, G.tb, fun H' t d kp tb hl it nd => ?_⟩
  obtain ⟨ps, hP, _⟩ := G.tb
  refine k H' (ts ++ [(t, d)]) (by simp) ⟨fun b' o n e => ?_, G.nl, tb, by rw [hl]; simp, fun t' ht => ?_, paired_snoc (F := ItF Pg w K mg base H' x y) it (paired_mem G.it fun t' c' hm i => Item.lp i G.hl hP (G.ne _ hm) kp), by rw [List.length_append]; simp; omega⟩
  · exact kp b' o (ne_of_none e G.nl) n (G.kp b' o n e)
  · rcases List.mem_append.mp ht with e | e
    · exact G.ne _ e
    · have e' := List.mem_singleton.mp e
      rw [e']
      exact nd
end
end Kc
namespace Kc
open PySem PySem.Spec PyProof.Rows L2 Kx Kl LamX
abbrev top (i : Nat) : Stmt := Kd.top i
/-- all classes of errors -/
structure AllB (Pg : Program) (w : World) (K : PySem.W.Frag) (mg : Str → Option Value) (base : Heap) : Prop where
  b2 : CB1 Pg w K mg base "AsksOn" "many"
  b3 : CB1 Pg w K mg base "BadAllotment" "thing"
  b4 : CB1 Pg w K mg base "BadAsk" "thing"
  b5 : CB1 Pg w K mg base "BadAsker" "thing"
  b6 : CB1 Pg w K mg base "BadBounds" "thing"
  b7 : CB1 Pg w K mg base "BadDeed" "thing"
  b8 : CB1 Pg w K mg base "BadGivers" "index"
  b9 : CB1 Pg w K mg base "BadKnown" "thing"
  b10 : CB1 Pg w K mg base "BadLies" "thing"
  b11 : CB1 Pg w K mg base "BadLot" "index"
  b12 : CB1 Pg w K mg base "BadLots" "thing"
  b13 : CB1 Pg w K mg base "BadMarket" "thing"
  b14 : CB1 Pg w K mg base "BadName" "thing"
  b15 : CB1 Pg w K mg base "BadNeeds" "index"
  b16 : CB1 Pg w K mg base "BadNotice" "thing"
  b17 : CB1 Pg w K mg base "BadNumber" "thing"
  b18 : CB1 Pg w K mg base "BadPairing" "thing"
  b19 : CB1 Pg w K mg base "BadPairings" "index"
  b20 : CB1 Pg w K mg base "BadPaper" "thing"
  b21 : CB1 Pg w K mg base "BadPapers" "index"
  b22 : CB1 Pg w K mg base "BadPeople" "index"
  b23 : CB1 Pg w K mg base "BadPlace" "thing"
  b24 : CB1 Pg w K mg base "BadQuestion" "thing"
  b25 : CB1 Pg w K mg base "BadResult" "thing"
  b26 : CB1 Pg w K mg base "BadRow" "index"
  b27 : CB1 Pg w K mg base "BadRule" "thing"
  b28 : CB1 Pg w K mg base "BadSession" "thing"
  b29 : CB1 Pg w K mg base "BadSides" "thing"
  b30 : CB1 Pg w K mg base "BadSteps" "thing"
  b31 : CB2 Pg w K mg base "BadText" "line" "sign"
  b32 : CB1 Pg w K mg base "BadThings" "thing"
  b33 : CB1 Pg w K mg base "BadWish" "thing"
  b34 : CB1 Pg w K mg base "BadWishes" "thing"
  b35 : CB2 Pg w K mg base "HasTie" "one" "other"
  b36 : CB1 Pg w K mg base "InUse" "question"
  b37 : CB1 Pg w K mg base "IsWatched" "question"
  b38 : CB1 Pg w K mg base "NoBetterRow" "thing"
  b39 : CB1 Pg w K mg base "NoCount" "thing"
  b40 : CB1 Pg w K mg base "NoFirm" "ring"
  b41 : CB1 Pg w K mg base "NoPerson" "thing"
  b42 : CB1 Pg w K mg base "NoRule" "thing"
  b43 : CB2 Pg w K mg base "NoTie" "one" "other"
  b44 : CB1 Pg w K mg base "NotFirm" "pairing"
  b45 : CB1 Pg w K mg base "NotWatched" "question"
  b46 : CB2 Pg w K mg base "Stays" "one" "other"
  b47 : CB2 Pg w K mg base "TurnsRound" "person" "ring"
  b48 : CB2 Pg w K mg base "WouldChange" "question" "why"
abbrev qOf (x : Str) : Str := (envOfC x { kind := .function, names := [], isGenerator := false, isCoroutine := false } 0 0 .none).qual ++ "<lambda>"
def spMade (Pg : Program) (w : World) (K : PySem.W.Frag) (mg : Str → Option Value) (base : Heap) (P : Addr) (q : Str) (cs : List (Str × Bool)) : Sp := fun vs H Q _ => ∃ x y z : V, vs = [x, y, z] ∧ TabS H P q ∧
  ∀ (H' : Hp) (l : Addr) (ts : List (Addr × Addr)), Grown Pg w K mg base P q x y H H' l ts cs → Q (.ref l) H'
section
variable {Pg : Program} {w : World} {K : PySem.W.Frag} {mg : Str → Option Value} {base : Heap}
def cs_a : List (Str × Bool) := [("AsksOn", false), ("BadAllotment", false), ("BadAsk", false), ("BadAsker", false), ("BadBounds", false), ("BadDeed", false), ("BadGivers", false), ("BadKnown", false), ("BadLies", false), ("BadLot", false), ("BadLots", false), ("BadMarket", false), ("BadName", false), ("BadNeeds", false), ("BadNotice", false), ("BadNumber", false), ("BadPairing", false), ("BadPairings", false)]
theorem sc_a : FnScope ["x", "y", "z", "found"] ["x", "y", "z"] (defScope (top 53)) := ⟨rfl, rfl, rfl, by decide +kernel, rfl, by decide +kernel, by decide +kernel⟩
theorem ok__law_made_a {f : Addr} {fd : FuncData} (F : Fun K "_law_made_a" "_law_made_a" (top 53) f fd) (hf : f = He.fAd K ("_law_made_a", none)) (TB : TabB base mg (He.cT K ("_law_made_a", none)).1 (He.cT K ("_law_made_a", none)).2) (B : AllB Pg w K mg base) :
    FnOk Pg w K mg base CX0 3 f fd ["x", "y", "z"] (spMade Pg w K mg base (He.cT K ("_law_made_a", none)).2 (qOf "_law_made_a") cs_a) := by
  obtain ⟨oc, od, kV, doc, pm, an, cdv, ct, osl, rfl, lk, hcd⟩ := F.ex
  obtain ⟨c, rfl⟩ := He.codeIn_ref hcd
  have ec : He.codeOf K ("_law_made_a", none) = c := He.codeOf_eq (by rw [← hf]; exact lk) rfl
  refine fn_of lk hcd sc_a (fun vs H Q E h => ?_) (fun A outer s H vs Q E hr h => ?_)
  · obtain ⟨x, y, z, rfl, _⟩ := h
    rfl
  · obtain ⟨x, y, z, rfl, tb, k⟩ := h
    have TB' : TabB base mg c (He.cT K ("_law_made_a", none)).2 := by
      rw [← ec]
      exact TB
    generalize (He.cT K ("_law_made_a", none)).2 = P at TB' tb k
    refine ⟨_, PSs.nox (pss_cons (ps_set (i := 3) sc_a.nd rfl (Or.inl rfl) (pe_lst pa_nil))
      (pss_cons (ps_it1 B.b2 hr TB' rfl rfl rfl rfl (Or.inl rfl) (Or.inl rfl) rfl rfl)
      (pss_cons (ps_it1 B.b3 hr TB' rfl rfl rfl rfl (Or.inl rfl) (Or.inl rfl) rfl rfl)
      (pss_cons (ps_it1 B.b4 hr TB' rfl rfl rfl rfl (Or.inl rfl) (Or.inl rfl) rfl rfl)
      (pss_cons (ps_it1 B.b5 hr TB' rfl rfl rfl rfl (Or.inl rfl) (Or.inl rfl) rfl rfl)
      (pss_cons (ps_it1 B.b6 hr TB' rfl rfl rfl rfl (Or.inl rfl) (Or.inl rfl) rfl rfl)
      (pss_cons (ps_it1 B.b7 hr TB' rfl rfl rfl rfl (Or.inl rfl) (Or.inl rfl) rfl rfl)
      (pss_cons (ps_it1 B.b8 hr TB' rfl rfl rfl rfl (Or.inl rfl) (Or.inl rfl) rfl rfl)
      (pss_cons (ps_it1 B.b9 hr TB' rfl rfl rfl rfl (Or.inl rfl) (Or.inl rfl) rfl rfl)
      (pss_cons (ps_it1 B.b10 hr TB' rfl rfl rfl rfl (Or.inl rfl) (Or.inl rfl) rfl rfl)
      (pss_cons (ps_it1 B.b11 hr TB' rfl rfl rfl rfl (Or.inl rfl) (Or.inl rfl) rfl rfl)
      (pss_cons (ps_it1 B.b12 hr TB' rfl rfl rfl rfl (Or.inl rfl) (Or.inl rfl) rfl rfl)
      (pss_cons (ps_it1 B.b13 hr TB' rfl rfl rfl rfl (Or.inl rfl) (Or.inl rfl) rfl rfl)
      (pss_cons (ps_it1 B.b14 hr TB' rfl rfl rfl rfl (Or.inl rfl) (Or.inl rfl) rfl rfl)
      (pss_cons (ps_it1 B.b15 hr TB' rfl rfl rfl rfl (Or.inl rfl) (Or.inl rfl) rfl rfl)
      (pss_cons (ps_it1 B.b16 hr TB' rfl rfl rfl rfl (Or.inl rfl) (Or.inl rfl) rfl rfl)
      (pss_cons (ps_it1 B.b17 hr TB' rfl rfl rfl rfl (Or.inl rfl) (Or.inl rfl) rfl rfl)
      (pss_cons (ps_it1 B.b18 hr TB' rfl rfl rfl rfl (Or.inl rfl) (Or.inl rfl) rfl rfl)
      (pss_cons (ps_it1 B.b19 hr TB' rfl rfl rfl rfl (Or.inl rfl) (Or.inl rfl) rfl rfl)
      (pss_one (ps_ret (pv 3)))))))))))))))))))))), ?_⟩
    refine ⟨Nat.zero_le _, fun l hl => ?_⟩
    have G0 : Grown Pg w K mg base P (qOf "_law_made_a") x y H (upd H l (.lst [])) l [] [] := ⟨.new hl, hl, tb.ext (same_new hl), upd_same, fun t ht => absurd ht (by simp), .nil, by simp⟩
    have n0 : ([] : List (Addr × Addr)).length = 0 := rfl
    refine grow G0 false rfl rfl (by omega) fun H1 ts1 n1 G1 => ?_
    refine grow G1 false rfl rfl (by omega) fun H2 ts2 n2 G2 => ?_
    refine grow G2 false rfl rfl (by omega) fun H3 ts3 n3 G3 => ?_
    refine grow G3 false rfl rfl (by omega) fun H4 ts4 n4 G4 => ?_
    refine grow G4 false rfl rfl (by omega) fun H5 ts5 n5 G5 => ?_
    refine grow G5 false rfl rfl (by omega) fun H6 ts6 n6 G6 => ?_
    refine grow G6 false rfl rfl (by omega) fun H7 ts7 n7 G7 => ?_
    refine grow G7 false rfl rfl (by omega) fun H8 ts8 n8 G8 => ?_
    refine grow G8 false rfl rfl (by omega) fun H9 ts9 n9 G9 => ?_
    refine grow G9 false rfl rfl (by omega) fun H10 ts10 n10 G10 => ?_
    refine grow G10 false rfl rfl (by omega) fun H11 ts11 n11 G11 => ?_
    refine grow G11 false rfl rfl (by omega) fun H12 ts12 n12 G12 => ?_
    refine grow G12 false rfl rfl (by omega) fun H13 ts13 n13 G13 => ?_
    refine grow G13 false rfl rfl (by omega) fun H14 ts14 n14 G14 => ?_
    refine grow G14 false rfl rfl (by omega) fun H15 ts15 n15 G15 => ?_
    refine grow G15 false rfl rfl (by omega) fun H16 ts16 n16 G16 => ?_
    refine grow G16 false rfl rfl (by omega) fun H17 ts17 n17 G17 => ?_
    refine grow G17 false rfl rfl (by omega) fun H18 ts18 n18 G18 => ?_
    exact ⟨_, rfl, k _ l _ G18⟩
def cs_b : List (Str × Bool) := [("BadPaper", false), ("BadPapers", false), ("BadPeople", false), ("BadPlace", false), ("BadQuestion", false), ("BadResult", false), ("BadRow", false), ("BadRule", false), ("BadSession", false), ("BadSides", false), ("BadSteps", false), ("BadText", true), ("BadThings", false), ("BadWish", false), ("BadWishes", false), ("HasTie", true), ("InUse", false), ("IsWatched", false)]
theorem sc_b : FnScope ["x", "y", "z", "found"] ["x", "y", "z"] (defScope (top 54)) := ⟨rfl, rfl, rfl, by decide +kernel, rfl, by decide +kernel, by decide +kernel⟩
theorem ok__law_made_b {f : Addr} {fd : FuncData} (F : Fun K "_law_made_b" "_law_made_b" (top 54) f fd) (hf : f = He.fAd K ("_law_made_b", none)) (TB : TabB base mg (He.cT K ("_law_made_b", none)).1 (He.cT K ("_law_made_b", none)).2) (B : AllB Pg w K mg base) :
    FnOk Pg w K mg base CX0 3 f fd ["x", "y", "z"] (spMade Pg w K mg base (He.cT K ("_law_made_b", none)).2 (qOf "_law_made_b") cs_b) := by
  obtain ⟨oc, od, kV, doc, pm, an, cdv, ct, osl, rfl, lk, hcd⟩ := F.ex
  obtain ⟨c, rfl⟩ := He.codeIn_ref hcd
  have ec : He.codeOf K ("_law_made_b", none) = c := He.codeOf_eq (by rw [← hf]; exact lk) rfl
  refine fn_of lk hcd sc_b (fun vs H Q E h => ?_) (fun A outer s H vs Q E hr h => ?_)
  · obtain ⟨x, y, z, rfl, _⟩ := h
    rfl
  · obtain ⟨x, y, z, rfl, tb, k⟩ := h
    have TB' : TabB base mg c (He.cT K ("_law_made_b", none)).2 := by
      rw [← ec]
      exact TB
    generalize (He.cT K ("_law_made_b", none)).2 = P at TB' tb k
    refine ⟨_, PSs.nox (pss_cons (ps_set (i := 3) sc_b.nd rfl (Or.inl rfl) (pe_lst pa_nil))
      (pss_cons (ps_it1 B.b20 hr TB' rfl rfl rfl rfl (Or.inl rfl) (Or.inl rfl) rfl rfl)
      (pss_cons (ps_it1 B.b21 hr TB' rfl rfl rfl rfl (Or.inl rfl) (Or.inl rfl) rfl rfl)
      (pss_cons (ps_it1 B.b22 hr TB' rfl rfl rfl rfl (Or.inl rfl) (Or.inl rfl) rfl rfl)
      (pss_cons (ps_it1 B.b23 hr TB' rfl rfl rfl rfl (Or.inl rfl) (Or.inl rfl) rfl rfl)
      (pss_cons (ps_it1 B.b24 hr TB' rfl rfl rfl rfl (Or.inl rfl) (Or.inl rfl) rfl rfl)
      (pss_cons (ps_it1 B.b25 hr TB' rfl rfl rfl rfl (Or.inl rfl) (Or.inl rfl) rfl rfl)
      (pss_cons (ps_it1 B.b26 hr TB' rfl rfl rfl rfl (Or.inl rfl) (Or.inl rfl) rfl rfl)
      (pss_cons (ps_it1 B.b27 hr TB' rfl rfl rfl rfl (Or.inl rfl) (Or.inl rfl) rfl rfl)
      (pss_cons (ps_it1 B.b28 hr TB' rfl rfl rfl rfl (Or.inl rfl) (Or.inl rfl) rfl rfl)
      (pss_cons (ps_it1 B.b29 hr TB' rfl rfl rfl rfl (Or.inl rfl) (Or.inl rfl) rfl rfl)
      (pss_cons (ps_it1 B.b30 hr TB' rfl rfl rfl rfl (Or.inl rfl) (Or.inl rfl) rfl rfl)
      (pss_cons (ps_it2 B.b31 hr TB' rfl rfl rfl rfl rfl (Or.inl rfl) (Or.inl rfl) (Or.inl rfl) rfl rfl)
      (pss_cons (ps_it1 B.b32 hr TB' rfl rfl rfl rfl (Or.inl rfl) (Or.inl rfl) rfl rfl)
      (pss_cons (ps_it1 B.b33 hr TB' rfl rfl rfl rfl (Or.inl rfl) (Or.inl rfl) rfl rfl)
      (pss_cons (ps_it1 B.b34 hr TB' rfl rfl rfl rfl (Or.inl rfl) (Or.inl rfl) rfl rfl)
      (pss_cons (ps_it2 B.b35 hr TB' rfl rfl rfl rfl rfl (Or.inl rfl) (Or.inl rfl) (Or.inl rfl) rfl rfl)
      (pss_cons (ps_it1 B.b36 hr TB' rfl rfl rfl rfl (Or.inl rfl) (Or.inl rfl) rfl rfl)
      (pss_cons (ps_it1 B.b37 hr TB' rfl rfl rfl rfl (Or.inl rfl) (Or.inl rfl) rfl rfl)
      (pss_one (ps_ret (pv 3)))))))))))))))))))))), ?_⟩
    refine ⟨Nat.zero_le _, fun l hl => ?_⟩
    have G0 : Grown Pg w K mg base P (qOf "_law_made_b") x y H (upd H l (.lst [])) l [] [] := ⟨.new hl, hl, tb.ext (same_new hl), upd_same, fun t ht => absurd ht (by simp), .nil, by simp⟩
    have n0 : ([] : List (Addr × Addr)).length = 0 := rfl
    refine grow G0 false rfl rfl (by omega) fun H1 ts1 n1 G1 => ?_
    refine grow G1 false rfl rfl (by omega) fun H2 ts2 n2 G2 => ?_
    refine grow G2 false rfl rfl (by omega) fun H3 ts3 n3 G3 => ?_
    refine grow G3 false rfl rfl (by omega) fun H4 ts4 n4 G4 => ?_
    refine grow G4 false rfl rfl (by omega) fun H5 ts5 n5 G5 => ?_
    refine grow G5 false rfl rfl (by omega) fun H6 ts6 n6 G6 => ?_
    refine grow G6 false rfl rfl (by omega) fun H7 ts7 n7 G7 => ?_
    refine grow G7 false rfl rfl (by omega) fun H8 ts8 n8 G8 => ?_
    refine grow G8 false rfl rfl (by omega) fun H9 ts9 n9 G9 => ?_
    refine grow G9 false rfl rfl (by omega) fun H10 ts10 n10 G10 => ?_
    refine grow G10 false rfl rfl (by omega) fun H11 ts11 n11 G11 => ?_
    refine grow G11 true rfl rfl (by omega) fun H12 ts12 n12 G12 => ?_
    refine grow G12 false rfl rfl (by omega) fun H13 ts13 n13 G13 => ?_
    refine grow G13 false rfl rfl (by omega) fun H14 ts14 n14 G14 => ?_
    refine grow G14 false rfl rfl (by omega) fun H15 ts15 n15 G15 => ?_
    refine grow G15 true rfl rfl (by omega) fun H16 ts16 n16 G16 => ?_
    refine grow G16 false rfl rfl (by omega) fun H17 ts17 n17 G17 => ?_
    refine grow G17 false rfl rfl (by omega) fun H18 ts18 n18 G18 => ?_
    exact ⟨_, rfl, k _ l _ G18⟩
def cs_c : List (Str × Bool) := [("NoBetterRow", false), ("NoCount", false), ("NoFirm", false), ("NoPerson", false), ("NoRule", false), ("NoTie", true), ("NotFirm", false), ("NotWatched", false), ("Stays", true), ("TurnsRound", true), ("WouldChange", true)]
theorem sc_c : FnScope ["x", "y", "z", "found"] ["x", "y", "z"] (defScope (top 55)) := ⟨rfl, rfl, rfl, by decide +kernel, rfl, by decide +kernel, by decide +kernel⟩
theorem ok__law_made_c {f : Addr} {fd : FuncData} (F : Fun K "_law_made_c" "_law_made_c" (top 55) f fd) (hf : f = He.fAd K ("_law_made_c", none)) (TB : TabB base mg (He.cT K ("_law_made_c", none)).1 (He.cT K ("_law_made_c", none)).2) (B : AllB Pg w K mg base) :
    FnOk Pg w K mg base CX0 3 f fd ["x", "y", "z"] (spMade Pg w K mg base (He.cT K ("_law_made_c", none)).2 (qOf "_law_made_c") cs_c) := by
  obtain ⟨oc, od, kV, doc, pm, an, cdv, ct, osl, rfl, lk, hcd⟩ := F.ex
  obtain ⟨c, rfl⟩ := He.codeIn_ref hcd
  have ec : He.codeOf K ("_law_made_c", none) = c := He.codeOf_eq (by rw [← hf]; exact lk) rfl
  refine fn_of lk hcd sc_c (fun vs H Q E h => ?_) (fun A outer s H vs Q E hr h => ?_)
  · obtain ⟨x, y, z, rfl, _⟩ := h
    rfl
  · obtain ⟨x, y, z, rfl, tb, k⟩ := h
    have TB' : TabB base mg c (He.cT K ("_law_made_c", none)).2 := by
      rw [← ec]
      exact TB
    generalize (He.cT K ("_law_made_c", none)).2 = P at TB' tb k
    refine ⟨_, PSs.nox (pss_cons (ps_set (i := 3) sc_c.nd rfl (Or.inl rfl) (pe_lst pa_nil))
      (pss_cons (ps_it1 B.b38 hr TB' rfl rfl rfl rfl (Or.inl rfl) (Or.inl rfl) rfl rfl)
      (pss_cons (ps_it1 B.b39 hr TB' rfl rfl rfl rfl (Or.inl rfl) (Or.inl rfl) rfl rfl)
      (pss_cons (ps_it1 B.b40 hr TB' rfl rfl rfl rfl (Or.inl rfl) (Or.inl rfl) rfl rfl)
      (pss_cons (ps_it1 B.b41 hr TB' rfl rfl rfl rfl (Or.inl rfl) (Or.inl rfl) rfl rfl)
      (pss_cons (ps_it1 B.b42 hr TB' rfl rfl rfl rfl (Or.inl rfl) (Or.inl rfl) rfl rfl)
      (pss_cons (ps_it2 B.b43 hr TB' rfl rfl rfl rfl rfl (Or.inl rfl) (Or.inl rfl) (Or.inl rfl) rfl rfl)
      (pss_cons (ps_it1 B.b44 hr TB' rfl rfl rfl rfl (Or.inl rfl) (Or.inl rfl) rfl rfl)
      (pss_cons (ps_it1 B.b45 hr TB' rfl rfl rfl rfl (Or.inl rfl) (Or.inl rfl) rfl rfl)
      (pss_cons (ps_it2 B.b46 hr TB' rfl rfl rfl rfl rfl (Or.inl rfl) (Or.inl rfl) (Or.inl rfl) rfl rfl)
      (pss_cons (ps_it2 B.b47 hr TB' rfl rfl rfl rfl rfl (Or.inl rfl) (Or.inl rfl) (Or.inl rfl) rfl rfl)
      (pss_cons (ps_it2 B.b48 hr TB' rfl rfl rfl rfl rfl (Or.inl rfl) (Or.inl rfl) (Or.inl rfl) rfl rfl)
      (pss_one (ps_ret (pv 3))))))))))))))), ?_⟩
    refine ⟨Nat.zero_le _, fun l hl => ?_⟩
    have G0 : Grown Pg w K mg base P (qOf "_law_made_c") x y H (upd H l (.lst [])) l [] [] := ⟨.new hl, hl, tb.ext (same_new hl), upd_same, fun t ht => absurd ht (by simp), .nil, by simp⟩
    have n0 : ([] : List (Addr × Addr)).length = 0 := rfl
    refine grow G0 false rfl rfl (by omega) fun H1 ts1 n1 G1 => ?_
    refine grow G1 false rfl rfl (by omega) fun H2 ts2 n2 G2 => ?_
    refine grow G2 false rfl rfl (by omega) fun H3 ts3 n3 G3 => ?_
    refine grow G3 false rfl rfl (by omega) fun H4 ts4 n4 G4 => ?_
    refine grow G4 false rfl rfl (by omega) fun H5 ts5 n5 G5 => ?_
    refine grow G5 true rfl rfl (by omega) fun H6 ts6 n6 G6 => ?_
    refine grow G6 false rfl rfl (by omega) fun H7 ts7 n7 G7 => ?_
    refine grow G7 false rfl rfl (by omega) fun H8 ts8 n8 G8 => ?_
    refine grow G8 true rfl rfl (by omega) fun H9 ts9 n9 G9 => ?_
    refine grow G9 true rfl rfl (by omega) fun H10 ts10 n10 G10 => ?_
    refine grow G10 true rfl rfl (by omega) fun H11 ts11 n11 G11 => ?_
    exact ⟨_, rfl, k _ l _ G11⟩
end
end Kc
namespace Kk
open PySem PySem.Spec PyProof.Rows L2 Kx
abbrev top (i : Nat) : Stmt := Kd.top i
/-- what isinstance tells of an error of the class at D, by names -/
abbrev isB (K : PySem.W.Frag) (D : Addr) (x : Str) : V := .bl (decide (He.ga K x = D))
def Kit (K : PySem.W.Frag) (D : Addr) (x : Str) : Prop := PySem.W.kitOne K (.ref D) (.ref (He.ga K x)) = some (decide (He.ga K x = D))
theorem boot_VE : bootBuiltins "ValueError" = some (.type "ValueError") := by decide +kernel
/-- found.extend([isinstance(e, X), ..]) -/
def tKd (K : PySem.W.Frag) (xs : List Str) : TS := fun D σ H => ∃ (a D0 l : Addr) (ys : List V), σ[0]? = some (some (.ref a)) ∧ ExI H a D0 ∧ ExcC K D0 ∧ (∀ x ∈ xs, Kit K D0 x) ∧
  σ[1]? = some (some (.ref l)) ∧ H l = some (.lst ys) ∧ ys.length ≤ 900 ∧ ∀ H' : Hp, (∀ b o, b ≠ l → H b = some o → H' b = some o) → H' l = some (.lst (ys ++ xs.map (isB K D0))) → D.nx σ H'
section
variable {X : Cx} {nX nY : Str} {a1 a2 b1 b2 b3 b4 c1 c2 c3 c4 d1 f2 f3 : Pos}
theorem ps_kd1 (gI : X.mg "isinstance" = none) (hI : Gl X "isinstance") (g1 : X.mg nX = some (.ref (He.ga X.K nX))) (h1 : Gl X nX) (hN0 : X.N[0]? = some ("e" : Str)) (hN1 : X.N[1]? = some ("found" : Str)) (v0 : Vis X.env.scope "e") (v1 : Vis X.env.scope "found")
    (db1 : (nX == ("__debug__" : Str)) = false) (hline : (a2.endLine == f2.line) = true) :
    PS X (.Expr (.Call (.Attribute (.Name "found" a1) "extend" a2) [.List [.Call (.Name "isinstance" b1) [.Name "e" b2, .Name nX b3] [] b4] d1] [] f2) f3) (tKd X.K [nX]) := by
  have p := ps_expr (X := X) (pos := f3) (pe_bm (cpos := f2) (apos := a2) PySem.F.plainAttrs_list PySem.F.slot_list_extend PySem.F.type_list_extend mt_extend (pe_var (pos := a1) hN1 v1 (by decide) (by decide))
    (pa_cons (pe_lst (pos := d1) (pa_cons (pe_callB (p := b1) (pos := b4) call_isX hI gI boot_isinstance (pa_cons (pe_var (pos := b2) hN0 v0 (by decide) (by decide)) (pa_cons (pe_glob (pos := b3) h1 g1 (v := .ref (He.ga X.K nX)) rfl db1) pa_nil))) pa_nil)) pa_nil) (by rfl) (by rfl) hline) (by rfl)
  refine ⟨fun pins s σ H D I h => p.run pins s σ H D I ?_⟩
  obtain ⟨a, D0, l, ys, ha, ex, ec, kt, hl0, hl, hz, k⟩ := h
  refine ⟨_, hl0, .inl ⟨rfl, _, SqL.of hl⟩, _, ha, a, D0, _, _, _, rfl, ClsV.own _, ex, ec, kt nX (by simp), (show 1 ≤ sizeLine from by decide), fun d nd => ?_⟩
  have sd := Same.refl H
  have dl : d ≠ l := (ne_of_none hl nd).symm
  refine ⟨l, d, ys, _, rfl, rfl, (by rw [upd_ne dl.symm]; exact hl), upd_same, Nat.le_of_lt (small1000 (by simp; omega)), k _ (fun b o n e => ?_) (by rw [upd_same]; rfl)⟩
  rw [upd_ne n, upd_ne (ne_of_none e nd)]
  exact e
theorem ps_kd2 (gI : X.mg "isinstance" = none) (hI : Gl X "isinstance") (g1 : X.mg nX = some (.ref (He.ga X.K nX))) (g2 : X.mg nY = some (.ref (He.ga X.K nY))) (h1 : Gl X nX) (h2 : Gl X nY) (hN0 : X.N[0]? = some ("e" : Str)) (hN1 : X.N[1]? = some ("found" : Str)) (v0 : Vis X.env.scope "e") (v1 : Vis X.env.scope "found")
    (db1 : (nX == ("__debug__" : Str)) = false) (db2 : (nY == ("__debug__" : Str)) = false) (hline : (a2.endLine == f2.line) = true) :
    PS X (.Expr (.Call (.Attribute (.Name "found" a1) "extend" a2) [.List [.Call (.Name "isinstance" b1) [.Name "e" b2, .Name nX b3] [] b4, .Call (.Name "isinstance" c1) [.Name "e" c2, .Name nY c3] [] c4] d1] [] f2) f3) (tKd X.K [nX, nY]) := by
  have p := ps_expr (X := X) (pos := f3) (pe_bm (cpos := f2) (apos := a2) PySem.F.plainAttrs_list PySem.F.slot_list_extend PySem.F.type_list_extend mt_extend (pe_var (pos := a1) hN1 v1 (by decide) (by decide))
    (pa_cons (pe_lst (pos := d1) (pa_cons (pe_callB (p := b1) (pos := b4) call_isX hI gI boot_isinstance (pa_cons (pe_var (pos := b2) hN0 v0 (by decide) (by decide)) (pa_cons (pe_glob (pos := b3) h1 g1 (v := .ref (He.ga X.K nX)) rfl db1) pa_nil)))
      (pa_cons (pe_callB (p := c1) (pos := c4) call_isX hI gI boot_isinstance (pa_cons (pe_var (pos := c2) hN0 v0 (by decide) (by decide)) (pa_cons (pe_glob (pos := c3) h2 g2 (v := .ref (He.ga X.K nY)) rfl db2) pa_nil))) pa_nil))) pa_nil) (by rfl) (by rfl) hline) (by rfl)
  refine ⟨fun pins s σ H D I h => p.run pins s σ H D I ?_⟩
  obtain ⟨a, D0, l, ys, ha, ex, ec, kt, hl0, hl, hz, k⟩ := h
  refine ⟨_, hl0, .inl ⟨rfl, _, SqL.of hl⟩, _, ha, a, D0, _, _, _, rfl, ClsV.own _, ex, ec, kt nX (by simp), _, ha, a, D0, _, _, _, rfl, ClsV.own _, ex, ec, kt nY (by simp), (show 2 ≤ sizeLine from by decide), fun d nd => ?_⟩
  have dl : d ≠ l := (ne_of_none hl nd).symm
  refine ⟨l, d, ys, _, rfl, rfl, (by rw [upd_ne dl.symm]; exact hl), upd_same, Nat.le_of_lt (small1000 (by simp; omega)), k _ (fun b o n e => ?_) (by rw [upd_same]; rfl)⟩
  rw [upd_ne n, upd_ne (ne_of_none e nd)]
  exact e
end
def spKinds (K : PySem.W.Frag) (ns : List Str) : Sp := fun vs H Q _ => ∃ (a D : Addr), vs = [.ref a] ∧ ExI H a D ∧ ExcC K D ∧ (∀ x ∈ ns, Kit K D x) ∧
  ∀ (H' : Hp) (l : Addr), Same H H' → H l = none → H' l = some (.lst (ns.map (isB K D))) → Q (.ref l) H'
structure KGr (K : PySem.W.Frag) (D : Addr) (H0 H : Hp) (a l : Addr) (ns : List Str) : Prop where
  sm : Same H0 H
  nl : H0 l = none
  ex : ExI H a D
  hl : H l = some (.lst (ns.map (isB K D)))
  few : ns.length ≤ 100
theorem kgrow {K : PySem.W.Frag} {D : Addr} {H0 H : Hp} {a l : Addr} {ns xs : List Str} {E : Ends} {σ : L2.St} (G : KGr K D H0 H a l ns) (h0 : σ[0]? = some (some (.ref a))) (ec : ExcC K D) (kt : ∀ x ∈ xs, Kit K D x) (h1 : σ[1]? = some (some (.ref l))) (hz : (ns ++ xs).length ≤ 100)
    (k : ∀ H', KGr K D H0 H' a l (ns ++ xs) → E.nx σ H') : tKd K xs E σ H := by
  refine ⟨a, D, l, _, h0, G.ex, ec, kt, h1, G.hl, by rw [List.length_map]; have := G.few; omega, fun H' kp hl => k H' ⟨fun b o e => kp b o (ne_of_none e G.nl) (G.sm b o e), G.nl, ?_, by rw [hl, List.map_append], hz⟩⟩
  exact G.ex.keep fun b φ e => kp b _ (fun z => by
    rw [z, G.hl] at e
    cases e) e
section
variable {Pg : Program} {w : World} {K : PySem.W.Frag} {mg : Str → Option Value} {base : Heap}
def kn_a : List Str := ["AsksOn", "BadAllotment", "BadAsk", "BadAsker", "BadBounds", "BadDeed", "BadGivers", "BadKnown", "BadLies", "BadLot", "BadLots", "BadMarket", "BadName", "BadNeeds", "BadNotice", "BadNumber", "BadPairing", "BadPairings"]
theorem sk_a : FnScope ["e", "found"] ["e"] (defScope (top 56)) := ⟨rfl, rfl, rfl, by decide +kernel, rfl, by decide +kernel, by decide +kernel⟩
theorem ok__law_kinds_a {f : Addr} {fd : FuncData} (F : Fun K "_law_kinds_a" "_law_kinds_a" (top 56) f fd) (gI : mg "isinstance" = none) (hG : ∀ (i : Nat) (x : Str), kn_a[i]? = some x → mg x = some (.ref (He.ga K x))) :
    FnOk Pg w K mg base CX0 1 f fd ["e"] (spKinds K kn_a) := by
  refine F.ok sk_a (fun vs H Q E h => ?_) (fun cdv A outer s H vs Q E hr h => ?_)
  · obtain ⟨a, D, rfl, _⟩ := h
    rfl
  · obtain ⟨a, D, rfl, ex, ec, kt, k⟩ := h
    refine ⟨_, pss_cons (ps_set (i := 1) sk_a.nd rfl (Or.inl rfl) (pe_lst pa_nil))
      (pss_cons (ps_kd2 gI rfl (hG 0 _ rfl) (hG 1 _ rfl) rfl rfl rfl rfl (Or.inl rfl) (Or.inl rfl) rfl rfl rfl)
      (pss_cons (ps_kd2 gI rfl (hG 2 _ rfl) (hG 3 _ rfl) rfl rfl rfl rfl (Or.inl rfl) (Or.inl rfl) rfl rfl rfl)
      (pss_cons (ps_kd2 gI rfl (hG 4 _ rfl) (hG 5 _ rfl) rfl rfl rfl rfl (Or.inl rfl) (Or.inl rfl) rfl rfl rfl)
      (pss_cons (ps_kd2 gI rfl (hG 6 _ rfl) (hG 7 _ rfl) rfl rfl rfl rfl (Or.inl rfl) (Or.inl rfl) rfl rfl rfl)
      (pss_cons (ps_kd2 gI rfl (hG 8 _ rfl) (hG 9 _ rfl) rfl rfl rfl rfl (Or.inl rfl) (Or.inl rfl) rfl rfl rfl)
      (pss_cons (ps_kd2 gI rfl (hG 10 _ rfl) (hG 11 _ rfl) rfl rfl rfl rfl (Or.inl rfl) (Or.inl rfl) rfl rfl rfl)
      (pss_cons (ps_kd2 gI rfl (hG 12 _ rfl) (hG 13 _ rfl) rfl rfl rfl rfl (Or.inl rfl) (Or.inl rfl) rfl rfl rfl)
      (pss_cons (ps_kd2 gI rfl (hG 14 _ rfl) (hG 15 _ rfl) rfl rfl rfl rfl (Or.inl rfl) (Or.inl rfl) rfl rfl rfl)
      (pss_cons (ps_kd2 gI rfl (hG 16 _ rfl) (hG 17 _ rfl) rfl rfl rfl rfl (Or.inl rfl) (Or.inl rfl) rfl rfl rfl)
      (pss_one (ps_ret (pv 1)))))))))))), ?_⟩
    have kt2 : ∀ (i : Nat) (x : Str), kn_a[i]? = some x → Kit K D x := fun i x e => kt x (List.mem_of_getElem? e)
    refine ⟨Nat.zero_le _, fun l hl => ?_⟩
    have G0 : KGr K D H (upd H l (.lst [])) a l [] := ⟨fun b o e => by rw [upd_ne (ne_of_none e hl)]; exact e, hl, ex.same (fun b o e => by rw [upd_ne (ne_of_none e hl)]; exact e), upd_same, by simp⟩
    refine kgrow G0 rfl ec (fun x hx => by rcases List.mem_cons.mp hx with e | hx; exact e ▸ kt2 0 _ rfl; exact (List.mem_singleton.mp hx) ▸ kt2 1 _ rfl) rfl (by decide) fun H1 G1 => ?_
    refine kgrow G1 rfl ec (fun x hx => by rcases List.mem_cons.mp hx with e | hx; exact e ▸ kt2 2 _ rfl; exact (List.mem_singleton.mp hx) ▸ kt2 3 _ rfl) rfl (by decide) fun H2 G2 => ?_
    refine kgrow G2 rfl ec (fun x hx => by rcases List.mem_cons.mp hx with e | hx; exact e ▸ kt2 4 _ rfl; exact (List.mem_singleton.mp hx) ▸ kt2 5 _ rfl) rfl (by decide) fun H3 G3 => ?_
    refine kgrow G3 rfl ec (fun x hx => by rcases List.mem_cons.mp hx with e | hx; exact e ▸ kt2 6 _ rfl; exact (List.mem_singleton.mp hx) ▸ kt2 7 _ rfl) rfl (by decide) fun H4 G4 => ?_
    refine kgrow G4 rfl ec (fun x hx => by rcases List.mem_cons.mp hx with e | hx; exact e ▸ kt2 8 _ rfl; exact (List.mem_singleton.mp hx) ▸ kt2 9 _ rfl) rfl (by decide) fun H5 G5 => ?_
    refine kgrow G5 rfl ec (fun x hx => by rcases List.mem_cons.mp hx with e | hx; exact e ▸ kt2 10 _ rfl; exact (List.mem_singleton.mp hx) ▸ kt2 11 _ rfl) rfl (by decide) fun H6 G6 => ?_
    refine kgrow G6 rfl ec (fun x hx => by rcases List.mem_cons.mp hx with e | hx; exact e ▸ kt2 12 _ rfl; exact (List.mem_singleton.mp hx) ▸ kt2 13 _ rfl) rfl (by decide) fun H7 G7 => ?_
    refine kgrow G7 rfl ec (fun x hx => by rcases List.mem_cons.mp hx with e | hx; exact e ▸ kt2 14 _ rfl; exact (List.mem_singleton.mp hx) ▸ kt2 15 _ rfl) rfl (by decide) fun H8 G8 => ?_
    refine kgrow G8 rfl ec (fun x hx => by rcases List.mem_cons.mp hx with e | hx; exact e ▸ kt2 16 _ rfl; exact (List.mem_singleton.mp hx) ▸ kt2 17 _ rfl) rfl (by decide) fun H9 G9 => ?_
    exact ⟨_, rfl, k _ l G9.sm hl G9.hl⟩
def kn_b : List Str := ["BadPaper", "BadPapers", "BadPeople", "BadPlace", "BadQuestion", "BadResult", "BadRow", "BadRule", "BadSession", "BadSides", "BadSteps", "BadText", "BadThings", "BadWish", "BadWishes", "HasTie", "InUse", "IsWatched"]
theorem sk_b : FnScope ["e", "found"] ["e"] (defScope (top 57)) := ⟨rfl, rfl, rfl, by decide +kernel, rfl, by decide +kernel, by decide +kernel⟩
theorem ok__law_kinds_b {f : Addr} {fd : FuncData} (F : Fun K "_law_kinds_b" "_law_kinds_b" (top 57) f fd) (gI : mg "isinstance" = none) (hG : ∀ (i : Nat) (x : Str), kn_b[i]? = some x → mg x = some (.ref (He.ga K x))) :
    FnOk Pg w K mg base CX0 1 f fd ["e"] (spKinds K kn_b) := by
  refine F.ok sk_b (fun vs H Q E h => ?_) (fun cdv A outer s H vs Q E hr h => ?_)
  · obtain ⟨a, D, rfl, _⟩ := h
    rfl
  · obtain ⟨a, D, rfl, ex, ec, kt, k⟩ := h
    refine ⟨_, pss_cons (ps_set (i := 1) sk_b.nd rfl (Or.inl rfl) (pe_lst pa_nil))
      (pss_cons (ps_kd2 gI rfl (hG 0 _ rfl) (hG 1 _ rfl) rfl rfl rfl rfl (Or.inl rfl) (Or.inl rfl) rfl rfl rfl)
      (pss_cons (ps_kd2 gI rfl (hG 2 _ rfl) (hG 3 _ rfl) rfl rfl rfl rfl (Or.inl rfl) (Or.inl rfl) rfl rfl rfl)
      (pss_cons (ps_kd2 gI rfl (hG 4 _ rfl) (hG 5 _ rfl) rfl rfl rfl rfl (Or.inl rfl) (Or.inl rfl) rfl rfl rfl)
      (pss_cons (ps_kd2 gI rfl (hG 6 _ rfl) (hG 7 _ rfl) rfl rfl rfl rfl (Or.inl rfl) (Or.inl rfl) rfl rfl rfl)
      (pss_cons (ps_kd2 gI rfl (hG 8 _ rfl) (hG 9 _ rfl) rfl rfl rfl rfl (Or.inl rfl) (Or.inl rfl) rfl rfl rfl)
      (pss_cons (ps_kd2 gI rfl (hG 10 _ rfl) (hG 11 _ rfl) rfl rfl rfl rfl (Or.inl rfl) (Or.inl rfl) rfl rfl rfl)
      (pss_cons (ps_kd2 gI rfl (hG 12 _ rfl) (hG 13 _ rfl) rfl rfl rfl rfl (Or.inl rfl) (Or.inl rfl) rfl rfl rfl)
      (pss_cons (ps_kd2 gI rfl (hG 14 _ rfl) (hG 15 _ rfl) rfl rfl rfl rfl (Or.inl rfl) (Or.inl rfl) rfl rfl rfl)
      (pss_cons (ps_kd2 gI rfl (hG 16 _ rfl) (hG 17 _ rfl) rfl rfl rfl rfl (Or.inl rfl) (Or.inl rfl) rfl rfl rfl)
      (pss_one (ps_ret (pv 1)))))))))))), ?_⟩
    have kt2 : ∀ (i : Nat) (x : Str), kn_b[i]? = some x → Kit K D x := fun i x e => kt x (List.mem_of_getElem? e)
    refine ⟨Nat.zero_le _, fun l hl => ?_⟩
    have G0 : KGr K D H (upd H l (.lst [])) a l [] := ⟨fun b o e => by rw [upd_ne (ne_of_none e hl)]; exact e, hl, ex.same (fun b o e => by rw [upd_ne (ne_of_none e hl)]; exact e), upd_same, by simp⟩
    refine kgrow G0 rfl ec (fun x hx => by rcases List.mem_cons.mp hx with e | hx; exact e ▸ kt2 0 _ rfl; exact (List.mem_singleton.mp hx) ▸ kt2 1 _ rfl) rfl (by decide) fun H1 G1 => ?_
    refine kgrow G1 rfl ec (fun x hx => by rcases List.mem_cons.mp hx with e | hx; exact e ▸ kt2 2 _ rfl; exact (List.mem_singleton.mp hx) ▸ kt2 3 _ rfl) rfl (by decide) fun H2 G2 => ?_
    refine kgrow G2 rfl ec (fun x hx => by rcases List.mem_cons.mp hx with e | hx; exact e ▸ kt2 4 _ rfl; exact (List.mem_singleton.mp hx) ▸ kt2 5 _ rfl) rfl (by decide) fun H3 G3 => ?_
    refine kgrow G3 rfl ec (fun x hx => by rcases List.mem_cons.mp hx with e | hx; exact e ▸ kt2 6 _ rfl; exact (List.mem_singleton.mp hx) ▸ kt2 7 _ rfl) rfl (by decide) fun H4 G4 => ?_
    refine kgrow G4 rfl ec (fun x hx => by rcases List.mem_cons.mp hx with e | hx; exact e ▸ kt2 8 _ rfl; exact (List.mem_singleton.mp hx) ▸ kt2 9 _ rfl) rfl (by decide) fun H5 G5 => ?_
    refine kgrow G5 rfl ec (fun x hx => by rcases List.mem_cons.mp hx with e | hx; exact e ▸ kt2 10 _ rfl; exact (List.mem_singleton.mp hx) ▸ kt2 11 _ rfl) rfl (by decide) fun H6 G6 => ?_
    refine kgrow G6 rfl ec (fun x hx => by rcases List.mem_cons.mp hx with e | hx; exact e ▸ kt2 12 _ rfl; exact (List.mem_singleton.mp hx) ▸ kt2 13 _ rfl) rfl (by decide) fun H7 G7 => ?_
    refine kgrow G7 rfl ec (fun x hx => by rcases List.mem_cons.mp hx with e | hx; exact e ▸ kt2 14 _ rfl; exact (List.mem_singleton.mp hx) ▸ kt2 15 _ rfl) rfl (by decide) fun H8 G8 => ?_
    refine kgrow G8 rfl ec (fun x hx => by rcases List.mem_cons.mp hx with e | hx; exact e ▸ kt2 16 _ rfl; exact (List.mem_singleton.mp hx) ▸ kt2 17 _ rfl) rfl (by decide) fun H9 G9 => ?_
    exact ⟨_, rfl, k _ l G9.sm hl G9.hl⟩
def kn_c : List Str := ["NoBetterRow", "NoCount", "NoFirm", "NoPerson", "NoRule", "NoTie", "NotFirm", "NotWatched", "Stays", "TurnsRound", "WouldChange"]
theorem sk_c : FnScope ["e", "found"] ["e"] (defScope (top 58)) := ⟨rfl, rfl, rfl, by decide +kernel, rfl, by decide +kernel, by decide +kernel⟩
theorem ok__law_kinds_c {f : Addr} {fd : FuncData} (F : Fun K "_law_kinds_c" "_law_kinds_c" (top 58) f fd) (gI : mg "isinstance" = none) (hG : ∀ (i : Nat) (x : Str), kn_c[i]? = some x → mg x = some (.ref (He.ga K x))) :
    FnOk Pg w K mg base CX0 1 f fd ["e"] (spKinds K kn_c) := by
  refine F.ok sk_c (fun vs H Q E h => ?_) (fun cdv A outer s H vs Q E hr h => ?_)
  · obtain ⟨a, D, rfl, _⟩ := h
    rfl
  · obtain ⟨a, D, rfl, ex, ec, kt, k⟩ := h
    refine ⟨_, pss_cons (ps_set (i := 1) sk_c.nd rfl (Or.inl rfl) (pe_lst pa_nil))
      (pss_cons (ps_kd2 gI rfl (hG 0 _ rfl) (hG 1 _ rfl) rfl rfl rfl rfl (Or.inl rfl) (Or.inl rfl) rfl rfl rfl)
      (pss_cons (ps_kd2 gI rfl (hG 2 _ rfl) (hG 3 _ rfl) rfl rfl rfl rfl (Or.inl rfl) (Or.inl rfl) rfl rfl rfl)
      (pss_cons (ps_kd2 gI rfl (hG 4 _ rfl) (hG 5 _ rfl) rfl rfl rfl rfl (Or.inl rfl) (Or.inl rfl) rfl rfl rfl)
      (pss_cons (ps_kd2 gI rfl (hG 6 _ rfl) (hG 7 _ rfl) rfl rfl rfl rfl (Or.inl rfl) (Or.inl rfl) rfl rfl rfl)
      (pss_cons (ps_kd2 gI rfl (hG 8 _ rfl) (hG 9 _ rfl) rfl rfl rfl rfl (Or.inl rfl) (Or.inl rfl) rfl rfl rfl)
      (pss_cons (ps_kd1 gI rfl (hG 10 _ rfl) rfl rfl rfl (Or.inl rfl) (Or.inl rfl) rfl rfl)
      (pss_one (ps_ret (pv 1))))))))), ?_⟩
    have kt2 : ∀ (i : Nat) (x : Str), kn_c[i]? = some x → Kit K D x := fun i x e => kt x (List.mem_of_getElem? e)
    refine ⟨Nat.zero_le _, fun l hl => ?_⟩
    have G0 : KGr K D H (upd H l (.lst [])) a l [] := ⟨fun b o e => by rw [upd_ne (ne_of_none e hl)]; exact e, hl, ex.same (fun b o e => by rw [upd_ne (ne_of_none e hl)]; exact e), upd_same, by simp⟩
    refine kgrow G0 rfl ec (fun x hx => by rcases List.mem_cons.mp hx with e | hx; exact e ▸ kt2 0 _ rfl; exact (List.mem_singleton.mp hx) ▸ kt2 1 _ rfl) rfl (by decide) fun H1 G1 => ?_
    refine kgrow G1 rfl ec (fun x hx => by rcases List.mem_cons.mp hx with e | hx; exact e ▸ kt2 2 _ rfl; exact (List.mem_singleton.mp hx) ▸ kt2 3 _ rfl) rfl (by decide) fun H2 G2 => ?_
    refine kgrow G2 rfl ec (fun x hx => by rcases List.mem_cons.mp hx with e | hx; exact e ▸ kt2 4 _ rfl; exact (List.mem_singleton.mp hx) ▸ kt2 5 _ rfl) rfl (by decide) fun H3 G3 => ?_
    refine kgrow G3 rfl ec (fun x hx => by rcases List.mem_cons.mp hx with e | hx; exact e ▸ kt2 6 _ rfl; exact (List.mem_singleton.mp hx) ▸ kt2 7 _ rfl) rfl (by decide) fun H4 G4 => ?_
    refine kgrow G4 rfl ec (fun x hx => by rcases List.mem_cons.mp hx with e | hx; exact e ▸ kt2 8 _ rfl; exact (List.mem_singleton.mp hx) ▸ kt2 9 _ rfl) rfl (by decide) fun H5 G5 => ?_
    refine kgrow G5 rfl ec (fun x hx => (List.mem_singleton.mp hx) ▸ kt2 10 _ rfl) rfl (by decide) fun H6 G6 => ?_
    exact ⟨_, rfl, k _ l G6.sm hl G6.hl⟩
end
end Kk
namespace Kk
open PySem PySem.Spec PyProof.Rows L2 Kx
def kn : List Str := kn_a ++ kn_b ++ kn_c
theorem same_up {H : Hp} {a : Addr} {o : HO} (h : H a = none) : Same H (upd H a o) := fun b u e => by
  rw [upd_ne (ne_of_none e h)]
  exact e
/-! ### lists of truths as data -/
theorem dp_bools {K : PySem.W.Frag} {H : Hp} : ∀ bs : List Bool, DpAll K H (bs.map V.bl) (bs.map PyData.bool)
  | [] => .nil
  | b :: r => .cons (.bl b) (dp_bools r)
theorem canLay_bools : ∀ bs : List Bool, PyData.canLayAll0 (bs.map PyData.bool) = true
  | [] => by simp [PyData.canLayAll0]
  | b :: r => by simp [PyData.canLayAll0, PyData.canLay0, canLay_bools r]
theorem depth_bools : ∀ bs : List Bool, PyData.depthAll (bs.map PyData.bool) ≤ 1
  | [] => by simp [PyData.depthAll]
  | b :: r => by
    have := depth_bools r
    simp [PyData.depthAll, PyData.depth]
    omega
theorem shaped_bools (bs : List Bool) : SeqAt.shaped (.list (bs.map PyData.bool)) = true := by
  have h1 := canLay_bools bs
  have h2 := depth_bools bs
  simp [SeqAt.shaped, PyData.canLay0, PyData.depth, h1]
  omega
theorem eqv_bools : ∀ bs : List Bool, PyData.eqvAll (bs.map PyData.bool) (bs.map PyData.bool) = true
  | [] => by simp [PyData.eqvAll]
  | b :: r => by simp [PyData.eqvAll, PyData.eqv, eqv_bools r]
section
variable {Pg : Program} {w : World} {K : PySem.W.Frag} {mg : Str → Option Value} {base : Heap}
theorem sk_all : FnScope ["e"] ["e"] (defScope (top 59)) := ⟨rfl, rfl, rfl, by decide +kernel, rfl, by decide +kernel, by decide +kernel⟩
theorem ok_kinds {f fA fB fC : Addr} {fd fdA fdB fdC : FuncData} (F : Fun K "_law_kinds" "_law_kinds" (top 59) f fd)
    (FA : Fun K "_law_kinds_a" "_law_kinds_a" (top 56) fA fdA) (bA : Binds K fdA ["e"] []) (gA : mg "_law_kinds_a" = some (.ref fA))
    (FB : Fun K "_law_kinds_b" "_law_kinds_b" (top 57) fB fdB) (bB : Binds K fdB ["e"] []) (gB : mg "_law_kinds_b" = some (.ref fB))
    (FC : Fun K "_law_kinds_c" "_law_kinds_c" (top 58) fC fdC) (bC : Binds K fdC ["e"] []) (gC : mg "_law_kinds_c" = some (.ref fC))
    (gI : mg "isinstance" = none) (hG : ∀ x ∈ kn, mg x = some (.ref (He.ga K x))) :
    FnOk Pg w K mg base CX0 2 f fd ["e"] (spKinds K kn) := by
  have mA : ∀ x ∈ kn_a, x ∈ kn := fun x h => by simp [kn, h]
  have mB : ∀ x ∈ kn_b, x ∈ kn := fun x h => by simp [kn, h]
  have mC : ∀ x ∈ kn_c, x ∈ kn := fun x h => by simp [kn, h]
  have GA : FnOk Pg w K mg base CX0 1 fA fdA ["e"] (spKinds K kn_a) := ok__law_kinds_a FA gI fun i x e => hG x (mA x (List.mem_of_getElem? e))
  have GB : FnOk Pg w K mg base CX0 1 fB fdB ["e"] (spKinds K kn_b) := ok__law_kinds_b FB gI fun i x e => hG x (mB x (List.mem_of_getElem? e))
  have GC : FnOk Pg w K mg base CX0 1 fC fdC ["e"] (spKinds K kn_c) := ok__law_kinds_c FC gI fun i x e => hG x (mC x (List.mem_of_getElem? e))
  refine F.ok sk_all (fun vs H Q E h => ?_) (fun cdv A outer s H vs Q E hr h => ?_)
  · obtain ⟨a, D, rfl, _⟩ := h
    rfl
  · obtain ⟨a, D, rfl, ex, ec, kt, k⟩ := h
    refine ⟨_, pss_one (ps_ret (pe_op op_cat (pe_op op_cat (pe_call GA hr rfl gA FA.kp bA .nil pass0 (pa_cons (pv 0) pa_nil)) (pe_call GB hr rfl gB FB.kp bB .nil pass0 (pa_cons (pv 0) pa_nil))) (pe_call GC hr rfl gC FC.kp bC .nil pass0 (pa_cons (pv 0) pa_nil)))), ?_⟩
    refine ⟨_, rfl, a, D, rfl, ex, ec, fun x h => kt x (mA x h), fun H1 l1 s1 n1 h1 => ?_⟩
    refine ⟨_, rfl, a, D, rfl, ex.same s1, ec, fun x h => kt x (mB x h), fun H2 l2 s2 n2 h2 => ?_⟩
    refine ⟨l1, l2, _, _, rfl, rfl, s2 _ _ h1, h2, (by rw [List.length_map, List.length_map]; decide), fun p3 n3 => ?_⟩
    have s3 := same_up (o := .lst (kn_a.map (isB K D) ++ kn_b.map (isB K D))) n3
    refine ⟨_, rfl, a, D, rfl, (ex.same (s1.trans s2)).same s3, ec, fun x h => kt x (mC x h), fun H4 l4 s4 n4 h4 => ?_⟩
    refine ⟨p3, l4, _, _, rfl, rfl, s4 _ _ upd_same, h4, (by rw [List.length_append, List.length_map, List.length_map, List.length_map]; decide), fun p5 n5 => ?_⟩
    refine k _ p5 (((s1.trans s2).trans s3).trans (s4.trans (same_up n5))) (((s1.trans s2).trans s3).free (s4.free n5)) ?_
    rw [upd_same]
    simp only [kn, List.map_append]
/-! ### _law_is_own -/
def spOwn (K : PySem.W.Frag) : Sp := fun vs H Q _ => ∃ (a D : Addr) (i : Nat), vs = [.ref a, .int i] ∧ ExI H a D ∧ ExcC K D ∧ (∀ x ∈ kn, Kit K D x) ∧
  PySem.W.kitOne K (.ref D) (.ref (He.ga K "SwapError")) = some true ∧ PySem.W.kitOne K (.ref D) (.type "ValueError") = some true ∧ PySem.W.kitOne K (.ref D) (.type "LookupError") = some false ∧
  (∃ x, kn[i]? = some x ∧ D = He.ga K x) ∧ ∀ (H' : Hp), Same H H' → Q (.bl true) H'
abbrev eqAt (i : Nat) (j : Nat) : Bool := decide (V.int (0 + (j : Int)) = V.int (i : Int))
def teEq : TE := tOp rEq (tVar 2) (tVar 1)
theorem sk_own : FnScope ["e", "at", "k"] ["e", "at"] (defScope (top 60)) := ⟨rfl, rfl, rfl, by decide +kernel, rfl, by decide +kernel, by decide +kernel⟩
theorem own_list {D : Addr} {i : Nat} (inj : ∀ (i j : Nat) (x y : Str), kn[i]? = some x → kn[j]? = some y → He.ga K x = He.ga K y → i = j) (h : ∃ x, kn[i]? = some x ∧ D = He.ga K x) :
    kn.map (fun x => decide (He.ga K x = D)) = (List.range 47).map (eqAt i) := by
  obtain ⟨x, hx, rfl⟩ := h
  refine List.ext_getElem (by rw [List.length_map, List.length_map, List.length_range]; decide) fun j h1 h2 => ?_
  rw [List.getElem_map, List.getElem_map, List.getElem_range]
  have hj : j < kn.length := by simpa using h1
  have ej : kn[j]? = some kn[j] := List.getElem?_eq_getElem hj
  by_cases e : j = i
  · subst e
    have e0 : kn[j]'hj = x := Option.some.inj (ej.symm.trans hx)
    have e1 : decide (He.ga K (kn[j]'hj) = He.ga K x) = true := by
      rw [e0]
      exact decide_eq_true rfl
    have h3 : V.int (0 + (j : Int)) = V.int (j : Int) := by rw [Int.zero_add]
    show decide (He.ga K (kn[j]'hj) = He.ga K x) = decide (V.int (0 + (j : Int)) = V.int (j : Int))
    rw [e1, decide_eq_true h3]
  · have n1 : ¬ He.ga K kn[j] = He.ga K x := fun z => e (inj j i _ _ ej hx z)
    have n2 : ¬ V.int (0 + (j : Int)) = V.int (i : Int) := fun z => by
      injection z with z
      omega
    show decide (He.ga K (kn[j]'hj) = He.ga K x) = decide (V.int (0 + (j : Int)) = V.int (i : Int))
    rw [decide_eq_false n1, decide_eq_false n2]
theorem ok_own {f fK : Addr} {fd fdK : FuncData} (F : Fun K "_law_is_own" "_law_is_own" (top 60) f fd) (GK : FnOk Pg w K mg base CX0 2 fK fdK ["e"] (spKinds K kn)) (kK : PySem.W.keepIn K (.ref fK) = true) (bK : Binds K fdK ["e"] []) (gK : mg "_law_kinds" = some (.ref fK))
    (gI : mg "isinstance" = none) (gR : mg "range" = none) (gV : mg "ValueError" = none) (gL : mg "LookupError" = none) (gS : mg "SwapError" = some (.ref (He.ga K "SwapError")))
    (inj : ∀ (i j : Nat) (x y : Str), kn[i]? = some x → kn[j]? = some y → He.ga K x = He.ga K y → i = j) : FnOk Pg w K mg base CX0 3 f fd ["e", "at"] (spOwn K) := by
  refine F.ok sk_own (fun vs H Q E h => ?_) (fun cdv A outer s H vs Q E hr h => ?_)
  · obtain ⟨a, D, i, rfl, _⟩ := h
    rfl
  · obtain ⟨a, D, i, rfl, ex, ec, kt, kS, kV, kL, hi, k⟩ := h
    have hu64 : A.units + 3 + 64 < cLine := by
      have := hr.un
      exact Nat.lt_of_le_of_lt (by show A.units + 3 + 64 ≤ A.units + 3 + 16 * 2 + 200; omega) this
    refine ⟨_, pss_cons (ps_if (PW.pt (pw_or (pt_not (pt_val (pe_callB call_isX (by rfl) gI boot_isinstance (pa_cons (pv 0) (pa_cons (pe_glob rfl gS (v := .ref (He.ga K "SwapError")) rfl) pa_nil)))))
        (pw_or (pt_not (pt_val (pe_callB call_isX (by rfl) gI boot_isinstance (pa_cons (pv 0) (pa_cons (pe_bltn (v := .ty "ValueError") rfl gV boot_VE rfl) pa_nil)))))
        (pw_or1 (pt_val (pe_callB call_isX (by rfl) gI boot_isinstance (pa_cons (pv 0) (pa_cons (pe_bltn (v := .ty "LookupError") rfl gL (by decide +kernel) rfl) pa_nil)))))))) (pss_one (ps_ret pe_bl)) pss_nil)
      (pss_one (ps_ret (pe_cmpR (op_eqD hu64) (pe_call GK hr rfl gK kK bK .nil pass0 (pa_cons (pv 0) pa_nil))
        (pe_lc (own := [("k", 2)]) (g := gName 2) (tt := tYes) (te := teEq) rfl sk_own.nd (pi_range1 rfl gR (pa_cons pe_int pa_nil)) (blkOk_by (N := ["e", "at", "k"]) (sc := defScope (top 60)) (by decide +kernel))
          (fun _ _ _ _ _ => pg_name (i := 2) sk_own.nd rfl (Or.inl rfl)) (fun _ _ _ _ _ => pts_nil) (fun _ _ _ _ _ => by exact (pe_cmpR op_eq (pv 2) (pv 1) (nomark _)))) (nomark _)))), ?_⟩
    refine ⟨_, rfl, a, D, _, _, true, rfl, ClsV.own _, ex, ec, kS, true, rfl, iteF ?_⟩
    refine ⟨_, rfl, a, D, _, _, true, rfl, ClsV.ty _, ex, ec, kV, true, rfl, iteF ?_⟩
    refine ⟨_, rfl, a, D, _, _, false, rfl, ClsV.ty _, ex, ec, kL, false, rfl, iteF ?_⟩
    refine ⟨_, rfl, a, D, rfl, ex, ec, kt, fun H1 l1 s1 n1 h1 => ?_⟩
    refine ⟨47, rfl, by decide, by decide, fun d nd => ?_⟩
    have dl : d ≠ l1 := (ne_of_none h1 nd).symm
    refine lc_range (n := 47) (fun j H' => Same H1 H' ∧ H' d = some (.lst ((List.range j).map fun q => V.bl (eqAt i q)))) ⟨same_up nd, upd_same⟩ ?_ ?_
    · rintro j H2 hj ⟨s2, h2⟩
      refine ⟨rfl, (?_ : teEq _ H2 _)⟩
      refine ⟨_, rfl, _, rfl, rfl, _, h2, small1000 (by rw [List.length_map, List.length_range]; omega), fun b o e => ?_, ?_⟩
      · rw [upd_ne (ne_of_none e nd)]
        exact s2 _ _ e
      · rw [upd_same, List.range_succ, List.map_append]
        rfl
    · rintro H2 ⟨s2, h2⟩
      have e : kn.map (isB K D) = ((List.range 47).map (eqAt i)).map V.bl := by
        rw [← own_list inj hi, List.map_map]
        rfl
      have h1' : H2 l1 = some (.lst (((List.range 47).map (eqAt i)).map V.bl)) := by
        rw [← e]
        exact s2 _ _ h1
      have h2' : H2 d = some (.lst (((List.range 47).map (eqAt i)).map V.bl)) := by
        rw [h2, List.map_map]
        rfl
      refine ⟨_, _, .lst (SqL.of h1') (dp_bools _), .lst (SqL.of h2') (dp_bools _), shaped_bools _, shaped_bools _, ?_⟩
      have ev : PyData.eqv (.list (((List.range 47).map (eqAt i)).map PyData.bool)) (.list (((List.range 47).map (eqAt i)).map PyData.bool)) = true := by
        show PyData.eqv _ _ = true
        simp only [PyData.eqv]
        exact eqv_bools _
      rw [ev]
      exact k _ (s1.trans s2)
end
end Kk
namespace Kf
open PySem PySem.Spec PyProof.Rows L2 Kx Kl LamX Kc Kk
open PySem.W (nsIn findIn typeIn subIn keepIn clsIn hasDictIn specialIn takesIn mroIn kitOne kitCls)
abbrev veT : List Value := [.type "ValueError", .type "Exception", .type "BaseException", .type "object"]
/-- the class at C: its mro is C and bm, it is made by ValueError's new -/
def clsB (K : PySem.W.Frag) (C : Addr) (bm : List Value) : Bool := match K.lookup C with
  | some ⟨.type "type", _, .cls cd, sl⟩ => (match sl.toList with
    | [_, _, _, _, some (.builtin n), _] => n == "ValueError.__new__" && (!cd.hasDel && (cd.hasDict && cd.mro == .ref C :: bm))
    | _ => false)
  | _ => false
theorem clsB_ok {K : PySem.W.Frag} {C : Addr} {bm : List Value} (q : clsB K C bm = true) : ∃ nm qn N bs sn sub ab col dd k0 k1 k2 k3 k5,
    K.lookup C = some (excClassObj nm qn C N bs bm true sn sub ab col dd k0 k1 k2 k3 k5 "ValueError.__new__") := by
  unfold clsB at q
  split at q
  · rename_i dd cd sl ho
    split at q
    · rename_i k0 k1 k2 k3 n k5 hs
      simp only [Bool.and_eq_true, beq_iff_eq, Bool.not_eq_true'] at q
      obtain ⟨rfl, hdel, hdi, hmro⟩ := q
      obtain ⟨nm, bs, mro, ns, qn, hd, sn, sub, ab, col, del⟩ := cd
      dsimp only at hdel hdi hmro
      subst hdel hdi hmro
      have hsl : sl = #[k0, k1, k2, k3, some (.builtin "ValueError.__new__"), k5] := by
        obtain ⟨l⟩ := sl
        simp only at hs
        rw [hs]
      subst hsl
      exact ⟨nm, qn, ns, bs, sn, sub, ab, col, dd, k0, k1, k2, k3, k5, ho⟩
    · cases q
  · cases q
theorem clsIn_of {K : PySem.W.Frag} {C : Addr} {bm : List Value} (q : clsB K C bm = true) : ∃ cd, clsIn K C = some cd ∧ cd.mro = .ref C :: bm ∧ cd.hasDict = true := by
  obtain ⟨nm, qn, N, bs, sn, sub, ab, col, dd, k0, k1, k2, k3, k5, h⟩ := clsB_ok q
  unfold clsIn
  rw [h]
  exact ⟨_, rfl, rfl, rfl⟩
theorem typeIn_of {K : PySem.W.Frag} {C : Addr} {bm : List Value} (q : clsB K C bm = true) : typeIn K (.ref C) = some (.type "type") := by
  obtain ⟨nm, qn, N, bs, sn, sub, ab, col, dd, k0, k1, k2, k3, k5, h⟩ := clsB_ok q
  show (K.lookup C).map (·.cls) = _
  rw [h]
  rfl
theorem mroIn_of {K : PySem.W.Frag} {C : Addr} {bm : List Value} (q : clsB K C bm = true) (b : Value) : mroIn K C b = some ((Value.ref C :: bm).contains b) := by
  obtain ⟨cd, h1, h2, _⟩ := clsIn_of q
  unfold mroIn
  rw [h1]
  show (if cd.mro.isEmpty = true then none else some (cd.mro.contains b)) = _
  rw [h2]
  rfl
theorem kit_own {K : PySem.W.Frag} {D C : Addr} {bm bm' : List Value} (qD : clsB K D bm = true) (qC : clsB K C bm' = true) (hn : bm.contains (.ref C) = false) : kitOne K (.ref D) (.ref C) = some (decide (C = D)) := by
  unfold kitOne
  by_cases e : D = C
  · subst e
    rw [if_pos (by simp), decide_eq_true rfl]
  · have e1 : (Value.ref D == Value.ref C) = false := beq_eq_false_iff_ne.mpr fun z => e (Value.ref.inj z)
    rw [if_neg (by rw [e1]; exact Bool.false_ne_true)]
    obtain ⟨cd, h1, _⟩ := clsIn_of qC
    have c1 : ((clsIn K C).isSome && typeIn K (.ref C) == some (.type "type")) = true := by
      rw [h1, typeIn_of qC]
      rfl
    show (if ((clsIn K C).isSome && typeIn K (.ref C) == some (.type "type")) = true then subIn K (.ref D) (.ref C) else none) = _
    rw [if_pos c1]
    show mroIn K D (.ref C) = _
    have e2 : (Value.ref C == Value.ref D) = false := beq_eq_false_iff_ne.mpr fun z => e (Value.ref.inj z).symm
    rw [mroIn_of qD, List.contains_cons, hn, e2, decide_eq_false (fun z => e z.symm)]
    rfl
theorem kit_base {K : PySem.W.Frag} {D S : Addr} {bm bm' : List Value} (qD : clsB K D bm = true) (qS : clsB K S bm' = true) (hn : (Value.ref D :: bm).contains (.ref S) = true) : kitOne K (.ref D) (.ref S) = some true := by
  unfold kitOne
  by_cases e : D = S
  · subst e
    rw [if_pos (by simp)]
  · have e1 : (Value.ref D == Value.ref S) = false := beq_eq_false_iff_ne.mpr fun z => e (Value.ref.inj z)
    rw [if_neg (by rw [e1]; exact Bool.false_ne_true)]
    obtain ⟨cd, h1, _⟩ := clsIn_of qS
    have c1 : ((clsIn K S).isSome && typeIn K (.ref S) == some (.type "type")) = true := by
      rw [h1, typeIn_of qS]
      rfl
    show (if ((clsIn K S).isSome && typeIn K (.ref S) == some (.type "type")) = true then subIn K (.ref D) (.ref S) else none) = _
    rw [if_pos c1]
    show mroIn K D (.ref S) = _
    rw [mroIn_of qD, hn]
theorem kit_ty {K : PySem.W.Frag} {D : Addr} {bm : List Value} {T : String} {b : Bool} (qD : clsB K D bm = true) (hm : PySem.W.kitMeta T = true) (hn : (Value.ref D :: bm).contains (.type T) = b) : kitOne K (.ref D) (.type T) = some b := by
  unfold kitOne
  have e1 : (Value.ref D == Value.type T) = false := beq_eq_false_iff_ne.mpr fun z => by cases z
  rw [if_neg (by rw [e1]; exact Bool.false_ne_true)]
  show (if PySem.W.kitMeta T = true then subIn K (.ref D) (.type T) else none) = _
  rw [if_pos hm]
  show mroIn K D (.type T) = _
  rw [mroIn_of qD, hn]
def eqO (a b : Option (Option Value)) : Bool := He.eqO a b
/-- what isinstance and the reading of a field ask of a class -/
def attB (K : PySem.W.Frag) (C : Addr) : Bool :=
  He.eqO (findIn K (.ref C) "__getattribute__") (some (some (.builtin "BaseException.__getattribute__"))) && (He.eqO (findIn K (.ref C) "__getattr__") (some none) && He.eqO (findIn K (.ref C) "__class__") (some (some (.builtin "object.__class__"))))
theorem exc_of {K : PySem.W.Frag} {C : Addr} {bm : List Value} (q : clsB K C bm = true) (a : attB K C = true) (hb : (Value.ref C :: bm).contains (.type "BaseException") = true) (ho : (Value.ref C :: bm).contains (.type "object") = true)
    (hn : specialIn K (.builtin "object.__class__") "__get__" = some (some (.builtin "getset_descriptor.__get__"))) (ht : takesIn K (.builtin "object.__class__") = some true) : ExcC K C ∧ XfC K C := by
  obtain ⟨a1, a⟩ := He.ba a
  obtain ⟨a2, a3⟩ := He.ba a
  obtain ⟨cd, h1, _, h3⟩ := clsIn_of q
  have hs : subIn K (.ref C) (.type "BaseException") = some true := by
    show mroIn K C (.type "BaseException") = _
    rw [mroIn_of q, hb]
  have hd : hasDictIn K C = true := by
    unfold hasDictIn
    rw [h1]
    exact h3
  exact ⟨⟨He.eqO_ok a1, He.eqO_ok a2, hs, hd, He.eqO_ok a3, hn, ht, by rw [mroIn_of q, ho]⟩, ⟨He.eqO_ok a1, He.eqO_ok a2, hs, hd⟩⟩
/-- one class of errors, its fields -/
def oneB (K : PySem.W.Frag) (C S : Addr) (fs : List Str) : Bool :=
  clsB K C (.ref S :: veT) && (attB K C && (He.eqO (findIn K (.ref C) "__setattr__") (some (some (.builtin "object.__setattr__"))) && (keepIn K (.ref C) &&
    (He.eqO (findIn K (.ref C) "__init__") (some (some (.ref (He.ma K C "__init__")))) && (decide (typeIn K (.ref (He.ma K C "__init__")) = some (.type "function")) && fs.all fun f => He.eqO (findIn K (.ref C) f) (some none))))))
theorem mro_has {C S : Addr} {T : String} : (Value.ref C :: .ref S :: veT).contains (.type T) = veT.contains (.type T) := by
  rw [List.contains_cons, List.contains_cons]
  rfl
theorem one_of {K : PySem.W.Frag} {mg : Str → Option Value} {x : Str} {S : Addr} {fs : List Str} (g : mg x = some (.ref (He.ga K x))) (q : oneB K (He.ga K x) S fs = true)
    (hn : specialIn K (.builtin "object.__class__") "__get__" = some (some (.builtin "getset_descriptor.__get__"))) (ht : takesIn K (.builtin "object.__class__") = some true) : ClsX K mg x fs := by
  obtain ⟨q1, q⟩ := He.ba q
  obtain ⟨q2, q⟩ := He.ba q
  obtain ⟨q3, q⟩ := He.ba q
  obtain ⟨q4, q⟩ := He.ba q
  obtain ⟨q5, q⟩ := He.ba q
  obtain ⟨q6, q7⟩ := He.ba q
  obtain ⟨e1, e2⟩ := exc_of q1 q2 (by rw [mro_has]; decide +kernel) (by rw [mro_has]; decide +kernel) hn ht
  obtain ⟨nm, qn, N, bs, sn, sub, ab, col, dd, k0, k1, k2, k3, k5, h⟩ := clsB_ok q1
  exact ⟨g, ⟨⟨nm, qn, N, bs, _, sn, sub, ab, col, dd, k0, k1, k2, k3, k5, h, rfl⟩, He.eqO_ok q3, e1.hs, typeIn_of q1, q4⟩, He.eqO_ok q5, of_decide_eq_true q6, fun f hf => He.eqO_ok (List.all_eq_true.mp q7 f hf), e1, e2⟩
/-- numbers that ascend -/
def asc : List Addr → Bool
  | a :: b :: r => Nat.blt a b && asc (b :: r)
  | _ => true
theorem asc_lt : ∀ {l : List Addr} {a b : Addr} {i j : Nat}, asc l = true → i < j → l[i]? = some a → l[j]? = some b → a < b
  | [], _, _, _, _, _, _, h, _ => by simp at h
  | [_], _, _, i, j, _, hl, h1, h2 => by
    match i, j, hl, h1, h2 with
    | 0, j + 1, _, _, h2 => simp at h2
    | i + 1, _, _, h1, _ => simp at h1
  | x :: y :: r, a, b, i, j, h, hl, h1, h2 => by
    obtain ⟨e1, e2⟩ := He.ba (show (Nat.blt x y && asc (y :: r)) = true from h)
    have xy : x < y := Nat.le_of_ble_eq_true e1
    match i, j, hl, h1, h2 with
    | 0, 1, _, h1, h2 =>
      have a1 : x = a := by simpa using h1
      have b1 : y = b := by simpa using h2
      rw [← a1, ← b1]
      exact xy
    | 0, j + 2, _, h1, h2 =>
      have a1 : x = a := by simpa using h1
      rw [← a1]
      exact Nat.lt_trans xy (asc_lt (l := y :: r) (i := 0) (j := j + 1) e2 (by omega) rfl (by simpa using h2))
    | i + 1, j + 1, hl, h1, h2 => exact asc_lt (l := y :: r) (i := i) (j := j) e2 (by omega) (by simpa using h1) (by simpa using h2)
end Kf
namespace Kg
open PySem PySem.Spec PyProof.Rows L2 LamX
/-- the law's promise at the heap behind the top, the tables of some code objects known -/
theorem law_goesT {P : Program} {w : World} {K : PySem.W.Frag} {mg mb : Str → Option Value} {k : Nat} {fa a : Addr} {cs : List (Addr × Addr)} {fd : FuncData} {x : Str} {sp : Sp} {s1 : Shared} {vs : List Value} {ns : List Int}
    (KX : K.In s1.heap) (hns : s1.heap.Ns mainGlobals mg) (hb : s1.heap.Ns builtinsNs mb) (hbb : ∀ x : Str, x ≠ "__name__" → mb x = bootBuiltins x)
    (hlim : s1.heap.NoLimit) (hg : s1.gens = #[])
    (hT : ∀ p ∈ cs, s1.heap.get? p.2 = some { cls := .none, data := .fields #[] }) (nT : ∀ p ∈ cs, K.lookup p.2 = none) (hC : ∀ p ∈ cs, PySem.W.CodeHd s1.heap p.1 p.2)
    (hbm : ∃ (bm : Addr) (ob : Obj), mg "__builtins__" = some (.ref bm) ∧ bm ≠ builtinsNs ∧ s1.heap.get? bm = some ob ∧ ob.cls = .type "module" ∧ ob.dict = some builtinsNs ∧ ob.data = .plain)
    (ha : s1.heap.get? a = some { cls := .type "list", data := .seq vs.toArray }) (hi : IntsAre vs ns)
    (hl : ns.length ≤ sizeLine) (hr : Room k callerA)
    (F : ∀ base : Heap, K.In base → base.Ns mainGlobals mg → (∀ p ∈ cs, TabB base mg p.1 p.2) → FnG P w K mg base k fa fd [x] sp)
    (hbind : ∀ (s : Shared) (u : Value), BindsTo s fd ⟨[u], []⟩ [(x, u)])
    (hsp : ∀ H : Hp, (∀ p ∈ cs, H p.2 = some (.tbl #[])) → SqL K H a (ns.map V.int) → sp [.ref a] H (fun v _ => v = .bl true) fun _ _ _ => False) :
    codeAny (model P w) callerA (.call (.ref fa) ⟨[.ref a], []⟩)
      (fun r s' => r = .ok (.ret (.bool true)) ∧ OldK s1.heap s'.heap ∧ s'.os = s1.os ∧ AllBare s'.gens) s1 := by
  have rv := vals_ints hi
  have lenV := hi.length
  have nil : ∀ b : Addr, b ∉ ([] : List Addr) := fun b => by simp
  have memT : ∀ p ∈ cs, p.2 ∈ cs.map (·.2) :=
    fun p hp => List.mem_map.mpr ⟨p, hp, rfl⟩
  have isT : ∀ b : Addr, b ∈ cs.map (·.2) → s1.heap.get? b = some { cls := .none, data := .fields #[] } := by
    intro b hb
    obtain ⟨p, hp, e⟩ := List.mem_map.mp hb
    subst e
    exact hT p hp
  have aT : a ∉ cs.map (·.2) := by
    intro z
    have q := isT a z
    rw [ha] at q
    have z' : Data.seq vs.toArray _ = Data.fields #[] := congrArg Obj.data (Option.some.inj q)
    cases z'
  have core : ∀ H : Hp, (∀ p ∈ cs, H p.2 = some (.tbl #[])) →
      (∀ b, H b = none ∨ b ∈ cs.map (·.2) ∨ ∃ o xs, H b = some (.frz o (.lst xs))) →
      SqL K H a (ns.map V.int) → HOk P w H s1.heap →
      (∀ b, H b ≠ none → b = a ∨ b ∈ cs.map (·.2)) → (H a ≠ none → K.lookup a = none) →
      codeAny (model P w) callerA (.call (.ref fa) ⟨[.ref a], []⟩)
        (fun r s' => r = .ok (.ret (.bool true)) ∧ OldK s1.heap s'.heap ∧ s'.os = s1.os ∧ AllBare s'.gens) s1 := by
    intro H hH hO hS hok hA hK
    have here : ∀ {b : Addr} {u : HO}, H b = some u → b = a ∨ b ∈ cs.map (·.2) :=
      fun {b u} q => hA b (by rw [q]; simp)
    have base_of : ∀ {b : Addr} {o : Obj}, s1.heap.get? b = some o → H b = none → (hidT s1.heap H).get? b = some o :=
      fun e n => hidT_get e n
    have noD : ∀ {b : Addr} {o : Obj}, s1.heap.get? b = some o → (∀ vs n, o.data ≠ .seq vs n) → o.data ≠ .fields #[] → H b = none := by
      intro b o e h1 h2
      cases q : H b with
      | none => rfl
      | some u =>
        rcases here q with e' | e'
        · subst e'
          rw [ha] at e
          cases e
          exact absurd rfl (h1 _ _)
        · rw [isT b e'] at e
          cases e
          exact absurd rfl h2
    have noA : ∀ {b : Addr} {o : Obj} {es : Array DictEntry} {ep : Nat},
        s1.heap.get? b = some o → o.data = .dict es ep → H b = none := by
      intro b o es ep e d
      refine noD e (fun vs n z => ?_) fun z => ?_ <;>
        (rw [d] at z; cases z)
    have nsK : ∀ {b : Addr} {m : Str → Option Value}, s1.heap.Ns b m → (hidT s1.heap H).Ns b m := by
      intro b m z
      obtain ⟨o, es, ep, e, d, r⟩ := z
      exact ⟨o, es, ep, base_of e (noA e d), d, r⟩
    have hKb : K.In (hidT s1.heap H) := by
      intro b o e
      refine base_of (KX b o e) ?_
      cases q : H b with
      | none => rfl
      | some u =>
        rcases here q with e' | e'
        · subst e'
          rw [hK (by rw [q]; simp)] at e
          cases e
        · obtain ⟨p, hp, ep⟩ := List.mem_map.mp e'
          subst ep
          rw [nT p hp] at e
          cases e
    obtain ⟨mc, lim1, lim2⟩ := hlim
    have hM : Mod K mg (hidT s1.heap H) :=
      ⟨hKb, nsK hns, ⟨mb, nsK hb, hbb⟩, ⟨mc, nsK lim1, lim2⟩⟩
    have TB : ∀ p ∈ cs, TabB (hidT s1.heap H) mg p.1 p.2 := by
      intro p hp
      have hTp := hT p hp
      refine ⟨?_, ?_, fun z => ?_⟩
      · obtain ⟨o, us, file, tf, flags, tg, inF, text, tt, e1, r1, r2, r3, r4, r5, r6, r7, r8, hne⟩ := hC p hp
        refine ⟨o, us, file, tf, flags, tg, inF, text, tt, base_of e1 (noD e1 (fun vs n z => ?_) fun z => ?_), r1, r2, r3, r4, r5, r6, r7, r8, hne⟩
        · rw [r2] at z
          cases z
        · rw [r2] at z
          cases z
          simp at r3
      · obtain ⟨bm, ob, b1, b2, b3, b4, b5, b6⟩ := hbm
        have nG : bm ≠ mainGlobals := by
          intro q
          obtain ⟨o, es, ep, e, hd, _⟩ := hns
          rw [q, e] at b3
          cases b3
          rw [hd] at b6
          cases b6
        have nP : bm ≠ p.2 := by
          intro q
          rw [q, hTp] at b3
          cases b3
          cases b6
        refine ⟨bm, ob, b1, b2, nG, nP, base_of b3 (noD b3 (fun vs n z => ?_) fun z => ?_), b4, b5, b6⟩ <;>
          (rw [b6] at z; cases z)
      · obtain ⟨o, es, ep, e, hd, _⟩ := hns
        rw [z, hTp] at e
        cases e
        cases hd
    have e0 : Env0 P w K mg (hidT s1.heap H) callerA [] s1 H :=
      ⟨rfl, hM, fun b o e => of_hidT e, Nat.le_of_eq (hidT_size _ _), trivial,
        fun b z => (nil b z).elim, hok, .of_eq hg⟩
    refine codeAny_mono ((F _ hKb (nsK hns) TB).goes callerA [] s1 H ⟨[.ref a], []⟩ [.ref a] [.ref a] _ _ rfl hr e0
      (hbind s1 (.ref a)) (.cons rfl .nil) (hsp H hH hS)) fun r s' h => ?_
    cases r with
    | error e => exact False.elim h
    | ok fl =>
      cases fl with
      | next => exact h.elim
      | brk => exact h.elim
      | cont => exact h.elim
      | ret u =>
        obtain ⟨v, H', os, bare, un, hok', r', q⟩ := h
        have q' : v = .bl true := q
        subst q'
        obtain rfl : u = Value.bool true := r'
        have key : ∀ b o, b ∉ cs.map (·.2) → s1.heap.get? b = some o → s'.heap.get? b = some o := by
          intro b o nb e
          cases q : H b with
          | none => exact un.keep b o e q (nil b) (by simp)
          | some u =>
            rcases hO b with z | z | ⟨ob, xs, z⟩
            · rw [q] at z
              cases z
            · exact absurd z nb
            · have z2 := un.frzs b ob _ z
              obtain ⟨e1, _⟩ := hok b _ z
              obtain ⟨e2, _⟩ := hok' b _ z2
              rw [e] at e1
              cases e1
              exact e2
        have grown : ∀ p ∈ cs, ∃ more : Array Value, s'.heap.get? p.2 = some { cls := .none, data := .fields more } := by
          intro p hp
          obtain ⟨more, z⟩ := un.tbls p.2 #[] (hH p hp)
          exact ⟨_, hok' p.2 _ z⟩
        refine ⟨rfl, ⟨fun b o e => ?_, fun b o e => ?_⟩, os, bare⟩
        · by_cases hb : b ∈ cs.map (·.2)
          · obtain ⟨p, hp, ep⟩ := List.mem_map.mp hb
            obtain ⟨more, hm⟩ := grown p hp
            subst ep
            rw [hT p hp] at e
            cases e
            exact .inr (.inl ⟨((hC p hp).tab (hT p hp)).isCodeTable, rfl, #[], more, rfl, by rw [Array.empty_append]; exact hm⟩)
          · exact .inl (key b o hb e)
        · by_cases hb : b ∈ cs.map (·.2)
          · obtain ⟨p, hp, ep⟩ := List.mem_map.mp hb
            obtain ⟨more, hm⟩ := grown p hp
            subst ep
            exact ⟨_, hm⟩
          · exact ⟨o, key b o hb e⟩
  cases hk : K.lookup a with
  | some o =>
    have e := KX a o hk
    rw [ha] at e
    cases e
    refine core (fun b => if b ∈ cs.map (·.2) then some (.tbl #[]) else none) (fun p hp => if_pos (memT p hp)) (fun b => ?_)
      (.inr ⟨_, vs.toArray, _, hk, rfl, rfl, rfl, by rw [List.size_toArray, lenV]; exact hl, by simpa using rv⟩)
      (fun b u z => ?_) (fun b z => ?_) fun z => absurd (show (if a ∈ cs.map (·.2) then some (HO.tbl #[]) else none) = none from if_neg aT) z
    · by_cases hb : b ∈ cs.map (·.2)
      · exact .inr (.inl hb)
      · exact .inl (if_neg hb)
    · by_cases hb : b ∈ cs.map (·.2)
      · have z' := (if_pos hb).symm.trans z
        cases z'
        exact isT b hb
      · have z' := (if_neg hb).symm.trans z
        cases z'
    · by_cases hb : b ∈ cs.map (·.2)
      · exact .inr hb
      · exact absurd (if_neg hb) z
  | none =>
    refine core (fun b => if b = a then some (.frz { cls := .type "list", data := .seq vs.toArray } (.lst (ns.map V.int))) else if b ∈ cs.map (·.2) then some (.tbl #[]) else none)
      (fun p hp => (if_neg (show ¬ p.2 = a from fun z => aT (by rw [← z]; exact memT p hp))).trans (if_pos (memT p hp))) (fun b => ?_)
      (.inl (.inr ⟨{ cls := .type "list", data := .seq vs.toArray }, if_pos rfl⟩)) (fun b u z => ?_) (fun b z => ?_) fun _ => hk
    · by_cases hb : b = a
      · exact .inr (.inr ⟨_, _, if_pos hb⟩)
      · by_cases hb2 : b ∈ cs.map (·.2)
        · exact .inr (.inl hb2)
        · exact .inl ((if_neg hb).trans (if_neg hb2))
    · by_cases hb : b = a
      · have z' := (if_pos hb).symm.trans z
        cases z'
        subst hb
        exact ⟨ha, by rw [List.length_map]; exact hl, vs, _, rv, ha⟩
      · have z1 := (if_neg hb).symm.trans z
        by_cases hb2 : b ∈ cs.map (·.2)
        · have z' := (if_pos hb2).symm.trans z1
          cases z'
          exact isT b hb2
        · have z' := (if_neg hb2).symm.trans z1
          cases z'
    · by_cases hb : b = a
      · exact .inl hb
      · by_cases hb2 : b ∈ cs.map (·.2)
        · exact .inr hb2
        · exact absurd ((if_neg hb).trans (if_neg hb2)) z
theorem walkT {l : PySem.W.OpenLaw} {n k : Nat} {q : Program} {loose : List Str} {XP : (Str → Option Value) → Heap → Prop} {YP : World → Heap → Prop} {d : DefRec} {x : Str}
    (hn : l.most = some n) (hn2 : n ≤ sizeLine) (hdf : d.params.defaults = []) (hr : Room k callerA)
    (F : ∀ (w : World) (mg : Str → Option Value) (fa : Addr) (h : Heap), YP w h → h.Ns mainGlobals mg → mg d.name = some (.ref fa) →
      ∃ (K : PySem.W.Frag) (fd : FuncData) (cs : List (Addr × Addr)) (sp : Sp), K.In h ∧ (∀ p ∈ cs, h.get? p.2 = some { cls := .none, data := .fields #[] }) ∧ (∀ p ∈ cs, K.lookup p.2 = none) ∧ (∀ p ∈ cs, PySem.W.CodeHd h p.1 p.2) ∧
        (∀ (s : Shared) (u : Value), BindsTo s fd ⟨[u], []⟩ [(x, u)]) ∧
        (∀ (H : Hp) (a : Addr) (ns : List Int), ns.length ≤ n → (∀ p ∈ cs, H p.2 = some (.tbl #[])) → SqL K H a (ns.map V.int) → sp [.ref a] H (fun v _ => v = .bl true) fun _ _ _ => False) ∧
        ∀ base : Heap, K.In base → base.Ns mainGlobals mg → (∀ p ∈ cs, TabB base mg p.1 p.2) → FnG l.prog w K mg base k fa fd [x] sp) :
    PySem.W.WalkO q loose XP YP l.row.toRowW d [] (fun f vs => PySem.call f vs) := by
  refine Att.attach_callB hn hdf fun w s0 s1 mg mb fa o pm cd doc a vs ns G Y ho hd hcd hmg hobj hints hlen hbits hg => ?_
  obtain ⟨K, fd, cs, sp, KX, hT, nT, hC, hb, hsp, hF⟩ := F w mg fa _ Y G.T.g hmg
  exact law_goesT KX G.T.g G.T.b G.T.builtins G.T.nolimit hg hT nT hC G.T.bmain hobj hints (Nat.le_trans hlen hn2) hr hF hb
    fun H hH hS => hsp H a ns hlen hH hS
end Kg
namespace Kq
open PySem PySem.Spec PyProof.Rows L2 Kx Kl LamX Kc Kk Kd
/-! ### the things that are drawn from -/
abbrev menu (l1 t1 d1 l2 t2 : Addr) : List V := [.non, .int 5, .int (-1), .bl true, .str "a", .str "", .ref l1, .ref t1, .ref d1, .ref l2, .int (10 ^ (30 : Int).toNat), .ref t2, .bl false, .int 0, .int 1]
def menuData : List PyData := [.none, .int 5, .int (-1), .bool true, .str "a", .str "", .list [.int 1, .str "b"], .tuple [.int 2, .none], .dict [(.str "a", .int 1)], .list [.list [.str "x"]], .int (10 ^ (30 : Int).toNat), .tuple [.str "s", .int 3],
  .bool false, .int 0, .int 1]
structure Menu (H : Hp) (c l1 t1 d1 l2 l3 t2 : Addr) : Prop where
  hc : H c = some (.lst (menu l1 t1 d1 l2 t2))
  h1 : H l1 = some (.lst [.int 1, .str "b"])
  h2 : H t1 = some (.tup [.int 2, .non])
  h3 : H d1 = some (.dK [(.inr "a", .int 1)])
  h4 : H l2 = some (.lst [.ref l3])
  h5 : H l3 = some (.lst [.str "x"])
  h6 : H t2 = some (.tup [.str "s", .int 3])
section
variable {H H' : Hp} {c l1 t1 d1 l2 l3 t2 : Addr}
theorem Menu.keep (M : Menu H c l1 t1 d1 l2 l3 t2) (k : ∀ b ∈ [c, l1, t1, d1, l2, l3, t2], ∀ o, H b = some o → H' b = some o) : Menu H' c l1 t1 d1 l2 l3 t2 :=
  ⟨k _ (by simp) _ M.hc, k _ (by simp) _ M.h1, k _ (by simp) _ M.h2, k _ (by simp) _ M.h3, k _ (by simp) _ M.h4, k _ (by simp) _ M.h5, k _ (by simp) _ M.h6⟩
theorem Menu.notbl (M : Menu H c l1 t1 d1 l2 l3 t2) : ∀ b ∈ [c, l1, t1, d1, l2, l3, t2], ∀ o, H b = some o → ∀ ps, o ≠ .tbl ps := by
  intro b hb o e ps z
  subst z
  simp only [List.mem_cons, List.not_mem_nil, or_false] at hb
  rcases hb with rfl | rfl | rfl | rfl | rfl | rfl | rfl
  · rw [M.hc] at e; cases e
  · rw [M.h1] at e; cases e
  · rw [M.h2] at e; cases e
  · rw [M.h3] at e; cases e
  · rw [M.h4] at e; cases e
  · rw [M.h5] at e; cases e
  · rw [M.h6] at e; cases e
theorem Menu.dx (M : Menu H c l1 t1 d1 l2 l3 t2) : ∀ v ∈ menu l1 t1 d1 l2 t2, ∃ d ∈ menuData, Kr.Dx H v d := by
  intro v hv
  simp only [menu, List.mem_cons, List.not_mem_nil, or_false] at hv
  rcases hv with rfl | rfl | rfl | rfl | rfl | rfl | rfl | rfl | rfl | rfl | rfl | rfl | rfl | rfl | rfl
  · exact ⟨_, by simp [menuData], .non⟩
  · exact ⟨.int 5, by simp [menuData], .int 5⟩
  · exact ⟨.int (-1), by simp [menuData], .int (-1)⟩
  · exact ⟨.bool true, by simp [menuData], .bl true⟩
  · exact ⟨.str "a", by simp [menuData], .str "a"⟩
  · exact ⟨.str "", by simp [menuData], .str ""⟩
  · exact ⟨.list [.int 1, .str "b"], by simp [menuData], .lst M.h1 (.cons (.int 1) (.cons (.str "b") .nil))⟩
  · exact ⟨.tuple [.int 2, .none], by simp [menuData], .tup M.h2 (.cons (.int 2) (.cons .non .nil))⟩
  · exact ⟨.dict [(.str "a", .int 1)], by simp [menuData], .dic M.h3⟩
  · exact ⟨.list [.list [.str "x"]], by simp [menuData], .lst M.h4 (.cons (.lst M.h5 (.cons (.str "x") .nil)) .nil)⟩
  · exact ⟨.int (10 ^ (30 : Int).toNat), by simp [menuData], .int _⟩
  · exact ⟨.tuple [.str "s", .int 3], by simp [menuData], .tup M.h6 (.cons (.str "s") (.cons (.int 3) .nil))⟩
  · exact ⟨.bool false, by simp [menuData], .bl false⟩
  · exact ⟨.int 0, by simp [menuData], .int 0⟩
  · exact ⟨.int 1, by simp [menuData], .int 1⟩
end
/-- what repr asks of a list's data -/
def okD (ds : List PyData) : Bool := (PyData.list ds).showable && (decide ((PyData.list ds).depth ≤ 60) && decide ((PyData.list ds).shown.length ≤ sizeLine))
theorem okD_of {ds : List PyData} (h : okD ds = true) : (PyData.list ds).showable = true ∧ (PyData.list ds).depth ≤ 60 ∧ (PyData.list ds).shown.length ≤ sizeLine := by
  obtain ⟨h1, h⟩ := He.ba h
  obtain ⟨h2, h3⟩ := He.ba h
  exact ⟨h1, of_decide_eq_true h2, of_decide_eq_true h3⟩
theorem all1 : (menuData.all fun d => okD [d]) = true := by decide +kernel
theorem all2 : (menuData.all fun d => menuData.all fun e => okD [d, e]) = true := by decide +kernel
theorem held1 : okD [.list [.str "v", .str "w"]] = true := by decide +kernel
theorem held2 : okD [.list [.str "v", .str "w"], .list [.str "v", .str "w"]] = true := by decide +kernel
/-- the lists of one or two of the things can be shown -/
theorem vals_ok {H : Hp} {c l1 t1 d1 l2 l3 t2 : Addr} (M : Menu H c l1 t1 d1 l2 l3 t2) {x y : V} (hx : x ∈ menu l1 t1 d1 l2 t2) (hy : y ∈ menu l1 t1 d1 l2 t2) (b : Bool) : ∃ ds, Kr.DxAll H (valsB x y b) ds ∧ okD ds = true := by
  obtain ⟨d, md, hd⟩ := M.dx x hx
  obtain ⟨e, me, he⟩ := M.dx y hy
  cases b with
  | false => exact ⟨[d], .cons hd .nil, List.all_eq_true.mp all1 d md⟩
  | true => exact ⟨[d, e], .cons hd (.cons he .nil), List.all_eq_true.mp (List.all_eq_true.mp all2 d md) e me⟩
/-! ### the list of all errors -/
def csAll : List (Str × Bool) := (cs_a ++ cs_b) ++ cs_c
theorem cs_kn : csAll.map (·.1) = kn := by decide +kernel
theorem tab_keep {H H' : Hp} {P Q : Addr} {q : Str} (hT : TabS H Q q) (k : KeepP P H H') (ne : Q ≠ P) (hP : ∃ ps, H P = some (.tbl ps)) : TabS H' Q q := by
  obtain ⟨ps, h1, h2, h3⟩ := hT
  obtain ⟨ps', hP⟩ := hP
  refine ⟨ps, k _ _ ne h1, h2, fun pos cv hc => ?_⟩
  obtain ⟨c0, e1, e2⟩ := h3 pos cv hc
  refine ⟨c0, e1, k _ _ (fun z => ?_) e2⟩
  rw [z, hP] at e2
  exact codeO_ne ps' (Option.some.inj e2).symm
theorem ext_of {H H' : Hp} {P : Addr} {ps : Array Value} (k : KeepP P H H') (hP : H P = some (.tbl ps)) : ExtN H H' := fun b o e n => k b o (fun z => by
  rw [z, hP] at e
  exact n ps (Option.some.inj e).symm) e
def tMk (Pg : Program) (w : World) (K : PySem.W.Frag) (mg : Str → Option Value) (base : Heap) (PA PB PC : Addr) (i j k : Nat) : TE :=
  tOp rCat (tOp rCat (tCall (spMade Pg w K mg base PA (qOf "_law_made_a") cs_a) [] E0 (tCons (tVar i) (tCons (tVar j) (tCons (tVar k) tNil))))
    (tCall (spMade Pg w K mg base PB (qOf "_law_made_b") cs_b) [] E0 (tCons (tVar i) (tCons (tVar j) (tCons (tVar k) tNil)))))
    (tCall (spMade Pg w K mg base PC (qOf "_law_made_c") cs_c) [] E0 (tCons (tVar i) (tCons (tVar j) (tCons (tVar k) tNil))))
structure Tabs3 (H : Hp) (PA PB PC : Addr) : Prop where
  a : TabS H PA (qOf "_law_made_a")
  b : TabS H PB (qOf "_law_made_b")
  c : TabS H PC (qOf "_law_made_c")
section
variable {Pg : Program} {w : World} {K : PySem.W.Frag} {mg : Str → Option Value} {base : Heap} {PA PB PC : Addr}
theorem Tabs3.same {H H' : Hp} (T : Tabs3 H PA PB PC) (s : Same H H') : Tabs3 H' PA PB PC := ⟨T.a.ext s, T.b.ext s, T.c.ext s⟩
theorem Grown.lP {P l : Addr} {q : Str} {x y : V} {H0 H : Hp} {ts : List (Addr × Addr)} {cs : List (Str × Bool)} (G : Grown Pg w K mg base P q x y H0 H l ts cs) {Q : Addr} {q' : Str} (hT : TabS H Q q') : l ≠ Q := fun z => by
  obtain ⟨ps, h, _⟩ := hT
  rw [← z, G.hl] at h
  cases h
theorem read_mk {H : Hp} {σ : L2.St} {Q : VK} {i j k : Nat} {x y z : V} (T : Tabs3 H PA PB PC) (nab : PA ≠ PB) (nac : PA ≠ PC) (nbc : PB ≠ PC) (hx : σ[i]? = some (some x)) (hy : σ[j]? = some (some y)) (hz : σ[k]? = some (some z))
    (kk : ∀ (H' : Hp) (l : Addr) (ts : List (Addr × Addr)), ExtN H H' → Tabs3 H' PA PB PC → H' l = some (.lst (ts.map fun t => V.ref t.1)) → Items Pg w K mg base H' x y ts csAll → Q (.ref l) H') :
    tMk Pg w K mg base PA PB PC i j k σ H Q := by
  obtain ⟨pa, hPA, _⟩ := id T.a
  obtain ⟨pb, hPB, _⟩ := id T.b
  obtain ⟨pc, hPC, _⟩ := id T.c
  refine ⟨x, hx, y, hy, z, hz, x, y, z, rfl, T.a, fun H1 la tsa GA => ?_⟩
  have e1 := ext_of GA.kp hPA
  have tb1 := tab_keep T.b GA.kp nab.symm ⟨pa, hPA⟩
  have tc1 := tab_keep T.c GA.kp nac.symm ⟨pa, hPA⟩
  obtain ⟨pb1, hPB1, _⟩ := id tb1
  refine ⟨x, hx, y, hy, z, hz, x, y, z, rfl, tb1, fun H2 lb tsb GB => ?_⟩
  have e2 := ext_of GB.kp hPB1
  have ta2 := tab_keep GA.tb GB.kp nab ⟨pb1, hPB1⟩
  have tc2 := tab_keep tc1 GB.kp nbc.symm ⟨pb1, hPB1⟩
  obtain ⟨pc2, hPC2, _⟩ := id tc2
  have hla2 := GB.kp _ _ (Grown.lP GA tb1) GA.hl
  refine ⟨la, lb, _, _, rfl, rfl, hla2, GB.hl, ?_, fun p np => ?_⟩
  · have f1 := GA.few
    have f2 := GB.few
    rw [List.length_map, List.length_map]
    exact Nat.le_of_lt (small1000 (by omega))
  have s3 := same_up (o := .lst (tsa.map (fun t => V.ref t.1) ++ tsb.map fun t => V.ref t.1)) np
  refine ⟨x, hx, y, hy, z, hz, x, y, z, rfl, tc2.ext s3, fun H4 lc tsc GC => ?_⟩
  have e4 := ext_of GC.kp (s3 _ _ hPC2)
  have hp4 := GC.kp p _ (fun q => by
    have := s3 _ _ hPC2
    rw [← q, upd_same] at this
    cases this) upd_same
  refine ⟨p, lc, _, _, rfl, rfl, hp4, GC.hl, ?_, fun p5 np5 => ?_⟩
  · have f1 := GA.few
    have f2 := GB.few
    have f3 := GC.few
    rw [List.length_append, List.length_map, List.length_map, List.length_map]
    exact Nat.le_of_lt (small1000 (by omega))
  have s5 := same_up (o := .lst ((tsa.map (fun t => V.ref t.1) ++ tsb.map fun t => V.ref t.1) ++ tsc.map fun t => V.ref t.1)) np5
  have e34 : ExtN H2 H4 := (ExtN.of s3).trans e4
  have pcs := s3 _ _ hPC2
  refine kk _ p5 ((tsa ++ tsb) ++ tsc) ((e1.trans e2).trans (e34.trans (.of s5))) ?_ ?_ ?_
  · refine Tabs3.same ⟨?_, ?_, GC.tb⟩ s5
    · exact tab_keep (ta2.ext s3) GC.kp nac ⟨pc2, pcs⟩
    · exact tab_keep (GB.tb.ext s3) GC.kp nbc ⟨pc2, pcs⟩
  · rw [upd_same, List.map_append, List.map_append]
  · refine paired_app (paired_app ?_ ?_) ?_
    · exact paired_mem GA.it fun t c _ it => Item.keep it fun b o e n _ => s5 _ _ (e34 _ _ (e2 _ _ e n) n)
    · exact paired_mem GB.it fun t c _ it => Item.keep it fun b o e n _ => s5 _ _ (e34 _ _ e n)
    · exact paired_mem GC.it fun t c _ it => Item.keep it fun b o e n _ => s5 _ _ e
end
end Kq
namespace Kq
open PySem PySem.Spec PyProof.Rows L2 Kx Kl LamX Kc Kk Kd
abbrev sStart : Stmt := Kd.top 50
abbrev sLaw : Stmt := Kd.top 62
def spStart (K : PySem.W.Frag) : Sp := fun vs H Q _ => ∃ (c : Addr) (ns : List Int), vs = [.ref c] ∧ SqL K H c (ns.map V.int) ∧ ∀ (H' : Hp) (a b : Addr), Same H H' → Strm H' a b ns 0 0 11 → Q (.ref a) H'
/-- a def of the top: its address, that it is kept, how it is called -/
structure Nm (K : PySem.W.Frag) (mg : Str → Option Value) (x : Str) (f : Addr) (fd : FuncData) (ps : List Str) : Prop where
  g : mg x = some (.ref f)
  kp : PySem.W.keepIn K (.ref f) = true
  b : Binds K fd ps []
section
variable {Pg : Program} {w : World} {K : PySem.W.Frag} {mg : Str → Option Value} {base : Heap}
theorem scStart : FnScope ["script"] ["script"] (defScope (Kd.top 50)) := ⟨rfl, rfl, rfl, by decide +kernel, rfl, by decide +kernel, by decide +kernel⟩
theorem ok_start {f : Addr} {fd : FuncData} (F : Fun K "_law_start" "_law_start" (Kd.top 50) f fd) (gL : mg "list" = none) : FnOk Pg w K mg base CX0 1 f fd ["script"] (spStart K) := by
  refine F.ok scStart (fun vs H Q E h => ?_) (fun cdv A outer s H vs Q E hr h => ?_)
  · obtain ⟨c, ns, rfl, _⟩ := h
    rfl
  · obtain ⟨c, ns, rfl, hc, k⟩ := h
    refine ⟨_, pss_one (ps_ret (pe_lst (pa_cons (pe_callTy call_list_of rfl gL boot_list (pa_cons (pv 0) pa_nil)) (pa_cons pe_int (pa_cons pe_int (pa_cons pe_int pa_nil)))))), ?_⟩
    refine ⟨_, rfl, c, _, rfl, .inl hc, fun b hb => ⟨(by show 4 ≤ sizeLine; decide), fun a ha => ?_⟩⟩
    have ab : a ≠ b := (ne_of_none upd_same ha).symm
    refine k _ a b ((same_up hb).trans (same_up ha)) ⟨ab, upd_same, ?_, by decide, by decide, by decide, by decide⟩
    rw [upd_ne ab.symm]
    exact upd_same
def nmsL : List Str := ["script", "stream", "some", "turn", "x", "y", "z", "made", "at", "mine", "twin", "field", "due", "held", "base"]
theorem scLaw : FnScope ["script", "stream", "some", "turn", "x", "y", "z", "made", "at", "mine", "twin", "field", "due", "held", "base"] ["script"] (defScope sLaw) := ⟨rfl, rfl, rfl, by decide +kernel, rfl, by decide +kernel, by decide +kernel⟩
abbrev LS0 (Pg : Program) (w : World) (K : PySem.W.Frag) (mg : Str → Option Value) (base : Heap) : Lam → Sp → Prop := fun L sp => LamOk Pg w K mg base 1 L ["e"] sp
/-- these(field(e), due), e in slot j -/
abbrev tTh (Pg : Program) (w : World) (K : PySem.W.Frag) (mg : Str → Option Value) (base : Heap) (j : Nat) : TE := tCall spThese [] E0 (tCons (tCallLm 11 (LS0 Pg w K mg base) (tCons (tVar j) tNil)) (tCons (tVar 12) tNil))
abbrev tTh2 (Pg : Program) (w : World) (K : PySem.W.Frag) (mg : Str → Option Value) (base : Heap) : TT := tOr (tNot (tB (tTh Pg w K mg base 9))) (tNot (tB (tTh Pg w K mg base 10)))
abbrev tOw2 (K : PySem.W.Frag) : TT := tOr (tNot (tB (tCall (spOwn K) [] E0 (tCons (tVar 9) (tCons (tVar 8) tNil))))) (tNot (tB (tCall (spOwn K) [] E0 (tCons (tVar 10) (tCons (tVar 8) tNil)))))
def spLaw (K : PySem.W.Frag) (PA PB PC : Addr) : Sp := fun vs H Q _ => ∃ (s0 : Addr) (ns : List Int), vs = [.ref s0] ∧ SqL K H s0 (ns.map V.int) ∧ Tabs3 H PA PB PC ∧ ∀ H', Q (.bl true) H'
/-- what the law calls -/
structure Calls (Pg : Program) (w : World) (K : PySem.W.Frag) (mg : Str → Option Value) (base : Heap) (PA PB PC : Addr) : Prop where
  st : ∃ (f : Addr) (fd : FuncData), Nm K mg "_law_start" f fd ["script"] ∧ FnOk Pg w K mg base CX0 1 f fd ["script"] (spStart K)
  mx : ∃ (f : Addr) (fd : FuncData), Nm K mg "_law_mixed" f fd ["stream", "some"] ∧ FnOk Pg w K mg base CX0 2 f fd ["stream", "some"] (spMixed K)
  ma : ∃ (f : Addr) (fd : FuncData), Nm K mg "_law_made_a" f fd ["x", "y", "z"] ∧ FnOk Pg w K mg base CX0 3 f fd ["x", "y", "z"] (spMade Pg w K mg base PA (qOf "_law_made_a") cs_a)
  mb : ∃ (f : Addr) (fd : FuncData), Nm K mg "_law_made_b" f fd ["x", "y", "z"] ∧ FnOk Pg w K mg base CX0 3 f fd ["x", "y", "z"] (spMade Pg w K mg base PB (qOf "_law_made_b") cs_b)
  mc : ∃ (f : Addr) (fd : FuncData), Nm K mg "_law_made_c" f fd ["x", "y", "z"] ∧ FnOk Pg w K mg base CX0 3 f fd ["x", "y", "z"] (spMade Pg w K mg base PC (qOf "_law_made_c") cs_c)
  ow : ∃ (f : Addr) (fd : FuncData), Nm K mg "_law_is_own" f fd ["e", "at"] ∧ FnOk Pg w K mg base CX0 3 f fd ["e", "at"] (spOwn K)
  kd : ∃ (f : Addr) (fd : FuncData), Nm K mg "_law_kinds" f fd ["e"] ∧ FnOk Pg w K mg base CX0 2 f fd ["e"] (spKinds K kn)
  th : ∃ (f : Addr) (fd : FuncData), Nm K mg "_law_are_these" f fd ["found", "due"] ∧ Kg.FnG Pg w K mg base 1 f fd ["found", "due"] spThese
  gS : mg "SwapError" = some (.ref (He.ga K "SwapError"))
  kS : PySem.W.keepIn K (.ref (He.ga K "SwapError")) = true
  xS : PySem.W.excIn K (He.ga K "SwapError") He.veBase "ValueError.__new__" = true
  gI : mg "isinstance" = none
  gR : mg "range" = none
  gE : mg "enumerate" = none
  gV : mg "ValueError" = none
/-- what isinstance tells of the errors -/
structure OwnK (K : PySem.W.Frag) : Prop where
  ec : ∀ (i : Nat) (x : Str), kn[i]? = some x → ExcC K (He.ga K x)
  kt : ∀ (i : Nat) (x : Str), kn[i]? = some x → ∀ y ∈ kn, Kit K (He.ga K x) y
  kS : ∀ (i : Nat) (x : Str), kn[i]? = some x → PySem.W.kitOne K (.ref (He.ga K x)) (.ref (He.ga K "SwapError")) = some true
  kV : ∀ (i : Nat) (x : Str), kn[i]? = some x → PySem.W.kitOne K (.ref (He.ga K x)) (.type "ValueError") = some true
  kL : ∀ (i : Nat) (x : Str), kn[i]? = some x → PySem.W.kitOne K (.ref (He.ga K x)) (.type "LookupError") = some false
  eS : ExcC K (He.ga K "SwapError")
  tS : ∀ y ∈ kn, Kit K (He.ga K "SwapError") y
  vS : PySem.W.kitOne K (.ref (He.ga K "SwapError")) (.type "ValueError") = some true
  nS : ∀ y ∈ kn, He.ga K y ≠ He.ga K "SwapError"
theorem read_th {H : Hp} {σ : L2.St} {Q : VK} {j : Nat} {m f c' d C : Addr} {L : Lam} {ns : List Str} {fs : List (Str × V)} {xs : List V} {ds : List PyData} (h11 : σ[11]? = some (some (.ref f))) (hj : σ[j]? = some (some (.ref m))) (h12 : σ[12]? = some (some (.ref d)))
    (hf : H f = some (LamO f c' L)) (hc : H c' = some (CodeO c' L.qual)) (hx : ExAt H m C fs) (hL : LamOk Pg w K mg base 1 L ["e"] (spLm C ns)) (hn : ns.map (fun n => fs.lookup n) = xs.map some) (hd : H d = some (.lst xs)) (hD : Kr.DxAll H xs ds) (ok : okD ds = true)
    (k : ∀ H', Same H H' → Q (.bl true) H') : tTh Pg w K mg base j σ H Q := by
  obtain ⟨sh, dp, sz⟩ := okD_of ok
  refine ⟨f, c', L, _, h11, hL, hf, _, hj, hf, hc, m, fs, xs, rfl, hx, hn, fun p np => ?_⟩
  have s1 := same_up (o := .lst xs) np
  exact ⟨_, h12, p, d, xs, ds, rfl, upd_same, s1 _ _ hd, hD.same s1 ds _, sh, dp, sz, k _ s1⟩
theorem read_th2 {H : Hp} {σ : L2.St} {Q : Bool → Hp → Prop} {m tw f c' d C : Addr} {L : Lam} {ns : List Str} {fs1 fs2 : List (Str × V)} {xs : List V} {ds : List PyData} (h9 : σ[9]? = some (some (.ref m))) (h10 : σ[10]? = some (some (.ref tw))) (h11 : σ[11]? = some (some (.ref f))) (h12 : σ[12]? = some (some (.ref d)))
    (hf : H f = some (LamO f c' L)) (hc : H c' = some (CodeO c' L.qual)) (hx1 : ExAt H m C fs1) (hx2 : ExAt H tw C fs2) (hL : LamOk Pg w K mg base 1 L ["e"] (spLm C ns)) (hn1 : ns.map (fun n => fs1.lookup n) = xs.map some) (hn2 : ns.map (fun n => fs2.lookup n) = xs.map some)
    (hd : H d = some (.lst xs)) (hD : Kr.DxAll H xs ds) (ok : okD ds = true) (k : ∀ H', Same H H' → Q false H') : tTh2 Pg w K mg base σ H Q := by
  refine read_th h11 h9 h12 hf hc hx1 hL hn1 hd hD ok fun H1 s1 => ⟨true, rfl, iteF ?_⟩
  refine read_th h11 h10 h12 (s1 _ _ hf) (s1 _ _ hc) (hx2.same s1) hL hn2 (s1 _ _ hd) (hD.same s1 ds _) ok fun H2 s2 => ⟨true, rfl, k _ (s1.trans s2)⟩
theorem read_ow2 {H : Hp} {σ : L2.St} {Q : Bool → Hp → Prop} {m tw : Addr} {i : Nat} {x : Str} {fs1 fs2 : List (Str × V)} (O : OwnK K) (hi : kn[i]? = some x) (h8 : σ[8]? = some (some (.int i))) (h9 : σ[9]? = some (some (.ref m))) (h10 : σ[10]? = some (some (.ref tw)))
    (hx1 : ExAt H m (He.ga K x) fs1) (hx2 : ExAt H tw (He.ga K x) fs2) (k : ∀ H', Same H H' → Q false H') : tOw2 K σ H Q := by
  refine ⟨_, h9, _, h8, m, _, i, rfl, .inl ⟨fs1, hx1⟩, O.ec i x hi, O.kt i x hi, O.kS i x hi, O.kV i x hi, O.kL i x hi, ⟨x, hi, rfl⟩, fun H1 s1 => ⟨true, rfl, iteF ?_⟩⟩
  exact ⟨_, h10, _, h8, tw, _, i, rfl, .inl ⟨fs2, hx2.same s1⟩, O.ec i x hi, O.kt i x hi, O.kS i x hi, O.kV i x hi, O.kL i x hi, ⟨x, hi, rfl⟩, fun H2 s2 => ⟨true, rfl, k _ (s1.trans s2)⟩⟩
theorem cut3 {x y z : V} {r : List V} : cutV (x :: y :: z :: r) none (some 3) = [x, y, z] := by
  simp [cutV, HT.sIx]
theorem paired_at {α β : Type} {F : α → β → Prop} : ∀ {l1 : List α} {l2 : List β} {i : Nat} {a : α}, Paired F l1 l2 → l1[i]? = some a → ∃ b, l2[i]? = some b ∧ F a b
  | _, _, 0, _, .cons r _, h => ⟨_, rfl, by
    have e : _ = _ := Option.some.inj (show some _ = some _ from h)
    rw [← e]
    exact r⟩
  | _, _, i + 1, _, .cons _ t, h => paired_at (i := i) t (by simpa using h)
  | _, _, i, _, .nil, h => by simp at h
end
end Kq
namespace Kq
open PySem PySem.Spec PyProof.Rows L2 Kx Kl LamX Kc Kk Kd
section
variable {Pg : Program} {w : World} {K : PySem.W.Frag} {mg : Str → Option Value} {base : Heap}
theorem menu_of {H1 : Hp} {l1 t1 d1 l3 l2 t2 c : Addr} (n1 : H1 l1 = none) (n2 : upd H1 l1 (.lst [.int 1, .str "b"]) t1 = none) (n3 : upd (upd H1 l1 (.lst [.int 1, .str "b"])) t1 (.tup [.int 2, .non]) d1 = none)
    (n4 : upd (upd (upd (upd H1 l1 (.lst [.int 1, .str "b"])) t1 (.tup [.int 2, .non])) d1 (.dK [])) d1 (.dK [(.inr "a", .int 1)]) l3 = none)
    (n5 : upd (upd (upd (upd (upd H1 l1 (.lst [.int 1, .str "b"])) t1 (.tup [.int 2, .non])) d1 (.dK [])) d1 (.dK [(.inr "a", .int 1)])) l3 (.lst [.str "x"]) l2 = none)
    (n6 : upd (upd (upd (upd (upd (upd H1 l1 (.lst [.int 1, .str "b"])) t1 (.tup [.int 2, .non])) d1 (.dK [])) d1 (.dK [(.inr "a", .int 1)])) l3 (.lst [.str "x"])) l2 (.lst [.ref l3]) t2 = none)
    (n7 : upd (upd (upd (upd (upd (upd (upd H1 l1 (.lst [.int 1, .str "b"])) t1 (.tup [.int 2, .non])) d1 (.dK [])) d1 (.dK [(.inr "a", .int 1)])) l3 (.lst [.str "x"])) l2 (.lst [.ref l3])) t2 (.tup [.str "s", .int 3]) c = none) :
    ∀ H9, H9 = upd (upd (upd (upd (upd (upd (upd (upd H1 l1 (.lst [.int 1, .str "b"])) t1 (.tup [.int 2, .non])) d1 (.dK [])) d1 (.dK [(.inr "a", .int 1)])) l3 (.lst [.str "x"])) l2 (.lst [.ref l3])) t2 (.tup [.str "s", .int 3])) c (.lst (menu l1 t1 d1 l2 t2)) →
    Same H1 H9 ∧ Menu H9 c l1 t1 d1 l2 l3 t2 ∧ ∀ q ∈ [c, l1, t1, d1, l2, l3, t2], H1 q = none := by
  rintro H9 rfl
  have z7 := same_up (o := .lst (menu l1 t1 d1 l2 t2)) n7
  have z6 := (same_up (o := .tup [.str "s", .int 3]) n6).trans z7
  have z5 := (same_up (o := .lst [.ref l3]) n5).trans z6
  have z4 := (same_up (o := .lst [.str "x"]) n4).trans z5
  have z3a : Same (upd (upd H1 l1 (.lst [.int 1, .str "b"])) t1 (.tup [.int 2, .non])) (upd (upd (upd (upd H1 l1 (.lst [.int 1, .str "b"])) t1 (.tup [.int 2, .non])) d1 (.dK [])) d1 (.dK [(.inr "a", .int 1)])) := fun b u e => by
    rw [upd_ne (ne_of_none e n3), upd_ne (ne_of_none e n3)]
    exact e
  have z3 := z3a.trans z4
  have z2 := (same_up (o := .tup [.int 2, .non]) n2).trans z3
  have z1 := (same_up (o := .lst [.int 1, .str "b"]) n1).trans z2
  have y1 := same_up (o := .lst [.int 1, .str "b"]) n1
  have y2 := y1.trans (same_up (o := .tup [.int 2, .non]) n2)
  have y3 := y2.trans z3a
  have y4 := y3.trans (same_up (o := .lst [.str "x"]) n4)
  have y5 := y4.trans (same_up (o := .lst [.ref l3]) n5)
  have y6 := y5.trans (same_up (o := .tup [.str "s", .int 3]) n6)
  refine ⟨z1, ⟨upd_same, z2 _ _ upd_same, z3 _ _ upd_same, z4 _ _ upd_same, z6 _ _ upd_same, z5 _ _ upd_same, z7 _ _ upd_same⟩, fun q hq => ?_⟩
  simp only [List.mem_cons, List.not_mem_nil, or_false] at hq
  rcases hq with rfl | rfl | rfl | rfl | rfl | rfl | rfl
  · exact y6.free n7
  · exact n1
  · exact y1.free n2
  · exact y2.free n3
  · exact y4.free n5
  · exact y3.free n4
  · exact y5.free n6
theorem TabS.but {H H' : Hp} {a b P : Addr} {q : Str} (hT : TabS H P q) (k : KeepBut a b H H') (ha : ∃ xs, H a = some (.lst xs)) (hb : ∃ xs, H b = some (.lst xs)) : TabS H' P q := by
  obtain ⟨ps, h1, h2, h3⟩ := hT
  obtain ⟨xs, ha⟩ := ha
  obtain ⟨ys, hb⟩ := hb
  refine ⟨ps, k _ _ (fun z => ?_) (fun z => ?_) h1, h2, fun pos cv hc => ?_⟩
  · rw [z, ha] at h1
    cases h1
  · rw [z, hb] at h1
    cases h1
  · obtain ⟨c0, e1, e2⟩ := h3 pos cv hc
    refine ⟨c0, e1, k _ _ (fun z => ?_) (fun z => ?_) e2⟩
    · rw [z, ha] at e2
      cases e2
    · rw [z, hb] at e2
      cases e2
theorem Tabs3.but {H H' : Hp} {a b PA PB PC : Addr} (T : Tabs3 H PA PB PC) (k : KeepBut a b H H') (ha : ∃ xs, H a = some (.lst xs)) (hb : ∃ xs, H b = some (.lst xs)) : Tabs3 H' PA PB PC := ⟨TabS.but T.a k ha hb, TabS.but T.b k ha hb, TabS.but T.c k ha hb⟩
theorem strm_ext {H H' : Hp} {a b : Addr} {ns : List Int} {p q r : Int} (S : Strm H a b ns p q r) (e : ExtN H H') : Strm H' a b ns p q r :=
  ⟨S.ne, e _ _ S.ha (fun ps z => by cases z), e _ _ S.hb (fun ps z => by cases z), S.p0, S.q0, S.r0, S.r1⟩
theorem three {xs : List V} (h : 3 ≤ xs.length) : ∃ x y z r, xs = x :: y :: z :: r := by
  match xs, h with
  | x :: y :: z :: r, _ => exact ⟨x, y, z, r, rfl⟩
/-- what stands at each turn -/
def Inv0 (s0 a b c l1 t1 d1 l2 l3 t2 PA PB PC : Addr) (i : Nat) (σ : L2.St) (H : Hp) : Prop := ∃ (o3 o4 o5 o6 o7 o8 o9 o10 o11 o12 : Option V), σ = [some (.ref s0), some (.ref a), some (.ref c), o3, o4, o5, o6, o7, o8, o9, o10, o11, o12, none, none] ∧
  (∃ (ns : List Int) (p r : Int), Strm H a b ns p (15 * (i : Int)) r) ∧ Menu H c l1 t1 d1 l2 l3 t2 ∧ Tabs3 H PA PB PC
set_option maxHeartbeats 40000000 in
theorem ok_law {f : Addr} {fd : FuncData} {PA PB PC : Addr} (F : Fun K "law" "law" sLaw f fd) (C : Calls Pg w K mg base PA PB PC) (O : OwnK K) (nab : PA ≠ PB) (nac : PA ≠ PC) (nbc : PB ≠ PC) : Kg.FnG Pg w K mg base 4 f fd ["script"] (spLaw K PA PB PC) := by
  obtain ⟨fs, ds, NS, GS⟩ := C.st
  obtain ⟨fx, dx, NX, GX⟩ := C.mx
  obtain ⟨fa, da, NA, GA⟩ := C.ma
  obtain ⟨fb, db, NB, GB⟩ := C.mb
  obtain ⟨fc, dc, NC, GC⟩ := C.mc
  obtain ⟨fo, do_, NO, GO⟩ := C.ow
  obtain ⟨fk, dk, NK, GK⟩ := C.kd
  obtain ⟨ft, dt, NT, GT⟩ := C.th
  refine Kg.FnG.made F scLaw (fun vs H Q E h => ?_) (fun cdv A outer s H vs Q E hg hr h => ?_)
  · obtain ⟨c, ns, rfl, _⟩ := h
    rfl
  · have nd := scLaw.nd
    refine ⟨_, pss_cons (ps_set (i := 1) nd rfl (Or.inl rfl) (pe_call GS (hr.mono (by decide)) rfl NS.g NS.kp NS.b .nil pass0 (pa_cons (pv 0) pa_nil)))
      (pss_cons (ps_set (i := 2) nd rfl (Or.inl rfl) (pe_lst (pa_cons pe_non (pa_cons pe_int (pa_cons (pe_un un_neg pe_int) (pa_cons pe_bl (pa_cons pe_str (pa_cons pe_str (pa_cons (pe_lst (pa_cons pe_int (pa_cons pe_str pa_nil))) (pa_cons (pe_tup (pa_cons pe_int (pa_cons pe_non pa_nil))) (pa_cons (pe_disp (pps_cons pe_str pe_int pps_nil) rfl rfl (by simp) (by decide)) (pa_cons (pe_lst (pa_cons (pe_lst (pa_cons pe_str pa_nil)) pa_nil)) (pa_cons (pe_op op_pow pe_int pe_int) (pa_cons (pe_tup (pa_cons pe_str (pa_cons pe_int pa_nil))) (pa_cons pe_bl (pa_cons pe_int (pa_cons pe_int pa_nil)))))))))))))))))
      (pss_cons (ps_for PassesOwn.never rfl (pi_range1 rfl C.gR (pa_cons pe_int pa_nil)) (pg_name (i := 3) nd rfl (Or.inl rfl)) (pss_cons (ps_asg (pe_slice sl_list (pe_call GX (hr.mono (by decide)) rfl NX.g NX.kp NX.b .nil pass0 (pa_cons (pv 1) (pa_cons (pv 2) pa_nil))) po_none (po_some pe_int)) (pg_unl rfl (pgs_cons (pg_name (i := 4) nd rfl (Or.inl rfl)) (pgs_cons (pg_name (i := 5) nd rfl (Or.inl rfl)) (pgs_cons (pg_name (i := 6) nd rfl (Or.inl rfl)) pgs_nil)))))
      (pss_cons (ps_set (i := 7) nd rfl (Or.inl rfl) (pe_op op_cat (pe_op op_cat (pe_call GA hr rfl NA.g NA.kp NA.b .nil pass0 (pa_cons (pv 4) (pa_cons (pv 5) (pa_cons (pv 6) pa_nil)))) (pe_call GB hr rfl NB.g NB.kp NB.b .nil pass0 (pa_cons (pv 4) (pa_cons (pv 5) (pa_cons (pv 6) pa_nil))))) (pe_call GC hr rfl NC.g NC.kp NC.b .nil pass0 (pa_cons (pv 4) (pa_cons (pv 5) (pa_cons (pv 6) pa_nil))))))
      (pss_one (ps_for PassesOwn.never rfl (pi_enum rfl C.gE (pa_cons (pv 7) pa_nil)) (pg_tup rfl (pgs_cons (pg_name (i := 8) nd rfl (Or.inl rfl)) (pgs_cons (pg_tup rfl (pgs_cons (pg_name (i := 9) nd rfl (Or.inl rfl)) (pgs_cons (pg_name (i := 10) nd rfl (Or.inl rfl)) (pgs_cons (pg_name (i := 11) nd rfl (Or.inl rfl)) (pgs_cons (pg_name (i := 12) nd rfl (Or.inl rfl)) pgs_nil))))) pgs_nil))) (pss_cons (ps_if (PW.pt (pw_or (pt_not (pt_val (pe_call GO hr rfl NO.g NO.kp NO.b .nil pass0 (pa_cons (pv 9) (pa_cons (pv 8) pa_nil))))) (pw_or1 (pt_not (pt_val (pe_call GO hr rfl NO.g NO.kp NO.b .nil pass0 (pa_cons (pv 10) (pa_cons (pv 8) pa_nil)))))))) (pss_one (ps_ret pe_bl)) pss_nil)
      (pss_one (ps_if (PW.pt (pw_or (pt_not (pt_val (Kg.pe_callG GT hg (hr.mono (by decide)) rfl NT.g NT.kp NT.b (pa_cons (pe_callLm (i := 11) (LS := LS0 Pg w K mg base) (fun L sp h => h) (hr.mono (by decide)) rfl (Or.inl rfl) (pa_cons (pv 9) pa_nil)) (pa_cons (pv 12) pa_nil))))) (pw_or1 (pt_not (pt_val (Kg.pe_callG GT hg (hr.mono (by decide)) rfl NT.g NT.kp NT.b (pa_cons (pe_callLm (i := 11) (LS := LS0 Pg w K mg base) (fun L sp h => h) (hr.mono (by decide)) rfl (Or.inl rfl) (pa_cons (pv 10) pa_nil)) (pa_cons (pv 12) pa_nil)))))))) (pss_one (ps_ret pe_bl)) pss_nil))))))))
      (pss_cons (ps_set (i := 13) nd rfl (Or.inl rfl) (pe_lst (pa_cons pe_str pa_nil)))
      (pss_cons (ps_set (i := 7) nd rfl (Or.inl rfl) (pe_op op_cat (pe_op op_cat (pe_call GA hr rfl NA.g NA.kp NA.b .nil pass0 (pa_cons (pv 13) (pa_cons (pv 13) (pa_cons (pv 13) pa_nil)))) (pe_call GB hr rfl NB.g NB.kp NB.b .nil pass0 (pa_cons (pv 13) (pa_cons (pv 13) (pa_cons (pv 13) pa_nil))))) (pe_call GC hr rfl NC.g NC.kp NC.b .nil pass0 (pa_cons (pv 13) (pa_cons (pv 13) (pa_cons (pv 13) pa_nil))))))
      (pss_cons (ps_expr (pe_bm PySem.F.plainAttrs_list PySem.F.slot_list_append PySem.F.type_list_append mt_append (pv 13) (pa_cons pe_str pa_nil)))
      (pss_cons (ps_for PassesOwn.never rfl (pi_list (pv 7)) (pg_tup rfl (pgs_cons (pg_name (i := 9) nd rfl (Or.inl rfl)) (pgs_cons (pg_name (i := 10) nd rfl (Or.inl rfl)) (pgs_cons (pg_name (i := 11) nd rfl (Or.inl rfl)) (pgs_cons (pg_name (i := 12) nd rfl (Or.inl rfl)) pgs_nil))))) (pss_one (ps_if (PW.pt (pw_or (pt_not (pt_val (Kg.pe_callG GT hg (hr.mono (by decide)) rfl NT.g NT.kp NT.b (pa_cons (pe_callLm (i := 11) (LS := LS0 Pg w K mg base) (fun L sp h => h) (hr.mono (by decide)) rfl (Or.inl rfl) (pa_cons (pv 9) pa_nil)) (pa_cons (pv 12) pa_nil))))) (pw_or1 (pt_not (pt_val (Kg.pe_callG GT hg (hr.mono (by decide)) rfl NT.g NT.kp NT.b (pa_cons (pe_callLm (i := 11) (LS := LS0 Pg w K mg base) (fun L sp h => h) (hr.mono (by decide)) rfl (Or.inl rfl) (pa_cons (pv 10) pa_nil)) (pa_cons (pv 12) pa_nil)))))))) (pss_one (ps_ret pe_bl)) pss_nil)))
      (pss_cons (ps_set (i := 14) nd rfl (Or.inl rfl) (pe_exc0 PySem.F.excBase_ValueError C.xS C.gS C.kS rfl))
      (pss_one (ps_ret (pe_and (pe_callB call_isX (by rfl) C.gI boot_isinstance (pa_cons (pv 14) (pa_cons (pe_bltn (v := .ty "ValueError") rfl C.gV boot_VE rfl) pa_nil))) (pe_one (pe_cmpR op_notIn_seq pe_bl (pe_call GK (hr.mono (by decide)) rfl NK.g NK.kp NK.b .nil pass0 (pa_cons (pv 14) pa_nil)) (by with_unfolding_all rfl))))))))))))), ?_⟩
    obtain ⟨s0, ns, rfl, hs0, T0, kfin⟩ := h
    refine ⟨_, rfl, s0, ns, rfl, hs0, fun H1 a b s1 S1 => ?_⟩
    have T1 := T0.same s1
    refine ⟨_, rfl, ⟨show 2 ≤ sizeLine from by decide, fun l1 n1 => ⟨show 2 ≤ sizeLine from by decide, fun t1 n2 d1 n3 => ?_⟩⟩⟩
    refine ⟨upd_same, [(.inr "a", .int 1)], rfl, by decide, ?_⟩
    refine ⟨show 1 ≤ sizeLine from by decide, fun l3 n4 => ⟨show 1 ≤ sizeLine from by decide, fun l2 n5 => ?_⟩⟩
    refine ⟨_, _, rfl, rfl, ⟨by decide, by decide, by decide⟩, show 2 ≤ sizeLine from by decide, fun t2 n6 => ⟨show 15 ≤ sizeLine from by decide, fun c n7 => ?_⟩⟩
    obtain ⟨sm, M0, nw⟩ := menu_of n1 n2 n3 n4 n5 n6 n7 _ rfl
    have T2 := T1.same sm
    have S2 := strm_ext S1 (.of sm)
    have nq : ∀ q ∈ [c, l1, t1, d1, l2, l3, t2], q ≠ a ∧ q ≠ b := fun q hq => ⟨(ne_of_none S1.ha (nw q hq)).symm, (ne_of_none S1.hb (nw q hq)).symm⟩
    refine ⟨2, rfl, by decide, by decide, for_range (n := 2) (Inv0 s0 a b c l1 t1 d1 l2 l3 t2 PA PB PC) ?_ ?_ ?_⟩
    · exact ⟨none, none, none, none, none, none, none, none, none, none, rfl, ⟨ns, 0, 11, S2⟩, M0, T2⟩
    · rintro i σ H3 hi ⟨o3, o4, o5, o6, o7, o8, o9, o10, o11, o12, rfl, ⟨ns3, p3, r3, S3⟩, M3, T3⟩
      refine ⟨_, rfl, _, rfl, a, b, c, ns3, p3, _, r3, menu l1 t1 d1 l2 t2, rfl, S3, .inl (SqL.of M3.hc), by show 15 ≤ 1000; decide, (by show 15 * (i : Int) + 15 ≤ 1000000; omega), fun H4 ns4 p4 r4 l ys S4 kb nl hl pm => ?_⟩
      have T4 := T3.but kb ⟨_, S3.ha⟩ ⟨_, S3.hb⟩
      have M4 := M3.keep fun q hq o e => kb q o (nq q hq).1 (nq q hq).2 e
      have ly : ys.length = 15 := pm.length_eq
      obtain ⟨x, y, z, rest, rfl⟩ := three (xs := ys) (by omega)
      have mx : x ∈ menu l1 t1 d1 l2 t2 := pm.subset (by simp)
      have my : y ∈ menu l1 t1 d1 l2 t2 := pm.subset (by simp)
      refine ⟨_, rfl, l, _, rfl, SqL.of hl, fun p5 n5 => ?_⟩
      have s5 := same_up (o := .lst (cutV (x :: y :: z :: rest) none (some 3))) n5
      refine ⟨p5, _, rfl, SqL.of upd_same, by rw [cut3]; rfl, ?_⟩
      rw [cut3] at s5 ⊢
      refine ⟨_, _, rfl, _, _, rfl, _, _, rfl, rfl, ?_⟩
      generalize upd H4 p5 _ = H5 at s5
      have T5 := T4.same s5
      have M5 := M4.keep fun q _ o e => s5 q o e
      have S5 := strm_ext S4 (.of s5)
      refine (?_ : tMk Pg w K mg base PA PB PC 4 5 6 _ _ _)
      refine read_mk T5 nab nac nbc rfl rfl rfl fun H6 l6 ts e6 T6 hl6 it => ?_
      have M6 := M5.keep fun q hq o e => e6 q o e (M5.notbl q hq o e)
      have S6 := strm_ext S5 e6
      refine ⟨_, rfl, l6, _, rfl, SqL.of hl6, ?_⟩
      refine for_it (walk_enum (xs := ts.map fun t => V.ref t.1)) (fun j σ H' => (∃ (o8 o9 o10 o11 o12 : Option V), σ = [some (.ref s0), some (.ref a), some (.ref c), some (.int (0 + (i : Int))), some x, some y, some z, some (.ref l6), o8, o9, o10, o11, o12, none, none]) ∧ Same H6 H') ?_ ?_ ?_ ?_
      · exact ⟨⟨_, _, _, _, _, rfl⟩, Same.refl _⟩
      · rintro j σ H' _ ⟨_, s⟩
        exact SqL.of (s _ _ hl6)
      · rintro j v σ H7 H8 hj ⟨⟨o8, o9, o10, o11, o12, rfl⟩, s7⟩ ⟨T, x1, y1, rfl, nT, rfl, e1, e2⟩
        have s8 := s7.trans (same_up (o := .tup [x1, y1]) nT)
        replace e2 : (ts.map fun t => V.ref t.1)[j]? = some y1 := e2
        obtain ⟨cb, hcs, tt, htt, rfl⟩ : ∃ cb, csAll[j]? = some cb ∧ ∃ t, ItF Pg w K mg base H6 x y t cb ∧ y1 = .ref t.1 := by
          rw [List.getElem?_map] at e2
          cases q : ts[j]? with
          | none =>
            rw [q] at e2
            cases e2
          | some t =>
            rw [q] at e2
            obtain ⟨cb, h1, h2⟩ := paired_at it q
            exact ⟨cb, h1, t, h2, (Option.some.inj e2).symm⟩
        have hk : kn[j]? = some cb.1 := by
          rw [← cs_kn, List.getElem?_map, hcs]
          rfl
        obtain ⟨dd, hdd, hok⟩ := vals_ok M6 mx my cb.2
        obtain ⟨m, tw, f1, c1, L, nl1, fs1, fs2, h1, ex1, ex2, hf, hc, hd, hL, hn1, hn2⟩ := Item.same htt s8
        have e1' : V.int (j : Int) = x1 := Option.some.inj e1
        subst e1'
        refine ⟨T, _, rfl, SqT.of upd_same, rfl, _, _, rfl, _, _, rfl, _, _, rfl, SqT.of h1, rfl, _, _, rfl, _, _, rfl, _, _, rfl, _, _, rfl, rfl, rfl, ?_⟩
        refine read_ow2 O hk rfl rfl rfl ex1 ex2 fun H9 s9 => iteF ?_
        refine read_th2 rfl rfl rfl rfl (s9 _ _ hf) (s9 _ _ hc) (ex1.same s9) (ex2.same s9) hL hn1 hn2 (s9 _ _ hd) ((hdd.same s8 dd _).same s9 dd _) hok fun H10 s10 => iteF ?_
        exact ⟨⟨_, _, _, _, _, rfl⟩, (s8.trans s9).trans s10⟩
      · rintro σ H' ⟨⟨o8, o9, o10, o11, o12, rfl⟩, s⟩
        refine ⟨_, _, _, _, _, _, _, _, _, _, rfl, ⟨ns4, p4, r4, ?_⟩, M6.keep fun q _ o e => s q o e, T6.same s⟩
        refine (strm_ext S6 (.of s)).cast ?_
        show 15 * (i : Int) + 15 = 15 * ((i + 1 : Nat) : Int)
        omega
    · rintro σ H3 ⟨o3, o4, o5, o6, o7, o8, o9, o10, o11, o12, rfl, _, _, T3⟩
      refine ⟨show 1 ≤ sizeLine from by decide, fun h n4 => ?_⟩
      have s4 := same_up (o := .lst [.str "v"]) n4
      have hh4 : (upd H3 h (.lst [.str "v"])) h = some (.lst [.str "v"]) := upd_same
      generalize upd H3 h (.lst [.str "v"]) = H4 at s4 hh4 ⊢
      refine (?_ : tMk Pg w K mg base PA PB PC 13 13 13 _ _ _)
      refine read_mk (T3.same s4) nab nac nbc rfl rfl rfl fun H5 l5 ts e5 T5 hl5 it => ?_
      have hh5 := e5 _ _ hh4 (fun ps z => by cases z)
      have l5h : l5 ≠ h := fun z => by
        rw [z, hh5] at hl5
        have e : [V.str "v"] = ts.map fun t => V.ref t.1 := HO.lst.inj (Option.some.inj hl5)
        cases ts with
        | nil => cases e
        | cons t r => cases e
      refine ⟨_, rfl, .inl ⟨rfl, _, SqL.of hh5⟩, h, _, _, rfl, rfl, hh5, by show 1 < sizeLine; decide, ?_⟩
      have hl6 : (upd H5 h (.lst ([.str "v"] ++ [.str "w"]))) l5 = some (.lst (ts.map fun t => V.ref t.1)) := by
        rw [upd_ne l5h]
        exact hl5
      refine ⟨_, rfl, l5, rfl, ⟨_, SqL.of hl6⟩, for_list (xs := ts.map fun t => V.ref t.1) (fun j σ H' => (∃ (o8 o9 o10 o11 o12 : Option V), σ = [some (.ref s0), some (.ref a), some (.ref c), o3, o4, o5, o6, some (.ref l5), o8, o9, o10, o11, o12, some (.ref h), none]) ∧ Same (upd H5 h (.lst ([.str "v"] ++ [.str "w"]))) H') ?_ ?_ ?_ ?_⟩
      · exact ⟨⟨_, _, _, _, _, rfl⟩, Same.refl _⟩
      · rintro j σ H' _ ⟨_, s⟩
        exact SqL.of (s _ _ hl6)
      · rintro j v σ H7 e2 ⟨⟨o8, o9, o10, o11, o12, rfl⟩, s7⟩
        obtain ⟨cb, tt, htt, rfl⟩ : ∃ cb, ∃ t, ItF Pg w K mg base H5 (.ref h) (.ref h) t cb ∧ v = .ref t.1 := by
          rw [List.getElem?_map] at e2
          cases q : ts[j]? with
          | none =>
            rw [q] at e2
            cases e2
          | some t =>
            rw [q] at e2
            obtain ⟨cb, h1, h2⟩ := paired_at it q
            exact ⟨cb, t, h2, (Option.some.inj e2).symm⟩
        have dh : tt.2 ≠ h := fun z => by
          obtain ⟨m, tw, f1, c1, L, nl1, fs1, fs2, h1, ex1, ex2, hf, hc, hd, hL, hn1, hn2⟩ := htt
          rw [z, hh5] at hd
          have e := HO.lst.inj (Option.some.inj hd)
          unfold valsB at e
          cases hb : cb.2 <;> (rw [hb] at e; cases e)
        have I6 := Item.keep (H' := upd H5 h (.lst ([.str "v"] ++ [.str "w"]))) htt fun b o e n1 n2 => by
          rw [upd_ne (fun z => by
            rw [z, hh5] at e
            exact dh (by rw [← z]; exact (n2 ⟨_, (Option.some.inj e).symm⟩).symm))]
          exact e
        obtain ⟨m, tw, f1, c1, L, nl1, fs1, fs2, h1, ex1, ex2, hf, hc, hd, hL, hn1, hn2⟩ := Item.same I6 s7
        have hv : Kr.Dx H7 (.ref h) (.list [.str "v", .str "w"]) := .lst (s7 _ _ upd_same) (.cons (.str "v") (.cons (.str "w") .nil))
        obtain ⟨dd, hdd, hok⟩ : ∃ dd, Kr.DxAll H7 (valsB (.ref h) (.ref h) cb.2) dd ∧ okD dd = true := by
          unfold valsB
          cases cb.2 with
          | false => exact ⟨_, .cons hv .nil, held1⟩
          | true => exact ⟨_, .cons hv (.cons hv .nil), held2⟩
        refine ⟨tt.1, _, rfl, SqT.of h1, rfl, _, _, rfl, _, _, rfl, _, _, rfl, _, _, rfl, rfl, ?_⟩
        refine read_th2 rfl rfl rfl rfl hf hc ex1 ex2 hL hn1 hn2 hd hdd hok fun H8 s8 => iteF ?_
        exact ⟨⟨_, _, _, _, _, rfl⟩, s7.trans s8⟩
      · rintro σ H7 ⟨⟨o8, o9, o10, o11, o12, rfl⟩, s7⟩
        intro e ne
        have xe : ExI (upd H7 e (ExO (.ref (He.ga K "SwapError")) e)) e (He.ga K "SwapError") := .inr upd_same
        refine ⟨_, rfl, e, _, _, _, true, rfl, ClsV.ty _, xe, O.eS, O.vS, true, rfl, iteT ?_⟩
        refine ⟨_, rfl, e, _, rfl, xe, O.eS, O.tS, fun H9 l9 s9 n9 h9 => ?_⟩
        refine ⟨l9, _, rfl, .inl (SqL.of h9), rfl, ?_, ?_⟩
        · rw [List.all_map]
          exact List.all_eq_true.mpr fun y _ => rfl
        · have e0 : inV (V.bl true) (kn.map (isB K (He.ga K "SwapError"))) = false := by
            unfold inV
            rw [List.any_map]
            refine List.any_eq_false.mpr fun y hy => ?_
            have z : isB K (He.ga K "SwapError") y = V.bl false := by
              unfold isB
              rw [decide_eq_false (O.nS y hy)]
            show ¬ eqV (isB K (He.ga K "SwapError") y) (V.bl true) = true
            rw [z]
            decide
          rw [e0]
          exact kfin _
end
end Kq
namespace Kh
open PySem PySem.Spec PyProof.Rows L2
abbrev top (i : Nat) : Stmt := Kd.top i
/-- a def of the top at the i-th place -/
def gD (i : Nat) (x : Str) : He.DefD := ⟨(x, none), x, x, defArgs (top i), defBody (top i), defScope (top i), [], []⟩
/-- the __init__ of the class at the i-th place -/
def cD (i : Nat) (x q : Str) : He.DefD := ⟨(x, some "__init__"), "__init__", q, defArgs (inClass (top i) 0), defBody (inClass (top i) 0), defScope (inClass (top i) 0), [], []⟩
def names : List Str := (["SwapError", "AsksOn", "BadAllotment", "BadAsk", "BadAsker", "BadBounds", "BadDeed", "BadGivers", "BadKnown", "BadLies", "BadLot", "BadLots", "BadMarket", "BadName", "BadNeeds", "BadNotice", "BadNumber", "BadPairing", "BadPairings", "BadPaper", "BadPapers", "BadPeople", "BadPlace", "BadQuestion", "BadResult", "BadRow", "BadRule", "BadSession", "BadSides", "BadSteps"] : List Str) ++ (["BadText", "BadThings", "BadWish", "BadWishes", "HasTie", "InUse", "IsWatched", "NoBetterRow", "NoCount", "NoFirm", "NoPerson", "NoRule", "NoTie", "NotFirm", "NotWatched", "Stays", "TurnsRound", "WouldChange", "_law_start", "_law_draw", "_law_mixed", "_law_made_a", "_law_made_b", "_law_made_c", "_law_kinds_a", "_law_kinds_b", "_law_kinds_c", "_law_kinds", "_law_is_own", "_law_are_these"] : List Str)
def fn : List He.DefD := ([gD 50 "_law_start", gD 51 "_law_draw", gD 52 "_law_mixed", gD 53 "_law_made_a", gD 54 "_law_made_b", gD 55 "_law_made_c", gD 56 "_law_kinds_a", gD 57 "_law_kinds_b", gD 58 "_law_kinds_c", gD 59 "_law_kinds", gD 60 "_law_is_own", gD 61 "_law_are_these", gD 62 "law"] : List He.DefD) ++ ([cD 2 "AsksOn" "AsksOn.__init__", cD 3 "BadAllotment" "BadAllotment.__init__", cD 4 "BadAsk" "BadAsk.__init__", cD 5 "BadAsker" "BadAsker.__init__", cD 6 "BadBounds" "BadBounds.__init__", cD 7 "BadDeed" "BadDeed.__init__", cD 8 "BadGivers" "BadGivers.__init__", cD 9 "BadKnown" "BadKnown.__init__", cD 10 "BadLies" "BadLies.__init__", cD 11 "BadLot" "BadLot.__init__", cD 12 "BadLots" "BadLots.__init__", cD 13 "BadMarket" "BadMarket.__init__", cD 14 "BadName" "BadName.__init__", cD 15 "BadNeeds" "BadNeeds.__init__", cD 16 "BadNotice" "BadNotice.__init__", cD 17 "BadNumber" "BadNumber.__init__"] : List He.DefD) ++ ([cD 18 "BadPairing" "BadPairing.__init__", cD 19 "BadPairings" "BadPairings.__init__", cD 20 "BadPaper" "BadPaper.__init__", cD 21 "BadPapers" "BadPapers.__init__", cD 22 "BadPeople" "BadPeople.__init__", cD 23 "BadPlace" "BadPlace.__init__", cD 24 "BadQuestion" "BadQuestion.__init__", cD 25 "BadResult" "BadResult.__init__", cD 26 "BadRow" "BadRow.__init__", cD 27 "BadRule" "BadRule.__init__", cD 28 "BadSession" "BadSession.__init__", cD 29 "BadSides" "BadSides.__init__", cD 30 "BadSteps" "BadSteps.__init__", cD 31 "BadText" "BadText.__init__", cD 32 "BadThings" "BadThings.__init__", cD 33 "BadWish" "BadWish.__init__"] : List He.DefD) ++ ([cD 34 "BadWishes" "BadWishes.__init__", cD 35 "HasTie" "HasTie.__init__", cD 36 "InUse" "InUse.__init__", cD 37 "IsWatched" "IsWatched.__init__", cD 38 "NoBetterRow" "NoBetterRow.__init__", cD 39 "NoCount" "NoCount.__init__", cD 40 "NoFirm" "NoFirm.__init__", cD 41 "NoPerson" "NoPerson.__init__", cD 42 "NoRule" "NoRule.__init__", cD 43 "NoTie" "NoTie.__init__", cD 44 "NotFirm" "NotFirm.__init__", cD 45 "NotWatched" "NotWatched.__init__", cD 46 "Stays" "Stays.__init__", cD 47 "TurnsRound" "TurnsRound.__init__", cD 48 "WouldChange" "WouldChange.__init__"] : List He.DefD)
def fr : List Str := (["int", "list", "len", "range", "repr", "isinstance", "enumerate", "ValueError", "LookupError"] : List Str)
def cl : List (Str × List Str) := ([("AsksOn", ["many"]), ("BadAllotment", ["thing"]), ("BadAsk", ["thing"]), ("BadAsker", ["thing"]), ("BadBounds", ["thing"]), ("BadDeed", ["thing"]), ("BadGivers", ["index"]), ("BadKnown", ["thing"]), ("BadLies", ["thing"]), ("BadLot", ["index"]), ("BadLots", ["thing"]), ("BadMarket", ["thing"]), ("BadName", ["thing"]), ("BadNeeds", ["index"]), ("BadNotice", ["thing"]), ("BadNumber", ["thing"])] : List (Str × List Str)) ++ ([("BadPairing", ["thing"]), ("BadPairings", ["index"]), ("BadPaper", ["thing"]), ("BadPapers", ["index"]), ("BadPeople", ["index"]), ("BadPlace", ["thing"]), ("BadQuestion", ["thing"]), ("BadResult", ["thing"]), ("BadRow", ["index"]), ("BadRule", ["thing"]), ("BadSession", ["thing"]), ("BadSides", ["thing"]), ("BadSteps", ["thing"]), ("BadText", ["line", "sign"]), ("BadThings", ["thing"]), ("BadWish", ["thing"])] : List (Str × List Str)) ++ ([("BadWishes", ["thing"]), ("HasTie", ["one", "other"]), ("InUse", ["question"]), ("IsWatched", ["question"]), ("NoBetterRow", ["thing"]), ("NoCount", ["thing"]), ("NoFirm", ["ring"]), ("NoPerson", ["thing"]), ("NoRule", ["thing"]), ("NoTie", ["one", "other"]), ("NotFirm", ["pairing"]), ("NotWatched", ["question"]), ("Stays", ["one", "other"]), ("TurnsRound", ["person", "ring"]), ("WouldChange", ["question", "why"])] : List (Str × List Str))
abbrev R : PySem.W.OpenRow := PySem.W.OpenLaw.row PySem.Challenge.rw_swaphouse_k00_errors_made
/-! ### the objects that the facts speak of -/
def refs1 (o : Obj) : List Addr := match o.data with
  | .cls cd => [cd.ns]
  | .func fd => He.refV fd.code
  | .dict es _ => es.toList.flatMap fun e => He.refV e.val
  | _ => []
def gr (g : Addr → Option Obj) (as : List Addr) : List Addr := as.flatMap fun a => match g a with
  | some o => refs1 o
  | none => []
def addrs (g : Addr → Option Obj) : List Addr :=
  [mainGlobals, sysModules] ++ (gr g [mainGlobals] ++ (gr g (gr g [mainGlobals]) ++ (gr g (gr g (gr g [mainGlobals])) ++ gr g (gr g (gr g (gr g [mainGlobals]))))))
/-- a list of objects, each address known -/
def force {α : Type} : PySem.W.Frag → (PySem.W.Frag → α) → α
  | [], k => k []
  | (a, o) :: r, k => HandSHeadRun.frNat a fun a => force r fun r => k ((a, o) :: r)
theorem force_eq {α : Type} : ∀ (K : PySem.W.Frag) (k : PySem.W.Frag → α), force K k = k K
  | [], _ => rfl
  | (a, o) :: r, k => by
    show (HandSHeadRun.frNat a fun a => force r fun r => k ((a, o) :: r)) = _
    rw [HandSHeadRun.frNat_eq, force_eq r]
def tf : List He.Defn := [("_law_made_a", none), ("_law_made_b", none), ("_law_made_c", none)]
abbrev tP (K : PySem.W.Frag) (x : Str) : Addr := (He.cT K (x, none)).2
abbrev Sw (K : PySem.W.Frag) : Addr := He.ga K "SwapError"
def F1 (K : PySem.W.Frag) : Bool := (names.all fun x => (He.Fa.glo x).ok K) && (He.Fa.glo "law").ok K
def F2 (K : PySem.W.Frag) : Bool := fr.all fun x => (He.Fa.free x).ok K
def F3 (K : PySem.W.Frag) : Bool := fn.all fun d => d.ok K
def F4 (K : PySem.W.Frag) : Bool := HandSHeadRun.frNat (Sw K) fun S => cl.all fun p => HandSHeadRun.frNat (He.ga K p.1) fun C => Kf.oneB K C S p.2
def F5 (K : PySem.W.Frag) : Bool := HandSHeadRun.frNat (Sw K) fun S => Kf.clsB K S Kf.veT && (Kf.attB K S && (PySem.W.excIn K S He.veBase "ValueError.__new__" && PySem.W.keepIn K (.ref S)))
def F6 (K : PySem.W.Frag) : Bool := He.eqO (PySem.W.specialIn K (.builtin "object.__class__") "__get__") (some (some (.builtin "getset_descriptor.__get__"))) && decide (PySem.W.takesIn K (.builtin "object.__class__") = some true)
def F7 (K : PySem.W.Frag) : Bool := Kf.asc ((("SwapError" : Str) :: Kk.kn).map fun x => He.ga K x)
def F8 (K : PySem.W.Frag) : Bool := tf.all fun p => PySem.W.codeHdIn K (He.cT K p).1 (He.cT K p).2 && (K.lookup (He.cT K p).2).isNone
def F9 (K : PySem.W.Frag) : Bool := !(Nat.beq (tP K "_law_made_a") (tP K "_law_made_b")) && (!(Nat.beq (tP K "_law_made_a") (tP K "_law_made_c")) && !(Nat.beq (tP K "_law_made_b") (tP K "_law_made_c")))
def F10 (K : PySem.W.Frag) : Bool := (K.lookup sysModules).isSome
def facts (K : PySem.W.Frag) : Bool := F1 K && (F2 K && (F3 K && (F4 K && (F5 K && (F6 K && (F7 K && (F8 K && (F9 K && F10 K))))))))
def empt (g : Addr → Option Obj) (K : PySem.W.Frag) : Bool := tf.all fun p => match g (He.cT K p).2 with
  | some o => He.emptyTab o
  | none => false
abbrev Al : Type := (Bool × Bool) × List He.FnW
def obsK (g : Addr → Option Obj) (K : PySem.W.Frag) : Al := ((facts K, empt g K), fn.map fun d => He.fnW K d.at_)
def obs0 (g : Addr → Option Obj) : Al := force (He.frG g (addrs g)) (obsK g)
def val0 : Al := ((true, true), fn.map He.DefD.val)
structure Says (h : Heap) (K : PySem.W.Frag) : Prop where
  f : facts K = true
  d : fn.map (fun d => He.fnW K d.at_) = fn.map He.DefD.val
  e : ∀ p ∈ tf, h.get? (He.cT K p).2 = some { cls := .none, data := .fields #[] }
theorem says_of {h : Heap} (e : obs0 h.get? = val0) : ∃ K : PySem.W.Frag, K.In h ∧ Says h K := by
  unfold obs0 at e
  rw [force_eq] at e
  refine ⟨He.frG h.get? (addrs h.get?), He.frG_in, ?_⟩
  generalize He.frG h.get? (addrs h.get?) = K at e ⊢
  have e1 : (facts K, empt h.get? K) = (true, true) := congrArg (fun z : Al => z.1) e
  have e2 : fn.map (fun d => He.fnW K d.at_) = fn.map He.DefD.val := congrArg (fun z : Al => z.2) e
  have e3 : facts K = true := congrArg (fun z : Bool × Bool => z.1) e1
  have e4 : empt h.get? K = true := congrArg (fun z : Bool × Bool => z.2) e1
  refine ⟨e3, e2, fun p hp => ?_⟩
  have z := List.all_eq_true.mp e4 p hp
  cases q : h.get? (He.cT K p).2 with
  | none =>
    rw [q] at z
    cases z
  | some o =>
    rw [q] at z
    rw [He.emptyTab_eq z]
def hk : PySem.W.Hook where
  α := Al
  obs := fun s => obs0 s.heap.get?
  val := fun _ => val0
  says := fun _ h => ∃ K : PySem.W.Frag, K.In h ∧ Says h K
  of := fun _ _ e => says_of e
  keeps := fun _ _ _ ⟨K, hK, c⟩ k => ⟨K, PySem.W.Frag.In.keeps hK k, ⟨c.f, c.d, fun p hp => k _ _ (c.e p hp)⟩⟩
def ob (s : PySem.W.SharedT) : Al := obs0 (HandSHeadRun.getT s)
theorem ob_eq (s : PySem.W.SharedT) : ob s = hk.obs s.abs := by
  have e : HandSHeadRun.getT s = s.abs.heap.get? := funext (HandSHeadRun.getT_eq s)
  show obs0 (HandSHeadRun.getT s) = obs0 s.abs.heap.get?
  rw [e]
theorem run (w : World) : HandSHeadRun.RunEq R (PySem.W.view R.prog [62]) hk ob 13000 names w := by
  intro os
  kernel_rfl
end Kh
namespace Kh
open PySem PySem.Spec PyProof.Rows L2 Kc

/-! ### what the facts say -/
section
variable {h : Heap} {K : PySem.W.Frag} (c : Says h K)
include c
theorem Says.all : F1 K = true ∧ F2 K = true ∧ F3 K = true ∧ F4 K = true ∧ F5 K = true ∧ F6 K = true ∧ F7 K = true ∧ F8 K = true ∧ F9 K = true ∧ F10 K = true := by
  obtain ⟨a1, f⟩ := He.ba c.f
  obtain ⟨a2, f⟩ := He.ba f
  obtain ⟨a3, f⟩ := He.ba f
  obtain ⟨a4, f⟩ := He.ba f
  obtain ⟨a5, f⟩ := He.ba f
  obtain ⟨a6, f⟩ := He.ba f
  obtain ⟨a7, f⟩ := He.ba f
  obtain ⟨a8, f⟩ := He.ba f
  obtain ⟨a9, f⟩ := He.ba f
  exact ⟨a1, a2, a3, a4, a5, a6, a7, a8, a9, f⟩
theorem Says.glo {mg : Str → Option Value} (X : K.In h) (G : h.Ns mainGlobals mg) {x : Str} (hx : x ∈ names) : mg x = some (.ref (He.ga K x)) :=
  He.glo_ok X G (List.all_eq_true.mp (He.ba c.all.1).1 x hx)
theorem Says.gloL {mg : Str → Option Value} (X : K.In h) (G : h.Ns mainGlobals mg) : mg "law" = some (.ref (He.ga K "law")) := He.glo_ok X G (He.ba c.all.1).2
theorem Says.free {mg : Str → Option Value} (X : K.In h) (G : h.Ns mainGlobals mg) {x : Str} (hx : x ∈ fr) : mg x = none := He.free_ok X G (List.all_eq_true.mp c.all.2.1 x hx)
theorem Says.def_ (j : Nat) {d : He.DefD} (hj : fn[j]? = some d) : ∃ fd, FunD K d.name d.qual d.params d.body d.scope (d.dvs K) (d.kws K) (He.fAd K d.at_) fd := by
  have e2 : (fn.map fun d => He.fnW K d.at_)[j]? = (fn.map He.DefD.val)[j]? := by rw [c.d]
  rw [List.getElem?_map, List.getElem?_map, hj] at e2
  exact He.DefD.funD (Option.some.inj e2) (List.all_eq_true.mp c.all.2.2.1 d (List.mem_of_getElem? hj))
omit c in
theorem toFun {x q : Str} {st : Stmt} {f : Addr} {fd : FuncData} {kws : List (Str × V)} (F : FunD K x q (defArgs st) (defBody st) (defScope st) [] kws f fd) : Fun K x q st f fd := by
  obtain ⟨oc, od, dV, kV, doc, pm, an, cdv, ct, osl, rfl, lk, hcd, hD, hK⟩ := F.ex
  rcases hD with ⟨_, rfl⟩ | ⟨e, _⟩
  · exact ⟨⟨oc, od, kV, doc, pm, an, cdv, ct, osl, rfl, lk, hcd⟩, F.kp⟩
  · exact absurd rfl e
theorem Says.gF (j : Nat) {i : Nat} {x : Str} (hj : fn[j]? = some (gD i x)) : ∃ fd, Fun K x x (Kd.top i) (He.ga K x) fd := by
  obtain ⟨fd, F⟩ := c.def_ j hj
  exact ⟨fd, toFun F⟩
theorem Says.cF (j : Nat) {i : Nat} {x q : Str} (hj : fn[j]? = some (cD i x q)) : ∃ fd, Fun K "__init__" q (inClass (Kd.top i) 0) (He.ma K (He.ga K x) "__init__") fd := by
  obtain ⟨fd, F⟩ := c.def_ j hj
  exact ⟨fd, toFun F⟩
theorem Says.one : ∀ p ∈ cl, Kf.oneB K (He.ga K p.1) (Sw K) p.2 = true := by
  have f4 := c.all.2.2.2.1
  unfold F4 at f4
  rw [HandSHeadRun.frNat_eq] at f4
  intro p hp
  have z := List.all_eq_true.mp f4 p hp
  rw [HandSHeadRun.frNat_eq] at z
  exact z
theorem Says.sw : Kf.clsB K (Sw K) Kf.veT = true ∧ Kf.attB K (Sw K) = true ∧ PySem.W.excIn K (Sw K) He.veBase "ValueError.__new__" = true ∧ PySem.W.keepIn K (.ref (Sw K)) = true := by
  have f5 := c.all.2.2.2.2.1
  unfold F5 at f5
  rw [HandSHeadRun.frNat_eq] at f5
  obtain ⟨a1, f⟩ := He.ba f5
  obtain ⟨a2, f⟩ := He.ba f
  obtain ⟨a3, f⟩ := He.ba f
  exact ⟨a1, a2, a3, f⟩
theorem Says.oc : PySem.W.specialIn K (.builtin "object.__class__") "__get__" = some (some (.builtin "getset_descriptor.__get__")) ∧ PySem.W.takesIn K (.builtin "object.__class__") = some true := by
  obtain ⟨a1, a2⟩ := He.ba c.all.2.2.2.2.2.1
  exact ⟨He.eqO_ok a1, of_decide_eq_true a2⟩
theorem Says.lt {i j : Nat} {x y : Str} (hl : i < j) (hi : (("SwapError" : Str) :: Kk.kn)[i]? = some x) (hj : (("SwapError" : Str) :: Kk.kn)[j]? = some y) : He.ga K x < He.ga K y :=
  Kf.asc_lt c.all.2.2.2.2.2.2.1 hl (by rw [List.getElem?_map, hi]; rfl) (by rw [List.getElem?_map, hj]; rfl)
theorem Says.inj (i j : Nat) (x y : Str) (hi : Kk.kn[i]? = some x) (hj : Kk.kn[j]? = some y) (e : He.ga K x = He.ga K y) : i = j := by
  rcases Nat.lt_trichotomy i j with z | z | z
  · have q := c.lt (i := i + 1) (j := j + 1) (Nat.succ_lt_succ z) hi hj
    rw [e] at q
    exact absurd q (Nat.lt_irrefl _)
  · exact z
  · have q := c.lt (i := j + 1) (j := i + 1) (Nat.succ_lt_succ z) hj hi
    rw [e] at q
    exact absurd q (Nat.lt_irrefl _)
theorem Says.sne {y : Str} (hy : y ∈ Kk.kn) : He.ga K y ≠ Sw K := by
  obtain ⟨j, hj⟩ := List.getElem?_of_mem hy
  intro e
  have q := c.lt (i := 0) (j := j + 1) (Nat.succ_pos _) rfl hj
  rw [e] at q
  exact absurd q (Nat.lt_irrefl _)
theorem Says.tab : (∀ p ∈ tf, PySem.W.codeHdIn K (He.cT K p).1 (He.cT K p).2 = true ∧ K.lookup (He.cT K p).2 = none) := by
  intro p hp
  obtain ⟨a1, a2⟩ := He.ba (List.all_eq_true.mp c.all.2.2.2.2.2.2.2.1 p hp)
  refine ⟨a1, ?_⟩
  cases q : K.lookup (He.cT K p).2 with
  | none => rfl
  | some o =>
    rw [q] at a2
    cases a2
theorem Says.ne : tP K "_law_made_a" ≠ tP K "_law_made_b" ∧ tP K "_law_made_a" ≠ tP K "_law_made_c" ∧ tP K "_law_made_b" ≠ tP K "_law_made_c" := by
  obtain ⟨a1, f⟩ := He.ba c.all.2.2.2.2.2.2.2.2.1
  obtain ⟨a2, a3⟩ := He.ba f
  have key : ∀ a b : Nat, (!(Nat.beq a b)) = true → a ≠ b := fun a b z e => by
    rw [e, Nat.beq_refl] at z
    cases z
  exact ⟨key _ _ a1, key _ _ a2, key _ _ a3⟩
theorem Says.mods {base : Heap} (hK : K.In base) : ∃ o, base.get? sysModules = some o := by
  have f := c.all.2.2.2.2.2.2.2.2.2
  unfold F10 at f
  cases q : K.lookup sysModules with
  | none =>
    rw [q] at f
    cases f
  | some o => exact ⟨o, hK _ _ q⟩
/-! ### what isinstance tells -/
omit c in
theorem cl_kn : cl.map (·.1) = Kk.kn := by decide +kernel
theorem Says.okn {x : Str} (hx : x ∈ Kk.kn) : Kf.clsB K (He.ga K x) (.ref (Sw K) :: Kf.veT) = true ∧ Kf.attB K (He.ga K x) = true := by
  rw [← cl_kn] at hx
  obtain ⟨p, hp, rfl⟩ := List.mem_map.mp hx
  obtain ⟨a1, f⟩ := He.ba (c.one p hp)
  exact ⟨a1, (He.ba f).1⟩
omit c in
theorem has_ty {C : Addr} {T : String} : (Value.ref C :: Kf.veT).contains (.type T) = Kf.veT.contains (.type T) := by
  rw [List.contains_cons]
  rfl
omit c in
theorem has_no {S y : Addr} (ne : y ≠ S) : (Value.ref S :: Kf.veT).contains (.ref y) = false := by
  rw [List.contains_cons]
  have e : (Value.ref y == Value.ref S) = false := beq_eq_false_iff_ne.mpr fun z => ne (Value.ref.inj z)
  rw [e]
  rfl
theorem Says.ownK : Kq.OwnK K := by
  obtain ⟨hn, ht⟩ := c.oc
  obtain ⟨qS, aS, _, _⟩ := c.sw
  have m : ∀ {i : Nat} {x : Str}, Kk.kn[i]? = some x → x ∈ Kk.kn := fun e => List.mem_of_getElem? e
  refine ⟨fun i x e => ?_, fun i x e y hy => ?_, fun i x e => ?_, fun i x e => ?_, fun i x e => ?_, ?_, fun y hy => ?_, ?_, fun y hy => c.sne hy⟩
  · obtain ⟨q1, q2⟩ := c.okn (m e)
    exact (Kf.exc_of q1 q2 (by rw [Kf.mro_has]; decide +kernel) (by rw [Kf.mro_has]; decide +kernel) hn ht).1
  · exact Kf.kit_own (c.okn (m e)).1 (c.okn hy).1 (has_no (c.sne hy))
  · exact Kf.kit_base (c.okn (m e)).1 qS (by rw [List.contains_cons, List.contains_cons]; simp)
  · exact Kf.kit_ty (c.okn (m e)).1 rfl (by rw [Kf.mro_has]; decide +kernel)
  · exact Kf.kit_ty (c.okn (m e)).1 rfl (by rw [Kf.mro_has]; decide +kernel)
  · exact (Kf.exc_of qS aS (by rw [has_ty]; decide +kernel) (by rw [has_ty]; decide +kernel) hn ht).1
  · exact Kf.kit_own qS (c.okn hy).1 (by rfl)
  · exact Kf.kit_ty qS rfl (by rw [has_ty]; decide +kernel)
end
end Kh
namespace Kh
open PySem PySem.Spec PyProof.Rows L2 Kc
section
variable {Pg : Program} {w : World} {K : PySem.W.Frag} {mg : Str → Option Value} {base h : Heap} (c : Says h K) (hG : ∀ x ∈ names, mg x = some (.ref (He.ga K x)))
include c hG
theorem Says.cls {p : Str × List Str} (hp : p ∈ cl) (hx : p.1 ∈ names) : ClsX K mg p.1 p.2 := Kf.one_of (hG _ hx) (c.one p hp) c.oc.1 c.oc.2
theorem cb_AsksOn : CB1 Pg w K mg base "AsksOn" "many" := by
  obtain ⟨fd, F⟩ := c.cF 13 (i := 2) (x := "AsksOn") (q := "AsksOn.__init__") rfl
  refine ⟨c.cls hG (p := ("AsksOn", ["many"])) (List.mem_of_getElem? (i := 0) rfl) (List.mem_of_getElem? (i := 1) rfl), fd, okI1 F ⟨rfl, rfl, rfl, by decide +kernel, rfl, by decide +kernel, by decide +kernel⟩ rfl rfl rfl rfl rfl, ?_, ?_⟩
  · exact kbP F fun _ _ _ _ _ _ us hl => match us, hl with | [_, _], _ => rfl
  · exact kbK F (fun r s => Vals.append r s) fun _ _ _ _ _ _ us ws hl hw => match us, ws, hl, hw with | [_], [_], _, _ => rfl
theorem cb_BadAllotment : CB1 Pg w K mg base "BadAllotment" "thing" := by
  obtain ⟨fd, F⟩ := c.cF 14 (i := 3) (x := "BadAllotment") (q := "BadAllotment.__init__") rfl
  refine ⟨c.cls hG (p := ("BadAllotment", ["thing"])) (List.mem_of_getElem? (i := 1) rfl) (List.mem_of_getElem? (i := 2) rfl), fd, okI1 F ⟨rfl, rfl, rfl, by decide +kernel, rfl, by decide +kernel, by decide +kernel⟩ rfl rfl rfl rfl rfl, ?_, ?_⟩
  · exact kbP F fun _ _ _ _ _ _ us hl => match us, hl with | [_, _], _ => rfl
  · exact kbK F (fun r s => Vals.append r s) fun _ _ _ _ _ _ us ws hl hw => match us, ws, hl, hw with | [_], [_], _, _ => rfl
theorem cb_BadAsk : CB1 Pg w K mg base "BadAsk" "thing" := by
  obtain ⟨fd, F⟩ := c.cF 15 (i := 4) (x := "BadAsk") (q := "BadAsk.__init__") rfl
  refine ⟨c.cls hG (p := ("BadAsk", ["thing"])) (List.mem_of_getElem? (i := 2) rfl) (List.mem_of_getElem? (i := 3) rfl), fd, okI1 F ⟨rfl, rfl, rfl, by decide +kernel, rfl, by decide +kernel, by decide +kernel⟩ rfl rfl rfl rfl rfl, ?_, ?_⟩
  · exact kbP F fun _ _ _ _ _ _ us hl => match us, hl with | [_, _], _ => rfl
  · exact kbK F (fun r s => Vals.append r s) fun _ _ _ _ _ _ us ws hl hw => match us, ws, hl, hw with | [_], [_], _, _ => rfl
theorem cb_BadAsker : CB1 Pg w K mg base "BadAsker" "thing" := by
  obtain ⟨fd, F⟩ := c.cF 16 (i := 5) (x := "BadAsker") (q := "BadAsker.__init__") rfl
  refine ⟨c.cls hG (p := ("BadAsker", ["thing"])) (List.mem_of_getElem? (i := 3) rfl) (List.mem_of_getElem? (i := 4) rfl), fd, okI1 F ⟨rfl, rfl, rfl, by decide +kernel, rfl, by decide +kernel, by decide +kernel⟩ rfl rfl rfl rfl rfl, ?_, ?_⟩
  · exact kbP F fun _ _ _ _ _ _ us hl => match us, hl with | [_, _], _ => rfl
  · exact kbK F (fun r s => Vals.append r s) fun _ _ _ _ _ _ us ws hl hw => match us, ws, hl, hw with | [_], [_], _, _ => rfl
theorem cb_BadBounds : CB1 Pg w K mg base "BadBounds" "thing" := by
  obtain ⟨fd, F⟩ := c.cF 17 (i := 6) (x := "BadBounds") (q := "BadBounds.__init__") rfl
  refine ⟨c.cls hG (p := ("BadBounds", ["thing"])) (List.mem_of_getElem? (i := 4) rfl) (List.mem_of_getElem? (i := 5) rfl), fd, okI1 F ⟨rfl, rfl, rfl, by decide +kernel, rfl, by decide +kernel, by decide +kernel⟩ rfl rfl rfl rfl rfl, ?_, ?_⟩
  · exact kbP F fun _ _ _ _ _ _ us hl => match us, hl with | [_, _], _ => rfl
  · exact kbK F (fun r s => Vals.append r s) fun _ _ _ _ _ _ us ws hl hw => match us, ws, hl, hw with | [_], [_], _, _ => rfl
theorem cb_BadDeed : CB1 Pg w K mg base "BadDeed" "thing" := by
  obtain ⟨fd, F⟩ := c.cF 18 (i := 7) (x := "BadDeed") (q := "BadDeed.__init__") rfl
  refine ⟨c.cls hG (p := ("BadDeed", ["thing"])) (List.mem_of_getElem? (i := 5) rfl) (List.mem_of_getElem? (i := 6) rfl), fd, okI1 F ⟨rfl, rfl, rfl, by decide +kernel, rfl, by decide +kernel, by decide +kernel⟩ rfl rfl rfl rfl rfl, ?_, ?_⟩
  · exact kbP F fun _ _ _ _ _ _ us hl => match us, hl with | [_, _], _ => rfl
  · exact kbK F (fun r s => Vals.append r s) fun _ _ _ _ _ _ us ws hl hw => match us, ws, hl, hw with | [_], [_], _, _ => rfl
theorem cb_BadGivers : CB1 Pg w K mg base "BadGivers" "index" := by
  obtain ⟨fd, F⟩ := c.cF 19 (i := 8) (x := "BadGivers") (q := "BadGivers.__init__") rfl
  refine ⟨c.cls hG (p := ("BadGivers", ["index"])) (List.mem_of_getElem? (i := 6) rfl) (List.mem_of_getElem? (i := 7) rfl), fd, okI1 F ⟨rfl, rfl, rfl, by decide +kernel, rfl, by decide +kernel, by decide +kernel⟩ rfl rfl rfl rfl rfl, ?_, ?_⟩
  · exact kbP F fun _ _ _ _ _ _ us hl => match us, hl with | [_, _], _ => rfl
  · exact kbK F (fun r s => Vals.append r s) fun _ _ _ _ _ _ us ws hl hw => match us, ws, hl, hw with | [_], [_], _, _ => rfl
theorem cb_BadKnown : CB1 Pg w K mg base "BadKnown" "thing" := by
  obtain ⟨fd, F⟩ := c.cF 20 (i := 9) (x := "BadKnown") (q := "BadKnown.__init__") rfl
  refine ⟨c.cls hG (p := ("BadKnown", ["thing"])) (List.mem_of_getElem? (i := 7) rfl) (List.mem_of_getElem? (i := 8) rfl), fd, okI1 F ⟨rfl, rfl, rfl, by decide +kernel, rfl, by decide +kernel, by decide +kernel⟩ rfl rfl rfl rfl rfl, ?_, ?_⟩
  · exact kbP F fun _ _ _ _ _ _ us hl => match us, hl with | [_, _], _ => rfl
  · exact kbK F (fun r s => Vals.append r s) fun _ _ _ _ _ _ us ws hl hw => match us, ws, hl, hw with | [_], [_], _, _ => rfl
theorem cb_BadLies : CB1 Pg w K mg base "BadLies" "thing" := by
  obtain ⟨fd, F⟩ := c.cF 21 (i := 10) (x := "BadLies") (q := "BadLies.__init__") rfl
  refine ⟨c.cls hG (p := ("BadLies", ["thing"])) (List.mem_of_getElem? (i := 8) rfl) (List.mem_of_getElem? (i := 9) rfl), fd, okI1 F ⟨rfl, rfl, rfl, by decide +kernel, rfl, by decide +kernel, by decide +kernel⟩ rfl rfl rfl rfl rfl, ?_, ?_⟩
  · exact kbP F fun _ _ _ _ _ _ us hl => match us, hl with | [_, _], _ => rfl
  · exact kbK F (fun r s => Vals.append r s) fun _ _ _ _ _ _ us ws hl hw => match us, ws, hl, hw with | [_], [_], _, _ => rfl
theorem cb_BadLot : CB1 Pg w K mg base "BadLot" "index" := by
  obtain ⟨fd, F⟩ := c.cF 22 (i := 11) (x := "BadLot") (q := "BadLot.__init__") rfl
  refine ⟨c.cls hG (p := ("BadLot", ["index"])) (List.mem_of_getElem? (i := 9) rfl) (List.mem_of_getElem? (i := 10) rfl), fd, okI1 F ⟨rfl, rfl, rfl, by decide +kernel, rfl, by decide +kernel, by decide +kernel⟩ rfl rfl rfl rfl rfl, ?_, ?_⟩
  · exact kbP F fun _ _ _ _ _ _ us hl => match us, hl with | [_, _], _ => rfl
  · exact kbK F (fun r s => Vals.append r s) fun _ _ _ _ _ _ us ws hl hw => match us, ws, hl, hw with | [_], [_], _, _ => rfl
theorem cb_BadLots : CB1 Pg w K mg base "BadLots" "thing" := by
  obtain ⟨fd, F⟩ := c.cF 23 (i := 12) (x := "BadLots") (q := "BadLots.__init__") rfl
  refine ⟨c.cls hG (p := ("BadLots", ["thing"])) (List.mem_of_getElem? (i := 10) rfl) (List.mem_of_getElem? (i := 11) rfl), fd, okI1 F ⟨rfl, rfl, rfl, by decide +kernel, rfl, by decide +kernel, by decide +kernel⟩ rfl rfl rfl rfl rfl, ?_, ?_⟩
  · exact kbP F fun _ _ _ _ _ _ us hl => match us, hl with | [_, _], _ => rfl
  · exact kbK F (fun r s => Vals.append r s) fun _ _ _ _ _ _ us ws hl hw => match us, ws, hl, hw with | [_], [_], _, _ => rfl
theorem cb_BadMarket : CB1 Pg w K mg base "BadMarket" "thing" := by
  obtain ⟨fd, F⟩ := c.cF 24 (i := 13) (x := "BadMarket") (q := "BadMarket.__init__") rfl
  refine ⟨c.cls hG (p := ("BadMarket", ["thing"])) (List.mem_of_getElem? (i := 11) rfl) (List.mem_of_getElem? (i := 12) rfl), fd, okI1 F ⟨rfl, rfl, rfl, by decide +kernel, rfl, by decide +kernel, by decide +kernel⟩ rfl rfl rfl rfl rfl, ?_, ?_⟩
  · exact kbP F fun _ _ _ _ _ _ us hl => match us, hl with | [_, _], _ => rfl
  · exact kbK F (fun r s => Vals.append r s) fun _ _ _ _ _ _ us ws hl hw => match us, ws, hl, hw with | [_], [_], _, _ => rfl
theorem cb_BadName : CB1 Pg w K mg base "BadName" "thing" := by
  obtain ⟨fd, F⟩ := c.cF 25 (i := 14) (x := "BadName") (q := "BadName.__init__") rfl
  refine ⟨c.cls hG (p := ("BadName", ["thing"])) (List.mem_of_getElem? (i := 12) rfl) (List.mem_of_getElem? (i := 13) rfl), fd, okI1 F ⟨rfl, rfl, rfl, by decide +kernel, rfl, by decide +kernel, by decide +kernel⟩ rfl rfl rfl rfl rfl, ?_, ?_⟩
  · exact kbP F fun _ _ _ _ _ _ us hl => match us, hl with | [_, _], _ => rfl
  · exact kbK F (fun r s => Vals.append r s) fun _ _ _ _ _ _ us ws hl hw => match us, ws, hl, hw with | [_], [_], _, _ => rfl
theorem cb_BadNeeds : CB1 Pg w K mg base "BadNeeds" "index" := by
  obtain ⟨fd, F⟩ := c.cF 26 (i := 15) (x := "BadNeeds") (q := "BadNeeds.__init__") rfl
  refine ⟨c.cls hG (p := ("BadNeeds", ["index"])) (List.mem_of_getElem? (i := 13) rfl) (List.mem_of_getElem? (i := 14) rfl), fd, okI1 F ⟨rfl, rfl, rfl, by decide +kernel, rfl, by decide +kernel, by decide +kernel⟩ rfl rfl rfl rfl rfl, ?_, ?_⟩
  · exact kbP F fun _ _ _ _ _ _ us hl => match us, hl with | [_, _], _ => rfl
  · exact kbK F (fun r s => Vals.append r s) fun _ _ _ _ _ _ us ws hl hw => match us, ws, hl, hw with | [_], [_], _, _ => rfl
theorem cb_BadNotice : CB1 Pg w K mg base "BadNotice" "thing" := by
  obtain ⟨fd, F⟩ := c.cF 27 (i := 16) (x := "BadNotice") (q := "BadNotice.__init__") rfl
  refine ⟨c.cls hG (p := ("BadNotice", ["thing"])) (List.mem_of_getElem? (i := 14) rfl) (List.mem_of_getElem? (i := 15) rfl), fd, okI1 F ⟨rfl, rfl, rfl, by decide +kernel, rfl, by decide +kernel, by decide +kernel⟩ rfl rfl rfl rfl rfl, ?_, ?_⟩
  · exact kbP F fun _ _ _ _ _ _ us hl => match us, hl with | [_, _], _ => rfl
  · exact kbK F (fun r s => Vals.append r s) fun _ _ _ _ _ _ us ws hl hw => match us, ws, hl, hw with | [_], [_], _, _ => rfl
theorem cb_BadNumber : CB1 Pg w K mg base "BadNumber" "thing" := by
  obtain ⟨fd, F⟩ := c.cF 28 (i := 17) (x := "BadNumber") (q := "BadNumber.__init__") rfl
  refine ⟨c.cls hG (p := ("BadNumber", ["thing"])) (List.mem_of_getElem? (i := 15) rfl) (List.mem_of_getElem? (i := 16) rfl), fd, okI1 F ⟨rfl, rfl, rfl, by decide +kernel, rfl, by decide +kernel, by decide +kernel⟩ rfl rfl rfl rfl rfl, ?_, ?_⟩
  · exact kbP F fun _ _ _ _ _ _ us hl => match us, hl with | [_, _], _ => rfl
  · exact kbK F (fun r s => Vals.append r s) fun _ _ _ _ _ _ us ws hl hw => match us, ws, hl, hw with | [_], [_], _, _ => rfl
theorem cb_BadPairing : CB1 Pg w K mg base "BadPairing" "thing" := by
  obtain ⟨fd, F⟩ := c.cF 29 (i := 18) (x := "BadPairing") (q := "BadPairing.__init__") rfl
  refine ⟨c.cls hG (p := ("BadPairing", ["thing"])) (List.mem_of_getElem? (i := 16) rfl) (List.mem_of_getElem? (i := 17) rfl), fd, okI1 F ⟨rfl, rfl, rfl, by decide +kernel, rfl, by decide +kernel, by decide +kernel⟩ rfl rfl rfl rfl rfl, ?_, ?_⟩
  · exact kbP F fun _ _ _ _ _ _ us hl => match us, hl with | [_, _], _ => rfl
  · exact kbK F (fun r s => Vals.append r s) fun _ _ _ _ _ _ us ws hl hw => match us, ws, hl, hw with | [_], [_], _, _ => rfl
theorem cb_BadPairings : CB1 Pg w K mg base "BadPairings" "index" := by
  obtain ⟨fd, F⟩ := c.cF 30 (i := 19) (x := "BadPairings") (q := "BadPairings.__init__") rfl
  refine ⟨c.cls hG (p := ("BadPairings", ["index"])) (List.mem_of_getElem? (i := 17) rfl) (List.mem_of_getElem? (i := 18) rfl), fd, okI1 F ⟨rfl, rfl, rfl, by decide +kernel, rfl, by decide +kernel, by decide +kernel⟩ rfl rfl rfl rfl rfl, ?_, ?_⟩
  · exact kbP F fun _ _ _ _ _ _ us hl => match us, hl with | [_, _], _ => rfl
  · exact kbK F (fun r s => Vals.append r s) fun _ _ _ _ _ _ us ws hl hw => match us, ws, hl, hw with | [_], [_], _, _ => rfl
theorem cb_BadPaper : CB1 Pg w K mg base "BadPaper" "thing" := by
  obtain ⟨fd, F⟩ := c.cF 31 (i := 20) (x := "BadPaper") (q := "BadPaper.__init__") rfl
  refine ⟨c.cls hG (p := ("BadPaper", ["thing"])) (List.mem_of_getElem? (i := 18) rfl) (List.mem_of_getElem? (i := 19) rfl), fd, okI1 F ⟨rfl, rfl, rfl, by decide +kernel, rfl, by decide +kernel, by decide +kernel⟩ rfl rfl rfl rfl rfl, ?_, ?_⟩
  · exact kbP F fun _ _ _ _ _ _ us hl => match us, hl with | [_, _], _ => rfl
  · exact kbK F (fun r s => Vals.append r s) fun _ _ _ _ _ _ us ws hl hw => match us, ws, hl, hw with | [_], [_], _, _ => rfl
theorem cb_BadPapers : CB1 Pg w K mg base "BadPapers" "index" := by
  obtain ⟨fd, F⟩ := c.cF 32 (i := 21) (x := "BadPapers") (q := "BadPapers.__init__") rfl
  refine ⟨c.cls hG (p := ("BadPapers", ["index"])) (List.mem_of_getElem? (i := 19) rfl) (List.mem_of_getElem? (i := 20) rfl), fd, okI1 F ⟨rfl, rfl, rfl, by decide +kernel, rfl, by decide +kernel, by decide +kernel⟩ rfl rfl rfl rfl rfl, ?_, ?_⟩
  · exact kbP F fun _ _ _ _ _ _ us hl => match us, hl with | [_, _], _ => rfl
  · exact kbK F (fun r s => Vals.append r s) fun _ _ _ _ _ _ us ws hl hw => match us, ws, hl, hw with | [_], [_], _, _ => rfl
theorem cb_BadPeople : CB1 Pg w K mg base "BadPeople" "index" := by
  obtain ⟨fd, F⟩ := c.cF 33 (i := 22) (x := "BadPeople") (q := "BadPeople.__init__") rfl
  refine ⟨c.cls hG (p := ("BadPeople", ["index"])) (List.mem_of_getElem? (i := 20) rfl) (List.mem_of_getElem? (i := 21) rfl), fd, okI1 F ⟨rfl, rfl, rfl, by decide +kernel, rfl, by decide +kernel, by decide +kernel⟩ rfl rfl rfl rfl rfl, ?_, ?_⟩
  · exact kbP F fun _ _ _ _ _ _ us hl => match us, hl with | [_, _], _ => rfl
  · exact kbK F (fun r s => Vals.append r s) fun _ _ _ _ _ _ us ws hl hw => match us, ws, hl, hw with | [_], [_], _, _ => rfl
theorem cb_BadPlace : CB1 Pg w K mg base "BadPlace" "thing" := by
  obtain ⟨fd, F⟩ := c.cF 34 (i := 23) (x := "BadPlace") (q := "BadPlace.__init__") rfl
  refine ⟨c.cls hG (p := ("BadPlace", ["thing"])) (List.mem_of_getElem? (i := 21) rfl) (List.mem_of_getElem? (i := 22) rfl), fd, okI1 F ⟨rfl, rfl, rfl, by decide +kernel, rfl, by decide +kernel, by decide +kernel⟩ rfl rfl rfl rfl rfl, ?_, ?_⟩
  · exact kbP F fun _ _ _ _ _ _ us hl => match us, hl with | [_, _], _ => rfl
  · exact kbK F (fun r s => Vals.append r s) fun _ _ _ _ _ _ us ws hl hw => match us, ws, hl, hw with | [_], [_], _, _ => rfl
theorem cb_BadQuestion : CB1 Pg w K mg base "BadQuestion" "thing" := by
  obtain ⟨fd, F⟩ := c.cF 35 (i := 24) (x := "BadQuestion") (q := "BadQuestion.__init__") rfl
  refine ⟨c.cls hG (p := ("BadQuestion", ["thing"])) (List.mem_of_getElem? (i := 22) rfl) (List.mem_of_getElem? (i := 23) rfl), fd, okI1 F ⟨rfl, rfl, rfl, by decide +kernel, rfl, by decide +kernel, by decide +kernel⟩ rfl rfl rfl rfl rfl, ?_, ?_⟩
  · exact kbP F fun _ _ _ _ _ _ us hl => match us, hl with | [_, _], _ => rfl
  · exact kbK F (fun r s => Vals.append r s) fun _ _ _ _ _ _ us ws hl hw => match us, ws, hl, hw with | [_], [_], _, _ => rfl
theorem cb_BadResult : CB1 Pg w K mg base "BadResult" "thing" := by
  obtain ⟨fd, F⟩ := c.cF 36 (i := 25) (x := "BadResult") (q := "BadResult.__init__") rfl
  refine ⟨c.cls hG (p := ("BadResult", ["thing"])) (List.mem_of_getElem? (i := 23) rfl) (List.mem_of_getElem? (i := 24) rfl), fd, okI1 F ⟨rfl, rfl, rfl, by decide +kernel, rfl, by decide +kernel, by decide +kernel⟩ rfl rfl rfl rfl rfl, ?_, ?_⟩
  · exact kbP F fun _ _ _ _ _ _ us hl => match us, hl with | [_, _], _ => rfl
  · exact kbK F (fun r s => Vals.append r s) fun _ _ _ _ _ _ us ws hl hw => match us, ws, hl, hw with | [_], [_], _, _ => rfl
theorem cb_BadRow : CB1 Pg w K mg base "BadRow" "index" := by
  obtain ⟨fd, F⟩ := c.cF 37 (i := 26) (x := "BadRow") (q := "BadRow.__init__") rfl
  refine ⟨c.cls hG (p := ("BadRow", ["index"])) (List.mem_of_getElem? (i := 24) rfl) (List.mem_of_getElem? (i := 25) rfl), fd, okI1 F ⟨rfl, rfl, rfl, by decide +kernel, rfl, by decide +kernel, by decide +kernel⟩ rfl rfl rfl rfl rfl, ?_, ?_⟩
  · exact kbP F fun _ _ _ _ _ _ us hl => match us, hl with | [_, _], _ => rfl
  · exact kbK F (fun r s => Vals.append r s) fun _ _ _ _ _ _ us ws hl hw => match us, ws, hl, hw with | [_], [_], _, _ => rfl
theorem cb_BadRule : CB1 Pg w K mg base "BadRule" "thing" := by
  obtain ⟨fd, F⟩ := c.cF 38 (i := 27) (x := "BadRule") (q := "BadRule.__init__") rfl
  refine ⟨c.cls hG (p := ("BadRule", ["thing"])) (List.mem_of_getElem? (i := 25) rfl) (List.mem_of_getElem? (i := 26) rfl), fd, okI1 F ⟨rfl, rfl, rfl, by decide +kernel, rfl, by decide +kernel, by decide +kernel⟩ rfl rfl rfl rfl rfl, ?_, ?_⟩
  · exact kbP F fun _ _ _ _ _ _ us hl => match us, hl with | [_, _], _ => rfl
  · exact kbK F (fun r s => Vals.append r s) fun _ _ _ _ _ _ us ws hl hw => match us, ws, hl, hw with | [_], [_], _, _ => rfl
theorem cb_BadSession : CB1 Pg w K mg base "BadSession" "thing" := by
  obtain ⟨fd, F⟩ := c.cF 39 (i := 28) (x := "BadSession") (q := "BadSession.__init__") rfl
  refine ⟨c.cls hG (p := ("BadSession", ["thing"])) (List.mem_of_getElem? (i := 26) rfl) (List.mem_of_getElem? (i := 27) rfl), fd, okI1 F ⟨rfl, rfl, rfl, by decide +kernel, rfl, by decide +kernel, by decide +kernel⟩ rfl rfl rfl rfl rfl, ?_, ?_⟩
  · exact kbP F fun _ _ _ _ _ _ us hl => match us, hl with | [_, _], _ => rfl
  · exact kbK F (fun r s => Vals.append r s) fun _ _ _ _ _ _ us ws hl hw => match us, ws, hl, hw with | [_], [_], _, _ => rfl
theorem cb_BadSides : CB1 Pg w K mg base "BadSides" "thing" := by
  obtain ⟨fd, F⟩ := c.cF 40 (i := 29) (x := "BadSides") (q := "BadSides.__init__") rfl
  refine ⟨c.cls hG (p := ("BadSides", ["thing"])) (List.mem_of_getElem? (i := 27) rfl) (List.mem_of_getElem? (i := 28) rfl), fd, okI1 F ⟨rfl, rfl, rfl, by decide +kernel, rfl, by decide +kernel, by decide +kernel⟩ rfl rfl rfl rfl rfl, ?_, ?_⟩
  · exact kbP F fun _ _ _ _ _ _ us hl => match us, hl with | [_, _], _ => rfl
  · exact kbK F (fun r s => Vals.append r s) fun _ _ _ _ _ _ us ws hl hw => match us, ws, hl, hw with | [_], [_], _, _ => rfl
theorem cb_BadSteps : CB1 Pg w K mg base "BadSteps" "thing" := by
  obtain ⟨fd, F⟩ := c.cF 41 (i := 30) (x := "BadSteps") (q := "BadSteps.__init__") rfl
  refine ⟨c.cls hG (p := ("BadSteps", ["thing"])) (List.mem_of_getElem? (i := 28) rfl) (List.mem_of_getElem? (i := 29) rfl), fd, okI1 F ⟨rfl, rfl, rfl, by decide +kernel, rfl, by decide +kernel, by decide +kernel⟩ rfl rfl rfl rfl rfl, ?_, ?_⟩
  · exact kbP F fun _ _ _ _ _ _ us hl => match us, hl with | [_, _], _ => rfl
  · exact kbK F (fun r s => Vals.append r s) fun _ _ _ _ _ _ us ws hl hw => match us, ws, hl, hw with | [_], [_], _, _ => rfl
theorem cb_BadText : CB2 Pg w K mg base "BadText" "line" "sign" := by
  obtain ⟨fd, F⟩ := c.cF 42 (i := 31) (x := "BadText") (q := "BadText.__init__") rfl
  refine ⟨c.cls hG (p := ("BadText", ["line", "sign"])) (List.mem_of_getElem? (i := 29) rfl) (List.mem_of_getElem? (i := 30) rfl), by decide, fd, okI2 F ⟨rfl, rfl, rfl, by decide +kernel, rfl, by decide +kernel, by decide +kernel⟩ rfl rfl rfl rfl rfl rfl rfl rfl, ?_, ?_⟩
  · exact kbP F fun _ _ _ _ _ _ us hl => match us, hl with | [_, _, _], _ => rfl
  · exact kbK F (fun r s => Vals.append r (Vals.reverse s)) fun _ _ _ _ _ _ us ws hl hw => match us, ws, hl, hw with | [_], [_, _], _, _ => rfl
theorem cb_BadThings : CB1 Pg w K mg base "BadThings" "thing" := by
  obtain ⟨fd, F⟩ := c.cF 43 (i := 32) (x := "BadThings") (q := "BadThings.__init__") rfl
  refine ⟨c.cls hG (p := ("BadThings", ["thing"])) (List.mem_of_getElem? (i := 30) rfl) (List.mem_of_getElem? (i := 31) rfl), fd, okI1 F ⟨rfl, rfl, rfl, by decide +kernel, rfl, by decide +kernel, by decide +kernel⟩ rfl rfl rfl rfl rfl, ?_, ?_⟩
  · exact kbP F fun _ _ _ _ _ _ us hl => match us, hl with | [_, _], _ => rfl
  · exact kbK F (fun r s => Vals.append r s) fun _ _ _ _ _ _ us ws hl hw => match us, ws, hl, hw with | [_], [_], _, _ => rfl
theorem cb_BadWish : CB1 Pg w K mg base "BadWish" "thing" := by
  obtain ⟨fd, F⟩ := c.cF 44 (i := 33) (x := "BadWish") (q := "BadWish.__init__") rfl
  refine ⟨c.cls hG (p := ("BadWish", ["thing"])) (List.mem_of_getElem? (i := 31) rfl) (List.mem_of_getElem? (i := 32) rfl), fd, okI1 F ⟨rfl, rfl, rfl, by decide +kernel, rfl, by decide +kernel, by decide +kernel⟩ rfl rfl rfl rfl rfl, ?_, ?_⟩
  · exact kbP F fun _ _ _ _ _ _ us hl => match us, hl with | [_, _], _ => rfl
  · exact kbK F (fun r s => Vals.append r s) fun _ _ _ _ _ _ us ws hl hw => match us, ws, hl, hw with | [_], [_], _, _ => rfl
theorem cb_BadWishes : CB1 Pg w K mg base "BadWishes" "thing" := by
  obtain ⟨fd, F⟩ := c.cF 45 (i := 34) (x := "BadWishes") (q := "BadWishes.__init__") rfl
  refine ⟨c.cls hG (p := ("BadWishes", ["thing"])) (List.mem_of_getElem? (i := 32) rfl) (List.mem_of_getElem? (i := 33) rfl), fd, okI1 F ⟨rfl, rfl, rfl, by decide +kernel, rfl, by decide +kernel, by decide +kernel⟩ rfl rfl rfl rfl rfl, ?_, ?_⟩
  · exact kbP F fun _ _ _ _ _ _ us hl => match us, hl with | [_, _], _ => rfl
  · exact kbK F (fun r s => Vals.append r s) fun _ _ _ _ _ _ us ws hl hw => match us, ws, hl, hw with | [_], [_], _, _ => rfl
theorem cb_HasTie : CB2 Pg w K mg base "HasTie" "one" "other" := by
  obtain ⟨fd, F⟩ := c.cF 46 (i := 35) (x := "HasTie") (q := "HasTie.__init__") rfl
  refine ⟨c.cls hG (p := ("HasTie", ["one", "other"])) (List.mem_of_getElem? (i := 33) rfl) (List.mem_of_getElem? (i := 34) rfl), by decide, fd, okI2 F ⟨rfl, rfl, rfl, by decide +kernel, rfl, by decide +kernel, by decide +kernel⟩ rfl rfl rfl rfl rfl rfl rfl rfl, ?_, ?_⟩
  · exact kbP F fun _ _ _ _ _ _ us hl => match us, hl with | [_, _, _], _ => rfl
  · exact kbK F (fun r s => Vals.append r (Vals.reverse s)) fun _ _ _ _ _ _ us ws hl hw => match us, ws, hl, hw with | [_], [_, _], _, _ => rfl
theorem cb_InUse : CB1 Pg w K mg base "InUse" "question" := by
  obtain ⟨fd, F⟩ := c.cF 47 (i := 36) (x := "InUse") (q := "InUse.__init__") rfl
  refine ⟨c.cls hG (p := ("InUse", ["question"])) (List.mem_of_getElem? (i := 34) rfl) (List.mem_of_getElem? (i := 35) rfl), fd, okI1 F ⟨rfl, rfl, rfl, by decide +kernel, rfl, by decide +kernel, by decide +kernel⟩ rfl rfl rfl rfl rfl, ?_, ?_⟩
  · exact kbP F fun _ _ _ _ _ _ us hl => match us, hl with | [_, _], _ => rfl
  · exact kbK F (fun r s => Vals.append r s) fun _ _ _ _ _ _ us ws hl hw => match us, ws, hl, hw with | [_], [_], _, _ => rfl
theorem cb_IsWatched : CB1 Pg w K mg base "IsWatched" "question" := by
  obtain ⟨fd, F⟩ := c.cF 48 (i := 37) (x := "IsWatched") (q := "IsWatched.__init__") rfl
  refine ⟨c.cls hG (p := ("IsWatched", ["question"])) (List.mem_of_getElem? (i := 35) rfl) (List.mem_of_getElem? (i := 36) rfl), fd, okI1 F ⟨rfl, rfl, rfl, by decide +kernel, rfl, by decide +kernel, by decide +kernel⟩ rfl rfl rfl rfl rfl, ?_, ?_⟩
  · exact kbP F fun _ _ _ _ _ _ us hl => match us, hl with | [_, _], _ => rfl
  · exact kbK F (fun r s => Vals.append r s) fun _ _ _ _ _ _ us ws hl hw => match us, ws, hl, hw with | [_], [_], _, _ => rfl
theorem cb_NoBetterRow : CB1 Pg w K mg base "NoBetterRow" "thing" := by
  obtain ⟨fd, F⟩ := c.cF 49 (i := 38) (x := "NoBetterRow") (q := "NoBetterRow.__init__") rfl
  refine ⟨c.cls hG (p := ("NoBetterRow", ["thing"])) (List.mem_of_getElem? (i := 36) rfl) (List.mem_of_getElem? (i := 37) rfl), fd, okI1 F ⟨rfl, rfl, rfl, by decide +kernel, rfl, by decide +kernel, by decide +kernel⟩ rfl rfl rfl rfl rfl, ?_, ?_⟩
  · exact kbP F fun _ _ _ _ _ _ us hl => match us, hl with | [_, _], _ => rfl
  · exact kbK F (fun r s => Vals.append r s) fun _ _ _ _ _ _ us ws hl hw => match us, ws, hl, hw with | [_], [_], _, _ => rfl
theorem cb_NoCount : CB1 Pg w K mg base "NoCount" "thing" := by
  obtain ⟨fd, F⟩ := c.cF 50 (i := 39) (x := "NoCount") (q := "NoCount.__init__") rfl
  refine ⟨c.cls hG (p := ("NoCount", ["thing"])) (List.mem_of_getElem? (i := 37) rfl) (List.mem_of_getElem? (i := 38) rfl), fd, okI1 F ⟨rfl, rfl, rfl, by decide +kernel, rfl, by decide +kernel, by decide +kernel⟩ rfl rfl rfl rfl rfl, ?_, ?_⟩
  · exact kbP F fun _ _ _ _ _ _ us hl => match us, hl with | [_, _], _ => rfl
  · exact kbK F (fun r s => Vals.append r s) fun _ _ _ _ _ _ us ws hl hw => match us, ws, hl, hw with | [_], [_], _, _ => rfl
theorem cb_NoFirm : CB1 Pg w K mg base "NoFirm" "ring" := by
  obtain ⟨fd, F⟩ := c.cF 51 (i := 40) (x := "NoFirm") (q := "NoFirm.__init__") rfl
  refine ⟨c.cls hG (p := ("NoFirm", ["ring"])) (List.mem_of_getElem? (i := 38) rfl) (List.mem_of_getElem? (i := 39) rfl), fd, okI1 F ⟨rfl, rfl, rfl, by decide +kernel, rfl, by decide +kernel, by decide +kernel⟩ rfl rfl rfl rfl rfl, ?_, ?_⟩
  · exact kbP F fun _ _ _ _ _ _ us hl => match us, hl with | [_, _], _ => rfl
  · exact kbK F (fun r s => Vals.append r s) fun _ _ _ _ _ _ us ws hl hw => match us, ws, hl, hw with | [_], [_], _, _ => rfl
theorem cb_NoPerson : CB1 Pg w K mg base "NoPerson" "thing" := by
  obtain ⟨fd, F⟩ := c.cF 52 (i := 41) (x := "NoPerson") (q := "NoPerson.__init__") rfl
  refine ⟨c.cls hG (p := ("NoPerson", ["thing"])) (List.mem_of_getElem? (i := 39) rfl) (List.mem_of_getElem? (i := 40) rfl), fd, okI1 F ⟨rfl, rfl, rfl, by decide +kernel, rfl, by decide +kernel, by decide +kernel⟩ rfl rfl rfl rfl rfl, ?_, ?_⟩
  · exact kbP F fun _ _ _ _ _ _ us hl => match us, hl with | [_, _], _ => rfl
  · exact kbK F (fun r s => Vals.append r s) fun _ _ _ _ _ _ us ws hl hw => match us, ws, hl, hw with | [_], [_], _, _ => rfl
theorem cb_NoRule : CB1 Pg w K mg base "NoRule" "thing" := by
  obtain ⟨fd, F⟩ := c.cF 53 (i := 42) (x := "NoRule") (q := "NoRule.__init__") rfl
  refine ⟨c.cls hG (p := ("NoRule", ["thing"])) (List.mem_of_getElem? (i := 40) rfl) (List.mem_of_getElem? (i := 41) rfl), fd, okI1 F ⟨rfl, rfl, rfl, by decide +kernel, rfl, by decide +kernel, by decide +kernel⟩ rfl rfl rfl rfl rfl, ?_, ?_⟩
  · exact kbP F fun _ _ _ _ _ _ us hl => match us, hl with | [_, _], _ => rfl
  · exact kbK F (fun r s => Vals.append r s) fun _ _ _ _ _ _ us ws hl hw => match us, ws, hl, hw with | [_], [_], _, _ => rfl
theorem cb_NoTie : CB2 Pg w K mg base "NoTie" "one" "other" := by
  obtain ⟨fd, F⟩ := c.cF 54 (i := 43) (x := "NoTie") (q := "NoTie.__init__") rfl
  refine ⟨c.cls hG (p := ("NoTie", ["one", "other"])) (List.mem_of_getElem? (i := 41) rfl) (List.mem_of_getElem? (i := 42) rfl), by decide, fd, okI2 F ⟨rfl, rfl, rfl, by decide +kernel, rfl, by decide +kernel, by decide +kernel⟩ rfl rfl rfl rfl rfl rfl rfl rfl, ?_, ?_⟩
  · exact kbP F fun _ _ _ _ _ _ us hl => match us, hl with | [_, _, _], _ => rfl
  · exact kbK F (fun r s => Vals.append r (Vals.reverse s)) fun _ _ _ _ _ _ us ws hl hw => match us, ws, hl, hw with | [_], [_, _], _, _ => rfl
theorem cb_NotFirm : CB1 Pg w K mg base "NotFirm" "pairing" := by
  obtain ⟨fd, F⟩ := c.cF 55 (i := 44) (x := "NotFirm") (q := "NotFirm.__init__") rfl
  refine ⟨c.cls hG (p := ("NotFirm", ["pairing"])) (List.mem_of_getElem? (i := 42) rfl) (List.mem_of_getElem? (i := 43) rfl), fd, okI1 F ⟨rfl, rfl, rfl, by decide +kernel, rfl, by decide +kernel, by decide +kernel⟩ rfl rfl rfl rfl rfl, ?_, ?_⟩
  · exact kbP F fun _ _ _ _ _ _ us hl => match us, hl with | [_, _], _ => rfl
  · exact kbK F (fun r s => Vals.append r s) fun _ _ _ _ _ _ us ws hl hw => match us, ws, hl, hw with | [_], [_], _, _ => rfl
theorem cb_NotWatched : CB1 Pg w K mg base "NotWatched" "question" := by
  obtain ⟨fd, F⟩ := c.cF 56 (i := 45) (x := "NotWatched") (q := "NotWatched.__init__") rfl
  refine ⟨c.cls hG (p := ("NotWatched", ["question"])) (List.mem_of_getElem? (i := 43) rfl) (List.mem_of_getElem? (i := 44) rfl), fd, okI1 F ⟨rfl, rfl, rfl, by decide +kernel, rfl, by decide +kernel, by decide +kernel⟩ rfl rfl rfl rfl rfl, ?_, ?_⟩
  · exact kbP F fun _ _ _ _ _ _ us hl => match us, hl with | [_, _], _ => rfl
  · exact kbK F (fun r s => Vals.append r s) fun _ _ _ _ _ _ us ws hl hw => match us, ws, hl, hw with | [_], [_], _, _ => rfl
theorem cb_Stays : CB2 Pg w K mg base "Stays" "one" "other" := by
  obtain ⟨fd, F⟩ := c.cF 57 (i := 46) (x := "Stays") (q := "Stays.__init__") rfl
  refine ⟨c.cls hG (p := ("Stays", ["one", "other"])) (List.mem_of_getElem? (i := 44) rfl) (List.mem_of_getElem? (i := 45) rfl), by decide, fd, okI2 F ⟨rfl, rfl, rfl, by decide +kernel, rfl, by decide +kernel, by decide +kernel⟩ rfl rfl rfl rfl rfl rfl rfl rfl, ?_, ?_⟩
  · exact kbP F fun _ _ _ _ _ _ us hl => match us, hl with | [_, _, _], _ => rfl
  · exact kbK F (fun r s => Vals.append r (Vals.reverse s)) fun _ _ _ _ _ _ us ws hl hw => match us, ws, hl, hw with | [_], [_, _], _, _ => rfl
theorem cb_TurnsRound : CB2 Pg w K mg base "TurnsRound" "person" "ring" := by
  obtain ⟨fd, F⟩ := c.cF 58 (i := 47) (x := "TurnsRound") (q := "TurnsRound.__init__") rfl
  refine ⟨c.cls hG (p := ("TurnsRound", ["person", "ring"])) (List.mem_of_getElem? (i := 45) rfl) (List.mem_of_getElem? (i := 46) rfl), by decide, fd, okI2 F ⟨rfl, rfl, rfl, by decide +kernel, rfl, by decide +kernel, by decide +kernel⟩ rfl rfl rfl rfl rfl rfl rfl rfl, ?_, ?_⟩
  · exact kbP F fun _ _ _ _ _ _ us hl => match us, hl with | [_, _, _], _ => rfl
  · exact kbK F (fun r s => Vals.append r (Vals.reverse s)) fun _ _ _ _ _ _ us ws hl hw => match us, ws, hl, hw with | [_], [_, _], _, _ => rfl
theorem cb_WouldChange : CB2 Pg w K mg base "WouldChange" "question" "why" := by
  obtain ⟨fd, F⟩ := c.cF 59 (i := 48) (x := "WouldChange") (q := "WouldChange.__init__") rfl
  refine ⟨c.cls hG (p := ("WouldChange", ["question", "why"])) (List.mem_of_getElem? (i := 46) rfl) (List.mem_of_getElem? (i := 47) rfl), by decide, fd, okI2 F ⟨rfl, rfl, rfl, by decide +kernel, rfl, by decide +kernel, by decide +kernel⟩ rfl rfl rfl rfl rfl rfl rfl rfl, ?_, ?_⟩
  · exact kbP F fun _ _ _ _ _ _ us hl => match us, hl with | [_, _, _], _ => rfl
  · exact kbK F (fun r s => Vals.append r (Vals.reverse s)) fun _ _ _ _ _ _ us ws hl hw => match us, ws, hl, hw with | [_], [_, _], _, _ => rfl
theorem allB : AllB Pg w K mg base :=
  ⟨cb_AsksOn c hG, cb_BadAllotment c hG, cb_BadAsk c hG, cb_BadAsker c hG, cb_BadBounds c hG, cb_BadDeed c hG, cb_BadGivers c hG, cb_BadKnown c hG, cb_BadLies c hG, cb_BadLot c hG, cb_BadLots c hG, cb_BadMarket c hG, cb_BadName c hG, cb_BadNeeds c hG, cb_BadNotice c hG, cb_BadNumber c hG, cb_BadPairing c hG, cb_BadPairings c hG, cb_BadPaper c hG, cb_BadPapers c hG, cb_BadPeople c hG, cb_BadPlace c hG, cb_BadQuestion c hG, cb_BadResult c hG, cb_BadRow c hG, cb_BadRule c hG, cb_BadSession c hG, cb_BadSides c hG, cb_BadSteps c hG, cb_BadText c hG, cb_BadThings c hG, cb_BadWish c hG, cb_BadWishes c hG, cb_HasTie c hG, cb_InUse c hG, cb_IsWatched c hG, cb_NoBetterRow c hG, cb_NoCount c hG, cb_NoFirm c hG, cb_NoPerson c hG, cb_NoRule c hG, cb_NoTie c hG, cb_NotFirm c hG, cb_NotWatched c hG, cb_Stays c hG, cb_TurnsRound c hG, cb_WouldChange c hG⟩
end
end Kh
namespace Kh
open PySem PySem.Spec PyProof.Rows L2 Kc
theorem kn_names : ∀ x ∈ Kk.kn, x ∈ names := by decide +kernel
theorem calls {Pg : Program} {w : World} {K : PySem.W.Frag} {mg : Str → Option Value} {base h : Heap} (c : Says h K) (hG : ∀ x ∈ names, mg x = some (.ref (He.ga K x))) (hF : ∀ x ∈ fr, mg x = none) (hK : K.In base)
    (TB : ∀ p ∈ tf.map (He.cT K), LamX.TabB base mg p.1 p.2) : Kq.Calls Pg w K mg base (tP K "_law_made_a") (tP K "_law_made_b") (tP K "_law_made_c") := by
  obtain ⟨d_start, F_start⟩ := c.gF 0 (i := 50) (x := "_law_start") rfl
  have b_start : Binds K d_start ["script"] [] := F_start.binds fun _ _ _ _ _ _ us hl => match us, hl with | [_], _ => rfl
  have n_start : Kq.Nm K mg "_law_start" (He.ga K "_law_start") d_start ["script"] := ⟨(hG "_law_start" (List.mem_of_getElem? (i := 48) rfl)), F_start.kp, b_start⟩
  obtain ⟨d_draw, F_draw⟩ := c.gF 1 (i := 51) (x := "_law_draw") rfl
  have b_draw : Binds K d_draw ["stream", "many"] [] := F_draw.binds fun _ _ _ _ _ _ us hl => match us, hl with | [_, _], _ => rfl
  have n_draw : Kq.Nm K mg "_law_draw" (He.ga K "_law_draw") d_draw ["stream", "many"] := ⟨(hG "_law_draw" (List.mem_of_getElem? (i := 49) rfl)), F_draw.kp, b_draw⟩
  obtain ⟨d_mixed, F_mixed⟩ := c.gF 2 (i := 52) (x := "_law_mixed") rfl
  have b_mixed : Binds K d_mixed ["stream", "some"] [] := F_mixed.binds fun _ _ _ _ _ _ us hl => match us, hl with | [_, _], _ => rfl
  have n_mixed : Kq.Nm K mg "_law_mixed" (He.ga K "_law_mixed") d_mixed ["stream", "some"] := ⟨(hG "_law_mixed" (List.mem_of_getElem? (i := 50) rfl)), F_mixed.kp, b_mixed⟩
  obtain ⟨d_made_a, F_made_a⟩ := c.gF 3 (i := 53) (x := "_law_made_a") rfl
  have b_made_a : Binds K d_made_a ["x", "y", "z"] [] := F_made_a.binds fun _ _ _ _ _ _ us hl => match us, hl with | [_, _, _], _ => rfl
  have n_made_a : Kq.Nm K mg "_law_made_a" (He.ga K "_law_made_a") d_made_a ["x", "y", "z"] := ⟨(hG "_law_made_a" (List.mem_of_getElem? (i := 51) rfl)), F_made_a.kp, b_made_a⟩
  obtain ⟨d_made_b, F_made_b⟩ := c.gF 4 (i := 54) (x := "_law_made_b") rfl
  have b_made_b : Binds K d_made_b ["x", "y", "z"] [] := F_made_b.binds fun _ _ _ _ _ _ us hl => match us, hl with | [_, _, _], _ => rfl
  have n_made_b : Kq.Nm K mg "_law_made_b" (He.ga K "_law_made_b") d_made_b ["x", "y", "z"] := ⟨(hG "_law_made_b" (List.mem_of_getElem? (i := 52) rfl)), F_made_b.kp, b_made_b⟩
  obtain ⟨d_made_c, F_made_c⟩ := c.gF 5 (i := 55) (x := "_law_made_c") rfl
  have b_made_c : Binds K d_made_c ["x", "y", "z"] [] := F_made_c.binds fun _ _ _ _ _ _ us hl => match us, hl with | [_, _, _], _ => rfl
  have n_made_c : Kq.Nm K mg "_law_made_c" (He.ga K "_law_made_c") d_made_c ["x", "y", "z"] := ⟨(hG "_law_made_c" (List.mem_of_getElem? (i := 53) rfl)), F_made_c.kp, b_made_c⟩
  obtain ⟨d_kinds_a, F_kinds_a⟩ := c.gF 6 (i := 56) (x := "_law_kinds_a") rfl
  have b_kinds_a : Binds K d_kinds_a ["e"] [] := F_kinds_a.binds fun _ _ _ _ _ _ us hl => match us, hl with | [_], _ => rfl
  have n_kinds_a : Kq.Nm K mg "_law_kinds_a" (He.ga K "_law_kinds_a") d_kinds_a ["e"] := ⟨(hG "_law_kinds_a" (List.mem_of_getElem? (i := 54) rfl)), F_kinds_a.kp, b_kinds_a⟩
  obtain ⟨d_kinds_b, F_kinds_b⟩ := c.gF 7 (i := 57) (x := "_law_kinds_b") rfl
  have b_kinds_b : Binds K d_kinds_b ["e"] [] := F_kinds_b.binds fun _ _ _ _ _ _ us hl => match us, hl with | [_], _ => rfl
  have n_kinds_b : Kq.Nm K mg "_law_kinds_b" (He.ga K "_law_kinds_b") d_kinds_b ["e"] := ⟨(hG "_law_kinds_b" (List.mem_of_getElem? (i := 55) rfl)), F_kinds_b.kp, b_kinds_b⟩
  obtain ⟨d_kinds_c, F_kinds_c⟩ := c.gF 8 (i := 58) (x := "_law_kinds_c") rfl
  have b_kinds_c : Binds K d_kinds_c ["e"] [] := F_kinds_c.binds fun _ _ _ _ _ _ us hl => match us, hl with | [_], _ => rfl
  have n_kinds_c : Kq.Nm K mg "_law_kinds_c" (He.ga K "_law_kinds_c") d_kinds_c ["e"] := ⟨(hG "_law_kinds_c" (List.mem_of_getElem? (i := 56) rfl)), F_kinds_c.kp, b_kinds_c⟩
  obtain ⟨d_kinds, F_kinds⟩ := c.gF 9 (i := 59) (x := "_law_kinds") rfl
  have b_kinds : Binds K d_kinds ["e"] [] := F_kinds.binds fun _ _ _ _ _ _ us hl => match us, hl with | [_], _ => rfl
  have n_kinds : Kq.Nm K mg "_law_kinds" (He.ga K "_law_kinds") d_kinds ["e"] := ⟨(hG "_law_kinds" (List.mem_of_getElem? (i := 57) rfl)), F_kinds.kp, b_kinds⟩
  obtain ⟨d_is_own, F_is_own⟩ := c.gF 10 (i := 60) (x := "_law_is_own") rfl
  have b_is_own : Binds K d_is_own ["e", "at"] [] := F_is_own.binds fun _ _ _ _ _ _ us hl => match us, hl with | [_, _], _ => rfl
  have n_is_own : Kq.Nm K mg "_law_is_own" (He.ga K "_law_is_own") d_is_own ["e", "at"] := ⟨(hG "_law_is_own" (List.mem_of_getElem? (i := 58) rfl)), F_is_own.kp, b_is_own⟩
  obtain ⟨d_are_these, F_are_these⟩ := c.gF 11 (i := 61) (x := "_law_are_these") rfl
  have b_are_these : Binds K d_are_these ["found", "due"] [] := F_are_these.binds fun _ _ _ _ _ _ us hl => match us, hl with | [_, _], _ => rfl
  have n_are_these : Kq.Nm K mg "_law_are_these" (He.ga K "_law_are_these") d_are_these ["found", "due"] := ⟨(hG "_law_are_these" (List.mem_of_getElem? (i := 59) rfl)), F_are_these.kp, b_are_these⟩
  have hN : ∀ x ∈ Kk.kn, mg x = some (.ref (He.ga K x)) := fun x hx => hG x (kn_names x hx)
  have B : AllB Pg w K mg base := allB c hG
  have tA := TB (He.cT K ("_law_made_a", none)) (List.mem_map.mpr ⟨_, List.mem_of_getElem? (i := 0) rfl, rfl⟩)
  have tB := TB (He.cT K ("_law_made_b", none)) (List.mem_map.mpr ⟨_, List.mem_of_getElem? (i := 1) rfl, rfl⟩)
  have tC := TB (He.cT K ("_law_made_c", none)) (List.mem_map.mpr ⟨_, List.mem_of_getElem? (i := 2) rfl, rfl⟩)
  have GK : FnOk Pg w K mg base CX0 2 (He.ga K "_law_kinds") d_kinds ["e"] (Kk.spKinds K Kk.kn) := Kk.ok_kinds F_kinds F_kinds_a b_kinds_a n_kinds_a.g F_kinds_b b_kinds_b n_kinds_b.g F_kinds_c b_kinds_c n_kinds_c.g (hF "isinstance" (List.mem_of_getElem? (i := 5) rfl)) hN
  exact ⟨⟨_, _, n_start, Kq.ok_start F_start (hF "list" (List.mem_of_getElem? (i := 1) rfl))⟩, ⟨_, _, n_mixed, Kd.ok_mixed F_mixed F_draw b_draw n_draw.g (hF "int" (List.mem_of_getElem? (i := 0) rfl)) (hF "list" (List.mem_of_getElem? (i := 1) rfl)) (hF "len" (List.mem_of_getElem? (i := 2) rfl)) (hF "range" (List.mem_of_getElem? (i := 3) rfl))⟩, ⟨_, _, n_made_a, ok__law_made_a F_made_a rfl tA B⟩, ⟨_, _, n_made_b, ok__law_made_b F_made_b rfl tB B⟩, ⟨_, _, n_made_c, ok__law_made_c F_made_c rfl tC B⟩,
    ⟨_, _, n_is_own, Kk.ok_own F_is_own GK F_kinds.kp b_kinds n_kinds.g (hF "isinstance" (List.mem_of_getElem? (i := 5) rfl)) (hF "range" (List.mem_of_getElem? (i := 3) rfl)) (hF "ValueError" (List.mem_of_getElem? (i := 7) rfl)) (hF "LookupError" (List.mem_of_getElem? (i := 8) rfl)) (hG "SwapError" (List.mem_of_getElem? (i := 0) rfl)) c.inj⟩, ⟨_, _, n_kinds, GK⟩, ⟨_, _, n_are_these, Kd.ok_these F_are_these (hF "repr" (List.mem_of_getElem? (i := 4) rfl)) (hF "len" (List.mem_of_getElem? (i := 2) rfl)) (c.mods hK)⟩, (hG "SwapError" (List.mem_of_getElem? (i := 0) rfl)), c.sw.2.2.2, c.sw.2.2.1, (hF "isinstance" (List.mem_of_getElem? (i := 5) rfl)), (hF "range" (List.mem_of_getElem? (i := 3) rfl)), (hF "enumerate" (List.mem_of_getElem? (i := 6) rfl)), (hF "ValueError" (List.mem_of_getElem? (i := 7) rfl))⟩
theorem law_facts {P : Program} {w : World} {K : PySem.W.Frag} {h : Heap} {mg : Str → Option Value} {f : Addr} (X : K.In h) (G : h.Ns mainGlobals mg) (hfa : mg ("law" : Str) = some (.ref f)) (c : Says h K) :
    ∃ fd : FuncData, (∀ (s : Shared) (v : Value), BindsTo s fd ⟨[v], []⟩ [("script", v)]) ∧
      ∀ base : Heap, K.In base → base.Ns mainGlobals mg → (∀ p ∈ tf.map (He.cT K), LamX.TabB base mg p.1 p.2) → Kg.FnG P w K mg base 4 f fd ["script"] (Kq.spLaw K (tP K "_law_made_a") (tP K "_law_made_b") (tP K "_law_made_c")) := by
  obtain ⟨fd, F0⟩ := c.def_ 12 (d := gD 62 "law") rfl
  have e := hfa.symm.trans (c.gloL X G)
  have e : f = He.ga K "law" := Value.ref.inj (Option.some.inj e)
  subst e
  have F : Fun K "law" "law" Kq.sLaw (He.ga K "law") fd := toFun F0
  have b := FunD.bindsA (ps := ["script"]) F0 fun _ _ _ _ _ _ us hl => match us, hl with | [_], _ => rfl
  obtain ⟨n1, n2, n3⟩ := c.ne
  exact ⟨fd, fun s v => b s [v] rfl, fun base hK _ TB => Kq.ok_law F (calls c (fun x hx => c.glo X G hx) (fun x hx => c.free X G hx) hK TB) c.ownK n1 n2 n3⟩
end Kh
open PySem PySem.W PySem.Calls PyProof.Rows
theorem PySem.Challenge.cw_swaphouse_k00_errors_made_holds : PySem.Challenge.rw_swaphouse_k00_errors_made.Holds := by
  w_on; o_law
  refine HandSHeadRun.head_any (r := OpenLaw.row PySem.Challenge.rw_swaphouse_k00_errors_made) (q := view (OpenLaw.row PySem.Challenge.rw_swaphouse_k00_errors_made).prog [62]) (H := Kh.hk) (ob := Kh.ob) (M := 13000) (loose := Kh.names) (d := HandSHeadRun.topDef (OpenLaw.row PySem.Challenge.rw_swaphouse_k00_errors_made).prog 62) (kwd := []) Kh.ob_eq
    (by kernel_rfl) (fun s => by kernel_rfl) Kh.run (by kernel_rfl) (by kernel_rfl) (by kernel_rfl) (by rfl) (by first | assumption | decide +kernel) (by decide +kernel) ⟨rfl, rfl, rfl, rfl, rfl, by decide +kernel⟩ ?hw ?hc
  case hw => w_witness2
  case hc =>
    refine Kg.walkT (l := PySem.Challenge.rw_swaphouse_k00_errors_made) (n := 63) (k := 4) (x := "script") rfl (by decide) (by kernel_rfl) ⟨rfl, by decide, by decide⟩ ?F
    intro w mg fa h Y G hmg0
    obtain ⟨K, KX, c⟩ := Y
    have hmg : mg ("law" : PySem.Str) = some (.ref fa) := by
      have e : (HandSHeadRun.topDef (OpenLaw.row PySem.Challenge.rw_swaphouse_k00_errors_made).prog 62).name = ("law" : PySem.Str) := by kernel_rfl
      rw [← e]
      exact hmg0
    obtain ⟨fd, hb, hF⟩ := Kh.law_facts (P := (PySem.Challenge.rw_swaphouse_k00_errors_made).prog) (w := w) KX G hmg c
    refine ⟨K, fd, Kh.tf.map (He.cT K), _, KX, fun p hp => ?_, fun p hp => ?_, fun p hp => ?_, hb, fun H a ns hl hT hS => ?_, hF⟩
    · obtain ⟨q, hq, rfl⟩ := List.mem_map.mp hp
      exact c.e q hq
    · obtain ⟨q, hq, rfl⟩ := List.mem_map.mp hp
      exact (c.tab q hq).2
    · obtain ⟨q, hq, rfl⟩ := List.mem_map.mp hp
      exact codeHd_of_K KX (c.tab q hq).1
    · have m : ∀ i q, Kh.tf[i]? = some q → H (He.cT K q).2 = some (.tbl #[]) := fun i q e => hT _ (List.mem_map.mpr ⟨q, List.mem_of_getElem? e, rfl⟩)
      exact ⟨a, ns, rfl, hS, ⟨LamX.TabS.nil (m 0 _ rfl), LamX.TabS.nil (m 1 _ rfl), LamX.TabS.nil (m 2 _ rfl)⟩, fun _ => rfl⟩
