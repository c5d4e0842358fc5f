import PyProof.Rows.All
import Wide.All
import OpenK.AllK
import Wide.FinOn
import HandS.ForMost
import HandS.Strs
import HandS.Flow
import HandS.Conv
import HandS.Deep
import KE.KDictPairs
import PyProof.P3In
import PyProof.ReprRoads
import HandS.SetFor
import HandS.Evl
import HandS.Style
import HandS.EndBits
import HandS.Walk
import HandS.More
import HandS.Zip
import HandS.IterVal
import HandS.Wide
import PyProof.ReprLen
import KE.DataFind
import HandS.IsInst
import PySem.Challenge.RW_sameworth_k10_runs_counted
set_option Elab.async false
set_option linter.all false
set_option maxRecDepth 100000
set_option maxHeartbeats 2000000
namespace Gn
open PySem PySem.Spec PyProof.Rows L2
section
variable {X : Cx}
/-- d.update(xs), xs a list of pairs -/
def rDUp (K : PySem.W.Frag) : V → List V → Hp → VK → Prop := fun x vs H Q =>
  ∃ (d a : Addr) (ps : List Addr) (acc kvs : List (Key × V)), x = .ref d ∧ vs = [.ref a] ∧ H d = some (.dK acc) ∧
    SqL K H a (ps.map V.ref) ∧ Paired (fun p kv => SqT K H p [kV kv.1, kv.2]) ps kvs ∧ (∀ p ∈ ps, p ≠ d) ∧ a ≠ d ∧
    acc.length + kvs.length ≤ sizeLine ∧ Q .non (upd H d (.dK (mergeK acc kvs)))
theorem pairs_vals : ∀ {prs : List (Key × Value)} {ps : List Addr} {h : Heap}, prs.length = ps.length →
    (∀ (j : Nat) (q : Key × Value), prs[j]? = some q → ∃ (b : Addr) (u : Value), ps[j]? = some b ∧ IsTup h b #[u, q.2] ∧ keyIs q.1 u = true) →
    ∃ vv : List (Value × Value), vv.length = ps.length ∧ ∀ (j : Nat) (k v : Value), vv[j]? = some (k, v) →
      ∃ (b : Addr) (q : Key × Value), ps[j]? = some b ∧ prs[j]? = some q ∧ q.2 = v ∧ keyIs q.1 k = true ∧ IsTup h b #[k, v]
  | [], [], h, _, _ => ⟨[], rfl, fun j k v e => by simp at e⟩
  | [], _ :: _, _, e, _ => by simp at e
  | _ :: _, [], _, e, _ => by simp at e
  | q :: prs, p :: ps, h, e, hp => by
    obtain ⟨vv, hl, hv⟩ := pairs_vals (prs := prs) (ps := ps) (h := h) (by simpa using e)
      (fun j q' e' => by
        obtain ⟨b, u, h1, h2, h3⟩ := hp (j + 1) q' (by simpa using e')
        exact ⟨b, u, by simpa using h1, h2, h3⟩)
    obtain ⟨b, u, h1, h2, h3⟩ := hp 0 q rfl
    refine ⟨(u, q.2) :: vv, by simp [hl], fun j k v e' => ?_⟩
    cases j with
    | zero =>
      have e2 : (u, q.2) = (k, v) := Option.some.inj e'
      cases e2
      exact ⟨b, q, h1, rfl, rfl, h3, h2⟩
    | succ j =>
      obtain ⟨b', q', z1, z2, z3, z4, z5⟩ := hv j k v (by simpa using e')
      exact ⟨b', q', by simpa using z1, by simpa using z2, z3, z4, z5⟩
theorem mt_dup (hcalm : X.calm = true) : MtR X "dict.update" (rDUp X.K) := by
  intro pins s σ H x xs v us Q I rx rxs h
  obtain ⟨d, a, ps, acc, kvs, rfl, rfl, hd, hq, hp, hpd, had, hz, q⟩ := h
  cases rx
  obtain ⟨u, rfl, ru⟩ := rxs.one
  cases ru
  obtain ⟨its, rv, pl, hz2⟩ := I.list hq
  have ei := refs_at rv
  subst ei
  obtain ⟨prs, rel, hl, hpr⟩ := pairs_of I hp
  obtain ⟨vv, hvl, hvv⟩ := pairs_vals hl hpr
  obtain ⟨z, hsm, vs, rel0, dd⟩ := dk_of I.hok hd
  obtain ⟨o, n, ho, hc, hdc, hdat⟩ := pl
  have hlen : prs.length = kvs.length := rel.length.symm
  have hTs : ∀ j : Nat, j < ps.length → ps[j]? = some (ps.getD j 0) := fun j hj => by
    rw [List.getD_eq_getElem?_getD, List.getElem?_eq_getElem hj]; rfl
  refine call_update_pairs (knd := mixKind X.prog X.w) (acc := vs) (kvs := prs) (PairArg.list a (ps.map Value.ref).toArray (fun j => ps.getD j 0) vv) (I.ok.hd hcalm) ⟨⟨o, n, ho, hc, hdc, hdat⟩, ?_, ?_⟩ ?_ ⟨?_, ?_⟩ dd ?_ fun h' tk dd' k => ?_
  · simp [hvl]
  · intro j k v e
    obtain ⟨b, q', z1, z2, z3, z4, z5⟩ := hvv j k v e
    have hj := (List.getElem?_eq_some_iff.mp z1).1
    have eb : ps.getD j 0 = b := Option.some.inj ((hTs j hj).symm.trans z1)
    refine ⟨?_, .inl ?_⟩
    · show (ps.map Value.ref).toArray[j]? = some (Value.ref (ps.getD j 0))
      rw [eb, List.getElem?_toArray, List.getElem?_map, z1]
      rfl
    · show s.heap.IsTuple (ps.getD j 0) _
      rw [eb]; exact z5
  · intro hm
    rcases List.mem_cons.mp hm with e | hm
    · exact had e.symm
    · obtain ⟨j, hj, e⟩ := List.mem_map.mp hm
      have hj := List.mem_range.mp hj
      rw [hvl] at hj
      exact hpd _ (List.mem_of_getElem? (hTs j hj)) e
  · rw [hl, hvl]
  · intro i key v e
    obtain ⟨b, q', z1, z2, z3, z4, z5⟩ := hvv i key v e
    refine ⟨q'.1, ?_, z4⟩
    rw [z2, ← z3]
  · rw [hvl, ← hl, hlen, ← rel0.length]
    exact hz
  · have he : ∃ q, h'.get? d = some q := let ⟨q, _, _, hq, _⟩ := dd'; ⟨q, hq⟩
    refine ⟨.non, upd H d (.dK (mergeK acc kvs)), ?_, rfl, q⟩
    refine I.write (x := d) (e := d) (by rw [hd]; exact True.intro) (.inl rfl) (fun b q hb z => k b q hb (by simp) z) he (dk_new ?_ hsm (KV.merge rel rel0) dd')
    refine Nat.le_trans (length_mergeK kvs acc) ?_
    omega
end
end Gn
set_option Elab.async false
set_option linter.all false
set_option maxRecDepth 100000
set_option maxHeartbeats 3200000
namespace Gn
open PySem PySem.Spec PyProof.Rows L2
/-- an empty set as it is laid -/
abbrev so (w : World) : Obj := { cls := .type "set", dict := none, data := .set #[] 0 (.fresh 0 0 (!w.params.followText "set-order")) }
section
variable {P : Program} {w : World} {A : Around} {E : Value → Shared → Prop} {s : Shared}
theorem set_of_list {l : Addr} {its : Array Value} (ns : List Int) {Q : Value → Shared → Prop} (hh : A.handled = none) (hl : s.heap.IsList l its)
    (hit : IntsAre its.toList ns) (hb : ns.length + 1 < scanBound)
    (h : ∀ (g : Heap) (tk c : Nat), SetR w g s.heap.objs.size (fun j => decide (j ∈ ns)) c → c ≤ ns.length →
      (∀ b o, s.heap.get? b = some o → g.get? b = some o) → Q (.ref s.heap.objs.size) { s with heap := g, toks := tk }) :
    wpAny (model P w) A (call (.type "set") [.ref l]) Q E s := by
  have hisz : its.size = ns.length := (Array.length_toList).symm.trans (IntsAre.length hit)
  obtain ⟨c, tl, hmro⟩ := F.called_set.mro
  have g0 := F.called_set.made
  have g1 := F.called_set.sub
  refine wpAny_call (codeAny_of_tree ?_)
  show wpAny (model P w) _ (callAny (.type "set") _) _ _ s
  refine wpAny_pure ⟨Code.quiet_builtin _ (by decide +kernel), (codeAny_builtin F.entry_type_call ?_)⟩
  rw [Around.under_plain ((weight_type_call_type "set" [.ref l] [])) rfl]
  have g2 := F.called_set.notType
  have g3 := F.called_set.canCreate
  have g4 := F.typeCall_set_1 (.ref l)
  (repeat (any_goals (first | assumption | wp_step)))
  refine codeAny_mono (code_set_led1 (.ref l) (E := E) (Q₁ := fun u t => u = .ref s.heap.objs.size ∧ t = { s with heap := s.heap.push (so w) }) ⟨rfl, rfl⟩) fun r t hr => ?_
  cases r with
  | error e => exact hr
  | ok fl =>
    cases fl with
    | ret obj =>
      obtain ⟨rfl, rfl⟩ := hr
      have hS : (s.heap.push (so w)).get? s.heap.objs.size = some (so w) := Heap.get?_push_size _ rfl
      have hT : Shared.TypeIs { s with heap := s.heap.push (so w) } (.ref s.heap.objs.size) "set" := ⟨_, hS, rfl⟩
      have g5 := F.called_set.init.lookup
      have g6 := F.called_set.init.bind (.ref s.heap.objs.size)
      (repeat (any_goals (first | assumption | wp_step)))
      refine codeAny_mono (codeAny_call_builtin (R := wants (fun r t => r = .none ∧ ∃ g tk c, t = { s with heap := g, toks := tk } ∧ SetR w g s.heap.objs.size (fun j => decide (j ∈ ns)) c ∧
        c ≤ ns.length ∧ (∀ b o, s.heap.get? b = some o → g.get? b = some o)) E) F.called_set.init.plain F.entry_set_init (check_set_init_1 hT ?_)) fun r2 t2 hr2 => ?_
      · obtain ⟨ol, hol, hcl, nl, hdl⟩ := hl
        obtain ⟨oc, od, oda, osl⟩ := ol
        simp only at hcl hdl
        subst hcl
        subst hdl
        have ho2 : (s.heap.push (so w)).get? l = some { cls := .type "list", dict := od, data := .seq its nl, slots := osl } := Heap.get?_push_of_some _ hol
        have g7 := F.sub_list_set
        have g8 := F.sub_list_frozenset
        have g9 : (Value.type "list" == Value.type "dict") = false := (by decide)
        have hl1 : (s.heap.push (so w)).IsList l its := ⟨_, ho2, rfl, nl, rfl⟩
        unfold Builtin.«set.__init__» noKeywords
        unfold Builtin.Frozenset.updateFrom
        generalize hPI : pyIter = PI
        wp_walk
        subst hPI
        refine wpAny_pyIter_list hl1 ?_
        refine wpAny_bind (wpAny_runValue ?_)
        have hlS : l < s.heap.objs.size := Heap.lt_size hol
        have hh3 : A.in1.in1.in1.handled = none := (by simp [hh])
        have hneI : l ≠ (s.heap.push (so w)).objs.size := (by rw [Heap.size_push]; exact Nat.ne_of_lt (Nat.lt_succ_of_lt hlS))
        have hSf : s.heap.objs.size ∉ [(s.heap.push (so w)).objs.size, l] := by
          rw [Heap.size_push]
          simp only [List.mem_cons, List.mem_singleton, List.not_mem_nil, or_false, not_or]
          exact ⟨Nat.ne_of_lt (Nat.lt_succ_self _), (Nat.ne_of_gt hlS)⟩
        have hval : ∀ (i : Nat) (v : Value), its[i]? = some v → ∃ k t, ns[i]? = some k ∧ v = .int k t := fun i v hv => by
          have hi : i < ns.length := (by rw [← hisz]; exact (Array.getElem?_eq_some_iff.mp hv).1)
          obtain ⟨t, e⟩ := PyProof.Rows.IntsAre.int_at hit i v ((by rw [Array.getElem?_toList]; exact hv))
          refine ⟨ns[i], t, List.getElem?_eq_getElem hi, ?_⟩
          (rw [e, List.getD_eq_getElem?_getD, List.getElem?_eq_getElem hi] <;> rfl)
        refine set_update_ints ((Walks.list hh3 _ l hneI its).toS) s.heap.objs.size hSf ns hisz hb hval (its.size - 0) 0 _ (by omega) (Nat.zero_le _)
          (⟨⟨_, Heap.get?_push_size _ rfl, rfl, rfl⟩, (hl1.push _)⟩) ?z0 ?zR
        case z0 =>
          exact ⟨0, Nat.le_refl 0, setR_new_at (Heap.get?_push_of_some _ hS)⟩
        case zR =>
          intro t' c' hm hc' hS'
          obtain ⟨g, g2, d2, tk2, os2⟩ := t'
          have eg : g2 = s.gens := hm.gens
          have ed : d2 = s.drawn := hm.drawn
          have eo : os2 = s.os := hm.os
          subst eg
          subst ed
          subst eo
          show wpAny _ _ _ _ _ _
          refine wpAny_pure ?_
          show wpAny _ _ (ret Value.none) _ _ _
          rw [hisz] at hc'
          refine wpAny_pure ⟨rfl, g, tk2, c', rfl, hS', hc', (fun b o e => ?_)⟩
          have hb0 : b < s.heap.objs.size := Heap.lt_size e
          have hb2 : b ≠ (s.heap.push (so w)).objs.size := (by rw [Heap.size_push]; exact Nat.ne_of_lt (Nat.lt_succ_of_lt hb0))
          refine hm.heap b o ?_ (Heap.get?_push_of_some _ (Heap.get?_push_of_some _ e))
          simp only [List.mem_cons, List.mem_singleton, List.not_mem_nil, or_false, not_or]
          exact ⟨Nat.ne_of_lt hb0, hb2⟩
      · cases r2 with
        | error e => exact hr2
        | ok fl2 =>
          cases fl2 with
          | ret r =>
            obtain ⟨rfl, g, tk, c', rfl, hS', hc', hk'⟩ := hr2
            (repeat (any_goals (first | assumption | wp_step)))
            exact h _ _ _ hS' hc' hk'
          | _ => exact hr2.elim
    | _ => exact hr.elim
end
section
variable {X : Cx}
def rSetL (X : Cx) : List V → Hp → VK → Prop := fun vs H Q => ∃ (a : Addr) (ns : List Int), vs = [.ref a] ∧ SqL X.K H a (ns.map V.int) ∧ ns.length < 60 ∧
  ∀ p c, H p = none → c ≤ ns.length → Q (.ref p) (upd H p (SetO X.w p (fun j => decide (j ∈ ns)) c))
theorem cr_setL (hc : X.calm = true) : CallR X (.type "set") (rSetL X) := by
  intro pins s σ H vs us Q I r h
  obtain ⟨a, ns, rfl, hq, hl, q⟩ := h
  rw [Vals.ref1 r]
  obtain ⟨its, rv, pl, hz⟩ := I.list hq
  refine set_of_list ns (I.ok.hd hc) pl.isList (by simpa using ints_of_vals rv) (by unfold scanBound; omega) fun g tk c R hcl k => ?_
  exact ⟨.ref _, upd H s.heap.objs.size (SetO X.w s.heap.objs.size (fun j => decide (j ∈ ns)) c), I.laid (t' := tk) k (Nat.le_refl _) (setO_new R), rfl, q _ c (I.hok.fresh (Nat.le_refl _)) hcl⟩
end
end Gn
set_option Elab.async false
set_option linter.all false
set_option maxRecDepth 100000
set_option maxHeartbeats 3200000
namespace Gn
open PySem PySem.Spec PyProof.Rows L2
section
variable {X : Cx}
/-- x in t, t a tuple of data -/
def rInT (K : PySem.W.Frag) : R2 := fun x y H Q =>
  ∃ d ds, Dp K H x d ∧ Dp K H y (.tuple ds) ∧ SeqAt.shaped d = true ∧ SeqAt.shaped (.tuple ds) = true ∧ Q (.bl (ds.any fun z => PyData.eqv z d)) H
theorem op_inT (hu : X.A.units + 65 < cLine) : OpR X (compareOp .In) (rInT X.K) := by
  intro pins s σ H x y v u Q I rx ry h
  obtain ⟨d, ds, hd, he, sd, se, q⟩ := h
  obtain ⟨as, r1⟩ := Dp.reads I d x v hd rx
  obtain ⟨bs, r2⟩ := Dp.reads I (.tuple ds) y u he ry
  have c1 := SeqAt.canLay_of_shaped se
  have c2 := SeqAt.canLay_of_shaped sd
  exact SeqAt.in_tuple_reads r2 r1 c1 c2 (room_in_shaped sd hu) ⟨.bl _, H, I, rfl, q⟩
/-- repr(x) of data -/
def rRepr (K : PySem.W.Frag) : List V → Hp → VK → Prop := fun vs H Q =>
  ∃ (a : Addr) (d : PyData), vs = [.ref a] ∧ Dp K H (.ref a) d ∧ d.showable = true ∧ d.hasDict = false ∧ d.depth ≤ 60 ∧ d.shown.length ≤ sizeLine ∧ Q (.str d.shown) H
theorem cr_repr (hg : X.A.guards = some []) (hu : X.A.units + 64 < cLine) : CallR X (.builtin "repr") (rRepr X.K) := by
  intro pins s σ H vs us Q I r h
  obtain ⟨a, d, rfl, hd, hs, hh, hdp, hz, q⟩ := h
  rw [Vals.ref1 r]
  obtain ⟨as, r1⟩ := Dp.reads I d (.ref a) (.ref a) hd rfl
  refine repr_of_reads' r1 hs (fun e => by rw [hh] at e; cases e) hg (by omega) (fun _ _ e => e) (fun g u tk k => ?_) hz
  exact ⟨.str d.shown, H, I.kept (t' := tk) k, ⟨u, rfl⟩, q⟩
end
end Gn
set_option Elab.async false
set_option linter.all false
set_option maxRecDepth 100000
set_option maxHeartbeats 4000000
namespace Gn
open PySem PySem.Spec PyProof.Rows L2
def topS (i : Nat) : Stmt := PySem.Challenge.pw_sameworth_k10_runs_counted.main.body.getD i (.Pass ⟨0, 0, 0, 0⟩)
abbrev sTape : Stmt := topS 26
abbrev sDraw : Stmt := topS 27
abbrev sNexts : Stmt := topS 28
abbrev sLeads : Stmt := topS 29
abbrev sReached : Stmt := topS 30
abbrev sAbove : Stmt := topS 31
abbrev sStanding : Stmt := topS 32
abbrev sPut : Stmt := topS 33
abbrev sNumber : Stmt := topS 34
abbrev sAgain : Stmt := topS 35
abbrev sDrawn : Stmt := topS 36
abbrev sRoom : Stmt := topS 37
abbrev sAdd : Stmt := topS 38
abbrev sMeet : Stmt := topS 39
abbrev sLater : Stmt := topS 40
abbrev sProgram : Stmt := topS 41
abbrev sMany : Stmt := topS 42
abbrev sFlat : Stmt := topS 43
abbrev sOwnRun : Stmt := topS 44
abbrev sNext : Stmt := topS 45
abbrev sWorth : Stmt := topS 46
abbrev sTakes : Stmt := topS 47
abbrev sLaw : Stmt := topS 48
abbrev sIsMeet : Stmt := topS 3
abbrev sSummed : Stmt := topS 12
abbrev sLessened : Stmt := topS 13
abbrev sProduct : Stmt := topS 14
abbrev sTSame : Stmt := topS 15
abbrev sTBelow : Stmt := topS 16
abbrev sPicked : Stmt := topS 18
abbrev sGreat : Stmt := topS 19
abbrev sRun : Stmt := topS 24
abbrev sRowsOf : Stmt := topS 8
abbrev sIsReck : Stmt := topS 4
abbrev sReck : Stmt := topS 22
abbrev sTimes : Stmt := topS 23
abbrev sWay : Stmt := topS 24
abbrev sMInit : Stmt := inClass (topS 20) 0
abbrev sGoOn : Stmt := inClass (topS 20) 1
abbrev sDoRows : Stmt := inClass (topS 20) 2
abbrev sBrought : Stmt := inClass (topS 20) 3
abbrev sBehind : Stmt := inClass (topS 20) 4
abbrev sWorthOf : Stmt := inClass (topS 20) 5
abbrev sDoRow : Stmt := inClass (topS 20) 6
/-- built-in names that the module leaves alone -/
structure Bi (mg : Str → Option Value) : Prop where
  len : mg "len" = none
  abs : mg "abs" = none
  int : mg "int" = none
  range : mg "range" = none
  max : mg "max" = none
  min : mg "min" = none
  list : mg "list" = none
  tuple : mg "tuple" = none
  sorted : mg "sorted" = none
  set : mg "set" = none
  enumerate : mg "enumerate" = none
  zip : mg "zip" = none
  sum : mg "sum" = none
  repr : mg "repr" = none
  any : mg "any" = none
  isinstance : mg "isinstance" = none
  bool : mg "bool" = none
/-- a def as it stands behind the top -/
structure Df (K : PySem.W.Frag) (mg : Str → Option Value) (x : Str) (st : Stmt) (ps : List Str) (f : Addr) (fd : FuncData) : Prop where
  F : Fun K x x st f fd
  b : Binds K fd ps []
  g : mg x = some (.ref f)
/-- all that was tracked is as it was, but for t -/
def But (t : Addr) (H H' : Hp) : Prop := ∀ a o, a ≠ t → H a = some o → H' a = some o
theorem But.refl (t : Addr) (H : Hp) : But t H H := fun _ _ _ h => h
theorem But.trans {t : Addr} {H H1 H2 : Hp} (a : But t H H1) (b : But t H1 H2) : But t H H2 := fun x o n h => b x o n (a x o n h)
theorem But.upd {t : Addr} {H : Hp} {o : HO} : But t H (upd H t o) := fun a u n h => by rw [upd_ne n]; exact h
theorem Same.but {t : Addr} {H H' : Hp} (h : Same H H') : But t H H' := fun a o _ e => h a o e
theorem new_same {H : Hp} {p : Addr} {o : HO} (h : H p = none) : Same H (upd H p o) := fun a u e => by
  rw [upd_ne (ne_of_none e h)]
  exact e
theorem Same.bt {t : Addr} {I H H' : Hp} (a : Same I H) (n : I t = none) (b : But t H H') : Same I H' := fun x o e =>
  b x o (ne_of_none e n) (a x o e)
theorem Same.upd {I H : Hp} {t : Addr} {o : HO} (a : Same I H) (n : I t = none) : Same I (L2.upd H t o) := fun x u e => by
  rw [upd_ne (ne_of_none e n)]
  exact a x u e
theorem Same.tup {K : PySem.W.Frag} {H H' : Hp} {a : Addr} {xs : List V} (e : Same H H') (h : SqT K H a xs) : SqT K H' a xs := by
  rcases h with (h | ⟨o, h⟩) | h
  · exact .inl (.inl (e _ _ h))
  · exact .inl (.inr ⟨o, e _ _ h⟩)
  · exact .inr h
theorem sqL {K : PySem.W.Frag} {H : Hp} {a : Addr} {xs : List V} (h : H a = some (.lst xs)) : SqL K H a xs := .inl (.inl h)
theorem sqT {K : PySem.W.Frag} {H : Hp} {a : Addr} {xs : List V} (h : H a = some (.tup xs)) : SqT K H a xs := .inl (.inl h)
theorem szl {n : Nat} (h : n ≤ 1000000) : n ≤ sizeLine := Nat.le_trans h (by decide)
theorem szt {n : Nat} (h : n < 1000000) : n < sizeLine := Nat.lt_of_lt_of_le h (by decide)
/-- the tape at t: its third number is at most c -/
def Tape (H : Hp) (t : Addr) (c : Nat) : Prop := ∃ x y n : Int, H t = some (.lst [.int x, .int y, .int n]) ∧ 0 ≤ x ∧ 0 ≤ y ∧ y < 2 ^ 62 ∧ 0 ≤ n ∧ n ≤ c
theorem Tape.mono {H : Hp} {t : Addr} {c d : Nat} (h : Tape H t c) (hc : c ≤ d) : Tape H t d := by
  obtain ⟨x, y, n, a, b, e, f, g, i⟩ := h
  exact ⟨x, y, n, a, b, e, f, g, by omega⟩
theorem Tape.same {H H' : Hp} {t : Addr} {c : Nat} (h : Tape H t c) (e : Same H H') : Tape H' t c := by
  obtain ⟨x, y, n, a, r⟩ := h
  exact ⟨x, y, n, e _ _ a, r⟩
theorem Tape.lst {H : Hp} {t : Addr} {c : Nat} (h : Tape H t c) : ∃ o, H t = some o := by
  obtain ⟨x, y, n, a, r⟩ := h
  exact ⟨_, a⟩
/-! ### draw -/
def spDraw : Sp := fun vs H Q _ => ∃ (t : Addr) (m : Int) (c : Nat), vs = [.ref t, .int m] ∧ Tape H t c ∧ c ≤ 100000000 ∧ 0 < m ∧ m ≤ 1000000 ∧
  ∀ (r : Nat) (H' : Hp), (r : Int) < m → But t H H' → Tape H' t (c + 1) → Q (.int r) H'
theorem scDraw : FnScope ["_law_tape_here", "_law_many_here", "_law_found", "_law_once", "_law_twice"] ["_law_tape_here", "_law_many_here"] (defScope sDraw) := ⟨rfl, rfl, rfl, by decide +kernel, rfl, by decide +kernel, by decide +kernel⟩
section
variable {P : Program} {w : World} {K : PySem.W.Frag} {mg : Str → Option Value} {base : Heap}
theorem ok_draw {f : Addr} {fd : FuncData} {k : Nat} (D : Df K mg "_law_draw" sDraw ["_law_tape_here", "_law_many_here"] f fd) : FnOk P w K mg base CX0 (k + 1) f fd ["_law_tape_here", "_law_many_here"] spDraw := by
  refine D.F.ok scDraw (fun vs H Q E h => ?_) (fun cdv A outer s H vs Q E hr h => ?_)
  · obtain ⟨t, m, c, rfl, _⟩ := h
    rfl
  · obtain ⟨t, m, c, rfl, ⟨x, y, n, ht, hx, hy, hy2, hn, hn2⟩, hc, hm, hm2, q⟩ := h
    refine ⟨_, pss_cons (ps_if (pt_cmpR op_gt (pe_ix ix_list (pv 0) pe_int (fun _ _ => rfl)) pe_int (nomark _))
        (pss_cons (ps_set (i := 2) scDraw.nd rfl (.inl rfl) (pe_op op_mod (pe_ix ix_list (pv 0) pe_int (fun _ _ => rfl)) (pv 1)))
        (pss_cons (ps_asg (pe_op op_fdiv (pe_ix ix_list (pv 0) pe_int (fun _ _ => rfl)) (pv 1)) (pg_sub (pv 0) pe_int set_list))
        (pss_one (ps_ret (pv 2))))) pss_nil)
      (pss_cons (ps_asg (pe_op op_add (pe_ix ix_list (pv 0) pe_int (fun _ _ => rfl)) pe_int) (pg_sub (pv 0) pe_int set_list))
      (pss_cons (ps_set (i := 3) scDraw.nd rfl (.inl rfl) (pe_op op_mod (pe_op op_pow (pe_op op_add (pe_ix ix_list (pv 0) pe_int (fun _ _ => rfl)) (pe_op op_mul pe_int (pe_ix ix_list (pv 0) pe_int (fun _ _ => rfl)))) pe_int) pe_int))
      (pss_cons (ps_set (i := 4) scDraw.nd rfl (.inl rfl) (pe_op op_mod (pe_op op_mul (pe_op op_add (pv 3) (pe_ix ix_list (pv 0) pe_int (fun _ _ => rfl))) (pe_op op_add (pe_op op_add (pe_op op_mod (pv 3) pe_int) pe_int) (pe_ix ix_list (pv 0) pe_int (fun _ _ => rfl)))) pe_int))
      (pss_one (ps_ret (pe_op op_mod (pe_op op_fdiv (pe_op op_mod (pe_op op_add (pe_op op_mul (pv 4) pe_int) (pv 3)) pe_int) pe_int) (pv 1))))))), ?_⟩
    have hL : SqL K H t [.int x, .int y, .int n] := sqL ht
    refine ⟨_, rfl, t, _, _, _, rfl, rfl, hL, atI_nat (j := 0) rfl, _, _, rfl, rfl, _, rfl, ite2 (fun e => ?_) (fun e => ?_)⟩
    · have e0 : 0 < x := of_decide_eq_true e
      refine ⟨_, rfl, t, _, _, _, rfl, rfl, hL, atI_nat (j := 0) rfl, _, rfl, _, _, rfl, rfl, hm, ?_⟩
      refine ⟨_, rfl, t, _, _, _, rfl, rfl, hL, atI_nat (j := 0) rfl, _, rfl, _, _, rfl, rfl, ⟨hm, by omega⟩, _, rfl, t, _, _, 0, rfl, rfl, ht, rfl, ?_⟩
      refine ⟨_, rfl, ?_⟩
      have h1 : 0 ≤ x % m := Int.emod_nonneg _ (by omega)
      have h2 : x % m < m := Int.emod_lt_of_pos _ hm
      have h3 : ((x % m).toNat : Int) = x % m := Int.toNat_of_nonneg h1
      have := q (x % m).toNat (upd H t (.lst [.int (x / m), .int y, .int n])) (by omega) But.upd ⟨x / m, y, n, upd_same, Int.ediv_nonneg hx (by omega), hy, hy2, hn, by omega⟩
      rw [h3] at this
      exact this
    · refine ⟨_, rfl, t, _, _, _, rfl, rfl, hL, atI_nat (j := 2) rfl, _, _, rfl, rfl, _, rfl, t, _, _, 2, rfl, rfl, ht, rfl, ?_⟩
      show tSeq _ _ _ _ (upd H t (.lst [.int x, .int y, .int (n + 1)]))
      have hL2 : SqL K (upd H t (.lst [.int x, .int y, .int (n + 1)])) t [.int x, .int y, .int (n + 1)] := sqL upd_same
      have hp : (y + 39373 * (n + 1)).natAbs < 2 ^ 64 := by omega
      refine ⟨_, rfl, t, _, _, _, rfl, rfl, hL2, atI_nat (j := 1) rfl, _, rfl, t, _, _, _, rfl, rfl, hL2, atI_nat (j := 2) rfl, _, _, rfl, rfl, .inl ⟨by decide, by decide⟩, _, _, rfl, rfl,
        _, _, rfl, rfl, ⟨by decide, by decide, hp⟩, _, _, rfl, rfl, (by decide : (0 : Int) < 2147483647), ?_⟩
      generalize hA : (y + 39373 * (n + 1)) ^ (5 : Int).toNat % 2147483647 = once
      have o1 : 0 ≤ once := by rw [← hA]; exact Int.emod_nonneg _ (by decide)
      have o2 : once < 2147483647 := by rw [← hA]; exact Int.emod_lt_of_pos _ (by decide)
      refine ⟨_, rfl, _, rfl, t, _, _, _, rfl, rfl, hL2, atI_nat (j := 2) rfl, _, _, rfl, rfl, _, rfl, _, _, rfl, rfl, (by decide : (0 : Int) < 40009), _, _, rfl, rfl, _, rfl, t, _, _, _, rfl, rfl, hL2, atI_nat (j := 2) rfl, _, _, rfl, rfl,
        _, _, rfl, rfl, .inl ⟨by omega, by omega⟩, _, _, rfl, rfl, (by decide : (0 : Int) < 2147483629), ?_⟩
      generalize hB : (once + (n + 1)) * (once % 40009 + 7 + (n + 1)) % 2147483629 = twice
      have t1 : 0 ≤ twice := by rw [← hB]; exact Int.emod_nonneg _ (by decide)
      have t2 : twice < 2147483629 := by rw [← hB]; exact Int.emod_lt_of_pos _ (by decide)
      refine ⟨_, rfl, _, _, rfl, rfl, .inl ⟨by omega, by omega⟩, _, rfl, _, _, rfl, rfl, _, _, rfl, rfl, (by decide : (0 : Int) < 2147483587), _, _, rfl, rfl, ⟨by decide, by decide⟩, _, rfl, _, _, rfl, rfl, hm, ?_⟩
      generalize hC : (twice * 48271 + once) % 2147483587 / 64 = d
      have h1 : 0 ≤ d % m := Int.emod_nonneg _ (by omega)
      have h2 : d % m < m := Int.emod_lt_of_pos _ hm
      have h3 : ((d % m).toNat : Int) = d % m := Int.toNat_of_nonneg h1
      have := q (d % m).toNat (upd H t (.lst [.int x, .int y, .int (n + 1)])) (by omega) But.upd ⟨x, y, n + 1, upd_same, hx, hy, hy2, by omega, by omega⟩
      rw [h3] at this
      subst hC
      subst hB
      subst hA
      exact this
/-! ### tape -/
def spTape (K : PySem.W.Frag) : Sp := fun vs H Q _ => ∃ (a : Addr) (ns : List Int) (k : Nat), vs = [.ref a, .int k] ∧ SqL K H a (ns.map V.int) ∧ k ≤ 100 ∧
  ∀ (p : Addr) (o : HO), H p = none → Tape (upd H p o) p 0 → Q (.ref p) (upd H p o)
theorem tape_ok {H : Hp} {p : Addr} {k : Nat} (hk : k ≤ 100) (cell : Int) : Tape (upd H p (.lst [.int ((if cell < 0 then -cell else cell) * (if decide ((10 : Int) ^ (18 : Int).toNat ≤ (if cell < 0 then -cell else cell)) then 1 else 0)), .int (cell % 2305843009213693951 + 39373 * (k : Int) + 17), .int 0])) p 0 := by
  refine ⟨_, _, _, upd_same, ?_, ?_, ?_, ?_, ?_⟩
  · have : 0 ≤ (if cell < 0 then -cell else cell) := by split <;> omega
    have h01 : ∀ b : Bool, 0 ≤ (if b = true then (1 : Int) else 0) := by decide
    exact Int.mul_nonneg this (h01 _)
  · have := Int.emod_nonneg cell (b := 2305843009213693951) (by decide)
    omega
  · have := Int.emod_lt_of_pos cell (b := 2305843009213693951) (by decide)
    omega
  · decide
  · decide
theorem b01 : ∀ b : Bool, -(2 ^ 64) < (if b = true then (1 : Int) else 0) ∧ (if b = true then (1 : Int) else 0) < 2 ^ 64 := by decide
theorem scTape : FnScope ["_law_script", "_law_k", "_law_cell"] ["_law_script", "_law_k"] (defScope sTape) := ⟨rfl, rfl, rfl, by decide +kernel, rfl, by decide +kernel, by decide +kernel⟩
theorem ok_tape {f : Addr} {fd : FuncData} {k : Nat} (D : Df K mg "_law_tape" sTape ["_law_script", "_law_k"] f fd) (B : Bi mg) : FnOk P w K mg base CX0 (k + 1) f fd ["_law_script", "_law_k"] (spTape K) := by
  refine D.F.ok scTape (fun vs H Q E h => ?_) (fun cdv A outer s H vs Q E hr h => ?_)
  · obtain ⟨a, ns, k, rfl, _⟩ := h
    rfl
  · obtain ⟨a, ns, k, rfl, hS, hk, q⟩ := h
    refine ⟨_, pss_cons (ps_set (i := 2) scTape.nd rfl (.inl rfl) (pe_ifExp (pt_cmpR op_lt (pv 1) (pe_callB call_len_seq (by rfl) B.len PySem.boot_len (pa_cons (pv 0) pa_nil)) (nomark _)) (pe_ix ix_list (pv 0) (pv 1) (fun _ _ => rfl)) pe_int))
      (pss_one (ps_ret (pe_lst (pa_cons (pe_op op_mul (pe_callB call_abs (by rfl) B.abs (by decide +kernel) (pa_cons (pv 2) pa_nil)) (pe_callTy call_int1 (by rfl) B.int PyProof.Rows.boot_int (pa_cons (pe_cmpR op_ge (pe_callB call_abs (by rfl) B.abs (by decide +kernel) (pa_cons (pv 2) pa_nil)) (pe_op op_pow pe_int pe_int) (nomark _)) pa_nil)))
        (pa_cons (pe_op op_add (pe_op op_add (pe_op op_mod (pv 2) pe_int) (pe_op op_mul pe_int (pv 1))) pe_int) (pa_cons pe_int pa_nil)))))), ?_⟩
    refine ⟨_, rfl, _, rfl, a, _, rfl, .inl hS, _, _, rfl, rfl, _, rfl, ite2 (fun e => ?_) (fun e => ?_)⟩
    · have e0 : (k : Int) < ((ns.map V.int).length : Int) := of_decide_eq_true e
      have e1 : k < ns.length := by rw [List.length_map] at e0; omega
      refine ⟨_, rfl, _, rfl, a, _, _, .int ns[k], rfl, rfl, hS, atI_nat (by rw [List.getElem?_map, List.getElem?_eq_getElem e1]; rfl), ?_⟩
      generalize ns[k] = cell
      refine ⟨_, rfl, _, rfl, _, rfl, _, rfl, _, _, rfl, rfl, ⟨by decide, by decide, by decide⟩, _, _, rfl, rfl, .inr ⟨_, rfl, _, _, rfl, rfl, .inr (b01 _), _, rfl, _, _, rfl, rfl, (by decide : (0 : Int) < 2305843009213693951), _, rfl, _, _, rfl, rfl, .inl ⟨by decide, by decide⟩, _, _, rfl, rfl, _, _, rfl, rfl, ?_⟩⟩
      exact ⟨szl (show 3 ≤ 1000000 by decide), fun p np => q p _ np (tape_ok hk cell)⟩
    · refine ⟨_, rfl, _, rfl, _, rfl, _, rfl, _, _, rfl, rfl, ⟨by decide, by decide, by decide⟩, _, _, rfl, rfl, .inr ⟨_, rfl, _, _, rfl, rfl, .inr (b01 _), _, rfl, _, _, rfl, rfl, (by decide : (0 : Int) < 2305843009213693951), _, rfl, _, _, rfl, rfl, .inl ⟨by decide, by decide⟩, _, _, rfl, rfl, _, _, rfl, rfl, ?_⟩⟩
      exact ⟨szl (show 3 ≤ 1000000 by decide), fun p np => q p _ np (tape_ok hk 0)⟩
end
end Gn
set_option Elab.async false
set_option linter.all false
set_option maxRecDepth 100000
set_option maxHeartbeats 4000000
namespace Gn
open PySem PySem.Spec PyProof.Rows L2
section
variable {P : Program} {w : World} {K : PySem.W.Frag} {mg : Str → Option Value} {base : Heap}
theorem Tape.but {H H' : Hp} {t a : Addr} {c : Nat} (h : Tape H t c) (e : But a H H') (n : t ≠ a) : Tape H' t c := by
  obtain ⟨x, y, z, q, r⟩ := h
  exact ⟨x, y, z, e _ _ n q, r⟩
theorem Tape.upd {H : Hp} {t p : Addr} {c : Nat} {o : HO} (h : Tape H t c) (n : H p = none) : Tape (L2.upd H p o) t c := h.same (new_same n)
theorem Tape.ne {H : Hp} {t p : Addr} {c : Nat} (h : Tape H t c) (n : H p = none) : p ≠ t := fun e => by
  obtain ⟨x, y, z, q, r⟩ := h
  rw [e, q] at n
  cases n
theorem at_lt {α : Type} {xs : List α} {r : Nat} (h : r < xs.length) : atI xs (r : Int) = some xs[r] := atI_nat (List.getElem?_eq_getElem h)
def spNumber : Sp := fun vs H Q _ => ∃ (t : Addr) (c : Nat), vs = [.ref t] ∧ Tape H t c ∧ c + 3 ≤ 100000000 ∧
  ∀ (n : Int) (H' : Hp), (-4 ≤ n ∧ n ≤ 10 ^ 12) → But t H H' → Tape H' t (c + 3) → Q (.int n) H'
theorem scNumber : FnScope ["_law_tape_here"] ["_law_tape_here"] (defScope sNumber) := ⟨rfl, rfl, rfl, by decide +kernel, rfl, by decide +kernel, by decide +kernel⟩
theorem ok_number {f fD : Addr} {fd fdD : FuncData} {k : Nat} (D : Df K mg "_law_number" sNumber ["_law_tape_here"] f fd) (DD : Df K mg "_law_draw" sDraw ["_law_tape_here", "_law_many_here"] fD fdD)
    (GD : FnOk P w K mg base CX0 k fD fdD ["_law_tape_here", "_law_many_here"] spDraw) : FnOk P w K mg base CX0 (k + 1) f fd ["_law_tape_here"] spNumber := by
  refine D.F.ok scNumber (fun vs H Q E h => ?_) (fun cdv A outer s H vs Q E hr h => ?_)
  · obtain ⟨t, c, rfl, _⟩ := h
    rfl
  · obtain ⟨t, c, rfl, hT, hc, q⟩ := h
    refine ⟨_, pss_one (ps_ret (pe_ix ix_list (pe_lst (pa_cons pe_int (pa_cons pe_int (pa_cons (pe_un un_neg pe_int) (pa_cons pe_int (pa_cons pe_int (pa_cons (pe_op op_pow pe_int pe_int)
      (pa_cons (pe_op op_sub (pe_call GD hr (by rfl) DD.g DD.F.kp DD.b .nil pass0 (pa_cons (pv 0) (pa_cons pe_int pa_nil))) pe_int)
      (pa_cons (pe_call GD hr (by rfl) DD.g DD.F.kp DD.b .nil pass0 (pa_cons (pv 0) (pa_cons (pe_op op_pow pe_int pe_int) pa_nil))) pa_nil)))))))))
      (pe_call GD hr (by rfl) DD.g DD.F.kp DD.b .nil pass0 (pa_cons (pv 0) (pa_cons pe_int pa_nil))) (fun _ _ => rfl))), ?_⟩
    refine ⟨1, rfl, _, _, rfl, rfl, ⟨by decide, by decide, by decide⟩, .ref t, rfl, t, 9, c, rfl, hT, by omega, by decide, by decide, fun r1 H1 h1 b1 T1 => ?_⟩
    refine ⟨_, _, rfl, rfl, .ref t, rfl, _, _, rfl, rfl, ⟨by decide, by decide, by decide⟩, t, _, c + 1, rfl, T1, by omega, by decide, by decide, fun r2 H2 h2 b2 T2 => ?_⟩
    refine ⟨szl (show 8 ≤ 1000000 by decide), fun p np => ?_⟩
    refine ⟨.ref t, rfl, t, 8, c + 2, rfl, T2.upd np, by omega, by decide, by decide, fun r3 H3 h3 b3 T3 => ?_⟩
    have npt : p ≠ t := T2.ne np
    have h3' : r3 < 8 := by omega
    refine ⟨p, _, _, _, rfl, rfl, sqL (b3 p _ npt upd_same), at_lt (show r3 < 8 from h3'), ?_⟩
    have b : But t H H3 := (b1.trans b2).trans ((Same.but (new_same np)).trans b3)
    have h2' : (r2 : Int) < 1000000 := h2
    match r3, h3' with
    | 0, _ => exact q 0 _ (by decide) b T3
    | 1, _ => exact q 1 _ (by decide) b T3
    | 2, _ => exact q (-1) _ (by decide) b T3
    | 3, _ => exact q 2 _ (by decide) b T3
    | 4, _ => exact q 3 _ (by decide) b T3
    | 5, _ => exact q (10 ^ 12) _ (by decide) b T3
    | 6, _ => exact q (r1 - 4) _ ⟨by omega, by omega⟩ b T3
    | 7, _ => exact q r2 _ ⟨by omega, by omega⟩ b T3
def spMany : Sp := fun vs H Q _ => ∃ (t : Addr) (c : Nat), vs = [.ref t] ∧ Tape H t c ∧ c + 3 ≤ 100000000 ∧
  ∀ (n : Nat) (H' : Hp), 1 ≤ n → n ≤ 12 → But t H H' → Tape H' t (c + 3) → Q (.int n) H'
theorem scMany : FnScope ["_law_tape_here"] ["_law_tape_here"] (defScope sMany) := ⟨rfl, rfl, rfl, by decide +kernel, rfl, by decide +kernel, by decide +kernel⟩
theorem ok_many {f fD : Addr} {fd fdD : FuncData} {k : Nat} (D : Df K mg "_law_many" sMany ["_law_tape_here"] f fd) (B : Bi mg) (DD : Df K mg "_law_draw" sDraw ["_law_tape_here", "_law_many_here"] fD fdD)
    (GD : FnOk P w K mg base CX0 k fD fdD ["_law_tape_here", "_law_many_here"] spDraw) : FnOk P w K mg base CX0 (k + 1) f fd ["_law_tape_here"] spMany := by
  refine D.F.ok scMany (fun vs H Q E h => ?_) (fun cdv A outer s H vs Q E hr h => ?_)
  · obtain ⟨t, c, rfl, _⟩ := h
    rfl
  · obtain ⟨t, c, rfl, hT, hc, q⟩ := h
    refine ⟨_, pss_one (ps_ret (pe_ix ix_list (pe_lst (pa_cons (pe_op op_add pe_int (pe_call GD hr (by rfl) DD.g DD.F.kp DD.b .nil pass0 (pa_cons (pv 0) (pa_cons pe_int pa_nil))))
      (pa_cons (pe_op op_add pe_int (pe_call GD hr (by rfl) DD.g DD.F.kp DD.b .nil pass0 (pa_cons (pv 0) (pa_cons pe_int pa_nil)))) pa_nil)))
      (pe_callTy call_int1 (by rfl) B.int PyProof.Rows.boot_int (pa_cons (pe_cmpR op_eq (pe_call GD hr (by rfl) DD.g DD.F.kp DD.b .nil pass0 (pa_cons (pv 0) (pa_cons pe_int pa_nil))) pe_int (nomark _)) pa_nil)) (fun _ _ => rfl))), ?_⟩
    refine ⟨.ref t, rfl, t, 6, c, rfl, hT, by omega, by decide, by decide, fun r1 H1 h1 b1 T1 => ?_⟩
    refine ⟨_, _, rfl, rfl, .ref t, rfl, t, 6, c + 1, rfl, T1, by omega, by decide, by decide, fun r2 H2 h2 b2 T2 => ?_⟩
    refine ⟨_, _, rfl, rfl, szl (show 2 ≤ 1000000 by decide), fun p np => ?_⟩
    refine ⟨.ref t, rfl, t, 8, c + 2, rfl, T2.upd np, by omega, by decide, by decide, fun r3 H3 h3 b3 T3 => ?_⟩
    have npt : p ≠ t := T2.ne np
    have hl : H3 p = some (.lst [.int (1 + (r1 : Int)), .int (7 + (r2 : Int))]) := b3 p _ npt upd_same
    have b : But t H H3 := (b1.trans b2).trans ((Same.but (new_same np)).trans b3)
    refine ⟨rfl, .inr ⟨_, rfl, ?_⟩⟩
    cases decide (V.int (r3 : Int) = V.int 0) with
    | true =>
      refine ⟨p, _, 1, _, rfl, rfl, sqL hl, atI_nat (j := 1) rfl, ?_⟩
      have := q (7 + r2) _ (by omega) (by omega) b T3
      rw [Int.natCast_add] at this
      exact this
    | false =>
      refine ⟨p, _, 0, _, rfl, rfl, sqL hl, atI_nat (j := 0) rfl, ?_⟩
      have := q (1 + r1) _ (by omega) (by omega) b T3
      rw [Int.natCast_add] at this
      exact this
end
end Gn
set_option Elab.async false
set_option linter.all false
set_option maxRecDepth 100000
set_option maxHeartbeats 4000000
namespace Gn
open PySem PySem.Spec PyProof.Rows L2
/-! ### lists of numbers, lists of these -/
def iv (n : Nat) : V := .int (n : Int)
def NL (K : PySem.W.Frag) (H : Hp) (p : Addr) (xss : List (List Nat)) : Prop := ∃ ps : List Addr, SqL K H p (ps.map V.ref) ∧ Paired (fun q xs => SqL K H q (xs.map iv)) ps xss
theorem pd_mono {α β : Type} {F G : α → β → Prop} : ∀ {l : List α} {m : List β}, Paired F l m → (∀ a b, F a b → G a b) → Paired G l m
  | _, _, .nil, _ => .nil
  | _, _, .cons h t, g => .cons (g _ _ h) (pd_mono t g)
theorem pd_len {α β : Type} {F : α → β → Prop} : ∀ {l : List α} {m : List β}, Paired F l m → l.length = m.length
  | _, _, .nil => rfl
  | _, _, .cons h t => by rw [List.length_cons, List.length_cons, pd_len t]
theorem pd_at {α β : Type} {F : α → β → Prop} : ∀ {l : List α} {m : List β} {j : Nat} {b : β}, Paired F l m → m[j]? = some b → ∃ a, l[j]? = some a ∧ F a b
  | _, _, _, _, .nil, e => by simp at e
  | _, _, 0, b, .cons (a := a) h t, e => by
    have e' := Option.some.inj e
    subst e'
    exact ⟨a, rfl, h⟩
  | _, _, j + 1, b, .cons h t, e => by
    obtain ⟨a, h1, h2⟩ := pd_at (j := j) t (by simpa using e)
    exact ⟨a, by simpa using h1, h2⟩
theorem pd_snoc {α β : Type} {F : α → β → Prop} {a : α} {b : β} {l : List α} {m : List β} (h : Paired F l m) (g : F a b) : Paired F (l ++ [a]) (m ++ [b]) := Paired.snoc h g
theorem seq_upd {K : PySem.W.Frag} {H : Hp} {a b : Addr} {xs : List V} {o : HO} (h : SqL K H a xs) (n : a ≠ b) : SqL K (upd H b o) a xs := by
  rcases h with (h | ⟨u, h⟩) | h
  · exact .inl (.inl (by rw [upd_ne n]; exact h))
  · exact .inl (.inr ⟨u, by rw [upd_ne n]; exact h⟩)
  · exact .inr h
theorem NL.same {K : PySem.W.Frag} {H H' : Hp} {p : Addr} {xss : List (List Nat)} (h : NL K H p xss) (e : Same H H') : NL K H' p xss := by
  obtain ⟨ps, h1, h2⟩ := h
  exact ⟨ps, e.seq h1, pd_mono h2 fun a b q => e.seq q⟩
theorem NL.at {K : PySem.W.Frag} {H : Hp} {p : Addr} {xss : List (List Nat)} (h : NL K H p xss) {j : Nat} {xs : List Nat} (e : xss[j]? = some xs) :
    ∃ (ys : List V) (q : Addr), SqL K H p ys ∧ ys.length = xss.length ∧ atI ys (j : Int) = some (.ref q) ∧ SqL K H q (xs.map iv) := by
  obtain ⟨ps, h1, h2⟩ := h
  obtain ⟨q, h3, h4⟩ := pd_at h2 e
  exact ⟨_, q, h1, by rw [List.length_map, pd_len h2], atI_nat (by rw [List.getElem?_map, h3]; rfl), h4⟩
theorem NL.len {K : PySem.W.Frag} {H : Hp} {p : Addr} {xss : List (List Nat)} (h : NL K H p xss) : ∃ ys : List V, SqL K H p ys ∧ ys.length = xss.length := by
  obtain ⟨ps, h1, h2⟩ := h
  exact ⟨_, h1, by rw [List.length_map, pd_len h2]⟩
theorem filt_one {α : Type} (p : α → Bool) (x : α) : [x].filter p = if p x = true then [x] else [] := by
  cases h : p x <;> simp [h]
theorem filt_succ (p : Nat → Bool) (j : Nat) : (List.range (j + 1)).filter p = (List.range j).filter p ++ (if p j = true then [j] else []) := by
  rw [List.range_succ, List.filter_append, filt_one]
theorem flat_iv (xs : List Nat) : (xs.map iv).all flatV = true := by
  rw [List.all_map]
  exact List.all_eq_true.mpr fun _ _ => rfl
theorem inV_iv (b : Nat) (xs : List Nat) : inV (iv b) (xs.map iv) = decide (b ∈ xs) := by
  unfold inV
  rw [List.any_map, Bool.eq_iff_iff, List.any_eq_true, decide_eq_true_eq]
  constructor
  · rintro ⟨x, hx, e⟩
    have e2 : ((x : Int) == (b : Int)) = true := e
    have e3 : (x : Int) = (b : Int) := eq_of_beq e2
    have e4 : x = b := by omega
    rw [← e4]; exact hx
  · intro h
    exact ⟨b, h, (beq_self_eq_true (b : Int) : ((b : Int) == (b : Int)) = true)⟩
/-- what is new in H' -/
def newOf (H H' : Hp) : Hp := fun a => if (H a).isNone = true then H' a else none
theorem new_at {H H' : Hp} {a : Addr} {o : HO} (n : H a = none) (e : H' a = some o) : newOf H H' a = some o := by
  unfold newOf
  rw [n]
  exact e
theorem new_of {H H' : Hp} {a : Addr} {o : HO} (e : newOf H H' a = some o) : H a = none ∧ H' a = some o := by
  unfold newOf at e
  cases h : H a with
  | none => rw [h] at e; exact ⟨rfl, e⟩
  | some u => rw [h] at e; cases e
theorem new_sub (H H' : Hp) : Same (newOf H H') H' := fun _ _ e => (new_of e).2
/-! ### the text's comprehensions -/
def valE : Stmt → Expr
  | .Return (some e) _ => e
  | .Assign _ e _ => e
  | _ => .Constant .none 0 ⟨0, 0, 0, 0⟩
def lcS : Expr → Scope
  | .ListComp _ _ sc _ => sc
  | _ => { kind := .function, names := [], isGenerator := false, isCoroutine := false }
def nthS (l : List Stmt) (i : Nat) : Stmt := l.getD i (.Pass ⟨0, 0, 0, 0⟩)
/-! ### readings by name -/
abbrev rLen (K : PySem.W.Frag) : List V → Hp → VK → Prop := fun xs H Q => ∃ p ys, xs = [.ref p] ∧ (SqL K H p ys ∨ SqT K H p ys) ∧ Q (.int ys.length) H
abbrev tLen (K : PySem.W.Frag) (t : TE) : TE := tCB (rLen K) (tCons t tNil)
abbrev tIxL (K : PySem.W.Frag) (a b : TE) : TE := tOp (rIxL K) a b
abbrev tIxT (K : PySem.W.Frag) (a b : TE) : TE := tOp (rIxT K) a b
abbrev tIn (K : PySem.W.Frag) (a b : TE) : TT := tTest (tOp (rIn K false) a b)
abbrev tNotIn (K : PySem.W.Frag) (a b : TE) : TT := tTest (tOp (rIn K true) a b)
abbrev iRange (t : TE) : TI := iRng1 (tCons t tNil)
/-! ### leads -/
def leadsL (nx : List (List Nat)) : List (List Nat) := (List.range nx.length).map fun b => (List.range nx.length).filter fun l => decide (b ∈ nx.getD l [])
def spLeads (K : PySem.W.Frag) : Sp := fun vs H Q _ => ∃ (a : Addr) (nx : List (List Nat)), vs = [.ref a] ∧ NL K H a nx ∧ nx.length ≤ 1000 ∧
  ∀ (p : Addr) (H' : Hp), Same H H' → NL K (newOf H H') p (leadsL nx) → Q (.ref p) H'
abbrev nLeads : List Str := ["_law_nexts_here", "_law_block", "_law_lead"]
theorem scLeads : FnScope nLeads ["_law_nexts_here"] (defScope sLeads) := ⟨rfl, rfl, rfl, by decide +kernel, rfl, by decide +kernel, by decide +kernel⟩
abbrev cLeads : Scope := lcS (valE (nthS (defBody sLeads) 0))
section
variable {P : Program} {w : World} {K : PySem.W.Frag} {mg : Str → Option Value} {base : Heap}
theorem ok_leads {f : Addr} {fd : FuncData} {k : Nat} (D : Df K mg "_law_leads" sLeads ["_law_nexts_here"] f fd) (B : Bi mg) : FnOk P w K mg base CX0 (k + 1) f fd ["_law_nexts_here"] (spLeads K) := by
  refine D.F.ok scLeads (fun vs H Q E h => ?_) (fun cdv A outer s H vs Q E hr h => ?_)
  · obtain ⟨a, nx, rfl, _⟩ := h
    rfl
  · obtain ⟨a, nx, rfl, hN, hl, q⟩ := h
    refine ⟨_, pss_one (ps_ret (pe_lc (own := [("_law_block", 1)]) (g := gName 1) (tt := tYes) (te := tLc (iRange (tLen K (tVar 0))) (gName 2) (tIn K (tVar 1) (tIxL K (tVar 0) (tVar 2))) (tVar 2) [2]) rfl scLeads.nd (pi_range1 (by rfl) B.range (pa_cons (pe_callB call_len_seq (by rfl) B.len PySem.boot_len (pa_cons (pv 0) pa_nil)) pa_nil))
      (blkOk_by (own := [("_law_block", 1)]) (N := nLeads) (sc := defScope sLeads) (by decide +kernel)) (fun _ _ _ _ _ => pg_name (i := 1) scLeads.nd rfl (.inr rfl)) (fun _ _ _ _ _ => pts_nil)
      (fun _ _ _ _ _ => pe_lc (own := [("_law_lead", 2)]) (g := gName 2) (tt := tIn K (tVar 1) (tIxL K (tVar 0) (tVar 2))) (te := tVar 2) rfl scLeads.nd (pi_range1 (by rfl) B.range (pa_cons (pe_callB call_len_seq (by rfl) B.len PySem.boot_len (pa_cons (pv 0) pa_nil)) pa_nil))
        (blkOk_by (own := [("_law_lead", 2)]) (N := nLeads) (sc := relS cLeads (defScope sLeads)) (by decide +kernel)) (fun _ _ _ _ _ => pg_name (i := 2) scLeads.nd rfl (.inl rfl))
        (fun _ _ _ _ _ => pts_one (pt_cmpR op_in_seq (pv 1) (pe_ix ix_list (pv 0) (pv 2) (fun _ _ => rfl)) rfl)) (fun _ _ _ _ _ => pv 2)))), ?_⟩
    obtain ⟨ys, hy, hyl⟩ := hN.len
    have hyi : (ys.length : Int) = (nx.length : Int) := by rw [hyl]
    refine ⟨.ref a, rfl, a, ys, rfl, .inl hy, nx.length, by rw [hyi], by omega, by omega, fun L nL => ?_⟩
    let f : Nat → List Nat := fun b => (List.range nx.length).filter fun l => decide (b ∈ nx.getD l [])
    refine lc_range (lo := 0) (n := nx.length) (fun i H1 => Same H H1 ∧ ∃ ps : List Addr, H1 L = some (.lst (ps.map V.ref)) ∧ Paired (fun q xs => H1 q = some (.lst (xs.map iv)) ∧ q ≠ L ∧ H q = none) ps ((List.range i).map f)) ⟨new_same nL, [], upd_same, .nil⟩ (fun i H1 hi hP => ?_) (fun H1 hP => ?_)
    · obtain ⟨sm, ps, eL, pd⟩ := hP
      have hN1 := hN.same sm
      have hy1 := sm.seq hy
      refine ⟨rfl, .ref a, rfl, a, ys, rfl, .inl hy1, nx.length, by rw [hyi], by omega, by omega, fun L2 nL2 => ?_⟩
      have n2 : L ≠ L2 := ne_of_none eL nL2
      refine lc_range (lo := 0) (n := nx.length) (fun j H2 => Same H1 H2 ∧ H2 L2 = some (.lst (((List.range j).filter fun l => decide (i ∈ nx.getD l [])).map iv))) ⟨new_same nL2, upd_same⟩ (fun j H2 hj hP2 => ?_) (fun H2 hP2 => ?_)
      · obtain ⟨sm2, eL2⟩ := hP2
        have ej : nx[j]? = some (nx.getD j []) := by rw [List.getD_eq_getElem?_getD, List.getElem?_eq_getElem hj]; rfl
        obtain ⟨zs, qa, z1, z2, z3, z4⟩ := (hN1.same sm2).at ej
        refine ⟨rfl, _, rfl, .ref a, rfl, _, rfl, a, zs, _, _, rfl, rfl, z1, by rw [Int.zero_add]; exact z3, qa, _, rfl, .inl z4, rfl, flat_iv _, _, rfl, ?_⟩
        have ei : inV (.int (0 + (i : Int))) ((nx.getD j []).map iv) = decide (i ∈ nx.getD j []) := by
          rw [Int.zero_add]; exact inV_iv i _
        have er : (List.range (j + 1)).filter (fun l => decide (i ∈ nx.getD l [])) = (List.range j).filter (fun l => decide (i ∈ nx.getD l [])) ++ (if decide (i ∈ nx.getD j []) = true then [j] else []) := by
          exact filt_succ _ j
        show if inV (.int (0 + (i : Int))) ((nx.getD j []).map iv) = true then _ else _
        rw [ei]
        by_cases hb : decide (i ∈ nx.getD j []) = true
        · rw [if_pos hb]
          rw [if_pos hb] at er
          refine ⟨_, rfl, _, eL2, ?_, fun b o e => ?_, ?_⟩
          · rw [List.length_map]
            exact szt (Nat.lt_of_le_of_lt (List.length_filter_le _ _) (by rw [List.length_range]; omega))
          · rw [upd_ne (ne_of_none e nL2)]
            exact sm2 _ _ e
          · rw [upd_same, er, List.map_append, Int.zero_add]
            rfl
        · rw [if_neg hb]
          rw [if_neg hb, List.append_nil] at er
          exact ⟨sm2, by rw [er]; exact eL2⟩
      · obtain ⟨sm2, eL2⟩ := hP2
        refine ⟨_, sm2 _ _ eL, ?_, fun b o e => ?_, ps ++ [L2], ?_, ?_⟩
        · rw [List.length_map, pd_len pd, List.length_map, List.length_range]
          exact szt (by omega)
        · rw [upd_ne (ne_of_none e nL)]
          exact sm2 _ _ (sm _ _ e)
        · rw [upd_same, List.map_append]
          rfl
        · rw [List.range_succ, List.map_append]
          refine pd_snoc (pd_mono pd fun b xs z => ⟨?_, z.2⟩) ⟨?_, n2.symm, sm.free nL2⟩
          · rw [upd_ne z.2.1]; exact sm2 _ _ z.1
          · rw [upd_ne n2.symm]
            exact eL2
    · obtain ⟨sm, ps, eL, pd⟩ := hP
      exact q L H1 sm ⟨ps, sqL (new_at nL eL), pd_mono pd fun _ _ z => sqL (new_at z.2.2 z.1)⟩
end
end Gn
set_option linter.all false
namespace Gn
/-! ### reached blocks, chains of nearest ones -/
inductive Rc (E : Nat → List Nat) (x : Nat) : Nat → Prop
  | z : x ≠ 0 → Rc E x 0
  | s {a b : Nat} : Rc E x a → b ∈ E a → b ≠ x → Rc E x b
inductive Rn (E : Nat → List Nat) (x : Nat) : Nat → Nat → Prop
  | z {n : Nat} : x ≠ 0 → Rn E x n 0
  | s {n a b : Nat} : Rn E x n a → b ∈ E a → b ≠ x → Rn E x (n + 1) b
variable {E : Nat → List Nat} {x y m n : Nat}
theorem Rn.mono {k b : Nat} (h : Rn E x n b) : n ≤ k → Rn E x k b := by
  induction h generalizing k with
  | z h => exact fun _ => .z h
  | s h hb hx ih =>
    intro hk
    obtain ⟨j, rfl⟩ : ∃ j, k = j + 1 := ⟨k - 1, by omega⟩
    exact .s (ih (by omega)) hb hx
theorem Rn.rc {b : Nat} (h : Rn E x n b) : Rc E x b := by
  induction h with
  | z h => exact .z h
  | s h hb hx ih => exact .s ih hb hx
theorem Rc.rn {b : Nat} (h : Rc E x b) : ∃ n, Rn E x n b := by
  induction h with
  | z h => exact ⟨0, .z h⟩
  | s h hb hx ih =>
    obtain ⟨n, hn⟩ := ih
    exact ⟨n + 1, .s hn hb hx⟩
theorem Rc.ne {b : Nat} (h : Rc E x b) : b ≠ x := by
  cases h with
  | z h => exact fun e => h e.symm
  | s _ _ hx => exact hx
theorem Rc.lt {b : Nat} (hm : 0 < m) (hE : ∀ a, ∀ b ∈ E a, b < m) (h : Rc E x b) : b < m := by
  cases h with
  | z h => exact hm
  | s _ hb _ => exact hE _ _ hb
theorem Rc.no0 {b : Nat} (h : Rc E 0 b) : False := by
  induction h with
  | z h => exact h rfl
  | s _ _ _ ih => exact ih
theorem Rn.stab (h : ∀ b, Rn E x (n + 1) b → Rn E x n b) {k b : Nat} (r : Rn E x k b) : Rn E x n b := by
  induction r with
  | z h0 => exact .z h0
  | s _ hb hx ih => exact h _ (.s ih hb hx)
theorem cnt_lt {p q : Nat → Bool} (h : ∀ y, p y = true → q y = true) {b : Nat} (hq : q b = true) (hp : p b = false) : ∀ {l : List Nat}, b ∈ l → l.countP p < l.countP q
  | c :: l, hb => by
    have hle : l.countP p ≤ l.countP q := List.countP_mono_left fun y _ e => h y e
    rw [List.countP_cons, List.countP_cons]
    rcases List.mem_cons.mp hb with rfl | hb
    · rw [hq, hp]
      simp
      omega
    · have := cnt_lt h hq hp hb
      by_cases e : p c = true
      · rw [e, h c e]; simp; omega
      · have : (if p c = true then 1 else 0) = 0 := if_neg e
        omega
open Classical in
noncomputable def cntR (E : Nat → List Nat) (x m n : Nat) : Nat := (List.range m).countP fun b => decide (Rn E x n b)
open Classical in
theorem grow (hm : 0 < m) (hE : ∀ a, ∀ b ∈ E a, b < m) (hx : x ≠ 0) : ∀ n, (∃ j, j ≤ n ∧ ∀ b, Rn E x (j + 1) b → Rn E x j b) ∨ n + 1 ≤ cntR E x m n
  | 0 => .inr (List.countP_pos_iff.mpr ⟨0, List.mem_range.mpr hm, decide_eq_true (.z hx)⟩)
  | n + 1 => by
    rcases grow hm hE hx n with ⟨j, hj, h⟩ | h
    · exact .inl ⟨j, by omega, h⟩
    · by_cases hs : ∀ b, Rn E x (n + 1) b → Rn E x n b
      · exact .inl ⟨n, by omega, hs⟩
      · obtain ⟨b, hb⟩ := Classical.not_forall.mp hs
        obtain ⟨h1, h2⟩ := Classical.not_imp.mp hb
        refine .inr ?_
        have : cntR E x m n < cntR E x m (n + 1) := cnt_lt (b := b) (fun y e => decide_eq_true ((of_decide_eq_true e : Rn E x n y).mono (Nat.le_succ n))) (decide_eq_true h1) (decide_eq_false h2) (List.mem_range.mpr (h1.rc.lt hm hE))
        omega
open Classical in
theorem Rc.rm (hm : 0 < m) (hE : ∀ a, ∀ b ∈ E a, b < m) {b : Nat} (h : Rc E x b) : Rn E x m b := by
  by_cases hx : x = 0
  · subst hx; exact h.no0.elim
  · have hc : cntR E x m m ≤ m := Nat.le_trans (List.countP_le_length (p := _)) (by rw [List.length_range]; exact Nat.le_refl _)
    rcases grow hm hE hx m with ⟨j, hj, hs⟩ | h2
    · obtain ⟨k, hk⟩ := h.rn
      exact (hk.stab hs).mono hj
    · omega
theorem Rn.split {b : Nat} (y : Nat) (h : Rn E x n b) : Rn E y n b ∨ Rn E x n y := by
  induction h with
  | z h =>
    by_cases e : y = 0
    · subst e; exact .inr (.z h)
    · exact .inl (.z e)
  | s h hb hx ih =>
    rename_i n a b
    rcases ih with ih | ih
    · by_cases e : b = y
      · subst e; exact .inr (.s h hb hx)
      · exact .inl (.s ih hb e)
    · exact .inr (ih.mono (Nat.le_succ _))
/-- each block but the first has a lesser lead -/
def Led (m : Nat) (E : Nat → List Nat) : Prop := ∀ b, 0 < b → b < m → ∃ j, j < b ∧ b ∈ E j
theorem rc_gt (hl : Led m E) : ∀ b, b < m → b < x → Rc E x b := by
  intro b
  induction b using Nat.strongRecOn with
  | ind b ih =>
    intro hb hx
    by_cases h0 : b = 0
    · subst h0; exact .z (by omega)
    · obtain ⟨j, hj, hbj⟩ := hl b (by omega) hb
      exact .s (ih j hj (by omega) (by omega)) hbj (by omega)
theorem dom_le (hl : Led m E) {b : Nat} (hb : b < m) (h : ¬ Rc E x b) : x ≤ b := Nat.le_of_not_lt fun z => h (rc_gt hl b hb z)
inductive Ch (N : Nat → Nat) : Nat → Nat → Prop
  | r {b : Nat} : Ch N b b
  | u {x b : Nat} : 0 < b → Ch N x (N b) → Ch N x b
variable {N : Nat → Nat}
/-- nearest ones are lesser -/
def Dn (m : Nat) (N : Nat → Nat) : Prop := ∀ b, 0 < b → b < m → N b < b
theorem Ch.inv {b : Nat} (h : Ch N x b) : x = b ∨ (0 < b ∧ Ch N x (N b)) := by
  cases h with
  | r => exact .inl rfl
  | u h0 h => exact .inr ⟨h0, h⟩
theorem Ch.le (hN : Dn m N) {b : Nat} (h : Ch N x b) : b < m → x ≤ b := by
  induction h with
  | r => exact fun _ => Nat.le_refl _
  | u h0 h ih => exact fun hb => by have := hN _ h0 hb; have := ih (by omega); omega
inductive Lca (N : Nat → Nat) : Nat → Nat → Nat → Prop
  | e {a : Nat} : Lca N a a a
  | l {a b c : Nat} : b < a → Lca N (N a) b c → Lca N a b c
  | r {a b c : Nat} : a < b → Lca N a (N b) c → Lca N a b c
theorem Lca.ch (hN : Dn m N) {a b c : Nat} (h : Lca N a b c) : a < m → b < m → ∀ x, Ch N x c ↔ Ch N x a ∧ Ch N x b := by
  induction h with
  | e => exact fun _ _ x => ⟨fun h => ⟨h, h⟩, fun h => h.1⟩
  | l hba h ih =>
    intro ha hb x
    have h1 := hN _ (by omega) ha
    rw [ih (by omega) hb x]
    refine ⟨fun q => ⟨.u (by omega) q.1, q.2⟩, fun q => ⟨?_, q.2⟩⟩
    rcases q.1.inv with rfl | z
    · have := q.2.le hN hb; omega
    · exact z.2
  | r hab h ih =>
    intro ha hb x
    have h1 := hN _ (by omega) hb
    rw [ih ha (by omega) x]
    refine ⟨fun q => ⟨q.1, .u (by omega) q.2⟩, fun q => ⟨q.1, ?_⟩⟩
    rcases q.2.inv with rfl | z
    · have := q.1.le hN ha; omega
    · exact z.2
/-- what lies on all ways to a block lies so to its nearest one -/
def Bet (m : Nat) (E : Nat → List Nat) (N : Nat → Nat) : Prop := ∀ b x, 0 < b → b < m → ¬ Rc E x b → x ≠ b → ¬ Rc E x (N b)
theorem Lca.dom (hN : Dn m N) (hl : Led m E) (hB : Bet m E N) {a b c : Nat} (h : Lca N a b c) : a < m → b < m → ¬ Rc E x a → ¬ Rc E x b → ¬ Rc E x c := by
  induction h with
  | e => exact fun _ _ h _ => h
  | l hba h ih =>
    intro ha hb h1 h2
    have h3 := hN _ (by omega) ha
    have h4 := dom_le hl hb h2
    exact ih (by omega) hb (hB _ _ (by omega) ha h1 (by omega)) h2
  | r hab h ih =>
    intro ha hb h1 h2
    have h3 := hN _ (by omega) hb
    have h4 := dom_le hl ha h1
    exact ih ha (by omega) h1 (hB _ _ (by omega) hb h2 (by omega))
theorem Lca.lt (hN : Dn m N) {a b c : Nat} (h : Lca N a b c) (ha : a < m) (hb : b < m) : c ≤ a := ((h.ch hN ha hb c).mp .r).1.le hN ha
inductive LcaL (N : Nat → Nat) : Nat → List Nat → Nat → Prop
  | n {c : Nat} : LcaL N c [] c
  | c {a b d e : Nat} {bs : List Nat} : Lca N a b d → LcaL N d bs e → LcaL N a (b :: bs) e
theorem LcaL.ch (hN : Dn m N) {a e : Nat} {bs : List Nat} (h : LcaL N a bs e) : a < m → (∀ b ∈ bs, b < m) → ∀ x, Ch N x e → ∀ b ∈ a :: bs, Ch N x b := by
  induction h with
  | n => exact fun _ _ x h b hb => by rw [List.mem_singleton.mp hb]; exact h
  | c h1 h2 ih =>
    intro ha hbs x hx b hb
    rename_i a b0 d e bs
    have hb0 := hbs b0 List.mem_cons_self
    have hd := h1.lt hN ha hb0
    have h4 := ih (by omega) (fun y hy => hbs y (List.mem_cons_of_mem _ hy)) x hx
    have h5 := (h1.ch hN ha hb0 x).mp (h4 d List.mem_cons_self)
    rcases List.mem_cons.mp hb with rfl | hb
    · exact h5.1
    · rcases List.mem_cons.mp hb with rfl | hb
      · exact h5.2
      · exact h4 b (List.mem_cons_of_mem _ hb)
theorem LcaL.dom (hN : Dn m N) (hl : Led m E) (hB : Bet m E N) {a e : Nat} {bs : List Nat} (h : LcaL N a bs e) : a < m → (∀ b ∈ bs, b < m) → (∀ b ∈ a :: bs, ¬ Rc E x b) → ¬ Rc E x e := by
  induction h with
  | n => exact fun _ _ h => h _ List.mem_cons_self
  | c h1 h2 ih =>
    intro ha hbs h
    rename_i a b0 d e bs
    have hb0 := hbs b0 List.mem_cons_self
    have hd := h1.lt hN ha hb0
    refine ih (by omega) (fun y hy => hbs y (List.mem_cons_of_mem _ hy)) fun b hb => ?_
    rcases List.mem_cons.mp hb with rfl | hb
    · exact h1.dom hN hl hB ha hb0 (h _ List.mem_cons_self) (h _ (List.mem_cons_of_mem _ List.mem_cons_self))
    · exact h b (List.mem_cons_of_mem _ (List.mem_cons_of_mem _ hb))
/-- the nearest common one of a list that isn't empty -/
def LcaB (N : Nat → Nat) (ld : List Nat) (e : Nat) : Prop := ∃ a bs, ld = a :: bs ∧ LcaL N a bs e
theorem LcaB.ch (hN : Dn m N) {ld : List Nat} {e : Nat} (h : LcaB N ld e) (hl : ∀ b ∈ ld, b < m) {x : Nat} (hx : Ch N x e) : ∀ b ∈ ld, Ch N x b := by
  obtain ⟨a, bs, rfl, h⟩ := h
  exact h.ch hN (hl a List.mem_cons_self) (fun b hb => hl b (List.mem_cons_of_mem _ hb)) x hx
theorem LcaB.dom (hN : Dn m N) (hl : Led m E) (hB : Bet m E N) {ld : List Nat} {e : Nat} (h : LcaB N ld e) (hm : ∀ b ∈ ld, b < m) (hd : ∀ b ∈ ld, ¬ Rc E x b) : ¬ Rc E x e := by
  obtain ⟨a, bs, rfl, h⟩ := h
  exact h.dom hN hl hB (hm a List.mem_cons_self) (fun b hb => hm b (List.mem_cons_of_mem _ hb)) hd
theorem LcaB.le (hN : Dn m N) {ld : List Nat} {e b : Nat} (h : LcaB N ld e) (hl : ∀ b ∈ ld, b < m) (hb : b ∈ ld) : e ≤ b := (h.ch hN hl .r b hb).le hN (hl b hb)
/-- nearest ones are on all ways of so many steps -/
def Kd (m : Nat) (E : Nat → List Nat) (N : Nat → Nat) (n : Nat) : Prop := ∀ b, 0 < b → b < m → ¬ Rn E (N b) n b
theorem Ch.kd (hN : Dn m N) (hK : Kd m E N n) {a : Nat} (h : Ch N x a) : a < m → ¬ Rn E x n a := by
  induction h with
  | r => exact fun _ h => h.rc.ne rfl
  | u h0 h ih =>
    intro ha hr
    have h1 := hN _ h0 ha
    rcases hr.split (N _) with q | q
    · exact hK _ h0 ha q
    · exact ih (by omega) q
/-- the leads of a block -/
def IsLd (m : Nat) (E : Nat → List Nat) (b : Nat) (ld : List Nat) : Prop := ∀ a, a ∈ ld ↔ a < m ∧ b ∈ E a
theorem IsLd.lt {b : Nat} {ld : List Nat} (h : IsLd m E b ld) : ∀ a ∈ ld, a < m := fun a ha => ((h a).mp ha).1
theorem lead_dom {b : Nat} {ld : List Nat} (h : IsLd m E b ld) (hd : ¬ Rc E x b) (hx : x ≠ b) : ∀ a ∈ ld, ¬ Rc E x a := fun a ha z => hd (.s z ((h a).mp ha).2 (Ne.symm hx))
theorem step_bet (hN : Dn m N) (hl : Led m E) (hB : Bet m E N) {b e : Nat} {ld : List Nat} (hld : IsLd m E b ld) (h : LcaB N ld e) (hd : ¬ Rc E x b) (hx : x ≠ b) : ¬ Rc E x e :=
  h.dom hN hl hB hld.lt (lead_dom hld hd hx)
theorem step_lt (hN : Dn m N) (hl : Led m E) {b e : Nat} {ld : List Nat} (h0 : 0 < b) (hb : b < m) (hld : IsLd m E b ld) (h : LcaB N ld e) : e < b := by
  obtain ⟨j, hj, hbj⟩ := hl b h0 hb
  have := h.le hN hld.lt ((hld j).mpr ⟨by omega, hbj⟩)
  omega
theorem step_kd (hE : ∀ a, E a ≠ [] → a < m) (hN : Dn m N) (hK : Kd m E N n) {b e : Nat} {ld : List Nat} (h0 : 0 < b) (hld : IsLd m E b ld) (h : LcaB N ld e) : ¬ Rn E e (n + 1) b := by
  intro z
  cases z with
  | z _ => omega
  | s hr hb hx =>
    rename_i a
    have ha : a ∈ ld := (hld a).mpr ⟨hE a (fun q => by rw [q] at hb; cases hb), hb⟩
    exact (h.ch hN hld.lt .r a ha).kd hN hK (hld.lt a ha) hr
theorem ch_of_dom (hl : Led m E) (hN : Dn m N) (hB : Bet m E N) : ∀ b, b < m → ¬ Rc E x b → Ch N x b := by
  intro b
  induction b using Nat.strongRecOn with
  | ind b ih =>
    intro hb hd
    by_cases e : x = b
    · subst e; exact .r
    · have h0 : 0 < b := by
        have := dom_le hl hb hd
        omega
      have := hN b h0 hb
      exact .u h0 (ih _ this (by omega) (hB b x h0 hb hd e))
/-- by so many steps as there are blocks nothing changes any more -/
theorem step_end (hm : 0 < m) (hE : ∀ a, ∀ b ∈ E a, b < m) (hE2 : ∀ a, E a ≠ [] → a < m) (hl : Led m E) (hN : Dn m N) (hB : Bet m E N) (hK : Kd m E N m) {b e : Nat} {ld : List Nat} (h0 : 0 < b) (hb : b < m) (hld : IsLd m E b ld) (h : LcaB N ld e) : e = N b := by
  have h1 := hN b h0 hb
  have h2 := step_lt hN hl h0 hb hld h
  have hD : ∀ {x a : Nat}, Ch N x a → a < m → ¬ Rc E x a := fun hc ha z => hc.kd hN hK ha (z.rm hm hE)
  have h3 : ¬ Rc E (N b) b := hD (.u h0 .r) hb
  have h4 : ¬ Rc E (N b) e := step_bet hN hl hB hld h h3 (by omega)
  have h5 := dom_le hl (by omega) h4
  have h6 : ¬ Rc E e b := fun z => by
    cases z with
    | z _ => omega
    | s hr hb' hx =>
      rename_i a
      have ha : a ∈ ld := (hld a).mpr ⟨hE2 a (fun q => by rw [q] at hb'; cases hb'), hb'⟩
      exact hD (h.ch hN hld.lt .r a ha) (hld.lt a ha) hr
  rcases (ch_of_dom hl hN hB b hb h6).inv with q | q
  · omega
  · have := q.2.le hN (by omega)
    omega
/-- where nothing changes, chains are what lies on all ways -/
theorem ch_dom (hm : 0 < m) (hE : ∀ a, ∀ b ∈ E a, b < m) (hE2 : ∀ a, E a ≠ [] → a < m) (hE0 : ∀ a, 0 ∉ E a) (hl : Led m E) (hN : Dn m N) (hB : Bet m E N) (hF : ∀ b, 0 < b → b < m → ∃ ld, IsLd m E b ld ∧ LcaB N ld (N b)) {b : Nat} (hb : b < m) : Ch N x b ↔ ¬ Rc E x b := by
  refine ⟨fun hc hr => ?_, ch_of_dom hl hN hB b hb⟩
  revert hc
  induction hr with
  | z hx =>
    intro hc
    rcases hc.inv with q | q
    · exact hx q
    · exact Nat.lt_irrefl _ q.1
  | s hr hba hx ih =>
    intro hc
    rename_i a b
    have ha : a < m := hE2 a (fun q => by rw [q] at hba; cases hba)
    rcases hc.inv with q | q
    · exact hx q.symm
    · obtain ⟨ld, h1, h2⟩ := hF b q.1 (hE a b hba)
      exact ih ha (h2.ch hN h1.lt q.2 a ((h1 a).mpr ⟨ha, hba⟩))
theorem asc_eq : ∀ {l k : List Nat}, l.Pairwise (· < ·) → k.Pairwise (· < ·) → (∀ x, x ∈ l ↔ x ∈ k) → l = k
  | [], [], _, _, _ => rfl
  | [], b :: k, _, _, h => by have := (h b).mpr List.mem_cons_self; cases this
  | a :: l, [], _, _, h => by have := (h a).mp List.mem_cons_self; cases this
  | a :: l, b :: k, hl, hk, h => by
    have hl' := List.pairwise_cons.mp hl
    have hk' := List.pairwise_cons.mp hk
    have e : a = b := by
      rcases List.mem_cons.mp ((h a).mp List.mem_cons_self) with q | q
      · exact q
      · rcases List.mem_cons.mp ((h b).mpr List.mem_cons_self) with z | z
        · exact z.symm
        · have := hk'.1 a q; have := hl'.1 b z; omega
    subst e
    rw [asc_eq hl'.2 hk'.2 fun x => ⟨fun hx => ?_, fun hx => ?_⟩]
    · rcases List.mem_cons.mp ((h x).mp (List.mem_cons_of_mem _ hx)) with q | q
      · have := hl'.1 x hx; omega
      · exact q
    · rcases List.mem_cons.mp ((h x).mpr (List.mem_cons_of_mem _ hx)) with q | q
      · have := hk'.1 x hx; omega
      · exact q
end Gn
set_option Elab.async false
set_option linter.all false
set_option maxRecDepth 100000
set_option maxHeartbeats 4000000
namespace Gn
open PySem PySem.Spec PyProof.Rows L2
/-! ### reached -/
def Ex (nx : List (List Nat)) (a : Nat) : List Nat := nx.getD a []
theorem Ex.at {nx : List (List Nat)} {a : Nat} (h : a < nx.length) : Ex nx a = nx[a] := by
  unfold Ex
  rw [List.getD_eq_getElem?_getD, List.getElem?_eq_getElem h]
  rfl
theorem nd_le : ∀ {m : Nat} {l : List Nat}, l.Nodup → (∀ y ∈ l, y < m) → l.length ≤ m
  | 0, [], _, _ => Nat.le_refl _
  | 0, a :: l, _, h => absurd (h a List.mem_cons_self) (Nat.not_lt_zero _)
  | m + 1, l, hn, h => by
    by_cases hm : m ∈ l
    · have h1 := List.length_erase_of_mem hm
      have h2 := nd_le (m := m) (hn.erase m) fun y hy => by
        have h3 := (hn.mem_erase_iff).mp hy
        have := h y h3.2
        omega
      omega
    · have := nd_le (m := m) hn fun y hy => by
        have h1 := h y hy
        have h2 : y ≠ m := fun e => hm (e ▸ hy)
        omega
      omega
def Cls (nx : List (List Nat)) (wo : Nat) (ns : List Nat) : Prop := ∀ a ∈ ns, ∀ b ∈ Ex nx a, b ≠ wo → b ∈ ns
theorem cls_rc {nx : List (List Nat)} {wo : Nat} {ns : List Nat} (h : Cls nx wo ns) (h0 : wo ≠ 0 → 0 ∈ ns) {y : Nat} (r : Rc (Ex nx) wo y) : y ∈ ns := by
  induction r with
  | z hx => exact h0 hx
  | s _ hb hx ih => exact h _ ih _ hb hx
def spReached (K : PySem.W.Frag) : Sp := fun vs H Q _ => ∃ (a : Addr) (nx : List (List Nat)) (wo : Nat), vs = [.ref a, .int wo] ∧ NL K H a nx ∧ 0 < nx.length ∧ nx.length ≤ 12 ∧
  (∀ xs ∈ nx, xs.length ≤ 2 ∧ ∀ y ∈ xs, y < nx.length) ∧
  ∀ (p : Addr) (ns : List Nat) (H' : Hp), H p = none → Same H H' → H' p = some (.lst (ns.map iv)) → (∀ y ∈ ns, y < nx.length) → (∀ y, y ∈ ns ↔ Rc (Ex nx) wo y) → Q (.ref p) H'
abbrev nReached : List Str := ["_law_nexts_here", "_law_without", "_law_found", "_law_turn", "_law_block", "_law_one"]
theorem scReached : FnScope nReached ["_law_nexts_here", "_law_without"] (defScope sReached) := ⟨rfl, rfl, rfl, by decide +kernel, rfl, by decide +kernel, by decide +kernel⟩
theorem pick2 {c : Bool} {σ : L2.St} {H : Hp} {Q : VK} (h : ∀ p (ns : List Nat), H p = none → (c = true → ns = []) → (c = false → ns = [0]) → (∀ y ∈ ns, y = 0) → ns.length ≤ 1 → Q (.ref p) (upd H p (.lst (ns.map iv)))) :
    if c = true then tLst tNil σ H Q else tLst (tCons (tC (.int 0)) tNil) σ H Q := by
  cases c with
  | true => exact ⟨Nat.zero_le _, fun p np => h p [] np (fun _ => rfl) (fun e => by cases e) (fun y hy => by cases hy) (Nat.zero_le _)⟩
  | false => exact ⟨szl (show 1 ≤ 1000000 by decide), fun p np => h p [0] np (fun e => by cases e) (fun _ => rfl) (fun y hy => by simpa using hy) (Nat.le_refl _)⟩
theorem ints_iv {os : List Int} (h : ∀ k ∈ os, 0 ≤ k) : os.map V.int = (os.map Int.toNat).map iv := by
  rw [List.map_map]
  refine List.map_congr_left fun k hk => ?_
  show V.int k = V.int ((k.toNat : Nat) : Int)
  rw [Int.toNat_of_nonneg (h k hk)]
theorem pow3 {i m : Nat} (h : i ≤ m) (hm : m ≤ 12) : 3 ^ i ≤ 531441 := Nat.le_trans (Nat.pow_le_pow_right (by decide) (Nat.le_trans h hm)) (by decide)
section
variable {P : Program} {w : World} {K : PySem.W.Frag} {mg : Str → Option Value} {base : Heap}
theorem ok_reached {f : Addr} {fd : FuncData} {k : Nat} (D : Df K mg "_law_reached" sReached ["_law_nexts_here", "_law_without"] f fd) (B : Bi mg) : FnOk P w K mg base CX0 (k + 1) f fd ["_law_nexts_here", "_law_without"] (spReached K) := by
  refine D.F.ok scReached (fun vs H Q E h => ?_) (fun cdv A outer s H vs Q E hr h => ?_)
  · obtain ⟨a, nx, wo, rfl, _⟩ := h
    rfl
  · obtain ⟨a, nx, wo, rfl, hN, hl0, hl, hx, q⟩ := h
    refine ⟨_, pss_cons (ps_set (i := 2) scReached.nd rfl (.inr rfl) (pe_ifExp (pt_cmpR op_eq (pv 1) pe_int (nomark _)) (pe_lst pa_nil) (pe_lst (pa_cons pe_int pa_nil))))
      (pss_cons (ps_for PassesOwn.never rfl (pi_range1 (by rfl) B.range (pa_cons (pe_callB call_len_seq (by rfl) B.len PySem.boot_len (pa_cons (pv 0) pa_nil)) pa_nil)) (pg_name (i := 3) scReached.nd rfl (.inl rfl))
        (pss_one (ps_for PassesOwn.never rfl (pi_list (pe_callTy call_list_of (by rfl) B.list PyProof.Rows.boot_list (pa_cons (pv 2) pa_nil))) (pg_name (i := 4) scReached.nd rfl (.inl rfl))
          (pss_one (ps_set (i := 2) scReached.nd rfl (.inr rfl) (pe_op op_cat (pv 2) (pe_lc (own := [("_law_one", 5)]) (g := gName 5) (tt := tAnd (tTest (tOp rNe (tVar 5) (tVar 1))) (tNotIn K (tVar 5) (tVar 2))) (te := tVar 5) rfl scReached.nd
            (pi_list (pe_callB (cr_sortedSet rfl) (by rfl) B.sorted PyProof.Rows.boot_sorted (pa_cons (pe_callTy (cr_setL rfl) (by rfl) B.set PyProof.Rows.boot_set (pa_cons (pe_ix ix_list (pv 0) (pv 4) (fun _ _ => rfl)) pa_nil)) pa_nil)))
            (blkOk_by (own := [("_law_one", 5)]) (N := nReached) (sc := defScope sReached) (by decide +kernel)) (fun _ _ _ _ _ => pg_name (i := 5) scReached.nd rfl (.inl rfl))
            (fun _ _ _ _ _ => pts_one (pw_and (pt_cmpR op_ne (pv 5) (pv 1) (nomark _)) (pw_and1 (pt_cmpR op_notIn_seq (pv 5) (pv 2) rfl))).pt) (fun _ _ _ _ _ => pv 5))))))))
      (pss_one (ps_ret (pv 2)))), ?_⟩
    obtain ⟨ys, hy, hyl⟩ := hN.len
    have hyi : (ys.length : Int) = (nx.length : Int) := by rw [hyl]
    refine ⟨_, rfl, rfl, _, rfl, pick2 fun p0 ns0 np0 e0 e00 e1 e2 => ?_⟩
    have s0 : Same H (upd H p0 (.lst (ns0.map iv))) := new_same np0
    have w0 : wo = 0 → ns0 = [] := fun e => e0 (decide_eq_true (by rw [e]; rfl))
    have w1 : wo ≠ 0 → ns0 = [0] := fun e => e00 (decide_eq_false fun z => e (by have := V.int.inj z; omega))
    have dS : ns0.Nodup ∧ (∀ y ∈ ns0, Rc (Ex nx) wo y) ∧ (wo ≠ 0 → 0 ∈ ns0) ∧ (Cls nx wo ns0 ∨ 0 + 1 ≤ ns0.length) := by
      by_cases hw : wo = 0
      · rw [w0 hw]
        exact ⟨List.nodup_nil, fun y hy => (by cases hy), fun z => absurd hw z, .inl fun a ha => (by cases ha)⟩
      · rw [w1 hw]
        exact ⟨by simp, fun y hy => (by rw [List.mem_singleton.mp hy]; exact .z hw), fun _ => List.mem_cons_self, .inr (Nat.le_refl _)⟩
    obtain ⟨d1, d2, d3, d4⟩ := dS
    refine ⟨.ref a, rfl, a, ys, rfl, .inl (s0.seq hy), nx.length, by rw [hyi], by omega, by omega, ?_⟩
    refine for_range (lo := 0) (n := nx.length) (fun i σ H1 => ∃ (fa : Addr) (ns : List Nat) (y3 y4 y5 : Option V), σ = [some (.ref a), some (.int wo), some (.ref fa), y3, y4, y5] ∧ H fa = none ∧ Same H H1 ∧
      H1 fa = some (.lst (ns.map iv)) ∧ (∀ y ∈ ns, y < nx.length) ∧ (wo = 0 → ns = []) ∧ ns.Nodup ∧ (∀ y ∈ ns, Rc (Ex nx) wo y) ∧ (wo ≠ 0 → 0 ∈ ns) ∧ (Cls nx wo ns ∨ i + 1 ≤ ns.length))
      ⟨p0, ns0, none, none, none, rfl, np0, s0, upd_same, fun y hy => (by rw [e1 y hy]; exact hl0), w0, d1, d2, d3, d4⟩ (fun i σ H1 hi hP => ?_) (fun σ H1 hP => ?_)
    · obtain ⟨fa, ns, y3, y4, y5, rfl, nfa, sm, efa, hns, hw, hnd, hrc, hze, hcl⟩ := hP
      refine ⟨.ref fa, rfl, fa, _, rfl, .inl (sqL efa), fun l nl => ⟨l, rfl, ⟨_, sqL upd_same⟩, ?_⟩⟩
      have nfl : fa ≠ l := ne_of_none efa nl
      refine for_list (K := K) (a := l) (xs := ns.map iv) (fun j σ H2 => ∃ (fb : Addr) (ms : List Nat) (y4 y5 : Option V), σ = [some (.ref a), some (.int wo), some (.ref fb), some (.int (0 + (i : Int))), y4, y5] ∧ H fb = none ∧ Same H H2 ∧
        H2 l = some (.lst (ns.map iv)) ∧ H2 fb = some (.lst (ms.map iv)) ∧ (∀ y ∈ ms, y < nx.length) ∧ (wo = 0 → ms = []) ∧ ms.Nodup ∧ (∀ y ∈ ms, Rc (Ex nx) wo y) ∧ (∃ more, ms = ns ++ more) ∧ (Cls nx wo ns → ms = ns) ∧ ∀ a ∈ ns.take j, ∀ b ∈ Ex nx a, b ≠ wo → b ∈ ms)
        ⟨fa, ns, y4, y5, rfl, nfa, sm.trans (new_same nl), upd_same, (by rw [upd_ne nfl]; exact efa), hns, hw, hnd, hrc, ⟨[], (List.append_nil _).symm⟩, fun _ => rfl, fun a ha => (by cases ha)⟩ (fun j σ H2 _ hP2 => ?_) (fun j x σ H2 hx2 hP2 => ?_) (fun σ H2 hP2 => ?_)
      · obtain ⟨_, _, _, _, _, _, _, el, _⟩ := hP2
        exact sqL el
      · obtain ⟨fb, ms, z4, z5, rfl, nfb, sm2, el, efb, hms, hw2, hmd, hmr, hmp, hmc, hmj⟩ := hP2
        rw [List.getElem?_map] at hx2
        obtain ⟨b, hb, rfl⟩ := Option.map_eq_some_iff.mp hx2
        have hbm : b ∈ ns := List.mem_of_getElem? hb
        have hbn : b < nx.length := hns b hbm
        have hjn : j < ns.length := (List.getElem?_eq_some_iff.mp hb).1
        have wo1 : wo ≠ 0 := fun e => by rw [hw e] at hbm; cases hbm
        obtain ⟨us, qa, u1, u2, u3, u4⟩ := (hN.same sm2).at (List.getElem?_eq_getElem hbn)
        obtain ⟨hx1, hx3⟩ := hx nx[b] (List.getElem_mem hbn)
        have hEb := Ex.at hbn
        refine ⟨.ref fb, rfl, .ref a, rfl, _, rfl, a, us, _, _, rfl, rfl, u1, u3, qa, nx[b].map Int.ofNat, rfl, by rw [List.map_map]; exact u4, by rw [List.length_map]; omega, fun ps c nps hc => ?_⟩
        rw [List.length_map] at hc
        refine ⟨ps, _, c, rfl, upd_same, by omega, fun os p hpw hmem hol np => ⟨p, rfl, ⟨_, sqL upd_same⟩, fun L nL => ?_⟩⟩
        have hos : ∀ k ∈ os, ∃ n : Nat, k = (n : Int) ∧ n ∈ nx[b] := fun k hk => by
          have h1 := of_decide_eq_true ((hmem k).mp hk)
          obtain ⟨n, hn, rfl⟩ := List.mem_map.mp h1
          exact ⟨n, rfl, hn⟩
        have hos2 : ∀ n : Nat, n ∈ nx[b] → (n : Int) ∈ os := fun n hn => (hmem _).mpr (decide_eq_true (List.mem_map.mpr ⟨n, hn, rfl⟩))
        have sA : Same H2 (upd (upd H2 ps (SetO w ps (fun j => decide (j ∈ nx[b].map Int.ofNat)) c)) p (.lst (os.map V.int))) := (new_same nps).trans (new_same np)
        generalize hHs : upd (upd H2 ps (SetO w ps (fun j => decide (j ∈ nx[b].map Int.ofNat)) c)) p (.lst (os.map V.int)) = Hs at sA
        have nM : Hs L = none := by rw [← hHs]; exact nL
        have ep : Hs p = some (.lst (os.map V.int)) := by rw [← hHs]; exact upd_same
        show ∃ W : Nat → Nat → Hp → Prop, (∃ m, W 0 m (upd (upd (upd H2 ps (SetO w ps (fun j => decide (j ∈ nx[b].map Int.ofNat)) c)) p (.lst (os.map V.int))) L (.lst []))) ∧ _
        rw [hHs]
        have nLf : fb ≠ L := ne_of_none (sA _ _ efb) nM
        have hml := nd_le hmd hms
        refine lc_list (K := K) (a := p) (xs := os.map V.int) (fun jj H3 => Same Hs H3 ∧ ∃ es : List Nat, H3 L = some (.lst (es.map iv)) ∧ es.length ≤ jj ∧ es.Nodup ∧ ∀ y : Nat, y ∈ es ↔ ((y : Int) ∈ os.take jj ∧ y ≠ wo ∧ y ∉ ms)) ⟨new_same nM, [], upd_same, Nat.le_refl _, List.nodup_nil, fun y => ⟨fun hy => (by cases hy), fun hy => (by cases hy.1)⟩⟩
          (fun jj H3 _ hP3 => sqL (hP3.1 _ _ ep)) (fun jj x H3 hx4 hP3 => ?_) (fun H3 hP3 => ?_)
        · obtain ⟨sm3, es, eL, hel, hed, hes⟩ := hP3
          rw [List.getElem?_map] at hx4
          obtain ⟨k, hk, rfl⟩ := Option.map_eq_some_iff.mp hx4
          obtain ⟨n, rfl, hn⟩ := hos k (List.mem_of_getElem? hk)
          have hkL := (List.getElem?_eq_some_iff.mp hk).1
          have hnt : (n : Int) ∉ os.take jj := fun z => by
            obtain ⟨i2, h21, h22⟩ := List.mem_iff_getElem.mp z
            rw [List.length_take] at h21
            rw [List.getElem_take] at h22
            have h23 := List.pairwise_iff_getElem.mp hpw i2 jj (by omega) hkL (by omega)
            rw [h22] at h23
            have h24 := (List.getElem?_eq_some_iff.mp hk).2
            omega
          have htk : os.take (jj + 1) = os.take jj ++ [(n : Int)] := by rw [List.take_add_one, hk]; rfl
          have stay : (n = wo ∨ n ∈ ms) → Same Hs H3 ∧ ∃ es : List Nat, H3 L = some (.lst (es.map iv)) ∧ es.length ≤ jj + 1 ∧ es.Nodup ∧ ∀ y : Nat, y ∈ es ↔ ((y : Int) ∈ os.take (jj + 1) ∧ y ≠ wo ∧ y ∉ ms) := fun hno => by
            refine ⟨sm3, es, eL, by omega, hed, fun y => ?_⟩
            rw [hes y, htk, List.mem_append, List.mem_singleton]
            refine ⟨fun z => ⟨.inl z.1, z.2⟩, fun z => ⟨?_, z.2⟩⟩
            rcases z.1 with q | q
            · exact q
            · have : y = n := by omega
              subst this
              rcases hno with q2 | q2
              · exact absurd q2 z.2.1
              · exact absurd q2 z.2.2
          refine ⟨rfl, _, rfl, _, rfl, rfl, _, rfl, ?_⟩
          have ew : decide (V.int (n : Int) = V.int (wo : Int)) = decide (n = wo) := decide_eq_decide.mpr ⟨fun e => by have := V.int.inj e; omega, fun e => by rw [e]⟩
          show if (!decide (V.int (n : Int) = V.int (wo : Int))) = true then _ else _
          rw [ew]
          by_cases hnw : n = wo
          · rw [if_neg (by rw [decide_eq_true hnw]; decide)]
            exact stay (.inl hnw)
          · rw [if_pos (by rw [decide_eq_false hnw]; rfl)]
            refine ⟨_, rfl, .ref fb, rfl, fb, _, rfl, .inl (sqL (sm3 _ _ (sA _ _ efb))), rfl, flat_iv _, _, rfl, ?_⟩
            show if (!inV (iv n) (ms.map iv)) = true then _ else _
            rw [inV_iv]
            by_cases hnm : n ∈ ms
            · rw [if_neg (by rw [decide_eq_true hnm]; decide)]
              exact stay (.inr hnm)
            · rw [if_pos (by rw [decide_eq_false hnm]; rfl)]
              refine ⟨_, rfl, _, eL, ?_, fun b o e => ?_, es ++ [n], ?_, ?_, ?_, ?_⟩
              · rw [List.length_map]
                exact szt (by omega)
              · rw [upd_ne (ne_of_none e nM)]
                exact sm3 _ _ e
              · rw [upd_same, List.map_append]
                rfl
              · rw [List.length_append, List.length_singleton]
                omega
              · rw [List.nodup_append]
                refine ⟨hed, by simp, fun y hy z hz e => ?_⟩
                rw [List.mem_singleton.mp hz] at e
                subst e
                exact hnt ((hes y).mp hy).1
              · intro y
                rw [List.mem_append, List.mem_singleton, hes y, htk, List.mem_append, List.mem_singleton]
                constructor
                · rintro (z | rfl)
                  · exact ⟨.inl z.1, z.2⟩
                  · exact ⟨.inr rfl, hnw, hnm⟩
                · rintro ⟨z | z, z2⟩
                  · exact .inl ⟨z, z2⟩
                  · exact .inr (by omega)
        · obtain ⟨sm3, es, eL, hel, hed, hes⟩ := hP3
          rw [List.length_map, List.take_length] at hes
          rw [List.length_map] at hel
          have hes1 : ∀ y ∈ es, y ∈ nx[b] ∧ y ≠ wo ∧ y ∉ ms := fun y hy => by
            obtain ⟨h1, h2⟩ := (hes y).mp hy
            obtain ⟨n, h3, h4⟩ := hos _ h1
            have : y = n := by omega
            subst this
            exact ⟨h4, h2⟩
          have hesl : es.length ≤ nx.length := nd_le hed fun y hy => hx3 y (hes1 y hy).1
          refine ⟨fb, L, _, _, rfl, rfl, sm3 _ _ (sA _ _ efb), eL, ?_, fun r nr => ?_⟩
          · rw [List.length_map, List.length_map]
            exact szl (by omega)
          · have sB : Same H2 H3 := sA.trans sm3
            have sC : Same H2 (upd H3 r (.lst (ms.map iv ++ es.map iv))) := sB.trans (new_same nr)
            refine ⟨r, ms ++ es, _, _, rfl, ?_, sm2.trans sC, sC _ _ el, ?_, ?_, ?_, ?_, ?_, ?_, ?_, ?_⟩
            · exact (sm2.trans sB).free nr
            · rw [upd_same, List.map_append]
            · intro y hy
              rcases List.mem_append.mp hy with h1 | h1
              · exact hms y h1
              · exact hx3 y (hes1 y h1).1
            · exact fun e => absurd e wo1
            · rw [List.nodup_append]
              exact ⟨hmd, hed, fun y hy z hz e => (hes1 z hz).2.2 (e ▸ hy)⟩
            · intro y hy
              rcases List.mem_append.mp hy with h1 | h1
              · exact hmr y h1
              · exact .s (hrc b hbm) (by rw [hEb]; exact (hes1 y h1).1) (hes1 y h1).2.1
            · obtain ⟨more, rfl⟩ := hmp
              exact ⟨more ++ es, List.append_assoc _ _ _⟩
            · intro hc2
              have hmn := hmc hc2
              have hnil : es = [] := by
                cases hes0 : es with
                | nil => rfl
                | cons y r2 =>
                  have hy := hes1 y (by rw [hes0]; exact List.mem_cons_self)
                  exact absurd (by rw [hmn]; exact hc2 b hbm y (by rw [hEb]; exact hy.1) hy.2.1) hy.2.2
              rw [hnil, List.append_nil]
              exact hmn
            · intro a ha y hy hyw
              rw [List.take_add_one, hb] at ha
              rcases List.mem_append.mp ha with h1 | h1
              · exact List.mem_append_left _ (hmj a h1 y hy hyw)
              · have : a = b := List.mem_singleton.mp h1
                subst this
                rw [hEb] at hy
                by_cases hym : y ∈ ms
                · exact List.mem_append_left _ hym
                · exact List.mem_append_right _ ((hes y).mpr ⟨hos2 y hy, hyw, hym⟩)
      · obtain ⟨fb, ms, z4, z5, rfl, nfb, sm2, el, efb, hms, hw2, hmd, hmr, hmp, hmc, hmj⟩ := hP2
        rw [List.length_map, List.take_length] at hmj
        refine ⟨fb, ms, _, _, _, rfl, nfb, sm2, efb, hms, hw2, hmd, hmr, fun e => ?_, ?_⟩
        · obtain ⟨more, rfl⟩ := hmp
          exact List.mem_append_left _ (hze e)
        · by_cases hc2 : Cls nx wo ns
          · exact .inl (by rw [hmc hc2]; exact hc2)
          · obtain ⟨more, rfl⟩ := hmp
            have hl1 : i + 1 ≤ ns.length := by
              rcases hcl with q | q
              · exact absurd q hc2
              · exact q
            cases more with
            | nil =>
              rw [List.append_nil] at hmj
              exact absurd hmj hc2
            | cons y r2 =>
              refine .inr ?_
              rw [List.length_append, List.length_cons]
              omega
    · obtain ⟨fa, ns, y3, y4, y5, rfl, nfa, sm, efa, hns, hw, hnd, hrc, hze, hcl⟩ := hP
      have hl2 := nd_le hnd hns
      have hcl2 : Cls nx wo ns := by
        rcases hcl with q | q
        · exact q
        · omega
      exact ⟨.ref fa, rfl, q fa ns H1 nfa sm efa hns fun y => ⟨hrc y, cls_rc hcl2 hze⟩⟩
end
end Gn
set_option Elab.async false
set_option linter.all false
set_option maxRecDepth 100000
set_option maxHeartbeats 4000000
namespace Gn
open PySem PySem.Spec PyProof.Rows L2
/-! ### above -/
/-- the blocks on all ways to each -/
noncomputable def dB (nx : List (List Nat)) (o b : Nat) : Bool := @decide (¬ Rc (Ex nx) o b) (Classical.propDecidable _)
theorem dB_iff {nx : List (List Nat)} {o b : Nat} : dB nx o b = true ↔ ¬ Rc (Ex nx) o b := @decide_eq_true_iff _ (Classical.propDecidable _)
noncomputable def abv (nx : List (List Nat)) : List (List Nat) := (List.range nx.length).map fun b => (List.range nx.length).filter fun o => dB nx o b
def spAbove (K : PySem.W.Frag) : Sp := fun vs H Q _ => ∃ (a : Addr) (nx : List (List Nat)), vs = [.ref a] ∧ NL K H a nx ∧ 0 < nx.length ∧ nx.length ≤ 12 ∧
  (∀ xs ∈ nx, xs.length ≤ 2 ∧ ∀ y ∈ xs, y < nx.length) ∧
  ∀ (p : Addr) (ab : List (List Nat)) (H' : Hp), Same H H' → NL K (newOf H H') p ab → ab.length = nx.length → (∀ xs ∈ ab, 0 ∈ xs ∧ ∀ y ∈ xs, y < nx.length) → ab = abv nx → Q (.ref p) H'
abbrev nAbove : List Str := ["_law_nexts_here", "_law_many_here", "_law_reached_here", "_law_block", "_law_one"]
theorem scAbove : FnScope nAbove ["_law_nexts_here"] (defScope sAbove) := ⟨rfl, rfl, rfl, by decide +kernel, rfl, by decide +kernel, by decide +kernel⟩
abbrev cAbove : Scope := lcS (valE (nthS (defBody sAbove) 2))
theorem rgV_iv (m : Nat) : rgV 0 (m : Int) = (List.range m).map iv := by
  unfold rgV
  rw [Int.sub_zero, Int.toNat_natCast]
  refine List.map_congr_left fun k _ => ?_
  show V.int (0 + (k : Int)) = V.int (k : Int)
  rw [Int.zero_add]
theorem rg_at {m i : Nat} {x : V} (h : ((List.range m).map iv)[i]? = some x) : i < m ∧ x = iv i := by
  rw [List.getElem?_map] at h
  obtain ⟨y, hy, rfl⟩ := Option.map_eq_some_iff.mp h
  have h1 := (List.getElem?_eq_some_iff.mp hy)
  obtain ⟨h2, h3⟩ := h1
  rw [List.length_range] at h2
  rw [List.getElem_range] at h3
  exact ⟨h2, by rw [h3]⟩
section
variable {P : Program} {w : World} {K : PySem.W.Frag} {mg : Str → Option Value} {base : Heap}
theorem ok_above {f fR : Addr} {fd fdR : FuncData} {k : Nat} (D : Df K mg "_law_above" sAbove ["_law_nexts_here"] f fd) (B : Bi mg) (DR : Df K mg "_law_reached" sReached ["_law_nexts_here", "_law_without"] fR fdR)
    (GR : FnOk P w K mg base CX0 k fR fdR ["_law_nexts_here", "_law_without"] (spReached K)) : FnOk P w K mg base CX0 (k + 1) f fd ["_law_nexts_here"] (spAbove K) := by
  refine D.F.ok scAbove (fun vs H Q E h => ?_) (fun cdv A outer s H vs Q E hr h => ?_)
  · obtain ⟨a, nx, rfl, _⟩ := h
    rfl
  · obtain ⟨a, nx, rfl, hN, hl0, hl, hx, q⟩ := h
    refine ⟨_, pss_cons (ps_set (i := 1) scAbove.nd rfl (.inr rfl) (pe_listRg rfl (by rfl) B.list (prg_1 (by rfl) B.range (pe_callB call_len_seq (by rfl) B.len PySem.boot_len (pa_cons (pv 0) pa_nil)))))
      (pss_cons (ps_set (i := 2) scAbove.nd rfl (.inr rfl) (pe_lc (own := [("_law_block", 3)]) (g := gName 3) (tt := tYes) (te := tCall (spReached K) [] E0 (tCons (tVar 0) (tCons (tVar 3) tNil))) rfl scAbove.nd (pi_list (pv 1))
        (blkOk_by (own := [("_law_block", 3)]) (N := nAbove) (sc := defScope sAbove) (by decide +kernel)) (fun _ _ _ _ _ => pg_name (i := 3) scAbove.nd rfl (.inl rfl)) (fun _ _ _ _ _ => pts_nil)
        (fun _ _ _ _ _ => pe_call GR hr (by rfl) DR.g DR.F.kp DR.b .nil pass0 (pa_cons (pv 0) (pa_cons (pv 3) pa_nil)))))
      (pss_one (ps_ret (pe_lc (own := [("_law_block", 3)]) (g := gName 3) (tt := tYes) (te := tLc (iList K (tVar 1)) (gName 4) (tOr (tTest (tOp rEq (tVar 4) (tVar 3))) (tNotIn K (tVar 3) (tIxL K (tVar 2) (tVar 4)))) (tVar 4) [4]) rfl scAbove.nd (pi_list (pv 1))
        (blkOk_by (own := [("_law_block", 3)]) (N := nAbove) (sc := defScope sAbove) (by decide +kernel)) (fun _ _ _ _ _ => pg_name (i := 3) scAbove.nd rfl (.inr rfl)) (fun _ _ _ _ _ => pts_nil)
        (fun _ _ _ _ _ => pe_lc (own := [("_law_one", 4)]) (g := gName 4) (tt := tOr (tTest (tOp rEq (tVar 4) (tVar 3))) (tNotIn K (tVar 3) (tIxL K (tVar 2) (tVar 4)))) (te := tVar 4) rfl scAbove.nd (pi_list (pv 1))
          (blkOk_by (own := [("_law_one", 4)]) (N := nAbove) (sc := relS cAbove (defScope sAbove)) (by decide +kernel)) (fun _ _ _ _ _ => pg_name (i := 4) scAbove.nd rfl (.inl rfl))
          (fun _ _ _ _ _ => pts_one (pw_or (pt_cmpR op_eq (pv 4) (pv 3) (nomark _)) (pw_or1 (pt_cmpR op_notIn_seq (pv 3) (pe_ix ix_list (pv 2) (pv 4) (fun _ _ => rfl)) rfl))).pt) (fun _ _ _ _ _ => pv 4)))))), ?_⟩
    obtain ⟨ys, hy, hyl⟩ := hN.len
    have hyi : (ys.length : Int) = (nx.length : Int) := by rw [hyl]
    refine ⟨.ref a, rfl, a, ys, rfl, .inl hy, nx.length, by rw [hyi], ⟨by decide, by decide, by omega, by omega, by omega⟩, fun mp nmp => ?_⟩
    rw [rgV_iv]
    have s1 : Same H (upd H mp (.lst ((List.range nx.length).map iv))) := new_same nmp
    generalize hH1 : upd H mp (.lst ((List.range nx.length).map iv)) = H1 at s1
    have emp : H1 mp = some (.lst ((List.range nx.length).map iv)) := by rw [← hH1]; exact upd_same
    refine ⟨.ref mp, rfl, mp, rfl, ⟨_, sqL emp⟩, fun L nL => ?_⟩
    have hlr : ((List.range nx.length).map iv).length = nx.length := by rw [List.length_map, List.length_range]
    refine lc_list (K := K) (a := mp) (xs := (List.range nx.length).map iv) (fun i H2 => Same H1 H2 ∧ ∃ (ps : List Addr) (R : List (List Nat)), H2 L = some (.lst (ps.map V.ref)) ∧ Paired (fun q xs => SqL K H2 q (xs.map iv) ∧ q ≠ L) ps R ∧ R.length = i ∧ (∀ xs, R[0]? = some xs → xs = []) ∧ ∀ o y, o < i → (y ∈ R.getD o [] ↔ Rc (Ex nx) o y))
      ⟨new_same nL, [], [], upd_same, .nil, rfl, fun xs e => (by simp at e), fun o y h => (by omega)⟩ (fun i H2 _ hP => sqL (hP.1 _ _ emp)) (fun i x H2 hx2 hP => ?_) (fun H2 hP => ?_)
    · obtain ⟨sm, ps, R, eL, pd, hR, hR0, hRr⟩ := hP
      obtain ⟨hi, rfl⟩ := rg_at hx2
      refine ⟨rfl, .ref a, rfl, _, rfl, a, nx, i, rfl, hN.same (s1.trans sm), hl0, hl, hx, fun p ns H3 np sm3 ep hns hrc => ?_⟩
      have nLp : p ≠ L := (ne_of_none eL np).symm
      refine ⟨_, sm3 _ _ eL, ?_, fun b o e => ?_, ps ++ [p], R ++ [ns], ?_, ?_, ?_, ?_, fun o y ho => ?_⟩
      · rw [List.length_map, pd_len pd]
        exact szt (by omega)
      · rw [upd_ne (ne_of_none e nL)]
        exact sm3 _ _ (sm _ _ e)
      · rw [upd_same, List.map_append]
        rfl
      · refine pd_snoc (pd_mono pd fun b xs z => ⟨seq_upd (sm3.seq z.1) z.2, z.2⟩) ⟨sqL ?_, nLp⟩
        rw [upd_ne nLp]
        exact ep
      · rw [List.length_append, List.length_singleton, hR]
      · intro xs e
        cases R with
        | nil =>
          have e1 : ns = xs := Option.some.inj e
          rw [← e1]
          have hi0 : i = 0 := hR.symm
          cases hns0 : ns with
          | nil => rfl
          | cons y r =>
            have := (hrc y).mp (by rw [hns0]; exact List.mem_cons_self)
            rw [hi0] at this
            exact this.no0.elim
        | cons r R' => exact hR0 xs e
      · by_cases hoi : o < i
        · rw [List.getD_eq_getElem?_getD, List.getElem?_append_left (by omega), ← List.getD_eq_getElem?_getD]
          exact hRr o y hoi
        · have : o = i := by omega
          subst this
          rw [List.getD_eq_getElem?_getD, List.getElem?_append_right (by omega), hR, Nat.sub_self]
          exact hrc y
    · obtain ⟨sm, ps, R, eL, pd, hR, hR0, hRr⟩ := hP
      rw [hlr] at hR
      have hNR : NL K H2 L R := ⟨ps, sqL eL, pd_mono pd fun _ _ z => z.1⟩
      refine ⟨.ref mp, rfl, mp, rfl, ⟨_, sqL (sm _ _ emp)⟩, fun L2 nL2 => ?_⟩
      let g : Nat → List Nat := fun b => (List.range nx.length).filter fun o => decide (o = b) || !decide (b ∈ R.getD o [])
      refine lc_list (K := K) (a := mp) (xs := (List.range nx.length).map iv) (fun i H3 => Same H2 H3 ∧ ∃ ps : List Addr, H3 L2 = some (.lst (ps.map V.ref)) ∧ Paired (fun q xs => H3 q = some (.lst (xs.map iv)) ∧ q ≠ L2 ∧ H q = none) ps ((List.range i).map g))
        ⟨new_same nL2, [], upd_same, .nil⟩ (fun i H3 _ hP => sqL (hP.1 _ _ (sm _ _ emp))) (fun i x H3 hx3 hP => ?_) (fun H3 hP => ?_)
      · obtain ⟨sm3, ps3, eL3, pd3⟩ := hP
        obtain ⟨hi, rfl⟩ := rg_at hx3
        have emp3 := sm3 _ _ (sm _ _ emp)
        refine ⟨rfl, .ref mp, rfl, mp, rfl, ⟨_, sqL emp3⟩, fun L4 nL4 => ?_⟩
        have n24 : L2 ≠ L4 := ne_of_none eL3 nL4
        refine lc_list (K := K) (a := mp) (xs := (List.range nx.length).map iv) (fun j H4 => Same H3 H4 ∧ H4 L4 = some (.lst (((List.range j).filter fun o => decide (o = i) || !decide (i ∈ R.getD o [])).map iv)))
          ⟨new_same nL4, upd_same⟩ (fun j H4 _ hP => sqL (hP.1 _ _ emp3)) (fun j x H4 hx4 hP => ?_) (fun H4 hP => ?_)
        · obtain ⟨sm4, eL4⟩ := hP
          obtain ⟨hj, rfl⟩ := rg_at hx4
          refine ⟨rfl, _, rfl, _, rfl, rfl, _, rfl, ?_⟩
          have er := filt_succ (fun o => decide (o = i) || !decide (i ∈ R.getD o [])) j
          have yes : (decide (j = i) || !decide (i ∈ R.getD j [])) = true → ∃ acc, H4 L4 = some (.lst acc) ∧ acc.length < sizeLine ∧ Same H3 (upd H4 L4 (.lst (acc ++ [iv j]))) ∧ upd H4 L4 (.lst (acc ++ [iv j])) L4 = some (.lst (((List.range (j + 1)).filter fun o => decide (o = i) || !decide (i ∈ R.getD o [])).map iv)) := fun hb => by
            rw [if_pos hb] at er
            refine ⟨_, eL4, ?_, fun b o e => ?_, ?_⟩
            · rw [List.length_map]
              exact szt (Nat.lt_of_le_of_lt (List.length_filter_le _ _) (by rw [List.length_range]; omega))
            · rw [upd_ne (ne_of_none e nL4)]
              exact sm4 _ _ e
            · rw [upd_same, er, List.map_append]
              rfl
          have ej : decide (iv j = iv i) = decide (j = i) := by
            refine decide_eq_decide.mpr ⟨fun e => ?_, fun e => by rw [e]⟩
            have e2 : (j : Int) = (i : Int) := V.int.inj e
            omega
          show if decide (iv j = iv i) = true then _ else _
          rw [ej]
          by_cases hji : j = i
          · rw [if_pos (decide_eq_true hji)]
            exact ⟨_, rfl, yes (by rw [decide_eq_true hji]; rfl)⟩
          · rw [if_neg (by rw [decide_eq_false hji]; decide)]
            have eR : R[j]? = some (R.getD j []) := by rw [List.getD_eq_getElem?_getD, List.getElem?_eq_getElem (by omega)]; rfl
            obtain ⟨us, qa, u1, u2, u3, u4⟩ := ((hNR.same sm3).same sm4).at eR
            refine ⟨_, rfl, .ref L, rfl, _, rfl, L, us, _, _, rfl, rfl, u1, u3, qa, _, rfl, .inl u4, rfl, flat_iv _, _, rfl, ?_⟩
            show if (!inV (iv i) ((R.getD j []).map iv)) = true then _ else _
            rw [inV_iv]
            by_cases hb : (!decide (i ∈ R.getD j [])) = true
            · rw [if_pos hb]
              exact ⟨_, rfl, yes (by rw [hb, Bool.or_true])⟩
            · rw [if_neg hb]
              rw [if_neg (by rw [decide_eq_false hji, Bool.false_or]; exact hb), List.append_nil] at er
              exact ⟨sm4, by rw [er]; exact eL4⟩
        · obtain ⟨sm4, eL4⟩ := hP
          rw [hlr] at eL4
          refine ⟨_, sm4 _ _ eL3, ?_, fun b o e => ?_, ps3 ++ [L4], ?_, ?_⟩
          · rw [List.length_map, pd_len pd3, List.length_map, List.length_range]
            exact szt (by omega)
          · rw [upd_ne (ne_of_none e nL2)]
            exact sm4 _ _ (sm3 _ _ e)
          · rw [upd_same, List.map_append]
            rfl
          · rw [List.range_succ, List.map_append]
            refine pd_snoc (pd_mono pd3 fun b xs z => ⟨?_, z.2⟩) ⟨?_, n24.symm, ((s1.trans sm).trans sm3).free nL4⟩
            · rw [upd_ne z.2.1]; exact sm4 _ _ z.1
            · rw [upd_ne n24.symm]
              exact eL4
      · obtain ⟨sm3, ps3, eL3, pd3⟩ := hP
        rw [hlr] at pd3
        have hg : (List.range nx.length).map g = abv nx := by
          unfold abv
          refine List.map_congr_left fun b hb => ?_
          refine List.filter_congr fun o ho => ?_
          have ho2 := List.mem_range.mp ho
          have h1 := hRr o b (by rw [hlr]; exact ho2)
          rw [Bool.eq_iff_iff, dB_iff, Bool.or_eq_true, decide_eq_true_iff, Bool.not_eq_true', decide_eq_false_iff_not, h1]
          exact ⟨fun z hr => z.elim (fun e => hr.ne e.symm) (fun q => q hr), fun z => .inr z⟩
        refine q L2 ((List.range nx.length).map g) H3 ((s1.trans sm).trans sm3) ⟨ps3, sqL (new_at ((s1.trans sm).free nL2) eL3), pd_mono pd3 fun _ _ z => sqL (new_at z.2.2 z.1)⟩ (by rw [List.length_map, List.length_range]) (fun xs hxs => ?_) hg
        obtain ⟨b, hb, rfl⟩ := List.mem_map.mp hxs
        refine ⟨List.mem_filter.mpr ⟨List.mem_range.mpr hl0, ?_⟩, fun y hy => List.mem_range.mp (List.mem_filter.mp hy).1⟩
        have e0 : R.getD 0 [] = [] := by
          cases hRR : R with
          | nil => rfl
          | cons r R' => exact hR0 r (by rw [hRR]; rfl)
        rw [e0]
        simp
end
end Gn
set_option Elab.async false
set_option linter.all false
set_option maxRecDepth 100000
set_option maxHeartbeats 4000000
namespace Gn
open PySem PySem.Spec PyProof.Rows L2
theorem fresh_but {t p : Addr} {H H1 : Hp} (b : But t H H1) (n : p ≠ t) (e : H1 p = none) : H p = none := by
  cases h : H p with
  | none => rfl
  | some o => rw [b p o n h] at e; cases e
/-! ### nexts -/
theorem pd_all {α β : Type} {F : α → β → Prop} {G : α → Prop} : ∀ {l : List α} {m : List β}, Paired F l m → (∀ a b, F a b → G a) → ∀ a ∈ l, G a
  | _, _, .nil, _, _, h => by cases h
  | _, _, .cons h t, g, a, ha => by
    rcases List.mem_cons.mp ha with rfl | ha
    · exact g _ _ h
    · exact pd_all t g a ha
def NxE (m : Nat) (xs : List Nat) : Prop := xs.length ≤ 2 ∧ xs.Nodup ∧ ∀ y ∈ xs, 1 ≤ y ∧ y < m
/-- each number from 1 on is in a lesser one's list -/
def LedX (m : Nat) (nx : List (List Nat)) : Prop := ∀ b, 1 ≤ b → b < m → ∃ j xs, j < b ∧ nx[j]? = some xs ∧ b ∈ xs
theorem val_merge (k : Key) : ∀ (more kvs : List (Key × V)), (valV (mergeK kvs more) k).isSome = true → (valV kvs k).isSome = true ∨ k ∈ more.map (·.1)
  | [], kvs, h => .inl h
  | p :: r, kvs, h => by
    rcases val_merge k r (putK kvs p.1 p.2) h with q | q
    · by_cases e : k = p.1
      · exact .inr (by rw [List.map_cons, e]; exact List.mem_cons_self)
      · rw [valV_put, if_neg e] at q
        exact .inl q
    · exact .inr (by rw [List.map_cons]; exact List.mem_cons_of_mem _ q)
def spNexts (K : PySem.W.Frag) : Sp := fun vs H Q _ => ∃ (t : Addr) (m c : Nat), vs = [.ref t, .int m] ∧ Tape H t c ∧ c + 24 ≤ 100000000 ∧ 1 ≤ m ∧ m ≤ 12 ∧
  ∀ (p : Addr) (nx : List (List Nat)) (H' : Hp), But t H H' → Tape H' t (c + 24) → NL K (newOf H H') p nx → nx.length = m → (∀ xs ∈ nx, NxE m xs) → LedX m nx → Q (.ref p) H'
abbrev nNexts : List Str := ["_law_tape_here", "_law_many_here", "_law_found", "_law_led", "_law_k", "_law_way", "_law_other", "_law_some", "_law_one"]
theorem scNexts : FnScope nNexts ["_law_tape_here", "_law_many_here"] (defScope sNexts) := ⟨rfl, rfl, rfl, by decide +kernel, rfl, by decide +kernel, by decide +kernel⟩
section
variable {P : Program} {w : World} {K : PySem.W.Frag} {mg : Str → Option Value} {base : Heap}
theorem ok_nexts {f fD : Addr} {fd fdD : FuncData} {k : Nat} (D : Df K mg "_law_nexts" sNexts ["_law_tape_here", "_law_many_here"] f fd) (B : Bi mg) (DD : Df K mg "_law_draw" sDraw ["_law_tape_here", "_law_many_here"] fD fdD)
    (GD : FnOk P w K mg base CX0 k fD fdD ["_law_tape_here", "_law_many_here"] spDraw) : FnOk P w K mg base CX0 (k + 1) f fd ["_law_tape_here", "_law_many_here"] (spNexts K) := by
  refine D.F.ok scNexts (fun vs H Q E h => ?_) (fun cdv A outer s H vs Q E hr h => ?_)
  · obtain ⟨t, m, c, rfl, _⟩ := h
    rfl
  · obtain ⟨t, m, c, rfl, hT, hc, hm1, hm2, q⟩ := h
    have hu := hu_of hr
    refine ⟨_, pss_cons (ps_par (i := 2) (j := 3) (by rfl) scNexts.nd rfl rfl (by decide) rfl rfl (pa_cons (pe_lst pa_nil) (pa_cons pe_dnewK pa_nil)) (by rfl))
      (pss_cons (ps_for PassesOwn.never rfl (pi_range1 (by rfl) B.range (pa_cons (pv 1) pa_nil)) (pg_name (i := 4) scNexts.nd rfl (.inl rfl))
        (pss_cons (ps_par (i := 5) (j := 6) (by rfl) scNexts.nd rfl rfl (by decide) rfl rfl (pa_cons (pe_call GD hr (by rfl) DD.g DD.F.kp DD.b .nil pass0 (pa_cons (pv 0) (pa_cons pe_int pa_nil)))
            (pa_cons (pe_op op_add pe_int (pe_call GD hr (by rfl) DD.g DD.F.kp DD.b .nil pass0 (pa_cons (pv 0) (pa_cons (pe_callB (call_max2 rfl) (by rfl) B.max PyProof.Rows.boot_max (pa_cons pe_int (pa_cons (pe_op op_sub (pv 1) pe_int) pa_nil))) pa_nil)))) pa_nil)) (by rfl))
        (Evl.pss_cut (ps_set (i := 7) scNexts.nd rfl (.inl rfl) (pe_ix ix_list (pe_lst (pa_cons (pe_lst (pa_cons (pe_op op_add (pv 4) pe_int) (pa_cons (pv 6) pa_nil))) (pa_cons (pe_lst (pa_cons (pv 6) (pa_cons (pe_op op_add (pv 4) pe_int) pa_nil))) pa_nil))) (pe_op op_mod (pv 5) pe_int) (fun _ _ => rfl)))
        (Evl.pss_cut (ps_if (pt_cmpR op_eq (pe_op op_add (pv 4) pe_int) (pv 1) (nomark _))
            (pss_one (ps_set (i := 7) scNexts.nd rfl (.inl rfl) (pe_ifExp (pw_and (pt_cmpR op_eq (pv 5) pe_int (nomark _)) (pw_and1 (pt_cmpR op_gt (pv 1) pe_int (nomark _)))).pt (pe_lst (pa_cons (pv 6) pa_nil)) (pe_lst pa_nil))))
            (pss_one (ps_if (pw_and (pt_cmp (pc_din hu (pe_op op_add (pv 4) pe_int) (pv 3)) rfl) (pw_and1 (pt_cmpR op_lt (pv 5) pe_int (nomark _)))).pt
              (pss_one (ps_set (i := 7) scNexts.nd rfl (.inl rfl) (pe_ifExp (pt_cmpR op_eq (pv 5) pe_int (nomark _)) (pe_lst (pa_cons (pv 6) pa_nil)) (pe_lst pa_nil))))
              (pss_one (ps_if (pw_or (pt_cmpR op_lt (pv 5) pe_int (nomark _)) (pw_or1 (pt_cmpR op_eq (pv 6) (pe_op op_add (pv 4) pe_int) (nomark _)))).pt
                (pss_one (ps_set (i := 7) scNexts.nd rfl (.inl rfl) (pe_lst (pa_cons (pe_op op_add (pv 4) pe_int) pa_nil)))) pss_nil)))))
        (pss_cons (ps_expr (pe_bm PySem.F.plainAttrs_list PySem.F.slot_list_append PySem.F.type_list_append mt_append (pv 2) (pa_cons (pv 7) pa_nil)))
        (pss_one (ps_expr (pe_bm PySem.F.plainAttrs_dict PySem.F.slot_dict_update PySem.F.type_dict_update (mt_dup rfl) (pv 3) (pa_cons (pe_lc (own := [("_law_one", 8)]) (g := gName 8) (tt := tYes) (te := tTup (tCons (tVar 8) (tCons (tC (.bl true)) tNil))) rfl scNexts.nd (pi_list (pv 7))
            (blkOk_by (own := [("_law_one", 8)]) (N := nNexts) (sc := defScope sNexts) (by decide +kernel)) (fun _ _ _ _ _ => pg_name (i := 8) scNexts.nd rfl (.inl rfl)) (fun _ _ _ _ _ => pts_nil) (fun _ _ _ _ _ => pe_tup (pa_cons (pv 8) (pa_cons pe_bl pa_nil)))) pa_nil)))))))))
      (pss_one (ps_ret (pv 2)))), ?_⟩
    refine ⟨Nat.zero_le _, fun fl nfl ld nld => ⟨_, _, rfl, ?_⟩⟩
    have nfld : fl ≠ ld := ne_of_none upd_same nld
    have s0 : Same H (upd (upd H fl (.lst [])) ld (.dK [])) := (new_same nfl).trans (new_same nld)
    have T0 := hT.same s0
    have nft : fl ≠ t := hT.ne nfl
    have ndt : ld ≠ t := (hT.same (new_same nfl)).ne nld
    refine ⟨_, rfl, (m : Int), rfl, by omega, by omega, ?_⟩
    refine for_range (lo := 0) (n := m) (fun i σ H1 => ∃ (ps : List Addr) (nx : List (List Nat)) (kvs : List (Key × V)) (y4 y5 y6 y7 y8 : Option V),
      σ = [some (.ref t), some (.int m), some (.ref fl), some (.ref ld), y4, y5, y6, y7, y8] ∧ But t H H1 ∧ Tape H1 t (c + 2 * i) ∧ H1 fl = some (.lst (ps.map V.ref)) ∧ H1 ld = some (.dK kvs) ∧ kvs.length ≤ 2 * i ∧
      Paired (fun q xs => H1 q = some (.lst (xs.map iv)) ∧ q ≠ fl ∧ q ≠ ld ∧ q ≠ t ∧ H q = none) ps nx ∧ nx.length = i ∧ (∀ xs ∈ nx, NxE m xs) ∧ (∀ n : Nat, (valV kvs (Sum.inl (n : Int))).isSome = true → ∃ j xs, j < i ∧ nx[j]? = some xs ∧ n ∈ xs) ∧ ∀ b, 1 ≤ b → b ≤ i → b < m → ∃ j xs, j < b ∧ nx[j]? = some xs ∧ b ∈ xs)
      ⟨[], [], [], none, none, none, none, none, rfl, Same.but s0, T0, by rw [upd_ne nfld]; exact upd_same, upd_same, Nat.zero_le _, .nil, rfl, fun xs h => (by cases h), fun n e => (by cases e), fun b h1 h2 => (by omega)⟩ (fun i σ H1 hi hP => ?_) (fun σ H1 hP => ?_)
    · obtain ⟨ps, nx, kvs, y4, y5, y6, y7, y8, rfl, b1, T1, efl, eld, hkl, pd, hnl, hnx, hkv, hled⟩ := hP
      refine ⟨.ref t, rfl, t, 6, c + 2 * i, rfl, T1, by omega, by decide, by decide, fun r1 H2 h1 b2 T2 => ?_⟩
      have hmx : ∀ z : Int, z = (if (m : Int) - 1 > 1 then (m : Int) - 1 else 1) → 0 < z ∧ z ≤ 11 ∧ (1 < m → z ≤ (m : Int) - 1) := fun z e => by
        rw [e]; split <;> omega
      refine ⟨.ref t, rfl, _, rfl, _, _, rfl, rfl, _, _, rfl, t, _, c + 2 * i + 1, rfl, T2, by omega, (hmx _ rfl).1, by have := (hmx _ rfl).2.1; omega, fun r2 H3 h2 b3 T3 => ?_⟩
      have hr2 : 1 < m → r2 + 1 < m := fun e => by have := (hmx _ rfl).2.2 e; omega
      have b23 : But t H1 H3 := b2.trans b3
      have efl3 := b23 fl _ nft efl
      have eld3 := b23 ld _ ndt eld
      refine ⟨_, _, rfl, rfl, _, _, rfl, ?_⟩
      -- some
      refine ⟨fun σ H4 => ∃ (p : Addr) (xs : List Nat) (y8 : Option V), σ = [some (.ref t), some (.int m), some (.ref fl), some (.ref ld), some (.int (0 + (i : Int))), some (.int r1), some (.int (1 + (r2 : Int))), some (.ref p), y8] ∧ Same H3 H4 ∧ H3 p = none ∧ H4 p = some (.lst (xs.map iv)) ∧ (xs = [i + 1, r2 + 1] ∨ xs = [r2 + 1, i + 1]), ?_, fun σ H4 hM => ?_⟩
      · refine ⟨_, rfl, _, _, rfl, rfl, _, rfl, szl (show 2 ≤ 1000000 by decide), fun p1 n1 => ⟨_, rfl, _, rfl, _, _, rfl, rfl, szl (show 2 ≤ 1000000 by decide), fun p2 n2 => ⟨szl (show 2 ≤ 1000000 by decide), fun p3 n3 => ?_⟩⟩⟩
        have e1 : (0 + (i : Int)) + 1 = ((i + 1 : Nat) : Int) := by omega
        have e2 : 1 + (r2 : Int) = ((r2 + 1 : Nat) : Int) := by omega
        have n12 : p1 ≠ p2 := ne_of_none upd_same n2
        have n23 : p2 ≠ p3 := ne_of_none upd_same n3
        have n13 : p1 ≠ p3 := ne_of_none (by rw [upd_ne n12]; exact upd_same) n3
        have hz : (r1 : Int) % 2 = 0 ∨ (r1 : Int) % 2 = 1 := by omega
        rcases hz with hz | hz
        · refine ⟨_, rfl, _, _, rfl, rfl, (by decide : (0 : Int) < 2), p3, _, _, .ref p1, rfl, rfl, sqL upd_same, by rw [hz]; exact atI_nat (j := 0) rfl, p1, [i + 1, r2 + 1], _, rfl, ((new_same n1).trans (new_same n2)).trans (new_same n3), n1, ?_, .inl rfl⟩
          rw [upd_ne n13, upd_ne n12, upd_same]
          show some (HO.lst [V.int ((0 + (i : Int)) + 1), V.int (1 + (r2 : Int))]) = _
          rw [e1, e2]
          rfl
        · refine ⟨_, rfl, _, _, rfl, rfl, (by decide : (0 : Int) < 2), p3, _, _, .ref p2, rfl, rfl, sqL upd_same, by rw [hz]; exact atI_nat (j := 1) rfl, p2, [r2 + 1, i + 1], _, rfl, ((new_same n1).trans (new_same n2)).trans (new_same n3), (new_same n1).free n2, ?_, .inr rfl⟩
          rw [upd_ne n23, upd_same]
          show some (HO.lst [V.int (1 + (r2 : Int)), V.int ((0 + (i : Int)) + 1)]) = _
          rw [e1, e2]
          rfl
      · obtain ⟨p, xs, z8, rfl, s4, np, ep, hxs⟩ := hM
        refine ⟨fun σ H5 => ∃ (p : Addr) (xs : List Nat) (y8 : Option V), σ = [some (.ref t), some (.int m), some (.ref fl), some (.ref ld), some (.int (0 + (i : Int))), some (.int r1), some (.int (1 + (r2 : Int))), some (.ref p), y8] ∧ Same H3 H5 ∧ H3 p = none ∧ H5 p = some (.lst (xs.map iv)) ∧ NxE m xs ∧ (i + 1 < m → i + 1 ∈ xs ∨ (valV kvs (Sum.inl ((0 + (i : Int)) + 1))).isSome = true), ?_, fun σ H5 hM => ?_⟩
        · have nil_ok : ∀ (H5 : Hp), (i + 1 < m → i + 1 ∈ ([] : List Nat) ∨ (valV kvs (Sum.inl ((0 + (i : Int)) + 1))).isSome = true) → Same H3 H5 → ∀ p', H5 p' = none → ∃ (p : Addr) (xs : List Nat) (y8 : Option V), [some (.ref t), some (.int m), some (.ref fl), some (.ref ld), some (.int (0 + (i : Int))), some (.int r1), some (.int (1 + (r2 : Int))), some (.ref p'), z8] = [some (.ref t), some (.int m), some (.ref fl), some (.ref ld), some (.int (0 + (i : Int))), some (.int r1), some (.int (1 + (r2 : Int))), some (.ref p), y8] ∧ Same H3 (upd H5 p' (.lst [])) ∧ H3 p = none ∧ upd H5 p' (.lst []) p = some (.lst (xs.map iv)) ∧ NxE m xs ∧ (i + 1 < m → i + 1 ∈ xs ∨ (valV kvs (Sum.inl ((0 + (i : Int)) + 1))).isSome = true) :=
            fun H5 hw s5 p' n' => ⟨p', [], _, rfl, s5.trans (new_same n'), s5.free n', upd_same, ⟨Nat.zero_le _, List.nodup_nil, fun y h => (by cases h)⟩, hw⟩
          have one_ok : ∀ (H5 : Hp) (z : Nat) (v : V), 1 ≤ z → z < m → v = iv z → (i + 1 < m → i + 1 ∈ [z] ∨ (valV kvs (Sum.inl ((0 + (i : Int)) + 1))).isSome = true) → Same H3 H5 → ∀ p', H5 p' = none → ∃ (p : Addr) (xs : List Nat) (y8 : Option V), [some (.ref t), some (.int m), some (.ref fl), some (.ref ld), some (.int (0 + (i : Int))), some (.int r1), some (.int (1 + (r2 : Int))), some (.ref p'), z8] = [some (.ref t), some (.int m), some (.ref fl), some (.ref ld), some (.int (0 + (i : Int))), some (.int r1), some (.int (1 + (r2 : Int))), some (.ref p), y8] ∧ Same H3 (upd H5 p' (.lst [v])) ∧ H3 p = none ∧ upd H5 p' (.lst [v]) p = some (.lst (xs.map iv)) ∧ NxE m xs ∧ (i + 1 < m → i + 1 ∈ xs ∨ (valV kvs (Sum.inl ((0 + (i : Int)) + 1))).isSome = true) :=
            fun H5 z v hz1 hz2 hv hw s5 p' n' => ⟨p', [z], _, rfl, s5.trans (new_same n'), s5.free n', by rw [upd_same, hv]; rfl, ⟨show 1 ≤ 2 by decide, by simp, fun y h => by rw [List.mem_singleton.mp h]; exact ⟨hz1, hz2⟩⟩, hw⟩
          have eo : V.int (1 + (r2 : Int)) = iv (r2 + 1) := by show V.int (1 + (r2 : Int)) = V.int ((r2 + 1 : Nat) : Int); rw [show 1 + (r2 : Int) = ((r2 + 1 : Nat) : Int) by omega]
          refine ⟨_, rfl, _, _, rfl, rfl, _, rfl, rfl, _, rfl, ite2 (fun e => ?_) (fun e => ?_)⟩
          · have heq : (0 + (i : Int)) + 1 = (m : Int) := V.int.inj (of_decide_eq_true e)
            have hn : ¬ i + 1 < m := by omega
            refine ⟨_, rfl, rfl, _, rfl, ite2 (fun e2 => ?_) (fun e2 => ?_)⟩
            · refine ⟨_, rfl, _, _, rfl, rfl, _, rfl, ite2 (fun e3 => ?_) (fun e3 => ?_)⟩
              · have h3 : (1 : Int) < (m : Int) := of_decide_eq_true e3
                exact ⟨_, rfl, szl (show 1 ≤ 1000000 by decide), fun p' n' => one_ok H4 (r2 + 1) _ (by omega) (hr2 (by omega)) eo (fun z => absurd z hn) s4 p' n'⟩
              · exact ⟨Nat.zero_le _, fun p' n' => nil_ok H4 (fun z => absurd z hn) s4 p' n'⟩
            · exact ⟨Nat.zero_le _, fun p' n' => nil_ok H4 (fun z => absurd z hn) s4 p' n'⟩
          · have hne : ¬ ((0 + (i : Int)) + 1 = (m : Int)) := fun z => e (decide_eq_true (by show V.int ((0 + (i : Int)) + 1) = V.int (m : Int); rw [z]))
            have him : i + 1 < m := by omega
            refine ⟨_, rfl, _, _, rfl, rfl, _, rfl, ld, _, rfl, DGet.k (k := Sum.inl ((0 + (i : Int)) + 1)) (s4 _ _ eld3), _, rfl, ?_⟩
            have third : (tIfS (tOr (tTest (tOp (rI0 fun i j => .bl (decide (i < j))) (tVar 5) (tC (.int 3)))) (tTest (tOp rEq (tVar 6) (tOp (rI0 fun i j => .int (i + j)) (tVar 4) (tC (.int 1)))))) (tAsg (tLst (tCons (tOp (rI0 fun i j => .int (i + j)) (tVar 4) (tC (.int 1))) tNil)) (gName 7)) tNext) { nx := fun σ H5 => ∃ (p : Addr) (xs : List Nat) (y8 : Option V), σ = [some (.ref t), some (.int m), some (.ref fl), some (.ref ld), some (.int (0 + (i : Int))), some (.int r1), some (.int (1 + (r2 : Int))), some (.ref p), y8] ∧ Same H3 H5 ∧ H3 p = none ∧ H5 p = some (.lst (xs.map iv)) ∧ NxE m xs ∧ (i + 1 < m → i + 1 ∈ xs ∨ (valV kvs (Sum.inl ((0 + (i : Int)) + 1))).isSome = true), rt := Q } [some (.ref t), some (.int m), some (.ref fl), some (.ref ld), some (.int (0 + (i : Int))), some (.int r1), some (.int (1 + (r2 : Int))), some (.ref p), z8] H4 := by
              have ei : V.int ((0 + (i : Int)) + 1) = iv (i + 1) := by show V.int _ = V.int ((i + 1 : Nat) : Int); rw [show (0 + (i : Int)) + 1 = ((i + 1 : Nat) : Int) by omega]
              refine ⟨_, rfl, _, _, rfl, rfl, _, rfl, ite2 (fun e2 => ?_) (fun e2 => ?_)⟩
              · exact ⟨_, rfl, _, _, rfl, rfl, szl (show 1 ≤ 1000000 by decide), fun p' n' => one_ok H4 (i + 1) _ (by omega) him ei (fun _ => .inl List.mem_cons_self) s4 p' n'⟩
              · refine ⟨_, rfl, _, rfl, _, _, rfl, rfl, rfl, _, rfl, ite2 (fun e3 => ?_) (fun e3 => ?_)⟩
                · exact ⟨_, rfl, _, _, rfl, rfl, szl (show 1 ≤ 1000000 by decide), fun p' n' => one_ok H4 (i + 1) _ (by omega) him ei (fun _ => .inl List.mem_cons_self) s4 p' n'⟩
                · have hd : r2 + 1 ≠ i + 1 := fun z => e3 (decide_eq_true (by show V.int (1 + (r2 : Int)) = V.int ((0 + (i : Int)) + 1); rw [show 1 + (r2 : Int) = (0 + (i : Int)) + 1 by omega]))
                  have hr2m := hr2 (by omega)
                  refine ⟨p, xs, z8, rfl, s4, np, ep, ?_, fun _ => .inl (by rcases hxs with rfl | rfl <;> simp)⟩
                  rcases hxs with rfl | rfl
                  · exact ⟨show 2 ≤ 2 by decide, by simp; omega, fun y hy => by simp at hy; rcases hy with rfl | rfl <;> omega⟩
                  · exact ⟨show 2 ≤ 2 by decide, by simp; omega, fun y hy => by simp at hy; rcases hy with rfl | rfl <;> omega⟩
            refine ite2 (fun hbb => ?_) (fun hbb => third)
            · refine ⟨_, rfl, _, _, rfl, rfl, _, rfl, ite2 (fun e2 => ?_) (fun e2 => third)⟩
              refine ⟨_, rfl, rfl, _, rfl, ite2 (fun e3 => ?_) (fun e3 => ?_)⟩
              · exact ⟨_, rfl, szl (show 1 ≤ 1000000 by decide), fun p' n' => one_ok H4 (r2 + 1) _ (by omega) (hr2 (by omega)) eo (fun _ => .inr hbb) s4 p' n'⟩
              · exact ⟨Nat.zero_le _, fun p' n' => nil_ok H4 (fun _ => .inr hbb) s4 p' n'⟩
        · obtain ⟨p, xs, z8, rfl, s5, np, ep, hxs, hxw⟩ := hM
          have nldH : H ld = none := (new_same nfl).free nld
          have npf : p ≠ fl := (ne_of_none efl3 np).symm
          have npl : p ≠ ld := (ne_of_none eld3 np).symm
          have npt : p ≠ t := T3.ne np
          have efl5 := s5 _ _ efl3
          have eld5 := s5 _ _ eld3
          have lps : (ps.map V.ref).length = i := by rw [List.length_map, pd_len pd, hnl]
          refine ⟨.ref fl, rfl, .inl ⟨rfl, _, sqL efl5⟩, .ref p, rfl, fl, _, .ref p, rfl, rfl, efl5, szt (by omega), ?_⟩
          have eld6 : upd H5 fl (.lst (ps.map V.ref ++ [.ref p])) ld = some (.dK kvs) := by rw [upd_ne nfld.symm]; exact eld5
          have ep6 : upd H5 fl (.lst (ps.map V.ref ++ [.ref p])) p = some (.lst (xs.map iv)) := by rw [upd_ne npf]; exact ep
          refine ⟨.ref ld, rfl, .inr (.inr (.inl ⟨rfl, .inl ⟨kvs, eld6⟩⟩)), .ref p, rfl, p, rfl, ⟨_, sqL ep6⟩, fun L nL => ?_⟩
          generalize hH6 : upd H5 fl (.lst (ps.map V.ref ++ [.ref p])) = H6 at eld6 ep6
          have nM : H6 L = none := by rw [← hH6]; exact nL
          refine lc_list (K := K) (a := p) (xs := xs.map iv) (fun j H7 => Same H6 H7 ∧ ∃ qs : List Addr, H7 L = some (.lst (qs.map V.ref)) ∧ Paired (fun q (kv : Key × V) => H7 q = some (.tup [kV kv.1, kv.2]) ∧ q ≠ L ∧ q ≠ ld) qs ((xs.take j).map fun n : Nat => ((Sum.inl (n : Int) : Key), V.bl true)))
            ⟨new_same nM, [], upd_same, .nil⟩ (fun j H7 _ hP => sqL (hP.1 _ _ ep6)) (fun j x H7 hx7 hP => ?_) (fun H7 hP => ?_)
          · obtain ⟨s7, qs, eL, pq⟩ := hP
            rw [List.getElem?_map] at hx7
            obtain ⟨b, hb, rfl⟩ := Option.map_eq_some_iff.mp hx7
            refine ⟨rfl, _, rfl, szl (show 2 ≤ 1000000 by decide), fun T nT => ?_⟩
            have nLT : T ≠ L := (ne_of_none eL nT).symm
            have nLd : T ≠ ld := (ne_of_none (s7 _ _ eld6) nT).symm
            refine ⟨_, (new_same nT) _ _ eL, ?_, fun b o e => ?_, qs ++ [T], ?_, ?_⟩
            · rw [List.length_map, pd_len pq, List.length_map, List.length_take]
              exact szt (by have := hxs.1; omega)
            · rw [upd_ne (ne_of_none e nM)]
              exact (new_same nT) _ _ (s7 _ _ e)
            · rw [upd_same, List.map_append]
              rfl
            · rw [List.take_add_one, hb, List.map_append]
              refine pd_snoc (pd_mono pq fun q kv z => ⟨?_, z.2⟩) ⟨?_, nLT, nLd⟩
              · rw [upd_ne z.2.1]
                exact (new_same nT) _ _ z.1
              · rw [upd_ne nLT, upd_same]
                rfl
          · obtain ⟨s7, qs, eL, pq⟩ := hP
            have nLd : L ≠ ld := (ne_of_none eld6 nM).symm
            rw [List.length_map, List.take_length] at pq
            have lq : ((xs.map fun n : Nat => ((Sum.inl (n : Int) : Key), V.bl true))).length ≤ 2 := by rw [List.length_map]; exact hxs.1
            have eld7 := s7 _ _ eld6
            refine ⟨ld, L, qs, kvs, _, rfl, rfl, eld7, sqL eL, pd_mono pq fun _ _ z => sqT z.1, pd_all pq fun _ _ z => z.2.2, nLd, szl (by omega), ?_⟩
            have efl7 : H7 fl = some (.lst (ps.map V.ref ++ [.ref p])) := s7 _ _ (by rw [← hH6]; exact upd_same)
            have keep : ∀ a o, a ≠ fl → a ≠ ld → H5 a = some o → upd H7 ld (.dK (mergeK kvs (xs.map fun n : Nat => ((Sum.inl (n : Int) : Key), V.bl true)))) a = some o := fun a o n1 n2 e => by
              rw [upd_ne n2]
              exact s7 _ _ (by rw [← hH6, upd_ne n1]; exact e)
            have nxl : ∀ j ys, nx[j]? = some ys → (nx ++ [xs])[j]? = some ys := fun j ys e => by rw [List.getElem?_append_left (List.getElem?_eq_some_iff.mp e).1]; exact e
            have nxi : (nx ++ [xs])[i]? = some xs := by rw [List.getElem?_append_right (by omega), hnl, Nat.sub_self]; rfl
            refine ⟨ps ++ [p], nx ++ [xs], _, _, _, _, _, _, rfl, fun a o n e => ?_, ?_, ?_, upd_same, ?_, ?_, ?_, ?_, fun n e => ?_, fun b h1 h2 h3 => ?_⟩
            · exact keep a o (ne_of_none e nfl) (ne_of_none e nldH) (s5 _ _ (b23 a o n (b1 a o n e)))
            · obtain ⟨x, y, n, q1, q2⟩ := T3
              exact ⟨x, y, n, keep t _ nft.symm ndt.symm (s5 _ _ q1), q2.1, q2.2.1, q2.2.2.1, q2.2.2.2.1, by have := q2.2.2.2.2; omega⟩
            · rw [upd_ne nfld, efl7, List.map_append]
              rfl
            · have := length_mergeK (xs.map fun n : Nat => ((Sum.inl (n : Int) : Key), V.bl true)) kvs
              omega
            · refine pd_snoc (pd_mono pd fun q ys z => ⟨keep q _ z.2.1 z.2.2.1 (s5 _ _ (b23 q _ z.2.2.2.1 z.1)), z.2⟩) ⟨keep p _ npf npl ep, npf, npl, npt, fresh_but (b1.trans b23) npt np⟩
            · rw [List.length_append, List.length_singleton, hnl]
            · intro ys hys
              rcases List.mem_append.mp hys with h9 | h9
              · exact hnx ys h9
              · rw [List.mem_singleton.mp h9]; exact hxs
            · rcases val_merge _ _ _ e with q | q
              · obtain ⟨j, ys, h4, h5, h6⟩ := hkv n q
                exact ⟨j, ys, by omega, nxl j ys h5, h6⟩
              · rw [List.map_map] at q
                obtain ⟨z, hz, hz2⟩ := List.mem_map.mp q
                have hz3 : (Sum.inl (z : Int) : Key) = Sum.inl (n : Int) := hz2
                have hz4 := Sum.inl.inj hz3
                have hz5 : z = n := by omega
                subst hz5
                exact ⟨i, xs, by omega, nxi, hz⟩
            · by_cases hbi : b ≤ i
              · obtain ⟨j, ys, h4, h5, h6⟩ := hled b h1 hbi h3
                exact ⟨j, ys, h4, nxl j ys h5, h6⟩
              · have hb1 : b = i + 1 := by omega
                subst hb1
                rcases hxw h3 with q | q
                · exact ⟨i, xs, by omega, nxi, q⟩
                · rw [show (0 + (i : Int)) + 1 = ((i + 1 : Nat) : Int) by omega] at q
                  obtain ⟨j, ys, h4, h5, h6⟩ := hkv (i + 1) q
                  exact ⟨j, ys, by omega, nxl j ys h5, h6⟩
    · obtain ⟨ps, nx, kvs, y4, y5, y6, y7, y8, rfl, b1, T1, efl, eld, hkl, pd, hnl, hnx, hkv, hled⟩ := hP
      exact ⟨.ref fl, rfl, q fl nx H1 b1 (T1.mono (by omega)) ⟨ps, sqL (new_at nfl efl), pd_mono pd fun _ _ z => sqL (new_at z.2.2.2.2 z.1)⟩ hnl hnx fun b h1 h2 => hled b h1 (by omega) h2⟩
end
end Gn
set_option Elab.async false
set_option linter.all false
set_option maxRecDepth 100000
set_option maxHeartbeats 4000000
namespace Gn
open PySem PySem.Spec PyProof.Rows L2
theorem pd_at2 {α β : Type} {F : α → β → Prop} : ∀ {l : List α} {m : List β} {j : Nat} {a : α}, Paired F l m → l[j]? = some a → ∃ b, m[j]? = some b ∧ F a b
  | _, _, _, _, .nil, e => by simp at e
  | _, _, 0, a, .cons (b := b) h t, e => by
    have e' := Option.some.inj e
    subst e'
    exact ⟨b, rfl, h⟩
  | _, _, j + 1, a, .cons h t, e => by
    obtain ⟨b, h1, h2⟩ := pd_at2 (j := j) t (by simpa using e)
    exact ⟨b, by simpa using h1, h2⟩
theorem gd {α : Type} {l : List α} {j : Nat} {d a : α} (h : l[j]? = some a) : l.getD j d = a := by
  rw [List.getD_eq_getElem?_getD, h]
  rfl
theorem gdl {α : Type} {l : List α} {j : Nat} {d : α} (h : j < l.length) : l[j]? = some (l.getD j d) := by
  rw [List.getD_eq_getElem?_getD, List.getElem?_eq_getElem h]
  rfl
/-! ### rows -/
inductive Bk | sum | less | times | same | below
  deriving DecidableEq
def Bk.w : Bk → Str
  | .sum => "sum" | .less => "less" | .times => "times" | .same => "same" | .below => "below"
inductive Rw
  | take (i : Nat) | num (n : Int) | bin (b : Bk) (x y : Nat) | pick (x : Nat) (ps : List Nat) | meet (ps : List Nat) | tell (x : Nat) | look (rs : List Nat) (x : Nat) | lay (rs : List Nat) (x y : Nat)
def Rw.w : Rw → Str
  | .take _ => "take" | .num _ => "num" | .bin b _ _ => b.w | .pick _ _ => "pick" | .meet _ => "meet" | .tell _ => "tell" | .look _ _ => "look" | .lay _ _ _ => "lay"
def Rw.worthy : Rw → Bool
  | .tell _ => false
  | .lay _ _ _ => false
  | _ => true
def Rest (K : PySem.W.Frag) (H : Hp) : Rw → List V → Prop
  | .take i, xs => xs = [iv i]
  | .num n, xs => xs = [.int n]
  | .bin _ x y, xs => xs = [iv x, iv y]
  | .pick x ps, xs => ∃ q, xs = [iv x, .ref q] ∧ SqT K H q (ps.map iv)
  | .meet ps, xs => ∃ q, xs = [.ref q] ∧ SqT K H q (ps.map iv)
  | .tell x, xs => xs = [iv x]
  | .look rs x, xs => ∃ q, xs = [.ref q, iv x] ∧ SqT K H q (rs.map iv)
  | .lay rs x y, xs => ∃ q, xs = [.ref q, iv x, iv y] ∧ SqT K H q (rs.map iv)
def RowAt (K : PySem.W.Frag) (H : Hp) (v : V) (r : Rw) : Prop := ∃ p xs, v = .ref p ∧ SqT K H p (.str r.w :: xs) ∧ Rest K H r xs
theorem Rest.same {K : PySem.W.Frag} {H H' : Hp} {r : Rw} {xs : List V} (h : Rest K H r xs) (e : Same H H') : Rest K H' r xs := by
  cases r with
  | pick x ps =>
    obtain ⟨q, h1, h2⟩ := h
    exact ⟨q, h1, Same.tup e h2⟩
  | meet ps =>
    obtain ⟨q, h1, h2⟩ := h
    exact ⟨q, h1, Same.tup e h2⟩
  | look rs x =>
    obtain ⟨q, h1, h2⟩ := h
    exact ⟨q, h1, Same.tup e h2⟩
  | lay rs x y =>
    obtain ⟨q, h1, h2⟩ := h
    exact ⟨q, h1, Same.tup e h2⟩
  | _ => exact h
theorem RowAt.same {K : PySem.W.Frag} {H H' : Hp} {r : Rw} {v : V} (h : RowAt K H v r) (e : Same H H') : RowAt K H' v r := by
  obtain ⟨p, xs, h1, h2, h3⟩ := h
  exact ⟨p, xs, h1, Same.tup e h2, h3.same e⟩
theorem worthy_in (r : Rw) : (!inV (.str r.w) [.str "tell", .str "lay"]) = r.worthy := by
  cases r with
  | bin b x y => cases b <;> rfl
  | _ => (first | rfl | decide)
/-! ### the state -/
def frz (M : List Addr) (H : Hp) : Hp := fun a => if a ∈ M then none else H a
theorem frz_same (M : List Addr) (H : Hp) : Same (frz M H) H := fun a o e => by
  unfold frz at e
  by_cases h : a ∈ M
  · rw [if_pos h] at e; cases e
  · rw [if_neg h] at e; exact e
theorem frz_at {M : List Addr} {H : Hp} {a : Addr} {o : HO} (h : H a = some o) (n : a ∉ M) : frz M H a = some o := by
  unfold frz
  rw [if_neg n]
  exact h
theorem frz_mem {M : List Addr} {H : Hp} {a : Addr} {o : HO} (h : frz M H a = some o) : a ∉ M := fun n => by
  unfold frz at h
  rw [if_pos n] at h
  cases h
/-- but for what is in M -/
def Bm (M : List Addr) (H H' : Hp) : Prop := ∀ a o, a ∉ M → H a = some o → H' a = some o
theorem Bm.refl (M : List Addr) (H : Hp) : Bm M H H := fun _ _ _ h => h
theorem Bm.trans {M : List Addr} {H H1 H2 : Hp} (a : Bm M H H1) (b : Bm M H1 H2) : Bm M H H2 := fun x o n h => b x o n (a x o n h)
theorem Bm.of_but {M : List Addr} {t : Addr} {H H1 : Hp} (a : But t H H1) (h : t ∈ M) : Bm M H H1 := fun x o n e => a x o (fun z => n (z ▸ h)) e
theorem Bm.of_same {M : List Addr} {H H1 : Hp} (a : Same H H1) : Bm M H H1 := fun x o n e => a x o e
theorem Bm.frz {M : List Addr} {H H' : Hp} (b : Bm M H H') : Same (frz M H) (frz M H') := fun a o e =>
  frz_at (b a o (frz_mem e) (frz_same M H a o e)) (frz_mem e)
structure Sta where
  t : Addr
  s : Addr
  r : Addr
  b : Addr
  w : Addr
  d : Addr
  L : Addr
  A : Addr
  rows : List Rw
  blocks : List Nat
  wide : List Nat
  deep : List Nat
  leads : List (List Nat)
  above : List (List Nat)
def Sta.M (st : Sta) : List Addr := [st.t, st.r, st.b, st.w, st.d]
def Sta.kv (st : Sta) : List (Key × V) := [(.inr "rows", .ref st.r), (.inr "blocks", .ref st.b), (.inr "wide", .ref st.w), (.inr "deep", .ref st.d), (.inr "leads", .ref st.L), (.inr "above", .ref st.A)]
structure StaOk (K : PySem.W.Frag) (H : Hp) (st : Sta) (c : Nat) : Prop where
  nd : st.M.Nodup
  tape : Tape H st.t c
  dict : frz st.M H st.s = some (.dK st.kv)
  rows : ∃ vs, H st.r = some (.lst vs) ∧ Paired (RowAt K (frz st.M H)) vs st.rows
  blocks : H st.b = some (.lst (st.blocks.map iv))
  wide : H st.w = some (.lst (st.wide.map iv))
  deep : H st.d = some (.lst (st.deep.map iv))
  leads : NL K (frz st.M H) st.L st.leads
  above : NL K (frz st.M H) st.A st.above
  lb : st.blocks.length = st.rows.length
  lw : st.wide.length = st.rows.length
  ld : st.deep.length = st.rows.length
theorem StaOk.bt {K : PySem.W.Frag} {H H' : Hp} {st : Sta} {c c' : Nat} (h : StaOk K H st c) (b : But st.t H H') (T : Tape H' st.t c') : StaOk K H' st c' := by
  have hn := h.nd
  simp only [Sta.M, List.nodup_cons, List.mem_cons, List.not_mem_nil, or_false, not_or] at hn
  obtain ⟨⟨n1, n2, n3, n4⟩, _⟩ := hn
  have f : Same (frz st.M H) (frz st.M H') := Bm.frz (Bm.of_but b (by simp [Sta.M]))
  obtain ⟨vs, h1, h2⟩ := h.rows
  exact ⟨h.nd, T, f _ _ h.dict, ⟨vs, b _ _ (Ne.symm n1) h1, pd_mono h2 fun _ _ z => z.same f⟩, b _ _ (Ne.symm n2) h.blocks, b _ _ (Ne.symm n3) h.wide, b _ _ (Ne.symm n4) h.deep, h.leads.same f, h.above.same f, h.lb, h.lw, h.ld⟩
theorem StaOk.same {K : PySem.W.Frag} {H H' : Hp} {st : Sta} {c : Nat} (h : StaOk K H st c) (e : Same H H') : StaOk K H' st c := h.bt (Same.but e) (h.tape.same e)
theorem kvR (st : Sta) : valV st.kv (Sum.inr "rows") = some (.ref st.r) := by rfl
theorem kvB (st : Sta) : valV st.kv (Sum.inr "blocks") = some (.ref st.b) := by rfl
theorem kvW (st : Sta) : valV st.kv (Sum.inr "wide") = some (.ref st.w) := by rfl
theorem kvD (st : Sta) : valV st.kv (Sum.inr "deep") = some (.ref st.d) := by rfl
theorem kvL (st : Sta) : valV st.kv (Sum.inr "leads") = some (.ref st.L) := by rfl
theorem kvA (st : Sta) : valV st.kv (Sum.inr "above") = some (.ref st.A) := by rfl
theorem StaOk.ds {K : PySem.W.Frag} {H : Hp} {st : Sta} {c : Nat} (h : StaOk K H st c) : H st.s = some (.dK st.kv) := frz_same _ _ _ _ h.dict
theorem dgOf {H : Hp} {st : Sta} {x : Str} {v : V} (h : H st.s = some (.dK st.kv)) (e : valV st.kv (Sum.inr x) = some v) : DGet H st.s (.str x) (some v) := .inl ⟨_, Sum.inr x, .inl h, rfl, e.symm⟩
def standL (st : Sta) (blk : Nat) : List Nat := (List.range st.rows.length).filter fun k => decide (st.blocks.getD k 0 ∈ st.above.getD blk []) && (st.rows.getD k (.take 0)).worthy
/-! ### standing -/
def spStanding (K : PySem.W.Frag) : Sp := fun vs H Q _ => ∃ (st : Sta) (c blk : Nat), vs = [.ref st.s, iv blk] ∧ StaOk K H st c ∧ blk < st.above.length ∧ st.rows.length ≤ 1000 ∧
  ∀ (p : Addr) (H' : Hp), H p = none → Same H H' → H' p = some (.lst ((standL st blk).map iv)) → Q (.ref p) H'
abbrev nStanding : List Str := ["_law_state", "_law_block", "_law_some", "_law_k", "_law_row"]
theorem scStanding : FnScope nStanding ["_law_state", "_law_block"] (defScope sStanding) := ⟨rfl, rfl, rfl, by decide +kernel, rfl, by decide +kernel, by decide +kernel⟩
abbrev tWords (ws : List V) : TA := ws.foldr (fun v t => tCons (tC v) t) tNil
section
variable {P : Program} {w : World} {K : PySem.W.Frag} {mg : Str → Option Value} {base : Heap}
theorem ok_standing {f : Addr} {fd : FuncData} {k : Nat} (D : Df K mg "_law_standing" sStanding ["_law_state", "_law_block"] f fd) (B : Bi mg) : FnOk P w K mg base CX0 (k + 1) f fd ["_law_state", "_law_block"] (spStanding K) := by
  refine D.F.ok scStanding (fun vs H Q E h => ?_) (fun cdv A outer s H vs Q E hr h => ?_)
  · obtain ⟨st, c, blk, rfl, _⟩ := h
    rfl
  · obtain ⟨st, c, blk, rfl, hS, hb, hl, q⟩ := h
    have hu := hu_of hr
    refine ⟨_, pss_cons (ps_set (i := 2) scStanding.nd rfl (.inr rfl) (pe_ix ix_list (pe_dget hu (pv 0) pe_str (fun _ _ => rfl)) (pv 1) (fun _ _ => rfl)))
      (pss_one (ps_ret (pe_lc (own := [("_law_k", 3), ("_law_row", 4)]) (g := gTup K 2 (gCons (gName 3) (gCons (gName 4) gNil)))
        (tt := tAnd (tIn K (tIxL K (tDGet (tVar 0) (tC (.str "blocks"))) (tVar 3)) (tVar 2)) (tNotIn K (tIxT K (tVar 4) (tC (.int 0))) (tTup (tCons (tC (.str "tell")) (tCons (tC (.str "lay")) tNil))))) (te := tVar 3) rfl scStanding.nd
        (pi_enum (by rfl) B.enumerate (pa_cons (pe_dget hu (pv 0) pe_str (fun _ _ => rfl)) pa_nil))
        (blkOk_by (own := [("_law_k", 3), ("_law_row", 4)]) (N := nStanding) (sc := defScope sStanding) (by decide +kernel))
        (fun _ _ _ _ _ => pg_tup rfl (pgs_cons (pg_name (i := 3) scStanding.nd rfl (.inl rfl)) (pgs_cons (pg_name (i := 4) scStanding.nd rfl (.inl rfl)) pgs_nil)))
        (fun _ _ _ _ _ => pts_one (pw_and (pt_cmpR op_in_seq (pe_ix ix_list (pe_dget hu (pv 0) pe_str (fun _ _ => rfl)) (pv 3) (fun _ _ => rfl)) (pv 2) rfl)
          (pw_and1 (pt_cmpR op_notIn_seq (pe_ix ix_tup (pv 4) pe_int (fun _ _ => rfl)) (pe_tup (pa_cons pe_str (pa_cons pe_str pa_nil))) rfl))).pt)
        (fun _ _ _ _ _ => pv 3)))), ?_⟩
    obtain ⟨vs, hv1, hv2⟩ := hS.rows
    have hvl : vs.length = st.rows.length := pd_len hv2
    obtain ⟨ys, qa, u1, u2, u3, u4⟩ := (hS.above.same (frz_same _ _)).at (gdl (d := []) hb)
    refine ⟨.ref st.s, rfl, st.s, .ref st.A, rfl, dgOf hS.ds (kvA st), _, rfl, st.A, ys, _, .ref qa, rfl, rfl, u1, u3, ?_⟩
    refine ⟨.ref st.s, rfl, st.s, .ref st.r, rfl, dgOf hS.ds (kvR st), st.r, vs, rfl, sqL hv1, fun L nL => ?_⟩
    let pr : Nat → Bool := fun k => decide (st.blocks.getD k 0 ∈ st.above.getD blk []) && (st.rows.getD k (.take 0)).worthy
    refine lc_it (walk_enum (xs := vs)) (fun i H1 => Same H H1 ∧ H1 L = some (.lst (((List.range i).filter pr).map iv))) ⟨new_same nL, upd_same⟩ (fun i H1 _ hP => sqL (hP.1 _ _ hv1)) (fun i x H1 H2 hi hP hY => ?_) (fun H1 hP => ?_)
    · obtain ⟨sm, eL⟩ := hP
      obtain ⟨T, x1, x2, rfl, nT, rfl, e1, e2⟩ := hY
      cases e1
      obtain ⟨row, hr1, hr2⟩ := pd_at2 hv2 e2
      have sT : Same H1 (upd H1 T (.tup [.int (i : Nat), x2])) := new_same nT
      have sT2 := sm.trans sT
      obtain ⟨p, rs, rfl, hp1, hp2⟩ := (hr2.same (frz_same _ _)).same sT2
      have eLT := sT _ _ eL
      have hib : i < st.blocks.length := by rw [hS.lb, ← hvl]; exact hi
      have er := filt_succ pr i
      have epr : pr i = (decide (st.blocks.getD i 0 ∈ st.above.getD blk []) && row.worthy) := by
        show (decide _ && _) = _
        rw [gd hr1]
      have no : pr i = false → Same H (upd H1 T (.tup [.int (i : Nat), .ref p])) ∧ upd H1 T (.tup [.int (i : Nat), .ref p]) L = some (.lst (((List.range (i + 1)).filter pr).map iv)) := fun z => by
        rw [er, z, if_neg (by decide), List.append_nil]
        exact ⟨sT2, eLT⟩
      refine ⟨T, _, rfl, sqT upd_same, rfl, _, _, rfl, _, _, rfl, rfl, rfl, .ref st.s, rfl, st.s, .ref st.b, rfl, dgOf (sT2 _ _ hS.ds) (kvB st), _, rfl, st.b, _, _, _, rfl, rfl, sqL (sT2 _ _ hS.blocks), atI_nat (by rw [List.getElem?_map, gdl (d := 0) hib]; rfl), .ref qa, rfl, qa, _, rfl, .inl (sT2.seq u4), rfl, flat_iv _, _, rfl, ?_⟩
      show if inV (iv (st.blocks.getD i 0)) ((st.above.getD blk []).map iv) = true then _ else _
      rw [inV_iv]
      by_cases h1 : decide (st.blocks.getD i 0 ∈ st.above.getD blk []) = true
      · rw [if_pos h1]
        rw [h1, Bool.true_and] at epr
        refine ⟨_, rfl, p, _, _, _, rfl, rfl, hp1, atI_nat (j := 0) rfl, szl (show 2 ≤ 1000000 by decide), fun T2 nT2 => ?_⟩
        have sU := new_same (o := .tup [.str "tell", .str "lay"]) nT2
        refine ⟨T2, _, rfl, .inr (sqT upd_same), rfl, rfl, _, rfl, ?_⟩
        show if (!inV (.str row.w) [.str "tell", .str "lay"]) = true then _ else _
        rw [worthy_in]
        by_cases h2 : row.worthy = true
        · rw [if_pos h2]
          refine ⟨_, rfl, _, sU _ _ eLT, ?_, fun a o e => ?_, ?_⟩
          · rw [List.length_map]
            exact szt (Nat.lt_of_le_of_lt (List.length_filter_le _ _) (by rw [List.length_range]; omega))
          · rw [upd_ne (ne_of_none e nL)]
            exact sU _ _ (sT2 _ _ e)
          · rw [upd_same, er, epr, h2, if_pos rfl, List.map_append]
            rfl
        · rw [if_neg h2]
          have h3 : row.worthy = false := by simpa using h2
          obtain ⟨z1, z2⟩ := no (by rw [epr, h3])
          exact ⟨z1.trans sU, sU _ _ z2⟩
      · rw [if_neg h1]
        have h3 : decide (st.blocks.getD i 0 ∈ st.above.getD blk []) = false := by simpa using h1
        exact no (by rw [epr, h3]; rfl)
    · obtain ⟨sm, eL⟩ := hP
      rw [hvl] at eL
      exact q L H1 nL sm eL
/-! ### put -/
def Sta.put (st : Sta) (blk : Nat) (row : Rw) (wi de : Nat) : Sta := { st with rows := st.rows ++ [row], blocks := st.blocks ++ [blk], wide := st.wide ++ [wi], deep := st.deep ++ [de] }
def spPut (K : PySem.W.Frag) : Sp := fun vs H Q _ => ∃ (st : Sta) (c blk : Nat) (v : V) (row : Rw) (wi de : Nat), vs = [.ref st.s, iv blk, v, iv wi, iv de] ∧ StaOk K H st c ∧ st.rows.length ≤ 1000 ∧ RowAt K (frz st.M H) v row ∧
  ∀ H' : Hp, Bm st.M H H' → StaOk K H' (st.put blk row wi de) c → Q .non H'
theorem scPut : FnScope ["_law_state", "_law_block", "_law_row", "_law_wide", "_law_deep"] ["_law_state", "_law_block", "_law_row", "_law_wide", "_law_deep"] (defScope sPut) := ⟨rfl, rfl, rfl, by decide +kernel, rfl, by decide +kernel, by decide +kernel⟩
theorem ok_put {f : Addr} {fd : FuncData} {k : Nat} (D : Df K mg "_law_put" sPut ["_law_state", "_law_block", "_law_row", "_law_wide", "_law_deep"] f fd) : FnOk P w K mg base CX0 (k + 1) f fd ["_law_state", "_law_block", "_law_row", "_law_wide", "_law_deep"] (spPut K) := by
  refine D.F.ok scPut (fun vs H Q E h => ?_) (fun cdv A outer s H vs Q E hr h => ?_)
  · obtain ⟨st, c, blk, v, row, wi, de, rfl, _⟩ := h
    rfl
  · obtain ⟨st, c, blk, v, row, wi, de, rfl, hS, hl, hv, q⟩ := h
    have hu := hu_of hr
    refine ⟨_, pss_cons (ps_expr (pe_bm PySem.F.plainAttrs_list PySem.F.slot_list_append PySem.F.type_list_append mt_append (pe_dget hu (pv 0) pe_str (fun _ _ => rfl)) (pa_cons (pv 2) pa_nil)))
      (pss_cons (ps_expr (pe_bm PySem.F.plainAttrs_list PySem.F.slot_list_append PySem.F.type_list_append mt_append (pe_dget hu (pv 0) pe_str (fun _ _ => rfl)) (pa_cons (pv 1) pa_nil)))
      (pss_cons (ps_expr (pe_bm PySem.F.plainAttrs_list PySem.F.slot_list_append PySem.F.type_list_append mt_append (pe_dget hu (pv 0) pe_str (fun _ _ => rfl)) (pa_cons (pv 3) pa_nil)))
      (pss_one (ps_expr (pe_bm PySem.F.plainAttrs_list PySem.F.slot_list_append PySem.F.type_list_append mt_append (pe_dget hu (pv 0) pe_str (fun _ _ => rfl)) (pa_cons (pv 4) pa_nil)))))), ?_⟩
    obtain ⟨vs, hv1, hv2⟩ := hS.rows
    have hvl : vs.length = st.rows.length := pd_len hv2
    have hn := hS.nd
    simp only [Sta.M, List.nodup_cons, List.mem_cons, List.not_mem_nil, or_false, not_or] at hn
    obtain ⟨⟨n1, n2, n3, n4⟩, ⟨n5, n6, n7⟩, ⟨n8, n9⟩, n10, _⟩ := hn
    have sM := frz_mem hS.dict
    simp only [Sta.M, List.mem_cons, List.not_mem_nil, or_false, not_or] at sM
    obtain ⟨m1, m2, m3, m4, m5⟩ := sM
    have d1 : ∀ o, upd H st.r o st.s = some (.dK st.kv) := fun o => by rw [upd_ne m2]; exact hS.ds
    have d2 : ∀ o o2, upd (upd H st.r o) st.b o2 st.s = some (.dK st.kv) := fun o o2 => by rw [upd_ne m3]; exact d1 o
    have d3 : ∀ o o2 o3, upd (upd (upd H st.r o) st.b o2) st.w o3 st.s = some (.dK st.kv) := fun o o2 o3 => by rw [upd_ne m4]; exact d2 o o2
    have e2 : ∀ o, upd H st.r o st.b = some (.lst (st.blocks.map iv)) := fun o => by rw [upd_ne (Ne.symm n5)]; exact hS.blocks
    have e3 : ∀ o o2, upd (upd H st.r o) st.b o2 st.w = some (.lst (st.wide.map iv)) := fun o o2 => by rw [upd_ne (Ne.symm n8), upd_ne (Ne.symm n6)]; exact hS.wide
    have e4 : ∀ o o2 o3, upd (upd (upd H st.r o) st.b o2) st.w o3 st.d = some (.lst (st.deep.map iv)) := fun o o2 o3 => by rw [upd_ne (Ne.symm n10), upd_ne (Ne.symm n9), upd_ne (Ne.symm n7)]; exact hS.deep
    have z1 : vs.length < sizeLine := szt (by omega)
    have z2 : (st.blocks.map iv).length < sizeLine := by rw [List.length_map, hS.lb]; exact szt (by omega)
    have z3 : (st.wide.map iv).length < sizeLine := by rw [List.length_map, hS.lw]; exact szt (by omega)
    have z4 : (st.deep.map iv).length < sizeLine := by rw [List.length_map, hS.ld]; exact szt (by omega)
    refine ⟨.ref st.s, rfl, st.s, .ref st.r, rfl, dgOf hS.ds (kvR st), .inl ⟨rfl, _, sqL hv1⟩, v, rfl, st.r, vs, v, rfl, rfl, hv1, z1, ?_⟩
    refine ⟨.ref st.s, rfl, st.s, .ref st.b, rfl, dgOf (d1 _) (kvB st), .inl ⟨rfl, _, sqL (e2 _)⟩, _, rfl, st.b, _, _, rfl, rfl, e2 _, z2, ?_⟩
    refine ⟨.ref st.s, rfl, st.s, .ref st.w, rfl, dgOf (d2 _ _) (kvW st), .inl ⟨rfl, _, sqL (e3 _ _)⟩, _, rfl, st.w, _, _, rfl, rfl, e3 _ _, z3, ?_⟩
    refine ⟨.ref st.s, rfl, st.s, .ref st.d, rfl, dgOf (d3 _ _ _) (kvD st), .inl ⟨rfl, _, sqL (e4 _ _ _)⟩, _, rfl, st.d, _, _, rfl, rfl, e4 _ _ _, z4, ?_⟩
    have bm : Bm st.M H (upd (upd (upd (upd H st.r (.lst (vs ++ [v]))) st.b (.lst (st.blocks.map iv ++ [iv blk]))) st.w (.lst (st.wide.map iv ++ [iv wi]))) st.d (.lst (st.deep.map iv ++ [iv de]))) := fun a o n e => by
      simp only [Sta.M, List.mem_cons, List.not_mem_nil, or_false, not_or] at n
      rw [upd_ne n.2.2.2.2, upd_ne n.2.2.2.1, upd_ne n.2.2.1, upd_ne n.2.1]
      exact e
    refine q _ bm ⟨hS.nd, ?_, bm.frz _ _ hS.dict, ⟨vs ++ [v], ?_, pd_snoc (pd_mono hv2 fun _ _ z => z.same bm.frz) (hv.same bm.frz)⟩, ?_, ?_, ?_, hS.leads.same bm.frz, hS.above.same bm.frz, ?_, ?_, ?_⟩
    · obtain ⟨x, y, z, a1, a2⟩ := hS.tape
      exact ⟨x, y, z, by show L2.upd _ st.d _ st.t = _; rw [upd_ne n4, upd_ne n3, upd_ne n2, upd_ne n1]; exact a1, a2⟩
    · show L2.upd _ st.d _ st.r = _
      rw [upd_ne n7, upd_ne n6, upd_ne n5, upd_same]
    · show L2.upd _ st.d _ st.b = _
      rw [upd_ne n9, upd_ne n8, upd_same]
      show _ = some (HO.lst ((st.blocks ++ [blk]).map iv))
      rw [List.map_append]
      rfl
    · show L2.upd _ st.d _ st.w = _
      rw [upd_ne n10, upd_same]
      show _ = some (HO.lst ((st.wide ++ [wi]).map iv))
      rw [List.map_append]
      rfl
    · show L2.upd _ st.d _ st.d = _
      rw [upd_same]
      show _ = some (HO.lst ((st.deep ++ [de]).map iv))
      rw [List.map_append]
      rfl
    · show (st.blocks ++ [blk]).length = (st.rows ++ [row]).length
      rw [List.length_append, List.length_append, hS.lb]
      rfl
    · show (st.wide ++ [wi]).length = (st.rows ++ [row]).length
      rw [List.length_append, List.length_append, hS.lw]
      rfl
    · show (st.deep ++ [de]).length = (st.rows ++ [row]).length
      rw [List.length_append, List.length_append, hS.ld]
      rfl
end
end Gn
set_option Elab.async false
set_option linter.all false
set_option maxRecDepth 100000
set_option maxHeartbeats 4000000
namespace Gn
open PySem PySem.Spec PyProof.Rows L2
/-! ### rows as data -/
def nd (n : Nat) : PyData := .int (n : Int)
def Rw.data : Rw → PyData
  | .take i => .tuple [.str "take", nd i]
  | .num n => .tuple [.str "num", .int n]
  | .bin b x y => .tuple [.str b.w, nd x, nd y]
  | .pick x ps => .tuple [.str "pick", nd x, .tuple (ps.map nd)]
  | .meet ps => .tuple [.str "meet", .tuple (ps.map nd)]
  | .tell x => .tuple [.str "tell", nd x]
  | .look rs x => .tuple [.str "look", .tuple (rs.map nd), nd x]
  | .lay rs x y => .tuple [.str "lay", .tuple (rs.map nd), nd x, nd y]
theorem dp_nats {K : PySem.W.Frag} {H : Hp} : ∀ ns : List Nat, DpAll K H (ns.map iv) (ns.map nd)
  | [] => .nil
  | n :: ns => .cons (.int _) (dp_nats ns)
theorem RowAt.dp {K : PySem.W.Frag} {H : Hp} {v : V} {r : Rw} (h : RowAt K H v r) : Dp K H v r.data := by
  obtain ⟨p, xs, rfl, h1, h2⟩ := h
  cases r with
  | take i => cases h2; exact .tup h1 (.cons (.str _) (.cons (.int _) .nil))
  | num n => cases h2; exact .tup h1 (.cons (.str _) (.cons (.int _) .nil))
  | bin b x y => cases h2; exact .tup h1 (.cons (.str _) (.cons (.int _) (.cons (.int _) .nil)))
  | pick x ps =>
    obtain ⟨q, rfl, h3⟩ := h2
    exact .tup h1 (.cons (.str _) (.cons (.int _) (.cons (.tup h3 (dp_nats ps)) .nil)))
  | meet ps =>
    obtain ⟨q, rfl, h3⟩ := h2
    exact .tup h1 (.cons (.str _) (.cons (.tup h3 (dp_nats ps)) .nil))
  | tell x => cases h2; exact .tup h1 (.cons (.str _) (.cons (.int _) .nil))
  | look rs x =>
    obtain ⟨q, rfl, h3⟩ := h2
    exact .tup h1 (.cons (.str _) (.cons (.tup h3 (dp_nats rs)) (.cons (.int _) .nil)))
  | lay rs x y =>
    obtain ⟨q, rfl, h3⟩ := h2
    exact .tup h1 (.cons (.str _) (.cons (.tup h3 (dp_nats rs)) (.cons (.int _) (.cons (.int _) .nil))))
theorem rows_dp {K : PySem.W.Frag} {H : Hp} : ∀ {vs : List V} {rs : List Rw}, Paired (RowAt K H) vs rs → DpAll K H vs (rs.map Rw.data)
  | _, _, .nil => .nil
  | _, _, .cons h t => .cons h.dp (rows_dp t)
theorem lay_nats : ∀ ns : List Nat, PyData.canLayAll0 (ns.map nd) = true
  | [] => by simp only [List.map_nil, PyData.canLayAll0]
  | n :: ns => by
    rw [List.map_cons]
    simp only [PyData.canLayAll0, nd, PyData.canLay0, lay_nats ns, Bool.and_self]
theorem lay_row (r : Rw) : r.data.canLay0 = true := by
  cases r with
  | bin b x y => cases b <;> (simp only [Rw.data, Bk.w, nd, PyData.canLay0, PyData.canLayAll0, Bool.and_true, Bool.true_and]; decide +kernel)
  | pick x ps => simp only [Rw.data, nd, PyData.canLay0, PyData.canLayAll0, lay_nats, Bool.and_true, Bool.true_and]; decide +kernel
  | meet ps => simp only [Rw.data, nd, PyData.canLay0, PyData.canLayAll0, lay_nats, Bool.and_true, Bool.true_and]; decide +kernel
  | look rs x => simp only [Rw.data, nd, PyData.canLay0, PyData.canLayAll0, lay_nats, Bool.and_true, Bool.true_and]; decide +kernel
  | lay rs x y => simp only [Rw.data, nd, PyData.canLay0, PyData.canLayAll0, lay_nats, Bool.and_true, Bool.true_and]; decide +kernel
  | _ => simp only [Rw.data, nd, PyData.canLay0, PyData.canLayAll0, Bool.and_true, Bool.true_and]; decide +kernel
theorem lay_rows : ∀ rs : List Rw, PyData.canLayAll0 (rs.map Rw.data) = true
  | [] => by simp only [List.map_nil, PyData.canLayAll0]
  | r :: rs => by
    rw [List.map_cons]
    simp only [PyData.canLayAll0, lay_row r, lay_rows rs, Bool.and_self]
theorem dep_nats : ∀ ns : List Nat, PyData.depthAll (ns.map nd) ≤ 1
  | [] => by simp [PyData.depthAll]
  | n :: ns => by
    have := dep_nats ns
    rw [List.map_cons]
    simp only [PyData.depthAll, nd, PyData.depth]
    omega
theorem dep_row (r : Rw) : r.data.depth ≤ 4 := by
  cases r with
  | pick x ps =>
    have := dep_nats ps
    simp only [Rw.data, nd, PyData.depth, PyData.depthAll] at *
    omega
  | meet ps =>
    have := dep_nats ps
    simp only [Rw.data, nd, PyData.depth, PyData.depthAll] at *
    omega
  | look rs x =>
    have := dep_nats rs
    simp only [Rw.data, nd, PyData.depth, PyData.depthAll] at *
    omega
  | lay rs x y =>
    have := dep_nats rs
    simp only [Rw.data, nd, PyData.depth, PyData.depthAll] at *
    omega
  | _ => simp [Rw.data, nd, PyData.depth, PyData.depthAll]
theorem dep_rows : ∀ rs : List Rw, PyData.depthAll (rs.map Rw.data) ≤ 4
  | [] => by simp [PyData.depthAll]
  | r :: rs => by
    have := dep_rows rs
    have := dep_row r
    rw [List.map_cons]
    simp only [PyData.depthAll]
    omega
theorem sh_rows (rs : List Rw) : SeqAt.shaped (.list (rs.map Rw.data)) = true := by
  unfold SeqAt.shaped
  have h1 : (PyData.list (rs.map Rw.data)).canLay0 = true := by simp only [PyData.canLay0, lay_rows rs]
  have h2 : (PyData.list (rs.map Rw.data)).depth ≤ 64 := by
    have := dep_rows rs
    simp only [PyData.depth]
    omega
  rw [h1, decide_eq_true h2]
  rfl
theorem sh_nil : SeqAt.shaped (.list []) = true := sh_rows []
theorem sh_nats (ns : List Nat) : SeqAt.shaped (.list (ns.map nd)) = true := by
  unfold SeqAt.shaped
  have h1 : (PyData.list (ns.map nd)).canLay0 = true := by simp only [PyData.canLay0, lay_nats ns]
  have h2 : (PyData.list (ns.map nd)).depth ≤ 64 := by
    have := dep_nats ns
    simp only [PyData.depth]
    omega
  rw [h1, decide_eq_true h2]
  rfl
theorem eqv_nil {ds : List PyData} : PyData.eqv (.list ds) (.list []) = ds.isEmpty := by
  cases ds with
  | nil => simp only [PyData.eqv, PyData.eqvAll, List.isEmpty_nil]
  | cons d ds => simp only [PyData.eqv, PyData.eqvAll, List.isEmpty_cons]
end Gn
set_option Elab.async false
set_option linter.all false
set_option maxRecDepth 100000
set_option maxHeartbeats 4000000
namespace Gn
open PySem PySem.Spec PyProof.Rows L2
/-! ### again -/
def Rw.isBin : Rw → Bool
  | .bin _ _ _ => true
  | _ => false
abbrev w5 : List V := [.str "sum", .str "less", .str "times", .str "same", .str "below"]
abbrev t5 : TE := tTup (tCons (tC (.str "sum")) (tCons (tC (.str "less")) (tCons (tC (.str "times")) (tCons (tC (.str "same")) (tCons (tC (.str "below")) tNil)))))
theorem bin_in (r : Rw) : inV (.str r.w) w5 = r.isBin := by
  cases r with
  | bin b x y => cases b <;> rfl
  | _ => rfl
theorem StaOk.fresh {K : PySem.W.Frag} {H : Hp} {st : Sta} {c : Nat} (h : StaOk K H st c) {p : Addr} (n : H p = none) : p ∉ st.M := fun hm => by
  obtain ⟨vs, hv, _⟩ := h.rows
  obtain ⟨o, ho⟩ := h.tape.lst
  simp only [Sta.M, List.mem_cons, List.not_mem_nil, or_false] at hm
  rcases hm with rfl | rfl | rfl | rfl | rfl
  · rw [ho] at n; cases n
  · rw [hv] at n; cases n
  · rw [h.blocks] at n; cases n
  · rw [h.wide] at n; cases n
  · rw [h.deep] at n; cases n
theorem tM (st : Sta) : st.t ∈ st.M := by simp [Sta.M]
theorem tup_upd {K : PySem.W.Frag} {H : Hp} {a b : Addr} {xs ys : List V} {o : HO} (h : SqT K H a xs) (e : H b = some (.lst ys)) : SqT K (upd H b o) a xs := by
  rcases h with (h | ⟨u, h⟩) | h
  · exact .inl (.inl (by rw [upd_ne (ne_of h e (by intro z; cases z))]; exact h))
  · exact .inl (.inr ⟨u, by rw [upd_ne (ne_of h e (by intro z; cases z))]; exact h⟩)
  · exact .inr h
theorem tup_but {K : PySem.W.Frag} {H H' : Hp} {a t : Addr} {xs ys : List V} (h : SqT K H a xs) (b : But t H H') (e : H t = some (.lst ys)) : SqT K H' a xs := by
  rcases h with (h | ⟨u, h⟩) | h
  · exact .inl (.inl (b _ _ (ne_of h e (by intro z; cases z)) h))
  · exact .inl (.inr ⟨u, b _ _ (ne_of h e (by intro z; cases z)) h⟩)
  · exact .inr h
theorem pd_map {α β γ : Type} {F : α → γ → Prop} {g : β → γ} : ∀ {l : List α} {m : List β}, Paired (fun a b => F a (g b)) l m → Paired F l (m.map g)
  | _, _, .nil => .nil
  | _, _, .cons h t => .cons h (pd_map t)
theorem row_tups {K : PySem.W.Frag} {H H' : Hp} {v : V} {r : Rw} (h : RowAt K H v r) (g : ∀ {a : Addr} {xs : List V}, SqT K H a xs → SqT K H' a xs) : RowAt K H' v r := by
  obtain ⟨p, xs, h1, h2, h3⟩ := h
  refine ⟨p, xs, h1, g h2, ?_⟩
  cases r with
  | pick x ps =>
    obtain ⟨q, e1, e2⟩ := h3
    exact ⟨q, e1, g e2⟩
  | meet ps =>
    obtain ⟨q, e1, e2⟩ := h3
    exact ⟨q, e1, g e2⟩
  | look rs x =>
    obtain ⟨q, e1, e2⟩ := h3
    exact ⟨q, e1, g e2⟩
  | lay rs x y =>
    obtain ⟨q, e1, e2⟩ := h3
    exact ⟨q, e1, g e2⟩
  | _ => exact h3
def spAgain (K : PySem.W.Frag) : Sp := fun vs H Q _ => ∃ (st : Sta) (c : Nat) (sa : Addr) (ss : List Nat), vs = [.ref st.t, .ref st.s, .ref sa] ∧ StaOk K H st c ∧ c + 2 ≤ 100000000 ∧ st.rows.length ≤ 1000 ∧ SqL K (frz st.M H) sa (ss.map iv) ∧
  (∀ H' : Hp, But st.t H H' → Tape H' st.t (c + 2) → Q .non H') ∧
  ∀ (H' : Hp) (v : V) (b : Bk) (x y : Nat), But st.t H H' → Tape H' st.t (c + 2) → RowAt K (frz st.M H') v (.bin b x y) → x ∈ ss → y ∈ ss → Q v H'
abbrev nAgain : List Str := ["_law_tape_here", "_law_state", "_law_some", "_law_known", "_law_kind", "_law_one", "_law_other", "_law_row"]
theorem scAgain : FnScope nAgain ["_law_tape_here", "_law_state", "_law_some"] (defScope sAgain) := ⟨rfl, rfl, rfl, by decide +kernel, rfl, by decide +kernel, by decide +kernel⟩
section
variable {P : Program} {w : World} {K : PySem.W.Frag} {mg : Str → Option Value} {base : Heap}
theorem ok_again {f fD : Addr} {fd fdD : FuncData} {k : Nat} (D : Df K mg "_law_again" sAgain ["_law_tape_here", "_law_state", "_law_some"] f fd) (B : Bi mg) (DD : Df K mg "_law_draw" sDraw ["_law_tape_here", "_law_many_here"] fD fdD)
    (GD : FnOk P w K mg base CX0 k fD fdD ["_law_tape_here", "_law_many_here"] spDraw) : FnOk P w K mg base CX0 (k + 1) f fd ["_law_tape_here", "_law_state", "_law_some"] (spAgain K) := by
  refine D.F.ok scAgain (fun vs H Q E h => ?_) (fun cdv A outer s H vs Q E hr h => ?_)
  · obtain ⟨st, c, sa, ss, rfl, _⟩ := h
    rfl
  · obtain ⟨st, c, sa, ss, rfl, hS, hc, hl, hsa, q0, q1⟩ := h
    have hu := hu_of hr
    refine ⟨_, pss_cons (ps_setLc (i := 3) (own := [("_law_row", 7)]) (g := gName 7) (tt := tIn K (tIxT K (tVar 7) (tC (.int 0))) t5) (te := tVar 7) (by rfl) scAgain.nd rfl rfl (sw_true rfl rfl rfl (by decide +kernel)) (pi_list (pe_dget hu (pv 1) pe_str (fun _ _ => rfl)))
        (blkOk_by (own := [("_law_row", 7)]) (N := nAgain) (sc := defScope sAgain) (by decide +kernel)) (fun _ _ _ _ _ => pg_name (i := 7) scAgain.nd rfl (.inl rfl))
        (fun _ _ _ _ _ => pts_one (pt_cmpR op_in_seq (pe_ix ix_tup (pv 7) pe_int (fun _ _ => rfl)) (pe_tup (pa_cons pe_str (pa_cons pe_str (pa_cons pe_str (pa_cons pe_str (pa_cons pe_str pa_nil)))))) rfl)) (fun _ _ _ _ _ => pv 7))
      (pss_cons (ps_setLc (i := 3) (own := [("_law_row", 7)]) (g := gName 7) (tt := tAnd (tIn K (tIxT K (tVar 7) (tC (.int 1))) (tVar 2)) (tIn K (tIxT K (tVar 7) (tC (.int 2))) (tVar 2))) (te := tVar 7) (by rfl) scAgain.nd rfl rfl (sw_true rfl rfl rfl (by decide +kernel)) (pi_list (pv 3))
        (blkOk_by (own := [("_law_row", 7)]) (N := nAgain) (sc := defScope sAgain) (by decide +kernel)) (fun _ _ _ _ _ => pg_name (i := 7) scAgain.nd rfl (.inl rfl))
        (fun _ _ _ _ _ => pts_one (pw_and (pt_cmpR op_in_seq (pe_ix ix_tup (pv 7) pe_int (fun _ _ => rfl)) (pv 2) rfl) (pw_and1 (pt_cmpR op_in_seq (pe_ix ix_tup (pv 7) pe_int (fun _ _ => rfl)) (pv 2) rfl))).pt) (fun _ _ _ _ _ => pv 7))
      (pss_cons (ps_if (pt_cmpR (op_eqD hr.units) (pv 3) (pe_lst pa_nil) (nomark _)) (pss_one (ps_ret pe_non)) pss_nil)
      (pss_cons (ps_asg (pe_ix ix_list (pv 3) (pe_call GD hr (by rfl) DD.g DD.F.kp DD.b .nil pass0 (pa_cons (pv 0) (pa_cons (pe_callB call_len_seq (by rfl) B.len PySem.boot_len (pa_cons (pv 3) pa_nil)) pa_nil))) (fun _ _ => rfl))
          (pg_tup rfl (pgs_cons (pg_name (i := 4) scAgain.nd rfl (.inl rfl)) (pgs_cons (pg_name (i := 5) scAgain.nd rfl (.inl rfl)) (pgs_cons (pg_name (i := 6) scAgain.nd rfl (.inl rfl)) pgs_nil)))))
      (pss_one (ps_ret (pe_ifExp (pw_and (pt_cmpR op_in_seq (pv 4) (pe_tup (pa_cons pe_str (pa_cons pe_str (pa_cons pe_str pa_nil)))) rfl) (pw_and1 (pt_cmpR op_eq (pe_call GD hr (by rfl) DD.g DD.F.kp DD.b .nil pass0 (pa_cons (pv 0) (pa_cons pe_int pa_nil))) pe_int (nomark _)))).pt
        (pe_tup (pa_cons (pv 4) (pa_cons (pv 6) (pa_cons (pv 5) pa_nil)))) (pe_tup (pa_cons (pv 4) (pa_cons (pv 5) (pa_cons (pv 6) pa_nil)))))))))), ?_⟩
    obtain ⟨vs, hv1, hv2⟩ := hS.rows
    have hvl : vs.length = st.rows.length := pd_len hv2
    have hsH : SqL K H sa (ss.map iv) := (frz_same _ _).seq hsa
    refine ⟨.ref st.s, rfl, st.s, .ref st.r, rfl, dgOf hS.ds (kvR st), st.r, rfl, ⟨_, sqL hv1⟩, fun L nL => ?_⟩
    refine lc_list (K := K) (a := st.r) (xs := vs) (fun i H1 => Same H H1 ∧ ∃ (ws : List V) (rs : List Rw), H1 L = some (.lst ws) ∧ Paired (RowAt K H1) ws rs ∧ (∀ r ∈ rs, r.isBin = true) ∧ ws.length ≤ i)
      ⟨new_same nL, [], [], upd_same, .nil, (fun r h => by cases h), Nat.le_refl _⟩ (fun i H1 _ hP => sqL (hP.1 _ _ hv1)) (fun i x H1 hx hP => ?_) (fun H1 hP => ?_)
    · obtain ⟨sm, ws, rs, eL, pd, hb, hwl⟩ := hP
      obtain ⟨row, hr1, hr2⟩ := pd_at2 hv2 hx
      have hrow := (hr2.same (frz_same _ _)).same sm
      obtain ⟨p, xs, rfl, hp1, hp2⟩ := hrow
      have hil : i < vs.length := (List.getElem?_eq_some_iff.mp hx).1
      refine ⟨rfl, _, rfl, p, _, _, _, rfl, rfl, hp1, atI_nat (j := 0) rfl, szl (show 5 ≤ 1000000 by decide), fun T nT => ?_⟩
      have sT : Same H1 (upd H1 T (.tup w5)) := new_same nT
      refine ⟨T, _, rfl, .inr (sqT upd_same), rfl, rfl, _, rfl, ?_⟩
      show if inV (.str row.w) w5 = true then _ else _
      rw [bin_in]
      have sT2 := sm.trans sT
      by_cases h2 : row.isBin = true
      · rw [if_pos h2]
        refine ⟨_, rfl, _, sT _ _ eL, szt (by omega), fun a o e => ?_, ws ++ [.ref p], rs ++ [row], upd_same, ?_, ?_, ?_⟩
        · rw [upd_ne (ne_of_none e nL)]
          exact sT2 _ _ e
        · have up : Same H (upd (upd H1 T (.tup w5)) L (.lst (ws ++ [.ref p]))) := fun a o e => by rw [upd_ne (ne_of_none e nL)]; exact sT2 _ _ e
          have upt : ∀ {a xs}, SqT K H1 a xs → SqT K (upd (upd H1 T (.tup w5)) L (.lst (ws ++ [.ref p]))) a xs := fun {a xs} h => tup_upd (Same.tup sT h) (sT _ _ eL)
          refine pd_snoc (pd_mono pd fun v r z => row_tups z upt) (row_tups ⟨p, xs, rfl, hp1, hp2⟩ upt)
        · intro r h
          rcases List.mem_append.mp h with h | h
          · exact hb r h
          · rw [List.mem_singleton.mp h]; exact h2
        · rw [List.length_append, List.length_singleton]; omega
      · rw [if_neg h2]
        exact ⟨sT2, ws, rs, sT _ _ eL, pd_mono pd fun v r z => z.same sT, hb, by omega⟩
    · obtain ⟨sm, ws, rs, eL, pd, hb, hwl⟩ := hP
      refine ⟨.ref L, rfl, L, rfl, ⟨_, sqL eL⟩, fun L2 nL2 => ?_⟩
      refine lc_list (K := K) (a := L) (xs := ws) (fun i H2 => Same H1 H2 ∧ ∃ (us : List V) (bs : List (Bk × Nat × Nat)), H2 L2 = some (.lst us) ∧ Paired (fun v (z : Bk × Nat × Nat) => RowAt K H2 v (.bin z.1 z.2.1 z.2.2) ∧ z.2.1 ∈ ss ∧ z.2.2 ∈ ss) us bs ∧ us.length ≤ i)
        ⟨new_same nL2, [], [], upd_same, .nil, Nat.le_refl _⟩ (fun i H2 _ hP => sqL (hP.1 _ _ eL)) (fun i x H2 hx hP => ?_) (fun H2 hP => ?_)
      · obtain ⟨sm2, us, bs, eL2, pd2, hul⟩ := hP
        obtain ⟨row, hr1, hr2⟩ := pd_at2 pd hx
        have hil : i < ws.length := (List.getElem?_eq_some_iff.mp hx).1
        have hrow := hr2.same sm2
        have hrb := hb row (List.mem_of_getElem? hr1)
        cases row with
        | bin b x1 y1 =>
          have hrow' := hrow
          obtain ⟨p, xs, rfl, hp1, hp2⟩ := hrow
          cases hp2
          have hsa2 : SqL K H2 sa (ss.map iv) := sm2.seq (sm.seq hsH)
          have stay : Same H1 H2 ∧ ∃ (us : List V) (bs : List (Bk × Nat × Nat)), H2 L2 = some (.lst us) ∧ Paired (fun v (z : Bk × Nat × Nat) => RowAt K H2 v (.bin z.1 z.2.1 z.2.2) ∧ z.2.1 ∈ ss ∧ z.2.2 ∈ ss) us bs ∧ us.length ≤ i + 1 := ⟨sm2, us, bs, eL2, pd2, by omega⟩
          refine ⟨rfl, _, rfl, p, _, _, _, rfl, rfl, hp1, atI_nat (j := 1) rfl, .ref sa, rfl, sa, _, rfl, .inl hsa2, rfl, flat_iv _, _, rfl, ?_⟩
          show if inV (iv x1) (ss.map iv) = true then _ else _
          rw [inV_iv]
          by_cases h1 : decide (x1 ∈ ss) = true
          · rw [if_pos h1]
            refine ⟨_, rfl, p, _, _, _, rfl, rfl, hp1, atI_nat (j := 2) rfl, .ref sa, rfl, sa, _, rfl, .inl hsa2, rfl, flat_iv _, _, rfl, ?_⟩
            show if inV (iv y1) (ss.map iv) = true then _ else _
            rw [inV_iv]
            by_cases h2 : decide (y1 ∈ ss) = true
            · rw [if_pos h2]
              refine ⟨_, rfl, _, eL2, szt (by omega), fun a o e => ?_, us ++ [.ref p], bs ++ [(b, x1, y1)], upd_same, ?_, ?_⟩
              · rw [upd_ne (ne_of_none e nL2)]
                exact sm2 _ _ e
              · have upt : ∀ {a xs}, SqT K H2 a xs → SqT K (upd H2 L2 (.lst (us ++ [.ref p]))) a xs := fun {a xs} h => tup_upd h eL2
                exact pd_snoc (pd_mono pd2 fun v r z => ⟨row_tups z.1 upt, z.2⟩) ⟨row_tups hrow' upt, of_decide_eq_true h1, of_decide_eq_true h2⟩
              · rw [List.length_append, List.length_singleton]; omega
            · rw [if_neg h2]
              exact stay
          · rw [if_neg h1]
            exact stay
        | _ => cases hrb
      · obtain ⟨sm2, us, bs, eL2, pd2, hul⟩ := hP
        have sH : Same H H2 := sm.trans sm2
        refine ⟨.ref L2, rfl, Nat.zero_le _, fun e ne => ?_⟩
        have sE : Same H2 (upd H2 e (.lst [])) := new_same ne
        have pd3 : Paired (RowAt K (upd H2 e (.lst []))) us (bs.map fun z => Rw.bin z.1 z.2.1 z.2.2) := pd_map (pd_mono pd2 fun v z h => h.1.same sE)
        have ub : us.length = bs.length := pd_len pd2
        refine ⟨_, _, .lst (sqL (sE _ _ eL2)) (rows_dp pd3), .lst (sqL upd_same) .nil, sh_rows _, sh_nil, _, rfl, ?_⟩
        show if PyData.eqv (.list _) (.list []) = true then _ else _
        rw [eqv_nil]
        generalize hH3 : upd H2 e (.lst []) = H3 at sE pd3
        have eL3 := sE _ _ eL2
        have s3 : Same H H3 := sH.trans sE
        have T3 := hS.tape.same s3
        cases bs with
        | nil => exact q0 H3 (Same.but s3) (T3.mono (by omega))
        | cons z0 bs =>
          rw [List.length_cons] at ub
          refine ⟨.ref L2, rfl, .ref st.t, rfl, .ref L2, rfl, L2, us, rfl, .inl (sqL eL3), st.t, _, c, rfl, T3, by omega, by omega, by omega, fun r1 H4 h1 b4 T4 => ?_⟩
          have hS3 := hS.same s3
          have nLt : L2 ≠ st.t := (hS.tape.same sm).ne nL2
          have hr1 : r1 < us.length := by omega
          obtain ⟨z, hz1, hz2, hzx, hzy⟩ := pd_at2 pd2 (List.getElem?_eq_getElem hr1)
          obtain ⟨p, xs, hp0, hp1, hp2⟩ := hz2.same sE
          cases hp2
          obtain ⟨tx, ty, tn, t1, t2⟩ := T3
          have hp4 := tup_but hp1 b4 t1
          have bH4 : But st.t H H4 := (Same.but s3).trans b4
          have mk : ∀ (H5 : Hp) (x' y' : Nat), But st.t H H5 → Tape H5 st.t (c + 2) → x' ∈ ss → y' ∈ ss → ∀ p2, H5 p2 = none → Q (.ref p2) (upd H5 p2 (.tup [.str z.1.w, iv x', iv y'])) := fun H5 x' y' b5 T5 hx' hy' p2 n2 => by
            have hS5 := hS.bt b5 T5
            exact q1 _ _ z.1 x' y' (b5.trans (Same.but (new_same n2))) (T5.upd n2) ⟨p2, _, rfl, sqT (frz_at upd_same (hS5.fresh n2)), rfl⟩ hx' hy'
          refine ⟨L2, us, _, us[r1], rfl, rfl, sqL (b4 L2 _ nLt eL3), at_lt hr1, p, _, hp0, hp4, rfl, _, _, rfl, _, _, rfl, _, _, rfl, rfl, ?_⟩
          refine ⟨_, rfl, szl (show 3 ≤ 1000000 by decide), fun T nT => ⟨T, _, rfl, .inr (sqT upd_same), rfl, rfl, _, rfl, ?_⟩⟩
          have sT : Same H4 (upd H4 T (.tup [.str "sum", .str "times", .str "same"])) := new_same nT
          have bT : But st.t H (upd H4 T (.tup [.str "sum", .str "times", .str "same"])) := bH4.trans (Same.but sT)
          have TT := T4.same sT
          show if inV (.str z.1.w) [.str "sum", .str "times", .str "same"] = true then _ else _
          generalize inV (.str z.1.w) [.str "sum", .str "times", .str "same"] = bb
          cases bb with
          | false => exact ⟨_, rfl, _, rfl, _, rfl, szl (show 3 ≤ 1000000 by decide), fun p2 n2 => mk _ _ _ bT (TT.mono (by omega)) hzx hzy p2 n2⟩
          | true =>
            refine ⟨.ref st.t, rfl, st.t, 2, c + 1, rfl, TT, by omega, by decide, by decide, fun r2 H5 h2 b5 T5 => ⟨rfl, _, rfl, ?_⟩⟩
            show if decide (V.int (r2 : Int) = V.int 0) = true then _ else _
            generalize decide (V.int (r2 : Int) = V.int 0) = b2
            cases b2 with
            | false => exact ⟨_, rfl, _, rfl, _, rfl, szl (show 3 ≤ 1000000 by decide), fun p2 n2 => mk _ _ _ (bT.trans b5) (T5.mono (by omega)) hzx hzy p2 n2⟩
            | true => exact ⟨_, rfl, _, rfl, _, rfl, szl (show 3 ≤ 1000000 by decide), fun p2 n2 => mk _ _ _ (bT.trans b5) (T5.mono (by omega)) hzy hzx p2 n2⟩
end
end Gn
set_option Elab.async false
set_option linter.all false
set_option maxRecDepth 100000
set_option maxHeartbeats 4000000
namespace Gn
open PySem PySem.Spec PyProof.Rows L2
/-! ### drawn_row -/
/-- rooms that may be named -/
def RmOk (rs : List Nat) : Prop := rs.length ≤ 4 ∧ rs ≠ [] ∧ ∀ y ∈ rs, y < 6
def RwIn (ss : List Nat) : Rw → Prop
  | .take i => i ≤ 5
  | .num n => -4 ≤ n ∧ n ≤ 10 ^ 12
  | .bin _ x y => x ∈ ss ∧ y ∈ ss
  | .pick x ps => x ∈ ss ∧ (∀ y ∈ ps, y ∈ ss) ∧ 1 ≤ ps.length ∧ ps.length ≤ 5
  | .look rs x => x ∈ ss ∧ RmOk rs
  | .lay rs x y => x ∈ ss ∧ y ∈ ss ∧ RmOk rs
  | _ => False
def spDrawn (K : PySem.W.Frag) : Sp := fun vs H Q _ => ∃ (st : Sta) (c : Nat) (sa : Addr) (ss : List Nat), vs = [.ref st.t, .ref st.s, .ref sa] ∧ StaOk K H st c ∧ c + 20 ≤ 100000000 ∧ st.rows.length ≤ 1000 ∧ SqL K (frz st.M H) sa (ss.map iv) ∧ ss ≠ [] ∧ ss.length ≤ 1000 ∧
  ∀ (H' : Hp) (v : V) (row : Rw), But st.t H H' → Tape H' st.t (c + 20) → RowAt K (frz st.M H') v row → RwIn ss row → Q v H'
abbrev nDrawn : List Str := ["_law_tape_here", "_law_state", "_law_some", "_law_way", "_law_one", "_law_other", "_law_row", "_law_k"]
theorem scDrawn : FnScope nDrawn ["_law_tape_here", "_law_state", "_law_some"] (defScope sDrawn) := ⟨rfl, rfl, rfl, by decide +kernel, rfl, by decide +kernel, by decide +kernel⟩
theorem at_iv {ss : List Nat} {r : Nat} (h : r < ss.length) : atI (ss.map iv) (r : Int) = some (iv ss[r]) := atI_nat (by rw [List.getElem?_map, List.getElem?_eq_getElem h]; rfl)
theorem sq_but {K : PySem.W.Frag} {H H' : Hp} {st : Sta} {a : Addr} {xs : List V} (h : SqL K (frz st.M H) a xs) (b : But st.t H H') : SqL K (frz st.M H') a xs := (Bm.frz (Bm.of_but b (tM st))).seq h
theorem sq_out {K : PySem.W.Frag} {H : Hp} {st : Sta} {a : Addr} {xs : List V} (h : SqL K (frz st.M H) a xs) : SqL K H a xs := (frz_same _ _).seq h
abbrev tDr (a b : TE) : TE := tCall spDraw [] E0 (tCons a (tCons b tNil))
section
variable {P : Program} {w : World} {K : PySem.W.Frag} {mg : Str → Option Value} {base : Heap}
theorem ok_drawn {f fD fN fA : Addr} {fd fdD fdN fdA : FuncData} {k : Nat} (D : Df K mg "_law_drawn_row" sDrawn ["_law_tape_here", "_law_state", "_law_some"] f fd) (B : Bi mg) (DD : Df K mg "_law_draw" sDraw ["_law_tape_here", "_law_many_here"] fD fdD)
    (GD : FnOk P w K mg base CX0 k fD fdD ["_law_tape_here", "_law_many_here"] spDraw) (DN : Df K mg "_law_number" sNumber ["_law_tape_here"] fN fdN) (GN : FnOk P w K mg base CX0 k fN fdN ["_law_tape_here"] spNumber)
    (DA : Df K mg "_law_again" sAgain ["_law_tape_here", "_law_state", "_law_some"] fA fdA) (GA : FnOk P w K mg base CX0 k fA fdA ["_law_tape_here", "_law_state", "_law_some"] (spAgain K)) : FnOk P w K mg base CX0 (k + 1) f fd ["_law_tape_here", "_law_state", "_law_some"] (spDrawn K) := by
  refine D.F.ok scDrawn (fun vs H Q E h => ?_) (fun cdv A outer s H vs Q E hr h => ?_)
  · obtain ⟨st, c, sa, ss, rfl, _⟩ := h
    rfl
  · obtain ⟨st, c, sa, ss, rfl, hS, hc, hl, hsa, hne, hsl, q⟩ := h
    refine ⟨_, pss_cons (ps_set (i := 3) scDrawn.nd rfl (.inl rfl) (pe_call GD hr (by rfl) DD.g DD.F.kp DD.b .nil pass0 (pa_cons (pv 0) (pa_cons pe_int pa_nil))))
      (pss_cons (ps_par (i := 4) (j := 5) (by rfl) scDrawn.nd rfl rfl (by decide) rfl rfl (pa_cons (pe_ix ix_list (pv 2) (pe_call GD hr (by rfl) DD.g DD.F.kp DD.b .nil pass0 (pa_cons (pv 0) (pa_cons (pe_callB call_len_seq (by rfl) B.len PySem.boot_len (pa_cons (pv 2) pa_nil)) pa_nil))) (fun _ _ => rfl))
          (pa_cons (pe_ix ix_list (pv 2) (pe_call GD hr (by rfl) DD.g DD.F.kp DD.b .nil pass0 (pa_cons (pv 0) (pa_cons (pe_callB call_len_seq (by rfl) B.len PySem.boot_len (pa_cons (pv 2) pa_nil)) pa_nil))) (fun _ _ => rfl)) pa_nil)) (by rfl))
      (Evl.pss_cut (ps_if (pt_cmpR op_lt (pv 3) pe_int (nomark _)) (pss_cons (ps_set (i := 6) scDrawn.nd rfl (.inl rfl) (pe_call GA hr (by rfl) DA.g DA.F.kp DA.b .nil pass0 (pa_cons (pv 0) (pa_cons (pv 1) (pa_cons (pv 2) pa_nil)))))
          (pss_one (ps_if (pt_cmp (pc_notN (pv 6))) (pss_one (ps_ret (pv 6))) pss_nil))) pss_nil)
      (pss_cons (ps_if (pt_cmpR op_lt (pv 3) pe_int (nomark _)) (pss_one (ps_ret (pe_ix ix_list (pe_lst (pa_cons (pe_tup (pa_cons pe_str (pa_cons (pe_call GN hr (by rfl) DN.g DN.F.kp DN.b .nil pass0 (pa_cons (pv 0) pa_nil)) pa_nil)))
          (pa_cons (pe_tup (pa_cons pe_str (pa_cons (pe_call GD hr (by rfl) DD.g DD.F.kp DD.b .nil pass0 (pa_cons (pv 0) (pa_cons pe_int pa_nil))) pa_nil))) pa_nil))) (pe_op op_mod (pv 3) pe_int) (fun _ _ => rfl)))) pss_nil)
      (pss_cons (ps_if (pt_cmpR op_eq (pv 3) pe_int (nomark _)) (pss_one (ps_ret (pe_tup (pa_cons pe_str (pa_cons (pv 4) (pa_cons (pe_callTy call_tuple_of (by rfl) B.tuple PyProof.Rows.boot_tuple (pa_cons
          (pe_lc (own := [("_law_k", 7)]) (g := gName 7) (tt := tYes) (te := tIxL K (tVar 2) (tDr (tVar 0) (tLen K (tVar 2)))) rfl scDrawn.nd (pi_range1 (by rfl) B.range (pa_cons (pe_op op_add pe_int (pe_call GD hr (by rfl) DD.g DD.F.kp DD.b .nil pass0 (pa_cons (pv 0) (pa_cons pe_int pa_nil)))) pa_nil))
            (blkOk_by (own := [("_law_k", 7)]) (N := nDrawn) (sc := defScope sDrawn) (by decide +kernel)) (fun _ _ _ _ _ => pg_name (i := 7) scDrawn.nd rfl (.inl rfl)) (fun _ _ _ _ _ => pts_nil)
            (fun _ _ _ _ _ => pe_ix ix_list (pv 2) (pe_call GD hr (by rfl) DD.g DD.F.kp DD.b .nil pass0 (pa_cons (pv 0) (pa_cons (pe_callB call_len_seq (by rfl) B.len PySem.boot_len (pa_cons (pv 2) pa_nil)) pa_nil))) (fun _ _ => rfl))) pa_nil)) pa_nil)))))) pss_nil)
      (pss_one (ps_ret (pe_tup (pa_cons (pe_ix ix_list (pe_lst (pa_cons pe_str (pa_cons pe_str (pa_cons pe_str (pa_cons pe_str (pa_cons pe_str (pa_cons pe_str pa_nil))))))) (pe_op op_sub (pv 3) pe_int) (fun _ _ => rfl)) (pa_cons (pv 4) (pa_cons (pv 5) pa_nil)))))))))), ?_⟩
    have hl1 : ((ss.map iv).length : Int) = (ss.length : Int) := by rw [List.length_map]
    have hpos : 0 < ss.length := List.length_pos_iff.mpr hne
    refine ⟨.ref st.t, rfl, st.t, 12, c, rfl, hS.tape, by omega, by decide, by decide, fun w1 H1 h1 b1 T1 => ?_⟩
    have sq1 := sq_but hsa b1
    refine ⟨.ref sa, rfl, .ref st.t, rfl, .ref sa, rfl, sa, _, rfl, .inl (sq_out sq1), st.t, _, c + 1, rfl, T1, by omega, by omega, by omega, fun r1 H2 h2 b2 T2 => ?_⟩
    have sq2 := sq_but sq1 b2
    have hr1 : r1 < ss.length := by omega
    refine ⟨sa, _, _, _, rfl, rfl, sq_out sq2, at_iv hr1, .ref sa, rfl, .ref st.t, rfl, .ref sa, rfl, sa, _, rfl, .inl (sq_out sq2), st.t, _, c + 2, rfl, T2, by omega, by omega, by omega, fun r2 H3 h3 b3 T3 => ?_⟩
    have sq3 := sq_but sq2 b3
    have hr2 : r2 < ss.length := by omega
    have b13 : But st.t H H3 := (b1.trans b2).trans b3
    refine ⟨sa, _, _, _, rfl, rfl, sq_out sq3, at_iv hr2, _, _, rfl, ?_⟩
    have hx : ss[r1] ∈ ss := List.getElem_mem hr1
    have hy : ss[r2] ∈ ss := List.getElem_mem hr2
    generalize ss[r1] = x at hx
    generalize ss[r2] = y at hy
    refine ⟨fun σ H4 => ∃ (y6 y7 : Option V), σ = [some (.ref st.t), some (.ref st.s), some (.ref sa), some (.int w1), some (iv x), some (iv y), y6, y7] ∧ But st.t H H4 ∧ Tape H4 st.t (c + 5), ?_, fun σ H4 hM => ?_⟩
    · refine ⟨_, rfl, _, _, rfl, rfl, _, rfl, ite2 (fun e => ?_) (fun e => ⟨_, _, rfl, b13, T3.mono (by omega)⟩)⟩
      refine ⟨.ref st.t, rfl, .ref st.s, rfl, .ref sa, rfl, st, c + 3, sa, ss, rfl, hS.bt b13 T3, by omega, hl, sq3, fun H4 b4 T4 => ?_, fun H4 v b x' y' b4 T4 hR hx' hy' => ?_⟩
      · exact ⟨_, rfl, _, rfl, iteNS rfl ⟨_, _, rfl, b13.trans b4, T4⟩⟩
      · obtain ⟨p, xs, rfl, hp1, hp2⟩ := hR
        refine ⟨_, rfl, _, rfl, ?_⟩
        show if (!decide (V.ref p = V.non)) = true then _ else _
        rw [decide_eq_false (by intro z; cases z)]
        exact ⟨_, rfl, q H4 _ (.bin b x' y') (b13.trans b4) (T4.mono (by omega)) ⟨p, xs, rfl, hp1, hp2⟩ ⟨hx', hy'⟩⟩
    · obtain ⟨y6, y7, rfl, b4, T4⟩ := hM
      have hS4 := hS.bt b4 T4
      have sq4 := sq_but hsa b4
      refine ⟨_, rfl, _, _, rfl, rfl, _, rfl, ite2 (fun e => ?_) (fun e => ?_)⟩
      · refine ⟨.ref st.t, rfl, st.t, c + 5, rfl, T4, by omega, fun n H5 hn b5 T5 => ⟨szl (show 2 ≤ 1000000 by decide), fun p1 n1 => ?_⟩⟩
        refine ⟨.ref st.t, rfl, st.t, 3, c + 8, rfl, T5.upd n1, by omega, by decide, by decide, fun r3 H6 h6 b6 T6 => ⟨szl (show 2 ≤ 1000000 by decide), fun p2 n2 => ⟨szl (show 2 ≤ 1000000 by decide), fun p3 n3 => ?_⟩⟩⟩
        have hS5 := hS4.bt b5 T5
        have m1 := hS5.fresh n1
        have n1t : p1 ≠ st.t := T5.ne n1
        have e6 := b6 p1 _ n1t upd_same
        have b46 : But st.t H H6 := ((b4.trans b5).trans (Same.but (new_same n1))).trans b6
        have hS6 := hS.bt b46 T6
        have m2 := hS6.fresh n2
        have s2 := new_same (o := .tup [.str "take", .int (r3 : Int)]) n2
        have s3 := new_same (o := .lst [.ref p1, .ref p2]) n3
        have bF := b46.trans (Same.but (t := st.t) (s2.trans s3))
        have TF := (T6.same (s2.trans s3)).mono (show c + 8 + 1 ≤ c + 20 by omega)
        have hz : (w1 : Int) % 2 = 0 ∨ (w1 : Int) % 2 = 1 := by omega
        rcases hz with hz | hz
        · refine ⟨_, rfl, _, _, rfl, rfl, (by decide : (0 : Int) < 2), p3, _, _, .ref p1, rfl, rfl, sqL upd_same, by rw [hz]; exact atI_nat (j := 0) rfl, ?_⟩
          exact q _ _ (.num n) bF TF ⟨p1, _, rfl, sqT (frz_at ((s2.trans s3) _ _ e6) m1), rfl⟩ hn
        · refine ⟨_, rfl, _, _, rfl, rfl, (by decide : (0 : Int) < 2), p3, _, _, .ref p2, rfl, rfl, sqL upd_same, by rw [hz]; exact atI_nat (j := 1) rfl, ?_⟩
          exact q _ _ (.take r3) bF TF ⟨p2, _, rfl, sqT (frz_at (s3 _ _ upd_same) m2), rfl⟩ (show r3 ≤ 5 by omega)
      · refine ⟨_, rfl, rfl, _, rfl, ite2 (fun e2 => ?_) (fun e2 => ?_)⟩
        · refine ⟨_, rfl, .ref st.t, rfl, st.t, 5, c + 5, rfl, T4, by omega, by decide, by decide, fun r5 H5 h5 b5 T5 => ⟨1, r5, rfl, rfl, _, rfl, by omega, by omega, fun L nL => ?_⟩⟩
          have nLt : L ≠ st.t := T5.ne nL
          have hn : (1 + (r5 : Int)).toNat = r5 + 1 := by omega
          have sq5 := sq_but sq4 b5
          refine lc_range (lo := 0) (n := (1 + (r5 : Int)).toNat) (fun i H6 => But st.t H5 H6 ∧ Tape H6 st.t (c + 6 + i) ∧ ∃ es : List Nat, H6 L = some (.lst (es.map iv)) ∧ es.length = i ∧ ∀ y ∈ es, y ∈ ss)
            ⟨Same.but (new_same nL), T5.upd nL, [], upd_same, rfl, fun y h => by cases h⟩ (fun i H6 hi hP => ?_) (fun H6 hP => ?_)
          · obtain ⟨b6, T6, es, eL, hel, hes⟩ := hP
            have sq6 := sq_but sq5 b6
            refine ⟨rfl, .ref sa, rfl, .ref st.t, rfl, .ref sa, rfl, sa, _, rfl, .inl (sq_out sq6), st.t, _, c + 6 + i, rfl, T6, by omega, by omega, by omega, fun r7 H7 h7 b7 T7 => ?_⟩
            have hr7 : r7 < ss.length := by omega
            refine ⟨sa, _, _, _, rfl, rfl, sq_out (sq_but sq6 b7), at_iv hr7, _, b7 L _ nLt eL, ?_, fun a o n e => ?_, ?_, es ++ [ss[r7]], ?_, ?_, ?_⟩
            · rw [List.length_map]; exact szt (by omega)
            · rw [upd_ne (ne_of_none e nL)]; exact (b6.trans b7) a o n e
            · obtain ⟨a1, a2, a3, a4, a5⟩ := T7
              exact ⟨a1, a2, a3, by rw [upd_ne nLt.symm]; exact a4, a5⟩
            · rw [upd_same, List.map_append]; rfl
            · rw [List.length_append, List.length_singleton, hel]
            · intro z hz
              rcases List.mem_append.mp hz with h | h
              · exact hes z h
              · rw [List.mem_singleton.mp h]; exact List.getElem_mem hr7
          · obtain ⟨b6, T6, es, eL, hel, hes⟩ := hP
            refine ⟨L, _, rfl, .inl ⟨sqL eL, fun T nT => ⟨szl (show 3 ≤ 1000000 by decide), fun p np => ?_⟩⟩⟩
            have bH6 : But st.t H H6 := (b4.trans b5).trans b6
            have hS6 := hS.bt bH6 T6
            have mT := hS6.fresh nT
            have sT := new_same (o := .tup (es.map iv)) nT
            have mp := (hS6.same sT).fresh np
            have sp' := new_same (o := .tup [.str "pick", iv x, .ref T]) np
            refine q _ _ (.pick x es) (bH6.trans (Same.but (sT.trans sp'))) ((T6.same (sT.trans sp')).mono (by omega)) ⟨p, _, rfl, sqT (frz_at upd_same mp), T, rfl, sqT (frz_at (sp' _ _ upd_same) mT)⟩ ⟨hx, hes, by omega, by omega⟩
        · have hw5 : ¬ ((w1 : Int) < 5) := fun z => e (decide_eq_true z)
          have hw11 : ¬ (w1 : Int) = 11 := fun z => e2 (decide_eq_true (by show V.int (w1 : Int) = V.int 11; rw [z]))
          let ks : List Bk := [.sum, .sum, .less, .times, .same, .below]
          have hj : w1 - 5 < ks.length := by show w1 - 5 < 6; omega
          have ei : (w1 : Int) - 5 = ((w1 - 5 : Nat) : Int) := by omega
          have at5 : atI (ks.map fun b => V.str b.w) ((w1 : Int) - 5) = some (.str ks[w1 - 5].w) := by
            rw [ei]
            exact atI_nat (by rw [List.getElem?_map, List.getElem?_eq_getElem hj]; rfl)
          refine ⟨szl (show 6 ≤ 1000000 by decide), fun p np => ⟨_, rfl, _, _, rfl, rfl, p, _, _, _, rfl, rfl, sqL upd_same, at5, _, rfl, _, rfl, szl (show 3 ≤ 1000000 by decide), fun p2 np2 => ?_⟩⟩
          have s1 := new_same (o := .lst [.str "sum", .str "sum", .str "less", .str "times", .str "same", .str "below"]) np
          have mp := (hS4.same s1).fresh np2
          have s2 := new_same (o := .tup [.str ks[w1 - 5].w, iv x, iv y]) np2
          exact q _ _ (.bin ks[w1 - 5] x y) (b4.trans (Same.but (s1.trans s2))) ((T4.same (s1.trans s2)).mono (by omega)) ⟨p2, _, rfl, sqT (frz_at upd_same mp), rfl⟩ ⟨hx, hy⟩
end
end Gn
set_option Elab.async false
set_option linter.all false
set_option maxRecDepth 100000
set_option maxHeartbeats 4000000
namespace Gn
open PySem PySem.Spec PyProof.Rows L2
/-! ### room_row -/
def spRoom (K : PySem.W.Frag) : Sp := fun vs H Q _ => ∃ (st : Sta) (c : Nat) (sa : Addr) (ss : List Nat), vs = [.ref st.t, .ref st.s, .ref sa] ∧ StaOk K H st c ∧ c + 12 ≤ 100000000 ∧ st.rows.length ≤ 1000 ∧ SqL K (frz st.M H) sa (ss.map iv) ∧ ss ≠ [] ∧ ss.length ≤ 1000 ∧ (∀ y ∈ ss, y < st.rows.length) ∧
  ∀ (H' : Hp) (v : V) (row : Rw), But st.t H H' → Tape H' st.t (c + 12) → RowAt K (frz st.M H') v row → RwIn ss row → Q v H'
abbrev nRoom : List Str := ["_law_tape_here", "_law_state", "_law_some", "_law_small", "_law_left", "_law_rooms", "_law_one", "_law_k"]
theorem scRoom : FnScope nRoom ["_law_tape_here", "_law_state", "_law_some"] (defScope sRoom) := ⟨rfl, rfl, rfl, by decide +kernel, rfl, by decide +kernel, by decide +kernel⟩
section
variable {P : Program} {w : World} {K : PySem.W.Frag} {mg : Str → Option Value} {base : Heap}
theorem ok_room {f fD : Addr} {fd fdD : FuncData} {k : Nat} (D : Df K mg "_law_room_row" sRoom ["_law_tape_here", "_law_state", "_law_some"] f fd) (B : Bi mg) (DD : Df K mg "_law_draw" sDraw ["_law_tape_here", "_law_many_here"] fD fdD)
    (GD : FnOk P w K mg base CX0 k fD fdD ["_law_tape_here", "_law_many_here"] spDraw) : FnOk P w K mg base CX0 (k + 1) f fd ["_law_tape_here", "_law_state", "_law_some"] (spRoom K) := by
  refine D.F.ok scRoom (fun vs H Q E h => ?_) (fun cdv A outer s H vs Q E hr h => ?_)
  · obtain ⟨st, c, sa, ss, rfl, _⟩ := h
    rfl
  · obtain ⟨st, c, sa, ss, rfl, hS, hc, hl, hsa, hne, hsl, hlt, q⟩ := h
    have hu := hu_of hr
    refine ⟨_, pss_cons (ps_setLc (i := 3) (own := [("_law_k", 7)]) (g := gName 7) (tt := tAnd (tTest (tOp rEq (tIxL K (tDGet (tVar 1) (tC (.str "wide"))) (tVar 7)) (tC (.int 1)))) (tTest (tOp rEq (tIxL K (tDGet (tVar 1) (tC (.str "deep"))) (tVar 7)) (tC (.int 1))))) (te := tVar 7) rfl scRoom.nd rfl rfl (sw_true rfl rfl rfl rfl) (pi_list (pv 2))
        (blkOk_by (own := [("_law_k", 7)]) (N := nRoom) (sc := defScope sRoom) (by decide +kernel)) (fun _ _ _ _ _ => pg_name (i := 7) scRoom.nd rfl (.inl rfl))
        (fun _ _ _ _ _ => pts_one (pw_and (pt_cmpR op_eq (pe_ix ix_list (pe_dget hu (pv 1) pe_str (fun _ _ => rfl)) (pv 7) (fun _ _ => rfl)) pe_int (nomark _)) (pw_and1 (pt_cmpR op_eq (pe_ix ix_list (pe_dget hu (pv 1) pe_str (fun _ _ => rfl)) (pv 7) (fun _ _ => rfl)) pe_int (nomark _)))).pt) (fun _ _ _ _ _ => pv 7))
      (pss_cons (ps_set (i := 4) scRoom.nd rfl (.inr rfl) (pe_listRg rfl (by rfl) B.list (prg_1 (by rfl) B.range pe_int)))
      (pss_cons (ps_set (i := 5) scRoom.nd rfl (.inl rfl) (pe_callTy call_tuple_of (by rfl) B.tuple PyProof.Rows.boot_tuple (pa_cons
          (pe_lc (own := [("_law_k", 7)]) (g := gName 7) (tt := tYes) (te := tBM K "list" rPopAt (tVar 4) (tCons (tDr (tVar 0) (tLen K (tVar 4))) tNil)) rfl scRoom.nd (pi_range1 (by rfl) B.range (pa_cons (pe_ix ix_list (pe_lst (pa_cons pe_int (pa_cons pe_int (pa_cons pe_int (pa_cons pe_int (pa_cons pe_int pa_nil)))))) (pe_call GD hr (by rfl) DD.g DD.F.kp DD.b .nil pass0 (pa_cons (pv 0) (pa_cons pe_int pa_nil))) (fun _ _ => rfl)) pa_nil))
            (blkOk_by (own := [("_law_k", 7)]) (N := nRoom) (sc := defScope sRoom) (by decide +kernel)) (fun _ _ _ _ _ => pg_name (i := 7) scRoom.nd rfl (.inl rfl)) (fun _ _ _ _ _ => pts_nil)
            (fun _ _ _ _ _ => pe_bm PySem.F.plainAttrs_list PySem.F.slot_list_pop PySem.F.type_list_pop mt_popAt (pv 4) (pa_cons (pe_call GD hr (by rfl) DD.g DD.F.kp DD.b .nil pass0 (pa_cons (pv 0) (pa_cons (pe_callB call_len_seq (by rfl) B.len PySem.boot_len (pa_cons (pv 4) pa_nil)) pa_nil))) pa_nil))) pa_nil)))
      (pss_cons (ps_set (i := 6) scRoom.nd rfl (.inl rfl) (pe_ix ix_list (pv 2) (pe_call GD hr (by rfl) DD.g DD.F.kp DD.b .nil pass0 (pa_cons (pv 0) (pa_cons (pe_callB call_len_seq (by rfl) B.len PySem.boot_len (pa_cons (pv 2) pa_nil)) pa_nil))) (fun _ _ => rfl)))
      (pss_cons (ps_if (pw_or (pt_cmpR (op_eqD hr.units) (pv 3) (pe_lst pa_nil) (nomark _)) (pw_or1 (pt_cmpR op_eq (pe_call GD hr (by rfl) DD.g DD.F.kp DD.b .nil pass0 (pa_cons (pv 0) (pa_cons pe_int pa_nil))) pe_int (nomark _)))).pt
          (pss_one (ps_ret (pe_tup (pa_cons pe_str (pa_cons (pv 5) (pa_cons (pv 6) pa_nil)))))) pss_nil)
      (pss_one (ps_ret (pe_tup (pa_cons pe_str (pa_cons (pv 5) (pa_cons (pv 6) (pa_cons (pe_ix ix_list (pv 3) (pe_call GD hr (by rfl) DD.g DD.F.kp DD.b .nil pass0 (pa_cons (pv 0) (pa_cons (pe_callB call_len_seq (by rfl) B.len PySem.boot_len (pa_cons (pv 3) pa_nil)) pa_nil))) (fun _ _ => rfl)) pa_nil))))))))))), ?_⟩
    have hl1 : ((ss.map iv).length : Int) = (ss.length : Int) := by rw [List.length_map]
    have hpos : 0 < ss.length := List.length_pos_iff.mpr hne
    have msa : ∀ {p : Addr}, H p = none → p ∉ st.M := fun n => hS.fresh n
    refine ⟨.ref sa, rfl, sa, rfl, ⟨_, sq_out hsa⟩, fun L nL => ?_⟩
    have mL := msa nL
    refine lc_list (K := K) (a := sa) (xs := ss.map iv) (fun i H1 => Same H H1 ∧ ∃ es : List Nat, H1 L = some (.lst (es.map iv)) ∧ es.length ≤ i ∧ ∀ y ∈ es, y ∈ ss)
      ⟨new_same nL, [], upd_same, Nat.le_refl _, fun y h => by cases h⟩ (fun i H1 _ hP => Same.seq hP.1 (sq_out hsa)) (fun i x H1 hx hP => ?_) (fun H1 hP => ?_)
    · obtain ⟨sm, es, eL, hel, hes⟩ := hP
      rw [List.getElem?_map] at hx
      obtain ⟨y, hy1, rfl⟩ := Option.map_eq_some_iff.mp hx
      have hy : y ∈ ss := List.mem_of_getElem? hy1
      have hyw : y < st.wide.length := by rw [hS.lw]; exact hlt y hy
      have hyd : y < st.deep.length := by rw [hS.ld]; exact hlt y hy
      have hi : i < ss.length := (List.getElem?_eq_some_iff.mp hy1).1
      have no : Same H H1 ∧ ∃ es : List Nat, H1 L = some (.lst (es.map iv)) ∧ es.length ≤ i + 1 ∧ ∀ y ∈ es, y ∈ ss := ⟨sm, es, eL, by omega, hes⟩
      refine ⟨rfl, .ref st.s, rfl, st.s, .ref st.w, rfl, dgOf (sm _ _ hS.ds) (kvW st), _, rfl, st.w, _, _, _, rfl, rfl, sqL (sm _ _ hS.wide), at_iv hyw, rfl, _, rfl, ite2 (fun e => ?_) (fun e => no)⟩
      refine ⟨.ref st.s, rfl, st.s, .ref st.d, rfl, dgOf (sm _ _ hS.ds) (kvD st), _, rfl, st.d, _, _, _, rfl, rfl, sqL (sm _ _ hS.deep), at_iv hyd, rfl, _, rfl, ite2 (fun e => ?_) (fun e => no)⟩
      refine ⟨_, rfl, _, eL, ?_, fun a o e => ?_, es ++ [y], ?_, ?_, ?_⟩
      · rw [List.length_map]; exact szt (by omega)
      · rw [upd_ne (ne_of_none e nL)]; exact sm _ _ e
      · rw [upd_same, List.map_append]; rfl
      · rw [List.length_append, List.length_singleton]; omega
      · intro z hz
        rcases List.mem_append.mp hz with h | h
        · exact hes z h
        · rw [List.mem_singleton.mp h]; exact hy
    · obtain ⟨s1, es, eL, hel, hes⟩ := hP
      rw [List.length_map] at hel
      refine ⟨6, rfl, ⟨by decide, by decide, by decide, by decide, by decide⟩, fun lf nlf => ?_⟩
      have s2 := new_same (o := .lst (rgV 0 6)) nlf
      have elf : upd H1 lf (.lst (rgV 0 6)) lf = some (.lst (rgV 0 6)) := upd_same
      have e6 : rgV 0 6 = (List.range 6).map iv := rgV_iv 6
      rw [e6] at s2 elf
      rw [e6]
      generalize upd H1 lf (.lst ((List.range 6).map iv)) = H2 at s2 elf
      have s12 : Same H H2 := s1.trans s2
      have nlf0 : H lf = none := by
        cases hz : H lf with
        | none => rfl
        | some o => rw [s1 _ _ hz] at nlf; cases nlf
      have nlL : L ≠ lf := ne_of_none eL nlf
      have hS2 := hS.same s12
      have nlt : lf ≠ st.t := fun z => by
        obtain ⟨o, ho⟩ := hS.tape.lst
        rw [z, ho] at nlf0
        cases nlf0
      have nLt : L ≠ st.t := fun z => by
        obtain ⟨o, ho⟩ := hS.tape.lst
        rw [z, ho] at nL
        cases nL
      refine ⟨szl (show 5 ≤ 1000000 by decide), fun l5 n5 => ?_⟩
      have s3 := new_same (o := .lst [.int 1, .int 1, .int 2, .int 3, .int 4]) n5
      have e5 : upd H2 l5 (.lst [.int 1, .int 1, .int 2, .int 3, .int 4]) l5 = some (.lst [.int 1, .int 1, .int 2, .int 3, .int 4]) := upd_same
      generalize upd H2 l5 (.lst [.int 1, .int 1, .int 2, .int 3, .int 4]) = H3 at s3 e5
      have s13 := s12.trans s3
      have hS3 := hS.same s13
      have n5t : l5 ≠ st.t := hS2.tape.ne n5
      refine ⟨.ref st.t, rfl, st.t, 5, c, rfl, hS3.tape, by omega, by decide, by decide, fun r1 H4 h4 b4 T4 => ?_⟩
      obtain ⟨n, hn1, hn4, hat⟩ : ∃ n : Nat, 1 ≤ n ∧ n ≤ 4 ∧ atI [V.int 1, .int 1, .int 2, .int 3, .int 4] (r1 : Int) = some (.int (n : Int)) := by
        have : r1 = 0 ∨ r1 = 1 ∨ r1 = 2 ∨ r1 = 3 ∨ r1 = 4 := by omega
        rcases this with rfl | rfl | rfl | rfl | rfl
        · exact ⟨1, by decide, by decide, atI_nat (j := 0) rfl⟩
        · exact ⟨1, by decide, by decide, atI_nat (j := 1) rfl⟩
        · exact ⟨2, by decide, by decide, atI_nat (j := 2) rfl⟩
        · exact ⟨3, by decide, by decide, atI_nat (j := 3) rfl⟩
        · exact ⟨4, by decide, by decide, atI_nat (j := 4) rfl⟩
      have hn0 : ((n : Int)).toNat = n := by omega
      refine ⟨l5, _, _, _, rfl, rfl, sqL (b4 _ _ n5t e5), hat, _, rfl, by omega, by omega, fun R nR => ?_⟩
      have nRt : R ≠ st.t := T4.ne nR
      have b14 : But st.t H H4 := (Same.but s13).trans b4
      have elf4 := b4 _ _ nlt (s3 _ _ elf)
      have eL4 := b4 _ _ nLt (s3 _ _ (s2 _ _ eL))
      have nlR : lf ≠ R := ne_of_none elf4 nR
      have nLR : L ≠ R := ne_of_none eL4 nR
      have nR0 : H R = none := by
        cases hz : H R with
        | none => rfl
        | some o => rw [b14 _ _ nRt hz] at nR; cases nR
      refine lc_range (lo := 0) (n := ((n : Int)).toNat) (fun i H6 => But st.t H H6 ∧ Tape H6 st.t (c + 1 + i) ∧ H6 L = some (.lst (es.map iv)) ∧ (∃ ys : List V, H6 lf = some (.lst ys) ∧ ys.length = 6 - i ∧ ∀ y ∈ ys, ∃ z : Nat, y = iv z ∧ z < 6) ∧ ∃ rs : List Nat, H6 R = some (.lst (rs.map iv)) ∧ rs.length = i ∧ ∀ y ∈ rs, y < 6)
        ⟨b14.trans (Same.but (new_same nR)), T4.upd nR, new_same nR _ _ eL4, ⟨_, new_same nR _ _ elf4, by rw [List.length_map, List.length_range], fun y hy => ?_⟩, [], upd_same, rfl, fun y h => (by cases h)⟩ (fun i H6 hi hP => ?_) (fun H6 hP => ?_)
      · obtain ⟨z, hz, rfl⟩ := List.mem_map.mp hy
        exact ⟨z, rfl, List.mem_range.mp hz⟩
      · obtain ⟨b6, T6, eL6, ⟨ys, ely, hyl, hyn⟩, rs, eR, hrl, hr6⟩ := hP
        have hi4 : i < 4 := by omega
        have hyi : (ys.length : Int) = 6 - i := by omega
        refine ⟨rfl, .ref lf, rfl, .inl ⟨rfl, _, sqL ely⟩, .ref st.t, rfl, .ref lf, rfl, lf, _, rfl, .inl (sqL ely), st.t, _, c + 1 + i, rfl, T6, by omega, by omega, by omega, fun r7 H7 h7 b7 T7 => ?_⟩
        have hr7 : r7 < ys.length := by omega
        obtain ⟨z, hz, hz6⟩ := hyn _ (List.getElem_mem hr7)
        refine ⟨lf, ys, _, r7, ys[r7], rfl, rfl, b7 _ _ nlt ely, by omega, by omega, ?_, List.getElem?_eq_getElem hr7, ?_⟩
        · unfold seqIndex?
          have h1 : ¬ ((r7 : Int) < 0) := by omega
          simp only [h1, if_false]
          rw [if_pos (by simp; omega)]
          simp
        · refine ⟨rs.map iv, by rw [upd_ne (Ne.symm nlR)]; exact b7 _ _ nRt eR, by rw [List.length_map]; exact szt (by omega), fun a o na e => ?_, ?_, ?_, ⟨ys.eraseIdx r7, by rw [upd_ne nlR, upd_same], ?_, fun y hy => hyn y (List.mem_of_mem_eraseIdx hy)⟩, rs ++ [z], by rw [upd_same, List.map_append, hz]; rfl, by rw [List.length_append, List.length_singleton, hrl], fun y hy => (by rcases List.mem_append.mp hy with h | h; exact hr6 y h; rw [List.mem_singleton.mp h]; exact hz6)⟩
          · rw [upd_ne (ne_of_none e nR0), upd_ne (ne_of_none e nlf0)]
            exact (b6.trans b7) a o na e
          · obtain ⟨a1, a2, a3, a4, a5⟩ := T7
            exact ⟨a1, a2, a3, by rw [upd_ne nRt.symm, upd_ne nlt.symm]; exact a4, a5⟩
          · rw [upd_ne nLR, upd_ne nlL]
            exact b7 _ _ nLt eL6
          · rw [List.length_eraseIdx_of_lt hr7]; omega
      · obtain ⟨b6, T6, eL6, _, rs, eR, hrl, hr6⟩ := hP
        rw [hn0] at T6 hrl
        have hrm : RmOk rs := ⟨by omega, fun z => by rw [z] at hrl; simp at hrl; omega, hr6⟩
        refine ⟨R, _, rfl, .inl ⟨sqL eR, fun T nT => ?_⟩⟩
        have sT := new_same (o := .tup (rs.map iv)) nT
        have eT : upd H6 T (.tup (rs.map iv)) T = some (.tup (rs.map iv)) := upd_same
        generalize upd H6 T (.tup (rs.map iv)) = H7 at sT eT
        have b7 : But st.t H H7 := b6.trans (Same.but sT)
        have T7 := T6.same sT
        have eL7 := sT _ _ eL6
        have mT := (hS.bt b6 T6).fresh nT
        have nTt : T ≠ st.t := T6.ne nT
        have sq7 := sq_but hsa b7
        refine ⟨.ref sa, rfl, .ref st.t, rfl, .ref sa, rfl, sa, _, rfl, .inl (sq_out sq7), st.t, _, c + 1 + n, rfl, T7, by omega, by omega, by omega, fun r8 H8 h8 b8 T8 => ?_⟩
        have hr8 : r8 < ss.length := by omega
        have sq8 := sq_but sq7 b8
        refine ⟨sa, _, _, _, rfl, rfl, sq_out sq8, at_iv hr8, ?_⟩
        have hx : ss[r8] ∈ ss := List.getElem_mem hr8
        generalize ss[r8] = x at hx
        have b08 := b7.trans b8
        have eT8 := b8 _ _ nTt eT
        have eL8 := b8 _ _ nLt eL7
        refine ⟨.ref L, rfl, Nat.zero_le _, fun e ne => ?_⟩
        have sE := new_same (o := .lst []) ne
        refine ⟨_, _, .lst (sqL (sE _ _ eL8)) (dp_nats es), .lst (sqL upd_same) .nil, sh_nats _, sh_nil, _, rfl, ?_⟩
        show if PyData.eqv (.list _) (.list []) = true then _ else _
        rw [eqv_nil]
        generalize upd H8 e (.lst []) = H9 at sE
        have b09 : But st.t H H9 := b08.trans (Same.but sE)
        have T9 := T8.same sE
        have eT9 := sE _ _ eT8
        have eL9 := sE _ _ eL8
        have look : ∀ (H10 : Hp) (c' : Nat), But st.t H H10 → Tape H10 st.t c' → c' ≤ c + 12 → H10 T = some (.tup (rs.map iv)) → ∀ p, H10 p = none → Q (.ref p) (upd H10 p (.tup [.str "look", .ref T, iv x])) := fun H10 c' b10 T10 hc' e10 p np => by
          have mp := (hS.bt b10 T10).fresh np
          have sp' := new_same (o := .tup [.str "look", .ref T, iv x]) np
          exact q _ _ (.look rs x) (b10.trans (Same.but sp')) ((T10.same sp').mono hc') ⟨p, _, rfl, sqT (frz_at upd_same mp), T, rfl, sqT (frz_at (sp' _ _ e10) mT)⟩ ⟨hx, hrm⟩
        by_cases hss : es = []
        · have e0 : (es.map nd).isEmpty = true := by rw [hss]; rfl
          rw [e0]
          exact ⟨.ref T, rfl, iv x, rfl, szl (show 3 ≤ 1000000 by decide), fun p np => look _ _ b09 T9 (by omega) eT9 p np⟩
        · have e0 : (es.map nd).isEmpty = false := by
            cases es with
            | nil => exact absurd rfl hss
            | cons _ _ => rfl
          rw [e0]
          have hep : 0 < es.length := List.length_pos_iff.mpr hss
          refine ⟨.ref st.t, rfl, st.t, 2, c + 1 + n + 1, rfl, T9, by omega, by decide, by decide, fun r9 H10 h10 b10 T10 => ⟨rfl, _, rfl, ite2 (fun e => ?_) (fun e => ?_)⟩⟩
          · exact ⟨.ref T, rfl, iv x, rfl, szl (show 3 ≤ 1000000 by decide), fun p np => look _ _ (b09.trans b10) T10 (by omega) (b10 _ _ nTt eT9) p np⟩
          · have eL10 := b10 _ _ nLt eL9
            have hel2 : ((es.map iv).length : Int) = (es.length : Int) := by rw [List.length_map]
            refine ⟨.ref T, rfl, iv x, rfl, .ref L, rfl, .ref st.t, rfl, .ref L, rfl, L, _, rfl, .inl (sqL eL10), st.t, _, c + 1 + n + 1 + 1, rfl, T10, by omega, by omega, by omega, fun r11 H11 h11 b11 T11 => ?_⟩
            have hr11 : r11 < es.length := by omega
            refine ⟨L, _, _, _, rfl, rfl, sqL (b11 _ _ nLt eL10), at_iv hr11, szl (show 4 ≤ 1000000 by decide), fun p np => ?_⟩
            have hy : es[r11] ∈ ss := hes _ (List.getElem_mem hr11)
            generalize es[r11] = y at hy
            have b011 := (b09.trans b10).trans b11
            have mp := (hS.bt b011 T11).fresh np
            have sp' := new_same (o := .tup [.str "lay", .ref T, iv x, iv y]) np
            exact q _ _ (.lay rs x y) (b011.trans (Same.but sp')) ((T11.same sp').mono (by omega)) ⟨p, _, rfl, sqT (frz_at upd_same mp), T, rfl, sqT (frz_at (sp' _ _ (b11 _ _ nTt (b10 _ _ nTt eT9))) mT)⟩ ⟨hx, hy, hrm⟩
end
end Gn
set_option Elab.async false
set_option linter.all false
set_option maxRecDepth 100000
set_option maxHeartbeats 4000000
namespace Gn
open PySem PySem.Spec PyProof.Rows L2
/-! ### add -/
def WD (st : Sta) : Prop := (∀ x ∈ st.wide, 1 ≤ x ∧ x ≤ 24) ∧ ∀ x ∈ st.deep, 1 ≤ x ∧ x ≤ 8
def spAdd (K : PySem.W.Frag) : Sp := fun vs H Q _ => ∃ (st : Sta) (c blk : Nat), vs = [.ref st.t, .ref st.s, iv blk] ∧ StaOk K H st c ∧ WD st ∧ blk < st.above.length ∧ c + 33 ≤ 100000000 ∧ st.rows.length ≤ 900 ∧
  ∀ (H' : Hp) (row : Rw) (wi de : Nat), Bm st.M H H' → StaOk K H' (st.put blk row wi de) (c + 33) → RwIn (standL st blk) row → 1 ≤ wi → wi ≤ 24 → 1 ≤ de → de ≤ 8 → Q .non H'
theorem standL_lt {st : Sta} {blk k : Nat} (h : k ∈ standL st blk) : k < st.rows.length := List.mem_range.mp (List.mem_filter.mp h).1
theorem standL_len (st : Sta) (blk : Nat) : (standL st blk).length ≤ st.rows.length := Nat.le_trans (List.length_filter_le _ _) (by rw [List.length_range]; exact Nat.le_refl _)
abbrev nAdd : List Str := ["_law_tape_here", "_law_state", "_law_block", "_law_some", "_law_row", "_law_wide", "_law_deep", "_law_wides", "_law_deeps", "_law_k"]
theorem scAdd : FnScope nAdd ["_law_tape_here", "_law_state", "_law_block"] (defScope sAdd) := ⟨rfl, rfl, rfl, by decide +kernel, rfl, by decide +kernel, by decide +kernel⟩
abbrev w3 : List V := [.str "sum", .str "less", .str "times"]
theorem w3_bin {r : Rw} (h : inV (.str r.w) w3 = true) : r.isBin = true := by
  cases r with
  | bin b x y => rfl
  | take _ => cases (show false = true from h)
  | num _ => cases (show false = true from h)
  | pick _ _ => cases (show false = true from h)
  | meet _ => cases (show false = true from h)
  | tell _ => cases (show false = true from h)
  | look _ _ => cases (show false = true from h)
  | lay _ _ _ => cases (show false = true from h)
theorem pick_is {r : Rw} (h : decide (V.str r.w = V.str "pick") = true) : ∃ x ps, r = .pick x ps := by
  cases r with
  | pick x ps => exact ⟨x, ps, rfl⟩
  | bin b x y => cases b <;> cases (show false = true from h)
  | take _ => cases (show false = true from h)
  | num _ => cases (show false = true from h)
  | meet _ => cases (show false = true from h)
  | tell _ => cases (show false = true from h)
  | look _ _ => cases (show false = true from h)
  | lay _ _ _ => cases (show false = true from h)
theorem pick_lc {K : PySem.W.Frag} {H : Hp} {st : Sta} {p q : Addr} {x bd : Nat} {ps fs : List Nat} {nm : Str} {ad : Addr} {Q : VK} {b0 b2 b3 b5 b6 b7 b8 b9 : Option V} (hp : SqT K H p [.str "pick", iv x, .ref q]) (hq : SqT K H q (ps.map iv)) (hd : H st.s = some (.dK st.kv))
    (kv : valV st.kv (Sum.inr nm) = some (.ref ad)) (hf : H ad = some (.lst (fs.map iv))) (hps : ∀ y ∈ ps, y < fs.length) (hfs : ∀ y ∈ fs, 1 ≤ y ∧ y ≤ bd) (hl : ps.length ≤ 5)
    (k : ∀ (L : Addr) (es : List Nat) (H' : Hp), Same H H' → H' L = some (.lst (es.map iv)) → es.length = ps.length → (∀ y ∈ es, 1 ≤ y ∧ y ≤ bd) → Q (.ref L) H') :
    tLc (iTup K (tIxT K (tVar 4) (tC (.int 2)))) (gName 9) tYes (tIxL K (tDGet (tVar 1) (tC (.str nm))) (tVar 9)) [9] [b0, some (.ref st.s), b2, b3, some (.ref p), b5, b6, b7, b8, b9] H Q := by
  refine ⟨.ref p, rfl, p, _, _, _, rfl, rfl, hp, atI_nat (j := 2) rfl, q, rfl, ⟨_, hq⟩, fun L nL => ?_⟩
  refine lc_tup (K := K) (a := q) (xs := ps.map iv) (fun i H1 => Same H H1 ∧ ∃ es : List Nat, H1 L = some (.lst (es.map iv)) ∧ es.length = i ∧ ∀ y ∈ es, 1 ≤ y ∧ y ≤ bd) ⟨new_same nL, [], upd_same, rfl, fun y h => by cases h⟩
    (fun i H1 _ hP => Same.tup hP.1 hq) (fun i v H1 hx hP => ?_) (fun H1 hP => ?_)
  · obtain ⟨sm, es, eL, hel, hes⟩ := hP
    rw [List.getElem?_map] at hx
    obtain ⟨b, hb, rfl⟩ := Option.map_eq_some_iff.mp hx
    have hbl := hps b (List.mem_of_getElem? hb)
    have hil := (List.getElem?_eq_some_iff.mp hb).1
    refine ⟨rfl, .ref st.s, rfl, st.s, .ref ad, rfl, dgOf (sm _ _ hd) kv, _, rfl, ad, _, _, _, rfl, rfl, sqL (sm _ _ hf), at_iv hbl, _, eL, ?_, fun a o e => ?_, es ++ [fs[b]], ?_, ?_, ?_⟩
    · rw [List.length_map]; exact szt (by omega)
    · rw [upd_ne (ne_of_none e nL)]; exact sm _ _ e
    · rw [upd_same, List.map_append]; rfl
    · rw [List.length_append, List.length_singleton, hel]
    · intro z hz
      rcases List.mem_append.mp hz with h | h
      · exact hes z h
      · rw [List.mem_singleton.mp h]; exact hfs _ (List.getElem_mem hbl)
  · obtain ⟨sm, es, eL, hel, hes⟩ := hP
    rw [List.length_map] at hel
    exact k L es H1 sm eL hel hes
theorem nat_of {es : List Nat} {m : Int} (h : m ∈ es.map Int.ofNat) : ∃ n : Nat, n ∈ es ∧ m = (n : Int) := by
  obtain ⟨n, hn, rfl⟩ := List.mem_map.mp h
  exact ⟨n, hn, rfl⟩
theorem ofn_iv (es : List Nat) : (es.map Int.ofNat).map V.int = es.map iv := by rw [List.map_map]; rfl
section
variable {P : Program} {w : World} {K : PySem.W.Frag} {mg : Str → Option Value} {base : Heap}
theorem ok_add {f fS fR fP fM fD : Addr} {fd fdS fdR fdP fdM fdD : FuncData} {k : Nat} (D : Df K mg "_law_add" sAdd ["_law_tape_here", "_law_state", "_law_block"] f fd) (B : Bi mg)
    (DS : Df K mg "_law_standing" sStanding ["_law_state", "_law_block"] fS fdS) (GS : FnOk P w K mg base CX0 k fS fdS ["_law_state", "_law_block"] (spStanding K))
    (DR : Df K mg "_law_drawn_row" sDrawn ["_law_tape_here", "_law_state", "_law_some"] fR fdR) (GR : FnOk P w K mg base CX0 k fR fdR ["_law_tape_here", "_law_state", "_law_some"] (spDrawn K))
    (DM : Df K mg "_law_room_row" sRoom ["_law_tape_here", "_law_state", "_law_some"] fM fdM) (GM : FnOk P w K mg base CX0 k fM fdM ["_law_tape_here", "_law_state", "_law_some"] (spRoom K))
    (DD : Df K mg "_law_draw" sDraw ["_law_tape_here", "_law_many_here"] fD fdD) (GD : FnOk P w K mg base CX0 k fD fdD ["_law_tape_here", "_law_many_here"] spDraw)
    (DP : Df K mg "_law_put" sPut ["_law_state", "_law_block", "_law_row", "_law_wide", "_law_deep"] fP fdP) (GP : FnOk P w K mg base CX0 k fP fdP ["_law_state", "_law_block", "_law_row", "_law_wide", "_law_deep"] (spPut K)) :
    FnOk P w K mg base CX0 (k + 1) f fd ["_law_tape_here", "_law_state", "_law_block"] (spAdd K) := by
  refine D.F.ok scAdd (fun vs H Q E h => ?_) (fun cdv A outer s H vs Q E hr h => ?_)
  · obtain ⟨st, c, blk, rfl, _⟩ := h
    rfl
  · obtain ⟨st, c, blk, rfl, hS, hwd, hb, hc, hl, q⟩ := h
    have hu := hu_of hr
    refine ⟨_, pss_cons (ps_set (i := 3) scAdd.nd rfl (.inl rfl) (pe_call GS hr (by rfl) DS.g DS.F.kp DS.b .nil pass0 (pa_cons (pv 1) (pa_cons (pv 2) pa_nil))))
      (Evl.pss_cut (ps_set (i := 4) scAdd.nd rfl (.inl rfl) (pe_ifExp (pt_cmpR (op_eqD hr.units) (pv 3) (pe_lst pa_nil) (nomark _)) (pe_tup (pa_cons pe_str (pa_cons pe_int pa_nil))) (pe_call GR hr (by rfl) DR.g DR.F.kp DR.b .nil pass0 (pa_cons (pv 0) (pa_cons (pv 1) (pa_cons (pv 3) pa_nil))))))
      (pss_cons (ps_asg (pe_tup (pa_cons pe_int (pa_cons pe_int pa_nil))) (pg_tup rfl (pgs_cons (pg_name (i := 5) scAdd.nd rfl (.inl rfl)) (pgs_cons (pg_name (i := 6) scAdd.nd rfl (.inl rfl)) pgs_nil))))
      (Evl.pss_cut (ps_if (pw_and (pt_cmpR (op_neD hr.units) (pv 3) (pe_lst pa_nil) (nomark _)) (pw_and1 (pt_cmpR op_eq (pe_call GD hr (by rfl) DD.g DD.F.kp DD.b .nil pass0 (pa_cons (pv 0) (pa_cons pe_int pa_nil))) pe_int (nomark _)))).pt
          (pss_one (ps_set (i := 4) scAdd.nd rfl (.inl rfl) (pe_call GM hr (by rfl) DM.g DM.F.kp DM.b .nil pass0 (pa_cons (pv 0) (pa_cons (pv 1) (pa_cons (pv 3) pa_nil)))))) pss_nil)
      (Evl.pss_cut (ps_if (pt_cmpR op_in_seq (pe_ix ix_tup (pv 4) pe_int (fun _ _ => rfl)) (pe_tup (pa_cons pe_str (pa_cons pe_str (pa_cons pe_str pa_nil)))) rfl)
          (pss_cons (ps_set (i := 7) scAdd.nd rfl (.inl rfl) (pe_lst (pa_cons (pe_ix ix_list (pe_dget hu (pv 1) pe_str (fun _ _ => rfl)) (pe_ix ix_tup (pv 4) pe_int (fun _ _ => rfl)) (fun _ _ => rfl)) (pa_cons (pe_ix ix_list (pe_dget hu (pv 1) pe_str (fun _ _ => rfl)) (pe_ix ix_tup (pv 4) pe_int (fun _ _ => rfl)) (fun _ _ => rfl)) pa_nil))))
          (pss_cons (ps_set (i := 8) scAdd.nd rfl (.inl rfl) (pe_lst (pa_cons (pe_ix ix_list (pe_dget hu (pv 1) pe_str (fun _ _ => rfl)) (pe_ix ix_tup (pv 4) pe_int (fun _ _ => rfl)) (fun _ _ => rfl)) (pa_cons (pe_ix ix_list (pe_dget hu (pv 1) pe_str (fun _ _ => rfl)) (pe_ix ix_tup (pv 4) pe_int (fun _ _ => rfl)) (fun _ _ => rfl)) pa_nil))))
          (pss_cons (ps_set (i := 5) scAdd.nd rfl (.inl rfl) (pe_ifExp (pt_cmpR op_eq (pe_ix ix_tup (pv 4) pe_int (fun _ _ => rfl)) pe_str (nomark _)) (pe_op op_mul (pe_ix ix_list (pv 7) pe_int (fun _ _ => rfl)) (pe_ix ix_list (pv 7) pe_int (fun _ _ => rfl))) (pe_callB (cr_sum rfl) (by rfl) B.sum PyProof.Rows.boot_sum (pa_cons (pv 7) pa_nil))))
          (pss_one (ps_set (i := 6) scAdd.nd rfl (.inl rfl) (pe_ifExp (pt_cmpR op_eq (pe_ix ix_tup (pv 4) pe_int (fun _ _ => rfl)) pe_str (nomark _)) (pe_callB (cr_sum rfl) (by rfl) B.sum PyProof.Rows.boot_sum (pa_cons (pv 8) pa_nil)) (pe_callB (cr_max rfl) (by rfl) B.max PyProof.Rows.boot_max (pa_cons (pv 8) pa_nil)))))))) pss_nil)
      (Evl.pss_cut (ps_if (pt_cmpR op_eq (pe_ix ix_tup (pv 4) pe_int (fun _ _ => rfl)) pe_str (nomark _))
          (pss_one (ps_par (i := 5) (j := 6) (by rfl) scAdd.nd rfl rfl (by decide) rfl rfl (pa_cons (pe_callB (cr_max rfl) (by rfl) B.max PyProof.Rows.boot_max (pa_cons
              (pe_lc (own := [("_law_k", 9)]) (g := gName 9) (tt := tYes) (te := tIxL K (tDGet (tVar 1) (tC (.str "wide"))) (tVar 9)) rfl scAdd.nd (pi_tup (pe_ix ix_tup (pv 4) pe_int (fun _ _ => rfl)))
                (blkOk_by (own := [("_law_k", 9)]) (N := nAdd) (sc := defScope sAdd) (by decide +kernel)) (fun _ _ _ _ _ => pg_name (i := 9) scAdd.nd rfl (.inl rfl)) (fun _ _ _ _ _ => pts_nil)
                (fun _ _ _ _ _ => pe_ix ix_list (pe_dget hu (pv 1) pe_str (fun _ _ => rfl)) (pv 9) (fun _ _ => rfl))) pa_nil))
            (pa_cons (pe_callB (cr_max rfl) (by rfl) B.max PyProof.Rows.boot_max (pa_cons
              (pe_lc (own := [("_law_k", 9)]) (g := gName 9) (tt := tYes) (te := tIxL K (tDGet (tVar 1) (tC (.str "deep"))) (tVar 9)) rfl scAdd.nd (pi_tup (pe_ix ix_tup (pv 4) pe_int (fun _ _ => rfl)))
                (blkOk_by (own := [("_law_k", 9)]) (N := nAdd) (sc := defScope sAdd) (by decide +kernel)) (fun _ _ _ _ _ => pg_name (i := 9) scAdd.nd rfl (.inl rfl)) (fun _ _ _ _ _ => pts_nil)
                (fun _ _ _ _ _ => pe_ix ix_list (pe_dget hu (pv 1) pe_str (fun _ _ => rfl)) (pv 9) (fun _ _ => rfl))) pa_nil)) pa_nil)) (by rfl))) pss_nil)
      (Evl.pss_cut (ps_if (pw_or (pt_cmpR op_gt (pv 5) pe_int (nomark _)) (pw_or1 (pt_cmpR op_gt (pv 6) pe_int (nomark _)))).pt
          (pss_one (ps_par3 (i := 4) (j := 5) (l := 6) (by rfl) scAdd.nd rfl rfl rfl (by decide) (by decide) (by decide) rfl rfl rfl (pa_cons (pe_tup (pa_cons pe_str (pa_cons (pe_ix ix_tup (pv 4) pe_int (fun _ _ => rfl)) (pa_cons (pe_ix ix_tup (pv 4) pe_int (fun _ _ => rfl)) pa_nil)))) (pa_cons pe_int (pa_cons pe_int pa_nil))) (by rfl))) pss_nil)
      (pss_one (ps_expr (pe_call GP hr (by rfl) DP.g DP.F.kp DP.b .nil pass0 (pa_cons (pv 1) (pa_cons (pv 2) (pa_cons (pv 4) (pa_cons (pv 5) (pa_cons (pv 6) pa_nil)))))))))))))), ?_⟩
    have hlt : ∀ y ∈ standL st blk, y < st.rows.length := fun y h => standL_lt h
    have hsl := standL_len st blk
    refine ⟨.ref st.s, rfl, iv blk, rfl, st, c, blk, rfl, hS, hb, by omega, fun sa H1 nsa s1 esa => ?_⟩
    generalize standL st blk = ss at q esa hlt hsl
    have msa := hS.fresh nsa
    refine ⟨fun σ H2 => ∃ (v : V) (row : Rw), σ = [some (.ref st.t), some (.ref st.s), some (iv blk), some (.ref sa), some v, none, none, none, none, none] ∧ But st.t H H2 ∧ Tape H2 st.t (c + 20) ∧ RowAt K (frz st.M H2) v row ∧ RwIn ss row ∧ H2 sa = some (.lst (ss.map iv)), ?_, fun σ H2 hM => ?_⟩
    · refine ⟨.ref sa, rfl, Nat.zero_le _, fun e ne => ?_⟩
      have sE : Same H1 (upd H1 e (.lst [])) := new_same ne
      refine ⟨_, _, .lst (sqL (sE _ _ esa)) (dp_nats ss), .lst (sqL upd_same) .nil, sh_nats _, sh_nil, _, rfl, ?_⟩
      show if PyData.eqv (.list _) (.list []) = true then _ else _
      rw [eqv_nil]
      generalize upd H1 e (.lst []) = H2 at sE
      have s2 : Same H H2 := s1.trans sE
      have hS2 := hS.same s2
      have esa2 := sE _ _ esa
      by_cases hss : ss = []
      · have e0 : (ss.map nd).isEmpty = true := by rw [hss]; rfl
        rw [e0]
        exact ⟨szl (show 2 ≤ 1000000 by decide), fun p np => ⟨_, .take 0, rfl, Same.but (s2.trans (new_same np)), (hS2.tape.upd np).mono (by omega), ⟨p, _, rfl, sqT (frz_at upd_same (hS2.fresh np)), rfl⟩, show 0 ≤ 5 by decide, new_same np _ _ esa2⟩⟩
      · have e0 : (ss.map nd).isEmpty = false := by
          cases ss with
          | nil => exact absurd rfl hss
          | cons _ _ => rfl
        rw [e0]
        refine ⟨.ref st.t, rfl, .ref st.s, rfl, .ref sa, rfl, st, c, sa, ss, rfl, hS2, by omega, by omega, sqL (frz_at esa2 msa), hss, by omega, fun H3 v row b3 T3 hR hI => ?_⟩
        exact ⟨v, row, rfl, (Same.but s2).trans b3, T3, hR, hI, b3 _ _ (fun z => by
          obtain ⟨o, ho⟩ := hS.tape.lst
          rw [z, ho] at nsa
          cases nsa) esa2⟩
    · obtain ⟨v, row, rfl, b2, T2, hR, hI, esa2⟩ := hM
      have nsat : sa ≠ st.t := fun z => by
        obtain ⟨o, ho⟩ := hS.tape.lst
        rw [z, ho] at nsa
        cases nsa
      have hS2 := hS.bt b2 T2
      refine ⟨szl (show 2 ≤ 1000000 by decide), fun p1 np1 => ⟨p1, _, rfl, sqT upd_same, rfl, _, _, rfl, _, _, rfl, rfl, ?_⟩⟩
      have s3 : Same H2 (upd H2 p1 (.tup [.int 1, .int 1])) := new_same np1
      show Evl.tCut _ _ _ _ (upd H2 p1 (.tup [.int 1, .int 1]))
      generalize upd H2 p1 (.tup [.int 1, .int 1]) = H3 at s3
      have hS3' := hS2.same s3
      have hR3' : RowAt K (frz st.M H3) v row := hR.same (Bm.frz (Bm.of_same s3))
      have esa3 := s3 _ _ esa2
      refine ⟨fun σ H4 => ∃ (v : V) (row : Rw), σ = [some (.ref st.t), some (.ref st.s), some (iv blk), some (.ref sa), some v, some (.int 1), some (.int 1), none, none, none] ∧ But st.t H H4 ∧ Tape H4 st.t (c + 33) ∧ RowAt K (frz st.M H4) v row ∧ RwIn ss row, ?_, fun σ H4 hM => ?_⟩
      · refine ⟨.ref sa, rfl, Nat.zero_le _, fun e ne => ?_⟩
        have sE : Same H3 (upd H3 e (.lst [])) := new_same ne
        refine ⟨_, _, .lst (sqL (sE _ _ esa3)) (dp_nats ss), .lst (sqL upd_same) .nil, sh_nats _, sh_nil, _, rfl, ?_⟩
        show if (!PyData.eqv (.list _) (.list [])) = true then _ else _
        rw [eqv_nil]
        generalize upd H3 e (.lst []) = H4 at sE
        have b4 : But st.t H H4 := b2.trans (Same.but (s3.trans sE))
        have T4 : Tape H4 st.t (c + 20) := T2.same (s3.trans sE)
        have hR4 : RowAt K (frz st.M H4) v row := hR3'.same (Bm.frz (Bm.of_same sE))
        have esa4 := sE _ _ esa3
        by_cases hss : ss = []
        · have e0 : (ss.map nd).isEmpty = true := by rw [hss]; rfl
          rw [e0]
          exact ⟨v, row, rfl, b4, T4.mono (by omega), hR4, hI⟩
        · have e0 : (ss.map nd).isEmpty = false := by
            cases ss with
            | nil => exact absurd rfl hss
            | cons _ _ => rfl
          rw [e0]
          refine ⟨.ref st.t, rfl, st.t, 3, c + 20, rfl, T4, by omega, by decide, by decide, fun r9 H5 h5 b5 T5 => ⟨rfl, _, rfl, ite2 (fun e => ?_) (fun e => ?_)⟩⟩
          · refine ⟨.ref st.t, rfl, .ref st.s, rfl, .ref sa, rfl, st, c + 21, sa, ss, rfl, hS.bt (b4.trans b5) T5, by omega, by omega, sqL (frz_at (b5 _ _ nsat esa4) msa), hss, by omega, hlt, fun H6 v6 row6 b6 T6 hR6 hI6 => ?_⟩
            exact ⟨v6, row6, rfl, (b4.trans b5).trans b6, T6, hR6, hI6⟩
          · exact ⟨v, row, rfl, b4.trans b5, T5.mono (by omega), hR4.same (Bm.frz (Bm.of_but b5 (tM st))), hI⟩
      clear hR3' hR hI hS2 T2 b2
      obtain ⟨v, row, rfl, b2, T2, hR, hI⟩ := hM
      clear hS3' esa3 esa2 s3 np1
      generalize hHH : H4 = H3' at b2 T2 hR
      clear hHH
      have hS3 := hS.bt b2 T2
      have hR3 := hR
      have hRo : RowAt K H3' v row := hR3.same (frz_same _ _)
      obtain ⟨p, xs, rfl, hp1, hp2⟩ := hRo
      refine ⟨fun σ H4 => ∃ (wi de : Nat) (y7 y8 y9 : Option V), σ = [some (.ref st.t), some (.ref st.s), some (iv blk), some (.ref sa), some (.ref p), some (iv wi), some (iv de), y7, y8, y9] ∧ Same H3' H4 ∧ 1 ≤ wi ∧ 1 ≤ de ∧ (row.isBin = false → wi ≤ 24 ∧ de ≤ 8), ?_, fun σ H4 hM => ?_⟩
      · refine ⟨.ref p, rfl, p, _, _, _, rfl, rfl, hp1, atI_nat (j := 0) rfl, szl (show 3 ≤ 1000000 by decide), fun T nT => ⟨T, _, rfl, .inr (sqT upd_same), rfl, rfl, _, rfl, ?_⟩⟩
        have sT : Same H3' (upd H3' T (.tup w3)) := new_same nT
        show if inV (.str row.w) w3 = true then _ else _
        by_cases h3 : inV (.str row.w) w3 = true
        · rw [if_pos h3]
          have hbin := w3_bin h3
          cases row with
          | bin b x y =>
            cases hp2
            have hI' : x ∈ ss ∧ y ∈ ss := hI
            have hxw : x < st.wide.length := by rw [hS.lw]; exact hlt x hI'.1
            have hyw : y < st.wide.length := by rw [hS.lw]; exact hlt y hI'.2
            have hxd : x < st.deep.length := by rw [hS.ld]; exact hlt x hI'.1
            have hyd : y < st.deep.length := by rw [hS.ld]; exact hlt y hI'.2
            generalize upd H3' T (.tup w3) = H4 at sT
            have hS4 := hS3.same sT
            have hp4 := Same.tup sT hp1
            have a1 := hwd.1 _ (List.getElem_mem hxw)
            have a2 := hwd.1 _ (List.getElem_mem hyw)
            have a3 := hwd.2 _ (List.getElem_mem hxd)
            have a4 := hwd.2 _ (List.getElem_mem hyd)
            refine ⟨.ref st.s, rfl, st.s, .ref st.w, rfl, dgOf hS4.ds (kvW st), .ref p, rfl, p, _, _, _, rfl, rfl, hp4, atI_nat (j := 1) rfl, st.w, _, _, _, rfl, rfl, sqL hS4.wide, at_iv hxw, ?_⟩
            refine ⟨.ref st.s, rfl, st.s, .ref st.w, rfl, dgOf hS4.ds (kvW st), .ref p, rfl, p, _, _, _, rfl, rfl, hp4, atI_nat (j := 2) rfl, st.w, _, _, _, rfl, rfl, sqL hS4.wide, at_iv hyw, szl (show 2 ≤ 1000000 by decide), fun W nW => ?_⟩
            have sW : Same H4 (upd H4 W (.lst [iv st.wide[x], iv st.wide[y]])) := new_same nW
            have eW : upd H4 W (.lst [iv st.wide[x], iv st.wide[y]]) W = some (.lst [iv st.wide[x], iv st.wide[y]]) := upd_same
            generalize upd H4 W (.lst [iv st.wide[x], iv st.wide[y]]) = H5 at sW eW
            have hS5 := hS4.same sW
            have hp5 := Same.tup sW hp4
            refine ⟨.ref st.s, rfl, st.s, .ref st.d, rfl, dgOf hS5.ds (kvD st), .ref p, rfl, p, _, _, _, rfl, rfl, hp5, atI_nat (j := 1) rfl, st.d, _, _, _, rfl, rfl, sqL hS5.deep, at_iv hxd, ?_⟩
            refine ⟨.ref st.s, rfl, st.s, .ref st.d, rfl, dgOf hS5.ds (kvD st), .ref p, rfl, p, _, _, _, rfl, rfl, hp5, atI_nat (j := 2) rfl, st.d, _, _, _, rfl, rfl, sqL hS5.deep, at_iv hyd, szl (show 2 ≤ 1000000 by decide), fun U nU => ?_⟩
            have sU : Same H5 (upd H5 U (.lst [iv st.deep[x], iv st.deep[y]])) := new_same nU
            have eU : upd H5 U (.lst [iv st.deep[x], iv st.deep[y]]) U = some (.lst [iv st.deep[x], iv st.deep[y]]) := upd_same
            generalize upd H5 U (.lst [iv st.deep[x], iv st.deep[y]]) = H6 at sU eU
            have hp6 := Same.tup sU hp5
            have eW6 := sU _ _ eW
            have s6 : Same H3' H6 := (sT.trans sW).trans sU
            generalize st.wide[x] = wx at a1 eW6
            generalize st.wide[y] = wy at a2 eW6
            generalize st.deep[x] = dx at a3 eU
            generalize st.deep[y] = dy at a4 eU
            have fin2 : ∀ (wi : Nat) (u : V) (z5 z7 z9 : Option V), u = iv wi → 1 ≤ wi → tAsg (tIf (tTest (tOp rEq (tIxT K (tVar 4) (tC (.int 0))) (tC (.str "times")))) (tCB (rSum K) (tCons (tVar 8) tNil)) (tCB (rMax K) (tCons (tVar 8) tNil))) (gName 6)
                { nx := fun σ H4 => ∃ (wi de : Nat) (y7 y8 y9 : Option V), σ = [some (.ref st.t), some (.ref st.s), some (iv blk), some (.ref sa), some (.ref p), some (iv wi), some (iv de), y7, y8, y9] ∧ Same H3' H4 ∧ 1 ≤ wi ∧ 1 ≤ de ∧ ((Rw.bin b x y).isBin = false → wi ≤ 24 ∧ de ≤ 8), rt := Q }
                [some (.ref st.t), some (.ref st.s), some (iv blk), some (.ref sa), some (.ref p), some u, z5, z7, some (.ref U), z9] H6 := fun wi u z5 z7 z9 hu1 hwi => by
              subst hu1
              refine ⟨.ref p, rfl, p, _, _, _, rfl, rfl, hp6, atI_nat (j := 0) rfl, rfl, _, rfl, ?_⟩
              show if decide (V.str b.w = V.str "times") = true then _ else _
              generalize decide (V.str b.w = V.str "times") = bb
              cases bb with
              | true =>
                refine ⟨.ref U, rfl, U, [(dx : Int), (dy : Int)], rfl, sqL eU, wi, dx + dy, z7, some (.ref U), z9, ?_, s6, hwi, by omega, fun z => by cases z⟩
                have e : ([(dx : Int), (dy : Int)]).sum = ((dx + dy : Nat) : Int) := by simp
                rw [e]; rfl
              | false =>
                refine ⟨.ref U, rfl, U, [(dx : Int), (dy : Int)], rfl, sqL eU, show 0 < 2 by decide, fun m hm _ => ?_⟩
                have hm2 : m = (dx : Int) ∨ m = (dy : Int) := by simpa using hm
                rcases hm2 with rfl | rfl
                · exact ⟨wi, dx, _, _, _, rfl, s6, hwi, a3.1, fun z => by cases z⟩
                · exact ⟨wi, dy, _, _, _, rfl, s6, hwi, a4.1, fun z => by cases z⟩
            refine ⟨.ref p, rfl, p, _, _, _, rfl, rfl, hp6, atI_nat (j := 0) rfl, rfl, _, rfl, ?_⟩
            show if decide (V.str b.w = V.str "times") = true then _ else _
            generalize decide (V.str b.w = V.str "times") = bb
            cases bb with
            | true =>
              refine ⟨.ref W, rfl, W, _, _, _, rfl, rfl, sqL eW6, atI_nat (j := 0) rfl, .ref W, rfl, W, _, _, _, rfl, rfl, sqL eW6, atI_nat (j := 1) rfl, _, _, rfl, rfl, .inl ⟨by omega, by omega⟩, ?_⟩
              have e : (wx : Int) * (wy : Int) = ((wx * wy : Nat) : Int) := by simp
              have h9 : 1 ≤ wx * wy := Nat.mul_pos a1.1 a2.1
              exact fin2 (wx * wy) (.int ((wx : Int) * (wy : Int))) (some (.int 1)) (some (.ref W)) none (by rw [e]; rfl) h9
            | false =>
              refine ⟨.ref W, rfl, W, [(wx : Int), (wy : Int)], rfl, sqL eW6, ?_⟩
              have e : ([(wx : Int), (wy : Int)]).sum = ((wx + wy : Nat) : Int) := by simp
              exact fin2 (wx + wy) (.int ([(wx : Int), (wy : Int)]).sum) (some (.int 1)) (some (.ref W)) none (by rw [e]; rfl) (by omega)
          | _ => cases hbin
        · rw [if_neg h3]
          exact ⟨1, 1, _, _, _, rfl, sT, Nat.le_refl _, Nat.le_refl _, fun _ => ⟨by decide, by decide⟩⟩
      · obtain ⟨wi, de, y7, y8, y9, rfl, s4, hwi, hde, hnb⟩ := hM
        refine ⟨fun σ H5 => ∃ (wi de : Nat) (y7 y8 y9 : Option V), σ = [some (.ref st.t), some (.ref st.s), some (iv blk), some (.ref sa), some (.ref p), some (iv wi), some (iv de), y7, y8, y9] ∧ Same H3' H5 ∧ 1 ≤ wi ∧ 1 ≤ de ∧ (row.isBin = false → wi ≤ 24 ∧ de ≤ 8), ?_, fun σ H5 hM => ?_⟩
        · have hp4 := Same.tup s4 hp1
          have hS4 := hS3.same s4
          refine ⟨.ref p, rfl, p, _, _, _, rfl, rfl, hp4, atI_nat (j := 0) rfl, rfl, _, rfl, ?_⟩
          show if decide (V.str row.w = V.str "pick") = true then _ else _
          by_cases h3 : decide (V.str row.w = V.str "pick") = true
          · rw [if_pos h3]
            obtain ⟨x, ps, rfl⟩ := pick_is h3
            obtain ⟨qa, rfl, hqa⟩ := hp2
            obtain ⟨hxs, hps, hpl1, hpl2⟩ := hI
            have hpw : ∀ y ∈ ps, y < st.wide.length := fun y hy => by rw [hS.lw]; exact hlt y (hps y hy)
            have hpd : ∀ y ∈ ps, y < st.deep.length := fun y hy => by rw [hS.ld]; exact hlt y (hps y hy)
            unfold tPar tCons tCB
            refine pick_lc (bd := 24) hp4 (Same.tup s4 hqa) hS4.ds (kvW st) hS4.wide hpw hwd.1 hpl2 fun L es H5 s5 eL hel hes => ?_
            refine ⟨L, es.map Int.ofNat, rfl, by rw [ofn_iv]; exact sqL eL, by rw [List.length_map]; omega, fun m hm _ => ?_⟩
            obtain ⟨m1, hm1, rfl⟩ := nat_of hm
            have hS5 := hS4.same s5
            refine pick_lc (bd := 8) (Same.tup s5 hp4) (Same.tup s5 (Same.tup s4 hqa)) hS5.ds (kvD st) hS5.deep hpd hwd.2 hpl2 fun L2 es2 H6 s6 eL2 hel2 hes2 => ?_
            refine ⟨L2, es2.map Int.ofNat, rfl, by rw [ofn_iv]; exact sqL eL2, by rw [List.length_map]; omega, fun m hm _ => ?_⟩
            obtain ⟨m2, hm2, rfl⟩ := nat_of hm
            exact ⟨_, _, rfl, m1, m2, _, _, _, rfl, (s4.trans s5).trans s6, (hes m1 hm1).1, (hes2 m2 hm2).1, fun _ => ⟨(hes m1 hm1).2, (hes2 m2 hm2).2⟩⟩
          · rw [if_neg h3]
            exact ⟨wi, de, _, _, _, rfl, s4, hwi, hde, hnb⟩
        · clear hnb hwi hde
          obtain ⟨wi, de, y7, y8, y9, rfl, s5, hwi, hde, hnb⟩ := hM
          refine ⟨fun σ H6 => ∃ (v : V) (row : Rw) (wi de : Nat) (y7 y8 y9 : Option V), σ = [some (.ref st.t), some (.ref st.s), some (iv blk), some (.ref sa), some v, some (iv wi), some (iv de), y7, y8, y9] ∧ Same H3' H6 ∧ RowAt K (frz st.M H6) v row ∧ RwIn ss row ∧ 1 ≤ wi ∧ wi ≤ 24 ∧ 1 ≤ de ∧ de ≤ 8, ?_, fun σ H6 hM => ?_⟩
          · have hp5 := Same.tup s5 hp1
            have hS5 := hS3.same s5
            have big : (¬ (wi ≤ 24 ∧ de ≤ 8)) → tPar3 4 5 6 (tCons (tTup (tCons (tC (.str "below")) (tCons (tIxT K (tVar 4) (tC (.int 1))) (tCons (tIxT K (tVar 4) (tC (.int 2))) tNil)))) (tCons (tC (.int 1)) (tCons (tC (.int 1)) tNil)))
                { nx := fun σ H6 => ∃ (v : V) (row : Rw) (wi de : Nat) (y7 y8 y9 : Option V), σ = [some (.ref st.t), some (.ref st.s), some (iv blk), some (.ref sa), some v, some (iv wi), some (iv de), y7, y8, y9] ∧ Same H3' H6 ∧ RowAt K (frz st.M H6) v row ∧ RwIn ss row ∧ 1 ≤ wi ∧ wi ≤ 24 ∧ 1 ≤ de ∧ de ≤ 8, rt := Q }
                [some (.ref st.t), some (.ref st.s), some (iv blk), some (.ref sa), some (.ref p), some (iv wi), some (iv de), y7, y8, y9] H5 := fun hbig => by
              have hbin : row.isBin = true := by
                cases hb2 : row.isBin with
                | true => rfl
                | false => exact absurd (hnb hb2) hbig
              cases row with
              | bin b x y =>
                cases hp2
                refine ⟨.ref p, rfl, p, _, _, _, rfl, rfl, hp5, atI_nat (j := 1) rfl, .ref p, rfl, p, _, _, _, rfl, rfl, hp5, atI_nat (j := 2) rfl, szl (show 3 ≤ 1000000 by decide), fun T nT => ?_⟩
                have sT := new_same (o := .tup [.str "below", iv x, iv y]) nT
                exact ⟨_, _, _, rfl, .ref T, .bin .below x y, 1, 1, _, _, _, rfl, s5.trans sT, ⟨T, _, rfl, sqT (frz_at upd_same (hS5.fresh nT)), rfl⟩, hI, Nat.le_refl _, by decide, Nat.le_refl _, by decide⟩
              | _ => cases hbin
            refine ⟨_, rfl, _, _, rfl, rfl, _, rfl, ite2 (fun e => ?_) (fun e => ?_)⟩
            · have h24 : (24 : Int) < (wi : Int) := of_decide_eq_true e
              exact big (by omega)
            · have h24 : ¬ (24 : Int) < (wi : Int) := fun z => e (decide_eq_true z)
              refine ⟨_, rfl, _, _, rfl, rfl, _, rfl, ite2 (fun e => ?_) (fun e => ?_)⟩
              · have h8 : (8 : Int) < (de : Int) := of_decide_eq_true e
                exact big (by omega)
              · have h8 : ¬ (8 : Int) < (de : Int) := fun z => e (decide_eq_true z)
                exact ⟨_, row, wi, de, _, _, _, rfl, s5, hR3.same (Bm.frz (Bm.of_same s5)), hI, hwi, by omega, hde, by omega⟩
          · obtain ⟨v, row', wi', de', z7, z8, z9, rfl, s6, hR6, hI6, k1, k2, k3, k4⟩ := hM
            have hS6 := hS3.same s6
            refine ⟨.ref st.s, rfl, _, rfl, _, rfl, _, rfl, _, rfl, st, c + 33, blk, v, row', wi', de', rfl, hS6, by omega, hR6, fun H7 bm hS7 => ?_⟩
            have b6 : But st.t H H6 := b2.trans (Same.but s6)
            exact q H7 row' wi' de' ((Bm.of_but b6 (tM st)).trans bm) hS7 hI6 k1 k2 k3 k4
end
end Gn
set_option Elab.async false
set_option linter.all false
set_option maxRecDepth 100000
set_option maxHeartbeats 4000000
namespace Gn
open PySem PySem.Spec PyProof.Rows L2
/-! ### meet -/
structure Bs (st : Sta) : Prop where
  r0 : st.rows[0]? = some (.take 0)
  b0 : st.blocks[0]? = some 0
  ab : ∀ xs ∈ st.above, 0 ∈ xs
theorem Bs.pos {st : Sta} (h : Bs st) : 0 < st.rows.length := (List.getElem?_eq_some_iff.mp h.r0).1
theorem Bs.st0 {st : Sta} (h : Bs st) {l : Nat} (hl : l < st.above.length) : 0 ∈ standL st l := by
  refine List.mem_filter.mpr ⟨List.mem_range.mpr h.pos, ?_⟩
  rw [gd h.r0, gd h.b0]
  have h1 : 0 ∈ st.above.getD l [] := h.ab _ (List.mem_of_getElem? (gdl (d := []) hl))
  rw [decide_eq_true h1]
  rfl
/-- each part stands at its lead's end -/
def PartsIn (st : Sta) (ld ps : List Nat) : Prop := ∀ (j p l : Nat), ps[j]? = some p → ld[j]? = some l → p ∈ standL st l
theorem PartsIn.nil {st : Sta} {ld : List Nat} : PartsIn st ld [] := fun j p l h => by cases h
theorem PartsIn.snoc {st : Sta} {ld ps : List Nat} {i l z : Nat} (h : PartsIn st ld ps) (hl : ps.length = i) (e : ld[i]? = some l) (hz : z ∈ standL st l) : PartsIn st ld (ps ++ [z]) := fun j p l' h1 h2 => by
  by_cases hj : j < ps.length
  · rw [List.getElem?_append_left hj] at h1
    exact h j p l' h1 h2
  · have hj2 : j = ps.length := by
      have := (List.getElem?_eq_some_iff.mp h1).1
      rw [List.length_append, List.length_singleton] at this
      omega
    subst hj2
    rw [List.getElem?_append_right (Nat.le_refl _), Nat.sub_self] at h1
    rw [hl, e] at h2
    cases h1
    cases h2
    exact hz
theorem PartsIn.set {st : Sta} {ld ps : List Nat} {i l z : Nat} (h : PartsIn st ld ps) (e : ld[i]? = some l) (hz : z ∈ standL st l) : PartsIn st ld (ps.set i z) := fun j p l' h1 h2 => by
  by_cases hj : i = j
  · subst hj
    have hl : i < ps.length := by
      have := (List.getElem?_eq_some_iff.mp h1).1
      rwa [List.length_set] at this
    rw [List.getElem?_set_self hl] at h1
    rw [e] at h2
    cases h1
    cases h2
    exact hz
  · rw [List.getElem?_set_ne hj] at h1
    exact h j p l' h1 h2
theorem PartsIn.cast {st st' : Sta} {ld ps : List Nat} (h : PartsIn st ld ps) (e : ∀ l y, y ∈ standL st l → y ∈ standL st' l) : PartsIn st' ld ps := fun j p l h1 h2 => e l p (h j p l h1 h2)
def spMeet (K : PySem.W.Frag) : Sp := fun vs H Q _ => ∃ (st : Sta) (c blk : Nat) (ld : List Nat), vs = [.ref st.t, .ref st.s, iv blk] ∧ StaOk K H st c ∧ WD st ∧ Bs st ∧ st.leads[blk]? = some ld ∧ 1 ≤ ld.length ∧ ld.length ≤ 12 ∧ (∀ l ∈ ld, l < st.above.length) ∧ c + 20 ≤ 100000000 ∧ st.rows.length ≤ 900 ∧
  ∀ (H' : Hp) (ps : List Nat) (wi de : Nat), Bm st.M H H' → StaOk K H' (st.put blk (.meet ps) wi de) (c + 20) → ps.length = ld.length → (∀ y ∈ ps, y < st.rows.length) → PartsIn st ld ps → 1 ≤ wi → wi ≤ 24 → 1 ≤ de → de ≤ 8 → Q .non H'
abbrev nMeet : List Str := ["_law_tape_here", "_law_state", "_law_block", "_law_leads_here", "_law_parts", "_law_lead", "_law_some", "_law_part"]
theorem scMeet : FnScope nMeet ["_law_tape_here", "_law_state", "_law_block"] (defScope sMeet) := ⟨rfl, rfl, rfl, by decide +kernel, rfl, by decide +kernel, by decide +kernel⟩
abbrev tStand (K : PySem.W.Frag) (a b : TE) : TE := tCall (spStanding K) [] E0 (tCons a (tCons b tNil))
section
variable {P : Program} {w : World} {K : PySem.W.Frag} {mg : Str → Option Value} {base : Heap}
theorem ok_meet {f fD fS fP : Addr} {fd fdD fdS fdP : FuncData} {k : Nat} (D : Df K mg "_law_meet" sMeet ["_law_tape_here", "_law_state", "_law_block"] f fd) (B : Bi mg)
    (DD : Df K mg "_law_draw" sDraw ["_law_tape_here", "_law_many_here"] fD fdD) (GD : FnOk P w K mg base CX0 k fD fdD ["_law_tape_here", "_law_many_here"] spDraw)
    (DS : Df K mg "_law_standing" sStanding ["_law_state", "_law_block"] fS fdS) (GS : FnOk P w K mg base CX0 k fS fdS ["_law_state", "_law_block"] (spStanding K))
    (DP : Df K mg "_law_put" sPut ["_law_state", "_law_block", "_law_row", "_law_wide", "_law_deep"] fP fdP) (GP : FnOk P w K mg base CX0 k fP fdP ["_law_state", "_law_block", "_law_row", "_law_wide", "_law_deep"] (spPut K)) :
    FnOk P w K mg base CX0 (k + 1) f fd ["_law_tape_here", "_law_state", "_law_block"] (spMeet K) := by
  refine D.F.ok scMeet (fun vs H Q E h => ?_) (fun cdv A outer s H vs Q E hr h => ?_)
  · obtain ⟨st, c, blk, ld, rfl, _⟩ := h
    rfl
  · obtain ⟨st, c, blk, ld, rfl, hS, hwd, hB, hld, hl1, hl2, hla, hc, hl, q⟩ := h
    have hu := hu_of hr
    refine ⟨_, pss_cons (ps_asg (pe_tup (pa_cons (pe_ix ix_list (pe_dget hu (pv 1) pe_str (fun _ _ => rfl)) (pv 2) (fun _ _ => rfl)) (pa_cons (pe_lst pa_nil) pa_nil))) (pg_tup rfl (pgs_cons (pg_name (i := 3) scMeet.nd rfl (.inl rfl)) (pgs_cons (pg_name (i := 4) scMeet.nd rfl (.inr rfl)) pgs_nil))))
      (pss_cons (ps_for PassesOwn.never rfl (pi_list (pv 3)) (pg_name (i := 5) scMeet.nd rfl (.inl rfl))
        (Evl.pss_cut (ps_set (i := 6) scMeet.nd rfl (.inl rfl) (pe_ifExp (pt_cmpR op_lt (pv 5) (pv 2) (nomark _)) (pe_call GS hr (by rfl) DS.g DS.F.kp DS.b .nil pass0 (pa_cons (pv 1) (pa_cons (pv 5) pa_nil))) (pe_lst (pa_cons pe_int pa_nil))))
        (pss_one (ps_expr (pe_bm PySem.F.plainAttrs_list PySem.F.slot_list_append PySem.F.type_list_append mt_append (pv 4) (pa_cons (pe_ix ix_list (pv 6) (pe_call GD hr (by rfl) DD.g DD.F.kp DD.b .nil pass0 (pa_cons (pv 0) (pa_cons (pe_callB call_len_seq (by rfl) B.len PySem.boot_len (pa_cons (pv 6) pa_nil)) pa_nil))) (fun _ _ => rfl)) pa_nil))))))
      (Evl.pss_cut (ps_if (pt_cmpR op_eq (pe_call GD hr (by rfl) DD.g DD.F.kp DD.b .nil pass0 (pa_cons (pv 0) (pa_cons pe_int pa_nil))) pe_int (nomark _))
        (pss_one (ps_set (i := 4) scMeet.nd rfl (.inr rfl) (pe_lc (own := [("_law_lead", 5), ("_law_part", 7)]) (g := gTup K 2 (gCons (gName 5) (gCons (gName 7) gNil))) (tt := tYes)
          (te := tIf (tIn K (tIxL K (tVar 4) (tC (.int 0))) (tStand K (tVar 1) (tVar 5))) (tIxL K (tVar 4) (tC (.int 0))) (tVar 7)) rfl scMeet.nd
          (pi_zip (by rfl) B.zip (pa_cons (pv 3) (pa_cons (pv 4) pa_nil))) (blkOk_by (own := [("_law_lead", 5), ("_law_part", 7)]) (N := nMeet) (sc := defScope sMeet) (by decide +kernel))
          (fun _ _ _ _ _ => pg_tup rfl (pgs_cons (pg_name (i := 5) scMeet.nd rfl (.inl rfl)) (pgs_cons (pg_name (i := 7) scMeet.nd rfl (.inl rfl)) pgs_nil))) (fun _ _ _ _ _ => pts_nil)
          (fun _ _ _ _ _ => pe_ifExp (pt_cmpR op_in_seq (pe_ix ix_list (pv 4) pe_int (fun _ _ => rfl)) (pe_call GS hr (by rfl) DS.g DS.F.kp DS.b .nil pass0 (pa_cons (pv 1) (pa_cons (pv 5) pa_nil))) rfl) (pe_ix ix_list (pv 4) pe_int (fun _ _ => rfl)) (pv 7))))) pss_nil)
      (pss_one (ps_expr (pe_call GP hr (by rfl) DP.g DP.F.kp DP.b .nil pass0 (pa_cons (pv 1) (pa_cons (pv 2) (pa_cons (pe_tup (pa_cons pe_str (pa_cons (pe_callTy call_tuple_of (by rfl) B.tuple PyProof.Rows.boot_tuple (pa_cons (pv 4) pa_nil)) pa_nil)))
        (pa_cons (pe_ix ix_list (pe_dget hu (pv 1) pe_str (fun _ _ => rfl)) (pe_ix ix_list (pv 4) pe_int (fun _ _ => rfl)) (fun _ _ => rfl)) (pa_cons (pe_ix ix_list (pe_dget hu (pv 1) pe_str (fun _ _ => rfl)) (pe_ix ix_list (pv 4) pe_int (fun _ _ => rfl)) (fun _ _ => rfl)) pa_nil)))))))))), ?_⟩
    obtain ⟨zs, la, u1, u2, u3, u4⟩ := hS.leads.at hld
    have u1o := (frz_same _ _).seq u1
    refine ⟨.ref st.s, rfl, st.s, .ref st.L, rfl, dgOf hS.ds (kvL st), _, rfl, st.L, zs, _, .ref la, rfl, rfl, u1o, u3, Nat.zero_le _, fun pa npa => ⟨szl (show 2 ≤ 1000000 by decide), fun p0 np0 => ⟨p0, _, rfl, sqT upd_same, rfl, _, _, rfl, _, _, rfl, rfl, ?_⟩⟩⟩
    have s0 : Same H (upd (upd H pa (.lst [])) p0 (.tup [.ref la, .ref pa])) := (new_same npa).trans (new_same np0)
    have npa0 : pa ≠ p0 := ne_of_none upd_same np0
    have mpa := hS.fresh npa
    have npt : pa ≠ st.t := fun e => mpa (e ▸ tM st)
    have sqd : ∀ {H1 : Hp}, But st.t H H1 → SqL K H1 la (ld.map iv) := fun b => sq_out (sq_but u4 b)
    refine ⟨.ref la, rfl, la, rfl, ⟨_, s0.seq (sq_out u4)⟩, ?_⟩
    refine for_list (K := K) (a := la) (xs := ld.map iv) (fun i σ H1 => ∃ (ps : List Nat) (y5 y6 : Option V), σ = [some (.ref st.t), some (.ref st.s), some (iv blk), some (.ref la), some (.ref pa), y5, y6, none] ∧ But st.t H H1 ∧ Tape H1 st.t (c + i) ∧ H1 pa = some (.lst (ps.map iv)) ∧ ps.length = i ∧ (∀ y ∈ ps, y < st.rows.length) ∧ PartsIn st ld ps)
      ⟨[], none, none, rfl, Same.but s0, hS.tape.same s0, by rw [upd_ne npa0]; exact upd_same, rfl, (fun y h => by cases h), PartsIn.nil⟩ (fun i σ H1 _ hP => ?_) (fun i x σ H1 hx hP => ?_) (fun σ H1 hP => ?_)
    · obtain ⟨_, _, _, _, b, _⟩ := hP
      exact sqd b
    · obtain ⟨ps, y5, y6, rfl, b1, T1, epa, hpl, hps, hpi⟩ := hP
      rw [List.getElem?_map] at hx
      obtain ⟨l, hl0, rfl⟩ := Option.map_eq_some_iff.mp hx
      have hlm := List.mem_of_getElem? hl0
      have hil := (List.getElem?_eq_some_iff.mp hl0).1
      have hS1 := hS.bt b1 T1
      refine ⟨fun σ H2 => ∃ (sa : Addr) (ss : List Nat), σ = [some (.ref st.t), some (.ref st.s), some (iv blk), some (.ref la), some (.ref pa), some (iv l), some (.ref sa), none] ∧ Same H1 H2 ∧ H2 sa = some (.lst (ss.map iv)) ∧ H1 sa = none ∧ 0 < ss.length ∧ ss.length ≤ 1000 ∧ (∀ y ∈ ss, y < st.rows.length) ∧ ∀ y ∈ ss, y ∈ standL st l, ?_, fun σ H2 hM => ?_⟩
      · refine ⟨_, rfl, _, rfl, _, _, rfl, rfl, _, rfl, ite2 (fun e => ?_) (fun e => ?_)⟩
        · refine ⟨.ref st.s, rfl, iv l, rfl, st, c + i, l, rfl, hS1, hla l hlm, by omega, fun sa H2 nsa s2 esa => ⟨sa, _, rfl, s2, esa, nsa, List.length_pos_of_mem (hB.st0 (hla l hlm)), Nat.le_trans (standL_len _ _) (by omega), (fun y h => standL_lt h), fun y h => h⟩⟩
        · exact ⟨szl (show 1 ≤ 1000000 by decide), fun sa nsa => ⟨sa, [0], rfl, new_same nsa, upd_same, nsa, Nat.one_pos, by decide, (fun y h => by rw [List.mem_singleton.mp h]; exact hB.pos), fun y h => by rw [List.mem_singleton.mp h]; exact hB.st0 (hla l hlm)⟩⟩
      · obtain ⟨sa, ss, rfl, s2, esa, nsa, hs0, hs1, hss, hsi⟩ := hM
        have T2 := T1.same s2
        have epa2 := s2 _ _ epa
        have nst : sa ≠ st.t := T1.ne nsa
        have hlm2 : ((ss.map iv).length : Int) = (ss.length : Int) := by rw [List.length_map]
        refine ⟨.ref pa, rfl, .inl ⟨rfl, _, sqL epa2⟩, .ref sa, rfl, .ref st.t, rfl, .ref sa, rfl, sa, _, rfl, .inl (sqL esa), st.t, _, c + i, rfl, T2, by omega, by omega, by omega, fun r H3 h3 b3 T3 => ?_⟩
        have hr3 : r < ss.length := by omega
        have epa3 := b3 pa _ npt epa2
        refine ⟨sa, _, _, _, rfl, rfl, sqL (b3 sa _ nst esa), at_iv hr3, pa, _, _, rfl, rfl, epa3, by rw [List.length_map]; exact szt (by omega), ?_⟩
        refine ⟨ps ++ [ss[r]], _, _, rfl, fun a o n e => ?_, ?_, ?_, ?_, ?_, hpi.snoc hpl hl0 (hsi _ (List.getElem_mem hr3))⟩
        · rw [upd_ne (ne_of_none e npa)]
          exact b3 a o n (s2 _ _ (b1 a o n e))
        · obtain ⟨a1, a2, a3, a4, a5⟩ := T3
          exact ⟨a1, a2, a3, by rw [upd_ne npt.symm]; exact a4, a5⟩
        · rw [upd_same, List.map_append]; rfl
        · rw [List.length_append, List.length_singleton, hpl]
        · intro y hy
          rcases List.mem_append.mp hy with h | h
          · exact hps y h
          · rw [List.mem_singleton.mp h]; exact hss _ (List.getElem_mem hr3)
    · obtain ⟨ps, y5, y6, rfl, b1, T1, epa, hpl, hps, hpi⟩ := hP
      rw [List.length_map] at hpl T1
      refine ⟨fun σ H2 => ∃ (pb : Addr) (ms : List Nat) (y5 y6 y7 : Option V), σ = [some (.ref st.t), some (.ref st.s), some (iv blk), some (.ref la), some (.ref pb), y5, y6, y7] ∧ But st.t H H2 ∧ Tape H2 st.t (c + 13) ∧ H2 pb = some (.lst (ms.map iv)) ∧ ms.length = ld.length ∧ (∀ y ∈ ms, y < st.rows.length) ∧ PartsIn st ld ms, ?_, fun σ H2 hM => ?_⟩
      · refine ⟨.ref st.t, rfl, st.t, 3, c + ld.length, rfl, T1, by omega, by decide, by decide, fun r H2 h2 b2 T2 => ⟨rfl, _, rfl, ?_⟩⟩
        have b12 := b1.trans b2
        have epa2 := b2 pa _ npt epa
        have T2' := T2.mono (show c + ld.length + 1 ≤ c + 13 by omega)
        show if decide (V.int (r : Int) = V.int 0) = true then _ else _
        generalize decide (V.int (r : Int) = V.int 0) = bb
        cases bb with
        | false => exact ⟨pa, ps, _, _, _, rfl, b12, T2', epa2, hpl, hps, hpi⟩
        | true =>
          have hS2 := hS.bt b12 T2
          refine ⟨.ref la, rfl, .ref pa, rfl, la, pa, ld.map iv, ps.map iv, rfl, sqd b12, sqL epa2, fun L nL => ?_⟩
          have h0 : 0 < ps.length := by omega
          refine lc_it (walk_zip (xs := ld.map iv) (ys := ps.map iv) (n := ld.length) (by rw [List.length_map, List.length_map, hpl, Nat.min_self])) (fun i H3 => Same H2 H3 ∧ ∃ ms : List Nat, H3 L = some (.lst (ms.map iv)) ∧ ms.length = i ∧ (∀ y ∈ ms, y < st.rows.length) ∧ PartsIn st ld ms)
            ⟨new_same nL, [], upd_same, rfl, (fun y h => by cases h), PartsIn.nil⟩ (fun i H3 _ hP => ⟨hP.1.seq (sqd b12), sqL (hP.1 _ _ epa2)⟩) (fun i x H3 H4 hi hP hY => ?_) (fun H3 hP => ?_)
          · obtain ⟨s3, ms, eL, hml, hms, hmi⟩ := hP
            obtain ⟨T, x1, x2, rfl, nT, rfl, e1, e2⟩ := hY
            have e1 : (ld.map iv)[i]? = some x1 := e1
            have e2 : (ps.map iv)[i]? = some x2 := e2
            rw [List.getElem?_map] at e1 e2
            obtain ⟨l, hl0, rfl⟩ := Option.map_eq_some_iff.mp e1
            obtain ⟨y, hy0, rfl⟩ := Option.map_eq_some_iff.mp e2
            have hlm := List.mem_of_getElem? hl0
            have hym := hps y (List.mem_of_getElem? hy0)
            have sT := new_same (o := .tup [iv l, iv y]) nT
            have s4 := s3.trans sT
            have epa4 := s4 _ _ epa2
            have eL4 := sT _ _ eL
            have put1 : ∀ (H5 : Hp) (z : Nat), Same (upd H3 T (.tup [iv l, iv y])) H5 → z < st.rows.length → z ∈ standL st l → ∃ acc, H5 L = some (.lst acc) ∧ acc.length < sizeLine ∧ Same H2 (upd H5 L (.lst (acc ++ [iv z]))) ∧ ∃ ms : List Nat, upd H5 L (.lst (acc ++ [iv z])) L = some (.lst (ms.map iv)) ∧ ms.length = i + 1 ∧ (∀ y ∈ ms, y < st.rows.length) ∧ PartsIn st ld ms := fun H5 z s5 hz hzs => by
              refine ⟨_, s5 _ _ eL4, by rw [List.length_map]; exact szt (by omega), fun a o e => ?_, ms ++ [z], ?_, ?_, ?_, hmi.snoc hml hl0 hzs⟩
              · rw [upd_ne (ne_of_none e nL)]; exact s5 _ _ (s4 _ _ e)
              · rw [upd_same, List.map_append]; rfl
              · rw [List.length_append, List.length_singleton, hml]
              · intro y hy
                rcases List.mem_append.mp hy with h | h
                · exact hms y h
                · rw [List.mem_singleton.mp h]; exact hz
            refine ⟨T, _, rfl, sqT upd_same, rfl, _, _, rfl, _, _, rfl, rfl, rfl, .ref pa, rfl, pa, _, _, _, rfl, rfl, sqL epa4, at_iv h0, .ref st.s, rfl, _, rfl, st, _, l, rfl, hS2.same s4, hla l hlm, by omega, fun sa H5 nsa s5 esa => ?_⟩
            refine ⟨sa, _, rfl, .inl (sqL esa), rfl, flat_iv _, _, rfl, ?_⟩
            show if inV (iv ps[0]) ((standL st l).map iv) = true then _ else _
            rw [inV_iv]
            by_cases hin : ps[0] ∈ standL st l
            · rw [if_pos (decide_eq_true hin)]
              exact ⟨.ref pa, rfl, pa, _, _, _, rfl, rfl, sqL (s5 _ _ epa4), at_iv h0, put1 H5 _ s5 (hps _ (List.getElem_mem h0)) hin⟩
            · rw [if_neg (fun z => hin (of_decide_eq_true z))]
              exact ⟨_, rfl, put1 H5 _ s5 hym (hpi i y l hy0 hl0)⟩
          · obtain ⟨s3, ms, eL, hml, hms, hmi⟩ := hP
            exact ⟨L, ms, _, _, _, rfl, b12.trans (Same.but s3), T2'.same s3, eL, hml, hms, hmi⟩
      · obtain ⟨pb, ms, z5, z6, z7, rfl, b2, T2, epb, hml, hms, hmi⟩ := hM
        have hS2 := hS.bt b2 T2
        have h0 : 0 < ms.length := by omega
        refine ⟨.ref st.s, rfl, _, rfl, .ref pb, rfl, pb, _, rfl, .inl ⟨sqL epb, fun T nT => ⟨szl (show 2 ≤ 1000000 by decide), fun p np => ?_⟩⟩⟩
        have sT := new_same (o := .tup (ms.map iv)) nT
        have sp' := new_same (o := .tup [.str "meet", .ref T]) np
        have mT := hS2.fresh nT
        have mp := (hS2.same sT).fresh np
        have hS3 := (hS2.same sT).same sp'
        have epb3 := sp' _ _ (sT _ _ epb)
        have hw0 : ms[0] < st.wide.length := by rw [hS.lw]; exact hms _ (List.getElem_mem h0)
        have hd0 : ms[0] < st.deep.length := by rw [hS.ld]; exact hms _ (List.getElem_mem h0)
        refine ⟨.ref st.s, rfl, st.s, .ref st.w, rfl, dgOf hS3.ds (kvW st), .ref pb, rfl, pb, _, _, _, rfl, rfl, sqL epb3, at_iv h0, st.w, _, _, _, rfl, rfl, sqL hS3.wide, at_iv hw0, ?_⟩
        refine ⟨.ref st.s, rfl, st.s, .ref st.d, rfl, dgOf hS3.ds (kvD st), .ref pb, rfl, pb, _, _, _, rfl, rfl, sqL epb3, at_iv h0, st.d, _, _, _, rfl, rfl, sqL hS3.deep, at_iv hd0, ?_⟩
        have a1 := hwd.1 _ (List.getElem_mem hw0)
        have a2 := hwd.2 _ (List.getElem_mem hd0)
        refine ⟨st, c + 13, blk, .ref p, .meet ms, _, _, rfl, hS3, by omega, ⟨p, _, rfl, sqT (frz_at upd_same mp), T, rfl, sqT (frz_at (sp' _ _ upd_same) mT)⟩, fun H4 bm hS4 => ?_⟩
        have b3 : But st.t H (upd (upd H2 T (.tup (ms.map iv))) p (.tup [.str "meet", .ref T])) := b2.trans (Same.but (sT.trans sp'))
        exact q H4 ms _ _ ((Bm.of_but b3 (tM st)).trans bm) (hS4.bt (But.refl _ _) (hS4.tape.mono (by omega))) hml hms hmi a1.1 a1.2 a2.1 a2.2
end
end Gn
set_option Elab.async false
set_option linter.all false
set_option maxRecDepth 100000
set_option maxHeartbeats 4000000
namespace Gn
open PySem PySem.Spec PyProof.Rows L2
/-! ### later -/
def RwB (n : Nat) : Rw → Prop
  | .take i => i ≤ 5
  | .num z => -4 ≤ z ∧ z ≤ 10 ^ 12
  | .bin _ x y => x < n ∧ y < n
  | .pick x ps => x < n ∧ (∀ y ∈ ps, y < n) ∧ ps.length ≤ 5 ∧ ps ≠ []
  | .meet ps => (∀ y ∈ ps, y < n) ∧ ps.length ≤ 12
  | .tell x => x < n
  | .look rs x => x < n ∧ RmOk rs
  | .lay rs x y => x < n ∧ y < n ∧ RmOk rs
def Rw.rdata : Rw → List PyData
  | .take i => [nd i]
  | .num n => [.int n]
  | .bin _ x y => [nd x, nd y]
  | .pick x ps => [nd x, .tuple (ps.map nd)]
  | .meet ps => [.tuple (ps.map nd)]
  | .tell x => [nd x]
  | .look rs x => [.tuple (rs.map nd), nd x]
  | .lay rs x y => [.tuple (rs.map nd), nd x, nd y]
theorem data_eq (r : Rw) : r.data = .tuple (.str r.w :: r.rdata) := by cases r <;> rfl
theorem rest_dp {K : PySem.W.Frag} {H : Hp} {r : Rw} {xs : List V} (h : Rest K H r xs) : DpAll K H xs r.rdata := by
  cases r with
  | take i => cases h; exact .cons (.int _) .nil
  | num n => cases h; exact .cons (.int _) .nil
  | bin b x y => cases h; exact .cons (.int _) (.cons (.int _) .nil)
  | pick x ps =>
    obtain ⟨q, rfl, h3⟩ := h
    exact .cons (.int _) (.cons (.tup h3 (dp_nats ps)) .nil)
  | meet ps =>
    obtain ⟨q, rfl, h3⟩ := h
    exact .cons (.tup h3 (dp_nats ps)) .nil
  | tell x => cases h; exact .cons (.int _) .nil
  | look rs x =>
    obtain ⟨q, rfl, h3⟩ := h
    exact .cons (.tup h3 (dp_nats rs)) (.cons (.int _) .nil)
  | lay rs x y =>
    obtain ⟨q, rfl, h3⟩ := h
    exact .cons (.tup h3 (dp_nats rs)) (.cons (.int _) (.cons (.int _) .nil))
theorem sh_rest (r : Rw) : SeqAt.shaped (.tuple r.rdata) = true := by
  have h1 := lay_row r
  have h2 := dep_row r
  rw [data_eq] at h1 h2
  simp only [PyData.canLay0, PyData.canLayAll0, Bool.and_eq_true] at h1
  simp only [PyData.depth, PyData.depthAll] at h2
  unfold SeqAt.shaped
  have h3 : (PyData.tuple r.rdata).canLay0 = true := by simp only [PyData.canLay0]; exact h1.2
  have h4 : (PyData.tuple r.rdata).depth ≤ 64 := by
    simp only [PyData.depth]
    omega
  rw [h3, decide_eq_true h4]
  rfl
theorem sh_int (n : Nat) : SeqAt.shaped (.int (n : Int)) = true := by
  unfold SeqAt.shaped
  simp [PyData.canLay0, PyData.depth]
theorem cut_one (x : V) (xs : List V) : cutV (x :: xs) (some 1) none = xs := by
  unfold cutV
  rw [show HT.sIx (x :: xs).length 0 (some 1) = min 1 (x :: xs).length from HT.sIx_nat (x :: xs).length 0 1, HT.sIx_none]
  rw [show min 1 (x :: xs).length = 1 by rw [List.length_cons]; omega]
  show (List.take ((x :: xs).length - 1) xs) = xs
  rw [List.length_cons, Nat.add_sub_cancel]
  exact List.take_length
theorem cut_not (x : V) (xs : List V) : ¬ (HT.sIx (x :: xs).length 0 (some 1) = 0 ∧ HT.sIx (x :: xs).length (x :: xs).length none = (x :: xs).length) := by
  rw [show HT.sIx (x :: xs).length 0 (some 1) = min 1 (x :: xs).length from HT.sIx_nat (x :: xs).length 0 1]
  rw [List.length_cons]
  omega
theorem ixN_nat {n j : Nat} (h : j < n) : ixN n (j : Int) = some j := by
  unfold ixN
  rw [if_pos (by omega), if_pos (by omega), Int.toNat_natCast]
theorem pd_set {α β : Type} {F : α → β → Prop} {a : α} {b : β} : ∀ {l : List α} {m : List β} (k : Nat), Paired F l m → F a b → Paired F (l.set k a) (m.set k b)
  | _, _, _, .nil, _ => .nil
  | _, _, 0, .cons h t, g => .cons g t
  | _, _, k + 1, .cons h t, g => .cons h (pd_set k t g)
theorem meet_is {r : Rw} (h : decide (V.str r.w = V.str "meet") = true) : ∃ ps, r = .meet ps := by
  cases r with
  | meet ps => exact ⟨ps, rfl⟩
  | bin b x y => cases b <;> cases (show false = true from h)
  | take _ => cases (show false = true from h)
  | num _ => cases (show false = true from h)
  | pick _ _ => cases (show false = true from h)
  | tell _ => cases (show false = true from h)
  | look _ _ => cases (show false = true from h)
  | lay _ _ _ => cases (show false = true from h)
def Sta.rw (st : Sta) (rs : List Rw) : Sta := { st with rows := rs }
def MeetOk (st : Sta) : Prop := ∀ k ps, st.rows[k]? = some (.meet ps) → ∃ ld, st.leads[st.blocks.getD k 0]? = some ld ∧ ps.length = ld.length ∧ 1 ≤ ld.length ∧ ld.length ≤ 12 ∧ (∀ l ∈ ld, l < st.above.length) ∧ PartsIn st ld ps
theorem StaOk.setRow {K : PySem.W.Frag} {H : Hp} {st : Sta} {rs : List Rw} {c i : Nat} {vs : List V} {v : V} {row : Rw} (h : StaOk K H (st.rw rs) c) (hr : H st.r = some (.lst vs)) (pd : Paired (RowAt K (frz st.M H)) vs rs) (hv : RowAt K (frz st.M H) v row) :
    StaOk K (upd H st.r (.lst (vs.set i v))) (st.rw (rs.set i row)) c ∧ Bm st.M H (upd H st.r (.lst (vs.set i v))) := by
  have hn : st.M.Nodup := h.nd
  simp only [Sta.M, List.nodup_cons, List.mem_cons, List.not_mem_nil, or_false, not_or] at hn
  obtain ⟨⟨n1, n2, n3, n4⟩, ⟨n5, n6, n7⟩, _⟩ := hn
  have bm : Bm st.M H (upd H st.r (.lst (vs.set i v))) := fun a o n e => by
    rw [upd_ne (fun z => n (by rw [z]; simp [Sta.M]))]
    exact e
  have f := bm.frz
  refine ⟨⟨h.nd, ?_, f _ _ h.dict, ⟨vs.set i v, upd_same, pd_set i (pd_mono pd fun _ _ z => z.same f) (hv.same f)⟩, ?_, ?_, ?_, h.leads.same f, h.above.same f, ?_, ?_, ?_⟩, bm⟩
  · obtain ⟨a1, a2, a3, a4, a5⟩ := h.tape
    exact ⟨a1, a2, a3, by show L2.upd H st.r _ st.t = _; rw [upd_ne n1]; exact a4, a5⟩
  · show L2.upd H st.r _ st.b = _
    rw [upd_ne (Ne.symm n5)]; exact h.blocks
  · show L2.upd H st.r _ st.w = _
    rw [upd_ne (Ne.symm n6)]; exact h.wide
  · show L2.upd H st.r _ st.d = _
    rw [upd_ne (Ne.symm n7)]; exact h.deep
  · show st.blocks.length = (rs.set i row).length
    rw [List.length_set]; exact h.lb
  · show st.wide.length = (rs.set i row).length
    rw [List.length_set]; exact h.lw
  · show st.deep.length = (rs.set i row).length
    rw [List.length_set]; exact h.ld
theorem keep_step {H6 H7 : Hp} {L : Addr} {es : List Nat} {jj x : Nat} {Pr : Nat → Prop} (s : Same H6 H7) (nL : H6 L = none) (e : H7 L = some (.lst (es.map iv))) (hl : es.length ≤ jj) (hj : jj < 900000) (he : ∀ y ∈ es, Pr y) (hx : Pr x) :
    ∃ acc, H7 L = some (.lst acc) ∧ acc.length < sizeLine ∧ Same H6 (upd H7 L (.lst (acc ++ [iv x]))) ∧ ∃ es : List Nat, upd H7 L (.lst (acc ++ [iv x])) L = some (.lst (es.map iv)) ∧ es.length ≤ jj + 1 ∧ ∀ y ∈ es, Pr y := by
  refine ⟨_, e, by rw [List.length_map]; exact szt (by omega), fun a o z => ?_, es ++ [x], ?_, ?_, ?_⟩
  · rw [upd_ne (ne_of_none z nL)]; exact s _ _ z
  · rw [upd_same, List.map_append]; rfl
  · rw [List.length_append, List.length_singleton]; omega
  · intro y hy
    rcases List.mem_append.mp hy with h | h
    · exact he y h
    · rw [List.mem_singleton.mp h]; exact hx
def Rw.isM : Rw → Bool
  | .meet _ => true
  | _ => false
/-- whether the k-th row is a meet -/
def mB (rs : List Rw) (k : Nat) : Bool := (rs.getD k (.take 0)).isM
theorem mB_at {rs : List Rw} {k : Nat} {r : Rw} (h : rs[k]? = some r) : mB rs k = r.isM := by
  unfold mB
  rw [List.getD_eq_getElem?_getD, h]
  rfl
theorem mB_set {rs : List Rw} {i k : Nat} {ps : List Nat} (hi : i < rs.length) : mB (rs.set i (.meet ps)) k = if k = i then true else mB rs k := by
  unfold mB
  rw [List.getD_eq_getElem?_getD, List.getElem?_set, List.getD_eq_getElem?_getD]
  by_cases h : k = i
  · subst h
    rw [if_pos rfl, if_pos rfl, if_pos hi]
    rfl
  · rw [if_neg (fun z : i = k => h z.symm), if_neg h]
theorem stand_rw {st : Sta} {rs : List Rw} (hl : rs.length = st.rows.length) (hm : ∀ k, mB rs k = mB st.rows k) (hs : ∀ k, mB st.rows k = false → rs[k]? = st.rows[k]?) (l : Nat) : standL (st.rw rs) l = standL st l := by
  have hw : ∀ k, (rs.getD k (.take 0)).worthy = (st.rows.getD k (.take 0)).worthy := fun k => by
    by_cases h : mB st.rows k = false
    · rw [List.getD_eq_getElem?_getD, List.getD_eq_getElem?_getD, hs k h]
    · have h1 : mB st.rows k = true := by simpa using h
      have h2 : mB rs k = true := by rw [hm]; exact h1
      unfold mB at h1 h2
      generalize rs.getD k (.take 0) = a at h2
      generalize st.rows.getD k (.take 0) = b at h1
      cases a <;> cases h2
      cases b <;> cases h1
      rfl
  unfold standL
  show (List.range rs.length).filter _ = _
  rw [hl]
  refine List.filter_congr fun k _ => ?_
  show (decide (st.blocks.getD k 0 ∈ st.above.getD l []) && (rs.getD k (.take 0)).worthy) = _
  rw [hw]
def spLater (K : PySem.W.Frag) : Sp := fun vs H Q _ => ∃ (st : Sta) (c : Nat), vs = [.ref st.t, .ref st.s] ∧ StaOk K H st c ∧ Bs st ∧ MeetOk st ∧ (∀ r ∈ st.rows, RwB st.rows.length r) ∧ c + 24 * st.rows.length ≤ 90000000 ∧ st.rows.length ≤ 900 ∧
  ∀ (H' : Hp) (rs : List Rw), Bm st.M H H' → StaOk K H' (st.rw rs) (c + 24 * st.rows.length) → rs.length = st.rows.length → Bs (st.rw rs) → (∀ r ∈ rs, RwB st.rows.length r) → MeetOk (st.rw rs) → (∀ k, mB rs k = mB st.rows k) → (∀ k, mB st.rows k = false → rs[k]? = st.rows[k]?) → Q .non H'
abbrev nLater : List Str := ["_law_tape_here", "_law_state", "_law_k", "_law_row", "_law_block", "_law_parts", "_law_place", "_law_lead", "_law_some", "_law_near", "_law_own", "_law_one"]
theorem scLater : FnScope nLater ["_law_tape_here", "_law_state"] (defScope sLater) := ⟨rfl, rfl, rfl, by decide +kernel, rfl, by decide +kernel, by decide +kernel⟩
abbrev ttOwn (K : PySem.W.Frag) : TT := tTest (tOp (rInT K) (tVar 2) (tSl (rSlT K) (tIxL K (tDGet (tVar 1) (tC (.str "rows"))) (tVar 11)) (tPart (tC (.int 1))) tNoPart))
abbrev ttNear (K : PySem.W.Frag) : TT := tOr (tTest (tOp rEq (tVar 11) (tVar 2))) (tTest (tOp rEq (tVar 11) (tIxL K (tVar 5) (tC (.int 0)))))
section
variable {P : Program} {w : World} {K : PySem.W.Frag} {mg : Str → Option Value} {base : Heap}
theorem ok_later {f fD fS : Addr} {fd fdD fdS : FuncData} {k : Nat} (D : Df K mg "_law_later" sLater ["_law_tape_here", "_law_state"] f fd) (B : Bi mg)
    (DD : Df K mg "_law_draw" sDraw ["_law_tape_here", "_law_many_here"] fD fdD) (GD : FnOk P w K mg base CX0 k fD fdD ["_law_tape_here", "_law_many_here"] spDraw)
    (DS : Df K mg "_law_standing" sStanding ["_law_state", "_law_block"] fS fdS) (GS : FnOk P w K mg base CX0 k fS fdS ["_law_state", "_law_block"] (spStanding K)) :
    FnOk P w K mg base CX0 (k + 1) f fd ["_law_tape_here", "_law_state"] (spLater K) := by
  refine D.F.ok scLater (fun vs H Q E h => ?_) (fun cdv A outer s H vs Q E hr h => ?_)
  · obtain ⟨st, c, rfl, _⟩ := h
    rfl
  · obtain ⟨st, c, rfl, hS, hB, hM, hRB, hc, hl, q⟩ := h
    have hu := hu_of hr
    have hu65 : (A.deeper (envOfC "_law_later" (defScope sLater) s.heap.objs.size f cdv)).units + 65 < cLine := by have := hr.un; omega
    refine ⟨_, pss_one (ps_for PassesOwn.never rfl (pi_enum (by rfl) B.enumerate (pa_cons (pe_callTy call_list_of (by rfl) B.list PyProof.Rows.boot_list (pa_cons (pe_dget hu (pv 1) pe_str (fun _ _ => rfl)) pa_nil)) pa_nil))
        (pg_tup rfl (pgs_cons (pg_name (i := 2) scLater.nd rfl (.inr rfl)) (pgs_cons (pg_name (i := 3) scLater.nd rfl (.inl rfl)) pgs_nil)))
      (pss_cons (ps_set (i := 4) scLater.nd rfl (.inl rfl) (pe_ix ix_list (pe_dget hu (pv 1) pe_str (fun _ _ => rfl)) (pv 2) (fun _ _ => rfl)))
      (pss_one (ps_if (pt_cmpR op_eq (pe_ix ix_tup (pv 3) pe_int (fun _ _ => rfl)) pe_str (nomark _))
        (pss_cons (ps_set (i := 5) scLater.nd rfl (.inr rfl) (pe_callTy call_list_of (by rfl) B.list PyProof.Rows.boot_list (pa_cons (pe_ix ix_tup (pv 3) pe_int (fun _ _ => rfl)) pa_nil)))
        (pss_cons (ps_for PassesOwn.never rfl (pi_enum (by rfl) B.enumerate (pa_cons (pe_ix ix_list (pe_dget hu (pv 1) pe_str (fun _ _ => rfl)) (pv 4) (fun _ _ => rfl)) pa_nil))
            (pg_tup rfl (pgs_cons (pg_name (i := 6) scLater.nd rfl (.inl rfl)) (pgs_cons (pg_name (i := 7) scLater.nd rfl (.inl rfl)) pgs_nil)))
          (pss_cons (ps_set (i := 8) scLater.nd rfl (.inl rfl) (pe_call GS hr (by rfl) DS.g DS.F.kp DS.b .nil pass0 (pa_cons (pv 1) (pa_cons (pv 7) pa_nil))))
          (pss_one (ps_if (pt_cmpR op_ge (pv 7) (pv 4) (nomark _))
            (pss_cons (ps_setLc (i := 9) (own := [("_law_one", 11)]) (g := gName 11) (tt := ttNear K) (te := tVar 11) (by rfl) scLater.nd rfl rfl (sw_true rfl rfl rfl (by decide +kernel)) (pi_list (pv 8))
                (blkOk_by (own := [("_law_one", 11)]) (N := nLater) (sc := defScope sLater) (by decide +kernel)) (fun _ _ _ _ _ => pg_name (i := 11) scLater.nd rfl (.inl rfl))
                (fun _ _ _ _ _ => pts_one (pw_or (pt_cmpR op_eq (pv 11) (pv 2) (nomark _)) (pw_or1 (pt_cmpR op_eq (pv 11) (pe_ix ix_list (pv 5) pe_int (fun _ _ => rfl)) (nomark _)))).pt) (fun _ _ _ _ _ => pv 11))
            (pss_cons (ps_setLc (i := 10) (own := [("_law_one", 11)]) (g := gName 11) (tt := ttOwn K) (te := tVar 11) (by rfl) scLater.nd rfl rfl (sw_true rfl rfl rfl (by decide +kernel)) (pi_list (pv 8))
                (blkOk_by (own := [("_law_one", 11)]) (N := nLater) (sc := defScope sLater) (by decide +kernel)) (fun _ _ _ _ _ => pg_name (i := 11) scLater.nd rfl (.inl rfl))
                (fun _ _ _ _ _ => pts_one (pt_cmpR (op_inT hu65) (pv 2) (pe_slice sl_tup (pe_ix ix_list (pe_dget hu (pv 1) pe_str (fun _ _ => rfl)) (pv 11) (fun _ _ => rfl)) (po_some pe_int) po_none) rfl)) (fun _ _ _ _ _ => pv 11))
            (Evl.pss_cut (ps_set (i := 8) scLater.nd rfl (.inl rfl) (pe_orT (pe_ix ix_list (pe_lst (pa_cons (pv 8) (pa_cons (pv 10) (pa_cons (pv 10) (pa_cons (pv 9) pa_nil))))) (pe_call GD hr (by rfl) DD.g DD.F.kp DD.b .nil pass0 (pa_cons (pv 0) (pa_cons pe_int pa_nil))) (fun _ _ => rfl)) (pe_one (pv 8))))
            (pss_one (ps_asg (pe_ix ix_list (pv 8) (pe_call GD hr (by rfl) DD.g DD.F.kp DD.b .nil pass0 (pa_cons (pv 0) (pa_cons (pe_callB call_len_seq (by rfl) B.len PySem.boot_len (pa_cons (pv 8) pa_nil)) pa_nil))) (fun _ _ => rfl)) (pg_sub (pv 5) (pv 6) set_list))))))
            pss_nil))))
        (pss_one (ps_asg (pe_tup (pa_cons pe_str (pa_cons (pe_callTy call_tuple_of (by rfl) B.tuple PyProof.Rows.boot_tuple (pa_cons (pv 5) pa_nil)) pa_nil))) (pg_sub (pe_dget hu (pv 1) pe_str (fun _ _ => rfl)) (pv 2) set_list)))))
        pss_nil)))), ?_⟩
    obtain ⟨vs0, hv1, hv2⟩ := hS.rows
    have hvl : vs0.length = st.rows.length := pd_len hv2
    refine ⟨.ref st.s, rfl, st.s, .ref st.r, rfl, dgOf hS.ds (kvR st), st.r, vs0, rfl, .inl (sqL hv1), fun cp ncp => ⟨cp, vs0, rfl, sqL upd_same, ?_⟩⟩
    have mcp := hS.fresh ncp
    have s0 := new_same (o := .lst vs0) ncp
    refine for_it (walk_enum (xs := vs0)) (fun i σ H1 => ∃ (rs : List Rw) (y2 y3 y4 y5 y6 y7 y8 y9 y10 y11 : Option V), σ = [some (.ref st.t), some (.ref st.s), y2, y3, y4, y5, y6, y7, y8, y9, y10, y11] ∧ Bm st.M H H1 ∧ StaOk K H1 (st.rw rs) (c + 24 * i) ∧
      rs.length = st.rows.length ∧ Bs (st.rw rs) ∧ (∀ r ∈ rs, RwB st.rows.length r) ∧ H1 cp = some (.lst vs0) ∧ MeetOk (st.rw rs) ∧ (∀ k, mB rs k = mB st.rows k) ∧ ∀ k, mB st.rows k = false → rs[k]? = st.rows[k]?)
      ⟨st.rows, none, none, none, none, none, none, none, none, none, none, rfl, Bm.of_same s0, hS.same s0, rfl, hB, hRB, upd_same, hM, (fun _ => rfl), fun _ _ => rfl⟩ (fun i σ H1 _ hP => ?_) (fun i x σ H1 H2 hi hP hY => ?_) (fun σ H1 hP => ?_)
    · obtain ⟨_, _, _, _, _, _, _, _, _, _, _, _, _, _, _, _, _, h, _⟩ := hP
      exact sqL h
    · obtain ⟨rs, y2, y3, y4, y5, y6, y7, y8, y9, y10, y11, rfl, bm, hS1, hrl, hB1, hRB1, ecp, hMk, hmB, hsR⟩ := hP
      obtain ⟨T, x1, x2, rfl, nT, rfl, e1, e2⟩ := hY
      cases e1
      have e2 : vs0[i]? = some x2 := e2
      obtain ⟨row, hr1, hr2⟩ := pd_at2 hv2 e2
      have hin : i < st.rows.length := by omega
      have hib : i < st.blocks.length := by rw [hS.lb]; exact hin
      have sT := new_same (o := .tup [.int (i : Nat), x2]) nT
      have hS2 := hS1.same sT
      have hrow : RowAt K (upd H1 T (.tup [.int (i : Nat), x2])) x2 row := ((hr2.same bm.frz).same (frz_same _ _)).same sT
      have ecp2 := sT _ _ ecp
      have bm2 : Bm st.M H (upd H1 T (.tup [.int (i : Nat), x2])) := bm.trans (Bm.of_same sT)
      refine ⟨T, _, rfl, sqT upd_same, rfl, _, _, rfl, _, _, rfl, rfl, ?_⟩
      generalize upd H1 T (.tup [.int (i : Nat), x2]) = H2 at hS2 hrow ecp2 bm2
      obtain ⟨p, xs, rfl, hp1, hp2⟩ := hrow
      refine ⟨.ref st.s, rfl, st.s, .ref st.b, rfl, dgOf hS2.ds (kvB (st.rw rs)), _, rfl, st.b, _, _, _, rfl, rfl, sqL hS2.blocks, atI_nat (by rw [List.getElem?_map]; show Option.map iv st.blocks[i]? = _; rw [gdl (d := 0) hib]; rfl), ?_⟩
      refine ⟨.ref p, rfl, p, _, _, _, rfl, rfl, hp1, atI_nat (j := 0) rfl, rfl, _, rfl, ?_⟩
      show if decide (V.str row.w = V.str "meet") = true then _ else _
      by_cases hme : decide (V.str row.w = V.str "meet") = true
      · rw [if_pos hme]
        obtain ⟨ps0, rfl⟩ := meet_is hme
        obtain ⟨qa, rfl, hqa⟩ := hp2
        obtain ⟨ld, hld, hpl0, hl1, hl2, hla, hpi0⟩ := hM i ps0 hr1
        have hps0 : ∀ y ∈ ps0, y < st.rows.length := (hRB _ (List.mem_of_getElem? hr1)).1
        have hi0 : i ≠ 0 := fun z => by
          rw [z, hB.r0] at hr1
          cases hr1
        refine ⟨.ref p, rfl, p, _, _, _, rfl, rfl, hp1, atI_nat (j := 1) rfl, qa, _, rfl, .inr hqa, fun pa npa => ?_⟩
        have mpa := hS2.fresh npa
        have npt : pa ≠ st.t := fun e => mpa (e ▸ tM (st.rw rs))
        have sP := new_same (o := .lst (ps0.map iv)) npa
        obtain ⟨zs, la, u1, u2, u3, u4⟩ := hS2.leads.at (show (st.rw rs).leads[st.blocks.getD i 0]? = some ld from hld)
        refine ⟨.ref st.s, rfl, st.s, .ref st.L, rfl, dgOf (hS2.same sP).ds (kvL (st.rw rs)), _, rfl, st.L, zs, _, .ref la, rfl, rfl, sP.seq (sq_out u1), u3, la, ld.map iv, rfl, sP.seq (sq_out u4), ?_⟩
        have sqla : ∀ {H4 : Hp}, But st.t H2 H4 → SqL K H4 la (ld.map iv) := fun b => sq_out (sq_but (st := st.rw rs) u4 b)
        generalize hblk : st.blocks.getD i 0 = blk at *
        refine for_it (walk_enum (xs := ld.map iv)) (fun j σ H4 => ∃ (ps : List Nat) (y6 y7 y8 y9 y10 y11 : Option V), σ = [some (.ref st.t), some (.ref st.s), some (iv i), some (.ref p), some (iv blk), some (.ref pa), y6, y7, y8, y9, y10, y11] ∧ But st.t H2 H4 ∧ Tape H4 st.t (c + 24 * i + 2 * j) ∧
          H4 pa = some (.lst (ps.map iv)) ∧ ps.length = ld.length ∧ (∀ y ∈ ps, y < st.rows.length) ∧ PartsIn st ld ps)
          ⟨ps0, _, _, _, _, _, _, rfl, Same.but sP, hS2.tape.same sP, upd_same, hpl0, hps0, hpi0⟩ (fun j σ H4 _ hP => ?_) (fun j x σ H4 H5 hj hP hY => ?_) (fun σ H4 hP => ?_)
        · obtain ⟨_, _, _, _, _, _, _, _, b, _⟩ := hP
          exact sqla b
        · obtain ⟨ps, z6, z7, z8, z9, z10, z11, rfl, b4, T4, epa, hpl, hps, hpi⟩ := hP
          obtain ⟨T2, x1, x2, rfl, nT2, rfl, e1, e2⟩ := hY
          cases e1
          have e2 : (ld.map iv)[j]? = some x2 := e2
          rw [List.getElem?_map] at e2
          obtain ⟨l, hl0, rfl⟩ := Option.map_eq_some_iff.mp e2
          have hlm := List.mem_of_getElem? hl0
          have hjl := (List.getElem?_eq_some_iff.mp hl0).1
          have sT2 := new_same (o := .tup [.int (j : Nat), iv l]) nT2
          refine ⟨T2, _, rfl, sqT upd_same, rfl, _, _, rfl, _, _, rfl, rfl, ?_⟩
          have b5 : But st.t H2 (upd H4 T2 (.tup [.int (j : Nat), iv l])) := b4.trans (Same.but sT2)
          have T5 := T4.same sT2
          have epa5 := sT2 _ _ epa
          generalize upd H4 T2 (.tup [.int (j : Nat), iv l]) = H5 at b5 T5 epa5
          have hS5 := hS2.bt b5 T5
          have hab : l < (st.rw rs).above.length := hla l hlm
          have h0 : 0 < ps.length := by omega
          refine ⟨.ref st.s, rfl, iv l, rfl, st.rw rs, _, l, rfl, hS5, hab, by show rs.length ≤ 1000; omega, fun sa H6 nsa s6 esa => ?_⟩
          have ss0 : 0 < (standL (st.rw rs) l).length := List.length_pos_of_mem (hB1.st0 hab)
          have ssl : (standL (st.rw rs) l).length ≤ 900 := Nat.le_trans (standL_len _ _) (by show rs.length ≤ 900; omega)
          have sslt : ∀ y ∈ standL (st.rw rs) l, y ∈ standL st l := fun y h => by rw [stand_rw hrl hmB hsR] at h; exact h
          generalize standL (st.rw rs) l = ss at esa ss0 ssl sslt
          have epa6 := s6 _ _ epa5
          have b6 : But st.t H2 H6 := b5.trans (Same.but s6)
          have T6 := T5.same s6
          refine ⟨_, rfl, _, rfl, _, _, rfl, rfl, _, rfl, ite2 (fun e => ?_) (fun e => ⟨ps, _, _, _, _, _, _, rfl, b6, T6.mono (by omega), epa6, hpl, hps, hpi⟩)⟩
          -- near
          refine ⟨.ref sa, rfl, sa, rfl, ⟨_, sqL esa⟩, fun L nL => ?_⟩
          refine lc_list (K := K) (a := sa) (xs := ss.map iv) (fun jj H7 => Same H6 H7 ∧ ∃ es : List Nat, H7 L = some (.lst (es.map iv)) ∧ es.length ≤ jj ∧ ∀ y ∈ es, y ∈ standL st l) ⟨new_same nL, [], upd_same, Nat.le_refl _, fun y h => by cases h⟩
            (fun jj H7 _ hP => sqL (hP.1 _ _ esa)) (fun jj x H7 hx hP => ?_) (fun H7 hP => ?_)
          · obtain ⟨s7, es, eL, hel, hes⟩ := hP
            rw [List.getElem?_map] at hx
            obtain ⟨z, hz0, rfl⟩ := Option.map_eq_some_iff.mp hx
            have hjj := (List.getElem?_eq_some_iff.mp hz0).1
            have hzn := sslt z (List.mem_of_getElem? hz0)
            have yes := keep_step s7 nL eL hel (by omega) hes hzn
            refine ⟨rfl, _, rfl, _, rfl, rfl, _, rfl, ?_⟩
            show if decide (iv z = iv i) = true then _ else _
            generalize decide (iv z = iv i) = bb
            cases bb with
            | true => exact ⟨_, rfl, yes⟩
            | false =>
              refine ⟨_, rfl, .ref pa, rfl, pa, _, _, _, rfl, rfl, sqL (s7 _ _ epa6), at_iv h0, rfl, _, rfl, ?_⟩
              show if decide (iv z = iv ps[0]) = true then _ else _
              generalize decide (iv z = iv ps[0]) = b2
              cases b2 with
              | true => exact ⟨_, rfl, yes⟩
              | false => exact ⟨s7, es, eL, by omega, hes⟩
          · obtain ⟨s7, es, eL, hel, hes⟩ := hP
            rw [List.length_map] at hel
            have esa7 := s7 _ _ esa
            have b7 : But st.t H2 H7 := b6.trans (Same.but s7)
            have hS7 := hS2.bt b7 (T6.same s7)
            obtain ⟨vc, hc1, hc2⟩ := hS7.rows
            have hcl : vc.length = rs.length := pd_len hc2
            -- own
            refine ⟨.ref sa, rfl, sa, rfl, ⟨_, sqL esa7⟩, fun L2 nL2 => ?_⟩
            refine lc_list (K := K) (a := sa) (xs := ss.map iv) (fun jj H8 => Same H7 H8 ∧ ∃ es : List Nat, H8 L2 = some (.lst (es.map iv)) ∧ es.length ≤ jj ∧ ∀ y ∈ es, y ∈ standL st l) ⟨new_same nL2, [], upd_same, Nat.le_refl _, fun y h => by cases h⟩
              (fun jj H8 _ hP => sqL (hP.1 _ _ esa7)) (fun jj x H8 hx hP => ?_) (fun H8 hP => ?_)
            · obtain ⟨s8, es2, eL2, hel2, hes2⟩ := hP
              rw [List.getElem?_map] at hx
              obtain ⟨z, hz0, rfl⟩ := Option.map_eq_some_iff.mp hx
              have hjj := (List.getElem?_eq_some_iff.mp hz0).1
              have hzn := sslt z (List.mem_of_getElem? hz0)
              have hzc : z < vc.length := by have := standL_lt hzn; omega
              obtain ⟨rz, hz1, hz2⟩ := pd_at2 hc2 (List.getElem?_eq_getElem hzc)
              obtain ⟨pz, xz, hpz0, hpz1, hpz2⟩ := (hz2.same (frz_same _ _)).same s8
              refine ⟨rfl, _, rfl, .ref st.s, rfl, st.s, .ref st.r, rfl, dgOf (s8 _ _ hS7.ds) (kvR (st.rw rs)), _, rfl, st.r, vc, _, vc[z], rfl, rfl, sqL (s8 _ _ hc1), at_lt hzc, 1, rfl, pz, _, hpz0, hpz1, cut_not _ _, fun T3 nT3 => ?_⟩
              have sT3 := new_same (o := .tup (cutV (.str rz.w :: xz) (some 1) none)) nT3
              refine ⟨.int (i : Int), rz.rdata, .int _, .tup (sqT upd_same) (by rw [cut_one]; rw [cut_one] at sT3; exact rest_dp (hpz2.same sT3)), sh_int i, sh_rest rz, _, rfl, ?_⟩
              have s9 := s8.trans sT3
              show if (rz.rdata.any fun z => PyData.eqv z (.int (i : Int))) = true then _ else _
              generalize (rz.rdata.any fun z => PyData.eqv z (.int (i : Int))) = bb
              cases bb with
              | true => exact ⟨_, rfl, keep_step s9 nL2 (sT3 _ _ eL2) hel2 (by omega) hes2 hzn⟩
              | false => exact ⟨s9, es2, sT3 _ _ eL2, by omega, hes2⟩
            · obtain ⟨s8, es2, eL2, hel2, hes2⟩ := hP
              rw [List.length_map] at hel2
              have b8 : But st.t H2 H8 := b7.trans (Same.but s8)
              have T8 := (T6.same s7).same s8
              have epa8 := s8 _ _ (s7 _ _ epa6)
              have esa8 := s8 _ _ esa7
              have eL8 := s8 _ _ eL
              refine ⟨fun σ H9 => ∃ (sb : Addr) (ms : List Nat), σ = [some (.ref st.t), some (.ref st.s), some (iv i), some (.ref p), some (iv blk), some (.ref pa), some (iv j), some (iv l), some (.ref sb), some (.ref L), some (.ref L2), z11] ∧ But st.t H2 H9 ∧ Tape H9 st.t (c + 24 * i + 2 * j + 1) ∧
                H9 pa = some (.lst (ps.map iv)) ∧ H9 sb = some (.lst (ms.map iv)) ∧ 0 < ms.length ∧ ms.length ≤ 900 ∧ (∀ y ∈ ms, y ∈ standL st l) ∧ sb ≠ st.t, ?_, fun σ H9 hM => ?_⟩
              · refine ⟨.ref sa, rfl, .ref L2, rfl, .ref L2, rfl, .ref L, rfl, szl (show 4 ≤ 1000000 by decide), fun q4 nq4 => ?_⟩
                have sQ := new_same (o := .lst [.ref sa, .ref L2, .ref L2, .ref L]) nq4
                have TQ := T8.same sQ
                refine ⟨.ref st.t, rfl, st.t, 4, _, rfl, TQ, by omega, by decide, by decide, fun r H9 h9 b9 T9 => ?_⟩
                have nqt : q4 ≠ st.t := T8.ne nq4
                have bA : But st.t H8 H9 := (Same.but sQ).trans b9
                have ne_t : ∀ {a : Addr} {zs : List Nat}, H8 a = some (.lst (zs.map iv)) → a ∉ (st.rw rs).M → H9 a = some (.lst (zs.map iv)) := fun {a zs} e n => bA a _ (fun z => n (z ▸ tM (st.rw rs))) e
                have nt : ∀ {a : Addr}, a ∉ (st.rw rs).M → a ≠ st.t := fun {a} n z => n (z ▸ tM (st.rw rs))
                have e9p := ne_t epa8 mpa
                have e9s := ne_t esa8 (hS5.fresh nsa)
                have e9L := ne_t eL8 ((hS2.bt b6 T6).fresh nL)
                have e9M := ne_t eL2 (hS7.fresh nL2)
                have b9' : But st.t H2 H9 := b8.trans bA
                have hr4 : r < 4 := by omega
                have sel : ∃ (X : Addr) (ms : List Nat), [V.ref sa, V.ref L2, V.ref L2, V.ref L][r]? = some (.ref X) ∧ H9 X = some (.lst (ms.map iv)) ∧ ms.length ≤ 900 ∧ (∀ y ∈ ms, y ∈ standL st l) ∧ X ≠ st.t := by
                  match r, hr4 with
                  | 0, _ => exact ⟨sa, ss, rfl, e9s, ssl, sslt, nt (hS5.fresh nsa)⟩
                  | 1, _ => exact ⟨L2, es2, rfl, e9M, by omega, hes2, nt (hS7.fresh nL2)⟩
                  | 2, _ => exact ⟨L2, es2, rfl, e9M, by omega, hes2, nt (hS7.fresh nL2)⟩
                  | 3, _ => exact ⟨L, es, rfl, e9L, by omega, hes, nt ((hS2.bt b6 T6).fresh nL)⟩
                obtain ⟨X, ms, hX1, hX2, hX3, hX4, hX5⟩ := sel
                refine ⟨q4, _, _, .ref X, rfl, rfl, sqL (b9 q4 _ nqt upd_same), atI_nat hX1, _, .inl ⟨_, sqL hX2, rfl⟩, ?_⟩
                cases ms with
                | nil => exact ⟨.ref sa, rfl, sa, ss, rfl, b9', T9, e9p, e9s, ss0, ssl, sslt, nt (hS5.fresh nsa)⟩
                | cons m0 ms => exact ⟨X, m0 :: ms, rfl, b9', T9, e9p, hX2, Nat.succ_pos _, hX3, hX4, hX5⟩
              · obtain ⟨sb, ms, rfl, b9, T9, e9p, e9b, hm0, hml, hmlt, nbt⟩ := hM
                have hlm2 : ((ms.map iv).length : Int) = (ms.length : Int) := by rw [List.length_map]
                refine ⟨.ref sb, rfl, .ref st.t, rfl, .ref sb, rfl, sb, _, rfl, .inl (sqL e9b), st.t, _, _, rfl, T9, by omega, by omega, by omega, fun r H10 h10 b10 T10 => ?_⟩
                have hrm : r < ms.length := by omega
                have e10 := b10 pa _ npt e9p
                refine ⟨sb, _, _, _, rfl, rfl, sqL (b10 sb _ nbt e9b), at_iv hrm, .ref pa, rfl, _, rfl, pa, _, _, j, rfl, rfl, e10, ixN_nat (by rw [List.length_map]; omega), ?_⟩
                refine ⟨ps.set j ms[r], _, _, _, _, _, _, rfl, fun a o n e => ?_, ?_, ?_, ?_, ?_, hpi.set hl0 (hmlt _ (List.getElem_mem hrm))⟩
                · rw [upd_ne (ne_of_none e npa)]
                  exact (b9.trans b10) a o n e
                · obtain ⟨a1, a2, a3, a4, a5⟩ := T10
                  exact ⟨a1, a2, a3, by rw [upd_ne npt.symm]; exact a4, a5⟩
                · rw [upd_same, List.map_set]
                · rw [List.length_set]; exact hpl
                · intro y hy
                  rcases List.mem_or_eq_of_mem_set hy with h | h
                  · exact hps y h
                  · rw [h]; exact standL_lt (hmlt _ (List.getElem_mem hrm))
        · obtain ⟨ps, z6, z7, z8, z9, z10, z11, rfl, b4, T4, epa, hpl, hps, hpi⟩ := hP
          rw [List.length_map] at T4
          refine ⟨.ref pa, rfl, pa, _, rfl, .inl ⟨sqL epa, fun U nU => ⟨szl (show 2 ≤ 1000000 by decide), fun p2 np2 => ?_⟩⟩⟩
          have hS4 := hS2.bt b4 T4
          have sU := new_same (o := .tup (ps.map iv)) nU
          have sV := new_same (o := .tup [.str "meet", .ref U]) np2
          have mU := hS4.fresh nU
          have mV := (hS4.same sU).fresh np2
          have hS6 := (hS4.same sU).same sV
          have bF : But st.t H2 (upd (upd H4 U (.tup (ps.map iv))) p2 (.tup [.str "meet", .ref U])) := b4.trans (Same.but (sU.trans sV))
          have hRn : RowAt K (frz st.M (upd (upd H4 U (.tup (ps.map iv))) p2 (.tup [.str "meet", .ref U]))) (.ref p2) (.meet ps) := ⟨p2, _, rfl, sqT (frz_at upd_same mV), U, rfl, sqT (frz_at (sV _ _ upd_same) mU)⟩
          generalize upd (upd H4 U (.tup (ps.map iv))) p2 (.tup [.str "meet", .ref U]) = H6 at hS6 bF hRn
          obtain ⟨vc, hc1, hc2⟩ := hS6.rows
          have hcl : vc.length = rs.length := pd_len hc2
          refine ⟨.ref st.s, rfl, st.s, .ref st.r, rfl, dgOf hS6.ds (kvR (st.rw rs)), _, rfl, st.r, vc, _, i, rfl, rfl, hc1, ixN_nat (by omega), ?_⟩
          obtain ⟨hSF, bmF⟩ := hS6.setRow (i := i) hc1 hc2 hRn
          have bmA : Bm st.M H H6 := bm2.trans (Bm.of_but bF (tM st))
          have hmB2 : ∀ k, mB (rs.set i (.meet ps)) k = mB st.rows k := fun k => by
            rw [mB_set (by omega)]
            by_cases hki : k = i
            · rw [if_pos hki, hki, mB_at hr1]; rfl
            · rw [if_neg hki]; exact hmB k
          have hsR2 : ∀ k, mB st.rows k = false → (rs.set i (.meet ps))[k]? = st.rows[k]? := fun k hk => by
            have hki : i ≠ k := fun z => by
              rw [← z, mB_at hr1] at hk
              cases hk
            rw [List.getElem?_set_ne hki]
            exact hsR k hk
          have hst2 := stand_rw (st := st) (by rw [List.length_set]; exact hrl) hmB2 hsR2
          have hst1 := stand_rw (st := st) hrl hmB hsR
          refine ⟨rs.set i (.meet ps), _, _, _, _, _, _, _, _, _, _, rfl, bmA.trans bmF, hSF.bt (But.refl _ _) (hSF.tape.mono (by omega)), by rw [List.length_set]; exact hrl, ?_, ?_, ?_, ?_, hmB2, hsR2⟩
          · refine ⟨?_, hB1.b0, hB1.ab⟩
            show (rs.set i (.meet ps))[0]? = _
            rw [List.getElem?_set_ne hi0]
            exact hB1.r0
          · intro r hr
            rcases List.mem_or_eq_of_mem_set hr with h | h
            · exact hRB1 r h
            · rw [h]; exact ⟨hps, by omega⟩
          · have mr : cp ≠ st.r := fun z => mcp (by rw [z]; simp [Sta.M])
            rw [upd_ne mr]
            exact bF cp _ (fun z => mcp (z ▸ tM st)) ecp2
          · intro k ps' e
            have e' : (rs.set i (.meet ps))[k]? = some (.meet ps') := e
            show ∃ ld, st.leads[st.blocks.getD k 0]? = some ld ∧ _
            by_cases hki : k = i
            · subst hki
              have hkl : k < rs.length := by omega
              rw [List.getElem?_set_self hkl] at e'
              cases e'
              rw [hblk]
              exact ⟨ld, hld, hpl, hl1, hl2, hla, hpi.cast fun l y h => by rw [hst2]; exact h⟩
            · rw [List.getElem?_set_ne (Ne.symm hki)] at e'
              obtain ⟨ld', a1, a2, a3, a4, a5, a6⟩ := hMk k ps' e'
              exact ⟨ld', a1, a2, a3, a4, a5, a6.cast fun l y h => by rw [hst2]; rw [hst1] at h; exact h⟩
      · rw [if_neg hme]
        exact ⟨rs, _, _, _, _, _, _, _, _, _, _, rfl, bm2, hS2.bt (But.refl _ _) (hS2.tape.mono (by omega)), hrl, hB1, hRB1, ecp2, hMk, hmB, hsR⟩
    · obtain ⟨rs, y2, y3, y4, y5, y6, y7, y8, y9, y10, y11, rfl, bm, hS1, hrl, hB1, hRB1, ecp, hMk, hmB, hsR⟩ := hP
      rw [hvl] at hS1
      exact q H1 rs bm hS1 hrl hB1 hRB1 hMk hmB hsR
end
end Gn
set_option Elab.async false
set_option linter.all false
set_option maxRecDepth 100000
set_option maxHeartbeats 4000000
namespace Gn
open PySem PySem.Spec PyProof.Rows L2
/-! ### programs -/
inductive En | go (b : Nat) | iff (r b c : Nat) | fin
def En.names : En → List Nat
  | .go b => [b]
  | .iff _ b c => [b, c]
  | .fin => []
def EnAt (K : PySem.W.Frag) (H : Hp) (v : V) : En → Prop
  | .go b => ∃ p, v = .ref p ∧ SqT K H p [.str "go", iv b]
  | .iff r b c => ∃ p, v = .ref p ∧ SqT K H p [.str "if", iv r, iv b, iv c]
  | .fin => ∃ p, v = .ref p ∧ SqT K H p [.str "end"]
abbrev Blk := List Rw × En
def BlkAt (K : PySem.W.Frag) (H : Hp) (v : V) (b : Blk) : Prop := ∃ p ra ea vs, v = .ref p ∧ SqT K H p [.ref ra, ea] ∧ H ra = some (.lst vs) ∧ Paired (RowAt K H) vs b.1 ∧ EnAt K H ea b.2
def ProgAt (K : PySem.W.Frag) (H : Hp) (v : V) (pr : List Blk) : Prop := ∃ p bs, v = .ref p ∧ SqL K H p bs ∧ Paired (BlkAt K H) bs pr
def EnOk (m n : Nat) : En → Prop
  | .go b => 1 ≤ b ∧ b < m
  | .iff r b c => r < n ∧ 1 ≤ b ∧ b < m ∧ 1 ≤ c ∧ c < m ∧ b ≠ c
  | .fin => True
structure ProgOk (m n : Nat) (pr : List Blk) : Prop where
  len : pr.length = m
  rows : ∀ b ∈ pr, b.1.length ≤ n ∧ (∀ r ∈ b.1, RwB n r) ∧ EnOk m n b.2
def BlkI (K : PySem.W.Frag) (t fo : Addr) (H : Hp) (v : V) (b : Blk) : Prop := ∃ p ra ea vs, v = .ref p ∧ SqT K H p [.ref ra, ea] ∧ H ra = some (.lst vs) ∧ ra ≠ t ∧ ra ≠ fo ∧ Paired (RowAt K H) vs b.1 ∧ EnAt K H ea b.2
theorem EnAt.mv {K : PySem.W.Frag} {H H' : Hp} {v : V} {e : En} (h : EnAt K H v e) (g : ∀ {a : Addr} {xs : List V}, SqT K H a xs → SqT K H' a xs) : EnAt K H' v e := by
  cases e <;> (obtain ⟨p, h1, h2⟩ := h; exact ⟨p, h1, g h2⟩)
theorem BlkI.mv {K : PySem.W.Frag} {t fo : Addr} {H H' : Hp} {v : V} {b : Blk} (h : BlkI K t fo H v b) (g : ∀ {a : Addr} {xs : List V}, SqT K H a xs → SqT K H' a xs) (k : ∀ a o, a ≠ t → a ≠ fo → H a = some o → H' a = some o) : BlkI K t fo H' v b := by
  obtain ⟨p, ra, ea, vs, h1, h2, h3, h4, h5, h6, h7⟩ := h
  exact ⟨p, ra, ea, vs, h1, g h2, k _ _ h4 h5 h3, h4, h5, pd_mono h6 fun _ _ z => row_tups z g, h7.mv g⟩
theorem BlkI.out {K : PySem.W.Frag} {t fo : Addr} {H : Hp} {v : V} {b : Blk} (h : BlkI K t fo H v b) : BlkAt K H v b := by
  obtain ⟨p, ra, ea, vs, h1, h2, h3, h4, h5, h6, h7⟩ := h
  exact ⟨p, ra, ea, vs, h1, h2, h3, h6, h7⟩
/-! ### the state while it grows -/
theorem RwB.mono {n n' : Nat} {r : Rw} (h : RwB n r) (e : n ≤ n') : RwB n' r := by
  cases r with
  | take i => exact h
  | num z => exact h
  | bin b x y => exact ⟨Nat.lt_of_lt_of_le h.1 e, Nat.lt_of_lt_of_le h.2 e⟩
  | pick x ps => exact ⟨Nat.lt_of_lt_of_le h.1 e, fun y hy => Nat.lt_of_lt_of_le (h.2.1 y hy) e, h.2.2⟩
  | meet ps => exact ⟨fun y hy => Nat.lt_of_lt_of_le (h.1 y hy) e, h.2⟩
  | tell x => exact Nat.lt_of_lt_of_le h e
  | look rs x => exact ⟨Nat.lt_of_lt_of_le h.1 e, h.2⟩
  | lay rs x y => exact ⟨Nat.lt_of_lt_of_le h.1 e, Nat.lt_of_lt_of_le h.2.1 e, h.2.2⟩
/-- the rows that a row names, a meet's aside -/
def Rw.used : Rw → List Nat
  | .bin _ x y => [x, y]
  | .pick x ps => x :: ps
  | .tell x => [x]
  | .look _ x => [x]
  | .lay _ x y => [x, y]
  | _ => []
/-- what is named stands -/
def UsedIn (st : Sta) : Prop := ∀ (k : Nat) (r : Rw), st.rows[k]? = some r → ∀ y ∈ r.used, y < k ∧ y ∈ standL st (st.blocks.getD k 0)
theorem stand_put {st : Sta} {blk wi de l y : Nat} {row : Rw} (hlb : st.blocks.length = st.rows.length) (h : y ∈ standL st l) : y ∈ standL (st.put blk row wi de) l := by
  obtain ⟨h1, h2⟩ := List.mem_filter.mp h
  have hy := List.mem_range.mp h1
  refine List.mem_filter.mpr ⟨List.mem_range.mpr ?_, ?_⟩
  · show y < (st.rows ++ [row]).length
    rw [List.length_append]
    omega
  · show (decide ((st.blocks ++ [blk]).getD y 0 ∈ st.above.getD l []) && ((st.rows ++ [row]).getD y (.take 0)).worthy) = true
    have e1 : (st.blocks ++ [blk]).getD y 0 = st.blocks.getD y 0 := by rw [List.getD_eq_getElem?_getD, List.getD_eq_getElem?_getD, List.getElem?_append_left (by omega)]
    have e2 : (st.rows ++ [row]).getD y (.take 0) = st.rows.getD y (.take 0) := by rw [List.getD_eq_getElem?_getD, List.getD_eq_getElem?_getD, List.getElem?_append_left hy]
    rw [e1, e2]
    exact h2
theorem UsedIn.rw {st : Sta} {rs : List Rw} (h : UsedIn st) (hl : rs.length = st.rows.length) (hm : ∀ k, mB rs k = mB st.rows k) (hs : ∀ k, mB st.rows k = false → rs[k]? = st.rows[k]?) : UsedIn (st.rw rs) := fun k r e y hy => by
  have e' : rs[k]? = some r := e
  by_cases h1 : mB st.rows k = false
  · rw [hs k h1] at e'
    rw [stand_rw hl hm hs]
    exact h k r e' y hy
  · have h2 : mB rs k = true := by rw [hm]; simpa using h1
    rw [mB_at e'] at h2
    cases r <;> cases h2
    cases hy
theorem RwIn.used {ss : List Nat} {r : Rw} (h : RwIn ss r) : ∀ y ∈ r.used, y ∈ ss := fun y hy => by
  cases r with
  | take i => cases hy
  | num z => cases hy
  | bin b x z =>
    have : y = x ∨ y = z := by simpa [Rw.used] using hy
    rcases this with rfl | rfl
    · exact h.1
    · exact h.2
  | pick x ps =>
    rcases List.mem_cons.mp hy with rfl | hy
    · exact h.1
    · exact h.2.1 y hy
  | meet ps => cases hy
  | tell x => exact h.elim
  | look rs x =>
    rw [List.mem_singleton.mp hy]; exact h.1
  | lay rs x z =>
    have : y = x ∨ y = z := by simpa [Rw.used] using hy
    rcases this with rfl | rfl
    · exact h.1
    · exact h.2.1
structure Gd (st : Sta) (m : Nat) : Prop where
  ll : st.leads.length = m
  la : st.above.length = m
  ab : ∀ xs ∈ st.above, 0 ∈ xs
  lv : ∀ xs ∈ st.leads, xs.length ≤ 12 ∧ ∀ l ∈ xs, l < m
  wd : WD st
  mo : MeetOk st
  rb : ∀ r ∈ st.rows, RwB st.rows.length r
  su : UsedIn st
theorem Gd.put {st : Sta} {m blk wi de : Nat} {row : Rw} (h : Gd st m) (hlb : st.blocks.length = st.rows.length) (hr : RwB (st.rows.length + 1) row) (hm : ∀ ps, row = .meet ps → ∃ ld, st.leads[blk]? = some ld ∧ ps.length = ld.length ∧ 1 ≤ ld.length ∧ ld.length ≤ 12 ∧ (∀ l ∈ ld, l < st.above.length) ∧ PartsIn st ld ps) (hus : ∀ y ∈ row.used, y ∈ standL st blk)
    (h1 : 1 ≤ wi) (h2 : wi ≤ 24) (h3 : 1 ≤ de) (h4 : de ≤ 8) : Gd (st.put blk row wi de) m := by
  have el : (st.rows ++ [row]).length = st.rows.length + 1 := by rw [List.length_append, List.length_singleton]
  refine ⟨h.ll, h.la, h.ab, h.lv, ⟨fun x hx => ?_, fun x hx => ?_⟩, fun k ps e => ?_, fun r hr' => ?_, fun k r e y hy => ?_⟩
  · rcases List.mem_append.mp hx with q | q
    · exact h.wd.1 x q
    · rw [List.mem_singleton.mp q]; exact ⟨h1, h2⟩
  · rcases List.mem_append.mp hx with q | q
    · exact h.wd.2 x q
    · rw [List.mem_singleton.mp q]; exact ⟨h3, h4⟩
  · have e' : (st.rows ++ [row])[k]? = some (.meet ps) := e
    show ∃ ld, st.leads[(st.blocks ++ [blk]).getD k 0]? = some ld ∧ _
    by_cases hk : k < st.rows.length
    · rw [List.getElem?_append_left hk] at e'
      have eb : (st.blocks ++ [blk]).getD k 0 = st.blocks.getD k 0 := by
        rw [List.getD_eq_getElem?_getD, List.getD_eq_getElem?_getD, List.getElem?_append_left (by omega)]
      rw [eb]
      obtain ⟨ld, a1, a2, a3, a4, a5, a6⟩ := h.mo k ps e'
      exact ⟨ld, a1, a2, a3, a4, a5, a6.cast fun l y => stand_put hlb⟩
    · have hk2 : k = st.rows.length := by
        have := (List.getElem?_eq_some_iff.mp e').1
        omega
      subst hk2
      rw [List.getElem?_append_right (Nat.le_refl _), Nat.sub_self] at e'
      have er : row = .meet ps := Option.some.inj e'
      have eb : (st.blocks ++ [blk]).getD st.rows.length 0 = blk := by
        rw [← hlb, List.getD_eq_getElem?_getD, List.getElem?_append_right (Nat.le_refl _), Nat.sub_self]
        rfl
      rw [eb]
      obtain ⟨ld, a1, a2, a3, a4, a5, a6⟩ := hm ps er
      exact ⟨ld, a1, a2, a3, a4, a5, a6.cast fun l y => stand_put hlb⟩
  · show RwB (st.rows ++ [row]).length r
    rw [el]
    rcases List.mem_append.mp hr' with q | q
    · exact (h.rb r q).mono (Nat.le_succ _)
    · rw [List.mem_singleton.mp q]; exact hr
  · have e' : (st.rows ++ [row])[k]? = some r := e
    show y < k ∧ y ∈ standL (st.put blk row wi de) ((st.blocks ++ [blk]).getD k 0)
    by_cases hk : k < st.rows.length
    · rw [List.getElem?_append_left hk] at e'
      have eb : (st.blocks ++ [blk]).getD k 0 = st.blocks.getD k 0 := by
        rw [List.getD_eq_getElem?_getD, List.getD_eq_getElem?_getD, List.getElem?_append_left (by omega)]
      rw [eb]
      obtain ⟨a1, a2⟩ := h.su k r e' y hy
      exact ⟨a1, stand_put hlb a2⟩
    · have hk2 : k = st.rows.length := by
        have := (List.getElem?_eq_some_iff.mp e').1
        omega
      subst hk2
      rw [List.getElem?_append_right (Nat.le_refl _), Nat.sub_self] at e'
      have er : row = r := Option.some.inj e'
      have eb : (st.blocks ++ [blk]).getD st.rows.length 0 = blk := by
        rw [← hlb, List.getD_eq_getElem?_getD, List.getElem?_append_right (Nat.le_refl _), Nat.sub_self]
        rfl
      rw [eb]
      have := hus y (by rw [er]; exact hy)
      exact ⟨standL_lt this, stand_put hlb this⟩
theorem Bs.put {st : Sta} {blk wi de : Nat} {row : Rw} (h : Bs st) : Bs (st.put blk row wi de) := by
  refine ⟨?_, ?_, h.ab⟩
  · show (st.rows ++ [row])[0]? = _
    rw [List.getElem?_append_left h.pos]
    exact h.r0
  · show (st.blocks ++ [blk])[0]? = _
    rw [List.getElem?_append_left (List.getElem?_eq_some_iff.mp h.b0).1]
    exact h.b0
theorem RwIn.rb {ss : List Nat} {n : Nat} {r : Rw} (h : RwIn ss r) (hl : ∀ y ∈ ss, y < n) : RwB n r := by
  cases r with
  | take i => exact h
  | num z => exact h
  | bin b x y => exact ⟨hl x h.1, hl y h.2⟩
  | pick x ps => exact ⟨hl x h.1, fun y hy => hl y (h.2.1 y hy), h.2.2.2, fun z => by have := h.2.2.1; rw [z] at this; simp at this⟩
  | meet ps => exact h.elim
  | tell x => exact h.elim
  | look rs x => exact ⟨hl x h.1, h.2⟩
  | lay rs x y => exact ⟨hl x h.1, hl y h.2.1, h.2.2⟩
theorem RwIn.nm {ss : List Nat} {r : Rw} (h : RwIn ss r) : ∀ ps, r ≠ .meet ps := fun ps e => by
  subst e
  exact h
structure PInv (K : PySem.W.Frag) (I H H1 : Hp) (st : Sta) (t bg nxa : Addr) (gs : List Nat) (nx : List (List Nat)) (m c : Nat) : Prop where
  ht : st.t = t
  hM : ∀ a ∈ st.M, a ≠ t → H a = none
  mb : bg ∉ st.M
  nb : H bg = none
  bt : But t H H1
  ok : StaOk K H1 st c
  gd : Gd st m
  bgl : H1 bg = some (.lst (gs.map iv))
  iS : Same I (frz st.M H1)
  ib : I bg = none
  idi : I st.s = some (.dK st.kv)
  iL : NL K I st.L st.leads
  iA : NL K I st.A st.above
  iN : NL K I nxa nx
variable {K : PySem.W.Frag} {I H H1 H2 : Hp} {st : Sta} {t bg nxa : Addr} {gs : List Nat} {nx : List (List Nat)} {m c c' : Nat}
theorem PInv.next (h : PInv K I H H1 st t bg nxa gs nx m c) {blk wi de : Nat} {row : Rw} (b : Bm st.M H1 H2) (ok : StaOk K H2 (st.put blk row wi de) c') (gd : Gd (st.put blk row wi de) m) :
    PInv K I H H2 (st.put blk row wi de) t bg nxa gs nx m c' := by
  refine ⟨h.ht, h.hM, h.mb, h.nb, fun a o n e => b a o (fun hm => ?_) (h.bt a o n e), ok, gd, b _ _ h.mb h.bgl, h.iS.trans b.frz, h.ib, h.idi, h.iL, h.iA, h.iN⟩
  rw [h.hM a hm n] at e
  cases e
theorem PInv.rws (h : PInv K I H H1 st t bg nxa gs nx m c) {rs : List Rw} (b : Bm st.M H1 H2) (ok : StaOk K H2 (st.rw rs) c') (gd : Gd (st.rw rs) m) : PInv K I H H2 (st.rw rs) t bg nxa gs nx m c' := by
  refine ⟨h.ht, h.hM, h.mb, h.nb, fun a o n e => b a o (fun hm => ?_) (h.bt a o n e), ok, gd, b _ _ h.mb h.bgl, h.iS.trans b.frz, h.ib, h.idi, h.iL, h.iA, h.iN⟩
  rw [h.hM a hm n] at e
  cases e
theorem PInv.draw (h : PInv K I H H1 st t bg nxa gs nx m c) (b : But t H1 H2) (T : Tape H2 t c') : PInv K I H H2 st t bg nxa gs nx m c' := by
  have et := h.ht
  subst et
  have bm := Bm.of_but b (tM st)
  exact ⟨rfl, h.hM, h.mb, h.nb, h.bt.trans b, h.ok.bt b T, h.gd, bm _ _ h.mb h.bgl, h.iS.trans bm.frz, h.ib, h.idi, h.iL, h.iA, h.iN⟩
theorem PInv.tape (h : PInv K I H H1 st t bg nxa gs nx m c) : Tape H1 t c := h.ht ▸ h.ok.tape
theorem PInv.same (h : PInv K I H H1 st t bg nxa gs nx m c) (e : Same H1 H2) : PInv K I H H2 st t bg nxa gs nx m c := h.draw (Same.but e) (h.tape.same e)
theorem PInv.mono (h : PInv K I H H1 st t bg nxa gs nx m c) (e : c ≤ c') : PInv K I H H1 st t bg nxa gs nx m c' := h.draw (But.refl _ _) (h.tape.mono e)
theorem PInv.nl (h : PInv K I H H1 st t bg nxa gs nx m c) : NL K H1 nxa nx := (h.iN.same h.iS).same (frz_same _ _)
theorem frz_upd {M : List Addr} {H : Hp} {b : Addr} {o : HO} (n : b ∉ M) : frz M (upd H b o) = upd (frz M H) b o := by
  funext a
  show (if a ∈ M then none else upd H b o a) = (if a = b then some o else if a ∈ M then none else H a)
  by_cases h : a ∈ M
  · rw [if_pos h, if_neg (fun z : a = b => n (z ▸ h)), if_pos h]
  · rw [if_neg h, if_neg h]
    rfl
theorem PInv.push (h : PInv K I H H1 st t bg nxa gs nx m c) (g' : List Nat) : PInv K I H (upd H1 bg (.lst (g'.map iv))) st t bg nxa g' nx m c := by
  have nm : ∀ a ∈ st.M, a ≠ bg := fun a ha z => h.mb (z ▸ ha)
  have k : ∀ a ∈ st.M, ∀ o, H1 a = some o → upd H1 bg (.lst (g'.map iv)) a = some o := fun a ha o e => by rw [upd_ne (nm a ha)]; exact e
  have iS : Same I (frz st.M (upd H1 bg (.lst (g'.map iv)))) := fun a o e => by
    rw [frz_upd h.mb, upd_ne (ne_of_none e h.ib)]
    exact h.iS a o e
  have tu : ∀ {a : Addr} {xs : List V}, SqT K (frz st.M H1) a xs → SqT K (frz st.M (upd H1 bg (.lst (g'.map iv)))) a xs := fun {a xs} z => by
    rw [frz_upd h.mb]
    exact tup_upd z (frz_at h.bgl h.mb)
  obtain ⟨vs, v1, v2⟩ := h.ok.rows
  obtain ⟨x, y, z, t1, t2⟩ := h.ok.tape
  refine ⟨h.ht, h.hM, h.mb, h.nb, fun a o n e => ?_, ⟨h.ok.nd, ⟨x, y, z, k _ (tM st) _ t1, t2⟩, iS _ _ h.idi, ⟨vs, k _ (by simp [Sta.M]) _ v1, pd_mono v2 fun _ _ q => row_tups q tu⟩, k _ (by simp [Sta.M]) _ h.ok.blocks, k _ (by simp [Sta.M]) _ h.ok.wide, k _ (by simp [Sta.M]) _ h.ok.deep,
    h.iL.same iS, h.iA.same iS, h.ok.lb, h.ok.lw, h.ok.ld⟩, h.gd, upd_same, iS, h.ib, h.idi, h.iL, h.iA, h.iN⟩
  rw [upd_ne (ne_of_none e h.nb)]
  exact h.bt a o n e
end Gn
set_option Elab.async false
set_option linter.all false
set_option maxRecDepth 100000
set_option maxHeartbeats 8000000
namespace Gn
open PySem PySem.Spec PyProof.Rows L2
theorem leadsL_ok {nx : List (List Nat)} {m : Nat} (h : nx.length = m) (hm : m ≤ 12) : (leadsL nx).length = m ∧ ∀ xs ∈ leadsL nx, xs.length ≤ 12 ∧ ∀ l ∈ xs, l < m := by
  unfold leadsL
  refine ⟨by rw [List.length_map, List.length_range, h], fun xs hx => ?_⟩
  obtain ⟨b, hb, rfl⟩ := List.mem_map.mp hx
  refine ⟨Nat.le_trans (List.length_filter_le _ _) (by rw [List.length_range]; omega), fun l hl => ?_⟩
  have := List.mem_range.mp (List.mem_filter.mp hl).1
  omega
def Sta.upd4 (st : Sta) (a : List Rw) (b c d : List Nat) : Sta := { st with rows := a, blocks := b, wide := c, deep := d }
section
variable {K : PySem.W.Frag} {I H H1 : Hp} {st : Sta} {t bg nxa : Addr} {gs : List Nat} {nx : List (List Nat)} {m c : Nat}
theorem tell_rd {D : Ends} {ra : List Rw} {ba wa da : List Nat} {blk : Nat} {y1 y2 y3 y5 y7 y8 y9 y10 y11 : Option V} (P : PInv K I H H1 (st.upd4 ra ba wa da) t bg nxa gs nx m c) (hB : Bs (st.upd4 ra ba wa da)) (hb : blk < m) (hl : ra.length ≤ 900) (hc : c + 1 ≤ 100000000)
    (k : ∀ (H2 : Hp) (ra' : List Rw) (ba' wa' da' : List Nat) (z8 : Option V), PInv K I H H2 (st.upd4 ra' ba' wa' da') t bg nxa gs nx m (c + 1) → Bs (st.upd4 ra' ba' wa' da') → ra'.length = ra.length + 1 → (∃ x, ra' = ra ++ [Rw.tell x]) → ba' = ba ++ [blk] → D.nx [some (.ref t), y1, y2, y3, some (.ref st.s), y5, some (iv blk), y7, z8, y9, y10, y11] H2) :
    tSeq (tAsg (tStand K (tVar 4) (tVar 6)) (gName 8)) (tDrop (tCall (spPut K) [] E0 (tCons (tVar 4) (tCons (tVar 6) (tCons (tTup (tCons (tC (.str "tell")) (tCons (tIxL K (tVar 8) (tDr (tVar 0) (tLen K (tVar 8)))) tNil))) (tCons (tC (.int 1)) (tCons (tC (.int 1)) tNil)))))))
      D [some (.ref t), y1, y2, y3, some (.ref st.s), y5, some (iv blk), y7, y8, y9, y10, y11] H1 := by
  have hab : blk < (st.upd4 ra ba wa da).above.length := by rw [P.gd.la]; exact hb
  have hlr : (st.upd4 ra ba wa da).rows.length = ra.length := rfl
  refine ⟨.ref st.s, rfl, iv blk, rfl, st.upd4 ra ba wa da, c, blk, rfl, P.ok, hab, by omega, fun sa H2 nsa s2 esa => ?_⟩
  have ss0 : 0 < (standL (st.upd4 ra ba wa da) blk).length := List.length_pos_of_mem (hB.st0 hab)
  have ssl : (standL (st.upd4 ra ba wa da) blk).length ≤ 900 := Nat.le_trans (standL_len _ _) (by omega)
  have sslt : ∀ y ∈ standL (st.upd4 ra ba wa da) blk, y < ra.length := fun y h => standL_lt h
  obtain ⟨ss, hss⟩ : ∃ ss, ss = standL (st.upd4 ra ba wa da) blk := ⟨_, rfl⟩
  rw [← hss] at esa ss0 ssl sslt
  have P2 := P.same s2
  have hlm : ((ss.map iv).length : Int) = (ss.length : Int) := by rw [List.length_map]
  have nst : sa ≠ t := P.tape.ne nsa
  refine ⟨.ref st.s, rfl, iv blk, rfl, .ref sa, rfl, .ref t, rfl, .ref sa, rfl, sa, _, rfl, .inl (sqL esa), t, _, c, rfl, P2.tape, by omega, by omega, by omega, fun r H3 h3 b3 T3 => ?_⟩
  have hr : r < ss.length := by omega
  refine ⟨sa, _, _, _, rfl, rfl, sqL (b3 sa _ nst esa), at_iv hr, szl (show 2 ≤ 1000000 by decide), fun p np => ?_⟩
  have P3 := P2.draw b3 T3
  have sp' := new_same (o := .tup [.str "tell", iv ss[r]]) np
  have P4 := P3.same sp'
  have mp := P3.ok.fresh np
  refine ⟨st.upd4 ra ba wa da, c + 1, blk, .ref p, .tell ss[r], 1, 1, rfl, P4.ok, by omega, ⟨p, _, rfl, sqT (frz_at upd_same mp), rfl⟩, fun H5 bm ok5 => ?_⟩
  have gd5 := P4.gd.put (blk := blk) (row := .tell ss[r]) (wi := 1) (de := 1) P4.ok.lb (show ss[r] < ra.length + 1 by have := sslt _ (List.getElem_mem hr); omega) (fun ps e => by cases e) (fun y hy => by rw [List.mem_singleton.mp hy, ← hss]; exact List.getElem_mem hr) (Nat.le_refl _) (by decide) (Nat.le_refl _) (by decide)
  exact k H5 (ra ++ [.tell ss[r]]) (ba ++ [blk]) (wa ++ [1]) (da ++ [1]) _ (P4.next bm ok5 gd5) hB.put (by rw [List.length_append, List.length_singleton]) ⟨_, rfl⟩ rfl
end
theorem pd_drop {α β : Type} {F : α → β → Prop} : ∀ {l : List α} {m : List β} (n : Nat), Paired F l m → Paired F (l.drop n) (m.drop n)
  | _, _, 0, h => h
  | _, _, _ + 1, .nil => .nil
  | _, _, n + 1, .cons _ t => pd_drop n t
theorem pd_take {α β : Type} {F : α → β → Prop} : ∀ {l : List α} {m : List β} (n : Nat), Paired F l m → Paired F (l.take n) (m.take n)
  | _, _, 0, _ => .nil
  | _, _, _ + 1, .nil => .nil
  | _, _, n + 1, .cons h t => .cons h (pd_take n t)
def cutR (rs : List Rw) (lo hi : Option Int) : List Rw := (rs.drop (HT.sIx rs.length 0 lo)).take (HT.sIx rs.length rs.length hi - HT.sIx rs.length 0 lo)
theorem pd_cut {F : V → Rw → Prop} {vs : List V} {rs : List Rw} (h : Paired F vs rs) (lo hi : Option Int) : Paired F (cutV vs lo hi) (cutR rs lo hi) := by
  unfold cutV cutR
  rw [pd_len h]
  exact pd_take _ (pd_drop _ h)
theorem cutR_mem {rs : List Rw} {lo hi : Option Int} {r : Rw} (h : r ∈ cutR rs lo hi) : r ∈ rs := List.mem_of_mem_drop (List.mem_of_mem_take h)
theorem cutR_len (rs : List Rw) (lo hi : Option Int) : (cutR rs lo hi).length ≤ rs.length := by
  unfold cutR
  rw [List.length_take, List.length_drop]
  omega
theorem PInv.oth {K : PySem.W.Frag} {I H H1 : Hp} {st : Sta} {t bg nxa f : Addr} {gs : List Nat} {nx : List (List Nat)} {m c : Nat} {xs ys : List V} (h : PInv K I H H1 st t bg nxa gs nx m c) (hf : f ∉ st.M) (nb : f ≠ bg) (iF : I f = none) (hF : H f = none) (e1 : H1 f = some (.lst xs)) :
    PInv K I H (upd H1 f (.lst ys)) st t bg nxa gs nx m c := by
  have nm : ∀ a ∈ st.M, a ≠ f := fun a ha z => hf (z ▸ ha)
  have k : ∀ a ∈ st.M, ∀ o, H1 a = some o → upd H1 f (.lst ys) a = some o := fun a ha o e => by rw [upd_ne (nm a ha)]; exact e
  have iS : Same I (frz st.M (upd H1 f (.lst ys))) := fun a o e => by
    rw [frz_upd hf, upd_ne (ne_of_none e iF)]
    exact h.iS a o e
  have tu : ∀ {a : Addr} {xs : List V}, SqT K (frz st.M H1) a xs → SqT K (frz st.M (upd H1 f (.lst ys))) a xs := fun {a xs} z => by
    rw [frz_upd hf]
    exact tup_upd z (frz_at e1 hf)
  obtain ⟨vs, v1, v2⟩ := h.ok.rows
  obtain ⟨x, y, z, t1, t2⟩ := h.ok.tape
  refine ⟨h.ht, h.hM, h.mb, h.nb, fun a o n e => ?_, ⟨h.ok.nd, ⟨x, y, z, k _ (tM st) _ t1, t2⟩, iS _ _ h.idi, ⟨vs, k _ (by simp [Sta.M]) _ v1, pd_mono v2 fun _ _ q => row_tups q tu⟩, k _ (by simp [Sta.M]) _ h.ok.blocks, k _ (by simp [Sta.M]) _ h.ok.wide, k _ (by simp [Sta.M]) _ h.ok.deep,
    h.iL.same iS, h.iA.same iS, h.ok.lb, h.ok.lw, h.ok.ld⟩, h.gd, by rw [upd_ne (Ne.symm nb)]; exact h.bgl, iS, h.ib, h.idi, h.iL, h.iA, h.iN⟩
  rw [upd_ne (ne_of_none e hF)]
  exact h.bt a o n e
theorem one_eq {xs : List Nat} (h : xs.length = 1) : [xs[0]] = xs := by
  match xs, h with
  | [a], _ => rfl
theorem two_eq {xs : List Nat} (h : xs.length = 2) : [xs[0], xs[1]] = xs := by
  match xs, h with
  | [a, b], _ => rfl
theorem nil_eq {xs : List Nat} (h : xs.length ≤ 2) (h1 : ¬ xs.length = 1) (h2 : xs.length ≠ 2) : [] = xs := by
  match xs, h, h1, h2 with
  | [], _, _, _ => rfl
  | [a], _, h1, _ => exact absurd rfl h1
  | [a, b], _, _, h2 => exact absurd rfl h2
theorem tup_frz {K : PySem.W.Frag} {H : Hp} {t a : Addr} {xs ys : List V} (h : SqT K H a xs) (e : H t = some (.lst ys)) : SqT K (frz [t] H) a xs := by
  rcases h with (h | ⟨u, h⟩) | h
  · exact .inl (.inl (frz_at h (by simpa using ne_of h e (by intro z; cases z))))
  · exact .inl (.inr ⟨u, frz_at h (by simpa using ne_of h e (by intro z; cases z))⟩)
  · exact .inr h
theorem BlkI.outF {K : PySem.W.Frag} {t fo : Addr} {H : Hp} {v : V} {b : Blk} {ys : List V} (h : BlkI K t fo H v b) (e : H t = some (.lst ys)) : BlkAt K (frz [t] H) v b := by
  obtain ⟨p, ra, ea, vs, h1, h2, h3, h4, h5, h6, h7⟩ := h
  exact ⟨p, ra, ea, vs, h1, tup_frz h2 e, frz_at h3 (by simpa using h4), pd_mono h6 fun _ _ z => row_tups z fun q => tup_frz q e, h7.mv fun q => tup_frz q e⟩
theorem EnOk.mono {m n n' : Nat} {e : En} (h : EnOk m n e) (l : n ≤ n') : EnOk m n' e := by
  cases e with
  | go b => exact h
  | iff r b c => exact ⟨Nat.lt_of_lt_of_le h.1 l, h.2⟩
  | fin => exact h
/-! ### where the rows of each block lie -/
structure Lay (ra : List Rw) (ba gs : List Nat) : Prop where
  asc : ∀ a b, a ≤ b → b < gs.length → gs.getD a 0 ≤ gs.getD b 0
  fst : gs.getD 0 0 = 0
  top : ∀ a, a < gs.length → gs.getD a 0 ≤ ra.length
  len : ba.length = ra.length
  own : ∀ k, k < ra.length → ba.getD k 0 < gs.length ∧ gs.getD (ba.getD k 0) 0 ≤ k ∧ (ba.getD k 0 + 1 < gs.length → k < gs.getD (ba.getD k 0 + 1) 0)
  ma : ∀ k, k + 1 < ra.length → mB ra (k + 1) = true → ba.getD k 0 = ba.getD (k + 1) 0 → mB ra k = true
theorem getD_app {α : Type} {xs : List α} {x d : α} (k : Nat) : (xs ++ [x]).getD k d = if k = xs.length then x else xs.getD k d := by
  rw [List.getD_eq_getElem?_getD, List.getD_eq_getElem?_getD]
  by_cases hk : k = xs.length
  · subst hk
    rw [if_pos rfl, List.getElem?_append_right (Nat.le_refl _), Nat.sub_self]
    rfl
  · rw [if_neg hk]
    by_cases h : k < xs.length
    · rw [List.getElem?_append_left h]
    · rw [List.getElem?_eq_none (by rw [List.length_append, List.length_singleton]; omega), List.getElem?_eq_none (by omega)]
theorem Lay.nil : Lay [] [] [] := ⟨fun a b _ h => by simp at h, rfl, fun a h => by simp at h, rfl, fun k h => by simp at h, fun k h => by simp at h⟩
theorem Lay.push {ra : List Rw} {ba gs : List Nat} (h : Lay ra ba gs) (h0 : gs = [] → ra = []) : Lay ra ba (gs ++ [ra.length]) := by
  have hl : (gs ++ [ra.length]).length = gs.length + 1 := by rw [List.length_append, List.length_singleton]
  refine ⟨fun a b hab hb => ?_, ?_, fun a ha => ?_, h.len, fun k hk => ?_, h.ma⟩
  · rw [hl] at hb
    rw [getD_app, getD_app]
    by_cases hb2 : b = gs.length
    · rw [if_pos hb2]
      by_cases ha2 : a = gs.length
      · rw [if_pos ha2]; exact Nat.le_refl _
      · rw [if_neg ha2]; exact h.top a (by omega)
    · rw [if_neg hb2, if_neg (by omega)]
      exact h.asc a b hab (by omega)
  · rw [getD_app]
    by_cases e : 0 = gs.length
    · rw [if_pos e, h0 (List.length_eq_zero_iff.mp e.symm)]
      rfl
    · rw [if_neg e]; exact h.fst
  · rw [hl] at ha
    rw [getD_app]
    by_cases e : a = gs.length
    · rw [if_pos e]; exact Nat.le_refl _
    · rw [if_neg e]; exact h.top a (by omega)
  · obtain ⟨h1, h2, h3⟩ := h.own k hk
    rw [hl, getD_app, if_neg (by omega), getD_app]
    refine ⟨by omega, h2, fun h4 => ?_⟩
    by_cases e : ba.getD k 0 + 1 = gs.length
    · rw [if_pos e]; exact hk
    · rw [if_neg e]; exact h3 (by omega)
theorem Lay.put {ra : List Rw} {ba gs : List Nat} {i : Nat} {row : Rw} (h : Lay ra ba gs) (hg : gs.length = i + 1) (hm : row.isM = true → ∀ k, k + 1 = ra.length → ba.getD k 0 = i → mB ra k = true) : Lay (ra ++ [row]) (ba ++ [i]) gs := by
  have hl : (ra ++ [row]).length = ra.length + 1 := by rw [List.length_append, List.length_singleton]
  have hb : ∀ k, (ba ++ [i]).getD k 0 = if k = ra.length then i else ba.getD k 0 := fun k => by rw [getD_app, h.len]
  have hmb : ∀ k, mB (ra ++ [row]) k = if k = ra.length then row.isM else mB ra k := fun k => by
    unfold mB
    rw [getD_app]
    by_cases e : k = ra.length
    · rw [if_pos e, if_pos e]
    · rw [if_neg e, if_neg e]
  refine ⟨h.asc, h.fst, fun a ha => Nat.le_trans (h.top a ha) (by omega), by rw [hl, List.length_append, List.length_singleton, h.len], fun k hk => ?_, fun k hk hm1 he => ?_⟩
  · rw [hb]
    by_cases e : k = ra.length
    · rw [if_pos e]
      exact ⟨by omega, by rw [e]; exact h.top i (by omega), fun z => by omega⟩
    · rw [if_neg e]
      exact h.own k (by omega)
  · rw [hb, hb, if_neg (by omega)] at he
    rw [hmb] at hm1
    rw [hmb, if_neg (by omega)]
    by_cases e : k + 1 = ra.length
    · rw [if_pos e] at hm1 he
      exact hm hm1 k e he
    · rw [if_neg e] at hm1 he
      exact h.ma k (by omega) hm1 he
theorem Lay.rw {ra rs : List Rw} {ba gs : List Nat} (h : Lay ra ba gs) (hl : rs.length = ra.length) (hm : ∀ k, mB rs k = mB ra k) : Lay rs ba gs :=
  ⟨h.asc, h.fst, fun a ha => by rw [hl]; exact h.top a ha, by rw [hl]; exact h.len, fun k hk => h.own k (by omega), fun k hk h1 h2 => by rw [hm] at h1 ⊢; exact h.ma k (by omega) h1 h2⟩
theorem Lay.at {ra : List Rw} {ba gs : List Nat} (h : Lay ra ba gs) {i k : Nat} (hi : i + 1 < gs.length) (h1 : gs.getD i 0 ≤ k) (h2 : k < gs.getD (i + 1) 0) : ba.getD k 0 = i := by
  have hk : k < ra.length := Nat.lt_of_lt_of_le h2 (h.top (i + 1) hi)
  obtain ⟨a1, a2, a3⟩ := h.own k hk
  rcases Nat.lt_trichotomy (ba.getD k 0) i with z | z | z
  · have b1 := a3 (by omega)
    have b2 := h.asc (ba.getD k 0 + 1) i z (by omega)
    omega
  · exact z
  · have b2 := h.asc (i + 1) (ba.getD k 0) z a1
    omega
theorem cut_nat {rs : List Rw} {a b : Nat} (h1 : a ≤ b) (h2 : b ≤ rs.length) : cutR rs (some (a : Int)) (some (b : Int)) = (rs.drop a).take (b - a) := by
  unfold cutR
  rw [show HT.sIx rs.length 0 (some (a : Int)) = min a rs.length from HT.sIx_nat rs.length 0 a, show HT.sIx rs.length rs.length (some (b : Int)) = min b rs.length from HT.sIx_nat rs.length rs.length b, Nat.min_eq_left h2, Nat.min_eq_left (Nat.le_trans h1 h2)]
theorem cut_at {rs : List Rw} {a b x : Nat} (hx : x < b - a) : ((rs.drop a).take (b - a))[x]? = rs[a + x]? := by
  rw [List.getElem?_take, if_pos hx, List.getElem?_drop]
theorem mB_cut {rs : List Rw} {a b y : Nat} (hy : y < b - a) : mB ((rs.drop a).take (b - a)) y = mB rs (a + y) := by
  unfold mB
  rw [List.getD_eq_getElem?_getD (l := List.take _ _), List.getD_eq_getElem?_getD, cut_at hy]
theorem RwIn.notM {ss : List Nat} {r : Rw} (h : RwIn ss r) : r.isM = false := by
  cases r with
  | meet ps => exact h.elim
  | _ => rfl
def rowsL (pr : List Blk) : List Rw := (pr.map (·.1)).flatten
theorem rowsL_snoc (pr : List Blk) (b : Blk) : (rowsL (pr ++ [b])).length = (rowsL pr).length + b.1.length := by
  unfold rowsL
  rw [List.map_append, List.flatten_append, List.length_append]
  simp
/-- what else the programs made here are -/
structure PrX (m : Nat) (pr : List Blk) : Prop where
  rb : ∀ b ∈ pr, (∀ r ∈ b.1, RwB (rowsL pr).length r) ∧ EnOk m (rowsL pr).length b.2
  mt : ∀ (i : Nat) (b : Blk), pr[i]? = some b → ∀ (x : Nat) (ps : List Nat), b.1[x]? = some (.meet ps) → ∃ ld, (leadsL (pr.map fun b => b.2.names))[i]? = some ld ∧ ps.length = ld.length ∧ 1 ≤ ld.length
  ma : ∀ b ∈ pr, ∀ x, x + 1 < b.1.length → mB b.1 (x + 1) = true → mB b.1 x = true
theorem lead0 {m : Nat} {nx : List (List Nat)} {ld : List Nat} (h : ∀ xs ∈ nx, NxE m xs) (e : (leadsL nx)[0]? = some ld) : ld = [] := by
  unfold leadsL at e
  rw [List.getElem?_map] at e
  obtain ⟨b, hb, rfl⟩ := Option.map_eq_some_iff.mp e
  have hb0 : b = 0 := by
    have h1 := (List.getElem?_eq_some_iff.mp hb).2
    rw [List.getElem_range] at h1
    exact h1.symm
  subst hb0
  rw [List.filter_eq_nil_iff]
  intro l hl hc
  have hl2 := List.mem_range.mp hl
  have h1 := of_decide_eq_true hc
  rw [List.getD_eq_getElem?_getD, List.getElem?_eq_getElem hl2] at h1
  exact absurd ((h _ (List.getElem_mem hl2)).2.2 0 h1).1 (by decide)
/-- what the ends name -/
def NxOk (m : Nat) (nx : List (List Nat)) : Prop := nx.length = m ∧ (∀ xs ∈ nx, NxE m xs) ∧ LedX m nx
/-- what the programs made here name stands: st is the maker's state at its end -/
structure PrS (st : Sta) (pr : List Blk) : Prop where
  rows : rowsL pr = st.rows
  lb : st.blocks.length = st.rows.length
  own : ∀ i k, i < pr.length → (rowsL (pr.take i)).length ≤ k → k < (rowsL (pr.take (i + 1))).length → st.blocks.getD k 0 = i
  su : UsedIn st
  mo : MeetOk st
  en : ∀ (i : Nat) (b : Blk), pr[i]? = some b → ∀ r x y, b.2 = .iff r x y → r ∈ standL st i
  ld : st.leads = leadsL (pr.map fun b => b.2.names)
  ab : st.above = abv (pr.map fun b => b.2.names)
  bs : Bs st
structure PrI (st : Sta) (gs : List Nat) (pr : List Blk) : Prop where
  rows : rowsL pr = st.rows.take (gs.getD pr.length 0)
  cut : ∀ j, j ≤ pr.length → (rowsL (pr.take j)).length = gs.getD j 0
  en : ∀ (i : Nat) (b : Blk), pr[i]? = some b → ∀ r x y, b.2 = .iff r x y → r ∈ standL st i
theorem PrI.nil {st : Sta} {gs : List Nat} (h : gs.getD 0 0 = 0) : PrI st gs [] := ⟨by rw [show ([] : List Blk).length = 0 from rfl, h]; rfl, fun j hj => by
  have : j = 0 := by simpa using hj
  rw [this, h]
  rfl, fun i b e => by simp at e⟩
theorem PrI.snoc {st : Sta} {gs : List Nat} {pr : List Blk} {b : Blk} {i : Nat} (h : PrI st gs pr) (hl : pr.length = i) (h1 : gs.getD i 0 ≤ gs.getD (i + 1) 0) (h2 : gs.getD (i + 1) 0 ≤ st.rows.length)
    (e : b.1 = (st.rows.drop (gs.getD i 0)).take (gs.getD (i + 1) 0 - gs.getD i 0)) (he : ∀ r x y, b.2 = .iff r x y → r ∈ standL st i) : PrI st gs (pr ++ [b]) := by
  have hlen : (pr ++ [b]).length = i + 1 := by rw [List.length_append, List.length_singleton, hl]
  have hr : rowsL (pr ++ [b]) = st.rows.take (gs.getD (i + 1) 0) := by
    have hx : rowsL (pr ++ [b]) = rowsL pr ++ b.1 := by
      unfold rowsL
      rw [List.map_append, List.flatten_append]
      simp
    rw [hx, h.rows, hl, e]
    have := List.take_add (l := st.rows) (i := gs.getD i 0) (j := gs.getD (i + 1) 0 - gs.getD i 0)
    rw [← this, show gs.getD i 0 + (gs.getD (i + 1) 0 - gs.getD i 0) = gs.getD (i + 1) 0 by omega]
  refine ⟨by rw [hlen]; exact hr, fun j hj => ?_, fun j b' hb r x y hbe => ?_⟩
  · rw [hlen] at hj
    by_cases hji : j ≤ i
    · rw [List.take_append_of_le_length (by omega)]
      exact h.cut j (by omega)
    · have : j = i + 1 := by omega
      subst this
      rw [List.take_of_length_le (by omega), hr, List.length_take]
      omega
  · by_cases hji : j < pr.length
    · rw [List.getElem?_append_left hji] at hb
      exact h.en j b' hb r x y hbe
    · have hj2 : j = i := by
        have := (List.getElem?_eq_some_iff.mp hb).1
        omega
      rw [List.getElem?_append_right (by omega), show j - pr.length = 0 by omega] at hb
      have : b = b' := Option.some.inj hb
      rw [hj2]
      exact he r x y (by rw [this]; exact hbe)
def spProgram (K : PySem.W.Frag) : Sp := fun vs H Q _ => ∃ (t : Addr) (m most c : Nat), vs = [.ref t, iv m, iv most] ∧ Tape H t c ∧ 1 ≤ m ∧ m ≤ 12 ∧ most ≤ 3 ∧ c ≤ 1000 ∧
  ∀ (H' : Hp) (v : V) (pr : List Blk), But t H H' → Tape H' t 1000000 → ProgAt K (frz [t] H') v pr → ProgOk m 130 pr → NxOk m (pr.map fun b => b.2.names) → PrX m pr → (∃ st, PrS st pr) → Q v H'
abbrev nProgram : List Str := ["_law_tape_here", "_law_many_here", "_law_most", "_law_nexts_here", "_law_state", "_law_begins", "_law_block", "_law_turn", "_law_some", "_law_found", "_law_end", "_law_k"]
theorem scProgram : FnScope nProgram ["_law_tape_here", "_law_many_here", "_law_most"] (defScope sProgram) := ⟨rfl, rfl, rfl, by decide +kernel, rfl, by decide +kernel, by decide +kernel⟩
section
variable {P : Program} {w : World} {K : PySem.W.Frag} {mg : Str → Option Value} {base : Heap}
theorem ok_program {f fD fX fL fV fS fP fA fM fT : Addr} {fd fdD fdX fdL fdV fdS fdP fdA fdM fdT : FuncData} {k : Nat} (D : Df K mg "_law_program" sProgram ["_law_tape_here", "_law_many_here", "_law_most"] f fd) (B : Bi mg)
    (DD : Df K mg "_law_draw" sDraw ["_law_tape_here", "_law_many_here"] fD fdD) (GD : FnOk P w K mg base CX0 k fD fdD ["_law_tape_here", "_law_many_here"] spDraw)
    (DX : Df K mg "_law_nexts" sNexts ["_law_tape_here", "_law_many_here"] fX fdX) (GX : FnOk P w K mg base CX0 k fX fdX ["_law_tape_here", "_law_many_here"] (spNexts K))
    (DL : Df K mg "_law_leads" sLeads ["_law_nexts_here"] fL fdL) (GL : FnOk P w K mg base CX0 k fL fdL ["_law_nexts_here"] (spLeads K))
    (DV : Df K mg "_law_above" sAbove ["_law_nexts_here"] fV fdV) (GV : FnOk P w K mg base CX0 k fV fdV ["_law_nexts_here"] (spAbove K))
    (DS : Df K mg "_law_standing" sStanding ["_law_state", "_law_block"] fS fdS) (GS : FnOk P w K mg base CX0 k fS fdS ["_law_state", "_law_block"] (spStanding K))
    (DP : Df K mg "_law_put" sPut ["_law_state", "_law_block", "_law_row", "_law_wide", "_law_deep"] fP fdP) (GP : FnOk P w K mg base CX0 k fP fdP ["_law_state", "_law_block", "_law_row", "_law_wide", "_law_deep"] (spPut K))
    (DA : Df K mg "_law_add" sAdd ["_law_tape_here", "_law_state", "_law_block"] fA fdA) (GA : FnOk P w K mg base CX0 k fA fdA ["_law_tape_here", "_law_state", "_law_block"] (spAdd K))
    (DM : Df K mg "_law_meet" sMeet ["_law_tape_here", "_law_state", "_law_block"] fM fdM) (GM : FnOk P w K mg base CX0 k fM fdM ["_law_tape_here", "_law_state", "_law_block"] (spMeet K))
    (DT : Df K mg "_law_later" sLater ["_law_tape_here", "_law_state"] fT fdT) (GT : FnOk P w K mg base CX0 k fT fdT ["_law_tape_here", "_law_state"] (spLater K)) : FnOk P w K mg base CX0 (k + 1) f fd ["_law_tape_here", "_law_many_here", "_law_most"] (spProgram K) := by
  refine D.F.ok scProgram (fun vs H Q E h => ?_) (fun cdv A outer s H vs Q E hr h => ?_)
  · obtain ⟨t, m, most, c, rfl, _⟩ := h
    rfl
  · obtain ⟨t, m, most, c, rfl, hT, hm1, hm2, hmo, hc, q⟩ := h
    have hu := hu_of hr
    refine ⟨_, (pss_cons (ps_set (i := 3) scProgram.nd rfl (.inl rfl) (pe_call GX hr (by rfl) DX.g DX.F.kp DX.b .nil pass0 (pa_cons (pv 0) (pa_cons (pv 1) pa_nil))))
      (pss_cons (ps_set (i := 4) scProgram.nd rfl (.inr rfl) (pe_disp (pps_cons pe_str (pe_lst pa_nil) (pps_cons pe_str (pe_lst pa_nil) (pps_cons pe_str (pe_lst pa_nil) (pps_cons pe_str (pe_lst pa_nil) (pps_cons pe_str (pe_call GL hr (by rfl) DL.g DL.F.kp DL.b .nil pass0 (pa_cons (pv 3) pa_nil)) (pps_cons pe_str (pe_call GV hr (by rfl) DV.g DV.F.kp DV.b .nil pass0 (pa_cons (pv 3) pa_nil)) pps_nil)))))) (by rfl) (by rfl) (fun z => by cases z) (by decide)))
      (pss_cons (ps_set (i := 5) scProgram.nd rfl (.inl rfl) (pe_lst pa_nil))
      (pss_cons (ps_for PassesOwn.never rfl (pi_range1 (by rfl) B.range (pa_cons (pv 1) pa_nil)) (pg_name (i := 6) scProgram.nd rfl (.inr rfl)) (pss_cons (ps_expr (pe_bm PySem.F.plainAttrs_list PySem.F.slot_list_append PySem.F.type_list_append mt_append (pv 5) (pa_cons (pe_callB call_len_seq (by rfl) B.len PySem.boot_len (pa_cons (pe_dget hu (pv 4) pe_str (fun _ _ => rfl)) pa_nil)) pa_nil)))
      (Evl.pss_cut (ps_if (pt_cmpR op_eq (pv 6) pe_int (nomark _)) (pss_one (ps_expr (pe_call GP hr (by rfl) DP.g DP.F.kp DP.b .nil pass0 (pa_cons (pv 4) (pa_cons pe_int (pa_cons (pe_tup (pa_cons pe_str (pa_cons pe_int pa_nil))) (pa_cons pe_int (pa_cons pe_int pa_nil)))))))) pss_nil)
      (pss_cons (ps_for PassesOwn.never rfl (pi_range1 (by rfl) B.range (pa_cons (pe_op op_mul (pe_call GD hr (by rfl) DD.g DD.F.kp DD.b .nil pass0 (pa_cons (pv 0) (pa_cons pe_int pa_nil))) (pe_callTy call_int1 (by rfl) B.int PyProof.Rows.boot_int (pa_cons (pe_cmpR op_gt (pe_callB call_len_seq (by rfl) B.len PySem.boot_len (pa_cons (pe_ix ix_list (pe_dget hu (pv 4) pe_str (fun _ _ => rfl)) (pv 6) (fun _ _ => rfl)) pa_nil)) pe_int (nomark _)) pa_nil))) pa_nil)) (pg_name (i := 7) scProgram.nd rfl (.inl rfl)) (pss_one (ps_expr (pe_call GM hr (by rfl) DM.g DM.F.kp DM.b .nil pass0 (pa_cons (pv 0) (pa_cons (pv 4) (pa_cons (pv 6) pa_nil)))))))
      (pss_cons (ps_for PassesOwn.never rfl (pi_range1 (by rfl) B.range (pa_cons (pe_call GD hr (by rfl) DD.g DD.F.kp DD.b .nil pass0 (pa_cons (pv 0) (pa_cons (pe_op op_add (pv 2) pe_int) pa_nil))) pa_nil)) (pg_name (i := 7) scProgram.nd rfl (.inl rfl)) (pss_one (ps_if (pt_cmpR op_eq (pe_call GD hr (by rfl) DD.g DD.F.kp DD.b .nil pass0 (pa_cons (pv 0) (pa_cons pe_int pa_nil))) pe_int (nomark _)) (pss_cons (ps_set (i := 8) scProgram.nd rfl (.inl rfl) (pe_call GS hr (by rfl) DS.g DS.F.kp DS.b .nil pass0 (pa_cons (pv 4) (pa_cons (pv 6) pa_nil))))
      (pss_one (ps_expr (pe_call GP hr (by rfl) DP.g DP.F.kp DP.b .nil pass0 (pa_cons (pv 4) (pa_cons (pv 6) (pa_cons (pe_tup (pa_cons pe_str (pa_cons (pe_ix ix_list (pv 8) (pe_call GD hr (by rfl) DD.g DD.F.kp DD.b .nil pass0 (pa_cons (pv 0) (pa_cons (pe_callB call_len_seq (by rfl) B.len PySem.boot_len (pa_cons (pv 8) pa_nil)) pa_nil))) (fun _ _ => rfl)) pa_nil))) (pa_cons pe_int (pa_cons pe_int pa_nil))))))))) (pss_one (ps_expr (pe_call GA hr (by rfl) DA.g DA.F.kp DA.b .nil pass0 (pa_cons (pv 0) (pa_cons (pv 4) (pa_cons (pv 6) pa_nil)))))))))
      (pss_one (ps_if (pt_cmpR op_eq (pe_call GD hr (by rfl) DD.g DD.F.kp DD.b .nil pass0 (pa_cons (pv 0) (pa_cons pe_int pa_nil))) pe_int (nomark _)) (pss_cons (ps_set (i := 8) scProgram.nd rfl (.inl rfl) (pe_call GS hr (by rfl) DS.g DS.F.kp DS.b .nil pass0 (pa_cons (pv 4) (pa_cons (pv 6) pa_nil))))
      (pss_one (ps_expr (pe_call GP hr (by rfl) DP.g DP.F.kp DP.b .nil pass0 (pa_cons (pv 4) (pa_cons (pv 6) (pa_cons (pe_tup (pa_cons pe_str (pa_cons (pe_ix ix_list (pv 8) (pe_call GD hr (by rfl) DD.g DD.F.kp DD.b .nil pass0 (pa_cons (pv 0) (pa_cons (pe_callB call_len_seq (by rfl) B.len PySem.boot_len (pa_cons (pv 8) pa_nil)) pa_nil))) (fun _ _ => rfl)) pa_nil))) (pa_cons pe_int (pa_cons pe_int pa_nil))))))))) pss_nil)))))))
      (pss_cons (ps_expr (pe_call GT hr (by rfl) DT.g DT.F.kp DT.b .nil pass0 (pa_cons (pv 0) (pa_cons (pv 4) pa_nil))))
      (pss_cons (ps_expr (pe_bm PySem.F.plainAttrs_list PySem.F.slot_list_append PySem.F.type_list_append mt_append (pv 5) (pa_cons (pe_callB call_len_seq (by rfl) B.len PySem.boot_len (pa_cons (pe_dget hu (pv 4) pe_str (fun _ _ => rfl)) pa_nil)) pa_nil)))
      (pss_cons (ps_set (i := 9) scProgram.nd rfl (.inl rfl) (pe_lst pa_nil))
      (pss_cons (ps_for PassesOwn.never rfl (pi_range1 (by rfl) B.range (pa_cons (pv 1) pa_nil)) (pg_name (i := 6) scProgram.nd rfl (.inr rfl)) (pss_cons (ps_setLc (i := 8) (own := [("_law_k", 11)]) (g := gName 11) (tt := tIn K (tVar 11) (tStand K (tVar 4) (tVar 6))) (te := tVar 11) (by rfl) scProgram.nd rfl rfl (sw_true rfl rfl rfl (by decide +kernel)) (pi_range1 (by rfl) B.range (pa_cons (pe_callB call_len_seq (by rfl) B.len PySem.boot_len (pa_cons (pe_dget hu (pv 4) pe_str (fun _ _ => rfl)) pa_nil)) pa_nil)) (blkOk_by (own := [("_law_k", 11)]) (N := nProgram) (sc := defScope sProgram) (by decide +kernel)) (fun _ _ _ _ _ => pg_name (i := 11) scProgram.nd rfl (.inl rfl)) (fun _ _ _ _ _ => pts_one (pt_cmpR op_in_seq (pv 11) (pe_call GS hr (by rfl) DS.g DS.F.kp DS.b .nil pass0 (pa_cons (pv 4) (pa_cons (pv 6) pa_nil))) rfl)) (fun _ _ _ _ _ => pv 11))
      (Evl.pss_cut (ps_set (i := 10) scProgram.nd rfl (.inl rfl) (pe_ifExp (pt_cmpR op_eq (pe_callB call_len_seq (by rfl) B.len PySem.boot_len (pa_cons (pe_ix ix_list (pv 3) (pv 6) (fun _ _ => rfl)) pa_nil)) pe_int (nomark _)) (pe_tup (pa_cons pe_str (pa_cons (pe_ix ix_list (pe_ix ix_list (pv 3) (pv 6) (fun _ _ => rfl)) pe_int (fun _ _ => rfl)) pa_nil))) (pe_tup (pa_cons pe_str pa_nil))))
      (Evl.pss_cut (ps_if (pt_cmpR op_eq (pe_callB call_len_seq (by rfl) B.len PySem.boot_len (pa_cons (pe_ix ix_list (pv 3) (pv 6) (fun _ _ => rfl)) pa_nil)) pe_int (nomark _)) (pss_one (ps_set (i := 10) scProgram.nd rfl (.inl rfl) (pe_tup (pa_cons pe_str (pa_cons (pe_ix ix_list (pv 8) (pe_call GD hr (by rfl) DD.g DD.F.kp DD.b .nil pass0 (pa_cons (pv 0) (pa_cons (pe_callB call_len_seq (by rfl) B.len PySem.boot_len (pa_cons (pv 8) pa_nil)) pa_nil))) (fun _ _ => rfl)) (pa_cons (pe_ix ix_list (pe_ix ix_list (pv 3) (pv 6) (fun _ _ => rfl)) pe_int (fun _ _ => rfl)) (pa_cons (pe_ix ix_list (pe_ix ix_list (pv 3) (pv 6) (fun _ _ => rfl)) pe_int (fun _ _ => rfl)) pa_nil))))))) pss_nil)
      (pss_one (ps_expr (pe_bm PySem.F.plainAttrs_list PySem.F.slot_list_append PySem.F.type_list_append mt_append (pv 9) (pa_cons (pe_tup (pa_cons (pe_slice sl_list (pe_dget hu (pv 4) pe_str (fun _ _ => rfl)) (po_some (pe_ix ix_list (pv 5) (pv 6) (fun _ _ => rfl))) (po_some (pe_ix ix_list (pv 5) (pe_op op_add (pv 6) pe_int) (fun _ _ => rfl)))) (pa_cons (pv 10) pa_nil))) pa_nil))))))))
      (pss_one (ps_ret (pv 9))))))))))), ?_⟩
    refine ⟨.ref t, rfl, iv m, rfl, t, m, c, rfl, hT, by omega, hm1, hm2, fun nxa nx H1 b1 T1 hNL hnl hnx hledx => ?_⟩
    have hnx2 : ∀ xs ∈ nx, xs.length ≤ 2 ∧ ∀ y ∈ xs, y < nx.length := fun xs h => ⟨(hnx xs h).1, fun y hy => by rw [hnl]; exact ((hnx xs h).2.2 y hy).2⟩
    refine fun sA nS => ⟨Nat.zero_le _, fun r nr => ⟨Nat.zero_le _, fun b nb => ⟨Nat.zero_le _, fun wA nw => ⟨Nat.zero_le _, fun dA nd => ?_⟩⟩⟩⟩
    have sa := new_same (o := .dK []) nS
    have sb := new_same (o := .lst []) nr
    have sc := new_same (o := .lst []) nb
    have sd := new_same (o := .lst []) nw
    have se := new_same (o := .lst []) nd
    have eS := se _ _ (sd _ _ (sc _ _ (sb _ _ (upd_same (H := H1) (a := sA) (o := .dK [])))))
    have er := se _ _ (sd _ _ (sc _ _ (upd_same (H := upd H1 sA (.dK [])) (a := r) (o := .lst []))))
    have eb := se _ _ (sd _ _ (upd_same (H := upd (upd H1 sA (.dK [])) r (.lst [])) (a := b) (o := .lst [])))
    have ew := se _ _ (upd_same (H := upd (upd (upd H1 sA (.dK [])) r (.lst [])) b (.lst [])) (a := wA) (o := .lst []))
    have ed := upd_same (H := upd (upd (upd (upd H1 sA (.dK [])) r (.lst [])) b (.lst [])) wA (.lst [])) (a := dA) (o := .lst [])
    have nrs : sA ≠ r := ne_of_none upd_same nr
    have nrb : r ≠ b := ne_of_none upd_same nb
    have nbw : b ≠ wA := ne_of_none upd_same nw
    have nwd : wA ≠ dA := ne_of_none upd_same nd
    have nrw : r ≠ wA := ne_of_none (sc _ _ upd_same) nw
    have nrd : r ≠ dA := ne_of_none (sd _ _ (sc _ _ upd_same)) nd
    have nbd : b ≠ dA := ne_of_none (sd _ _ upd_same) nd
    have sAll : Same H1 _ := (((sa.trans sb).trans sc).trans sd).trans se
    have n1r : H1 r = none := sa.free nr
    have n1b : H1 b = none := (sa.trans sb).free nb
    have n1w : H1 wA = none := ((sa.trans sb).trans sc).free nw
    have n1d : H1 dA = none := (((sa.trans sb).trans sc).trans sd).free nd
    generalize upd (upd (upd (upd (upd H1 sA (.dK [])) r (.lst [])) b (.lst [])) wA (.lst [])) dA (.lst []) = He at eS er eb ew ed sAll
    clear sa sb sc sd se nr nb nw nd
    have nbs : b ≠ sA := fun z => by rw [z, eS] at eb; cases eb
    have nws : wA ≠ sA := fun z => by rw [z, eS] at ew; cases ew
    have nds : dA ≠ sA := fun z => by rw [z, eS] at ed; cases ed
    have hNL1 : NL K H1 nxa nx := hNL.same (new_sub _ _)
    refine ⟨.ref nxa, rfl, nxa, nx, rfl, hNL1.same sAll, by omega, fun LA H2 s2 hL => ?_⟩
    refine ⟨.ref nxa, rfl, nxa, nx, rfl, (hNL1.same sAll).same s2, by omega, by omega, hnx2, fun AA ab H3 s3 hA hal hab habv => ?_⟩
    refine ⟨s3 _ _ (s2 _ _ eS), [(.inr "rows", .ref r), (.inr "blocks", .ref b), (.inr "wide", .ref wA), (.inr "deep", .ref dA), (.inr "leads", .ref LA), (.inr "above", .ref AA)], rfl, show 6 ≤ 15 by decide, ?_⟩
    refine ⟨Nat.zero_le _, fun bg nbg => ?_⟩
    let st0 : Sta := ⟨t, sA, r, b, wA, dA, LA, AA, [], [], [], [], leadsL nx, ab⟩
    have emk : mergeK [] [(Sum.inr "rows", V.ref r), (.inr "blocks", .ref b), (.inr "wide", .ref wA), (.inr "deep", .ref dA), (.inr "leads", .ref LA), (.inr "above", .ref AA)] = st0.kv := by rfl
    rw [emk] at nbg ⊢
    have k3 : ∀ a o, He a = some o → a ≠ sA → upd (upd H3 sA (.dK st0.kv)) bg (.lst []) a = some o := fun a o e n => by
      have e3 := s3 _ _ (s2 _ _ e)
      have e4 : upd H3 sA (.dK st0.kv) a = some o := by rw [upd_ne n]; exact e3
      rw [upd_ne (ne_of_none e4 nbg)]
      exact e4
    have k2 : ∀ a o, H2 a = some o → a ≠ sA → upd (upd H3 sA (.dK st0.kv)) bg (.lst []) a = some o := fun a o e n => by
      have e4 : upd H3 sA (.dK st0.kv) a = some o := by rw [upd_ne n]; exact s3 _ _ e
      rw [upd_ne (ne_of_none e4 nbg)]
      exact e4
    have kk : ∀ a o, H3 a = some o → a ≠ sA → upd (upd H3 sA (.dK st0.kv)) bg (.lst []) a = some o := fun a o e n => by
      have e4 : upd H3 sA (.dK st0.kv) a = some o := by rw [upd_ne n]; exact e
      rw [upd_ne (ne_of_none e4 nbg)]
      exact e4
    have nbS : bg ≠ sA := (ne_of_none upd_same nbg).symm
    have n3b : H3 bg = none := by
      cases z : H3 bg with
      | none => rfl
      | some o => rw [upd_ne nbS, z] at nbg; cases nbg
    have nst : t ≠ sA := by
      obtain ⟨x, y, z, t1, t2⟩ := T1
      exact ne_of_none t1 nS
    have nbt : ∀ a o, He a = some o → a ≠ bg := fun a o e => ne_of_none (s3 _ _ (s2 _ _ e)) n3b
    obtain ⟨tx, ty, tz, t1, t2⟩ := T1
    have ntr : t ≠ r := ne_of_none t1 n1r
    have ntb : t ≠ b := ne_of_none t1 n1b
    have ntw : t ≠ wA := ne_of_none t1 n1w
    have ntd : t ≠ dA := ne_of_none t1 n1d
    have nsr : sA ≠ r := nrs
    have eS5 : upd (upd H3 sA (.dK st0.kv)) bg (.lst []) sA = some (.dK st0.kv) := by rw [upd_ne nbS.symm, upd_same]
    generalize hH5 : upd (upd H3 sA (.dK st0.kv)) bg (.lst []) = H5 at k3 k2 kk eS5
    have ebg : H5 bg = some (.lst []) := by rw [← hH5]; exact upd_same
    have MM : st0.M = [t, r, b, wA, dA] := rfl
    have inM : ∀ a ∈ bg :: st0.M, a = bg ∨ ∃ o, He a = some o ∧ a ≠ sA := fun a ha => by
      rw [MM] at ha
      simp only [List.mem_cons, List.not_mem_nil, or_false] at ha
      rcases ha with rfl | rfl | rfl | rfl | rfl | rfl
      · exact .inl rfl
      · exact .inr ⟨_, sAll _ _ t1, nst⟩
      · exact .inr ⟨_, er, nsr.symm⟩
      · exact .inr ⟨_, eb, fun z => by rw [z, eS] at eb; cases eb⟩
      · exact .inr ⟨_, ew, fun z => by rw [z, eS] at ew; cases ew⟩
      · exact .inr ⟨_, ed, fun z => by rw [z, eS] at ed; cases ed⟩
    let I : Hp := frz (bg :: st0.M) H5
    have nM1 : ∀ a o, H1 a = some o → a ≠ t → a ∉ bg :: st0.M := fun a o e n ha => by
      rw [MM] at ha
      simp only [List.mem_cons, List.not_mem_nil, or_false] at ha
      rcases ha with rfl | rfl | rfl | rfl | rfl | rfl
      · exact nbt a o (sAll _ _ e) rfl
      · exact n rfl
      · rw [n1r] at e; cases e
      · rw [n1b] at e; cases e
      · rw [n1w] at e; cases e
      · rw [n1d] at e; cases e
    have iN : NL K I nxa nx := hNL.same fun a o e => by
      obtain ⟨e1, e2⟩ := new_of e
      have nat : a ≠ t := fun z => by
        obtain ⟨x, hx⟩ := hT.lst
        rw [z, hx] at e1; cases e1
      exact frz_at (k3 _ _ (sAll _ _ e2) (ne_of_none e2 nS)) (nM1 a o e2 nat)
    have iL : NL K I LA (leadsL nx) := hL.same fun a o e => by
      obtain ⟨e1, e2⟩ := new_of e
      refine frz_at (k2 _ _ e2 fun z => ?_) fun ha => ?_
      · rw [z, eS] at e1; cases e1
      · rcases inM a ha with rfl | ⟨o', h1, _⟩
        · rw [s3 _ _ e2] at n3b; cases n3b
        · rw [h1] at e1; cases e1
    have iA : NL K I AA ab := hA.same fun a o e => by
      obtain ⟨e1, e2⟩ := new_of e
      refine frz_at (kk _ _ e2 fun z => ?_) fun ha => ?_
      · rw [z, s2 _ _ eS] at e1; cases e1
      · rcases inM a ha with rfl | ⟨o', h1, _⟩
        · rw [e2] at n3b; cases n3b
        · rw [s2 _ _ h1] at e1; cases e1
    have mbg : bg ∉ st0.M := fun ha => by
      rcases List.mem_cons.mp (List.mem_cons_of_mem bg ha) with _ | _
      · rw [MM] at ha
        simp only [List.mem_cons, List.not_mem_nil, or_false] at ha
        rcases ha with z | z | z | z | z
        · exact nbt t _ (sAll _ _ t1) z.symm
        · exact nbt r _ er z.symm
        · exact nbt b _ eb z.symm
        · exact nbt wA _ ew z.symm
        · exact nbt dA _ ed z.symm
      · rw [MM] at ha
        simp only [List.mem_cons, List.not_mem_nil, or_false] at ha
        rcases ha with z | z | z | z | z
        · exact nbt t _ (sAll _ _ t1) z.symm
        · exact nbt r _ er z.symm
        · exact nbt b _ eb z.symm
        · exact nbt wA _ ew z.symm
        · exact nbt dA _ ed z.symm
    have iS : Same I (frz st0.M H5) := fun a o e => frz_at (frz_same _ _ _ _ e) fun ha => frz_mem e (List.mem_cons_of_mem bg ha)
    have ib : I bg = none := by
      show frz (bg :: st0.M) H5 bg = none
      unfold frz
      rw [if_pos (List.mem_cons_self)]
    have msA : sA ∉ bg :: st0.M := fun ha => by
      rcases inM sA ha with z | ⟨_, _, z⟩
      · exact nbS z.symm
      · exact z rfl
    have idi : I st0.s = some (.dK st0.kv) := frz_at eS5 msA
    have t5 : H5 t = some (.lst [.int tx, .int ty, .int tz]) := k3 _ _ (sAll _ _ t1) nst
    have hfr : ∀ a, He a ≠ none → H1 a = none → a ≠ t → H a = none := fun a _ e n => fresh_but b1 n e
    have P0 : PInv K I H H5 st0 t bg nxa [] nx m (c + 24) := by
      refine ⟨rfl, fun a ha n => ?_, mbg, ?_, fun a o n e => ?_, ⟨?_, ⟨tx, ty, tz, t5, t2⟩, iS _ _ idi, ⟨[], k3 _ _ er nsr.symm, .nil⟩, k3 _ _ eb nbs, k3 _ _ ew nws, k3 _ _ ed nds, iL.same iS, iA.same iS, rfl, rfl, rfl⟩, ?_, ebg, iS, ib, idi, iL, iA, iN⟩
      · rw [MM] at ha
        simp only [List.mem_cons, List.not_mem_nil, or_false] at ha
        rcases ha with rfl | rfl | rfl | rfl | rfl
        · exact absurd rfl n
        · exact fresh_but b1 n n1r
        · exact fresh_but b1 n n1b
        · exact fresh_but b1 n n1w
        · exact fresh_but b1 n n1d
      · have nbgt : bg ≠ t := fun z => mbg (z ▸ tM st0)
        exact fresh_but b1 nbgt (sAll.free (s2.free (s3.free n3b)))
      · have e1 := b1 a o n e
        exact k3 _ _ (sAll _ _ e1) (ne_of_none e1 nS)
      · rw [MM]
        simp only [List.nodup_cons, List.mem_cons, List.not_mem_nil, or_false, not_or, List.nodup_nil, and_true, not_false_eq_true]
        exact ⟨⟨ntr, ntb, ntw, ntd⟩, ⟨nrb, nrw, nrd⟩, ⟨nbw, nbd⟩, nwd⟩
      · obtain ⟨l1, l2⟩ := leadsL_ok hnl hm2
        exact ⟨l1, by show ab.length = m; rw [hal, hnl], fun xs h => (hab xs h).1, l2, ⟨fun x h => (by cases h), fun x h => (by cases h)⟩, fun k ps e => (by cases e), (fun r h => (by cases h)), fun k r e => (by cases e)⟩
    have eB : ∀ xs ∈ st0.above, 0 ∈ xs := fun xs h => (hab xs h).1
    refine ⟨_, rfl, (m : Int), rfl, by omega, by omega, ?_⟩
    refine for_range (lo := 0) (n := m) (fun i σ H6 => ∃ (ra : List Rw) (ba wa da gs : List Nat) (y6 y7 y8 : Option V), σ = [some (.ref t), some (iv m), some (iv most), some (.ref nxa), some (.ref sA), some (.ref bg), y6, y7, y8, none, none, none] ∧
      PInv K I H H6 (st0.upd4 ra ba wa da) t bg nxa gs nx m (c + 24 + 200 * i) ∧ gs.length = i ∧ ra.length ≤ 10 * i ∧ (0 < i → Bs (st0.upd4 ra ba wa da)) ∧ Lay ra ba gs ∧ (gs = [] → ra = []))
      ⟨[], [], [], [], [], none, none, none, rfl, P0, rfl, Nat.zero_le _, fun z => absurd z (Nat.lt_irrefl 0), Lay.nil, fun _ => rfl⟩ (fun i σ H6 hi hP => ?_) (fun σ H6 hP => ?_)
    · obtain ⟨ra, ba, wa, da, gs, y6, y7, y8, rfl, P6, hgs, hra, hB6, hLy, hLe⟩ := hP
      have hi0 : V.int (0 + (i : Int)) = iv i := by rw [Int.zero_add]; rfl
      rw [hi0]
      obtain ⟨vs, v1, v2⟩ := P6.ok.rows
      have hvl : vs.length = ra.length := pd_len v2
      refine ⟨.ref bg, rfl, .inl ⟨rfl, _, sqL P6.bgl⟩, .ref sA, rfl, sA, .ref r, rfl, dgOf (st := st0.upd4 ra ba wa da) P6.ok.ds (kvR _), r, vs, rfl, .inl (sqL v1), bg, _, _, rfl, rfl, P6.bgl, by rw [List.length_map]; exact szt (by omega), ?_⟩
      have eg : gs.map iv ++ [V.int (vs.length : Int)] = (gs ++ [ra.length]).map iv := by rw [List.map_append, hvl]; rfl
      rw [eg]
      have P7 := P6.push (gs ++ [ra.length])
      generalize upd H6 bg (.lst ((gs ++ [ra.length]).map iv)) = H7 at P7
      have hgs2 : (gs ++ [ra.length]).length = i + 1 := by rw [List.length_append, List.length_singleton, hgs]
      have hLp := hLy.push hLe
      have hnoi : ∀ k, k < ra.length → ba.getD k 0 < i := fun k hk => by have := (hLy.own k hk).1; omega
      have hg2n : gs ++ [ra.length] ≠ [] := by simp
      generalize gs ++ [ra.length] = gs2 at P7 hgs2 hLp hg2n
      refine ⟨fun σ H8 => ∃ (ra : List Rw) (ba wa da : List Nat), σ = [some (.ref t), some (iv m), some (iv most), some (.ref nxa), some (.ref sA), some (.ref bg), some (iv i), y7, y8, none, none, none] ∧
        PInv K I H H8 (st0.upd4 ra ba wa da) t bg nxa gs2 nx m (c + 24 + 200 * i) ∧ ra.length ≤ 10 * i + 1 ∧ Bs (st0.upd4 ra ba wa da) ∧ Lay ra ba gs2 ∧ (0 < i → ∀ k, k < ra.length → ba.getD k 0 = i → mB ra k = true), ?_, fun σ H8 hM => ?_⟩
      · refine ⟨_, rfl, rfl, _, rfl, ite2 (fun e => ?_) (fun e => ?_)⟩
        · have ei : V.int (i : Int) = V.int 0 := of_decide_eq_true e
          have ei2 : (i : Int) = 0 := V.int.inj ei
          have ei3 : i = 0 := by omega
          subst ei3
          have er0 : ra = [] := List.length_eq_zero_iff.mp (by omega)
          have hbl : ba.length = ra.length := P7.ok.lb
          have eb0 : ba = [] := List.length_eq_zero_iff.mp (by rw [hbl, er0]; rfl)
          refine ⟨.ref sA, rfl, szl (show 2 ≤ 1000000 by decide), fun p np => ?_⟩
          have sp' := new_same (o := .tup [.str "take", .int 0]) np
          have P8 := P7.same sp'
          have mp := P7.ok.fresh np
          refine ⟨st0.upd4 ra ba wa da, _, 0, .ref p, .take 0, 1, 1, rfl, P8.ok, by show ra.length ≤ 1000; omega, ⟨p, _, rfl, sqT (frz_at upd_same mp), rfl⟩, fun H9 bm ok9 => ?_⟩
          have gd9 := P8.gd.put (blk := 0) (row := .take 0) (wi := 1) (de := 1) P8.ok.lb (show 0 ≤ 5 by decide) (fun ps e => (by cases e)) (fun y h => by cases h) (Nat.le_refl _) (by decide) (Nat.le_refl _) (by decide)
          refine ⟨ra ++ [.take 0], ba ++ [0], wa ++ [1], da ++ [1], rfl, P8.next bm ok9 gd9, by rw [List.length_append, List.length_singleton]; omega, ⟨?_, ?_, eB⟩, hLp.put hgs2 (fun z => by cases z), fun z => absurd z (Nat.lt_irrefl 0)⟩
          · rw [er0]; rfl
          · rw [eb0]; rfl
        · have hi1 : 0 < i := by
            cases i with
            | zero => exact absurd (decide_eq_true rfl) e
            | succ n => exact Nat.succ_pos _
          exact ⟨ra, ba, wa, da, rfl, P7, by omega, hB6 hi1, hLp, fun _ k hk e => by have := hnoi k hk; omega⟩
      · clear P7 P6 hra hB6 v1 v2 hvl hLy hLe hLp hnoi
        obtain ⟨ra, ba, wa, da, rfl, P8, hra, hB8, hL8, hm8⟩ := hM
        refine ⟨.ref t, rfl, t, 4, _, rfl, P8.tape, by omega, by decide, by decide, fun r1 H9 h9 b9 T9 => ?_⟩
        have P9 := P8.draw b9 T9
        have hlen : i < (st0.upd4 ra ba wa da).leads.length := by rw [P9.gd.ll]; exact hi
        obtain ⟨zs, la, u1, u2, u3, u4⟩ := P9.ok.leads.at (gdl (d := []) hlen)
        have hld := gdl (d := []) hlen
        obtain ⟨hl12, hlm⟩ := P9.gd.lv _ (List.mem_of_getElem? hld)
        have hld0 : (leadsL nx)[i]? = some ((st0.upd4 ra ba wa da).leads.getD i []) := hld
        have hal2 : ab.length = m := by rw [hal, hnl]
        generalize (st0.upd4 ra ba wa da).leads.getD i [] = ld at u4 hl12 hlm hld0
        refine ⟨.ref sA, rfl, sA, .ref LA, rfl, dgOf (st := st0.upd4 ra ba wa da) P9.ok.ds (kvL _), _, rfl, LA, zs, _, .ref la, rfl, rfl, sq_out u1, u3, la, _, rfl, .inl (sq_out u4), _, _, rfl, rfl, .inr ⟨_, rfl, _, _, rfl, rfl, .inl ⟨by omega, by omega⟩, _, rfl, ?_⟩⟩
        have hb01 : ∀ b : Bool, (if b = true then (1 : Int) else 0) = 0 ∨ ((if b = true then (1 : Int) else 0) = 1 ∧ b = true) := by decide
        have hj : (r1 : Int) * (if decide ((1 : Int) < ((ld.map iv).length : Int)) = true then 1 else 0) = 0 ∨ ((r1 : Int) * (if decide ((1 : Int) < ((ld.map iv).length : Int)) = true then 1 else 0) = r1 ∧ 1 < ld.length) := by
          rcases hb01 (decide ((1 : Int) < ((ld.map iv).length : Int))) with h | ⟨h, h'⟩
          · rw [h, Int.mul_zero]; exact .inl rfl
          · rw [h, Int.mul_one]
            have h2 : (1 : Int) < ((ld.map iv).length : Int) := of_decide_eq_true h'
            rw [List.length_map] at h2
            exact .inr ⟨rfl, by omega⟩
        generalize (r1 : Int) * (if decide ((1 : Int) < ((ld.map iv).length : Int)) = true then 1 else 0) = jn at hj
        refine ⟨by omega, by omega, ?_⟩
        have hla : ∀ l ∈ ld, l < ab.length := fun l h => by rw [hal2]; exact hlm l h
        refine for_range (lo := 0) (n := jn.toNat) (fun j σ H10 => ∃ (ra : List Rw) (ba wa da : List Nat) (y7 : Option V), σ = [some (.ref t), some (iv m), some (iv most), some (.ref nxa), some (.ref sA), some (.ref bg), some (iv i), y7, y8, none, none, none] ∧
          PInv K I H H10 (st0.upd4 ra ba wa da) t bg nxa gs2 nx m (c + 24 + 200 * i + 1 + 20 * j) ∧ ra.length ≤ 10 * i + 1 + j ∧ Bs (st0.upd4 ra ba wa da) ∧ Lay ra ba gs2 ∧ (0 < i → ∀ k, k < ra.length → ba.getD k 0 = i → mB ra k = true))
          ⟨ra, ba, wa, da, y7, rfl, P9, hra, hB8, hL8, hm8⟩ (fun j σ H10 hjj hP => ?_) (fun σ H10 hP => ?_)
        · obtain ⟨ra, ba, wa, da, y7, rfl, P10, hra, hB10, hL10, hm10⟩ := hP
          have hj1 : 1 < ld.length ∧ jn.toNat ≤ 3 := by
            rcases hj with h | ⟨h, h'⟩
            · omega
            · exact ⟨h', by omega⟩
          refine ⟨.ref t, rfl, .ref sA, rfl, iv i, rfl, st0.upd4 ra ba wa da, _, i, ld, rfl, P10.ok, P10.gd.wd, hB10, hld0, by omega, hl12, hla, by omega, by show ra.length ≤ 900; omega, fun H11 ps wi de bm ok11 hpl hps hpi k1 k2 k3 k4 => ?_⟩
          have hps' : ∀ y ∈ ps, y < ra.length := hps
          have gd11 := P10.gd.put (blk := i) (row := .meet ps) (wi := wi) (de := de) P10.ok.lb ⟨fun y hy => Nat.lt_succ_of_lt (hps' y hy), by omega⟩ (fun ps' e => by cases e; exact ⟨ld, hld0, hpl, by omega, hl12, hla, hpi⟩) (fun y h => by cases h) k1 k2 k3 k4
          have hi1 : 0 < i := Nat.pos_of_ne_zero fun z => by
            rw [z] at hld0
            exact absurd hj1.1 (by rw [lead0 hnx hld0]; decide)
          refine ⟨ra ++ [Rw.meet ps], ba ++ [i], wa ++ [wi], da ++ [de], _, rfl, (P10.next bm ok11 gd11).mono (by omega), by rw [List.length_append, List.length_singleton]; omega, hB10.put, hL10.put hgs2 (fun _ k hk e => hm10 hi1 k (by omega) e), fun _ k hk e => ?_⟩
          rw [List.length_append, List.length_singleton] at hk
          by_cases hkr : k = ra.length
          · rw [mB_at (r := .meet ps) (by rw [hkr, List.getElem?_append_right (Nat.le_refl _), Nat.sub_self]; rfl)]; rfl
          · rw [getD_app, if_neg (by rw [hL10.len]; exact hkr)] at e
            have := hm10 hi1 k (by omega) e
            unfold mB at this ⊢
            rw [getD_app, if_neg hkr]
            exact this
        · clear P8 P9 hra hB8 T9 b9 u1 u2 u3 u4 hld hlen hL8 hm8
          obtain ⟨ra, ba, wa, da, y7, rfl, P10, hra, hB10, hL10, hm10⟩ := hP
          have hj3 : jn.toNat ≤ 3 := by
            rcases hj with h | ⟨h, h'⟩ <;> omega
          refine ⟨.ref t, rfl, _, rfl, _, _, rfl, rfl, t, _, _, rfl, P10.tape, by omega, by omega, by omega, fun r2 H11 h11 b11 T11 => ⟨_, rfl, by omega, by omega, ?_⟩⟩
          have P11 := (P10.draw b11 T11).mono (show c + 24 + 200 * i + 1 + 20 * jn.toNat + 1 ≤ c + 24 + 200 * i + 62 + 34 * 0 by omega)
          refine for_range (lo := 0) (n := r2) (fun j σ H12 => ∃ (ra : List Rw) (ba wa da : List Nat) (y7 y8 : Option V), σ = [some (.ref t), some (iv m), some (iv most), some (.ref nxa), some (.ref sA), some (.ref bg), some (iv i), y7, y8, none, none, none] ∧
            PInv K I H H12 (st0.upd4 ra ba wa da) t bg nxa gs2 nx m (c + 24 + 200 * i + 62 + 34 * j) ∧ ra.length ≤ 10 * i + 4 + j ∧ Bs (st0.upd4 ra ba wa da) ∧ Lay ra ba gs2)
            ⟨ra, ba, wa, da, y7, y8, rfl, P11, by omega, hB10, hL10⟩ (fun j σ H12 hjj hP => ?_) (fun σ H12 hP => ?_)
          · obtain ⟨ra, ba, wa, da, y7, y8, rfl, P12, hra, hB12, hL12⟩ := hP
            refine ⟨.ref t, rfl, t, 8, _, rfl, P12.tape, by omega, by decide, by decide, fun r3 H13 h13 b13 T13 => ⟨rfl, _, rfl, ?_⟩⟩
            have P13 := P12.draw b13 T13
            show if decide (V.int (r3 : Int) = V.int 0) = true then _ else _
            generalize decide (V.int (r3 : Int) = V.int 0) = bb
            cases bb with
            | true =>
              refine tell_rd (st := st0) P13 hB12 hi (by omega) (by omega) fun H14 ra' ba' wa' da' z8 P14 hB14 hl14 hra' hba' => ?_
              obtain ⟨xt, rfl⟩ := hra'
              subst hba'
              exact ⟨_, _, wa', da', _, z8, rfl, P14.mono (by omega), by omega, hB14, hL12.put hgs2 (fun z => by cases z)⟩
            | false =>
              have hab : i < (st0.upd4 ra ba wa da).above.length := by rw [P13.gd.la]; exact hi
              refine ⟨.ref t, rfl, .ref sA, rfl, iv i, rfl, st0.upd4 ra ba wa da, _, i, rfl, P13.ok, P13.gd.wd, hab, by omega, by show ra.length ≤ 900; omega, fun H14 row wi de bm ok14 hin k1 k2 k3 k4 => ?_⟩
              have rb := (RwIn.rb hin fun y hy => standL_lt hy).mono (Nat.le_succ _)
              have gd14 := P13.gd.put (blk := i) (row := row) (wi := wi) (de := de) P13.ok.lb rb (fun ps e => absurd e (RwIn.nm hin ps)) hin.used k1 k2 k3 k4
              exact ⟨ra ++ [row], ba ++ [i], wa ++ [wi], da ++ [de], _, _, rfl, (P13.next bm ok14 gd14).mono (by omega), by rw [List.length_append, List.length_singleton]; omega, hB12.put, hL12.put hgs2 (fun z => by rw [RwIn.notM hin] at z; cases z)⟩
          · clear P10 P11 hra hB10 hL10 hm10
            obtain ⟨ra, ba, wa, da, y7, y8, rfl, P12, hra, hB12, hL12⟩ := hP
            refine ⟨.ref t, rfl, t, 3, _, rfl, P12.tape, by omega, by decide, by decide, fun r3 H13 h13 b13 T13 => ⟨rfl, _, rfl, ?_⟩⟩
            have P13 := P12.draw b13 T13
            show if decide (V.int (r3 : Int) = V.int 0) = true then _ else _
            generalize decide (V.int (r3 : Int) = V.int 0) = bb
            cases bb with
            | true =>
              refine tell_rd (st := st0) P13 hB12 hi (by omega) (by omega) fun H14 ra' ba' wa' da' z8 P14 hB14 hl14 hra' hba' => ?_
              obtain ⟨xt, rfl⟩ := hra'
              subst hba'
              exact ⟨_, _, wa', da', gs2, _, _, z8, rfl, P14.mono (by omega), hgs2, by omega, fun _ => hB14, hL12.put hgs2 (fun z => by cases z), fun z => absurd z hg2n⟩
            | false => exact ⟨ra, ba, wa, da, gs2, _, _, _, rfl, P13.mono (by omega), hgs2, by omega, fun _ => hB12, hL12, fun z => absurd z hg2n⟩
    · obtain ⟨ra, ba, wa, da, gs, y6, y7, y8, rfl, P6, hgs, hra, hB6, hLy, hLe⟩ := hP
      have hB := hB6 hm1
      refine ⟨.ref t, rfl, .ref sA, rfl, st0.upd4 ra ba wa da, _, rfl, P6.ok, hB, P6.gd.mo, P6.gd.rb, by show c + 24 + 200 * m + 24 * ra.length ≤ 90000000; omega, by show ra.length ≤ 900; omega, fun H7 rs bm ok7 hrl hB7 hRB7 hMk7 hmB7 hsR7 => ?_⟩
      have hrl' : rs.length = ra.length := hrl
      have hRB8 : ∀ r ∈ rs, RwB rs.length r := fun r h => by rw [hrl']; exact hRB7 r h
      have P7 : PInv K I H H7 (st0.upd4 rs ba wa da) t bg nxa gs nx m (c + 24 + 200 * m + 24 * ra.length) := P6.rws bm ok7 ⟨P6.gd.ll, P6.gd.la, P6.gd.ab, P6.gd.lv, P6.gd.wd, hMk7, hRB8, P6.gd.su.rw hrl hmB7 hsR7⟩
      obtain ⟨vs7, v71, v72⟩ := P7.ok.rows
      have hvl7 : vs7.length = rs.length := pd_len v72
      refine ⟨.ref bg, rfl, .inl ⟨rfl, _, sqL P7.bgl⟩, .ref sA, rfl, sA, .ref r, rfl, dgOf (st := st0.upd4 rs ba wa da) P7.ok.ds (kvR _), r, vs7, rfl, .inl (sqL v71), bg, _, _, rfl, rfl, P7.bgl, by rw [List.length_map]; exact szt (by omega), ?_⟩
      have eg : gs.map iv ++ [V.int (vs7.length : Int)] = (gs ++ [rs.length]).map iv := by rw [List.map_append, hvl7]; rfl
      rw [eg]
      have P8 := P7.push (gs ++ [rs.length])
      generalize upd H7 bg (.lst ((gs ++ [rs.length]).map iv)) = H8 at P8
      have hg2 : (gs ++ [rs.length]).length = m + 1 := by rw [List.length_append, List.length_singleton, hgs]
      have hLr := (hLy.rw hrl' hmB7).push (fun z => List.length_eq_zero_iff.mp (by rw [hrl', hLe z]; rfl))
      have hlast : (gs ++ [rs.length]).getD m 0 = rs.length := by rw [getD_app, if_pos hgs.symm]
      generalize gs ++ [rs.length] = gs2 at P8 hg2 hLr hlast
      refine ⟨Nat.zero_le _, fun fo nfo => ?_⟩
      have sF := new_same (o := .lst []) nfo
      have P9 := P8.same sF
      have mfo := P8.ok.fresh nfo
      have nfb : fo ≠ bg := (ne_of_none P8.bgl nfo).symm
      have nft : fo ≠ t := fun z => mfo (by rw [z]; exact tM (st0.upd4 rs ba wa da))
      have iF : I fo = none := by
        cases z : I fo with
        | none => rfl
        | some o => rw [frz_same _ _ _ _ (P8.iS _ _ z)] at nfo; cases nfo
      have hF : H fo = none := fresh_but P8.bt nft nfo
      have hCC : c + 24 + 200 * m + 24 * ra.length ≤ 10000 := by omega
      generalize c + 24 + 200 * m + 24 * ra.length = CC at P9 hCC
      have hn130 : rs.length ≤ 120 := by omega
      refine ⟨_, rfl, (m : Int), rfl, by omega, by omega, ?_⟩
      refine for_range (lo := 0) (n := m) (fun i σ H10 => ∃ (bs : List V) (pr : List Blk) (y6 y7 y8 y10 y11 : Option V), σ = [some (.ref t), some (iv m), some (iv most), some (.ref nxa), some (.ref sA), some (.ref bg), y6, y7, y8, some (.ref fo), y10, y11] ∧
        PInv K I H H10 (st0.upd4 rs ba wa da) t bg nxa gs2 nx m (CC + i) ∧ H10 fo = some (.lst bs) ∧ Paired (BlkI K t fo H10) bs pr ∧ pr.length = i ∧ (∀ b ∈ pr, b.1.length ≤ 130 ∧ (∀ r ∈ b.1, RwB 130 r) ∧ EnOk m 130 b.2) ∧ pr.map (fun b => b.2.names) = nx.take i ∧ (rowsL pr).length = gs2.getD i 0 ∧ (∀ b ∈ pr, (∀ r ∈ b.1, RwB rs.length r) ∧ EnOk m rs.length b.2) ∧ (∀ (j : Nat) (b : Blk), pr[j]? = some b → ∀ (x : Nat) (ps : List Nat), b.1[x]? = some (.meet ps) → ∃ ld, (leadsL nx)[j]? = some ld ∧ ps.length = ld.length ∧ 1 ≤ ld.length) ∧ (∀ b ∈ pr, ∀ x, x + 1 < b.1.length → mB b.1 (x + 1) = true → mB b.1 x = true) ∧ PrI (st0.upd4 rs ba wa da) gs2 pr)
        ⟨[], [], _, _, _, _, _, rfl, P9, upd_same, .nil, rfl, fun b h => (by cases h), rfl, hLr.fst.symm, fun b h => (by cases h), fun j b h => (by simp at h), (fun b h => (by cases h)), PrI.nil hLr.fst⟩ (fun i σ H10 hi hP => ?_) (fun σ H10 hP => ?_)
      · obtain ⟨bs, pr, y6, y7, y8, y10, y11, rfl, P10, efo, pdb, hpl, hpr, hpn, hx1, hx2, hx3, hx4, hx5⟩ := hP
        have hi0 : V.int (0 + (i : Int)) = iv i := by rw [Int.zero_add]; rfl
        rw [hi0]
        have hab : i < (st0.upd4 rs ba wa da).above.length := by rw [P10.gd.la]; exact hi
        obtain ⟨vs, v1, v2⟩ := P10.ok.rows
        have hvl : vs.length = rs.length := pd_len v2
        have hvi : (vs.length : Int) = (rs.length : Int) := by rw [hvl]
        refine ⟨.ref sA, rfl, sA, .ref r, rfl, dgOf (st := st0.upd4 rs ba wa da) P10.ok.ds (kvR _), r, vs, rfl, .inl (sqL v1), (rs.length : Int), by rw [hvi], by omega, by omega, fun L nL => ?_⟩
        have h0S : 0 ∈ standL (st0.upd4 rs ba wa da) i := hB7.st0 hab
        refine lc_range (lo := 0) (n := rs.length) (fun j H11 => Same H10 H11 ∧ H11 L = some (.lst (((List.range j).filter fun k => decide (k ∈ standL (st0.upd4 rs ba wa da) i)).map iv))) ⟨new_same nL, upd_same⟩ (fun j H11 hj hP => ?_) (fun H11 hP => ?_)
        · obtain ⟨s11, eL⟩ := hP
          refine ⟨rfl, _, rfl, .ref sA, rfl, iv i, rfl, st0.upd4 rs ba wa da, _, i, rfl, (P10.same s11).ok, hab, by show rs.length ≤ 1000; omega, fun sa H12 nsa s12 esa => ?_⟩
          refine ⟨sa, _, rfl, .inl (sqL esa), rfl, flat_iv _, _, rfl, ?_⟩
          have ej : inV (.int (0 + (j : Int))) ((standL (st0.upd4 rs ba wa da) i).map iv) = decide (j ∈ standL (st0.upd4 rs ba wa da) i) := by
            rw [Int.zero_add]; exact inV_iv j _
          show if inV (.int (0 + (j : Int))) ((standL (st0.upd4 rs ba wa da) i).map iv) = true then _ else _
          rw [ej]
          have er := filt_succ (fun k => decide (k ∈ standL (st0.upd4 rs ba wa da) i)) j
          have s13 := s11.trans s12
          by_cases hb : decide (j ∈ standL (st0.upd4 rs ba wa da) i) = true
          · rw [if_pos hb]
            rw [if_pos hb] at er
            refine ⟨_, rfl, _, s12 _ _ eL, ?_, fun a o e => ?_, ?_⟩
            · rw [List.length_map]
              exact szt (Nat.lt_of_le_of_lt (List.length_filter_le _ _) (by rw [List.length_range]; omega))
            · rw [upd_ne (ne_of_none e nL)]
              exact s13 _ _ e
            · rw [upd_same, er, List.map_append, Int.zero_add]
              rfl
          · rw [if_neg hb]
            rw [if_neg hb, List.append_nil] at er
            exact ⟨s13, by rw [er]; exact s12 _ _ eL⟩
        · obtain ⟨s11, eL⟩ := hP
          have P11 := P10.same s11
          have hes0 : 0 < ((List.range rs.length).filter fun k => decide (k ∈ standL (st0.upd4 rs ba wa da) i)).length := List.length_pos_of_mem (List.mem_filter.mpr ⟨List.mem_range.mpr hB7.pos, decide_eq_true h0S⟩)
          have hesl : ∀ y ∈ (List.range rs.length).filter (fun k => decide (k ∈ standL (st0.upd4 rs ba wa da) i)), y < rs.length := fun y hy => List.mem_range.mp (List.mem_filter.mp hy).1
          have hesn : ((List.range rs.length).filter fun k => decide (k ∈ standL (st0.upd4 rs ba wa da) i)).length ≤ rs.length := Nat.le_trans (List.length_filter_le _ _) (by rw [List.length_range]; exact Nat.le_refl _)
          have hess : ∀ y ∈ (List.range rs.length).filter (fun k => decide (k ∈ standL (st0.upd4 rs ba wa da) i)), y ∈ standL (st0.upd4 rs ba wa da) i := fun y hy => of_decide_eq_true (List.mem_filter.mp hy).2
          generalize ((List.range rs.length).filter fun k => decide (k ∈ standL (st0.upd4 rs ba wa da) i)) = es at eL hes0 hesl hesn hess
          have nLt : L ≠ t := fun z => P10.ok.fresh nL (by rw [z]; exact tM (st0.upd4 rs ba wa da))
          have hin : i < nx.length := by omega
          have hni := gdl (d := ([] : List Nat)) hin
          have hnxi := hnx _ (List.mem_of_getElem? hni)
          generalize nx.getD i [] = xs at hni hnxi
          have efo11 := s11 _ _ efo
          -- end
          refine ⟨fun σ H12 => ∃ (ea : V) (e : En), σ = [some (.ref t), some (iv m), some (iv most), some (.ref nxa), some (.ref sA), some (.ref bg), some (iv i), y7, some (.ref L), some (.ref fo), some ea, y11] ∧ Same H11 H12 ∧ EnAt K H12 ea e ∧ (xs.length ≠ 2 → EnOk m rs.length e ∧ e.names = xs) ∧ (∀ r x y, e ≠ .iff r x y), ?_, fun σ H12 hM => ?_⟩
          · obtain ⟨zs, qa, z1, z2, z3, z4⟩ := P11.nl.at hni
            refine ⟨.ref nxa, rfl, _, rfl, nxa, zs, _, .ref qa, rfl, rfl, z1, z3, qa, _, rfl, .inl z4, rfl, _, rfl, ite2 (fun e => ?_) (fun e => ?_)⟩
            · have e1 : ((xs.map iv).length : Int) = 1 := V.int.inj (of_decide_eq_true e)
              rw [List.length_map] at e1
              have h0 : 0 < xs.length := by omega
              refine ⟨.ref nxa, rfl, _, rfl, nxa, zs, _, .ref qa, rfl, rfl, z1, z3, qa, _, _, _, rfl, rfl, z4, at_iv (r := 0) h0, szl (show 2 ≤ 1000000 by decide), fun p np => ?_⟩
              exact ⟨.ref p, .go xs[0], rfl, new_same np, ⟨p, rfl, sqT upd_same⟩, (fun _ => ⟨hnxi.2.2 _ (List.getElem_mem h0), one_eq (by omega)⟩), fun _ _ _ z => by cases z⟩
            · exact ⟨szl (show 1 ≤ 1000000 by decide), fun p np => ⟨.ref p, .fin, rfl, new_same np, ⟨p, rfl, sqT upd_same⟩, (fun z => ⟨trivial, (nil_eq hnxi.1 (fun q => e (decide_eq_true (by show V.int ((xs.map iv).length : Int) = V.int 1; rw [List.length_map, q]; rfl))) z)⟩), fun _ _ _ z => by cases z⟩⟩
          · obtain ⟨ea, e, rfl, s12, hea, heo, hei⟩ := hM
            have P12 := P11.same s12
            have eL12 := s12 _ _ eL
            refine ⟨fun σ H13 => ∃ (ea : V) (e : En), σ = [some (.ref t), some (iv m), some (iv most), some (.ref nxa), some (.ref sA), some (.ref bg), some (iv i), y7, some (.ref L), some (.ref fo), some ea, y11] ∧ But t H12 H13 ∧ Tape H13 t (CC + i + 1) ∧ EnAt K H13 ea e ∧ EnOk m rs.length e ∧ e.names = xs ∧ (∀ r x y, e = .iff r x y → r ∈ standL (st0.upd4 rs ba wa da) i), ?_, fun σ H13 hM => ?_⟩
            · obtain ⟨zs, qa, z1, z2, z3, z4⟩ := P12.nl.at hni
              refine ⟨.ref nxa, rfl, _, rfl, nxa, zs, _, .ref qa, rfl, rfl, z1, z3, qa, _, rfl, .inl z4, rfl, _, rfl, ite2 (fun e2 => ?_) (fun e2 => ?_)⟩
              · have e1 : ((xs.map iv).length : Int) = 2 := V.int.inj (of_decide_eq_true e2)
                rw [List.length_map] at e1
                have h0 : 0 < xs.length := by omega
                have h1 : 1 < xs.length := by omega
                have hlm : ((es.map iv).length : Int) = (es.length : Int) := by rw [List.length_map]
                refine ⟨.ref L, rfl, .ref t, rfl, .ref L, rfl, L, _, rfl, .inl (sqL eL12), t, _, _, rfl, P12.tape, by omega, by omega, by omega, fun rr H13 h13 b13 T13 => ?_⟩
                have hrr : rr < es.length := by omega
                have P13 := P12.draw b13 T13
                obtain ⟨zs, qa, z1, z2, z3, z4⟩ := P13.nl.at hni
                refine ⟨L, _, _, _, rfl, rfl, sqL (b13 L _ nLt eL12), at_iv hrr, ?_⟩
                refine ⟨.ref nxa, rfl, _, rfl, nxa, zs, _, .ref qa, rfl, rfl, z1, z3, qa, _, _, _, rfl, rfl, z4, at_iv (r := 0) h0, ?_⟩
                refine ⟨.ref nxa, rfl, _, rfl, nxa, zs, _, .ref qa, rfl, rfl, z1, z3, qa, _, _, _, rfl, rfl, z4, at_iv (r := 1) h1, szl (show 4 ≤ 1000000 by decide), fun p np => ?_⟩
                have q0 := hnxi.2.2 _ (List.getElem_mem h0)
                have q1 := hnxi.2.2 _ (List.getElem_mem h1)
                have qd : xs[0] ≠ xs[1] := fun z => absurd ((List.getElem_inj hnxi.2.1).mp z) (by decide)
                exact ⟨.ref p, .iff es[rr] xs[0] xs[1], rfl, b13.trans (Same.but (new_same np)), T13.upd np, ⟨p, rfl, sqT upd_same⟩, ⟨(by have := hesl _ (List.getElem_mem hrr); omega), q0.1, q0.2, q1.1, q1.2, qd⟩, two_eq (by omega), fun r x y z => by cases z; exact hess _ (List.getElem_mem hrr)⟩
              · have heo2 := heo fun z => e2 (decide_eq_true (by show V.int ((xs.map iv).length : Int) = V.int 2; rw [List.length_map, z]; rfl))
                exact ⟨ea, e, rfl, But.refl _ _, P12.tape.mono (by omega), hea, heo2.1, heo2.2, fun r x y z => absurd z (hei r x y)⟩
            · clear hea heo hei
              obtain ⟨ea, e, rfl, b13, T13, hea, heo, hen, hei⟩ := hM
              have P13 := P12.draw b13 T13
              obtain ⟨vs, v1, v2⟩ := P13.ok.rows
              have hvl : vs.length = rs.length := pd_len v2
              obtain ⟨tx1, ty1, tz1, tt1, tt2⟩ := P12.tape
              have tb : ∀ {a : Addr} {xs : List V}, SqT K H10 a xs → SqT K H13 a xs := fun {a xs} h => tup_but (Same.tup s12 (Same.tup s11 h)) b13 tt1
              have efo13 := b13 fo _ nft (s12 _ _ efo11)
              have g0 : i < gs2.length := by omega
              have g1 : i + 1 < gs2.length := by omega
              refine ⟨.ref fo, rfl, .inl ⟨rfl, _, sqL efo13⟩, .ref sA, rfl, sA, .ref r, rfl, dgOf (st := st0.upd4 rs ba wa da) P13.ok.ds (kvR _), .ref bg, rfl, _, rfl, bg, _, _, _, rfl, rfl, sqL P13.bgl, at_iv g0, _, rfl, ?_⟩
              refine ⟨.ref bg, rfl, _, rfl, _, _, rfl, rfl, bg, _, _, _, rfl, rfl, sqL P13.bgl, at_iv g1, _, rfl, r, vs, rfl, sqL v1, fun rl nrl => ?_⟩
              refine ⟨ea, rfl, szl (show 2 ≤ 1000000 by decide), fun p np => ?_⟩
              have sR := new_same (o := .lst (cutV vs (some ((gs2[i] : Nat) : Int)) (some ((gs2[i + 1] : Nat) : Int)))) nrl
              have sP := new_same (o := .tup [.ref rl, ea]) np
              have e15 := (sR.trans sP) _ _ efo13
              have P15 := (P13.same sR).same sP
              have nrlt : rl ≠ t := T13.ne nrl
              have nrlf : rl ≠ fo := (ne_of_none efo13 nrl).symm
              have bl : bs.length = pr.length := pd_len pdb
              refine ⟨fo, bs, _, rfl, rfl, e15, szt (by omega), ?_⟩
              have P16 := P15.oth (ys := bs ++ [.ref p]) mfo nfb iF hF e15
              have tc : ∀ {a : Addr} {xs : List V}, SqT K H13 a xs → SqT K (upd (upd (upd H13 rl (.lst (cutV vs (some ((gs2[i] : Nat) : Int)) (some ((gs2[i + 1] : Nat) : Int))))) p (.tup [.ref rl, ea])) fo (.lst (bs ++ [.ref p]))) a xs := fun {a xs} h => tup_upd (Same.tup (sR.trans sP) h) e15
              refine ⟨bs ++ [.ref p], pr ++ [(cutR rs (some ((gs2[i] : Nat) : Int)) (some ((gs2[i + 1] : Nat) : Int)), e)], _, _, _, _, _, rfl, P16.mono (by omega), upd_same, ?_, ?_, ?_, ?_, ?_, ?_, ?_, ?_, ?_⟩
              · refine pd_snoc (pd_mono pdb fun v b z => z.mv (fun h => tc (tb h)) fun a o n1 n2 e' => ?_) ⟨p, rl, ea, _, rfl, tup_upd (sqT upd_same) e15, ?_, nrlt, nrlf, pd_cut (pd_mono v2 fun _ _ z => row_tups z fun h => tc (Same.tup (frz_same _ _) h)) _ _, hea.mv tc⟩
                · rw [upd_ne n2]
                  exact (sR.trans sP) _ _ (b13 a o n1 (s12 _ _ (s11 _ _ e')))
                · rw [upd_ne nrlf]
                  exact sP _ _ upd_same
              · rw [List.length_append, List.length_singleton, hpl]
              · intro b hb
                rcases List.mem_append.mp hb with h | h
                · exact hpr b h
                · rw [List.mem_singleton.mp h]
                  exact ⟨Nat.le_trans (cutR_len _ _ _) (by omega), fun r hr => (hRB8 r (cutR_mem hr)).mono (by omega), heo.mono (by omega)⟩
              · rw [List.map_append, hpn, List.take_add_one, hni]
                show nx.take i ++ [e.names] = nx.take i ++ [xs]
                rw [hen]
              all_goals (have eg0 : gs2[i] = gs2.getD i 0 := by rw [List.getD_eq_getElem?_getD, List.getElem?_eq_getElem g0]; rfl)
              all_goals (have eg1 : gs2[i + 1] = gs2.getD (i + 1) 0 := by rw [List.getD_eq_getElem?_getD, List.getElem?_eq_getElem g1]; rfl)
              all_goals (have ga := hLr.asc i (i + 1) (Nat.le_succ i) g1)
              all_goals (have gb := hLr.top (i + 1) g1)
              all_goals (have ecut : cutR rs (some ((gs2[i] : Nat) : Int)) (some ((gs2[i + 1] : Nat) : Int)) = (rs.drop (gs2.getD i 0)).take (gs2.getD (i + 1) 0 - gs2.getD i 0) := by rw [eg0, eg1]; exact cut_nat ga gb)
              all_goals rw [ecut]
              all_goals (have elen : ((rs.drop (gs2.getD i 0)).take (gs2.getD (i + 1) 0 - gs2.getD i 0)).length = gs2.getD (i + 1) 0 - gs2.getD i 0 := by rw [List.length_take, List.length_drop]; omega)
              · rw [rowsL_snoc, hx1]
                show _ + ((rs.drop (gs2.getD i 0)).take (gs2.getD (i + 1) 0 - gs2.getD i 0)).length = _
                rw [elen]
                omega
              · intro b hb
                rcases List.mem_append.mp hb with h | h
                · exact hx2 b h
                · rw [List.mem_singleton.mp h]
                  exact ⟨fun r hr => hRB8 r (List.mem_of_mem_drop (List.mem_of_mem_take hr)), heo⟩
              · intro j b hjb x ps hps
                by_cases hji : j < pr.length
                · rw [List.getElem?_append_left hji] at hjb
                  exact hx3 j b hjb x ps hps
                · rw [List.getElem?_append_right (by omega)] at hjb
                  have hj1 : j - pr.length < 1 := (List.getElem?_eq_some_iff.mp hjb).1
                  have hjeq : j = i := by omega
                  rw [show j - pr.length = 0 by omega] at hjb
                  have hb1 := Option.some.inj hjb
                  rw [← hb1] at hps
                  have hxl : x < gs2.getD (i + 1) 0 - gs2.getD i 0 := by
                    have := (List.getElem?_eq_some_iff.mp hps).1
                    rw [elen] at this
                    exact this
                  have hps2 : rs[gs2.getD i 0 + x]? = some (.meet ps) := by rw [← cut_at hxl]; exact hps
                  obtain ⟨ld, hl1, hl2, hl3, _⟩ := P13.gd.mo (gs2.getD i 0 + x) ps hps2
                  have hown : ba.getD (gs2.getD i 0 + x) 0 = i := hLr.at g1 (by omega) (by omega)
                  refine ⟨ld, ?_, hl2, hl3⟩
                  rw [hjeq, ← hown]
                  exact hl1
              · intro b hb x hxx hm1
                rcases List.mem_append.mp hb with h | h
                · exact hx4 b h x hxx hm1
                · rw [List.mem_singleton.mp h] at hxx hm1 ⊢
                  have hxx2 : x + 1 < gs2.getD (i + 1) 0 - gs2.getD i 0 := by
                    have : x + 1 < ((rs.drop (gs2.getD i 0)).take (gs2.getD (i + 1) 0 - gs2.getD i 0)).length := hxx
                    omega
                  have hmb : ∀ y, y < gs2.getD (i + 1) 0 - gs2.getD i 0 → mB ((rs.drop (gs2.getD i 0)).take (gs2.getD (i + 1) 0 - gs2.getD i 0)) y = mB rs (gs2.getD i 0 + y) := fun y hy => mB_cut hy
                  have hm1 : mB ((rs.drop (gs2.getD i 0)).take (gs2.getD (i + 1) 0 - gs2.getD i 0)) (x + 1) = true := hm1
                  show mB ((rs.drop (gs2.getD i 0)).take (gs2.getD (i + 1) 0 - gs2.getD i 0)) x = true
                  rw [hmb _ hxx2] at hm1
                  rw [hmb x (by omega)]
                  have o1 := hLr.at (i := i) (k := gs2.getD i 0 + x) g1 (by omega) (by omega)
                  have o2 := hLr.at (i := i) (k := gs2.getD i 0 + (x + 1)) g1 (by omega) (by omega)
                  exact hLr.ma (gs2.getD i 0 + x) (by omega) hm1 (by rw [o1]; exact o2.symm)
              · exact hx5.snoc hpl ga gb rfl hei
      · obtain ⟨bs, pr, y6, y7, y8, y10, y11, rfl, P10, efo, pdb, hpl, hpr, hpn, hx1, hx2, hx3, hx4, hx5⟩ := hP
        obtain ⟨tx9, ty9, tz9, tt9, _⟩ := P10.tape
        exact ⟨.ref fo, rfl, q H10 (.ref fo) pr P10.bt (P10.tape.mono (by omega)) ⟨fo, bs, rfl, sqL (frz_at efo (by simpa using nft)), pd_mono pdb fun _ _ z => z.outF tt9⟩ ⟨hpl, hpr⟩ (by rw [hpn, List.take_of_length_le (by omega)]; exact ⟨hnl, hnx, hledx⟩) (by
          have htot : (rowsL pr).length = rs.length := by rw [hx1, hlast]
          have hnm : pr.map (fun b => b.2.names) = nx := by rw [hpn, List.take_of_length_le (by omega)]
          exact ⟨fun b hb => by rw [htot]; exact hx2 b hb, by rw [hnm]; exact hx3, hx4⟩)
          (by
          have hnm : pr.map (fun b => b.2.names) = nx := by rw [hpn, List.take_of_length_le (by omega)]
          refine ⟨st0.upd4 rs ba wa da, ?_, P10.ok.lb, fun i k hi h1 h2 => ?_, P10.gd.su, P10.gd.mo, hx5.en, by rw [hnm]; rfl, by rw [hnm]; exact habv, hB7⟩
          · rw [hx5.rows, hpl, hlast]
            exact List.take_length
          · rw [hx5.cut i (by omega)] at h1
            rw [hx5.cut (i + 1) (by omega)] at h2
            exact hLr.at (by omega) h1 h2)⟩
end
end Gn
set_option Elab.async false
set_option linter.all false
set_option maxRecDepth 100000
set_option maxHeartbeats 4000000
namespace Gn
open PySem PySem.Spec PyProof.Rows L2
/-- a def that is called by the law's own caller alone (nothing is being printed around it) -/
structure FnG (P : Program) (w : World) (K : PySem.W.Frag) (mg : Str → Option Value) (base : Heap) (f : Addr) (fd : FuncData) (ps : List Str) (sp : Sp) : Prop where
  run : ∀ (outer : List Env) (s : Shared) (H : Hp) (args : Args) (us : List Value) (vs : List V) (Q : VK) (E : XK), Env0 P w K mg base callerA outer s H → BindsTo s fd args (ps.zip us) →
    Vals vs us → sp vs H Q E → codeAny (model P w) callerA (.call (.ref f) args) (CR CX0 outer P w H s Q E) s
theorem fnG_of {P : Program} {w : World} {K : PySem.W.Frag} {mg : Str → Option Value} {base : Heap} {x qual : Str} {st : Stmt} {f : Addr} {fd : FuncData} {N ps : List Str} {sp : Sp} {k : Nat} (F : Fun K x qual st f fd) (S : FnScope N ps (defScope st))
    (hr : Room (k + 1) callerA) (len : ∀ vs H Q E, sp vs H Q E → vs.length = ps.length)
    (body : ∀ (cdv : Value) (outer : List Env) (s : Shared) (H : Hp) (vs : List V) (Q : VK) (E : XK), Room k (callerA.deeper (envOfC qual (defScope st) s.heap.objs.size f cdv)) → sp vs H Q E →
      ∃ t, PSs (cxOf CX0 P w K mg base N qual (defScope st) f cdv callerA outer s H E).nox (defBody st) t ∧ t { nx := fun _ H' => Q .non H', rt := Q } (start N vs) H) : FnG P w K mg base f fd ps sp := by
  obtain ⟨oc, od, kV, doc, pm, an, cdv, ct, osl, rfl, lk, hcd⟩ := F.ex
  refine ⟨fun outer s H args us vs Q E e0 hb rv hsp => ?_⟩
  have hl := len _ _ _ _ hsp
  have inK : K.In s.heap := e0.mod.kin.keeps fun b o z => (e0.bs b o z).1
  have lim : s.heap.NoLimit := e0.mod.nolimit.keeps fun b o z => (e0.bs b o z).1
  have kinds : ∀ y ∈ ps.zip us, (defScope st).names.lookup y.1 = some .local ∨ ((defScope st).names.lookup y.1 = some .cell ∧ ((cellsFrom (s.heap.objs.size + 1) (defScope st).names []).lookup y.1).isSome = true) := by
    rintro ⟨n, v⟩ hy
    rcases S.par n (List.of_mem_zip hy).1 with z | z
    · exact .inl z
    · exact .inr ⟨z, PySem.W.cellsFrom_some _ _ _ (.inl z)⟩
  refine codeAny_call_function hr.depth (inK _ _ lk) rfl S.co S.gen rfl (PySem.W.codeRec_of inK hcd) (hb _ _ _ _ ?_)
  refine wpAny_newFunctionEnv_cells S.kind kinds fun env he t1 x1 => ?_
  subst he
  refine ⟨lim.keeps x1.toInCall.keep, codeAny_func ?_⟩
  obtain ⟨tt, h1, h2⟩ := body cdv outer s H vs Q E (hr.deeper _) hsp
  have J : Inv (cxOf CX0 P w K mg base N qual (defScope st) f cdv callerA outer s H E) [] (start N vs) H t1 := inv_start S hr.hd e0 hl rv x1
  refine wpAny_mono (h1.nox.run [] t1 (start N vs) H _ J h2) (fun fl t2 hs => ?_) fun e t2 hs => hs
  have fin : ∀ {σ' : L2.St} {H' : Hp} {v : V} {u : Value}, Inv (cxOf CX0 P w K mg base N qual (defScope st) f cdv callerA outer s H E) [] σ' H' t2 → RelV v u → Q v H' → CE outer P w H s Q u t2 :=
    fun {σ' H' v u} j ru qv => ⟨v, H', j.os, j.bare, j.base, j.hok, ru, qv⟩
  cases fl with
  | ret u =>
    obtain ⟨v, σ', H', j, ru, qv⟩ := hs
    exact fin j ru qv
  | next =>
    obtain ⟨σ', H', j, qv⟩ := hs
    exact fin (v := V.non) (u := Value.none) j rfl qv
  | brk =>
    obtain ⟨_, _, _, z⟩ := hs
    exact z.elim
  | cont =>
    obtain ⟨_, _, _, z⟩ := hs
    exact z.elim
theorem lawG {P : Program} {w : World} {K : PySem.W.Frag} {mg mb : Str → Option Value} {fa a : Addr} {fd : FuncData} {x : Str} {sp : Sp} {t1 : Shared} {vs : List Value} {ns : List Int} (inK : K.In t1.heap) (hns : t1.heap.Ns mainGlobals mg)
    (hb : t1.heap.Ns builtinsNs mb) (hbb : ∀ x : Str, x ≠ "__name__" → mb x = bootBuiltins x) (lim : t1.heap.NoLimit) (hg : t1.gens = #[]) (ha : t1.heap.get? a = some { cls := .type "list", data := .seq vs.toArray }) (hi : IntsAre vs ns) (hl : ns.length ≤ sizeLine)
    (F : ∀ base : Heap, K.In base → base.Ns mainGlobals mg → FnG P w K mg base fa fd [x] sp) (bind : ∀ (s : Shared) (u : Value), BindsTo s fd ⟨[u], []⟩ [(x, u)])
    (hsp : ∀ H : Hp, Only H → SqL K H a (ns.map V.int) → sp [.ref a] H (fun v _ => v = .bl true) fun _ _ _ => False) :
    codeAny (model P w) callerA (.call (.ref fa) ⟨[.ref a], []⟩) (fun r t => r = .ok (.ret (.bool true)) ∧ OldK t1.heap t.heap ∧ t.os = t1.os ∧ AllBare t.gens) t1 := by
  have rv := vals_ints hi
  have lenV := hi.length
  have core : ∀ H : Hp, Only H → SqL K H a (ns.map V.int) → HOk P w H t1.heap → (∀ b, H b ≠ none → b = a) → (H a ≠ none → K.lookup a = none) →
      codeAny (model P w) callerA (.call (.ref fa) ⟨[.ref a], []⟩) (fun r t => r = .ok (.ret (.bool true)) ∧ OldK t1.heap t.heap ∧ t.os = t1.os ∧ AllBare t.gens) t1 := by
    intro H hO hS hok hA hK
    have onlyA : ∀ {b : Addr} {u : HO}, H b = some u → b = a := fun {b u} q => hA b (by rw [q]; simp)
    have noA : ∀ {b : Addr} {o : Obj} {es : Array DictEntry} {ep : Nat}, t1.heap.get? b = some o → o.data = .dict es ep → H b = none := fun {b o es ep} e d => by
      cases q : H b with
      | none => rfl
      | some u =>
        have eb := onlyA q
        subst eb
        rw [ha] at e
        cases e
        cases (show Data.seq vs.toArray _ = Data.dict es ep from d)
    have nsK : ∀ {b : Addr} {m : Str → Option Value}, t1.heap.Ns b m → (hidT t1.heap H).Ns b m := fun {b m} ⟨o, es, ep, e, d, r⟩ => ⟨o, es, ep, hidT_get e (noA e d), d, r⟩
    have inKb : K.In (hidT t1.heap H) := fun b o e => by
      refine hidT_get (inK b o e) ?_
      cases q : H b with
      | none => rfl
      | some u =>
        have eb := onlyA q
        subst eb
        rw [hK (by rw [q]; simp)] at e
        cases e
    have hM : Mod K mg (hidT t1.heap H) := ⟨inKb, nsK hns, ⟨mb, nsK hb, hbb⟩, let ⟨mc, h1, h2⟩ := lim; ⟨mc, nsK h1, h2⟩⟩
    have e0 : Env0 P w K mg (hidT t1.heap H) callerA [] t1 H := ⟨rfl, hM, fun b o e => of_hidT e, Nat.le_of_eq (hidT_size _ _), trivial, (fun b hb => absurd (show b ∈ ([] : List Addr) from hb) (by simp)), hok, .of_eq hg⟩
    refine codeAny_mono ((F _ inKb (nsK hns)).run [] t1 H ⟨[.ref a], []⟩ [.ref a] [.ref a] _ _ e0 (bind t1 (.ref a)) (.cons rfl .nil) (hsp H hO hS)) fun r t h => ?_
    cases r with
    | error e => exact False.elim h
    | ok fl =>
      cases fl with
      | ret u =>
        obtain ⟨v, H', os, bare, un, hok', r', q⟩ := h
        have q' : v = .bl true := q
        subst q'
        obtain rfl : u = Value.bool true := r'
        refine ⟨rfl, (OldK.of_keep fun b o e => ?_), os, bare⟩
        cases q : H b with
        | none => exact un.keep b o e q ((by intro z; exact absurd (show b ∈ ([] : List Addr) from z) (by simp))) (by simp)
        | some u =>
          rcases hO b with z | ⟨ob, xs, z⟩
          · rw [q] at z
            cases z
          · have z2 := un.frzs b ob _ z
            obtain ⟨e1, _⟩ := hok b _ z
            obtain ⟨e2, _⟩ := hok' b _ z2
            rw [e] at e1
            cases e1
            exact e2
      | next => exact False.elim h
      | brk => exact False.elim h
      | cont => exact False.elim h
  cases hk : K.lookup a with
  | some o =>
    have e := inK a o hk
    rw [ha] at e
    cases e
    exact core (fun _ => none) (fun _ => .inl rfl) (.inr ⟨_, vs.toArray, _, hk, rfl, rfl, rfl, by rw [List.size_toArray, lenV]; exact hl, by simpa using rv⟩) (fun b u z => by cases (show (none : Option HO) = some u from z)) (fun b z => absurd rfl z) fun z => absurd rfl z
  | none =>
    let H0 : Hp := fun b => if b = a then some (.frz { cls := .type "list", data := .seq vs.toArray } (.lst (ns.map V.int))) else none
    have h1 : ∀ b, b = a → H0 b = some (.frz { cls := .type "list", data := .seq vs.toArray } (.lst (ns.map V.int))) := fun b e => if_pos e
    have h2 : ∀ b, b ≠ a → H0 b = none := fun b e => if_neg e
    refine core H0 (fun b => ?_) (.inl (.inr ⟨_, h1 a rfl⟩)) (fun b u z => ?_) (fun b z => ?_) fun _ => hk
    · by_cases eb : b = a
      · exact .inr ⟨_, _, h1 b eb⟩
      · exact .inl (h2 b eb)
    · by_cases eb : b = a
      · rw [h1 b eb] at z
        cases z
        subst eb
        exact ⟨ha, by rw [List.length_map]; exact hl, vs, _, rv, ha⟩
      · rw [h2 b eb] at z
        cases z
    · by_cases eb : b = a
      · exact eb
      · exact absurd (h2 b eb) z
theorem walkG {l : PySem.W.OpenLaw} {n : Nat} {q : Program} {loose : List Str} {XP : (Str → Option Value) → Heap → Prop} {YP : World → Heap → Prop} {d : DefRec} {K : Params → PySem.W.Frag} {sp : World → Sp} {x : Str} (hn : l.most = some n) (hn2 : n ≤ sizeLine) (hdf : d.params.defaults = [])
    (hY : ∀ (w : World) (h : Heap), YP w h → (K w.params).In h)
    (F : ∀ (w : World) (mg : Str → Option Value) (fa : Addr) (h : Heap), (K w.params).In h → h.Ns mainGlobals mg → mg d.name = some (.ref fa) →
      ∃ fd : FuncData, (∀ (s : Shared) (u : Value), BindsTo s fd ⟨[u], []⟩ [(x, u)]) ∧ ∀ base : Heap, (K w.params).In base → base.Ns mainGlobals mg → FnG l.prog w (K w.params) mg base fa fd [x] (sp w))
    (hsp : ∀ (w : World) (H : Hp) (a : Addr) (ns : List Int), ns.length ≤ n → Only H → SqL (K w.params) H a (ns.map V.int) → sp w [.ref a] H (fun v _ => v = .bl true) fun _ _ _ => False) :
    PySem.W.WalkO q loose XP YP l.row.toRowW d [] (fun f vs => PySem.call f vs) := by
  refine Att.attach_call hn hdf fun w t0 t1 mg mb fa o pm cd doc a vs ns G Y ho hd hcd hmg hobj hints hlen hg => ?_
  have KX := hY w _ Y
  obtain ⟨fd, hb, hF⟩ := F w mg fa _ KX G.T.g hmg
  exact lawG KX G.T.g G.T.b G.T.builtins G.T.nolimit hg hobj hints (Nat.le_trans hlen hn2) hF hb fun H hO hS => hsp w H a ns hlen hO hS
end Gn
set_option Elab.async false
set_option linter.all false
set_option maxRecDepth 100000
set_option maxHeartbeats 4000000
namespace Gn
open PySem PySem.Spec PyProof.Rows L2
abbrev sNamed : Stmt := topS 5
abbrev sLeadsOf : Stmt := topS 7
/-- the table of ends' parts, as the top has written it -/
structure Ep (K : PySem.W.Frag) (w : World) (mg : Str → Option Value) (dE g1 g2 g3 : Addr) : Prop where
  mgE : mg "END_PARTS" = some (.ref dE)
  k1 : KDct K w dE "go" (.ref g1)
  k2 : KDct K w dE "if" (.ref g2)
  k3 : KDct K w dE "end" (.ref g3)
  t1 : ∀ H, SqT K H g1 [.str "block"]
  t2 : ∀ H, SqT K H g2 [.str "row", .str "block", .str "block"]
  t3 : ∀ H, SqT K H g3 []
theorem walk_zt {K : PySem.W.Frag} {a b : Addr} {xs ys : List V} (hl : xs.length = ys.length) : Walk (RZ.ItzT K a b) xs.length (fun H => SqT K H a xs ∧ SqT K H b ys) (YPair (fun i => xs[i]?) (fun i => ys[i]?)) := by
  refine ⟨fun i H hi q => ?_, fun H q => ⟨xs, ys, q.1, q.2, .inl (Nat.le_refl _)⟩, fun i H v H' hi q y => ?_⟩
  · have h2 : i < ys.length := by omega
    exact ⟨xs, ys, xs[i], ys[i], q.1, q.2, by simp [hi], by simp [h2]⟩
  · obtain ⟨T, x, z, h1, h2, h3, h4, h5⟩ := y
    exact ⟨T, x, z, h1, h2, h3, h4 xs q.1, h5 ys q.2⟩
def En.kinds : En → List V
  | .go _ => [.str "block"]
  | .iff _ _ _ => [.str "row", .str "block", .str "block"]
  | .fin => []
def En.parts : En → List V
  | .go b => [iv b]
  | .iff r b c => [iv r, iv b, iv c]
  | .fin => []
def En.word : En → Str
  | .go _ => "go"
  | .iff _ _ _ => "if"
  | .fin => "end"
theorem EnAt.at {K : PySem.W.Frag} {H : Hp} {v : V} {e : En} (h : EnAt K H v e) : ∃ p, v = .ref p ∧ SqT K H p (.str e.word :: e.parts) := by
  cases e <;> exact h
def spNamed (K : PySem.W.Frag) : Sp := fun vs H Q _ => ∃ (v : V) (e : En), vs = [v] ∧ EnAt K H v e ∧
  ∀ (p : Addr) (H' : Hp), H p = none → Same H H' → H' p = some (.lst (e.names.map iv)) → Q (.ref p) H'
abbrev nNamed : List Str := ["end", "kind", "part"]
theorem scNamed : FnScope nNamed ["end"] (defScope sNamed) := ⟨rfl, rfl, rfl, by decide +kernel, rfl, by decide +kernel, by decide +kernel⟩
def sel : List V → List V → Nat → List V
  | _, _, 0 => []
  | ks, ps, i + 1 => sel ks ps i ++ (if ks.getD i .non = .str "block" then [ps.getD i .non] else [])
section
variable {P : Program} {w : World} {K : PySem.W.Frag} {mg : Str → Option Value} {base : Heap}
theorem ok_named {f dE g1 g2 g3 : Addr} {fd : FuncData} {k : Nat} (D : Df K mg "blocks_named" sNamed ["end"] f fd) (B : Bi mg) (EP : Ep K w mg dE g1 g2 g3) : FnOk P w K mg base CX0 (k + 1) f fd ["end"] (spNamed K) := by
  refine D.F.ok scNamed (fun vs H Q E h => ?_) (fun cdv A outer s H vs Q E hr h => ?_)
  · obtain ⟨v, e, rfl, _⟩ := h
    rfl
  · obtain ⟨v, e, rfl, he, q⟩ := h
    refine ⟨_, pss_one (ps_ret (pe_lc (own := [("kind", 1), ("part", 2)]) (g := gTup K 2 (gCons (gName 1) (gCons (gName 2) gNil))) (tt := tTest (tOp rEq (tVar 1) (tC (.str "block")))) (te := tVar 2) rfl scNamed.nd
      (RZ.pi_zipA (by rfl) B.zip (pa_cons (pe_ix ix_kdict (pe_glob (v := .ref dE) (by rfl) EP.mgE rfl) (pe_ix ix_tup (pv 0) pe_int (fun _ _ => rfl)) (fun _ _ => rfl)) (pa_cons (pe_slice sl_tup (pv 0) (po_some pe_int) po_none) pa_nil)))
      (blkOk_by (own := [("kind", 1), ("part", 2)]) (N := nNamed) (sc := defScope sNamed) (by decide +kernel))
      (fun _ _ _ _ _ => pg_tup rfl (pgs_cons (pg_name (i := 1) scNamed.nd rfl (.inl rfl)) (pgs_cons (pg_name (i := 2) scNamed.nd rfl (.inl rfl)) pgs_nil)))
      (fun _ _ _ _ _ => pts_one (pt_cmpR op_eq (pv 1) pe_str (nomark _))) (fun _ _ _ _ _ => pv 2))), ?_⟩
    obtain ⟨p, rfl, hp⟩ := he.at
    have kd : ∃ gg, KDct K w dE e.word (.ref gg) ∧ ∀ H, SqT K H gg e.kinds := by
      cases e with
      | go b => exact ⟨g1, EP.k1, EP.t1⟩
      | iff r b c => exact ⟨g2, EP.k2, EP.t2⟩
      | fin => exact ⟨g3, EP.k3, EP.t3⟩
    obtain ⟨gg, kd1, kd2⟩ := kd
    have hll : e.kinds.length = e.parts.length := by cases e <;> rfl
    refine ⟨_, rfl, p, _, _, _, rfl, rfl, hp, atI_nat (j := 0) rfl, dE, e.word, .ref gg, rfl, rfl, kd1, .ref p, rfl, 1, rfl, p, _, rfl, hp, cut_not _ _, fun S nS => ?_⟩
    rw [cut_one]
    refine ⟨gg, S, e.kinds, e.parts, rfl, .inr ⟨kd2 _, sqT upd_same, fun L nL => ?_⟩⟩
    have sS := new_same (o := .tup e.parts) nS
    have eS : upd H S (.tup e.parts) S = some (.tup e.parts) := upd_same
    generalize hH1 : upd H S (.tup e.parts) = H1 at sS eS nL
    have hk3 : e.parts.length ≤ 3 := by cases e <;> simp [En.parts]
    refine lc_it (walk_zt hll) (fun i H2 => Same H1 H2 ∧ ∃ zs, H2 L = some (.lst zs) ∧ zs = sel e.kinds e.parts i ∧ zs.length ≤ i) ⟨new_same nL, [], upd_same, rfl, Nat.le_refl _⟩ (fun i H2 _ hP => ⟨kd2 _, sqT (hP.1 _ _ eS)⟩) (fun i x H2 H3 hi hP hY => ?_) (fun H2 hP => ?_)
    · obtain ⟨s2, zs, eL, hz, hzl⟩ := hP
      obtain ⟨T, x1, x2, rfl, nT, rfl, e1, e2⟩ := hY
      have e1 : e.kinds[i]? = some x1 := e1
      have e2 : e.parts[i]? = some x2 := e2
      have sT := new_same (o := .tup [x1, x2]) nT
      have sc : scal x1 (.str "block") = true := by
        have hm := List.mem_of_getElem? e1
        cases e with
        | go b => rw [List.mem_singleton.mp hm]; rfl
        | iff r b c =>
          have hm2 : x1 = .str "row" ∨ x1 = .str "block" ∨ x1 = .str "block" := by simpa [En.kinds] using hm
          rcases hm2 with rfl | rfl | rfl <;> rfl
        | fin => cases hm
      have es : sel e.kinds e.parts (i + 1) = zs ++ (if x1 = .str "block" then [x2] else []) := by
        show sel e.kinds e.parts i ++ _ = _
        rw [gd e1, gd e2, ← hz]
      refine ⟨T, _, rfl, sqT upd_same, rfl, _, _, rfl, _, _, rfl, rfl, rfl, _, rfl, sc, _, rfl, ite2 (fun h => ?_) (fun h => ?_)⟩
      · have h1 : x1 = .str "block" := of_decide_eq_true h
        rw [if_pos h1] at es
        refine ⟨_, rfl, zs, sT _ _ eL, szt (by omega), fun a o z => ?_, _, upd_same, es.symm, ?_⟩
        · rw [upd_ne (ne_of_none z nL)]; exact sT _ _ (s2 _ _ z)
        · rw [List.length_append, List.length_singleton]; omega
      · have h1 : ¬ x1 = .str "block" := fun z => h (decide_eq_true z)
        rw [if_neg h1, List.append_nil] at es
        exact ⟨s2.trans sT, zs, sT _ _ eL, es.symm, by omega⟩
    · obtain ⟨s2, zs, eL, hz, hzl⟩ := hP
      have ez : zs = e.names.map iv := by
        rw [hz]
        cases e <;> rfl
      rw [ez] at eL
      exact q L H2 (sS.free nL) (sS.trans s2) eL
end
end Gn
set_option Elab.async false
set_option linter.all false
set_option maxRecDepth 100000
set_option maxHeartbeats 4000000
namespace Gn
open PySem PySem.Spec PyProof.Rows L2
/-! ### a list of lists that grow -/
/-- at lp: m lists, unlike ones, the n-th holds f n; all new -/
structure LL (H H1 : Hp) (lp : Addr) (m : Nat) (qs : List Addr) (f : Nat → List Nat) : Prop where
  top : H1 lp = some (.lst (qs.map V.ref))
  nd : (lp :: qs).Nodup
  len : qs.length = m
  new : ∀ q ∈ lp :: qs, H q = none
  at_ : ∀ n q, qs[n]? = some q → H1 q = some (.lst ((f n).map iv))
theorem LL.same {H H1 H2 : Hp} {lp : Addr} {m : Nat} {qs : List Addr} {f : Nat → List Nat} (h : LL H H1 lp m qs f) (e : Same H1 H2) : LL H H2 lp m qs f :=
  ⟨e _ _ h.top, h.nd, h.len, h.new, fun n q z => e _ _ (h.at_ n q z)⟩
theorem LL.ext {H H1 : Hp} {lp : Addr} {m : Nat} {qs : List Addr} {f g : Nat → List Nat} (h : LL H H1 lp m qs f) (e : ∀ n, n < m → f n = g n) : LL H H1 lp m qs g :=
  ⟨h.top, h.nd, h.len, h.new, fun n q z => by
    have := (List.getElem?_eq_some_iff.mp z).1
    rw [← e n (by rw [← h.len]; exact this)]
    exact h.at_ n q z⟩
theorem LL.app {H H1 : Hp} {lp : Addr} {m : Nat} {qs : List Addr} {f : Nat → List Nat} {n i : Nat} {q : Addr} (h : LL H H1 lp m qs f) (hq : qs[n]? = some q) :
    LL H (upd H1 q (.lst ((f n).map iv ++ [iv i]))) lp m qs (fun k => if k = n then f n ++ [i] else f k) := by
  have hn := h.nd
  rw [List.nodup_cons] at hn
  have hqm := List.mem_of_getElem? hq
  refine ⟨?_, h.nd, h.len, h.new, fun k q' hk => ?_⟩
  · rw [upd_ne (fun z : lp = q => hn.1 (z ▸ hqm))]
    exact h.top
  · by_cases hkn : k = n
    · subst hkn
      have : q' = q := Option.some.inj (hk.symm.trans hq)
      subst this
      rw [upd_same, if_pos rfl, List.map_append]
      rfl
    · rw [if_neg hkn, upd_ne (fun z : q' = q => hkn (nd_ix hn.2 hk (z.symm ▸ hq)))]
      exact h.at_ k q' hk
theorem LL.frame {H H1 : Hp} {lp : Addr} {m : Nat} {qs : List Addr} {f : Nat → List Nat} {n : Nat} {q : Addr} {o : HO} (h : LL H H1 lp m qs f) (hq : qs[n]? = some q) (s : Same H H1) : Same H (upd H1 q o) := fun a u e => by
  rw [upd_ne (ne_of_none e (h.new q (List.mem_cons_of_mem _ (List.mem_of_getElem? hq))))]
  exact s a u e
/-- how often a number is among a block's names, in order -/
def spec (pr : List Blk) (i n : Nat) : List Nat := (List.range i).flatMap fun j => List.replicate (((pr.getD j ([], .fin)).2.names).count n) j
theorem spec_succ (pr : List Blk) (i n : Nat) : spec pr (i + 1) n = spec pr i n ++ List.replicate (((pr.getD i ([], .fin)).2.names).count n) i := by
  unfold spec
  rw [List.range_succ, List.flatMap_append]
  simp
theorem spec_len {pr : List Blk} (h : ∀ b ∈ pr, b.2.names.length ≤ 2) (n : Nat) : ∀ i, (spec pr i n).length ≤ 2 * i
  | 0 => Nat.le_refl _
  | i + 1 => by
    rw [spec_succ, List.length_append, List.length_replicate]
    have h1 := spec_len h n i
    have h2 : ((pr.getD i ([], .fin)).2.names).count n ≤ 2 := by
      refine Nat.le_trans List.count_le_length ?_
      by_cases hi : i < pr.length
      · exact h _ (List.mem_of_getElem? (gdl (d := ([], En.fin)) hi))
      · rw [List.getD_eq_getElem?_getD, List.getElem?_eq_none (by omega)]
        exact Nat.zero_le _
    omega
theorem rep_snoc (k i : Nat) : List.replicate k i ++ [i] = List.replicate (k + 1) i := by
  rw [List.replicate_succ']
theorem count_step {xs : List Nat} {j b n : Nat} (h : xs[j]? = some b) : (xs.take (j + 1)).count n = (xs.take j).count n + (if n = b then 1 else 0) := by
  rw [List.take_add_one, h, List.count_append]
  show _ + List.count n [b] = _
  rw [List.count_singleton]
  by_cases e : n = b
  · subst e; simp
  · rw [if_neg e]
    have : (b == n) = false := by simp; exact fun z => e z.symm
    rw [this]
    rfl
theorem ProgAt.len {K : PySem.W.Frag} {H : Hp} {v : V} {pr : List Blk} (h : ProgAt K H v pr) : ∃ p bs, v = .ref p ∧ SqL K H p bs ∧ bs.length = pr.length := by
  obtain ⟨p, bs, h1, h2, h3⟩ := h
  exact ⟨p, bs, h1, h2, pd_len h3⟩
/-! ### leads_of -/
theorem BlkAt.same {K : PySem.W.Frag} {H H' : Hp} {v : V} {b : Blk} (h : BlkAt K H v b) (e : Same H H') : BlkAt K H' v b := by
  obtain ⟨p, ra, ea, vs, h1, h2, h3, h4, h5⟩ := h
  exact ⟨p, ra, ea, vs, h1, Same.tup e h2, e _ _ h3, pd_mono h4 fun _ _ z => z.same e, h5.mv (Same.tup e)⟩
def namesOk (m : Nat) (pr : List Blk) : Prop := ∀ b ∈ pr, ∀ y ∈ b.2.names, y < m
def spLeadsOf (K : PySem.W.Frag) : Sp := fun vs H Q _ => ∃ (v : V) (pr : List Blk), vs = [v] ∧ ProgAt K H v pr ∧ pr.length ≤ 1000 ∧ namesOk pr.length pr ∧ (∀ b ∈ pr, b.2.names.length ≤ 2) ∧
  ∀ (lp : Addr) (qs : List Addr) (H' : Hp), Same H H' → LL H H' lp pr.length qs (spec pr pr.length) → Q (.ref lp) H'
abbrev nLeadsOf : List Str := ["program", "leads", "block", "rows", "end", "named"]
theorem scLeadsOf : FnScope nLeadsOf ["program"] (defScope sLeadsOf) := ⟨rfl, rfl, rfl, by decide +kernel, rfl, by decide +kernel, by decide +kernel⟩
theorem nd_snoc {α : Type} {l : List α} {a : α} (h : l.Nodup) (n : a ∉ l) : (l ++ [a]).Nodup := by
  rw [List.nodup_append]
  exact ⟨h, by simp, fun x hx y hy z => by rw [List.mem_singleton.mp hy] at z; exact n (z ▸ hx)⟩
section
variable {P : Program} {w : World} {K : PySem.W.Frag} {mg : Str → Option Value} {base : Heap}
theorem ok_leadsOf {f fN : Addr} {fd fdN : FuncData} {k : Nat} (D : Df K mg "leads_of" sLeadsOf ["program"] f fd) (B : Bi mg) (DN : Df K mg "blocks_named" sNamed ["end"] fN fdN) (GN : FnOk P w K mg base CX0 k fN fdN ["end"] (spNamed K)) :
    FnOk P w K mg base CX0 (k + 1) f fd ["program"] (spLeadsOf K) := by
  refine D.F.ok scLeadsOf (fun vs H Q E h => ?_) (fun cdv A outer s H vs Q E hr h => ?_)
  · obtain ⟨v, pr, rfl, _⟩ := h
    rfl
  · obtain ⟨v, pr, rfl, ⟨p, bs, rfl, hp, hbs⟩, hl, hno, hn2, q⟩ := h
    have hbl : bs.length = pr.length := pd_len hbs
    refine ⟨_, pss_cons (ps_setLc (i := 1) (own := [("block", 2)]) (g := gName 2) (tt := tYes) (te := tLst tNil) (by rfl) scLeadsOf.nd rfl rfl (sw_true rfl rfl rfl (by decide +kernel)) (pi_list (pv 0)) (blkOk_by (own := [("block", 2)]) (N := nLeadsOf) (sc := defScope sLeadsOf) (by decide +kernel))
        (fun _ _ _ _ _ => pg_name (i := 2) scLeadsOf.nd rfl (.inl rfl)) (fun _ _ _ _ _ => pts_nil) (fun _ _ _ _ _ => pe_lst pa_nil))
      (pss_cons (ps_for PassesOwn.never rfl (pi_enum (by rfl) B.enumerate (pa_cons (pv 0) pa_nil)) (pg_tup rfl (pgs_cons (pg_name (i := 2) scLeadsOf.nd rfl (.inl rfl)) (pgs_cons (pg_tup rfl (pgs_cons (pg_name (i := 3) scLeadsOf.nd rfl (.inl rfl)) (pgs_cons (pg_name (i := 4) scLeadsOf.nd rfl (.inl rfl)) pgs_nil))) pgs_nil)))
        (pss_one (ps_for PassesOwn.never rfl (pi_list (pe_call GN hr (by rfl) DN.g DN.F.kp DN.b .nil pass0 (pa_cons (pv 4) pa_nil))) (pg_name (i := 5) scLeadsOf.nd rfl (.inl rfl))
          (pss_one (ps_expr (pe_bm PySem.F.plainAttrs_list PySem.F.slot_list_append PySem.F.type_list_append mt_append (pe_ix ix_list (pv 1) (pv 5) (fun _ _ => rfl)) (pa_cons (pv 2) pa_nil)))))))
      (pss_one (ps_ret (pv 1)))), ?_⟩
    refine ⟨.ref p, rfl, p, rfl, ⟨_, hp⟩, fun lp nlp => ?_⟩
    refine lc_list (K := K) (a := p) (xs := bs) (fun i H1 => Same H H1 ∧ ∃ qs, LL H H1 lp i qs (fun _ => [])) ⟨new_same nlp, [], ⟨upd_same, by simp, rfl, fun q hq => by rw [List.mem_singleton.mp hq]; exact nlp, fun n q e => by simp at e⟩⟩ (fun i H1 _ hP => hP.1.seq hp) (fun i x H1 hx hP => ?_) (fun H1 hP => ?_)
    · obtain ⟨s1, qs, L1⟩ := hP
      have hil := (List.getElem?_eq_some_iff.mp hx).1
      refine ⟨rfl, Nat.zero_le _, fun b nb => ?_⟩
      have sB := new_same (o := .lst []) nb
      have L2' := L1.same sB
      have nbl : ∀ q ∈ lp :: qs, q ≠ b := fun q hq z => by
        rcases List.mem_cons.mp hq with rfl | hq
        · have := L1.top
          rw [z, nb] at this
          cases this
        · obtain ⟨n, hn⟩ := List.mem_iff_getElem?.mp hq
          have := L1.at_ n q hn
          rw [z, nb] at this
          cases this
      have hb0 : H b = none := s1.free nb
      refine ⟨_, L2'.top, by rw [List.length_map, L1.len]; exact szt (by omega), fun a o e => ?_, qs ++ [b], ?_⟩
      · rw [upd_ne (ne_of_none e nlp)]
        exact sB _ _ (s1 _ _ e)
      · refine ⟨by rw [upd_same, List.map_append]; rfl, ?_, by rw [List.length_append, List.length_singleton, L1.len], fun q hq => ?_, fun n q hn => ?_⟩
        · show ((lp :: qs) ++ [b]).Nodup
          exact nd_snoc L1.nd fun hm => nbl b hm rfl
        · have hq' : q ∈ (lp :: qs) ++ [b] := hq
          rcases List.mem_append.mp hq' with h | h
          · exact L1.new q h
          · rw [List.mem_singleton.mp h]; exact hb0
        · have nlb : b ≠ lp := (nbl lp List.mem_cons_self).symm
          by_cases hn2' : n < qs.length
          · rw [List.getElem?_append_left hn2'] at hn
            have hqm := List.mem_of_getElem? hn
            have hnd := L1.nd
            rw [List.nodup_cons] at hnd
            rw [upd_ne (fun z : q = lp => hnd.1 (z ▸ hqm))]
            exact L2'.at_ n q hn
          · rw [List.getElem?_append_right (by omega)] at hn
            have hm := List.mem_singleton.mp (List.mem_of_getElem? hn)
            subst hm
            rw [upd_ne nlb, upd_same]
            rfl
    · obtain ⟨s1, qs, L1⟩ := hP
      rw [hbl] at L1
      refine ⟨.ref p, rfl, p, bs, rfl, s1.seq hp, ?_⟩
      refine for_it (walk_enum (xs := bs)) (fun i σ H2 => ∃ (y2 y3 y4 y5 : Option V), σ = [some (.ref p), some (.ref lp), y2, y3, y4, y5] ∧ Same H H2 ∧ LL H H2 lp pr.length qs (spec pr i)) ⟨_, _, _, _, rfl, s1, L1⟩ (fun i σ H2 _ hP => ?_) (fun i x σ H2 H3 hi hP hY => ?_) (fun σ H2 hP => ?_)
      · obtain ⟨_, _, _, _, _, s2, _⟩ := hP
        exact s2.seq hp
      · obtain ⟨y2, y3, y4, y5, rfl, s2, L2'⟩ := hP
        obtain ⟨T, x1, x2, rfl, nT, rfl, e1, e2⟩ := hY
        cases e1
        have e2 : bs[i]? = some x2 := e2
        obtain ⟨bk, hb1, hb2⟩ := pd_at2 hbs e2
        have sT := new_same (o := .tup [.int (i : Nat), x2]) nT
        have s3 := s2.trans sT
        obtain ⟨pb, ra, ea, vs, rfl, h2, h3, h4, h5⟩ := hb2.same s3
        refine ⟨T, _, rfl, sqT upd_same, rfl, _, _, rfl, _, _, rfl, pb, _, rfl, h2, rfl, _, _, rfl, _, _, rfl, rfl, rfl, ?_⟩
        have L3 := L2'.same sT
        generalize upd H2 T (.tup [.int (i : Nat), .ref pb]) = H3 at s3 L3 h5
        refine ⟨ea, rfl, ea, bk.2, rfl, h5, fun np H4 nnp s4 enp => ⟨np, rfl, ⟨_, sqL enp⟩, ?_⟩⟩
        have L4 := L3.same s4
        have s5 := s3.trans s4
        have hnp : ∀ q ∈ lp :: qs, q ≠ np := fun q hq z => by
          rcases List.mem_cons.mp hq with rfl | hq
          · have := L3.top
            rw [z, nnp] at this; cases this
          · obtain ⟨n, hn⟩ := List.mem_iff_getElem?.mp hq
            have := L3.at_ n q hn
            rw [z, nnp] at this
            cases this
        have hbm := List.mem_of_getElem? hb1
        have hnm := hno bk hbm
        have hn2' := hn2 bk hbm
        have hpd : pr.getD i ([], .fin) = bk := gd hb1
        refine for_list (K := K) (a := np) (xs := bk.2.names.map iv) (fun j σ H5 => ∃ (y3 y4 y5 : Option V), σ = [some (.ref p), some (.ref lp), some (iv i), y3, y4, y5] ∧ Same H H5 ∧ H5 np = some (.lst (bk.2.names.map iv)) ∧ LL H H5 lp pr.length qs (fun n => spec pr i n ++ List.replicate ((bk.2.names.take j).count n) i))
          ⟨_, _, _, rfl, s5, enp, L4.ext fun n _ => by simp⟩ (fun j σ H5 _ hP => ?_) (fun j x σ H5 hx hP => ?_) (fun σ H5 hP => ?_)
        · obtain ⟨_, _, _, _, _, h, _⟩ := hP
          exact sqL h
        · obtain ⟨z3, z4, z5, rfl, s6, enp6, L5⟩ := hP
          rw [List.getElem?_map] at hx
          obtain ⟨b, hb, rfl⟩ := Option.map_eq_some_iff.mp hx
          have hbm2 := hnm b (List.mem_of_getElem? hb)
          have hbq : b < qs.length := by rw [L5.len]; exact hbm2
          have hq := List.getElem?_eq_getElem hbq
          have eq5 := L5.at_ b _ hq
          have hjl := (List.getElem?_eq_some_iff.mp hb).1
          have hsz : (spec pr i b ++ List.replicate ((bk.2.names.take j).count b) i).length ≤ 100000 := by
            rw [List.length_append, List.length_replicate]
            have h1 := spec_len hn2 b i
            have h2 : (bk.2.names.take j).count b ≤ 2 := Nat.le_trans List.count_le_length (Nat.le_trans (List.length_take_le _ _) (by omega))
            omega
          refine ⟨.ref lp, rfl, _, rfl, lp, _, _, .ref qs[b], rfl, rfl, sqL L5.top, atI_nat (by rw [List.getElem?_map, hq]; rfl), .inl ⟨rfl, _, sqL eq5⟩, _, rfl, qs[b], _, _, rfl, rfl, eq5, by rw [List.length_map]; exact szt (by omega), ?_⟩
          refine ⟨_, _, _, rfl, L5.frame hq s6, ?_, (L5.app (i := i) hq).ext fun n _ => ?_⟩
          · rw [upd_ne (hnp _ (List.mem_cons_of_mem _ (List.getElem_mem hbq))).symm]
            exact enp6
          · rw [count_step hb]
            by_cases e : n = b
            · subst e
              rw [if_pos rfl, if_pos rfl, List.append_assoc, rep_snoc]
            · rw [if_neg e, if_neg e, Nat.add_zero]
        · obtain ⟨z3, z4, z5, rfl, s6, enp6, L5⟩ := hP
          refine ⟨_, _, _, _, rfl, s6, L5.ext fun n _ => ?_⟩
          rw [spec_succ, hpd, List.length_map, List.take_length]
      · obtain ⟨y2, y3, y4, y5, rfl, s2, L2'⟩ := hP
        rw [hbl] at L2'
        exact ⟨.ref lp, rfl, q lp qs H2 s2 L2'⟩
end
end Gn
set_option Elab.async false
set_option linter.all false
set_option maxRecDepth 100000
set_option maxHeartbeats 4000000
namespace Gn
open PySem PySem.Spec PyProof.Rows L2
/-! ### a run as plain functions -/
structure MSt where
  lasts : List Int
  rooms : List Int
  way : List Nat
  told : List Int
  done : List (Nat × Option Int)
def LI (xs : List Int) (k : Nat) : Int := xs.getD k 0
def pk (xs : List Nat) (n : Int) : Nat := xs.getD (n % (xs.length : Int)).toNat 0
def Bk.op : Bk → Int → Int → Int
  | .sum, a, b => a + b
  | .less, a, b => a - b
  | .times, a, b => a * b
  | .same, a, b => if a = b then 1 else 0
  | .below, a, b => if a < b then 1 else 0
def wOf (tk : List Int) (s : MSt) : Rw → Option Int
  | .take i => some (LI tk i)
  | .num n => some n
  | .bin b x y => some (b.op (LI s.lasts x) (LI s.lasts y))
  | .pick x ps => some (LI s.lasts (pk ps (LI s.lasts x)))
  | .look rs x => some (LI s.rooms (pk rs (LI s.lasts x)))
  | .meet _ => none
  | .tell _ => none
  | .lay _ _ _ => none
abbrev GT40 : Int := 10000000000000000000000000000000000000000
def too : Option Int → Bool
  | none => false
  | some w => !(decide (-GT40 ≤ w) && decide (w ≤ GT40))
def doR (k : Nat) (r : Rw) (w : Option Int) (s : MSt) : MSt :=
  match r with
  | .lay rs x y => { s with rooms := s.rooms.set (pk rs (LI s.lasts x)) (LI s.lasts y), done := s.done ++ [(k, w)] }
  | .tell x => { s with told := s.told ++ [LI s.lasts x], done := s.done ++ [(k, w)] }
  | _ => { s with lasts := s.lasts.set k (w.getD 0), done := s.done ++ [(k, w)] }
inductive Cfg
  | come (b : Nat) (bl : List Int) (s : MSt)
  | row (b i : Nat) (bl : List Int) (s : MSt)
  | ended (s : MSt)
  | great (s : MSt)
section
variable (pr : List Blk) (tk : List Int)
def rowsB (b : Nat) : List Rw := (pr.getD b ([], .fin)).1
def endB (b : Nat) : En := (pr.getD b ([], .fin)).2
def bgn (b : Nat) : Nat := (rowsL (pr.take b)).length
def nextB (s : MSt) : En → Option Nat
  | .go b => some b
  | .iff r b c => some (if LI s.lasts r ≠ 0 then b else c)
  | .fin => none
def mVal (s : MSt) (at_ : Nat) : Rw → Option Int
  | .meet ps => some (LI s.lasts (ps.getD at_ 0))
  | _ => none
def brt (lead blk : Nat) (s : MSt) : List Int := (rowsB pr blk).filterMap (mVal s ((spec pr pr.length blk).idxOf lead))
def norm (b i : Nat) (bl : List Int) (s : MSt) : Cfg :=
  if i < (rowsB pr b).length then .row b i bl s
  else match nextB s (endB pr b) with
    | none => .ended s
    | some c => .come c (brt pr b c s) s
def rwAt (b i : Nat) : Rw := (rowsB pr b).getD i (.take 0)
def wAt (b i : Nat) (bl : List Int) (s : MSt) : Option Int := if (rwAt pr b i).isM = true then some (LI bl i) else wOf tk s (rwAt pr b i)
def stepC : Cfg → Cfg
  | .come b bl s => norm pr b 0 bl { s with way := s.way ++ [b] }
  | .row b i bl s => if too (wAt pr tk b i bl s) = true then .great s else norm pr b (i + 1) bl (doR (bgn pr b + i) (rwAt pr b i) (wAt pr tk b i bl s) s)
  | .ended s => .ended s
  | .great s => .great s
def itC : Nat → Cfg → Cfg
  | 0, c => c
  | n + 1, c => itC n (stepC pr tk c)
def Cfg.st : Cfg → MSt
  | .come _ _ s => s
  | .row _ _ _ s => s
  | .ended s => s
  | .great s => s
def Cfg.word : Cfg → Str
  | .come _ _ _ => "going"
  | .row _ _ _ _ => "going"
  | .ended _ => "ended"
  | .great _ => "great"
def MSt.first : MSt := ⟨List.replicate (rowsL pr).length 0, List.replicate 6 0, [], [], []⟩
def runC (n : Nat) : Cfg := itC pr tk n (.come 0 [] (MSt.first pr))
end
variable {pr : List Blk} {tk : List Int}
theorem itC_succ : ∀ (n : Nat) (c : Cfg), itC pr tk (n + 1) c = stepC pr tk (itC pr tk n c)
  | 0, _ => rfl
  | n + 1, c => itC_succ n (stepC pr tk c)
theorem itC_add : ∀ (n k : Nat) (c : Cfg), itC pr tk (n + k) c = itC pr tk k (itC pr tk n c)
  | 0, k, c => by rw [Nat.zero_add]; rfl
  | n + 1, k, c => by rw [show n + 1 + k = (n + k) + 1 by omega]; exact itC_add n k (stepC pr tk c)
theorem itC_ended (s : MSt) : ∀ n, itC pr tk n (.ended s) = .ended s
  | 0 => rfl
  | n + 1 => itC_ended s n
theorem itC_great (s : MSt) : ∀ n, itC pr tk n (.great s) = .great s
  | 0 => rfl
  | n + 1 => itC_great s n
/-- all last worths and rooms are within the bounds -/
def Bd (s : MSt) : Prop := (∀ x ∈ s.lasts, -GT40 ≤ x ∧ x ≤ GT40) ∧ ∀ x ∈ s.rooms, -GT40 ≤ x ∧ x ≤ GT40
theorem LI_mem {xs : List Int} {k : Nat} (h : k < xs.length) : LI xs k ∈ xs := by
  unfold LI
  rw [List.getD_eq_getElem?_getD, List.getElem?_eq_getElem h]
  exact List.getElem_mem h
theorem LI_at {xs : List Int} {k : Nat} (h : k < xs.length) : (xs.map V.int)[k]? = some (.int (LI xs k)) := by
  unfold LI
  rw [List.getElem?_map, List.getD_eq_getElem?_getD, List.getElem?_eq_getElem h]
  rfl
theorem LI_bd {xs : List Int} {k : Nat} (h : ∀ x ∈ xs, -GT40 ≤ x ∧ x ≤ GT40) : -GT40 ≤ LI xs k ∧ LI xs k ≤ GT40 := by
  by_cases hk : k < xs.length
  · exact h _ (LI_mem hk)
  · unfold LI
    rw [List.getD_eq_getElem?_getD, List.getElem?_eq_none (by omega)]
    decide
theorem pk_lt {xs : List Nat} {n : Int} {m : Nat} (h0 : xs ≠ []) (h : ∀ y ∈ xs, y < m) : pk xs n < m ∧ (n % (xs.length : Int)).toNat < xs.length ∧ 0 ≤ n % (xs.length : Int) := by
  have hl : 0 < xs.length := List.length_pos_iff.mpr h0
  have h1 : 0 ≤ n % (xs.length : Int) := Int.emod_nonneg _ (by omega)
  have h2 : n % (xs.length : Int) < (xs.length : Int) := Int.emod_lt_of_pos _ (by omega)
  have h3 : (n % (xs.length : Int)).toNat < xs.length := by omega
  refine ⟨?_, h3, h1⟩
  unfold pk
  rw [List.getD_eq_getElem?_getD, List.getElem?_eq_getElem h3]
  exact h _ (List.getElem_mem h3)
structure StOk (s : MSt) (n k : Nat) : Prop where
  ll : s.lasts.length = n
  lr : s.rooms.length = 6
  bd : Bd s
  lw : s.way.length ≤ k
  lt : s.told.length ≤ k
  ld : s.done.length ≤ k
theorem bd_set {xs : List Int} {k : Nat} {v : Int} (h : ∀ x ∈ xs, -GT40 ≤ x ∧ x ≤ GT40) (hv : -GT40 ≤ v ∧ v ≤ GT40) : ∀ x ∈ xs.set k v, -GT40 ≤ x ∧ x ≤ GT40 := fun x hx => by
  rcases List.mem_or_eq_of_mem_set hx with z | z
  · exact h x z
  · rw [z]; exact hv
theorem too_no {w : Int} (h : too (some w) = false) : -GT40 ≤ w ∧ w ≤ GT40 := by
  unfold too at h
  rw [Bool.not_eq_false', Bool.and_eq_true, decide_eq_true_iff, decide_eq_true_iff] at h
  exact h
theorem StOk.doR {s : MSt} {n k j : Nat} {r : Rw} {w : Option Int} (h : StOk s n k) (hw : too w = false) : StOk (doR j r w s) n (k + 1) := by
  have hwb : -GT40 ≤ w.getD 0 ∧ w.getD 0 ≤ GT40 := by
    cases w with
    | none => decide
    | some w => exact too_no hw
  have app : ∀ {α : Type} {xs : List α} {x : α}, xs.length ≤ k → (xs ++ [x]).length ≤ k + 1 := fun {α xs x} z => by rw [List.length_append, List.length_singleton]; omega
  have las : StOk { s with lasts := s.lasts.set j (w.getD 0), done := s.done ++ [(j, w)] } n (k + 1) := ⟨by show (s.lasts.set j (w.getD 0)).length = n; rw [List.length_set]; exact h.ll, h.lr, ⟨bd_set h.bd.1 hwb, h.bd.2⟩, Nat.le_succ_of_le h.lw, Nat.le_succ_of_le h.lt, app h.ld⟩
  cases r with
  | lay rs x y => exact ⟨h.ll, by show (s.rooms.set _ _).length = 6; rw [List.length_set]; exact h.lr, ⟨h.bd.1, bd_set h.bd.2 (LI_bd h.bd.1)⟩, Nat.le_succ_of_le h.lw, Nat.le_succ_of_le h.lt, app h.ld⟩
  | tell x => exact ⟨h.ll, h.lr, h.bd, Nat.le_succ_of_le h.lw, app h.lt, app h.ld⟩
  | take _ => exact las
  | num _ => exact las
  | bin _ _ _ => exact las
  | pick _ _ => exact las
  | meet _ => exact las
  | look _ _ => exact las
/-! ### one step more -/
theorem norm_st {b i : Nat} {bl : List Int} {s : MSt} : (norm pr b i bl s).st = s := by
  unfold norm
  by_cases h : i < (rowsB pr b).length
  · rw [if_pos h]; rfl
  · rw [if_neg h]
    cases nextB s (endB pr b) <;> rfl
theorem norm_word {b i : Nat} {bl : List Int} {s : MSt} : (norm pr b i bl s).word = "going" ∨ (norm pr b i bl s).word = "ended" := by
  unfold norm
  by_cases h : i < (rowsB pr b).length
  · rw [if_pos h]; exact .inl rfl
  · rw [if_neg h]
    cases nextB s (endB pr b)
    · exact .inr rfl
    · exact .inl rfl
/-- what a step more does to what is told and done -/
theorem step_more (c : Cfg) : (∃ ts ds, (stepC pr tk c).st.told = c.st.told ++ ts ∧ (stepC pr tk c).st.done = c.st.done ++ ds ∧ ts.length ≤ ds.length ∧ ds.length ≤ 1) ∧ (c.word ≠ "going" → stepC pr tk c = c) := by
  cases c with
  | come b bl s =>
    refine ⟨⟨[], [], ?_, ?_, Nat.le_refl _, Nat.zero_le _⟩, fun z => absurd rfl z⟩
    · show (norm pr b 0 bl { s with way := s.way ++ [b] }).st.told = s.told ++ []
      rw [norm_st, List.append_nil]
    · show (norm pr b 0 bl { s with way := s.way ++ [b] }).st.done = s.done ++ []
      rw [norm_st, List.append_nil]
  | row b i bl s =>
    refine ⟨?_, fun z => absurd rfl z⟩
    show ∃ ts ds, (if too (wAt pr tk b i bl s) = true then Cfg.great s else norm pr b (i + 1) bl (doR (bgn pr b + i) (rwAt pr b i) (wAt pr tk b i bl s) s)).st.told = s.told ++ ts ∧ (if too (wAt pr tk b i bl s) = true then Cfg.great s else norm pr b (i + 1) bl (doR (bgn pr b + i) (rwAt pr b i) (wAt pr tk b i bl s) s)).st.done = s.done ++ ds ∧ ts.length ≤ ds.length ∧ ds.length ≤ 1
    by_cases ht : too (wAt pr tk b i bl s) = true
    · rw [if_pos ht]
      exact ⟨[], [], (List.append_nil _).symm, (List.append_nil _).symm, Nat.le_refl _, Nat.zero_le _⟩
    · rw [if_neg ht, norm_st]
      generalize wAt pr tk b i bl s = w
      generalize bgn pr b + i = k
      cases rwAt pr b i with
      | tell x => exact ⟨[LI s.lasts x], [(k, w)], rfl, rfl, Nat.le_refl _, Nat.le_refl _⟩
      | lay rs x y => exact ⟨[], [(k, w)], (List.append_nil _).symm, rfl, Nat.zero_le _, Nat.le_refl _⟩
      | take _ => exact ⟨[], [(k, w)], (List.append_nil _).symm, rfl, Nat.zero_le _, Nat.le_refl _⟩
      | num _ => exact ⟨[], [(k, w)], (List.append_nil _).symm, rfl, Nat.zero_le _, Nat.le_refl _⟩
      | bin _ _ _ => exact ⟨[], [(k, w)], (List.append_nil _).symm, rfl, Nat.zero_le _, Nat.le_refl _⟩
      | pick _ _ => exact ⟨[], [(k, w)], (List.append_nil _).symm, rfl, Nat.zero_le _, Nat.le_refl _⟩
      | meet _ => exact ⟨[], [(k, w)], (List.append_nil _).symm, rfl, Nat.zero_le _, Nat.le_refl _⟩
      | look _ _ => exact ⟨[], [(k, w)], (List.append_nil _).symm, rfl, Nat.zero_le _, Nat.le_refl _⟩
  | ended s => exact ⟨⟨[], [], (List.append_nil _).symm, (List.append_nil _).symm, Nat.le_refl _, Nat.zero_le _⟩, fun _ => rfl⟩
  | great s => exact ⟨⟨[], [], (List.append_nil _).symm, (List.append_nil _).symm, Nat.le_refl _, Nat.zero_le _⟩, fun _ => rfl⟩
end Gn
set_option Elab.async false
set_option linter.all false
set_option maxRecDepth 100000
set_option maxHeartbeats 4000000
namespace Gn
open PySem PySem.Spec PyProof.Rows L2
theorem ProgAt.same {K : PySem.W.Frag} {H H' : Hp} {v : V} {pr : List Blk} (h : ProgAt K H v pr) (e : Same H H') : ProgAt K H' v pr := by
  obtain ⟨p, bs, rfl, h1, h2⟩ := h
  exact ⟨p, bs, rfl, e.seq h1, pd_mono h2 fun _ _ z => z.same e⟩
def wv : Option Int → V
  | none => .non
  | some i => .int i
/-! ### the small ones -/
def spIsMeet (K : PySem.W.Frag) : Sp := fun vs H Q _ => ∃ (v : V) (r : Rw), vs = [v] ∧ RowAt K H v r ∧ Q (.bl r.isM) H
theorem scIsMeet : FnScope ["row"] ["row"] (defScope sIsMeet) := ⟨rfl, rfl, rfl, by decide +kernel, rfl, by decide +kernel, by decide +kernel⟩
theorem isM_dec (r : Rw) : decide (V.str r.w = V.str "meet") = r.isM := by
  cases r with
  | bin b x y => cases b <;> rfl
  | meet ps => exact decide_eq_true rfl
  | take _ => rfl
  | num _ => rfl
  | pick _ _ => rfl
  | tell _ => rfl
  | look _ _ => rfl
  | lay _ _ _ => rfl
def spOp (b : Bk) : Sp := fun vs H Q _ => ∃ (x y : Int), vs = [.int x, .int y] ∧ (-GT40 ≤ x ∧ x ≤ GT40) ∧ (-GT40 ≤ y ∧ y ≤ GT40) ∧ Q (.int (b.op x y)) H
def spPicked (K : PySem.W.Frag) : Sp := fun vs H Q _ => ∃ (q : Addr) (ps : List Nat) (n : Int), vs = [.ref q, .int n] ∧ SqT K H q (ps.map iv) ∧ ps ≠ [] ∧ ps.length ≤ 1000 ∧ Q (iv (pk ps n)) H
theorem scPicked : FnScope ["things", "number"] ["things", "number"] (defScope sPicked) := ⟨rfl, rfl, rfl, by decide +kernel, rfl, by decide +kernel, by decide +kernel⟩
def spGreat : Sp := fun vs H Q _ => ∃ w : Option Int, vs = [wv w] ∧ Q (.bl (too w)) H
theorem scGreat : FnScope ["worth"] ["worth"] (defScope sGreat) := ⟨rfl, rfl, rfl, by decide +kernel, rfl, by decide +kernel, by decide +kernel⟩
abbrev oo : List Str := ["one", "other"]
theorem scSummed : FnScope oo oo (defScope sSummed) := ⟨rfl, rfl, rfl, by decide +kernel, rfl, by decide +kernel, by decide +kernel⟩
theorem scLessened : FnScope oo oo (defScope sLessened) := ⟨rfl, rfl, rfl, by decide +kernel, rfl, by decide +kernel, by decide +kernel⟩
theorem scProduct : FnScope oo oo (defScope sProduct) := ⟨rfl, rfl, rfl, by decide +kernel, rfl, by decide +kernel, by decide +kernel⟩
theorem scTSame : FnScope oo oo (defScope sTSame) := ⟨rfl, rfl, rfl, by decide +kernel, rfl, by decide +kernel, by decide +kernel⟩
theorem scTBelow : FnScope oo oo (defScope sTBelow) := ⟨rfl, rfl, rfl, by decide +kernel, rfl, by decide +kernel, by decide +kernel⟩
theorem bd_abs {x : Int} (h : -GT40 ≤ x ∧ x ≤ GT40) : x.natAbs < 2 ^ 140 := by
  have h1 : x.natAbs ≤ 10000000000000000000000000000000000000000 := by
    obtain ⟨a, b⟩ := h
    unfold GT40 at a b
    omega
  exact Nat.lt_of_le_of_lt h1 (by decide)
section
variable {P : Program} {w : World} {K : PySem.W.Frag} {mg : Str → Option Value} {base : Heap}
theorem ok_isMeet {f : Addr} {fd : FuncData} {k : Nat} (D : Df K mg "is_meet" sIsMeet ["row"] f fd) : FnOk P w K mg base CX0 (k + 1) f fd ["row"] (spIsMeet K) := by
  refine D.F.ok scIsMeet (fun vs H Q E h => ?_) (fun cdv A outer s H vs Q E hr h => ?_)
  · obtain ⟨v, r, rfl, _⟩ := h
    rfl
  · obtain ⟨v, r, rfl, ⟨p, xs, rfl, h1, h2⟩, q⟩ := h
    refine ⟨_, pss_one (ps_ret (pe_cmpR op_eq (pe_ix ix_tup (pv 0) pe_int (fun _ _ => rfl)) pe_str (nomark _))), ?_⟩
    refine ⟨.ref p, rfl, p, _, _, _, rfl, rfl, h1, atI_nat (j := 0) rfl, rfl, ?_⟩
    show Q (.bl (decide (V.str r.w = V.str "meet"))) H
    rw [isM_dec]
    exact q
theorem ok_summed {f : Addr} {fd : FuncData} {k : Nat} (D : Df K mg "summed" sSummed oo f fd) : FnOk P w K mg base CX0 (k + 1) f fd oo (spOp .sum) := by
  refine D.F.ok scSummed (fun vs H Q E h => ?_) (fun cdv A outer s H vs Q E hr h => ?_)
  · obtain ⟨x, y, rfl, _⟩ := h
    rfl
  · obtain ⟨x, y, rfl, _, _, q⟩ := h
    exact ⟨_, pss_one (ps_ret (pe_op op_add (pv 0) (pv 1))), _, rfl, _, rfl, _, _, rfl, rfl, q⟩
theorem ok_lessened {f : Addr} {fd : FuncData} {k : Nat} (D : Df K mg "lessened" sLessened oo f fd) : FnOk P w K mg base CX0 (k + 1) f fd oo (spOp .less) := by
  refine D.F.ok scLessened (fun vs H Q E h => ?_) (fun cdv A outer s H vs Q E hr h => ?_)
  · obtain ⟨x, y, rfl, _⟩ := h
    rfl
  · obtain ⟨x, y, rfl, _, _, q⟩ := h
    exact ⟨_, pss_one (ps_ret (pe_op op_sub (pv 0) (pv 1))), _, rfl, _, rfl, _, _, rfl, rfl, q⟩
theorem ok_product {f : Addr} {fd : FuncData} {k : Nat} (D : Df K mg "product" sProduct oo f fd) : FnOk P w K mg base CX0 (k + 1) f fd oo (spOp .times) := by
  refine D.F.ok scProduct (fun vs H Q E h => ?_) (fun cdv A outer s H vs Q E hr h => ?_)
  · obtain ⟨x, y, rfl, _⟩ := h
    rfl
  · obtain ⟨x, y, rfl, hx, hy, q⟩ := h
    exact ⟨_, pss_one (ps_ret (pe_op op_mulW (pv 0) (pv 1))), _, rfl, _, rfl, _, _, rfl, rfl, wide_mul (bd_abs hx) (bd_abs hy) (by decide) (by decide) (by decide), q⟩
theorem ok_tsame {f : Addr} {fd : FuncData} {k : Nat} (D : Df K mg "tested_same" sTSame oo f fd) : FnOk P w K mg base CX0 (k + 1) f fd oo (spOp .same) := by
  refine D.F.ok scTSame (fun vs H Q E h => ?_) (fun cdv A outer s H vs Q E hr h => ?_)
  · obtain ⟨x, y, rfl, _⟩ := h
    rfl
  · obtain ⟨x, y, rfl, _, _, q⟩ := h
    refine ⟨_, pss_one (ps_ret (pe_ifExp (pt_cmpR op_eq (pv 0) (pv 1) (nomark _)) pe_int pe_int)), _, rfl, _, rfl, rfl, _, rfl, ite2 (fun e => ?_) (fun e => ?_)⟩
    · have e1 : x = y := V.int.inj (of_decide_eq_true e)
      have : Bk.same.op x y = 1 := if_pos e1
      rw [this] at q
      exact q
    · have e1 : ¬ x = y := fun z => e (decide_eq_true (by rw [z]))
      have : Bk.same.op x y = 0 := if_neg e1
      rw [this] at q
      exact q
theorem ok_tbelow {f : Addr} {fd : FuncData} {k : Nat} (D : Df K mg "tested_below" sTBelow oo f fd) : FnOk P w K mg base CX0 (k + 1) f fd oo (spOp .below) := by
  refine D.F.ok scTBelow (fun vs H Q E h => ?_) (fun cdv A outer s H vs Q E hr h => ?_)
  · obtain ⟨x, y, rfl, _⟩ := h
    rfl
  · obtain ⟨x, y, rfl, _, _, q⟩ := h
    refine ⟨_, pss_one (ps_ret (pe_ifExp (pt_cmpR op_lt (pv 0) (pv 1) (nomark _)) pe_int pe_int)), _, rfl, _, rfl, _, _, rfl, rfl, _, rfl, ite2 (fun e => ?_) (fun e => ?_)⟩
    · have e1 : x < y := of_decide_eq_true e
      have : Bk.below.op x y = 1 := if_pos e1
      rw [this] at q
      exact q
    · have e1 : ¬ x < y := fun z => e (decide_eq_true z)
      have : Bk.below.op x y = 0 := if_neg e1
      rw [this] at q
      exact q
theorem ok_picked {f : Addr} {fd : FuncData} {k : Nat} (D : Df K mg "picked" sPicked ["things", "number"] f fd) (B : Bi mg) : FnOk P w K mg base CX0 (k + 1) f fd ["things", "number"] (spPicked K) := by
  refine D.F.ok scPicked (fun vs H Q E h => ?_) (fun cdv A outer s H vs Q E hr h => ?_)
  · obtain ⟨a, ps, n, rfl, _⟩ := h
    rfl
  · obtain ⟨a, ps, n, rfl, ha, hne, hl, q⟩ := h
    refine ⟨_, pss_one (ps_ret (pe_ix ix_tup (pv 0) (pe_op op_mod (pv 1) (pe_callB call_len_seq (by rfl) B.len PySem.boot_len (pa_cons (pv 0) pa_nil))) (fun _ _ => rfl))), ?_⟩
    have hli : ((ps.map iv).length : Int) = (ps.length : Int) := by rw [List.length_map]
    have hp0 : 0 < ps.length := List.length_pos_iff.mpr hne
    have h1 : 0 ≤ n % (ps.length : Int) := Int.emod_nonneg _ (by omega)
    have h2 : n % (ps.length : Int) < (ps.length : Int) := Int.emod_lt_of_pos _ (by omega)
    have h3 : (n % (ps.length : Int)).toNat < ps.length := by omega
    refine ⟨.ref a, rfl, _, rfl, .ref a, rfl, a, _, rfl, .inr ha, _, _, rfl, rfl, by rw [hli]; omega, a, _, _, iv (pk ps n), rfl, rfl, ha, ?_, q⟩
    rw [hli]
    have : n % (ps.length : Int) = ((n % (ps.length : Int)).toNat : Int) := (Int.toNat_of_nonneg h1).symm
    rw [this]
    refine atI_nat ?_
    unfold pk
    rw [List.getElem?_map, List.getD_eq_getElem?_getD, List.getElem?_eq_getElem h3]
    rfl
theorem ok_great {f : Addr} {fd : FuncData} {tg : Tok} {k : Nat} (D : Df K mg "is_too_great" sGreat ["worth"] f fd) (hG : mg "GREATEST" = some (.int GT40 tg)) : FnOk P w K mg base CX0 (k + 1) f fd ["worth"] spGreat := by
  refine D.F.ok scGreat (fun vs H Q E h => ?_) (fun cdv A outer s H vs Q E hr h => ?_)
  · obtain ⟨w, rfl, _⟩ := h
    rfl
  · obtain ⟨w, rfl, q⟩ := h
    refine ⟨_, pss_one (ps_ret (pe_and (pe_cmpR op_notN (pv 0) pe_non (nomark _)) (pe_one (pe_not (pe_chain op_le op_le (pe_un un_neg (pe_glob (v := .int GT40) (by rfl) hG ⟨_, rfl⟩)) (pv 0) (pe_glob (v := .int GT40) (by rfl) hG ⟨_, rfl⟩)))))), ?_⟩
    cases w with
    | none => exact ⟨_, rfl, rfl, _, rfl, q⟩
    | some w =>
      refine ⟨_, rfl, rfl, _, rfl, ?_⟩
      refine ⟨_, rfl, _, rfl, _, _, rfl, rfl, _, rfl, ite2 (fun e => ?_) (fun e => ?_)⟩
      · have e1 : -GT40 ≤ w := of_decide_eq_true e
        refine ⟨_, _, rfl, rfl, _, rfl, ?_⟩
        have q1 : Q (.bl (!(decide (-GT40 ≤ w) && decide (w ≤ GT40)))) H := q
        rw [decide_eq_true e1, Bool.true_and] at q1
        exact q1
      · have e1 : ¬ -GT40 ≤ w := fun z => e (decide_eq_true z)
        have q1 : Q (.bl (!(decide (-GT40 ≤ w) && decide (w ≤ GT40)))) H := q
        rw [decide_eq_false e1, Bool.false_and] at q1
        exact ⟨_, rfl, q1⟩
end
end Gn
set_option Elab.async false
set_option linter.all false
set_option maxRecDepth 100000
set_option maxHeartbeats 4000000
namespace Gn
open PySem PySem.Spec PyProof.Rows L2
/-! ### the machine in memory -/
structure MAd where
  pv : V
  tk : Addr
  most : Nat
  ld : Addr
  bg : Addr
  la : Addr
  ro : Addr
  wy : Addr
  te : Addr
  dn : Addr
  dx : Addr
def mf (A : MAd) (n : Nat) : List (Str × V) := [("program", A.pv), ("takes", .ref A.tk), ("most", .int A.most), ("leads", .ref A.ld), ("begins", .ref A.bg), ("steps", .int n), ("lasts", .ref A.la), ("rooms", .ref A.ro), ("way", .ref A.wy), ("told", .ref A.te), ("done", .ref A.dn)]
section
variable (A : MAd) (n : Nat)
theorem mf_program : (mf A n).lookup ("program" : Str) = some A.pv := rfl
theorem mf_takes : (mf A n).lookup ("takes" : Str) = some (.ref A.tk) := rfl
theorem mf_most : (mf A n).lookup ("most" : Str) = some (.int A.most) := rfl
theorem mf_leads : (mf A n).lookup ("leads" : Str) = some (.ref A.ld) := rfl
theorem mf_begins : (mf A n).lookup ("begins" : Str) = some (.ref A.bg) := rfl
theorem mf_steps : (mf A n).lookup ("steps" : Str) = some (.int n) := rfl
theorem mf_lasts : (mf A n).lookup ("lasts" : Str) = some (.ref A.la) := rfl
theorem mf_rooms : (mf A n).lookup ("rooms" : Str) = some (.ref A.ro) := rfl
theorem mf_way : (mf A n).lookup ("way" : Str) = some (.ref A.wy) := rfl
theorem mf_told : (mf A n).lookup ("told" : Str) = some (.ref A.te) := rfl
theorem mf_done : (mf A n).lookup ("done" : Str) = some (.ref A.dn) := rfl
theorem mf_put (k : Nat) : putF "steps" (.int k) (mf A n) = mf A k := rfl
end
structure MTxt (K : PySem.W.Frag) (mg : Str → Option Value) (C : Addr) : Prop where
  cl : L2.Cls K C
  program : NoAttr K C "program"
  takes : NoAttr K C "takes"
  most : NoAttr K C "most"
  leads : NoAttr K C "leads"
  begins : NoAttr K C "begins"
  steps : NoAttr K C "steps"
  lasts : NoAttr K C "lasts"
  rooms : NoAttr K C "rooms"
  way : NoAttr K C "way"
  told : NoAttr K C "told"
  done : NoAttr K C "done"
  mgC : mg "Machine" = some (.ref C)
def DnAt (K : PySem.W.Frag) (H : Hp) (v : V) (d : Nat × Option Int) : Prop := ∃ q, v = .ref q ∧ SqT K H q [iv d.1, wv d.2]
structure MAt (K : PySem.W.Frag) (C : Addr) (I H : Hp) (p : Addr) (A : MAd) (n : Nat) (s : MSt) : Prop where
  sI : Same I H
  nw : ∀ a ∈ [p, A.la, A.ro, A.wy, A.te, A.dn], I a = none
  nd : [p, A.la, A.ro, A.wy, A.te, A.dn].Nodup
  ob : H p = some (.ins C A.dx (mf A n))
  la : H A.la = some (.lst (s.lasts.map V.int))
  ro : H A.ro = some (.lst (s.rooms.map V.int))
  wy : H A.wy = some (.lst (s.way.map iv))
  te : H A.te = some (.lst (s.told.map V.int))
  dn : ∃ ds, H A.dn = some (.lst ds) ∧ Paired (DnAt K H) ds s.done
variable {K : PySem.W.Frag} {C : Addr} {I H H' : Hp} {p : Addr} {A : MAd} {n : Nat} {s : MSt}
theorem tup_any {a b : Addr} {xs : List V} {o o' : HO} (h : SqT K H a xs) (e : H b = some o) (h1 : ∀ ys, o ≠ .tup ys) (h2 : ∀ u ys, o ≠ .frz u (.tup ys)) : SqT K (upd H b o') a xs := by
  rcases h with (h | ⟨u, h⟩) | h
  · exact .inl (.inl (by rw [upd_ne (fun z => by rw [z, e] at h; exact h1 _ (Option.some.inj h))]; exact h))
  · exact .inl (.inr ⟨u, by rw [upd_ne (fun z => by rw [z, e] at h; exact h2 _ _ (Option.some.inj h))]; exact h⟩)
  · exact .inr h
theorem dn_upd {b : Addr} {o o' : HO} {ds : List V} {xs : List (Nat × Option Int)} (h : Paired (DnAt K H) ds xs) (e : H b = some o) (h1 : ∀ ys, o ≠ .tup ys) (h2 : ∀ u ys, o ≠ .frz u (.tup ys)) : Paired (DnAt K (upd H b o')) ds xs :=
  pd_mono h fun _ _ ⟨q, z1, z2⟩ => ⟨q, z1, tup_any z2 e h1 h2⟩
theorem MAt.same (h : MAt K C I H p A n s) (e : Same H H') : MAt K C I H' p A n s := by
  obtain ⟨ds, d1, d2⟩ := h.dn
  exact ⟨h.sI.trans e, h.nw, h.nd, e _ _ h.ob, e _ _ h.la, e _ _ h.ro, e _ _ h.wy, e _ _ h.te, ds, e _ _ d1, pd_mono d2 fun _ _ ⟨q, z1, z2⟩ => ⟨q, z1, Same.tup e z2⟩⟩
theorem MAt.ne (h : MAt K C I H p A n s) : (p ≠ A.la ∧ p ≠ A.ro ∧ p ≠ A.wy ∧ p ≠ A.te ∧ p ≠ A.dn) ∧ (A.la ≠ A.ro ∧ A.la ≠ A.wy ∧ A.la ≠ A.te ∧ A.la ≠ A.dn) ∧ (A.ro ≠ A.wy ∧ A.ro ≠ A.te ∧ A.ro ≠ A.dn) ∧ (A.wy ≠ A.te ∧ A.wy ≠ A.dn) ∧ A.te ≠ A.dn := by
  have := h.nd
  simp only [List.nodup_cons, List.mem_cons, List.not_mem_nil, or_false, not_or, List.nodup_nil, and_true, not_false_eq_true] at this
  exact this
theorem MAt.setLa (h : MAt K C I H p A n s) (xs : List Int) : MAt K C I (upd H A.la (.lst (xs.map V.int))) p A n { s with lasts := xs } := by
  obtain ⟨⟨a1, a2, a3, a4, a5⟩, ⟨b1, b2, b3, b4⟩, ⟨c1, c2, c3⟩, ⟨d1, d2⟩, e1⟩ := h.ne
  obtain ⟨ds, x1, x2⟩ := h.dn
  exact ⟨Same.upd h.sI (h.nw _ (by simp)), h.nw, h.nd, by rw [upd_ne a1]; exact h.ob, upd_same, by rw [upd_ne b1.symm]; exact h.ro, by rw [upd_ne b2.symm]; exact h.wy, by rw [upd_ne b3.symm]; exact h.te, ds, by rw [upd_ne b4.symm]; exact x1, dn_upd x2 h.la (fun _ z => by cases z) (fun _ _ z => by cases z)⟩
theorem MAt.setRo (h : MAt K C I H p A n s) (xs : List Int) : MAt K C I (upd H A.ro (.lst (xs.map V.int))) p A n { s with rooms := xs } := by
  obtain ⟨⟨a1, a2, a3, a4, a5⟩, ⟨b1, b2, b3, b4⟩, ⟨c1, c2, c3⟩, ⟨d1, d2⟩, e1⟩ := h.ne
  obtain ⟨ds, x1, x2⟩ := h.dn
  exact ⟨Same.upd h.sI (h.nw _ (by simp)), h.nw, h.nd, by rw [upd_ne a2]; exact h.ob, by rw [upd_ne b1]; exact h.la, upd_same, by rw [upd_ne c1.symm]; exact h.wy, by rw [upd_ne c2.symm]; exact h.te, ds, by rw [upd_ne c3.symm]; exact x1, dn_upd x2 h.ro (fun _ z => by cases z) (fun _ _ z => by cases z)⟩
theorem MAt.setWy (h : MAt K C I H p A n s) (xs : List Nat) : MAt K C I (upd H A.wy (.lst (xs.map iv))) p A n { s with way := xs } := by
  obtain ⟨⟨a1, a2, a3, a4, a5⟩, ⟨b1, b2, b3, b4⟩, ⟨c1, c2, c3⟩, ⟨d1, d2⟩, e1⟩ := h.ne
  obtain ⟨ds, x1, x2⟩ := h.dn
  exact ⟨Same.upd h.sI (h.nw _ (by simp)), h.nw, h.nd, by rw [upd_ne a3]; exact h.ob, by rw [upd_ne b2]; exact h.la, by rw [upd_ne c1]; exact h.ro, upd_same, by rw [upd_ne d1.symm]; exact h.te, ds, by rw [upd_ne d2.symm]; exact x1, dn_upd x2 h.wy (fun _ z => by cases z) (fun _ _ z => by cases z)⟩
theorem MAt.setTe (h : MAt K C I H p A n s) (xs : List Int) : MAt K C I (upd H A.te (.lst (xs.map V.int))) p A n { s with told := xs } := by
  obtain ⟨⟨a1, a2, a3, a4, a5⟩, ⟨b1, b2, b3, b4⟩, ⟨c1, c2, c3⟩, ⟨d1, d2⟩, e1⟩ := h.ne
  obtain ⟨ds, x1, x2⟩ := h.dn
  exact ⟨Same.upd h.sI (h.nw _ (by simp)), h.nw, h.nd, by rw [upd_ne a4]; exact h.ob, by rw [upd_ne b3]; exact h.la, by rw [upd_ne c2]; exact h.ro, by rw [upd_ne d1]; exact h.wy, upd_same, ds, by rw [upd_ne e1.symm]; exact x1, dn_upd x2 h.te (fun _ z => by cases z) (fun _ _ z => by cases z)⟩
theorem MAt.setN (h : MAt K C I H p A n s) (k : Nat) : MAt K C I (upd H p (.ins C A.dx (mf A k))) p A k s := by
  obtain ⟨⟨a1, a2, a3, a4, a5⟩, ⟨b1, b2, b3, b4⟩, ⟨c1, c2, c3⟩, ⟨d1, d2⟩, e1⟩ := h.ne
  obtain ⟨ds, x1, x2⟩ := h.dn
  exact ⟨Same.upd h.sI (h.nw _ (by simp)), h.nw, h.nd, upd_same, by rw [upd_ne a1.symm]; exact h.la, by rw [upd_ne a2.symm]; exact h.ro, by rw [upd_ne a3.symm]; exact h.wy, by rw [upd_ne a4.symm]; exact h.te, ds, by rw [upd_ne a5.symm]; exact x1, dn_upd x2 h.ob (fun _ z => by cases z) (fun _ _ z => by cases z)⟩
/-- done.append((k, w)): T the new tuple -/
theorem MAt.app (h : MAt K C I H p A n s) {T : Addr} {ds : List V} {k : Nat} {w : Option Int} (nT : H T = none) (e : H A.dn = some (.lst ds)) : MAt K C I (upd (upd H T (.tup [iv k, wv w])) A.dn (.lst (ds ++ [.ref T]))) p A n { s with done := s.done ++ [(k, w)] } := by
  have h' := h.same (new_same (o := .tup [iv k, wv w]) nT)
  have e' := (new_same (o := .tup [iv k, wv w]) nT) _ _ e
  obtain ⟨⟨a1, a2, a3, a4, a5⟩, ⟨b1, b2, b3, b4⟩, ⟨c1, c2, c3⟩, ⟨d1, d2⟩, e1⟩ := h.ne
  obtain ⟨ds', x1, x2⟩ := h'.dn
  rw [e'] at x1
  cases x1
  have eT : SqT K (upd H T (.tup [iv k, wv w])) T [iv k, wv w] := sqT upd_same
  exact ⟨Same.upd h'.sI (h.nw _ (by simp)), h.nw, h.nd, by rw [upd_ne a5]; exact h'.ob, by rw [upd_ne b4]; exact h'.la, by rw [upd_ne c3]; exact h'.ro, by rw [upd_ne d2]; exact h'.wy, by rw [upd_ne e1]; exact h'.te, _, upd_same, pd_snoc (dn_upd x2 e' (fun _ z => by cases z) (fun _ _ z => by cases z)) ⟨T, rfl, tup_any eT e' (fun _ z => by cases z) (fun _ _ z => by cases z)⟩⟩
/-- what stands still while a machine runs -/
structure EnvOk (K : PySem.W.Frag) (I : Hp) (A : MAd) (pr : List Blk) (tk : List Int) : Prop where
  prog : ProgAt K I A.pv pr
  tks : SqL K I A.tk (tk.map V.int)
  tl : tk.length = 6
  tb : ∀ x ∈ tk, -GT40 ≤ x ∧ x ≤ GT40
  leads : NL K I A.ld ((List.range pr.length).map (spec pr pr.length))
  begins : SqL K I A.bg ((List.range (pr.length + 1)).map fun b => iv (bgn pr b))
  l1 : 1 ≤ pr.length
  l2 : pr.length ≤ 12
  px : PrX pr.length pr
  nx : NxOk pr.length (pr.map fun b => b.2.names)
  rl : ∀ b ∈ pr, b.1.length ≤ 130
/-- the table of rows of two rows -/
structure OfTwo (P : Program) (w : World) (K : PySem.W.Frag) (mg : Str → Option Value) (base : Heap) (k : Nat) (fs : Bk → Addr) (d : Addr) (es : Array DictEntry) (nE : Nat) : Prop where
  kd : KDict K w d es nE
  mgD : mg "OF_TWO_ROWS" = some (.ref d)
  at_ : ∀ b : Bk, PySem.W.nsIn K d b.w = some (some (.ref (fs b)))
  tell : PySem.W.nsIn K d "tell" = some none
  lay : PySem.W.nsIn K d "lay" = some none
  fn : ∀ b, FnR P w K mg base CX0 k (fs b) (spOp b)
  kp : ∀ b, PySem.W.keepIn K (.ref (fs b)) = true
theorem pe_callF {P : Program} {w : World} {X : Cx} {fs : Bk → Addr} {x : Str} {i k : Nat} {e : Expr} {es : List Expr} {t : TA} {q pos : Pos} {E : XK} (F : ∀ b, FnR X.prog X.w X.K X.mg X.base CX0 k (fs b) (spOp b)) (hr : Room k X.A) (hk : ∀ b, PySem.W.keepIn X.K (.ref (fs b)) = true) (hx : Passes CX0 X E) (hN : X.N[i]? = some x) (hv : Vis X.env.scope x) (ha : PA X (e :: es) t)
    (hd : (x == ("__debug__" : Str)) = false := by decide) (hcd : (x == ("__classdict__" : Str)) = false := by decide)
    (he : starEach (e :: es) X.env = (false, eval e X.env) :: starEach es X.env := by rfl) (hpl : (backTo pos (starEach es X.env)).any (·.1) = false := by rfl) : PE X (.Call (.Name x q) (e :: es) [] pos) (fun σ H Q => ∃ b : Bk, ItX.tCallV i (fs b) (spOp b) E t σ H Q) :=
  ⟨fun pins s σ H Q I ⟨b, h⟩ => (ItX.pe_callV (F b) hr (hk b) hx hN hv ha hd hcd he hpl).run pins s σ H Q I h⟩
theorem iteS_ne {a b : Str} {X Y : Prop} (h : ¬ a = b) (q : Y) : if decide (V.str a = V.str b) = true then X else Y := by
  rw [if_neg (fun z => h (V.str.inj (of_decide_eq_true z)))]
  exact q
theorem iteS_eq {a : Str} {X Y : Prop} (q : X) : if decide (V.str a = V.str a) = true then X else Y := by
  rw [if_pos (decide_eq_true rfl)]
  exact q
end Gn
set_option Elab.async false
set_option linter.all false
set_option maxRecDepth 100000
set_option maxHeartbeats 8000000
namespace Gn
open PySem PySem.Spec PyProof.Rows L2
/-! ### worth_of -/
def spWorthOf (K : PySem.W.Frag) (C : Addr) : Sp := fun vs H Q _ => ∃ (I : Hp) (p : Addr) (A : MAd) (n : Nat) (s : MSt) (pr : List Blk) (tk : List Int) (v : V) (r : Rw) (N k : Nat), vs = [.ref p, v] ∧ MAt K C I H p A n s ∧ EnvOk K I A pr tk ∧ StOk s N k ∧ RowAt K H v r ∧ RwB N r ∧ r.isM = false ∧ Q (wv (wOf tk s r)) H
abbrev nWorthOf : List Str := ["self", "row", "word", "reckon"]
theorem scWorthOf : FnScope nWorthOf ["self", "row"] (defScope sWorthOf) := ⟨rfl, rfl, rfl, by decide +kernel, rfl, by decide +kernel, by decide +kernel⟩
theorem bw_ne (b : Bk) : (¬ b.w = "take") ∧ (¬ b.w = "num") ∧ (¬ b.w = "pick") ∧ ¬ b.w = "look" := by
  cases b <;> exact ⟨by decide +kernel, by decide +kernel, by decide +kernel, by decide +kernel⟩
section
variable {P : Program} {w : World} {K : PySem.W.Frag} {mg : Str → Option Value} {base : Heap}
theorem ok_worthOf {f C fP d : Addr} {fd fdP : FuncData} {es : Array DictEntry} {nE k : Nat} {fs : Bk → Addr} (F : Fun K "worth_of" "Machine.worth_of" sWorthOf f fd) (T : MTxt K mg C) (O : OfTwo P w K mg base k fs d es nE)
    (DP : Df K mg "picked" sPicked ["things", "number"] fP fdP) (GP : FnOk P w K mg base CX0 k fP fdP ["things", "number"] (spPicked K)) : FnOk P w K mg base CX0 (k + 1) f fd ["self", "row"] (spWorthOf K C) := by
  refine F.ok scWorthOf (fun vs H Q E h => ?_) (fun cdv A outer s H vs Q E hr h => ?_)
  · obtain ⟨I, p, A, n, s, pr, tk, v, r, N, k, rfl, _⟩ := h
    rfl
  · obtain ⟨I, p, A, n, st, pr, tk, v, r, N, kk, rfl, hM, hE, hS, hR, hB, hm, q⟩ := h
    refine ⟨_, pss_cons (ps_set (i := 2) scWorthOf.nd rfl (.inl rfl) (pe_ix ix_tup (pv 1) pe_int (fun _ _ => rfl)))
      (pss_cons (ps_if (pt_cmpR op_eq (pv 2) pe_str (nomark _)) (pss_one (ps_ret (pe_ix ix_list (pe_fld (pv 0) rfl) (pe_ix ix_tup (pv 1) pe_int (fun _ _ => rfl)) (fun _ _ => rfl)))) pss_nil)
      (pss_cons (ps_if (pt_cmpR op_eq (pv 2) pe_str (nomark _)) (pss_one (ps_ret (pe_ix ix_tup (pv 1) pe_int (fun _ _ => rfl)))) pss_nil)
      (pss_cons (ps_if (pt_cmpR op_eq (pv 2) pe_str (nomark _)) (pss_one (ps_ret (pe_ix ix_list (pe_fld (pv 0) rfl) (pe_call GP hr (by rfl) DP.g DP.F.kp DP.b .nil pass0 (pa_cons (pe_ix ix_tup (pv 1) pe_int (fun _ _ => rfl)) (pa_cons (pe_ix ix_list (pe_fld (pv 0) rfl) (pe_ix ix_tup (pv 1) pe_int (fun _ _ => rfl)) (fun _ _ => rfl)) pa_nil))) (fun _ _ => rfl)))) pss_nil)
      (pss_cons (ps_if (pt_cmpR op_eq (pv 2) pe_str (nomark _)) (pss_one (ps_ret (pe_ix ix_list (pe_fld (pv 0) rfl) (pe_call GP hr (by rfl) DP.g DP.F.kp DP.b .nil pass0 (pa_cons (pe_ix ix_tup (pv 1) pe_int (fun _ _ => rfl)) (pa_cons (pe_ix ix_list (pe_fld (pv 0) rfl) (pe_ix ix_tup (pv 1) pe_int (fun _ _ => rfl)) (fun _ _ => rfl)) pa_nil))) (fun _ _ => rfl)))) pss_nil)
      (pss_cons (ps_if (pt_cmpR (op_in_kd O.kd) (pv 2) (pe_glob (v := .ref d) (by rfl) O.mgD rfl) rfl)
        (pss_cons (ps_set (i := 3) scWorthOf.nd rfl (.inl rfl) (pe_ix ix_kdict (pe_glob (v := .ref d) (by rfl) O.mgD rfl) (pv 2) (fun _ _ => rfl)))
        (pss_one (ps_ret (pe_callF (i := 3) (x := "reckon") (P := P) (w := w) O.fn hr O.kp pass0 rfl (.inl rfl) (pa_cons (pe_ix ix_list (pe_fld (pv 0) rfl) (pe_ix ix_tup (pv 1) pe_int (fun _ _ => rfl)) (fun _ _ => rfl)) (pa_cons (pe_ix ix_list (pe_fld (pv 0) rfl) (pe_ix ix_tup (pv 1) pe_int (fun _ _ => rfl)) (fun _ _ => rfl)) pa_nil)))))) pss_nil)
      (pss_one (ps_ret pe_non))))))), ?_⟩
    obtain ⟨a, xs, rfl, ha, hx⟩ := hR
    refine ⟨.ref a, rfl, a, _, _, _, rfl, rfl, ha, atI_nat (j := 0) rfl, ?_⟩
    have lsAt : ∀ x, x < N → (st.lasts.map V.int)[x]? = some (.int (LI st.lasts x)) := fun x hx => LI_at (by rw [hS.ll]; exact hx)
    cases r with
    | take i =>
      have hxs : xs = [iv i] := hx
      subst hxs
      have hi : i < tk.length := by rw [hE.tl]; exact Nat.lt_succ_of_le hB
      refine ⟨_, rfl, rfl, _, rfl, iteS_eq ?_⟩
      exact ⟨.ref p, rfl, p, C, A.dx, _, _, rfl, hM.ob, T.cl, T.takes, mf_takes _ _, .ref a, rfl, a, _, _, _, rfl, rfl, ha, atI_nat (j := 1) rfl, A.tk, _, _, _, rfl, rfl, hM.sI.seq hE.tks, atI_nat (LI_at hi), q⟩
    | num z =>
      have hxs : xs = [.int z] := hx
      subst hxs
      refine ⟨_, rfl, rfl, _, rfl, iteS_ne (show ¬ (("num" : Str) = "take") by decide +kernel) ?_⟩
      refine ⟨_, rfl, rfl, _, rfl, iteS_eq ?_⟩
      exact ⟨.ref a, rfl, a, _, _, _, rfl, rfl, ha, atI_nat (j := 1) rfl, q⟩
    | pick x ps =>
      obtain ⟨qa, rfl, hqa⟩ := hx
      obtain ⟨hxN, hps, hpl, hpn⟩ := hB
      have hpk := pk_lt (n := LI st.lasts x) hpn hps
      refine ⟨_, rfl, rfl, _, rfl, iteS_ne (show ¬ (("pick" : Str) = "take") by decide +kernel) ?_⟩
      refine ⟨_, rfl, rfl, _, rfl, iteS_ne (show ¬ (("pick" : Str) = "num") by decide +kernel) ?_⟩
      refine ⟨_, rfl, rfl, _, rfl, iteS_eq ?_⟩
      refine ⟨.ref p, rfl, p, C, A.dx, _, _, rfl, hM.ob, T.cl, T.lasts, mf_lasts _ _, .ref a, rfl, a, _, _, _, rfl, rfl, ha, atI_nat (j := 2) rfl, ?_⟩
      refine ⟨.ref p, rfl, p, C, A.dx, _, _, rfl, hM.ob, T.cl, T.lasts, mf_lasts _ _, .ref a, rfl, a, _, _, _, rfl, rfl, ha, atI_nat (j := 1) rfl, A.la, _, _, _, rfl, rfl, sqL hM.la, atI_nat (lsAt x hxN), ?_⟩
      exact ⟨qa, ps, _, rfl, hqa, hpn, by omega, A.la, _, _, _, rfl, rfl, sqL hM.la, atI_nat (lsAt _ hpk.1), q⟩
    | look rs x =>
      obtain ⟨qa, rfl, hqa⟩ := hx
      obtain ⟨hxN, hr1, hr2, hr3⟩ := hB
      have hpk := pk_lt (n := LI st.lasts x) hr2 hr3
      refine ⟨_, rfl, rfl, _, rfl, iteS_ne (show ¬ (("look" : Str) = "take") by decide +kernel) ?_⟩
      refine ⟨_, rfl, rfl, _, rfl, iteS_ne (show ¬ (("look" : Str) = "num") by decide +kernel) ?_⟩
      refine ⟨_, rfl, rfl, _, rfl, iteS_ne (show ¬ (("look" : Str) = "pick") by decide +kernel) ?_⟩
      refine ⟨_, rfl, rfl, _, rfl, iteS_eq ?_⟩
      refine ⟨.ref p, rfl, p, C, A.dx, _, _, rfl, hM.ob, T.cl, T.rooms, mf_rooms _ _, .ref a, rfl, a, _, _, _, rfl, rfl, ha, atI_nat (j := 1) rfl, ?_⟩
      refine ⟨.ref p, rfl, p, C, A.dx, _, _, rfl, hM.ob, T.cl, T.lasts, mf_lasts _ _, .ref a, rfl, a, _, _, _, rfl, rfl, ha, atI_nat (j := 2) rfl, A.la, _, _, _, rfl, rfl, sqL hM.la, atI_nat (lsAt x hxN), ?_⟩
      exact ⟨qa, rs, _, rfl, hqa, hr2, by omega, A.ro, _, _, _, rfl, rfl, sqL hM.ro, atI_nat (LI_at (by rw [hS.lr]; exact hpk.1)), q⟩
    | bin b x y =>
      have hxs : xs = [iv x, iv y] := hx
      subst hxs
      obtain ⟨n1, n2, n3, n4⟩ := bw_ne b
      refine ⟨_, rfl, rfl, _, rfl, iteS_ne n1 ?_⟩
      refine ⟨_, rfl, rfl, _, rfl, iteS_ne n2 ?_⟩
      refine ⟨_, rfl, rfl, _, rfl, iteS_ne n3 ?_⟩
      refine ⟨_, rfl, rfl, _, rfl, iteS_ne n4 ?_⟩
      refine ⟨_, rfl, b.w, _, rfl, rfl, O.at_ b, _, rfl, ?_⟩
      refine ⟨_, rfl, d, b.w, .ref (fs b), rfl, rfl, ⟨es, nE, _, O.kd.at_, O.kd.lit, O.at_ b, rfl⟩, ?_⟩
      refine ⟨b, rfl, ?_⟩
      refine ⟨.ref p, rfl, p, C, A.dx, _, _, rfl, hM.ob, T.cl, T.lasts, mf_lasts _ _, .ref a, rfl, a, _, _, _, rfl, rfl, ha, atI_nat (j := 1) rfl, A.la, _, _, _, rfl, rfl, sqL hM.la, atI_nat (lsAt x hB.1), ?_⟩
      refine ⟨.ref p, rfl, p, C, A.dx, _, _, rfl, hM.ob, T.cl, T.lasts, mf_lasts _ _, .ref a, rfl, a, _, _, _, rfl, rfl, ha, atI_nat (j := 2) rfl, A.la, _, _, _, rfl, rfl, sqL hM.la, atI_nat (lsAt y hB.2), ?_⟩
      exact ⟨_, _, rfl, LI_bd hS.bd.1, LI_bd hS.bd.1, q⟩
    | meet ps => cases hm
    | tell x =>
      refine ⟨_, rfl, rfl, _, rfl, iteS_ne (show ¬ (("tell" : Str) = "take") by decide +kernel) ?_⟩
      refine ⟨_, rfl, rfl, _, rfl, iteS_ne (show ¬ (("tell" : Str) = "num") by decide +kernel) ?_⟩
      refine ⟨_, rfl, rfl, _, rfl, iteS_ne (show ¬ (("tell" : Str) = "pick") by decide +kernel) ?_⟩
      refine ⟨_, rfl, rfl, _, rfl, iteS_ne (show ¬ (("tell" : Str) = "look") by decide +kernel) ?_⟩
      exact ⟨_, rfl, "tell", none, rfl, rfl, O.tell, _, rfl, q⟩
    | lay rs x y =>
      refine ⟨_, rfl, rfl, _, rfl, iteS_ne (show ¬ (("lay" : Str) = "take") by decide +kernel) ?_⟩
      refine ⟨_, rfl, rfl, _, rfl, iteS_ne (show ¬ (("lay" : Str) = "num") by decide +kernel) ?_⟩
      refine ⟨_, rfl, rfl, _, rfl, iteS_ne (show ¬ (("lay" : Str) = "pick") by decide +kernel) ?_⟩
      refine ⟨_, rfl, rfl, _, rfl, iteS_ne (show ¬ (("lay" : Str) = "look") by decide +kernel) ?_⟩
      exact ⟨_, rfl, "lay", none, rfl, rfl, O.lay, _, rfl, q⟩
end
end Gn
set_option Elab.async false
set_option linter.all false
set_option maxRecDepth 100000
set_option maxHeartbeats 8000000
namespace Gn
open PySem PySem.Spec PyProof.Rows L2
/-! ### do_row -/
def wOk (w : Option Int) : Rw → Prop
  | .lay _ _ _ => True
  | .tell _ => True
  | _ => ∃ i, w = some i
def doA (k : Nat) (r : Rw) (w : Option Int) (s : MSt) : MSt :=
  match r with
  | .lay rs x y => { s with rooms := s.rooms.set (pk rs (LI s.lasts x)) (LI s.lasts y) }
  | .tell x => { s with told := s.told ++ [LI s.lasts x] }
  | _ => { s with lasts := s.lasts.set k (w.getD 0) }
theorem doR_eq (k : Nat) (r : Rw) (w : Option Int) (s : MSt) : doR k r w s = { doA k r w s with done := (doA k r w s).done ++ [(k, w)] } := by cases r <;> rfl
theorem doA_done (k : Nat) (r : Rw) (w : Option Int) (s : MSt) : (doA k r w s).done = s.done := by cases r <;> rfl
def spDoRow (K : PySem.W.Frag) (C : Addr) : Sp := fun vs H Q _ => ∃ (I : Hp) (p : Addr) (A : MAd) (n : Nat) (s : MSt) (k : Nat) (v : V) (r : Rw) (w : Option Int) (N kk : Nat), vs = [.ref p, iv k, v, wv w] ∧ MAt K C I H p A n s ∧ StOk s N kk ∧ kk ≤ 100000 ∧ RowAt K H v r ∧ RwB N r ∧ k < N ∧ wOk w r ∧
  ∀ H', MAt K C I H' p A n (doR k r w s) → Q .non H'
abbrev nDoRow : List Str := ["self", "number", "row", "worth"]
theorem scDoRow : FnScope nDoRow ["self", "number", "row", "worth"] (defScope sDoRow) := ⟨rfl, rfl, rfl, by decide +kernel, rfl, by decide +kernel, by decide +kernel⟩
def spBehind (K : PySem.W.Frag) (C : Addr) : Sp := fun vs H Q _ => ∃ (I : Hp) (p : Addr) (A : MAd) (n : Nat) (s : MSt) (v : V) (e : En) (c m N kk : Nat), vs = [.ref p, v] ∧ MAt K C I H p A n s ∧ StOk s N kk ∧ EnAt K H v e ∧ EnOk m N e ∧ nextB s e = some c ∧ Q (iv c) H
abbrev nBehind : List Str := ["self", "end"]
theorem scBehind : FnScope nBehind ["self", "end"] (defScope sBehind) := ⟨rfl, rfl, rfl, by decide +kernel, rfl, by decide +kernel, by decide +kernel⟩
theorem bw_ne2 (b : Bk) : (¬ b.w = "lay") ∧ ¬ b.w = "tell" := by
  cases b <;> exact ⟨by decide +kernel, by decide +kernel⟩
theorem lay_is {r : Rw} (h : r.w = "lay") : ∃ rs x y, r = .lay rs x y := by
  cases r with
  | lay rs x y => exact ⟨rs, x, y, rfl⟩
  | bin b x y => exact absurd h (bw_ne2 b).1
  | take _ => exact absurd h (show ¬ (("take" : Str) = "lay") by decide +kernel)
  | num _ => exact absurd h (show ¬ (("num" : Str) = "lay") by decide +kernel)
  | pick _ _ => exact absurd h (show ¬ (("pick" : Str) = "lay") by decide +kernel)
  | meet _ => exact absurd h (show ¬ (("meet" : Str) = "lay") by decide +kernel)
  | tell _ => exact absurd h (show ¬ (("tell" : Str) = "lay") by decide +kernel)
  | look _ _ => exact absurd h (show ¬ (("look" : Str) = "lay") by decide +kernel)
theorem tell_is {r : Rw} (h : r.w = "tell") : ∃ x, r = .tell x := by
  cases r with
  | tell x => exact ⟨x, rfl⟩
  | bin b x y => exact absurd h (bw_ne2 b).2
  | take _ => exact absurd h (show ¬ (("take" : Str) = "tell") by decide +kernel)
  | num _ => exact absurd h (show ¬ (("num" : Str) = "tell") by decide +kernel)
  | pick _ _ => exact absurd h (show ¬ (("pick" : Str) = "tell") by decide +kernel)
  | meet _ => exact absurd h (show ¬ (("meet" : Str) = "tell") by decide +kernel)
  | lay _ _ _ => exact absurd h (show ¬ (("lay" : Str) = "tell") by decide +kernel)
  | look _ _ => exact absurd h (show ¬ (("look" : Str) = "tell") by decide +kernel)
theorem doA_oth {k : Nat} {r : Rw} {w : Option Int} {s : MSt} (h1 : ¬ r.w = "lay") (h2 : ¬ r.w = "tell") (hw : wOk w r) : (∃ i, w = some i) ∧ doA k r w s = { s with lasts := s.lasts.set k (w.getD 0) } := by
  cases r with
  | lay _ _ _ => exact absurd rfl h1
  | tell _ => exact absurd rfl h2
  | take _ => exact ⟨hw, rfl⟩
  | num _ => exact ⟨hw, rfl⟩
  | bin _ _ _ => exact ⟨hw, rfl⟩
  | pick _ _ => exact ⟨hw, rfl⟩
  | meet _ => exact ⟨hw, rfl⟩
  | look _ _ => exact ⟨hw, rfl⟩
theorem set_int {xs : List Int} {k : Nat} {v : Int} : (xs.map V.int).set k (.int v) = (xs.set k v).map V.int := by rw [List.map_set]
section
variable {P : Program} {w : World} {K : PySem.W.Frag} {mg : Str → Option Value} {base : Heap}
theorem ok_doRow {f C fP : Addr} {fd fdP : FuncData} {k : Nat} (F : Fun K "do_row" "Machine.do_row" sDoRow f fd) (T : MTxt K mg C)
    (DP : Df K mg "picked" sPicked ["things", "number"] fP fdP) (GP : FnOk P w K mg base CX0 k fP fdP ["things", "number"] (spPicked K)) : FnOk P w K mg base CX0 (k + 1) f fd ["self", "number", "row", "worth"] (spDoRow K C) := by
  refine F.ok scDoRow (fun vs H Q E h => ?_) (fun cdv A outer s H vs Q E hr h => ?_)
  · obtain ⟨I, p, A, n, s, k, v, r, w, N, kk, rfl, _⟩ := h
    rfl
  · obtain ⟨I, p, A, n, st, kr, v, r, wo, N, kk, rfl, hM, hS, hk, hR, hB, hkN, hw, q⟩ := h
    refine ⟨_, Evl.pss_cut (ps_if (pt_cmpR op_eq (pe_ix ix_tup (pv 2) pe_int (fun _ _ => rfl)) pe_str (nomark _))
        (pss_one (ps_asg (pe_ix ix_list (pe_fld (pv 0) rfl) (pe_ix ix_tup (pv 2) pe_int (fun _ _ => rfl)) (fun _ _ => rfl)) (pg_sub (pe_fld (pv 0) rfl) (pe_call GP hr (by rfl) DP.g DP.F.kp DP.b .nil pass0 (pa_cons (pe_ix ix_tup (pv 2) pe_int (fun _ _ => rfl)) (pa_cons (pe_ix ix_list (pe_fld (pv 0) rfl) (pe_ix ix_tup (pv 2) pe_int (fun _ _ => rfl)) (fun _ _ => rfl)) pa_nil))) set_list)))
        (pss_one (ps_if (pt_cmpR op_eq (pe_ix ix_tup (pv 2) pe_int (fun _ _ => rfl)) pe_str (nomark _))
          (pss_one (ps_expr (pe_bm PySem.F.plainAttrs_list PySem.F.slot_list_append PySem.F.type_list_append mt_append (pe_fld (pv 0) rfl) (pa_cons (pe_ix ix_list (pe_fld (pv 0) rfl) (pe_ix ix_tup (pv 2) pe_int (fun _ _ => rfl)) (fun _ _ => rfl)) pa_nil))))
          (pss_one (ps_asg (pv 3) (pg_sub (pe_fld (pv 0) rfl) (pv 1) set_list))))))
      (pss_one (ps_expr (pe_bm PySem.F.plainAttrs_list PySem.F.slot_list_append PySem.F.type_list_append mt_append (pe_fld (pv 0) rfl) (pa_cons (pe_tup (pa_cons (pv 1) (pa_cons (pv 3) pa_nil))) pa_nil)))), ?_⟩
    have lsAt : ∀ x, x < N → (st.lasts.map V.int)[x]? = some (.int (LI st.lasts x)) := fun x hx => LI_at (by rw [hS.ll]; exact hx)
    refine ⟨fun σ H1 => σ = [some (.ref p), some (iv kr), some v, some (wv wo)] ∧ MAt K C I H1 p A n (doA kr r wo st), ?_, fun σ H1 hC => ?_⟩
    · obtain ⟨a, xs, rfl, ha, hx⟩ := hR
      refine ⟨.ref a, rfl, a, _, _, _, rfl, rfl, ha, atI_nat (j := 0) rfl, rfl, _, rfl, ite2 (fun e => ?_) (fun e => ?_)⟩
      · obtain ⟨rs, x, y, rfl⟩ := lay_is (V.str.inj (of_decide_eq_true e))
        obtain ⟨qa, rfl, hqa⟩ := hx
        obtain ⟨hxN, hyN, hr1, hr2, hr3⟩ := hB
        have hpk := pk_lt (n := LI st.lasts x) hr2 hr3
        refine ⟨.ref p, rfl, p, C, A.dx, _, _, rfl, hM.ob, T.cl, T.lasts, mf_lasts _ _, .ref a, rfl, a, _, _, _, rfl, rfl, ha, atI_nat (j := 3) rfl, A.la, _, _, _, rfl, rfl, sqL hM.la, atI_nat (lsAt y hyN), ?_⟩
        refine ⟨.ref p, rfl, p, C, A.dx, _, _, rfl, hM.ob, T.cl, T.rooms, mf_rooms _ _, .ref a, rfl, a, _, _, _, rfl, rfl, ha, atI_nat (j := 1) rfl, ?_⟩
        refine ⟨.ref p, rfl, p, C, A.dx, _, _, rfl, hM.ob, T.cl, T.lasts, mf_lasts _ _, .ref a, rfl, a, _, _, _, rfl, rfl, ha, atI_nat (j := 2) rfl, A.la, _, _, _, rfl, rfl, sqL hM.la, atI_nat (lsAt x hxN), ?_⟩
        refine ⟨qa, rs, _, rfl, hqa, hr2, by omega, A.ro, _, _, pk rs (LI st.lasts x), rfl, rfl, hM.ro, ixN_nat (by rw [List.length_map, hS.lr]; exact hpk.1), rfl, ?_⟩
        rw [set_int]
        exact hM.setRo _
      · have e1 : ¬ r.w = "lay" := fun z => e (decide_eq_true (by rw [z]))
        refine ⟨.ref a, rfl, a, _, _, _, rfl, rfl, ha, atI_nat (j := 0) rfl, rfl, _, rfl, ite2 (fun e2 => ?_) (fun e2 => ?_)⟩
        · obtain ⟨x, rfl⟩ := tell_is (V.str.inj (of_decide_eq_true e2))
          have hxs : xs = [iv x] := hx
          subst hxs
          have hlt := hS.lt
          refine ⟨.ref p, rfl, p, C, A.dx, _, _, rfl, hM.ob, T.cl, T.told, mf_told _ _, .inl ⟨rfl, _, sqL hM.te⟩, ?_⟩
          refine ⟨.ref p, rfl, p, C, A.dx, _, _, rfl, hM.ob, T.cl, T.lasts, mf_lasts _ _, .ref a, rfl, a, _, _, _, rfl, rfl, ha, atI_nat (j := 1) rfl, A.la, _, _, _, rfl, rfl, sqL hM.la, atI_nat (lsAt x hB), ?_⟩
          refine ⟨A.te, _, _, rfl, rfl, hM.te, by rw [List.length_map]; exact szt (by omega), rfl, ?_⟩
          have et : st.told.map V.int ++ [.int (LI st.lasts x)] = (st.told ++ [LI st.lasts x]).map V.int := by rw [List.map_append]; rfl
          rw [et]
          exact hM.setTe _
        · have e3 : ¬ r.w = "tell" := fun z => e2 (decide_eq_true (by rw [z]))
          obtain ⟨⟨i, rfl⟩, h4⟩ := doA_oth (k := kr) (s := st) e1 e3 hw
          refine ⟨_, rfl, .ref p, rfl, p, C, A.dx, _, _, rfl, hM.ob, T.cl, T.lasts, mf_lasts _ _, _, rfl, A.la, _, _, kr, rfl, rfl, hM.la, ixN_nat (by rw [List.length_map, hS.ll]; exact hkN), rfl, ?_⟩
          rw [h4]
          show MAt K C I (upd H A.la (.lst ((st.lasts.map V.int).set kr (.int i)))) p A n _
          rw [set_int]
          exact hM.setLa _
    · obtain ⟨rfl, hM1⟩ := hC
      obtain ⟨ds, d1, d2⟩ := hM1.dn
      have hdl := pd_len d2
      rw [doA_done] at hdl
      have hld := hS.ld
      refine ⟨.ref p, rfl, p, C, A.dx, _, _, rfl, hM1.ob, T.cl, T.done, mf_done _ _, .inl ⟨rfl, _, sqL d1⟩, _, rfl, _, rfl, szl (show 2 ≤ 1000000 by decide), fun U nU => ?_⟩
      refine ⟨A.dn, ds, _, rfl, rfl, (new_same nU) _ _ d1, szt (by omega), ?_⟩
      have := hM1.app (k := kr) (w := wo) nU d1
      rw [← doR_eq] at this
      exact q _ this
theorem ok_behind {f C : Addr} {fd : FuncData} {k : Nat} (F : Fun K "block_behind" "Machine.block_behind" sBehind f fd) (T : MTxt K mg C) : FnOk P w K mg base CX0 (k + 1) f fd ["self", "end"] (spBehind K C) := by
  refine F.ok scBehind (fun vs H Q E h => ?_) (fun cdv A outer s H vs Q E hr h => ?_)
  · obtain ⟨I, p, A, n, s, v, e, c, m, N, kk, rfl, _⟩ := h
    rfl
  · obtain ⟨I, p, A, n, st, v, e, c, m, N, kk, rfl, hM, hS, hA, hO, hn, q⟩ := h
    refine ⟨_, pss_cons (ps_if (pt_cmpR op_eq (pe_ix ix_tup (pv 1) pe_int (fun _ _ => rfl)) pe_str (nomark _)) (pss_one (ps_ret (pe_ix ix_tup (pv 1) pe_int (fun _ _ => rfl)))) pss_nil)
      (pss_one (ps_ret (pe_ifExp (pt_cmpR op_ne (pe_ix ix_list (pe_fld (pv 0) rfl) (pe_ix ix_tup (pv 1) pe_int (fun _ _ => rfl)) (fun _ _ => rfl)) pe_int (nomark _)) (pe_ix ix_tup (pv 1) pe_int (fun _ _ => rfl)) (pe_ix ix_tup (pv 1) pe_int (fun _ _ => rfl))))), ?_⟩
    cases e with
    | go b =>
      obtain ⟨a, rfl, ha⟩ := hA
      have hc : b = c := Option.some.inj hn
      subst hc
      refine ⟨.ref a, rfl, a, _, _, _, rfl, rfl, ha, atI_nat (j := 0) rfl, rfl, _, rfl, iteS_eq ?_⟩
      exact ⟨.ref a, rfl, a, _, _, _, rfl, rfl, ha, atI_nat (j := 1) rfl, q⟩
    | iff r b d =>
      obtain ⟨a, rfl, ha⟩ := hA
      have hc : (if LI st.lasts r ≠ 0 then b else d) = c := Option.some.inj hn
      refine ⟨.ref a, rfl, a, _, _, _, rfl, rfl, ha, atI_nat (j := 0) rfl, rfl, _, rfl, iteS_ne (show ¬ (("if" : Str) = "go") by decide +kernel) ?_⟩
      refine ⟨.ref p, rfl, p, C, A.dx, _, _, rfl, hM.ob, T.cl, T.lasts, mf_lasts _ _, .ref a, rfl, a, _, _, _, rfl, rfl, ha, atI_nat (j := 1) rfl, A.la, _, _, _, rfl, rfl, sqL hM.la, atI_nat (LI_at (by rw [hS.ll]; exact hO.1)), rfl, _, rfl, ite2 (fun e => ?_) (fun e => ?_)⟩
      · have e1 : LI st.lasts r ≠ 0 := fun z => by rw [z] at e; cases e
        rw [if_pos e1] at hc
        subst hc
        exact ⟨.ref a, rfl, a, _, _, _, rfl, rfl, ha, atI_nat (j := 2) rfl, q⟩
      · have e1 : ¬ LI st.lasts r ≠ 0 := fun z => e (by rw [Bool.not_eq_true', decide_eq_false_iff_not]; exact fun y => z (V.int.inj y))
        rw [if_neg e1] at hc
        subst hc
        exact ⟨.ref a, rfl, a, _, _, _, rfl, rfl, ha, atI_nat (j := 3) rfl, q⟩
    | fin => cases hn
end
end Gn
set_option Elab.async false
set_option linter.all false
set_option maxRecDepth 100000
set_option maxHeartbeats 8000000
namespace Gn
open PySem PySem.Spec PyProof.Rows L2
/-! ### brought_by -/
theorem flat_filt {p : Nat → Bool} {c : Nat → Nat} (h : ∀ j, c j = if p j = true then 1 else 0) : ∀ l : List Nat, (l.flatMap fun j => List.replicate (c j) j) = l.filter p
  | [] => rfl
  | a :: l => by
    rw [List.flatMap_cons, flat_filt h l, h a, List.filter_cons]
    by_cases e : p a = true
    · rw [if_pos e, if_pos e]; rfl
    · rw [if_neg e, if_neg e]; rfl
theorem spec_ld {pr : List Blk} (h : ∀ xs ∈ pr.map (fun b => b.2.names), xs.Nodup) {b : Nat} {ld : List Nat} (e : (leadsL (pr.map fun b => b.2.names))[b]? = some ld) : ld = spec pr pr.length b := by
  unfold leadsL at e
  rw [List.getElem?_map] at e
  obtain ⟨b', hb, rfl⟩ := Option.map_eq_some_iff.mp e
  have hb0 : b' = b := by
    have h1 := (List.getElem?_eq_some_iff.mp hb).2
    rw [List.getElem_range] at h1
    exact h1.symm
  subst hb0
  unfold spec
  rw [List.length_map]
  refine (flat_filt (fun j => ?_) _).symm
  have hn : (pr.map fun b => b.2.names).getD j [] = (pr.getD j ([], .fin)).2.names := by
    rw [List.getD_eq_getElem?_getD, List.getD_eq_getElem?_getD, List.getElem?_map]
    cases pr[j]? <;> rfl
  rw [hn]
  have hd : ((pr.getD j ([], .fin)).2.names).Nodup := by
    by_cases hj : j < pr.length
    · refine h _ (List.mem_map.mpr ⟨pr.getD j ([], .fin), ?_, rfl⟩)
      rw [List.getD_eq_getElem?_getD, List.getElem?_eq_getElem hj]
      exact List.getElem_mem hj
    · rw [List.getD_eq_getElem?_getD, List.getElem?_eq_none (by omega)]
      exact List.nodup_nil
  rw [hd.count]
  by_cases hm : b' ∈ (pr.getD j ([], .fin)).2.names
  · rw [if_pos hm, if_pos (decide_eq_true hm)]
  · rw [if_neg hm, if_neg (by rw [decide_eq_false hm]; decide)]
theorem spec_mem {pr : List Blk} {i n a : Nat} : a ∈ spec pr i n ↔ a < i ∧ n ∈ (pr.getD a ([], .fin)).2.names := by
  unfold spec
  rw [List.mem_flatMap]
  constructor
  · rintro ⟨j, hj, ha⟩
    obtain ⟨h1, rfl⟩ := List.mem_replicate.mp ha
    exact ⟨List.mem_range.mp hj, List.count_pos_iff.mp (Nat.pos_of_ne_zero h1)⟩
  · rintro ⟨h1, h2⟩
    exact ⟨a, List.mem_range.mpr h1, List.mem_replicate.mpr ⟨Nat.ne_of_gt (List.count_pos_iff.mpr h2), rfl⟩⟩
/-- a block of a program in memory -/
theorem ProgAt.blk {K : PySem.W.Frag} {H : Hp} {v : V} {pr : List Blk} (h : ProgAt K H v pr) {b : Nat} (hb : b < pr.length) :
    ∃ (pp : Addr) (bs : List V) (pb ra : Addr) (ea : V) (vs : List V), v = .ref pp ∧ SqL K H pp bs ∧ bs[b]? = some (.ref pb) ∧ SqT K H pb [.ref ra, ea] ∧ H ra = some (.lst vs) ∧ Paired (RowAt K H) vs (rowsB pr b) ∧ EnAt K H ea (endB pr b) := by
  obtain ⟨pp, bs, rfl, h1, h2⟩ := h
  have e : pr[b]? = some (pr.getD b ([], .fin)) := by rw [List.getD_eq_getElem?_getD, List.getElem?_eq_getElem hb]; rfl
  obtain ⟨x, hx, pb, ra, ea, vs, rfl, a1, a2, a3, a4⟩ := pd_at h2 e
  exact ⟨pp, bs, pb, ra, ea, vs, rfl, h1, hx, a1, a2, a3, a4⟩
theorem blkAt {pr : List Blk} {b : Nat} (hb : b < pr.length) : pr[b]? = some (rowsB pr b, endB pr b) := by
  unfold rowsB endB
  rw [List.getD_eq_getElem?_getD, List.getElem?_eq_getElem hb]
  rfl
theorem blkMem {pr : List Blk} {b : Nat} (hb : b < pr.length) : (rowsB pr b, endB pr b) ∈ pr := List.mem_of_getElem? (blkAt hb)
def spBrt (K : PySem.W.Frag) (C : Addr) : Sp := fun vs H Q _ => ∃ (I : Hp) (p : Addr) (A : MAd) (n : Nat) (s : MSt) (pr : List Blk) (tk : List Int) (lead blk kk : Nat), vs = [.ref p, iv lead, iv blk] ∧ MAt K C I H p A n s ∧ EnvOk K I A pr tk ∧ StOk s (rowsL pr).length kk ∧ lead < pr.length ∧ blk < pr.length ∧ blk ∈ (endB pr lead).names ∧
  ∀ (bp : Addr) (H' : Hp), H bp = none → Same H H' → H' bp = some (.lst ((brt pr lead blk s).map V.int)) → Q (.ref bp) H'
abbrev nBrt : List Str := ["self", "lead", "block", "at", "row"]
theorem scBrt : FnScope nBrt ["self", "lead", "block"] (defScope sBrought) := ⟨rfl, rfl, rfl, by decide +kernel, rfl, by decide +kernel, by decide +kernel⟩
section
variable {P : Program} {w : World} {K : PySem.W.Frag} {mg : Str → Option Value} {base : Heap}
theorem ok_brt {f C fM : Addr} {fd fdM : FuncData} {k : Nat} (F : Fun K "brought_by" "Machine.brought_by" sBrought f fd) (T : MTxt K mg C)
    (DM : Df K mg "is_meet" sIsMeet ["row"] fM fdM) (GM : FnOk P w K mg base CX0 k fM fdM ["row"] (spIsMeet K)) : FnOk P w K mg base CX0 (k + 1) f fd ["self", "lead", "block"] (spBrt K C) := by
  refine F.ok scBrt (fun vs H Q E h => ?_) (fun cdv A outer s H vs Q E hr h => ?_)
  · obtain ⟨I, p, A, n, s, pr, tk, lead, blk, kk, rfl, _⟩ := h
    rfl
  · obtain ⟨I, p, A, n, st, pr, tk, lead, blk, kk, rfl, hM, hE, hS, hl, hb, hnm, q⟩ := h
    refine ⟨_, pss_cons (ps_set (i := 3) scBrt.nd rfl (.inr rfl) (pe_bm PySem.F.plainAttrs_list PySem.F.slot_list_index PySem.F.type_list_index mt_index (pe_ix ix_list (pe_fld (pv 0) rfl) (pv 2) (fun _ _ => rfl)) (pa_cons (pv 1) pa_nil)))
      (pss_one (ps_ret (pe_lc (own := [("row", 4)]) (g := gName 4) (tt := tTest (tCall (spIsMeet K) [] E0 (tCons (tVar 4) tNil))) (te := tIxL K (tFld K (tVar 0) "lasts") (tIxT K (tIxT K (tVar 4) (tC (.int 1))) (tVar 3))) rfl scBrt.nd (pi_list (pe_ix ix_tup (pe_ix ix_list (pe_fld (pv 0) rfl) (pv 2) (fun _ _ => rfl)) pe_int (fun _ _ => rfl)))
        (blkOk_by (own := [("row", 4)]) (N := nBrt) (sc := defScope sBrought) (by decide +kernel)) (fun _ _ _ _ _ => pg_name (i := 4) scBrt.nd rfl (.inl rfl))
        (fun _ _ _ _ _ => pts_one (pt_val (pe_call GM hr (by rfl) DM.g DM.F.kp DM.b .nil pass0 (pa_cons (pv 4) pa_nil))))
        (fun _ _ _ _ _ => pe_ix ix_list (pe_fld (pv 0) rfl) (pe_ix ix_tup (pe_ix ix_tup (pv 4) pe_int (fun _ _ => rfl)) (pv 3) (fun _ _ => rfl)) (fun _ _ => rfl))))), ?_⟩
    have hld : ((List.range pr.length).map (spec pr pr.length))[blk]? = some (spec pr pr.length blk) := by rw [List.getElem?_map, List.getElem?_range hb]; rfl
    obtain ⟨us, qa, u1, u2, u3, u4⟩ := (hE.leads.same hM.sI).at hld
    have hmem : lead ∈ spec pr pr.length blk := spec_mem.mpr ⟨hl, hnm⟩
    have hjl : (spec pr pr.length blk).idxOf lead < (spec pr pr.length blk).length := List.idxOf_lt_length_iff.mpr hmem
    have hjat : (spec pr pr.length blk)[(spec pr pr.length blk).idxOf lead]? = some lead := by rw [List.getElem?_eq_getElem hjl, List.getElem_idxOf]
    refine ⟨.ref p, rfl, p, C, A.dx, _, _, rfl, hM.ob, T.cl, T.leads, mf_leads _ _, _, rfl, A.ld, us, _, .ref qa, rfl, rfl, u1, u3, .inl ⟨rfl, _, u4⟩, _, rfl, qa, _, iv lead, (spec pr pr.length blk).idxOf lead, iv lead, rfl, rfl, u4, rfl, flat_iv _, by rw [List.getElem?_map, hjat]; rfl, (beq_self_eq_true (lead : Int) : ((lead : Int) == (lead : Int)) = true), fun m' z' hm' hz' => ?_, ?_⟩
    · rw [List.getElem?_map] at hz'
      obtain ⟨y, hy, rfl⟩ := Option.map_eq_some_iff.mp hz'
      have hyl := (List.getElem?_eq_some_iff.mp hy).1
      have hne : y ≠ lead := fun z => by
        have h1 := List.not_of_lt_findIdx (show m' < (spec pr pr.length blk).findIdx (· == lead) from hm')
        have h2 := (List.getElem?_eq_some_iff.mp hy).2
        rw [h2, z] at h1
        simp at h1
      show ((y : Int) == (lead : Int)) = false
      rw [beq_eq_false_iff_ne]
      omega
    generalize hat : (spec pr pr.length blk).idxOf lead = at_ at hjl
    obtain ⟨pp, bs, pb, ra, ea, vs, hpv, h1, h2, h3, h4, h5, h6⟩ := hE.prog.blk hb
    refine ⟨.ref p, rfl, p, C, A.dx, _, _, rfl, hM.ob, T.cl, T.program, mf_program _ _, _, rfl, pp, bs, _, .ref pb, hpv, rfl, hM.sI.seq h1, atI_nat h2, pb, _, _, .ref ra, rfl, rfl, Same.tup hM.sI h3, atI_nat (j := 0) rfl, ra, rfl, ⟨_, sqL (hM.sI _ _ h4)⟩, fun L nL => ?_⟩
    have hvl : vs.length = (rowsB pr blk).length := pd_len h5
    have hr130 : (rowsB pr blk).length ≤ 130 := hE.rl _ (blkMem hb)
    refine lc_list (K := K) (a := ra) (xs := vs) (fun i H1 => Same H H1 ∧ ∃ es : List Int, H1 L = some (.lst (es.map V.int)) ∧ es = ((rowsB pr blk).take i).filterMap (mVal st at_) ∧ es.length ≤ i) ⟨new_same nL, [], upd_same, rfl, Nat.le_refl _⟩ (fun i H1 _ hP => sqL (hP.1 _ _ (hM.sI _ _ h4))) (fun i x H1 hx hP => ?_) (fun H1 hP => ?_)
    · obtain ⟨s1, es, eL, hes, hel⟩ := hP
      obtain ⟨r, hr1, hr2⟩ := pd_at2 h5 hx
      have hil := (List.getElem?_eq_some_iff.mp hx).1
      have hrow : RowAt K H1 x r := hr2.same (hM.sI.trans s1)
      have htk : ((rowsB pr blk).take (i + 1)).filterMap (mVal st at_) = es ++ (mVal st at_ r).toList := by
        rw [List.take_add_one, hr1, List.filterMap_append, ← hes]
        cases h : mVal st at_ r <;> simp [h]
      refine ⟨rfl, x, rfl, x, r, rfl, hrow, r.isM, rfl, ite2 (fun e => ?_) (fun e => ?_)⟩
      · obtain ⟨ps, rfl⟩ : ∃ ps, r = .meet ps := by
          cases r with
          | meet ps => exact ⟨ps, rfl⟩
          | _ => cases e
        obtain ⟨a, xs, rfl, ha, qb, rfl, hqb⟩ := hrow
        obtain ⟨ld, hld1, hld2, _⟩ := hE.px.mt blk _ (blkAt hb) i ps hr1
        have hlde := spec_ld (fun xs hx => (hE.nx.2.1 xs hx).2.1) hld1
        have hps : at_ < ps.length := by rw [hld2, hlde]; exact hjl
        have hpb : ps.getD at_ 0 < (rowsL pr).length := by
          rw [List.getD_eq_getElem?_getD, List.getElem?_eq_getElem hps]
          exact ((hE.px.rb _ (blkMem hb)).1 _ (List.mem_of_getElem? hr1)).1 _ (List.getElem_mem hps)
        refine ⟨.ref p, rfl, p, C, A.dx, _, _, rfl, s1 _ _ hM.ob, T.cl, T.lasts, mf_lasts _ _, .ref a, rfl, a, _, _, .ref qb, rfl, rfl, ha, atI_nat (j := 1) rfl, _, rfl, qb, _, _, iv (ps.getD at_ 0), rfl, rfl, hqb, atI_nat (by rw [List.getElem?_map, List.getD_eq_getElem?_getD, List.getElem?_eq_getElem hps]; rfl), A.la, _, _, _, rfl, rfl, sqL (s1 _ _ hM.la), atI_nat (LI_at (by rw [hS.ll]; exact hpb)), ?_⟩
        refine ⟨_, eL, by rw [List.length_map]; exact szt (by omega), fun b o z => ?_, es ++ [LI st.lasts (ps.getD at_ 0)], by rw [upd_same, List.map_append]; rfl, htk.symm, by rw [List.length_append, List.length_singleton]; omega⟩
        rw [upd_ne (ne_of_none z nL)]
        exact s1 _ _ z
      · have hnm2 : mVal st at_ r = none := by
          cases r with
          | meet ps => exact absurd rfl e
          | _ => rfl
        rw [hnm2] at htk
        exact ⟨s1, es, eL, by rw [htk]; simp, by omega⟩
    · obtain ⟨s1, es, eL, hes, hel⟩ := hP
      rw [hvl, List.take_length] at hes
      refine q L H1 nL s1 ?_
      unfold brt
      rw [hat, ← hes]
      exact eL
end
end Gn
set_option Elab.async false
set_option linter.all false
set_option maxRecDepth 100000
set_option maxHeartbeats 8000000
namespace Gn
open PySem PySem.Spec PyProof.Rows L2
/-! ### do_rows -/
theorem rows_take {pr : List Blk} {i : Nat} {b : Blk} (h : pr[i]? = some b) : rowsL (pr.take (i + 1)) = rowsL (pr.take i) ++ b.1 := by
  unfold rowsL
  rw [List.take_add_one, h, List.map_append, List.flatten_append]
  simp
theorem rowsL_app (xs ys : List Blk) : rowsL (xs ++ ys) = rowsL xs ++ rowsL ys := by
  unfold rowsL
  rw [List.map_append, List.flatten_append]
theorem bgn_le (pr : List Blk) (b : Nat) : bgn pr b ≤ (rowsL pr).length := by
  have h := congrArg (fun z => (rowsL z).length) (List.take_append_drop b pr)
  rw [rowsL_app, List.length_append] at h
  unfold bgn
  omega
theorem bgn_lt {pr : List Blk} {b i : Nat} (hb : b < pr.length) (hi : i < (rowsB pr b).length) : bgn pr b + i < (rowsL pr).length := by
  have h1 := bgn_le pr (b + 1)
  unfold bgn at h1 ⊢
  rw [rows_take (blkAt hb), List.length_append] at h1
  have h2 : (rowsL (pr.take b)).length + (rowsB pr b).length ≤ (rowsL pr).length := h1
  omega
theorem wOf_ok {tk : List Int} {s : MSt} {r : Rw} (h : r.isM = false) : wOk (wOf tk s r) r := by
  cases r with
  | meet ps => cases h
  | tell _ => exact trivial
  | lay _ _ _ => exact trivial
  | take _ => exact ⟨_, rfl⟩
  | num _ => exact ⟨_, rfl⟩
  | bin _ _ _ => exact ⟨_, rfl⟩
  | pick _ _ => exact ⟨_, rfl⟩
  | look _ _ => exact ⟨_, rfl⟩
def spDoRows (K : PySem.W.Frag) (C : Addr) : Sp := fun vs H Q _ => ∃ (I : Hp) (p : Addr) (A : MAd) (n : Nat) (s : MSt) (pr : List Blk) (tk : List Int) (b : Nat) (bp : Addr) (bl : List Int), vs = [.ref p, iv b, .ref bp] ∧ MAt K C I H p A n s ∧ EnvOk K I A pr tk ∧ StOk s (rowsL pr).length n ∧ n ≤ A.most ∧ A.most ≤ 30000 ∧ b < pr.length ∧ SqL K I bp (bl.map V.int) ∧
  (∀ i, i < (rowsB pr b).length → mB (rowsB pr b) i = true → i < bl.length) ∧
  ∀ (i : Nat) (s' : MSt) (H' : Hp) (wd : Str), MAt K C I H' p A (n + i) s' → itC pr tk i (norm pr b 0 bl s) = norm pr b i bl s' → StOk s' (rowsL pr).length (n + i) → n + i ≤ A.most →
    ((wd = "done" ∧ i = (rowsB pr b).length) ∨ (wd = "going" ∧ n + i = A.most ∧ i < (rowsB pr b).length) ∨ (wd = "great" ∧ n + i < A.most ∧ i < (rowsB pr b).length ∧ too (wAt pr tk b i bl s') = true)) → Q (.str wd) H'
abbrev nDoRows : List Str := ["self", "block", "brought", "place", "row", "worth"]
theorem scDoRows : FnScope nDoRows ["self", "block", "brought"] (defScope sDoRows) := ⟨rfl, rfl, rfl, by decide +kernel, rfl, by decide +kernel, by decide +kernel⟩
section
variable {P : Program} {w : World} {K : PySem.W.Frag} {mg : Str → Option Value} {base : Heap}
theorem ok_doRows {f C fM fG fW fD : Addr} {fd fdM fdG fdW fdD : FuncData} {k : Nat} (F : Fun K "do_rows" "Machine.do_rows" sDoRows f fd) (T : MTxt K mg C) (B : Bi mg)
    (DM : Df K mg "is_meet" sIsMeet ["row"] fM fdM) (GM : FnOk P w K mg base CX0 k fM fdM ["row"] (spIsMeet K))
    (DG : Df K mg "is_too_great" sGreat ["worth"] fG fdG) (GG : FnOk P w K mg base CX0 k fG fdG ["worth"] spGreat)
    (mW : Meth K C "worth_of" fW) (bW : Binds K fdW ["self", "row"] []) (GW : FnOk P w K mg base CX0 k fW fdW ["self", "row"] (spWorthOf K C))
    (mD : Meth K C "do_row" fD) (bD : Binds K fdD ["self", "number", "row", "worth"] []) (GD : FnOk P w K mg base CX0 k fD fdD ["self", "number", "row", "worth"] (spDoRow K C)) : FnOk P w K mg base CX0 (k + 1) f fd ["self", "block", "brought"] (spDoRows K C) := by
  refine F.ok scDoRows (fun vs H Q E h => ?_) (fun cdv A outer s H vs Q E hr h => ?_)
  · obtain ⟨I, p, A, n, s, pr, tk, b, bp, bl, rfl, _⟩ := h
    rfl
  · obtain ⟨I, p, A, n, st, pr, tk, b, bp, bl, rfl, hM, hE, hS, hn, hmo, hb, hbp, hbl, q⟩ := h
    refine ⟨_, pss_cons (ps_for PassesOwn.never rfl (pi_enum (by rfl) B.enumerate (pa_cons (pe_ix ix_tup (pe_ix ix_list (pe_fld (pv 0) rfl) (pv 1) (fun _ _ => rfl)) pe_int (fun _ _ => rfl)) pa_nil)) (pg_tup rfl (pgs_cons (pg_name (i := 3) scDoRows.nd rfl (.inl rfl)) (pgs_cons (pg_name (i := 4) scDoRows.nd rfl (.inl rfl)) pgs_nil)))
        (pss_cons (ps_if (pt_cmpR op_eq (pe_fld (pv 0) rfl) (pe_fld (pv 0) rfl) (nomark _)) (pss_one (ps_ret pe_str)) pss_nil)
        (Evl.pss_cut (ps_set (i := 5) scDoRows.nd rfl (.inl rfl) (pe_ifExp (pt_val (pe_call GM hr (by rfl) DM.g DM.F.kp DM.b .nil pass0 (pa_cons (pv 4) pa_nil))) (pe_ix ix_list (pv 2) (pv 3) (fun _ _ => rfl)) (pe_meth (pv 0) T.cl mW GW hr bW .nil pass0 (pa_cons (pv 4) pa_nil))))
        (pss_cons (ps_if (pt_val (pe_call GG hr (by rfl) DG.g DG.F.kp DG.b .nil pass0 (pa_cons (pv 5) pa_nil))) (pss_one (ps_ret pe_str)) pss_nil)
        (pss_cons (ps_fldaug (pv 0) pe_int in_add)
        (pss_one (ps_expr (pe_meth (pv 0) T.cl mD GD hr bD .nil pass0 (pa_cons (pe_op op_add (pe_ix ix_list (pe_fld (pv 0) rfl) (pv 1) (fun _ _ => rfl)) (pv 3)) (pa_cons (pv 4) (pa_cons (pv 5) pa_nil)))))))))))
      (pss_one (ps_ret pe_str)), ?_⟩
    obtain ⟨pp, bs, pb, ra, ea, vs, hpv, h1, h2, h3, h4, h5, h6⟩ := hE.prog.blk hb
    have hvl : vs.length = (rowsB pr b).length := pd_len h5
    refine ⟨.ref p, rfl, p, C, A.dx, _, _, rfl, hM.ob, T.cl, T.program, mf_program _ _, _, rfl, pp, bs, _, .ref pb, hpv, rfl, hM.sI.seq h1, atI_nat h2, pb, _, _, .ref ra, rfl, rfl, Same.tup hM.sI h3, atI_nat (j := 0) rfl, ra, _, rfl, sqL (hM.sI _ _ h4), ?_⟩
    refine for_it (walk_enum (K := K) (a := ra) (xs := vs)) (fun i σ H1 => ∃ (y3 y4 y5 : Option V) (s1 : MSt), σ = [some (.ref p), some (iv b), some (.ref bp), y3, y4, y5] ∧ MAt K C I H1 p A (n + i) s1 ∧ itC pr tk i (norm pr b 0 bl st) = norm pr b i bl s1 ∧ StOk s1 (rowsL pr).length (n + i) ∧ n + i ≤ A.most)
      ⟨none, none, none, st, rfl, hM, rfl, hS, hn⟩ (fun i σ H1 _ hP => ?_) (fun i x σ H1 H2 hi hP hY => ?_) (fun σ H1 hP => ?_)
    · obtain ⟨_, _, _, _, _, hM1, _⟩ := hP
      exact sqL (hM1.sI _ _ h4)
    · obtain ⟨y3, y4, y5, s1, rfl, hM1, hit, hS1, hn1⟩ := hP
      obtain ⟨U, x1, x2, rfl, nU, rfl, e1, e2⟩ := hY
      cases e1
      have e2 : vs[i]? = some x2 := e2
      obtain ⟨r, hr1, hr2⟩ := pd_at2 h5 e2
      have hil : i < (rowsB pr b).length := by omega
      have sU := new_same (o := .tup [.int (i : Nat), x2]) nU
      have hM2 := hM1.same sU
      refine ⟨U, _, rfl, sqT upd_same, rfl, _, _, rfl, _, _, rfl, rfl, ?_⟩
      generalize upd H1 U (.tup [.int (i : Nat), x2]) = H2 at hM2
      have hrow : RowAt K H2 x2 r := hr2.same hM2.sI
      have hrat : rwAt pr b i = r := by unfold rwAt; rw [List.getD_eq_getElem?_getD, hr1]; rfl
      have hrb : RwB (rowsL pr).length r := (hE.px.rb _ (blkMem hb)).1 r (List.mem_of_getElem? hr1)
      refine ⟨.ref p, rfl, p, C, A.dx, _, _, rfl, hM2.ob, T.cl, T.steps, mf_steps _ _, .ref p, rfl, p, C, A.dx, _, _, rfl, hM2.ob, T.cl, T.most, mf_most _ _, rfl, _, rfl, ite2 (fun e => ?_) (fun e => ?_)⟩
      · have e3 : ((n + i : Nat) : Int) = (A.most : Int) := V.int.inj (of_decide_eq_true e)
        exact q i s1 H2 "going" hM2 hit hS1 hn1 (.inr (.inl ⟨rfl, by omega, hil⟩))
      · have e3 : n + i < A.most := by
          have : ¬ ((n + i : Nat) : Int) = (A.most : Int) := fun z => e (decide_eq_true (by rw [z]))
          omega
        refine ⟨fun σ H3 => σ = [some (.ref p), some (iv b), some (.ref bp), some (.int (i : Nat)), some x2, some (wv (wAt pr tk b i bl s1))] ∧ H3 = H2, ?_, fun σ H3 hC => ?_⟩
        · refine ⟨x2, rfl, x2, r, rfl, hrow, r.isM, rfl, ite2 (fun em => ?_) (fun em => ?_)⟩
          · have hw : wAt pr tk b i bl s1 = some (LI bl i) := by unfold wAt; rw [hrat, if_pos em]
            have hib : i < bl.length := hbl i hil (by rw [mB_at hr1]; exact em)
            refine ⟨.ref bp, rfl, _, rfl, bp, _, _, _, rfl, rfl, hM2.sI.seq hbp, atI_nat (LI_at hib), ?_, rfl⟩
            rw [hw]
            rfl
          · have em' : r.isM = false := by cases h : r.isM with | true => exact absurd h em | false => rfl
            have hw : wAt pr tk b i bl s1 = wOf tk s1 r := by unfold wAt; rw [hrat, if_neg em]
            refine ⟨.ref p, rfl, p, A.dx, _, rfl, hM2.ob, rfl, x2, rfl, I, p, A, n + i, s1, pr, tk, x2, r, (rowsL pr).length, n + i, rfl, hM2, hE, hS1, hrow, hrb, em', ?_, rfl⟩
            rw [hw]
            rfl
        · obtain ⟨rfl, rfl⟩ := hC
          have hwok : wOk (wAt pr tk b i bl s1) r := by
            unfold wAt
            rw [hrat]
            cases em : r.isM with
            | true =>
              rw [if_pos rfl]
              cases r with
              | meet ps => exact ⟨_, rfl⟩
              | _ => cases em
            | false =>
              rw [if_neg (by decide)]
              exact wOf_ok em
          have hnr : norm pr b i bl s1 = .row b i bl s1 := by unfold norm; rw [if_pos hil]
          refine ⟨_, rfl, wAt pr tk b i bl s1, rfl, too (wAt pr tk b i bl s1), rfl, ite2 (fun et => ?_) (fun et => ?_)⟩
          · exact q i s1 H3 "great" hM2 hit hS1 hn1 (.inr (.inr ⟨rfl, e3, hil, et⟩))
          · have et' : too (wAt pr tk b i bl s1) = false := by cases h : too (wAt pr tk b i bl s1) with | true => exact absurd h et | false => rfl
            refine ⟨.ref p, rfl, p, C, A.dx, _, _, rfl, hM2.ob, T.cl, T.steps, mf_steps _ _, _, _, rfl, rfl, A.dx, _, hM2.ob, (by show 11 < 1000; decide), ?_⟩
            have hM3 : MAt K C I (upd H3 p (.ins C A.dx (putF "steps" (V.int (((n + i : Nat) : Int) + 1)) (mf A (n + i))))) p A (n + i + 1) s1 := hM2.setN (n + i + 1)
            have hbg : ((List.range (pr.length + 1)).map fun b => iv (bgn pr b))[b]? = some (iv (bgn pr b)) := by rw [List.getElem?_map, List.getElem?_range (by omega)]; rfl
            refine ⟨.ref p, rfl, p, A.dx, _, rfl, hM3.ob, rfl, .ref p, rfl, p, C, A.dx, _, _, rfl, hM3.ob, T.cl, T.begins, mf_begins _ _, _, rfl, A.bg, _, _, _, rfl, rfl, hM3.sI.seq hE.begins, atI_nat hbg, _, rfl, _, _, rfl, rfl, x2, rfl, _, rfl, ?_⟩
            have ek : V.int ((bgn pr b : Int) + (i : Int)) = iv (bgn pr b + i) := rfl
            refine ⟨I, p, A, n + i + 1, s1, bgn pr b + i, x2, r, wAt pr tk b i bl s1, (rowsL pr).length, n + i, rfl, hM3, hS1, by omega, hr2.same hM3.sI, hrb, bgn_lt hb hil, hwok, fun H5 hM5 => ?_⟩
            refine ⟨_, _, _, doR (bgn pr b + i) r (wAt pr tk b i bl s1) s1, rfl, hM5, ?_, hS1.doR et', by omega⟩
            rw [itC_succ, hit, hnr]
            show (if too (wAt pr tk b i bl s1) = true then Cfg.great s1 else norm pr b (i + 1) bl (doR (bgn pr b + i) (rwAt pr b i) (wAt pr tk b i bl s1) s1)) = _
            rw [if_neg et, hrat]
    · obtain ⟨y3, y4, y5, s1, rfl, hM1, hit, hS1, hn1⟩ := hP
      rw [hvl] at hM1 hit hS1 hn1
      exact q _ s1 H1 "done" hM1 hit hS1 hn1 (.inl ⟨rfl, rfl⟩)
end
end Gn
set_option Elab.async false
set_option linter.all false
set_option maxRecDepth 100000
set_option maxHeartbeats 8000000
namespace Gn
open PySem PySem.Spec PyProof.Rows L2
/-! ### go_on -/
section
variable {K : PySem.W.Frag} {C : Addr} {I I' H : Hp} {p : Addr} {A : MAd} {n : Nat} {s : MSt} {pr : List Blk} {tk : List Int}
theorem MAt.sub (h : MAt K C I' H p A n s) (e : Same I I') : MAt K C I H p A n s := by
  refine ⟨e.trans h.sI, fun a ha => ?_, h.nd, h.ob, h.la, h.ro, h.wy, h.te, h.dn⟩
  cases z : I a with
  | none => rfl
  | some o =>
    have h1 := e _ _ z
    rw [h.nw a ha] at h1
    cases h1
theorem MAt.ext (h : MAt K C I H p A n s) {bp : Addr} {o : HO} (hb : H bp = some o) (hn : bp ∉ [p, A.la, A.ro, A.wy, A.te, A.dn]) : MAt K C (upd I bp o) H p A n s := by
  refine ⟨fun a o' e => ?_, fun a ha => ?_, h.nd, h.ob, h.la, h.ro, h.wy, h.te, h.dn⟩
  · by_cases z : a = bp
    · subst z
      rw [upd_same] at e
      rw [← e]; exact hb
    · rw [upd_ne z] at e
      exact h.sI _ _ e
  · have hne : a ≠ bp := fun z => hn (by rw [← z]; exact ha)
    rw [upd_ne hne]
    exact h.nw a ha
theorem EnvOk.same (h : EnvOk K I A pr tk) (e : Same I I') : EnvOk K I' A pr tk := ⟨h.prog.same e, e.seq h.tks, h.tl, h.tb, h.leads.same e, e.seq h.begins, h.l1, h.l2, h.px, h.nx, h.rl⟩
/-- a new object is none of the machine's -/
theorem MAt.fresh (h : MAt K C I H p A n s) {b : Addr} (nb : H b = none) : b ∉ [p, A.la, A.ro, A.wy, A.te, A.dn] := fun hb => by
  obtain ⟨ds, d1, _⟩ := h.dn
  have : ∃ o, H b = some o := by
    simp only [List.mem_cons, List.not_mem_nil, or_false] at hb
    rcases hb with rfl | rfl | rfl | rfl | rfl | rfl
    · exact ⟨_, h.ob⟩
    · exact ⟨_, h.la⟩
    · exact ⟨_, h.ro⟩
    · exact ⟨_, h.wy⟩
    · exact ⟨_, h.te⟩
    · exact ⟨_, d1⟩
  obtain ⟨o, ho⟩ := this
  rw [nb] at ho
  cases ho
end
theorem all_m {rs : List Rw} (h : ∀ x, x + 1 < rs.length → mB rs (x + 1) = true → mB rs x = true) : ∀ (d i : Nat), i + d < rs.length → mB rs (i + d) = true → mB rs i = true
  | 0, i, _, hm => hm
  | d + 1, i, hl, hm => all_m h d i (by omega) (h (i + d) (by omega) hm)
theorem fm_len {s : MSt} {a : Nat} : ∀ {l : List Rw}, (∀ r ∈ l, r.isM = true) → (l.filterMap (mVal s a)).length = l.length
  | [], _ => rfl
  | r :: l, h => by
    have h1 := h r List.mem_cons_self
    have h2 := fm_len (s := s) (a := a) (l := l) fun x hx => h x (List.mem_cons_of_mem _ hx)
    cases r with
    | meet ps =>
      rw [List.filterMap_cons]
      show ((LI s.lasts (ps.getD a 0)) :: l.filterMap (mVal s a)).length = _
      rw [List.length_cons, List.length_cons, h2]
    | _ => cases h1
theorem brt_len {pr : List Blk} {lead b i : Nat} {s : MSt} (h : ∀ x, x + 1 < (rowsB pr b).length → mB (rowsB pr b) (x + 1) = true → mB (rowsB pr b) x = true) (hi : i < (rowsB pr b).length) (hm : mB (rowsB pr b) i = true) : i < (brt pr lead b s).length := by
  have h1 : ∀ r ∈ (rowsB pr b).take (i + 1), r.isM = true := fun r hr => by
    obtain ⟨j, hj1, hj2⟩ := List.mem_iff_getElem.mp hr
    rw [List.length_take] at hj1
    rw [List.getElem_take] at hj2
    have h2 := all_m h (i - j) j (by omega) (by rw [show j + (i - j) = i by omega]; exact hm)
    rw [mB_at (List.getElem?_eq_getElem (by omega)), hj2] at h2
    exact h2
  have h2 := fm_len (s := s) (a := (spec pr pr.length b).idxOf lead) h1
  have h3 := congrArg (fun z => (z.filterMap (mVal s ((spec pr pr.length b).idxOf lead))).length) (List.take_append_drop (i + 1) (rowsB pr b))
  rw [List.filterMap_append, List.length_append, h2, List.length_take] at h3
  unfold brt
  omega
theorem no_m0 {pr : List Blk} (l1 : 1 ≤ pr.length) (px : PrX pr.length pr) (nx : NxOk pr.length (pr.map fun b => b.2.names)) {i : Nat} (hi : i < (rowsB pr 0).length) (hm : mB (rowsB pr 0) i = true) : False := by
  rw [mB_at (List.getElem?_eq_getElem hi)] at hm
  cases hr : (rowsB pr 0)[i] with
  | meet ps =>
    obtain ⟨ld, h1, _, h3⟩ := px.mt 0 _ (blkAt l1) i ps (by rw [List.getElem?_eq_getElem hi, hr])
    rw [lead0 nx.2.1 h1] at h3
    exact absurd h3 (by decide)
  | _ => rw [hr] at hm; cases hm
def spGoOn (K : PySem.W.Frag) (C : Addr) : Sp := fun vs H Q _ => ∃ (I : Hp) (p : Addr) (A : MAd) (pr : List Blk) (tk : List Int), vs = [.ref p] ∧ MAt K C I H p A 0 (MSt.first pr) ∧ EnvOk K I A pr tk ∧ A.most ≤ 30000 ∧
  ∀ (H' : Hp) (n' : Nat), MAt K C I H' p A n' (runC pr tk A.most).st → (runC pr tk A.most).st.done.length ≤ 30000 → Q (.str (runC pr tk A.most).word) H'
abbrev nGoOn : List Str := ["self", "block", "brought", "state", "end", "lead"]
theorem scGoOn : FnScope nGoOn ["self"] (defScope sGoOn) := ⟨rfl, rfl, rfl, by decide +kernel, rfl, by decide +kernel, by decide +kernel⟩
theorem first_ok (pr : List Blk) : StOk (MSt.first pr) (rowsL pr).length 0 := by
  refine ⟨List.length_replicate, List.length_replicate, ⟨fun x hx => ?_, fun x hx => ?_⟩, Nat.le_refl _, Nat.le_refl _, Nat.le_refl _⟩
  · rw [List.eq_of_mem_replicate hx]; decide
  · rw [List.eq_of_mem_replicate hx]; decide
section
variable {P : Program} {w : World} {K : PySem.W.Frag} {mg : Str → Option Value} {base : Heap}
theorem ok_goOn {f C fR fB fT : Addr} {fd fdR fdB fdT : FuncData} {k : Nat} (F : Fun K "go_on" "Machine.go_on" sGoOn f fd) (T : MTxt K mg C)
    (mR : Meth K C "do_rows" fR) (bR : Binds K fdR ["self", "block", "brought"] []) (GR : FnOk P w K mg base CX0 k fR fdR ["self", "block", "brought"] (spDoRows K C))
    (mB' : Meth K C "block_behind" fB) (bB : Binds K fdB ["self", "end"] []) (GB : FnOk P w K mg base CX0 k fB fdB ["self", "end"] (spBehind K C))
    (mT : Meth K C "brought_by" fT) (bT : Binds K fdT ["self", "lead", "block"] []) (GT : FnOk P w K mg base CX0 k fT fdT ["self", "lead", "block"] (spBrt K C)) : FnOk P w K mg base CX0 (k + 1) f fd ["self"] (spGoOn K C) := by
  refine F.ok scGoOn (fun vs H Q E h => ?_) (fun cdv A outer s H vs Q E hr h => ?_)
  · obtain ⟨I, p, A, pr, tk, rfl, _⟩ := h
    rfl
  · obtain ⟨I, p, A, pr, tk, rfl, hM, hE, hmo, q⟩ := h
    refine ⟨_, pss_cons (ps_set (i := 1) scGoOn.nd rfl (.inl rfl) pe_int)
      (pss_cons (ps_set (i := 2) scGoOn.nd rfl (.inl rfl) (pe_lst pa_nil))
      (pss_cons (ps_while PassesOwn.never (pt_cmpR op_lt (pe_fld (pv 0) rfl) (pe_fld (pv 0) rfl) (nomark _))
        (pss_cons (ps_fldaug (pv 0) pe_int in_add)
        (pss_cons (ps_expr (pe_bm PySem.F.plainAttrs_list PySem.F.slot_list_append PySem.F.type_list_append mt_append (pe_fld (pv 0) rfl) (pa_cons (pv 1) pa_nil)))
        (pss_cons (ps_set (i := 3) scGoOn.nd rfl (.inl rfl) (pe_meth (pv 0) T.cl mR GR hr bR .nil pass0 (pa_cons (pv 1) (pa_cons (pv 2) pa_nil))))
        (pss_cons (ps_if (pt_cmpR op_ne (pv 3) pe_str (nomark _)) (pss_one (ps_ret (pv 3))) pss_nil)
        (pss_cons (ps_set (i := 4) scGoOn.nd rfl (.inl rfl) (pe_ix ix_tup (pe_ix ix_list (pe_fld (pv 0) rfl) (pv 1) (fun _ _ => rfl)) pe_int (fun _ _ => rfl)))
        (pss_cons (ps_if (pt_cmpR op_eq (pe_ix ix_tup (pv 4) pe_int (fun _ _ => rfl)) pe_str (nomark _)) (pss_one (ps_ret pe_str)) pss_nil)
        (pss_cons (ps_set (i := 5) scGoOn.nd rfl (.inl rfl) (pv 1))
        (pss_cons (ps_set (i := 1) scGoOn.nd rfl (.inl rfl) (pe_meth (pv 0) T.cl mB' GB hr bB .nil pass0 (pa_cons (pv 4) pa_nil)))
        (pss_one (ps_set (i := 2) scGoOn.nd rfl (.inl rfl) (pe_meth (pv 0) T.cl mT GT hr bT .nil pass0 (pa_cons (pv 5) (pa_cons (pv 1) pa_nil))))))))))))))
      (pss_one (ps_ret pe_str)))), ?_⟩
    refine ⟨Nat.zero_le _, fun b0 nb0 => ?_⟩
    have sb := new_same (o := .lst []) nb0
    have eb : upd H b0 (.lst []) b0 = some (.lst (([] : List Int).map V.int)) := upd_same
    have hM0 := hM.same sb
    have hfr := hM.fresh nb0
    have hI0 : I b0 = none := hM.sI.free nb0
    generalize upd H b0 (.lst []) = H0 at eb hM0
    refine ⟨fun mm σ H1 => ∃ (n b : Nat) (bp : Addr) (bl : List Int) (s1 : MSt) (y3 y4 y5 : Option V), mm = A.most - n ∧ σ = [some (.ref p), some (iv b), some (.ref bp), y3, y4, y5] ∧ n ≤ A.most ∧ MAt K C I H1 p A n s1 ∧ StOk s1 (rowsL pr).length n ∧ itC pr tk n (.come 0 [] (MSt.first pr)) = .come b bl s1 ∧ b < pr.length ∧
      H1 bp = some (.lst (bl.map V.int)) ∧ bp ∉ [p, A.la, A.ro, A.wy, A.te, A.dn] ∧ I bp = none ∧ (∀ i, i < (rowsB pr b).length → mB (rowsB pr b) i = true → i < bl.length),
      ⟨_, 0, 0, b0, [], MSt.first pr, none, none, none, rfl, rfl, Nat.zero_le _, hM0, first_ok pr, rfl, hE.l1, eb, hfr, hI0, fun i h1 h2 => (no_m0 hE.l1 hE.px hE.nx h1 h2).elim⟩, fun mm σ H1 hW => ?_⟩
    obtain ⟨n, b, bp, bl, s1, y3, y4, y5, rfl, rfl, hn, hM1, hS1, hit, hb, ebp, hbf, hIb, hbl⟩ := hW
    refine ⟨.ref p, rfl, p, C, A.dx, _, _, rfl, hM1.ob, T.cl, T.steps, mf_steps _ _, .ref p, rfl, p, C, A.dx, _, _, rfl, hM1.ob, T.cl, T.most, mf_most _ _, _, _, rfl, rfl, _, rfl, ite2 (fun e => ?_) (fun e => ?_)⟩
    · have e1 : (n : Int) < (A.most : Int) := of_decide_eq_true e
      have hn1 : n < A.most := by omega
      refine ⟨fun σ' H' => ∃ m', m' < A.most - n ∧ ∃ (n b : Nat) (bp : Addr) (bl : List Int) (s1 : MSt) (y3 y4 y5 : Option V), m' = A.most - n ∧ σ' = [some (.ref p), some (iv b), some (.ref bp), y3, y4, y5] ∧ n ≤ A.most ∧ MAt K C I H' p A n s1 ∧ StOk s1 (rowsL pr).length n ∧ itC pr tk n (.come 0 [] (MSt.first pr)) = .come b bl s1 ∧ b < pr.length ∧
        H' bp = some (.lst (bl.map V.int)) ∧ bp ∉ [p, A.la, A.ro, A.wy, A.te, A.dn] ∧ I bp = none ∧ (∀ i, i < (rowsB pr b).length → mB (rowsB pr b) i = true → i < bl.length), fun σ' H' h => h, ?_⟩
      refine ⟨.ref p, rfl, p, C, A.dx, _, _, rfl, hM1.ob, T.cl, T.steps, mf_steps _ _, _, _, rfl, rfl, A.dx, _, hM1.ob, (by show 11 < 1000; decide), ?_⟩
      have hM2 : MAt K C I (upd H1 p (.ins C A.dx (putF "steps" (V.int ((n : Int) + 1)) (mf A n)))) p A (n + 1) s1 := hM1.setN (n + 1)
      have npb : bp ≠ p := fun z => hbf (by rw [z]; simp)
      have nwb : bp ≠ A.wy := fun z => hbf (by rw [z]; simp)
      have ebp2 : upd H1 p (.ins C A.dx (putF "steps" (V.int ((n : Int) + 1)) (mf A n))) bp = some (.lst (bl.map V.int)) := by rw [upd_ne npb]; exact ebp
      have hlw := hS1.lw
      refine ⟨.ref p, rfl, p, C, A.dx, _, _, rfl, hM2.ob, T.cl, T.way, mf_way _ _, .inl ⟨rfl, _, sqL hM2.wy⟩, iv b, rfl, A.wy, _, _, rfl, rfl, hM2.wy, by rw [List.length_map]; exact szt (by omega), ?_⟩
      have ew : s1.way.map iv ++ [iv b] = (s1.way ++ [b]).map iv := by rw [List.map_append]; rfl
      rw [ew]
      have hM3 := hM2.setWy (s1.way ++ [b])
      have ebp3 : upd (upd H1 p (.ins C A.dx (putF "steps" (V.int ((n : Int) + 1)) (mf A n)))) A.wy (.lst ((s1.way ++ [b]).map iv)) bp = some (.lst (bl.map V.int)) := by rw [upd_ne nwb]; exact ebp2
      generalize upd (upd H1 p (.ins C A.dx (putF "steps" (V.int ((n : Int) + 1)) (mf A n)))) A.wy (.lst ((s1.way ++ [b]).map iv)) = H3 at hM3 ebp3
      have hS3 : StOk { s1 with way := s1.way ++ [b] } (rowsL pr).length (n + 1) := ⟨hS1.ll, hS1.lr, hS1.bd, by show (s1.way ++ [b]).length ≤ n + 1; rw [List.length_append, List.length_singleton]; omega, Nat.le_succ_of_le hS1.lt, Nat.le_succ_of_le hS1.ld⟩
      have hit1 : itC pr tk (n + 1) (.come 0 [] (MSt.first pr)) = norm pr b 0 bl { s1 with way := s1.way ++ [b] } := by rw [itC_succ, hit]; rfl
      generalize hs3 : ({ s1 with way := s1.way ++ [b] } : MSt) = s3 at hM3 hS3 hit1
      have sII : Same I (upd I bp (.lst (bl.map V.int))) := new_same hIb
      refine ⟨.ref p, rfl, p, A.dx, _, rfl, hM3.ob, rfl, iv b, rfl, .ref bp, rfl, upd I bp (.lst (bl.map V.int)), p, A, n + 1, s3, pr, tk, b, bp, bl, rfl, hM3.ext ebp3 hbf, hE.same sII, hS3, hn1, hmo, hb, sqL upd_same, hbl, fun i s4 H4 wd hM4 hit4 hS4 hn4 hcase => ?_⟩
      have hM4' := hM4.sub sII
      have hitA : itC pr tk (n + 1 + i) (.come 0 [] (MSt.first pr)) = norm pr b i bl s4 := by rw [itC_add, hit1, hit4]
      have hrun : ∀ j, n + 1 + i + j = A.most → runC pr tk A.most = itC pr tk j (norm pr b i bl s4) := fun j hj => by
        unfold runC
        rw [← hj, itC_add, hitA]
      have hld := hS4.ld
      rcases hcase with ⟨rfl, rfl⟩ | ⟨rfl, h1, h2⟩ | ⟨rfl, h1, h2, h3⟩
      · -- done
        refine ⟨_, rfl, rfl, _, rfl, iteNS rfl ?_⟩
        obtain ⟨pp, bs, pb, ra, ea, vs, hpv, g1, g2, g3, g4, g5, g6⟩ := hE.prog.blk hb
        refine ⟨.ref p, rfl, p, C, A.dx, _, _, rfl, hM4'.ob, T.cl, T.program, mf_program _ _, iv b, rfl, pp, bs, _, .ref pb, hpv, rfl, hM4'.sI.seq g1, atI_nat g2, pb, _, _, ea, rfl, rfl, Same.tup hM4'.sI g3, atI_nat (j := 1) rfl, ?_⟩
        have hea : EnAt K H4 ea (endB pr b) := g6.mv (Same.tup hM4'.sI)
        have heo : EnOk pr.length (rowsL pr).length (endB pr b) := (hE.px.rb _ (blkMem hb)).2
        have hnn : norm pr b (rowsB pr b).length bl s4 = match nextB s4 (endB pr b) with | none => .ended s4 | some c => .come c (brt pr b c s4) s4 := by
          unfold norm
          rw [if_neg (Nat.lt_irrefl _)]
          all_goals (cases nextB s4 (endB pr b) <;> rfl)
        have hnmz : ∀ c, nextB s4 (endB pr b) = some c → c ∈ (endB pr b).names ∧ c < pr.length := fun c hc => by
          cases he : endB pr b with
          | go d =>
            rw [he] at hc heo
            have : d = c := Option.some.inj hc
            subst this
            exact ⟨List.mem_singleton.mpr rfl, heo.2⟩
          | iff r d e =>
            rw [he] at hc heo
            have : (if LI s4.lasts r ≠ 0 then d else e) = c := Option.some.inj hc
            obtain ⟨_, _, o3, _, o5, _⟩ := heo
            by_cases hz : LI s4.lasts r ≠ 0
            · rw [if_pos hz] at this; subst this; exact ⟨by simp [En.names], o3⟩
            · rw [if_neg hz] at this; subst this; exact ⟨by simp [En.names], o5⟩
          | fin => rw [he] at hc; cases hc
        obtain ⟨pe, rfl, hpe⟩ := hea.at
        refine ⟨.ref pe, rfl, pe, _, _, _, rfl, rfl, hpe, atI_nat (j := 0) rfl, rfl, _, rfl, ite2 (fun ee => ?_) (fun ee => ?_)⟩
        · have hf : endB pr b = .fin := by
            have hw : (endB pr b).word = "end" := V.str.inj (of_decide_eq_true ee)
            cases he : endB pr b with
            | go d => rw [he] at hw; exact absurd hw (show ¬ (("go" : Str) = "end") by decide +kernel)
            | iff r d e => rw [he] at hw; exact absurd hw (show ¬ (("if" : Str) = "end") by decide +kernel)
            | fin => rfl
          have hend : norm pr b (rowsB pr b).length bl s4 = .ended s4 := by rw [hnn, hf]; rfl
          have hr1 : runC pr tk A.most = .ended s4 := by
            rw [hrun (A.most - (n + 1 + (rowsB pr b).length)) (by omega), hend]
            exact itC_ended _ _
          have := q H4 (n + 1 + (rowsB pr b).length) (by rw [hr1]; exact hM4') (by rw [hr1]; show s4.done.length ≤ 30000; omega)
          rw [hr1] at this
          exact this
        · obtain ⟨c, hc⟩ : ∃ c, nextB s4 (endB pr b) = some c := by
            cases he : endB pr b with
            | go d => exact ⟨_, rfl⟩
            | iff r d e => exact ⟨_, rfl⟩
            | fin => rw [he] at ee; exact absurd (decide_eq_true rfl) ee
          obtain ⟨hcn, hcl⟩ := hnmz c hc
          refine ⟨iv b, rfl, ?_⟩
          refine ⟨.ref p, rfl, p, A.dx, _, rfl, hM4'.ob, rfl, .ref pe, rfl, I, p, A, n + 1 + (rowsB pr b).length, s4, .ref pe, endB pr b, c, pr.length, (rowsL pr).length, _, rfl, hM4', hS4, hea, heo, hc, ?_⟩
          refine ⟨.ref p, rfl, p, A.dx, _, rfl, hM4'.ob, rfl, iv b, rfl, iv c, rfl, I, p, A, n + 1 + (rowsB pr b).length, s4, pr, tk, b, c, _, rfl, hM4', hE, hS4, hb, hcl, hcn, fun bp2 H5 nb2 s5 eb2 => ?_⟩
          refine ⟨A.most - (n + 1 + (rowsB pr b).length), by omega, n + 1 + (rowsB pr b).length, c, bp2, brt pr b c s4, s4, _, _, _, rfl, rfl, hn4, hM4'.same s5, hS4, by rw [hitA, hnn, hc], hcl, eb2, hM4'.fresh nb2, hM4'.sI.free nb2, fun i hi hm => brt_len (hE.px.ma _ (blkMem hcl)) hi hm⟩
      · -- going
        refine ⟨_, rfl, rfl, _, rfl, ?_⟩
        have hr1 : runC pr tk A.most = .row b i bl s4 := by
          rw [hrun 0 (by omega)]
          show norm pr b i bl s4 = _
          unfold norm
          rw [if_pos h2]
        have := q H4 _ (by rw [hr1]; exact hM4') (by rw [hr1]; show s4.done.length ≤ 30000; omega)
        rw [hr1] at this
        exact ⟨_, rfl, this⟩
      · -- great
        refine ⟨_, rfl, rfl, _, rfl, ?_⟩
        have hr1 : runC pr tk A.most = .great s4 := by
          rw [hrun (A.most - (n + 1 + i)) (by omega)]
          obtain ⟨j, hj⟩ : ∃ j, A.most - (n + 1 + i) = j + 1 := ⟨A.most - (n + 1 + i) - 1, by omega⟩
          rw [hj]
          show itC pr tk j (stepC pr tk (norm pr b i bl s4)) = _
          have : norm pr b i bl s4 = .row b i bl s4 := by unfold norm; rw [if_pos h2]
          rw [this]
          show itC pr tk j (if too (wAt pr tk b i bl s4) = true then Cfg.great s4 else _) = _
          rw [if_pos h3]
          exact itC_great _ _
        have := q H4 _ (by rw [hr1]; exact hM4') (by rw [hr1]; show s4.done.length ≤ 30000; omega)
        rw [hr1] at this
        exact ⟨_, rfl, this⟩
    · have e1 : ¬ (n : Int) < (A.most : Int) := fun z => e (decide_eq_true z)
      have hne : n = A.most := by omega
      have hr1 : runC pr tk A.most = .come b bl s1 := by unfold runC; rw [← hne]; exact hit
      have hld := hS1.ld
      have := q H1 n (by rw [hr1]; exact hM1) (by rw [hr1]; show s1.done.length ≤ 30000; omega)
      rw [hr1] at this
      exact this
end
end Gn
set_option Elab.async false
set_option linter.all false
set_option maxRecDepth 100000
set_option maxHeartbeats 8000000
namespace Gn
open PySem PySem.Spec PyProof.Rows L2
/-! ### Machine(..), run -/
theorem bgn_succ {pr : List Blk} {i : Nat} (hi : i < pr.length) : bgn pr (i + 1) = bgn pr i + (rowsB pr i).length := by
  unfold bgn
  rw [rows_take (blkAt hi), List.length_append]
theorem bgn_succ' {pr : List Blk} {i : Nat} {rs : List Rw} {vs : List V} (h : rowsB pr i = rs) (hv : vs.length = rs.length) (hi : i < pr.length) : bgn pr (i + 1) = bgn pr i + vs.length := by
  rw [bgn_succ hi, h, hv]
theorem bgn_all (pr : List Blk) : bgn pr pr.length = (rowsL pr).length := by unfold bgn; rw [List.take_length]
theorem rep0 (k : Nat) : (List.replicate k [V.int 0]).flatten = (List.replicate k (0 : Int)).map V.int := by
  induction k with
  | zero => rfl
  | succ k ih => rw [List.replicate_succ, List.replicate_succ, List.flatten_cons, List.map_cons, ih]; rfl
theorem pd_idx {α β : Type} {F : α → β → Prop} {f : Nat → β} : ∀ {l : List α} {k : Nat}, (∀ n q, l[n]? = some q → F q (f (k + n))) → Paired F l ((List.range' k l.length).map f)
  | [], _, _ => .nil
  | a :: l, k, h => by
    rw [List.length_cons, List.range'_succ, List.map_cons]
    refine .cons (h 0 a rfl) (pd_idx fun n q e => ?_)
    have := h (n + 1) q (by simpa using e)
    rw [show k + (n + 1) = k + 1 + n by omega] at this
    exact this
structure PureOk (pr : List Blk) (tk : List Int) : Prop where
  tl : tk.length = 6
  tb : ∀ x ∈ tk, -GT40 ≤ x ∧ x ≤ GT40
  l1 : 1 ≤ pr.length
  l2 : pr.length ≤ 12
  px : PrX pr.length pr
  nx : NxOk pr.length (pr.map fun b => b.2.names)
  rl : ∀ b ∈ pr, b.1.length ≤ 130
theorem names_two (e : En) : e.names.length ≤ 2 := by cases e <;> simp [En.names]
theorem names_ok {m n : Nat} {e : En} (h : EnOk m n e) : ∀ y ∈ e.names, y < m := fun y hy => by
  cases e with
  | go b => rw [List.mem_singleton.mp hy]; exact h.2
  | iff r b c =>
    obtain ⟨_, _, h3, _, h5, _⟩ := h
    have hy2 : y = b ∨ y = c := by simpa [En.names] using hy
    rcases hy2 with rfl | rfl
    · exact h3
    · exact h5
  | fin => cases hy
theorem rowsL_le {n : Nat} : ∀ {pr : List Blk}, (∀ b ∈ pr, b.1.length ≤ n) → (rowsL pr).length ≤ pr.length * n
  | [], _ => by simp [rowsL]
  | b :: bs, h => by
    have h1 := rowsL_le (pr := bs) fun c hc => h c (List.mem_cons_of_mem _ hc)
    have h2 := h b List.mem_cons_self
    unfold rowsL at h1 ⊢
    rw [List.map_cons, List.flatten_cons, List.length_append, List.length_cons, Nat.succ_mul]
    omega
def spMInit (K : PySem.W.Frag) (C : Addr) : Sp := fun vs H Q _ => ∃ (H0 : Hp) (p dx tka : Addr) (v : V) (most : Nat) (pr : List Blk) (tk : List Int), vs = [.ref p, v, .ref tka, iv most] ∧ Same H0 H ∧ H0 p = none ∧ H p = some (.ins C dx []) ∧ ProgAt K H0 v pr ∧ SqL K H0 tka (tk.map V.int) ∧ PureOk pr tk ∧
  ∀ (I : Hp) (A : MAd) (H' : Hp), Same H0 I → A.most = most → MAt K C I H' p A 0 (MSt.first pr) → EnvOk K I A pr tk → Q .non H'
abbrev nMInit : List Str := ["self", "program", "takes", "most", "rows", "end"]
theorem scMInit : FnScope nMInit ["self", "program", "takes", "most"] (defScope sMInit) := ⟨rfl, rfl, rfl, by decide +kernel, rfl, by decide +kernel, by decide +kernel⟩
/-- a field set to a new list -/
theorem fld_but {C dx p l : Addr} {H : Hp} {fs : List (Str × V)} {xs : List V} (nl : H l = none) : But p H (upd (upd H l (.lst xs)) p (.ins C dx fs)) := fun a o n e => by
  rw [upd_ne n, upd_ne (ne_of_none e nl)]
  exact e
theorem fld_but2 {C dx p l l2 : Addr} {H : Hp} {fs : List (Str × V)} {xs ys : List V} (nl : H l = none) (nl2 : upd H l (.lst xs) l2 = none) : But p H (upd (upd (upd H l (.lst xs)) l2 (.lst ys)) p (.ins C dx fs)) := fun a o n e => by
  have e1 : upd H l (.lst xs) a = some o := by rw [upd_ne (ne_of_none e nl)]; exact e
  rw [upd_ne n, upd_ne (ne_of_none e1 nl2)]
  exact e1
section
variable {P : Program} {w : World} {K : PySem.W.Frag} {mg : Str → Option Value} {base : Heap}
theorem ok_minit {f C fL : Addr} {fd fdL : FuncData} {t6 : Tok} {k : Nat} (F : Fun K "__init__" "Machine.__init__" sMInit f fd) (T : MTxt K mg C) (B : Bi mg) (h6 : mg "ROOMS" = some (.int 6 t6))
    (DL : Df K mg "leads_of" sLeadsOf ["program"] fL fdL) (GL : FnOk P w K mg base CX0 k fL fdL ["program"] (spLeadsOf K)) : FnOk P w K mg base CX0 (k + 1) f fd ["self", "program", "takes", "most"] (spMInit K C) := by
  refine F.ok scMInit (fun vs H Q E h => ?_) (fun cdv A outer s H vs Q E hr h => ?_)
  · obtain ⟨H0, p, dx, tka, v, most, pr, tk, rfl, _⟩ := h
    rfl
  · obtain ⟨H0, p, dx, tka, v, most, pr, tk, rfl, s0, p0, hp, hP, hT, hO, q⟩ := h
    refine ⟨_, pss_cons (ps_fld (pv 0) (pv 1) rfl) (pss_cons (ps_fld (pv 0) (pv 2) rfl) (pss_cons (ps_fld (pv 0) (pv 3) rfl)
      (pss_cons (ps_fld (pv 0) (pe_call GL hr (by rfl) DL.g DL.F.kp DL.b .nil pass0 (pa_cons (pv 1) pa_nil)) rfl)
      (pss_cons (ps_fld (pv 0) (pe_lst (pa_cons pe_int pa_nil)) rfl)
      (pss_cons (ps_for PassesOwn.never rfl (pi_list (pv 1)) (pg_tup rfl (pgs_cons (pg_name (i := 4) scMInit.nd rfl (.inl rfl)) (pgs_cons (pg_name (i := 5) scMInit.nd rfl (.inl rfl)) pgs_nil)))
        (pss_one (ps_expr (pe_bm PySem.F.plainAttrs_list PySem.F.slot_list_append PySem.F.type_list_append mt_append (pe_fld (pv 0) rfl) (pa_cons (pe_op op_add (pe_ix ix_list (pe_fld (pv 0) rfl) (pe_un un_neg pe_int) (fun _ _ => rfl)) (pe_callB call_len_seq (by rfl) B.len PySem.boot_len (pa_cons (pv 4) pa_nil))) pa_nil)))))
      (pss_cons (ps_fld (pv 0) pe_int rfl)
      (pss_cons (ps_fld (pv 0) (pe_op op_rep (pe_lst (pa_cons pe_int pa_nil)) (pe_ix ix_list (pe_fld (pv 0) rfl) (pe_un un_neg pe_int) (fun _ _ => rfl))) rfl)
      (pss_cons (ps_fld (pv 0) (pe_op op_rep (pe_lst (pa_cons pe_int pa_nil)) (pe_glob (v := .int 6) (by rfl) h6 ⟨_, rfl⟩)) rfl)
      (pss_cons (ps_fld (pv 0) (pe_lst pa_nil) rfl) (pss_cons (ps_fld (pv 0) (pe_lst pa_nil) rfl) (pss_one (ps_fld (pv 0) (pe_lst pa_nil) rfl)))))))))))), ?_⟩
    refine ⟨v, rfl, .ref p, rfl, p, C, dx, [], rfl, hp, T.cl, T.program, (by show 0 < 1000; decide), ?_⟩
    refine ⟨.ref tka, rfl, .ref p, rfl, p, C, dx, _, rfl, upd_same, T.cl, T.takes, (by show 1 < 1000; decide), ?_⟩
    refine ⟨iv most, rfl, .ref p, rfl, p, C, dx, _, rfl, upd_same, T.cl, T.most, (by show 2 < 1000; decide), ?_⟩
    generalize hf3 : putF "most" (iv most) (putF "takes" (V.ref tka) (putF "program" v [])) = f3
    have s1 : Same H0 (upd (upd (upd H p (.ins C dx (putF "program" v []))) p (.ins C dx (putF "takes" (V.ref tka) (putF "program" v [])))) p (.ins C dx f3)) := Same.upd (Same.upd (Same.upd s0 p0) p0) p0
    have e1 : upd (upd (upd H p (.ins C dx (putF "program" v []))) p (.ins C dx (putF "takes" (V.ref tka) (putF "program" v [])))) p (.ins C dx f3) p = some (.ins C dx f3) := upd_same
    generalize upd (upd (upd H p (.ins C dx (putF "program" v []))) p (.ins C dx (putF "takes" (V.ref tka) (putF "program" v [])))) p (.ins C dx f3) = H1 at s1 e1
    have hnmo : namesOk pr.length pr := fun b hb => names_ok (hO.px.rb b hb).2
    refine ⟨v, rfl, v, pr, rfl, hP.same s1, by have := hO.l2; omega, hnmo, fun b _ => names_two b.2, fun lp qs H2 s2 LL2 => ?_⟩
    have e2 := s2 _ _ e1
    refine ⟨.ref p, rfl, p, C, dx, _, rfl, e2, T.cl, T.leads, (by rw [← hf3]; show 3 < 1000; decide), ?_⟩
    -- what stays: all but the machine
    have J0 : frz [p] H2 p = none := by unfold frz; rw [if_pos (by simp)]
    have sJ : Same (frz [p] H2) H2 := frz_same _ _
    have sHJ : Same H0 (frz [p] H2) := fun a o e => frz_at (s2 _ _ (s1 _ _ e)) (by simpa using ne_of_none e p0)
    have hJL : NL K (frz [p] H2) lp ((List.range pr.length).map (spec pr pr.length)) := by
      have nlp : ∀ q ∈ lp :: qs, q ≠ p := fun q hq => (ne_of_none e1 (LL2.new q hq)).symm
      refine ⟨qs, sqL (frz_at LL2.top (by simpa using nlp lp List.mem_cons_self)), ?_⟩
      have := pd_idx (F := fun q xs => SqL K (frz [p] H2) q (xs.map iv)) (f := spec pr pr.length) (l := qs) (k := 0) fun n q e => by rw [Nat.zero_add]; exact sqL (frz_at (LL2.at_ n q e) (by simpa using nlp q (List.mem_cons_of_mem _ (List.mem_of_getElem? e))))
      rw [LL2.len, ← List.range_eq_range'] at this
      exact this
    generalize frz [p] H2 = J at J0 sJ sHJ hJL
    generalize hf4 : putF "leads" (V.ref lp) f3 = f4
    have s3 := Same.upd (o := .ins C dx f4) sJ J0
    have e3 : upd H2 p (.ins C dx f4) p = some (.ins C dx f4) := upd_same
    generalize upd H2 p (.ins C dx f4) = H3 at s3 e3
    refine ⟨szl (show 1 ≤ 1000000 by decide), fun bg nbg => ?_⟩
    have nbp : p ≠ bg := ne_of_none e3 nbg
    refine ⟨.ref p, rfl, p, C, dx, _, rfl, (by rw [upd_ne nbp]; exact e3), T.cl, T.begins, (by rw [← hf4, ← hf3]; show 4 < 1000; decide), ?_⟩
    generalize hf5 : putF "begins" (V.ref bg) f4 = f5
    have b5 : But p H3 (upd (upd H3 bg (.lst [.int 0])) p (.ins C dx f5)) := fld_but nbg
    have hJbg : J bg = none := s3.free nbg
    have s5 := Same.bt s3 J0 b5
    have e5 : upd (upd H3 bg (.lst [.int 0])) p (.ins C dx f5) p = some (.ins C dx f5) := upd_same
    have g5 : upd (upd H3 bg (.lst [.int 0])) p (.ins C dx f5) bg = some (.lst ((List.range (0 + 1)).map fun b => iv (bgn pr b))) := by rw [upd_ne nbp.symm, upd_same]; rfl
    generalize upd (upd H3 bg (.lst [.int 0])) p (.ins C dx f5) = H5 at s5 e5 g5
    have lkb : f5.lookup ("begins" : Str) = some (.ref bg) := by rw [← hf5, lookup_putF, if_pos rfl]
    obtain ⟨pp, bs, hpv, hp1, hp2⟩ := hP
    have hbl : bs.length = pr.length := pd_len hp2
    subst hpv
    have hl12 := hO.l2
    have hJp : SqL K J pp bs := sHJ.seq hp1
    have hrle := rowsL_le hO.rl
    have h130 : pr.length * 130 ≤ 12 * 130 := Nat.mul_le_mul_right _ hl12
    refine ⟨.ref pp, rfl, pp, rfl, ⟨_, s5.seq hJp⟩, ?_⟩
    refine for_list (K := K) (a := pp) (xs := bs) (fun i σ H6 => ∃ y4 y5 : Option V, σ = [some (.ref p), some (.ref pp), some (.ref tka), some (iv most), y4, y5] ∧ Same J H6 ∧ H6 p = some (.ins C dx f5) ∧ H6 bg = some (.lst ((List.range (i + 1)).map fun b => iv (bgn pr b)))) ⟨none, none, rfl, s5, e5, g5⟩ (fun i σ H6 _ hP => ?_) (fun i x σ H6 hx hP => ?_) (fun σ H6 hP => ?_)
    · obtain ⟨_, _, _, s6, _⟩ := hP
      exact s6.seq hJp
    · obtain ⟨y4, y5, rfl, s6, e6, g6⟩ := hP
      have hil := (List.getElem?_eq_some_iff.mp hx).1
      obtain ⟨bk, hb1, pb, ra, ea, vs, rfl, k2, k3, k4, _⟩ := pd_at2 hp2 hx
      have hvl : vs.length = bk.1.length := pd_len k4
      have hbk : rowsB pr i = bk.1 := by unfold rowsB; rw [List.getD_eq_getElem?_getD, hb1]; rfl
      have sH6 := sHJ.trans s6
      refine ⟨pb, _, rfl, Same.tup sH6 k2, rfl, _, _, rfl, _, _, rfl, rfl, ?_⟩
      have hra6 := sH6 _ _ k3
      have hlast : atI ((List.range (i + 1)).map fun b => iv (bgn pr b)) (-1) = some (iv (bgn pr i)) := by rw [List.range_succ, List.map_append]; exact atI_last _ _
      refine ⟨.ref p, rfl, p, C, dx, _, _, rfl, e6, T.cl, T.begins, lkb, .inl ⟨rfl, _, sqL g6⟩, .ref p, rfl, p, C, dx, _, _, rfl, e6, T.cl, T.begins, lkb, _, rfl, bg, _, _, _, rfl, rfl, sqL g6, hlast, .ref ra, rfl, ra, _, rfl, .inl (sqL hra6), _, _, rfl, rfl, bg, _, _, rfl, rfl, g6, by rw [List.length_map, List.length_range]; exact szt (by omega), ?_⟩
      refine ⟨_, _, rfl, Same.upd s6 hJbg, by rw [upd_ne nbp]; exact e6, ?_⟩
      rw [upd_same, List.range_succ (n := i + 1), List.map_append]
      show some (HO.lst (List.map (fun b => iv (bgn pr b)) (List.range (i + 1)) ++ [V.int ((bgn pr i : Int) + (vs.length : Int))])) = some (HO.lst (List.map (fun b => iv (bgn pr b)) (List.range (i + 1)) ++ [iv (bgn pr (i + 1))]))
      rw [bgn_succ' hbk hvl (by omega)]
      rfl
    · obtain ⟨y4, y5, rfl, s6, e6, g6⟩ := hP
      rw [hbl] at g6
      have hlast : atI ((List.range (pr.length + 1)).map fun b => iv (bgn pr b)) (-1) = some (iv (rowsL pr).length) := by
        rw [List.range_succ, List.map_append, ← bgn_all]; exact atI_last _ _
      refine ⟨.ref p, rfl, p, C, dx, _, rfl, e6, T.cl, T.steps, (by rw [← hf5, ← hf4, ← hf3]; show 5 < 1000; decide), ?_⟩
      generalize hf7 : putF "steps" (V.int 0) f5 = f7
      have b7 : But p H6 (upd H6 p (.ins C dx f7)) := But.upd
      have s7 := Same.bt s6 J0 b7
      have e7 : upd H6 p (.ins C dx f7) p = some (.ins C dx f7) := upd_same
      have g7 := b7 _ _ nbp.symm g6
      generalize upd H6 p (.ins C dx f7) = H7 at s7 e7 g7
      have lkb7 : f7.lookup ("begins" : Str) = some (.ref bg) := by rw [← hf7, lookup_putF, if_neg (by decide +kernel)]; exact lkb
      -- lasts
      refine ⟨szl (show 1 ≤ 1000000 by decide), fun l1 nl1 => ?_⟩
      have t1 := new_same (o := .lst [.int 0]) nl1
      refine ⟨.ref p, rfl, p, C, dx, _, _, rfl, t1 _ _ e7, T.cl, T.begins, lkb7, _, rfl, bg, _, _, _, rfl, rfl, sqL (t1 _ _ g7), hlast, l1, _, _, rfl, rfl, upd_same, by omega, by omega, ?_, fun la nla => ?_⟩
      · rw [Int.toNat_natCast]
        exact szl (by show 1 * (rowsL pr).length ≤ 1000000; omega)
      rw [Int.toNat_natCast, rep0]
      have npla : p ≠ la := ne_of_none (t1 _ _ e7) nla
      have nbla : bg ≠ la := ne_of_none (t1 _ _ g7) nla
      have n7la : H7 la = none := t1.free nla
      refine ⟨.ref p, rfl, p, C, dx, _, rfl, (by rw [upd_ne npla]; exact t1 _ _ e7), T.cl, T.lasts, (by rw [← hf7, ← hf5, ← hf4, ← hf3]; show 6 < 1000; decide), ?_⟩
      generalize hf8 : putF "lasts" (V.ref la) f7 = f8
      have b8 : But p H7 (upd (upd (upd H7 l1 (.lst [.int 0])) la (.lst ((List.replicate (rowsL pr).length (0 : Int)).map V.int))) p (.ins C dx f8)) := fld_but2 nl1 nla
      have e8 : upd (upd (upd H7 l1 (.lst [.int 0])) la (.lst ((List.replicate (rowsL pr).length (0 : Int)).map V.int))) p (.ins C dx f8) p = some (.ins C dx f8) := upd_same
      have la8 : upd (upd (upd H7 l1 (.lst [.int 0])) la (.lst ((List.replicate (rowsL pr).length (0 : Int)).map V.int))) p (.ins C dx f8) la = some (.lst ((List.replicate (rowsL pr).length (0 : Int)).map V.int)) := by rw [upd_ne npla.symm, upd_same]
      generalize upd (upd (upd H7 l1 (.lst [.int 0])) la (.lst ((List.replicate (rowsL pr).length (0 : Int)).map V.int))) p (.ins C dx f8) = H8 at b8 e8 la8
      have s8 := Same.bt s7 J0 b8
      have g8 := b8 _ _ nbp.symm g7
      -- rooms
      refine ⟨szl (show 1 ≤ 1000000 by decide), fun l2 nl2 => ?_⟩
      have t2 := new_same (o := .lst [.int 0]) nl2
      refine ⟨l2, _, _, rfl, rfl, upd_same, by decide, by decide, szl (show 1 * 6 ≤ 1000000 by decide), fun ro nro => ?_⟩
      have e66 : (List.replicate (Int.toNat 6) [V.int 0]).flatten = (List.replicate 6 (0 : Int)).map V.int := rep0 6
      rw [e66]
      have npro : p ≠ ro := ne_of_none (t2 _ _ e8) nro
      refine ⟨.ref p, rfl, p, C, dx, _, rfl, (by rw [upd_ne npro]; exact t2 _ _ e8), T.cl, T.rooms, (by rw [← hf8, ← hf7, ← hf5, ← hf4, ← hf3]; show 7 < 1000; decide), ?_⟩
      generalize hf9 : putF "rooms" (V.ref ro) f8 = f9
      have b9 : But p H8 (upd (upd (upd H8 l2 (.lst [.int 0])) ro (.lst ((List.replicate 6 (0 : Int)).map V.int))) p (.ins C dx f9)) := fld_but2 nl2 nro
      have e9 : upd (upd (upd H8 l2 (.lst [.int 0])) ro (.lst ((List.replicate 6 (0 : Int)).map V.int))) p (.ins C dx f9) p = some (.ins C dx f9) := upd_same
      have ro9 : upd (upd (upd H8 l2 (.lst [.int 0])) ro (.lst ((List.replicate 6 (0 : Int)).map V.int))) p (.ins C dx f9) ro = some (.lst ((List.replicate 6 (0 : Int)).map V.int)) := by rw [upd_ne npro.symm, upd_same]
      have n8ro : H8 ro = none := t2.free nro
      generalize upd (upd (upd H8 l2 (.lst [.int 0])) ro (.lst ((List.replicate 6 (0 : Int)).map V.int))) p (.ins C dx f9) = H9 at b9 e9 ro9
      have s9 := Same.bt s8 J0 b9
      have g9 := b9 _ _ nbp.symm g8
      have la9 := b9 _ _ npla.symm la8
      -- way
      refine ⟨Nat.zero_le _, fun wy nwy => ?_⟩
      have npwy : p ≠ wy := ne_of_none e9 nwy
      refine ⟨.ref p, rfl, p, C, dx, _, rfl, (by rw [upd_ne npwy]; exact e9), T.cl, T.way, (by rw [← hf9, ← hf8, ← hf7, ← hf5, ← hf4, ← hf3]; show 8 < 1000; decide), ?_⟩
      generalize hfa : putF "way" (V.ref wy) f9 = fa
      have ba : But p H9 (upd (upd H9 wy (.lst [])) p (.ins C dx fa)) := fld_but nwy
      have ea : upd (upd H9 wy (.lst [])) p (.ins C dx fa) p = some (.ins C dx fa) := upd_same
      have wya : upd (upd H9 wy (.lst [])) p (.ins C dx fa) wy = some (.lst []) := by rw [upd_ne npwy.symm, upd_same]
      generalize upd (upd H9 wy (.lst [])) p (.ins C dx fa) = Ha at ba ea wya
      have sa := Same.bt s9 J0 ba
      have ga := ba _ _ nbp.symm g9
      have laa := ba _ _ npla.symm la9
      have roa := ba _ _ npro.symm ro9
      -- told
      refine ⟨Nat.zero_le _, fun te nte => ?_⟩
      have npte : p ≠ te := ne_of_none ea nte
      refine ⟨.ref p, rfl, p, C, dx, _, rfl, (by rw [upd_ne npte]; exact ea), T.cl, T.told, (by rw [← hfa, ← hf9, ← hf8, ← hf7, ← hf5, ← hf4, ← hf3]; show 9 < 1000; decide), ?_⟩
      generalize hfb : putF "told" (V.ref te) fa = fb
      have bb : But p Ha (upd (upd Ha te (.lst [])) p (.ins C dx fb)) := fld_but nte
      have eb : upd (upd Ha te (.lst [])) p (.ins C dx fb) p = some (.ins C dx fb) := upd_same
      have teb : upd (upd Ha te (.lst [])) p (.ins C dx fb) te = some (.lst []) := by rw [upd_ne npte.symm, upd_same]
      generalize upd (upd Ha te (.lst [])) p (.ins C dx fb) = Hb at bb eb teb
      have sb := Same.bt sa J0 bb
      have gb := bb _ _ nbp.symm ga
      have lab := bb _ _ npla.symm laa
      have rob := bb _ _ npro.symm roa
      have wyb := bb _ _ npwy.symm wya
      -- done
      refine ⟨Nat.zero_le _, fun dn ndn => ?_⟩
      have npdn : p ≠ dn := ne_of_none eb ndn
      refine ⟨.ref p, rfl, p, C, dx, _, rfl, (by rw [upd_ne npdn]; exact eb), T.cl, T.done, (by rw [← hfb, ← hfa, ← hf9, ← hf8, ← hf7, ← hf5, ← hf4, ← hf3]; show 10 < 1000; decide), ?_⟩
      have bc : But p Hb (upd (upd Hb dn (.lst [])) p (.ins C dx (putF "done" (V.ref dn) fb))) := fld_but ndn
      have dnc : upd (upd Hb dn (.lst [])) p (.ins C dx (putF "done" (V.ref dn) fb)) dn = some (.lst []) := by rw [upd_ne npdn.symm, upd_same]
      have ec : upd (upd Hb dn (.lst [])) p (.ins C dx (putF "done" (V.ref dn) fb)) p = some (.ins C dx (mf ⟨.ref pp, tka, most, lp, bg, la, ro, wy, te, dn, dx⟩ 0)) := by
        rw [upd_same, ← hfb, ← hfa, ← hf9, ← hf8, ← hf7, ← hf5, ← hf4, ← hf3]
        rfl
      generalize upd (upd Hb dn (.lst [])) p (.ins C dx (putF "done" (V.ref dn) fb)) = Hc at bc dnc ec
      have sc := Same.bt sb J0 bc
      have sI : Same (upd J bg (.lst ((List.range (pr.length + 1)).map fun b => iv (bgn pr b)))) Hc := fun a o e => by
        by_cases z : a = bg
        · subst z
          rw [upd_same] at e
          rw [← e]
          exact bc _ _ nbp.symm gb
        · rw [upd_ne z] at e
          exact sc _ _ e
      have sJI : Same J (upd J bg (.lst ((List.range (pr.length + 1)).map fun b => iv (bgn pr b)))) := new_same hJbg
      have nI : ∀ {a : Addr}, J a = none → a ≠ bg → upd J bg (.lst ((List.range (pr.length + 1)).map fun b => iv (bgn pr b))) a = none := fun {a} h1 h2 => by rw [upd_ne h2]; exact h1
      have n8la := b8
      have nrola : la ≠ ro := ne_of_none la8 n8ro
      have nwyla : la ≠ wy := ne_of_none la9 nwy
      have nwyro : ro ≠ wy := ne_of_none ro9 nwy
      have ntela : la ≠ te := ne_of_none laa nte
      have ntero : ro ≠ te := ne_of_none roa nte
      have ntewy : wy ≠ te := ne_of_none wya nte
      have ndnla : la ≠ dn := ne_of_none lab ndn
      have ndnro : ro ≠ dn := ne_of_none rob ndn
      have ndnwy : wy ≠ dn := ne_of_none wyb ndn
      have ndnte : te ≠ dn := ne_of_none teb ndn
      refine q (upd J bg (.lst ((List.range (pr.length + 1)).map fun b => iv (bgn pr b)))) ⟨.ref pp, tka, most, lp, bg, la, ro, wy, te, dn, dx⟩ Hc (sHJ.trans sJI) rfl ⟨sI, fun a ha => ?_, ?_, ec, bc _ _ npla.symm lab, bc _ _ npro.symm rob, bc _ _ npwy.symm wyb, bc _ _ npte.symm teb, [], dnc, .nil⟩ ⟨⟨pp, bs, rfl, sJI.seq hJp, pd_mono hp2 fun _ _ z => z.same (sHJ.trans sJI)⟩, (sHJ.trans sJI).seq hT, hO.tl, hO.tb, hJL.same sJI, sqL upd_same, hO.l1, hO.l2, hO.px, hO.nx, hO.rl⟩
      · simp only [List.mem_cons, List.not_mem_nil, or_false] at ha
        rcases ha with rfl | rfl | rfl | rfl | rfl | rfl
        · exact nI J0 nbp
        · exact nI (s7.free n7la) nbla.symm
        · exact nI (s8.free n8ro) (ne_of_none g8 n8ro).symm
        · exact nI (s9.free nwy) (ne_of_none g9 nwy).symm
        · exact nI (sa.free nte) (ne_of_none ga nte).symm
        · exact nI (sb.free ndn) (ne_of_none gb ndn).symm
      · simp only [List.nodup_cons, List.mem_cons, List.not_mem_nil, or_false, not_or, List.nodup_nil, and_true, not_false_eq_true]
        exact ⟨⟨npla, npro, npwy, npte, npdn⟩, ⟨nrola, nwyla, ntela, ndnla⟩, ⟨nwyro, ntero, ndnro⟩, ⟨ntewy, ndnwy⟩, ndnte⟩
end
end Gn
set_option Elab.async false
set_option linter.all false
set_option maxRecDepth 100000
set_option maxHeartbeats 8000000
namespace Gn
open PySem PySem.Spec PyProof.Rows L2
/-! ### takes -/
def spTakes : Sp := fun vs H Q _ => ∃ (t : Addr) (c : Nat), vs = [.ref t] ∧ Tape H t c ∧ c + 12 ≤ 100000000 ∧
  ∀ (p : Addr) (tk : List Int) (H' : Hp), But t H H' → Tape H' t (c + 12) → H p = none → p ≠ t → H' p = some (.lst (tk.map V.int)) → tk.length = 6 → (∀ x ∈ tk, -20 ≤ x ∧ x ≤ 10 ^ 12) → Q (.ref p) H'
abbrev nTakes : List Str := ["_law_tape_here", "_law_k"]
theorem scTakes : FnScope nTakes ["_law_tape_here"] (defScope sTakes) := ⟨rfl, rfl, rfl, by decide +kernel, rfl, by decide +kernel, by decide +kernel⟩
abbrev teTakes (K : PySem.W.Frag) : TE := tIxL K (tLst (tCons (tC (.int 0)) (tCons (tC (.int 1)) (tCons (tUn (rU fun i => .int (-i)) (tC (.int 1))) (tCons (tC (.int 2)) (tCons (tOp (rI CPow fun i j => .int (i ^ j.toNat)) (tC (.int 10)) (tC (.int 12))) (tCons (tC (.int 7)) (tCons (tOp (rI0 fun i j => .int (i - j)) (tDr (tVar 0) (tC (.int 41))) (tC (.int 20))) tNil)))))))) (tDr (tVar 0) (tC (.int 7)))
section
variable {P : Program} {w : World} {K : PySem.W.Frag} {mg : Str → Option Value} {base : Heap}
theorem ok_takes {f fD : Addr} {fd fdD : FuncData} {k : Nat} (D : Df K mg "_law_takes" sTakes ["_law_tape_here"] f fd) (B : Bi mg) (DD : Df K mg "_law_draw" sDraw ["_law_tape_here", "_law_many_here"] fD fdD)
    (GD : FnOk P w K mg base CX0 k fD fdD ["_law_tape_here", "_law_many_here"] spDraw) : FnOk P w K mg base CX0 (k + 1) f fd ["_law_tape_here"] spTakes := by
  refine D.F.ok scTakes (fun vs H Q E h => ?_) (fun cdv A outer s H vs Q E hr h => ?_)
  · obtain ⟨t, c, rfl, _⟩ := h
    rfl
  · obtain ⟨t, c, rfl, hT, hc, q⟩ := h
    refine ⟨_, pss_one (ps_ret (pe_lc (own := [("_law_k", 1)]) (g := gName 1) (tt := tYes) (te := teTakes K) rfl scTakes.nd (pi_range1 (by rfl) B.range (pa_cons pe_int pa_nil))
      (blkOk_by (own := [("_law_k", 1)]) (N := nTakes) (sc := defScope sTakes) (by decide +kernel)) (fun _ _ _ _ _ => pg_name (i := 1) scTakes.nd rfl (.inl rfl)) (fun _ _ _ _ _ => pts_nil)
      (fun _ _ _ _ _ => pe_ix ix_list (pe_lst (pa_cons pe_int (pa_cons pe_int (pa_cons (pe_un un_neg pe_int) (pa_cons pe_int (pa_cons (pe_op op_pow pe_int pe_int) (pa_cons pe_int (pa_cons (pe_op op_sub (pe_call GD hr (by rfl) DD.g DD.F.kp DD.b .nil pass0 (pa_cons (pv 0) (pa_cons pe_int pa_nil))) pe_int) pa_nil)))))))) (pe_call GD hr (by rfl) DD.g DD.F.kp DD.b .nil pass0 (pa_cons (pv 0) (pa_cons pe_int pa_nil))) (fun _ _ => rfl)))), ?_⟩
    refine ⟨6, rfl, by decide, by decide, fun L nL => ?_⟩
    have nLt : L ≠ t := hT.ne nL
    refine lc_range (lo := 0) (n := 6) (fun i H1 => But t H H1 ∧ Tape H1 t (c + 2 * i) ∧ ∃ tk : List Int, H1 L = some (.lst (tk.map V.int)) ∧ tk.length = i ∧ ∀ x ∈ tk, -20 ≤ x ∧ x ≤ 10 ^ 12) ⟨Same.but (new_same nL), hT.same (new_same nL), [], upd_same, rfl, fun x h => (by cases h)⟩ (fun i H1 hi hP => ?_) (fun H1 hP => ?_)
    · obtain ⟨b1, T1, tk, eL, hl, hb⟩ := hP
      have hi6 : i < 6 := hi
      refine ⟨rfl, 1, rfl, _, _, rfl, rfl, ⟨by decide, by decide, by decide⟩, .ref t, rfl, t, 41, c + 2 * i, rfl, T1, by omega, by decide, by decide, fun r1 H2 h2 b2 T2 => ?_⟩
      refine ⟨_, _, rfl, rfl, szl (show 7 ≤ 1000000 by decide), fun p np => ?_⟩
      have sp := new_same (o := .lst [.int 0, .int 1, .int (-1), .int 2, .int (10 ^ (12 : Int).toNat), .int 7, .int ((r1 : Int) - 20)]) np
      have npt : p ≠ t := T2.ne np
      refine ⟨.ref t, rfl, t, 7, c + 2 * i + 1, rfl, T2.same sp, by omega, by decide, by decide, fun r2 H3 h3 b3 T3 => ?_⟩
      have hr2 : r2 < 7 := by omega
      have b23 : But t H1 H3 := (b2.trans (Same.but sp)).trans b3
      have eL3 := b23 _ _ nLt eL
      have fin : ∀ v : Int, (-20 ≤ v ∧ v ≤ 10 ^ 12) → ∃ acc, H3 L = some (.lst acc) ∧ acc.length < sizeLine ∧ But t H (upd H3 L (.lst (acc ++ [.int v]))) ∧ Tape (upd H3 L (.lst (acc ++ [.int v]))) t (c + 2 * (i + 1)) ∧ ∃ tk : List Int, upd H3 L (.lst (acc ++ [.int v])) L = some (.lst (tk.map V.int)) ∧ tk.length = i + 1 ∧ ∀ x ∈ tk, -20 ≤ x ∧ x ≤ 10 ^ 12 := fun v hv => by
        refine ⟨_, eL3, by rw [List.length_map]; exact szt (by omega), fun a o n e => ?_, ?_, tk ++ [v], by rw [upd_same, List.map_append]; rfl, by rw [List.length_append, List.length_singleton, hl], fun x hx => ?_⟩
        · rw [upd_ne (ne_of_none e nL)]
          exact (b1.trans b23) a o n e
        · obtain ⟨x, y, z, q1, q2⟩ := T3
          exact ⟨x, y, z, by rw [upd_ne nLt.symm]; exact q1, q2.1, q2.2.1, q2.2.2.1, q2.2.2.2.1, by have := q2.2.2.2.2; omega⟩
        · rcases List.mem_append.mp hx with z | z
          · exact hb x z
          · rw [List.mem_singleton.mp z]; exact hv
      refine ⟨p, _, _, _, rfl, rfl, sqL (b3 p _ npt upd_same), at_lt (show r2 < 7 from hr2), ?_⟩
      match r2, hr2 with
      | 0, _ => exact fin 0 (by decide)
      | 1, _ => exact fin 1 (by decide)
      | 2, _ => exact fin (-1) (by decide)
      | 3, _ => exact fin 2 (by decide)
      | 4, _ => exact fin (10 ^ 12) (by decide)
      | 5, _ => exact fin 7 (by decide)
      | 6, _ => exact fin ((r1 : Int) - 20) ⟨by omega, by omega⟩
    · obtain ⟨b1, T1, tk, eL, hl, hb⟩ := hP
      exact q L tk H1 b1 T1 nL nLt eL hl hb
end
end Gn
set_option Elab.async false
set_option linter.all false
set_option maxRecDepth 100000
set_option maxHeartbeats 4000000
namespace Gn
open PySem PySem.Spec PyProof.Rows L2
/-! ### what a run has done where it is: every block above the one that is come to -/
def Eo (pr : List Blk) (a : Nat) : List Nat := (endB pr a).names
def keysD (s : MSt) : List Nat := s.done.map (·.1)
def BlkDone (pr : List Blk) (s : MSt) (a : Nat) : Prop := ∀ k, bgn pr a ≤ k → k < bgn pr (a + 1) → k ∈ keysD s
structure AtRow (pr : List Blk) (b i : Nat) (s : MSt) : Prop where
  rc : ∀ x, x ∉ s.way → Rc (Eo pr) x b
  here : b ∈ s.way
  dn : ∀ a ∈ s.way, a ≠ b → BlkDone pr s a
  row : ∀ k, bgn pr b ≤ k → k < bgn pr b + i → k ∈ keysD s
def CI (pr : List Blk) : Cfg → Prop
  | .come b _ s => (∀ x, x ∉ s.way → x ≠ b → Rc (Eo pr) x b) ∧ ∀ a ∈ s.way, BlkDone pr s a
  | .row b i _ s => i < (rowsB pr b).length ∧ AtRow pr b i s
  | .ended _ => True
  | .great _ => True
theorem bgn_nxt (pr : List Blk) (b : Nat) : bgn pr (b + 1) = bgn pr b + (rowsB pr b).length := by
  unfold bgn rowsB
  by_cases h : b < pr.length
  · rw [List.take_add_one, List.getElem?_eq_getElem h, List.getD_eq_getElem?_getD, List.getElem?_eq_getElem h]
    exact rowsL_snoc _ _
  · rw [List.take_of_length_le (by omega), List.take_of_length_le (by omega), List.getD_eq_getElem?_getD, List.getElem?_eq_none (by omega)]
    rfl
theorem next_in {pr : List Blk} {s : MSt} {b c : Nat} (h : nextB s (endB pr b) = some c) : c ∈ Eo pr b := by
  unfold Eo
  cases he : endB pr b with
  | go d =>
    rw [he] at h
    cases h
    exact List.mem_singleton.mpr rfl
  | iff r x y =>
    rw [he] at h
    have h : (if LI s.lasts r ≠ 0 then x else y) = c := Option.some.inj h
    rw [← h]
    by_cases z : LI s.lasts r ≠ 0
    · rw [if_pos z]; simp [En.names]
    · rw [if_neg z]; simp [En.names]
  | fin =>
    rw [he] at h
    cases h
theorem AtRow.norm {pr : List Blk} {b i : Nat} {s : MSt} {bl : List Int} (h : AtRow pr b i s) (hi : i ≤ (rowsB pr b).length) : CI pr (norm pr b i bl s) := by
  unfold Gn.norm
  by_cases hl : i < (rowsB pr b).length
  · rw [if_pos hl]
    exact ⟨hl, h⟩
  · rw [if_neg hl]
    cases hn : nextB s (endB pr b) with
    | none => exact trivial
    | some c =>
      refine ⟨fun x hx hxc => .s (h.rc x hx) (next_in hn) (Ne.symm hxc), fun a ha => ?_⟩
      by_cases hab : a = b
      · subst hab
        intro k h1 h2
        rw [bgn_nxt] at h2
        exact h.row k h1 (by omega)
      · exact h.dn a ha hab
theorem keys_doR {j : Nat} {r : Rw} {w : Option Int} {s : MSt} : keysD (doR j r w s) = keysD s ++ [j] ∧ (doR j r w s).way = s.way := by
  cases r <;> exact ⟨by simp [keysD, doR], rfl⟩
theorem CI.step {pr : List Blk} {tk : List Int} {c : Cfg} (h : CI pr c) : CI pr (stepC pr tk c) := by
  cases c with
  | ended s => exact trivial
  | great s => exact trivial
  | come b bl s =>
    obtain ⟨h1, h2⟩ := h
    refine AtRow.norm (i := 0) ⟨fun x hx => ?_, ?_, fun a ha hab => ?_, fun k k1 k2 => by omega⟩ (Nat.zero_le _)
    · have hx : x ∉ s.way ++ [b] := hx
      rw [List.mem_append, not_or, List.mem_singleton] at hx
      exact h1 x hx.1 hx.2
    · show b ∈ s.way ++ [b]
      simp
    · have ha : a ∈ s.way ++ [b] := ha
      rcases List.mem_append.mp ha with z | z
      · exact h2 a z
      · exact absurd (List.mem_singleton.mp z) hab
  | row b i bl s =>
    obtain ⟨hi, h⟩ := h
    show CI pr (if too (wAt pr tk b i bl s) = true then .great s else _)
    by_cases ht : too (wAt pr tk b i bl s) = true
    · rw [if_pos ht]
      exact trivial
    · rw [if_neg ht]
      obtain ⟨e1, e2⟩ := keys_doR (j := bgn pr b + i) (r := rwAt pr b i) (w := wAt pr tk b i bl s) (s := s)
      have up : ∀ k, k ∈ keysD s → k ∈ keysD (doR (bgn pr b + i) (rwAt pr b i) (wAt pr tk b i bl s) s) := fun k hk => by
        rw [e1]
        exact List.mem_append_left _ hk
      refine AtRow.norm ⟨fun x hx => h.rc x (by rw [e2] at hx; exact hx), by rw [e2]; exact h.here, fun a ha hab k k1 k2 => up k (h.dn a (by rw [e2] at ha; exact ha) hab k k1 k2), fun k k1 k2 => ?_⟩ hi
      by_cases z : k = bgn pr b + i
      · rw [e1, z]
        simp
      · exact up k (h.row k k1 (by omega))
theorem CI.first (pr : List Blk) : CI pr (.come 0 [] (MSt.first pr)) := ⟨fun x _ h => .z h, fun a h => by cases h⟩
theorem CI.run (pr : List Blk) (tk : List Int) : ∀ n, CI pr (runC pr tk n) := fun n => by
  unfold runC
  induction n with
  | zero => exact CI.first pr
  | succ n ih =>
    rw [itC_succ]
    exact ih.step
/-- a row of a block that is on all ways to b, ahead of where the run is, was done -/
theorem AtRow.done {pr : List Blk} {b i a k : Nat} {s : MSt} (h : AtRow pr b i s) (ha : ¬ Rc (Eo pr) a b) (h1 : bgn pr a ≤ k) (h2 : k < bgn pr (a + 1)) (h3 : a = b → k < bgn pr b + i) : k ∈ keysD s := by
  have hw : a ∈ s.way := Classical.byContradiction fun z => ha (h.rc a z)
  by_cases hab : a = b
  · subst hab
    exact h.row k h1 (h3 rfl)
  · exact h.dn a hw hab k h1 h2
theorem row_at {pr : List Blk} {b i : Nat} (hb : b < pr.length) (hi : i < (rowsB pr b).length) : (rowsL pr)[bgn pr b + i]? = some (rwAt pr b i) := by
  have hs : pr = pr.take b ++ pr[b] :: pr.drop (b + 1) := by rw [← List.drop_eq_getElem_cons hb, List.take_append_drop]
  have hr : rowsL pr = rowsL (pr.take b) ++ (pr[b].1 ++ rowsL (pr.drop (b + 1))) := by
    conv => lhs; rw [hs]
    unfold rowsL
    rw [List.map_append, List.flatten_append, List.map_cons, List.flatten_cons]
  have hB : rowsB pr b = pr[b].1 := by
    unfold rowsB
    rw [List.getD_eq_getElem?_getD, List.getElem?_eq_getElem hb]
    rfl
  rw [hB] at hi
  unfold rwAt
  rw [hB, hr, List.getElem?_append_right (by unfold bgn; omega), show bgn pr b + i - (rowsL (pr.take b)).length = i by unfold bgn; omega, List.getElem?_append_left hi, List.getD_eq_getElem?_getD, List.getElem?_eq_getElem hi]
  rfl
theorem find_blk (pr : List Blk) : ∀ n k, k < bgn pr n → ∃ i, i < n ∧ bgn pr i ≤ k ∧ k < bgn pr (i + 1)
  | 0, k, h => absurd h (Nat.not_lt_zero k)
  | n + 1, k, h => by
    by_cases z : k < bgn pr n
    · obtain ⟨i, a1, a2, a3⟩ := find_blk pr n k z
      exact ⟨i, by omega, a2, a3⟩
    · exact ⟨n, by omega, by omega, h⟩
theorem Eo_nx (pr : List Blk) : (fun a => (pr.map fun b => b.2.names).getD a []) = Eo pr := by
  funext a
  unfold Eo endB
  rw [List.getD_eq_getElem?_getD, List.getD_eq_getElem?_getD, List.getElem?_map]
  cases pr[a]? <;> rfl
/-- where a row that stands at b lies -/
theorem PrS.lies {st : Sta} {pr : List Blk} (S : PrS st pr) {b y : Nat} (hb : b < pr.length) (hy : y ∈ standL st b) : ∃ a, a < pr.length ∧ ¬ Rc (Eo pr) a b ∧ bgn pr a ≤ y ∧ y < bgn pr (a + 1) ∧ st.blocks.getD y 0 = a ∧ (st.rows.getD y (.take 0)).worthy = true := by
  obtain ⟨h1, h2⟩ := List.mem_filter.mp hy
  have hyl := List.mem_range.mp h1
  rw [Bool.and_eq_true] at h2
  obtain ⟨h2, h3⟩ := h2
  have h2 := of_decide_eq_true h2
  have hyr : y < bgn pr pr.length := by
    rw [bgn_all, S.rows]
    exact hyl
  obtain ⟨i, i1, i2, i3⟩ := find_blk pr pr.length y hyr
  have e := S.own i y i1 i2 i3
  refine ⟨i, i1, ?_, i2, i3, e, h3⟩
  rw [e, S.ab] at h2
  unfold abv at h2
  rw [List.getD_eq_getElem?_getD, List.getElem?_map, List.getElem?_eq_getElem (by rw [List.length_range, List.length_map]; exact hb), List.getElem_range] at h2
  have h4 := (List.mem_filter.mp h2).2
  rw [← Eo_nx]
  exact dB_iff.mp h4
theorem PrS.done {st : Sta} {pr : List Blk} (S : PrS st pr) {b i y : Nat} {s : MSt} (hb : b < pr.length) (h : AtRow pr b i s) (hy : y ∈ standL st b) (hlt : st.blocks.getD y 0 = b → y < bgn pr b + i) : y ∈ keysD s := by
  obtain ⟨a, a1, a2, a3, a4, a5, _⟩ := S.lies hb hy
  exact h.done a2 a3 a4 fun z => hlt (by rw [a5, z])
/-- the row that is to be done: what it names was done -/
theorem PrS.used {st : Sta} {pr : List Blk} (S : PrS st pr) {b i y : Nat} {s : MSt} (hb : b < pr.length) (hi : i < (rowsB pr b).length) (h : AtRow pr b i s) (hy : y ∈ (rwAt pr b i).used) : y ∈ keysD s ∧ (st.rows.getD y (.take 0)).worthy = true := by
  have hk : bgn pr b + i < (rowsL pr).length := bgn_lt hb hi
  have hown := S.own b (bgn pr b + i) hb (Nat.le_add_right _ _) (by show bgn pr b + i < bgn pr (b + 1); rw [bgn_nxt]; omega)
  have hrow : st.rows[bgn pr b + i]? = some (rwAt pr b i) := by
    rw [← S.rows]
    exact row_at hb hi
  obtain ⟨u1, u2⟩ := S.su _ _ hrow y hy
  rw [hown] at u2
  obtain ⟨_, _, _, _, _, _, hw⟩ := S.lies hb u2
  exact ⟨S.done hb h u2 fun _ => u1, hw⟩
end Gn
set_option Elab.async false
set_option linter.all false
set_option maxRecDepth 100000
set_option maxHeartbeats 4000000
namespace Gn
open PySem PySem.Spec PyProof.Rows L2
/-! ### the last worth of a row that was done -/
theorem PrS.atEnd {st : Sta} {pr : List Blk} (S : PrS st pr) {b y : Nat} {s : MSt} (hb : b < pr.length) (h : AtRow pr b (rowsB pr b).length s) (hy : y ∈ standL st b) : y ∈ keysD s ∧ (st.rows.getD y (.take 0)).worthy = true := by
  obtain ⟨a, a1, a2, a3, a4, a5, hw⟩ := S.lies hb hy
  refine ⟨h.done a2 a3 a4 fun z => ?_, hw⟩
  rw [z, bgn_nxt] at a4
  exact a4
def lastD : List (Nat × Option Int) → Nat → Option (Option Int)
  | [], _ => none
  | (k, w) :: d, y => match lastD d y with
    | some v => some v
    | none => if k = y then some w else none
theorem lastD_snoc (d : List (Nat × Option Int)) (k : Nat) (w : Option Int) (y : Nat) : lastD (d ++ [(k, w)]) y = if k = y then some w else lastD d y := by
  induction d with
  | nil => rfl
  | cons x d ih =>
    obtain ⟨k', w'⟩ := x
    show (match lastD (d ++ [(k, w)]) y with | some v => some v | none => if k' = y then some w' else none) = _
    rw [ih]
    by_cases h : k = y
    · rw [if_pos h, if_pos h]
    · rw [if_neg h, if_neg h]
      rfl
theorem lastD_key {d : List (Nat × Option Int)} {y : Nat} (h : y ∈ d.map (·.1)) : ∃ w, lastD d y = some w := by
  induction d with
  | nil => cases h
  | cons x d ih =>
    obtain ⟨k, w⟩ := x
    show ∃ w', (match lastD d y with | some v => some v | none => if k = y then some w else none) = some w'
    cases e : lastD d y with
    | some v => exact ⟨v, rfl⟩
    | none =>
      rcases List.mem_cons.mp h with z | z
      · exact ⟨w, if_pos z.symm⟩
      · obtain ⟨w', e'⟩ := ih z
        rw [e] at e'
        cases e'
/-- the rows done have their last worths in lasts -/
structure LW (pr : List Blk) (s : MSt) : Prop where
  len : s.lasts.length = (rowsL pr).length
  val : ∀ y w, lastD s.done y = some w → ((rowsL pr).getD y (.take 0)).worthy = true → w = some (LI s.lasts y)
theorem wAt_worthy {pr : List Blk} {tk : List Int} {b i : Nat} {bl : List Int} {s : MSt} (h : (rwAt pr b i).worthy = true) : ∃ v, wAt pr tk b i bl s = some v := by
  unfold wAt
  generalize rwAt pr b i = r at h
  cases r with
  | meet ps => exact ⟨_, rfl⟩
  | tell x => cases h
  | lay rs x y => cases h
  | take i => exact ⟨_, rfl⟩
  | num n => exact ⟨_, rfl⟩
  | bin b x y => exact ⟨_, rfl⟩
  | pick x ps => exact ⟨_, rfl⟩
  | look rs x => exact ⟨_, rfl⟩
theorem LI_set {xs : List Int} {k y : Nat} {v : Int} (h : k < xs.length) : LI (xs.set k v) y = if k = y then v else LI xs y := by
  unfold LI
  rw [List.getD_eq_getElem?_getD, List.getD_eq_getElem?_getD, List.getElem?_set]
  by_cases e : k = y
  · subst e
    rw [if_pos rfl, if_pos rfl, if_pos h]
    rfl
  · rw [if_neg e, if_neg e]
theorem LW.row {pr : List Blk} {tk : List Int} {b i : Nat} {bl : List Int} {s : MSt} (h : LW pr s) (hb : b < pr.length) (hi : i < (rowsB pr b).length) : LW pr (doR (bgn pr b + i) (rwAt pr b i) (wAt pr tk b i bl s) s) := by
  have hk := bgn_lt hb hi
  have hrow : (rowsL pr).getD (bgn pr b + i) (.take 0) = rwAt pr b i := by rw [List.getD_eq_getElem?_getD, row_at hb hi]; rfl
  by_cases hw : (rwAt pr b i).worthy = true
  · obtain ⟨v, hv⟩ := wAt_worthy (tk := tk) (bl := bl) (s := s) hw
    rw [hv]
    have e : doR (bgn pr b + i) (rwAt pr b i) (some v) s = { s with lasts := s.lasts.set (bgn pr b + i) v, done := s.done ++ [(bgn pr b + i, some v)] } := by
      generalize rwAt pr b i = r at hw
      cases r with
      | tell x => cases hw
      | lay rs x y => cases hw
      | _ => rfl
    rw [e]
    refine ⟨by rw [List.length_set]; exact h.len, fun y w hy hyw => ?_⟩
    have hy : lastD (s.done ++ [(bgn pr b + i, some v)]) y = some w := hy
    show w = some (LI (s.lasts.set (bgn pr b + i) v) y)
    rw [lastD_snoc] at hy
    rw [LI_set (by rw [h.len]; exact hk)]
    by_cases z : bgn pr b + i = y
    · rw [if_pos z] at hy ⊢
      exact (Option.some.inj hy).symm
    · rw [if_neg z] at hy ⊢
      exact h.val y w hy hyw
  · have e : (doR (bgn pr b + i) (rwAt pr b i) (wAt pr tk b i bl s) s).lasts = s.lasts ∧ (doR (bgn pr b + i) (rwAt pr b i) (wAt pr tk b i bl s) s).done = s.done ++ [(bgn pr b + i, wAt pr tk b i bl s)] := by
      generalize wAt pr tk b i bl s = w'
      generalize rwAt pr b i = r at hw
      cases r with
      | tell x => exact ⟨rfl, rfl⟩
      | lay rs x y => exact ⟨rfl, rfl⟩
      | _ => exact absurd rfl hw
    refine ⟨by rw [e.1]; exact h.len, fun y w hy hyw => ?_⟩
    rw [e.2, lastD_snoc] at hy
    rw [e.1]
    by_cases z : bgn pr b + i = y
    · rw [← z, hrow] at hyw
      exact absurd hyw hw
    · rw [if_neg z] at hy
      exact h.val y w hy hyw
end Gn
set_option Elab.async false
set_option linter.all false
set_option maxRecDepth 100000
set_option maxHeartbeats 4000000
namespace Gn
open PySem PySem.Spec PyProof.Rows L2
/-! ### the law's own next block and worth -/
def HasW (H : Hp) (wd : Addr) (s : MSt) (y : Nat) : Prop := ∃ kv, H wd = some (.dK kv) ∧ valV kv (Sum.inl (y : Int)) = some (.int (LI s.lasts y))
theorem HasW.dg {H : Hp} {wd : Addr} {s : MSt} {y : Nat} (h : HasW H wd s y) : DGet H wd (iv y) (some (.int (LI s.lasts y))) := by
  obtain ⟨kv, h1, h2⟩ := h
  exact .inl ⟨kv, Sum.inl (y : Int), .inl h1, rfl, h2.symm⟩
theorem HasW.same {H H' : Hp} {wd : Addr} {s : MSt} {y : Nat} (h : HasW H wd s y) (e : Same H H') : HasW H' wd s y := by
  obtain ⟨kv, h1, h2⟩ := h
  exact ⟨kv, e _ _ h1, h2⟩
def nxV : Option Nat → V
  | none => .non
  | some c => iv c
def spNext (K : PySem.W.Frag) : Sp := fun vs H Q _ => ∃ (ev : V) (e : En) (wd : Addr) (s : MSt), vs = [ev, .ref wd] ∧ EnAt K H ev e ∧ (∀ r b c, e = .iff r b c → HasW H wd s r) ∧ Q (nxV (nextB s e)) H
abbrev nNext : List Str := ["_law_end", "_law_worths"]
theorem scNext : FnScope nNext ["_law_end", "_law_worths"] (defScope sNext) := ⟨rfl, rfl, rfl, by decide +kernel, rfl, by decide +kernel, by decide +kernel⟩
section
variable {P : Program} {w : World} {K : PySem.W.Frag} {mg : Str → Option Value} {base : Heap}
theorem ok_next {f : Addr} {fd : FuncData} {k : Nat} (D : Df K mg "_law_next" sNext ["_law_end", "_law_worths"] f fd) : FnOk P w K mg base CX0 (k + 1) f fd ["_law_end", "_law_worths"] (spNext K) := by
  refine D.F.ok scNext (fun vs H Q E h => ?_) (fun cdv A outer s H vs Q E hr h => ?_)
  · obtain ⟨ev, e, wd, s, rfl, _⟩ := h
    rfl
  · obtain ⟨ev, e, wd, st, rfl, hA, hW, q⟩ := h
    have hu := hu_of hr
    refine ⟨_, pss_cons (ps_if (pt_cmpR op_eq (pe_ix ix_tup (pv 0) pe_int (fun _ _ => rfl)) pe_str (nomark _)) (pss_one (ps_ret pe_non)) pss_nil)
      (pss_cons (ps_if (pt_cmpR op_eq (pe_ix ix_tup (pv 0) pe_int (fun _ _ => rfl)) pe_str (nomark _)) (pss_one (ps_ret (pe_ix ix_tup (pv 0) pe_int (fun _ _ => rfl)))) pss_nil)
      (pss_one (ps_ret (pe_ifExp (pt_cmpR op_ne (pe_dget hu (pv 1) (pe_ix ix_tup (pv 0) pe_int (fun _ _ => rfl)) (fun _ _ => rfl)) pe_int (nomark _)) (pe_ix ix_tup (pv 0) pe_int (fun _ _ => rfl)) (pe_ix ix_tup (pv 0) pe_int (fun _ _ => rfl)))))), ?_⟩
    cases e with
    | go b =>
      obtain ⟨a, rfl, ha⟩ := hA
      refine ⟨.ref a, rfl, a, _, _, _, rfl, rfl, ha, atI_nat (j := 0) rfl, rfl, _, rfl, iteS_ne (show ¬ (("go" : Str) = "end") by decide +kernel) ?_⟩
      refine ⟨.ref a, rfl, a, _, _, _, rfl, rfl, ha, atI_nat (j := 0) rfl, rfl, _, rfl, iteS_eq ?_⟩
      exact ⟨.ref a, rfl, a, _, _, _, rfl, rfl, ha, atI_nat (j := 1) rfl, q⟩
    | iff r b d =>
      obtain ⟨a, rfl, ha⟩ := hA
      refine ⟨.ref a, rfl, a, _, _, _, rfl, rfl, ha, atI_nat (j := 0) rfl, rfl, _, rfl, iteS_ne (show ¬ (("if" : Str) = "end") by decide +kernel) ?_⟩
      refine ⟨.ref a, rfl, a, _, _, _, rfl, rfl, ha, atI_nat (j := 0) rfl, rfl, _, rfl, iteS_ne (show ¬ (("if" : Str) = "go") by decide +kernel) ?_⟩
      refine ⟨.ref wd, rfl, .ref a, rfl, a, _, _, _, rfl, rfl, ha, atI_nat (j := 1) rfl, wd, _, rfl, (hW r b d rfl).dg, rfl, _, rfl, ite2 (fun e => ?_) (fun e => ?_)⟩
      · have e1 : LI st.lasts r ≠ 0 := fun z => by rw [z] at e; cases e
        have hq : nextB st (.iff r b d) = some b := by show some (if _ then _ else _) = _; rw [if_pos e1]
        rw [hq] at q
        exact ⟨.ref a, rfl, a, _, _, _, rfl, rfl, ha, atI_nat (j := 2) rfl, q⟩
      · have e1 : ¬ LI st.lasts r ≠ 0 := fun z => e (by rw [Bool.not_eq_true', decide_eq_false_iff_not]; exact fun y => z (V.int.inj y))
        have hq : nextB st (.iff r b d) = some d := by show some (if _ then _ else _) = _; rw [if_neg e1]
        rw [hq] at q
        exact ⟨.ref a, rfl, a, _, _, _, rfl, rfl, ha, atI_nat (j := 3) rfl, q⟩
    | fin =>
      obtain ⟨a, rfl, ha⟩ := hA
      refine ⟨.ref a, rfl, a, _, _, _, rfl, rfl, ha, atI_nat (j := 0) rfl, rfl, _, rfl, iteS_eq q⟩
/-! ### the law's own worth of a row, looks and meets aside -/
def ownW (tk : List Int) (s : MSt) : Rw → Option Int
  | .look _ _ => none
  | r => wOf tk s r
def spWorth (K : PySem.W.Frag) : Sp := fun vs H Q _ => ∃ (v : V) (r : Rw) (wd tka : Addr) (tk : List Int) (s : MSt) (N : Nat), vs = [v, .ref wd, .ref tka] ∧ RowAt K H v r ∧ SqL K H tka (tk.map V.int) ∧ tk.length = 6 ∧ RwB N r ∧ (∀ y ∈ r.used, HasW H wd s y) ∧ Bd s ∧
  ∀ H', Same H H' → Q (wv (ownW tk s r)) H'
abbrev nWorth : List Str := ["_law_row", "_law_worths", "_law_takes_here", "_law_kind", "_law_one", "_law_other"]
theorem scWorth : FnScope nWorth ["_law_row", "_law_worths", "_law_takes_here"] (defScope sWorth) := ⟨rfl, rfl, rfl, by decide +kernel, rfl, by decide +kernel, by decide +kernel⟩
def Rw.w4 : Rw → Bool
  | .tell _ => true
  | .meet _ => true
  | .look _ _ => true
  | .lay _ _ _ => true
  | _ => false
theorem w4_in (r : Rw) : inV (.str r.w) [.str "tell", .str "meet", .str "look", .str "lay"] = r.w4 := by
  cases r with
  | bin b x y => cases b <;> rfl
  | _ => (first | rfl | decide)
theorem sb_in (b : Bk) : inV (.str b.w) [.str "same", .str "below"] = (decide (b = .same) || decide (b = .below)) := by
  cases b <;> rfl
theorem ok_worth {f : Addr} {fd : FuncData} {k : Nat} (D : Df K mg "_law_worth" sWorth ["_law_row", "_law_worths", "_law_takes_here"] f fd) (B : Bi mg) : FnOk P w K mg base CX0 (k + 1) f fd ["_law_row", "_law_worths", "_law_takes_here"] (spWorth K) := by
  refine D.F.ok scWorth (fun vs H Q E h => ?_) (fun cdv A outer s H vs Q E hr h => ?_)
  · obtain ⟨v, r, wd, tka, tk, s, N, rfl, _⟩ := h
    rfl
  · obtain ⟨v, r, wd, tka, tk, st, N, rfl, hR, hT, htl, hB, hW, hbd, q⟩ := h
    have hu := hu_of hr
    refine ⟨_, pss_cons (ps_set (i := 3) scWorth.nd rfl (.inl rfl) (pe_ix ix_tup (pv 0) pe_int (fun _ _ => rfl)))
      (pss_cons (ps_if (pt_cmpR op_in_seq (pv 3) (pe_tup (pa_cons pe_str (pa_cons pe_str (pa_cons pe_str (pa_cons pe_str pa_nil))))) rfl) (pss_one (ps_ret pe_non)) pss_nil)
      (pss_cons (ps_if (pt_cmpR op_eq (pv 3) pe_str (nomark _)) (pss_one (ps_ret (pe_ix ix_list (pv 2) (pe_ix ix_tup (pv 0) pe_int (fun _ _ => rfl)) (fun _ _ => rfl)))) pss_nil)
      (pss_cons (ps_if (pt_cmpR op_eq (pv 3) pe_str (nomark _)) (pss_one (ps_ret (pe_ix ix_tup (pv 0) pe_int (fun _ _ => rfl)))) pss_nil)
      (pss_cons (ps_if (pt_cmpR op_eq (pv 3) pe_str (nomark _)) (pss_one (ps_ret (pe_dget hu (pv 1) (pe_ix ix_tup (pe_ix ix_tup (pv 0) pe_int (fun _ _ => rfl)) (pe_op op_mod (pe_dget hu (pv 1) (pe_ix ix_tup (pv 0) pe_int (fun _ _ => rfl)) (fun _ _ => rfl)) (pe_callB call_len_seq (by rfl) B.len PySem.boot_len (pa_cons (pe_ix ix_tup (pv 0) pe_int (fun _ _ => rfl)) pa_nil))) (fun _ _ => rfl)) (fun _ _ => rfl)))) pss_nil)
      (pss_cons (ps_par (i := 4) (j := 5) (by rfl) scWorth.nd rfl rfl (by decide) rfl rfl (pa_cons (pe_dget hu (pv 1) (pe_ix ix_tup (pv 0) pe_int (fun _ _ => rfl)) (fun _ _ => rfl)) (pa_cons (pe_dget hu (pv 1) (pe_ix ix_tup (pv 0) pe_int (fun _ _ => rfl)) (fun _ _ => rfl)) pa_nil)) (by rfl))
      (pss_cons (ps_if (pt_cmpR op_in_seq (pv 3) (pe_tup (pa_cons pe_str (pa_cons pe_str pa_nil))) rfl) (pss_one (ps_ret (pe_callTy call_int1 (by rfl) B.int PyProof.Rows.boot_int (pa_cons (pe_ifExp (pt_cmpR op_eq (pv 3) pe_str (nomark _)) (pe_cmpR op_eq (pv 4) (pv 5) (nomark _)) (pe_cmpR op_lt (pv 4) (pv 5) (nomark _))) pa_nil)))) pss_nil)
      (pss_one (ps_ret (pe_ifExp (pt_cmpR op_eq (pv 3) pe_str (nomark _)) (pe_op op_mulW (pv 4) (pv 5)) (pe_op op_add (pv 4) (pe_op op_mulW (pv 5) (pe_ifExp (pt_cmpR op_eq (pv 3) pe_str (nomark _)) pe_int (pe_un un_neg pe_int))))))))))))), ?_⟩
    obtain ⟨a, xs, rfl, ha, hx⟩ := hR
    refine ⟨.ref a, rfl, a, _, _, _, rfl, rfl, ha, atI_nat (j := 0) rfl, ?_⟩
    refine ⟨_, rfl, szl (show 4 ≤ 1000000 by decide), fun T nT => ?_⟩
    have sT := new_same (o := .tup [.str "tell", .str "meet", .str "look", .str "lay"]) nT
    refine ⟨T, _, rfl, .inr (sqT upd_same), rfl, rfl, _, rfl, ?_⟩
    show if inV (.str r.w) [.str "tell", .str "meet", .str "look", .str "lay"] = true then _ else _
    rw [w4_in]
    have ha := Same.tup sT ha
    have hT := sT.seq hT
    have hx := hx.same sT
    have hW : ∀ y ∈ r.used, HasW _ wd st y := fun y hy => (hW y hy).same sT
    have q : ∀ H', Same (upd H T (.tup [.str "tell", .str "meet", .str "look", .str "lay"])) H' → Q (wv (ownW tk st r)) H' := fun H' h => q H' (sT.trans h)
    generalize upd H T (.tup [.str "tell", .str "meet", .str "look", .str "lay"]) = H1 at ha hT hx hW q
    cases r with
    | take i =>
      have hxs : xs = [iv i] := hx
      subst hxs
      have hi : i < tk.length := by rw [htl]; exact Nat.lt_succ_of_le hB
      rw [if_neg (show ¬ (Rw.take i).w4 = true from Bool.false_ne_true)]
      refine ⟨_, rfl, rfl, _, rfl, iteS_eq ?_⟩
      exact ⟨.ref tka, rfl, .ref a, rfl, a, _, _, _, rfl, rfl, ha, atI_nat (j := 1) rfl, tka, _, _, _, rfl, rfl, hT, atI_nat (LI_at hi), q _ (Same.refl _)⟩
    | num z =>
      have hxs : xs = [.int z] := hx
      subst hxs
      rw [if_neg (show ¬ (Rw.num z).w4 = true from Bool.false_ne_true)]
      refine ⟨_, rfl, rfl, _, rfl, iteS_ne (show ¬ (("num" : Str) = "take") by decide +kernel) ?_⟩
      refine ⟨_, rfl, rfl, _, rfl, iteS_eq ?_⟩
      exact ⟨.ref a, rfl, a, _, _, _, rfl, rfl, ha, atI_nat (j := 1) rfl, q _ (Same.refl _)⟩
    | tell x => exact (if_pos rfl : _ = _) ▸ q _ (Same.refl _)
    | meet ps => exact (if_pos rfl : _ = _) ▸ q _ (Same.refl _)
    | look rs x => exact (if_pos rfl : _ = _) ▸ q _ (Same.refl _)
    | lay rs x y => exact (if_pos rfl : _ = _) ▸ q _ (Same.refl _)
    | pick x ps =>
      obtain ⟨qa, rfl, hqa⟩ := hx
      obtain ⟨hxN, hps, hpl, hpn⟩ := hB
      have hp0 : 0 < ps.length := List.length_pos_iff.mpr hpn
      have hli : ((ps.map iv).length : Int) = (ps.length : Int) := by rw [List.length_map]
      rw [if_neg (show ¬ (Rw.pick x ps).w4 = true from Bool.false_ne_true)]
      refine ⟨_, rfl, rfl, _, rfl, iteS_ne (show ¬ (("pick" : Str) = "take") by decide +kernel) ?_⟩
      refine ⟨_, rfl, rfl, _, rfl, iteS_ne (show ¬ (("pick" : Str) = "num") by decide +kernel) ?_⟩
      refine ⟨_, rfl, rfl, _, rfl, iteS_eq ?_⟩
      have h1 : 0 ≤ LI st.lasts x % (ps.length : Int) := Int.emod_nonneg _ (by omega)
      have h2 : LI st.lasts x % (ps.length : Int) < (ps.length : Int) := Int.emod_lt_of_pos _ (by omega)
      have h3 : (LI st.lasts x % (ps.length : Int)).toNat < ps.length := by omega
      have hpk : pk ps (LI st.lasts x) ∈ ps := by
        unfold pk
        rw [List.getD_eq_getElem?_getD, List.getElem?_eq_getElem h3]
        exact List.getElem_mem h3
      refine ⟨.ref wd, rfl, .ref a, rfl, a, _, _, _, rfl, rfl, ha, atI_nat (j := 2) rfl, .ref wd, rfl, .ref a, rfl, a, _, _, _, rfl, rfl, ha, atI_nat (j := 1) rfl, wd, _, rfl, (hW x (List.mem_cons_self)).dg, ?_⟩
      refine ⟨.ref a, rfl, a, _, _, _, rfl, rfl, ha, atI_nat (j := 2) rfl, qa, _, rfl, .inr hqa, _, _, rfl, rfl, by rw [hli]; omega, qa, _, _, iv (pk ps (LI st.lasts x)), rfl, rfl, hqa, ?_, wd, _, rfl, (hW _ (List.mem_cons_of_mem _ hpk)).dg, q _ (Same.refl _)⟩
      rw [hli]
      have : LI st.lasts x % (ps.length : Int) = ((LI st.lasts x % (ps.length : Int)).toNat : Int) := (Int.toNat_of_nonneg h1).symm
      rw [this]
      refine atI_nat ?_
      unfold pk
      rw [List.getElem?_map, List.getD_eq_getElem?_getD, List.getElem?_eq_getElem h3]
      rfl
    | bin b x y =>
      have hxs : xs = [iv x, iv y] := hx
      subst hxs
      obtain ⟨n1, n2, n3, n4⟩ := bw_ne b
      rw [if_neg (show ¬ (Rw.bin b x y).w4 = true from Bool.false_ne_true)]
      refine ⟨_, rfl, rfl, _, rfl, iteS_ne n1 ?_⟩
      refine ⟨_, rfl, rfl, _, rfl, iteS_ne n2 ?_⟩
      refine ⟨_, rfl, rfl, _, rfl, iteS_ne n3 ?_⟩
      refine ⟨.ref wd, rfl, .ref a, rfl, a, _, _, _, rfl, rfl, ha, atI_nat (j := 1) rfl, wd, _, rfl, (hW x (by simp [Rw.used])).dg, ?_⟩
      refine ⟨.ref wd, rfl, .ref a, rfl, a, _, _, _, rfl, rfl, ha, atI_nat (j := 2) rfl, wd, _, rfl, (hW y (by simp [Rw.used])).dg, _, _, rfl, ?_⟩
      refine ⟨_, rfl, szl (show 2 ≤ 1000000 by decide), fun U nU => ?_⟩
      have sU := new_same (o := .tup [.str "same", .str "below"]) nU
      refine ⟨U, _, rfl, .inr (sqT upd_same), rfl, rfl, _, rfl, ?_⟩
      show if inV (.str b.w) [.str "same", .str "below"] = true then _ else _
      rw [sb_in]
      have bx : -GT40 ≤ LI st.lasts x ∧ LI st.lasts x ≤ GT40 := LI_bd hbd.1
      have bY : -GT40 ≤ LI st.lasts y ∧ LI st.lasts y ≤ GT40 := LI_bd hbd.1
      have qv : ∀ z : Int, b.op (LI st.lasts x) (LI st.lasts y) = z → Q (.int z) (upd H1 U (.tup [.str "same", .str "below"])) := fun z hz => by
        have := q _ sU
        rw [← hz]
        exact this
      clear q
      generalize LI st.lasts x = X at bx qv
      generalize LI st.lasts y = Y at bY qv
      cases b with
      | same =>
        rw [if_pos (show (decide (Bk.same = Bk.same) || decide (Bk.same = Bk.below)) = true from rfl)]
        refine ⟨_, rfl, rfl, _, rfl, iteS_eq ⟨_, rfl, _, rfl, rfl, .inr ⟨_, rfl, qv _ ?_⟩⟩⟩
        show (if X = Y then (1 : Int) else 0) = if decide (V.int X = V.int Y) = true then 1 else 0
        by_cases z : X = Y
        · rw [if_pos z, if_pos (decide_eq_true (by rw [z]))]
        · rw [if_neg z, if_neg (fun e => z (V.int.inj (of_decide_eq_true e)))]
      | below =>
        rw [if_pos (show (decide (Bk.below = Bk.same) || decide (Bk.below = Bk.below)) = true from rfl)]
        refine ⟨_, rfl, rfl, _, rfl, iteS_ne (show ¬ (("below" : Str) = "same") by decide +kernel) ⟨_, rfl, _, rfl, _, _, rfl, rfl, .inr ⟨_, rfl, qv _ ?_⟩⟩⟩
        show (if X < Y then (1 : Int) else 0) = if decide (X < Y) = true then 1 else 0
        by_cases z : X < Y
        · rw [if_pos z, if_pos (decide_eq_true z)]
        · rw [if_neg z, if_neg (fun e => z (of_decide_eq_true e))]
      | times =>
        rw [if_neg (show ¬ (decide (Bk.times = Bk.same) || decide (Bk.times = Bk.below)) = true from Bool.false_ne_true)]
        exact ⟨_, rfl, rfl, _, rfl, iteS_eq ⟨_, rfl, _, rfl, _, _, rfl, rfl, wide_mul (bd_abs bx) (bd_abs bY) (by decide) (by decide) (by decide), qv _ rfl⟩⟩
      | sum =>
        rw [if_neg (show ¬ (decide (Bk.sum = Bk.same) || decide (Bk.sum = Bk.below)) = true from Bool.false_ne_true)]
        refine ⟨_, rfl, rfl, _, rfl, iteS_ne (show ¬ (("sum" : Str) = "times") by decide +kernel) ⟨_, rfl, _, rfl, _, rfl, rfl, _, rfl, iteS_eq ⟨_, _, rfl, rfl, wide_mul (b := 1) (bd_abs bY) (by decide) (by decide) (by decide) (by decide), _, _, rfl, rfl, qv _ ?_⟩⟩⟩
        show X + Y = X + Y * 1
        rw [Int.mul_one]
      | less =>
        rw [if_neg (show ¬ (decide (Bk.less = Bk.same) || decide (Bk.less = Bk.below)) = true from Bool.false_ne_true)]
        refine ⟨_, rfl, rfl, _, rfl, iteS_ne (show ¬ (("less" : Str) = "times") by decide +kernel) ⟨_, rfl, _, rfl, _, rfl, rfl, _, rfl, iteS_ne (show ¬ (("less" : Str) = "sum") by decide +kernel) ⟨_, rfl, _, _, rfl, rfl, wide_mul (b := 1) (bd_abs bY) (by decide) (by decide) (by decide) (by decide), _, _, rfl, rfl, qv _ ?_⟩⟩⟩
        show X - Y = X + Y * -1
        omega
end
end Gn
set_option Elab.async false
set_option linter.all false
set_option maxRecDepth 100000
set_option maxHeartbeats 4000000
namespace Gn
open PySem PySem.Spec PyProof.Rows L2
/-! ### _law_flat -/
def ownL (pr : List Blk) (i : Nat) : List Nat := (List.range i).flatMap fun j => List.replicate (pr.getD j ([], .fin)).1.length j
theorem ownL_succ {pr : List Blk} {i : Nat} {b : Blk} (h : pr[i]? = some b) : ownL pr (i + 1) = ownL pr i ++ List.replicate b.1.length i := by
  unfold ownL
  rw [List.range_succ, List.flatMap_append]
  simp [List.getD_eq_getElem?_getD, h]
theorem rowsL_len {n : Nat} : ∀ {pr : List Blk}, (∀ b ∈ pr, b.1.length ≤ n) → (rowsL pr).length ≤ pr.length * n
  | [], _ => by simp [rowsL]
  | b :: bs, h => by
    have h1 := rowsL_len (pr := bs) fun c hc => h c (List.mem_cons_of_mem _ hc)
    have h2 := h b List.mem_cons_self
    unfold rowsL at h1 ⊢
    rw [List.map_cons, List.flatten_cons, List.length_append, List.length_cons, Nat.succ_mul]
    omega
theorem ownL_len {pr : List Blk} : ∀ i, i ≤ pr.length → (ownL pr i).length = (rowsL (pr.take i)).length
  | 0, _ => by simp [ownL, rowsL]
  | i + 1, h => by
    have hb := List.getElem?_eq_getElem (show i < pr.length by omega)
    rw [ownL_succ hb, rows_take hb, List.length_append, List.length_append, List.length_replicate, ownL_len i (by omega)]
theorem ownL_lt {pr : List Blk} {i y : Nat} (h : y ∈ ownL pr i) : y < i := by
  unfold ownL at h
  obtain ⟨j, hj, hy⟩ := List.mem_flatMap.mp h
  rw [List.eq_of_mem_replicate hy]
  exact List.mem_range.mp hj
theorem pd_app {α β : Type} {F : α → β → Prop} : ∀ {l l' : List α} {m m' : List β}, Paired F l m → Paired F l' m' → Paired F (l ++ l') (m ++ m')
  | _, _, _, _, .nil, h => h
  | _, _, _, _, .cons h t, g => .cons h (pd_app t g)
theorem take_rows_le {pr : List Blk} {n i : Nat} (h : ∀ b ∈ pr, b.1.length ≤ n) (hi : i ≤ pr.length) : (rowsL (pr.take i)).length ≤ pr.length * n := by
  have h1 := rowsL_len (pr := pr.take i) fun b hb => h b (List.mem_of_mem_take hb)
  rw [List.length_take] at h1
  exact Nat.le_trans h1 (Nat.mul_le_mul_right _ (Nat.min_le_right _ _))
def spFlat (K : PySem.W.Frag) : Sp := fun vs H Q _ => ∃ (v : V) (pr : List Blk), vs = [v] ∧ ProgAt K H v pr ∧ pr.length ≤ 12 ∧ (∀ b ∈ pr, b.1.length ≤ 130) ∧
  ∀ (p ra ba : Addr) (H' : Hp) (us : List V), Same H H' → SqT K H' p [.ref ra, .ref ba] → H ra = none → H ba = none → ra ≠ ba → H' ra = some (.lst us) → Paired (RowAt K H') us (rowsL pr) → H' ba = some (.lst ((ownL pr pr.length).map iv)) → Q (.ref p) H'
abbrev nFlat : List Str := ["_law_program_here", "_law_rows", "_law_blocks", "_law_number_here", "_law_block"]
theorem scFlat : FnScope nFlat ["_law_program_here"] (defScope sFlat) := ⟨rfl, rfl, rfl, by decide +kernel, rfl, by decide +kernel, by decide +kernel⟩
theorem rep_iv (a k : Nat) : (List.replicate k [iv a]).flatten = (List.replicate k a).map iv := by
  induction k with
  | zero => rfl
  | succ k ih => rw [List.replicate_succ, List.replicate_succ, List.flatten_cons, List.map_cons, ih]; rfl
section
variable {P : Program} {w : World} {K : PySem.W.Frag} {mg : Str → Option Value} {base : Heap}
theorem ok_flat {f : Addr} {fd : FuncData} {k : Nat} (D : Df K mg "_law_flat" sFlat ["_law_program_here"] f fd) (B : Bi mg) : FnOk P w K mg base CX0 (k + 1) f fd ["_law_program_here"] (spFlat K) := by
  refine D.F.ok scFlat (fun vs H Q E h => ?_) (fun cdv A outer s H vs Q E hr h => ?_)
  · obtain ⟨v, pr, rfl, _⟩ := h
    rfl
  · obtain ⟨v, pr, rfl, ⟨a, xs, rfl, ha, pd⟩, hl, hbl, q⟩ := h
    refine ⟨_, pss_cons (ps_par (i := 1) (j := 2) (by rfl) scFlat.nd rfl rfl (by decide) rfl rfl (pa_cons (pe_lst pa_nil) (pa_cons (pe_lst pa_nil) pa_nil)) (by rfl))
      (pss_cons (ps_for PassesOwn.never rfl (pi_enum (by rfl) B.enumerate (pa_cons (pv 0) pa_nil)) (pg_tup rfl (pgs_cons (pg_name (i := 3) scFlat.nd rfl (.inl rfl)) (pgs_cons (pg_name (i := 4) scFlat.nd rfl (.inl rfl)) pgs_nil)))
        (pss_cons (ps_expr (pe_bm PySem.F.plainAttrs_list PySem.F.slot_list_extend PySem.F.type_list_extend mt_extend (pv 1) (pa_cons (pe_ix ix_tup (pv 4) pe_int (fun _ _ => rfl)) pa_nil)))
        (pss_one (ps_expr (pe_bm PySem.F.plainAttrs_list PySem.F.slot_list_extend PySem.F.type_list_extend mt_extend (pv 2) (pa_cons (pe_op op_rep (pe_lst (pa_cons (pv 3) pa_nil)) (pe_callB call_len_seq (by rfl) B.len PySem.boot_len (pa_cons (pe_ix ix_tup (pv 4) pe_int (fun _ _ => rfl)) pa_nil))) pa_nil))))))
      (pss_one (ps_ret (pe_tup (pa_cons (pv 1) (pa_cons (pv 2) pa_nil)))))), ?_⟩
    have hxl : xs.length = pr.length := pd_len pd
    have h130 : pr.length * 130 ≤ 12 * 130 := Nat.mul_le_mul_right _ hl
    refine ⟨Nat.zero_le _, fun ra nra => ⟨Nat.zero_le _, fun ba nba => ⟨_, _, rfl, ?_⟩⟩⟩
    have nrb : ra ≠ ba := ne_of_none upd_same nba
    have s0 : Same H (upd (upd H ra (.lst [])) ba (.lst [])) := (new_same nra).trans (new_same nba)
    have hba : H ba = none := (new_same nra).free nba
    have er : upd (upd H ra (.lst [])) ba (.lst []) ra = some (.lst []) := by rw [upd_ne nrb]; exact upd_same
    have eb : upd (upd H ra (.lst [])) ba (.lst []) ba = some (.lst (([] : List Nat).map iv)) := upd_same
    generalize upd (upd H ra (.lst [])) ba (.lst []) = H0 at s0 er eb
    refine ⟨.ref a, rfl, a, _, rfl, s0.seq ha, ?_⟩
    refine for_it (walk_enum (K := K) (a := a) (xs := xs)) (fun i σ H1 => ∃ (y3 y4 : Option V) (us : List V), σ = [some (.ref a), some (.ref ra), some (.ref ba), y3, y4] ∧ Same H H1 ∧ H1 ra = some (.lst us) ∧ Paired (RowAt K H) us (rowsL (pr.take i)) ∧ H1 ba = some (.lst ((ownL pr i).map iv)))
      ⟨_, _, [], rfl, s0, er, .nil, eb⟩ (fun i σ H1 _ hP => ?_) (fun i x σ H1 H2 hi hP hY => ?_) (fun σ H1 hP => ?_)
    · obtain ⟨_, _, _, _, s1, _⟩ := hP
      exact s1.seq ha
    · obtain ⟨y3, y4, us, rfl, s1, er1, pu, eb1⟩ := hP
      obtain ⟨T, x1, x2, rfl, nT, rfl, e1, e2⟩ := hY
      cases e1
      have e2 : xs[i]? = some x2 := e2
      obtain ⟨bk, hbk, p, rl, ea, vs, rfl, hp, hrl, pv, _⟩ := pd_at2 pd e2
      have sT := new_same (o := .tup [.int (i : Nat), .ref p]) nT
      have s2 := s1.trans sT
      have er2 := sT _ _ er1
      have eb2 := sT _ _ eb1
      refine ⟨T, _, rfl, sqT upd_same, rfl, _, _, rfl, _, _, rfl, rfl, ?_⟩
      generalize upd H1 T (.tup [.int (i : Nat), .ref p]) = H3 at s2 er2 eb2
      have hvl : vs.length = bk.1.length := pd_len pv
      have hul := pd_len pu
      have h2 := take_rows_le hbl (show i ≤ pr.length by omega)
      have h3 := hbl bk (List.mem_of_getElem? hbk)
      have hol := ownL_len (pr := pr) i (by omega)
      refine ⟨.ref ra, rfl, .inl ⟨rfl, _, sqL er2⟩, .ref p, rfl, p, _, _, .ref rl, rfl, rfl, Same.tup s2 hp, atI_nat (j := 0) rfl, ra, rl, _, _, rfl, rfl, er2, s2 _ _ hrl, szl (by omega), ?_⟩
      have s4 := Same.upd (o := .lst (us ++ vs)) s2 nra
      have er4 : upd H3 ra (.lst (us ++ vs)) ra = some (.lst (us ++ vs)) := upd_same
      have eb4 : upd H3 ra (.lst (us ++ vs)) ba = some (.lst ((ownL pr i).map iv)) := by rw [upd_ne nrb.symm]; exact eb2
      generalize upd H3 ra (.lst (us ++ vs)) = H4 at s4 er4 eb4
      refine ⟨.ref ba, rfl, .inl ⟨rfl, _, sqL eb4⟩, _, rfl, szl (show 1 ≤ 1000000 by decide), fun l nl => ?_⟩
      have sl := new_same (o := .lst [.int (i : Nat)]) nl
      have el : upd H4 l (.lst [.int (i : Nat)]) l = some (.lst [iv i]) := upd_same
      have s5 := s4.trans sl
      have er5 := sl _ _ er4
      have eb5 := sl _ _ eb4
      generalize upd H4 l (.lst [.int (i : Nat)]) = H5 at el s5 er5 eb5
      refine ⟨.ref p, rfl, p, _, _, .ref rl, rfl, rfl, Same.tup s5 hp, atI_nat (j := 0) rfl, rl, _, rfl, .inl (sqL (s5 _ _ hrl)), l, _, _, rfl, rfl, el, by omega, by omega, ?_, fun r nr => ?_⟩
      · rw [Int.toNat_natCast]
        exact szl (by show 1 * vs.length ≤ 1000000; omega)
      rw [Int.toNat_natCast, rep_iv]
      have sr := new_same (o := .lst ((List.replicate vs.length i).map iv)) nr
      have nrr : r ≠ ba := (ne_of_none eb5 nr).symm
      have er6 := sr _ _ er5
      have eb6 := sr _ _ eb5
      have s6 := s5.trans sr
      refine ⟨ba, r, _, _, rfl, rfl, eb6, upd_same, ?_, ?_⟩
      · rw [List.length_map, List.length_map, List.length_replicate]
        exact szl (by omega)
      · refine ⟨_, _, us ++ vs, rfl, Same.upd s6 hba, ?_, ?_, ?_⟩
        · rw [upd_ne nrb]; exact er6
        · rw [rows_take hbk]
          exact pd_app pu pv
        · rw [upd_same, ownL_succ hbk, List.map_append, hvl]
    · obtain ⟨y3, y4, us, rfl, s1, er1, pu, eb1⟩ := hP
      rw [hxl] at pu eb1
      rw [List.take_length] at pu
      refine ⟨.ref ra, rfl, .ref ba, rfl, szl (show 2 ≤ 1000000 by decide), fun p np => ?_⟩
      have sp := new_same (o := .tup [.ref ra, .ref ba]) np
      have s2 := s1.trans sp
      exact q p ra ba _ us s2 (sqT upd_same) nra hba nrb (sp _ _ er1) (pd_mono pu fun _ _ z => z.same s2) (sp _ _ eb1)
end
end Gn
set_option Elab.async false
set_option linter.all false
set_option maxRecDepth 100000
set_option maxHeartbeats 4000000
namespace Gn
open PySem PySem.Spec PyProof.Rows L2
/-! ### the law's own run: what is pure in it -/
theorem AtRow.come {pr : List Blk} {b : Nat} {bl : List Int} {s : MSt} (h : CI pr (.come b bl s)) : AtRow pr b 0 { s with way := s.way ++ [b] } := by
  obtain ⟨h1, h2⟩ := h
  refine ⟨fun x hx => ?_, ?_, fun a ha hab => ?_, fun k k1 k2 => by omega⟩
  · have hx : x ∉ s.way ++ [b] := hx
    rw [List.mem_append, not_or, List.mem_singleton] at hx
    exact h1 x hx.1 hx.2
  · show b ∈ s.way ++ [b]
    simp
  · have ha : a ∈ s.way ++ [b] := ha
    rcases List.mem_append.mp ha with z | z
    · exact h2 a z
    · exact absurd (List.mem_singleton.mp z) hab
theorem AtRow.step {pr : List Blk} {b i : Nat} {s : MSt} {r : Rw} {w : Option Int} (h : AtRow pr b i s) : AtRow pr b (i + 1) (doR (bgn pr b + i) r w s) := by
  obtain ⟨e1, e2⟩ := keys_doR (j := bgn pr b + i) (r := r) (w := w) (s := s)
  have up : ∀ k, k ∈ keysD s → k ∈ keysD (doR (bgn pr b + i) r w s) := fun k hk => by
    rw [e1]
    exact List.mem_append_left _ hk
  refine ⟨fun x hx => h.rc x (by rw [e2] at hx; exact hx), by rw [e2]; exact h.here, fun a ha hab k k1 k2 => up k (h.dn a (by rw [e2] at ha; exact ha) hab k k1 k2), fun k k1 k2 => ?_⟩
  by_cases z : k = bgn pr b + i
  · rw [e1, z]
    simp
  · exact up k (h.row k k1 (by omega))
theorem AtRow.toCome {pr : List Blk} {b c : Nat} {bl : List Int} {s : MSt} (h : AtRow pr b (rowsB pr b).length s) (hn : nextB s (endB pr b) = some c) : CI pr (.come c bl s) := by
  refine ⟨fun x hx hxc => .s (h.rc x hx) (next_in hn) (Ne.symm hxc), fun a ha => ?_⟩
  by_cases hab : a = b
  · subst hab
    intro k h1 h2
    rw [bgn_nxt] at h2
    exact h.row k h1 (by omega)
  · exact h.dn a ha hab
/-- the part of a meet of c by the lead -/
def prt (pr : List Blk) (lead c : Nat) (ps : List Nat) : Nat := ps.getD ((spec pr pr.length c).idxOf lead) 0
/-- the parts of c's meets by the lead were done -/
def MOk (pr : List Blk) (lead c : Nat) (s : MSt) : Prop := ∀ (i : Nat) (ps : List Nat), (rowsB pr c)[i]? = some (Rw.meet ps) → (spec pr pr.length c).idxOf lead < ps.length ∧ lead ∈ spec pr pr.length c ∧ prt pr lead c ps ∈ keysD s ∧ ((rowsL pr).getD (prt pr lead c ps) (.take 0)).worthy = true
theorem PrS.meets {st : Sta} {pr : List Blk} (S : PrS st pr) (nx : NxOk pr.length (pr.map fun b => b.2.names)) {b c : Nat} {s : MSt} (hb : b < pr.length) (hc : c < pr.length) (h : AtRow pr b (rowsB pr b).length s) (hn : c ∈ Eo pr b) : MOk pr b c s := fun i ps hi => by
  have hil := (List.getElem?_eq_some_iff.mp hi).1
  have hrw : rwAt pr c i = .meet ps := by unfold rwAt; rw [List.getD_eq_getElem?_getD, hi]; rfl
  have hrow : st.rows[bgn pr c + i]? = some (.meet ps) := by
    rw [← S.rows, ← hrw]
    exact row_at hc hil
  have hown := S.own c (bgn pr c + i) hc (Nat.le_add_right _ _) (by show bgn pr c + i < bgn pr (c + 1); rw [bgn_nxt]; omega)
  obtain ⟨ld, l1, l2, l3, l4, l5, l6⟩ := S.mo _ _ hrow
  rw [hown, S.ld] at l1
  have hlde := spec_ld (fun xs hx => (nx.2.1 xs hx).2.1) l1
  subst hlde
  have hmem : b ∈ spec pr pr.length c := spec_mem.mpr ⟨hb, hn⟩
  have hjl : (spec pr pr.length c).idxOf b < (spec pr pr.length c).length := List.idxOf_lt_length_iff.mpr hmem
  have hjat : (spec pr pr.length c)[(spec pr pr.length c).idxOf b]? = some b := by rw [List.getElem?_eq_getElem hjl, List.getElem_idxOf]
  have hps : (spec pr pr.length c).idxOf b < ps.length := by rw [l2]; exact hjl
  have hp : ps[(spec pr pr.length c).idxOf b]? = some (prt pr b c ps) := by
    unfold prt
    rw [List.getD_eq_getElem?_getD, List.getElem?_eq_getElem hps]
    rfl
  obtain ⟨z1, z2⟩ := S.atEnd hb h (l6 _ _ _ hp hjat)
  exact ⟨hps, hmem, z1, by rw [S.rows]; exact z2⟩
theorem fm_at {s : MSt} {a : Nat} : ∀ {l : List Rw} {i : Nat} {ps : List Nat}, (∀ r ∈ l.take (i + 1), r.isM = true) → l[i]? = some (.meet ps) → LI (l.filterMap (mVal s a)) i = LI s.lasts (ps.getD a 0)
  | [], i, ps, _, h => by cases h
  | r :: l, 0, ps, _, h => by
    cases h
    rfl
  | r :: l, i + 1, ps, hm, h => by
    have h1 := hm r (by rw [List.take_succ_cons]; exact List.mem_cons_self)
    cases r with
    | meet qs => exact fm_at (l := l) (i := i) (fun x hx => hm x (by rw [List.take_succ_cons]; exact List.mem_cons_of_mem _ hx)) (by simpa using h)
    | _ => cases h1
theorem brt_at {pr : List Blk} {lead b i : Nat} {ps : List Nat} {s : MSt} (h : ∀ x, x + 1 < (rowsB pr b).length → mB (rowsB pr b) (x + 1) = true → mB (rowsB pr b) x = true) (hi : (rowsB pr b)[i]? = some (.meet ps)) : LI (brt pr lead b s) i = LI s.lasts (prt pr lead b ps) := by
  have hil := (List.getElem?_eq_some_iff.mp hi).1
  refine fm_at (fun r hr => ?_) hi
  obtain ⟨j, hj1, hj2⟩ := List.mem_iff_getElem.mp hr
  rw [List.length_take] at hj1
  rw [List.getElem_take] at hj2
  have h2 := all_m h (i - j) j (by omega) (by rw [show j + (i - j) = i by omega, mB_at hi]; rfl)
  rw [mB_at (List.getElem?_eq_getElem (by omega)), hj2] at h2
  exact h2
theorem LW.has {pr : List Blk} {s : MSt} {y : Nat} (h : LW pr s) (hy : y ∈ keysD s) (hw : ((rowsL pr).getD y (.take 0)).worthy = true) : lastD s.done y = some (some (LI s.lasts y)) := by
  obtain ⟨w, e⟩ := lastD_key hy
  rw [e, h.val y w e hw]
theorem LW.first (pr : List Blk) : LW pr (MSt.first pr) := ⟨List.length_replicate, fun y w h => by cases h⟩
theorem LW.way {pr : List Blk} {s : MSt} (h : LW pr s) (ws : List Nat) : LW pr { s with way := ws } := ⟨h.len, h.val⟩
/-! ### where the blocks begin, by the owners' list -/
theorem own_split (pr : List Blk) (b : Nat) : ∀ n, b < n → ∃ r, ownL pr n = ownL pr b ++ (List.replicate (rowsB pr b).length b ++ r) ∧ ∀ y ∈ r, b < y
  | 0, h => absurd h (Nat.not_lt_zero b)
  | n + 1, h => by
    have hn : ownL pr (n + 1) = ownL pr n ++ List.replicate (rowsB pr n).length n := by
      unfold ownL
      rw [List.range_succ, List.flatMap_append]
      simp [rowsB]
    by_cases z : b = n
    · subst z
      exact ⟨[], by rw [hn, List.append_nil], fun y hy => by cases hy⟩
    · obtain ⟨r, e, hr⟩ := own_split pr b n (by omega)
      refine ⟨r ++ List.replicate (rowsB pr n).length n, by rw [hn, e, List.append_assoc, List.append_assoc], fun y hy => ?_⟩
      rcases List.mem_append.mp hy with z | z
      · exact hr y z
      · rw [List.eq_of_mem_replicate z]; omega
def bgL (pr : List Blk) (b : Nat) : Nat := if b ∈ ownL pr pr.length then (ownL pr pr.length).idxOf b else 0
theorem own_mem {pr : List Blk} {b : Nat} (hb : b < pr.length) : b ∈ ownL pr pr.length ↔ 0 < (rowsB pr b).length := by
  obtain ⟨r, e, hr⟩ := own_split pr b pr.length hb
  rw [e, List.mem_append, List.mem_append, List.mem_replicate]
  constructor
  · rintro (z | z | z)
    · exact absurd (ownL_lt z) (Nat.lt_irrefl b)
    · omega
    · exact absurd (hr b z) (Nat.lt_irrefl b)
  · intro h
    exact .inr (.inl ⟨by omega, rfl⟩)
theorem bgL_at {pr : List Blk} {b : Nat} (hb : b < pr.length) (h : 0 < (rowsB pr b).length) : bgL pr b = bgn pr b := by
  unfold bgL
  rw [if_pos ((own_mem hb).mpr h)]
  obtain ⟨r, e, hr⟩ := own_split pr b pr.length hb
  have hno : b ∉ ownL pr b := fun z => absurd (ownL_lt z) (Nat.lt_irrefl b)
  obtain ⟨n, hn⟩ : ∃ n, (rowsB pr b).length = n + 1 := ⟨(rowsB pr b).length - 1, by omega⟩
  rw [e, List.idxOf_append, if_neg hno, hn, List.replicate_succ, List.cons_append, List.idxOf_cons_self, ownL_len b (by omega)]
  unfold bgn
  omega
theorem too_abs (w : Int) : too (some w) = decide (GT40 < (if w < 0 then -w else w)) := by
  show (!(decide (-GT40 ≤ w) && decide (w ≤ GT40))) = _
  by_cases h : w < 0
  · rw [if_pos h]
    by_cases h2 : -GT40 ≤ w
    · rw [decide_eq_true h2, decide_eq_true (show w ≤ GT40 by have : (0 : Int) ≤ GT40 := by decide
                                                              omega), decide_eq_false (by omega)]
      rfl
    · rw [decide_eq_false h2, decide_eq_true (show GT40 < -w by omega)]
      rfl
  · rw [if_neg h]
    by_cases h2 : w ≤ GT40
    · rw [decide_eq_true h2, decide_eq_true (show -GT40 ≤ w by have : (0 : Int) ≤ GT40 := by decide
                                                               omega), decide_eq_false (by omega)]
      rfl
    · rw [decide_eq_false h2, decide_eq_true (show GT40 < w by omega)]
      simp
end Gn
set_option Elab.async false
set_option linter.all false
set_option maxRecDepth 100000
set_option maxHeartbeats 4000000
namespace Gn
open PySem PySem.Spec PyProof.Rows L2
/-! ### the law's own run in memory -/
structure OAd where
  wd : Addr
  te : Addr
  dn : Addr
  wy : Addr
  ro : Addr
/-- a dict of worths: the last worths by d -/
def WdAt (H : Hp) (a : Addr) (d : List (Nat × Option Int)) : Prop := ∃ kv : List (Key × V), H a = some (.dK kv) ∧ kv.length ≤ d.length ∧ ∀ y : Nat, valV kv (Sum.inl (y : Int)) = (lastD d y).map wv
def RoAt (H : Hp) (a : Addr) (rs : List Int) (m : Nat) : Prop := ∃ rk : List (Key × V), H a = some (.dK rk) ∧ rk.length ≤ m ∧ ∀ r : Nat, r < 6 → (valV rk (Sum.inl (r : Int))).getD (.int 0) = .int (LI rs r)
structure OAt (K : PySem.W.Frag) (I H : Hp) (A : OAd) (s : MSt) (d : List (Nat × Option Int)) (m : Nat) : Prop where
  sI : Same I H
  nw : ∀ a ∈ [A.wd, A.te, A.dn, A.wy, A.ro], I a = none
  nd : [A.wd, A.te, A.dn, A.wy, A.ro].Nodup
  wd : WdAt H A.wd d
  te : H A.te = some (.lst (s.told.map V.int))
  dn : ∃ ds, H A.dn = some (.lst ds) ∧ Paired (DnAt K H) ds s.done
  wy : H A.wy = some (.lst (s.way.map iv))
  ro : RoAt H A.ro s.rooms m
variable {K : PySem.W.Frag} {I H H' : Hp} {A : OAd} {s : MSt} {d : List (Nat × Option Int)} {m : Nat}
theorem WdAt.same {a : Addr} (h : WdAt H a d) (e : Same H H') : WdAt H' a d := by
  obtain ⟨kv, h1, h2⟩ := h
  exact ⟨kv, e _ _ h1, h2⟩
theorem WdAt.ne {a b : Addr} {o : HO} (h : WdAt H a d) (e : a ≠ b) : WdAt (upd H b o) a d := by
  obtain ⟨kv, h1, h2⟩ := h
  exact ⟨kv, by rw [upd_ne e]; exact h1, h2⟩
theorem RoAt.same {a : Addr} {rs : List Int} (h : RoAt H a rs m) (e : Same H H') : RoAt H' a rs m := by
  obtain ⟨kv, h1, h2⟩ := h
  exact ⟨kv, e _ _ h1, h2⟩
theorem RoAt.ne {a b : Addr} {o : HO} {rs : List Int} (h : RoAt H a rs m) (e : a ≠ b) : RoAt (upd H b o) a rs m := by
  obtain ⟨kv, h1, h2⟩ := h
  exact ⟨kv, by rw [upd_ne e]; exact h1, h2⟩
theorem OAt.same (h : OAt K I H A s d m) (e : Same H H') : OAt K I H' A s d m := by
  obtain ⟨ds, d1, d2⟩ := h.dn
  exact ⟨h.sI.trans e, h.nw, h.nd, h.wd.same e, e _ _ h.te, ⟨ds, e _ _ d1, pd_mono d2 fun _ _ ⟨q, z1, z2⟩ => ⟨q, z1, Same.tup e z2⟩⟩, e _ _ h.wy, h.ro.same e⟩
theorem OAt.las (h : OAt K I H A s d m) (xs : List Int) : OAt K I H A { s with lasts := xs } d m := ⟨h.sI, h.nw, h.nd, h.wd, h.te, h.dn, h.wy, h.ro⟩
theorem OAt.mono (h : OAt K I H A s d m) {k : Nat} (e : m ≤ k) : OAt K I H A s d k := by
  obtain ⟨rk, r1, r2, r3⟩ := h.ro
  exact ⟨h.sI, h.nw, h.nd, h.wd, h.te, h.dn, h.wy, rk, r1, Nat.le_trans r2 e, r3⟩
theorem OAt.ne (h : OAt K I H A s d m) : (A.wd ≠ A.te ∧ A.wd ≠ A.dn ∧ A.wd ≠ A.wy ∧ A.wd ≠ A.ro) ∧ (A.te ≠ A.dn ∧ A.te ≠ A.wy ∧ A.te ≠ A.ro) ∧ (A.dn ≠ A.wy ∧ A.dn ≠ A.ro) ∧ A.wy ≠ A.ro := by
  have := h.nd
  simp only [List.nodup_cons, List.mem_cons, List.not_mem_nil, or_false, not_or, List.nodup_nil, and_true, not_false_eq_true] at this
  exact this
theorem OAt.setTe (h : OAt K I H A s d m) (xs : List Int) : OAt K I (upd H A.te (.lst (xs.map V.int))) A { s with told := xs } d m := by
  obtain ⟨⟨a1, a2, a3, a4⟩, ⟨b1, b2, b3⟩, ⟨c1, c2⟩, d1⟩ := h.ne
  obtain ⟨ds, x1, x2⟩ := h.dn
  exact ⟨Same.upd h.sI (h.nw _ (by simp)), h.nw, h.nd, h.wd.ne a1, upd_same, ⟨ds, by rw [upd_ne b1.symm]; exact x1, dn_upd x2 h.te (fun _ z => by cases z) (fun _ _ z => by cases z)⟩, by rw [upd_ne b2.symm]; exact h.wy, h.ro.ne b3.symm⟩
theorem OAt.setWy (h : OAt K I H A s d m) (xs : List Nat) : OAt K I (upd H A.wy (.lst (xs.map iv))) A { s with way := xs } d m := by
  obtain ⟨⟨a1, a2, a3, a4⟩, ⟨b1, b2, b3⟩, ⟨c1, c2⟩, d1⟩ := h.ne
  obtain ⟨ds, x1, x2⟩ := h.dn
  exact ⟨Same.upd h.sI (h.nw _ (by simp)), h.nw, h.nd, h.wd.ne a3, by rw [upd_ne b2]; exact h.te, ⟨ds, by rw [upd_ne c1]; exact x1, dn_upd x2 h.wy (fun _ z => by cases z) (fun _ _ z => by cases z)⟩, upd_same, h.ro.ne d1.symm⟩
/-- rooms[r] = v -/
theorem OAt.setRo (h : OAt K I H A s d m) {rk : List (Key × V)} (e : H A.ro = some (.dK rk)) (hl : s.rooms.length = 6) {r : Nat} (hr : r < 6) (v : Int) : OAt K I (upd H A.ro (.dK (putK rk (Sum.inl (r : Int)) (.int v)))) A { s with rooms := s.rooms.set r v } d (m + 1) := by
  obtain ⟨⟨a1, a2, a3, a4⟩, ⟨b1, b2, b3⟩, ⟨c1, c2⟩, d1⟩ := h.ne
  obtain ⟨ds, x1, x2⟩ := h.dn
  obtain ⟨rk', r1, r2, r3⟩ := h.ro
  rw [e] at r1
  cases r1
  refine ⟨Same.upd h.sI (h.nw _ (by simp)), h.nw, h.nd, h.wd.ne a4, by rw [upd_ne b3]; exact h.te, ⟨ds, by rw [upd_ne c2]; exact x1, dn_upd x2 e (fun _ z => by cases z) (fun _ _ z => by cases z)⟩, by rw [upd_ne d1]; exact h.wy, _, upd_same, Nat.le_trans (length_putK _ _ _) (by omega), fun r' hr' => ?_⟩
  rw [valV_put, LI_set (by rw [hl]; exact hr)]
  by_cases z : r = r'
  · subst z
    rw [if_pos rfl, if_pos rfl]
    rfl
  · rw [if_neg (fun y => z (by have := Sum.inl.inj y; omega)), if_neg z]
    exact r3 r' hr'
/-- worths[k] = w -/
theorem OAt.setWd (h : OAt K I H A s d m) {kv : List (Key × V)} (e : H A.wd = some (.dK kv)) (k : Nat) (w : Option Int) : OAt K I (upd H A.wd (.dK (putK kv (Sum.inl (k : Int)) (wv w)))) A s (d ++ [(k, w)]) m := by
  obtain ⟨⟨a1, a2, a3, a4⟩, ⟨b1, b2, b3⟩, ⟨c1, c2⟩, d1⟩ := h.ne
  obtain ⟨ds, x1, x2⟩ := h.dn
  obtain ⟨kv', r1, r2, r3⟩ := h.wd
  rw [e] at r1
  cases r1
  refine ⟨Same.upd h.sI (h.nw _ (by simp)), h.nw, h.nd, ⟨_, upd_same, Nat.le_trans (length_putK _ _ _) (by rw [List.length_append, List.length_singleton]; omega), fun y => ?_⟩, by rw [upd_ne a1.symm]; exact h.te, ⟨ds, by rw [upd_ne a2.symm]; exact x1, dn_upd x2 e (fun _ z => by cases z) (fun _ _ z => by cases z)⟩, by rw [upd_ne a3.symm]; exact h.wy, h.ro.ne a4.symm⟩
  rw [valV_put, lastD_snoc]
  by_cases z : k = y
  · subst z
    rw [if_pos rfl, if_pos rfl]
    rfl
  · rw [if_neg (fun x => z (by have := Sum.inl.inj x; omega)), if_neg z]
    exact r3 y
/-- done.append((k, w)): T the new tuple -/
theorem OAt.app (h : OAt K I H A s d m) {T : Addr} {ds : List V} {k : Nat} {w : Option Int} (nT : H T = none) (e : H A.dn = some (.lst ds)) : OAt K I (upd (upd H T (.tup [iv k, wv w])) A.dn (.lst (ds ++ [.ref T]))) A { s with done := s.done ++ [(k, w)] } d m := by
  have h' := h.same (new_same (o := .tup [iv k, wv w]) nT)
  have e' := (new_same (o := .tup [iv k, wv w]) nT) _ _ e
  obtain ⟨⟨a1, a2, a3, a4⟩, ⟨b1, b2, b3⟩, ⟨c1, c2⟩, d1⟩ := h.ne
  obtain ⟨ds', x1, x2⟩ := h'.dn
  rw [e'] at x1
  cases x1
  have eT : SqT K (upd H T (.tup [iv k, wv w])) T [iv k, wv w] := sqT upd_same
  exact ⟨Same.upd h'.sI (h.nw _ (by simp)), h.nw, h.nd, h'.wd.ne a2, by rw [upd_ne b1]; exact h'.te, ⟨_, upd_same, pd_snoc (dn_upd x2 e' (fun _ z => by cases z) (fun _ _ z => by cases z)) ⟨T, rfl, tup_any eT e' (fun _ z => by cases z) (fun _ _ z => by cases z)⟩⟩, by rw [upd_ne c1.symm]; exact h'.wy, h'.ro.ne c2.symm⟩
theorem WdAt.has {a : Addr} {y : Nat} {x : Int} (h : WdAt H a d) (e : lastD d y = some (some x)) : DGet H a (iv y) (some (.int x)) := by
  obtain ⟨kv, h1, h2, h3⟩ := h
  exact .inl ⟨kv, Sum.inl (y : Int), .inl h1, rfl, by rw [h3 y, e]; rfl⟩
theorem WdAt.hasW {a : Addr} {y : Nat} (h : WdAt H a d) (e : lastD d y = some (some (LI s.lasts y))) : HasW H a s y := by
  obtain ⟨kv, h1, h2, h3⟩ := h
  exact ⟨kv, h1, by rw [h3 y, e]; rfl⟩
theorem OAt.fresh (h : OAt K I H A s d m) {a : Addr} (n : H a = none) : a ∉ [A.wd, A.te, A.dn, A.wy, A.ro] := fun hm => by
  obtain ⟨kv, k1, _⟩ := h.wd
  obtain ⟨rk, r1, _⟩ := h.ro
  obtain ⟨ds, x1, _⟩ := h.dn
  have hm : a = A.wd ∨ a = A.te ∨ a = A.dn ∨ a = A.wy ∨ a = A.ro := by simpa using hm
  rcases hm with rfl | rfl | rfl | rfl | rfl
  · rw [k1] at n; cases n
  · rw [h.te] at n; cases n
  · rw [x1] at n; cases n
  · rw [h.wy] at n; cases n
  · rw [r1] at n; cases n
/-- with another object beside, that stays -/
theorem OAt.ext (h : OAt K I H A s d m) {a : Addr} {o : HO} (e : H a = some o) (n : a ∉ [A.wd, A.te, A.dn, A.wy, A.ro]) : OAt K (upd I a o) H A s d m := by
  refine ⟨fun b u z => ?_, fun b hb => ?_, h.nd, h.wd, h.te, h.dn, h.wy, h.ro⟩
  · by_cases hab : b = a
    · subst hab
      rw [upd_same] at z
      cases z
      exact e
    · rw [upd_ne hab] at z
      exact h.sI _ _ z
  · rw [upd_ne (fun z => n (by rw [← z]; exact hb))]
    exact h.nw b hb
theorem OAt.sub {J : Hp} (h : OAt K I H A s d m) (e : Same J I) : OAt K J H A s d m := ⟨e.trans h.sI, fun a ha => e.free (h.nw a ha), h.nd, h.wd, h.te, h.dn, h.wy, h.ro⟩
end Gn
set_option Elab.async false
set_option linter.all false
set_option maxRecDepth 100000
set_option maxHeartbeats 4000000
namespace Gn
open PySem PySem.Spec PyProof.Rows L2
theorem cut_two (x : V) (xs : List V) : cutV (x :: xs) (some 2) none = xs.drop 1 := by
  unfold cutV
  rw [show HT.sIx (x :: xs).length 0 (some 2) = min 2 (x :: xs).length from HT.sIx_nat (x :: xs).length 0 2, HT.sIx_none]
  cases xs with
  | nil => rfl
  | cons y ys =>
    rw [show min 2 (x :: y :: ys).length = 2 by rw [List.length_cons, List.length_cons]; omega]
    show (List.take ((x :: y :: ys).length - 2) ys) = ys
    rw [List.length_cons, List.length_cons, show ys.length + 1 + 1 - 2 = ys.length by omega]
    exact List.take_length
theorem cut_not2 (x : V) (xs : List V) : ¬ (HT.sIx (x :: xs).length 0 (some 2) = 0 ∧ HT.sIx (x :: xs).length (x :: xs).length none = (x :: xs).length) := by
  rw [show HT.sIx (x :: xs).length 0 (some 2) = min 2 (x :: xs).length from HT.sIx_nat (x :: xs).length 0 2]
  rw [List.length_cons]
  omega
def En.isGo : En → Bool
  | .go _ => true
  | _ => false
theorem go_dec (e : En) : decide (V.str e.word = V.str "go") = e.isGo := by
  cases e with
  | go b => exact decide_eq_true rfl
  | iff r b c => rfl
  | fin => rfl
theorem go_names {e : En} (h : e.isGo = true) : e.parts = e.names.map iv := by cases e <;> first | rfl | cases h
theorem ngo_names {e : En} (h : ¬ e.isGo = true) : e.parts.drop 1 = e.names.map iv := by cases e <;> first | rfl | exact absurd rfl h
theorem BlkAt.same' {K : PySem.W.Frag} {H H' : Hp} {v : V} {b : Blk} (h : BlkAt K H v b) (e : Same H H') : BlkAt K H' v b := h.same e
/-- list.index, of numbers -/
theorem idx_read {xs : List Nat} {b : Nat} (h : b ∈ xs) : (xs.map iv)[xs.idxOf b]? = some (iv b) ∧ ∀ (m : Nat) (z : V), m < xs.idxOf b → (xs.map iv)[m]? = some z → eqV z (iv b) = false := by
  have hl : xs.idxOf b < xs.length := List.idxOf_lt_length_iff.mpr h
  refine ⟨by rw [List.getElem?_map, List.getElem?_eq_getElem hl, List.getElem_idxOf]; rfl, fun m z hm hz => ?_⟩
  rw [List.getElem?_map] at hz
  obtain ⟨y, hy, rfl⟩ := Option.map_eq_some_iff.mp hz
  have hne : y ≠ b := fun z => by
    have h1 := List.not_of_lt_findIdx (show m < xs.findIdx (· == b) from hm)
    have h2 := (List.getElem?_eq_some_iff.mp hy).2
    rw [h2, z] at h1
    simp at h1
  show ((y : Int) == (b : Int)) = false
  rw [beq_eq_false_iff_ne]
  omega
def rmAt (s : MSt) : Rw → Nat
  | .look rs x => pk rs (LI s.lasts x)
  | .lay rs x _ => pk rs (LI s.lasts x)
  | _ => 0
def Rw.ll : Rw → Bool
  | .look _ _ => true
  | .lay _ _ _ => true
  | _ => false
theorem ll_in (r : Rw) : inV (.str r.w) [.str "look", .str "lay"] = r.ll := by
  cases r with
  | bin b x y => cases b <;> rfl
  | _ => (first | rfl | decide)
theorem w_look (r : Rw) (h : ∀ rs x, r ≠ .look rs x) : ¬ decide (V.str r.w = V.str "look") = true := fun e => by
  cases r with
  | look rs x => exact h rs x rfl
  | bin b x y => cases b <;> cases (show false = true from e)
  | _ => cases (show false = true from e)
theorem w_meet (r : Rw) (h : ∀ ps, r ≠ .meet ps) : ¬ decide (V.str r.w = V.str "meet") = true := fun e => by
  cases r with
  | meet ps => exact h ps rfl
  | bin b x y => cases b <;> cases (show false = true from e)
  | _ => cases (show false = true from e)
theorem w_tell (r : Rw) (h : ∀ x, r ≠ .tell x) : ¬ decide (V.str r.w = V.str "tell") = true := fun e => by
  cases r with
  | tell x => exact h x rfl
  | bin b x y => cases b <;> cases (show false = true from e)
  | _ => cases (show false = true from e)
theorem w_lay (r : Rw) (h : ∀ rs x y, r ≠ .lay rs x y) : ¬ decide (V.str r.w = V.str "lay") = true := fun e => by
  cases r with
  | lay rs x y => exact h rs x y rfl
  | bin b x y => cases b <;> cases (show false = true from e)
  | _ => cases (show false = true from e)
theorem OAt.cong {K : PySem.W.Frag} {I H : Hp} {A : OAd} {s t : MSt} {d : List (Nat × Option Int)} {m : Nat} (h : OAt K I H A s d m) (e1 : s.told = t.told) (e2 : s.rooms = t.rooms) (e3 : s.way = t.way) (e4 : s.done = t.done) : OAt K I H A t d m := by
  obtain ⟨l1, r1, w1, t1, d1⟩ := s
  obtain ⟨l2, r2, w2, t2, d2⟩ := t
  cases e1
  cases e2
  cases e3
  cases e4
  exact ⟨h.sI, h.nw, h.nd, h.wd, h.te, h.dn, h.wy, h.ro⟩
theorem doR_way (k : Nat) (r : Rw) (w : Option Int) (s : MSt) : (doR k r w s).way = s.way ∧ (doR k r w s).done = s.done ++ [(k, w)] := by cases r <;> exact ⟨rfl, rfl⟩
theorem doR_told (k : Nat) (r : Rw) (w : Option Int) (s : MSt) (h : ∀ x, r ≠ .tell x) : (doR k r w s).told = s.told := by
  cases r with
  | tell x => exact absurd rfl (h x)
  | _ => rfl
theorem doR_rooms (k : Nat) (r : Rw) (w : Option Int) (s : MSt) (h : ∀ rs x y, r ≠ .lay rs x y) : (doR k r w s).rooms = s.rooms := by
  cases r with
  | lay rs x y => exact absurd rfl (h rs x y)
  | _ => rfl
theorem ll_parts {K : PySem.W.Frag} {H : Hp} {s : MSt} {r : Rw} {xs : List V} {N : Nat} (hx : Rest K H r xs) (hb : RwB N r) (h : r.ll = true) : ∃ (qa : Addr) (rs : List Nat) (x : Nat), (V.str r.w :: xs)[1]? = some (.ref qa) ∧ SqT K H qa (rs.map iv) ∧ (V.str r.w :: xs)[2]? = some (iv x) ∧ x ∈ r.used ∧ rs ≠ [] ∧ rmAt s r = pk rs (LI s.lasts x) := by
  cases r with
  | look rs x =>
    obtain ⟨qa, rfl, hqa⟩ := hx
    exact ⟨qa, rs, x, rfl, hqa, rfl, by simp [Rw.used], hb.2.2.1, rfl⟩
  | lay rs x y =>
    obtain ⟨qa, rfl, hqa⟩ := hx
    exact ⟨qa, rs, x, rfl, hqa, rfl, by simp [Rw.used], hb.2.2.2.1, rfl⟩
  | _ => cases h
theorem rm_not {s : MSt} {r : Rw} (h : ¬ r.ll = true) : rmAt s r = 0 := by
  cases r with
  | look rs x => exact absurd rfl h
  | lay rs x y => exact absurd rfl h
  | _ => rfl
theorem own_not {tk : List Int} {s : MSt} {r : Rw} (h : ∀ rs x, r ≠ .look rs x) : ownW tk s r = wOf tk s r := by
  cases r with
  | look rs x => exact absurd rfl (h rs x)
  | _ => rfl
end Gn
set_option Elab.async false
set_option linter.all false
set_option maxRecDepth 100000
set_option maxHeartbeats 8000000
set_option pp.maxSteps 150
namespace Gn
open PySem PySem.Spec PyProof.Rows L2
/-! ### the law's own run -/
def spOwnRun (K : PySem.W.Frag) : Sp := fun vs H Q _ => ∃ (tka : Addr) (v : V) (most : Nat) (pr : List Blk) (tk : List Int) (st : Sta), vs = [v, .ref tka, iv most] ∧ ProgAt K H v pr ∧ SqL K H tka (tk.map V.int) ∧ PureOk pr tk ∧ PrS st pr ∧ most ≤ 30000 ∧
  ∀ (q te dn wy : Addr) (ds : List V) (H' : Hp), Same H H' → SqT K H' q [.str (runC pr tk most).word, .ref te, .ref dn, .ref wy] → H te = none → H dn = none → H wy = none → te ≠ dn → H' te = some (.lst ((runC pr tk most).st.told.map V.int)) → H' dn = some (.lst ds) → Paired (DnAt K H') ds (runC pr tk most).st.done → H' wy = some (.lst ((runC pr tk most).st.way.map iv)) → Q (.ref q) H'
abbrev nOR : List Str := ["_law_program_here", "_law_takes_here", "_law_most", "_law_rows", "_law_blocks", "_law_nexts_here", "_law_leads_here", "_law_begins", "_law_worths", "_law_told", "_law_done", "_law_way", "_law_steps", "_law_rooms", "_law_lead", "_law_block", "_law_ahead", "_law_k", "_law_worth_here", "_law_room", "_law_end", "_law_rest"]
theorem scOR : FnScope nOR ["_law_program_here", "_law_takes_here", "_law_most"] (defScope sOwnRun) := ⟨rfl, rfl, rfl, by decide +kernel, rfl, by decide +kernel, by decide +kernel⟩
abbrev cOR : Scope := lcS (valE (nthS (defBody sOwnRun) 2))
abbrev teNx (K : PySem.W.Frag) : TE := tIf (tTest (tOp rEq (tIxT K (tVar 20) (tC (.int 0))) (tC (.str "go")))) (tCB (fun xs H Q => ∃ p ys, xs = [.ref p] ∧ (SqL K H p ys ∨ SqT K H p ys) ∧ ∀ l, H l = none → Q (.ref l) (upd H l (.lst ys))) (tCons (tSl (rSlT K) (tVar 20) (tPart (tC (.int 1))) tNoPart) tNil)) (tCB (fun xs H Q => ∃ p ys, xs = [.ref p] ∧ (SqL K H p ys ∨ SqT K H p ys) ∧ ∀ l, H l = none → Q (.ref l) (upd H l (.lst ys))) (tCons (tSl (rSlT K) (tVar 20) (tPart (tC (.int 2))) tNoPart) tNil))
abbrev teBg (K : PySem.W.Frag) : TE := tIf (tIn K (tVar 15) (tVar 4)) (tBM K "list" (rIndex K) (tVar 4) (tCons (tVar 15) tNil)) (tC (.int 0))
section
variable {P : Program} {w : World} {K : PySem.W.Frag} {mg : Str → Option Value} {base : Heap}
theorem ok_ownRun {f fF fW fN : Addr} {fd fdF fdW fdN : FuncData} {k : Nat} (D : Df K mg "_law_run" sOwnRun ["_law_program_here", "_law_takes_here", "_law_most"] f fd) (B : Bi mg) (hdict : mg "dict" = none)
    (DF : Df K mg "_law_flat" sFlat ["_law_program_here"] fF fdF) (GF : FnOk P w K mg base CX0 k fF fdF ["_law_program_here"] (spFlat K))
    (DW : Df K mg "_law_worth" sWorth ["_law_row", "_law_worths", "_law_takes_here"] fW fdW) (GW : FnOk P w K mg base CX0 k fW fdW ["_law_row", "_law_worths", "_law_takes_here"] (spWorth K))
    (DN : Df K mg "_law_next" sNext ["_law_end", "_law_worths"] fN fdN) (GN : FnOk P w K mg base CX0 k fN fdN ["_law_end", "_law_worths"] (spNext K)) : FnOk P w K mg base CX0 (k + 1) f fd ["_law_program_here", "_law_takes_here", "_law_most"] (spOwnRun K) := by
  refine D.F.ok scOR (fun vs H Q E h => ?_) (fun cdv A outer s H vs Q E hr h => ?_)
  · obtain ⟨tka, v, most, pr, tk, st, rfl, _⟩ := h
    rfl
  · obtain ⟨tka, v, most, pr, tk, st, rfl, hP, hT, hO, hPS, hmo, q⟩ := h
    have hu := hu_of hr
    refine ⟨_, (pss_cons (ps_asg (pe_call GF hr (by rfl) DF.g DF.F.kp DF.b .nil pass0 (pa_cons (pv 0) pa_nil)) (pg_tup rfl (pgs_cons (pg_name (i := 3) scOR.nd rfl (.inl rfl)) (pgs_cons (pg_name (i := 4) scOR.nd rfl (.inr rfl)) pgs_nil))))
      (Evl.pss_cut (ps_set (i := 5) scOR.nd rfl (.inr rfl) (pe_lc (own := [("_law_rest", 21), ("_law_end", 20)]) (g := gTup K 2 (gCons (gName 21) (gCons (gName 20) gNil))) (tt := tYes) (te := teNx K) rfl scOR.nd (pi_list (pv 0))
        (blkOk_by (own := [("_law_rest", 21), ("_law_end", 20)]) (N := nOR) (sc := defScope sOwnRun) (by decide +kernel)) (fun _ _ _ _ _ => pg_tup rfl (pgs_cons (pg_name (i := 21) scOR.nd rfl (.inl rfl)) (pgs_cons (pg_name (i := 20) scOR.nd rfl (.inl rfl)) pgs_nil))) (fun _ _ _ _ _ => pts_nil)
        (fun _ _ _ _ _ => pe_ifExp (pt_cmpR op_eq (pe_ix ix_tup (pv 20) pe_int (fun _ _ => rfl)) pe_str (nomark _)) (pe_callTy call_list_of (by rfl) B.list PyProof.Rows.boot_list (pa_cons (pe_slice sl_tup (pv 20) (po_some pe_int) po_none) pa_nil)) (pe_callTy call_list_of (by rfl) B.list PyProof.Rows.boot_list (pa_cons (pe_slice sl_tup (pv 20) (po_some pe_int) po_none) pa_nil)))))
      (Evl.pss_cut (ps_setLc (i := 6) (own := [("_law_block", 15)]) (g := gName 15) (tt := tYes) (te := tLc (iRange (tLen K (tVar 0))) (gName 14) (tIn K (tVar 15) (tIxL K (tVar 5) (tVar 14))) (tVar 14) [14]) (by rfl) scOR.nd rfl rfl (sw_true rfl rfl rfl (by decide +kernel)) (pi_range1 (by rfl) B.range (pa_cons (pe_callB call_len_seq (by rfl) B.len PySem.boot_len (pa_cons (pv 0) pa_nil)) pa_nil))
        (blkOk_by (own := [("_law_block", 15)]) (N := nOR) (sc := defScope sOwnRun) (by decide +kernel)) (fun _ _ _ _ _ => pg_name (i := 15) scOR.nd rfl (.inr rfl)) (fun _ _ _ _ _ => pts_nil)
        (fun _ _ _ _ _ => pe_lc (own := [("_law_lead", 14)]) (g := gName 14) (tt := tIn K (tVar 15) (tIxL K (tVar 5) (tVar 14))) (te := tVar 14) rfl scOR.nd (pi_range1 (by rfl) B.range (pa_cons (pe_callB call_len_seq (by rfl) B.len PySem.boot_len (pa_cons (pv 0) pa_nil)) pa_nil))
          (blkOk_by (own := [("_law_lead", 14)]) (N := nOR) (sc := relS cOR (defScope sOwnRun)) (by decide +kernel)) (fun _ _ _ _ _ => pg_name (i := 14) scOR.nd rfl (.inl rfl))
          (fun _ _ _ _ _ => pts_one (pt_cmpR op_in_seq (pv 15) (pe_ix ix_list (pv 5) (pv 14) (fun _ _ => rfl)) rfl)) (fun _ _ _ _ _ => pv 14)))
      (Evl.pss_cut (ps_setLc (i := 7) (own := [("_law_block", 15)]) (g := gName 15) (tt := tYes) (te := teBg K) (by rfl) scOR.nd rfl rfl (sw_true rfl rfl rfl (by decide +kernel)) (pi_range1 (by rfl) B.range (pa_cons (pe_callB call_len_seq (by rfl) B.len PySem.boot_len (pa_cons (pv 0) pa_nil)) pa_nil))
        (blkOk_by (own := [("_law_block", 15)]) (N := nOR) (sc := defScope sOwnRun) (by decide +kernel)) (fun _ _ _ _ _ => pg_name (i := 15) scOR.nd rfl (.inl rfl)) (fun _ _ _ _ _ => pts_nil)
        (fun _ _ _ _ _ => pe_ifExp (pt_cmpR op_in_seq (pv 15) (pv 4) rfl) (pe_bm PySem.F.plainAttrs_list PySem.F.slot_list_index PySem.F.type_list_index mt_index (pv 4) (pa_cons (pv 15) pa_nil)) pe_int))
      (pss_cons (ps_asg (pe_tup (pa_cons pe_dnewK (pa_cons (pe_lst pa_nil) (pa_cons (pe_lst pa_nil) (pa_cons (pe_lst pa_nil) (pa_cons pe_int pa_nil)))))) (pg_tup rfl (pgs_cons (pg_name (i := 8) scOR.nd rfl (.inl rfl)) (pgs_cons (pg_name (i := 9) scOR.nd rfl (.inl rfl)) (pgs_cons (pg_name (i := 10) scOR.nd rfl (.inl rfl)) (pgs_cons (pg_name (i := 11) scOR.nd rfl (.inl rfl)) (pgs_cons (pg_name (i := 12) scOR.nd rfl (.inl rfl)) pgs_nil)))))))
      (pss_cons (ps_set (i := 13) scOR.nd rfl (.inl rfl) pe_dnewK)
      (pss_cons (ps_asg (pe_tup (pa_cons pe_int (pa_cons pe_int pa_nil))) (pg_tup rfl (pgs_cons (pg_name (i := 14) scOR.nd rfl (.inl rfl)) (pgs_cons (pg_name (i := 15) scOR.nd rfl (.inl rfl)) pgs_nil))))
      (pss_cons (ps_while PassesOwn.never (pt_cmpR op_notN (pv 15) pe_non (nomark _)) (pss_cons (ps_if (pt_cmpR op_eq (pv 12) (pv 2) (nomark _)) (pss_one (ps_ret (pe_tup (pa_cons pe_str (pa_cons (pv 9) (pa_cons (pv 10) (pa_cons (pv 11) pa_nil))))))) pss_nil)
      (pss_cons (ps_set (i := 12) scOR.nd rfl (.inl rfl) (pe_op op_add (pv 12) pe_int))
      (pss_cons (ps_expr (pe_bm PySem.F.plainAttrs_list PySem.F.slot_list_append PySem.F.type_list_append mt_append (pv 11) (pa_cons (pv 15) pa_nil)))
      (pss_cons (ps_set (i := 16) scOR.nd rfl (.inl rfl) (pe_callTy call_dictD (by rfl) hdict boot_dict (pa_cons (pv 8) pa_nil)))
      (pss_cons (ps_for PassesOwn.never rfl (pi_range2 (by rfl) B.range (pa_cons (pe_ix ix_list (pv 7) (pv 15) (fun _ _ => rfl)) (pa_cons (pe_op op_add (pe_ix ix_list (pv 7) (pv 15) (fun _ _ => rfl)) (pe_callB call_len_seq (by rfl) B.len PySem.boot_len (pa_cons (pe_ix ix_tup (pe_ix ix_list (pv 0) (pv 15) (fun _ _ => rfl)) pe_int (fun _ _ => rfl)) pa_nil))) pa_nil))) (pg_name (i := 17) scOR.nd rfl (.inl rfl)) (pss_cons (ps_if (pt_cmpR op_eq (pv 12) (pv 2) (nomark _)) (pss_one (ps_ret (pe_tup (pa_cons pe_str (pa_cons (pv 9) (pa_cons (pv 10) (pa_cons (pv 11) pa_nil))))))) pss_nil)
      (pss_cons (ps_set (i := 12) scOR.nd rfl (.inl rfl) (pe_op op_add (pv 12) pe_int))
      (pss_cons (ps_set (i := 18) scOR.nd rfl (.inl rfl) (pe_call GW hr (by rfl) DW.g DW.F.kp DW.b .nil pass0 (pa_cons (pe_ix ix_list (pv 3) (pv 17) (fun _ _ => rfl)) (pa_cons (pv 8) (pa_cons (pv 1) pa_nil)))))
      (Evl.pss_cut (ps_set (i := 19) scOR.nd rfl (.inl rfl) (pe_ifExp (pt_cmpR op_in_seq (pe_ix ix_tup (pe_ix ix_list (pv 3) (pv 17) (fun _ _ => rfl)) pe_int (fun _ _ => rfl)) (pe_tup (pa_cons pe_str (pa_cons pe_str pa_nil))) rfl) (pe_ix ix_tup (pe_ix ix_tup (pe_ix ix_list (pv 3) (pv 17) (fun _ _ => rfl)) pe_int (fun _ _ => rfl)) (pe_op op_mod (pe_dget hu (pv 8) (pe_ix ix_tup (pe_ix ix_list (pv 3) (pv 17) (fun _ _ => rfl)) pe_int (fun _ _ => rfl)) (fun _ _ => rfl)) (pe_callB call_len_seq (by rfl) B.len PySem.boot_len (pa_cons (pe_ix ix_tup (pe_ix ix_list (pv 3) (pv 17) (fun _ _ => rfl)) pe_int (fun _ _ => rfl)) pa_nil))) (fun _ _ => rfl)) pe_int))
      (Evl.pss_cut (ps_if (pt_cmpR op_eq (pe_ix ix_tup (pe_ix ix_list (pv 3) (pv 17) (fun _ _ => rfl)) pe_int (fun _ _ => rfl)) pe_str (nomark _)) (pss_one (ps_set (i := 18) scOR.nd rfl (.inl rfl) (pe_dget2 hu (pv 13) (pv 19) pe_int ⟨rfl, rfl, rfl, rfl⟩))) pss_nil)
      (Evl.pss_cut (ps_if (pt_cmpR op_eq (pe_ix ix_tup (pe_ix ix_list (pv 3) (pv 17) (fun _ _ => rfl)) pe_int (fun _ _ => rfl)) pe_str (nomark _)) (pss_one (ps_set (i := 18) scOR.nd rfl (.inl rfl) (pe_dget hu (pv 16) (pe_ix ix_tup (pe_ix ix_tup (pe_ix ix_list (pv 3) (pv 17) (fun _ _ => rfl)) pe_int (fun _ _ => rfl)) (pe_bm PySem.F.plainAttrs_list PySem.F.slot_list_index PySem.F.type_list_index mt_index (pe_ix ix_list (pv 6) (pv 15) (fun _ _ => rfl)) (pa_cons (pv 14) pa_nil)) (fun _ _ => rfl)) (fun _ _ => rfl)))) pss_nil)
      (Evl.pss_cut (ps_if (pw_and (pt_cmpR op_notN (pv 18) pe_non (nomark _)) (pw_and1 (pt_cmpR op_gt (pe_callB call_abs (by rfl) B.abs (by decide +kernel) (pa_cons (pv 18) pa_nil)) (pe_op op_pow pe_int pe_int) (nomark _)))).pt (pss_one (ps_ret (pe_tup (pa_cons pe_str (pa_cons (pv 9) (pa_cons (pv 10) (pa_cons (pv 11) pa_nil))))))) pss_nil)
      (Evl.pss_cut (ps_if (pt_cmpR op_eq (pe_ix ix_tup (pe_ix ix_list (pv 3) (pv 17) (fun _ _ => rfl)) pe_int (fun _ _ => rfl)) pe_str (nomark _)) (pss_one (ps_expr (pe_bm PySem.F.plainAttrs_list PySem.F.slot_list_append PySem.F.type_list_append mt_append (pv 9) (pa_cons (pe_dget hu (pv 8) (pe_ix ix_tup (pe_ix ix_list (pv 3) (pv 17) (fun _ _ => rfl)) pe_int (fun _ _ => rfl)) (fun _ _ => rfl)) pa_nil)))) pss_nil)
      (Evl.pss_cut (ps_if (pt_cmpR op_eq (pe_ix ix_tup (pe_ix ix_list (pv 3) (pv 17) (fun _ _ => rfl)) pe_int (fun _ _ => rfl)) pe_str (nomark _)) (pss_one (ps_dput hu (pv 13) (pv 19) (pe_dget hu (pv 8) (pe_ix ix_tup (pe_ix ix_list (pv 3) (pv 17) (fun _ _ => rfl)) pe_int (fun _ _ => rfl)) (fun _ _ => rfl)) (by rfl))) pss_nil)
      (pss_cons (ps_dput hu (pv 8) (pv 17) (pv 18) (by rfl))
      (pss_one (ps_expr (pe_bm PySem.F.plainAttrs_list PySem.F.slot_list_append PySem.F.type_list_append mt_append (pv 10) (pa_cons (pe_tup (pa_cons (pv 17) (pa_cons (pv 18) pa_nil))) pa_nil)))))))))))))))
      (pss_cons (ps_set (i := 20) scOR.nd rfl (.inl rfl) (pe_ix ix_tup (pe_ix ix_list (pv 0) (pv 15) (fun _ _ => rfl)) pe_int (fun _ _ => rfl)))
      (pss_one (ps_par (i := 14) (j := 15) (by rfl) scOR.nd rfl rfl (by decide) rfl rfl (pa_cons (pv 15) (pa_cons (pe_call GN hr (by rfl) DN.g DN.F.kp DN.b .nil pass0 (pa_cons (pv 20) (pa_cons (pv 8) pa_nil))) pa_nil)) (by rfl))))))))))
      (pss_one (ps_ret (pe_tup (pa_cons pe_str (pa_cons (pv 9) (pa_cons (pv 10) (pa_cons (pv 11) pa_nil))))))))))))))), ?_⟩
    have hP0 := hP
    obtain ⟨pp, bs, rfl, hp, hbs⟩ := hP
    have hbl : bs.length = pr.length := pd_len hbs
    have hl12 := hO.l2
    have hnl : (pr.map fun b => b.2.names).length = pr.length := List.length_map _
    have hbi : (bs.length : Int) = (pr.length : Int) := by rw [hbl]
    refine ⟨.ref pp, rfl, .ref pp, pr, rfl, hP0, hl12, hO.rl, fun p ra ba H1 us s1 sp nra nba nrb era pus eba => ?_⟩
    refine ⟨p, _, rfl, sp, rfl, _, _, rfl, _, _, rfl, rfl, ?_⟩
    -- nexts
    refine ⟨fun σ H2 => ∃ nxa : Addr, σ = [some (.ref pp), some (.ref tka), some (iv most), some (.ref ra), some (.ref ba), some (.ref nxa), none, none, none, none, none, none, none, none, none, none, none, none, none, none, none, none] ∧ Same H1 H2 ∧ NL K H2 nxa (pr.map fun b => b.2.names), ?_, fun σ H2 hM => ?_⟩
    · have hp1 := s1.seq hp
      have hbs1 : Paired (BlkAt K H1) bs pr := pd_mono hbs fun _ _ z => z.same s1
      refine ⟨.ref pp, rfl, pp, rfl, ⟨_, hp1⟩, fun L nL => ?_⟩
      refine lc_list (K := K) (a := pp) (xs := bs) (fun i H2 => Same H1 H2 ∧ ∃ qs : List Addr, H2 L = some (.lst (qs.map V.ref)) ∧ Paired (fun q xs => H2 q = some (.lst (xs.map iv)) ∧ q ≠ L) qs ((pr.map fun b => b.2.names).take i)) ⟨new_same nL, [], upd_same, .nil⟩ (fun i H2 _ hP => hP.1.seq hp1) (fun i x H2 hx hP => ?_) (fun H2 hP => ?_)
      · obtain ⟨s2, qs, eL, pq⟩ := hP
        obtain ⟨bk, hb1, hb2⟩ := pd_at2 hbs1 hx
        obtain ⟨pb, ra', ea, vs, rfl, h2, h3, h4, h5⟩ := hb2.same s2
        obtain ⟨pe, rfl, hpe⟩ := h5.at
        have hil := (List.getElem?_eq_some_iff.mp hx).1
        have hnt : (pr.map fun b => b.2.names).take (i + 1) = (pr.map fun b => b.2.names).take i ++ [bk.2.names] := by
          rw [List.take_add_one, List.getElem?_map, hb1]
          rfl
        have hql : qs.length ≤ 1000 := by rw [pd_len pq, List.length_take]; omega
        have fin : ∀ (S l : Addr) (ts : List V) (xs : List Nat), H2 S = none → ts = xs.map iv → xs = bk.2.names → upd H2 S (.tup ts) l = none →
            ∃ acc, upd (upd H2 S (.tup ts)) l (.lst ts) L = some (.lst acc) ∧ acc.length < sizeLine ∧ Same H1 (upd (upd (upd H2 S (.tup ts)) l (.lst ts)) L (.lst (acc ++ [.ref l]))) ∧ ∃ qs : List Addr, upd (upd (upd H2 S (.tup ts)) l (.lst ts)) L (.lst (acc ++ [.ref l])) L = some (.lst (qs.map V.ref)) ∧
              Paired (fun q xs => upd (upd (upd H2 S (.tup ts)) l (.lst ts)) L (.lst (acc ++ [.ref l])) q = some (.lst (xs.map iv)) ∧ q ≠ L) qs ((pr.map fun b => b.2.names).take (i + 1)) := by
          rintro S l ts xs nS rfl rfl nl
          have sS := new_same (o := .tup (bk.2.names.map iv)) nS
          have sl := new_same (o := .lst (bk.2.names.map iv)) nl
          have eL2 := sl _ _ (sS _ _ eL)
          have nlL : l ≠ L := (ne_of_none (sS _ _ eL) nl).symm
          have el : upd (upd H2 S (.tup (bk.2.names.map iv))) l (.lst (bk.2.names.map iv)) l = some (.lst (bk.2.names.map iv)) := upd_same
          have s3 := sS.trans sl
          generalize upd (upd H2 S (.tup (bk.2.names.map iv))) l (.lst (bk.2.names.map iv)) = H3 at eL2 el s3
          refine ⟨_, eL2, by rw [List.length_map]; exact szt (by omega), fun a o z => ?_, qs ++ [l], by rw [upd_same, List.map_append]; rfl, ?_⟩
          · rw [upd_ne (ne_of_none z nL)]; exact s3 _ _ (s2 _ _ z)
          · rw [hnt]
            refine pd_snoc (pd_mono pq fun q xs z => ⟨by rw [upd_ne z.2]; exact s3 _ _ z.1, z.2⟩) ⟨by rw [upd_ne nlL]; exact el, nlL⟩
        refine ⟨pb, _, rfl, h2, rfl, _, _, rfl, _, _, rfl, rfl, rfl, .ref pe, rfl, pe, _, _, _, rfl, rfl, hpe, atI_nat (j := 0) rfl, rfl, _, rfl, ?_⟩
        show if decide (V.str bk.2.word = V.str "go") = true then _ else _
        rw [go_dec]
        by_cases hg : bk.2.isGo = true
        · rw [if_pos hg]
          refine ⟨.ref pe, rfl, 1, rfl, pe, _, rfl, hpe, cut_not _ _, fun S nS => ?_⟩
          rw [cut_one]
          exact ⟨S, _, rfl, .inr (sqT upd_same), fun l nl => fin S l _ _ nS (go_names hg) rfl nl⟩
        · rw [if_neg hg]
          refine ⟨.ref pe, rfl, 2, rfl, pe, _, rfl, hpe, cut_not2 _ _, fun S nS => ?_⟩
          rw [cut_two]
          exact ⟨S, _, rfl, .inr (sqT upd_same), fun l nl => fin S l _ _ nS (ngo_names hg) rfl nl⟩
      · obtain ⟨s2, qs, eL, pq⟩ := hP
        rw [hbl, List.take_of_length_le (by rw [List.length_map]; exact Nat.le_refl _)] at pq
        exact ⟨L, rfl, s2, qs, sqL eL, pd_mono pq fun _ _ z => sqL z.1⟩
    obtain ⟨nxa, rfl, s2, hN⟩ := hM
    have hp2 := (s1.trans s2).seq hp
    -- leads
    refine ⟨fun σ H3 => ∃ lda : Addr, σ = [some (.ref pp), some (.ref tka), some (iv most), some (.ref ra), some (.ref ba), some (.ref nxa), some (.ref lda), none, none, none, none, none, none, none, none, none, none, none, none, none, none, none] ∧ Same H2 H3 ∧ NL K H3 lda (leadsL (pr.map fun b => b.2.names)), ?_, fun σ H3 hM => ?_⟩
    · refine ⟨.ref pp, rfl, pp, bs, rfl, .inl hp2, pr.length, by rw [hbi], by omega, by omega, fun L nL => ?_⟩
      generalize hnx : (pr.map fun b => b.2.names) = nx at hN hnl
      let f : Nat → List Nat := fun b => (List.range pr.length).filter fun l => decide (b ∈ nx.getD l [])
      refine lc_range (lo := 0) (n := pr.length) (fun i H3 => Same H2 H3 ∧ ∃ ps : List Addr, H3 L = some (.lst (ps.map V.ref)) ∧ Paired (fun q xs => H3 q = some (.lst (xs.map iv)) ∧ q ≠ L ∧ H2 q = none) ps ((List.range i).map f)) ⟨new_same nL, [], upd_same, .nil⟩ (fun i H3 hi hP => ?_) (fun H3 hP => ?_)
      · obtain ⟨sm, ps, eL, pd⟩ := hP
        have hN1 := hN.same sm
        have hy1 := sm.seq hp2
        refine ⟨rfl, .ref pp, rfl, pp, bs, rfl, .inl hy1, pr.length, by rw [hbi], by omega, by omega, fun L2 nL2 => ?_⟩
        have n2 : L ≠ L2 := ne_of_none eL nL2
        refine lc_range (lo := 0) (n := pr.length) (fun j H4 => Same H3 H4 ∧ H4 L2 = some (.lst (((List.range j).filter fun l => decide (i ∈ nx.getD l [])).map iv))) ⟨new_same nL2, upd_same⟩ (fun j H4 hj hP2 => ?_) (fun H4 hP2 => ?_)
        · obtain ⟨sm2, eL2⟩ := hP2
          have ej : nx[j]? = some (nx.getD j []) := by rw [List.getD_eq_getElem?_getD, List.getElem?_eq_getElem (by omega)]; rfl
          obtain ⟨zs, qa, z1, z2, z3, z4⟩ := (hN1.same sm2).at ej
          refine ⟨rfl, _, rfl, .ref nxa, rfl, _, rfl, nxa, zs, _, _, rfl, rfl, z1, by rw [Int.zero_add]; exact z3, qa, _, rfl, .inl z4, rfl, flat_iv _, _, rfl, ?_⟩
          have ei : inV (.int (0 + (i : Int))) ((nx.getD j []).map iv) = decide (i ∈ nx.getD j []) := by
            rw [Int.zero_add]; exact inV_iv i _
          have er : (List.range (j + 1)).filter (fun l => decide (i ∈ nx.getD l [])) = (List.range j).filter (fun l => decide (i ∈ nx.getD l [])) ++ (if decide (i ∈ nx.getD j []) = true then [j] else []) := by
            exact filt_succ _ j
          show if inV (.int (0 + (i : Int))) ((nx.getD j []).map iv) = true then _ else _
          rw [ei]
          by_cases hb : decide (i ∈ nx.getD j []) = true
          · rw [if_pos hb]
            rw [if_pos hb] at er
            refine ⟨_, rfl, _, eL2, ?_, fun b o e => ?_, ?_⟩
            · rw [List.length_map]
              exact szt (Nat.lt_of_le_of_lt (List.length_filter_le _ _) (by rw [List.length_range]; omega))
            · rw [upd_ne (ne_of_none e nL2)]
              exact sm2 _ _ e
            · rw [upd_same, er, List.map_append, Int.zero_add]
              rfl
          · rw [if_neg hb]
            rw [if_neg hb, List.append_nil] at er
            exact ⟨sm2, by rw [er]; exact eL2⟩
        · obtain ⟨sm2, eL2⟩ := hP2
          refine ⟨_, sm2 _ _ eL, ?_, fun b o e => ?_, ps ++ [L2], ?_, ?_⟩
          · rw [List.length_map, pd_len pd, List.length_map, List.length_range]
            exact szt (by omega)
          · rw [upd_ne (ne_of_none e nL)]
            exact sm2 _ _ (sm _ _ e)
          · rw [upd_same, List.map_append]
            rfl
          · rw [List.range_succ, List.map_append]
            refine pd_snoc (pd_mono pd fun b xs z => ⟨?_, z.2⟩) ⟨?_, n2.symm, sm.free nL2⟩
            · rw [upd_ne z.2.1]; exact sm2 _ _ z.1
            · rw [upd_ne n2.symm]
              exact eL2
      · obtain ⟨sm, ps, eL, pd⟩ := hP
        refine ⟨L, rfl, sm, ps, sqL eL, ?_⟩
        unfold leadsL
        rw [hnl]
        exact pd_mono pd fun _ _ z => sqL z.1
    obtain ⟨lda, rfl, s3, hLD⟩ := hM
    have hp3 := s3.seq hp2
    have eba3 := s3 _ _ (s2 _ _ eba)
    -- begins
    refine ⟨fun σ H4 => ∃ bga : Addr, σ = [some (.ref pp), some (.ref tka), some (iv most), some (.ref ra), some (.ref ba), some (.ref nxa), some (.ref lda), some (.ref bga), none, none, none, none, none, none, none, none, none, none, none, none, none, none] ∧ Same H3 H4 ∧ H4 bga = some (.lst ((List.range pr.length).map fun b => iv (bgL pr b))), ?_, fun σ H4 hM => ?_⟩
    · refine ⟨.ref pp, rfl, pp, bs, rfl, .inl hp3, pr.length, by rw [hbi], by omega, by omega, fun L nL => ?_⟩
      refine lc_range (lo := 0) (n := pr.length) (fun i H4 => Same H3 H4 ∧ H4 L = some (.lst ((List.range i).map fun b => iv (bgL pr b)))) ⟨new_same nL, upd_same⟩ (fun i H4 hi hP => ?_) (fun H4 hP => ?_)
      · obtain ⟨sm, eL⟩ := hP
        have eb4 := sm _ _ eba3
        have fin : ∀ x : V, x = iv (bgL pr i) → ∃ acc, H4 L = some (.lst acc) ∧ acc.length < sizeLine ∧ Same H3 (upd H4 L (.lst (acc ++ [x]))) ∧ upd H4 L (.lst (acc ++ [x])) L = some (.lst ((List.range (i + 1)).map fun b => iv (bgL pr b))) := by
          rintro x rfl
          refine ⟨_, eL, by rw [List.length_map, List.length_range]; exact szt (by omega), Same.upd sm nL, ?_⟩
          rw [upd_same, List.range_succ, List.map_append]
          rfl
        refine ⟨rfl, _, rfl, .ref ba, rfl, ba, _, rfl, .inl (sqL eb4), rfl, flat_iv _, _, rfl, ?_⟩
        show if inV (.int (0 + (i : Int))) ((ownL pr pr.length).map iv) = true then _ else _
        rw [Int.zero_add, show inV (.int (i : Int)) ((ownL pr pr.length).map iv) = decide (i ∈ ownL pr pr.length) from inV_iv i _]
        by_cases hm : i ∈ ownL pr pr.length
        · rw [if_pos (decide_eq_true hm)]
          obtain ⟨j1, j2⟩ := idx_read hm
          refine ⟨.ref ba, rfl, .inl ⟨rfl, _, sqL eb4⟩, _, rfl, ba, _, iv i, (ownL pr pr.length).idxOf i, iv i, rfl, rfl, sqL eb4, rfl, flat_iv _, j1, (beq_self_eq_true (i : Int) : ((i : Int) == (i : Int)) = true), j2, fin _ ?_⟩
          unfold bgL
          rw [if_pos hm]
          rfl
        · rw [if_neg (by rw [decide_eq_false hm]; decide)]
          refine fin _ ?_
          unfold bgL
          rw [if_neg hm]
          rfl
      · obtain ⟨sm, eL⟩ := hP
        exact ⟨L, rfl, sm, eL⟩
    obtain ⟨bga, rfl, s4, ebg⟩ := hM
    have sH4 := ((s1.trans s2).trans s3).trans s4
    have hPr4 := hP0.same sH4
    have hT4 := sH4.seq hT
    have era4 := s4 _ _ (s3 _ _ (s2 _ _ era))
    have pus4 : Paired (RowAt K H4) us (rowsL pr) := pd_mono pus fun _ _ z => z.same ((s2.trans s3).trans s4)
    have hLD4 := hLD.same s4
    clear hp hp2 hp3 hbs hbi eba eba3 nba nrb era pus hN hLD sp
    refine fun wd nwd => ⟨Nat.zero_le _, fun te nte => ⟨Nat.zero_le _, fun dn ndn => ⟨Nat.zero_le _, fun wy nwy => ⟨szl (show 5 ≤ 1000000 by decide), fun tp ntp => ?_⟩⟩⟩⟩
    refine ⟨tp, _, rfl, sqT upd_same, rfl, _, _, rfl, _, _, rfl, _, _, rfl, _, _, rfl, _, _, rfl, rfl, ?_⟩
    refine fun ro nro => ⟨szl (show 2 ≤ 1000000 by decide), fun tq ntq => ⟨tq, _, rfl, sqT upd_same, rfl, _, _, rfl, _, _, rfl, rfl, ?_⟩⟩
    have c1 := new_same (o := .dK []) nwd
    have c2 := new_same (o := .lst []) nte
    have c3 := new_same (o := .lst []) ndn
    have c4 := new_same (o := .lst []) nwy
    have c5 := new_same (o := .tup [.ref wd, .ref te, .ref dn, .ref wy, .int 0]) ntp
    have c6 := new_same (o := .dK []) nro
    have c7 := new_same (o := .tup [.int 0, .int 0]) ntq
    have k6 := c6.trans c7
    have k5 := c5.trans k6
    have k4 := c4.trans k5
    have k3 := c3.trans k4
    have k2 := c2.trans k3
    have e1 := k2 _ _ (upd_same (a := wd) (o := .dK []))
    have e2 := k3 _ _ (upd_same (a := te) (o := .lst []))
    have e3 := k4 _ _ (upd_same (a := dn) (o := .lst []))
    have e4 := k5 _ _ (upd_same (a := wy) (o := .lst []))
    have e6 := c7 _ _ (upd_same (a := ro) (o := .dK []))
    have i2 : H4 te = none := c1.free nte
    have i3 : H4 dn = none := c1.free (c2.free ndn)
    have i4 : H4 wy = none := c1.free (c2.free (c3.free nwy))
    have i6 : H4 ro = none := c1.free (c2.free (c3.free (c4.free (c5.free nro))))
    have d12 : wd ≠ te := ne_of_none upd_same nte
    have d13 : wd ≠ dn := ne_of_none (c2 _ _ upd_same) ndn
    have d14 : wd ≠ wy := ne_of_none (c3 _ _ (c2 _ _ upd_same)) nwy
    have d16 : wd ≠ ro := ne_of_none (c5 _ _ (c4 _ _ (c3 _ _ (c2 _ _ upd_same)))) nro
    have d23 : te ≠ dn := ne_of_none upd_same ndn
    have d24 : te ≠ wy := ne_of_none (c3 _ _ upd_same) nwy
    have d26 : te ≠ ro := ne_of_none (c5 _ _ (c4 _ _ (c3 _ _ upd_same))) nro
    have d34 : dn ≠ wy := ne_of_none upd_same nwy
    have d36 : dn ≠ ro := ne_of_none (c5 _ _ (c4 _ _ upd_same)) nro
    have d46 : wy ≠ ro := ne_of_none (c5 _ _ upd_same) nro
    have k1 := c1.trans k2
    generalize hH5 : upd _ tq (.tup [.int 0, .int 0]) = H5 at e1 e2 e3 e4 e6 k1
    let AO : OAd := ⟨wd, te, dn, wy, ro⟩
    have hO0 : OAt K H4 H5 AO (MSt.first pr) [] 0 := by
      refine ⟨k1, fun a ha => ?_, ?_, ⟨[], e1, Nat.le_refl _, fun y => rfl⟩, e2, ⟨[], e3, .nil⟩, e4, [], e6, Nat.le_refl _, fun r hr => ?_⟩
      · have ha : a = wd ∨ a = te ∨ a = dn ∨ a = wy ∨ a = ro := by simpa using ha
        rcases ha with rfl | rfl | rfl | rfl | rfl
        · exact nwd
        · exact i2
        · exact i3
        · exact i4
        · exact i6
      · simp only [List.nodup_cons, List.mem_cons, List.not_mem_nil, or_false, not_or, List.nodup_nil, and_true, not_false_eq_true]
        exact ⟨⟨d12, d13, d14, d16⟩, ⟨d23, d24, d26⟩, ⟨d34, d36⟩, d46⟩
      · show V.int 0 = V.int (LI (List.replicate 6 0) r)
        unfold LI
        rw [List.getD_eq_getElem?_getD, List.getElem?_replicate]
        by_cases h6 : r < 6
        · rw [if_pos h6]; rfl
        · rw [if_neg h6]; rfl
    clear c1 c2 c3 c4 c5 c6 c7 k1 k2 k3 k4 k5 k6 e1 e2 e3 e4 e6
    -- what is told at the end
    have fin : ∀ (J H6 : Hp) (s6 : MSt) (d6 : List (Nat × Option Int)) (m6 : Nat) (c : Cfg), Same H4 J → OAt K J H6 AO s6 d6 m6 → runC pr tk most = c → c.st.told = s6.told → c.st.done = s6.done → c.st.way = s6.way → ([V.str c.word, .ref te, .ref dn, .ref wy].length ≤ sizeLine ∧ ∀ p, H6 p = none → Q (.ref p) (upd H6 p (.tup [V.str c.word, .ref te, .ref dn, .ref wy]))) := by
      intro J H6 s6 d6 m6 c sJ hA hc t1 t2 t3
      refine ⟨szl (show 4 ≤ 1000000 by decide), fun p np => ?_⟩
      have sp := new_same (o := .tup [V.str c.word, .ref te, .ref dn, .ref wy]) np
      have hB := hA.same sp
      obtain ⟨ds, x1, x2⟩ := hB.dn
      refine q p te dn wy ds _ ((sH4.trans sJ).trans hB.sI) (by rw [hc]; exact sqT upd_same) (sH4.free i2) (sH4.free i3) (sH4.free i4) d23 ?_ x1 ?_ ?_
      · rw [hc, t1]; exact hB.te
      · rw [hc, t2]; exact x2
      · rw [hc, t3]; exact hB.wy
    -- the while
    refine ⟨fun mm σ H6 => ∃ (n lead : Nat) (ob : Option Nat) (s6 : MSt) (y16 y17 y18 y19 y20 : Option V), σ = [some (.ref pp), some (.ref tka), some (iv most), some (.ref ra), some (.ref ba), some (.ref nxa), some (.ref lda), some (.ref bga), some (.ref wd), some (.ref te), some (.ref dn), some (.ref wy), some (iv n), some (.ref ro), some (iv lead), some (nxV ob), y16, y17, y18, y19, y20, none] ∧ n ≤ most ∧ OAt K H4 H6 AO s6 s6.done s6.done.length ∧ LW pr s6 ∧ StOk s6 (rowsL pr).length n ∧
      ((ob = none ∧ mm = 0 ∧ itC pr tk n (.come 0 [] (MSt.first pr)) = .ended s6) ∨ ∃ (b : Nat) (bl : List Int), ob = some b ∧ mm = most - n + 1 ∧ b < pr.length ∧ lead < pr.length ∧ itC pr tk n (.come 0 [] (MSt.first pr)) = .come b bl s6 ∧ CI pr (.come b bl s6) ∧ MOk pr lead b s6 ∧ ∀ (i : Nat) (ps : List Nat), (rowsB pr b)[i]? = some (Rw.meet ps) → LI bl i = LI s6.lasts (prt pr lead b ps)),
      ⟨_, 0, 0, some 0, MSt.first pr, none, none, none, none, none, rfl, Nat.zero_le _, hO0, LW.first pr, first_ok pr, .inr ⟨0, [], rfl, rfl, hO.l1, hO.l1, rfl, CI.first pr, fun i ps h => ?_, fun i ps h => ?_⟩⟩, fun mm σ H6 hW => ?_⟩
    · exact (no_m0 hO.l1 hO.px hO.nx (List.getElem?_eq_some_iff.mp h).1 (by rw [mB_at h]; rfl)).elim
    · exact (no_m0 hO.l1 hO.px hO.nx (List.getElem?_eq_some_iff.mp h).1 (by rw [mB_at h]; rfl)).elim
    obtain ⟨n, lead, ob, s6, y16, y17, y18, y19, y20, rfl, hn, hA6, hL6, hS6, hcase⟩ := hW
    rcases hcase with ⟨rfl, rfl, hit⟩ | ⟨b, bl, rfl, rfl, hb, hlead, hit, hCI, hMO, hbl⟩
    · refine ⟨_, rfl, rfl, _, rfl, ?_⟩
      have hr1 : runC pr tk most = .ended s6 := by
        unfold runC
        rw [show most = n + (most - n) by omega, itC_add, hit]
        exact itC_ended _ _
      exact ⟨_, rfl, _, rfl, _, rfl, fin H4 H6 s6 _ _ _ (Same.refl _) hA6 hr1 rfl rfl rfl⟩
    refine ⟨_, rfl, rfl, _, rfl, ?_⟩
    show if (!decide (iv b = V.non)) = true then _ else _
    rw [decide_eq_false (by intro z; cases z), if_pos (show (!false) = true from rfl)]
    refine ⟨_, fun σ' H' h => h, ?_⟩
    refine ⟨_, rfl, _, rfl, rfl, _, rfl, ite2 (fun e => ?_) (fun e => ?_)⟩
    · have e1 : (n : Int) = (most : Int) := V.int.inj (of_decide_eq_true e)
      have hr1 : runC pr tk most = .come b bl s6 := by
        unfold runC
        rw [← show n = most by omega]
        exact hit
      exact ⟨_, rfl, _, rfl, _, rfl, fin H4 H6 s6 _ _ _ (Same.refl _) hA6 hr1 rfl rfl rfl⟩
    have hn1 : n < most := by
      have : ¬ (n : Int) = (most : Int) := fun z => e (decide_eq_true (congrArg V.int z))
      omega
    refine ⟨_, rfl, _, _, rfl, rfl, ?_⟩
    have hlw := hS6.lw
    refine ⟨.ref wy, rfl, .inl ⟨rfl, _, sqL hA6.wy⟩, iv b, rfl, wy, _, _, rfl, rfl, hA6.wy, by rw [List.length_map]; exact szt (by omega), ?_⟩
    have ew : s6.way.map iv ++ [iv b] = (s6.way ++ [b]).map iv := by rw [List.map_append]; rfl
    rw [ew]
    have hA7 : OAt K H4 (upd H6 wy (.lst ((s6.way ++ [b]).map iv))) AO { s6 with way := s6.way ++ [b] } s6.done s6.done.length := hA6.setWy (s6.way ++ [b])
    generalize upd H6 wy (.lst ((s6.way ++ [b]).map iv)) = H7 at hA7
    obtain ⟨kv, kv1, kv2, kv3⟩ := hA7.wd
    refine ⟨.ref wd, rfl, wd, kv, rfl, .inl kv1, fun ah nah => ?_⟩
    have hAh := hA7.same (new_same (o := .dK kv) nah)
    have eah : upd H7 ah (.dK kv) ah = some (.dK kv) := upd_same
    have hA8 : OAt K (upd H4 ah (.dK kv)) (upd H7 ah (.dK kv)) AO { s6 with way := s6.way ++ [b] } s6.done s6.done.length := hAh.ext eah (hA7.fresh nah)
    have sJ : Same H4 (upd H4 ah (.dK kv)) := new_same (hA7.sI.free nah)
    have eJ : upd H4 ah (.dK kv) ah = some (.dK kv) := upd_same
    clear hAh eah hA7
    generalize upd H7 ah (.dK kv) = H8 at hA8
    generalize upd H4 ah (.dK kv) = J at hA8 sJ eJ
    have hah : WdAt J ah s6.done := ⟨kv, eJ, kv2, kv3⟩
    have hahead : ∀ (i : Nat) (ps : List Nat), (rowsB pr b)[i]? = some (Rw.meet ps) → lastD s6.done (prt pr lead b ps) = some (some (LI bl i)) := fun i ps h => by
      obtain ⟨_, _, m3, m4⟩ := hMO i ps h
      rw [hbl i ps h]
      exact hL6.has m3 m4
    have hMat : AtRow pr b 0 { s6 with way := s6.way ++ [b] } := AtRow.come hCI
    have hS8 : StOk { s6 with way := s6.way ++ [b] } (rowsL pr).length (n + 1) := ⟨hS6.ll, hS6.lr, hS6.bd, by show (s6.way ++ [b]).length ≤ n + 1; rw [List.length_append, List.length_singleton]; omega, Nat.le_succ_of_le hS6.lt, Nat.le_succ_of_le hS6.ld⟩
    have hit1 : itC pr tk (n + 1) (.come 0 [] (MSt.first pr)) = norm pr b 0 bl { s6 with way := s6.way ++ [b] } := by rw [itC_succ, hit]; rfl
    have hL8 : LW pr { s6 with way := s6.way ++ [b] } := hL6.way _
    have hA8' : OAt K J H8 AO { s6 with way := s6.way ++ [b] } ({ s6 with way := s6.way ++ [b] } : MSt).done ({ s6 with way := s6.way ++ [b] } : MSt).done.length := hA8
    clear hA8 kv1 kv2 kv3 nah
    generalize ({ s6 with way := s6.way ++ [b] } : MSt) = s8 at hMat hS8 hit1 hL8 hA8'
    have hPrJ := hPr4.same sJ
    have hTJ := sJ.seq hT4
    have eraJ := sJ _ _ era4
    have ebgJ := sJ _ _ ebg
    have hLDJ := hLD4.same sJ
    have pusJ : Paired (RowAt K J) us (rowsL pr) := pd_mono pus4 fun _ _ z => z.same sJ
    obtain ⟨pp', bs', pb, rl, ea, vs, hpv, g1, g2, g3, g4, g5, g6⟩ := hPrJ.blk hb
    cases hpv
    have hvl : vs.length = (rowsB pr b).length := pd_len g5
    have hbg : ((List.range pr.length).map fun b => iv (bgL pr b))[b]? = some (iv (bgL pr b)) := by rw [List.getElem?_map, List.getElem?_range hb]; rfl
    have h130 : pr.length * 130 ≤ 12 * 130 := Nat.mul_le_mul_right _ hl12
    have hbgl : bgL pr b ≤ 1560 := by
      by_cases z : 0 < (rowsB pr b).length
      · rw [bgL_at hb z]
        have := take_rows_le hO.rl (show b ≤ pr.length by omega)
        unfold bgn
        omega
      · unfold bgL
        rw [if_neg (fun y => z ((own_mem hb).mp y))]
        omega
    have hrl130 : (rowsB pr b).length ≤ 130 := hO.rl _ (blkMem hb)
    refine ⟨.ref bga, rfl, iv b, rfl, bga, _, _, _, rfl, rfl, sqL (hA8'.sI _ _ ebgJ), atI_nat hbg, .ref bga, rfl, iv b, rfl, bga, _, _, _, rfl, rfl, sqL (hA8'.sI _ _ ebgJ), atI_nat hbg, .ref pp, rfl, iv b, rfl, pp, bs', _, .ref pb, rfl, rfl, hA8'.sI.seq g1, atI_nat g2, pb, _, _, .ref rl, rfl, rfl, Same.tup hA8'.sI g3, atI_nat (j := 0) rfl, rl, vs, rfl, .inl (sqL (hA8'.sI _ _ g4)), _, _, rfl, rfl, (bgL pr b : Int), (bgL pr b : Int) + (vs.length : Int), rfl, ⟨by omega, by omega, by omega, by omega⟩, ?_⟩
    have hcnt : ((bgL pr b : Int) + (vs.length : Int) - (bgL pr b : Int)).toNat = (rowsB pr b).length := by omega
    rw [hcnt]
    refine for_range (lo := (bgL pr b : Int)) (n := (rowsB pr b).length) (fun i σ H9 => ∃ (y17 y18 y19 : Option V) (s9 : MSt), σ = [some (.ref pp), some (.ref tka), some (iv most), some (.ref ra), some (.ref ba), some (.ref nxa), some (.ref lda), some (.ref bga), some (.ref wd), some (.ref te), some (.ref dn), some (.ref wy), some (iv (n + 1 + i)), some (.ref ro), some (iv lead), some (iv b), some (.ref ah), y17, y18, y19, y20, none] ∧ OAt K J H9 AO s9 s9.done s9.done.length ∧ LW pr s9 ∧ StOk s9 (rowsL pr).length (n + 1 + i) ∧ AtRow pr b i s9 ∧ itC pr tk (n + 1 + i) (.come 0 [] (MSt.first pr)) = norm pr b i bl s9 ∧ n + 1 + i ≤ most)
      ⟨y17, y18, y19, s8, rfl, hA8', hL8, hS8, hMat, hit1, hn1⟩ (fun i σ H9 hi hP => ?_) (fun σ H9 hP => ?_)
    · obtain ⟨y17, y18, y19, s9, rfl, hA9, hL9, hS9, hR9, hit9, hn9⟩ := hP
      have hk : V.int ((bgL pr b : Int) + (i : Int)) = iv (bgn pr b + i) := by rw [bgL_at hb (by omega)]; rfl
      rw [hk]
      have hnr : norm pr b i bl s9 = .row b i bl s9 := by unfold norm; rw [if_pos hi]
      refine ⟨_, rfl, _, rfl, rfl, _, rfl, ite2 (fun e => ?_) (fun e => ?_)⟩
      · have e1 : ((n + 1 + i : Nat) : Int) = (most : Int) := V.int.inj (of_decide_eq_true e)
        have hr1 : runC pr tk most = .row b i bl s9 := by
          unfold runC
          rw [← show n + 1 + i = most by omega, hit9, hnr]
        exact ⟨_, rfl, _, rfl, _, rfl, fin J H9 s9 _ _ _ sJ hA9 hr1 rfl rfl rfl⟩
      have hn2 : n + 1 + i < most := by
        have : ¬ ((n + 1 + i : Nat) : Int) = (most : Int) := fun z => e (decide_eq_true (congrArg V.int z))
        omega
      refine ⟨_, rfl, _, _, rfl, rfl, ?_⟩
      obtain ⟨v, hv1, hv2⟩ := pd_at pusJ (row_at hb hi)
      have hrat : (rowsB pr b)[i]? = some (rwAt pr b i) := by unfold rwAt; rw [List.getD_eq_getElem?_getD, List.getElem?_eq_getElem hi]; rfl
      have hrb : RwB (rowsL pr).length (rwAt pr b i) := (hO.px.rb _ (blkMem hb)).1 _ (List.mem_of_getElem? hrat)
      have hused : ∀ y ∈ (rwAt pr b i).used, lastD s9.done y = some (some (LI s9.lasts y)) := fun y hy => by
        obtain ⟨z1, z2⟩ := hPS.used hb hi hR9 hy
        exact hL9.has z1 (by rw [hPS.rows]; exact z2)
      have hwat : wAt pr tk b i bl s9 = if (rwAt pr b i).isM = true then some (LI bl i) else wOf tk s9 (rwAt pr b i) := rfl
      have hLn : LW pr (doR (bgn pr b + i) (rwAt pr b i) (wAt pr tk b i bl s9) s9) := hL9.row hb hi
      have hRn : AtRow pr b (i + 1) (doR (bgn pr b + i) (rwAt pr b i) (wAt pr tk b i bl s9) s9) := hR9.step
      have hSn : too (wAt pr tk b i bl s9) = false → StOk (doR (bgn pr b + i) (rwAt pr b i) (wAt pr tk b i bl s9) s9) (rowsL pr).length (n + 1 + i + 1) := fun z => hS9.doR z
      have hitn : itC pr tk (n + 1 + i + 1) (.come 0 [] (MSt.first pr)) = if too (wAt pr tk b i bl s9) = true then .great s9 else norm pr b (i + 1) bl (doR (bgn pr b + i) (rwAt pr b i) (wAt pr tk b i bl s9) s9) := by
        rw [itC_succ, hit9, hnr]
        rfl
      generalize wAt pr tk b i bl s9 = w' at hwat hLn hRn hSn hitn
      generalize rwAt pr b i = r at hv2 hrat hrb hused hwat hLn hRn hSn hitn
      obtain ⟨a, xs, rfl, ha, hx⟩ := hv2
      have hRJ : RowAt K J (.ref a) r := ⟨a, xs, rfl, ha, hx⟩
      have hdl := hS9.ld
      refine ⟨.ref ra, rfl, iv (bgn pr b + i), rfl, ra, us, _, .ref a, rfl, rfl, sqL (hA9.sI _ _ eraJ), atI_nat hv1, .ref wd, rfl, .ref tka, rfl, .ref a, r, wd, tka, tk, s9, (rowsL pr).length, rfl, hRJ.same hA9.sI, hA9.sI.seq hTJ, hO.tl, hrb, fun y hy => hA9.wd.hasW (hused y hy), hS9.bd, fun H10 s10 => ?_⟩
      have hA10 := hA9.same s10
      clear hA9
      -- the room
      refine ⟨fun σ H11 => σ = [some (.ref pp), some (.ref tka), some (iv most), some (.ref ra), some (.ref ba), some (.ref nxa), some (.ref lda), some (.ref bga), some (.ref wd), some (.ref te), some (.ref dn), some (.ref wy), some (iv (n + 1 + i + 1)), some (.ref ro), some (iv lead), some (iv b), some (.ref ah), some (iv (bgn pr b + i)), some (wv (ownW tk s9 r)), some (iv (rmAt s9 r)), y20, none] ∧ OAt K J H11 AO s9 s9.done s9.done.length, ?_, fun σ H11 hC => ?_⟩
      · refine ⟨.ref ra, rfl, iv (bgn pr b + i), rfl, ra, us, _, .ref a, rfl, rfl, sqL (hA10.sI _ _ eraJ), atI_nat hv1, a, _, _, _, rfl, rfl, Same.tup hA10.sI ha, atI_nat (j := 0) rfl, szl (show 2 ≤ 1000000 by decide), fun T nT => ⟨T, _, rfl, .inr (sqT upd_same), rfl, rfl, _, rfl, ?_⟩⟩
        show if inV (.str r.w) [.str "look", .str "lay"] = true then _ else _
        rw [ll_in]
        have hA11 := hA10.same (new_same (o := .tup [.str "look", .str "lay"]) nT)
        generalize upd H10 T (.tup [.str "look", .str "lay"]) = H11 at hA11
        by_cases hl : r.ll = true
        · rw [if_pos hl]
          obtain ⟨qa, rs, x, t1, t2, t3, t4, t5, t6⟩ := ll_parts (s := s9) hx hrb hl
          have hli : ((rs.map iv).length : Int) = (rs.length : Int) := by rw [List.length_map]
          have hp0 : 0 < rs.length := List.length_pos_iff.mpr t5
          have h1 : 0 ≤ LI s9.lasts x % (rs.length : Int) := Int.emod_nonneg _ (by omega)
          have h2 : LI s9.lasts x % (rs.length : Int) < (rs.length : Int) := Int.emod_lt_of_pos _ (by omega)
          have h3 : (LI s9.lasts x % (rs.length : Int)).toNat < rs.length := by omega
          have hat : atI (rs.map iv) (LI s9.lasts x % ((rs.map iv).length : Int)) = some (iv (pk rs (LI s9.lasts x))) := by
            rw [hli, show LI s9.lasts x % (rs.length : Int) = ((LI s9.lasts x % (rs.length : Int)).toNat : Int) from (Int.toNat_of_nonneg h1).symm]
            refine atI_nat ?_
            unfold pk
            rw [List.getElem?_map, List.getD_eq_getElem?_getD, List.getElem?_eq_getElem h3]
            rfl
          refine ⟨.ref ra, rfl, iv (bgn pr b + i), rfl, ra, us, _, .ref a, rfl, rfl, sqL (hA11.sI _ _ eraJ), atI_nat hv1, a, _, _, _, rfl, rfl, Same.tup hA11.sI ha, atI_nat (j := 1) t1, .ref wd, rfl, .ref ra, rfl, iv (bgn pr b + i), rfl, ra, us, _, .ref a, rfl, rfl, sqL (hA11.sI _ _ eraJ), atI_nat hv1, a, _, _, _, rfl, rfl, Same.tup hA11.sI ha, atI_nat (j := 2) t3, wd, _, rfl, hA11.wd.has (hused x t4), .ref ra, rfl, iv (bgn pr b + i), rfl, ra, us, _, .ref a, rfl, rfl, sqL (hA11.sI _ _ eraJ), atI_nat hv1, a, _, _, _, rfl, rfl, Same.tup hA11.sI ha, atI_nat (j := 1) t1, qa, _, rfl, .inr (Same.tup hA11.sI t2), _, _, rfl, rfl, by rw [hli]; omega, qa, _, _, _, rfl, rfl, Same.tup hA11.sI t2, hat, ?_, hA11⟩
          rw [t6]
          rfl
        · rw [if_neg hl]
          exact ⟨by rw [rm_not hl]; rfl, hA11⟩
      obtain ⟨rfl, hA11⟩ := hC
      clear hA10
      -- a look
      refine ⟨fun σ H12 => σ = [some (.ref pp), some (.ref tka), some (iv most), some (.ref ra), some (.ref ba), some (.ref nxa), some (.ref lda), some (.ref bga), some (.ref wd), some (.ref te), some (.ref dn), some (.ref wy), some (iv (n + 1 + i + 1)), some (.ref ro), some (iv lead), some (iv b), some (.ref ah), some (iv (bgn pr b + i)), some (wv (wOf tk s9 r)), some (iv (rmAt s9 r)), y20, none] ∧ OAt K J H12 AO s9 s9.done s9.done.length, ?_, fun σ H12 hC => ?_⟩
      · refine ⟨.ref ra, rfl, iv (bgn pr b + i), rfl, ra, us, _, .ref a, rfl, rfl, sqL (hA11.sI _ _ eraJ), atI_nat hv1, a, _, _, _, rfl, rfl, Same.tup hA11.sI ha, atI_nat (j := 0) rfl, rfl, _, rfl, ?_⟩
        show if decide (V.str r.w = V.str "look") = true then _ else _
        by_cases hl : ∃ rs x, r = .look rs x
        · obtain ⟨rs, x, rfl⟩ := hl
          rw [if_pos (show decide (V.str (Rw.look rs x).w = V.str "look") = true from decide_eq_true rfl)]
          obtain ⟨rk, r1, r2, r3⟩ := hA11.ro
          have hrm : rmAt s9 (.look rs x) < 6 := (pk_lt hrb.2.2.1 hrb.2.2.2).1
          refine ⟨.ref ro, rfl, ro, rfl, .inl ⟨rk, .inl r1⟩, _, rfl, _, .inl ⟨rk, Sum.inl ((rmAt s9 (.look rs x) : Nat) : Int), .inl r1, rfl, rfl⟩, ?_, hA11⟩
          rw [r3 _ hrm]
          rfl
        · rw [if_neg (w_look r fun rs x z => hl ⟨rs, x, z⟩)]
          exact ⟨by rw [own_not fun rs x z => hl ⟨rs, x, z⟩], hA11⟩
      obtain ⟨rfl, hA12⟩ := hC
      clear hA11
      -- a meet
      refine ⟨fun σ H13 => σ = [some (.ref pp), some (.ref tka), some (iv most), some (.ref ra), some (.ref ba), some (.ref nxa), some (.ref lda), some (.ref bga), some (.ref wd), some (.ref te), some (.ref dn), some (.ref wy), some (iv (n + 1 + i + 1)), some (.ref ro), some (iv lead), some (iv b), some (.ref ah), some (iv (bgn pr b + i)), some (wv (w')), some (iv (rmAt s9 r)), y20, none] ∧ OAt K J H13 AO s9 s9.done s9.done.length, ?_, fun σ H13 hC => ?_⟩
      · refine ⟨.ref ra, rfl, iv (bgn pr b + i), rfl, ra, us, _, .ref a, rfl, rfl, sqL (hA12.sI _ _ eraJ), atI_nat hv1, a, _, _, _, rfl, rfl, Same.tup hA12.sI ha, atI_nat (j := 0) rfl, rfl, _, rfl, ?_⟩
        show if decide (V.str r.w = V.str "meet") = true then _ else _
        by_cases hl : ∃ ps, r = .meet ps
        · obtain ⟨ps, rfl⟩ := hl
          rw [if_pos (show decide (V.str (Rw.meet ps).w = V.str "meet") = true from decide_eq_true rfl)]
          obtain ⟨qa, rfl, hqa⟩ := hx
          obtain ⟨m1, m2, _, _⟩ := hMO i ps hrat
          have hlde : ∃ ld, (leadsL (pr.map fun b => b.2.names))[b]? = some ld := by
            have : b < (leadsL (pr.map fun b => b.2.names)).length := by unfold leadsL; rw [List.length_map, List.length_range, hnl]; exact hb
            exact ⟨_, List.getElem?_eq_getElem this⟩
          obtain ⟨ld, hld⟩ := hlde
          have hlds := spec_ld (fun xs hx => (hO.nx.2.1 xs hx).2.1) hld
          obtain ⟨zs, la, z1, z2, z3, z4⟩ := (hLDJ.same hA12.sI).at hld
          rw [hlds] at z4
          obtain ⟨j1, j2⟩ := idx_read m2
          have hpat : (ps.map iv)[(spec pr pr.length b).idxOf lead]? = some (iv (prt pr lead b ps)) := by
            unfold prt
            rw [List.getElem?_map, List.getD_eq_getElem?_getD, List.getElem?_eq_getElem m1]
            rfl
          refine ⟨.ref ah, rfl, .ref ra, rfl, iv (bgn pr b + i), rfl, ra, us, _, .ref a, rfl, rfl, sqL (hA12.sI _ _ eraJ), atI_nat hv1, a, _, _, _, rfl, rfl, Same.tup hA12.sI ha, atI_nat (j := 1) rfl, .ref lda, rfl, iv b, rfl, lda, zs, _, .ref la, rfl, rfl, z1, z3, .inl ⟨rfl, _, z4⟩, iv lead, rfl, la, _, iv lead, (spec pr pr.length b).idxOf lead, iv lead, rfl, rfl, z4, rfl, flat_iv _, j1, (beq_self_eq_true (lead : Int) : ((lead : Int) == (lead : Int)) = true), j2, qa, _, _, _, rfl, rfl, Same.tup hA12.sI hqa, atI_nat hpat, ah, _, rfl, (hah.same hA12.sI).has (hahead i ps hrat), ?_, hA12⟩
          rw [hwat]
          rfl
        · rw [if_neg (w_meet r fun ps z => hl ⟨ps, z⟩)]
          have hm : ¬ r.isM = true := fun z => by
            cases r with
            | meet ps => exact hl ⟨ps, rfl⟩
            | _ => cases z
          rw [if_neg hm] at hwat
          exact ⟨by rw [hwat], hA12⟩
      obtain ⟨rfl, hA13⟩ := hC
      clear hA12
      -- too great
      refine ⟨fun σ H14 => σ = [some (.ref pp), some (.ref tka), some (iv most), some (.ref ra), some (.ref ba), some (.ref nxa), some (.ref lda), some (.ref bga), some (.ref wd), some (.ref te), some (.ref dn), some (.ref wy), some (iv (n + 1 + i + 1)), some (.ref ro), some (iv lead), some (iv b), some (.ref ah), some (iv (bgn pr b + i)), some (wv (w')), some (iv (rmAt s9 r)), y20, none] ∧ OAt K J H14 AO s9 s9.done s9.done.length ∧ too w' = false, ?_, fun σ H14 hC => ?_⟩
      · cases w' with
        | none =>
          refine ⟨_, rfl, rfl, _, rfl, ?_⟩
          show if (!decide (V.non = V.non)) = true then _ else _
          rw [if_neg (by simp)]
          show if false = true then _ else _
          rw [if_neg Bool.false_ne_true]
          exact ⟨rfl, hA13, rfl⟩
        | some x =>
          refine ⟨_, rfl, rfl, _, rfl, ?_⟩
          show if (!decide (V.int x = V.non)) = true then _ else _
          rw [decide_eq_false (by intro z; cases z), if_pos (show (!false) = true from rfl)]
          refine ⟨_, rfl, x, rfl, _, _, rfl, rfl, ⟨by decide, by decide, by decide⟩, _, _, rfl, rfl, _, rfl, ?_⟩
          have h40 : ((10 : Int) ^ (40 : Int).toNat) = GT40 := by decide +kernel
          rw [h40, ← too_abs x]
          refine ite2 (fun et => ?_) (fun et => ?_)
          · have hr1 : runC pr tk most = .great s9 := by
              unfold runC
              rw [show most = n + 1 + i + 1 + (most - (n + 1 + i + 1)) by omega, itC_add, hitn, if_pos et]
              exact itC_great _ _
            exact ⟨_, rfl, _, rfl, _, rfl, fin J H13 s9 _ _ _ sJ hA13 hr1 rfl rfl rfl⟩
          · exact ⟨rfl, hA13, by cases z : too (some x) with | true => exact absurd z et | false => rfl⟩
      obtain ⟨rfl, hA14, hto⟩ := hC
      clear hA13
      -- a tell
      refine ⟨fun σ H15 => σ = [some (.ref pp), some (.ref tka), some (iv most), some (.ref ra), some (.ref ba), some (.ref nxa), some (.ref lda), some (.ref bga), some (.ref wd), some (.ref te), some (.ref dn), some (.ref wy), some (iv (n + 1 + i + 1)), some (.ref ro), some (iv lead), some (iv b), some (.ref ah), some (iv (bgn pr b + i)), some (wv (w')), some (iv (rmAt s9 r)), y20, none] ∧ OAt K J H15 AO { s9 with told := (doR (bgn pr b + i) r w' s9).told } s9.done s9.done.length, ?_, fun σ H15 hC => ?_⟩
      · refine ⟨.ref ra, rfl, iv (bgn pr b + i), rfl, ra, us, _, .ref a, rfl, rfl, sqL (hA14.sI _ _ eraJ), atI_nat hv1, a, _, _, _, rfl, rfl, Same.tup hA14.sI ha, atI_nat (j := 0) rfl, rfl, _, rfl, ?_⟩
        show if decide (V.str r.w = V.str "tell") = true then _ else _
        by_cases hl : ∃ x, r = .tell x
        · obtain ⟨x, rfl⟩ := hl
          rw [if_pos (show decide (V.str (Rw.tell x).w = V.str "tell") = true from decide_eq_true rfl)]
          have hxs : xs = [iv x] := hx
          subst hxs
          have hlt := hS9.lt
          refine ⟨.ref te, rfl, .inl ⟨rfl, _, sqL hA14.te⟩, .ref wd, rfl, .ref ra, rfl, iv (bgn pr b + i), rfl, ra, us, _, .ref a, rfl, rfl, sqL (hA14.sI _ _ eraJ), atI_nat hv1, a, _, _, _, rfl, rfl, Same.tup hA14.sI ha, atI_nat (j := 1) rfl, wd, _, rfl, hA14.wd.has (hused x (by simp [Rw.used])), te, _, _, rfl, rfl, hA14.te, by rw [List.length_map]; exact szt (by omega), rfl, ?_⟩
          have et : s9.told.map V.int ++ [.int (LI s9.lasts x)] = (s9.told ++ [LI s9.lasts x]).map V.int := by rw [List.map_append]; rfl
          rw [et]
          exact hA14.setTe _
        · rw [if_neg (w_tell r fun x z => hl ⟨x, z⟩)]
          exact ⟨rfl, hA14.cong (doR_told (bgn pr b + i) r w' s9 fun x z => hl ⟨x, z⟩).symm rfl rfl rfl⟩
      obtain ⟨rfl, hA15⟩ := hC
      clear hA14
      -- a lay
      refine ⟨fun σ H16 => σ = [some (.ref pp), some (.ref tka), some (iv most), some (.ref ra), some (.ref ba), some (.ref nxa), some (.ref lda), some (.ref bga), some (.ref wd), some (.ref te), some (.ref dn), some (.ref wy), some (iv (n + 1 + i + 1)), some (.ref ro), some (iv lead), some (iv b), some (.ref ah), some (iv (bgn pr b + i)), some (wv (w')), some (iv (rmAt s9 r)), y20, none] ∧ OAt K J H16 AO { s9 with told := (doR (bgn pr b + i) r w' s9).told, rooms := (doR (bgn pr b + i) r w' s9).rooms } s9.done (s9.done.length + 1), ?_, fun σ H16 hC => ?_⟩
      · refine ⟨.ref ra, rfl, iv (bgn pr b + i), rfl, ra, us, _, .ref a, rfl, rfl, sqL (hA15.sI _ _ eraJ), atI_nat hv1, a, _, _, _, rfl, rfl, Same.tup hA15.sI ha, atI_nat (j := 0) rfl, rfl, _, rfl, ?_⟩
        show if decide (V.str r.w = V.str "lay") = true then _ else _
        by_cases hl : ∃ rs x y, r = .lay rs x y
        · obtain ⟨rs, x, y, rfl⟩ := hl
          rw [if_pos (show decide (V.str (Rw.lay rs x y).w = V.str "lay") = true from decide_eq_true rfl)]
          obtain ⟨qa, rfl, hqa⟩ := hx
          obtain ⟨rk, r1, r2, r3⟩ := hA15.ro
          have hrm : rmAt s9 (.lay rs x y) < 6 := (pk_lt hrb.2.2.2.1 hrb.2.2.2.2).1
          refine ⟨.ref wd, rfl, .ref ra, rfl, iv (bgn pr b + i), rfl, ra, us, _, .ref a, rfl, rfl, sqL (hA15.sI _ _ eraJ), atI_nat hv1, a, _, _, _, rfl, rfl, Same.tup hA15.sI ha, atI_nat (j := 3) rfl, wd, _, rfl, hA15.wd.has (hused y (by simp [Rw.used])), .ref ro, rfl, _, rfl, ro, _, rfl, DPut.k (k := Sum.inl ((rmAt s9 (.lay rs x y) : Nat) : Int)) r1 (szt (by omega)), rfl, ?_⟩
          exact (hA15.setRo r1 hS9.lr hrm (LI s9.lasts y)).cong rfl rfl rfl rfl
        · rw [if_neg (w_lay r fun rs x y z => hl ⟨rs, x, y, z⟩)]
          exact ⟨rfl, (hA15.mono (Nat.le_succ _)).cong rfl (doR_rooms (bgn pr b + i) r w' s9 fun rs x y z => hl ⟨rs, x, y, z⟩).symm rfl rfl⟩
      obtain ⟨rfl, hA16⟩ := hC
      clear hA15
      -- worths[k], done.append
      obtain ⟨kw, kw1, kw2, _⟩ := hA16.wd
      refine ⟨_, rfl, .ref wd, rfl, _, rfl, wd, _, rfl, DPut.k (k := Sum.inl ((bgn pr b + i : Nat) : Int)) kw1 (szt (by omega)), ?_⟩
      have hA17 := hA16.setWd kw1 (bgn pr b + i) w'
      have hA17 : OAt K J (upd H16 wd (.dK (putK kw (Sum.inl ((bgn pr b + i : Nat) : Int)) (wv w')))) AO { s9 with told := (doR (bgn pr b + i) r w' s9).told, rooms := (doR (bgn pr b + i) r w' s9).rooms } (s9.done ++ [(bgn pr b + i, w')]) (s9.done.length + 1) := hA17
      generalize upd H16 wd (.dK (putK kw (Sum.inl ((bgn pr b + i : Nat) : Int)) (wv w'))) = H17 at hA17
      clear hA16 kw1
      obtain ⟨ds, d1, d2⟩ := hA17.dn
      have hdsl : ds.length = s9.done.length := pd_len d2
      refine ⟨.ref dn, rfl, .inl ⟨rfl, _, sqL d1⟩, _, rfl, _, rfl, szl (show 2 ≤ 1000000 by decide), fun T nT => ?_⟩
      refine ⟨dn, ds, _, rfl, rfl, new_same nT _ _ d1, szt (by omega), ?_⟩
      have hA18 := hA17.app (k := bgn pr b + i) (w := w') nT d1
      obtain ⟨dw1, dw2⟩ := doR_way (bgn pr b + i) r w' s9
      refine ⟨_, _, _, doR (bgn pr b + i) r w' s9, rfl, ?_, hLn, hSn hto, hRn, ?_, by omega⟩
      · rw [dw2, List.length_append]
        exact hA18.cong rfl rfl dw1.symm dw2.symm
      · rw [show n + 1 + (i + 1) = n + 1 + i + 1 by omega, hitn, if_neg (by rw [hto]; decide)]
    · obtain ⟨y17, y18, y19, s9, rfl, hA9, hL9, hS9, hR9, hit9, hn9⟩ := hP
      refine ⟨.ref pp, rfl, iv b, rfl, pp, bs', _, .ref pb, rfl, rfl, hA9.sI.seq g1, atI_nat g2, pb, _, _, ea, rfl, rfl, Same.tup hA9.sI g3, atI_nat (j := 1) rfl, ?_⟩
      have hea : EnAt K H9 ea (endB pr b) := g6.mv (Same.tup hA9.sI)
      have hnn : norm pr b (rowsB pr b).length bl s9 = match nextB s9 (endB pr b) with | none => .ended s9 | some c => .come c (brt pr b c s9) s9 := by
        unfold norm
        rw [if_neg (Nat.lt_irrefl _)]
        all_goals (cases nextB s9 (endB pr b) <;> rfl)
      have hif : ∀ r x y, endB pr b = .iff r x y → lastD s9.done r = some (some (LI s9.lasts r)) := fun r x y he => by
        obtain ⟨z1, z2⟩ := hPS.atEnd hb hR9 (hPS.en b _ (blkAt hb) r x y he)
        exact hL9.has z1 (by rw [hPS.rows]; exact z2)
      refine ⟨iv b, rfl, ea, rfl, .ref wd, rfl, ea, endB pr b, wd, s9, rfl, hea, fun r x y he => hA9.wd.hasW (hif r x y he), _, _, rfl, ?_⟩
      cases hnx : nextB s9 (endB pr b) with
      | none =>
        exact ⟨0, by omega, n + 1 + (rowsB pr b).length, b, none, s9, _, _, _, _, _, rfl, hn9, hA9.sub sJ, hL9, hS9, .inl ⟨rfl, rfl, by rw [hit9, hnn, hnx]⟩⟩
      | some c =>
        have hcl : c < pr.length := names_ok (hO.px.rb _ (blkMem hb)).2 c (next_in hnx)
        exact ⟨most - (n + 1 + (rowsB pr b).length) + 1, by omega, n + 1 + (rowsB pr b).length, b, some c, s9, _, _, _, _, _, rfl, hn9, hA9.sub sJ, hL9, hS9, .inr ⟨c, brt pr b c s9, rfl, rfl, hcl, hb, by rw [hit9, hnn, hnx], hR9.toCome hnx, hPS.meets hO.nx hb hcl hR9 (next_in hnx), fun i ps h => brt_at (hO.px.ma _ (blkMem hcl)) h⟩⟩
end
end Gn
set_option Elab.async false
set_option linter.all false
set_option maxRecDepth 100000
set_option maxHeartbeats 4000000
namespace Gn
open PySem PySem.Spec PyProof.Rows L2
/-! ### data that can be compared and shown -/
structure Nice (B : Nat) (d : PyData) (k W : Nat) : Prop where
  lay : d.canLay0 = true
  dep : d.depth ≤ k
  sho : d.showable = true
  sht : d.intsShort B = true
  wt : d.weight ≤ W
theorem Nice.mono {B : Nat} {d : PyData} {k W k' W' : Nat} (h : Nice B d k W) (a : k ≤ k') (b : W ≤ W') : Nice B d k' W' := ⟨h.lay, Nat.le_trans h.dep a, h.sho, h.sht, Nat.le_trans h.wt b⟩
theorem niceAll {B k W : Nat} : ∀ {ds : List PyData}, (∀ d ∈ ds, Nice B d k W) → PyData.canLayAll0 ds = true ∧ PyData.depthAll ds ≤ k ∧ PyData.showableAll ds = true ∧ PyData.intsShortAll B ds = true ∧ PyData.weightAll ds ≤ ds.length * (W + 1)
  | [], _ => by simp [PyData.canLayAll0, PyData.depthAll, PyData.showableAll, PyData.intsShortAll, PyData.weightAll]
  | d :: ds, h => by
    obtain ⟨h1, h2, h3, h4, h5⟩ := niceAll (ds := ds) fun x hx => h x (List.mem_cons_of_mem _ hx)
    have n := h d List.mem_cons_self
    refine ⟨?_, ?_, ?_, ?_, ?_⟩
    · simp only [PyData.canLayAll0, n.lay, h1, Bool.and_self]
    · simp only [PyData.depthAll]
      have := n.dep
      omega
    · simp only [PyData.showableAll, n.sho, h3, Bool.and_self]
    · simp only [PyData.intsShortAll, n.sht, h4, Bool.and_self]
    · simp only [PyData.weightAll, List.length_cons]
      have := n.wt
      rw [Nat.succ_mul]
      omega
theorem nice_list {B k W : Nat} {ds : List PyData} (h : ∀ d ∈ ds, Nice B d k W) : Nice B (.list ds) (k + 1) (ds.length * (W + 1)) := by
  obtain ⟨h1, h2, h3, h4, h5⟩ := niceAll h
  refine ⟨by simp only [PyData.canLay0, h1], by simp only [PyData.depth]; omega, by simp only [PyData.showable, h3], by simp only [PyData.intsShort, h4], by simp only [PyData.weight]; exact h5⟩
theorem nice_tup {B k W : Nat} {ds : List PyData} (h : ∀ d ∈ ds, Nice B d k W) : Nice B (.tuple ds) (k + 1) (ds.length * (W + 1)) := by
  obtain ⟨h1, h2, h3, h4, h5⟩ := niceAll h
  refine ⟨by simp only [PyData.canLay0, h1], by simp only [PyData.depth]; omega, by simp only [PyData.showable, h3], by simp only [PyData.intsShort, h4], by simp only [PyData.weight]; exact h5⟩
theorem nice_int {z : Int} (h1 : -20 ≤ z) (h2 : z ≤ 10 ^ 12) : Nice 13 (.int z) 0 41 := by
  have hs : (PyData.shown (.int z)).length ≤ 13 := by
    by_cases e : z = 10 ^ 12
    · rw [e]; decide +kernel
    · exact PyData.shown_int_le (by omega)
  have hl : z.natAbs.log2 < 41 := by
    by_cases e : z.natAbs = 0
    · rw [e]; decide
    · exact (Nat.log2_lt e).mpr (by omega)
  refine ⟨by simp only [PyData.canLay0], by simp only [PyData.depth]; omega, ?_, ?_, ?_⟩
  · simp only [PyData.showable, decide_eq_true_eq]; omega
  · simp only [PyData.intsShort, decide_eq_true_eq]; exact hs
  · simp only [PyData.weight]
    split <;> omega
theorem nice_nat {n : Nat} (h : n < 256) : Nice 13 (nd n) 0 8 := by
  have a := nice_int (z := (n : Int)) (by omega) (by omega)
  refine ⟨a.lay, a.dep, a.sho, a.sht, ?_⟩
  have hl : (n : Int).natAbs.log2 < 8 := by
    rw [Int.natAbs_natCast]
    by_cases e : n = 0
    · rw [e]; decide
    · exact (Nat.log2_lt e).mpr (by omega)
  simp only [nd, PyData.weight]
  split <;> omega
/-- a worth -/
theorem nice_big {z : Int} (h : -GT40 ≤ z ∧ z ≤ GT40) : Nice 42 (.int z) 0 140 := by
  have hb : z.natAbs < 10 ^ 41 := by
    have h1 := h.1
    have h2 := h.2
    unfold GT40 at h1 h2
    omega
  have hs : (PyData.shown (.int z)).length ≤ 42 := by
    have e := PySem.int_text_length_le10 (k := 41) (by decide) hb
    show (Str.ofString (toString z)).length ≤ 42
    rw [PySem.ofString_length]; exact e
  have hl : z.natAbs.log2 < 139 := by
    by_cases e : z.natAbs = 0
    · rw [e]; decide
    · exact (Nat.log2_lt e).mpr (Nat.lt_trans hb (by decide))
  refine ⟨by simp only [PyData.canLay0], by simp only [PyData.depth]; omega, ?_, ?_, ?_⟩
  · simp only [PyData.showable, decide_eq_true_eq]; omega
  · simp only [PyData.intsShort, decide_eq_true_eq]; exact hs
  · simp only [PyData.weight]
    split <;> omega
theorem nice_str {B : Nat} {s : Str} (h1 : PyData.strOk s = true) (h2 : s.cps.size ≤ 8) : Nice B (.str s) 0 8 :=
  ⟨by simp only [PyData.canLay0, h1], by simp only [PyData.depth]; omega, by simp only [PyData.showable], by simp only [PyData.intsShort], by simp only [PyData.weight]; exact h2⟩
theorem nice_nats {ns : List Nat} (h : ∀ n ∈ ns, n < 256) : ∀ d ∈ ns.map nd, Nice 13 d 0 8 := fun d hd => by
  obtain ⟨n, hn, rfl⟩ := List.mem_map.mp hd
  exact nice_nat (h n hn)
theorem bkw_nice (b : Bk) : Nice 13 (.str b.w) 0 8 := by
  cases b <;> exact nice_str (by decide +kernel) (by decide +kernel)
theorem word_nice (r : Rw) : Nice 13 (.str r.w) 0 8 := by
  cases r with
  | bin b x y => exact bkw_nice b
  | take _ => exact nice_str (s := "take") (by decide +kernel) (by decide +kernel)
  | num _ => exact nice_str (s := "num") (by decide +kernel) (by decide +kernel)
  | pick _ _ => exact nice_str (s := "pick") (by decide +kernel) (by decide +kernel)
  | meet _ => exact nice_str (s := "meet") (by decide +kernel) (by decide +kernel)
  | tell _ => exact nice_str (s := "tell") (by decide +kernel) (by decide +kernel)
  | look _ _ => exact nice_str (s := "look") (by decide +kernel) (by decide +kernel)
  | lay _ _ _ => exact nice_str (s := "lay") (by decide +kernel) (by decide +kernel)
theorem row_nice {r : Rw} (h : RwB 130 r) : Nice 13 r.data 2 500 := by
  rw [data_eq]
  have hw := (word_nice r).mono (show 0 ≤ 1 by decide) (show 8 ≤ 108 by decide)
  have nn : ∀ {n : Nat}, n < 130 → Nice 13 (nd n) 1 108 := fun h => (nice_nat (Nat.lt_of_lt_of_le h (by decide))).mono (by decide) (by decide)
  have tt : ∀ {ps : List Nat}, (∀ y ∈ ps, y < 130) → ps.length ≤ 12 → Nice 13 (.tuple (ps.map nd)) 1 108 := fun {ps} h1 h2 => by
    have := nice_tup (nice_nats fun n hn => Nat.lt_of_lt_of_le (h1 n hn) (show 130 ≤ 256 by decide))
    rw [List.length_map] at this
    exact this.mono (Nat.le_refl _) (by omega)
  have key : (∀ d ∈ r.rdata, Nice 13 d 1 108) ∧ r.rdata.length ≤ 3 := by
    cases r with
    | take i =>
      refine ⟨fun d hd => ?_, show 1 ≤ 3 by decide⟩
      rw [List.mem_singleton.mp hd]
      exact nn (Nat.lt_of_le_of_lt h (by decide))
    | num z =>
      refine ⟨fun d hd => ?_, show 1 ≤ 3 by decide⟩
      rw [List.mem_singleton.mp hd]
      exact (nice_int (by have := h.1; omega) h.2).mono (by decide) (by decide)
    | bin b x y =>
      refine ⟨fun d hd => ?_, show 2 ≤ 3 by decide⟩
      have hd2 : d = nd x ∨ d = nd y := by simpa [Rw.rdata] using hd
      rcases hd2 with rfl | rfl
      · exact nn h.1
      · exact nn h.2
    | pick x ps =>
      refine ⟨fun d hd => ?_, show 2 ≤ 3 by decide⟩
      have hd2 : d = nd x ∨ d = .tuple (ps.map nd) := by simpa [Rw.rdata] using hd
      rcases hd2 with rfl | rfl
      · exact nn h.1
      · exact tt h.2.1 (Nat.le_trans h.2.2.1 (by decide))
    | meet ps =>
      refine ⟨fun d hd => ?_, show 1 ≤ 3 by decide⟩
      rw [List.mem_singleton.mp hd]
      exact tt h.1 h.2
    | tell x =>
      refine ⟨fun d hd => ?_, show 1 ≤ 3 by decide⟩
      rw [List.mem_singleton.mp hd]
      exact nn h
    | look rs x =>
      refine ⟨fun d hd => ?_, show 2 ≤ 3 by decide⟩
      have hd2 : d = .tuple (rs.map nd) ∨ d = nd x := by simpa [Rw.rdata] using hd
      rcases hd2 with rfl | rfl
      · exact tt (fun y hy => Nat.lt_trans (h.2.2.2 y hy) (by decide)) (Nat.le_trans h.2.1 (by decide))
      · exact nn h.1
    | lay rs x y =>
      refine ⟨fun d hd => ?_, show 3 ≤ 3 by decide⟩
      have hd2 : d = .tuple (rs.map nd) ∨ d = nd x ∨ d = nd y := by simpa [Rw.rdata] using hd
      rcases hd2 with rfl | rfl | rfl
      · exact tt (fun y hy => Nat.lt_trans (h.2.2.2.2 y hy) (by decide)) (Nat.le_trans h.2.2.1 (by decide))
      · exact nn h.1
      · exact nn h.2.1
  have := nice_tup (ds := .str r.w :: r.rdata) (k := 1) (W := 108) fun d hd => by
    rcases List.mem_cons.mp hd with rfl | hd
    · exact hw
    · exact key.1 d hd
  refine this.mono (Nat.le_refl _) ?_
  rw [List.length_cons]
  have := key.2
  omega
def En.data : En → PyData
  | .go b => .tuple [.str "go", nd b]
  | .iff r b c => .tuple [.str "if", nd r, nd b, nd c]
  | .fin => .tuple [.str "end"]
theorem EnAt.dp {K : PySem.W.Frag} {H : Hp} {v : V} {e : En} (h : EnAt K H v e) : Dp K H v e.data := by
  cases e with
  | go b => obtain ⟨p, rfl, h⟩ := h; exact .tup h (.cons (.str _) (.cons (.int _) .nil))
  | iff r b c => obtain ⟨p, rfl, h⟩ := h; exact .tup h (.cons (.str _) (.cons (.int _) (.cons (.int _) (.cons (.int _) .nil))))
  | fin => obtain ⟨p, rfl, h⟩ := h; exact .tup h (.cons (.str _) .nil)
theorem end_nice {e : En} {m : Nat} (hm : m ≤ 12) (h : EnOk m 130 e) : Nice 13 e.data 1 40 := by
  cases e with
  | go b =>
    refine (nice_tup (k := 0) (W := 8) fun d hd => ?_).mono (Nat.le_refl _) (show 2 * 9 ≤ 40 by decide)
    have hd2 : d = .str "go" ∨ d = nd b := by simpa using hd
    rcases hd2 with rfl | rfl
    · exact nice_str (by decide +kernel) (by decide +kernel)
    · exact nice_nat (by have := h.2; omega)
  | iff r b c =>
    refine (nice_tup (k := 0) (W := 8) fun d hd => ?_).mono (Nat.le_refl _) (show 4 * 9 ≤ 40 by decide)
    obtain ⟨h1, h2, h3, h4, h5, _⟩ := h
    have hd2 : d = .str "if" ∨ d = nd r ∨ d = nd b ∨ d = nd c := by simpa using hd
    rcases hd2 with rfl | rfl | rfl | rfl
    · exact nice_str (by decide +kernel) (by decide +kernel)
    · exact nice_nat (by omega)
    · exact nice_nat (by omega)
    · exact nice_nat (by omega)
  | fin =>
    refine (nice_tup (k := 0) (W := 8) fun d hd => ?_).mono (Nat.le_refl _) (show 1 * 9 ≤ 40 by decide)
    rw [List.mem_singleton.mp hd]
    exact nice_str (by decide +kernel) (by decide +kernel)
def bdata (b : Blk) : PyData := .tuple [.list (b.1.map Rw.data), b.2.data]
def pdata (pr : List Blk) : PyData := .list (pr.map bdata)
theorem BlkAt.dp {K : PySem.W.Frag} {H : Hp} {v : V} {b : Blk} (h : BlkAt K H v b) : Dp K H v (bdata b) := by
  obtain ⟨p, ra, ea, vs, rfl, h2, h3, h4, h5⟩ := h
  exact .tup h2 (.cons (.lst (sqL h3) (rows_dp h4)) (.cons h5.dp .nil))
theorem blks_dp {K : PySem.W.Frag} {H : Hp} : ∀ {vs : List V} {bs : List Blk}, Paired (BlkAt K H) vs bs → DpAll K H vs (bs.map bdata)
  | _, _, .nil => .nil
  | _, _, .cons h t => .cons h.dp (blks_dp t)
theorem ProgAt.dp {K : PySem.W.Frag} {H : Hp} {v : V} {pr : List Blk} (h : ProgAt K H v pr) : Dp K H v (pdata pr) := by
  obtain ⟨p, bs, rfl, h1, h2⟩ := h
  exact .lst h1 (blks_dp h2)
theorem prog_nice {pr : List Blk} {m : Nat} (hm : m ≤ 12) (h : ProgOk m 130 pr) : Nice 13 (pdata pr) 60 850000 := by
  have hb : ∀ d ∈ pr.map bdata, Nice 13 d 4 66000 := fun d hd => by
    obtain ⟨b, hb, rfl⟩ := List.mem_map.mp hd
    obtain ⟨h1, h2, h3⟩ := h.rows b hb
    have r1 := nice_list (ds := b.1.map Rw.data) (k := 2) (W := 500) fun d hd => by
      obtain ⟨r, hr, rfl⟩ := List.mem_map.mp hd
      exact row_nice (h2 r hr)
    rw [List.length_map] at r1
    have e1 := end_nice hm h3
    refine ⟨?_, ?_, ?_, ?_, ?_⟩
    · simp only [bdata, PyData.canLay0, PyData.canLayAll0]
      have := r1.lay
      simp only [PyData.canLay0] at this
      simp only [this, e1.lay, Bool.and_self]
    · have a1 := r1.dep
      have a2 := e1.dep
      simp only [bdata, PyData.depth, PyData.depthAll] at *
      omega
    · simp only [bdata, PyData.showable, PyData.showableAll]
      have := r1.sho
      simp only [PyData.showable] at this
      simp only [this, e1.sho, Bool.and_self]
    · simp only [bdata, PyData.intsShort, PyData.intsShortAll]
      have := r1.sht
      simp only [PyData.intsShort] at this
      simp only [this, e1.sht, Bool.and_self]
    · have a1 := r1.wt
      have a2 := e1.wt
      simp only [bdata, PyData.weight, PyData.weightAll] at *
      omega
  have := nice_list hb
  rw [List.length_map, h.len] at this
  exact this.mono (by decide) (by omega)
theorem Nice.shaped {B : Nat} {d : PyData} {W : Nat} (h : Nice B d 60 W) : SeqAt.shaped d = true := by
  unfold SeqAt.shaped
  rw [h.lay, decide_eq_true (Nat.le_trans h.dep (by decide))]
  rfl
theorem Nice.shown {d : PyData} {W : Nat} (h : Nice 13 d 60 W) (hW : W ≤ 1000000) : d.shown.length ≤ sizeLine := by
  refine PyData.shown_fits_of_layable0 (B := 13) (by decide) (by decide) ?_ h.sht
  unfold PyData.layable0
  rw [h.lay, decide_eq_true (Nat.le_trans h.dep (by decide)), decide_eq_true (Nat.le_trans h.wt (by omega))]
  rfl
theorem Nice.noDict {B : Nat} {d : PyData} {k W : Nat} (h : Nice B d k W) : d.hasDict = false := PyData.hasDict_of_canLay d h.lay
theorem Nice.eqv {B : Nat} {d : PyData} {k W : Nat} (h : Nice B d k W) : PyData.eqv d d = true := SeqAt.eqv_refl d h.lay
theorem Nice.shown42 {d : PyData} {W : Nat} (h : Nice 42 d 60 W) (hW : W ≤ 100000) : d.shown.length ≤ sizeLine := by
  have h1 := PyData.shown_le 42 (by decide) d (PyData.leavesShort_of_canLay0 42 d h.lay h.sht)
  have h2 := h.wt
  have h3 : (42 + 2) * d.weight + 42 ≤ (42 + 2) * 100000 + 42 := by omega
  exact Nat.le_trans h1 (Nat.le_trans h3 (by decide))
end Gn
set_option Elab.async false
set_option linter.all false
set_option maxRecDepth 100000
set_option maxHeartbeats 4000000
namespace Gn
open PySem PySem.Spec PyProof.Rows L2
/-! ### what a run tells, as data -/
def wD : Option Int → PyData
  | none => .none
  | some i => .int i
def dD (d : Nat × Option Int) : PyData := .tuple [nd d.1, wD d.2]
def tD (xs : List Int) : PyData := .list (xs.map .int)
def lD (d : List (Nat × Option Int)) : PyData := .list (d.map dD)
def cD (c : Cfg) : PyData := .tuple [.str c.word, tD c.st.told, lD c.st.done]
theorem ints_dp {K : PySem.W.Frag} {H : Hp} : ∀ xs : List Int, DpAll K H (xs.map V.int) (xs.map .int)
  | [] => .nil
  | x :: xs => .cons (.int _) (ints_dp xs)
theorem DnAt.dp {K : PySem.W.Frag} {H : Hp} {v : V} {d : Nat × Option Int} (h : DnAt K H v d) : Dp K H v (dD d) := by
  obtain ⟨q, rfl, h⟩ := h
  obtain ⟨k, w⟩ := d
  cases w with
  | none => exact .tup h (.cons (.int _) (.cons .non .nil))
  | some i => exact .tup h (.cons (.int _) (.cons (.int _) .nil))
theorem dns_dp {K : PySem.W.Frag} {H : Hp} : ∀ {ds : List V} {d : List (Nat × Option Int)}, Paired (DnAt K H) ds d → DpAll K H ds (d.map dD)
  | _, _, .nil => .nil
  | _, _, .cons h t => .cons h.dp (dns_dp t)
theorem lay_dD (d : Nat × Option Int) : (dD d).canLay0 = true := by
  obtain ⟨k, w⟩ := d
  cases w <;> simp only [dD, wD, nd, PyData.canLay0, PyData.canLayAll0, Bool.and_self]
theorem lay_ds : ∀ d : List (Nat × Option Int), PyData.canLayAll0 (d.map dD) = true
  | [] => by simp only [List.map_nil, PyData.canLayAll0]
  | a :: d => by rw [List.map_cons]; simp only [PyData.canLayAll0, lay_dD, lay_ds d, Bool.and_self]
theorem lay_ts : ∀ xs : List Int, PyData.canLayAll0 (xs.map .int) = true
  | [] => by simp only [List.map_nil, PyData.canLayAll0]
  | a :: d => by rw [List.map_cons]; simp only [PyData.canLayAll0, PyData.canLay0, lay_ts d, Bool.and_self]
theorem dep_ds : ∀ d : List (Nat × Option Int), PyData.depthAll (d.map dD) ≤ 3
  | [] => by simp [PyData.depthAll]
  | (k, w) :: d => by
    have h := dep_ds d
    rw [List.map_cons]
    cases w <;> (simp only [PyData.depthAll, dD, wD, nd, PyData.depth] at *; omega)
theorem dep_ts : ∀ xs : List Int, PyData.depthAll (xs.map .int) ≤ 1
  | [] => by simp [PyData.depthAll]
  | a :: d => by
    have h := dep_ts d
    rw [List.map_cons]
    simp only [PyData.depthAll, PyData.depth]
    omega
theorem lay_tD (xs : List Int) : (tD xs).canLay0 = true := by unfold tD; simp only [PyData.canLay0, lay_ts]
theorem lay_lD (d : List (Nat × Option Int)) : (lD d).canLay0 = true := by unfold lD; simp only [PyData.canLay0, lay_ds]
theorem dep_tD (xs : List Int) : (tD xs).depth ≤ 8 := by have := dep_ts xs; unfold tD; simp only [PyData.depth]; omega
theorem dep_lD (d : List (Nat × Option Int)) : (lD d).depth ≤ 8 := by have := dep_ds d; unfold lD; simp only [PyData.depth]; omega
theorem sh_of {d : PyData} (h1 : d.canLay0 = true) (h2 : d.depth ≤ 64) : SeqAt.shaped d = true := by
  unfold SeqAt.shaped
  rw [h1, decide_eq_true h2]
  rfl
theorem word_ok (c : Cfg) : PyData.strOk c.word = true := by
  cases c with
  | come _ _ _ => exact (show PyData.strOk ("going" : Str) = true by decide +kernel)
  | row _ _ _ _ => exact (show PyData.strOk ("going" : Str) = true by decide +kernel)
  | ended _ => exact (show PyData.strOk ("ended" : Str) = true by decide +kernel)
  | great _ => exact (show PyData.strOk ("great" : Str) = true by decide +kernel)
theorem lay_cD (c : Cfg) : (cD c).canLay0 = true := by
  unfold cD
  simp only [PyData.canLay0, PyData.canLayAll0, lay_tD, lay_lD, word_ok, Bool.and_self]
theorem sh_cD (c : Cfg) : SeqAt.shaped (cD c) = true := by
  refine sh_of (lay_cD c) ?_
  have h1 := dep_tD c.st.told
  have h2 := dep_lD c.st.done
  unfold cD
  simp only [PyData.depth, PyData.depthAll]
  omega
/-- what a run tells, in memory -/
structure RunAt (K : PySem.W.Frag) (H : Hp) (q te dn : Addr) (ds : List V) (c : Cfg) : Prop where
  tp : SqT K H q [.str c.word, .ref te, .ref dn]
  te : H te = some (.lst (c.st.told.map V.int))
  dn : H dn = some (.lst ds)
  pd : Paired (DnAt K H) ds c.st.done
theorem RunAt.same {K : PySem.W.Frag} {H H' : Hp} {q te dn : Addr} {ds : List V} {c : Cfg} (h : RunAt K H q te dn ds c) (e : Same H H') : RunAt K H' q te dn ds c :=
  ⟨Same.tup e h.tp, e _ _ h.te, e _ _ h.dn, pd_mono h.pd fun _ _ ⟨y, y1, y2⟩ => ⟨y, y1, Same.tup e y2⟩⟩
theorem RunAt.dp {K : PySem.W.Frag} {H : Hp} {q te dn : Addr} {ds : List V} {c : Cfg} (h : RunAt K H q te dn ds c) : Dp K H (.ref q) (cD c) :=
  .tup h.tp (.cons (.str _) (.cons (.lst (sqL h.te) (ints_dp _)) (.cons (.lst (sqL h.dn) (dns_dp h.pd)) .nil)))
/-! ### the bounds of what a run tells -/
structure TD (pr : List Blk) (s : MSt) (n : Nat) : Prop where
  bd : Bd s
  to : ∀ x ∈ s.told, -GT40 ≤ x ∧ x ≤ GT40
  dn : ∀ d ∈ s.done, d.1 < (rowsL pr).length ∧ ∀ x, d.2 = some x → -GT40 ≤ x ∧ x ≤ GT40
  lt : s.told.length ≤ n
  ld : s.done.length ≤ n
theorem TD.first (pr : List Blk) : TD pr (MSt.first pr) 0 := ⟨(first_ok pr).bd, fun x h => (by cases h), fun d h => (by cases h), Nat.le_refl _, Nat.le_refl _⟩
theorem TD.succ {pr : List Blk} {s : MSt} {n : Nat} (h : TD pr s n) : TD pr s (n + 1) := ⟨h.bd, h.to, h.dn, Nat.le_succ_of_le h.lt, Nat.le_succ_of_le h.ld⟩
theorem TD.doR {pr : List Blk} {s : MSt} {n j : Nat} {r : Rw} {w : Option Int} (h : TD pr s n) (hj : j < (rowsL pr).length) (hw : too w = false) : TD pr (doR j r w s) (n + 1) := by
  have hwb : ∀ x, w = some x → -GT40 ≤ x ∧ x ≤ GT40 := fun x e => by
    subst e
    exact too_no hw
  have hwb0 : -GT40 ≤ w.getD 0 ∧ w.getD 0 ≤ GT40 := by
    cases w with
    | none => decide
    | some w => exact hwb w rfl
  have hdn : ∀ d ∈ s.done ++ [(j, w)], d.1 < (rowsL pr).length ∧ ∀ x, d.2 = some x → -GT40 ≤ x ∧ x ≤ GT40 := fun d hd => by
    rcases List.mem_append.mp hd with z | z
    · exact h.dn d z
    · rw [List.mem_singleton.mp z]
      exact ⟨hj, hwb⟩
  have hl : (s.done ++ [(j, w)]).length ≤ n + 1 := by
    rw [List.length_append, List.length_singleton]
    have := h.ld
    omega
  have las : TD pr { s with lasts := s.lasts.set j (w.getD 0), done := s.done ++ [(j, w)] } (n + 1) := ⟨⟨bd_set h.bd.1 hwb0, h.bd.2⟩, h.to, hdn, Nat.le_succ_of_le h.lt, hl⟩
  cases r with
  | lay rs x y => exact ⟨⟨h.bd.1, bd_set h.bd.2 (LI_bd h.bd.1)⟩, h.to, hdn, Nat.le_succ_of_le h.lt, hl⟩
  | tell x =>
    refine ⟨h.bd, fun y hy => ?_, hdn, ?_, hl⟩
    · have hy : y ∈ s.told ++ [LI s.lasts x] := hy
      rcases List.mem_append.mp hy with z | z
      · exact h.to y z
      · rw [List.mem_singleton.mp z]
        exact LI_bd h.bd.1
    · show (s.told ++ [LI s.lasts x]).length ≤ n + 1
      rw [List.length_append, List.length_singleton]
      have := h.lt
      omega
  | take _ => exact las
  | num _ => exact las
  | bin _ _ _ => exact las
  | pick _ _ => exact las
  | meet _ => exact las
  | look _ _ => exact las
def RwIx (pr : List Blk) : Cfg → Prop
  | .row b i _ _ => i < (rowsB pr b).length
  | _ => True
theorem rwIx_norm {pr : List Blk} {b i : Nat} {bl : List Int} {s : MSt} : RwIx pr (norm pr b i bl s) := by
  unfold norm
  by_cases h : i < (rowsB pr b).length
  · rw [if_pos h]
    exact h
  · rw [if_neg h]
    cases nextB s (endB pr b) <;> exact trivial
theorem TD.run (pr : List Blk) (tk : List Int) : ∀ n, TD pr (runC pr tk n).st n ∧ RwIx pr (runC pr tk n) := fun n => by
  unfold runC
  induction n with
  | zero => exact ⟨TD.first pr, trivial⟩
  | succ n ih =>
    rw [itC_succ]
    generalize itC pr tk n (.come 0 [] (MSt.first pr)) = c at ih
    obtain ⟨h1, h2⟩ := ih
    cases c with
    | ended s => exact ⟨h1.succ, trivial⟩
    | great s => exact ⟨h1.succ, trivial⟩
    | come b bl s =>
      refine ⟨?_, rwIx_norm⟩
      show TD pr (norm pr b 0 bl { s with way := s.way ++ [b] }).st (n + 1)
      rw [norm_st]
      have h1 : TD pr s n := h1
      exact ⟨h1.bd, h1.to, h1.dn, Nat.le_succ_of_le h1.lt, Nat.le_succ_of_le h1.ld⟩
    | row b i bl s =>
      have h2 : i < (rowsB pr b).length := h2
      have h1 : TD pr s n := h1
      have hb : b < pr.length := Classical.byContradiction fun z => by
        unfold rowsB at h2
        rw [List.getD_eq_getElem?_getD, List.getElem?_eq_none (by omega)] at h2
        exact absurd h2 (Nat.not_lt_zero i)
      show TD pr (if too (wAt pr tk b i bl s) = true then Cfg.great s else norm pr b (i + 1) bl (Gn.doR (bgn pr b + i) (rwAt pr b i) (wAt pr tk b i bl s) s)).st (n + 1) ∧ RwIx pr (if too (wAt pr tk b i bl s) = true then Cfg.great s else norm pr b (i + 1) bl (Gn.doR (bgn pr b + i) (rwAt pr b i) (wAt pr tk b i bl s) s))
      by_cases ht : too (wAt pr tk b i bl s) = true
      · rw [if_pos ht]
        exact ⟨h1.succ, trivial⟩
      · rw [if_neg ht, norm_st]
        exact ⟨h1.doR (bgn_lt hb h2) (by cases z : too (wAt pr tk b i bl s) with | true => exact absurd z ht | false => rfl), rwIx_norm⟩
theorem nice_none : Nice 42 .none 0 0 := ⟨by simp only [PyData.canLay0], by simp only [PyData.depth]; omega, by simp only [PyData.showable], by simp only [PyData.intsShort], by simp only [PyData.weight]; omega⟩
theorem nice_w {w : Option Int} (h : ∀ x, w = some x → -GT40 ≤ x ∧ x ≤ GT40) : Nice 42 (wD w) 0 140 := by
  cases w with
  | none => exact nice_none.mono (by decide) (by decide)
  | some x => exact nice_big (h x rfl)
theorem word_nice' (c : Cfg) : Nice 42 (.str c.word) 0 8 := by
  cases c with
  | come _ _ _ => exact nice_str (s := "going") (by decide +kernel) (by decide +kernel)
  | row _ _ _ _ => exact nice_str (s := "going") (by decide +kernel) (by decide +kernel)
  | ended _ => exact nice_str (s := "ended") (by decide +kernel) (by decide +kernel)
  | great _ => exact nice_str (s := "great") (by decide +kernel) (by decide +kernel)
theorem nice_cD {pr : List Blk} {c : Cfg} {n : Nat} (h : TD pr c.st n) (hr : (rowsL pr).length ≤ 2000) (hn : n ≤ 150) : Nice 42 (cD c) 60 100000 := by
  have h1 : Nice 42 (tD c.st.told) 1 30000 := by
    have := nice_list (B := 42) (k := 0) (W := 140) (ds := c.st.told.map .int) fun d hd => by
      obtain ⟨x, hx, rfl⟩ := List.mem_map.mp hd
      exact nice_big (h.to x hx)
    rw [List.length_map] at this
    refine this.mono (by decide) ?_
    have h2 := h.lt
    have h3 : c.st.told.length * (140 + 1) ≤ 150 * (140 + 1) := Nat.mul_le_mul_right _ (by omega)
    exact Nat.le_trans h3 (by decide)
  have h2 : Nice 42 (lD c.st.done) 2 60000 := by
    have := nice_list (B := 42) (k := 1) (W := 282) (ds := c.st.done.map dD) fun d hd => by
      obtain ⟨⟨k, w⟩, hx, rfl⟩ := List.mem_map.mp hd
      obtain ⟨a1, a2⟩ := h.dn _ hx
      refine (nice_tup (B := 42) (k := 0) (W := 140) (ds := [nd k, wD w]) fun d hd => ?_).mono (by decide) (show 2 * (140 + 1) ≤ 282 by decide)
      have hd2 : d = nd k ∨ d = wD w := by simpa using hd
      rcases hd2 with rfl | rfl
      · refine nice_big ?_
        have a1 : k < (rowsL pr).length := a1
        unfold GT40
        omega
      · exact nice_w a2
    rw [List.length_map] at this
    refine this.mono (by decide) ?_
    have h4 := h.ld
    have h3 : c.st.done.length * (282 + 1) ≤ 150 * (282 + 1) := Nat.mul_le_mul_right _ (by omega)
    exact Nat.le_trans h3 (by decide)
  have h3 := word_nice' c
  refine ⟨lay_cD c, ?_, ?_, ?_, ?_⟩
  · have a1 := h1.dep
    have a2 := h2.dep
    unfold cD
    simp only [PyData.depth, PyData.depthAll] at *
    omega
  · unfold cD
    simp only [PyData.showable, PyData.showableAll, h1.sho, h2.sho, Bool.and_self]
  · unfold cD
    simp only [PyData.intsShort, PyData.intsShortAll, h1.sht, h2.sht, Bool.and_self]
  · have a1 := h1.wt
    have a2 := h2.wt
    have a3 := h3.wt
    unfold cD
    simp only [PyData.weight, PyData.weightAll] at *
    omega
/-- the program and the numbers to take, as one list -/
def pkD (pr : List Blk) (tk : List Int) : PyData := .list [pdata pr, tD tk]
theorem nice_pk {pr : List Blk} {tk : List Int} {m : Nat} (hm : m ≤ 12) (h : ProgOk m 130 pr) (hl : tk.length = 6) (ht : ∀ x ∈ tk, -20 ≤ x ∧ x ≤ 10 ^ 12) : Nice 13 (pkD pr tk) 60 900000 := by
  have h1 : Nice 13 (pdata pr) 60 850000 := prog_nice hm h
  have hd1 : (pdata pr).depth ≤ 8 := by
    have hb : ∀ d ∈ pr.map bdata, d.depth ≤ 6 := fun d hd => by
      obtain ⟨b, hb, rfl⟩ := List.mem_map.mp hd
      obtain ⟨z1, z2, z3⟩ := h.rows b hb
      have r1 := nice_list (ds := b.1.map Rw.data) (k := 2) (W := 500) fun d hd => by
        obtain ⟨r, hr, rfl⟩ := List.mem_map.mp hd
        exact row_nice (z2 r hr)
      have e1 := end_nice hm z3
      have a1 := r1.dep
      have a2 := e1.dep
      simp only [bdata, PyData.depth, PyData.depthAll] at *
      omega
    have all : ∀ ds : List PyData, (∀ d ∈ ds, d.depth ≤ 6) → PyData.depthAll ds ≤ 6 := fun ds => by
      induction ds with
      | nil => intro _; simp [PyData.depthAll]
      | cons d ds ih =>
        intro hh
        have a1 := hh d List.mem_cons_self
        have a2 := ih fun x hx => hh x (List.mem_cons_of_mem _ hx)
        simp only [PyData.depthAll]
        omega
    have := all _ hb
    unfold pdata
    simp only [PyData.depth]
    omega
  have h2 : Nice 13 (tD tk) 1 252 := by
    have := nice_list (B := 13) (k := 0) (W := 41) (ds := tk.map .int) fun d hd => by
      obtain ⟨x, hx, rfl⟩ := List.mem_map.mp hd
      exact nice_int (ht x hx).1 (ht x hx).2
    rw [List.length_map, hl] at this
    exact this.mono (by decide) (by decide)
  refine ⟨?_, ?_, ?_, ?_, ?_⟩
  · unfold pkD
    simp only [PyData.canLay0, PyData.canLayAll0, h1.lay, h2.lay, Bool.and_self]
  · have a2 := h2.dep
    unfold pkD
    simp only [PyData.depth, PyData.depthAll] at *
    omega
  · unfold pkD
    simp only [PyData.showable, PyData.showableAll, h1.sho, h2.sho, Bool.and_self]
  · unfold pkD
    simp only [PyData.intsShort, PyData.intsShortAll, h1.sht, h2.sht, Bool.and_self]
  · have a1 := h1.wt
    have a2 := h2.wt
    unfold pkD
    simp only [PyData.weight, PyData.weightAll] at *
    omega
end Gn
set_option Elab.async false
set_option linter.all false
set_option maxRecDepth 100000
set_option maxHeartbeats 4000000
namespace Gn
open PySem PySem.Spec PyProof.Rows L2
/-! ### xs[i] += e, xs a list -/
def rGetL (K : PySem.W.Frag) : V → V → Hp → VK → Prop := fun x y H Q => ∃ (p : Addr) (xs : List V) (j : Nat) (v : V), x = .ref p ∧ y = .int (j : Int) ∧ SqL K H p xs ∧ xs[j]? = some v ∧ Q v H
theorem get_list {X : Cx} : PGet X (rGetL X.K) := by
  intro pins s σ H x y v u Q I rx ry h
  obtain ⟨p, xs, j, z, rfl, rfl, hq, he, q⟩ := h
  cases rx
  obtain ⟨t, rfl⟩ := ry
  obtain ⟨its, r, pl, hz⟩ := I.list hq
  obtain ⟨w, ew, rw'⟩ := r.get he
  have hl := r.length
  have hn := line63
  have hj := (List.getElem?_eq_some_iff.mp he).1
  exact wpAny_getItem_list pl.isList (by omega) (by omega) (by rw [Int.toNat_natCast]; simpa using ew) ⟨z, H, I, rw', q⟩
/-! ### xs.count(x), texts -/
def rCntS (K : PySem.W.Frag) : V → List V → Hp → VK → Prop := fun x xs H Q => ∃ (p : Addr) (ws : List Str) (z : Str), x = .ref p ∧ xs = [.str z] ∧ SqL K H p (ws.map V.str) ∧ Q (iv (ws.count z)) H
theorem strs_dp {K : PySem.W.Frag} {H : Hp} : ∀ xs : List Str, DpAll K H (xs.map V.str) (xs.map .str)
  | [] => .nil
  | x :: xs => .cons (.str _) (strs_dp xs)
theorem strs_plain : ∀ xs : List Str, PyData.plainAll (xs.map .str) = true
  | [] => rfl
  | x :: xs => by rw [List.map_cons, PyData.plainAll, strs_plain xs]; rfl
theorem strs_count (z : Str) : ∀ xs : List Str, (xs.map PyData.str).countP (fun y => PyData.eqv y (.str z)) = xs.count z
  | [] => rfl
  | x :: xs => by
    rw [List.map_cons, List.countP_cons, List.count_cons, strs_count z xs]
    have e : PyData.eqv (.str x) (.str z) = (x == z) := by simp [PyData.eqv]
    rw [e]
theorem mt_lcountS {X : Cx} (hu : X.A.units + 64 < cLine) : MtR X "list.count" (rCntS X.K) := by
  intro pins s σ H x xs v us Q I rx rxs h
  obtain ⟨p, ws, z, rfl, rfl, hl, q⟩ := h
  cases rx
  obtain ⟨u, rfl, ru⟩ := rxs.one
  obtain ⟨as, r1⟩ := Dp.reads I (.list (ws.map .str)) (.ref p) (.ref p) (.lst hl (strs_dp ws)) rfl
  obtain ⟨bs, r2⟩ := Dp.reads I (.str z) (.str z) u (.str z) ru
  cases r1 with
  | list h1 h2 h3 h4 =>
    refine SeqAt.count_list_data ⟨_, h1, h2, _, h3⟩ h4 r2 (strs_plain ws) rfl (by simp only [PyData.depth]; omega) ⟨iv (ws.count z), H, I.tok _, ⟨s.toks, ?_⟩, q⟩
    rw [strs_count]
/-! ### rows_of -/
theorem it_core {J : It} {n : Nat} {G : Hp → Prop} {Y : Nat → Hp → V → Hp → Prop} (w : Walk J n G Y) {Body : (Hp → Prop) → V → Hp → Prop} {H0 : Hp} {Qd : Hp → Prop} (Pv : Nat → Hp → Prop) (h0 : Pv 0 H0) (hG : ∀ i H, i ≤ n → Pv i H → G H)
    (hs : ∀ i x H H', i < n → Pv i H → Y i H x H' → Body (Pv (i + 1)) x H') (hd : ∀ H, Pv n H → Qd H) :
    ∃ W : Nat → Nat → Hp → Prop, (∃ m, W 0 m H0) ∧ ∀ i m H, W i m H → (J.stop i H ∧ Qd H) ∨ (J.go i H ∧ ∃ Nx : Hp → Prop, (∀ H', Nx H' → ∃ m', m' < m ∧ W (i + 1) m' H') ∧ ∀ x H', J.yld i H x H' → Body Nx x H') := by
  refine ⟨fun i m H => m = n - i ∧ i ≤ n ∧ Pv i H, ⟨n, by simp, Nat.zero_le _, h0⟩, ?_⟩
  rintro i m H ⟨rfl, hi, p⟩
  have q := hG i H hi p
  by_cases hlt : i < n
  · exact .inr ⟨w.goes i H hlt q, Pv (i + 1), fun H' p' => ⟨n - (i + 1), by omega, rfl, hlt, p'⟩, fun x H' y => hs i x H H' hlt p (w.yields i H x H' hlt q y)⟩
  · have e : i = n := by omega
    subst e
    exact .inl ⟨w.stops H q, hd H p⟩
def spRowsOf (K : PySem.W.Frag) : Sp := fun vs H Q _ => ∃ (v : V) (pr : List Blk), vs = [v] ∧ ProgAt K H v pr ∧ pr.length ≤ 12 ∧ (∀ b ∈ pr, b.1.length ≤ 130) ∧
  ∀ (p : Addr) (H' : Hp) (us : List V), H p = none → Same H H' → H' p = some (.lst us) → Paired (RowAt K H') us (rowsL pr) → Q (.ref p) H'
abbrev nRowsOf : List Str := ["program", "rows", "end", "row"]
theorem scRowsOf : FnScope nRowsOf ["program"] (defScope sRowsOf) := ⟨rfl, rfl, rfl, by decide +kernel, rfl, by decide +kernel, by decide +kernel⟩
/-! ### is_reckoning, reckoned, times_done, way_of -/
def Rw.isR : Rw → Bool
  | .bin _ _ _ => true
  | .pick _ _ => true
  | .look _ _ => true
  | _ => false
theorem isR_in (r : Rw) : inV (.str r.w) [.str "sum", .str "less", .str "times", .str "same", .str "below", .str "pick", .str "look"] = r.isR := by
  cases r with
  | bin b x y => cases b <;> rfl
  | _ => (first | rfl | decide)
def spIsReck (K : PySem.W.Frag) : Sp := fun vs H Q _ => ∃ (v : V) (r : Rw), vs = [v] ∧ RowAt K H v r ∧ Q (.bl r.isR) H
theorem scIsReck : FnScope ["row"] ["row"] (defScope sIsReck) := ⟨rfl, rfl, rfl, by decide +kernel, rfl, by decide +kernel, by decide +kernel⟩
/-- whether the row of a done one is a reckoning -/
def rk (pr : List Blk) (d : Nat × Option Int) : Bool := ((rowsL pr).getD d.1 (.tell 0)).isR
/-- the done rows handed in -/
structure DnsAt (K : PySem.W.Frag) (H : Hp) (dn : Addr) (pr : List Blk) (d : List (Nat × Option Int)) : Prop where
  at_ : ∃ ds, SqL K H dn ds ∧ Paired (DnAt K H) ds d
  lt : ∀ x ∈ d, x.1 < (rowsL pr).length
  len : d.length ≤ 200
theorem DnsAt.same {K : PySem.W.Frag} {H H' : Hp} {dn : Addr} {pr : List Blk} {d : List (Nat × Option Int)} (h : DnsAt K H dn pr d) (e : Same H H') : DnsAt K H' dn pr d := by
  obtain ⟨⟨ds, h1, h2⟩, h3, h4⟩ := h
  exact ⟨⟨ds, e.seq h1, pd_mono h2 fun _ _ ⟨y, y1, y2⟩ => ⟨y, y1, Same.tup e y2⟩⟩, h3, h4⟩
def spReck (K : PySem.W.Frag) : Sp := fun vs H Q _ => ∃ (v : V) (dn : Addr) (pr : List Blk) (d : List (Nat × Option Int)), vs = [v, .ref dn] ∧ ProgAt K H v pr ∧ pr.length ≤ 12 ∧ (∀ b ∈ pr, b.1.length ≤ 130) ∧ DnsAt K H dn pr d ∧
  ∀ (H' : Hp), Same H H' → Q (iv (d.filter (rk pr)).length) H'
abbrev nReck : List Str := ["program", "done", "rows", "row", "worth"]
theorem scReck : FnScope nReck ["program", "done"] (defScope sReck) := ⟨rfl, rfl, rfl, by decide +kernel, rfl, by decide +kernel, by decide +kernel⟩
/-- how often each row is among the done ones -/
def often (n : Nat) (d : List (Nat × Option Int)) : List Nat := (List.range n).map fun k => (d.map (·.1)).count k
def spTimes (K : PySem.W.Frag) : Sp := fun vs H Q _ => ∃ (v : V) (dn : Addr) (pr : List Blk) (d : List (Nat × Option Int)), vs = [v, .ref dn] ∧ ProgAt K H v pr ∧ pr.length ≤ 12 ∧ (∀ b ∈ pr, b.1.length ≤ 130) ∧ DnsAt K H dn pr d ∧
  ∀ (p : Addr) (H' : Hp), H p = none → Same H H' → H' p = some (.lst ((often (rowsL pr).length d).map iv)) → Q (.ref p) H'
abbrev nTimes : List Str := ["program", "done", "many", "row", "worth"]
theorem scTimes : FnScope nTimes ["program", "done"] (defScope sTimes) := ⟨rfl, rfl, rfl, by decide +kernel, rfl, by decide +kernel, by decide +kernel⟩
def spWay (K : PySem.W.Frag) : Sp := fun vs H Q _ => ∃ (tka : Addr) (v : V) (most : Nat) (pr : List Blk) (tk : List Int), vs = [v, .ref tka, iv most] ∧ ProgAt K H v pr ∧ SqL K H tka (tk.map V.int) ∧ PureOk pr tk ∧ most ≤ 30000 ∧
  ∀ (wy : Addr) (H' : Hp), Same H H' → H wy = none → H' wy = some (.lst ((runC pr tk most).st.way.map iv)) → Q (.ref wy) H'
abbrev nWay : List Str := ["program", "takes", "most", "machine"]
theorem scWay : FnScope nWay ["program", "takes", "most"] (defScope sWay) := ⟨rfl, rfl, rfl, by decide +kernel, rfl, by decide +kernel, by decide +kernel⟩
theorem often_snoc {n : Nat} {d : List (Nat × Option Int)} {x : Nat × Option Int} (h : x.1 < n) : often n (d ++ [x]) = (often n d).set x.1 ((often n d).getD x.1 0 + 1) := by
  unfold often
  apply List.ext_getElem?
  intro i
  rw [List.getElem?_set, List.getElem?_map, List.getElem?_map]
  simp only [List.length_map, List.length_range]
  by_cases hi : i < n
  · rw [List.getElem?_range hi]
    by_cases e : x.1 = i
    · subst e
      rw [if_pos rfl, if_pos hi, List.getD_eq_getElem?_getD, List.getElem?_map, List.getElem?_range hi]
      simp [List.count_append]
    · rw [if_neg e]
      simp [List.count_append, List.count_cons, e]
  · rw [List.getElem?_eq_none (by simpa using hi)]
    by_cases e : x.1 = i
    · omega
    · rw [if_neg e]
      rfl
theorem often_len (n : Nat) (d : List (Nat × Option Int)) : (often n d).length = n := by unfold often; rw [List.length_map, List.length_range]
theorem often_nil (n : Nat) : often n [] = List.replicate n 0 := by
  unfold often
  apply List.ext_getElem?
  intro i
  rw [List.getElem?_map, List.getElem?_replicate]
  by_cases hi : i < n
  · rw [List.getElem?_range hi, if_pos hi]; rfl
  · rw [List.getElem?_eq_none (by simpa using hi), if_neg hi]; rfl
section
variable {P : Program} {w : World} {K : PySem.W.Frag} {mg : Str → Option Value} {base : Heap}
theorem ok_rowsOf {f : Addr} {fd : FuncData} {k : Nat} (D : Df K mg "rows_of" sRowsOf ["program"] f fd) (B : Bi mg) : FnOk P w K mg base CX0 (k + 1) f fd ["program"] (spRowsOf K) := by
  refine D.F.ok scRowsOf (fun vs H Q E h => ?_) (fun cdv A outer s H vs Q E hr h => ?_)
  · obtain ⟨v, pr, rfl, _⟩ := h
    rfl
  · obtain ⟨v, pr, rfl, ⟨a, xs, rfl, ha, pd⟩, hl, hbl, q⟩ := h
    refine ⟨_, pss_one (ps_ret (pe_lc2 (own := [("rows", 1), ("end", 2), ("row", 3)]) (vs1 := [3]) (g := gTup K 2 (gCons (gName 1) (gCons (gName 2) gNil))) (tt := tYes) (g1 := gName 3) (tt1 := tYes) (te := tVar 3) (wi1 := iList K (tVar 1)) rfl scRowsOf.nd (pi_list (pv 0))
      (blkOk_by (own := [("rows", 1), ("end", 2), ("row", 3)]) (N := nRowsOf) (sc := defScope sRowsOf) (by decide +kernel)) (by decide)
      (fun _ _ _ _ _ => pg_tup rfl (pgs_cons (pg_name (i := 1) scRowsOf.nd rfl (.inl rfl)) (pgs_cons (pg_name (i := 2) scRowsOf.nd rfl (.inl rfl)) pgs_nil))) (fun _ _ _ _ _ => pts_nil)
      (fun _ _ _ _ _ => pi_list (pv 1)) (fun _ _ _ _ _ => pg_name (i := 3) scRowsOf.nd rfl (.inl rfl)) (fun _ _ _ _ _ => pts_nil) (fun _ _ _ _ _ => pv 3))), ?_⟩
    have hxl : xs.length = pr.length := pd_len pd
    refine ⟨.ref a, rfl, a, rfl, ⟨_, ha⟩, fun L nL => ?_⟩
    refine it_core (walk_list (K := K) (a := a) (xs := xs)) (fun i H1 => Same H H1 ∧ ∃ us, H1 L = some (.lst us) ∧ Paired (RowAt K H) us (rowsL (pr.take i))) ⟨new_same nL, [], upd_same, .nil⟩ (fun i H1 _ hP => hP.1.seq ha) (fun i x H1 H2 hi hP hY => ?_) (fun H1 hP => ?_)
    · obtain ⟨s1, us, eL, pu⟩ := hP
      obtain ⟨e1, ex⟩ := hY
      subst e1
      obtain ⟨bk, hbk, p, ra, ea, vs, rfl, hp, hra, pv, _⟩ := pd_at2 pd ex
      refine ⟨p, _, rfl, Same.tup s1 hp, rfl, _, _, rfl, _, _, rfl, rfl, rfl, ?_⟩
      have hvl : vs.length = bk.1.length := pd_len pv
      refine ⟨.ref ra, rfl, ra, rfl, ⟨_, sqL (s1 _ _ hra)⟩, ?_⟩
      refine it_core (walk_list (K := K) (a := ra) (xs := vs)) (fun j H3 => Same H H3 ∧ ∃ us, H3 L = some (.lst us) ∧ Paired (RowAt K H) us (rowsL (pr.take i) ++ bk.1.take j)) ⟨s1, us, eL, by simpa using pu⟩ (fun j H3 _ hP => sqL (hP.1 _ _ hra)) (fun j z H3 H4 hj hP hY => ?_) (fun H3 hP => ?_)
      · obtain ⟨s3, us3, eL3, pu3⟩ := hP
        obtain ⟨e1, ez⟩ := hY
        subst e1
        obtain ⟨rw_, hrw, hrow⟩ := pd_at2 pv ez
        refine ⟨rfl, _, rfl, us3, eL3, ?_, fun b o e => ?_, us3 ++ [z], upd_same, ?_⟩
        · have h1 := pd_len pu3
          have h2 := take_rows_le hbl (show i ≤ pr.length by omega)
          have h3 := hbl bk (List.mem_of_getElem? hbk)
          have h4 : pr.length * 130 ≤ 12 * 130 := Nat.mul_le_mul_right _ hl
          rw [List.length_append, List.length_take] at h1
          exact szt (by omega)
        · rw [upd_ne (ne_of_none e nL)]; exact s3 _ _ e
        · rw [List.take_add_one, hrw, ← List.append_assoc]
          exact pd_app pu3 (.cons hrow .nil)
      · obtain ⟨s3, us3, eL3, pu3⟩ := hP
        rw [hvl, List.take_length] at pu3
        exact ⟨s3, us3, eL3, by rw [rows_take hbk]; exact pu3⟩
    · obtain ⟨s1, us, eL, pu⟩ := hP
      rw [hxl, List.take_length] at pu
      exact q L H1 us nL s1 eL (pd_mono pu fun _ _ z => z.same s1)
theorem ok_isReck {f : Addr} {fd : FuncData} {k : Nat} {gR : Addr} (D : Df K mg "is_reckoning" sIsReck ["row"] f fd) (hR : mg "RECKONINGS" = some (.ref gR)) (tR : ∀ H, SqT K H gR [.str "sum", .str "less", .str "times", .str "same", .str "below", .str "pick", .str "look"]) : FnOk P w K mg base CX0 (k + 1) f fd ["row"] (spIsReck K) := by
  refine D.F.ok scIsReck (fun vs H Q E h => ?_) (fun cdv A outer s H vs Q E hr h => ?_)
  · obtain ⟨v, r, rfl, _⟩ := h
    rfl
  · obtain ⟨v, r, rfl, ⟨p, xs, rfl, h1, h2⟩, q⟩ := h
    refine ⟨_, pss_one (ps_ret (pe_cmpR op_in_seq (pe_ix ix_tup (pv 0) pe_int (fun _ _ => rfl)) (pe_glob (v := .ref gR) (by rfl) hR rfl) rfl)), ?_⟩
    refine ⟨.ref p, rfl, p, _, _, _, rfl, rfl, h1, atI_nat (j := 0) rfl, gR, _, rfl, .inr (tR H), rfl, rfl, ?_⟩
    show Q (.bl (inV (.str r.w) _)) H
    rw [isR_in]
    exact q
theorem ok_reck {f fO fR : Addr} {fd fdO fdR : FuncData} {k : Nat} (D : Df K mg "reckoned" sReck ["program", "done"] f fd) (B : Bi mg) (DO : Df K mg "rows_of" sRowsOf ["program"] fO fdO) (GO : FnOk P w K mg base CX0 k fO fdO ["program"] (spRowsOf K))
    (DR : Df K mg "is_reckoning" sIsReck ["row"] fR fdR) (GR : FnOk P w K mg base CX0 k fR fdR ["row"] (spIsReck K)) : FnOk P w K mg base CX0 (k + 1) f fd ["program", "done"] (spReck K) := by
  refine D.F.ok scReck (fun vs H Q E h => ?_) (fun cdv A outer s H vs Q E hr h => ?_)
  · obtain ⟨v, dn, pr, d, rfl, _⟩ := h
    rfl
  · obtain ⟨v, dn, pr, d, rfl, hP, hl, hbl, hD, q⟩ := h
    refine ⟨_, pss_cons (ps_set (i := 2) scReck.nd rfl (.inr rfl) (pe_call GO hr (by rfl) DO.g DO.F.kp DO.b .nil pass0 (pa_cons (pv 0) pa_nil)))
      (pss_one (ps_ret (pe_callB call_len_seq (by rfl) B.len PySem.boot_len (pa_cons (pe_lc (own := [("row", 3), ("worth", 4)]) (g := gTup K 2 (gCons (gName 3) (gCons (gName 4) gNil))) (tt := tTest (tCall (spIsReck K) [] E0 (tCons (tIxL K (tVar 2) (tVar 3)) tNil))) (te := tVar 3) rfl scReck.nd (pi_list (pv 1))
        (blkOk_by (own := [("row", 3), ("worth", 4)]) (N := nReck) (sc := defScope sReck) (by decide +kernel)) (fun _ _ _ _ _ => pg_tup rfl (pgs_cons (pg_name (i := 3) scReck.nd rfl (.inl rfl)) (pgs_cons (pg_name (i := 4) scReck.nd rfl (.inl rfl)) pgs_nil)))
        (fun _ _ _ _ _ => pts_one (pt_val (pe_call GR hr (by rfl) DR.g DR.F.kp DR.b .nil pass0 (pa_cons (pe_ix ix_list (pv 2) (pv 3) (fun _ _ => rfl)) pa_nil))))
        (fun _ _ _ _ _ => pv 3)) pa_nil)))), ?_⟩
    refine ⟨v, rfl, v, pr, rfl, hP, hl, hbl, fun p H1 us np s1 ep pu => ?_⟩
    obtain ⟨⟨ds, hds, hdp⟩, hlt, hlen⟩ := hD
    have hdl : ds.length = d.length := pd_len hdp
    refine ⟨.ref dn, rfl, dn, rfl, ⟨_, s1.seq hds⟩, fun L nL => ?_⟩
    refine lc_list (K := K) (a := dn) (xs := ds) (fun i H2 => Same H1 H2 ∧ ∃ es : List V, H2 L = some (.lst es) ∧ es.length = ((d.take i).filter (rk pr)).length) ⟨new_same nL, [], upd_same, rfl⟩ (fun i H2 _ hP => (s1.trans hP.1).seq hds) (fun i x H2 hx hP => ?_) (fun H2 hP => ?_)
    · obtain ⟨s2, es, eL, hes⟩ := hP
      obtain ⟨⟨dk, dw⟩, hd1, y, rfl, hd2⟩ := pd_at2 hdp hx
      have hil := (List.getElem?_eq_some_iff.mp hd1).1
      have hkl : dk < (rowsL pr).length := hlt _ (List.mem_of_getElem? hd1)
      have s12 := s1.trans s2
      obtain ⟨u, hu1, hu2⟩ := pd_at pu (gdl (d := Rw.tell 0) hkl)
      have hfl : ((d.take i).filter (rk pr)).length ≤ i := Nat.le_trans (List.length_filter_le _ _) (by rw [List.length_take]; omega)
      have hnx : (d.take (i + 1)).filter (rk pr) = (d.take i).filter (rk pr) ++ (if rk pr (dk, dw) = true then [(dk, dw)] else []) := by
        rw [List.take_add_one, hd1, List.filter_append]
        cases h : rk pr (dk, dw) <;> simp [h]
      refine ⟨y, _, rfl, Same.tup s12 hd2, rfl, _, _, rfl, _, _, rfl, rfl, rfl, .ref p, rfl, iv dk, rfl, p, _, _, u, rfl, rfl, sqL (s2 _ _ ep), atI_nat hu1, u, _, rfl, hu2.same s2, _, rfl, ?_⟩
      have hrk : ((rowsL pr).getD dk (.tell 0)).isR = rk pr (dk, dw) := rfl
      rw [hrk]
      refine ite2 (fun e => ?_) (fun e => ?_)
      · refine ⟨_, rfl, es, eL, by rw [hes]; exact szt (by omega), fun b o z => ?_, es ++ [iv dk], upd_same, ?_⟩
        · rw [upd_ne (ne_of_none z nL)]
          exact s2 _ _ z
        · rw [hnx, if_pos e, List.length_append, List.length_append, hes]
          rfl
      · exact ⟨s2, es, eL, by rw [hnx, if_neg e, List.append_nil]; exact hes⟩
    · obtain ⟨s2, es, eL, hes⟩ := hP
      rw [hdl, List.take_length] at hes
      refine ⟨L, es, rfl, .inl (sqL eL), ?_⟩
      rw [hes]
      exact q H2 (s1.trans s2)
theorem ok_times {f fO : Addr} {fd fdO : FuncData} {k : Nat} (D : Df K mg "times_done" sTimes ["program", "done"] f fd) (B : Bi mg) (DO : Df K mg "rows_of" sRowsOf ["program"] fO fdO) (GO : FnOk P w K mg base CX0 k fO fdO ["program"] (spRowsOf K)) : FnOk P w K mg base CX0 (k + 1) f fd ["program", "done"] (spTimes K) := by
  refine D.F.ok scTimes (fun vs H Q E h => ?_) (fun cdv A outer s H vs Q E hr h => ?_)
  · obtain ⟨v, dn, pr, d, rfl, _⟩ := h
    rfl
  · obtain ⟨v, dn, pr, d, rfl, hP, hl, hbl, hD, q⟩ := h
    refine ⟨_, pss_cons (ps_set (i := 2) scTimes.nd rfl (.inl rfl) (pe_op op_rep (pe_lst (pa_cons pe_int pa_nil)) (pe_callB call_len_seq (by rfl) B.len PySem.boot_len (pa_cons (pe_call GO hr (by rfl) DO.g DO.F.kp DO.b .nil pass0 (pa_cons (pv 0) pa_nil)) pa_nil))))
      (pss_cons (ps_for PassesOwn.never rfl (pi_list (pv 1)) (pg_tup rfl (pgs_cons (pg_name (i := 3) scTimes.nd rfl (.inl rfl)) (pgs_cons (pg_name (i := 4) scTimes.nd rfl (.inl rfl)) pgs_nil)))
        (pss_one (ps_augS (pv 2) (pv 3) get_list pe_int ip_add set_list)))
      (pss_one (ps_ret (pv 2)))), ?_⟩
    have hrl : (rowsL pr).length ≤ 2000 := by
      have h1 := rowsL_len (n := 130) (pr := pr) hbl
      have h2 : pr.length * 130 ≤ 12 * 130 := Nat.mul_le_mul_right _ hl
      omega
    refine ⟨szl (show 1 ≤ 1000000 by decide), fun l nl => ?_⟩
    have sl := new_same (o := .lst [.int 0]) nl
    have el : upd H l (.lst [.int 0]) l = some (.lst [.int 0]) := upd_same
    generalize upd H l (.lst [.int 0]) = H0 at sl el
    refine ⟨v, rfl, v, pr, rfl, hP.same sl, hl, hbl, fun p0 H1 us np0 s1 ep0 pu => ?_⟩
    have hul : us.length = (rowsL pr).length := pd_len pu
    refine ⟨p0, us, rfl, .inl (sqL ep0), l, _, _, rfl, rfl, s1 _ _ el, by omega, by omega, ?_, fun p np => ?_⟩
    · rw [Int.toNat_natCast]
      exact szl (by show 1 * us.length ≤ 1000000; omega)
    have s01 := sl.trans s1
    have sp := s01.trans (new_same (o := .lst (List.replicate us.length [V.int 0]).flatten) np)
    have ep : upd H1 p (.lst (List.replicate us.length [V.int 0]).flatten) p = some (.lst ((often (rowsL pr).length (d.take 0)).map iv)) := by
      rw [upd_same, rep0, List.take_zero, often_nil, hul, List.map_replicate, List.map_replicate]
      rfl
    have hp0 : H p = none := s01.free np
    rw [Int.toNat_natCast]
    generalize upd H1 p (.lst (List.replicate us.length [V.int 0]).flatten) = H2 at sp ep
    obtain ⟨⟨ds, hds, hdp⟩, hlt, hlen⟩ := hD
    have hdl : ds.length = d.length := pd_len hdp
    refine ⟨.ref dn, rfl, dn, rfl, ⟨_, sp.seq hds⟩, ?_⟩
    refine for_list (K := K) (a := dn) (xs := ds) (fun i σ H3 => ∃ y3 y4 : Option V, σ = [some v, some (.ref dn), some (.ref p), y3, y4] ∧ Same H H3 ∧ H3 p = some (.lst ((often (rowsL pr).length (d.take i)).map iv))) ⟨none, none, rfl, sp, ep⟩ (fun i σ H3 _ hP => ?_) (fun i x σ H3 hx hP => ?_) (fun σ H3 hP => ?_)
    · obtain ⟨_, _, _, s3, _⟩ := hP
      exact s3.seq hds
    · obtain ⟨y3, y4, rfl, s3, e3⟩ := hP
      obtain ⟨⟨dk, dw⟩, hd1, y, rfl, hd2⟩ := pd_at2 hdp hx
      have hkl : dk < (rowsL pr).length := hlt _ (List.mem_of_getElem? hd1)
      have hol := often_len (rowsL pr).length (d.take i)
      refine ⟨y, _, rfl, Same.tup s3 hd2, rfl, _, _, rfl, _, _, rfl, rfl, ?_⟩
      refine ⟨.ref p, rfl, iv dk, rfl, p, _, dk, iv ((often (rowsL pr).length (d.take i)).getD dk 0), rfl, rfl, sqL e3, by rw [List.getElem?_map, gdl (d := 0) (by rw [hol]; exact hkl)]; rfl, ?_⟩
      refine ⟨_, _, rfl, rfl, p, _, _, dk, rfl, rfl, e3, ixN_nat (by rw [List.length_map, hol]; exact hkl), ?_⟩
      refine ⟨_, _, rfl, Same.upd s3 hp0, ?_⟩
      rw [upd_same, List.take_add_one, hd1]
      show some (HO.lst _) = some (HO.lst ((often (rowsL pr).length (d.take i ++ [(dk, dw)])).map iv))
      rw [often_snoc (x := (dk, dw)) hkl, List.map_set]
      rfl
    · obtain ⟨y3, y4, rfl, s3, e3⟩ := hP
      rw [hdl, List.take_length] at e3
      exact ⟨.ref p, rfl, q p H3 hp0 s3 e3⟩
theorem ok_way {f C fI fG : Addr} {fd fdI fdG : FuncData} {k : Nat} (D : Df K mg "way_of" sWay ["program", "takes", "most"] f fd) (T : MTxt K mg C) (M : Mk K C fI) (bI : Binds K fdI ["self", "program", "takes", "most"] []) (GI : FnOk P w K mg base CX0 k fI fdI ["self", "program", "takes", "most"] (spMInit K C))
    (mG : Meth K C "go_on" fG) (bG : Binds K fdG ["self"] []) (GG : FnOk P w K mg base CX0 (k + 1) fG fdG ["self"] (spGoOn K C)) : FnOk P w K mg base CX0 (k + 1 + 1) f fd ["program", "takes", "most"] (spWay K) := by
  refine D.F.ok scWay (fun vs H Q E h => ?_) (fun cdv A outer s H vs Q E hr h => ?_)
  · obtain ⟨tka, v, most, pr, tk, rfl, _⟩ := h
    rfl
  · obtain ⟨tka, v, most, pr, tk, rfl, hP, hT, hO, hmo, q⟩ := h
    refine ⟨_, pss_cons (ps_set (i := 3) scWay.nd rfl (.inl rfl) (pe_make M GI hr (by rfl) T.mgC bI .nil pass0 (pa_cons (pv 0) (pa_cons (pv 1) (pa_cons (pv 2) pa_nil)))))
      (pss_cons (ps_expr (pe_meth0 (pv 3) T.cl mG GG hr bG .nil pass0))
      (pss_one (ps_ret (pe_fld (pv 3) rfl)))), ?_⟩
    refine ⟨v, rfl, .ref tka, rfl, iv most, rfl, ?_⟩
    intro x dx nx ndx nex
    have s0 : Same H (upd (upd H dx (.own x)) x (.ins C dx [])) := fun b o e => by
      rw [upd_ne (ne_of_none e nx), upd_ne (ne_of_none e ndx)]
      exact e
    refine ⟨H, x, dx, tka, v, most, pr, tk, rfl, s0, nx, upd_same, hP, hT, hO, fun I A H1 sI hA hM hE => ⟨rfl, ?_⟩⟩
    subst hA
    refine ⟨.ref x, rfl, x, A.dx, _, rfl, hM.ob, rfl, I, x, A, pr, tk, rfl, hM, hE, hmo, fun H2 n2 hM2 hdl => ?_⟩
    refine ⟨.ref x, rfl, x, C, A.dx, _, _, rfl, hM2.ob, T.cl, T.way, mf_way _ _, ?_⟩
    exact q A.wy _ (sI.trans hM2.sI) (sI.free (hM2.nw A.wy (by simp))) hM2.wy
end
end Gn
set_option Elab.async false
set_option linter.all false
set_option maxRecDepth 100000
set_option maxHeartbeats 8000000
set_option pp.maxSteps 150
namespace Gn
open PySem PySem.Spec PyProof.Rows L2
theorem mm (L : Nat) : 1 ≤ (if (if (4 : Int) < (L : Int) then (4 : Int) else (L : Int)) > 1 then (if (4 : Int) < (L : Int) then (4 : Int) else (L : Int)) else 1) ∧ (if (if (4 : Int) < (L : Int) then (4 : Int) else (L : Int)) > 1 then (if (4 : Int) < (L : Int) then (4 : Int) else (L : Int)) else 1) ≤ 4 := by
  by_cases h : (4 : Int) < (L : Int)
  · rw [if_pos h, if_pos (by decide)]
    exact ⟨by decide, by decide⟩
  · rw [if_neg h]
    by_cases h2 : (L : Int) > 1
    · rw [if_pos h2]; omega
    · rw [if_neg h2]; omega
theorem in_gt {x : Int} (h : -20 ≤ x ∧ x ≤ 10 ^ 12) : -GT40 ≤ x ∧ x ≤ GT40 := by
  obtain ⟨a, b⟩ := h
  unfold GT40
  omega
/-! ### the way's blocks -/
def comeOk (n : Nat) : Cfg → Prop
  | .come b _ _ => b < n
  | _ => True
theorem WD.run {pr : List Blk} {tk : List Int} (h : PureOk pr tk) : ∀ n, ((∀ y ∈ (runC pr tk n).st.way, y < pr.length) ∧ (runC pr tk n).st.way.length ≤ n) ∧ comeOk pr.length (runC pr tk n) := fun n => by
  have hx : ∀ {s : MSt} {b c : Nat}, nextB s (endB pr b) = some c → c < pr.length := fun {s b c} e => by
    have h1 := next_in e
    unfold Eo at h1
    by_cases hb : b < pr.length
    · exact names_ok (h.px.rb _ (blkMem hb)).2 c h1
    · unfold endB at h1
      rw [List.getD_eq_getElem?_getD, List.getElem?_eq_none (by omega)] at h1
      cases h1
  have hn : ∀ {b i : Nat} {bl : List Int} {s : MSt}, comeOk pr.length (norm pr b i bl s) := fun {b i bl s} => by
    unfold norm
    by_cases z : i < (rowsB pr b).length
    · rw [if_pos z]; exact trivial
    · rw [if_neg z]
      cases e : nextB s (endB pr b) with
      | none => exact trivial
      | some c => exact hx e
  unfold runC
  induction n with
  | zero => exact ⟨⟨fun y hy => (by cases hy), Nat.le_refl _⟩, h.l1⟩
  | succ n ih =>
    rw [itC_succ]
    generalize itC pr tk n (.come 0 [] (MSt.first pr)) = c at ih
    obtain ⟨⟨h1, h2⟩, h3⟩ := ih
    cases c with
    | ended s => exact ⟨⟨h1, Nat.le_succ_of_le h2⟩, trivial⟩
    | great s => exact ⟨⟨h1, Nat.le_succ_of_le h2⟩, trivial⟩
    | come b bl s =>
      have h3 : b < pr.length := h3
      have h1 : ∀ y ∈ s.way, y < pr.length := h1
      have h2 : s.way.length ≤ n := h2
      refine ⟨?_, hn⟩
      show (∀ y ∈ (norm pr b 0 bl { s with way := s.way ++ [b] }).st.way, y < pr.length) ∧ (norm pr b 0 bl { s with way := s.way ++ [b] }).st.way.length ≤ n + 1
      rw [norm_st]
      refine ⟨fun y hy => ?_, ?_⟩
      · rcases List.mem_append.mp hy with z | z
        · exact h1 y z
        · rw [List.mem_singleton.mp z]; exact h3
      · show (s.way ++ [b]).length ≤ n + 1
        rw [List.length_append, List.length_singleton]; omega
    | row b i bl s =>
      have h1 : ∀ y ∈ s.way, y < pr.length := h1
      have h2 : s.way.length ≤ n := h2
      show ((∀ y ∈ (if too (wAt pr tk b i bl s) = true then Cfg.great s else norm pr b (i + 1) bl (Gn.doR (bgn pr b + i) (rwAt pr b i) (wAt pr tk b i bl s) s)).st.way, y < pr.length) ∧ (if too (wAt pr tk b i bl s) = true then Cfg.great s else norm pr b (i + 1) bl (Gn.doR (bgn pr b + i) (rwAt pr b i) (wAt pr tk b i bl s) s)).st.way.length ≤ n + 1) ∧ comeOk pr.length (if too (wAt pr tk b i bl s) = true then Cfg.great s else norm pr b (i + 1) bl (Gn.doR (bgn pr b + i) (rwAt pr b i) (wAt pr tk b i bl s) s))
      by_cases ht : too (wAt pr tk b i bl s) = true
      · rw [if_pos ht]
        exact ⟨⟨h1, Nat.le_succ_of_le h2⟩, trivial⟩
      · rw [if_neg ht, norm_st, keys_doR.2]
        exact ⟨⟨h1, Nat.le_succ_of_le h2⟩, hn⟩
/-! ### kinds counted -/
abbrev KW : List Str := ["sum", "less", "times", "same", "below", "pick", "look"]
def wdOf (pr : List Blk) (d : Nat × Option Int) : Str := ((rowsL pr).getD d.1 (.tell 0)).w
def one01 (b : Bool) : Nat := if b = true then 1 else 0
def kwSum (x : Str) : Nat := one01 (x == "sum") + (one01 (x == "less") + (one01 (x == "times") + (one01 (x == "same") + (one01 (x == "below") + (one01 (x == "pick") + one01 (x == "look"))))))
theorem isR_sum (r : Rw) : kwSum r.w = one01 r.isR := by
  cases r with
  | bin b x y =>
    show kwSum b.w = 1
    cases b <;> decide +kernel
  | take _ => exact (show kwSum "take" = 0 by decide +kernel)
  | num _ => exact (show kwSum "num" = 0 by decide +kernel)
  | pick _ _ => exact (show kwSum "pick" = 1 by decide +kernel)
  | meet _ => exact (show kwSum "meet" = 0 by decide +kernel)
  | tell _ => exact (show kwSum "tell" = 0 by decide +kernel)
  | look _ _ => exact (show kwSum "look" = 1 by decide +kernel)
  | lay _ _ _ => exact (show kwSum "lay" = 0 by decide +kernel)
theorem due_eq (pr : List Blk) : ∀ d : List (Nat × Option Int), (KW.map fun z => (((d.map (wdOf pr)).count z : Nat) : Int)).sum = (((d.filter (rk pr)).length : Nat) : Int)
  | [] => by simp
  | x :: d => by
    have ih := due_eq pr d
    have hr := isR_sum ((rowsL pr).getD x.1 (.tell 0))
    unfold kwSum at hr
    have hf : ((x :: d).filter (rk pr)).length = (d.filter (rk pr)).length + one01 ((rowsL pr).getD x.1 (.tell 0)).isR := by
      have e : rk pr x = ((rowsL pr).getD x.1 (.tell 0)).isR := rfl
      rw [List.filter_cons, e]
      unfold one01
      cases ((rowsL pr).getD x.1 (.tell 0)).isR <;> rfl
    have hc : ∀ z, (wdOf pr x :: d.map (wdOf pr)).count z = (d.map (wdOf pr)).count z + one01 (((rowsL pr).getD x.1 (.tell 0)).w == z) := fun z => by
      rw [List.count_cons]
      rfl
    rw [hf]
    simp only [KW, List.map_cons, List.map_nil, List.sum_cons, List.sum_nil, hc] at ih ⊢
    omega
theorem often_le {n : Nat} {d : List (Nat × Option Int)} : ∀ y ∈ often n d, y ≤ d.length := fun y hy => by
  obtain ⟨k, _, rfl⟩ := List.mem_map.mp hy
  exact Nat.le_trans List.count_le_length (by rw [List.length_map]; exact Nat.le_refl _)
def nsD (ns : List Nat) : PyData := .list (ns.map nd)
theorem nice_ns {ns : List Nat} (h : ∀ y ∈ ns, y < 256) (hl : ns.length ≤ 2000) : Nice 13 (nsD ns) 1 20000 := by
  have := nice_list (B := 13) (k := 0) (W := 8) (ds := ns.map nd) fun d hd => by
    obtain ⟨x, hx, rfl⟩ := List.mem_map.mp hd
    exact nice_nat (h x hx)
  rw [List.length_map] at this
  refine this.mono (by decide) ?_
  omega
def twD (a b : List Nat) : PyData := .list [nsD a, nsD b]
theorem nice_tw {a b : List Nat} (h1 : Nice 13 (nsD a) 1 20000) (h2 : Nice 13 (nsD b) 1 20000) : Nice 13 (twD a b) 2 50000 := by
  have := nice_list (B := 13) (k := 1) (W := 20000) (ds := [nsD a, nsD b]) fun d hd => by
    have hd2 : d = nsD a ∨ d = nsD b := by simpa using hd
    rcases hd2 with rfl | rfl
    · exact h1
    · exact h2
  exact this.mono (by decide) (show 2 * (20000 + 1) ≤ 50000 by decide)
theorem rest_frz {K : PySem.W.Frag} {H : Hp} {t : Addr} {r : Rw} {xs ys : List V} (h : Rest K H r xs) (e : H t = some (.lst ys)) : Rest K (frz [t] H) r xs := by
  cases r with
  | pick x ps =>
    obtain ⟨q, h1, h2⟩ := h
    exact ⟨q, h1, tup_frz h2 e⟩
  | meet ps =>
    obtain ⟨q, h1, h2⟩ := h
    exact ⟨q, h1, tup_frz h2 e⟩
  | look rs x =>
    obtain ⟨q, h1, h2⟩ := h
    exact ⟨q, h1, tup_frz h2 e⟩
  | lay rs x y =>
    obtain ⟨q, h1, h2⟩ := h
    exact ⟨q, h1, tup_frz h2 e⟩
  | _ => exact h
theorem cnt_cast (k : Nat) : ∀ l : List Nat, (l.map fun n : Nat => (n : Int)).count (k : Int) = l.count k
  | [] => rfl
  | x :: l => by
    rw [List.map_cons, List.count_cons, List.count_cons, cnt_cast k l]
    have e : ((x : Int) == (k : Int)) = (x == k) := by
      by_cases h : x = k
      · subst h; simp
      · have h2 : ¬ (x : Int) = (k : Int) := by omega
        rw [beq_eq_false_iff_ne.mpr h, beq_eq_false_iff_ne.mpr h2]
    rw [e]
theorem ns_dp {K : PySem.W.Frag} {H : Hp} {a : Addr} {ns : List Nat} (h : H a = some (.lst (ns.map iv))) : Dp K H (.ref a) (nsD ns) := .lst (sqL h) (dp_nats ns)
theorem Nice.shp {B : Nat} {d : PyData} {k W : Nat} (h : Nice B d k W) (hk : k ≤ 60) : SeqAt.shaped d = true := sh_of h.lay (Nat.le_trans h.dep (by omega))
def spLaw (K : PySem.W.Frag) : Sp := fun vs H Q _ => ∃ (a : Addr) (ns : List Int), vs = [.ref a] ∧ SqL K H a (ns.map V.int) ∧ ns.length ≤ 63 ∧ ∀ H', Q (.bl true) H'
abbrev nLaw : List Str := ["_law_script", "_law_k", "_law_tape_here", "_law_program_here", "_law_takes_here", "_law_most", "_law_state", "_law_told", "_law_done", "_law_way", "_law_rows", "_law_kinds", "_law_due", "_law_found", "_law_often", "_law_counts", "_law_blocks", "_law_turn", "_law_row", "_law_worth_here", "_law_kind"]
theorem scLaw : FnScope nLaw ["_law_script"] (defScope sLaw) := ⟨rfl, rfl, rfl, by decide +kernel, rfl, by decide +kernel, by decide +kernel⟩
def forB : Stmt → List Stmt
  | .For _ _ b _ _ => b
  | _ => []
abbrev cLaw : Scope := lcS (valE (nthS (forB (nthS (defBody sLaw) 0)) 10))
section
variable {P : Program} {w : World} {K : PySem.W.Frag} {mg : Str → Option Value} {base : Heap}
theorem ok_law {f fE fQ fY fD fT fO fF fK fM fW : Addr} {fd fdE fdQ fdY fdD fdT fdO fdF fdK fdM fdW : FuncData} {k : Nat} (F : Fun K "law" "law" sLaw f fd) (B : Bi mg) (hc : Room (k + 1) callerA)
    (DE : Df K mg "_law_tape" sTape ["_law_script", "_law_k"] fE fdE) (GE : FnOk P w K mg base CX0 k fE fdE ["_law_script", "_law_k"] (spTape K))
    (DQ : Df K mg "_law_program" sProgram ["_law_tape_here", "_law_many_here", "_law_most"] fQ fdQ) (GQ : FnOk P w K mg base CX0 k fQ fdQ ["_law_tape_here", "_law_many_here", "_law_most"] (spProgram K))
    (DY : Df K mg "_law_many" sMany ["_law_tape_here"] fY fdY) (GY : FnOk P w K mg base CX0 k fY fdY ["_law_tape_here"] spMany)
    (DD : Df K mg "_law_draw" sDraw ["_law_tape_here", "_law_many_here"] fD fdD) (GD : FnOk P w K mg base CX0 k fD fdD ["_law_tape_here", "_law_many_here"] spDraw)
    (DT : Df K mg "_law_takes" sTakes ["_law_tape_here"] fT fdT) (GT : FnOk P w K mg base CX0 k fT fdT ["_law_tape_here"] spTakes)
    (DO : Df K mg "_law_run" sOwnRun ["_law_program_here", "_law_takes_here", "_law_most"] fO fdO) (GO : FnOk P w K mg base CX0 k fO fdO ["_law_program_here", "_law_takes_here", "_law_most"] (spOwnRun K))
    (DF : Df K mg "_law_flat" sFlat ["_law_program_here"] fF fdF) (GF : FnOk P w K mg base CX0 k fF fdF ["_law_program_here"] (spFlat K))
    (DK : Df K mg "reckoned" sReck ["program", "done"] fK fdK) (GK : FnOk P w K mg base CX0 k fK fdK ["program", "done"] (spReck K))
    (DM : Df K mg "times_done" sTimes ["program", "done"] fM fdM) (GM : FnOk P w K mg base CX0 k fM fdM ["program", "done"] (spTimes K))
    (DW : Df K mg "way_of" sWay ["program", "takes", "most"] fW fdW) (GW : FnOk P w K mg base CX0 k fW fdW ["program", "takes", "most"] (spWay K)) : FnG P w K mg base f fd ["_law_script"] (spLaw K) := by
  refine fnG_of F scLaw hc (fun vs H Q E h => ?_) (fun cdv outer s H vs Q E hr h => ?_)
  · obtain ⟨a, ns, rfl, _⟩ := h
    rfl
  · obtain ⟨a, ns, rfl, hS, hlen, q⟩ := h
    refine ⟨_, (pss_cons (ps_for PassesOwn.never rfl (pi_range1 (by rfl) B.range (pa_cons (pe_callB (call_max2 rfl) (by rfl) B.max PyProof.Rows.boot_max (pa_cons pe_int (pa_cons (pe_callB (call_min2 rfl) (by rfl) B.min PyProof.Rows.boot_min (pa_cons (pe_callB call_len_seq (by rfl) B.len PySem.boot_len (pa_cons (pv 0) pa_nil)) (pa_cons pe_int pa_nil))) pa_nil))) pa_nil)) (pg_name (i := 1) scLaw.nd rfl (.inl rfl)) (pss_cons (ps_set (i := 2) scLaw.nd rfl (.inr rfl) (pe_call GE hr (by rfl) DE.g DE.F.kp DE.b .nil pass0 (pa_cons (pv 0) (pa_cons (pv 1) pa_nil))))
      (pss_cons (ps_set (i := 3) scLaw.nd rfl (.inl rfl) (pe_call GQ hr (by rfl) DQ.g DQ.F.kp DQ.b .nil pass0 (pa_cons (pv 2) (pa_cons (pe_call GY hr (by rfl) DY.g DY.F.kp DY.b .nil pass0 (pa_cons (pv 2) pa_nil)) (pa_cons pe_int pa_nil)))))
      (pss_cons (ps_par (i := 4) (j := 5) (by rfl) scLaw.nd rfl rfl (by decide) rfl rfl (pa_cons (pe_call GT hr (by rfl) DT.g DT.F.kp DT.b .nil pass0 (pa_cons (pv 2) pa_nil)) (pa_cons (pe_ix ix_list (pe_lst (pa_cons pe_int (pa_cons (pe_call GD hr (by rfl) DD.g DD.F.kp DD.b .nil pass0 (pa_cons (pv 2) (pa_cons pe_int pa_nil))) pa_nil))) (pe_call GD hr (by rfl) DD.g DD.F.kp DD.b .nil pass0 (pa_cons (pv 2) (pa_cons pe_int pa_nil))) (fun _ _ => rfl)) pa_nil)) (by rfl))
      (pss_cons (ps_asg (pe_call GO hr (by rfl) DO.g DO.F.kp DO.b .nil pass0 (pa_cons (pv 3) (pa_cons (pv 4) (pa_cons (pv 5) pa_nil)))) (pg_tup rfl (pgs_cons (pg_name (i := 6) scLaw.nd rfl (.inl rfl)) (pgs_cons (pg_name (i := 7) scLaw.nd rfl (.inl rfl)) (pgs_cons (pg_name (i := 8) scLaw.nd rfl (.inr rfl)) (pgs_cons (pg_name (i := 9) scLaw.nd rfl (.inl rfl)) pgs_nil))))))
      (pss_cons (ps_set (i := 10) scLaw.nd rfl (.inr rfl) (pe_ix ix_tup (pe_call GF hr (by rfl) DF.g DF.F.kp DF.b .nil pass0 (pa_cons (pv 3) pa_nil)) pe_int (fun _ _ => rfl)))
      (Evl.pss_cut (ps_if (pw_and (pt_cmpR op_eq (pe_call GD hr (by rfl) DD.g DD.F.kp DD.b .nil pass0 (pa_cons (pv 2) (pa_cons pe_int pa_nil))) pe_int (nomark _)) (pw_and1 (pt_cmpR (op_neD hr.units) (pv 8) (pe_lst pa_nil) (nomark _)))).pt (pss_one (ps_set (i := 8) scLaw.nd rfl (.inr rfl) (pe_lc (own := [("_law_turn", 17)]) (g := gName 17) (tt := tYes) (te := tIxL K (tVar 8) (tDr (tVar 2) (tLen K (tVar 8)))) rfl scLaw.nd (pi_range1 (by rfl) B.range (pa_cons (pe_call GD hr (by rfl) DD.g DD.F.kp DD.b .nil pass0 (pa_cons (pv 2) (pa_cons pe_int pa_nil))) pa_nil)) (blkOk_by (own := [("_law_turn", 17)]) (N := nLaw) (sc := defScope sLaw) (by decide +kernel)) (fun _ _ _ _ _ => (pg_name (i := 17) scLaw.nd rfl (.inl rfl))) (fun _ _ _ _ _ => pts_nil) (fun _ _ _ _ _ => (pe_ix ix_list (pv 8) (pe_call GD hr (by rfl) DD.g DD.F.kp DD.b .nil pass0 (pa_cons (pv 2) (pa_cons (pe_callB call_len_seq (by rfl) B.len PySem.boot_len (pa_cons (pv 8) pa_nil)) pa_nil))) (fun _ _ => rfl)))))) pss_nil)
      (pss_cons (ps_set (i := 11) scLaw.nd rfl (.inr rfl) (pe_lc (own := [("_law_row", 18), ("_law_worth_here", 19)]) (g := gTup K 2 (gCons (gName 18) (gCons (gName 19) gNil))) (tt := tYes) (te := tIxT K (tIxL K (tVar 10) (tVar 18)) (tC (.int 0))) rfl scLaw.nd (pi_list (pv 8)) (blkOk_by (own := [("_law_row", 18), ("_law_worth_here", 19)]) (N := nLaw) (sc := defScope sLaw) (by decide +kernel)) (fun _ _ _ _ _ => (pg_tup rfl (pgs_cons (pg_name (i := 18) scLaw.nd rfl (.inl rfl)) (pgs_cons (pg_name (i := 19) scLaw.nd rfl (.inl rfl)) pgs_nil)))) (fun _ _ _ _ _ => pts_nil) (fun _ _ _ _ _ => (pe_ix ix_tup (pe_ix ix_list (pv 10) (pv 18) (fun _ _ => rfl)) pe_int (fun _ _ => rfl)))))
      (pss_cons (ps_set (i := 12) scLaw.nd rfl (.inl rfl) (pe_callB (cr_sum rfl) (by rfl) B.sum PyProof.Rows.boot_sum (pa_cons (pe_lc (own := [("_law_kind", 20)]) (g := gName 20) (tt := tYes) (te := tBM K "list" (rCntS K) (tVar 11) (tCons (tVar 20) tNil)) rfl scLaw.nd (pi_list (pe_lst (pa_cons pe_str (pa_cons pe_str (pa_cons pe_str (pa_cons pe_str (pa_cons pe_str (pa_cons pe_str (pa_cons pe_str pa_nil))))))))) (blkOk_by (own := [("_law_kind", 20)]) (N := nLaw) (sc := defScope sLaw) (by decide +kernel)) (fun _ _ _ _ _ => (pg_name (i := 20) scLaw.nd rfl (.inl rfl))) (fun _ _ _ _ _ => pts_nil) (fun _ _ _ _ _ => pe_bm PySem.F.plainAttrs_list PySem.F.slot_list_count PySem.F.type_list_count (mt_lcountS hr.units) (pv 11) (pa_cons (pv 20) pa_nil))) pa_nil)))
      (pss_cons (ps_set (i := 13) scLaw.nd rfl (.inl rfl) (pe_call GK hr (by rfl) DK.g DK.F.kp DK.b .nil pass0 (pa_cons (pv 3) (pa_cons (pv 8) pa_nil))))
      (pss_cons (ps_if (pw_or (pt_cmpR op_ne (pv 13) (pv 12) (nomark _)) (pw_or1 (pt_val (pe_callB call_isi (by rfl) B.isinstance PyProof.Rows.boot_isinstance (pa_cons (pv 13) (pa_cons (pe_bltn (v := .ty "bool") (by rfl) B.bool (show bootBuiltins "bool" = some (.type "bool") by rfl) rfl) pa_nil)))))).pt (pss_one (ps_ret pe_bl)) pss_nil)
      (pss_cons (ps_setLc (i := 14) (own := [("_law_row", 18)]) (g := gName 18) (tt := tYes) (te := tBM K "list" (rCntI K) (tLc (iList K (tVar 8)) (gTup K 2 (gCons (gName 18) (gCons (gName 19) gNil))) tYes (tVar 18) [18, 19]) (tCons (tVar 18) tNil)) (by rfl) scLaw.nd rfl rfl (sw_true rfl rfl rfl (by decide +kernel)) (pi_range1 (by rfl) B.range (pa_cons (pe_callB call_len_seq (by rfl) B.len PySem.boot_len (pa_cons (pv 10) pa_nil)) pa_nil)) (blkOk_by (own := [("_law_row", 18)]) (N := nLaw) (sc := defScope sLaw) (by decide +kernel)) (fun _ _ _ _ _ => (pg_name (i := 18) scLaw.nd rfl (.inl rfl))) (fun _ _ _ _ _ => pts_nil)
        (fun _ _ _ _ _ => pe_bm PySem.F.plainAttrs_list PySem.F.slot_list_count PySem.F.type_list_count mt_lcount (pe_lc (own := [("_law_row", 18), ("_law_worth_here", 19)]) (g := gTup K 2 (gCons (gName 18) (gCons (gName 19) gNil))) (tt := tYes) (te := tVar 18) rfl scLaw.nd (pi_list (pv 8)) (blkOk_by (own := [("_law_row", 18), ("_law_worth_here", 19)]) (N := nLaw) (sc := relS cLaw (defScope sLaw)) (by decide +kernel)) (fun _ _ _ _ _ => (pg_tup rfl (pgs_cons (pg_name (i := 18) scLaw.nd rfl (.inl rfl)) (pgs_cons (pg_name (i := 19) scLaw.nd rfl (.inl rfl)) pgs_nil)))) (fun _ _ _ _ _ => pts_nil) (fun _ _ _ _ _ => pv 18)) (pa_cons (pv 18) pa_nil)))
      (pss_cons (ps_par (i := 15) (j := 16) (by rfl) scLaw.nd rfl rfl (by decide) rfl rfl (pa_cons (pe_call GM hr (by rfl) DM.g DM.F.kp DM.b .nil pass0 (pa_cons (pv 3) (pa_cons (pv 8) pa_nil))) (pa_cons (pe_call GW hr (by rfl) DW.g DW.F.kp DW.b .nil pass0 (pa_cons (pv 3) (pa_cons (pv 4) (pa_cons (pv 5) pa_nil)))) pa_nil)) (by rfl))
      (pss_cons (ps_if (pw_or (pt_cmpR (op_neD hr.units) (pv 15) (pv 14) (nomark _)) (pw_or (pt_cmpR (op_neD hr.units) (pv 16) (pv 9) (nomark _)) (pw_or1 (pt_cmpR op_ne (pe_callB (cr_repr rfl hr.units) (by rfl) B.repr PyProof.Rows.boot_repr (pa_cons (pe_lst (pa_cons (pv 15) (pa_cons (pv 16) pa_nil))) pa_nil)) (pe_callB (cr_repr rfl hr.units) (by rfl) B.repr PyProof.Rows.boot_repr (pa_cons (pe_lst (pa_cons (pv 14) (pa_cons (pv 9) pa_nil))) pa_nil)) (nomark _))))).pt (pss_one (ps_ret pe_bl)) pss_nil)
      (pss_cons (ps_expr (pe_bm PySem.F.plainAttrs_list PySem.F.slot_list_append PySem.F.type_list_append mt_append (pv 15) (pa_cons pe_int pa_nil)))
      (pss_cons (ps_expr (pe_bm0 PySem.F.plainAttrs_list PySem.F.slot_list_reverse PySem.F.type_list_reverse mt_reverse (pv 16)))
      (pss_one (ps_if (pw_or (pt_cmpR (op_neD hr.units) (pe_call GM hr (by rfl) DM.g DM.F.kp DM.b .nil pass0 (pa_cons (pv 3) (pa_cons (pv 8) pa_nil))) (pv 14) (nomark _)) (pw_or1 (pt_cmpR (op_neD hr.units) (pe_call GW hr (by rfl) DW.g DW.F.kp DW.b .nil pass0 (pa_cons (pv 3) (pa_cons (pv 4) (pa_cons (pv 5) pa_nil)))) (pv 9) (nomark _)))).pt (pss_one (ps_ret pe_bl)) pss_nil))))))))))))))))))
      (pss_one (ps_ret pe_bl))), ?_⟩
    have hml := mm (ns.map V.int).length
    refine ⟨.ref a, rfl, a, _, rfl, .inl hS, _, _, rfl, _, _, rfl, _, rfl, by omega, by omega, ?_⟩
    generalize (if (if (4 : Int) < ((ns.map V.int).length : Int) then (4 : Int) else ((ns.map V.int).length : Int)) > 1 then (if (4 : Int) < ((ns.map V.int).length : Int) then (4 : Int) else ((ns.map V.int).length : Int)) else 1) = vv at hml
    refine for_range (lo := 0) (n := vv.toNat) (fun k σ H1 => ∃ (y1 y2 y3 y4 y5 y6 y7 y8 y9 y10 y11 y12 y13 y14 y15 y16 y17 y18 y19 y20 : Option V), σ = [some (.ref a), y1, y2, y3, y4, y5, y6, y7, y8, y9, y10, y11, y12, y13, y14, y15, y16, y17, y18, y19, y20] ∧ Same H H1) ⟨_, _, _, _, _, _, _, _, _, _, _, _, _, _, _, _, _, _, _, _, rfl, Same.refl H⟩ (fun k σ H1 hk hP => ?_) (fun σ H1 hP => ?_)
    · obtain ⟨y1, y2, y3, y4, y5, y6, y7, y8, y9, y10, y11, y12, y13, y14, y15, y16, y17, y18, y19, y20, rfl, s1⟩ := hP
      have hi0 : V.int (0 + (k : Int)) = iv k := by rw [Int.zero_add]; rfl
      rw [hi0]
      refine ⟨.ref a, rfl, iv k, rfl, a, ns, k, rfl, s1.seq hS, by omega, fun t o nt hT => ?_⟩
      have s2 := s1.trans (new_same (o := o) nt)
      have ht0 : H t = none := s1.free nt
      generalize upd H1 t o = H2 at hT s2
      refine ⟨.ref t, rfl, .ref t, rfl, t, 0, rfl, hT, by decide, fun m H3 hm1 hm2 b3 T3 => ⟨t, m, 3, 3, rfl, T3, hm1, hm2, by decide, by decide, fun H4 v pr b4 T4 hPf hO hX hPX hst => ?_⟩⟩
      obtain ⟨st, hst⟩ := hst
      have F0t : frz [t] H4 t = none := by unfold frz; rw [if_pos (by simp)]
      have sF : Same (frz [t] H4) H4 := frz_same _ _
      generalize frz [t] H4 = F0 at hPf F0t sF
      have hprl : pr.length = m := hO.len
      have sH4 : Same H H4 := Same.bt s2 ht0 (b3.trans b4)
      have hbl : ∀ b ∈ pr, b.1.length ≤ 130 := fun b hb => (hO.rows b hb).1
      have hrl : (rowsL pr).length ≤ 2000 := by
        have h1 := rowsL_len (n := 130) (pr := pr) hbl
        have h2 : pr.length * 130 ≤ 12 * 130 := Nat.mul_le_mul_right _ (by omega)
        omega
      refine ⟨.ref t, rfl, t, 1000000, rfl, T4, by omega, fun p tk H6 b6 T6 np npt ep htl htb => ?_⟩
      refine ⟨.ref t, rfl, t, 40, 1000000 + 12, rfl, T6, by omega, by decide, by decide, fun r7 H7 h7 b7 T7 => ⟨szl (show 2 ≤ 1000000 by decide), fun l8 n8 => ?_⟩⟩
      have s8 := new_same (o := .lst [.int 150, .int r7]) n8
      have nl8 : l8 ≠ t := T7.ne n8
      refine ⟨.ref t, rfl, t, 2, 1000000 + 12 + 1, rfl, T7.same s8, by omega, by decide, by decide, fun r9 H9 h9 b9 T9 => ?_⟩
      obtain ⟨most, hmo, hat⟩ : ∃ most : Nat, most ≤ 150 ∧ atI [V.int 150, .int (r7 : Int)] (r9 : Int) = some (iv most) := by
        have : r9 = 0 ∨ r9 = 1 := by omega
        rcases this with rfl | rfl
        · exact ⟨150, by decide, atI_nat (j := 0) rfl⟩
        · exact ⟨r7, by omega, atI_nat (j := 1) rfl⟩
      refine ⟨l8, _, _, _, rfl, rfl, sqL (b9 _ _ nl8 upd_same), hat, _, _, rfl, ?_⟩
      have bA : But t H4 H9 := ((b6.trans b7).trans (Same.but s8)).trans b9
      have sF6 := Same.bt sF F0t bA
      have sH6 := Same.bt sH4 ht0 bA
      have ep := b9 _ _ npt (s8 _ _ (b7 _ _ npt ep))
      have T6 : Tape H9 t (1000000 + 14) := T9
      clear bA b6 b7 b9 T7 n8 nl8 s8 T9 hat
      generalize H9 = H6 at sF6 sH6 ep T6
      have hpure : PureOk pr tk := ⟨htl, fun x hx => in_gt (htb x hx), by omega, by omega, by rw [hprl]; exact hPX, by rw [hprl]; exact hX, hbl⟩
      -- the law's own run
      refine ⟨v, rfl, .ref p, rfl, _, rfl, p, v, most, pr, tk, st, rfl, hPf.same sF6, sqL ep, hpure, hst, by omega, fun q0 te0 dn0 wy0 ds0 H7 s7 c1 c2 c3 c4 c5 c6 c7 c8 c9 => ?_⟩
      refine ⟨q0, _, rfl, c1, rfl, _, _, rfl, _, _, rfl, _, _, rfl, _, _, rfl, rfl, ?_⟩
      have htd := (TD.run pr tk most).1
      have hwd := (WD.run hpure most).1
      have ep7 := s7 _ _ ep
      have sF7 := sF6.trans s7
      have sH7 := sH6.trans s7
      have T7 := T6.same s7
      -- its rows
      refine ⟨v, rfl, v, pr, rfl, hPf.same sF7, by omega, hbl, fun q2 ra ba H8 us s8 e1 n7a _ _ e2 e3 _ => ⟨q2, _, _, .ref ra, rfl, rfl, e1, atI_nat (j := 0) rfl, ?_⟩⟩
      have ep8 := s8 _ _ ep7
      have sF8 := sF7.trans s8
      have sH8 := sH7.trans s8
      have T8 := T7.same s8
      have c7 := s8 _ _ c7
      have c9 := s8 _ _ c9
      have c8 := pd_mono c8 fun _ _ ⟨y, z1, z2⟩ => (⟨y, z1, Same.tup s8 z2⟩ : DnAt K H8 _ _)
      obtain ⟨tx, ty, tz, et, _⟩ := id T8
      have hul : us.length = (rowsL pr).length := pd_len e3
      have G0t : frz [t] H8 t = none := by unfold frz; rw [if_pos (by simp)]
      have sG : Same (frz [t] H8) H8 := frz_same _ _
      have gF : Same F0 (frz [t] H8) := fun b o e => frz_at (sF8 _ _ e) (by simpa using ne_of_none e F0t)
      have gH : Same H (frz [t] H8) := fun b o e => frz_at (sH8 _ _ e) (by simpa using ne_of_none e ht0)
      have gP := hPf.same gF
      have gp := frz_at (M := [t]) ep8 (by simpa using npt)
      have gw := frz_at (M := [t]) c9 (by simpa using T6.ne c4)
      have gd := frz_at (M := [t]) c7 (by simpa using T6.ne c3)
      have ga := frz_at (M := [t]) e2 (by simpa using T7.ne n7a)
      have gr : Paired (RowAt K (frz [t] H8)) us (rowsL pr) := pd_mono e3 fun _ _ ⟨z, zs, z1, z2, z3⟩ => ⟨z, zs, z1, tup_frz z2 et, rest_frz z3 et⟩
      have gD : DnsAt K (frz [t] H8) dn0 pr (runC pr tk most).st.done := ⟨⟨ds0, sqL gd, pd_mono c8 fun _ _ ⟨z, z1, z2⟩ => ⟨z, z1, tup_frz z2 et⟩⟩, fun x hx => (htd.dn x hx).1, Nat.le_trans htd.ld (by omega)⟩
      clear et
      generalize frz [t] H8 = G at G0t sG gF gH gP gp gw gd ga gr gD
      have hcw := hwd.2
      have hcl := htd.ld
      generalize (runC pr tk most).st.done = dd at gD c8 hcl
      refine ⟨fun σ H9 => ∃ (dn : Addr) (d : List (Nat × Option Int)), σ = [some (.ref a), some (iv k), some (.ref t), some v, some (.ref p), some (iv most), some (.str (runC pr tk most).word), some (.ref te0), some (.ref dn), some (.ref wy0), some (.ref ra), y11, y12, y13, y14, y15, y16, y17, y18, y19, y20] ∧ Same G H9 ∧ DnsAt K H9 dn pr d, ?_, fun σ H9 hM => ?_⟩
      · refine ⟨.ref t, rfl, t, 2, 1000000 + 14, rfl, T8, by omega, by decide, by decide, fun r1 Ha h1 b1 Ta => ?_⟩
        refine ⟨rfl, _, rfl, ?_⟩
        have sGa := Same.bt sG G0t b1
        have stay : ∀ Hx : Hp, Same G Hx → ∃ (dn : Addr) (d : List (Nat × Option Int)), [some (.ref a), some (iv k), some (.ref t), some v, some (.ref p), some (iv most), some (.str (runC pr tk most).word), some (.ref te0), some (.ref dn0), some (.ref wy0), some (.ref ra), y11, y12, y13, y14, y15, y16, y17, y18, y19, y20] = [some (.ref a), some (iv k), some (.ref t), some v, some (.ref p), some (iv most), some (.str (runC pr tk most).word), some (.ref te0), some (.ref dn), some (.ref wy0), some (.ref ra), y11, y12, y13, y14, y15, y16, y17, y18, y19, y20] ∧ Same G Hx ∧ DnsAt K Hx dn pr d := fun Hx sx => ⟨dn0, dd, rfl, sx, gD.same sx⟩
        refine ite2 (fun e => ?_) (fun e => ?_)
        · refine ⟨.ref dn0, rfl, Nat.zero_le _, fun l nl => ?_⟩
          have sl := new_same (o := .lst []) nl
          have el : upd Ha l (.lst []) l = some (.lst []) := upd_same
          have sGb := sGa.trans sl
          have Tb := Ta.same sl
          generalize upd Ha l (.lst []) = Hb at sl el sGb Tb
          obtain ⟨ds, hds, hdp⟩ := gD.at_
          have dpd : Dp K Hb (.ref dn0) (lD dd) := .lst (sGb.seq hds) (dns_dp (pd_mono hdp fun _ _ ⟨y, z1, z2⟩ => ⟨y, z1, Same.tup sGb z2⟩))
          refine ⟨lD dd, .list [], dpd, .lst (sqL el) .nil, sh_of (lay_lD _) (Nat.le_trans (dep_lD _) (by decide)), by decide +kernel, _, rfl, ?_⟩
          refine ite2 (fun e2 => ?_) (fun e2 => ?_)
          · have hne : dd ≠ [] := fun z => by
              rw [z] at e2
              exact absurd e2 (by decide +kernel)
            have hpos : 0 < dd.length := List.length_pos_iff.mpr hne
            have hdl : ds.length = dd.length := pd_len hdp
            refine ⟨.ref t, rfl, t, 20, 1000000 + 15, rfl, Tb, by omega, by decide, by decide, fun r2 Hc h2 b2 Tc => ⟨(r2 : Int), rfl, by omega, by omega, fun L nL => ?_⟩⟩
            have sGc := Same.bt sGb G0t b2
            have hGL : G L = none := sGc.free nL
            have nLt : L ≠ t := Tc.ne nL
            refine lc_range (lo := 0) (n := (r2 : Int).toNat) (fun i H1 => Same G H1 ∧ Tape H1 t (1000000 + 16 + i) ∧ ∃ (es : List V) (d' : List (Nat × Option Int)), H1 L = some (.lst es) ∧ Paired (DnAt K G) es d' ∧ (∀ x ∈ d', x ∈ dd) ∧ d'.length = i) ⟨Same.upd sGc hGL, Tc.same (new_same nL), [], [], upd_same, .nil, fun x hx => (by cases hx), rfl⟩ (fun i H1 hi hP => ?_) (fun H1 hP => ?_)
            · obtain ⟨g1, T1, es, d', eL, pd', hsub, hl'⟩ := hP
              have hi20 : i < 20 := by omega
              refine ⟨rfl, .ref dn0, rfl, .ref t, rfl, .ref dn0, rfl, dn0, ds, rfl, .inl (g1.seq hds), t, ds.length, 1000000 + 16 + i, rfl, T1, by omega, by omega, by omega, fun r3 H2 h3 b3 T3 => ?_⟩
              have hr3 : r3 < ds.length := by omega
              obtain ⟨z, hz1, hz2⟩ := pd_at2 hdp (List.getElem?_eq_getElem hr3)
              have g2 := Same.bt g1 G0t b3
              refine ⟨dn0, _, _, _, rfl, rfl, g2.seq hds, atI_nat (List.getElem?_eq_getElem hr3), es, b3 _ _ nLt eL, ?_, Same.upd g2 hGL, ?_, es ++ [ds[r3]], d' ++ [z], upd_same, pd_app pd' (.cons hz2 .nil), fun x hx => ?_, by rw [List.length_append, hl']; rfl⟩
              · have := pd_len pd'
                exact szt (by omega)
              · obtain ⟨x, y, z, q1, q2⟩ := T3
                exact ⟨x, y, z, by rw [upd_ne nLt.symm]; exact q1, q2.1, q2.2.1, q2.2.2.1, q2.2.2.2.1, by have := q2.2.2.2.2; omega⟩
              · rcases List.mem_append.mp hx with w | w
                · exact hsub x w
                · rw [List.mem_singleton.mp w]; exact List.mem_of_getElem? hz1
            · obtain ⟨g1, T1, es, d', eL, pd', hsub, hl'⟩ := hP
              exact ⟨L, d', rfl, g1, ⟨⟨es, sqL eL, pd_mono pd' fun _ _ ⟨y, z1, z2⟩ => ⟨y, z1, Same.tup g1 z2⟩⟩, fun x hx => gD.lt x (hsub x hx), by omega⟩⟩
          · exact stay _ sGb
        · exact stay _ sGa
      · obtain ⟨dn, d, rfl, sG9, hD⟩ := hM
        have ep9 := sG9 _ _ gp
        have ew9 := sG9 _ _ gw
        have ea9 := sG9 _ _ ga
        have hP9 := gP.same sG9
        have hr9 : Paired (RowAt K H9) us (rowsL pr) := pd_mono gr fun _ _ z => z.same sG9
        have sH9 := gH.trans sG9
        clear gr gP gp gw ga gD c8 c9 e3 e2
        obtain ⟨ds, hds, hdp⟩ := hD.at_
        have hdl : ds.length = d.length := pd_len hdp
        have hlen := hD.len
        -- kinds
        refine ⟨.ref dn, rfl, dn, rfl, ⟨_, hds⟩, fun L nL => ?_⟩
        refine lc_list (K := K) (a := dn) (xs := ds) (fun i H1 => Same H9 H1 ∧ H1 L = some (.lst (((d.take i).map (wdOf pr)).map V.str))) ⟨new_same nL, upd_same⟩ (fun i H1 _ hP => hP.1.seq hds) (fun i x H1 hx hP => ?_) (fun H1 hP => ?_)
        · obtain ⟨g1, eL⟩ := hP
          obtain ⟨⟨dk, dw⟩, hd1, y, rfl, hd2⟩ := pd_at2 hdp hx
          have hil := (List.getElem?_eq_some_iff.mp hd1).1
          have hkl : dk < (rowsL pr).length := hD.lt _ (List.mem_of_getElem? hd1)
          obtain ⟨u, hu1, z, zs, rfl, hz, _⟩ := pd_at hr9 (gdl (d := Rw.tell 0) hkl)
          refine ⟨y, _, rfl, Same.tup g1 hd2, rfl, _, _, rfl, _, _, rfl, rfl, rfl, .ref ra, rfl, iv dk, rfl, ra, us, _, .ref z, rfl, rfl, sqL (g1 _ _ ea9), atI_nat hu1, z, _, _, _, rfl, rfl, Same.tup g1 hz, atI_nat (j := 0) rfl, _, eL, ?_, fun b o e => ?_, ?_⟩
          · rw [List.length_map, List.length_map, List.length_take]
            exact szt (by omega)
          · rw [upd_ne (ne_of_none e nL)]
            exact g1 _ _ e
          · rw [upd_same, List.take_add_one, hd1, List.map_append, List.map_append]
            rfl
        obtain ⟨g1, eL⟩ := hP
        rw [hdl, List.take_length] at eL
        have hP1 := hP9.same g1
        have hD1 := hD.same g1
        have ep1 := g1 _ _ ep9
        have ew1 := g1 _ _ ew9
        have ea1 := g1 _ _ ea9
        have sH1 := sH9.trans g1
        clear hr9 hP9 ep9 ew9 ea9 sH9 hD hds hdp sG9
        -- how many
        refine ⟨szl (show 7 ≤ 1000000 by decide), fun l nl => ?_⟩
        have sl := new_same (o := .lst (KW.map V.str)) nl
        have el : upd H1 l (.lst (KW.map V.str)) l = some (.lst (KW.map V.str)) := upd_same
        have eL2 := sl _ _ eL
        have s12 := sl
        refine ⟨l, rfl, ⟨_, sqL el⟩, fun L2 nL2 => ?_⟩
        refine lc_list (K := K) (a := l) (xs := KW.map V.str) (fun i H2 => Same H1 H2 ∧ H2 l = some (.lst (KW.map V.str)) ∧ H2 L2 = some (.lst (((KW.take i).map fun z => (((d.map (wdOf pr)).count z : Nat) : Int)).map V.int))) ⟨sl.trans (new_same nL2), new_same nL2 _ _ el, upd_same⟩ (fun i H2 _ hP => sqL hP.2.1) (fun i x H2 hx hP => ?_) (fun H2 hP => ?_)
        · obtain ⟨g2, el2, eM⟩ := hP
          rw [List.getElem?_map] at hx
          obtain ⟨z, hz, rfl⟩ := Option.map_eq_some_iff.mp hx
          have hil : i < 7 := (List.getElem?_eq_some_iff.mp hz).1
          refine ⟨rfl, .ref L, rfl, .inl ⟨rfl, _, sqL (g2 _ _ eL)⟩, .str z, rfl, L, _, z, rfl, rfl, sqL (g2 _ _ eL), _, eM, ?_, fun b o e => ?_, ?_, ?_⟩
          · rw [List.length_map, List.length_map, List.length_take]
            exact szt (by omega)
          · rw [upd_ne (ne_of_none (sl _ _ e) nL2)]
            exact g2 _ _ e
          · rw [upd_ne (ne_of_none el nL2)]
            exact el2
          · rw [upd_same, List.take_add_one, hz, List.map_append, List.map_append]
            rfl
        obtain ⟨g2, _, eM⟩ := hP
        have eM : H2 L2 = some (.lst ((KW.map fun z => (((d.map (wdOf pr)).count z : Nat) : Int)).map V.int)) := eM
        refine ⟨L2, _, rfl, sqL eM, ?_⟩
        rw [due_eq]
        -- reckoned
        refine ⟨v, rfl, .ref dn, rfl, v, dn, pr, d, rfl, hP1.same g2, by omega, hbl, hD1.same g2, fun H3 s3 => ?_⟩
        refine ⟨_, rfl, _, rfl, rfl, _, rfl, ?_⟩
        show if (!decide (V.int (((d.filter (rk pr)).length : Nat) : Int) = V.int (((d.filter (rk pr)).length : Nat) : Int))) = true then _ else _
        rw [decide_eq_true rfl]
        refine ⟨_, rfl, iv _, .ty "bool", .type "int", .type "bool", false, rfl, .ty "bool", .base (.int _), kit_ty (by decide +kernel), false, rfl, ?_⟩
        have g3 := g2.trans s3
        have hP3 := hP1.same g3
        have hD3 := hD1.same g3
        have ep3 := g3 _ _ ep1
        have ew3 := g3 _ _ ew1
        have ea3 := g3 _ _ ea1
        have sH3 := sH1.trans g3
        clear hP1 hD1 ep1 ew1 ea1 sH1 g3 s3 eM g2 eL el eL2 sl s12
        obtain ⟨ds3, hds, hdp⟩ := hD3.at_
        have hdl3 : ds3.length = d.length := pd_len hdp
        have husl : us.length = (rowsL pr).length := hul
        -- how often
        refine ⟨.ref ra, rfl, ra, us, rfl, .inl (sqL ea3), (us.length : Int), rfl, by omega, by omega, fun O nO => ?_⟩
        refine lc_range (lo := 0) (n := (us.length : Int).toNat) (fun i H4 => Same H3 H4 ∧ H4 O = some (.lst (((List.range i).map fun k => (d.map (·.1)).count k).map iv))) ⟨new_same nO, upd_same⟩ (fun i H4 hi hP => ?_) (fun H4 hP => ?_)
        · obtain ⟨g4, eO⟩ := hP
          refine ⟨rfl, .ref dn, rfl, dn, rfl, ⟨_, g4.seq hds⟩, fun M nM => ?_⟩
          refine lc_list (K := K) (a := dn) (xs := ds3) (fun j H5 => Same H4 H5 ∧ H5 M = some (.lst (((d.take j).map fun x => (x.1 : Int)).map V.int))) ⟨new_same nM, upd_same⟩ (fun j H5 _ hP => (g4.trans hP.1).seq hds) (fun j x H5 hx hP => ?_) (fun H5 hP => ?_)
          · obtain ⟨g5, eM⟩ := hP
            obtain ⟨⟨dk, dw⟩, hd1, y, rfl, hd2⟩ := pd_at2 hdp hx
            have hil := (List.getElem?_eq_some_iff.mp hd1).1
            refine ⟨y, _, rfl, Same.tup (g4.trans g5) hd2, rfl, _, _, rfl, _, _, rfl, rfl, rfl, iv dk, rfl, _, eM, ?_, fun b o e => ?_, ?_⟩
            · rw [List.length_map, List.length_map, List.length_take]
              exact szt (by omega)
            · rw [upd_ne (ne_of_none e nM)]
              exact g5 _ _ e
            · rw [upd_same, List.take_add_one, hd1, List.map_append, List.map_append]
              rfl
          · obtain ⟨g5, eM⟩ := hP
            rw [hdl3, List.take_length] at eM
            have hv : V.int (0 + (i : Int)) = V.int (i : Int) := by rw [Int.zero_add]
            refine ⟨.inl ⟨rfl, _, sqL eM⟩, _, rfl, M, _, (i : Int), rfl, by rw [hv], sqL eM, _, g5 _ _ eO, ?_, fun b o e => ?_, ?_⟩
            · rw [List.length_map, List.length_map, List.length_range]
              exact szt (by omega)
            · rw [upd_ne (ne_of_none e nO)]
              exact g5 _ _ (g4 _ _ e)
            · rw [upd_same, List.range_succ, List.map_append, List.map_append]
              have e1 : (d.map fun x => (x.1 : Int)) = (d.map (·.1)).map fun n : Nat => (n : Int) := by rw [List.map_map]; rfl
              rw [e1, cnt_cast]
              rfl
        obtain ⟨g4, eO⟩ := hP
        rw [Int.toNat_natCast, husl] at eO
        have eO : H4 O = some (.lst ((often (rowsL pr).length d).map iv)) := eO
        have nsO : Nice 13 (nsD (often (rowsL pr).length d)) 1 20000 := nice_ns (fun y hy => by have := often_le y hy; omega) (by rw [often_len]; exact hrl)
        have nsW : Nice 13 (nsD (runC pr tk most).st.way) 1 20000 := nice_ns (fun y hy => by have := hwd.1 y hy; omega) (by omega)
        have n2 : Nice 13 (twD (often (rowsL pr).length d) (runC pr tk most).st.way) 60 50000 := (nice_tw nsO nsW).mono (by decide) (by decide)
        -- both told
        refine ⟨v, rfl, .ref dn, rfl, v, dn, pr, d, rfl, hP3.same g4, by omega, hbl, hD3.same g4, fun pc H5 nc s5 ec => ?_⟩
        have g5 := g4.trans s5
        refine ⟨v, rfl, .ref p, rfl, _, rfl, p, v, most, pr, tk, rfl, hP3.same g5, sqL (g5 _ _ ep3), hpure, by omega, fun wy H6 s6 nw ew => ⟨_, _, rfl, ?_⟩⟩
        have g6 := g5.trans s6
        have eO6 := s6 _ _ (s5 _ _ eO)
        have ec6 := s6 _ _ ec
        have eW6 := g6 _ _ ew3
        have nc3 : H3 pc = none := g4.free nc
        have nw3 : H3 wy = none := g5.free nw
        have ncw : pc ≠ wy := ne_of_none ec nw
        have nOc : O ≠ pc := ne_of_none eO nc
        have nOw : O ≠ wy := ne_of_none (s5 _ _ eO) nw
        refine ⟨.ref pc, rfl, .ref O, rfl, _, _, ns_dp ec6, ns_dp eO6, nsO.shp (by decide), nsO.shp (by decide), _, rfl, ?_⟩
        show if (!PyData.eqv (nsD (often (rowsL pr).length d)) (nsD (often (rowsL pr).length d))) = true then _ else _
        rw [SeqAt.eqv_refl _ nsO.lay]
        refine ⟨.ref wy, rfl, .ref wy0, rfl, _, _, ns_dp ew, ns_dp eW6, nsW.shp (by decide), nsW.shp (by decide), _, rfl, ?_⟩
        show if (!PyData.eqv (nsD (runC pr tk most).st.way) (nsD (runC pr tk most).st.way)) = true then _ else _
        rw [SeqAt.eqv_refl _ nsW.lay]
        refine ⟨.ref pc, rfl, .ref wy, rfl, szl (show 2 ≤ 1000000 by decide), fun A nA => ?_⟩
        have sA := new_same (o := .lst [.ref pc, .ref wy]) nA
        have eA : upd H6 A (.lst [.ref pc, .ref wy]) A = some (.lst [.ref pc, .ref wy]) := upd_same
        have cA := sA _ _ ec6
        have wA := sA _ _ ew
        have oA := sA _ _ eO6
        have xA := sA _ _ eW6
        have gA := g6.trans sA
        generalize upd H6 A (.lst [.ref pc, .ref wy]) = H7 at eA cA wA oA xA gA
        refine ⟨A, twD _ _, rfl, .lst (sqL eA) (.cons (ns_dp cA) (.cons (ns_dp wA) .nil)), n2.sho, n2.noDict, Nat.le_trans n2.dep (by decide), n2.shown (by decide), ?_⟩
        refine ⟨.ref O, rfl, .ref wy0, rfl, szl (show 2 ≤ 1000000 by decide), fun A2 nA2 => ?_⟩
        have sA2 := new_same (o := .lst [.ref O, .ref wy0]) nA2
        have eA2 : upd H7 A2 (.lst [.ref O, .ref wy0]) A2 = some (.lst [.ref O, .ref wy0]) := upd_same
        have cA2 := sA2 _ _ cA
        have wA2 := sA2 _ _ wA
        have oA2 := sA2 _ _ oA
        have xA2 := sA2 _ _ xA
        have gA2 := gA.trans sA2
        generalize upd H7 A2 (.lst [.ref O, .ref wy0]) = H8' at eA2 cA2 wA2 oA2 xA2 gA2
        refine ⟨A2, twD _ _, rfl, .lst (sqL eA2) (.cons (ns_dp oA2) (.cons (ns_dp xA2) .nil)), n2.sho, n2.noDict, Nat.le_trans n2.dep (by decide), n2.shown (by decide), rfl, _, rfl, ?_⟩
        show if (!decide (V.str (twD (often (rowsL pr).length d) (runC pr tk most).st.way).shown = V.str (twD (often (rowsL pr).length d) (runC pr tk most).st.way).shown)) = true then _ else _
        rw [decide_eq_true rfl]
        -- what was told is changed
        refine ⟨.ref pc, rfl, .inl ⟨rfl, _, sqL cA2⟩, pc, _, _, rfl, rfl, cA2, by rw [List.length_map, often_len]; exact szt (by omega), ?_⟩
        have h1 := Same.upd (o := .lst ((often (rowsL pr).length d).map iv ++ [.int 1])) gA2 nc3
        have w1 : upd H8' pc (.lst ((often (rowsL pr).length d).map iv ++ [.int 1])) wy = some (.lst ((runC pr tk most).st.way.map iv)) := by rw [upd_ne ncw.symm]; exact wA2
        have o1 : upd H8' pc (.lst ((often (rowsL pr).length d).map iv ++ [.int 1])) O = some (.lst ((often (rowsL pr).length d).map iv)) := by rw [upd_ne nOc]; exact oA2
        generalize upd H8' pc (.lst ((often (rowsL pr).length d).map iv ++ [.int 1])) = HA at h1 w1 o1
        refine ⟨.ref wy, rfl, .inl ⟨rfl, _, sqL w1⟩, wy, _, rfl, rfl, w1, ?_⟩
        have h2 := Same.upd (o := .lst ((runC pr tk most).st.way.map iv).reverse) h1 nw3
        have o2 : upd HA wy (.lst ((runC pr tk most).st.way.map iv).reverse) O = some (.lst ((often (rowsL pr).length d).map iv)) := by rw [upd_ne nOw]; exact o1
        generalize upd HA wy (.lst ((runC pr tk most).st.way.map iv).reverse) = HB at h2 o2
        refine ⟨v, rfl, .ref dn, rfl, v, dn, pr, d, rfl, hP3.same h2, by omega, hbl, hD3.same h2, fun pc2 H10 _ s10 ec2 => ?_⟩
        have h3 := h2.trans s10
        refine ⟨.ref O, rfl, _, _, ns_dp ec2, ns_dp (s10 _ _ o2), nsO.shp (by decide), nsO.shp (by decide), _, rfl, ?_⟩
        show if (!PyData.eqv (nsD (often (rowsL pr).length d)) (nsD (often (rowsL pr).length d))) = true then _ else _
        rw [SeqAt.eqv_refl _ nsO.lay]
        refine ⟨v, rfl, .ref p, rfl, _, rfl, p, v, most, pr, tk, rfl, hP3.same h3, sqL (h3 _ _ ep3), hpure, by omega, fun wy2 H11 s11 _ ew2 => ?_⟩
        have h4 := h3.trans s11
        refine ⟨.ref wy0, rfl, _, _, ns_dp ew2, ns_dp (h4 _ _ ew3), nsW.shp (by decide), nsW.shp (by decide), _, rfl, ?_⟩
        show if (!PyData.eqv (nsD (runC pr tk most).st.way) (nsD (runC pr tk most).st.way)) = true then _ else _
        rw [SeqAt.eqv_refl _ nsW.lay]
        exact ⟨_, _, _, _, _, _, _, _, _, _, _, _, _, _, _, _, _, _, _, _, rfl, sH3.trans h4⟩
    · obtain ⟨y1, y2, y3, y4, y5, y6, y7, y8, y9, y10, y11, y12, y13, y14, y15, y16, y17, y18, y19, y20, rfl, s1⟩ := hP
      exact q H1
end
end Gn
set_option Elab.async false
set_option linter.all false
set_option maxRecDepth 100000
namespace Gn
open PySem PySem.Spec PyProof.Rows L2
set_option maxHeartbeats 4000000
theorem all_mk {l : PySem.W.OpenLaw} {w : World} {K : PySem.W.Frag} {h : Heap} {mg : Str → Option Value} {fa fN fO fE fD fX fL fR fV fS fP fU fG fW fA fM fT fQ fH fC1 fY fC2 fC3 fI1 fI2 fC4 fC5 fC6 fC7 fC8 fC9 fB1 fB2 fR1 fR2 fR3 fR4 fB3 fZ fm1 fm2 fm3 fm4 fm5 fm6 fm7 dE g1 g2 g3 CW dO gR : Addr} (X : K.In h) (G : h.Ns mainGlobals mg) (hfa : mg "law" = some (.ref fa))
    {odN anN odO anO odE anE odD anD odX anX odL anL odR anR odV anV odS anS odP anP odU anU odG anG odW anW odA anA odM anM odT anT odQ anQ odH anH odC1 anC1 odY anY odC2 anC2 odC3 anC3 odI1 anI1 odI2 anI2 odC4 anC4 odC5 anC5 odC6 anC6 odC7 anC7 odC8 anC8 odC9 anC9 odB1 anB1 odB2 anB2 odR1 anR1 odR2 anR2 odR3 anR3 odR4 anR4 odB3 anB3 odZ anZ odw1 anw1 odw2 anw2 odw3 anw3 odw4 anw4 odw5 anw5 odw6 anw6 odw7 anw7 h1 h2 h3 hR : Option Addr} {slN slO slE slD slX slL slR slV slS slP slU slG slW slA slM slT slQ slH slC1 slY slC2 slC3 slI1 slI2 slC4 slC5 slC6 slC7 slC8 slC9 slB1 slB2 slR1 slR2 slR3 slR4 slB3 slZ slw1 slw2 slw3 slw4 slw5 slw6 slw7 q1 q2 q3 qR : Array (Option Value)} {ocN kVN dcN pmN cdN ctN ocO kVO dcO pmO cdO ctO ocE kVE dcE pmE cdE ctE ocD kVD dcD pmD cdD ctD ocX kVX dcX pmX cdX ctX ocL kVL dcL pmL cdL ctL ocR kVR dcR pmR cdR ctR ocV kVV dcV pmV cdV ctV ocS kVS dcS pmS cdS ctS ocP kVP dcP pmP cdP ctP ocU kVU dcU pmU cdU ctU ocG kVG dcG pmG cdG ctG ocW kVW dcW pmW cdW ctW ocA kVA dcA pmA cdA ctA ocM kVM dcM pmM cdM ctM ocT kVT dcT pmT cdT ctT ocQ kVQ dcQ pmQ cdQ ctQ ocH kVH dcH pmH cdH ctH ocC1 kVC1 dcC1 pmC1 cdC1 ctC1 ocY kVY dcY pmY cdY ctY ocC2 kVC2 dcC2 pmC2 cdC2 ctC2 ocC3 kVC3 dcC3 pmC3 cdC3 ctC3 ocI1 kVI1 dcI1 pmI1 cdI1 ctI1 ocI2 kVI2 dcI2 pmI2 cdI2 ctI2 ocC4 kVC4 dcC4 pmC4 cdC4 ctC4 ocC5 kVC5 dcC5 pmC5 cdC5 ctC5 ocC6 kVC6 dcC6 pmC6 cdC6 ctC6 ocC7 kVC7 dcC7 pmC7 cdC7 ctC7 ocC8 kVC8 dcC8 pmC8 cdC8 ctC8 ocC9 kVC9 dcC9 pmC9 cdC9 ctC9 ocB1 kVB1 dcB1 pmB1 cdB1 ctB1 ocB2 kVB2 dcB2 pmB2 cdB2 ctB2 ocR1 kVR1 dcR1 pmR1 cdR1 ctR1 ocR2 kVR2 dcR2 pmR2 cdR2 ctR2 ocR3 kVR3 dcR3 pmR3 cdR3 ctR3 ocR4 kVR4 dcR4 pmR4 cdR4 ctR4 ocB3 kVB3 dcB3 pmB3 cdB3 ctB3 ocZ kVZ dcZ pmZ cdZ ctZ ocw1 kVw1 dcw1 pmw1 cdw1 ctw1 ocw2 kVw2 dcw2 pmw2 cdw2 ctw2 ocw3 kVw3 dcw3 pmw3 cdw3 ctw3 ocw4 kVw4 dcw4 pmw4 cdw4 ctw4 ocw5 kVw5 dcw5 pmw5 cdw5 ctw5 ocw6 kVw6 dcw6 pmw6 cdw6 ctw6 ocw7 kVw7 dcw7 pmw7 cdw7 ctw7 : Value} {es es2 : Array DictEntry} {nE nE2 j1 j2 j3 jR : Nat} {i1 i2 i3 iR : Array Value} {tg t6 : Tok}
    (aN : PySem.W.nsIn K mainGlobals "blocks_named" = some (some (.ref fN))) (lN : K.lookup fN = some ⟨ocN, odN, .func (PySem.W.fnOf "blocks_named" "blocks_named" (defArgs sNamed) (defBody sNamed) (defScope sNamed) .none kVN dcN pmN anN cdN ctN), slN⟩) (cN : PySem.W.codeIn K cdN "blocks_named" = true) (kN : PySem.W.keepIn K (.ref fN) = true)
    (aO : PySem.W.nsIn K mainGlobals "leads_of" = some (some (.ref fO))) (lO : K.lookup fO = some ⟨ocO, odO, .func (PySem.W.fnOf "leads_of" "leads_of" (defArgs sLeadsOf) (defBody sLeadsOf) (defScope sLeadsOf) .none kVO dcO pmO anO cdO ctO), slO⟩) (cO : PySem.W.codeIn K cdO "leads_of" = true) (kO : PySem.W.keepIn K (.ref fO) = true)
    (aE : PySem.W.nsIn K mainGlobals "_law_tape" = some (some (.ref fE))) (lE : K.lookup fE = some ⟨ocE, odE, .func (PySem.W.fnOf "_law_tape" "_law_tape" (defArgs sTape) (defBody sTape) (defScope sTape) .none kVE dcE pmE anE cdE ctE), slE⟩) (cE : PySem.W.codeIn K cdE "_law_tape" = true) (kE : PySem.W.keepIn K (.ref fE) = true)
    (aD : PySem.W.nsIn K mainGlobals "_law_draw" = some (some (.ref fD))) (lD : K.lookup fD = some ⟨ocD, odD, .func (PySem.W.fnOf "_law_draw" "_law_draw" (defArgs sDraw) (defBody sDraw) (defScope sDraw) .none kVD dcD pmD anD cdD ctD), slD⟩) (cD : PySem.W.codeIn K cdD "_law_draw" = true) (kD : PySem.W.keepIn K (.ref fD) = true)
    (aX : PySem.W.nsIn K mainGlobals "_law_nexts" = some (some (.ref fX))) (lX : K.lookup fX = some ⟨ocX, odX, .func (PySem.W.fnOf "_law_nexts" "_law_nexts" (defArgs sNexts) (defBody sNexts) (defScope sNexts) .none kVX dcX pmX anX cdX ctX), slX⟩) (cX : PySem.W.codeIn K cdX "_law_nexts" = true) (kX : PySem.W.keepIn K (.ref fX) = true)
    (aL : PySem.W.nsIn K mainGlobals "_law_leads" = some (some (.ref fL))) (lL : K.lookup fL = some ⟨ocL, odL, .func (PySem.W.fnOf "_law_leads" "_law_leads" (defArgs sLeads) (defBody sLeads) (defScope sLeads) .none kVL dcL pmL anL cdL ctL), slL⟩) (cL : PySem.W.codeIn K cdL "_law_leads" = true) (kL : PySem.W.keepIn K (.ref fL) = true)
    (aR : PySem.W.nsIn K mainGlobals "_law_reached" = some (some (.ref fR))) (lR : K.lookup fR = some ⟨ocR, odR, .func (PySem.W.fnOf "_law_reached" "_law_reached" (defArgs sReached) (defBody sReached) (defScope sReached) .none kVR dcR pmR anR cdR ctR), slR⟩) (cR : PySem.W.codeIn K cdR "_law_reached" = true) (kR : PySem.W.keepIn K (.ref fR) = true)
    (aV : PySem.W.nsIn K mainGlobals "_law_above" = some (some (.ref fV))) (lV : K.lookup fV = some ⟨ocV, odV, .func (PySem.W.fnOf "_law_above" "_law_above" (defArgs sAbove) (defBody sAbove) (defScope sAbove) .none kVV dcV pmV anV cdV ctV), slV⟩) (cV : PySem.W.codeIn K cdV "_law_above" = true) (kV : PySem.W.keepIn K (.ref fV) = true)
    (aS : PySem.W.nsIn K mainGlobals "_law_standing" = some (some (.ref fS))) (lS : K.lookup fS = some ⟨ocS, odS, .func (PySem.W.fnOf "_law_standing" "_law_standing" (defArgs sStanding) (defBody sStanding) (defScope sStanding) .none kVS dcS pmS anS cdS ctS), slS⟩) (cS : PySem.W.codeIn K cdS "_law_standing" = true) (kS : PySem.W.keepIn K (.ref fS) = true)
    (aP : PySem.W.nsIn K mainGlobals "_law_put" = some (some (.ref fP))) (lP : K.lookup fP = some ⟨ocP, odP, .func (PySem.W.fnOf "_law_put" "_law_put" (defArgs sPut) (defBody sPut) (defScope sPut) .none kVP dcP pmP anP cdP ctP), slP⟩) (cP : PySem.W.codeIn K cdP "_law_put" = true) (kP : PySem.W.keepIn K (.ref fP) = true)
    (aU : PySem.W.nsIn K mainGlobals "_law_number" = some (some (.ref fU))) (lU : K.lookup fU = some ⟨ocU, odU, .func (PySem.W.fnOf "_law_number" "_law_number" (defArgs sNumber) (defBody sNumber) (defScope sNumber) .none kVU dcU pmU anU cdU ctU), slU⟩) (cU : PySem.W.codeIn K cdU "_law_number" = true) (kU : PySem.W.keepIn K (.ref fU) = true)
    (aG : PySem.W.nsIn K mainGlobals "_law_again" = some (some (.ref fG))) (lG : K.lookup fG = some ⟨ocG, odG, .func (PySem.W.fnOf "_law_again" "_law_again" (defArgs sAgain) (defBody sAgain) (defScope sAgain) .none kVG dcG pmG anG cdG ctG), slG⟩) (cG : PySem.W.codeIn K cdG "_law_again" = true) (kG : PySem.W.keepIn K (.ref fG) = true)
    (aW : PySem.W.nsIn K mainGlobals "_law_drawn_row" = some (some (.ref fW))) (lW : K.lookup fW = some ⟨ocW, odW, .func (PySem.W.fnOf "_law_drawn_row" "_law_drawn_row" (defArgs sDrawn) (defBody sDrawn) (defScope sDrawn) .none kVW dcW pmW anW cdW ctW), slW⟩) (cW : PySem.W.codeIn K cdW "_law_drawn_row" = true) (kW : PySem.W.keepIn K (.ref fW) = true)
    (aA : PySem.W.nsIn K mainGlobals "_law_add" = some (some (.ref fA))) (lA : K.lookup fA = some ⟨ocA, odA, .func (PySem.W.fnOf "_law_add" "_law_add" (defArgs sAdd) (defBody sAdd) (defScope sAdd) .none kVA dcA pmA anA cdA ctA), slA⟩) (cA : PySem.W.codeIn K cdA "_law_add" = true) (kA : PySem.W.keepIn K (.ref fA) = true)
    (aM : PySem.W.nsIn K mainGlobals "_law_meet" = some (some (.ref fM))) (lM : K.lookup fM = some ⟨ocM, odM, .func (PySem.W.fnOf "_law_meet" "_law_meet" (defArgs sMeet) (defBody sMeet) (defScope sMeet) .none kVM dcM pmM anM cdM ctM), slM⟩) (cM : PySem.W.codeIn K cdM "_law_meet" = true) (kM : PySem.W.keepIn K (.ref fM) = true)
    (aT : PySem.W.nsIn K mainGlobals "_law_later" = some (some (.ref fT))) (lT : K.lookup fT = some ⟨ocT, odT, .func (PySem.W.fnOf "_law_later" "_law_later" (defArgs sLater) (defBody sLater) (defScope sLater) .none kVT dcT pmT anT cdT ctT), slT⟩) (cT : PySem.W.codeIn K cdT "_law_later" = true) (kT : PySem.W.keepIn K (.ref fT) = true)
    (aQ : PySem.W.nsIn K mainGlobals "_law_program" = some (some (.ref fQ))) (lQ : K.lookup fQ = some ⟨ocQ, odQ, .func (PySem.W.fnOf "_law_program" "_law_program" (defArgs sProgram) (defBody sProgram) (defScope sProgram) .none kVQ dcQ pmQ anQ cdQ ctQ), slQ⟩) (cQ : PySem.W.codeIn K cdQ "_law_program" = true) (kQ : PySem.W.keepIn K (.ref fQ) = true)
    (aH : PySem.W.nsIn K mainGlobals "_law_room_row" = some (some (.ref fH))) (lH : K.lookup fH = some ⟨ocH, odH, .func (PySem.W.fnOf "_law_room_row" "_law_room_row" (defArgs sRoom) (defBody sRoom) (defScope sRoom) .none kVH dcH pmH anH cdH ctH), slH⟩) (cH : PySem.W.codeIn K cdH "_law_room_row" = true) (kH : PySem.W.keepIn K (.ref fH) = true)
    (aC1 : PySem.W.nsIn K mainGlobals "_law_takes" = some (some (.ref fC1))) (lC1 : K.lookup fC1 = some ⟨ocC1, odC1, .func (PySem.W.fnOf "_law_takes" "_law_takes" (defArgs sTakes) (defBody sTakes) (defScope sTakes) .none kVC1 dcC1 pmC1 anC1 cdC1 ctC1), slC1⟩) (cC1 : PySem.W.codeIn K cdC1 "_law_takes" = true) (kC1 : PySem.W.keepIn K (.ref fC1) = true)
    (aY : PySem.W.nsIn K mainGlobals "_law_many" = some (some (.ref fY))) (lY : K.lookup fY = some ⟨ocY, odY, .func (PySem.W.fnOf "_law_many" "_law_many" (defArgs sMany) (defBody sMany) (defScope sMany) .none kVY dcY pmY anY cdY ctY), slY⟩) (cY : PySem.W.codeIn K cdY "_law_many" = true) (kY : PySem.W.keepIn K (.ref fY) = true)
    (aC2 : PySem.W.nsIn K mainGlobals "_law_flat" = some (some (.ref fC2))) (lC2 : K.lookup fC2 = some ⟨ocC2, odC2, .func (PySem.W.fnOf "_law_flat" "_law_flat" (defArgs sFlat) (defBody sFlat) (defScope sFlat) .none kVC2 dcC2 pmC2 anC2 cdC2 ctC2), slC2⟩) (cC2 : PySem.W.codeIn K cdC2 "_law_flat" = true) (kC2 : PySem.W.keepIn K (.ref fC2) = true)
    (aC3 : PySem.W.nsIn K mainGlobals "_law_run" = some (some (.ref fC3))) (lC3 : K.lookup fC3 = some ⟨ocC3, odC3, .func (PySem.W.fnOf "_law_run" "_law_run" (defArgs sOwnRun) (defBody sOwnRun) (defScope sOwnRun) .none kVC3 dcC3 pmC3 anC3 cdC3 ctC3), slC3⟩) (cC3 : PySem.W.codeIn K cdC3 "_law_run" = true) (kC3 : PySem.W.keepIn K (.ref fC3) = true)
    (aI1 : PySem.W.nsIn K mainGlobals "_law_next" = some (some (.ref fI1))) (lI1 : K.lookup fI1 = some ⟨ocI1, odI1, .func (PySem.W.fnOf "_law_next" "_law_next" (defArgs sNext) (defBody sNext) (defScope sNext) .none kVI1 dcI1 pmI1 anI1 cdI1 ctI1), slI1⟩) (cI1 : PySem.W.codeIn K cdI1 "_law_next" = true) (kI1 : PySem.W.keepIn K (.ref fI1) = true)
    (aI2 : PySem.W.nsIn K mainGlobals "_law_worth" = some (some (.ref fI2))) (lI2 : K.lookup fI2 = some ⟨ocI2, odI2, .func (PySem.W.fnOf "_law_worth" "_law_worth" (defArgs sWorth) (defBody sWorth) (defScope sWorth) .none kVI2 dcI2 pmI2 anI2 cdI2 ctI2), slI2⟩) (cI2 : PySem.W.codeIn K cdI2 "_law_worth" = true) (kI2 : PySem.W.keepIn K (.ref fI2) = true)
    (aC4 : PySem.W.nsIn K mainGlobals "is_meet" = some (some (.ref fC4))) (lC4 : K.lookup fC4 = some ⟨ocC4, odC4, .func (PySem.W.fnOf "is_meet" "is_meet" (defArgs sIsMeet) (defBody sIsMeet) (defScope sIsMeet) .none kVC4 dcC4 pmC4 anC4 cdC4 ctC4), slC4⟩) (cC4 : PySem.W.codeIn K cdC4 "is_meet" = true) (kC4 : PySem.W.keepIn K (.ref fC4) = true)
    (aC5 : PySem.W.nsIn K mainGlobals "summed" = some (some (.ref fC5))) (lC5 : K.lookup fC5 = some ⟨ocC5, odC5, .func (PySem.W.fnOf "summed" "summed" (defArgs sSummed) (defBody sSummed) (defScope sSummed) .none kVC5 dcC5 pmC5 anC5 cdC5 ctC5), slC5⟩) (cC5 : PySem.W.codeIn K cdC5 "summed" = true) (kC5 : PySem.W.keepIn K (.ref fC5) = true)
    (aC6 : PySem.W.nsIn K mainGlobals "lessened" = some (some (.ref fC6))) (lC6 : K.lookup fC6 = some ⟨ocC6, odC6, .func (PySem.W.fnOf "lessened" "lessened" (defArgs sLessened) (defBody sLessened) (defScope sLessened) .none kVC6 dcC6 pmC6 anC6 cdC6 ctC6), slC6⟩) (cC6 : PySem.W.codeIn K cdC6 "lessened" = true) (kC6 : PySem.W.keepIn K (.ref fC6) = true)
    (aC7 : PySem.W.nsIn K mainGlobals "product" = some (some (.ref fC7))) (lC7 : K.lookup fC7 = some ⟨ocC7, odC7, .func (PySem.W.fnOf "product" "product" (defArgs sProduct) (defBody sProduct) (defScope sProduct) .none kVC7 dcC7 pmC7 anC7 cdC7 ctC7), slC7⟩) (cC7 : PySem.W.codeIn K cdC7 "product" = true) (kC7 : PySem.W.keepIn K (.ref fC7) = true)
    (aC8 : PySem.W.nsIn K mainGlobals "tested_same" = some (some (.ref fC8))) (lC8 : K.lookup fC8 = some ⟨ocC8, odC8, .func (PySem.W.fnOf "tested_same" "tested_same" (defArgs sTSame) (defBody sTSame) (defScope sTSame) .none kVC8 dcC8 pmC8 anC8 cdC8 ctC8), slC8⟩) (cC8 : PySem.W.codeIn K cdC8 "tested_same" = true) (kC8 : PySem.W.keepIn K (.ref fC8) = true)
    (aC9 : PySem.W.nsIn K mainGlobals "tested_below" = some (some (.ref fC9))) (lC9 : K.lookup fC9 = some ⟨ocC9, odC9, .func (PySem.W.fnOf "tested_below" "tested_below" (defArgs sTBelow) (defBody sTBelow) (defScope sTBelow) .none kVC9 dcC9 pmC9 anC9 cdC9 ctC9), slC9⟩) (cC9 : PySem.W.codeIn K cdC9 "tested_below" = true) (kC9 : PySem.W.keepIn K (.ref fC9) = true)
    (aB1 : PySem.W.nsIn K mainGlobals "picked" = some (some (.ref fB1))) (lB1 : K.lookup fB1 = some ⟨ocB1, odB1, .func (PySem.W.fnOf "picked" "picked" (defArgs sPicked) (defBody sPicked) (defScope sPicked) .none kVB1 dcB1 pmB1 anB1 cdB1 ctB1), slB1⟩) (cB1 : PySem.W.codeIn K cdB1 "picked" = true) (kB1 : PySem.W.keepIn K (.ref fB1) = true)
    (aB2 : PySem.W.nsIn K mainGlobals "is_too_great" = some (some (.ref fB2))) (lB2 : K.lookup fB2 = some ⟨ocB2, odB2, .func (PySem.W.fnOf "is_too_great" "is_too_great" (defArgs sGreat) (defBody sGreat) (defScope sGreat) .none kVB2 dcB2 pmB2 anB2 cdB2 ctB2), slB2⟩) (cB2 : PySem.W.codeIn K cdB2 "is_too_great" = true) (kB2 : PySem.W.keepIn K (.ref fB2) = true)
    (aR1 : PySem.W.nsIn K mainGlobals "rows_of" = some (some (.ref fR1))) (lR1 : K.lookup fR1 = some ⟨ocR1, odR1, .func (PySem.W.fnOf "rows_of" "rows_of" (defArgs sRowsOf) (defBody sRowsOf) (defScope sRowsOf) .none kVR1 dcR1 pmR1 anR1 cdR1 ctR1), slR1⟩) (cR1 : PySem.W.codeIn K cdR1 "rows_of" = true) (kR1 : PySem.W.keepIn K (.ref fR1) = true)
    (aR2 : PySem.W.nsIn K mainGlobals "is_reckoning" = some (some (.ref fR2))) (lR2 : K.lookup fR2 = some ⟨ocR2, odR2, .func (PySem.W.fnOf "is_reckoning" "is_reckoning" (defArgs sIsReck) (defBody sIsReck) (defScope sIsReck) .none kVR2 dcR2 pmR2 anR2 cdR2 ctR2), slR2⟩) (cR2 : PySem.W.codeIn K cdR2 "is_reckoning" = true) (kR2 : PySem.W.keepIn K (.ref fR2) = true)
    (aR3 : PySem.W.nsIn K mainGlobals "reckoned" = some (some (.ref fR3))) (lR3 : K.lookup fR3 = some ⟨ocR3, odR3, .func (PySem.W.fnOf "reckoned" "reckoned" (defArgs sReck) (defBody sReck) (defScope sReck) .none kVR3 dcR3 pmR3 anR3 cdR3 ctR3), slR3⟩) (cR3 : PySem.W.codeIn K cdR3 "reckoned" = true) (kR3 : PySem.W.keepIn K (.ref fR3) = true)
    (aR4 : PySem.W.nsIn K mainGlobals "times_done" = some (some (.ref fR4))) (lR4 : K.lookup fR4 = some ⟨ocR4, odR4, .func (PySem.W.fnOf "times_done" "times_done" (defArgs sTimes) (defBody sTimes) (defScope sTimes) .none kVR4 dcR4 pmR4 anR4 cdR4 ctR4), slR4⟩) (cR4 : PySem.W.codeIn K cdR4 "times_done" = true) (kR4 : PySem.W.keepIn K (.ref fR4) = true)
    (aB3 : PySem.W.nsIn K mainGlobals "way_of" = some (some (.ref fB3))) (lB3 : K.lookup fB3 = some ⟨ocB3, odB3, .func (PySem.W.fnOf "way_of" "way_of" (defArgs sWay) (defBody sWay) (defScope sWay) .none kVB3 dcB3 pmB3 anB3 cdB3 ctB3), slB3⟩) (cB3 : PySem.W.codeIn K cdB3 "way_of" = true) (kB3 : PySem.W.keepIn K (.ref fB3) = true)
    (aZ : PySem.W.nsIn K mainGlobals "law" = some (some (.ref fZ))) (lZ : K.lookup fZ = some ⟨ocZ, odZ, .func (PySem.W.fnOf "law" "law" (defArgs sLaw) (defBody sLaw) (defScope sLaw) .none kVZ dcZ pmZ anZ cdZ ctZ), slZ⟩) (cZ : PySem.W.codeIn K cdZ "law" = true) (kZ : PySem.W.keepIn K (.ref fZ) = true)
    (z_len : PySem.W.nsIn K mainGlobals "len" = some none)
    (z_abs : PySem.W.nsIn K mainGlobals "abs" = some none)
    (z_int : PySem.W.nsIn K mainGlobals "int" = some none)
    (z_range : PySem.W.nsIn K mainGlobals "range" = some none)
    (z_max : PySem.W.nsIn K mainGlobals "max" = some none)
    (z_min : PySem.W.nsIn K mainGlobals "min" = some none)
    (z_list : PySem.W.nsIn K mainGlobals "list" = some none)
    (z_tuple : PySem.W.nsIn K mainGlobals "tuple" = some none)
    (z_sorted : PySem.W.nsIn K mainGlobals "sorted" = some none)
    (z_set : PySem.W.nsIn K mainGlobals "set" = some none)
    (z_enumerate : PySem.W.nsIn K mainGlobals "enumerate" = some none)
    (z_zip : PySem.W.nsIn K mainGlobals "zip" = some none)
    (z_sum : PySem.W.nsIn K mainGlobals "sum" = some none)
    (z_repr : PySem.W.nsIn K mainGlobals "repr" = some none)
    (z_any : PySem.W.nsIn K mainGlobals "any" = some none)
    (z_isinstance : PySem.W.nsIn K mainGlobals "isinstance" = some none)
    (z_bool : PySem.W.nsIn K mainGlobals "bool" = some none)
    (z_dict : PySem.W.nsIn K mainGlobals "dict" = some none)
    (eE : PySem.W.nsIn K mainGlobals "END_PARTS" = some (some (.ref dE))) (eL : K.lookup dE = some ⟨.type "dict", none, .dict es nE, #[]⟩) (eK : PySem.W.KeysLit w.params es.toList)
    (e1 : PySem.W.nsIn K dE "go" = some (some (.ref g1))) (e2 : PySem.W.nsIn K dE "if" = some (some (.ref g2))) (e3 : PySem.W.nsIn K dE "end" = some (some (.ref g3)))
    (t1 : K.lookup g1 = some ⟨.type "tuple", h1, .seq i1 j1, q1⟩) (t2 : K.lookup g2 = some ⟨.type "tuple", h2, .seq i2 j2, q2⟩) (t3 : K.lookup g3 = some ⟨.type "tuple", h3, .seq i3 j3, q3⟩)
    (v1 : Vals [.str "block"] i1.toList) (v2 : Vals [.str "row", .str "block", .str "block"] i2.toList) (v3 : Vals [] i3.toList)
    (rE : PySem.W.nsIn K mainGlobals "RECKONINGS" = some (some (.ref gR))) (tR : K.lookup gR = some ⟨.type "tuple", hR, .seq iR jR, qR⟩) (vR : Vals [.str "sum", .str "less", .str "times", .str "same", .str "below", .str "pick", .str "look"] iR.toList)
    (aMa : PySem.W.nsIn K mainGlobals "Machine" = some (some (.ref CW)))
    (am1 : PySem.W.findIn K (.ref CW) "__init__" = some (some (.ref fm1))) (nm1 : PySem.W.isFn K (.ref fm1) = true) (lm1 : K.lookup fm1 = some ⟨ocw1, odw1, .func (PySem.W.fnOf "__init__" "Machine.__init__" (defArgs sMInit) (defBody sMInit) (defScope sMInit) .none kVw1 dcw1 pmw1 anw1 cdw1 ctw1), slw1⟩) (cm1 : PySem.W.codeIn K cdw1 "Machine.__init__" = true) (km1 : PySem.W.keepIn K (.ref fm1) = true)
    (am2 : PySem.W.findIn K (.ref CW) "go_on" = some (some (.ref fm2))) (nm2 : PySem.W.isFn K (.ref fm2) = true) (lm2 : K.lookup fm2 = some ⟨ocw2, odw2, .func (PySem.W.fnOf "go_on" "Machine.go_on" (defArgs sGoOn) (defBody sGoOn) (defScope sGoOn) .none kVw2 dcw2 pmw2 anw2 cdw2 ctw2), slw2⟩) (cm2 : PySem.W.codeIn K cdw2 "Machine.go_on" = true) (km2 : PySem.W.keepIn K (.ref fm2) = true)
    (am3 : PySem.W.findIn K (.ref CW) "do_rows" = some (some (.ref fm3))) (nm3 : PySem.W.isFn K (.ref fm3) = true) (lm3 : K.lookup fm3 = some ⟨ocw3, odw3, .func (PySem.W.fnOf "do_rows" "Machine.do_rows" (defArgs sDoRows) (defBody sDoRows) (defScope sDoRows) .none kVw3 dcw3 pmw3 anw3 cdw3 ctw3), slw3⟩) (cm3 : PySem.W.codeIn K cdw3 "Machine.do_rows" = true) (km3 : PySem.W.keepIn K (.ref fm3) = true)
    (am4 : PySem.W.findIn K (.ref CW) "brought_by" = some (some (.ref fm4))) (nm4 : PySem.W.isFn K (.ref fm4) = true) (lm4 : K.lookup fm4 = some ⟨ocw4, odw4, .func (PySem.W.fnOf "brought_by" "Machine.brought_by" (defArgs sBrought) (defBody sBrought) (defScope sBrought) .none kVw4 dcw4 pmw4 anw4 cdw4 ctw4), slw4⟩) (cm4 : PySem.W.codeIn K cdw4 "Machine.brought_by" = true) (km4 : PySem.W.keepIn K (.ref fm4) = true)
    (am5 : PySem.W.findIn K (.ref CW) "block_behind" = some (some (.ref fm5))) (nm5 : PySem.W.isFn K (.ref fm5) = true) (lm5 : K.lookup fm5 = some ⟨ocw5, odw5, .func (PySem.W.fnOf "block_behind" "Machine.block_behind" (defArgs sBehind) (defBody sBehind) (defScope sBehind) .none kVw5 dcw5 pmw5 anw5 cdw5 ctw5), slw5⟩) (cm5 : PySem.W.codeIn K cdw5 "Machine.block_behind" = true) (km5 : PySem.W.keepIn K (.ref fm5) = true)
    (am6 : PySem.W.findIn K (.ref CW) "worth_of" = some (some (.ref fm6))) (nm6 : PySem.W.isFn K (.ref fm6) = true) (lm6 : K.lookup fm6 = some ⟨ocw6, odw6, .func (PySem.W.fnOf "worth_of" "Machine.worth_of" (defArgs sWorthOf) (defBody sWorthOf) (defScope sWorthOf) .none kVw6 dcw6 pmw6 anw6 cdw6 ctw6), slw6⟩) (cm6 : PySem.W.codeIn K cdw6 "Machine.worth_of" = true) (km6 : PySem.W.keepIn K (.ref fm6) = true)
    (am7 : PySem.W.findIn K (.ref CW) "do_row" = some (some (.ref fm7))) (nm7 : PySem.W.isFn K (.ref fm7) = true) (lm7 : K.lookup fm7 = some ⟨ocw7, odw7, .func (PySem.W.fnOf "do_row" "Machine.do_row" (defArgs sDoRow) (defBody sDoRow) (defScope sDoRow) .none kVw7 dcw7 pmw7 anw7 cdw7 ctw7), slw7⟩) (cm7 : PySem.W.codeIn K cdw7 "Machine.do_row" = true) (km7 : PySem.W.keepIn K (.ref fm7) = true)
    (pg : PySem.W.plainGet K CW Str.empty = true) (hd : PySem.W.hasDictIn K CW = true) (po : PySem.W.plainOver K CW = true) (sa : PySem.W.findIn K (.ref CW) "__setattr__" = some (some (.builtin "object.__setattr__"))) (mk : PySem.W.makesIn K CW = true) (kc : PySem.W.keepIn K (.ref CW) = true)
    (n_program : PySem.W.findIn K (.ref CW) "program" = some none)
    (n_takes : PySem.W.findIn K (.ref CW) "takes" = some none)
    (n_most : PySem.W.findIn K (.ref CW) "most" = some none)
    (n_leads : PySem.W.findIn K (.ref CW) "leads" = some none)
    (n_begins : PySem.W.findIn K (.ref CW) "begins" = some none)
    (n_steps : PySem.W.findIn K (.ref CW) "steps" = some none)
    (n_lasts : PySem.W.findIn K (.ref CW) "lasts" = some none)
    (n_rooms : PySem.W.findIn K (.ref CW) "rooms" = some none)
    (n_way : PySem.W.findIn K (.ref CW) "way" = some none)
    (n_told : PySem.W.findIn K (.ref CW) "told" = some none)
    (n_done : PySem.W.findIn K (.ref CW) "done" = some none)
    (hG : PySem.W.nsIn K mainGlobals "GREATEST" = some (some (.int GT40 tg))) (h6 : PySem.W.nsIn K mainGlobals "ROOMS" = some (some (.int 6 t6)))
    (oE : PySem.W.nsIn K mainGlobals "OF_TWO_ROWS" = some (some (.ref dO))) (oL : K.lookup dO = some ⟨.type "dict", none, .dict es2 nE2, #[]⟩) (oK : PySem.W.KeysLit w.params es2.toList) (oS : (dO == sysModules) = false)
    (o_sum : PySem.W.nsIn K dO "sum" = some (some (.ref fC5)))
    (o_less : PySem.W.nsIn K dO "less" = some (some (.ref fC6)))
    (o_times : PySem.W.nsIn K dO "times" = some (some (.ref fC7)))
    (o_same : PySem.W.nsIn K dO "same" = some (some (.ref fC8)))
    (o_below : PySem.W.nsIn K dO "below" = some (some (.ref fC9)))
    (o_tell : PySem.W.nsIn K dO "tell" = some none)
    (o_lay : PySem.W.nsIn K dO "lay" = some none) :
    ∃ fd : FuncData, (∀ (s : Shared) (v : Value), BindsTo s fd ⟨[v], []⟩ [("_law_script", v)]) ∧ ∀ base : Heap, K.In base → base.Ns mainGlobals mg → FnG l.prog w K mg base fa fd ["_law_script"] (spLaw K) := by
  have ez := hfa.symm.trans (PySem.W.mg_of X G aZ)
  cases ez
  have FN := fun_mk (st := sNamed) lN cN kN
  have DN : Df K mg "blocks_named" sNamed ["end"] fN _ := ⟨FN, FN.binds (ps := ["end"]) fun _ _ _ _ _ _ us hl => match us, hl with | [_], _ => rfl, PySem.W.mg_of X G aN⟩
  have FO := fun_mk (st := sLeadsOf) lO cO kO
  have DO : Df K mg "leads_of" sLeadsOf ["program"] fO _ := ⟨FO, FO.binds (ps := ["program"]) fun _ _ _ _ _ _ us hl => match us, hl with | [_], _ => rfl, PySem.W.mg_of X G aO⟩
  have FE := fun_mk (st := sTape) lE cE kE
  have DE : Df K mg "_law_tape" sTape ["_law_script", "_law_k"] fE _ := ⟨FE, FE.binds (ps := ["_law_script", "_law_k"]) fun _ _ _ _ _ _ us hl => match us, hl with | [_, _], _ => rfl, PySem.W.mg_of X G aE⟩
  have FD := fun_mk (st := sDraw) lD cD kD
  have DD : Df K mg "_law_draw" sDraw ["_law_tape_here", "_law_many_here"] fD _ := ⟨FD, FD.binds (ps := ["_law_tape_here", "_law_many_here"]) fun _ _ _ _ _ _ us hl => match us, hl with | [_, _], _ => rfl, PySem.W.mg_of X G aD⟩
  have FX := fun_mk (st := sNexts) lX cX kX
  have DX : Df K mg "_law_nexts" sNexts ["_law_tape_here", "_law_many_here"] fX _ := ⟨FX, FX.binds (ps := ["_law_tape_here", "_law_many_here"]) fun _ _ _ _ _ _ us hl => match us, hl with | [_, _], _ => rfl, PySem.W.mg_of X G aX⟩
  have FL := fun_mk (st := sLeads) lL cL kL
  have DL : Df K mg "_law_leads" sLeads ["_law_nexts_here"] fL _ := ⟨FL, FL.binds (ps := ["_law_nexts_here"]) fun _ _ _ _ _ _ us hl => match us, hl with | [_], _ => rfl, PySem.W.mg_of X G aL⟩
  have FR := fun_mk (st := sReached) lR cR kR
  have DR : Df K mg "_law_reached" sReached ["_law_nexts_here", "_law_without"] fR _ := ⟨FR, FR.binds (ps := ["_law_nexts_here", "_law_without"]) fun _ _ _ _ _ _ us hl => match us, hl with | [_, _], _ => rfl, PySem.W.mg_of X G aR⟩
  have FV := fun_mk (st := sAbove) lV cV kV
  have DV : Df K mg "_law_above" sAbove ["_law_nexts_here"] fV _ := ⟨FV, FV.binds (ps := ["_law_nexts_here"]) fun _ _ _ _ _ _ us hl => match us, hl with | [_], _ => rfl, PySem.W.mg_of X G aV⟩
  have FS := fun_mk (st := sStanding) lS cS kS
  have DS : Df K mg "_law_standing" sStanding ["_law_state", "_law_block"] fS _ := ⟨FS, FS.binds (ps := ["_law_state", "_law_block"]) fun _ _ _ _ _ _ us hl => match us, hl with | [_, _], _ => rfl, PySem.W.mg_of X G aS⟩
  have FP := fun_mk (st := sPut) lP cP kP
  have DP : Df K mg "_law_put" sPut ["_law_state", "_law_block", "_law_row", "_law_wide", "_law_deep"] fP _ := ⟨FP, FP.binds (ps := ["_law_state", "_law_block", "_law_row", "_law_wide", "_law_deep"]) fun _ _ _ _ _ _ us hl => match us, hl with | [_, _, _, _, _], _ => rfl, PySem.W.mg_of X G aP⟩
  have FU := fun_mk (st := sNumber) lU cU kU
  have DU : Df K mg "_law_number" sNumber ["_law_tape_here"] fU _ := ⟨FU, FU.binds (ps := ["_law_tape_here"]) fun _ _ _ _ _ _ us hl => match us, hl with | [_], _ => rfl, PySem.W.mg_of X G aU⟩
  have FG := fun_mk (st := sAgain) lG cG kG
  have DG : Df K mg "_law_again" sAgain ["_law_tape_here", "_law_state", "_law_some"] fG _ := ⟨FG, FG.binds (ps := ["_law_tape_here", "_law_state", "_law_some"]) fun _ _ _ _ _ _ us hl => match us, hl with | [_, _, _], _ => rfl, PySem.W.mg_of X G aG⟩
  have FW := fun_mk (st := sDrawn) lW cW kW
  have DW : Df K mg "_law_drawn_row" sDrawn ["_law_tape_here", "_law_state", "_law_some"] fW _ := ⟨FW, FW.binds (ps := ["_law_tape_here", "_law_state", "_law_some"]) fun _ _ _ _ _ _ us hl => match us, hl with | [_, _, _], _ => rfl, PySem.W.mg_of X G aW⟩
  have FA := fun_mk (st := sAdd) lA cA kA
  have DA : Df K mg "_law_add" sAdd ["_law_tape_here", "_law_state", "_law_block"] fA _ := ⟨FA, FA.binds (ps := ["_law_tape_here", "_law_state", "_law_block"]) fun _ _ _ _ _ _ us hl => match us, hl with | [_, _, _], _ => rfl, PySem.W.mg_of X G aA⟩
  have FM := fun_mk (st := sMeet) lM cM kM
  have DM : Df K mg "_law_meet" sMeet ["_law_tape_here", "_law_state", "_law_block"] fM _ := ⟨FM, FM.binds (ps := ["_law_tape_here", "_law_state", "_law_block"]) fun _ _ _ _ _ _ us hl => match us, hl with | [_, _, _], _ => rfl, PySem.W.mg_of X G aM⟩
  have FT := fun_mk (st := sLater) lT cT kT
  have DT : Df K mg "_law_later" sLater ["_law_tape_here", "_law_state"] fT _ := ⟨FT, FT.binds (ps := ["_law_tape_here", "_law_state"]) fun _ _ _ _ _ _ us hl => match us, hl with | [_, _], _ => rfl, PySem.W.mg_of X G aT⟩
  have FQ := fun_mk (st := sProgram) lQ cQ kQ
  have DQ : Df K mg "_law_program" sProgram ["_law_tape_here", "_law_many_here", "_law_most"] fQ _ := ⟨FQ, FQ.binds (ps := ["_law_tape_here", "_law_many_here", "_law_most"]) fun _ _ _ _ _ _ us hl => match us, hl with | [_, _, _], _ => rfl, PySem.W.mg_of X G aQ⟩
  have FH := fun_mk (st := sRoom) lH cH kH
  have DH : Df K mg "_law_room_row" sRoom ["_law_tape_here", "_law_state", "_law_some"] fH _ := ⟨FH, FH.binds (ps := ["_law_tape_here", "_law_state", "_law_some"]) fun _ _ _ _ _ _ us hl => match us, hl with | [_, _, _], _ => rfl, PySem.W.mg_of X G aH⟩
  have FC1 := fun_mk (st := sTakes) lC1 cC1 kC1
  have DC1 : Df K mg "_law_takes" sTakes ["_law_tape_here"] fC1 _ := ⟨FC1, FC1.binds (ps := ["_law_tape_here"]) fun _ _ _ _ _ _ us hl => match us, hl with | [_], _ => rfl, PySem.W.mg_of X G aC1⟩
  have FY := fun_mk (st := sMany) lY cY kY
  have DY : Df K mg "_law_many" sMany ["_law_tape_here"] fY _ := ⟨FY, FY.binds (ps := ["_law_tape_here"]) fun _ _ _ _ _ _ us hl => match us, hl with | [_], _ => rfl, PySem.W.mg_of X G aY⟩
  have FC2 := fun_mk (st := sFlat) lC2 cC2 kC2
  have DC2 : Df K mg "_law_flat" sFlat ["_law_program_here"] fC2 _ := ⟨FC2, FC2.binds (ps := ["_law_program_here"]) fun _ _ _ _ _ _ us hl => match us, hl with | [_], _ => rfl, PySem.W.mg_of X G aC2⟩
  have FC3 := fun_mk (st := sOwnRun) lC3 cC3 kC3
  have DC3 : Df K mg "_law_run" sOwnRun ["_law_program_here", "_law_takes_here", "_law_most"] fC3 _ := ⟨FC3, FC3.binds (ps := ["_law_program_here", "_law_takes_here", "_law_most"]) fun _ _ _ _ _ _ us hl => match us, hl with | [_, _, _], _ => rfl, PySem.W.mg_of X G aC3⟩
  have FI1 := fun_mk (st := sNext) lI1 cI1 kI1
  have DI1 : Df K mg "_law_next" sNext ["_law_end", "_law_worths"] fI1 _ := ⟨FI1, FI1.binds (ps := ["_law_end", "_law_worths"]) fun _ _ _ _ _ _ us hl => match us, hl with | [_, _], _ => rfl, PySem.W.mg_of X G aI1⟩
  have FI2 := fun_mk (st := sWorth) lI2 cI2 kI2
  have DI2 : Df K mg "_law_worth" sWorth ["_law_row", "_law_worths", "_law_takes_here"] fI2 _ := ⟨FI2, FI2.binds (ps := ["_law_row", "_law_worths", "_law_takes_here"]) fun _ _ _ _ _ _ us hl => match us, hl with | [_, _, _], _ => rfl, PySem.W.mg_of X G aI2⟩
  have FC4 := fun_mk (st := sIsMeet) lC4 cC4 kC4
  have DC4 : Df K mg "is_meet" sIsMeet ["row"] fC4 _ := ⟨FC4, FC4.binds (ps := ["row"]) fun _ _ _ _ _ _ us hl => match us, hl with | [_], _ => rfl, PySem.W.mg_of X G aC4⟩
  have FC5 := fun_mk (st := sSummed) lC5 cC5 kC5
  have DC5 : Df K mg "summed" sSummed ["one", "other"] fC5 _ := ⟨FC5, FC5.binds (ps := ["one", "other"]) fun _ _ _ _ _ _ us hl => match us, hl with | [_, _], _ => rfl, PySem.W.mg_of X G aC5⟩
  have FC6 := fun_mk (st := sLessened) lC6 cC6 kC6
  have DC6 : Df K mg "lessened" sLessened ["one", "other"] fC6 _ := ⟨FC6, FC6.binds (ps := ["one", "other"]) fun _ _ _ _ _ _ us hl => match us, hl with | [_, _], _ => rfl, PySem.W.mg_of X G aC6⟩
  have FC7 := fun_mk (st := sProduct) lC7 cC7 kC7
  have DC7 : Df K mg "product" sProduct ["one", "other"] fC7 _ := ⟨FC7, FC7.binds (ps := ["one", "other"]) fun _ _ _ _ _ _ us hl => match us, hl with | [_, _], _ => rfl, PySem.W.mg_of X G aC7⟩
  have FC8 := fun_mk (st := sTSame) lC8 cC8 kC8
  have DC8 : Df K mg "tested_same" sTSame ["one", "other"] fC8 _ := ⟨FC8, FC8.binds (ps := ["one", "other"]) fun _ _ _ _ _ _ us hl => match us, hl with | [_, _], _ => rfl, PySem.W.mg_of X G aC8⟩
  have FC9 := fun_mk (st := sTBelow) lC9 cC9 kC9
  have DC9 : Df K mg "tested_below" sTBelow ["one", "other"] fC9 _ := ⟨FC9, FC9.binds (ps := ["one", "other"]) fun _ _ _ _ _ _ us hl => match us, hl with | [_, _], _ => rfl, PySem.W.mg_of X G aC9⟩
  have FB1 := fun_mk (st := sPicked) lB1 cB1 kB1
  have DB1 : Df K mg "picked" sPicked ["things", "number"] fB1 _ := ⟨FB1, FB1.binds (ps := ["things", "number"]) fun _ _ _ _ _ _ us hl => match us, hl with | [_, _], _ => rfl, PySem.W.mg_of X G aB1⟩
  have FB2 := fun_mk (st := sGreat) lB2 cB2 kB2
  have DB2 : Df K mg "is_too_great" sGreat ["worth"] fB2 _ := ⟨FB2, FB2.binds (ps := ["worth"]) fun _ _ _ _ _ _ us hl => match us, hl with | [_], _ => rfl, PySem.W.mg_of X G aB2⟩
  have FR1 := fun_mk (st := sRowsOf) lR1 cR1 kR1
  have DR1 : Df K mg "rows_of" sRowsOf ["program"] fR1 _ := ⟨FR1, FR1.binds (ps := ["program"]) fun _ _ _ _ _ _ us hl => match us, hl with | [_], _ => rfl, PySem.W.mg_of X G aR1⟩
  have FR2 := fun_mk (st := sIsReck) lR2 cR2 kR2
  have DR2 : Df K mg "is_reckoning" sIsReck ["row"] fR2 _ := ⟨FR2, FR2.binds (ps := ["row"]) fun _ _ _ _ _ _ us hl => match us, hl with | [_], _ => rfl, PySem.W.mg_of X G aR2⟩
  have FR3 := fun_mk (st := sReck) lR3 cR3 kR3
  have DR3 : Df K mg "reckoned" sReck ["program", "done"] fR3 _ := ⟨FR3, FR3.binds (ps := ["program", "done"]) fun _ _ _ _ _ _ us hl => match us, hl with | [_, _], _ => rfl, PySem.W.mg_of X G aR3⟩
  have FR4 := fun_mk (st := sTimes) lR4 cR4 kR4
  have DR4 : Df K mg "times_done" sTimes ["program", "done"] fR4 _ := ⟨FR4, FR4.binds (ps := ["program", "done"]) fun _ _ _ _ _ _ us hl => match us, hl with | [_, _], _ => rfl, PySem.W.mg_of X G aR4⟩
  have FB3 := fun_mk (st := sWay) lB3 cB3 kB3
  have DB3 : Df K mg "way_of" sWay ["program", "takes", "most"] fB3 _ := ⟨FB3, FB3.binds (ps := ["program", "takes", "most"]) fun _ _ _ _ _ _ us hl => match us, hl with | [_, _, _], _ => rfl, PySem.W.mg_of X G aB3⟩
  have FZ := fun_mk (st := sLaw) lZ cZ kZ
  have B : Bi mg := ⟨PySem.W.mg_none_of X G z_len, PySem.W.mg_none_of X G z_abs, PySem.W.mg_none_of X G z_int, PySem.W.mg_none_of X G z_range, PySem.W.mg_none_of X G z_max, PySem.W.mg_none_of X G z_min, PySem.W.mg_none_of X G z_list, PySem.W.mg_none_of X G z_tuple, PySem.W.mg_none_of X G z_sorted, PySem.W.mg_none_of X G z_set, PySem.W.mg_none_of X G z_enumerate, PySem.W.mg_none_of X G z_zip, PySem.W.mg_none_of X G z_sum, PySem.W.mg_none_of X G z_repr, PySem.W.mg_none_of X G z_any, PySem.W.mg_none_of X G z_isinstance, PySem.W.mg_none_of X G z_bool⟩
  have TM : MTxt K mg CW := ⟨⟨pg, hd, po, sa⟩, n_program, n_takes, n_most, n_leads, n_begins, n_steps, n_lasts, n_rooms, n_way, n_told, n_done, PySem.W.mg_of X G aMa⟩
  have FM1 := fun_mk (st := sMInit) lm1 cm1 km1
  have bM1 := FM1.binds (ps := ["self", "program", "takes", "most"]) fun _ _ _ _ _ _ us hl => match us, hl with | [_, _, _, _], _ => rfl
  have FM2 := fun_mk (st := sGoOn) lm2 cm2 km2
  have bM2 := FM2.binds (ps := ["self"]) fun _ _ _ _ _ _ us hl => match us, hl with | [_], _ => rfl
  have FM3 := fun_mk (st := sDoRows) lm3 cm3 km3
  have bM3 := FM3.binds (ps := ["self", "block", "brought"]) fun _ _ _ _ _ _ us hl => match us, hl with | [_, _, _], _ => rfl
  have FM4 := fun_mk (st := sBrought) lm4 cm4 km4
  have bM4 := FM4.binds (ps := ["self", "lead", "block"]) fun _ _ _ _ _ _ us hl => match us, hl with | [_, _, _], _ => rfl
  have FM5 := fun_mk (st := sBehind) lm5 cm5 km5
  have bM5 := FM5.binds (ps := ["self", "end"]) fun _ _ _ _ _ _ us hl => match us, hl with | [_, _], _ => rfl
  have FM6 := fun_mk (st := sWorthOf) lm6 cm6 km6
  have bM6 := FM6.binds (ps := ["self", "row"]) fun _ _ _ _ _ _ us hl => match us, hl with | [_, _], _ => rfl
  have FM7 := fun_mk (st := sDoRow) lm7 cm7 km7
  have bM7 := FM7.binds (ps := ["self", "number", "row", "worth"]) fun _ _ _ _ _ _ us hl => match us, hl with | [_, _, _, _], _ => rfl
  have sz : ∀ {xs : List V} {its : Array Value}, Vals xs its.toList → xs.length ≤ 9 → its.size ≤ sizeLine := fun {xs its} v h => by
    have e := v.length
    have e2 : its.toList.length = its.size := Array.length_toList
    exact szl (by omega)
  have EP : Ep K w mg dE g1 g2 g3 := ⟨PySem.W.mg_of X G eE, ⟨es, nE, _, eL, eK, e1, rfl⟩, ⟨es, nE, _, eL, eK, e2, rfl⟩, ⟨es, nE, _, eL, eK, e3, rfl⟩, fun H => .inr ⟨_, i1, j1, t1, rfl, rfl, sz v1 (by decide), v1⟩, fun H => .inr ⟨_, i2, j2, t2, rfl, rfl, sz v2 (by decide), v2⟩, fun H => .inr ⟨_, i3, j3, t3, rfl, rfl, sz v3 (by decide), v3⟩⟩
  refine ⟨PySem.W.fnOf "law" "law" (defArgs sLaw) (defBody sLaw) (defScope sLaw) .none kVZ dcZ pmZ anZ cdZ ctZ, fun s v => .of_eq rfl, fun base hK hN => ?_⟩
  have GN : FnOk l.prog w K mg base CX0 1 fN _ ["end"] (spNamed K) := ok_named DN B EP
  have GD : FnOk l.prog w K mg base CX0 1 fD _ ["_law_tape_here", "_law_many_here"] spDraw := ok_draw DD
  have GL : FnOk l.prog w K mg base CX0 1 fL _ ["_law_nexts_here"] (spLeads K) := ok_leads DL B
  have GR : FnOk l.prog w K mg base CX0 1 fR _ ["_law_nexts_here", "_law_without"] (spReached K) := ok_reached DR B
  have GS : FnOk l.prog w K mg base CX0 1 fS _ ["_law_state", "_law_block"] (spStanding K) := ok_standing DS B
  have GP : FnOk l.prog w K mg base CX0 1 fP _ ["_law_state", "_law_block", "_law_row", "_law_wide", "_law_deep"] (spPut K) := ok_put DP
  have GE : FnOk l.prog w K mg base CX0 1 fE _ ["_law_script", "_law_k"] (spTape K) := ok_tape DE B
  have GC2 : FnOk l.prog w K mg base CX0 1 fC2 _ ["_law_program_here"] (spFlat K) := ok_flat DC2 B
  have GR1 : FnOk l.prog w K mg base CX0 1 fR1 _ ["program"] (spRowsOf K) := ok_rowsOf DR1 B
  have GR2 : FnOk l.prog w K mg base CX0 1 fR2 _ ["row"] (spIsReck K) := ok_isReck DR2 (PySem.W.mg_of X G rE) (fun H => .inr ⟨_, iR, jR, tR, rfl, rfl, sz vR (by decide), vR⟩)
  have GR3 : FnOk l.prog w K mg base CX0 2 fR3 _ ["program", "done"] (spReck K) := ok_reck DR3 B DR1 (GR1.mono (by decide)) DR2 (GR2.mono (by decide))
  have GR4 : FnOk l.prog w K mg base CX0 2 fR4 _ ["program", "done"] (spTimes K) := ok_times DR4 B DR1 (GR1.mono (by decide))
  have GI1 : FnOk l.prog w K mg base CX0 1 fI1 _ ["_law_end", "_law_worths"] (spNext K) := ok_next DI1
  have GI2 : FnOk l.prog w K mg base CX0 1 fI2 _ ["_law_row", "_law_worths", "_law_takes_here"] (spWorth K) := ok_worth DI2 B
  have GC4 : FnOk l.prog w K mg base CX0 1 fC4 _ ["row"] (spIsMeet K) := ok_isMeet DC4
  have GC5 : FnOk l.prog w K mg base CX0 1 fC5 _ ["one", "other"] (spOp .sum) := ok_summed DC5
  have GC6 : FnOk l.prog w K mg base CX0 1 fC6 _ ["one", "other"] (spOp .less) := ok_lessened DC6
  have GC7 : FnOk l.prog w K mg base CX0 1 fC7 _ ["one", "other"] (spOp .times) := ok_product DC7
  have GC8 : FnOk l.prog w K mg base CX0 1 fC8 _ ["one", "other"] (spOp .same) := ok_tsame DC8
  have GC9 : FnOk l.prog w K mg base CX0 1 fC9 _ ["one", "other"] (spOp .below) := ok_tbelow DC9
  have GB1 : FnOk l.prog w K mg base CX0 1 fB1 _ ["things", "number"] (spPicked K) := ok_picked DB1 B
  have GB2 : FnOk l.prog w K mg base CX0 1 fB2 _ ["worth"] spGreat := ok_great DB2 (PySem.W.mg_of X G hG)
  have GO : FnOk l.prog w K mg base CX0 2 fO _ ["program"] (spLeadsOf K) := ok_leadsOf DO B DN (GN.mono (by decide))
  have GX : FnOk l.prog w K mg base CX0 2 fX _ ["_law_tape_here", "_law_many_here"] (spNexts K) := ok_nexts DX B DD (GD.mono (by decide))
  have GV : FnOk l.prog w K mg base CX0 2 fV _ ["_law_nexts_here"] (spAbove K) := ok_above DV B DR (GR.mono (by decide))
  have GU : FnOk l.prog w K mg base CX0 2 fU _ ["_law_tape_here"] spNumber := ok_number DU DD (GD.mono (by decide))
  have GC1 : FnOk l.prog w K mg base CX0 2 fC1 _ ["_law_tape_here"] spTakes := ok_takes DC1 B DD (GD.mono (by decide))
  have GY : FnOk l.prog w K mg base CX0 2 fY _ ["_law_tape_here"] spMany := ok_many DY B DD (GD.mono (by decide))
  have GC3 : FnOk l.prog w K mg base CX0 2 fC3 _ ["_law_program_here", "_law_takes_here", "_law_most"] (spOwnRun K) := ok_ownRun DC3 B (PySem.W.mg_none_of X G z_dict) DC2 (GC2.mono (by decide)) DI2 (GI2.mono (by decide)) DI1 (GI1.mono (by decide))
  have GG : FnOk l.prog w K mg base CX0 2 fG _ ["_law_tape_here", "_law_state", "_law_some"] (spAgain K) := ok_again DG B DD (GD.mono (by decide))
  have GM : FnOk l.prog w K mg base CX0 2 fM _ ["_law_tape_here", "_law_state", "_law_block"] (spMeet K) := ok_meet DM B DD (GD.mono (by decide)) DS (GS.mono (by decide)) DP (GP.mono (by decide))
  have GT : FnOk l.prog w K mg base CX0 2 fT _ ["_law_tape_here", "_law_state"] (spLater K) := ok_later DT B DD (GD.mono (by decide)) DS (GS.mono (by decide))
  have GW : FnOk l.prog w K mg base CX0 3 fW _ ["_law_tape_here", "_law_state", "_law_some"] (spDrawn K) := ok_drawn DW B DD (GD.mono (by decide)) DU (GU.mono (by decide)) DG (GG.mono (by decide))
  have GH : FnOk l.prog w K mg base CX0 2 fH _ ["_law_tape_here", "_law_state", "_law_some"] (spRoom K) := ok_room DH B DD (GD.mono (by decide))
  have GA : FnOk l.prog w K mg base CX0 4 fA _ ["_law_tape_here", "_law_state", "_law_block"] (spAdd K) := ok_add DA B DS (GS.mono (by decide)) DW (GW.mono (by decide)) DH (GH.mono (by decide)) DD (GD.mono (by decide)) DP (GP.mono (by decide))
  have GQ : FnOk l.prog w K mg base CX0 5 fQ _ ["_law_tape_here", "_law_many_here", "_law_most"] (spProgram K) := ok_program DQ B DD (GD.mono (by decide)) DX (GX.mono (by decide)) DL (GL.mono (by decide)) DV (GV.mono (by decide)) DS (GS.mono (by decide)) DP (GP.mono (by decide)) DA (GA.mono (by decide)) DM (GM.mono (by decide)) DT (GT.mono (by decide))
  have RC5 : FnR l.prog w K mg base CX0 1 fC5 (spOp .sum) := (FnOk.raw GC5 DC5.b .nil).imp fun vs H Q E h => by rw [List.append_nil]; exact h
  have RC6 : FnR l.prog w K mg base CX0 1 fC6 (spOp .less) := (FnOk.raw GC6 DC6.b .nil).imp fun vs H Q E h => by rw [List.append_nil]; exact h
  have RC7 : FnR l.prog w K mg base CX0 1 fC7 (spOp .times) := (FnOk.raw GC7 DC7.b .nil).imp fun vs H Q E h => by rw [List.append_nil]; exact h
  have RC8 : FnR l.prog w K mg base CX0 1 fC8 (spOp .same) := (FnOk.raw GC8 DC8.b .nil).imp fun vs H Q E h => by rw [List.append_nil]; exact h
  have RC9 : FnR l.prog w K mg base CX0 1 fC9 (spOp .below) := (FnOk.raw GC9 DC9.b .nil).imp fun vs H Q E h => by rw [List.append_nil]; exact h
  have O : OfTwo l.prog w K mg base 1 (fun b => match b with | .sum => fC5 | .less => fC6 | .times => fC7 | .same => fC8 | .below => fC9) dO es2 nE2 := ⟨⟨oL, oK, oS⟩, PySem.W.mg_of X G oE, fun b => match b with | .sum => o_sum | .less => o_less | .times => o_times | .same => o_same | .below => o_below, o_tell, o_lay, fun b => match b with | .sum => RC5 | .less => RC6 | .times => RC7 | .same => RC8 | .below => RC9, fun b => match b with | .sum => kC5 | .less => kC6 | .times => kC7 | .same => kC8 | .below => kC9⟩
  have GM1 : FnOk l.prog w K mg base CX0 3 fm1 _ ["self", "program", "takes", "most"] (spMInit K CW) := ok_minit (k := 2) FM1 TM B (PySem.W.mg_of X G h6) DO GO
  have GM6 : FnOk l.prog w K mg base CX0 2 fm6 _ ["self", "row"] (spWorthOf K CW) := ok_worthOf (k := 1) FM6 TM O DB1 GB1
  have GM7 : FnOk l.prog w K mg base CX0 2 fm7 _ ["self", "number", "row", "worth"] (spDoRow K CW) := ok_doRow (k := 1) FM7 TM DB1 GB1
  have GM4 : FnOk l.prog w K mg base CX0 2 fm4 _ ["self", "lead", "block"] (spBrt K CW) := ok_brt (k := 1) FM4 TM DC4 GC4
  have GM5 : FnOk l.prog w K mg base CX0 1 fm5 _ ["self", "end"] (spBehind K CW) := ok_behind (k := 0) FM5 TM
  have GM3 : FnOk l.prog w K mg base CX0 3 fm3 _ ["self", "block", "brought"] (spDoRows K CW) := ok_doRows (k := 2) FM3 TM B DC4 (GC4.mono (by decide)) DB2 (GB2.mono (by decide)) ⟨am6, nm6, km6⟩ bM6 GM6 ⟨am7, nm7, km7⟩ bM7 GM7
  have GM2 : FnOk l.prog w K mg base CX0 4 fm2 _ ["self"] (spGoOn K CW) := ok_goOn (k := 3) FM2 TM ⟨am3, nm3, km3⟩ bM3 GM3 ⟨am5, nm5, km5⟩ bM5 (GM5.mono (by decide)) ⟨am4, nm4, km4⟩ bM4 (GM4.mono (by decide))
  have GB3 : FnOk l.prog w K mg base CX0 5 fB3 _ ["program", "takes", "most"] (spWay K) := ok_way (k := 3) DB3 TM ⟨mk, am1, nm1, kc⟩ bM1 GM1 ⟨am2, nm2, km2⟩ bM2 GM2
  exact ok_law (k := 5) FZ B ⟨rfl, by decide, by decide⟩ DE (GE.mono (by decide)) DQ (GQ.mono (by decide)) DY (GY.mono (by decide)) DD (GD.mono (by decide)) DC1 (GC1.mono (by decide)) DC3 (GC3.mono (by decide)) DC2 (GC2.mono (by decide)) DR3 (GR3.mono (by decide)) DR4 (GR4.mono (by decide)) DB3 GB3
end Gn
set_option Elab.async false
set_option linter.all false
set_option maxRecDepth 100000
open PySem PySem.W PyProof.Rows
set_option maxHeartbeats 0 in
theorem PySem.Challenge.cw_sameworth_k10_runs_counted_holds : PySem.Challenge.rw_sameworth_k10_runs_counted.Holds := by
  w_on; o_law; k_head; (case hw => w_witness2)
  k_fill
  refine Gn.walkG (l := PySem.Challenge.rw_sameworth_k10_runs_counted) (n := 63) (x := "_law_script") (sp := fun w => Gn.spLaw _) rfl (by decide) rfl (fun w h Y => PySem.W.kIn_of Y) ?F (fun _ _ a ns hl _ hS => ⟨a, ns, rfl, hS, hl, fun _ => rfl⟩)
  case F =>
    intro w mg fa h KX G hmg
    refine' Gn.all_mk KX G hmg ?aN ?lN ?cN ?kN ?aO ?lO ?cO ?kO ?aE ?lE ?cE ?kE ?aD ?lD ?cD ?kD ?aX ?lX ?cX ?kX ?aL ?lL ?cL ?kL ?aR ?lR ?cR ?kR ?aV ?lV ?cV ?kV ?aS ?lS ?cS ?kS ?aP ?lP ?cP ?kP ?aU ?lU ?cU ?kU ?aG ?lG ?cG ?kG ?aW ?lW ?cW ?kW ?aA ?lA ?cA ?kA ?aM ?lM ?cM ?kM ?aT ?lT ?cT ?kT ?aQ ?lQ ?cQ ?kQ ?aH ?lH ?cH ?kH ?aC1 ?lC1 ?cC1 ?kC1 ?aY ?lY ?cY ?kY ?aC2 ?lC2 ?cC2 ?kC2 ?aC3 ?lC3 ?cC3 ?kC3 ?aI1 ?lI1 ?cI1 ?kI1 ?aI2 ?lI2 ?cI2 ?kI2 ?aC4 ?lC4 ?cC4 ?kC4 ?aC5 ?lC5 ?cC5 ?kC5 ?aC6 ?lC6 ?cC6 ?kC6 ?aC7 ?lC7 ?cC7 ?kC7 ?aC8 ?lC8 ?cC8 ?kC8 ?aC9 ?lC9 ?cC9 ?kC9 ?aB1 ?lB1 ?cB1 ?kB1 ?aB2 ?lB2 ?cB2 ?kB2 ?aR1 ?lR1 ?cR1 ?kR1 ?aR2 ?lR2 ?cR2 ?kR2 ?aR3 ?lR3 ?cR3 ?kR3 ?aR4 ?lR4 ?cR4 ?kR4 ?aB3 ?lB3 ?cB3 ?kB3 ?aZ ?lZ ?cZ ?kZ ?z_len ?z_abs ?z_int ?z_range ?z_max ?z_min ?z_list ?z_tuple ?z_sorted ?z_set ?z_enumerate ?z_zip ?z_sum ?z_repr ?z_any ?z_isinstance ?z_bool ?z_dict ?eE ?eL ?eK ?e1 ?e2 ?e3 ?t1 ?t2 ?t3 ?v1 ?v2 ?v3 ?rE ?tR ?vR ?aMa ?am1 ?nm1 ?lm1 ?cm1 ?km1 ?am2 ?nm2 ?lm2 ?cm2 ?km2 ?am3 ?nm3 ?lm3 ?cm3 ?km3 ?am4 ?nm4 ?lm4 ?cm4 ?km4 ?am5 ?nm5 ?lm5 ?cm5 ?km5 ?am6 ?nm6 ?lm6 ?cm6 ?km6 ?am7 ?nm7 ?lm7 ?cm7 ?km7 ?pg ?hd ?po ?sa ?mk ?kc ?n_program ?n_takes ?n_most ?n_leads ?n_begins ?n_steps ?n_lasts ?n_rooms ?n_way ?n_told ?n_done ?hG ?h6 ?oE ?oL ?oK ?oS ?o_sum ?o_less ?o_times ?o_same ?o_below ?o_tell ?o_lay
    (case aN => k_is); (case lN => k_is); (case cN => k_is); (case kN => k_is); (case aO => k_is); (case lO => k_is); (case cO => k_is); (case kO => k_is); (case aE => k_is); (case lE => k_is); (case cE => k_is); (case kE => k_is); (case aD => k_is); (case lD => k_is); (case cD => k_is); (case kD => k_is); (case aX => k_is); (case lX => k_is); (case cX => k_is); (case kX => k_is); (case aL => k_is); (case lL => k_is); (case cL => k_is); (case kL => k_is); (case aR => k_is); (case lR => k_is); (case cR => k_is); (case kR => k_is); (case aV => k_is); (case lV => k_is); (case cV => k_is); (case kV => k_is); (case aS => k_is); (case lS => k_is); (case cS => k_is); (case kS => k_is); (case aP => k_is); (case lP => k_is); (case cP => k_is); (case kP => k_is); (case aU => k_is); (case lU => k_is); (case cU => k_is); (case kU => k_is); (case aG => k_is); (case lG => k_is); (case cG => k_is); (case kG => k_is); (case aW => k_is); (case lW => k_is); (case cW => k_is); (case kW => k_is); (case aA => k_is); (case lA => k_is); (case cA => k_is); (case kA => k_is); (case aM => k_is); (case lM => k_is); (case cM => k_is); (case kM => k_is); (case aT => k_is); (case lT => k_is); (case cT => k_is); (case kT => k_is); (case aQ => k_is); (case lQ => k_is); (case cQ => k_is); (case kQ => k_is); (case aH => k_is); (case lH => k_is); (case cH => k_is); (case kH => k_is); (case aC1 => k_is); (case lC1 => k_is); (case cC1 => k_is); (case kC1 => k_is); (case aY => k_is); (case lY => k_is); (case cY => k_is); (case kY => k_is); (case aC2 => k_is); (case lC2 => k_is); (case cC2 => k_is); (case kC2 => k_is); (case aC3 => k_is); (case lC3 => k_is); (case cC3 => k_is); (case kC3 => k_is); (case aI1 => k_is); (case lI1 => k_is); (case cI1 => k_is); (case kI1 => k_is); (case aI2 => k_is); (case lI2 => k_is); (case cI2 => k_is); (case kI2 => k_is); (case aC4 => k_is); (case lC4 => k_is); (case cC4 => k_is); (case kC4 => k_is); (case aC5 => k_is); (case lC5 => k_is); (case cC5 => k_is); (case kC5 => k_is); (case aC6 => k_is); (case lC6 => k_is); (case cC6 => k_is); (case kC6 => k_is); (case aC7 => k_is); (case lC7 => k_is); (case cC7 => k_is); (case kC7 => k_is); (case aC8 => k_is); (case lC8 => k_is); (case cC8 => k_is); (case kC8 => k_is); (case aC9 => k_is); (case lC9 => k_is); (case cC9 => k_is); (case kC9 => k_is); (case aB1 => k_is); (case lB1 => k_is); (case cB1 => k_is); (case kB1 => k_is); (case aB2 => k_is); (case lB2 => k_is); (case cB2 => k_is); (case kB2 => k_is); (case aR1 => k_is); (case lR1 => k_is); (case cR1 => k_is); (case kR1 => k_is); (case aR2 => k_is); (case lR2 => k_is); (case cR2 => k_is); (case kR2 => k_is); (case aR3 => k_is); (case lR3 => k_is); (case cR3 => k_is); (case kR3 => k_is); (case aR4 => k_is); (case lR4 => k_is); (case cR4 => k_is); (case kR4 => k_is); (case aB3 => k_is); (case lB3 => k_is); (case cB3 => k_is); (case kB3 => k_is); (case aZ => k_is); (case lZ => k_is); (case cZ => k_is); (case kZ => k_is); (case z_len => k_is); (case z_abs => k_is); (case z_int => k_is); (case z_range => k_is); (case z_max => k_is); (case z_min => k_is); (case z_list => k_is); (case z_tuple => k_is); (case z_sorted => k_is); (case z_set => k_is); (case z_enumerate => k_is); (case z_zip => k_is); (case z_sum => k_is); (case z_repr => k_is); (case z_any => k_is); (case z_isinstance => k_is); (case z_bool => k_is); (case z_dict => k_is); (case eE => k_is); (case eL => k_is); (case e1 => k_is); (case e2 => k_is); (case e3 => k_is); (case t1 => k_is); (case t2 => k_is); (case t3 => k_is); (case rE => k_is); (case tR => k_is); (case aMa => k_is); (case am1 => k_is); (case nm1 => k_is); (case lm1 => k_is); (case cm1 => k_is); (case km1 => k_is); (case am2 => k_is); (case nm2 => k_is); (case lm2 => k_is); (case cm2 => k_is); (case km2 => k_is); (case am3 => k_is); (case nm3 => k_is); (case lm3 => k_is); (case cm3 => k_is); (case km3 => k_is); (case am4 => k_is); (case nm4 => k_is); (case lm4 => k_is); (case cm4 => k_is); (case km4 => k_is); (case am5 => k_is); (case nm5 => k_is); (case lm5 => k_is); (case cm5 => k_is); (case km5 => k_is); (case am6 => k_is); (case nm6 => k_is); (case lm6 => k_is); (case cm6 => k_is); (case km6 => k_is); (case am7 => k_is); (case nm7 => k_is); (case lm7 => k_is); (case cm7 => k_is); (case km7 => k_is); (case pg => k_is); (case hd => k_is); (case po => k_is); (case sa => k_is); (case mk => k_is); (case kc => k_is); (case n_program => k_is); (case n_takes => k_is); (case n_most => k_is); (case n_leads => k_is); (case n_begins => k_is); (case n_steps => k_is); (case n_lasts => k_is); (case n_rooms => k_is); (case n_way => k_is); (case n_told => k_is); (case n_done => k_is); (case hG => k_is); (case h6 => k_is); (case oE => k_is); (case oL => k_is); (case o_sum => k_is); (case o_less => k_is); (case o_times => k_is); (case o_same => k_is); (case o_below => k_is); (case o_tell => k_is); (case o_lay => k_is)
    (case eK => k_keys)
    (case oK => k_keys)
    (case oS => rfl)
    (case v1 => exact .cons ⟨_, rfl⟩ .nil)
    (case v2 => exact .cons ⟨_, rfl⟩ (.cons ⟨_, rfl⟩ (.cons ⟨_, rfl⟩ .nil)))
    (case v3 => exact .nil)
    (case vR => exact .cons ⟨_, rfl⟩ (.cons ⟨_, rfl⟩ (.cons ⟨_, rfl⟩ (.cons ⟨_, rfl⟩ (.cons ⟨_, rfl⟩ (.cons ⟨_, rfl⟩ (.cons ⟨_, rfl⟩ .nil)))))))
