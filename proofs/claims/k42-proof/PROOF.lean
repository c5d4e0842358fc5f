import PyProof.Rows.All
import Wide.All
import OpenK.AllK
import Wide.FinOn
import HandS.ForMost
import HandS.Strs
import HandS.Flow
import HandS.Conv
import HandS.Deep
import KE.KDictPairs
import PyProof.P3In
import PyProof.ReprRoads
import HandS.SetFor
import PyProof.DictUpdate
import HandS.Evl
import HandS.Style
import HandS.EndBits
import HandS.IsInst
import HandS.Zip
import HandS.More
import HandS.IterVal
import HandS.Walk
import HandS.Wide
import PyProof.ReprLen
import PySem.Challenge.RW_sameworth_k42_facts_at_blocks
set_option Elab.async false
set_option linter.all false
set_option maxRecDepth 100000
set_option maxHeartbeats 2000000
namespace Gn
open PySem PySem.Spec PyProof.Rows L2
section
variable {X : Cx}
/-- d.update(xs), xs a list of pairs -/
def rDUp (K : PySem.W.Frag) : V → List V → Hp → VK → Prop := fun x vs H Q =>
  ∃ (d a : Addr) (ps : List Addr) (acc kvs : List (Key × V)), x = .ref d ∧ vs = [.ref a] ∧ H d = some (.dK acc) ∧
    SqL K H a (ps.map V.ref) ∧ Paired (fun p kv => SqT K H p [kV kv.1, kv.2]) ps kvs ∧ (∀ p ∈ ps, p ≠ d) ∧ a ≠ d ∧
    acc.length + kvs.length ≤ sizeLine ∧ Q .non (upd H d (.dK (mergeK acc kvs)))
theorem pairs_vals : ∀ {prs : List (Key × Value)} {ps : List Addr} {h : Heap}, prs.length = ps.length →
    (∀ (j : Nat) (q : Key × Value), prs[j]? = some q → ∃ (b : Addr) (u : Value), ps[j]? = some b ∧ IsTup h b #[u, q.2] ∧ keyIs q.1 u = true) →
    ∃ vv : List (Value × Value), vv.length = ps.length ∧ ∀ (j : Nat) (k v : Value), vv[j]? = some (k, v) →
      ∃ (b : Addr) (q : Key × Value), ps[j]? = some b ∧ prs[j]? = some q ∧ q.2 = v ∧ keyIs q.1 k = true ∧ IsTup h b #[k, v]
  | [], [], h, _, _ => ⟨[], rfl, fun j k v e => by simp at e⟩
  | [], _ :: _, _, e, _ => by simp at e
  | _ :: _, [], _, e, _ => by simp at e
  | q :: prs, p :: ps, h, e, hp => by
    obtain ⟨vv, hl, hv⟩ := pairs_vals (prs := prs) (ps := ps) (h := h) (by simpa using e)
      (fun j q' e' => by
        obtain ⟨b, u, h1, h2, h3⟩ := hp (j + 1) q' (by simpa using e')
        exact ⟨b, u, by simpa using h1, h2, h3⟩)
    obtain ⟨b, u, h1, h2, h3⟩ := hp 0 q rfl
    refine ⟨(u, q.2) :: vv, by simp [hl], fun j k v e' => ?_⟩
    cases j with
    | zero =>
      have e2 : (u, q.2) = (k, v) := Option.some.inj e'
      cases e2
      exact ⟨b, q, h1, rfl, rfl, h3, h2⟩
    | succ j =>
      obtain ⟨b', q', z1, z2, z3, z4, z5⟩ := hv j k v (by simpa using e')
      exact ⟨b', q', by simpa using z1, by simpa using z2, z3, z4, z5⟩
theorem mt_dup (hcalm : X.calm = true) : MtR X "dict.update" (rDUp X.K) := by
  intro pins s σ H x xs v us Q I rx rxs h
  obtain ⟨d, a, ps, acc, kvs, rfl, rfl, hd, hq, hp, hpd, had, hz, q⟩ := h
  cases rx
  obtain ⟨u, rfl, ru⟩ := rxs.one
  cases ru
  obtain ⟨its, rv, pl, hz2⟩ := I.list hq
  have ei := refs_at rv
  subst ei
  obtain ⟨prs, rel, hl, hpr⟩ := pairs_of I hp
  obtain ⟨vv, hvl, hvv⟩ := pairs_vals hl hpr
  obtain ⟨z, hsm, vs, rel0, dd⟩ := dk_of I.hok hd
  obtain ⟨o, n, ho, hc, hdc, hdat⟩ := pl
  have hlen : prs.length = kvs.length := rel.length.symm
  have hTs : ∀ j : Nat, j < ps.length → ps[j]? = some (ps.getD j 0) := fun j hj => by
    rw [List.getD_eq_getElem?_getD, List.getElem?_eq_getElem hj]; rfl
  refine call_update_pairs (knd := mixKind X.prog X.w) (acc := vs) (kvs := prs) (PairArg.list a (ps.map Value.ref).toArray (fun j => ps.getD j 0) vv) (I.ok.hd hcalm) ⟨⟨o, n, ho, hc, hdc, hdat⟩, ?_, ?_⟩ ?_ ⟨?_, ?_⟩ dd ?_ fun h' tk dd' k => ?_
  · simp [hvl]
  · intro j k v e
    obtain ⟨b, q', z1, z2, z3, z4, z5⟩ := hvv j k v e
    have hj := (List.getElem?_eq_some_iff.mp z1).1
    have eb : ps.getD j 0 = b := Option.some.inj ((hTs j hj).symm.trans z1)
    refine ⟨?_, .inl ?_⟩
    · show (ps.map Value.ref).toArray[j]? = some (Value.ref (ps.getD j 0))
      rw [eb, List.getElem?_toArray, List.getElem?_map, z1]
      rfl
    · show s.heap.IsTuple (ps.getD j 0) _
      rw [eb]; exact z5
  · intro hm
    rcases List.mem_cons.mp hm with e | hm
    · exact had e.symm
    · obtain ⟨j, hj, e⟩ := List.mem_map.mp hm
      have hj := List.mem_range.mp hj
      rw [hvl] at hj
      exact hpd _ (List.mem_of_getElem? (hTs j hj)) e
  · rw [hl, hvl]
  · intro i key v e
    obtain ⟨b, q', z1, z2, z3, z4, z5⟩ := hvv i key v e
    refine ⟨q'.1, ?_, z4⟩
    rw [z2, ← z3]
  · rw [hvl, ← hl, hlen, ← rel0.length]
    exact hz
  · have he : ∃ q, h'.get? d = some q := let ⟨q, _, _, hq, _⟩ := dd'; ⟨q, hq⟩
    refine ⟨.non, upd H d (.dK (mergeK acc kvs)), ?_, rfl, q⟩
    refine I.write (x := d) (e := d) (by rw [hd]; exact True.intro) (.inl rfl) (fun b q hb z => k b q hb (by simp) z) he (dk_new ?_ hsm (KV.merge rel rel0) dd')
    refine Nat.le_trans (length_mergeK kvs acc) ?_
    omega
end
end Gn
set_option Elab.async false
set_option linter.all false
set_option maxRecDepth 100000
set_option maxHeartbeats 3200000
namespace Gn
open PySem PySem.Spec PyProof.Rows L2
/-- an empty set as it is laid -/
abbrev so (w : World) : Obj := { cls := .type "set", dict := none, data := .set #[] 0 (.fresh 0 0 (!w.params.followText "set-order")) }
section
variable {P : Program} {w : World} {A : Around} {E : Value → Shared → Prop} {s : Shared}
theorem set_of_list {l : Addr} {its : Array Value} (ns : List Int) {Q : Value → Shared → Prop} (hh : A.handled = none) (hl : s.heap.IsList l its)
    (hit : IntsAre its.toList ns) (hb : ns.length + 1 < scanBound)
    (h : ∀ (g : Heap) (tk c : Nat), SetR w g s.heap.objs.size (fun j => decide (j ∈ ns)) c → c ≤ ns.length →
      (∀ b o, s.heap.get? b = some o → g.get? b = some o) → Q (.ref s.heap.objs.size) { s with heap := g, toks := tk }) :
    wpAny (model P w) A (call (.type "set") [.ref l]) Q E s := by
  have hisz : its.size = ns.length := (Array.length_toList).symm.trans (IntsAre.length hit)
  obtain ⟨c, tl, hmro⟩ := F.called_set.mro
  have g0 := F.called_set.made
  have g1 := F.called_set.sub
  refine wpAny_call (codeAny_of_tree ?_)
  show wpAny (model P w) _ (callAny (.type "set") _) _ _ s
  refine wpAny_pure ⟨Code.quiet_builtin _ (by decide +kernel), (codeAny_builtin F.entry_type_call ?_)⟩
  rw [Around.under_plain ((weight_type_call_type "set" [.ref l] [])) rfl]
  have g2 := F.called_set.notType
  have g3 := F.called_set.canCreate
  have g4 := F.typeCall_set_1 (.ref l)
  (repeat (any_goals (first | assumption | wp_step)))
  refine codeAny_mono (code_set_led1 (.ref l) (E := E) (Q₁ := fun u t => u = .ref s.heap.objs.size ∧ t = { s with heap := s.heap.push (so w) }) ⟨rfl, rfl⟩) fun r t hr => ?_
  cases r with
  | error e => exact hr
  | ok fl =>
    cases fl with
    | ret obj =>
      obtain ⟨rfl, rfl⟩ := hr
      have hS : (s.heap.push (so w)).get? s.heap.objs.size = some (so w) := Heap.get?_push_size _ rfl
      have hT : Shared.TypeIs { s with heap := s.heap.push (so w) } (.ref s.heap.objs.size) "set" := ⟨_, hS, rfl⟩
      have g5 := F.called_set.init.lookup
      have g6 := F.called_set.init.bind (.ref s.heap.objs.size)
      (repeat (any_goals (first | assumption | wp_step)))
      refine codeAny_mono (codeAny_call_builtin (R := wants (fun r t => r = .none ∧ ∃ g tk c, t = { s with heap := g, toks := tk } ∧ SetR w g s.heap.objs.size (fun j => decide (j ∈ ns)) c ∧
        c ≤ ns.length ∧ (∀ b o, s.heap.get? b = some o → g.get? b = some o)) E) F.called_set.init.plain F.entry_set_init (check_set_init_1 hT ?_)) fun r2 t2 hr2 => ?_
      · obtain ⟨ol, hol, hcl, nl, hdl⟩ := hl
        obtain ⟨oc, od, oda, osl⟩ := ol
        simp only at hcl hdl
        subst hcl
        subst hdl
        have ho2 : (s.heap.push (so w)).get? l = some { cls := .type "list", dict := od, data := .seq its nl, slots := osl } := Heap.get?_push_of_some _ hol
        have g7 := F.sub_list_set
        have g8 := F.sub_list_frozenset
        have g9 : (Value.type "list" == Value.type "dict") = false := (by decide)
        have hl1 : (s.heap.push (so w)).IsList l its := ⟨_, ho2, rfl, nl, rfl⟩
        unfold Builtin.«set.__init__» noKeywords
        unfold Builtin.Frozenset.updateFrom
        generalize hPI : pyIter = PI
        wp_walk
        subst hPI
        refine wpAny_pyIter_list hl1 ?_
        refine wpAny_bind (wpAny_runValue ?_)
        have hlS : l < s.heap.objs.size := Heap.lt_size hol
        have hh3 : A.in1.in1.in1.handled = none := (by simp [hh])
        have hneI : l ≠ (s.heap.push (so w)).objs.size := (by rw [Heap.size_push]; exact Nat.ne_of_lt (Nat.lt_succ_of_lt hlS))
        have hSf : s.heap.objs.size ∉ [(s.heap.push (so w)).objs.size, l] := by
          rw [Heap.size_push]
          simp only [List.mem_cons, List.mem_singleton, List.not_mem_nil, or_false, not_or]
          exact ⟨Nat.ne_of_lt (Nat.lt_succ_self _), (Nat.ne_of_gt hlS)⟩
        have hval : ∀ (i : Nat) (v : Value), its[i]? = some v → ∃ k t, ns[i]? = some k ∧ v = .int k t := fun i v hv => by
          have hi : i < ns.length := (by rw [← hisz]; exact (Array.getElem?_eq_some_iff.mp hv).1)
          obtain ⟨t, e⟩ := PyProof.Rows.IntsAre.int_at hit i v ((by rw [Array.getElem?_toList]; exact hv))
          refine ⟨ns[i], t, List.getElem?_eq_getElem hi, ?_⟩
          (rw [e, List.getD_eq_getElem?_getD, List.getElem?_eq_getElem hi] <;> rfl)
        refine set_update_ints ((Walks.list hh3 _ l hneI its).toS) s.heap.objs.size hSf ns hisz hb hval (its.size - 0) 0 _ (by omega) (Nat.zero_le _)
          (⟨⟨_, Heap.get?_push_size _ rfl, rfl, rfl⟩, (hl1.push _)⟩) ?z0 ?zR
        case z0 =>
          exact ⟨0, Nat.le_refl 0, setR_new_at (Heap.get?_push_of_some _ hS)⟩
        case zR =>
          intro t' c' hm hc' hS'
          obtain ⟨g, g2, d2, tk2, os2⟩ := t'
          have eg : g2 = s.gens := hm.gens
          have ed : d2 = s.drawn := hm.drawn
          have eo : os2 = s.os := hm.os
          subst eg
          subst ed
          subst eo
          show wpAny _ _ _ _ _ _
          refine wpAny_pure ?_
          show wpAny _ _ (ret Value.none) _ _ _
          rw [hisz] at hc'
          refine wpAny_pure ⟨rfl, g, tk2, c', rfl, hS', hc', (fun b o e => ?_)⟩
          have hb0 : b < s.heap.objs.size := Heap.lt_size e
          have hb2 : b ≠ (s.heap.push (so w)).objs.size := (by rw [Heap.size_push]; exact Nat.ne_of_lt (Nat.lt_succ_of_lt hb0))
          refine hm.heap b o ?_ (Heap.get?_push_of_some _ (Heap.get?_push_of_some _ e))
          simp only [List.mem_cons, List.mem_singleton, List.not_mem_nil, or_false, not_or]
          exact ⟨Nat.ne_of_lt hb0, hb2⟩
      · cases r2 with
        | error e => exact hr2
        | ok fl2 =>
          cases fl2 with
          | ret r =>
            obtain ⟨rfl, g, tk, c', rfl, hS', hc', hk'⟩ := hr2
            (repeat (any_goals (first | assumption | wp_step)))
            exact h _ _ _ hS' hc' hk'
          | _ => exact hr2.elim
    | _ => exact hr.elim
end
section
variable {X : Cx}
def rSetL (X : Cx) : List V → Hp → VK → Prop := fun vs H Q => ∃ (a : Addr) (ns : List Int), vs = [.ref a] ∧ SqL X.K H a (ns.map V.int) ∧ ns.length < 60 ∧
  ∀ p c, H p = none → c ≤ ns.length → Q (.ref p) (upd H p (SetO X.w p (fun j => decide (j ∈ ns)) c))
theorem cr_setL (hc : X.calm = true) : CallR X (.type "set") (rSetL X) := by
  intro pins s σ H vs us Q I r h
  obtain ⟨a, ns, rfl, hq, hl, q⟩ := h
  rw [Vals.ref1 r]
  obtain ⟨its, rv, pl, hz⟩ := I.list hq
  refine set_of_list ns (I.ok.hd hc) pl.isList (by simpa using ints_of_vals rv) (by unfold scanBound; omega) fun g tk c R hcl k => ?_
  exact ⟨.ref _, upd H s.heap.objs.size (SetO X.w s.heap.objs.size (fun j => decide (j ∈ ns)) c), I.laid (t' := tk) k (Nat.le_refl _) (setO_new R), rfl, q _ c (I.hok.fresh (Nat.le_refl _)) hcl⟩
end
end Gn
set_option Elab.async false
set_option linter.all false
set_option maxRecDepth 100000
set_option maxHeartbeats 3200000
namespace Gn
open PySem PySem.Spec PyProof.Rows L2
section
variable {X : Cx}
/-- x in t, t a tuple of data -/
def rInT (K : PySem.W.Frag) : R2 := fun x y H Q =>
  ∃ d ds, Dp K H x d ∧ Dp K H y (.tuple ds) ∧ SeqAt.shaped d = true ∧ SeqAt.shaped (.tuple ds) = true ∧ Q (.bl (ds.any fun z => PyData.eqv z d)) H
theorem op_inT (hu : X.A.units + 65 < cLine) : OpR X (compareOp .In) (rInT X.K) := by
  intro pins s σ H x y v u Q I rx ry h
  obtain ⟨d, ds, hd, he, sd, se, q⟩ := h
  obtain ⟨as, r1⟩ := Dp.reads I d x v hd rx
  obtain ⟨bs, r2⟩ := Dp.reads I (.tuple ds) y u he ry
  have c1 := SeqAt.canLay_of_shaped se
  have c2 := SeqAt.canLay_of_shaped sd
  exact SeqAt.in_tuple_reads r2 r1 c1 c2 (room_in_shaped sd hu) ⟨.bl _, H, I, rfl, q⟩
/-- repr(x) of data -/
def rRepr (K : PySem.W.Frag) : List V → Hp → VK → Prop := fun vs H Q =>
  ∃ (a : Addr) (d : PyData), vs = [.ref a] ∧ Dp K H (.ref a) d ∧ d.showable = true ∧ d.hasDict = false ∧ d.depth ≤ 60 ∧ d.shown.length ≤ sizeLine ∧ Q (.str d.shown) H
theorem cr_repr (hg : X.A.guards = some []) (hu : X.A.units + 64 < cLine) : CallR X (.builtin "repr") (rRepr X.K) := by
  intro pins s σ H vs us Q I r h
  obtain ⟨a, d, rfl, hd, hs, hh, hdp, hz, q⟩ := h
  rw [Vals.ref1 r]
  obtain ⟨as, r1⟩ := Dp.reads I d (.ref a) (.ref a) hd rfl
  refine repr_of_reads' r1 hs (fun e => by rw [hh] at e; cases e) hg (by omega) (fun _ _ e => e) (fun g u tk k => ?_) hz
  exact ⟨.str d.shown, H, I.kept (t' := tk) k, ⟨u, rfl⟩, q⟩
end
end Gn
set_option Elab.async false
set_option linter.all false
set_option maxRecDepth 100000
set_option maxHeartbeats 2000000
namespace Gn
open PySem PySem.Spec PyProof.Rows L2
section
variable {X : Cx}
/-- d.update(e), e a dict -/
def rDUd : V → List V → Hp → VK → Prop := fun x vs H Q =>
  ∃ (d o : Addr) (acc kvs : List (Key × V)), x = .ref d ∧ vs = [.ref o] ∧ d ≠ o ∧ H d = some (.dK acc) ∧ H o = some (.dK kvs) ∧ acc.length + kvs.length ≤ sizeLine ∧ Q .non (upd H d (.dK (mergeK acc kvs)))
theorem mt_dud : MtR X "dict.update" rDUd := by
  intro pins s σ H x xs v us Q I rx rxs h
  obtain ⟨d, o, acc, kvs, rfl, rfl, hdo, hd, ho, hz, q⟩ := h
  cases rx
  obtain ⟨u, rfl, ru⟩ := rxs.one
  cases ru
  obtain ⟨z, hsm, vs, rel0, dd⟩ := dk_of I.hok hd
  obtain ⟨z2, hsm2, ws, rel1, d2⟩ := dk_of I.hok ho
  refine call_meetsIn F.slot_dict_update dd.typeIs F.entry_dict_update (F.args_dict_update_2 _ _) (fun A R s' hS => (meets_dict_update (mixKind X.prog X.w) d o hdo hsm2) A R s' hS) ⟨vs, ws, dd, d2, by rw [← rel0.length, ← rel1.length]; exact hz, fun h' dd' d2' hs => ?_⟩
  have he : ∃ q, h'.get? d = some q := let ⟨q, _, _, hq, _⟩ := dd'; ⟨q, hq⟩
  refine ⟨.non, upd H d (.dK (mergeK acc kvs)), ?_, rfl, q⟩
  refine I.write (x := d) (e := d) (by rw [hd]; exact True.intro) (.inl rfl) (fun b q hb z => hs.extBut b q hb z) he (dk_new ?_ hsm (KV.merge rel1 rel0) dd')
  exact Nat.le_trans (length_mergeK kvs acc) hz
end
end Gn
set_option Elab.async false
set_option linter.all false
set_option maxRecDepth 100000
set_option maxHeartbeats 4000000
namespace Gn
open PySem PySem.Spec PyProof.Rows L2
def topS (i : Nat) : Stmt := PySem.Challenge.pw_sameworth_k42_facts_at_blocks.main.body.getD i (.Pass ⟨0, 0, 0, 0⟩)
abbrev sTape : Stmt := topS 32
abbrev sDraw : Stmt := topS 33
abbrev sNexts : Stmt := topS 34
abbrev sLeads : Stmt := topS 35
abbrev sReached : Stmt := topS 36
abbrev sAbove : Stmt := topS 37
abbrev sStanding : Stmt := topS 38
abbrev sPut : Stmt := topS 39
abbrev sNumber : Stmt := topS 40
abbrev sAgain : Stmt := topS 41
abbrev sDrawn : Stmt := topS 42
abbrev sFits : Stmt := topS 43
abbrev sAdd : Stmt := topS 44
abbrev sMeet : Stmt := topS 45
abbrev sLater : Stmt := topS 46
abbrev sToldSize : Stmt := topS 47
abbrev sChooser : Stmt := topS 48
abbrev sProgram : Stmt := topS 49
abbrev sSome : Stmt := topS 50
abbrev sTakes : Stmt := topS 51
abbrev sNextBl : Stmt := topS 52
abbrev sPlaces : Stmt := topS 53
abbrev sFacts : Stmt := topS 54
abbrev sSame : Stmt := topS 55
abbrev sHolds : Stmt := topS 56
abbrev sTrue : Stmt := topS 57
abbrev sLaw : Stmt := topS 58
abbrev sIsMeet : Stmt := topS 2
abbrev sNamed : Stmt := topS 3
abbrev sNearest : Stmt := topS 5
abbrev sBrNearer : Stmt := topS 6
abbrev sCommon : Stmt := topS 7
abbrev sLeadsOf : Stmt := topS 9
abbrev sAboveP : Stmt := topS 10
abbrev sRowsOf : Stmt := topS 11
abbrev sFactsAt : Stmt := topS 13
abbrev sFactsBh : Stmt := topS 14
abbrev sSummed : Stmt := topS 18
abbrev sLessened : Stmt := topS 19
abbrev sProduct : Stmt := topS 20
abbrev sTSame : Stmt := topS 21
abbrev sTBelow : Stmt := topS 22
abbrev sPicked : Stmt := topS 24
abbrev sGreat : Stmt := topS 25
abbrev sWay : Stmt := topS 28
abbrev sRun : Stmt := topS 30
abbrev sMInit : Stmt := inClass (topS 26) 0
abbrev sGoOn : Stmt := inClass (topS 26) 1
abbrev sDoRows : Stmt := inClass (topS 26) 2
abbrev sBrought : Stmt := inClass (topS 26) 3
abbrev sBehind : Stmt := inClass (topS 26) 4
abbrev sWorthOf : Stmt := inClass (topS 26) 5
abbrev sDoRow : Stmt := inClass (topS 26) 6
/-- built-in names that the module leaves alone -/
structure Bi (mg : Str → Option Value) : Prop where
  len : mg "len" = none
  abs : mg "abs" = none
  int : mg "int" = none
  range : mg "range" = none
  max : mg "max" = none
  min : mg "min" = none
  list : mg "list" = none
  tuple : mg "tuple" = none
  sorted : mg "sorted" = none
  set : mg "set" = none
  enumerate : mg "enumerate" = none
  zip : mg "zip" = none
  sum : mg "sum" = none
  repr : mg "repr" = none
  any : mg "any" = none
  isinstance : mg "isinstance" = none
  bool : mg "bool" = none
  str : mg "str" = none
  dict : mg "dict" = none
  all : mg "all" = none
/-- a def as it stands behind the top -/
structure Df (K : PySem.W.Frag) (mg : Str → Option Value) (x : Str) (st : Stmt) (ps : List Str) (f : Addr) (fd : FuncData) : Prop where
  F : Fun K x x st f fd
  b : Binds K fd ps []
  g : mg x = some (.ref f)
/-- all that was tracked is as it was, but for t -/
def But (t : Addr) (H H' : Hp) : Prop := ∀ a o, a ≠ t → H a = some o → H' a = some o
theorem But.refl (t : Addr) (H : Hp) : But t H H := fun _ _ _ h => h
theorem But.trans {t : Addr} {H H1 H2 : Hp} (a : But t H H1) (b : But t H1 H2) : But t H H2 := fun x o n h => b x o n (a x o n h)
theorem But.upd {t : Addr} {H : Hp} {o : HO} : But t H (upd H t o) := fun a u n h => by rw [upd_ne n]; exact h
theorem Same.but {t : Addr} {H H' : Hp} (h : Same H H') : But t H H' := fun a o _ e => h a o e
theorem new_same {H : Hp} {p : Addr} {o : HO} (h : H p = none) : Same H (upd H p o) := fun a u e => by
  rw [upd_ne (ne_of_none e h)]
  exact e
theorem Same.bt {t : Addr} {I H H' : Hp} (a : Same I H) (n : I t = none) (b : But t H H') : Same I H' := fun x o e =>
  b x o (ne_of_none e n) (a x o e)
theorem Same.upd {I H : Hp} {t : Addr} {o : HO} (a : Same I H) (n : I t = none) : Same I (L2.upd H t o) := fun x u e => by
  rw [upd_ne (ne_of_none e n)]
  exact a x u e
theorem Same.tup {K : PySem.W.Frag} {H H' : Hp} {a : Addr} {xs : List V} (e : Same H H') (h : SqT K H a xs) : SqT K H' a xs := by
  rcases h with (h | ⟨o, h⟩) | h
  · exact .inl (.inl (e _ _ h))
  · exact .inl (.inr ⟨o, e _ _ h⟩)
  · exact .inr h
theorem sqL {K : PySem.W.Frag} {H : Hp} {a : Addr} {xs : List V} (h : H a = some (.lst xs)) : SqL K H a xs := .inl (.inl h)
theorem sqT {K : PySem.W.Frag} {H : Hp} {a : Addr} {xs : List V} (h : H a = some (.tup xs)) : SqT K H a xs := .inl (.inl h)
theorem szl {n : Nat} (h : n ≤ 1000000) : n ≤ sizeLine := Nat.le_trans h (by decide)
theorem szt {n : Nat} (h : n < 1000000) : n < sizeLine := Nat.lt_of_lt_of_le h (by decide)
/-- the tape at t: its third number is at most c -/
def Tape (H : Hp) (t : Addr) (c : Nat) : Prop := ∃ x y n : Int, H t = some (.lst [.int x, .int y, .int n]) ∧ 0 ≤ x ∧ 0 ≤ y ∧ y < 2 ^ 62 ∧ 0 ≤ n ∧ n ≤ c
theorem Tape.mono {H : Hp} {t : Addr} {c d : Nat} (h : Tape H t c) (hc : c ≤ d) : Tape H t d := by
  obtain ⟨x, y, n, a, b, e, f, g, i⟩ := h
  exact ⟨x, y, n, a, b, e, f, g, by omega⟩
theorem Tape.same {H H' : Hp} {t : Addr} {c : Nat} (h : Tape H t c) (e : Same H H') : Tape H' t c := by
  obtain ⟨x, y, n, a, r⟩ := h
  exact ⟨x, y, n, e _ _ a, r⟩
theorem Tape.lst {H : Hp} {t : Addr} {c : Nat} (h : Tape H t c) : ∃ o, H t = some o := by
  obtain ⟨x, y, n, a, r⟩ := h
  exact ⟨_, a⟩
/-! ### draw -/
def spDraw : Sp := fun vs H Q _ => ∃ (t : Addr) (m : Int) (c : Nat), vs = [.ref t, .int m] ∧ Tape H t c ∧ c ≤ 100000000 ∧ 0 < m ∧ m ≤ 1000000 ∧
  ∀ (r : Nat) (H' : Hp), (r : Int) < m → But t H H' → Tape H' t (c + 1) → Q (.int r) H'
theorem scDraw : FnScope ["_law_tape_here", "_law_many", "_law_found", "_law_once", "_law_twice"] ["_law_tape_here", "_law_many"] (defScope sDraw) := ⟨rfl, rfl, rfl, by decide +kernel, rfl, by decide +kernel, by decide +kernel⟩
section
variable {P : Program} {w : World} {K : PySem.W.Frag} {mg : Str → Option Value} {base : Heap}
theorem ok_draw {f : Addr} {fd : FuncData} {k : Nat} (D : Df K mg "_law_draw" sDraw ["_law_tape_here", "_law_many"] f fd) : FnOk P w K mg base CX0 (k + 1) f fd ["_law_tape_here", "_law_many"] spDraw := by
  refine D.F.ok scDraw (fun vs H Q E h => ?_) (fun cdv A outer s H vs Q E hr h => ?_)
  · obtain ⟨t, m, c, rfl, _⟩ := h
    rfl
  · obtain ⟨t, m, c, rfl, ⟨x, y, n, ht, hx, hy, hy2, hn, hn2⟩, hc, hm, hm2, q⟩ := h
    refine ⟨_, pss_cons (ps_if (pt_cmpR op_gt (pe_ix ix_list (pv 0) pe_int (fun _ _ => rfl)) pe_int (nomark _))
        (pss_cons (ps_set (i := 2) scDraw.nd rfl (.inl rfl) (pe_op op_mod (pe_ix ix_list (pv 0) pe_int (fun _ _ => rfl)) (pv 1)))
        (pss_cons (ps_asg (pe_op op_fdiv (pe_ix ix_list (pv 0) pe_int (fun _ _ => rfl)) (pv 1)) (pg_sub (pv 0) pe_int set_list))
        (pss_one (ps_ret (pv 2))))) pss_nil)
      (pss_cons (ps_asg (pe_op op_add (pe_ix ix_list (pv 0) pe_int (fun _ _ => rfl)) pe_int) (pg_sub (pv 0) pe_int set_list))
      (pss_cons (ps_set (i := 3) scDraw.nd rfl (.inl rfl) (pe_op op_mod (pe_op op_pow (pe_op op_add (pe_ix ix_list (pv 0) pe_int (fun _ _ => rfl)) (pe_op op_mul pe_int (pe_ix ix_list (pv 0) pe_int (fun _ _ => rfl)))) pe_int) pe_int))
      (pss_cons (ps_set (i := 4) scDraw.nd rfl (.inl rfl) (pe_op op_mod (pe_op op_mul (pe_op op_add (pv 3) (pe_ix ix_list (pv 0) pe_int (fun _ _ => rfl))) (pe_op op_add (pe_op op_add (pe_op op_mod (pv 3) pe_int) pe_int) (pe_ix ix_list (pv 0) pe_int (fun _ _ => rfl)))) pe_int))
      (pss_one (ps_ret (pe_op op_mod (pe_op op_fdiv (pe_op op_mod (pe_op op_add (pe_op op_mul (pv 4) pe_int) (pv 3)) pe_int) pe_int) (pv 1))))))), ?_⟩
    have hL : SqL K H t [.int x, .int y, .int n] := sqL ht
    refine ⟨_, rfl, t, _, _, _, rfl, rfl, hL, atI_nat (j := 0) rfl, _, _, rfl, rfl, _, rfl, ite2 (fun e => ?_) (fun e => ?_)⟩
    · have e0 : 0 < x := of_decide_eq_true e
      refine ⟨_, rfl, t, _, _, _, rfl, rfl, hL, atI_nat (j := 0) rfl, _, rfl, _, _, rfl, rfl, hm, ?_⟩
      refine ⟨_, rfl, t, _, _, _, rfl, rfl, hL, atI_nat (j := 0) rfl, _, rfl, _, _, rfl, rfl, ⟨hm, by omega⟩, _, rfl, t, _, _, 0, rfl, rfl, ht, rfl, ?_⟩
      refine ⟨_, rfl, ?_⟩
      have h1 : 0 ≤ x % m := Int.emod_nonneg _ (by omega)
      have h2 : x % m < m := Int.emod_lt_of_pos _ hm
      have h3 : ((x % m).toNat : Int) = x % m := Int.toNat_of_nonneg h1
      have := q (x % m).toNat (upd H t (.lst [.int (x / m), .int y, .int n])) (by omega) But.upd ⟨x / m, y, n, upd_same, Int.ediv_nonneg hx (by omega), hy, hy2, hn, by omega⟩
      rw [h3] at this
      exact this
    · refine ⟨_, rfl, t, _, _, _, rfl, rfl, hL, atI_nat (j := 2) rfl, _, _, rfl, rfl, _, rfl, t, _, _, 2, rfl, rfl, ht, rfl, ?_⟩
      show tSeq _ _ _ _ (upd H t (.lst [.int x, .int y, .int (n + 1)]))
      have hL2 : SqL K (upd H t (.lst [.int x, .int y, .int (n + 1)])) t [.int x, .int y, .int (n + 1)] := sqL upd_same
      have hp : (y + 39373 * (n + 1)).natAbs < 2 ^ 64 := by omega
      refine ⟨_, rfl, t, _, _, _, rfl, rfl, hL2, atI_nat (j := 1) rfl, _, rfl, t, _, _, _, rfl, rfl, hL2, atI_nat (j := 2) rfl, _, _, rfl, rfl, .inl ⟨by decide, by decide⟩, _, _, rfl, rfl,
        _, _, rfl, rfl, ⟨by decide, by decide, hp⟩, _, _, rfl, rfl, (by decide : (0 : Int) < 2147483647), ?_⟩
      generalize hA : (y + 39373 * (n + 1)) ^ (5 : Int).toNat % 2147483647 = once
      have o1 : 0 ≤ once := by rw [← hA]; exact Int.emod_nonneg _ (by decide)
      have o2 : once < 2147483647 := by rw [← hA]; exact Int.emod_lt_of_pos _ (by decide)
      refine ⟨_, rfl, _, rfl, t, _, _, _, rfl, rfl, hL2, atI_nat (j := 2) rfl, _, _, rfl, rfl, _, rfl, _, _, rfl, rfl, (by decide : (0 : Int) < 40009), _, _, rfl, rfl, _, rfl, t, _, _, _, rfl, rfl, hL2, atI_nat (j := 2) rfl, _, _, rfl, rfl,
        _, _, rfl, rfl, .inl ⟨by omega, by omega⟩, _, _, rfl, rfl, (by decide : (0 : Int) < 2147483629), ?_⟩
      generalize hB : (once + (n + 1)) * (once % 40009 + 7 + (n + 1)) % 2147483629 = twice
      have t1 : 0 ≤ twice := by rw [← hB]; exact Int.emod_nonneg _ (by decide)
      have t2 : twice < 2147483629 := by rw [← hB]; exact Int.emod_lt_of_pos _ (by decide)
      refine ⟨_, rfl, _, _, rfl, rfl, .inl ⟨by omega, by omega⟩, _, rfl, _, _, rfl, rfl, _, _, rfl, rfl, (by decide : (0 : Int) < 2147483587), _, _, rfl, rfl, ⟨by decide, by decide⟩, _, rfl, _, _, rfl, rfl, hm, ?_⟩
      generalize hC : (twice * 48271 + once) % 2147483587 / 64 = d
      have h1 : 0 ≤ d % m := Int.emod_nonneg _ (by omega)
      have h2 : d % m < m := Int.emod_lt_of_pos _ hm
      have h3 : ((d % m).toNat : Int) = d % m := Int.toNat_of_nonneg h1
      have := q (d % m).toNat (upd H t (.lst [.int x, .int y, .int (n + 1)])) (by omega) But.upd ⟨x, y, n + 1, upd_same, hx, hy, hy2, by omega, by omega⟩
      rw [h3] at this
      subst hC
      subst hB
      subst hA
      exact this
/-! ### tape -/
def spTape (K : PySem.W.Frag) : Sp := fun vs H Q _ => ∃ (a : Addr) (ns : List Int) (k : Nat), vs = [.ref a, .int k] ∧ SqL K H a (ns.map V.int) ∧ k ≤ 100 ∧
  ∀ (p : Addr) (o : HO), H p = none → Tape (upd H p o) p 0 → Q (.ref p) (upd H p o)
theorem tape_ok {H : Hp} {p : Addr} {k : Nat} (hk : k ≤ 100) (cell : Int) : Tape (upd H p (.lst [.int ((if cell < 0 then -cell else cell) * (if decide ((10 : Int) ^ (18 : Int).toNat ≤ (if cell < 0 then -cell else cell)) then 1 else 0)), .int (cell % 2305843009213693951 + 39373 * (k : Int) + 17), .int 0])) p 0 := by
  refine ⟨_, _, _, upd_same, ?_, ?_, ?_, ?_, ?_⟩
  · have : 0 ≤ (if cell < 0 then -cell else cell) := by split <;> omega
    have h01 : ∀ b : Bool, 0 ≤ (if b = true then (1 : Int) else 0) := by decide
    exact Int.mul_nonneg this (h01 _)
  · have := Int.emod_nonneg cell (b := 2305843009213693951) (by decide)
    omega
  · have := Int.emod_lt_of_pos cell (b := 2305843009213693951) (by decide)
    omega
  · decide
  · decide
theorem b01 : ∀ b : Bool, -(2 ^ 64) < (if b = true then (1 : Int) else 0) ∧ (if b = true then (1 : Int) else 0) < 2 ^ 64 := by decide
theorem scTape : FnScope ["_law_script", "_law_k", "_law_cell"] ["_law_script", "_law_k"] (defScope sTape) := ⟨rfl, rfl, rfl, by decide +kernel, rfl, by decide +kernel, by decide +kernel⟩
theorem ok_tape {f : Addr} {fd : FuncData} {k : Nat} (D : Df K mg "_law_tape" sTape ["_law_script", "_law_k"] f fd) (B : Bi mg) : FnOk P w K mg base CX0 (k + 1) f fd ["_law_script", "_law_k"] (spTape K) := by
  refine D.F.ok scTape (fun vs H Q E h => ?_) (fun cdv A outer s H vs Q E hr h => ?_)
  · obtain ⟨a, ns, k, rfl, _⟩ := h
    rfl
  · obtain ⟨a, ns, k, rfl, hS, hk, q⟩ := h
    refine ⟨_, pss_cons (ps_set (i := 2) scTape.nd rfl (.inl rfl) (pe_ifExp (pt_cmpR op_lt (pv 1) (pe_callB call_len_seq (by rfl) B.len PySem.boot_len (pa_cons (pv 0) pa_nil)) (nomark _)) (pe_ix ix_list (pv 0) (pv 1) (fun _ _ => rfl)) pe_int))
      (pss_one (ps_ret (pe_lst (pa_cons (pe_op op_mul (pe_callB call_abs (by rfl) B.abs (by decide +kernel) (pa_cons (pv 2) pa_nil)) (pe_callTy call_int1 (by rfl) B.int PyProof.Rows.boot_int (pa_cons (pe_cmpR op_ge (pe_callB call_abs (by rfl) B.abs (by decide +kernel) (pa_cons (pv 2) pa_nil)) (pe_op op_pow pe_int pe_int) (nomark _)) pa_nil)))
        (pa_cons (pe_op op_add (pe_op op_add (pe_op op_mod (pv 2) pe_int) (pe_op op_mul pe_int (pv 1))) pe_int) (pa_cons pe_int pa_nil)))))), ?_⟩
    refine ⟨_, rfl, _, rfl, a, _, rfl, .inl hS, _, _, rfl, rfl, _, rfl, ite2 (fun e => ?_) (fun e => ?_)⟩
    · have e0 : (k : Int) < ((ns.map V.int).length : Int) := of_decide_eq_true e
      have e1 : k < ns.length := by rw [List.length_map] at e0; omega
      refine ⟨_, rfl, _, rfl, a, _, _, .int ns[k], rfl, rfl, hS, atI_nat (by rw [List.getElem?_map, List.getElem?_eq_getElem e1]; rfl), ?_⟩
      generalize ns[k] = cell
      refine ⟨_, rfl, _, rfl, _, rfl, _, rfl, _, _, rfl, rfl, ⟨by decide, by decide, by decide⟩, _, _, rfl, rfl, .inr ⟨_, rfl, _, _, rfl, rfl, .inr (b01 _), _, rfl, _, _, rfl, rfl, (by decide : (0 : Int) < 2305843009213693951), _, rfl, _, _, rfl, rfl, .inl ⟨by decide, by decide⟩, _, _, rfl, rfl, _, _, rfl, rfl, ?_⟩⟩
      exact ⟨szl (show 3 ≤ 1000000 by decide), fun p np => q p _ np (tape_ok hk cell)⟩
    · refine ⟨_, rfl, _, rfl, _, rfl, _, rfl, _, _, rfl, rfl, ⟨by decide, by decide, by decide⟩, _, _, rfl, rfl, .inr ⟨_, rfl, _, _, rfl, rfl, .inr (b01 _), _, rfl, _, _, rfl, rfl, (by decide : (0 : Int) < 2305843009213693951), _, rfl, _, _, rfl, rfl, .inl ⟨by decide, by decide⟩, _, _, rfl, rfl, _, _, rfl, rfl, ?_⟩⟩
      exact ⟨szl (show 3 ≤ 1000000 by decide), fun p np => q p _ np (tape_ok hk 0)⟩
end
end Gn
set_option Elab.async false
set_option linter.all false
set_option maxRecDepth 100000
set_option maxHeartbeats 4000000
namespace Gn
open PySem PySem.Spec PyProof.Rows L2
section
variable {P : Program} {w : World} {K : PySem.W.Frag} {mg : Str → Option Value} {base : Heap}
theorem Tape.but {H H' : Hp} {t a : Addr} {c : Nat} (h : Tape H t c) (e : But a H H') (n : t ≠ a) : Tape H' t c := by
  obtain ⟨x, y, z, q, r⟩ := h
  exact ⟨x, y, z, e _ _ n q, r⟩
theorem Tape.upd {H : Hp} {t p : Addr} {c : Nat} {o : HO} (h : Tape H t c) (n : H p = none) : Tape (L2.upd H p o) t c := h.same (new_same n)
theorem Tape.ne {H : Hp} {t p : Addr} {c : Nat} (h : Tape H t c) (n : H p = none) : p ≠ t := fun e => by
  obtain ⟨x, y, z, q, r⟩ := h
  rw [e, q] at n
  cases n
theorem at_lt {α : Type} {xs : List α} {r : Nat} (h : r < xs.length) : atI xs (r : Int) = some xs[r] := atI_nat (List.getElem?_eq_getElem h)
def spNumber : Sp := fun vs H Q _ => ∃ (t : Addr) (c : Nat), vs = [.ref t] ∧ Tape H t c ∧ c + 3 ≤ 100000000 ∧
  ∀ (n : Int) (H' : Hp), (-4 ≤ n ∧ n ≤ 10 ^ 12) → But t H H' → Tape H' t (c + 3) → Q (.int n) H'
theorem scNumber : FnScope ["_law_tape_here"] ["_law_tape_here"] (defScope sNumber) := ⟨rfl, rfl, rfl, by decide +kernel, rfl, by decide +kernel, by decide +kernel⟩
theorem ok_number {f fD : Addr} {fd fdD : FuncData} {k : Nat} (D : Df K mg "_law_number" sNumber ["_law_tape_here"] f fd) (DD : Df K mg "_law_draw" sDraw ["_law_tape_here", "_law_many"] fD fdD)
    (GD : FnOk P w K mg base CX0 k fD fdD ["_law_tape_here", "_law_many"] spDraw) : FnOk P w K mg base CX0 (k + 1) f fd ["_law_tape_here"] spNumber := by
  refine D.F.ok scNumber (fun vs H Q E h => ?_) (fun cdv A outer s H vs Q E hr h => ?_)
  · obtain ⟨t, c, rfl, _⟩ := h
    rfl
  · obtain ⟨t, c, rfl, hT, hc, q⟩ := h
    refine ⟨_, pss_one (ps_ret (pe_ix ix_list (pe_lst (pa_cons pe_int (pa_cons pe_int (pa_cons (pe_un un_neg pe_int) (pa_cons pe_int (pa_cons pe_int (pa_cons (pe_op op_pow pe_int pe_int)
      (pa_cons (pe_op op_sub (pe_call GD hr (by rfl) DD.g DD.F.kp DD.b .nil pass0 (pa_cons (pv 0) (pa_cons pe_int pa_nil))) pe_int)
      (pa_cons (pe_call GD hr (by rfl) DD.g DD.F.kp DD.b .nil pass0 (pa_cons (pv 0) (pa_cons (pe_op op_pow pe_int pe_int) pa_nil))) pa_nil)))))))))
      (pe_call GD hr (by rfl) DD.g DD.F.kp DD.b .nil pass0 (pa_cons (pv 0) (pa_cons pe_int pa_nil))) (fun _ _ => rfl))), ?_⟩
    refine ⟨1, rfl, _, _, rfl, rfl, ⟨by decide, by decide, by decide⟩, .ref t, rfl, t, 9, c, rfl, hT, by omega, by decide, by decide, fun r1 H1 h1 b1 T1 => ?_⟩
    refine ⟨_, _, rfl, rfl, .ref t, rfl, _, _, rfl, rfl, ⟨by decide, by decide, by decide⟩, t, _, c + 1, rfl, T1, by omega, by decide, by decide, fun r2 H2 h2 b2 T2 => ?_⟩
    refine ⟨szl (show 8 ≤ 1000000 by decide), fun p np => ?_⟩
    refine ⟨.ref t, rfl, t, 8, c + 2, rfl, T2.upd np, by omega, by decide, by decide, fun r3 H3 h3 b3 T3 => ?_⟩
    have npt : p ≠ t := T2.ne np
    have h3' : r3 < 8 := by omega
    refine ⟨p, _, _, _, rfl, rfl, sqL (b3 p _ npt upd_same), at_lt (show r3 < 8 from h3'), ?_⟩
    have b : But t H H3 := (b1.trans b2).trans ((Same.but (new_same np)).trans b3)
    have h2' : (r2 : Int) < 1000000 := h2
    match r3, h3' with
    | 0, _ => exact q 0 _ (by decide) b T3
    | 1, _ => exact q 1 _ (by decide) b T3
    | 2, _ => exact q (-1) _ (by decide) b T3
    | 3, _ => exact q 2 _ (by decide) b T3
    | 4, _ => exact q 3 _ (by decide) b T3
    | 5, _ => exact q (10 ^ 12) _ (by decide) b T3
    | 6, _ => exact q (r1 - 4) _ ⟨by omega, by omega⟩ b T3
    | 7, _ => exact q r2 _ ⟨by omega, by omega⟩ b T3
end
end Gn
set_option Elab.async false
set_option linter.all false
set_option maxRecDepth 100000
set_option maxHeartbeats 4000000
namespace Gn
open PySem PySem.Spec PyProof.Rows L2
/-! ### lists of numbers, lists of these -/
def iv (n : Nat) : V := .int (n : Int)
def NL (K : PySem.W.Frag) (H : Hp) (p : Addr) (xss : List (List Nat)) : Prop := ∃ ps : List Addr, SqL K H p (ps.map V.ref) ∧ Paired (fun q xs => SqL K H q (xs.map iv)) ps xss
theorem pd_mono {α β : Type} {F G : α → β → Prop} : ∀ {l : List α} {m : List β}, Paired F l m → (∀ a b, F a b → G a b) → Paired G l m
  | _, _, .nil, _ => .nil
  | _, _, .cons h t, g => .cons (g _ _ h) (pd_mono t g)
theorem pd_len {α β : Type} {F : α → β → Prop} : ∀ {l : List α} {m : List β}, Paired F l m → l.length = m.length
  | _, _, .nil => rfl
  | _, _, .cons h t => by rw [List.length_cons, List.length_cons, pd_len t]
theorem pd_at {α β : Type} {F : α → β → Prop} : ∀ {l : List α} {m : List β} {j : Nat} {b : β}, Paired F l m → m[j]? = some b → ∃ a, l[j]? = some a ∧ F a b
  | _, _, _, _, .nil, e => by simp at e
  | _, _, 0, b, .cons (a := a) h t, e => by
    have e' := Option.some.inj e
    subst e'
    exact ⟨a, rfl, h⟩
  | _, _, j + 1, b, .cons h t, e => by
    obtain ⟨a, h1, h2⟩ := pd_at (j := j) t (by simpa using e)
    exact ⟨a, by simpa using h1, h2⟩
theorem pd_snoc {α β : Type} {F : α → β → Prop} {a : α} {b : β} {l : List α} {m : List β} (h : Paired F l m) (g : F a b) : Paired F (l ++ [a]) (m ++ [b]) := Paired.snoc h g
theorem seq_upd {K : PySem.W.Frag} {H : Hp} {a b : Addr} {xs : List V} {o : HO} (h : SqL K H a xs) (n : a ≠ b) : SqL K (upd H b o) a xs := by
  rcases h with (h | ⟨u, h⟩) | h
  · exact .inl (.inl (by rw [upd_ne n]; exact h))
  · exact .inl (.inr ⟨u, by rw [upd_ne n]; exact h⟩)
  · exact .inr h
theorem NL.same {K : PySem.W.Frag} {H H' : Hp} {p : Addr} {xss : List (List Nat)} (h : NL K H p xss) (e : Same H H') : NL K H' p xss := by
  obtain ⟨ps, h1, h2⟩ := h
  exact ⟨ps, e.seq h1, pd_mono h2 fun a b q => e.seq q⟩
theorem NL.at {K : PySem.W.Frag} {H : Hp} {p : Addr} {xss : List (List Nat)} (h : NL K H p xss) {j : Nat} {xs : List Nat} (e : xss[j]? = some xs) :
    ∃ (ys : List V) (q : Addr), SqL K H p ys ∧ ys.length = xss.length ∧ atI ys (j : Int) = some (.ref q) ∧ SqL K H q (xs.map iv) := by
  obtain ⟨ps, h1, h2⟩ := h
  obtain ⟨q, h3, h4⟩ := pd_at h2 e
  exact ⟨_, q, h1, by rw [List.length_map, pd_len h2], atI_nat (by rw [List.getElem?_map, h3]; rfl), h4⟩
theorem NL.len {K : PySem.W.Frag} {H : Hp} {p : Addr} {xss : List (List Nat)} (h : NL K H p xss) : ∃ ys : List V, SqL K H p ys ∧ ys.length = xss.length := by
  obtain ⟨ps, h1, h2⟩ := h
  exact ⟨_, h1, by rw [List.length_map, pd_len h2]⟩
theorem filt_one {α : Type} (p : α → Bool) (x : α) : [x].filter p = if p x = true then [x] else [] := by
  cases h : p x <;> simp [h]
theorem filt_succ (p : Nat → Bool) (j : Nat) : (List.range (j + 1)).filter p = (List.range j).filter p ++ (if p j = true then [j] else []) := by
  rw [List.range_succ, List.filter_append, filt_one]
theorem flat_iv (xs : List Nat) : (xs.map iv).all flatV = true := by
  rw [List.all_map]
  exact List.all_eq_true.mpr fun _ _ => rfl
theorem inV_iv (b : Nat) (xs : List Nat) : inV (iv b) (xs.map iv) = decide (b ∈ xs) := by
  unfold inV
  rw [List.any_map, Bool.eq_iff_iff, List.any_eq_true, decide_eq_true_eq]
  constructor
  · rintro ⟨x, hx, e⟩
    have e2 : ((x : Int) == (b : Int)) = true := e
    have e3 : (x : Int) = (b : Int) := eq_of_beq e2
    have e4 : x = b := by omega
    rw [← e4]; exact hx
  · intro h
    exact ⟨b, h, (beq_self_eq_true (b : Int) : ((b : Int) == (b : Int)) = true)⟩
/-- what is new in H' -/
def newOf (H H' : Hp) : Hp := fun a => if (H a).isNone = true then H' a else none
theorem new_at {H H' : Hp} {a : Addr} {o : HO} (n : H a = none) (e : H' a = some o) : newOf H H' a = some o := by
  unfold newOf
  rw [n]
  exact e
theorem new_of {H H' : Hp} {a : Addr} {o : HO} (e : newOf H H' a = some o) : H a = none ∧ H' a = some o := by
  unfold newOf at e
  cases h : H a with
  | none => rw [h] at e; exact ⟨rfl, e⟩
  | some u => rw [h] at e; cases e
theorem new_sub (H H' : Hp) : Same (newOf H H') H' := fun _ _ e => (new_of e).2
/-! ### the text's comprehensions -/
def valE : Stmt → Expr
  | .Return (some e) _ => e
  | .Assign _ e _ => e
  | _ => .Constant .none 0 ⟨0, 0, 0, 0⟩
def lcS : Expr → Scope
  | .ListComp _ _ sc _ => sc
  | _ => { kind := .function, names := [], isGenerator := false, isCoroutine := false }
def nthS (l : List Stmt) (i : Nat) : Stmt := l.getD i (.Pass ⟨0, 0, 0, 0⟩)
/-! ### readings by name -/
abbrev rLen (K : PySem.W.Frag) : List V → Hp → VK → Prop := fun xs H Q => ∃ p ys, xs = [.ref p] ∧ (SqL K H p ys ∨ SqT K H p ys) ∧ Q (.int ys.length) H
abbrev tLen (K : PySem.W.Frag) (t : TE) : TE := tCB (rLen K) (tCons t tNil)
abbrev tIxL (K : PySem.W.Frag) (a b : TE) : TE := tOp (rIxL K) a b
abbrev tIxT (K : PySem.W.Frag) (a b : TE) : TE := tOp (rIxT K) a b
abbrev tIn (K : PySem.W.Frag) (a b : TE) : TT := tTest (tOp (rIn K false) a b)
abbrev tNotIn (K : PySem.W.Frag) (a b : TE) : TT := tTest (tOp (rIn K true) a b)
abbrev iRange (t : TE) : TI := iRng1 (tCons t tNil)
/-! ### leads -/
def leadsL (nx : List (List Nat)) : List (List Nat) := (List.range nx.length).map fun b => (List.range nx.length).filter fun l => decide (b ∈ nx.getD l [])
def spLeads (K : PySem.W.Frag) : Sp := fun vs H Q _ => ∃ (a : Addr) (nx : List (List Nat)), vs = [.ref a] ∧ NL K H a nx ∧ nx.length ≤ 1000 ∧
  ∀ (p : Addr) (H' : Hp), Same H H' → NL K (newOf H H') p (leadsL nx) → Q (.ref p) H'
abbrev nLeads : List Str := ["_law_nexts_here", "_law_block", "_law_lead"]
theorem scLeads : FnScope nLeads ["_law_nexts_here"] (defScope sLeads) := ⟨rfl, rfl, rfl, by decide +kernel, rfl, by decide +kernel, by decide +kernel⟩
abbrev cLeads : Scope := lcS (valE (nthS (defBody sLeads) 0))
section
variable {P : Program} {w : World} {K : PySem.W.Frag} {mg : Str → Option Value} {base : Heap}
theorem ok_leads {f : Addr} {fd : FuncData} {k : Nat} (D : Df K mg "_law_leads" sLeads ["_law_nexts_here"] f fd) (B : Bi mg) : FnOk P w K mg base CX0 (k + 1) f fd ["_law_nexts_here"] (spLeads K) := by
  refine D.F.ok scLeads (fun vs H Q E h => ?_) (fun cdv A outer s H vs Q E hr h => ?_)
  · obtain ⟨a, nx, rfl, _⟩ := h
    rfl
  · obtain ⟨a, nx, rfl, hN, hl, q⟩ := h
    refine ⟨_, pss_one (ps_ret (pe_lc (own := [("_law_block", 1)]) (g := gName 1) (tt := tYes) (te := tLc (iRange (tLen K (tVar 0))) (gName 2) (tIn K (tVar 1) (tIxL K (tVar 0) (tVar 2))) (tVar 2) [2]) rfl scLeads.nd (pi_range1 (by rfl) B.range (pa_cons (pe_callB call_len_seq (by rfl) B.len PySem.boot_len (pa_cons (pv 0) pa_nil)) pa_nil))
      (blkOk_by (own := [("_law_block", 1)]) (N := nLeads) (sc := defScope sLeads) (by decide +kernel)) (fun _ _ _ _ _ => pg_name (i := 1) scLeads.nd rfl (.inr rfl)) (fun _ _ _ _ _ => pts_nil)
      (fun _ _ _ _ _ => pe_lc (own := [("_law_lead", 2)]) (g := gName 2) (tt := tIn K (tVar 1) (tIxL K (tVar 0) (tVar 2))) (te := tVar 2) rfl scLeads.nd (pi_range1 (by rfl) B.range (pa_cons (pe_callB call_len_seq (by rfl) B.len PySem.boot_len (pa_cons (pv 0) pa_nil)) pa_nil))
        (blkOk_by (own := [("_law_lead", 2)]) (N := nLeads) (sc := relS cLeads (defScope sLeads)) (by decide +kernel)) (fun _ _ _ _ _ => pg_name (i := 2) scLeads.nd rfl (.inl rfl))
        (fun _ _ _ _ _ => pts_one (pt_cmpR op_in_seq (pv 1) (pe_ix ix_list (pv 0) (pv 2) (fun _ _ => rfl)) rfl)) (fun _ _ _ _ _ => pv 2)))), ?_⟩
    obtain ⟨ys, hy, hyl⟩ := hN.len
    have hyi : (ys.length : Int) = (nx.length : Int) := by rw [hyl]
    refine ⟨.ref a, rfl, a, ys, rfl, .inl hy, nx.length, by rw [hyi], by omega, by omega, fun L nL => ?_⟩
    let f : Nat → List Nat := fun b => (List.range nx.length).filter fun l => decide (b ∈ nx.getD l [])
    refine lc_range (lo := 0) (n := nx.length) (fun i H1 => Same H H1 ∧ ∃ ps : List Addr, H1 L = some (.lst (ps.map V.ref)) ∧ Paired (fun q xs => H1 q = some (.lst (xs.map iv)) ∧ q ≠ L ∧ H q = none) ps ((List.range i).map f)) ⟨new_same nL, [], upd_same, .nil⟩ (fun i H1 hi hP => ?_) (fun H1 hP => ?_)
    · obtain ⟨sm, ps, eL, pd⟩ := hP
      have hN1 := hN.same sm
      have hy1 := sm.seq hy
      refine ⟨rfl, .ref a, rfl, a, ys, rfl, .inl hy1, nx.length, by rw [hyi], by omega, by omega, fun L2 nL2 => ?_⟩
      have n2 : L ≠ L2 := ne_of_none eL nL2
      refine lc_range (lo := 0) (n := nx.length) (fun j H2 => Same H1 H2 ∧ H2 L2 = some (.lst (((List.range j).filter fun l => decide (i ∈ nx.getD l [])).map iv))) ⟨new_same nL2, upd_same⟩ (fun j H2 hj hP2 => ?_) (fun H2 hP2 => ?_)
      · obtain ⟨sm2, eL2⟩ := hP2
        have ej : nx[j]? = some (nx.getD j []) := by rw [List.getD_eq_getElem?_getD, List.getElem?_eq_getElem hj]; rfl
        obtain ⟨zs, qa, z1, z2, z3, z4⟩ := (hN1.same sm2).at ej
        refine ⟨rfl, _, rfl, .ref a, rfl, _, rfl, a, zs, _, _, rfl, rfl, z1, by rw [Int.zero_add]; exact z3, qa, _, rfl, .inl z4, rfl, flat_iv _, _, rfl, ?_⟩
        have ei : inV (.int (0 + (i : Int))) ((nx.getD j []).map iv) = decide (i ∈ nx.getD j []) := by
          rw [Int.zero_add]; exact inV_iv i _
        have er : (List.range (j + 1)).filter (fun l => decide (i ∈ nx.getD l [])) = (List.range j).filter (fun l => decide (i ∈ nx.getD l [])) ++ (if decide (i ∈ nx.getD j []) = true then [j] else []) := by
          exact filt_succ _ j
        show if inV (.int (0 + (i : Int))) ((nx.getD j []).map iv) = true then _ else _
        rw [ei]
        by_cases hb : decide (i ∈ nx.getD j []) = true
        · rw [if_pos hb]
          rw [if_pos hb] at er
          refine ⟨_, rfl, _, eL2, ?_, fun b o e => ?_, ?_⟩
          · rw [List.length_map]
            exact szt (Nat.lt_of_le_of_lt (List.length_filter_le _ _) (by rw [List.length_range]; omega))
          · rw [upd_ne (ne_of_none e nL2)]
            exact sm2 _ _ e
          · rw [upd_same, er, List.map_append, Int.zero_add]
            rfl
        · rw [if_neg hb]
          rw [if_neg hb, List.append_nil] at er
          exact ⟨sm2, by rw [er]; exact eL2⟩
      · obtain ⟨sm2, eL2⟩ := hP2
        refine ⟨_, sm2 _ _ eL, ?_, fun b o e => ?_, ps ++ [L2], ?_, ?_⟩
        · rw [List.length_map, pd_len pd, List.length_map, List.length_range]
          exact szt (by omega)
        · rw [upd_ne (ne_of_none e nL)]
          exact sm2 _ _ (sm _ _ e)
        · rw [upd_same, List.map_append]
          rfl
        · rw [List.range_succ, List.map_append]
          refine pd_snoc (pd_mono pd fun b xs z => ⟨?_, z.2⟩) ⟨?_, n2.symm, sm.free nL2⟩
          · rw [upd_ne z.2.1]; exact sm2 _ _ z.1
          · rw [upd_ne n2.symm]
            exact eL2
    · obtain ⟨sm, ps, eL, pd⟩ := hP
      exact q L H1 sm ⟨ps, sqL (new_at nL eL), pd_mono pd fun _ _ z => sqL (new_at z.2.2 z.1)⟩
end
end Gn
set_option linter.all false
namespace Gn
/-! ### reached blocks, chains of nearest ones -/
inductive Rc (E : Nat → List Nat) (x : Nat) : Nat → Prop
  | z : x ≠ 0 → Rc E x 0
  | s {a b : Nat} : Rc E x a → b ∈ E a → b ≠ x → Rc E x b
inductive Rn (E : Nat → List Nat) (x : Nat) : Nat → Nat → Prop
  | z {n : Nat} : x ≠ 0 → Rn E x n 0
  | s {n a b : Nat} : Rn E x n a → b ∈ E a → b ≠ x → Rn E x (n + 1) b
variable {E : Nat → List Nat} {x y m n : Nat}
theorem Rn.mono {k b : Nat} (h : Rn E x n b) : n ≤ k → Rn E x k b := by
  induction h generalizing k with
  | z h => exact fun _ => .z h
  | s h hb hx ih =>
    intro hk
    obtain ⟨j, rfl⟩ : ∃ j, k = j + 1 := ⟨k - 1, by omega⟩
    exact .s (ih (by omega)) hb hx
theorem Rn.rc {b : Nat} (h : Rn E x n b) : Rc E x b := by
  induction h with
  | z h => exact .z h
  | s h hb hx ih => exact .s ih hb hx
theorem Rc.rn {b : Nat} (h : Rc E x b) : ∃ n, Rn E x n b := by
  induction h with
  | z h => exact ⟨0, .z h⟩
  | s h hb hx ih =>
    obtain ⟨n, hn⟩ := ih
    exact ⟨n + 1, .s hn hb hx⟩
theorem Rc.ne {b : Nat} (h : Rc E x b) : b ≠ x := by
  cases h with
  | z h => exact fun e => h e.symm
  | s _ _ hx => exact hx
theorem Rc.lt {b : Nat} (hm : 0 < m) (hE : ∀ a, ∀ b ∈ E a, b < m) (h : Rc E x b) : b < m := by
  cases h with
  | z h => exact hm
  | s _ hb _ => exact hE _ _ hb
theorem Rc.no0 {b : Nat} (h : Rc E 0 b) : False := by
  induction h with
  | z h => exact h rfl
  | s _ _ _ ih => exact ih
theorem Rn.stab (h : ∀ b, Rn E x (n + 1) b → Rn E x n b) {k b : Nat} (r : Rn E x k b) : Rn E x n b := by
  induction r with
  | z h0 => exact .z h0
  | s _ hb hx ih => exact h _ (.s ih hb hx)
theorem cnt_lt {p q : Nat → Bool} (h : ∀ y, p y = true → q y = true) {b : Nat} (hq : q b = true) (hp : p b = false) : ∀ {l : List Nat}, b ∈ l → l.countP p < l.countP q
  | c :: l, hb => by
    have hle : l.countP p ≤ l.countP q := List.countP_mono_left fun y _ e => h y e
    rw [List.countP_cons, List.countP_cons]
    rcases List.mem_cons.mp hb with rfl | hb
    · rw [hq, hp]
      simp
      omega
    · have := cnt_lt h hq hp hb
      by_cases e : p c = true
      · rw [e, h c e]; simp; omega
      · have : (if p c = true then 1 else 0) = 0 := if_neg e
        omega
open Classical in
noncomputable def cntR (E : Nat → List Nat) (x m n : Nat) : Nat := (List.range m).countP fun b => decide (Rn E x n b)
open Classical in
theorem grow (hm : 0 < m) (hE : ∀ a, ∀ b ∈ E a, b < m) (hx : x ≠ 0) : ∀ n, (∃ j, j ≤ n ∧ ∀ b, Rn E x (j + 1) b → Rn E x j b) ∨ n + 1 ≤ cntR E x m n
  | 0 => .inr (List.countP_pos_iff.mpr ⟨0, List.mem_range.mpr hm, decide_eq_true (.z hx)⟩)
  | n + 1 => by
    rcases grow hm hE hx n with ⟨j, hj, h⟩ | h
    · exact .inl ⟨j, by omega, h⟩
    · by_cases hs : ∀ b, Rn E x (n + 1) b → Rn E x n b
      · exact .inl ⟨n, by omega, hs⟩
      · obtain ⟨b, hb⟩ := Classical.not_forall.mp hs
        obtain ⟨h1, h2⟩ := Classical.not_imp.mp hb
        refine .inr ?_
        have : cntR E x m n < cntR E x m (n + 1) := cnt_lt (b := b) (fun y e => decide_eq_true ((of_decide_eq_true e : Rn E x n y).mono (Nat.le_succ n))) (decide_eq_true h1) (decide_eq_false h2) (List.mem_range.mpr (h1.rc.lt hm hE))
        omega
open Classical in
theorem Rc.rm (hm : 0 < m) (hE : ∀ a, ∀ b ∈ E a, b < m) {b : Nat} (h : Rc E x b) : Rn E x m b := by
  by_cases hx : x = 0
  · subst hx; exact h.no0.elim
  · have hc : cntR E x m m ≤ m := Nat.le_trans (List.countP_le_length (p := _)) (by rw [List.length_range]; exact Nat.le_refl _)
    rcases grow hm hE hx m with ⟨j, hj, hs⟩ | h2
    · obtain ⟨k, hk⟩ := h.rn
      exact (hk.stab hs).mono hj
    · omega
theorem Rn.split {b : Nat} (y : Nat) (h : Rn E x n b) : Rn E y n b ∨ Rn E x n y := by
  induction h with
  | z h =>
    by_cases e : y = 0
    · subst e; exact .inr (.z h)
    · exact .inl (.z e)
  | s h hb hx ih =>
    rename_i n a b
    rcases ih with ih | ih
    · by_cases e : b = y
      · subst e; exact .inr (.s h hb hx)
      · exact .inl (.s ih hb e)
    · exact .inr (ih.mono (Nat.le_succ _))
/-- each block but the first has a lesser lead -/
def Led (m : Nat) (E : Nat → List Nat) : Prop := ∀ b, 0 < b → b < m → ∃ j, j < b ∧ b ∈ E j
theorem rc_gt (hl : Led m E) : ∀ b, b < m → b < x → Rc E x b := by
  intro b
  induction b using Nat.strongRecOn with
  | ind b ih =>
    intro hb hx
    by_cases h0 : b = 0
    · subst h0; exact .z (by omega)
    · obtain ⟨j, hj, hbj⟩ := hl b (by omega) hb
      exact .s (ih j hj (by omega) (by omega)) hbj (by omega)
theorem dom_le (hl : Led m E) {b : Nat} (hb : b < m) (h : ¬ Rc E x b) : x ≤ b := Nat.le_of_not_lt fun z => h (rc_gt hl b hb z)
inductive Ch (N : Nat → Nat) : Nat → Nat → Prop
  | r {b : Nat} : Ch N b b
  | u {x b : Nat} : 0 < b → Ch N x (N b) → Ch N x b
variable {N : Nat → Nat}
/-- nearest ones are lesser -/
def Dn (m : Nat) (N : Nat → Nat) : Prop := ∀ b, 0 < b → b < m → N b < b
theorem Ch.inv {b : Nat} (h : Ch N x b) : x = b ∨ (0 < b ∧ Ch N x (N b)) := by
  cases h with
  | r => exact .inl rfl
  | u h0 h => exact .inr ⟨h0, h⟩
theorem Ch.le (hN : Dn m N) {b : Nat} (h : Ch N x b) : b < m → x ≤ b := by
  induction h with
  | r => exact fun _ => Nat.le_refl _
  | u h0 h ih => exact fun hb => by have := hN _ h0 hb; have := ih (by omega); omega
inductive Lca (N : Nat → Nat) : Nat → Nat → Nat → Prop
  | e {a : Nat} : Lca N a a a
  | l {a b c : Nat} : b < a → Lca N (N a) b c → Lca N a b c
  | r {a b c : Nat} : a < b → Lca N a (N b) c → Lca N a b c
theorem Lca.ch (hN : Dn m N) {a b c : Nat} (h : Lca N a b c) : a < m → b < m → ∀ x, Ch N x c ↔ Ch N x a ∧ Ch N x b := by
  induction h with
  | e => exact fun _ _ x => ⟨fun h => ⟨h, h⟩, fun h => h.1⟩
  | l hba h ih =>
    intro ha hb x
    have h1 := hN _ (by omega) ha
    rw [ih (by omega) hb x]
    refine ⟨fun q => ⟨.u (by omega) q.1, q.2⟩, fun q => ⟨?_, q.2⟩⟩
    rcases q.1.inv with rfl | z
    · have := q.2.le hN hb; omega
    · exact z.2
  | r hab h ih =>
    intro ha hb x
    have h1 := hN _ (by omega) hb
    rw [ih ha (by omega) x]
    refine ⟨fun q => ⟨q.1, .u (by omega) q.2⟩, fun q => ⟨q.1, ?_⟩⟩
    rcases q.2.inv with rfl | z
    · have := q.1.le hN ha; omega
    · exact z.2
/-- what lies on all ways to a block lies so to its nearest one -/
def Bet (m : Nat) (E : Nat → List Nat) (N : Nat → Nat) : Prop := ∀ b x, 0 < b → b < m → ¬ Rc E x b → x ≠ b → ¬ Rc E x (N b)
theorem Lca.dom (hN : Dn m N) (hl : Led m E) (hB : Bet m E N) {a b c : Nat} (h : Lca N a b c) : a < m → b < m → ¬ Rc E x a → ¬ Rc E x b → ¬ Rc E x c := by
  induction h with
  | e => exact fun _ _ h _ => h
  | l hba h ih =>
    intro ha hb h1 h2
    have h3 := hN _ (by omega) ha
    have h4 := dom_le hl hb h2
    exact ih (by omega) hb (hB _ _ (by omega) ha h1 (by omega)) h2
  | r hab h ih =>
    intro ha hb h1 h2
    have h3 := hN _ (by omega) hb
    have h4 := dom_le hl ha h1
    exact ih ha (by omega) h1 (hB _ _ (by omega) hb h2 (by omega))
theorem Lca.lt (hN : Dn m N) {a b c : Nat} (h : Lca N a b c) (ha : a < m) (hb : b < m) : c ≤ a := ((h.ch hN ha hb c).mp .r).1.le hN ha
inductive LcaL (N : Nat → Nat) : Nat → List Nat → Nat → Prop
  | n {c : Nat} : LcaL N c [] c
  | c {a b d e : Nat} {bs : List Nat} : Lca N a b d → LcaL N d bs e → LcaL N a (b :: bs) e
theorem LcaL.ch (hN : Dn m N) {a e : Nat} {bs : List Nat} (h : LcaL N a bs e) : a < m → (∀ b ∈ bs, b < m) → ∀ x, Ch N x e → ∀ b ∈ a :: bs, Ch N x b := by
  induction h with
  | n => exact fun _ _ x h b hb => by rw [List.mem_singleton.mp hb]; exact h
  | c h1 h2 ih =>
    intro ha hbs x hx b hb
    rename_i a b0 d e bs
    have hb0 := hbs b0 List.mem_cons_self
    have hd := h1.lt hN ha hb0
    have h4 := ih (by omega) (fun y hy => hbs y (List.mem_cons_of_mem _ hy)) x hx
    have h5 := (h1.ch hN ha hb0 x).mp (h4 d List.mem_cons_self)
    rcases List.mem_cons.mp hb with rfl | hb
    · exact h5.1
    · rcases List.mem_cons.mp hb with rfl | hb
      · exact h5.2
      · exact h4 b (List.mem_cons_of_mem _ hb)
theorem LcaL.dom (hN : Dn m N) (hl : Led m E) (hB : Bet m E N) {a e : Nat} {bs : List Nat} (h : LcaL N a bs e) : a < m → (∀ b ∈ bs, b < m) → (∀ b ∈ a :: bs, ¬ Rc E x b) → ¬ Rc E x e := by
  induction h with
  | n => exact fun _ _ h => h _ List.mem_cons_self
  | c h1 h2 ih =>
    intro ha hbs h
    rename_i a b0 d e bs
    have hb0 := hbs b0 List.mem_cons_self
    have hd := h1.lt hN ha hb0
    refine ih (by omega) (fun y hy => hbs y (List.mem_cons_of_mem _ hy)) fun b hb => ?_
    rcases List.mem_cons.mp hb with rfl | hb
    · exact h1.dom hN hl hB ha hb0 (h _ List.mem_cons_self) (h _ (List.mem_cons_of_mem _ List.mem_cons_self))
    · exact h b (List.mem_cons_of_mem _ (List.mem_cons_of_mem _ hb))
/-- the nearest common one of a list that isn't empty -/
def LcaB (N : Nat → Nat) (ld : List Nat) (e : Nat) : Prop := ∃ a bs, ld = a :: bs ∧ LcaL N a bs e
theorem LcaB.ch (hN : Dn m N) {ld : List Nat} {e : Nat} (h : LcaB N ld e) (hl : ∀ b ∈ ld, b < m) {x : Nat} (hx : Ch N x e) : ∀ b ∈ ld, Ch N x b := by
  obtain ⟨a, bs, rfl, h⟩ := h
  exact h.ch hN (hl a List.mem_cons_self) (fun b hb => hl b (List.mem_cons_of_mem _ hb)) x hx
theorem LcaB.dom (hN : Dn m N) (hl : Led m E) (hB : Bet m E N) {ld : List Nat} {e : Nat} (h : LcaB N ld e) (hm : ∀ b ∈ ld, b < m) (hd : ∀ b ∈ ld, ¬ Rc E x b) : ¬ Rc E x e := by
  obtain ⟨a, bs, rfl, h⟩ := h
  exact h.dom hN hl hB (hm a List.mem_cons_self) (fun b hb => hm b (List.mem_cons_of_mem _ hb)) hd
theorem LcaB.le (hN : Dn m N) {ld : List Nat} {e b : Nat} (h : LcaB N ld e) (hl : ∀ b ∈ ld, b < m) (hb : b ∈ ld) : e ≤ b := (h.ch hN hl .r b hb).le hN (hl b hb)
/-- nearest ones are on all ways of so many steps -/
def Kd (m : Nat) (E : Nat → List Nat) (N : Nat → Nat) (n : Nat) : Prop := ∀ b, 0 < b → b < m → ¬ Rn E (N b) n b
theorem Ch.kd (hN : Dn m N) (hK : Kd m E N n) {a : Nat} (h : Ch N x a) : a < m → ¬ Rn E x n a := by
  induction h with
  | r => exact fun _ h => h.rc.ne rfl
  | u h0 h ih =>
    intro ha hr
    have h1 := hN _ h0 ha
    rcases hr.split (N _) with q | q
    · exact hK _ h0 ha q
    · exact ih (by omega) q
/-- the leads of a block -/
def IsLd (m : Nat) (E : Nat → List Nat) (b : Nat) (ld : List Nat) : Prop := ∀ a, a ∈ ld ↔ a < m ∧ b ∈ E a
theorem IsLd.lt {b : Nat} {ld : List Nat} (h : IsLd m E b ld) : ∀ a ∈ ld, a < m := fun a ha => ((h a).mp ha).1
theorem lead_dom {b : Nat} {ld : List Nat} (h : IsLd m E b ld) (hd : ¬ Rc E x b) (hx : x ≠ b) : ∀ a ∈ ld, ¬ Rc E x a := fun a ha z => hd (.s z ((h a).mp ha).2 (Ne.symm hx))
theorem step_bet (hN : Dn m N) (hl : Led m E) (hB : Bet m E N) {b e : Nat} {ld : List Nat} (hld : IsLd m E b ld) (h : LcaB N ld e) (hd : ¬ Rc E x b) (hx : x ≠ b) : ¬ Rc E x e :=
  h.dom hN hl hB hld.lt (lead_dom hld hd hx)
theorem step_lt (hN : Dn m N) (hl : Led m E) {b e : Nat} {ld : List Nat} (h0 : 0 < b) (hb : b < m) (hld : IsLd m E b ld) (h : LcaB N ld e) : e < b := by
  obtain ⟨j, hj, hbj⟩ := hl b h0 hb
  have := h.le hN hld.lt ((hld j).mpr ⟨by omega, hbj⟩)
  omega
theorem step_kd (hE : ∀ a, E a ≠ [] → a < m) (hN : Dn m N) (hK : Kd m E N n) {b e : Nat} {ld : List Nat} (h0 : 0 < b) (hld : IsLd m E b ld) (h : LcaB N ld e) : ¬ Rn E e (n + 1) b := by
  intro z
  cases z with
  | z _ => omega
  | s hr hb hx =>
    rename_i a
    have ha : a ∈ ld := (hld a).mpr ⟨hE a (fun q => by rw [q] at hb; cases hb), hb⟩
    exact (h.ch hN hld.lt .r a ha).kd hN hK (hld.lt a ha) hr
theorem ch_of_dom (hl : Led m E) (hN : Dn m N) (hB : Bet m E N) : ∀ b, b < m → ¬ Rc E x b → Ch N x b := by
  intro b
  induction b using Nat.strongRecOn with
  | ind b ih =>
    intro hb hd
    by_cases e : x = b
    · subst e; exact .r
    · have h0 : 0 < b := by
        have := dom_le hl hb hd
        omega
      have := hN b h0 hb
      exact .u h0 (ih _ this (by omega) (hB b x h0 hb hd e))
/-- by so many steps as there are blocks nothing changes any more -/
theorem step_end (hm : 0 < m) (hE : ∀ a, ∀ b ∈ E a, b < m) (hE2 : ∀ a, E a ≠ [] → a < m) (hl : Led m E) (hN : Dn m N) (hB : Bet m E N) (hK : Kd m E N m) {b e : Nat} {ld : List Nat} (h0 : 0 < b) (hb : b < m) (hld : IsLd m E b ld) (h : LcaB N ld e) : e = N b := by
  have h1 := hN b h0 hb
  have h2 := step_lt hN hl h0 hb hld h
  have hD : ∀ {x a : Nat}, Ch N x a → a < m → ¬ Rc E x a := fun hc ha z => hc.kd hN hK ha (z.rm hm hE)
  have h3 : ¬ Rc E (N b) b := hD (.u h0 .r) hb
  have h4 : ¬ Rc E (N b) e := step_bet hN hl hB hld h h3 (by omega)
  have h5 := dom_le hl (by omega) h4
  have h6 : ¬ Rc E e b := fun z => by
    cases z with
    | z _ => omega
    | s hr hb' hx =>
      rename_i a
      have ha : a ∈ ld := (hld a).mpr ⟨hE2 a (fun q => by rw [q] at hb'; cases hb'), hb'⟩
      exact hD (h.ch hN hld.lt .r a ha) (hld.lt a ha) hr
  rcases (ch_of_dom hl hN hB b hb h6).inv with q | q
  · omega
  · have := q.2.le hN (by omega)
    omega
/-- where nothing changes, chains are what lies on all ways -/
theorem ch_dom (hm : 0 < m) (hE : ∀ a, ∀ b ∈ E a, b < m) (hE2 : ∀ a, E a ≠ [] → a < m) (hE0 : ∀ a, 0 ∉ E a) (hl : Led m E) (hN : Dn m N) (hB : Bet m E N) (hF : ∀ b, 0 < b → b < m → ∃ ld, IsLd m E b ld ∧ LcaB N ld (N b)) {b : Nat} (hb : b < m) : Ch N x b ↔ ¬ Rc E x b := by
  refine ⟨fun hc hr => ?_, ch_of_dom hl hN hB b hb⟩
  revert hc
  induction hr with
  | z hx =>
    intro hc
    rcases hc.inv with q | q
    · exact hx q
    · exact Nat.lt_irrefl _ q.1
  | s hr hba hx ih =>
    intro hc
    rename_i a b
    have ha : a < m := hE2 a (fun q => by rw [q] at hba; cases hba)
    rcases hc.inv with q | q
    · exact hx q.symm
    · obtain ⟨ld, h1, h2⟩ := hF b q.1 (hE a b hba)
      exact ih ha (h2.ch hN h1.lt q.2 a ((h1 a).mpr ⟨ha, hba⟩))
theorem asc_eq : ∀ {l k : List Nat}, l.Pairwise (· < ·) → k.Pairwise (· < ·) → (∀ x, x ∈ l ↔ x ∈ k) → l = k
  | [], [], _, _, _ => rfl
  | [], b :: k, _, _, h => by have := (h b).mpr List.mem_cons_self; cases this
  | a :: l, [], _, _, h => by have := (h a).mp List.mem_cons_self; cases this
  | a :: l, b :: k, hl, hk, h => by
    have hl' := List.pairwise_cons.mp hl
    have hk' := List.pairwise_cons.mp hk
    have e : a = b := by
      rcases List.mem_cons.mp ((h a).mp List.mem_cons_self) with q | q
      · exact q
      · rcases List.mem_cons.mp ((h b).mpr List.mem_cons_self) with z | z
        · exact z.symm
        · have := hk'.1 a q; have := hl'.1 b z; omega
    subst e
    rw [asc_eq hl'.2 hk'.2 fun x => ⟨fun hx => ?_, fun hx => ?_⟩]
    · rcases List.mem_cons.mp ((h x).mp (List.mem_cons_of_mem _ hx)) with q | q
      · have := hl'.1 x hx; omega
      · exact q
    · rcases List.mem_cons.mp ((h x).mpr (List.mem_cons_of_mem _ hx)) with q | q
      · have := hk'.1 x hx; omega
      · exact q
end Gn
set_option Elab.async false
set_option linter.all false
set_option maxRecDepth 100000
set_option maxHeartbeats 4000000
namespace Gn
open PySem PySem.Spec PyProof.Rows L2
/-! ### reached -/
def Ex (nx : List (List Nat)) (a : Nat) : List Nat := nx.getD a []
theorem Ex.at {nx : List (List Nat)} {a : Nat} (h : a < nx.length) : Ex nx a = nx[a] := by
  unfold Ex
  rw [List.getD_eq_getElem?_getD, List.getElem?_eq_getElem h]
  rfl
theorem nd_le : ∀ {m : Nat} {l : List Nat}, l.Nodup → (∀ y ∈ l, y < m) → l.length ≤ m
  | 0, [], _, _ => Nat.le_refl _
  | 0, a :: l, _, h => absurd (h a List.mem_cons_self) (Nat.not_lt_zero _)
  | m + 1, l, hn, h => by
    by_cases hm : m ∈ l
    · have h1 := List.length_erase_of_mem hm
      have h2 := nd_le (m := m) (hn.erase m) fun y hy => by
        have h3 := (hn.mem_erase_iff).mp hy
        have := h y h3.2
        omega
      omega
    · have := nd_le (m := m) hn fun y hy => by
        have h1 := h y hy
        have h2 : y ≠ m := fun e => hm (e ▸ hy)
        omega
      omega
def Cls (nx : List (List Nat)) (wo : Nat) (ns : List Nat) : Prop := ∀ a ∈ ns, ∀ b ∈ Ex nx a, b ≠ wo → b ∈ ns
theorem cls_rc {nx : List (List Nat)} {wo : Nat} {ns : List Nat} (h : Cls nx wo ns) (h0 : wo ≠ 0 → 0 ∈ ns) {y : Nat} (r : Rc (Ex nx) wo y) : y ∈ ns := by
  induction r with
  | z hx => exact h0 hx
  | s _ hb hx ih => exact h _ ih _ hb hx
def spReached (K : PySem.W.Frag) : Sp := fun vs H Q _ => ∃ (a : Addr) (nx : List (List Nat)) (wo : Nat), vs = [.ref a, .int wo] ∧ NL K H a nx ∧ 0 < nx.length ∧ nx.length ≤ 12 ∧
  (∀ xs ∈ nx, xs.length ≤ 2 ∧ ∀ y ∈ xs, y < nx.length) ∧
  ∀ (p : Addr) (ns : List Nat) (H' : Hp), H p = none → Same H H' → H' p = some (.lst (ns.map iv)) → (∀ y ∈ ns, y < nx.length) → (∀ y, y ∈ ns ↔ Rc (Ex nx) wo y) → Q (.ref p) H'
abbrev nReached : List Str := ["_law_nexts_here", "_law_without", "_law_found", "_law_turn", "_law_block", "_law_one"]
theorem scReached : FnScope nReached ["_law_nexts_here", "_law_without"] (defScope sReached) := ⟨rfl, rfl, rfl, by decide +kernel, rfl, by decide +kernel, by decide +kernel⟩
theorem pick2 {c : Bool} {σ : L2.St} {H : Hp} {Q : VK} (h : ∀ p (ns : List Nat), H p = none → (c = true → ns = []) → (c = false → ns = [0]) → (∀ y ∈ ns, y = 0) → ns.length ≤ 1 → Q (.ref p) (upd H p (.lst (ns.map iv)))) :
    if c = true then tLst tNil σ H Q else tLst (tCons (tC (.int 0)) tNil) σ H Q := by
  cases c with
  | true => exact ⟨Nat.zero_le _, fun p np => h p [] np (fun _ => rfl) (fun e => by cases e) (fun y hy => by cases hy) (Nat.zero_le _)⟩
  | false => exact ⟨szl (show 1 ≤ 1000000 by decide), fun p np => h p [0] np (fun e => by cases e) (fun _ => rfl) (fun y hy => by simpa using hy) (Nat.le_refl _)⟩
theorem ints_iv {os : List Int} (h : ∀ k ∈ os, 0 ≤ k) : os.map V.int = (os.map Int.toNat).map iv := by
  rw [List.map_map]
  refine List.map_congr_left fun k hk => ?_
  show V.int k = V.int ((k.toNat : Nat) : Int)
  rw [Int.toNat_of_nonneg (h k hk)]
theorem pow3 {i m : Nat} (h : i ≤ m) (hm : m ≤ 12) : 3 ^ i ≤ 531441 := Nat.le_trans (Nat.pow_le_pow_right (by decide) (Nat.le_trans h hm)) (by decide)
section
variable {P : Program} {w : World} {K : PySem.W.Frag} {mg : Str → Option Value} {base : Heap}
theorem ok_reached {f : Addr} {fd : FuncData} {k : Nat} (D : Df K mg "_law_reached" sReached ["_law_nexts_here", "_law_without"] f fd) (B : Bi mg) : FnOk P w K mg base CX0 (k + 1) f fd ["_law_nexts_here", "_law_without"] (spReached K) := by
  refine D.F.ok scReached (fun vs H Q E h => ?_) (fun cdv A outer s H vs Q E hr h => ?_)
  · obtain ⟨a, nx, wo, rfl, _⟩ := h
    rfl
  · obtain ⟨a, nx, wo, rfl, hN, hl0, hl, hx, q⟩ := h
    refine ⟨_, pss_cons (ps_set (i := 2) scReached.nd rfl (.inr rfl) (pe_ifExp (pt_cmpR op_eq (pv 1) pe_int (nomark _)) (pe_lst pa_nil) (pe_lst (pa_cons pe_int pa_nil))))
      (pss_cons (ps_for PassesOwn.never rfl (pi_range1 (by rfl) B.range (pa_cons (pe_callB call_len_seq (by rfl) B.len PySem.boot_len (pa_cons (pv 0) pa_nil)) pa_nil)) (pg_name (i := 3) scReached.nd rfl (.inl rfl))
        (pss_one (ps_for PassesOwn.never rfl (pi_list (pe_callTy call_list_of (by rfl) B.list PyProof.Rows.boot_list (pa_cons (pv 2) pa_nil))) (pg_name (i := 4) scReached.nd rfl (.inl rfl))
          (pss_one (ps_set (i := 2) scReached.nd rfl (.inr rfl) (pe_op op_cat (pv 2) (pe_lc (own := [("_law_one", 5)]) (g := gName 5) (tt := tAnd (tTest (tOp rNe (tVar 5) (tVar 1))) (tNotIn K (tVar 5) (tVar 2))) (te := tVar 5) rfl scReached.nd
            (pi_list (pe_callB (cr_sortedSet rfl) (by rfl) B.sorted PyProof.Rows.boot_sorted (pa_cons (pe_callTy (cr_setL rfl) (by rfl) B.set PyProof.Rows.boot_set (pa_cons (pe_ix ix_list (pv 0) (pv 4) (fun _ _ => rfl)) pa_nil)) pa_nil)))
            (blkOk_by (own := [("_law_one", 5)]) (N := nReached) (sc := defScope sReached) (by decide +kernel)) (fun _ _ _ _ _ => pg_name (i := 5) scReached.nd rfl (.inl rfl))
            (fun _ _ _ _ _ => pts_one (pw_and (pt_cmpR op_ne (pv 5) (pv 1) (nomark _)) (pw_and1 (pt_cmpR op_notIn_seq (pv 5) (pv 2) rfl))).pt) (fun _ _ _ _ _ => pv 5))))))))
      (pss_one (ps_ret (pv 2)))), ?_⟩
    obtain ⟨ys, hy, hyl⟩ := hN.len
    have hyi : (ys.length : Int) = (nx.length : Int) := by rw [hyl]
    refine ⟨_, rfl, rfl, _, rfl, pick2 fun p0 ns0 np0 e0 e00 e1 e2 => ?_⟩
    have s0 : Same H (upd H p0 (.lst (ns0.map iv))) := new_same np0
    have w0 : wo = 0 → ns0 = [] := fun e => e0 (decide_eq_true (by rw [e]; rfl))
    have w1 : wo ≠ 0 → ns0 = [0] := fun e => e00 (decide_eq_false fun z => e (by have := V.int.inj z; omega))
    have dS : ns0.Nodup ∧ (∀ y ∈ ns0, Rc (Ex nx) wo y) ∧ (wo ≠ 0 → 0 ∈ ns0) ∧ (Cls nx wo ns0 ∨ 0 + 1 ≤ ns0.length) := by
      by_cases hw : wo = 0
      · rw [w0 hw]
        exact ⟨List.nodup_nil, fun y hy => (by cases hy), fun z => absurd hw z, .inl fun a ha => (by cases ha)⟩
      · rw [w1 hw]
        exact ⟨by simp, fun y hy => (by rw [List.mem_singleton.mp hy]; exact .z hw), fun _ => List.mem_cons_self, .inr (Nat.le_refl _)⟩
    obtain ⟨d1, d2, d3, d4⟩ := dS
    refine ⟨.ref a, rfl, a, ys, rfl, .inl (s0.seq hy), nx.length, by rw [hyi], by omega, by omega, ?_⟩
    refine for_range (lo := 0) (n := nx.length) (fun i σ H1 => ∃ (fa : Addr) (ns : List Nat) (y3 y4 y5 : Option V), σ = [some (.ref a), some (.int wo), some (.ref fa), y3, y4, y5] ∧ H fa = none ∧ Same H H1 ∧
      H1 fa = some (.lst (ns.map iv)) ∧ (∀ y ∈ ns, y < nx.length) ∧ (wo = 0 → ns = []) ∧ ns.Nodup ∧ (∀ y ∈ ns, Rc (Ex nx) wo y) ∧ (wo ≠ 0 → 0 ∈ ns) ∧ (Cls nx wo ns ∨ i + 1 ≤ ns.length))
      ⟨p0, ns0, none, none, none, rfl, np0, s0, upd_same, fun y hy => (by rw [e1 y hy]; exact hl0), w0, d1, d2, d3, d4⟩ (fun i σ H1 hi hP => ?_) (fun σ H1 hP => ?_)
    · obtain ⟨fa, ns, y3, y4, y5, rfl, nfa, sm, efa, hns, hw, hnd, hrc, hze, hcl⟩ := hP
      refine ⟨.ref fa, rfl, fa, _, rfl, .inl (sqL efa), fun l nl => ⟨l, rfl, ⟨_, sqL upd_same⟩, ?_⟩⟩
      have nfl : fa ≠ l := ne_of_none efa nl
      refine for_list (K := K) (a := l) (xs := ns.map iv) (fun j σ H2 => ∃ (fb : Addr) (ms : List Nat) (y4 y5 : Option V), σ = [some (.ref a), some (.int wo), some (.ref fb), some (.int (0 + (i : Int))), y4, y5] ∧ H fb = none ∧ Same H H2 ∧
        H2 l = some (.lst (ns.map iv)) ∧ H2 fb = some (.lst (ms.map iv)) ∧ (∀ y ∈ ms, y < nx.length) ∧ (wo = 0 → ms = []) ∧ ms.Nodup ∧ (∀ y ∈ ms, Rc (Ex nx) wo y) ∧ (∃ more, ms = ns ++ more) ∧ (Cls nx wo ns → ms = ns) ∧ ∀ a ∈ ns.take j, ∀ b ∈ Ex nx a, b ≠ wo → b ∈ ms)
        ⟨fa, ns, y4, y5, rfl, nfa, sm.trans (new_same nl), upd_same, (by rw [upd_ne nfl]; exact efa), hns, hw, hnd, hrc, ⟨[], (List.append_nil _).symm⟩, fun _ => rfl, fun a ha => (by cases ha)⟩ (fun j σ H2 _ hP2 => ?_) (fun j x σ H2 hx2 hP2 => ?_) (fun σ H2 hP2 => ?_)
      · obtain ⟨_, _, _, _, _, _, _, el, _⟩ := hP2
        exact sqL el
      · obtain ⟨fb, ms, z4, z5, rfl, nfb, sm2, el, efb, hms, hw2, hmd, hmr, hmp, hmc, hmj⟩ := hP2
        rw [List.getElem?_map] at hx2
        obtain ⟨b, hb, rfl⟩ := Option.map_eq_some_iff.mp hx2
        have hbm : b ∈ ns := List.mem_of_getElem? hb
        have hbn : b < nx.length := hns b hbm
        have hjn : j < ns.length := (List.getElem?_eq_some_iff.mp hb).1
        have wo1 : wo ≠ 0 := fun e => by rw [hw e] at hbm; cases hbm
        obtain ⟨us, qa, u1, u2, u3, u4⟩ := (hN.same sm2).at (List.getElem?_eq_getElem hbn)
        obtain ⟨hx1, hx3⟩ := hx nx[b] (List.getElem_mem hbn)
        have hEb := Ex.at hbn
        refine ⟨.ref fb, rfl, .ref a, rfl, _, rfl, a, us, _, _, rfl, rfl, u1, u3, qa, nx[b].map Int.ofNat, rfl, by rw [List.map_map]; exact u4, by rw [List.length_map]; omega, fun ps c nps hc => ?_⟩
        rw [List.length_map] at hc
        refine ⟨ps, _, c, rfl, upd_same, by omega, fun os p hpw hmem hol np => ⟨p, rfl, ⟨_, sqL upd_same⟩, fun L nL => ?_⟩⟩
        have hos : ∀ k ∈ os, ∃ n : Nat, k = (n : Int) ∧ n ∈ nx[b] := fun k hk => by
          have h1 := of_decide_eq_true ((hmem k).mp hk)
          obtain ⟨n, hn, rfl⟩ := List.mem_map.mp h1
          exact ⟨n, rfl, hn⟩
        have hos2 : ∀ n : Nat, n ∈ nx[b] → (n : Int) ∈ os := fun n hn => (hmem _).mpr (decide_eq_true (List.mem_map.mpr ⟨n, hn, rfl⟩))
        have sA : Same H2 (upd (upd H2 ps (SetO w ps (fun j => decide (j ∈ nx[b].map Int.ofNat)) c)) p (.lst (os.map V.int))) := (new_same nps).trans (new_same np)
        generalize hHs : upd (upd H2 ps (SetO w ps (fun j => decide (j ∈ nx[b].map Int.ofNat)) c)) p (.lst (os.map V.int)) = Hs at sA
        have nM : Hs L = none := by rw [← hHs]; exact nL
        have ep : Hs p = some (.lst (os.map V.int)) := by rw [← hHs]; exact upd_same
        show ∃ W : Nat → Nat → Hp → Prop, (∃ m, W 0 m (upd (upd (upd H2 ps (SetO w ps (fun j => decide (j ∈ nx[b].map Int.ofNat)) c)) p (.lst (os.map V.int))) L (.lst []))) ∧ _
        rw [hHs]
        have nLf : fb ≠ L := ne_of_none (sA _ _ efb) nM
        have hml := nd_le hmd hms
        refine lc_list (K := K) (a := p) (xs := os.map V.int) (fun jj H3 => Same Hs H3 ∧ ∃ es : List Nat, H3 L = some (.lst (es.map iv)) ∧ es.length ≤ jj ∧ es.Nodup ∧ ∀ y : Nat, y ∈ es ↔ ((y : Int) ∈ os.take jj ∧ y ≠ wo ∧ y ∉ ms)) ⟨new_same nM, [], upd_same, Nat.le_refl _, List.nodup_nil, fun y => ⟨fun hy => (by cases hy), fun hy => (by cases hy.1)⟩⟩
          (fun jj H3 _ hP3 => sqL (hP3.1 _ _ ep)) (fun jj x H3 hx4 hP3 => ?_) (fun H3 hP3 => ?_)
        · obtain ⟨sm3, es, eL, hel, hed, hes⟩ := hP3
          rw [List.getElem?_map] at hx4
          obtain ⟨k, hk, rfl⟩ := Option.map_eq_some_iff.mp hx4
          obtain ⟨n, rfl, hn⟩ := hos k (List.mem_of_getElem? hk)
          have hkL := (List.getElem?_eq_some_iff.mp hk).1
          have hnt : (n : Int) ∉ os.take jj := fun z => by
            obtain ⟨i2, h21, h22⟩ := List.mem_iff_getElem.mp z
            rw [List.length_take] at h21
            rw [List.getElem_take] at h22
            have h23 := List.pairwise_iff_getElem.mp hpw i2 jj (by omega) hkL (by omega)
            rw [h22] at h23
            have h24 := (List.getElem?_eq_some_iff.mp hk).2
            omega
          have htk : os.take (jj + 1) = os.take jj ++ [(n : Int)] := by rw [List.take_add_one, hk]; rfl
          have stay : (n = wo ∨ n ∈ ms) → Same Hs H3 ∧ ∃ es : List Nat, H3 L = some (.lst (es.map iv)) ∧ es.length ≤ jj + 1 ∧ es.Nodup ∧ ∀ y : Nat, y ∈ es ↔ ((y : Int) ∈ os.take (jj + 1) ∧ y ≠ wo ∧ y ∉ ms) := fun hno => by
            refine ⟨sm3, es, eL, by omega, hed, fun y => ?_⟩
            rw [hes y, htk, List.mem_append, List.mem_singleton]
            refine ⟨fun z => ⟨.inl z.1, z.2⟩, fun z => ⟨?_, z.2⟩⟩
            rcases z.1 with q | q
            · exact q
            · have : y = n := by omega
              subst this
              rcases hno with q2 | q2
              · exact absurd q2 z.2.1
              · exact absurd q2 z.2.2
          refine ⟨rfl, _, rfl, _, rfl, rfl, _, rfl, ?_⟩
          have ew : decide (V.int (n : Int) = V.int (wo : Int)) = decide (n = wo) := decide_eq_decide.mpr ⟨fun e => by have := V.int.inj e; omega, fun e => by rw [e]⟩
          show if (!decide (V.int (n : Int) = V.int (wo : Int))) = true then _ else _
          rw [ew]
          by_cases hnw : n = wo
          · rw [if_neg (by rw [decide_eq_true hnw]; decide)]
            exact stay (.inl hnw)
          · rw [if_pos (by rw [decide_eq_false hnw]; rfl)]
            refine ⟨_, rfl, .ref fb, rfl, fb, _, rfl, .inl (sqL (sm3 _ _ (sA _ _ efb))), rfl, flat_iv _, _, rfl, ?_⟩
            show if (!inV (iv n) (ms.map iv)) = true then _ else _
            rw [inV_iv]
            by_cases hnm : n ∈ ms
            · rw [if_neg (by rw [decide_eq_true hnm]; decide)]
              exact stay (.inr hnm)
            · rw [if_pos (by rw [decide_eq_false hnm]; rfl)]
              refine ⟨_, rfl, _, eL, ?_, fun b o e => ?_, es ++ [n], ?_, ?_, ?_, ?_⟩
              · rw [List.length_map]
                exact szt (by omega)
              · rw [upd_ne (ne_of_none e nM)]
                exact sm3 _ _ e
              · rw [upd_same, List.map_append]
                rfl
              · rw [List.length_append, List.length_singleton]
                omega
              · rw [List.nodup_append]
                refine ⟨hed, by simp, fun y hy z hz e => ?_⟩
                rw [List.mem_singleton.mp hz] at e
                subst e
                exact hnt ((hes y).mp hy).1
              · intro y
                rw [List.mem_append, List.mem_singleton, hes y, htk, List.mem_append, List.mem_singleton]
                constructor
                · rintro (z | rfl)
                  · exact ⟨.inl z.1, z.2⟩
                  · exact ⟨.inr rfl, hnw, hnm⟩
                · rintro ⟨z | z, z2⟩
                  · exact .inl ⟨z, z2⟩
                  · exact .inr (by omega)
        · obtain ⟨sm3, es, eL, hel, hed, hes⟩ := hP3
          rw [List.length_map, List.take_length] at hes
          rw [List.length_map] at hel
          have hes1 : ∀ y ∈ es, y ∈ nx[b] ∧ y ≠ wo ∧ y ∉ ms := fun y hy => by
            obtain ⟨h1, h2⟩ := (hes y).mp hy
            obtain ⟨n, h3, h4⟩ := hos _ h1
            have : y = n := by omega
            subst this
            exact ⟨h4, h2⟩
          have hesl : es.length ≤ nx.length := nd_le hed fun y hy => hx3 y (hes1 y hy).1
          refine ⟨fb, L, _, _, rfl, rfl, sm3 _ _ (sA _ _ efb), eL, ?_, fun r nr => ?_⟩
          · rw [List.length_map, List.length_map]
            exact szl (by omega)
          · have sB : Same H2 H3 := sA.trans sm3
            have sC : Same H2 (upd H3 r (.lst (ms.map iv ++ es.map iv))) := sB.trans (new_same nr)
            refine ⟨r, ms ++ es, _, _, rfl, ?_, sm2.trans sC, sC _ _ el, ?_, ?_, ?_, ?_, ?_, ?_, ?_, ?_⟩
            · exact (sm2.trans sB).free nr
            · rw [upd_same, List.map_append]
            · intro y hy
              rcases List.mem_append.mp hy with h1 | h1
              · exact hms y h1
              · exact hx3 y (hes1 y h1).1
            · exact fun e => absurd e wo1
            · rw [List.nodup_append]
              exact ⟨hmd, hed, fun y hy z hz e => (hes1 z hz).2.2 (e ▸ hy)⟩
            · intro y hy
              rcases List.mem_append.mp hy with h1 | h1
              · exact hmr y h1
              · exact .s (hrc b hbm) (by rw [hEb]; exact (hes1 y h1).1) (hes1 y h1).2.1
            · obtain ⟨more, rfl⟩ := hmp
              exact ⟨more ++ es, List.append_assoc _ _ _⟩
            · intro hc2
              have hmn := hmc hc2
              have hnil : es = [] := by
                cases hes0 : es with
                | nil => rfl
                | cons y r2 =>
                  have hy := hes1 y (by rw [hes0]; exact List.mem_cons_self)
                  exact absurd (by rw [hmn]; exact hc2 b hbm y (by rw [hEb]; exact hy.1) hy.2.1) hy.2.2
              rw [hnil, List.append_nil]
              exact hmn
            · intro a ha y hy hyw
              rw [List.take_add_one, hb] at ha
              rcases List.mem_append.mp ha with h1 | h1
              · exact List.mem_append_left _ (hmj a h1 y hy hyw)
              · have : a = b := List.mem_singleton.mp h1
                subst this
                rw [hEb] at hy
                by_cases hym : y ∈ ms
                · exact List.mem_append_left _ hym
                · exact List.mem_append_right _ ((hes y).mpr ⟨hos2 y hy, hyw, hym⟩)
      · obtain ⟨fb, ms, z4, z5, rfl, nfb, sm2, el, efb, hms, hw2, hmd, hmr, hmp, hmc, hmj⟩ := hP2
        rw [List.length_map, List.take_length] at hmj
        refine ⟨fb, ms, _, _, _, rfl, nfb, sm2, efb, hms, hw2, hmd, hmr, fun e => ?_, ?_⟩
        · obtain ⟨more, rfl⟩ := hmp
          exact List.mem_append_left _ (hze e)
        · by_cases hc2 : Cls nx wo ns
          · exact .inl (by rw [hmc hc2]; exact hc2)
          · obtain ⟨more, rfl⟩ := hmp
            have hl1 : i + 1 ≤ ns.length := by
              rcases hcl with q | q
              · exact absurd q hc2
              · exact q
            cases more with
            | nil =>
              rw [List.append_nil] at hmj
              exact absurd hmj hc2
            | cons y r2 =>
              refine .inr ?_
              rw [List.length_append, List.length_cons]
              omega
    · obtain ⟨fa, ns, y3, y4, y5, rfl, nfa, sm, efa, hns, hw, hnd, hrc, hze, hcl⟩ := hP
      have hl2 := nd_le hnd hns
      have hcl2 : Cls nx wo ns := by
        rcases hcl with q | q
        · exact q
        · omega
      exact ⟨.ref fa, rfl, q fa ns H1 nfa sm efa hns fun y => ⟨hrc y, cls_rc hcl2 hze⟩⟩
end
end Gn
set_option Elab.async false
set_option linter.all false
set_option maxRecDepth 100000
set_option maxHeartbeats 4000000
namespace Gn
open PySem PySem.Spec PyProof.Rows L2
/-! ### above -/
/-- the blocks on all ways to each -/
noncomputable def dB (nx : List (List Nat)) (o b : Nat) : Bool := @decide (¬ Rc (Ex nx) o b) (Classical.propDecidable _)
theorem dB_iff {nx : List (List Nat)} {o b : Nat} : dB nx o b = true ↔ ¬ Rc (Ex nx) o b := @decide_eq_true_iff _ (Classical.propDecidable _)
noncomputable def abv (nx : List (List Nat)) : List (List Nat) := (List.range nx.length).map fun b => (List.range nx.length).filter fun o => dB nx o b
def spAbove (K : PySem.W.Frag) : Sp := fun vs H Q _ => ∃ (a : Addr) (nx : List (List Nat)), vs = [.ref a] ∧ NL K H a nx ∧ 0 < nx.length ∧ nx.length ≤ 12 ∧
  (∀ xs ∈ nx, xs.length ≤ 2 ∧ ∀ y ∈ xs, y < nx.length) ∧
  ∀ (p : Addr) (ab : List (List Nat)) (H' : Hp), Same H H' → NL K (newOf H H') p ab → ab.length = nx.length → (∀ xs ∈ ab, 0 ∈ xs ∧ ∀ y ∈ xs, y < nx.length) → ab = abv nx → Q (.ref p) H'
abbrev nAbove : List Str := ["_law_nexts_here", "_law_many", "_law_reached_here", "_law_block", "_law_one"]
theorem scAbove : FnScope nAbove ["_law_nexts_here"] (defScope sAbove) := ⟨rfl, rfl, rfl, by decide +kernel, rfl, by decide +kernel, by decide +kernel⟩
abbrev cAbove : Scope := lcS (valE (nthS (defBody sAbove) 2))
theorem rgV_iv (m : Nat) : rgV 0 (m : Int) = (List.range m).map iv := by
  unfold rgV
  rw [Int.sub_zero, Int.toNat_natCast]
  refine List.map_congr_left fun k _ => ?_
  show V.int (0 + (k : Int)) = V.int (k : Int)
  rw [Int.zero_add]
theorem rg_at {m i : Nat} {x : V} (h : ((List.range m).map iv)[i]? = some x) : i < m ∧ x = iv i := by
  rw [List.getElem?_map] at h
  obtain ⟨y, hy, rfl⟩ := Option.map_eq_some_iff.mp h
  have h1 := (List.getElem?_eq_some_iff.mp hy)
  obtain ⟨h2, h3⟩ := h1
  rw [List.length_range] at h2
  rw [List.getElem_range] at h3
  exact ⟨h2, by rw [h3]⟩
section
variable {P : Program} {w : World} {K : PySem.W.Frag} {mg : Str → Option Value} {base : Heap}
theorem ok_above {f fR : Addr} {fd fdR : FuncData} {k : Nat} (D : Df K mg "_law_above" sAbove ["_law_nexts_here"] f fd) (B : Bi mg) (DR : Df K mg "_law_reached" sReached ["_law_nexts_here", "_law_without"] fR fdR)
    (GR : FnOk P w K mg base CX0 k fR fdR ["_law_nexts_here", "_law_without"] (spReached K)) : FnOk P w K mg base CX0 (k + 1) f fd ["_law_nexts_here"] (spAbove K) := by
  refine D.F.ok scAbove (fun vs H Q E h => ?_) (fun cdv A outer s H vs Q E hr h => ?_)
  · obtain ⟨a, nx, rfl, _⟩ := h
    rfl
  · obtain ⟨a, nx, rfl, hN, hl0, hl, hx, q⟩ := h
    refine ⟨_, pss_cons (ps_set (i := 1) scAbove.nd rfl (.inr rfl) (pe_listRg rfl (by rfl) B.list (prg_1 (by rfl) B.range (pe_callB call_len_seq (by rfl) B.len PySem.boot_len (pa_cons (pv 0) pa_nil)))))
      (pss_cons (ps_set (i := 2) scAbove.nd rfl (.inr rfl) (pe_lc (own := [("_law_block", 3)]) (g := gName 3) (tt := tYes) (te := tCall (spReached K) [] E0 (tCons (tVar 0) (tCons (tVar 3) tNil))) rfl scAbove.nd (pi_list (pv 1))
        (blkOk_by (own := [("_law_block", 3)]) (N := nAbove) (sc := defScope sAbove) (by decide +kernel)) (fun _ _ _ _ _ => pg_name (i := 3) scAbove.nd rfl (.inl rfl)) (fun _ _ _ _ _ => pts_nil)
        (fun _ _ _ _ _ => pe_call GR hr (by rfl) DR.g DR.F.kp DR.b .nil pass0 (pa_cons (pv 0) (pa_cons (pv 3) pa_nil)))))
      (pss_one (ps_ret (pe_lc (own := [("_law_block", 3)]) (g := gName 3) (tt := tYes) (te := tLc (iList K (tVar 1)) (gName 4) (tOr (tTest (tOp rEq (tVar 4) (tVar 3))) (tNotIn K (tVar 3) (tIxL K (tVar 2) (tVar 4)))) (tVar 4) [4]) rfl scAbove.nd (pi_list (pv 1))
        (blkOk_by (own := [("_law_block", 3)]) (N := nAbove) (sc := defScope sAbove) (by decide +kernel)) (fun _ _ _ _ _ => pg_name (i := 3) scAbove.nd rfl (.inr rfl)) (fun _ _ _ _ _ => pts_nil)
        (fun _ _ _ _ _ => pe_lc (own := [("_law_one", 4)]) (g := gName 4) (tt := tOr (tTest (tOp rEq (tVar 4) (tVar 3))) (tNotIn K (tVar 3) (tIxL K (tVar 2) (tVar 4)))) (te := tVar 4) rfl scAbove.nd (pi_list (pv 1))
          (blkOk_by (own := [("_law_one", 4)]) (N := nAbove) (sc := relS cAbove (defScope sAbove)) (by decide +kernel)) (fun _ _ _ _ _ => pg_name (i := 4) scAbove.nd rfl (.inl rfl))
          (fun _ _ _ _ _ => pts_one (pw_or (pt_cmpR op_eq (pv 4) (pv 3) (nomark _)) (pw_or1 (pt_cmpR op_notIn_seq (pv 3) (pe_ix ix_list (pv 2) (pv 4) (fun _ _ => rfl)) rfl))).pt) (fun _ _ _ _ _ => pv 4)))))), ?_⟩
    obtain ⟨ys, hy, hyl⟩ := hN.len
    have hyi : (ys.length : Int) = (nx.length : Int) := by rw [hyl]
    refine ⟨.ref a, rfl, a, ys, rfl, .inl hy, nx.length, by rw [hyi], ⟨by decide, by decide, by omega, by omega, by omega⟩, fun mp nmp => ?_⟩
    rw [rgV_iv]
    have s1 : Same H (upd H mp (.lst ((List.range nx.length).map iv))) := new_same nmp
    generalize hH1 : upd H mp (.lst ((List.range nx.length).map iv)) = H1 at s1
    have emp : H1 mp = some (.lst ((List.range nx.length).map iv)) := by rw [← hH1]; exact upd_same
    refine ⟨.ref mp, rfl, mp, rfl, ⟨_, sqL emp⟩, fun L nL => ?_⟩
    have hlr : ((List.range nx.length).map iv).length = nx.length := by rw [List.length_map, List.length_range]
    refine lc_list (K := K) (a := mp) (xs := (List.range nx.length).map iv) (fun i H2 => Same H1 H2 ∧ ∃ (ps : List Addr) (R : List (List Nat)), H2 L = some (.lst (ps.map V.ref)) ∧ Paired (fun q xs => SqL K H2 q (xs.map iv) ∧ q ≠ L) ps R ∧ R.length = i ∧ (∀ xs, R[0]? = some xs → xs = []) ∧ ∀ o y, o < i → (y ∈ R.getD o [] ↔ Rc (Ex nx) o y))
      ⟨new_same nL, [], [], upd_same, .nil, rfl, fun xs e => (by simp at e), fun o y h => (by omega)⟩ (fun i H2 _ hP => sqL (hP.1 _ _ emp)) (fun i x H2 hx2 hP => ?_) (fun H2 hP => ?_)
    · obtain ⟨sm, ps, R, eL, pd, hR, hR0, hRr⟩ := hP
      obtain ⟨hi, rfl⟩ := rg_at hx2
      refine ⟨rfl, .ref a, rfl, _, rfl, a, nx, i, rfl, hN.same (s1.trans sm), hl0, hl, hx, fun p ns H3 np sm3 ep hns hrc => ?_⟩
      have nLp : p ≠ L := (ne_of_none eL np).symm
      refine ⟨_, sm3 _ _ eL, ?_, fun b o e => ?_, ps ++ [p], R ++ [ns], ?_, ?_, ?_, ?_, fun o y ho => ?_⟩
      · rw [List.length_map, pd_len pd]
        exact szt (by omega)
      · rw [upd_ne (ne_of_none e nL)]
        exact sm3 _ _ (sm _ _ e)
      · rw [upd_same, List.map_append]
        rfl
      · refine pd_snoc (pd_mono pd fun b xs z => ⟨seq_upd (sm3.seq z.1) z.2, z.2⟩) ⟨sqL ?_, nLp⟩
        rw [upd_ne nLp]
        exact ep
      · rw [List.length_append, List.length_singleton, hR]
      · intro xs e
        cases R with
        | nil =>
          have e1 : ns = xs := Option.some.inj e
          rw [← e1]
          have hi0 : i = 0 := hR.symm
          cases hns0 : ns with
          | nil => rfl
          | cons y r =>
            have := (hrc y).mp (by rw [hns0]; exact List.mem_cons_self)
            rw [hi0] at this
            exact this.no0.elim
        | cons r R' => exact hR0 xs e
      · by_cases hoi : o < i
        · rw [List.getD_eq_getElem?_getD, List.getElem?_append_left (by omega), ← List.getD_eq_getElem?_getD]
          exact hRr o y hoi
        · have : o = i := by omega
          subst this
          rw [List.getD_eq_getElem?_getD, List.getElem?_append_right (by omega), hR, Nat.sub_self]
          exact hrc y
    · obtain ⟨sm, ps, R, eL, pd, hR, hR0, hRr⟩ := hP
      rw [hlr] at hR
      have hNR : NL K H2 L R := ⟨ps, sqL eL, pd_mono pd fun _ _ z => z.1⟩
      refine ⟨.ref mp, rfl, mp, rfl, ⟨_, sqL (sm _ _ emp)⟩, fun L2 nL2 => ?_⟩
      let g : Nat → List Nat := fun b => (List.range nx.length).filter fun o => decide (o = b) || !decide (b ∈ R.getD o [])
      refine lc_list (K := K) (a := mp) (xs := (List.range nx.length).map iv) (fun i H3 => Same H2 H3 ∧ ∃ ps : List Addr, H3 L2 = some (.lst (ps.map V.ref)) ∧ Paired (fun q xs => H3 q = some (.lst (xs.map iv)) ∧ q ≠ L2 ∧ H q = none) ps ((List.range i).map g))
        ⟨new_same nL2, [], upd_same, .nil⟩ (fun i H3 _ hP => sqL (hP.1 _ _ (sm _ _ emp))) (fun i x H3 hx3 hP => ?_) (fun H3 hP => ?_)
      · obtain ⟨sm3, ps3, eL3, pd3⟩ := hP
        obtain ⟨hi, rfl⟩ := rg_at hx3
        have emp3 := sm3 _ _ (sm _ _ emp)
        refine ⟨rfl, .ref mp, rfl, mp, rfl, ⟨_, sqL emp3⟩, fun L4 nL4 => ?_⟩
        have n24 : L2 ≠ L4 := ne_of_none eL3 nL4
        refine lc_list (K := K) (a := mp) (xs := (List.range nx.length).map iv) (fun j H4 => Same H3 H4 ∧ H4 L4 = some (.lst (((List.range j).filter fun o => decide (o = i) || !decide (i ∈ R.getD o [])).map iv)))
          ⟨new_same nL4, upd_same⟩ (fun j H4 _ hP => sqL (hP.1 _ _ emp3)) (fun j x H4 hx4 hP => ?_) (fun H4 hP => ?_)
        · obtain ⟨sm4, eL4⟩ := hP
          obtain ⟨hj, rfl⟩ := rg_at hx4
          refine ⟨rfl, _, rfl, _, rfl, rfl, _, rfl, ?_⟩
          have er := filt_succ (fun o => decide (o = i) || !decide (i ∈ R.getD o [])) j
          have yes : (decide (j = i) || !decide (i ∈ R.getD j [])) = true → ∃ acc, H4 L4 = some (.lst acc) ∧ acc.length < sizeLine ∧ Same H3 (upd H4 L4 (.lst (acc ++ [iv j]))) ∧ upd H4 L4 (.lst (acc ++ [iv j])) L4 = some (.lst (((List.range (j + 1)).filter fun o => decide (o = i) || !decide (i ∈ R.getD o [])).map iv)) := fun hb => by
            rw [if_pos hb] at er
            refine ⟨_, eL4, ?_, fun b o e => ?_, ?_⟩
            · rw [List.length_map]
              exact szt (Nat.lt_of_le_of_lt (List.length_filter_le _ _) (by rw [List.length_range]; omega))
            · rw [upd_ne (ne_of_none e nL4)]
              exact sm4 _ _ e
            · rw [upd_same, er, List.map_append]
              rfl
          have ej : decide (iv j = iv i) = decide (j = i) := by
            refine decide_eq_decide.mpr ⟨fun e => ?_, fun e => by rw [e]⟩
            have e2 : (j : Int) = (i : Int) := V.int.inj e
            omega
          show if decide (iv j = iv i) = true then _ else _
          rw [ej]
          by_cases hji : j = i
          · rw [if_pos (decide_eq_true hji)]
            exact ⟨_, rfl, yes (by rw [decide_eq_true hji]; rfl)⟩
          · rw [if_neg (by rw [decide_eq_false hji]; decide)]
            have eR : R[j]? = some (R.getD j []) := by rw [List.getD_eq_getElem?_getD, List.getElem?_eq_getElem (by omega)]; rfl
            obtain ⟨us, qa, u1, u2, u3, u4⟩ := ((hNR.same sm3).same sm4).at eR
            refine ⟨_, rfl, .ref L, rfl, _, rfl, L, us, _, _, rfl, rfl, u1, u3, qa, _, rfl, .inl u4, rfl, flat_iv _, _, rfl, ?_⟩
            show if (!inV (iv i) ((R.getD j []).map iv)) = true then _ else _
            rw [inV_iv]
            by_cases hb : (!decide (i ∈ R.getD j [])) = true
            · rw [if_pos hb]
              exact ⟨_, rfl, yes (by rw [hb, Bool.or_true])⟩
            · rw [if_neg hb]
              rw [if_neg (by rw [decide_eq_false hji, Bool.false_or]; exact hb), List.append_nil] at er
              exact ⟨sm4, by rw [er]; exact eL4⟩
        · obtain ⟨sm4, eL4⟩ := hP
          rw [hlr] at eL4
          refine ⟨_, sm4 _ _ eL3, ?_, fun b o e => ?_, ps3 ++ [L4], ?_, ?_⟩
          · rw [List.length_map, pd_len pd3, List.length_map, List.length_range]
            exact szt (by omega)
          · rw [upd_ne (ne_of_none e nL2)]
            exact sm4 _ _ (sm3 _ _ e)
          · rw [upd_same, List.map_append]
            rfl
          · rw [List.range_succ, List.map_append]
            refine pd_snoc (pd_mono pd3 fun b xs z => ⟨?_, z.2⟩) ⟨?_, n24.symm, ((s1.trans sm).trans sm3).free nL4⟩
            · rw [upd_ne z.2.1]; exact sm4 _ _ z.1
            · rw [upd_ne n24.symm]
              exact eL4
      · obtain ⟨sm3, ps3, eL3, pd3⟩ := hP
        rw [hlr] at pd3
        have hg : (List.range nx.length).map g = abv nx := by
          unfold abv
          refine List.map_congr_left fun b hb => ?_
          refine List.filter_congr fun o ho => ?_
          have ho2 := List.mem_range.mp ho
          have h1 := hRr o b (by rw [hlr]; exact ho2)
          rw [Bool.eq_iff_iff, dB_iff, Bool.or_eq_true, decide_eq_true_iff, Bool.not_eq_true', decide_eq_false_iff_not, h1]
          exact ⟨fun z hr => z.elim (fun e => hr.ne e.symm) (fun q => q hr), fun z => .inr z⟩
        refine q L2 ((List.range nx.length).map g) H3 ((s1.trans sm).trans sm3) ⟨ps3, sqL (new_at ((s1.trans sm).free nL2) eL3), pd_mono pd3 fun _ _ z => sqL (new_at z.2.2 z.1)⟩ (by rw [List.length_map, List.length_range]) (fun xs hxs => ?_) hg
        obtain ⟨b, hb, rfl⟩ := List.mem_map.mp hxs
        refine ⟨List.mem_filter.mpr ⟨List.mem_range.mpr hl0, ?_⟩, fun y hy => List.mem_range.mp (List.mem_filter.mp hy).1⟩
        have e0 : R.getD 0 [] = [] := by
          cases hRR : R with
          | nil => rfl
          | cons r R' => exact hR0 r (by rw [hRR]; rfl)
        rw [e0]
        simp
end
end Gn
set_option Elab.async false
set_option linter.all false
set_option maxRecDepth 100000
set_option maxHeartbeats 4000000
namespace Gn
open PySem PySem.Spec PyProof.Rows L2
theorem fresh_but {t p : Addr} {H H1 : Hp} (b : But t H H1) (n : p ≠ t) (e : H1 p = none) : H p = none := by
  cases h : H p with
  | none => rfl
  | some o => rw [b p o n h] at e; cases e
/-! ### nexts -/
theorem pd_all {α β : Type} {F : α → β → Prop} {G : α → Prop} : ∀ {l : List α} {m : List β}, Paired F l m → (∀ a b, F a b → G a) → ∀ a ∈ l, G a
  | _, _, .nil, _, _, h => by cases h
  | _, _, .cons h t, g, a, ha => by
    rcases List.mem_cons.mp ha with rfl | ha
    · exact g _ _ h
    · exact pd_all t g a ha
def NxE (m : Nat) (xs : List Nat) : Prop := xs.length ≤ 2 ∧ xs.Nodup ∧ ∀ y ∈ xs, 1 ≤ y ∧ y < m
/-- each number from 1 on is in a lesser one's list -/
def LedX (m : Nat) (nx : List (List Nat)) : Prop := ∀ b, 1 ≤ b → b < m → ∃ j xs, j < b ∧ nx[j]? = some xs ∧ b ∈ xs
theorem val_merge (k : Key) : ∀ (more kvs : List (Key × V)), (valV (mergeK kvs more) k).isSome = true → (valV kvs k).isSome = true ∨ k ∈ more.map (·.1)
  | [], kvs, h => .inl h
  | p :: r, kvs, h => by
    rcases val_merge k r (putK kvs p.1 p.2) h with q | q
    · by_cases e : k = p.1
      · exact .inr (by rw [List.map_cons, e]; exact List.mem_cons_self)
      · rw [valV_put, if_neg e] at q
        exact .inl q
    · exact .inr (by rw [List.map_cons]; exact List.mem_cons_of_mem _ q)
def spNexts (K : PySem.W.Frag) : Sp := fun vs H Q _ => ∃ (t : Addr) (m c : Nat), vs = [.ref t, .int m] ∧ Tape H t c ∧ c + 24 ≤ 100000000 ∧ 1 ≤ m ∧ m ≤ 12 ∧
  ∀ (p : Addr) (nx : List (List Nat)) (H' : Hp), But t H H' → Tape H' t (c + 24) → NL K (newOf H H') p nx → nx.length = m → (∀ xs ∈ nx, NxE m xs) → LedX m nx → Q (.ref p) H'
abbrev nNexts : List Str := ["_law_tape_here", "_law_many", "_law_found", "_law_led", "_law_k", "_law_way", "_law_other", "_law_some", "_law_one"]
theorem scNexts : FnScope nNexts ["_law_tape_here", "_law_many"] (defScope sNexts) := ⟨rfl, rfl, rfl, by decide +kernel, rfl, by decide +kernel, by decide +kernel⟩
section
variable {P : Program} {w : World} {K : PySem.W.Frag} {mg : Str → Option Value} {base : Heap}
theorem ok_nexts {f fD : Addr} {fd fdD : FuncData} {k : Nat} (D : Df K mg "_law_nexts" sNexts ["_law_tape_here", "_law_many"] f fd) (B : Bi mg) (DD : Df K mg "_law_draw" sDraw ["_law_tape_here", "_law_many"] fD fdD)
    (GD : FnOk P w K mg base CX0 k fD fdD ["_law_tape_here", "_law_many"] spDraw) : FnOk P w K mg base CX0 (k + 1) f fd ["_law_tape_here", "_law_many"] (spNexts K) := by
  refine D.F.ok scNexts (fun vs H Q E h => ?_) (fun cdv A outer s H vs Q E hr h => ?_)
  · obtain ⟨t, m, c, rfl, _⟩ := h
    rfl
  · obtain ⟨t, m, c, rfl, hT, hc, hm1, hm2, q⟩ := h
    have hu := hu_of hr
    refine ⟨_, pss_cons (ps_par (i := 2) (j := 3) (by rfl) scNexts.nd rfl rfl (by decide) rfl rfl (pa_cons (pe_lst pa_nil) (pa_cons pe_dnewK pa_nil)) (by rfl))
      (pss_cons (ps_for PassesOwn.never rfl (pi_range1 (by rfl) B.range (pa_cons (pv 1) pa_nil)) (pg_name (i := 4) scNexts.nd rfl (.inl rfl))
        (pss_cons (ps_par (i := 5) (j := 6) (by rfl) scNexts.nd rfl rfl (by decide) rfl rfl (pa_cons (pe_call GD hr (by rfl) DD.g DD.F.kp DD.b .nil pass0 (pa_cons (pv 0) (pa_cons pe_int pa_nil)))
            (pa_cons (pe_op op_add pe_int (pe_call GD hr (by rfl) DD.g DD.F.kp DD.b .nil pass0 (pa_cons (pv 0) (pa_cons (pe_callB (call_max2 rfl) (by rfl) B.max PyProof.Rows.boot_max (pa_cons pe_int (pa_cons (pe_op op_sub (pv 1) pe_int) pa_nil))) pa_nil)))) pa_nil)) (by rfl))
        (Evl.pss_cut (ps_set (i := 7) scNexts.nd rfl (.inl rfl) (pe_ix ix_list (pe_lst (pa_cons (pe_lst (pa_cons (pe_op op_add (pv 4) pe_int) (pa_cons (pv 6) pa_nil))) (pa_cons (pe_lst (pa_cons (pv 6) (pa_cons (pe_op op_add (pv 4) pe_int) pa_nil))) pa_nil))) (pe_op op_mod (pv 5) pe_int) (fun _ _ => rfl)))
        (Evl.pss_cut (ps_if (pt_cmpR op_eq (pe_op op_add (pv 4) pe_int) (pv 1) (nomark _))
            (pss_one (ps_set (i := 7) scNexts.nd rfl (.inl rfl) (pe_ifExp (pw_and (pt_cmpR op_eq (pv 5) pe_int (nomark _)) (pw_and1 (pt_cmpR op_gt (pv 1) pe_int (nomark _)))).pt (pe_lst (pa_cons (pv 6) pa_nil)) (pe_lst pa_nil))))
            (pss_one (ps_if (pw_and (pt_cmp (pc_din hu (pe_op op_add (pv 4) pe_int) (pv 3)) rfl) (pw_and1 (pt_cmpR op_lt (pv 5) pe_int (nomark _)))).pt
              (pss_one (ps_set (i := 7) scNexts.nd rfl (.inl rfl) (pe_ifExp (pt_cmpR op_eq (pv 5) pe_int (nomark _)) (pe_lst (pa_cons (pv 6) pa_nil)) (pe_lst pa_nil))))
              (pss_one (ps_if (pw_or (pt_cmpR op_lt (pv 5) pe_int (nomark _)) (pw_or1 (pt_cmpR op_eq (pv 6) (pe_op op_add (pv 4) pe_int) (nomark _)))).pt
                (pss_one (ps_set (i := 7) scNexts.nd rfl (.inl rfl) (pe_lst (pa_cons (pe_op op_add (pv 4) pe_int) pa_nil)))) pss_nil)))))
        (pss_cons (ps_expr (pe_bm PySem.F.plainAttrs_list PySem.F.slot_list_append PySem.F.type_list_append mt_append (pv 2) (pa_cons (pv 7) pa_nil)))
        (pss_one (ps_expr (pe_bm PySem.F.plainAttrs_dict PySem.F.slot_dict_update PySem.F.type_dict_update (mt_dup rfl) (pv 3) (pa_cons (pe_lc (own := [("_law_one", 8)]) (g := gName 8) (tt := tYes) (te := tTup (tCons (tVar 8) (tCons (tC (.bl true)) tNil))) rfl scNexts.nd (pi_list (pv 7))
            (blkOk_by (own := [("_law_one", 8)]) (N := nNexts) (sc := defScope sNexts) (by decide +kernel)) (fun _ _ _ _ _ => pg_name (i := 8) scNexts.nd rfl (.inl rfl)) (fun _ _ _ _ _ => pts_nil) (fun _ _ _ _ _ => pe_tup (pa_cons (pv 8) (pa_cons pe_bl pa_nil)))) pa_nil)))))))))
      (pss_one (ps_ret (pv 2)))), ?_⟩
    refine ⟨Nat.zero_le _, fun fl nfl ld nld => ⟨_, _, rfl, ?_⟩⟩
    have nfld : fl ≠ ld := ne_of_none upd_same nld
    have s0 : Same H (upd (upd H fl (.lst [])) ld (.dK [])) := (new_same nfl).trans (new_same nld)
    have T0 := hT.same s0
    have nft : fl ≠ t := hT.ne nfl
    have ndt : ld ≠ t := (hT.same (new_same nfl)).ne nld
    refine ⟨_, rfl, (m : Int), rfl, by omega, by omega, ?_⟩
    refine for_range (lo := 0) (n := m) (fun i σ H1 => ∃ (ps : List Addr) (nx : List (List Nat)) (kvs : List (Key × V)) (y4 y5 y6 y7 y8 : Option V),
      σ = [some (.ref t), some (.int m), some (.ref fl), some (.ref ld), y4, y5, y6, y7, y8] ∧ But t H H1 ∧ Tape H1 t (c + 2 * i) ∧ H1 fl = some (.lst (ps.map V.ref)) ∧ H1 ld = some (.dK kvs) ∧ kvs.length ≤ 2 * i ∧
      Paired (fun q xs => H1 q = some (.lst (xs.map iv)) ∧ q ≠ fl ∧ q ≠ ld ∧ q ≠ t ∧ H q = none) ps nx ∧ nx.length = i ∧ (∀ xs ∈ nx, NxE m xs) ∧ (∀ n : Nat, (valV kvs (Sum.inl (n : Int))).isSome = true → ∃ j xs, j < i ∧ nx[j]? = some xs ∧ n ∈ xs) ∧ ∀ b, 1 ≤ b → b ≤ i → b < m → ∃ j xs, j < b ∧ nx[j]? = some xs ∧ b ∈ xs)
      ⟨[], [], [], none, none, none, none, none, rfl, Same.but s0, T0, by rw [upd_ne nfld]; exact upd_same, upd_same, Nat.zero_le _, .nil, rfl, fun xs h => (by cases h), fun n e => (by cases e), fun b h1 h2 => (by omega)⟩ (fun i σ H1 hi hP => ?_) (fun σ H1 hP => ?_)
    · obtain ⟨ps, nx, kvs, y4, y5, y6, y7, y8, rfl, b1, T1, efl, eld, hkl, pd, hnl, hnx, hkv, hled⟩ := hP
      refine ⟨.ref t, rfl, t, 6, c + 2 * i, rfl, T1, by omega, by decide, by decide, fun r1 H2 h1 b2 T2 => ?_⟩
      have hmx : ∀ z : Int, z = (if (m : Int) - 1 > 1 then (m : Int) - 1 else 1) → 0 < z ∧ z ≤ 11 ∧ (1 < m → z ≤ (m : Int) - 1) := fun z e => by
        rw [e]; split <;> omega
      refine ⟨.ref t, rfl, _, rfl, _, _, rfl, rfl, _, _, rfl, t, _, c + 2 * i + 1, rfl, T2, by omega, (hmx _ rfl).1, by have := (hmx _ rfl).2.1; omega, fun r2 H3 h2 b3 T3 => ?_⟩
      have hr2 : 1 < m → r2 + 1 < m := fun e => by have := (hmx _ rfl).2.2 e; omega
      have b23 : But t H1 H3 := b2.trans b3
      have efl3 := b23 fl _ nft efl
      have eld3 := b23 ld _ ndt eld
      refine ⟨_, _, rfl, rfl, _, _, rfl, ?_⟩
      -- some
      refine ⟨fun σ H4 => ∃ (p : Addr) (xs : List Nat) (y8 : Option V), σ = [some (.ref t), some (.int m), some (.ref fl), some (.ref ld), some (.int (0 + (i : Int))), some (.int r1), some (.int (1 + (r2 : Int))), some (.ref p), y8] ∧ Same H3 H4 ∧ H3 p = none ∧ H4 p = some (.lst (xs.map iv)) ∧ (xs = [i + 1, r2 + 1] ∨ xs = [r2 + 1, i + 1]), ?_, fun σ H4 hM => ?_⟩
      · refine ⟨_, rfl, _, _, rfl, rfl, _, rfl, szl (show 2 ≤ 1000000 by decide), fun p1 n1 => ⟨_, rfl, _, rfl, _, _, rfl, rfl, szl (show 2 ≤ 1000000 by decide), fun p2 n2 => ⟨szl (show 2 ≤ 1000000 by decide), fun p3 n3 => ?_⟩⟩⟩
        have e1 : (0 + (i : Int)) + 1 = ((i + 1 : Nat) : Int) := by omega
        have e2 : 1 + (r2 : Int) = ((r2 + 1 : Nat) : Int) := by omega
        have n12 : p1 ≠ p2 := ne_of_none upd_same n2
        have n23 : p2 ≠ p3 := ne_of_none upd_same n3
        have n13 : p1 ≠ p3 := ne_of_none (by rw [upd_ne n12]; exact upd_same) n3
        have hz : (r1 : Int) % 2 = 0 ∨ (r1 : Int) % 2 = 1 := by omega
        rcases hz with hz | hz
        · refine ⟨_, rfl, _, _, rfl, rfl, (by decide : (0 : Int) < 2), p3, _, _, .ref p1, rfl, rfl, sqL upd_same, by rw [hz]; exact atI_nat (j := 0) rfl, p1, [i + 1, r2 + 1], _, rfl, ((new_same n1).trans (new_same n2)).trans (new_same n3), n1, ?_, .inl rfl⟩
          rw [upd_ne n13, upd_ne n12, upd_same]
          show some (HO.lst [V.int ((0 + (i : Int)) + 1), V.int (1 + (r2 : Int))]) = _
          rw [e1, e2]
          rfl
        · refine ⟨_, rfl, _, _, rfl, rfl, (by decide : (0 : Int) < 2), p3, _, _, .ref p2, rfl, rfl, sqL upd_same, by rw [hz]; exact atI_nat (j := 1) rfl, p2, [r2 + 1, i + 1], _, rfl, ((new_same n1).trans (new_same n2)).trans (new_same n3), (new_same n1).free n2, ?_, .inr rfl⟩
          rw [upd_ne n23, upd_same]
          show some (HO.lst [V.int (1 + (r2 : Int)), V.int ((0 + (i : Int)) + 1)]) = _
          rw [e1, e2]
          rfl
      · obtain ⟨p, xs, z8, rfl, s4, np, ep, hxs⟩ := hM
        refine ⟨fun σ H5 => ∃ (p : Addr) (xs : List Nat) (y8 : Option V), σ = [some (.ref t), some (.int m), some (.ref fl), some (.ref ld), some (.int (0 + (i : Int))), some (.int r1), some (.int (1 + (r2 : Int))), some (.ref p), y8] ∧ Same H3 H5 ∧ H3 p = none ∧ H5 p = some (.lst (xs.map iv)) ∧ NxE m xs ∧ (i + 1 < m → i + 1 ∈ xs ∨ (valV kvs (Sum.inl ((0 + (i : Int)) + 1))).isSome = true), ?_, fun σ H5 hM => ?_⟩
        · have nil_ok : ∀ (H5 : Hp), (i + 1 < m → i + 1 ∈ ([] : List Nat) ∨ (valV kvs (Sum.inl ((0 + (i : Int)) + 1))).isSome = true) → Same H3 H5 → ∀ p', H5 p' = none → ∃ (p : Addr) (xs : List Nat) (y8 : Option V), [some (.ref t), some (.int m), some (.ref fl), some (.ref ld), some (.int (0 + (i : Int))), some (.int r1), some (.int (1 + (r2 : Int))), some (.ref p'), z8] = [some (.ref t), some (.int m), some (.ref fl), some (.ref ld), some (.int (0 + (i : Int))), some (.int r1), some (.int (1 + (r2 : Int))), some (.ref p), y8] ∧ Same H3 (upd H5 p' (.lst [])) ∧ H3 p = none ∧ upd H5 p' (.lst []) p = some (.lst (xs.map iv)) ∧ NxE m xs ∧ (i + 1 < m → i + 1 ∈ xs ∨ (valV kvs (Sum.inl ((0 + (i : Int)) + 1))).isSome = true) :=
            fun H5 hw s5 p' n' => ⟨p', [], _, rfl, s5.trans (new_same n'), s5.free n', upd_same, ⟨Nat.zero_le _, List.nodup_nil, fun y h => (by cases h)⟩, hw⟩
          have one_ok : ∀ (H5 : Hp) (z : Nat) (v : V), 1 ≤ z → z < m → v = iv z → (i + 1 < m → i + 1 ∈ [z] ∨ (valV kvs (Sum.inl ((0 + (i : Int)) + 1))).isSome = true) → Same H3 H5 → ∀ p', H5 p' = none → ∃ (p : Addr) (xs : List Nat) (y8 : Option V), [some (.ref t), some (.int m), some (.ref fl), some (.ref ld), some (.int (0 + (i : Int))), some (.int r1), some (.int (1 + (r2 : Int))), some (.ref p'), z8] = [some (.ref t), some (.int m), some (.ref fl), some (.ref ld), some (.int (0 + (i : Int))), some (.int r1), some (.int (1 + (r2 : Int))), some (.ref p), y8] ∧ Same H3 (upd H5 p' (.lst [v])) ∧ H3 p = none ∧ upd H5 p' (.lst [v]) p = some (.lst (xs.map iv)) ∧ NxE m xs ∧ (i + 1 < m → i + 1 ∈ xs ∨ (valV kvs (Sum.inl ((0 + (i : Int)) + 1))).isSome = true) :=
            fun H5 z v hz1 hz2 hv hw s5 p' n' => ⟨p', [z], _, rfl, s5.trans (new_same n'), s5.free n', by rw [upd_same, hv]; rfl, ⟨show 1 ≤ 2 by decide, by simp, fun y h => by rw [List.mem_singleton.mp h]; exact ⟨hz1, hz2⟩⟩, hw⟩
          have eo : V.int (1 + (r2 : Int)) = iv (r2 + 1) := by show V.int (1 + (r2 : Int)) = V.int ((r2 + 1 : Nat) : Int); rw [show 1 + (r2 : Int) = ((r2 + 1 : Nat) : Int) by omega]
          refine ⟨_, rfl, _, _, rfl, rfl, _, rfl, rfl, _, rfl, ite2 (fun e => ?_) (fun e => ?_)⟩
          · have heq : (0 + (i : Int)) + 1 = (m : Int) := V.int.inj (of_decide_eq_true e)
            have hn : ¬ i + 1 < m := by omega
            refine ⟨_, rfl, rfl, _, rfl, ite2 (fun e2 => ?_) (fun e2 => ?_)⟩
            · refine ⟨_, rfl, _, _, rfl, rfl, _, rfl, ite2 (fun e3 => ?_) (fun e3 => ?_)⟩
              · have h3 : (1 : Int) < (m : Int) := of_decide_eq_true e3
                exact ⟨_, rfl, szl (show 1 ≤ 1000000 by decide), fun p' n' => one_ok H4 (r2 + 1) _ (by omega) (hr2 (by omega)) eo (fun z => absurd z hn) s4 p' n'⟩
              · exact ⟨Nat.zero_le _, fun p' n' => nil_ok H4 (fun z => absurd z hn) s4 p' n'⟩
            · exact ⟨Nat.zero_le _, fun p' n' => nil_ok H4 (fun z => absurd z hn) s4 p' n'⟩
          · have hne : ¬ ((0 + (i : Int)) + 1 = (m : Int)) := fun z => e (decide_eq_true (by show V.int ((0 + (i : Int)) + 1) = V.int (m : Int); rw [z]))
            have him : i + 1 < m := by omega
            refine ⟨_, rfl, _, _, rfl, rfl, _, rfl, ld, _, rfl, DGet.k (k := Sum.inl ((0 + (i : Int)) + 1)) (s4 _ _ eld3), _, rfl, ?_⟩
            have third : (tIfS (tOr (tTest (tOp (rI0 fun i j => .bl (decide (i < j))) (tVar 5) (tC (.int 3)))) (tTest (tOp rEq (tVar 6) (tOp (rI0 fun i j => .int (i + j)) (tVar 4) (tC (.int 1)))))) (tAsg (tLst (tCons (tOp (rI0 fun i j => .int (i + j)) (tVar 4) (tC (.int 1))) tNil)) (gName 7)) tNext) { nx := fun σ H5 => ∃ (p : Addr) (xs : List Nat) (y8 : Option V), σ = [some (.ref t), some (.int m), some (.ref fl), some (.ref ld), some (.int (0 + (i : Int))), some (.int r1), some (.int (1 + (r2 : Int))), some (.ref p), y8] ∧ Same H3 H5 ∧ H3 p = none ∧ H5 p = some (.lst (xs.map iv)) ∧ NxE m xs ∧ (i + 1 < m → i + 1 ∈ xs ∨ (valV kvs (Sum.inl ((0 + (i : Int)) + 1))).isSome = true), rt := Q } [some (.ref t), some (.int m), some (.ref fl), some (.ref ld), some (.int (0 + (i : Int))), some (.int r1), some (.int (1 + (r2 : Int))), some (.ref p), z8] H4 := by
              have ei : V.int ((0 + (i : Int)) + 1) = iv (i + 1) := by show V.int _ = V.int ((i + 1 : Nat) : Int); rw [show (0 + (i : Int)) + 1 = ((i + 1 : Nat) : Int) by omega]
              refine ⟨_, rfl, _, _, rfl, rfl, _, rfl, ite2 (fun e2 => ?_) (fun e2 => ?_)⟩
              · exact ⟨_, rfl, _, _, rfl, rfl, szl (show 1 ≤ 1000000 by decide), fun p' n' => one_ok H4 (i + 1) _ (by omega) him ei (fun _ => .inl List.mem_cons_self) s4 p' n'⟩
              · refine ⟨_, rfl, _, rfl, _, _, rfl, rfl, rfl, _, rfl, ite2 (fun e3 => ?_) (fun e3 => ?_)⟩
                · exact ⟨_, rfl, _, _, rfl, rfl, szl (show 1 ≤ 1000000 by decide), fun p' n' => one_ok H4 (i + 1) _ (by omega) him ei (fun _ => .inl List.mem_cons_self) s4 p' n'⟩
                · have hd : r2 + 1 ≠ i + 1 := fun z => e3 (decide_eq_true (by show V.int (1 + (r2 : Int)) = V.int ((0 + (i : Int)) + 1); rw [show 1 + (r2 : Int) = (0 + (i : Int)) + 1 by omega]))
                  have hr2m := hr2 (by omega)
                  refine ⟨p, xs, z8, rfl, s4, np, ep, ?_, fun _ => .inl (by rcases hxs with rfl | rfl <;> simp)⟩
                  rcases hxs with rfl | rfl
                  · exact ⟨show 2 ≤ 2 by decide, by simp; omega, fun y hy => by simp at hy; rcases hy with rfl | rfl <;> omega⟩
                  · exact ⟨show 2 ≤ 2 by decide, by simp; omega, fun y hy => by simp at hy; rcases hy with rfl | rfl <;> omega⟩
            refine ite2 (fun hbb => ?_) (fun hbb => third)
            · refine ⟨_, rfl, _, _, rfl, rfl, _, rfl, ite2 (fun e2 => ?_) (fun e2 => third)⟩
              refine ⟨_, rfl, rfl, _, rfl, ite2 (fun e3 => ?_) (fun e3 => ?_)⟩
              · exact ⟨_, rfl, szl (show 1 ≤ 1000000 by decide), fun p' n' => one_ok H4 (r2 + 1) _ (by omega) (hr2 (by omega)) eo (fun _ => .inr hbb) s4 p' n'⟩
              · exact ⟨Nat.zero_le _, fun p' n' => nil_ok H4 (fun _ => .inr hbb) s4 p' n'⟩
        · obtain ⟨p, xs, z8, rfl, s5, np, ep, hxs, hxw⟩ := hM
          have nldH : H ld = none := (new_same nfl).free nld
          have npf : p ≠ fl := (ne_of_none efl3 np).symm
          have npl : p ≠ ld := (ne_of_none eld3 np).symm
          have npt : p ≠ t := T3.ne np
          have efl5 := s5 _ _ efl3
          have eld5 := s5 _ _ eld3
          have lps : (ps.map V.ref).length = i := by rw [List.length_map, pd_len pd, hnl]
          refine ⟨.ref fl, rfl, .inl ⟨rfl, _, sqL efl5⟩, .ref p, rfl, fl, _, .ref p, rfl, rfl, efl5, szt (by omega), ?_⟩
          have eld6 : upd H5 fl (.lst (ps.map V.ref ++ [.ref p])) ld = some (.dK kvs) := by rw [upd_ne nfld.symm]; exact eld5
          have ep6 : upd H5 fl (.lst (ps.map V.ref ++ [.ref p])) p = some (.lst (xs.map iv)) := by rw [upd_ne npf]; exact ep
          refine ⟨.ref ld, rfl, .inr (.inr (.inl ⟨rfl, .inl ⟨kvs, eld6⟩⟩)), .ref p, rfl, p, rfl, ⟨_, sqL ep6⟩, fun L nL => ?_⟩
          generalize hH6 : upd H5 fl (.lst (ps.map V.ref ++ [.ref p])) = H6 at eld6 ep6
          have nM : H6 L = none := by rw [← hH6]; exact nL
          refine lc_list (K := K) (a := p) (xs := xs.map iv) (fun j H7 => Same H6 H7 ∧ ∃ qs : List Addr, H7 L = some (.lst (qs.map V.ref)) ∧ Paired (fun q (kv : Key × V) => H7 q = some (.tup [kV kv.1, kv.2]) ∧ q ≠ L ∧ q ≠ ld) qs ((xs.take j).map fun n : Nat => ((Sum.inl (n : Int) : Key), V.bl true)))
            ⟨new_same nM, [], upd_same, .nil⟩ (fun j H7 _ hP => sqL (hP.1 _ _ ep6)) (fun j x H7 hx7 hP => ?_) (fun H7 hP => ?_)
          · obtain ⟨s7, qs, eL, pq⟩ := hP
            rw [List.getElem?_map] at hx7
            obtain ⟨b, hb, rfl⟩ := Option.map_eq_some_iff.mp hx7
            refine ⟨rfl, _, rfl, szl (show 2 ≤ 1000000 by decide), fun T nT => ?_⟩
            have nLT : T ≠ L := (ne_of_none eL nT).symm
            have nLd : T ≠ ld := (ne_of_none (s7 _ _ eld6) nT).symm
            refine ⟨_, (new_same nT) _ _ eL, ?_, fun b o e => ?_, qs ++ [T], ?_, ?_⟩
            · rw [List.length_map, pd_len pq, List.length_map, List.length_take]
              exact szt (by have := hxs.1; omega)
            · rw [upd_ne (ne_of_none e nM)]
              exact (new_same nT) _ _ (s7 _ _ e)
            · rw [upd_same, List.map_append]
              rfl
            · rw [List.take_add_one, hb, List.map_append]
              refine pd_snoc (pd_mono pq fun q kv z => ⟨?_, z.2⟩) ⟨?_, nLT, nLd⟩
              · rw [upd_ne z.2.1]
                exact (new_same nT) _ _ z.1
              · rw [upd_ne nLT, upd_same]
                rfl
          · obtain ⟨s7, qs, eL, pq⟩ := hP
            have nLd : L ≠ ld := (ne_of_none eld6 nM).symm
            rw [List.length_map, List.take_length] at pq
            have lq : ((xs.map fun n : Nat => ((Sum.inl (n : Int) : Key), V.bl true))).length ≤ 2 := by rw [List.length_map]; exact hxs.1
            have eld7 := s7 _ _ eld6
            refine ⟨ld, L, qs, kvs, _, rfl, rfl, eld7, sqL eL, pd_mono pq fun _ _ z => sqT z.1, pd_all pq fun _ _ z => z.2.2, nLd, szl (by omega), ?_⟩
            have efl7 : H7 fl = some (.lst (ps.map V.ref ++ [.ref p])) := s7 _ _ (by rw [← hH6]; exact upd_same)
            have keep : ∀ a o, a ≠ fl → a ≠ ld → H5 a = some o → upd H7 ld (.dK (mergeK kvs (xs.map fun n : Nat => ((Sum.inl (n : Int) : Key), V.bl true)))) a = some o := fun a o n1 n2 e => by
              rw [upd_ne n2]
              exact s7 _ _ (by rw [← hH6, upd_ne n1]; exact e)
            have nxl : ∀ j ys, nx[j]? = some ys → (nx ++ [xs])[j]? = some ys := fun j ys e => by rw [List.getElem?_append_left (List.getElem?_eq_some_iff.mp e).1]; exact e
            have nxi : (nx ++ [xs])[i]? = some xs := by rw [List.getElem?_append_right (by omega), hnl, Nat.sub_self]; rfl
            refine ⟨ps ++ [p], nx ++ [xs], _, _, _, _, _, _, rfl, fun a o n e => ?_, ?_, ?_, upd_same, ?_, ?_, ?_, ?_, fun n e => ?_, fun b h1 h2 h3 => ?_⟩
            · exact keep a o (ne_of_none e nfl) (ne_of_none e nldH) (s5 _ _ (b23 a o n (b1 a o n e)))
            · obtain ⟨x, y, n, q1, q2⟩ := T3
              exact ⟨x, y, n, keep t _ nft.symm ndt.symm (s5 _ _ q1), q2.1, q2.2.1, q2.2.2.1, q2.2.2.2.1, by have := q2.2.2.2.2; omega⟩
            · rw [upd_ne nfld, efl7, List.map_append]
              rfl
            · have := length_mergeK (xs.map fun n : Nat => ((Sum.inl (n : Int) : Key), V.bl true)) kvs
              omega
            · refine pd_snoc (pd_mono pd fun q ys z => ⟨keep q _ z.2.1 z.2.2.1 (s5 _ _ (b23 q _ z.2.2.2.1 z.1)), z.2⟩) ⟨keep p _ npf npl ep, npf, npl, npt, fresh_but (b1.trans b23) npt np⟩
            · rw [List.length_append, List.length_singleton, hnl]
            · intro ys hys
              rcases List.mem_append.mp hys with h9 | h9
              · exact hnx ys h9
              · rw [List.mem_singleton.mp h9]; exact hxs
            · rcases val_merge _ _ _ e with q | q
              · obtain ⟨j, ys, h4, h5, h6⟩ := hkv n q
                exact ⟨j, ys, by omega, nxl j ys h5, h6⟩
              · rw [List.map_map] at q
                obtain ⟨z, hz, hz2⟩ := List.mem_map.mp q
                have hz3 : (Sum.inl (z : Int) : Key) = Sum.inl (n : Int) := hz2
                have hz4 := Sum.inl.inj hz3
                have hz5 : z = n := by omega
                subst hz5
                exact ⟨i, xs, by omega, nxi, hz⟩
            · by_cases hbi : b ≤ i
              · obtain ⟨j, ys, h4, h5, h6⟩ := hled b h1 hbi h3
                exact ⟨j, ys, h4, nxl j ys h5, h6⟩
              · have hb1 : b = i + 1 := by omega
                subst hb1
                rcases hxw h3 with q | q
                · exact ⟨i, xs, by omega, nxi, q⟩
                · rw [show (0 + (i : Int)) + 1 = ((i + 1 : Nat) : Int) by omega] at q
                  obtain ⟨j, ys, h4, h5, h6⟩ := hkv (i + 1) q
                  exact ⟨j, ys, by omega, nxl j ys h5, h6⟩
    · obtain ⟨ps, nx, kvs, y4, y5, y6, y7, y8, rfl, b1, T1, efl, eld, hkl, pd, hnl, hnx, hkv, hled⟩ := hP
      exact ⟨.ref fl, rfl, q fl nx H1 b1 (T1.mono (by omega)) ⟨ps, sqL (new_at nfl efl), pd_mono pd fun _ _ z => sqL (new_at z.2.2.2.2 z.1)⟩ hnl hnx fun b h1 h2 => hled b h1 (by omega) h2⟩
end
end Gn
set_option Elab.async false
set_option linter.all false
set_option maxRecDepth 100000
set_option maxHeartbeats 4000000
namespace Gn
open PySem PySem.Spec PyProof.Rows L2
theorem pd_at2 {α β : Type} {F : α → β → Prop} : ∀ {l : List α} {m : List β} {j : Nat} {a : α}, Paired F l m → l[j]? = some a → ∃ b, m[j]? = some b ∧ F a b
  | _, _, _, _, .nil, e => by simp at e
  | _, _, 0, a, .cons (b := b) h t, e => by
    have e' := Option.some.inj e
    subst e'
    exact ⟨b, rfl, h⟩
  | _, _, j + 1, a, .cons h t, e => by
    obtain ⟨b, h1, h2⟩ := pd_at2 (j := j) t (by simpa using e)
    exact ⟨b, by simpa using h1, h2⟩
theorem gd {α : Type} {l : List α} {j : Nat} {d a : α} (h : l[j]? = some a) : l.getD j d = a := by
  rw [List.getD_eq_getElem?_getD, h]
  rfl
theorem gdl {α : Type} {l : List α} {j : Nat} {d : α} (h : j < l.length) : l[j]? = some (l.getD j d) := by
  rw [List.getD_eq_getElem?_getD, List.getElem?_eq_getElem h]
  rfl
/-! ### rows -/
inductive Bk | sum | less | times | same | below
  deriving DecidableEq
def Bk.w : Bk → Str
  | .sum => "sum" | .less => "less" | .times => "times" | .same => "same" | .below => "below"
inductive Rw
  | take (i : Nat) | num (n : Int) | bin (b : Bk) (x y : Nat) | pick (x : Nat) (ps : List Nat) | meet (ps : List Nat) | tell (x : Nat) | look (rs : List Nat) (x : Nat) | lay (rs : List Nat) (x y : Nat)
def Rw.w : Rw → Str
  | .take _ => "take" | .num _ => "num" | .bin b _ _ => b.w | .pick _ _ => "pick" | .meet _ => "meet" | .tell _ => "tell" | .look _ _ => "look" | .lay _ _ _ => "lay"
def Rw.worthy : Rw → Bool
  | .tell _ => false
  | .lay _ _ _ => false
  | _ => true
def Rest (K : PySem.W.Frag) (H : Hp) : Rw → List V → Prop
  | .take i, xs => xs = [iv i]
  | .num n, xs => xs = [.int n]
  | .bin _ x y, xs => xs = [iv x, iv y]
  | .pick x ps, xs => ∃ q, xs = [iv x, .ref q] ∧ SqT K H q (ps.map iv)
  | .meet ps, xs => ∃ q, xs = [.ref q] ∧ SqT K H q (ps.map iv)
  | .tell x, xs => xs = [iv x]
  | .look rs x, xs => ∃ q, xs = [.ref q, iv x] ∧ SqT K H q (rs.map iv)
  | .lay rs x y, xs => ∃ q, xs = [.ref q, iv x, iv y] ∧ SqT K H q (rs.map iv)
def RowAt (K : PySem.W.Frag) (H : Hp) (v : V) (r : Rw) : Prop := ∃ p xs, v = .ref p ∧ SqT K H p (.str r.w :: xs) ∧ Rest K H r xs
theorem Rest.same {K : PySem.W.Frag} {H H' : Hp} {r : Rw} {xs : List V} (h : Rest K H r xs) (e : Same H H') : Rest K H' r xs := by
  cases r with
  | pick x ps =>
    obtain ⟨q, h1, h2⟩ := h
    exact ⟨q, h1, Same.tup e h2⟩
  | meet ps =>
    obtain ⟨q, h1, h2⟩ := h
    exact ⟨q, h1, Same.tup e h2⟩
  | look rs x =>
    obtain ⟨q, h1, h2⟩ := h
    exact ⟨q, h1, Same.tup e h2⟩
  | lay rs x y =>
    obtain ⟨q, h1, h2⟩ := h
    exact ⟨q, h1, Same.tup e h2⟩
  | _ => exact h
theorem RowAt.same {K : PySem.W.Frag} {H H' : Hp} {r : Rw} {v : V} (h : RowAt K H v r) (e : Same H H') : RowAt K H' v r := by
  obtain ⟨p, xs, h1, h2, h3⟩ := h
  exact ⟨p, xs, h1, Same.tup e h2, h3.same e⟩
theorem worthy_in (r : Rw) : (!inV (.str r.w) [.str "tell", .str "lay"]) = r.worthy := by
  cases r with
  | bin b x y => cases b <;> rfl
  | _ => (first | rfl | decide)
/-! ### the state -/
def frz (M : List Addr) (H : Hp) : Hp := fun a => if a ∈ M then none else H a
theorem frz_same (M : List Addr) (H : Hp) : Same (frz M H) H := fun a o e => by
  unfold frz at e
  by_cases h : a ∈ M
  · rw [if_pos h] at e; cases e
  · rw [if_neg h] at e; exact e
theorem frz_at {M : List Addr} {H : Hp} {a : Addr} {o : HO} (h : H a = some o) (n : a ∉ M) : frz M H a = some o := by
  unfold frz
  rw [if_neg n]
  exact h
theorem frz_mem {M : List Addr} {H : Hp} {a : Addr} {o : HO} (h : frz M H a = some o) : a ∉ M := fun n => by
  unfold frz at h
  rw [if_pos n] at h
  cases h
/-- but for what is in M -/
def Bm (M : List Addr) (H H' : Hp) : Prop := ∀ a o, a ∉ M → H a = some o → H' a = some o
theorem Bm.refl (M : List Addr) (H : Hp) : Bm M H H := fun _ _ _ h => h
theorem Bm.trans {M : List Addr} {H H1 H2 : Hp} (a : Bm M H H1) (b : Bm M H1 H2) : Bm M H H2 := fun x o n h => b x o n (a x o n h)
theorem Bm.of_but {M : List Addr} {t : Addr} {H H1 : Hp} (a : But t H H1) (h : t ∈ M) : Bm M H H1 := fun x o n e => a x o (fun z => n (z ▸ h)) e
theorem Bm.of_same {M : List Addr} {H H1 : Hp} (a : Same H H1) : Bm M H H1 := fun x o n e => a x o e
theorem Bm.frz {M : List Addr} {H H' : Hp} (b : Bm M H H') : Same (frz M H) (frz M H') := fun a o e =>
  frz_at (b a o (frz_mem e) (frz_same M H a o e)) (frz_mem e)
structure Sta where
  t : Addr
  s : Addr
  r : Addr
  b : Addr
  w : Addr
  d : Addr
  L : Addr
  A : Addr
  rows : List Rw
  blocks : List Nat
  wide : List Nat
  deep : List Nat
  leads : List (List Nat)
  above : List (List Nat)
  C : Addr
  few : Nat
def Sta.M (st : Sta) : List Addr := [st.t, st.r, st.b, st.w, st.d]
def Sta.kv (st : Sta) : List (Key × V) := [(.inr "rows", .ref st.r), (.inr "blocks", .ref st.b), (.inr "wide", .ref st.w), (.inr "deep", .ref st.d), (.inr "leads", .ref st.L), (.inr "above", .ref st.A), (.inr "caps", .ref st.C), (.inr "few", iv st.few)]
structure StaOk (K : PySem.W.Frag) (H : Hp) (st : Sta) (c : Nat) : Prop where
  nd : st.M.Nodup
  tape : Tape H st.t c
  dict : frz st.M H st.s = some (.dK st.kv)
  rows : ∃ vs, H st.r = some (.lst vs) ∧ Paired (RowAt K (frz st.M H)) vs st.rows
  blocks : H st.b = some (.lst (st.blocks.map iv))
  wide : H st.w = some (.lst (st.wide.map iv))
  deep : H st.d = some (.lst (st.deep.map iv))
  leads : NL K (frz st.M H) st.L st.leads
  above : NL K (frz st.M H) st.A st.above
  lb : st.blocks.length = st.rows.length
  lw : st.wide.length = st.rows.length
  ld : st.deep.length = st.rows.length
  caps : SqT K (frz st.M H) st.C [.int 24, .int 8]
theorem StaOk.bt {K : PySem.W.Frag} {H H' : Hp} {st : Sta} {c c' : Nat} (h : StaOk K H st c) (b : But st.t H H') (T : Tape H' st.t c') : StaOk K H' st c' := by
  have hn := h.nd
  simp only [Sta.M, List.nodup_cons, List.mem_cons, List.not_mem_nil, or_false, not_or] at hn
  obtain ⟨⟨n1, n2, n3, n4⟩, _⟩ := hn
  have f : Same (frz st.M H) (frz st.M H') := Bm.frz (Bm.of_but b (by simp [Sta.M]))
  obtain ⟨vs, h1, h2⟩ := h.rows
  exact ⟨h.nd, T, f _ _ h.dict, ⟨vs, b _ _ (Ne.symm n1) h1, pd_mono h2 fun _ _ z => z.same f⟩, b _ _ (Ne.symm n2) h.blocks, b _ _ (Ne.symm n3) h.wide, b _ _ (Ne.symm n4) h.deep, h.leads.same f, h.above.same f, h.lb, h.lw, h.ld, Same.tup f h.caps⟩
theorem StaOk.same {K : PySem.W.Frag} {H H' : Hp} {st : Sta} {c : Nat} (h : StaOk K H st c) (e : Same H H') : StaOk K H' st c := h.bt (Same.but e) (h.tape.same e)
theorem kvR (st : Sta) : valV st.kv (Sum.inr "rows") = some (.ref st.r) := by rfl
theorem kvB (st : Sta) : valV st.kv (Sum.inr "blocks") = some (.ref st.b) := by rfl
theorem kvW (st : Sta) : valV st.kv (Sum.inr "wide") = some (.ref st.w) := by rfl
theorem kvD (st : Sta) : valV st.kv (Sum.inr "deep") = some (.ref st.d) := by rfl
theorem kvL (st : Sta) : valV st.kv (Sum.inr "leads") = some (.ref st.L) := by rfl
theorem kvA (st : Sta) : valV st.kv (Sum.inr "above") = some (.ref st.A) := by rfl
theorem kvC (st : Sta) : valV st.kv (Sum.inr "caps") = some (.ref st.C) := by rfl
theorem kvF (st : Sta) : valV st.kv (Sum.inr "few") = some (iv st.few) := by rfl
theorem StaOk.ds {K : PySem.W.Frag} {H : Hp} {st : Sta} {c : Nat} (h : StaOk K H st c) : H st.s = some (.dK st.kv) := frz_same _ _ _ _ h.dict
theorem dgOf {H : Hp} {st : Sta} {x : Str} {v : V} (h : H st.s = some (.dK st.kv)) (e : valV st.kv (Sum.inr x) = some v) : DGet H st.s (.str x) (some v) := .inl ⟨_, Sum.inr x, .inl h, rfl, e.symm⟩
def standL (st : Sta) (blk : Nat) : List Nat := (List.range st.rows.length).filter fun k => decide (st.blocks.getD k 0 ∈ st.above.getD blk []) && (st.rows.getD k (.take 0)).worthy
/-! ### standing -/
def spStanding (K : PySem.W.Frag) : Sp := fun vs H Q _ => ∃ (st : Sta) (c blk : Nat), vs = [.ref st.s, iv blk] ∧ StaOk K H st c ∧ blk < st.above.length ∧ st.rows.length ≤ 1000 ∧
  ∀ (p : Addr) (H' : Hp), H p = none → Same H H' → H' p = some (.lst ((standL st blk).map iv)) → Q (.ref p) H'
abbrev nStanding : List Str := ["_law_state", "_law_block", "_law_some", "_law_k", "_law_row"]
theorem scStanding : FnScope nStanding ["_law_state", "_law_block"] (defScope sStanding) := ⟨rfl, rfl, rfl, by decide +kernel, rfl, by decide +kernel, by decide +kernel⟩
abbrev tWords (ws : List V) : TA := ws.foldr (fun v t => tCons (tC v) t) tNil
section
variable {P : Program} {w : World} {K : PySem.W.Frag} {mg : Str → Option Value} {base : Heap}
theorem ok_standing {f : Addr} {fd : FuncData} {k : Nat} (D : Df K mg "_law_standing" sStanding ["_law_state", "_law_block"] f fd) (B : Bi mg) : FnOk P w K mg base CX0 (k + 1) f fd ["_law_state", "_law_block"] (spStanding K) := by
  refine D.F.ok scStanding (fun vs H Q E h => ?_) (fun cdv A outer s H vs Q E hr h => ?_)
  · obtain ⟨st, c, blk, rfl, _⟩ := h
    rfl
  · obtain ⟨st, c, blk, rfl, hS, hb, hl, q⟩ := h
    have hu := hu_of hr
    refine ⟨_, pss_cons (ps_set (i := 2) scStanding.nd rfl (.inr rfl) (pe_ix ix_list (pe_dget hu (pv 0) pe_str (fun _ _ => rfl)) (pv 1) (fun _ _ => rfl)))
      (pss_one (ps_ret (pe_lc (own := [("_law_k", 3), ("_law_row", 4)]) (g := gTup K 2 (gCons (gName 3) (gCons (gName 4) gNil)))
        (tt := tAnd (tIn K (tIxL K (tDGet (tVar 0) (tC (.str "blocks"))) (tVar 3)) (tVar 2)) (tNotIn K (tIxT K (tVar 4) (tC (.int 0))) (tTup (tCons (tC (.str "tell")) (tCons (tC (.str "lay")) tNil))))) (te := tVar 3) rfl scStanding.nd
        (pi_enum (by rfl) B.enumerate (pa_cons (pe_dget hu (pv 0) pe_str (fun _ _ => rfl)) pa_nil))
        (blkOk_by (own := [("_law_k", 3), ("_law_row", 4)]) (N := nStanding) (sc := defScope sStanding) (by decide +kernel))
        (fun _ _ _ _ _ => pg_tup rfl (pgs_cons (pg_name (i := 3) scStanding.nd rfl (.inl rfl)) (pgs_cons (pg_name (i := 4) scStanding.nd rfl (.inl rfl)) pgs_nil)))
        (fun _ _ _ _ _ => pts_one (pw_and (pt_cmpR op_in_seq (pe_ix ix_list (pe_dget hu (pv 0) pe_str (fun _ _ => rfl)) (pv 3) (fun _ _ => rfl)) (pv 2) rfl)
          (pw_and1 (pt_cmpR op_notIn_seq (pe_ix ix_tup (pv 4) pe_int (fun _ _ => rfl)) (pe_tup (pa_cons pe_str (pa_cons pe_str pa_nil))) rfl))).pt)
        (fun _ _ _ _ _ => pv 3)))), ?_⟩
    obtain ⟨vs, hv1, hv2⟩ := hS.rows
    have hvl : vs.length = st.rows.length := pd_len hv2
    obtain ⟨ys, qa, u1, u2, u3, u4⟩ := (hS.above.same (frz_same _ _)).at (gdl (d := []) hb)
    refine ⟨.ref st.s, rfl, st.s, .ref st.A, rfl, dgOf hS.ds (kvA st), _, rfl, st.A, ys, _, .ref qa, rfl, rfl, u1, u3, ?_⟩
    refine ⟨.ref st.s, rfl, st.s, .ref st.r, rfl, dgOf hS.ds (kvR st), st.r, vs, rfl, sqL hv1, fun L nL => ?_⟩
    let pr : Nat → Bool := fun k => decide (st.blocks.getD k 0 ∈ st.above.getD blk []) && (st.rows.getD k (.take 0)).worthy
    refine lc_it (walk_enum (xs := vs)) (fun i H1 => Same H H1 ∧ H1 L = some (.lst (((List.range i).filter pr).map iv))) ⟨new_same nL, upd_same⟩ (fun i H1 _ hP => sqL (hP.1 _ _ hv1)) (fun i x H1 H2 hi hP hY => ?_) (fun H1 hP => ?_)
    · obtain ⟨sm, eL⟩ := hP
      obtain ⟨T, x1, x2, rfl, nT, rfl, e1, e2⟩ := hY
      cases e1
      obtain ⟨row, hr1, hr2⟩ := pd_at2 hv2 e2
      have sT : Same H1 (upd H1 T (.tup [.int (i : Nat), x2])) := new_same nT
      have sT2 := sm.trans sT
      obtain ⟨p, rs, rfl, hp1, hp2⟩ := (hr2.same (frz_same _ _)).same sT2
      have eLT := sT _ _ eL
      have hib : i < st.blocks.length := by rw [hS.lb, ← hvl]; exact hi
      have er := filt_succ pr i
      have epr : pr i = (decide (st.blocks.getD i 0 ∈ st.above.getD blk []) && row.worthy) := by
        show (decide _ && _) = _
        rw [gd hr1]
      have no : pr i = false → Same H (upd H1 T (.tup [.int (i : Nat), .ref p])) ∧ upd H1 T (.tup [.int (i : Nat), .ref p]) L = some (.lst (((List.range (i + 1)).filter pr).map iv)) := fun z => by
        rw [er, z, if_neg (by decide), List.append_nil]
        exact ⟨sT2, eLT⟩
      refine ⟨T, _, rfl, sqT upd_same, rfl, _, _, rfl, _, _, rfl, rfl, rfl, .ref st.s, rfl, st.s, .ref st.b, rfl, dgOf (sT2 _ _ hS.ds) (kvB st), _, rfl, st.b, _, _, _, rfl, rfl, sqL (sT2 _ _ hS.blocks), atI_nat (by rw [List.getElem?_map, gdl (d := 0) hib]; rfl), .ref qa, rfl, qa, _, rfl, .inl (sT2.seq u4), rfl, flat_iv _, _, rfl, ?_⟩
      show if inV (iv (st.blocks.getD i 0)) ((st.above.getD blk []).map iv) = true then _ else _
      rw [inV_iv]
      by_cases h1 : decide (st.blocks.getD i 0 ∈ st.above.getD blk []) = true
      · rw [if_pos h1]
        rw [h1, Bool.true_and] at epr
        refine ⟨_, rfl, p, _, _, _, rfl, rfl, hp1, atI_nat (j := 0) rfl, szl (show 2 ≤ 1000000 by decide), fun T2 nT2 => ?_⟩
        have sU := new_same (o := .tup [.str "tell", .str "lay"]) nT2
        refine ⟨T2, _, rfl, .inr (sqT upd_same), rfl, rfl, _, rfl, ?_⟩
        show if (!inV (.str row.w) [.str "tell", .str "lay"]) = true then _ else _
        rw [worthy_in]
        by_cases h2 : row.worthy = true
        · rw [if_pos h2]
          refine ⟨_, rfl, _, sU _ _ eLT, ?_, fun a o e => ?_, ?_⟩
          · rw [List.length_map]
            exact szt (Nat.lt_of_le_of_lt (List.length_filter_le _ _) (by rw [List.length_range]; omega))
          · rw [upd_ne (ne_of_none e nL)]
            exact sU _ _ (sT2 _ _ e)
          · rw [upd_same, er, epr, h2, if_pos rfl, List.map_append]
            rfl
        · rw [if_neg h2]
          have h3 : row.worthy = false := by simpa using h2
          obtain ⟨z1, z2⟩ := no (by rw [epr, h3])
          exact ⟨z1.trans sU, sU _ _ z2⟩
      · rw [if_neg h1]
        have h3 : decide (st.blocks.getD i 0 ∈ st.above.getD blk []) = false := by simpa using h1
        exact no (by rw [epr, h3]; rfl)
    · obtain ⟨sm, eL⟩ := hP
      rw [hvl] at eL
      exact q L H1 nL sm eL
/-! ### put -/
def Sta.put (st : Sta) (blk : Nat) (row : Rw) (wi de : Nat) : Sta := { st with rows := st.rows ++ [row], blocks := st.blocks ++ [blk], wide := st.wide ++ [wi], deep := st.deep ++ [de] }
def spPut (K : PySem.W.Frag) : Sp := fun vs H Q _ => ∃ (st : Sta) (c blk : Nat) (v : V) (row : Rw) (wi de : Nat), vs = [.ref st.s, iv blk, v, iv wi, iv de] ∧ StaOk K H st c ∧ st.rows.length ≤ 1000 ∧ RowAt K (frz st.M H) v row ∧
  ∀ H' : Hp, Bm st.M H H' → StaOk K H' (st.put blk row wi de) c → Q .non H'
theorem scPut : FnScope ["_law_state", "_law_block", "_law_row", "_law_wide", "_law_deep"] ["_law_state", "_law_block", "_law_row", "_law_wide", "_law_deep"] (defScope sPut) := ⟨rfl, rfl, rfl, by decide +kernel, rfl, by decide +kernel, by decide +kernel⟩
theorem ok_put {f : Addr} {fd : FuncData} {k : Nat} (D : Df K mg "_law_put" sPut ["_law_state", "_law_block", "_law_row", "_law_wide", "_law_deep"] f fd) : FnOk P w K mg base CX0 (k + 1) f fd ["_law_state", "_law_block", "_law_row", "_law_wide", "_law_deep"] (spPut K) := by
  refine D.F.ok scPut (fun vs H Q E h => ?_) (fun cdv A outer s H vs Q E hr h => ?_)
  · obtain ⟨st, c, blk, v, row, wi, de, rfl, _⟩ := h
    rfl
  · obtain ⟨st, c, blk, v, row, wi, de, rfl, hS, hl, hv, q⟩ := h
    have hu := hu_of hr
    refine ⟨_, pss_cons (ps_expr (pe_bm PySem.F.plainAttrs_list PySem.F.slot_list_append PySem.F.type_list_append mt_append (pe_dget hu (pv 0) pe_str (fun _ _ => rfl)) (pa_cons (pv 2) pa_nil)))
      (pss_cons (ps_expr (pe_bm PySem.F.plainAttrs_list PySem.F.slot_list_append PySem.F.type_list_append mt_append (pe_dget hu (pv 0) pe_str (fun _ _ => rfl)) (pa_cons (pv 1) pa_nil)))
      (pss_cons (ps_expr (pe_bm PySem.F.plainAttrs_list PySem.F.slot_list_append PySem.F.type_list_append mt_append (pe_dget hu (pv 0) pe_str (fun _ _ => rfl)) (pa_cons (pv 3) pa_nil)))
      (pss_one (ps_expr (pe_bm PySem.F.plainAttrs_list PySem.F.slot_list_append PySem.F.type_list_append mt_append (pe_dget hu (pv 0) pe_str (fun _ _ => rfl)) (pa_cons (pv 4) pa_nil)))))), ?_⟩
    obtain ⟨vs, hv1, hv2⟩ := hS.rows
    have hvl : vs.length = st.rows.length := pd_len hv2
    have hn := hS.nd
    simp only [Sta.M, List.nodup_cons, List.mem_cons, List.not_mem_nil, or_false, not_or] at hn
    obtain ⟨⟨n1, n2, n3, n4⟩, ⟨n5, n6, n7⟩, ⟨n8, n9⟩, n10, _⟩ := hn
    have sM := frz_mem hS.dict
    simp only [Sta.M, List.mem_cons, List.not_mem_nil, or_false, not_or] at sM
    obtain ⟨m1, m2, m3, m4, m5⟩ := sM
    have d1 : ∀ o, upd H st.r o st.s = some (.dK st.kv) := fun o => by rw [upd_ne m2]; exact hS.ds
    have d2 : ∀ o o2, upd (upd H st.r o) st.b o2 st.s = some (.dK st.kv) := fun o o2 => by rw [upd_ne m3]; exact d1 o
    have d3 : ∀ o o2 o3, upd (upd (upd H st.r o) st.b o2) st.w o3 st.s = some (.dK st.kv) := fun o o2 o3 => by rw [upd_ne m4]; exact d2 o o2
    have e2 : ∀ o, upd H st.r o st.b = some (.lst (st.blocks.map iv)) := fun o => by rw [upd_ne (Ne.symm n5)]; exact hS.blocks
    have e3 : ∀ o o2, upd (upd H st.r o) st.b o2 st.w = some (.lst (st.wide.map iv)) := fun o o2 => by rw [upd_ne (Ne.symm n8), upd_ne (Ne.symm n6)]; exact hS.wide
    have e4 : ∀ o o2 o3, upd (upd (upd H st.r o) st.b o2) st.w o3 st.d = some (.lst (st.deep.map iv)) := fun o o2 o3 => by rw [upd_ne (Ne.symm n10), upd_ne (Ne.symm n9), upd_ne (Ne.symm n7)]; exact hS.deep
    have z1 : vs.length < sizeLine := szt (by omega)
    have z2 : (st.blocks.map iv).length < sizeLine := by rw [List.length_map, hS.lb]; exact szt (by omega)
    have z3 : (st.wide.map iv).length < sizeLine := by rw [List.length_map, hS.lw]; exact szt (by omega)
    have z4 : (st.deep.map iv).length < sizeLine := by rw [List.length_map, hS.ld]; exact szt (by omega)
    refine ⟨.ref st.s, rfl, st.s, .ref st.r, rfl, dgOf hS.ds (kvR st), .inl ⟨rfl, _, sqL hv1⟩, v, rfl, st.r, vs, v, rfl, rfl, hv1, z1, ?_⟩
    refine ⟨.ref st.s, rfl, st.s, .ref st.b, rfl, dgOf (d1 _) (kvB st), .inl ⟨rfl, _, sqL (e2 _)⟩, _, rfl, st.b, _, _, rfl, rfl, e2 _, z2, ?_⟩
    refine ⟨.ref st.s, rfl, st.s, .ref st.w, rfl, dgOf (d2 _ _) (kvW st), .inl ⟨rfl, _, sqL (e3 _ _)⟩, _, rfl, st.w, _, _, rfl, rfl, e3 _ _, z3, ?_⟩
    refine ⟨.ref st.s, rfl, st.s, .ref st.d, rfl, dgOf (d3 _ _ _) (kvD st), .inl ⟨rfl, _, sqL (e4 _ _ _)⟩, _, rfl, st.d, _, _, rfl, rfl, e4 _ _ _, z4, ?_⟩
    have bm : Bm st.M H (upd (upd (upd (upd H st.r (.lst (vs ++ [v]))) st.b (.lst (st.blocks.map iv ++ [iv blk]))) st.w (.lst (st.wide.map iv ++ [iv wi]))) st.d (.lst (st.deep.map iv ++ [iv de]))) := fun a o n e => by
      simp only [Sta.M, List.mem_cons, List.not_mem_nil, or_false, not_or] at n
      rw [upd_ne n.2.2.2.2, upd_ne n.2.2.2.1, upd_ne n.2.2.1, upd_ne n.2.1]
      exact e
    refine q _ bm ⟨hS.nd, ?_, bm.frz _ _ hS.dict, ⟨vs ++ [v], ?_, pd_snoc (pd_mono hv2 fun _ _ z => z.same bm.frz) (hv.same bm.frz)⟩, ?_, ?_, ?_, hS.leads.same bm.frz, hS.above.same bm.frz, ?_, ?_, ?_, Same.tup bm.frz hS.caps⟩
    · obtain ⟨x, y, z, a1, a2⟩ := hS.tape
      exact ⟨x, y, z, by show L2.upd _ st.d _ st.t = _; rw [upd_ne n4, upd_ne n3, upd_ne n2, upd_ne n1]; exact a1, a2⟩
    · show L2.upd _ st.d _ st.r = _
      rw [upd_ne n7, upd_ne n6, upd_ne n5, upd_same]
    · show L2.upd _ st.d _ st.b = _
      rw [upd_ne n9, upd_ne n8, upd_same]
      show _ = some (HO.lst ((st.blocks ++ [blk]).map iv))
      rw [List.map_append]
      rfl
    · show L2.upd _ st.d _ st.w = _
      rw [upd_ne n10, upd_same]
      show _ = some (HO.lst ((st.wide ++ [wi]).map iv))
      rw [List.map_append]
      rfl
    · show L2.upd _ st.d _ st.d = _
      rw [upd_same]
      show _ = some (HO.lst ((st.deep ++ [de]).map iv))
      rw [List.map_append]
      rfl
    · show (st.blocks ++ [blk]).length = (st.rows ++ [row]).length
      rw [List.length_append, List.length_append, hS.lb]
      rfl
    · show (st.wide ++ [wi]).length = (st.rows ++ [row]).length
      rw [List.length_append, List.length_append, hS.lw]
      rfl
    · show (st.deep ++ [de]).length = (st.rows ++ [row]).length
      rw [List.length_append, List.length_append, hS.ld]
      rfl
end
end Gn
set_option Elab.async false
set_option linter.all false
set_option maxRecDepth 100000
set_option maxHeartbeats 4000000
namespace Gn
open PySem PySem.Spec PyProof.Rows L2
/-! ### rows as data -/
def nd (n : Nat) : PyData := .int (n : Int)
def Rw.data : Rw → PyData
  | .take i => .tuple [.str "take", nd i]
  | .num n => .tuple [.str "num", .int n]
  | .bin b x y => .tuple [.str b.w, nd x, nd y]
  | .pick x ps => .tuple [.str "pick", nd x, .tuple (ps.map nd)]
  | .meet ps => .tuple [.str "meet", .tuple (ps.map nd)]
  | .tell x => .tuple [.str "tell", nd x]
  | .look rs x => .tuple [.str "look", .tuple (rs.map nd), nd x]
  | .lay rs x y => .tuple [.str "lay", .tuple (rs.map nd), nd x, nd y]
theorem dp_nats {K : PySem.W.Frag} {H : Hp} : ∀ ns : List Nat, DpAll K H (ns.map iv) (ns.map nd)
  | [] => .nil
  | n :: ns => .cons (.int _) (dp_nats ns)
theorem RowAt.dp {K : PySem.W.Frag} {H : Hp} {v : V} {r : Rw} (h : RowAt K H v r) : Dp K H v r.data := by
  obtain ⟨p, xs, rfl, h1, h2⟩ := h
  cases r with
  | take i => cases h2; exact .tup h1 (.cons (.str _) (.cons (.int _) .nil))
  | num n => cases h2; exact .tup h1 (.cons (.str _) (.cons (.int _) .nil))
  | bin b x y => cases h2; exact .tup h1 (.cons (.str _) (.cons (.int _) (.cons (.int _) .nil)))
  | pick x ps =>
    obtain ⟨q, rfl, h3⟩ := h2
    exact .tup h1 (.cons (.str _) (.cons (.int _) (.cons (.tup h3 (dp_nats ps)) .nil)))
  | meet ps =>
    obtain ⟨q, rfl, h3⟩ := h2
    exact .tup h1 (.cons (.str _) (.cons (.tup h3 (dp_nats ps)) .nil))
  | tell x => cases h2; exact .tup h1 (.cons (.str _) (.cons (.int _) .nil))
  | look rs x =>
    obtain ⟨q, rfl, h3⟩ := h2
    exact .tup h1 (.cons (.str _) (.cons (.tup h3 (dp_nats rs)) (.cons (.int _) .nil)))
  | lay rs x y =>
    obtain ⟨q, rfl, h3⟩ := h2
    exact .tup h1 (.cons (.str _) (.cons (.tup h3 (dp_nats rs)) (.cons (.int _) (.cons (.int _) .nil))))
theorem rows_dp {K : PySem.W.Frag} {H : Hp} : ∀ {vs : List V} {rs : List Rw}, Paired (RowAt K H) vs rs → DpAll K H vs (rs.map Rw.data)
  | _, _, .nil => .nil
  | _, _, .cons h t => .cons h.dp (rows_dp t)
theorem lay_nats : ∀ ns : List Nat, PyData.canLayAll0 (ns.map nd) = true
  | [] => by simp only [List.map_nil, PyData.canLayAll0]
  | n :: ns => by
    rw [List.map_cons]
    simp only [PyData.canLayAll0, nd, PyData.canLay0, lay_nats ns, Bool.and_self]
theorem lay_row (r : Rw) : r.data.canLay0 = true := by
  cases r with
  | bin b x y => cases b <;> (simp only [Rw.data, Bk.w, nd, PyData.canLay0, PyData.canLayAll0, Bool.and_true, Bool.true_and]; decide +kernel)
  | pick x ps => simp only [Rw.data, nd, PyData.canLay0, PyData.canLayAll0, lay_nats, Bool.and_true, Bool.true_and]; decide +kernel
  | meet ps => simp only [Rw.data, nd, PyData.canLay0, PyData.canLayAll0, lay_nats, Bool.and_true, Bool.true_and]; decide +kernel
  | look rs x => simp only [Rw.data, nd, PyData.canLay0, PyData.canLayAll0, lay_nats, Bool.and_true, Bool.true_and]; decide +kernel
  | lay rs x y => simp only [Rw.data, nd, PyData.canLay0, PyData.canLayAll0, lay_nats, Bool.and_true, Bool.true_and]; decide +kernel
  | _ => simp only [Rw.data, nd, PyData.canLay0, PyData.canLayAll0, Bool.and_true, Bool.true_and]; decide +kernel
theorem lay_rows : ∀ rs : List Rw, PyData.canLayAll0 (rs.map Rw.data) = true
  | [] => by simp only [List.map_nil, PyData.canLayAll0]
  | r :: rs => by
    rw [List.map_cons]
    simp only [PyData.canLayAll0, lay_row r, lay_rows rs, Bool.and_self]
theorem dep_nats : ∀ ns : List Nat, PyData.depthAll (ns.map nd) ≤ 1
  | [] => by simp [PyData.depthAll]
  | n :: ns => by
    have := dep_nats ns
    rw [List.map_cons]
    simp only [PyData.depthAll, nd, PyData.depth]
    omega
theorem dep_row (r : Rw) : r.data.depth ≤ 4 := by
  cases r with
  | pick x ps =>
    have := dep_nats ps
    simp only [Rw.data, nd, PyData.depth, PyData.depthAll] at *
    omega
  | meet ps =>
    have := dep_nats ps
    simp only [Rw.data, nd, PyData.depth, PyData.depthAll] at *
    omega
  | look rs x =>
    have := dep_nats rs
    simp only [Rw.data, nd, PyData.depth, PyData.depthAll] at *
    omega
  | lay rs x y =>
    have := dep_nats rs
    simp only [Rw.data, nd, PyData.depth, PyData.depthAll] at *
    omega
  | _ => simp [Rw.data, nd, PyData.depth, PyData.depthAll]
theorem dep_rows : ∀ rs : List Rw, PyData.depthAll (rs.map Rw.data) ≤ 4
  | [] => by simp [PyData.depthAll]
  | r :: rs => by
    have := dep_rows rs
    have := dep_row r
    rw [List.map_cons]
    simp only [PyData.depthAll]
    omega
theorem sh_rows (rs : List Rw) : SeqAt.shaped (.list (rs.map Rw.data)) = true := by
  unfold SeqAt.shaped
  have h1 : (PyData.list (rs.map Rw.data)).canLay0 = true := by simp only [PyData.canLay0, lay_rows rs]
  have h2 : (PyData.list (rs.map Rw.data)).depth ≤ 64 := by
    have := dep_rows rs
    simp only [PyData.depth]
    omega
  rw [h1, decide_eq_true h2]
  rfl
theorem sh_nil : SeqAt.shaped (.list []) = true := sh_rows []
theorem sh_nats (ns : List Nat) : SeqAt.shaped (.list (ns.map nd)) = true := by
  unfold SeqAt.shaped
  have h1 : (PyData.list (ns.map nd)).canLay0 = true := by simp only [PyData.canLay0, lay_nats ns]
  have h2 : (PyData.list (ns.map nd)).depth ≤ 64 := by
    have := dep_nats ns
    simp only [PyData.depth]
    omega
  rw [h1, decide_eq_true h2]
  rfl
theorem eqv_nil {ds : List PyData} : PyData.eqv (.list ds) (.list []) = ds.isEmpty := by
  cases ds with
  | nil => simp only [PyData.eqv, PyData.eqvAll, List.isEmpty_nil]
  | cons d ds => simp only [PyData.eqv, PyData.eqvAll, List.isEmpty_cons]
end Gn
set_option Elab.async false
set_option linter.all false
set_option maxRecDepth 100000
set_option maxHeartbeats 4000000
namespace Gn
open PySem PySem.Spec PyProof.Rows L2
/-! ### again -/
def Rw.isBin : Rw → Bool
  | .bin _ _ _ => true
  | _ => false
abbrev w5 : List V := [.str "sum", .str "less", .str "times", .str "same", .str "below"]
abbrev t5 : TE := tTup (tCons (tC (.str "sum")) (tCons (tC (.str "less")) (tCons (tC (.str "times")) (tCons (tC (.str "same")) (tCons (tC (.str "below")) tNil)))))
theorem bin_in (r : Rw) : inV (.str r.w) w5 = r.isBin := by
  cases r with
  | bin b x y => cases b <;> rfl
  | _ => rfl
theorem StaOk.fresh {K : PySem.W.Frag} {H : Hp} {st : Sta} {c : Nat} (h : StaOk K H st c) {p : Addr} (n : H p = none) : p ∉ st.M := fun hm => by
  obtain ⟨vs, hv, _⟩ := h.rows
  obtain ⟨o, ho⟩ := h.tape.lst
  simp only [Sta.M, List.mem_cons, List.not_mem_nil, or_false] at hm
  rcases hm with rfl | rfl | rfl | rfl | rfl
  · rw [ho] at n; cases n
  · rw [hv] at n; cases n
  · rw [h.blocks] at n; cases n
  · rw [h.wide] at n; cases n
  · rw [h.deep] at n; cases n
theorem tM (st : Sta) : st.t ∈ st.M := by simp [Sta.M]
theorem tup_upd {K : PySem.W.Frag} {H : Hp} {a b : Addr} {xs ys : List V} {o : HO} (h : SqT K H a xs) (e : H b = some (.lst ys)) : SqT K (upd H b o) a xs := by
  rcases h with (h | ⟨u, h⟩) | h
  · exact .inl (.inl (by rw [upd_ne (ne_of h e (by intro z; cases z))]; exact h))
  · exact .inl (.inr ⟨u, by rw [upd_ne (ne_of h e (by intro z; cases z))]; exact h⟩)
  · exact .inr h
theorem tup_but {K : PySem.W.Frag} {H H' : Hp} {a t : Addr} {xs ys : List V} (h : SqT K H a xs) (b : But t H H') (e : H t = some (.lst ys)) : SqT K H' a xs := by
  rcases h with (h | ⟨u, h⟩) | h
  · exact .inl (.inl (b _ _ (ne_of h e (by intro z; cases z)) h))
  · exact .inl (.inr ⟨u, b _ _ (ne_of h e (by intro z; cases z)) h⟩)
  · exact .inr h
theorem pd_map {α β γ : Type} {F : α → γ → Prop} {g : β → γ} : ∀ {l : List α} {m : List β}, Paired (fun a b => F a (g b)) l m → Paired F l (m.map g)
  | _, _, .nil => .nil
  | _, _, .cons h t => .cons h (pd_map t)
theorem row_tups {K : PySem.W.Frag} {H H' : Hp} {v : V} {r : Rw} (h : RowAt K H v r) (g : ∀ {a : Addr} {xs : List V}, SqT K H a xs → SqT K H' a xs) : RowAt K H' v r := by
  obtain ⟨p, xs, h1, h2, h3⟩ := h
  refine ⟨p, xs, h1, g h2, ?_⟩
  cases r with
  | pick x ps =>
    obtain ⟨q, e1, e2⟩ := h3
    exact ⟨q, e1, g e2⟩
  | meet ps =>
    obtain ⟨q, e1, e2⟩ := h3
    exact ⟨q, e1, g e2⟩
  | look rs x =>
    obtain ⟨q, e1, e2⟩ := h3
    exact ⟨q, e1, g e2⟩
  | lay rs x y =>
    obtain ⟨q, e1, e2⟩ := h3
    exact ⟨q, e1, g e2⟩
  | _ => exact h3
def spAgain (K : PySem.W.Frag) : Sp := fun vs H Q _ => ∃ (st : Sta) (c : Nat) (sa : Addr) (ss : List Nat), vs = [.ref st.t, .ref st.s, .ref sa] ∧ StaOk K H st c ∧ c + 2 ≤ 100000000 ∧ st.rows.length ≤ 1000 ∧ SqL K (frz st.M H) sa (ss.map iv) ∧
  (∀ H' : Hp, But st.t H H' → Tape H' st.t (c + 2) → Q .non H') ∧
  ∀ (H' : Hp) (v : V) (b : Bk) (x y : Nat), But st.t H H' → Tape H' st.t (c + 2) → RowAt K (frz st.M H') v (.bin b x y) → x ∈ ss → y ∈ ss → Q v H'
abbrev nAgain : List Str := ["_law_tape_here", "_law_state", "_law_some", "_law_known", "_law_kind", "_law_one", "_law_other", "_law_row"]
theorem scAgain : FnScope nAgain ["_law_tape_here", "_law_state", "_law_some"] (defScope sAgain) := ⟨rfl, rfl, rfl, by decide +kernel, rfl, by decide +kernel, by decide +kernel⟩
section
variable {P : Program} {w : World} {K : PySem.W.Frag} {mg : Str → Option Value} {base : Heap}
theorem ok_again {f fD : Addr} {fd fdD : FuncData} {k : Nat} (D : Df K mg "_law_again" sAgain ["_law_tape_here", "_law_state", "_law_some"] f fd) (B : Bi mg) (DD : Df K mg "_law_draw" sDraw ["_law_tape_here", "_law_many"] fD fdD)
    (GD : FnOk P w K mg base CX0 k fD fdD ["_law_tape_here", "_law_many"] spDraw) : FnOk P w K mg base CX0 (k + 1) f fd ["_law_tape_here", "_law_state", "_law_some"] (spAgain K) := by
  refine D.F.ok scAgain (fun vs H Q E h => ?_) (fun cdv A outer s H vs Q E hr h => ?_)
  · obtain ⟨st, c, sa, ss, rfl, _⟩ := h
    rfl
  · obtain ⟨st, c, sa, ss, rfl, hS, hc, hl, hsa, q0, q1⟩ := h
    have hu := hu_of hr
    refine ⟨_, pss_cons (ps_setLc (i := 3) (own := [("_law_row", 7)]) (g := gName 7) (tt := tIn K (tIxT K (tVar 7) (tC (.int 0))) t5) (te := tVar 7) (by rfl) scAgain.nd rfl rfl (sw_true rfl rfl rfl (by decide +kernel)) (pi_list (pe_dget hu (pv 1) pe_str (fun _ _ => rfl)))
        (blkOk_by (own := [("_law_row", 7)]) (N := nAgain) (sc := defScope sAgain) (by decide +kernel)) (fun _ _ _ _ _ => pg_name (i := 7) scAgain.nd rfl (.inl rfl))
        (fun _ _ _ _ _ => pts_one (pt_cmpR op_in_seq (pe_ix ix_tup (pv 7) pe_int (fun _ _ => rfl)) (pe_tup (pa_cons pe_str (pa_cons pe_str (pa_cons pe_str (pa_cons pe_str (pa_cons pe_str pa_nil)))))) rfl)) (fun _ _ _ _ _ => pv 7))
      (pss_cons (ps_setLc (i := 3) (own := [("_law_row", 7)]) (g := gName 7) (tt := tAnd (tIn K (tIxT K (tVar 7) (tC (.int 1))) (tVar 2)) (tIn K (tIxT K (tVar 7) (tC (.int 2))) (tVar 2))) (te := tVar 7) (by rfl) scAgain.nd rfl rfl (sw_true rfl rfl rfl (by decide +kernel)) (pi_list (pv 3))
        (blkOk_by (own := [("_law_row", 7)]) (N := nAgain) (sc := defScope sAgain) (by decide +kernel)) (fun _ _ _ _ _ => pg_name (i := 7) scAgain.nd rfl (.inl rfl))
        (fun _ _ _ _ _ => pts_one (pw_and (pt_cmpR op_in_seq (pe_ix ix_tup (pv 7) pe_int (fun _ _ => rfl)) (pv 2) rfl) (pw_and1 (pt_cmpR op_in_seq (pe_ix ix_tup (pv 7) pe_int (fun _ _ => rfl)) (pv 2) rfl))).pt) (fun _ _ _ _ _ => pv 7))
      (pss_cons (ps_if (pt_cmpR (op_eqD hr.units) (pv 3) (pe_lst pa_nil) (nomark _)) (pss_one (ps_ret pe_non)) pss_nil)
      (pss_cons (ps_asg (pe_ix ix_list (pv 3) (pe_call GD hr (by rfl) DD.g DD.F.kp DD.b .nil pass0 (pa_cons (pv 0) (pa_cons (pe_callB call_len_seq (by rfl) B.len PySem.boot_len (pa_cons (pv 3) pa_nil)) pa_nil))) (fun _ _ => rfl))
          (pg_tup rfl (pgs_cons (pg_name (i := 4) scAgain.nd rfl (.inl rfl)) (pgs_cons (pg_name (i := 5) scAgain.nd rfl (.inl rfl)) (pgs_cons (pg_name (i := 6) scAgain.nd rfl (.inl rfl)) pgs_nil)))))
      (pss_one (ps_ret (pe_ifExp (pw_and (pt_cmpR op_in_seq (pv 4) (pe_tup (pa_cons pe_str (pa_cons pe_str (pa_cons pe_str pa_nil)))) rfl) (pw_and1 (pt_cmpR op_eq (pe_call GD hr (by rfl) DD.g DD.F.kp DD.b .nil pass0 (pa_cons (pv 0) (pa_cons pe_int pa_nil))) pe_int (nomark _)))).pt
        (pe_tup (pa_cons (pv 4) (pa_cons (pv 6) (pa_cons (pv 5) pa_nil)))) (pe_tup (pa_cons (pv 4) (pa_cons (pv 5) (pa_cons (pv 6) pa_nil)))))))))), ?_⟩
    obtain ⟨vs, hv1, hv2⟩ := hS.rows
    have hvl : vs.length = st.rows.length := pd_len hv2
    have hsH : SqL K H sa (ss.map iv) := (frz_same _ _).seq hsa
    refine ⟨.ref st.s, rfl, st.s, .ref st.r, rfl, dgOf hS.ds (kvR st), st.r, rfl, ⟨_, sqL hv1⟩, fun L nL => ?_⟩
    refine lc_list (K := K) (a := st.r) (xs := vs) (fun i H1 => Same H H1 ∧ ∃ (ws : List V) (rs : List Rw), H1 L = some (.lst ws) ∧ Paired (RowAt K H1) ws rs ∧ (∀ r ∈ rs, r.isBin = true) ∧ ws.length ≤ i)
      ⟨new_same nL, [], [], upd_same, .nil, (fun r h => by cases h), Nat.le_refl _⟩ (fun i H1 _ hP => sqL (hP.1 _ _ hv1)) (fun i x H1 hx hP => ?_) (fun H1 hP => ?_)
    · obtain ⟨sm, ws, rs, eL, pd, hb, hwl⟩ := hP
      obtain ⟨row, hr1, hr2⟩ := pd_at2 hv2 hx
      have hrow := (hr2.same (frz_same _ _)).same sm
      obtain ⟨p, xs, rfl, hp1, hp2⟩ := hrow
      have hil : i < vs.length := (List.getElem?_eq_some_iff.mp hx).1
      refine ⟨rfl, _, rfl, p, _, _, _, rfl, rfl, hp1, atI_nat (j := 0) rfl, szl (show 5 ≤ 1000000 by decide), fun T nT => ?_⟩
      have sT : Same H1 (upd H1 T (.tup w5)) := new_same nT
      refine ⟨T, _, rfl, .inr (sqT upd_same), rfl, rfl, _, rfl, ?_⟩
      show if inV (.str row.w) w5 = true then _ else _
      rw [bin_in]
      have sT2 := sm.trans sT
      by_cases h2 : row.isBin = true
      · rw [if_pos h2]
        refine ⟨_, rfl, _, sT _ _ eL, szt (by omega), fun a o e => ?_, ws ++ [.ref p], rs ++ [row], upd_same, ?_, ?_, ?_⟩
        · rw [upd_ne (ne_of_none e nL)]
          exact sT2 _ _ e
        · have up : Same H (upd (upd H1 T (.tup w5)) L (.lst (ws ++ [.ref p]))) := fun a o e => by rw [upd_ne (ne_of_none e nL)]; exact sT2 _ _ e
          have upt : ∀ {a xs}, SqT K H1 a xs → SqT K (upd (upd H1 T (.tup w5)) L (.lst (ws ++ [.ref p]))) a xs := fun {a xs} h => tup_upd (Same.tup sT h) (sT _ _ eL)
          refine pd_snoc (pd_mono pd fun v r z => row_tups z upt) (row_tups ⟨p, xs, rfl, hp1, hp2⟩ upt)
        · intro r h
          rcases List.mem_append.mp h with h | h
          · exact hb r h
          · rw [List.mem_singleton.mp h]; exact h2
        · rw [List.length_append, List.length_singleton]; omega
      · rw [if_neg h2]
        exact ⟨sT2, ws, rs, sT _ _ eL, pd_mono pd fun v r z => z.same sT, hb, by omega⟩
    · obtain ⟨sm, ws, rs, eL, pd, hb, hwl⟩ := hP
      refine ⟨.ref L, rfl, L, rfl, ⟨_, sqL eL⟩, fun L2 nL2 => ?_⟩
      refine lc_list (K := K) (a := L) (xs := ws) (fun i H2 => Same H1 H2 ∧ ∃ (us : List V) (bs : List (Bk × Nat × Nat)), H2 L2 = some (.lst us) ∧ Paired (fun v (z : Bk × Nat × Nat) => RowAt K H2 v (.bin z.1 z.2.1 z.2.2) ∧ z.2.1 ∈ ss ∧ z.2.2 ∈ ss) us bs ∧ us.length ≤ i)
        ⟨new_same nL2, [], [], upd_same, .nil, Nat.le_refl _⟩ (fun i H2 _ hP => sqL (hP.1 _ _ eL)) (fun i x H2 hx hP => ?_) (fun H2 hP => ?_)
      · obtain ⟨sm2, us, bs, eL2, pd2, hul⟩ := hP
        obtain ⟨row, hr1, hr2⟩ := pd_at2 pd hx
        have hil : i < ws.length := (List.getElem?_eq_some_iff.mp hx).1
        have hrow := hr2.same sm2
        have hrb := hb row (List.mem_of_getElem? hr1)
        cases row with
        | bin b x1 y1 =>
          have hrow' := hrow
          obtain ⟨p, xs, rfl, hp1, hp2⟩ := hrow
          cases hp2
          have hsa2 : SqL K H2 sa (ss.map iv) := sm2.seq (sm.seq hsH)
          have stay : Same H1 H2 ∧ ∃ (us : List V) (bs : List (Bk × Nat × Nat)), H2 L2 = some (.lst us) ∧ Paired (fun v (z : Bk × Nat × Nat) => RowAt K H2 v (.bin z.1 z.2.1 z.2.2) ∧ z.2.1 ∈ ss ∧ z.2.2 ∈ ss) us bs ∧ us.length ≤ i + 1 := ⟨sm2, us, bs, eL2, pd2, by omega⟩
          refine ⟨rfl, _, rfl, p, _, _, _, rfl, rfl, hp1, atI_nat (j := 1) rfl, .ref sa, rfl, sa, _, rfl, .inl hsa2, rfl, flat_iv _, _, rfl, ?_⟩
          show if inV (iv x1) (ss.map iv) = true then _ else _
          rw [inV_iv]
          by_cases h1 : decide (x1 ∈ ss) = true
          · rw [if_pos h1]
            refine ⟨_, rfl, p, _, _, _, rfl, rfl, hp1, atI_nat (j := 2) rfl, .ref sa, rfl, sa, _, rfl, .inl hsa2, rfl, flat_iv _, _, rfl, ?_⟩
            show if inV (iv y1) (ss.map iv) = true then _ else _
            rw [inV_iv]
            by_cases h2 : decide (y1 ∈ ss) = true
            · rw [if_pos h2]
              refine ⟨_, rfl, _, eL2, szt (by omega), fun a o e => ?_, us ++ [.ref p], bs ++ [(b, x1, y1)], upd_same, ?_, ?_⟩
              · rw [upd_ne (ne_of_none e nL2)]
                exact sm2 _ _ e
              · have upt : ∀ {a xs}, SqT K H2 a xs → SqT K (upd H2 L2 (.lst (us ++ [.ref p]))) a xs := fun {a xs} h => tup_upd h eL2
                exact pd_snoc (pd_mono pd2 fun v r z => ⟨row_tups z.1 upt, z.2⟩) ⟨row_tups hrow' upt, of_decide_eq_true h1, of_decide_eq_true h2⟩
              · rw [List.length_append, List.length_singleton]; omega
            · rw [if_neg h2]
              exact stay
          · rw [if_neg h1]
            exact stay
        | _ => cases hrb
      · obtain ⟨sm2, us, bs, eL2, pd2, hul⟩ := hP
        have sH : Same H H2 := sm.trans sm2
        refine ⟨.ref L2, rfl, Nat.zero_le _, fun e ne => ?_⟩
        have sE : Same H2 (upd H2 e (.lst [])) := new_same ne
        have pd3 : Paired (RowAt K (upd H2 e (.lst []))) us (bs.map fun z => Rw.bin z.1 z.2.1 z.2.2) := pd_map (pd_mono pd2 fun v z h => h.1.same sE)
        have ub : us.length = bs.length := pd_len pd2
        refine ⟨_, _, .lst (sqL (sE _ _ eL2)) (rows_dp pd3), .lst (sqL upd_same) .nil, sh_rows _, sh_nil, _, rfl, ?_⟩
        show if PyData.eqv (.list _) (.list []) = true then _ else _
        rw [eqv_nil]
        generalize hH3 : upd H2 e (.lst []) = H3 at sE pd3
        have eL3 := sE _ _ eL2
        have s3 : Same H H3 := sH.trans sE
        have T3 := hS.tape.same s3
        cases bs with
        | nil => exact q0 H3 (Same.but s3) (T3.mono (by omega))
        | cons z0 bs =>
          rw [List.length_cons] at ub
          refine ⟨.ref L2, rfl, .ref st.t, rfl, .ref L2, rfl, L2, us, rfl, .inl (sqL eL3), st.t, _, c, rfl, T3, by omega, by omega, by omega, fun r1 H4 h1 b4 T4 => ?_⟩
          have hS3 := hS.same s3
          have nLt : L2 ≠ st.t := (hS.tape.same sm).ne nL2
          have hr1 : r1 < us.length := by omega
          obtain ⟨z, hz1, hz2, hzx, hzy⟩ := pd_at2 pd2 (List.getElem?_eq_getElem hr1)
          obtain ⟨p, xs, hp0, hp1, hp2⟩ := hz2.same sE
          cases hp2
          obtain ⟨tx, ty, tn, t1, t2⟩ := T3
          have hp4 := tup_but hp1 b4 t1
          have bH4 : But st.t H H4 := (Same.but s3).trans b4
          have mk : ∀ (H5 : Hp) (x' y' : Nat), But st.t H H5 → Tape H5 st.t (c + 2) → x' ∈ ss → y' ∈ ss → ∀ p2, H5 p2 = none → Q (.ref p2) (upd H5 p2 (.tup [.str z.1.w, iv x', iv y'])) := fun H5 x' y' b5 T5 hx' hy' p2 n2 => by
            have hS5 := hS.bt b5 T5
            exact q1 _ _ z.1 x' y' (b5.trans (Same.but (new_same n2))) (T5.upd n2) ⟨p2, _, rfl, sqT (frz_at upd_same (hS5.fresh n2)), rfl⟩ hx' hy'
          refine ⟨L2, us, _, us[r1], rfl, rfl, sqL (b4 L2 _ nLt eL3), at_lt hr1, p, _, hp0, hp4, rfl, _, _, rfl, _, _, rfl, _, _, rfl, rfl, ?_⟩
          refine ⟨_, rfl, szl (show 3 ≤ 1000000 by decide), fun T nT => ⟨T, _, rfl, .inr (sqT upd_same), rfl, rfl, _, rfl, ?_⟩⟩
          have sT : Same H4 (upd H4 T (.tup [.str "sum", .str "times", .str "same"])) := new_same nT
          have bT : But st.t H (upd H4 T (.tup [.str "sum", .str "times", .str "same"])) := bH4.trans (Same.but sT)
          have TT := T4.same sT
          show if inV (.str z.1.w) [.str "sum", .str "times", .str "same"] = true then _ else _
          generalize inV (.str z.1.w) [.str "sum", .str "times", .str "same"] = bb
          cases bb with
          | false => exact ⟨_, rfl, _, rfl, _, rfl, szl (show 3 ≤ 1000000 by decide), fun p2 n2 => mk _ _ _ bT (TT.mono (by omega)) hzx hzy p2 n2⟩
          | true =>
            refine ⟨.ref st.t, rfl, st.t, 2, c + 1, rfl, TT, by omega, by decide, by decide, fun r2 H5 h2 b5 T5 => ⟨rfl, _, rfl, ?_⟩⟩
            show if decide (V.int (r2 : Int) = V.int 0) = true then _ else _
            generalize decide (V.int (r2 : Int) = V.int 0) = b2
            cases b2 with
            | false => exact ⟨_, rfl, _, rfl, _, rfl, szl (show 3 ≤ 1000000 by decide), fun p2 n2 => mk _ _ _ (bT.trans b5) (T5.mono (by omega)) hzx hzy p2 n2⟩
            | true => exact ⟨_, rfl, _, rfl, _, rfl, szl (show 3 ≤ 1000000 by decide), fun p2 n2 => mk _ _ _ (bT.trans b5) (T5.mono (by omega)) hzy hzx p2 n2⟩
end
end Gn
set_option Elab.async false
set_option linter.all false
set_option maxRecDepth 100000
set_option maxHeartbeats 4000000
namespace Gn
open PySem PySem.Spec PyProof.Rows L2
/-! ### drawn_row -/
/-- rooms that may be named -/
def RmOk (rs : List Nat) : Prop := rs.length ≤ 0 ∧ rs ≠ [] ∧ ∀ y ∈ rs, y < 6
def RwIn (ss : List Nat) : Rw → Prop
  | .take i => i ≤ 5
  | .num n => -4 ≤ n ∧ n ≤ 10 ^ 12
  | .bin _ x y => x ∈ ss ∧ y ∈ ss
  | .pick x ps => x ∈ ss ∧ (∀ y ∈ ps, y ∈ ss) ∧ 1 ≤ ps.length ∧ ps.length ≤ 5
  | .look rs x => x ∈ ss ∧ RmOk rs
  | .lay rs x y => x ∈ ss ∧ y ∈ ss ∧ RmOk rs
  | _ => False
def spDrawn (K : PySem.W.Frag) : Sp := fun vs H Q _ => ∃ (st : Sta) (c : Nat) (sa : Addr) (ss : List Nat), vs = [.ref st.t, .ref st.s, .ref sa] ∧ StaOk K H st c ∧ c + 20 ≤ 100000000 ∧ st.rows.length ≤ 1000 ∧ SqL K (frz st.M H) sa (ss.map iv) ∧ ss ≠ [] ∧ ss.length ≤ 1000 ∧
  ∀ (H' : Hp) (v : V) (row : Rw), But st.t H H' → Tape H' st.t (c + 20) → RowAt K (frz st.M H') v row → RwIn ss row → Q v H'
abbrev nDrawn : List Str := ["_law_tape_here", "_law_state", "_law_some", "_law_way", "_law_one", "_law_other", "_law_row", "_law_k"]
theorem scDrawn : FnScope nDrawn ["_law_tape_here", "_law_state", "_law_some"] (defScope sDrawn) := ⟨rfl, rfl, rfl, by decide +kernel, rfl, by decide +kernel, by decide +kernel⟩
theorem at_iv {ss : List Nat} {r : Nat} (h : r < ss.length) : atI (ss.map iv) (r : Int) = some (iv ss[r]) := atI_nat (by rw [List.getElem?_map, List.getElem?_eq_getElem h]; rfl)
theorem sq_but {K : PySem.W.Frag} {H H' : Hp} {st : Sta} {a : Addr} {xs : List V} (h : SqL K (frz st.M H) a xs) (b : But st.t H H') : SqL K (frz st.M H') a xs := (Bm.frz (Bm.of_but b (tM st))).seq h
theorem sq_out {K : PySem.W.Frag} {H : Hp} {st : Sta} {a : Addr} {xs : List V} (h : SqL K (frz st.M H) a xs) : SqL K H a xs := (frz_same _ _).seq h
abbrev tDr (a b : TE) : TE := tCall spDraw [] E0 (tCons a (tCons b tNil))
section
variable {P : Program} {w : World} {K : PySem.W.Frag} {mg : Str → Option Value} {base : Heap}
theorem ok_drawn {f fD fN fA : Addr} {fd fdD fdN fdA : FuncData} {k : Nat} (D : Df K mg "_law_drawn_row" sDrawn ["_law_tape_here", "_law_state", "_law_some"] f fd) (B : Bi mg) (DD : Df K mg "_law_draw" sDraw ["_law_tape_here", "_law_many"] fD fdD)
    (GD : FnOk P w K mg base CX0 k fD fdD ["_law_tape_here", "_law_many"] spDraw) (DN : Df K mg "_law_number" sNumber ["_law_tape_here"] fN fdN) (GN : FnOk P w K mg base CX0 k fN fdN ["_law_tape_here"] spNumber)
    (DA : Df K mg "_law_again" sAgain ["_law_tape_here", "_law_state", "_law_some"] fA fdA) (GA : FnOk P w K mg base CX0 k fA fdA ["_law_tape_here", "_law_state", "_law_some"] (spAgain K)) : FnOk P w K mg base CX0 (k + 1) f fd ["_law_tape_here", "_law_state", "_law_some"] (spDrawn K) := by
  refine D.F.ok scDrawn (fun vs H Q E h => ?_) (fun cdv A outer s H vs Q E hr h => ?_)
  · obtain ⟨st, c, sa, ss, rfl, _⟩ := h
    rfl
  · obtain ⟨st, c, sa, ss, rfl, hS, hc, hl, hsa, hne, hsl, q⟩ := h
    refine ⟨_, pss_cons (ps_set (i := 3) scDrawn.nd rfl (.inl rfl) (pe_call GD hr (by rfl) DD.g DD.F.kp DD.b .nil pass0 (pa_cons (pv 0) (pa_cons pe_int pa_nil))))
      (pss_cons (ps_par (i := 4) (j := 5) (by rfl) scDrawn.nd rfl rfl (by decide) rfl rfl (pa_cons (pe_ix ix_list (pv 2) (pe_call GD hr (by rfl) DD.g DD.F.kp DD.b .nil pass0 (pa_cons (pv 0) (pa_cons (pe_callB call_len_seq (by rfl) B.len PySem.boot_len (pa_cons (pv 2) pa_nil)) pa_nil))) (fun _ _ => rfl))
          (pa_cons (pe_ix ix_list (pv 2) (pe_call GD hr (by rfl) DD.g DD.F.kp DD.b .nil pass0 (pa_cons (pv 0) (pa_cons (pe_callB call_len_seq (by rfl) B.len PySem.boot_len (pa_cons (pv 2) pa_nil)) pa_nil))) (fun _ _ => rfl)) pa_nil)) (by rfl))
      (Evl.pss_cut (ps_if (pt_cmpR op_lt (pv 3) pe_int (nomark _)) (pss_cons (ps_set (i := 6) scDrawn.nd rfl (.inl rfl) (pe_call GA hr (by rfl) DA.g DA.F.kp DA.b .nil pass0 (pa_cons (pv 0) (pa_cons (pv 1) (pa_cons (pv 2) pa_nil)))))
          (pss_one (ps_if (pt_cmp (pc_notN (pv 6))) (pss_one (ps_ret (pv 6))) pss_nil))) pss_nil)
      (pss_cons (ps_if (pt_cmpR op_lt (pv 3) pe_int (nomark _)) (pss_one (ps_ret (pe_ix ix_list (pe_lst (pa_cons (pe_tup (pa_cons pe_str (pa_cons (pe_call GN hr (by rfl) DN.g DN.F.kp DN.b .nil pass0 (pa_cons (pv 0) pa_nil)) pa_nil)))
          (pa_cons (pe_tup (pa_cons pe_str (pa_cons (pe_call GD hr (by rfl) DD.g DD.F.kp DD.b .nil pass0 (pa_cons (pv 0) (pa_cons pe_int pa_nil))) pa_nil))) pa_nil))) (pe_op op_mod (pv 3) pe_int) (fun _ _ => rfl)))) pss_nil)
      (pss_cons (ps_if (pt_cmpR op_eq (pv 3) pe_int (nomark _)) (pss_one (ps_ret (pe_tup (pa_cons pe_str (pa_cons (pv 4) (pa_cons (pe_callTy call_tuple_of (by rfl) B.tuple PyProof.Rows.boot_tuple (pa_cons
          (pe_lc (own := [("_law_k", 7)]) (g := gName 7) (tt := tYes) (te := tIxL K (tVar 2) (tDr (tVar 0) (tLen K (tVar 2)))) rfl scDrawn.nd (pi_range1 (by rfl) B.range (pa_cons (pe_op op_add pe_int (pe_call GD hr (by rfl) DD.g DD.F.kp DD.b .nil pass0 (pa_cons (pv 0) (pa_cons pe_int pa_nil)))) pa_nil))
            (blkOk_by (own := [("_law_k", 7)]) (N := nDrawn) (sc := defScope sDrawn) (by decide +kernel)) (fun _ _ _ _ _ => pg_name (i := 7) scDrawn.nd rfl (.inl rfl)) (fun _ _ _ _ _ => pts_nil)
            (fun _ _ _ _ _ => pe_ix ix_list (pv 2) (pe_call GD hr (by rfl) DD.g DD.F.kp DD.b .nil pass0 (pa_cons (pv 0) (pa_cons (pe_callB call_len_seq (by rfl) B.len PySem.boot_len (pa_cons (pv 2) pa_nil)) pa_nil))) (fun _ _ => rfl))) pa_nil)) pa_nil)))))) pss_nil)
      (pss_one (ps_ret (pe_tup (pa_cons (pe_ix ix_list (pe_lst (pa_cons pe_str (pa_cons pe_str (pa_cons pe_str (pa_cons pe_str (pa_cons pe_str (pa_cons pe_str pa_nil))))))) (pe_op op_sub (pv 3) pe_int) (fun _ _ => rfl)) (pa_cons (pv 4) (pa_cons (pv 5) pa_nil)))))))))), ?_⟩
    have hl1 : ((ss.map iv).length : Int) = (ss.length : Int) := by rw [List.length_map]
    have hpos : 0 < ss.length := List.length_pos_iff.mpr hne
    refine ⟨.ref st.t, rfl, st.t, 12, c, rfl, hS.tape, by omega, by decide, by decide, fun w1 H1 h1 b1 T1 => ?_⟩
    have sq1 := sq_but hsa b1
    refine ⟨.ref sa, rfl, .ref st.t, rfl, .ref sa, rfl, sa, _, rfl, .inl (sq_out sq1), st.t, _, c + 1, rfl, T1, by omega, by omega, by omega, fun r1 H2 h2 b2 T2 => ?_⟩
    have sq2 := sq_but sq1 b2
    have hr1 : r1 < ss.length := by omega
    refine ⟨sa, _, _, _, rfl, rfl, sq_out sq2, at_iv hr1, .ref sa, rfl, .ref st.t, rfl, .ref sa, rfl, sa, _, rfl, .inl (sq_out sq2), st.t, _, c + 2, rfl, T2, by omega, by omega, by omega, fun r2 H3 h3 b3 T3 => ?_⟩
    have sq3 := sq_but sq2 b3
    have hr2 : r2 < ss.length := by omega
    have b13 : But st.t H H3 := (b1.trans b2).trans b3
    refine ⟨sa, _, _, _, rfl, rfl, sq_out sq3, at_iv hr2, _, _, rfl, ?_⟩
    have hx : ss[r1] ∈ ss := List.getElem_mem hr1
    have hy : ss[r2] ∈ ss := List.getElem_mem hr2
    generalize ss[r1] = x at hx
    generalize ss[r2] = y at hy
    refine ⟨fun σ H4 => ∃ (y6 y7 : Option V), σ = [some (.ref st.t), some (.ref st.s), some (.ref sa), some (.int w1), some (iv x), some (iv y), y6, y7] ∧ But st.t H H4 ∧ Tape H4 st.t (c + 5), ?_, fun σ H4 hM => ?_⟩
    · refine ⟨_, rfl, _, _, rfl, rfl, _, rfl, ite2 (fun e => ?_) (fun e => ⟨_, _, rfl, b13, T3.mono (by omega)⟩)⟩
      refine ⟨.ref st.t, rfl, .ref st.s, rfl, .ref sa, rfl, st, c + 3, sa, ss, rfl, hS.bt b13 T3, by omega, hl, sq3, fun H4 b4 T4 => ?_, fun H4 v b x' y' b4 T4 hR hx' hy' => ?_⟩
      · exact ⟨_, rfl, _, rfl, iteNS rfl ⟨_, _, rfl, b13.trans b4, T4⟩⟩
      · obtain ⟨p, xs, rfl, hp1, hp2⟩ := hR
        refine ⟨_, rfl, _, rfl, ?_⟩
        show if (!decide (V.ref p = V.non)) = true then _ else _
        rw [decide_eq_false (by intro z; cases z)]
        exact ⟨_, rfl, q H4 _ (.bin b x' y') (b13.trans b4) (T4.mono (by omega)) ⟨p, xs, rfl, hp1, hp2⟩ ⟨hx', hy'⟩⟩
    · obtain ⟨y6, y7, rfl, b4, T4⟩ := hM
      have hS4 := hS.bt b4 T4
      have sq4 := sq_but hsa b4
      refine ⟨_, rfl, _, _, rfl, rfl, _, rfl, ite2 (fun e => ?_) (fun e => ?_)⟩
      · refine ⟨.ref st.t, rfl, st.t, c + 5, rfl, T4, by omega, fun n H5 hn b5 T5 => ⟨szl (show 2 ≤ 1000000 by decide), fun p1 n1 => ?_⟩⟩
        refine ⟨.ref st.t, rfl, st.t, 3, c + 8, rfl, T5.upd n1, by omega, by decide, by decide, fun r3 H6 h6 b6 T6 => ⟨szl (show 2 ≤ 1000000 by decide), fun p2 n2 => ⟨szl (show 2 ≤ 1000000 by decide), fun p3 n3 => ?_⟩⟩⟩
        have hS5 := hS4.bt b5 T5
        have m1 := hS5.fresh n1
        have n1t : p1 ≠ st.t := T5.ne n1
        have e6 := b6 p1 _ n1t upd_same
        have b46 : But st.t H H6 := ((b4.trans b5).trans (Same.but (new_same n1))).trans b6
        have hS6 := hS.bt b46 T6
        have m2 := hS6.fresh n2
        have s2 := new_same (o := .tup [.str "take", .int (r3 : Int)]) n2
        have s3 := new_same (o := .lst [.ref p1, .ref p2]) n3
        have bF := b46.trans (Same.but (t := st.t) (s2.trans s3))
        have TF := (T6.same (s2.trans s3)).mono (show c + 8 + 1 ≤ c + 20 by omega)
        have hz : (w1 : Int) % 2 = 0 ∨ (w1 : Int) % 2 = 1 := by omega
        rcases hz with hz | hz
        · refine ⟨_, rfl, _, _, rfl, rfl, (by decide : (0 : Int) < 2), p3, _, _, .ref p1, rfl, rfl, sqL upd_same, by rw [hz]; exact atI_nat (j := 0) rfl, ?_⟩
          exact q _ _ (.num n) bF TF ⟨p1, _, rfl, sqT (frz_at ((s2.trans s3) _ _ e6) m1), rfl⟩ hn
        · refine ⟨_, rfl, _, _, rfl, rfl, (by decide : (0 : Int) < 2), p3, _, _, .ref p2, rfl, rfl, sqL upd_same, by rw [hz]; exact atI_nat (j := 1) rfl, ?_⟩
          exact q _ _ (.take r3) bF TF ⟨p2, _, rfl, sqT (frz_at (s3 _ _ upd_same) m2), rfl⟩ (show r3 ≤ 5 by omega)
      · refine ⟨_, rfl, rfl, _, rfl, ite2 (fun e2 => ?_) (fun e2 => ?_)⟩
        · refine ⟨_, rfl, .ref st.t, rfl, st.t, 5, c + 5, rfl, T4, by omega, by decide, by decide, fun r5 H5 h5 b5 T5 => ⟨1, r5, rfl, rfl, _, rfl, by omega, by omega, fun L nL => ?_⟩⟩
          have nLt : L ≠ st.t := T5.ne nL
          have hn : (1 + (r5 : Int)).toNat = r5 + 1 := by omega
          have sq5 := sq_but sq4 b5
          refine lc_range (lo := 0) (n := (1 + (r5 : Int)).toNat) (fun i H6 => But st.t H5 H6 ∧ Tape H6 st.t (c + 6 + i) ∧ ∃ es : List Nat, H6 L = some (.lst (es.map iv)) ∧ es.length = i ∧ ∀ y ∈ es, y ∈ ss)
            ⟨Same.but (new_same nL), T5.upd nL, [], upd_same, rfl, fun y h => by cases h⟩ (fun i H6 hi hP => ?_) (fun H6 hP => ?_)
          · obtain ⟨b6, T6, es, eL, hel, hes⟩ := hP
            have sq6 := sq_but sq5 b6
            refine ⟨rfl, .ref sa, rfl, .ref st.t, rfl, .ref sa, rfl, sa, _, rfl, .inl (sq_out sq6), st.t, _, c + 6 + i, rfl, T6, by omega, by omega, by omega, fun r7 H7 h7 b7 T7 => ?_⟩
            have hr7 : r7 < ss.length := by omega
            refine ⟨sa, _, _, _, rfl, rfl, sq_out (sq_but sq6 b7), at_iv hr7, _, b7 L _ nLt eL, ?_, fun a o n e => ?_, ?_, es ++ [ss[r7]], ?_, ?_, ?_⟩
            · rw [List.length_map]; exact szt (by omega)
            · rw [upd_ne (ne_of_none e nL)]; exact (b6.trans b7) a o n e
            · obtain ⟨a1, a2, a3, a4, a5⟩ := T7
              exact ⟨a1, a2, a3, by rw [upd_ne nLt.symm]; exact a4, a5⟩
            · rw [upd_same, List.map_append]; rfl
            · rw [List.length_append, List.length_singleton, hel]
            · intro z hz
              rcases List.mem_append.mp hz with h | h
              · exact hes z h
              · rw [List.mem_singleton.mp h]; exact List.getElem_mem hr7
          · obtain ⟨b6, T6, es, eL, hel, hes⟩ := hP
            refine ⟨L, _, rfl, .inl ⟨sqL eL, fun T nT => ⟨szl (show 3 ≤ 1000000 by decide), fun p np => ?_⟩⟩⟩
            have bH6 : But st.t H H6 := (b4.trans b5).trans b6
            have hS6 := hS.bt bH6 T6
            have mT := hS6.fresh nT
            have sT := new_same (o := .tup (es.map iv)) nT
            have mp := (hS6.same sT).fresh np
            have sp' := new_same (o := .tup [.str "pick", iv x, .ref T]) np
            refine q _ _ (.pick x es) (bH6.trans (Same.but (sT.trans sp'))) ((T6.same (sT.trans sp')).mono (by omega)) ⟨p, _, rfl, sqT (frz_at upd_same mp), T, rfl, sqT (frz_at (sp' _ _ upd_same) mT)⟩ ⟨hx, hes, by omega, by omega⟩
        · have hw5 : ¬ ((w1 : Int) < 5) := fun z => e (decide_eq_true z)
          have hw11 : ¬ (w1 : Int) = 11 := fun z => e2 (decide_eq_true (by show V.int (w1 : Int) = V.int 11; rw [z]))
          let ks : List Bk := [.sum, .sum, .less, .times, .same, .below]
          have hj : w1 - 5 < ks.length := by show w1 - 5 < 6; omega
          have ei : (w1 : Int) - 5 = ((w1 - 5 : Nat) : Int) := by omega
          have at5 : atI (ks.map fun b => V.str b.w) ((w1 : Int) - 5) = some (.str ks[w1 - 5].w) := by
            rw [ei]
            exact atI_nat (by rw [List.getElem?_map, List.getElem?_eq_getElem hj]; rfl)
          refine ⟨szl (show 6 ≤ 1000000 by decide), fun p np => ⟨_, rfl, _, _, rfl, rfl, p, _, _, _, rfl, rfl, sqL upd_same, at5, _, rfl, _, rfl, szl (show 3 ≤ 1000000 by decide), fun p2 np2 => ?_⟩⟩
          have s1 := new_same (o := .lst [.str "sum", .str "sum", .str "less", .str "times", .str "same", .str "below"]) np
          have mp := (hS4.same s1).fresh np2
          have s2 := new_same (o := .tup [.str ks[w1 - 5].w, iv x, iv y]) np2
          exact q _ _ (.bin ks[w1 - 5] x y) (b4.trans (Same.but (s1.trans s2))) ((T4.same (s1.trans s2)).mono (by omega)) ⟨p2, _, rfl, sqT (frz_at upd_same mp), rfl⟩ ⟨hx, hy⟩
end
end Gn
set_option Elab.async false
set_option linter.all false
set_option maxRecDepth 100000
set_option maxHeartbeats 4000000
set_option pp.maxSteps 300
namespace Gn
open PySem PySem.Spec PyProof.Rows L2
/-! ### add -/
def WD (st : Sta) : Prop := (∀ x ∈ st.wide, 1 ≤ x ∧ x ≤ 24) ∧ ∀ x ∈ st.deep, 1 ≤ x ∧ x ≤ 8
def spAdd (K : PySem.W.Frag) : Sp := fun vs H Q _ => ∃ (st : Sta) (c blk : Nat), vs = [.ref st.t, .ref st.s, iv blk] ∧ StaOk K H st c ∧ WD st ∧ blk < st.above.length ∧ c + 20 ≤ 100000000 ∧ st.rows.length ≤ 900 ∧
  ∀ (H' : Hp) (row : Rw) (wi de : Nat), Bm st.M H H' → StaOk K H' (st.put blk row wi de) (c + 20) → RwIn (standL st blk) row → 1 ≤ wi → wi ≤ 24 → 1 ≤ de → de ≤ 8 → Q .non H'
theorem standL_lt {st : Sta} {blk k : Nat} (h : k ∈ standL st blk) : k < st.rows.length := List.mem_range.mp (List.mem_filter.mp h).1
theorem standL_len (st : Sta) (blk : Nat) : (standL st blk).length ≤ st.rows.length := Nat.le_trans (List.length_filter_le _ _) (by rw [List.length_range]; exact Nat.le_refl _)
abbrev w3 : List V := [.str "sum", .str "less", .str "times"]
theorem w3_bin {r : Rw} (h : inV (.str r.w) w3 = true) : r.isBin = true := by
  cases r with
  | bin b x y => rfl
  | take _ => cases (show false = true from h)
  | num _ => cases (show false = true from h)
  | pick _ _ => cases (show false = true from h)
  | meet _ => cases (show false = true from h)
  | tell _ => cases (show false = true from h)
  | look _ _ => cases (show false = true from h)
  | lay _ _ _ => cases (show false = true from h)
theorem pick_is {r : Rw} (h : decide (V.str r.w = V.str "pick") = true) : ∃ x ps, r = .pick x ps := by
  cases r with
  | pick x ps => exact ⟨x, ps, rfl⟩
  | bin b x y => cases b <;> cases (show false = true from h)
  | take _ => cases (show false = true from h)
  | num _ => cases (show false = true from h)
  | meet _ => cases (show false = true from h)
  | tell _ => cases (show false = true from h)
  | look _ _ => cases (show false = true from h)
  | lay _ _ _ => cases (show false = true from h)
theorem pick_lc {K : PySem.W.Frag} {H : Hp} {st : Sta} {p q : Addr} {x bd : Nat} {ps fs : List Nat} {nm : Str} {ad : Addr} {Q : VK} {b2 b3 b4 : Option V} (hp : SqT K H p [.str "pick", iv x, .ref q]) (hq : SqT K H q (ps.map iv)) (hd : H st.s = some (.dK st.kv))
    (kv : valV st.kv (Sum.inr nm) = some (.ref ad)) (hf : H ad = some (.lst (fs.map iv))) (hps : ∀ y ∈ ps, y < fs.length) (hfs : ∀ y ∈ fs, 1 ≤ y ∧ y ≤ bd) (hl : ps.length ≤ 5)
    (k : ∀ (L : Addr) (es : List Nat) (H' : Hp), Same H H' → H' L = some (.lst (es.map iv)) → es.length = ps.length → (∀ y ∈ es, 1 ≤ y ∧ y ≤ bd) → Q (.ref L) H') :
    tLc (iTup K (tIxT K (tVar 1) (tC (.int 2)))) (gName 4) tYes (tIxL K (tDGet (tVar 0) (tC (.str nm))) (tVar 4)) [4] [some (.ref st.s), some (.ref p), b2, b3, b4] H Q := by
  refine ⟨.ref p, rfl, p, _, _, _, rfl, rfl, hp, atI_nat (j := 2) rfl, q, rfl, ⟨_, hq⟩, fun L nL => ?_⟩
  refine lc_tup (K := K) (a := q) (xs := ps.map iv) (fun i H1 => Same H H1 ∧ ∃ es : List Nat, H1 L = some (.lst (es.map iv)) ∧ es.length = i ∧ ∀ y ∈ es, 1 ≤ y ∧ y ≤ bd) ⟨new_same nL, [], upd_same, rfl, fun y h => by cases h⟩
    (fun i H1 _ hP => Same.tup hP.1 hq) (fun i v H1 hx hP => ?_) (fun H1 hP => ?_)
  · obtain ⟨sm, es, eL, hel, hes⟩ := hP
    rw [List.getElem?_map] at hx
    obtain ⟨b, hb, rfl⟩ := Option.map_eq_some_iff.mp hx
    have hbl := hps b (List.mem_of_getElem? hb)
    have hil := (List.getElem?_eq_some_iff.mp hb).1
    refine ⟨rfl, .ref st.s, rfl, st.s, .ref ad, rfl, dgOf (sm _ _ hd) kv, _, rfl, ad, _, _, _, rfl, rfl, sqL (sm _ _ hf), at_iv hbl, _, eL, ?_, fun a o e => ?_, es ++ [fs[b]], ?_, ?_, ?_⟩
    · rw [List.length_map]; exact szt (by omega)
    · rw [upd_ne (ne_of_none e nL)]; exact sm _ _ e
    · rw [upd_same, List.map_append]; rfl
    · rw [List.length_append, List.length_singleton, hel]
    · intro z hz
      rcases List.mem_append.mp hz with h | h
      · exact hes z h
      · rw [List.mem_singleton.mp h]; exact hfs _ (List.getElem_mem hbl)
  · obtain ⟨sm, es, eL, hel, hes⟩ := hP
    rw [List.length_map] at hel
    exact k L es H1 sm eL hel hes
theorem nat_of {es : List Nat} {m : Int} (h : m ∈ es.map Int.ofNat) : ∃ n : Nat, n ∈ es ∧ m = (n : Int) := by
  obtain ⟨n, hn, rfl⟩ := List.mem_map.mp h
  exact ⟨n, hn, rfl⟩
theorem ofn_iv (es : List Nat) : (es.map Int.ofNat).map V.int = es.map iv := by rw [List.map_map]; rfl
/-! ### fits -/
def spFits (K : PySem.W.Frag) : Sp := fun vs H Q _ => ∃ (st : Sta) (c : Nat) (v : V) (row : Rw) (ss : List Nat), vs = [.ref st.s, v] ∧ StaOk K H st c ∧ WD st ∧ RowAt K H v row ∧ RwIn ss row ∧ (∀ y ∈ ss, y < st.rows.length) ∧
  ∀ (p : Addr) (H' : Hp) (wi de : Nat), Same H H' → H' p = some (.tup [iv wi, iv de]) → 1 ≤ wi → 1 ≤ de → (row.isBin = false → wi ≤ 24 ∧ de ≤ 8) → Q (.ref p) H'
abbrev nFits : List Str := ["_law_state", "_law_row", "_law_wides", "_law_deeps", "_law_k"]
theorem scFits : FnScope nFits ["_law_state", "_law_row"] (defScope sFits) := ⟨rfl, rfl, rfl, by decide +kernel, rfl, by decide +kernel, by decide +kernel⟩
section
variable {P : Program} {w : World} {K : PySem.W.Frag} {mg : Str → Option Value} {base : Heap}
theorem ok_fits {f : Addr} {fd : FuncData} {k : Nat} (D : Df K mg "_law_fits" sFits ["_law_state", "_law_row"] f fd) (B : Bi mg) : FnOk P w K mg base CX0 (k + 1) f fd ["_law_state", "_law_row"] (spFits K) := by
  refine D.F.ok scFits (fun vs H Q E h => ?_) (fun cdv A outer s H vs Q E hr h => ?_)
  · obtain ⟨st, c, v, row, ss, rfl, _⟩ := h
    rfl
  · obtain ⟨st, c, v, row, ss, rfl, hS, hwd, hR, hI, hlt, q⟩ := h
    have hu := hu_of hr
    refine ⟨_, pss_cons (ps_if (pt_cmpR op_in_seq (pe_ix ix_tup (pv 1) pe_int (fun _ _ => rfl)) (pe_tup (pa_cons pe_str (pa_cons pe_str (pa_cons pe_str pa_nil)))) rfl)
          (pss_cons (ps_set (i := 2) scFits.nd rfl (.inl rfl) (pe_lst (pa_cons (pe_ix ix_list (pe_dget hu (pv 0) pe_str (fun _ _ => rfl)) (pe_ix ix_tup (pv 1) pe_int (fun _ _ => rfl)) (fun _ _ => rfl)) (pa_cons (pe_ix ix_list (pe_dget hu (pv 0) pe_str (fun _ _ => rfl)) (pe_ix ix_tup (pv 1) pe_int (fun _ _ => rfl)) (fun _ _ => rfl)) pa_nil))))
          (pss_cons (ps_set (i := 3) scFits.nd rfl (.inl rfl) (pe_lst (pa_cons (pe_ix ix_list (pe_dget hu (pv 0) pe_str (fun _ _ => rfl)) (pe_ix ix_tup (pv 1) pe_int (fun _ _ => rfl)) (fun _ _ => rfl)) (pa_cons (pe_ix ix_list (pe_dget hu (pv 0) pe_str (fun _ _ => rfl)) (pe_ix ix_tup (pv 1) pe_int (fun _ _ => rfl)) (fun _ _ => rfl)) pa_nil))))
          (pss_cons (ps_if (pt_cmpR op_eq (pe_ix ix_tup (pv 1) pe_int (fun _ _ => rfl)) pe_str (nomark _)) (pss_one (ps_ret (pe_tup (pa_cons (pe_op op_mul (pe_ix ix_list (pv 2) pe_int (fun _ _ => rfl)) (pe_ix ix_list (pv 2) pe_int (fun _ _ => rfl))) (pa_cons (pe_callB (cr_sum rfl) (by rfl) B.sum PyProof.Rows.boot_sum (pa_cons (pv 3) pa_nil)) pa_nil))))) pss_nil)
          (pss_one (ps_ret (pe_tup (pa_cons (pe_callB (cr_sum rfl) (by rfl) B.sum PyProof.Rows.boot_sum (pa_cons (pv 2) pa_nil)) (pa_cons (pe_callB (cr_max rfl) (by rfl) B.max PyProof.Rows.boot_max (pa_cons (pv 3) pa_nil)) pa_nil)))))))) pss_nil)
      (pss_cons (ps_if (pt_cmpR op_eq (pe_ix ix_tup (pv 1) pe_int (fun _ _ => rfl)) pe_str (nomark _))
          (pss_one (ps_ret (pe_tup (pa_cons (pe_callB (cr_max rfl) (by rfl) B.max PyProof.Rows.boot_max (pa_cons
              (pe_lc (own := [("_law_k", 4)]) (g := gName 4) (tt := tYes) (te := tIxL K (tDGet (tVar 0) (tC (.str "wide"))) (tVar 4)) rfl scFits.nd (pi_tup (pe_ix ix_tup (pv 1) pe_int (fun _ _ => rfl)))
                (blkOk_by (own := [("_law_k", 4)]) (N := nFits) (sc := defScope sFits) (by decide +kernel)) (fun _ _ _ _ _ => pg_name (i := 4) scFits.nd rfl (.inl rfl)) (fun _ _ _ _ _ => pts_nil)
                (fun _ _ _ _ _ => pe_ix ix_list (pe_dget hu (pv 0) pe_str (fun _ _ => rfl)) (pv 4) (fun _ _ => rfl))) pa_nil))
            (pa_cons (pe_callB (cr_max rfl) (by rfl) B.max PyProof.Rows.boot_max (pa_cons
              (pe_lc (own := [("_law_k", 4)]) (g := gName 4) (tt := tYes) (te := tIxL K (tDGet (tVar 0) (tC (.str "deep"))) (tVar 4)) rfl scFits.nd (pi_tup (pe_ix ix_tup (pv 1) pe_int (fun _ _ => rfl)))
                (blkOk_by (own := [("_law_k", 4)]) (N := nFits) (sc := defScope sFits) (by decide +kernel)) (fun _ _ _ _ _ => pg_name (i := 4) scFits.nd rfl (.inl rfl)) (fun _ _ _ _ _ => pts_nil)
                (fun _ _ _ _ _ => pe_ix ix_list (pe_dget hu (pv 0) pe_str (fun _ _ => rfl)) (pv 4) (fun _ _ => rfl))) pa_nil)) pa_nil))))) pss_nil)
      (pss_one (ps_ret (pe_tup (pa_cons pe_int (pa_cons pe_int pa_nil)))))), ?_⟩
    obtain ⟨p, xs, rfl, hp1, hp2⟩ := hR
    refine ⟨.ref p, rfl, p, _, _, _, rfl, rfl, hp1, atI_nat (j := 0) rfl, szl (show 3 ≤ 1000000 by decide), fun T nT => ⟨T, _, rfl, .inr (sqT upd_same), rfl, rfl, _, rfl, ?_⟩⟩
    have sT : Same H (upd H T (.tup w3)) := new_same nT
    show if inV (.str row.w) w3 = true then _ else _
    by_cases h3 : inV (.str row.w) w3 = true
    · rw [if_pos h3]
      have hbin := w3_bin h3
      cases row with
      | bin b x y =>
        cases hp2
        have hI' : x ∈ ss ∧ y ∈ ss := hI
        have hxw : x < st.wide.length := by rw [hS.lw]; exact hlt x hI'.1
        have hyw : y < st.wide.length := by rw [hS.lw]; exact hlt y hI'.2
        have hxd : x < st.deep.length := by rw [hS.ld]; exact hlt x hI'.1
        have hyd : y < st.deep.length := by rw [hS.ld]; exact hlt y hI'.2
        generalize upd H T (.tup w3) = H4 at sT
        have hS4 := hS.same sT
        have hp4 := Same.tup sT hp1
        have a1 := hwd.1 _ (List.getElem_mem hxw)
        have a2 := hwd.1 _ (List.getElem_mem hyw)
        have a3 := hwd.2 _ (List.getElem_mem hxd)
        have a4 := hwd.2 _ (List.getElem_mem hyd)
        refine ⟨.ref st.s, rfl, st.s, .ref st.w, rfl, dgOf hS4.ds (kvW st), .ref p, rfl, p, _, _, _, rfl, rfl, hp4, atI_nat (j := 1) rfl, st.w, _, _, _, rfl, rfl, sqL hS4.wide, at_iv hxw, ?_⟩
        refine ⟨.ref st.s, rfl, st.s, .ref st.w, rfl, dgOf hS4.ds (kvW st), .ref p, rfl, p, _, _, _, rfl, rfl, hp4, atI_nat (j := 2) rfl, st.w, _, _, _, rfl, rfl, sqL hS4.wide, at_iv hyw, szl (show 2 ≤ 1000000 by decide), fun W nW => ?_⟩
        have sW : Same H4 (upd H4 W (.lst [iv st.wide[x], iv st.wide[y]])) := new_same nW
        have eW : upd H4 W (.lst [iv st.wide[x], iv st.wide[y]]) W = some (.lst [iv st.wide[x], iv st.wide[y]]) := upd_same
        generalize upd H4 W (.lst [iv st.wide[x], iv st.wide[y]]) = H5 at sW eW
        have hS5 := hS4.same sW
        have hp5 := Same.tup sW hp4
        refine ⟨.ref st.s, rfl, st.s, .ref st.d, rfl, dgOf hS5.ds (kvD st), .ref p, rfl, p, _, _, _, rfl, rfl, hp5, atI_nat (j := 1) rfl, st.d, _, _, _, rfl, rfl, sqL hS5.deep, at_iv hxd, ?_⟩
        refine ⟨.ref st.s, rfl, st.s, .ref st.d, rfl, dgOf hS5.ds (kvD st), .ref p, rfl, p, _, _, _, rfl, rfl, hp5, atI_nat (j := 2) rfl, st.d, _, _, _, rfl, rfl, sqL hS5.deep, at_iv hyd, szl (show 2 ≤ 1000000 by decide), fun U nU => ?_⟩
        have sU : Same H5 (upd H5 U (.lst [iv st.deep[x], iv st.deep[y]])) := new_same nU
        have eU : upd H5 U (.lst [iv st.deep[x], iv st.deep[y]]) U = some (.lst [iv st.deep[x], iv st.deep[y]]) := upd_same
        generalize upd H5 U (.lst [iv st.deep[x], iv st.deep[y]]) = H6 at sU eU
        have hp6 := Same.tup sU hp5
        have eW6 := sU _ _ eW
        have s6 : Same H H6 := (sT.trans sW).trans sU
        generalize st.wide[x] = wx at a1 eW6
        generalize st.wide[y] = wy at a2 eW6
        generalize st.deep[x] = dx at a3 eU
        generalize st.deep[y] = dy at a4 eU
        have nb : (Rw.bin b x y).isBin = false → ∀ a b : Nat, a ≤ 24 ∧ b ≤ 8 := fun z => by cases z
        refine ⟨.ref p, rfl, p, _, _, _, rfl, rfl, hp6, atI_nat (j := 0) rfl, rfl, _, rfl, ?_⟩
        show if decide (V.str b.w = V.str "times") = true then _ else _
        generalize decide (V.str b.w = V.str "times") = bb
        cases bb with
        | true =>
          refine ⟨.ref W, rfl, W, _, _, _, rfl, rfl, sqL eW6, atI_nat (j := 0) rfl, .ref W, rfl, W, _, _, _, rfl, rfl, sqL eW6, atI_nat (j := 1) rfl, _, _, rfl, rfl, .inl ⟨by omega, by omega⟩, ?_⟩
          refine ⟨.ref U, rfl, U, [(dx : Int), (dy : Int)], rfl, sqL eU, szl (show 2 ≤ 1000000 by decide), fun p2 np2 => ?_⟩
          have e : ([(dx : Int), (dy : Int)]).sum = ((dx + dy : Nat) : Int) := by simp
          have e2 : (wx : Int) * (wy : Int) = ((wx * wy : Nat) : Int) := by simp
          exact q p2 _ (wx * wy) (dx + dy) (s6.trans (new_same np2)) (by rw [upd_same, e]; show some (HO.tup [V.int ((wx : Int) * (wy : Int)), _]) = _; rw [e2]; rfl) (Nat.mul_pos a1.1 a2.1) (by omega) fun z => nb z _ _
        | false =>
          refine ⟨.ref W, rfl, W, [(wx : Int), (wy : Int)], rfl, sqL eW6, ?_⟩
          have e : ([(wx : Int), (wy : Int)]).sum = ((wx + wy : Nat) : Int) := by simp
          refine ⟨.ref U, rfl, U, [(dx : Int), (dy : Int)], rfl, sqL eU, show 0 < 2 by decide, fun m hm _ => ?_⟩
          have hm2 : m = (dx : Int) ∨ m = (dy : Int) := by simpa using hm
          refine ⟨szl (show 2 ≤ 1000000 by decide), fun p2 np2 => ?_⟩
          rcases hm2 with rfl | rfl
          · exact q p2 _ (wx + wy) dx (s6.trans (new_same np2)) (by rw [upd_same, e]; rfl) (by omega) a3.1 fun z => nb z _ _
          · exact q p2 _ (wx + wy) dy (s6.trans (new_same np2)) (by rw [upd_same, e]; rfl) (by omega) a4.1 fun z => nb z _ _
      | _ => cases hbin
    · rw [if_neg h3]
      generalize upd H T (.tup w3) = H4 at sT
      have hp4 := Same.tup sT hp1
      have hS4 := hS.same sT
      refine ⟨.ref p, rfl, p, _, _, _, rfl, rfl, hp4, atI_nat (j := 0) rfl, rfl, _, rfl, ?_⟩
      show if decide (V.str row.w = V.str "pick") = true then _ else _
      by_cases h4 : decide (V.str row.w = V.str "pick") = true
      · rw [if_pos h4]
        obtain ⟨x, ps, rfl⟩ := pick_is h4
        obtain ⟨qa, rfl, hqa⟩ := hp2
        obtain ⟨hxs, hps, hpl1, hpl2⟩ := hI
        have hpw : ∀ y ∈ ps, y < st.wide.length := fun y hy => by rw [hS.lw]; exact hlt y (hps y hy)
        have hpd : ∀ y ∈ ps, y < st.deep.length := fun y hy => by rw [hS.ld]; exact hlt y (hps y hy)
        unfold tRet tTup tCons tCB
        refine pick_lc (bd := 24) hp4 (Same.tup sT hqa) hS4.ds (kvW st) hS4.wide hpw hwd.1 hpl2 fun L es H5 s5 eL hel hes => ?_
        refine ⟨L, es.map Int.ofNat, rfl, by rw [ofn_iv]; exact sqL eL, by rw [List.length_map]; omega, fun m hm _ => ?_⟩
        obtain ⟨m1, hm1, rfl⟩ := nat_of hm
        have hS5 := hS4.same s5
        refine pick_lc (bd := 8) (Same.tup s5 hp4) (Same.tup s5 (Same.tup sT hqa)) hS5.ds (kvD st) hS5.deep hpd hwd.2 hpl2 fun L2 es2 H6 s6 eL2 hel2 hes2 => ?_
        refine ⟨L2, es2.map Int.ofNat, rfl, by rw [ofn_iv]; exact sqL eL2, by rw [List.length_map]; omega, fun m hm _ => ?_⟩
        obtain ⟨m2, hm2, rfl⟩ := nat_of hm
        exact ⟨szl (show 2 ≤ 1000000 by decide), fun p2 np2 => q p2 _ m1 m2 (((sT.trans s5).trans s6).trans (new_same np2)) upd_same (hes m1 hm1).1 (hes2 m2 hm2).1 fun _ => ⟨(hes m1 hm1).2, (hes2 m2 hm2).2⟩⟩
      · rw [if_neg h4]
        exact ⟨szl (show 2 ≤ 1000000 by decide), fun p2 np2 => q p2 _ 1 1 (sT.trans (new_same np2)) upd_same (Nat.le_refl _) (Nat.le_refl _) fun _ => ⟨by decide, by decide⟩⟩
end
abbrev nAdd : List Str := ["_law_tape_here", "_law_state", "_law_block", "_law_some", "_law_row", "_law_wide", "_law_deep"]
theorem scAdd : FnScope nAdd ["_law_tape_here", "_law_state", "_law_block"] (defScope sAdd) := ⟨rfl, rfl, rfl, by decide +kernel, rfl, by decide +kernel, by decide +kernel⟩
section
variable {P : Program} {w : World} {K : PySem.W.Frag} {mg : Str → Option Value} {base : Heap}
theorem ok_add {f fS fR fP fF : Addr} {fd fdS fdR fdP fdF : FuncData} {k : Nat} (D : Df K mg "_law_add" sAdd ["_law_tape_here", "_law_state", "_law_block"] f fd) (B : Bi mg)
    (DS : Df K mg "_law_standing" sStanding ["_law_state", "_law_block"] fS fdS) (GS : FnOk P w K mg base CX0 k fS fdS ["_law_state", "_law_block"] (spStanding K))
    (DR : Df K mg "_law_drawn_row" sDrawn ["_law_tape_here", "_law_state", "_law_some"] fR fdR) (GR : FnOk P w K mg base CX0 k fR fdR ["_law_tape_here", "_law_state", "_law_some"] (spDrawn K))
    (DP : Df K mg "_law_put" sPut ["_law_state", "_law_block", "_law_row", "_law_wide", "_law_deep"] fP fdP) (GP : FnOk P w K mg base CX0 k fP fdP ["_law_state", "_law_block", "_law_row", "_law_wide", "_law_deep"] (spPut K))
    (DF : Df K mg "_law_fits" sFits ["_law_state", "_law_row"] fF fdF) (GF : FnOk P w K mg base CX0 k fF fdF ["_law_state", "_law_row"] (spFits K)) :
    FnOk P w K mg base CX0 (k + 1) f fd ["_law_tape_here", "_law_state", "_law_block"] (spAdd K) := by
  refine D.F.ok scAdd (fun vs H Q E h => ?_) (fun cdv A outer s H vs Q E hr h => ?_)
  · obtain ⟨st, c, blk, rfl, _⟩ := h
    rfl
  · obtain ⟨st, c, blk, rfl, hS, hwd, hb, hc, hl, q⟩ := h
    have hu := hu_of hr
    refine ⟨_, pss_cons (ps_set (i := 3) scAdd.nd rfl (.inl rfl) (pe_call GS hr (by rfl) DS.g DS.F.kp DS.b .nil pass0 (pa_cons (pv 1) (pa_cons (pv 2) pa_nil))))
      (Evl.pss_cut (ps_set (i := 4) scAdd.nd rfl (.inl rfl) (pe_ifExp (pt_cmpR (op_eqD hr.units) (pv 3) (pe_lst pa_nil) (nomark _)) (pe_tup (pa_cons pe_str (pa_cons pe_int pa_nil))) (pe_call GR hr (by rfl) DR.g DR.F.kp DR.b .nil pass0 (pa_cons (pv 0) (pa_cons (pv 1) (pa_cons (pv 3) pa_nil))))))
      (pss_cons (ps_asg (pe_call GF hr (by rfl) DF.g DF.F.kp DF.b .nil pass0 (pa_cons (pv 1) (pa_cons (pv 4) pa_nil))) (pg_tup rfl (pgs_cons (pg_name (i := 5) scAdd.nd rfl (.inl rfl)) (pgs_cons (pg_name (i := 6) scAdd.nd rfl (.inl rfl)) pgs_nil))))
      (Evl.pss_cut (ps_if (pw_or (pt_cmpR op_gt (pv 5) (pe_ix ix_tup (pe_dget hu (pv 1) pe_str (fun _ _ => rfl)) pe_int (fun _ _ => rfl)) (nomark _)) (pw_or1 (pt_cmpR op_gt (pv 6) (pe_ix ix_tup (pe_dget hu (pv 1) pe_str (fun _ _ => rfl)) pe_int (fun _ _ => rfl)) (nomark _)))).pt
          (pss_one (ps_par3 (i := 4) (j := 5) (l := 6) (by rfl) scAdd.nd rfl rfl rfl (by decide) (by decide) (by decide) rfl rfl rfl (pa_cons (pe_tup (pa_cons pe_str (pa_cons (pe_ix ix_tup (pv 4) pe_int (fun _ _ => rfl)) (pa_cons (pe_ix ix_tup (pv 4) pe_int (fun _ _ => rfl)) pa_nil)))) (pa_cons pe_int (pa_cons pe_int pa_nil))) (by rfl))) pss_nil)
      (pss_one (ps_expr (pe_call GP hr (by rfl) DP.g DP.F.kp DP.b .nil pass0 (pa_cons (pv 1) (pa_cons (pv 2) (pa_cons (pv 4) (pa_cons (pv 5) (pa_cons (pv 6) pa_nil))))))))))), ?_⟩
    have hlt : ∀ y ∈ standL st blk, y < st.rows.length := fun y h => standL_lt h
    have hsl := standL_len st blk
    refine ⟨.ref st.s, rfl, iv blk, rfl, st, c, blk, rfl, hS, hb, by omega, fun sa H1 nsa s1 esa => ?_⟩
    generalize standL st blk = ss at q esa hlt hsl
    have msa := hS.fresh nsa
    refine ⟨fun σ H2 => ∃ (v : V) (row : Rw), σ = [some (.ref st.t), some (.ref st.s), some (iv blk), some (.ref sa), some v, none, none] ∧ But st.t H H2 ∧ Tape H2 st.t (c + 20) ∧ RowAt K (frz st.M H2) v row ∧ RwIn ss row, ?_, fun σ H2 hM => ?_⟩
    · refine ⟨.ref sa, rfl, Nat.zero_le _, fun e ne => ?_⟩
      have sE : Same H1 (upd H1 e (.lst [])) := new_same ne
      refine ⟨_, _, .lst (sqL (sE _ _ esa)) (dp_nats ss), .lst (sqL upd_same) .nil, sh_nats _, sh_nil, _, rfl, ?_⟩
      show if PyData.eqv (.list _) (.list []) = true then _ else _
      rw [eqv_nil]
      generalize upd H1 e (.lst []) = H2 at sE
      have s2 : Same H H2 := s1.trans sE
      have hS2 := hS.same s2
      have esa2 := sE _ _ esa
      by_cases hss : ss = []
      · have e0 : (ss.map nd).isEmpty = true := by rw [hss]; rfl
        rw [e0]
        exact ⟨szl (show 2 ≤ 1000000 by decide), fun p np => ⟨_, .take 0, rfl, Same.but (s2.trans (new_same np)), (hS2.tape.upd np).mono (by omega), ⟨p, _, rfl, sqT (frz_at upd_same (hS2.fresh np)), rfl⟩, show 0 ≤ 5 by decide⟩⟩
      · have e0 : (ss.map nd).isEmpty = false := by
          cases ss with
          | nil => exact absurd rfl hss
          | cons _ _ => rfl
        rw [e0]
        refine ⟨.ref st.t, rfl, .ref st.s, rfl, .ref sa, rfl, st, c, sa, ss, rfl, hS2, by omega, by omega, sqL (frz_at esa2 msa), hss, by omega, fun H3 v row b3 T3 hR hI => ?_⟩
        exact ⟨v, row, rfl, (Same.but s2).trans b3, T3, hR, hI⟩
    · obtain ⟨v, row, rfl, b2, T2, hR, hI⟩ := hM
      have hS2 := hS.bt b2 T2
      refine ⟨.ref st.s, rfl, v, rfl, st, c + 20, v, row, ss, rfl, hS2, hwd, hR.same (frz_same _ _), hI, hlt, fun p1 H3 wi de s3 ep1 hwi hde hnb => ?_⟩
      refine ⟨p1, _, rfl, sqT ep1, rfl, _, _, rfl, _, _, rfl, rfl, ?_⟩
      have hS3 := hS2.same s3
      have hR3 : RowAt K (frz st.M H3) v row := hR.same (Bm.frz (Bm.of_same s3))
      have hRo : RowAt K H3 v row := hR3.same (frz_same _ _)
      have hcp : SqT K H3 st.C [.int 24, .int 8] := Same.tup (frz_same _ _) hS3.caps
      obtain ⟨p, xs, rfl, hp1, hp2⟩ := hRo
      refine ⟨fun σ H6 => ∃ (v : V) (row : Rw) (wi de : Nat), σ = [some (.ref st.t), some (.ref st.s), some (iv blk), some (.ref sa), some v, some (iv wi), some (iv de)] ∧ Same H3 H6 ∧ RowAt K (frz st.M H6) v row ∧ RwIn ss row ∧ 1 ≤ wi ∧ wi ≤ 24 ∧ 1 ≤ de ∧ de ≤ 8, ?_, fun σ H6 hM => ?_⟩
      · have big : (¬ (wi ≤ 24 ∧ de ≤ 8)) → tPar3 4 5 6 (tCons (tTup (tCons (tC (.str "below")) (tCons (tIxT K (tVar 4) (tC (.int 1))) (tCons (tIxT K (tVar 4) (tC (.int 2))) tNil)))) (tCons (tC (.int 1)) (tCons (tC (.int 1)) tNil)))
            { nx := fun σ H6 => ∃ (v : V) (row : Rw) (wi de : Nat), σ = [some (.ref st.t), some (.ref st.s), some (iv blk), some (.ref sa), some v, some (iv wi), some (iv de)] ∧ Same H3 H6 ∧ RowAt K (frz st.M H6) v row ∧ RwIn ss row ∧ 1 ≤ wi ∧ wi ≤ 24 ∧ 1 ≤ de ∧ de ≤ 8, rt := Q }
            [some (.ref st.t), some (.ref st.s), some (iv blk), some (.ref sa), some (.ref p), some (iv wi), some (iv de)] H3 := fun hbig => by
          have hbin : row.isBin = true := by
            cases hb2 : row.isBin with
            | true => rfl
            | false => exact absurd (hnb hb2) hbig
          cases row with
          | bin b x y =>
            cases hp2
            refine ⟨.ref p, rfl, p, _, _, _, rfl, rfl, hp1, atI_nat (j := 1) rfl, .ref p, rfl, p, _, _, _, rfl, rfl, hp1, atI_nat (j := 2) rfl, szl (show 3 ≤ 1000000 by decide), fun T nT => ?_⟩
            have sT := new_same (o := .tup [.str "below", iv x, iv y]) nT
            exact ⟨_, _, _, rfl, .ref T, .bin .below x y, 1, 1, rfl, sT, ⟨T, _, rfl, sqT (frz_at upd_same (hS3.fresh nT)), rfl⟩, hI, Nat.le_refl _, by decide, Nat.le_refl _, by decide⟩
          | _ => cases hbin
        refine ⟨_, rfl, .ref st.s, rfl, st.s, .ref st.C, rfl, dgOf hS3.ds (kvC st), st.C, _, _, _, rfl, rfl, hcp, atI_nat (j := 0) rfl, _, _, rfl, rfl, _, rfl, ite2 (fun e => ?_) (fun e => ?_)⟩
        · have h24 : (24 : Int) < (wi : Int) := of_decide_eq_true e
          exact big (by omega)
        · have h24 : ¬ (24 : Int) < (wi : Int) := fun z => e (decide_eq_true z)
          refine ⟨_, rfl, .ref st.s, rfl, st.s, .ref st.C, rfl, dgOf hS3.ds (kvC st), st.C, _, _, _, rfl, rfl, hcp, atI_nat (j := 1) rfl, _, _, rfl, rfl, _, rfl, ite2 (fun e => ?_) (fun e => ?_)⟩
          · have h8 : (8 : Int) < (de : Int) := of_decide_eq_true e
            exact big (by omega)
          · have h8 : ¬ (8 : Int) < (de : Int) := fun z => e (decide_eq_true z)
            exact ⟨_, row, wi, de, rfl, fun _ _ z => z, hR3, hI, hwi, by omega, hde, by omega⟩
      · obtain ⟨v, row', wi', de', rfl, s6, hR6, hI6, k1, k2, k3, k4⟩ := hM
        have hS6 := hS3.same s6
        refine ⟨.ref st.s, rfl, _, rfl, _, rfl, _, rfl, _, rfl, st, c + 20, blk, v, row', wi', de', rfl, hS6, by omega, hR6, fun H7 bm hS7 => ?_⟩
        have b6 : But st.t H H6 := b2.trans (Same.but (s3.trans s6))
        exact q H7 row' wi' de' ((Bm.of_but b6 (tM st)).trans bm) hS7 hI6 k1 k2 k3 k4
end
end Gn
set_option Elab.async false
set_option linter.all false
set_option maxRecDepth 100000
set_option maxHeartbeats 4000000
namespace Gn
open PySem PySem.Spec PyProof.Rows L2
/-! ### meet -/
structure Bs (st : Sta) : Prop where
  r0 : st.rows[0]? = some (.take 0)
  b0 : st.blocks[0]? = some 0
  ab : ∀ xs ∈ st.above, 0 ∈ xs
  w0 : st.wide[0]? = some 1
  d0 : st.deep[0]? = some 1
theorem Bs.pos {st : Sta} (h : Bs st) : 0 < st.rows.length := (List.getElem?_eq_some_iff.mp h.r0).1
theorem Bs.st0 {st : Sta} (h : Bs st) {l : Nat} (hl : l < st.above.length) : 0 ∈ standL st l := by
  refine List.mem_filter.mpr ⟨List.mem_range.mpr h.pos, ?_⟩
  rw [gd h.r0, gd h.b0]
  have h1 : 0 ∈ st.above.getD l [] := h.ab _ (List.mem_of_getElem? (gdl (d := []) hl))
  rw [decide_eq_true h1]
  rfl
/-- each part stands at its lead's end -/
def PartsIn (st : Sta) (ld ps : List Nat) : Prop := ∀ (j p l : Nat), ps[j]? = some p → ld[j]? = some l → p ∈ standL st l
theorem PartsIn.nil {st : Sta} {ld : List Nat} : PartsIn st ld [] := fun j p l h => by cases h
theorem PartsIn.snoc {st : Sta} {ld ps : List Nat} {i l z : Nat} (h : PartsIn st ld ps) (hl : ps.length = i) (e : ld[i]? = some l) (hz : z ∈ standL st l) : PartsIn st ld (ps ++ [z]) := fun j p l' h1 h2 => by
  by_cases hj : j < ps.length
  · rw [List.getElem?_append_left hj] at h1
    exact h j p l' h1 h2
  · have hj2 : j = ps.length := by
      have := (List.getElem?_eq_some_iff.mp h1).1
      rw [List.length_append, List.length_singleton] at this
      omega
    subst hj2
    rw [List.getElem?_append_right (Nat.le_refl _), Nat.sub_self] at h1
    rw [hl, e] at h2
    cases h1
    cases h2
    exact hz
theorem PartsIn.set {st : Sta} {ld ps : List Nat} {i l z : Nat} (h : PartsIn st ld ps) (e : ld[i]? = some l) (hz : z ∈ standL st l) : PartsIn st ld (ps.set i z) := fun j p l' h1 h2 => by
  by_cases hj : i = j
  · subst hj
    have hl : i < ps.length := by
      have := (List.getElem?_eq_some_iff.mp h1).1
      rwa [List.length_set] at this
    rw [List.getElem?_set_self hl] at h1
    rw [e] at h2
    cases h1
    cases h2
    exact hz
  · rw [List.getElem?_set_ne hj] at h1
    exact h j p l' h1 h2
theorem PartsIn.cast {st st' : Sta} {ld ps : List Nat} (h : PartsIn st ld ps) (e : ∀ l y, y ∈ standL st l → y ∈ standL st' l) : PartsIn st' ld ps := fun j p l h1 h2 => e l p (h j p l h1 h2)
def spMeet (K : PySem.W.Frag) : Sp := fun vs H Q _ => ∃ (st : Sta) (c blk : Nat) (ld : List Nat), vs = [.ref st.t, .ref st.s, iv blk] ∧ StaOk K H st c ∧ WD st ∧ Bs st ∧ st.leads[blk]? = some ld ∧ 1 ≤ ld.length ∧ ld.length ≤ 12 ∧ (∀ l ∈ ld, l < st.above.length) ∧ c + 20 ≤ 100000000 ∧ st.rows.length ≤ 900 ∧
  ∀ (H' : Hp) (ps : List Nat) (wi de : Nat), Bm st.M H H' → StaOk K H' (st.put blk (.meet ps) wi de) (c + 20) → ps.length = ld.length → (∀ y ∈ ps, y < st.rows.length) → PartsIn st ld ps → 1 ≤ wi → wi ≤ 24 → 1 ≤ de → de ≤ 8 → Q .non H'
abbrev nMeet : List Str := ["_law_tape_here", "_law_state", "_law_block", "_law_leads_here", "_law_parts", "_law_lead", "_law_some", "_law_part"]
theorem scMeet : FnScope nMeet ["_law_tape_here", "_law_state", "_law_block"] (defScope sMeet) := ⟨rfl, rfl, rfl, by decide +kernel, rfl, by decide +kernel, by decide +kernel⟩
abbrev tStand (K : PySem.W.Frag) (a b : TE) : TE := tCall (spStanding K) [] E0 (tCons a (tCons b tNil))
section
variable {P : Program} {w : World} {K : PySem.W.Frag} {mg : Str → Option Value} {base : Heap}
theorem ok_meet {f fD fS fP : Addr} {fd fdD fdS fdP : FuncData} {k : Nat} (D : Df K mg "_law_meet" sMeet ["_law_tape_here", "_law_state", "_law_block"] f fd) (B : Bi mg)
    (DD : Df K mg "_law_draw" sDraw ["_law_tape_here", "_law_many"] fD fdD) (GD : FnOk P w K mg base CX0 k fD fdD ["_law_tape_here", "_law_many"] spDraw)
    (DS : Df K mg "_law_standing" sStanding ["_law_state", "_law_block"] fS fdS) (GS : FnOk P w K mg base CX0 k fS fdS ["_law_state", "_law_block"] (spStanding K))
    (DP : Df K mg "_law_put" sPut ["_law_state", "_law_block", "_law_row", "_law_wide", "_law_deep"] fP fdP) (GP : FnOk P w K mg base CX0 k fP fdP ["_law_state", "_law_block", "_law_row", "_law_wide", "_law_deep"] (spPut K)) :
    FnOk P w K mg base CX0 (k + 1) f fd ["_law_tape_here", "_law_state", "_law_block"] (spMeet K) := by
  refine D.F.ok scMeet (fun vs H Q E h => ?_) (fun cdv A outer s H vs Q E hr h => ?_)
  · obtain ⟨st, c, blk, ld, rfl, _⟩ := h
    rfl
  · obtain ⟨st, c, blk, ld, rfl, hS, hwd, hB, hld, hl1, hl2, hla, hc, hl, q⟩ := h
    have hu := hu_of hr
    refine ⟨_, pss_cons (ps_asg (pe_tup (pa_cons (pe_ix ix_list (pe_dget hu (pv 1) pe_str (fun _ _ => rfl)) (pv 2) (fun _ _ => rfl)) (pa_cons (pe_lst pa_nil) pa_nil))) (pg_tup rfl (pgs_cons (pg_name (i := 3) scMeet.nd rfl (.inl rfl)) (pgs_cons (pg_name (i := 4) scMeet.nd rfl (.inr rfl)) pgs_nil))))
      (pss_cons (ps_for PassesOwn.never rfl (pi_list (pv 3)) (pg_name (i := 5) scMeet.nd rfl (.inl rfl))
        (Evl.pss_cut (ps_set (i := 6) scMeet.nd rfl (.inl rfl) (pe_ifExp (pt_cmpR op_lt (pv 5) (pv 2) (nomark _)) (pe_call GS hr (by rfl) DS.g DS.F.kp DS.b .nil pass0 (pa_cons (pv 1) (pa_cons (pv 5) pa_nil))) (pe_lst (pa_cons pe_int pa_nil))))
        (pss_one (ps_expr (pe_bm PySem.F.plainAttrs_list PySem.F.slot_list_append PySem.F.type_list_append mt_append (pv 4) (pa_cons (pe_ix ix_list (pv 6) (pe_call GD hr (by rfl) DD.g DD.F.kp DD.b .nil pass0 (pa_cons (pv 0) (pa_cons (pe_callB call_len_seq (by rfl) B.len PySem.boot_len (pa_cons (pv 6) pa_nil)) pa_nil))) (fun _ _ => rfl)) pa_nil))))))
      (Evl.pss_cut (ps_if (pt_cmpR op_eq (pe_call GD hr (by rfl) DD.g DD.F.kp DD.b .nil pass0 (pa_cons (pv 0) (pa_cons pe_int pa_nil))) pe_int (nomark _))
        (pss_one (ps_set (i := 4) scMeet.nd rfl (.inr rfl) (pe_lc (own := [("_law_lead", 5), ("_law_part", 7)]) (g := gTup K 2 (gCons (gName 5) (gCons (gName 7) gNil))) (tt := tYes)
          (te := tIf (tIn K (tIxL K (tVar 4) (tC (.int 0))) (tStand K (tVar 1) (tVar 5))) (tIxL K (tVar 4) (tC (.int 0))) (tVar 7)) rfl scMeet.nd
          (pi_zip (by rfl) B.zip (pa_cons (pv 3) (pa_cons (pv 4) pa_nil))) (blkOk_by (own := [("_law_lead", 5), ("_law_part", 7)]) (N := nMeet) (sc := defScope sMeet) (by decide +kernel))
          (fun _ _ _ _ _ => pg_tup rfl (pgs_cons (pg_name (i := 5) scMeet.nd rfl (.inl rfl)) (pgs_cons (pg_name (i := 7) scMeet.nd rfl (.inl rfl)) pgs_nil))) (fun _ _ _ _ _ => pts_nil)
          (fun _ _ _ _ _ => pe_ifExp (pt_cmpR op_in_seq (pe_ix ix_list (pv 4) pe_int (fun _ _ => rfl)) (pe_call GS hr (by rfl) DS.g DS.F.kp DS.b .nil pass0 (pa_cons (pv 1) (pa_cons (pv 5) pa_nil))) rfl) (pe_ix ix_list (pv 4) pe_int (fun _ _ => rfl)) (pv 7))))) pss_nil)
      (pss_one (ps_expr (pe_call GP hr (by rfl) DP.g DP.F.kp DP.b .nil pass0 (pa_cons (pv 1) (pa_cons (pv 2) (pa_cons (pe_tup (pa_cons pe_str (pa_cons (pe_callTy call_tuple_of (by rfl) B.tuple PyProof.Rows.boot_tuple (pa_cons (pv 4) pa_nil)) pa_nil)))
        (pa_cons (pe_ix ix_list (pe_dget hu (pv 1) pe_str (fun _ _ => rfl)) (pe_ix ix_list (pv 4) pe_int (fun _ _ => rfl)) (fun _ _ => rfl)) (pa_cons (pe_ix ix_list (pe_dget hu (pv 1) pe_str (fun _ _ => rfl)) (pe_ix ix_list (pv 4) pe_int (fun _ _ => rfl)) (fun _ _ => rfl)) pa_nil)))))))))), ?_⟩
    obtain ⟨zs, la, u1, u2, u3, u4⟩ := hS.leads.at hld
    have u1o := (frz_same _ _).seq u1
    refine ⟨.ref st.s, rfl, st.s, .ref st.L, rfl, dgOf hS.ds (kvL st), _, rfl, st.L, zs, _, .ref la, rfl, rfl, u1o, u3, Nat.zero_le _, fun pa npa => ⟨szl (show 2 ≤ 1000000 by decide), fun p0 np0 => ⟨p0, _, rfl, sqT upd_same, rfl, _, _, rfl, _, _, rfl, rfl, ?_⟩⟩⟩
    have s0 : Same H (upd (upd H pa (.lst [])) p0 (.tup [.ref la, .ref pa])) := (new_same npa).trans (new_same np0)
    have npa0 : pa ≠ p0 := ne_of_none upd_same np0
    have mpa := hS.fresh npa
    have npt : pa ≠ st.t := fun e => mpa (e ▸ tM st)
    have sqd : ∀ {H1 : Hp}, But st.t H H1 → SqL K H1 la (ld.map iv) := fun b => sq_out (sq_but u4 b)
    refine ⟨.ref la, rfl, la, rfl, ⟨_, s0.seq (sq_out u4)⟩, ?_⟩
    refine for_list (K := K) (a := la) (xs := ld.map iv) (fun i σ H1 => ∃ (ps : List Nat) (y5 y6 : Option V), σ = [some (.ref st.t), some (.ref st.s), some (iv blk), some (.ref la), some (.ref pa), y5, y6, none] ∧ But st.t H H1 ∧ Tape H1 st.t (c + i) ∧ H1 pa = some (.lst (ps.map iv)) ∧ ps.length = i ∧ (∀ y ∈ ps, y < st.rows.length) ∧ PartsIn st ld ps)
      ⟨[], none, none, rfl, Same.but s0, hS.tape.same s0, by rw [upd_ne npa0]; exact upd_same, rfl, (fun y h => by cases h), PartsIn.nil⟩ (fun i σ H1 _ hP => ?_) (fun i x σ H1 hx hP => ?_) (fun σ H1 hP => ?_)
    · obtain ⟨_, _, _, _, b, _⟩ := hP
      exact sqd b
    · obtain ⟨ps, y5, y6, rfl, b1, T1, epa, hpl, hps, hpi⟩ := hP
      rw [List.getElem?_map] at hx
      obtain ⟨l, hl0, rfl⟩ := Option.map_eq_some_iff.mp hx
      have hlm := List.mem_of_getElem? hl0
      have hil := (List.getElem?_eq_some_iff.mp hl0).1
      have hS1 := hS.bt b1 T1
      refine ⟨fun σ H2 => ∃ (sa : Addr) (ss : List Nat), σ = [some (.ref st.t), some (.ref st.s), some (iv blk), some (.ref la), some (.ref pa), some (iv l), some (.ref sa), none] ∧ Same H1 H2 ∧ H2 sa = some (.lst (ss.map iv)) ∧ H1 sa = none ∧ 0 < ss.length ∧ ss.length ≤ 1000 ∧ (∀ y ∈ ss, y < st.rows.length) ∧ ∀ y ∈ ss, y ∈ standL st l, ?_, fun σ H2 hM => ?_⟩
      · refine ⟨_, rfl, _, rfl, _, _, rfl, rfl, _, rfl, ite2 (fun e => ?_) (fun e => ?_)⟩
        · refine ⟨.ref st.s, rfl, iv l, rfl, st, c + i, l, rfl, hS1, hla l hlm, by omega, fun sa H2 nsa s2 esa => ⟨sa, _, rfl, s2, esa, nsa, List.length_pos_of_mem (hB.st0 (hla l hlm)), Nat.le_trans (standL_len _ _) (by omega), (fun y h => standL_lt h), fun y h => h⟩⟩
        · exact ⟨szl (show 1 ≤ 1000000 by decide), fun sa nsa => ⟨sa, [0], rfl, new_same nsa, upd_same, nsa, Nat.one_pos, by decide, (fun y h => by rw [List.mem_singleton.mp h]; exact hB.pos), fun y h => by rw [List.mem_singleton.mp h]; exact hB.st0 (hla l hlm)⟩⟩
      · obtain ⟨sa, ss, rfl, s2, esa, nsa, hs0, hs1, hss, hsi⟩ := hM
        have T2 := T1.same s2
        have epa2 := s2 _ _ epa
        have nst : sa ≠ st.t := T1.ne nsa
        have hlm2 : ((ss.map iv).length : Int) = (ss.length : Int) := by rw [List.length_map]
        refine ⟨.ref pa, rfl, .inl ⟨rfl, _, sqL epa2⟩, .ref sa, rfl, .ref st.t, rfl, .ref sa, rfl, sa, _, rfl, .inl (sqL esa), st.t, _, c + i, rfl, T2, by omega, by omega, by omega, fun r H3 h3 b3 T3 => ?_⟩
        have hr3 : r < ss.length := by omega
        have epa3 := b3 pa _ npt epa2
        refine ⟨sa, _, _, _, rfl, rfl, sqL (b3 sa _ nst esa), at_iv hr3, pa, _, _, rfl, rfl, epa3, by rw [List.length_map]; exact szt (by omega), ?_⟩
        refine ⟨ps ++ [ss[r]], _, _, rfl, fun a o n e => ?_, ?_, ?_, ?_, ?_, hpi.snoc hpl hl0 (hsi _ (List.getElem_mem hr3))⟩
        · rw [upd_ne (ne_of_none e npa)]
          exact b3 a o n (s2 _ _ (b1 a o n e))
        · obtain ⟨a1, a2, a3, a4, a5⟩ := T3
          exact ⟨a1, a2, a3, by rw [upd_ne npt.symm]; exact a4, a5⟩
        · rw [upd_same, List.map_append]; rfl
        · rw [List.length_append, List.length_singleton, hpl]
        · intro y hy
          rcases List.mem_append.mp hy with h | h
          · exact hps y h
          · rw [List.mem_singleton.mp h]; exact hss _ (List.getElem_mem hr3)
    · obtain ⟨ps, y5, y6, rfl, b1, T1, epa, hpl, hps, hpi⟩ := hP
      rw [List.length_map] at hpl T1
      refine ⟨fun σ H2 => ∃ (pb : Addr) (ms : List Nat) (y5 y6 y7 : Option V), σ = [some (.ref st.t), some (.ref st.s), some (iv blk), some (.ref la), some (.ref pb), y5, y6, y7] ∧ But st.t H H2 ∧ Tape H2 st.t (c + 13) ∧ H2 pb = some (.lst (ms.map iv)) ∧ ms.length = ld.length ∧ (∀ y ∈ ms, y < st.rows.length) ∧ PartsIn st ld ms, ?_, fun σ H2 hM => ?_⟩
      · refine ⟨.ref st.t, rfl, st.t, 3, c + ld.length, rfl, T1, by omega, by decide, by decide, fun r H2 h2 b2 T2 => ⟨rfl, _, rfl, ?_⟩⟩
        have b12 := b1.trans b2
        have epa2 := b2 pa _ npt epa
        have T2' := T2.mono (show c + ld.length + 1 ≤ c + 13 by omega)
        show if decide (V.int (r : Int) = V.int 0) = true then _ else _
        generalize decide (V.int (r : Int) = V.int 0) = bb
        cases bb with
        | false => exact ⟨pa, ps, _, _, _, rfl, b12, T2', epa2, hpl, hps, hpi⟩
        | true =>
          have hS2 := hS.bt b12 T2
          refine ⟨.ref la, rfl, .ref pa, rfl, la, pa, ld.map iv, ps.map iv, rfl, sqd b12, sqL epa2, fun L nL => ?_⟩
          have h0 : 0 < ps.length := by omega
          refine lc_it (walk_zip (xs := ld.map iv) (ys := ps.map iv) (n := ld.length) (by rw [List.length_map, List.length_map, hpl, Nat.min_self])) (fun i H3 => Same H2 H3 ∧ ∃ ms : List Nat, H3 L = some (.lst (ms.map iv)) ∧ ms.length = i ∧ (∀ y ∈ ms, y < st.rows.length) ∧ PartsIn st ld ms)
            ⟨new_same nL, [], upd_same, rfl, (fun y h => by cases h), PartsIn.nil⟩ (fun i H3 _ hP => ⟨hP.1.seq (sqd b12), sqL (hP.1 _ _ epa2)⟩) (fun i x H3 H4 hi hP hY => ?_) (fun H3 hP => ?_)
          · obtain ⟨s3, ms, eL, hml, hms, hmi⟩ := hP
            obtain ⟨T, x1, x2, rfl, nT, rfl, e1, e2⟩ := hY
            have e1 : (ld.map iv)[i]? = some x1 := e1
            have e2 : (ps.map iv)[i]? = some x2 := e2
            rw [List.getElem?_map] at e1 e2
            obtain ⟨l, hl0, rfl⟩ := Option.map_eq_some_iff.mp e1
            obtain ⟨y, hy0, rfl⟩ := Option.map_eq_some_iff.mp e2
            have hlm := List.mem_of_getElem? hl0
            have hym := hps y (List.mem_of_getElem? hy0)
            have sT := new_same (o := .tup [iv l, iv y]) nT
            have s4 := s3.trans sT
            have epa4 := s4 _ _ epa2
            have eL4 := sT _ _ eL
            have put1 : ∀ (H5 : Hp) (z : Nat), Same (upd H3 T (.tup [iv l, iv y])) H5 → z < st.rows.length → z ∈ standL st l → ∃ acc, H5 L = some (.lst acc) ∧ acc.length < sizeLine ∧ Same H2 (upd H5 L (.lst (acc ++ [iv z]))) ∧ ∃ ms : List Nat, upd H5 L (.lst (acc ++ [iv z])) L = some (.lst (ms.map iv)) ∧ ms.length = i + 1 ∧ (∀ y ∈ ms, y < st.rows.length) ∧ PartsIn st ld ms := fun H5 z s5 hz hzs => by
              refine ⟨_, s5 _ _ eL4, by rw [List.length_map]; exact szt (by omega), fun a o e => ?_, ms ++ [z], ?_, ?_, ?_, hmi.snoc hml hl0 hzs⟩
              · rw [upd_ne (ne_of_none e nL)]; exact s5 _ _ (s4 _ _ e)
              · rw [upd_same, List.map_append]; rfl
              · rw [List.length_append, List.length_singleton, hml]
              · intro y hy
                rcases List.mem_append.mp hy with h | h
                · exact hms y h
                · rw [List.mem_singleton.mp h]; exact hz
            refine ⟨T, _, rfl, sqT upd_same, rfl, _, _, rfl, _, _, rfl, rfl, rfl, .ref pa, rfl, pa, _, _, _, rfl, rfl, sqL epa4, at_iv h0, .ref st.s, rfl, _, rfl, st, _, l, rfl, hS2.same s4, hla l hlm, by omega, fun sa H5 nsa s5 esa => ?_⟩
            refine ⟨sa, _, rfl, .inl (sqL esa), rfl, flat_iv _, _, rfl, ?_⟩
            show if inV (iv ps[0]) ((standL st l).map iv) = true then _ else _
            rw [inV_iv]
            by_cases hin : ps[0] ∈ standL st l
            · rw [if_pos (decide_eq_true hin)]
              exact ⟨.ref pa, rfl, pa, _, _, _, rfl, rfl, sqL (s5 _ _ epa4), at_iv h0, put1 H5 _ s5 (hps _ (List.getElem_mem h0)) hin⟩
            · rw [if_neg (fun z => hin (of_decide_eq_true z))]
              exact ⟨_, rfl, put1 H5 _ s5 hym (hpi i y l hy0 hl0)⟩
          · obtain ⟨s3, ms, eL, hml, hms, hmi⟩ := hP
            exact ⟨L, ms, _, _, _, rfl, b12.trans (Same.but s3), T2'.same s3, eL, hml, hms, hmi⟩
      · obtain ⟨pb, ms, z5, z6, z7, rfl, b2, T2, epb, hml, hms, hmi⟩ := hM
        have hS2 := hS.bt b2 T2
        have h0 : 0 < ms.length := by omega
        refine ⟨.ref st.s, rfl, _, rfl, .ref pb, rfl, pb, _, rfl, .inl ⟨sqL epb, fun T nT => ⟨szl (show 2 ≤ 1000000 by decide), fun p np => ?_⟩⟩⟩
        have sT := new_same (o := .tup (ms.map iv)) nT
        have sp' := new_same (o := .tup [.str "meet", .ref T]) np
        have mT := hS2.fresh nT
        have mp := (hS2.same sT).fresh np
        have hS3 := (hS2.same sT).same sp'
        have epb3 := sp' _ _ (sT _ _ epb)
        have hw0 : ms[0] < st.wide.length := by rw [hS.lw]; exact hms _ (List.getElem_mem h0)
        have hd0 : ms[0] < st.deep.length := by rw [hS.ld]; exact hms _ (List.getElem_mem h0)
        refine ⟨.ref st.s, rfl, st.s, .ref st.w, rfl, dgOf hS3.ds (kvW st), .ref pb, rfl, pb, _, _, _, rfl, rfl, sqL epb3, at_iv h0, st.w, _, _, _, rfl, rfl, sqL hS3.wide, at_iv hw0, ?_⟩
        refine ⟨.ref st.s, rfl, st.s, .ref st.d, rfl, dgOf hS3.ds (kvD st), .ref pb, rfl, pb, _, _, _, rfl, rfl, sqL epb3, at_iv h0, st.d, _, _, _, rfl, rfl, sqL hS3.deep, at_iv hd0, ?_⟩
        have a1 := hwd.1 _ (List.getElem_mem hw0)
        have a2 := hwd.2 _ (List.getElem_mem hd0)
        refine ⟨st, c + 13, blk, .ref p, .meet ms, _, _, rfl, hS3, by omega, ⟨p, _, rfl, sqT (frz_at upd_same mp), T, rfl, sqT (frz_at (sp' _ _ upd_same) mT)⟩, fun H4 bm hS4 => ?_⟩
        have b3 : But st.t H (upd (upd H2 T (.tup (ms.map iv))) p (.tup [.str "meet", .ref T])) := b2.trans (Same.but (sT.trans sp'))
        exact q H4 ms _ _ ((Bm.of_but b3 (tM st)).trans bm) (hS4.bt (But.refl _ _) (hS4.tape.mono (by omega))) hml hms hmi a1.1 a1.2 a2.1 a2.2
end
end Gn
set_option Elab.async false
set_option linter.all false
set_option maxRecDepth 100000
set_option maxHeartbeats 4000000
namespace Gn
open PySem PySem.Spec PyProof.Rows L2
/-! ### later -/
def RwB (n : Nat) : Rw → Prop
  | .take i => i ≤ 5
  | .num z => -4 ≤ z ∧ z ≤ 10 ^ 12
  | .bin _ x y => x < n ∧ y < n
  | .pick x ps => x < n ∧ (∀ y ∈ ps, y < n) ∧ ps.length ≤ 5 ∧ ps ≠ []
  | .meet ps => (∀ y ∈ ps, y < n) ∧ ps.length ≤ 12
  | .tell x => x < n
  | .look rs x => x < n ∧ RmOk rs
  | .lay rs x y => x < n ∧ y < n ∧ RmOk rs
def Rw.rdata : Rw → List PyData
  | .take i => [nd i]
  | .num n => [.int n]
  | .bin _ x y => [nd x, nd y]
  | .pick x ps => [nd x, .tuple (ps.map nd)]
  | .meet ps => [.tuple (ps.map nd)]
  | .tell x => [nd x]
  | .look rs x => [.tuple (rs.map nd), nd x]
  | .lay rs x y => [.tuple (rs.map nd), nd x, nd y]
theorem data_eq (r : Rw) : r.data = .tuple (.str r.w :: r.rdata) := by cases r <;> rfl
theorem rest_dp {K : PySem.W.Frag} {H : Hp} {r : Rw} {xs : List V} (h : Rest K H r xs) : DpAll K H xs r.rdata := by
  cases r with
  | take i => cases h; exact .cons (.int _) .nil
  | num n => cases h; exact .cons (.int _) .nil
  | bin b x y => cases h; exact .cons (.int _) (.cons (.int _) .nil)
  | pick x ps =>
    obtain ⟨q, rfl, h3⟩ := h
    exact .cons (.int _) (.cons (.tup h3 (dp_nats ps)) .nil)
  | meet ps =>
    obtain ⟨q, rfl, h3⟩ := h
    exact .cons (.tup h3 (dp_nats ps)) .nil
  | tell x => cases h; exact .cons (.int _) .nil
  | look rs x =>
    obtain ⟨q, rfl, h3⟩ := h
    exact .cons (.tup h3 (dp_nats rs)) (.cons (.int _) .nil)
  | lay rs x y =>
    obtain ⟨q, rfl, h3⟩ := h
    exact .cons (.tup h3 (dp_nats rs)) (.cons (.int _) (.cons (.int _) .nil))
theorem sh_rest (r : Rw) : SeqAt.shaped (.tuple r.rdata) = true := by
  have h1 := lay_row r
  have h2 := dep_row r
  rw [data_eq] at h1 h2
  simp only [PyData.canLay0, PyData.canLayAll0, Bool.and_eq_true] at h1
  simp only [PyData.depth, PyData.depthAll] at h2
  unfold SeqAt.shaped
  have h3 : (PyData.tuple r.rdata).canLay0 = true := by simp only [PyData.canLay0]; exact h1.2
  have h4 : (PyData.tuple r.rdata).depth ≤ 64 := by
    simp only [PyData.depth]
    omega
  rw [h3, decide_eq_true h4]
  rfl
theorem sh_int (n : Nat) : SeqAt.shaped (.int (n : Int)) = true := by
  unfold SeqAt.shaped
  simp [PyData.canLay0, PyData.depth]
theorem cut_one (x : V) (xs : List V) : cutV (x :: xs) (some 1) none = xs := by
  unfold cutV
  rw [show HT.sIx (x :: xs).length 0 (some 1) = min 1 (x :: xs).length from HT.sIx_nat (x :: xs).length 0 1, HT.sIx_none]
  rw [show min 1 (x :: xs).length = 1 by rw [List.length_cons]; omega]
  show (List.take ((x :: xs).length - 1) xs) = xs
  rw [List.length_cons, Nat.add_sub_cancel]
  exact List.take_length
theorem cut_not (x : V) (xs : List V) : ¬ (HT.sIx (x :: xs).length 0 (some 1) = 0 ∧ HT.sIx (x :: xs).length (x :: xs).length none = (x :: xs).length) := by
  rw [show HT.sIx (x :: xs).length 0 (some 1) = min 1 (x :: xs).length from HT.sIx_nat (x :: xs).length 0 1]
  rw [List.length_cons]
  omega
theorem ixN_nat {n j : Nat} (h : j < n) : ixN n (j : Int) = some j := by
  unfold ixN
  rw [if_pos (by omega), if_pos (by omega), Int.toNat_natCast]
theorem pd_set {α β : Type} {F : α → β → Prop} {a : α} {b : β} : ∀ {l : List α} {m : List β} (k : Nat), Paired F l m → F a b → Paired F (l.set k a) (m.set k b)
  | _, _, _, .nil, _ => .nil
  | _, _, 0, .cons h t, g => .cons g t
  | _, _, k + 1, .cons h t, g => .cons h (pd_set k t g)
theorem meet_is {r : Rw} (h : decide (V.str r.w = V.str "meet") = true) : ∃ ps, r = .meet ps := by
  cases r with
  | meet ps => exact ⟨ps, rfl⟩
  | bin b x y => cases b <;> cases (show false = true from h)
  | take _ => cases (show false = true from h)
  | num _ => cases (show false = true from h)
  | pick _ _ => cases (show false = true from h)
  | tell _ => cases (show false = true from h)
  | look _ _ => cases (show false = true from h)
  | lay _ _ _ => cases (show false = true from h)
def Sta.rw (st : Sta) (rs : List Rw) : Sta := { st with rows := rs }
def MeetOk (st : Sta) : Prop := ∀ k ps, st.rows[k]? = some (.meet ps) → ∃ ld, st.leads[st.blocks.getD k 0]? = some ld ∧ ps.length = ld.length ∧ 1 ≤ ld.length ∧ ld.length ≤ 12 ∧ (∀ l ∈ ld, l < st.above.length) ∧ PartsIn st ld ps
theorem StaOk.setRow {K : PySem.W.Frag} {H : Hp} {st : Sta} {rs : List Rw} {c i : Nat} {vs : List V} {v : V} {row : Rw} (h : StaOk K H (st.rw rs) c) (hr : H st.r = some (.lst vs)) (pd : Paired (RowAt K (frz st.M H)) vs rs) (hv : RowAt K (frz st.M H) v row) :
    StaOk K (upd H st.r (.lst (vs.set i v))) (st.rw (rs.set i row)) c ∧ Bm st.M H (upd H st.r (.lst (vs.set i v))) := by
  have hn : st.M.Nodup := h.nd
  simp only [Sta.M, List.nodup_cons, List.mem_cons, List.not_mem_nil, or_false, not_or] at hn
  obtain ⟨⟨n1, n2, n3, n4⟩, ⟨n5, n6, n7⟩, _⟩ := hn
  have bm : Bm st.M H (upd H st.r (.lst (vs.set i v))) := fun a o n e => by
    rw [upd_ne (fun z => n (by rw [z]; simp [Sta.M]))]
    exact e
  have f := bm.frz
  refine ⟨⟨h.nd, ?_, f _ _ h.dict, ⟨vs.set i v, upd_same, pd_set i (pd_mono pd fun _ _ z => z.same f) (hv.same f)⟩, ?_, ?_, ?_, h.leads.same f, h.above.same f, ?_, ?_, ?_, Same.tup f h.caps⟩, bm⟩
  · obtain ⟨a1, a2, a3, a4, a5⟩ := h.tape
    exact ⟨a1, a2, a3, by show L2.upd H st.r _ st.t = _; rw [upd_ne n1]; exact a4, a5⟩
  · show L2.upd H st.r _ st.b = _
    rw [upd_ne (Ne.symm n5)]; exact h.blocks
  · show L2.upd H st.r _ st.w = _
    rw [upd_ne (Ne.symm n6)]; exact h.wide
  · show L2.upd H st.r _ st.d = _
    rw [upd_ne (Ne.symm n7)]; exact h.deep
  · show st.blocks.length = (rs.set i row).length
    rw [List.length_set]; exact h.lb
  · show st.wide.length = (rs.set i row).length
    rw [List.length_set]; exact h.lw
  · show st.deep.length = (rs.set i row).length
    rw [List.length_set]; exact h.ld
theorem keep_step {H6 H7 : Hp} {L : Addr} {es : List Nat} {jj x : Nat} {Pr : Nat → Prop} (s : Same H6 H7) (nL : H6 L = none) (e : H7 L = some (.lst (es.map iv))) (hl : es.length ≤ jj) (hj : jj < 900000) (he : ∀ y ∈ es, Pr y) (hx : Pr x) :
    ∃ acc, H7 L = some (.lst acc) ∧ acc.length < sizeLine ∧ Same H6 (upd H7 L (.lst (acc ++ [iv x]))) ∧ ∃ es : List Nat, upd H7 L (.lst (acc ++ [iv x])) L = some (.lst (es.map iv)) ∧ es.length ≤ jj + 1 ∧ ∀ y ∈ es, Pr y := by
  refine ⟨_, e, by rw [List.length_map]; exact szt (by omega), fun a o z => ?_, es ++ [x], ?_, ?_, ?_⟩
  · rw [upd_ne (ne_of_none z nL)]; exact s _ _ z
  · rw [upd_same, List.map_append]; rfl
  · rw [List.length_append, List.length_singleton]; omega
  · intro y hy
    rcases List.mem_append.mp hy with h | h
    · exact he y h
    · rw [List.mem_singleton.mp h]; exact hx
def Rw.isM : Rw → Bool
  | .meet _ => true
  | _ => false
/-- whether the k-th row is a meet -/
def mB (rs : List Rw) (k : Nat) : Bool := (rs.getD k (.take 0)).isM
theorem mB_at {rs : List Rw} {k : Nat} {r : Rw} (h : rs[k]? = some r) : mB rs k = r.isM := by
  unfold mB
  rw [List.getD_eq_getElem?_getD, h]
  rfl
theorem mB_set {rs : List Rw} {i k : Nat} {ps : List Nat} (hi : i < rs.length) : mB (rs.set i (.meet ps)) k = if k = i then true else mB rs k := by
  unfold mB
  rw [List.getD_eq_getElem?_getD, List.getElem?_set, List.getD_eq_getElem?_getD]
  by_cases h : k = i
  · subst h
    rw [if_pos rfl, if_pos rfl, if_pos hi]
    rfl
  · rw [if_neg (fun z : i = k => h z.symm), if_neg h]
theorem stand_rw {st : Sta} {rs : List Rw} (hl : rs.length = st.rows.length) (hm : ∀ k, mB rs k = mB st.rows k) (hs : ∀ k, mB st.rows k = false → rs[k]? = st.rows[k]?) (l : Nat) : standL (st.rw rs) l = standL st l := by
  have hw : ∀ k, (rs.getD k (.take 0)).worthy = (st.rows.getD k (.take 0)).worthy := fun k => by
    by_cases h : mB st.rows k = false
    · rw [List.getD_eq_getElem?_getD, List.getD_eq_getElem?_getD, hs k h]
    · have h1 : mB st.rows k = true := by simpa using h
      have h2 : mB rs k = true := by rw [hm]; exact h1
      unfold mB at h1 h2
      generalize rs.getD k (.take 0) = a at h2
      generalize st.rows.getD k (.take 0) = b at h1
      cases a <;> cases h2
      cases b <;> cases h1
      rfl
  unfold standL
  show (List.range rs.length).filter _ = _
  rw [hl]
  refine List.filter_congr fun k _ => ?_
  show (decide (st.blocks.getD k 0 ∈ st.above.getD l []) && (rs.getD k (.take 0)).worthy) = _
  rw [hw]
def spLater (K : PySem.W.Frag) : Sp := fun vs H Q _ => ∃ (st : Sta) (c : Nat), vs = [.ref st.t, .ref st.s] ∧ StaOk K H st c ∧ Bs st ∧ MeetOk st ∧ (∀ r ∈ st.rows, RwB st.rows.length r) ∧ c + 24 * st.rows.length ≤ 90000000 ∧ st.rows.length ≤ 900 ∧
  ∀ (H' : Hp) (rs : List Rw), Bm st.M H H' → StaOk K H' (st.rw rs) (c + 24 * st.rows.length) → rs.length = st.rows.length → Bs (st.rw rs) → (∀ r ∈ rs, RwB st.rows.length r) → MeetOk (st.rw rs) → (∀ k, mB rs k = mB st.rows k) → (∀ k, mB st.rows k = false → rs[k]? = st.rows[k]?) → Q .non H'
abbrev nLater : List Str := ["_law_tape_here", "_law_state", "_law_k", "_law_row", "_law_block", "_law_parts", "_law_place", "_law_lead", "_law_some", "_law_near", "_law_own", "_law_one"]
theorem scLater : FnScope nLater ["_law_tape_here", "_law_state"] (defScope sLater) := ⟨rfl, rfl, rfl, by decide +kernel, rfl, by decide +kernel, by decide +kernel⟩
abbrev ttOwn (K : PySem.W.Frag) : TT := tTest (tOp (rInT K) (tVar 2) (tSl (rSlT K) (tIxL K (tDGet (tVar 1) (tC (.str "rows"))) (tVar 11)) (tPart (tC (.int 1))) tNoPart))
abbrev ttNear (K : PySem.W.Frag) : TT := tOr (tTest (tOp rEq (tVar 11) (tVar 2))) (tTest (tOp rEq (tVar 11) (tIxL K (tVar 5) (tC (.int 0)))))
section
variable {P : Program} {w : World} {K : PySem.W.Frag} {mg : Str → Option Value} {base : Heap}
theorem ok_later {f fD fS : Addr} {fd fdD fdS : FuncData} {k : Nat} (D : Df K mg "_law_later" sLater ["_law_tape_here", "_law_state"] f fd) (B : Bi mg)
    (DD : Df K mg "_law_draw" sDraw ["_law_tape_here", "_law_many"] fD fdD) (GD : FnOk P w K mg base CX0 k fD fdD ["_law_tape_here", "_law_many"] spDraw)
    (DS : Df K mg "_law_standing" sStanding ["_law_state", "_law_block"] fS fdS) (GS : FnOk P w K mg base CX0 k fS fdS ["_law_state", "_law_block"] (spStanding K)) :
    FnOk P w K mg base CX0 (k + 1) f fd ["_law_tape_here", "_law_state"] (spLater K) := by
  refine D.F.ok scLater (fun vs H Q E h => ?_) (fun cdv A outer s H vs Q E hr h => ?_)
  · obtain ⟨st, c, rfl, _⟩ := h
    rfl
  · obtain ⟨st, c, rfl, hS, hB, hM, hRB, hc, hl, q⟩ := h
    have hu := hu_of hr
    have hu65 : (A.deeper (envOfC "_law_later" (defScope sLater) s.heap.objs.size f cdv)).units + 65 < cLine := by have := hr.un; omega
    refine ⟨_, pss_one (ps_for PassesOwn.never rfl (pi_enum (by rfl) B.enumerate (pa_cons (pe_callTy call_list_of (by rfl) B.list PyProof.Rows.boot_list (pa_cons (pe_dget hu (pv 1) pe_str (fun _ _ => rfl)) pa_nil)) pa_nil))
        (pg_tup rfl (pgs_cons (pg_name (i := 2) scLater.nd rfl (.inr rfl)) (pgs_cons (pg_name (i := 3) scLater.nd rfl (.inl rfl)) pgs_nil)))
      (pss_cons (ps_set (i := 4) scLater.nd rfl (.inl rfl) (pe_ix ix_list (pe_dget hu (pv 1) pe_str (fun _ _ => rfl)) (pv 2) (fun _ _ => rfl)))
      (pss_one (ps_if (pt_cmpR op_eq (pe_ix ix_tup (pv 3) pe_int (fun _ _ => rfl)) pe_str (nomark _))
        (pss_cons (ps_set (i := 5) scLater.nd rfl (.inr rfl) (pe_callTy call_list_of (by rfl) B.list PyProof.Rows.boot_list (pa_cons (pe_ix ix_tup (pv 3) pe_int (fun _ _ => rfl)) pa_nil)))
        (pss_cons (ps_for PassesOwn.never rfl (pi_enum (by rfl) B.enumerate (pa_cons (pe_ix ix_list (pe_dget hu (pv 1) pe_str (fun _ _ => rfl)) (pv 4) (fun _ _ => rfl)) pa_nil))
            (pg_tup rfl (pgs_cons (pg_name (i := 6) scLater.nd rfl (.inl rfl)) (pgs_cons (pg_name (i := 7) scLater.nd rfl (.inl rfl)) pgs_nil)))
          (pss_cons (ps_set (i := 8) scLater.nd rfl (.inl rfl) (pe_call GS hr (by rfl) DS.g DS.F.kp DS.b .nil pass0 (pa_cons (pv 1) (pa_cons (pv 7) pa_nil))))
          (pss_one (ps_if (pt_cmpR op_ge (pv 7) (pv 4) (nomark _))
            (pss_cons (ps_setLc (i := 9) (own := [("_law_one", 11)]) (g := gName 11) (tt := ttNear K) (te := tVar 11) (by rfl) scLater.nd rfl rfl (sw_true rfl rfl rfl (by decide +kernel)) (pi_list (pv 8))
                (blkOk_by (own := [("_law_one", 11)]) (N := nLater) (sc := defScope sLater) (by decide +kernel)) (fun _ _ _ _ _ => pg_name (i := 11) scLater.nd rfl (.inl rfl))
                (fun _ _ _ _ _ => pts_one (pw_or (pt_cmpR op_eq (pv 11) (pv 2) (nomark _)) (pw_or1 (pt_cmpR op_eq (pv 11) (pe_ix ix_list (pv 5) pe_int (fun _ _ => rfl)) (nomark _)))).pt) (fun _ _ _ _ _ => pv 11))
            (pss_cons (ps_setLc (i := 10) (own := [("_law_one", 11)]) (g := gName 11) (tt := ttOwn K) (te := tVar 11) (by rfl) scLater.nd rfl rfl (sw_true rfl rfl rfl (by decide +kernel)) (pi_list (pv 8))
                (blkOk_by (own := [("_law_one", 11)]) (N := nLater) (sc := defScope sLater) (by decide +kernel)) (fun _ _ _ _ _ => pg_name (i := 11) scLater.nd rfl (.inl rfl))
                (fun _ _ _ _ _ => pts_one (pt_cmpR (op_inT hu65) (pv 2) (pe_slice sl_tup (pe_ix ix_list (pe_dget hu (pv 1) pe_str (fun _ _ => rfl)) (pv 11) (fun _ _ => rfl)) (po_some pe_int) po_none) rfl)) (fun _ _ _ _ _ => pv 11))
            (Evl.pss_cut (ps_set (i := 8) scLater.nd rfl (.inl rfl) (pe_orT (pe_ix ix_list (pe_lst (pa_cons (pv 8) (pa_cons (pv 10) (pa_cons (pv 10) (pa_cons (pv 9) pa_nil))))) (pe_call GD hr (by rfl) DD.g DD.F.kp DD.b .nil pass0 (pa_cons (pv 0) (pa_cons pe_int pa_nil))) (fun _ _ => rfl)) (pe_one (pv 8))))
            (pss_one (ps_asg (pe_ix ix_list (pv 8) (pe_call GD hr (by rfl) DD.g DD.F.kp DD.b .nil pass0 (pa_cons (pv 0) (pa_cons (pe_callB call_len_seq (by rfl) B.len PySem.boot_len (pa_cons (pv 8) pa_nil)) pa_nil))) (fun _ _ => rfl)) (pg_sub (pv 5) (pv 6) set_list))))))
            pss_nil))))
        (pss_one (ps_asg (pe_tup (pa_cons pe_str (pa_cons (pe_callTy call_tuple_of (by rfl) B.tuple PyProof.Rows.boot_tuple (pa_cons (pv 5) pa_nil)) pa_nil))) (pg_sub (pe_dget hu (pv 1) pe_str (fun _ _ => rfl)) (pv 2) set_list)))))
        pss_nil)))), ?_⟩
    obtain ⟨vs0, hv1, hv2⟩ := hS.rows
    have hvl : vs0.length = st.rows.length := pd_len hv2
    refine ⟨.ref st.s, rfl, st.s, .ref st.r, rfl, dgOf hS.ds (kvR st), st.r, vs0, rfl, .inl (sqL hv1), fun cp ncp => ⟨cp, vs0, rfl, sqL upd_same, ?_⟩⟩
    have mcp := hS.fresh ncp
    have s0 := new_same (o := .lst vs0) ncp
    refine for_it (walk_enum (xs := vs0)) (fun i σ H1 => ∃ (rs : List Rw) (y2 y3 y4 y5 y6 y7 y8 y9 y10 y11 : Option V), σ = [some (.ref st.t), some (.ref st.s), y2, y3, y4, y5, y6, y7, y8, y9, y10, y11] ∧ Bm st.M H H1 ∧ StaOk K H1 (st.rw rs) (c + 24 * i) ∧
      rs.length = st.rows.length ∧ Bs (st.rw rs) ∧ (∀ r ∈ rs, RwB st.rows.length r) ∧ H1 cp = some (.lst vs0) ∧ MeetOk (st.rw rs) ∧ (∀ k, mB rs k = mB st.rows k) ∧ ∀ k, mB st.rows k = false → rs[k]? = st.rows[k]?)
      ⟨st.rows, none, none, none, none, none, none, none, none, none, none, rfl, Bm.of_same s0, hS.same s0, rfl, hB, hRB, upd_same, hM, (fun _ => rfl), fun _ _ => rfl⟩ (fun i σ H1 _ hP => ?_) (fun i x σ H1 H2 hi hP hY => ?_) (fun σ H1 hP => ?_)
    · obtain ⟨_, _, _, _, _, _, _, _, _, _, _, _, _, _, _, _, _, h, _⟩ := hP
      exact sqL h
    · obtain ⟨rs, y2, y3, y4, y5, y6, y7, y8, y9, y10, y11, rfl, bm, hS1, hrl, hB1, hRB1, ecp, hMk, hmB, hsR⟩ := hP
      obtain ⟨T, x1, x2, rfl, nT, rfl, e1, e2⟩ := hY
      cases e1
      have e2 : vs0[i]? = some x2 := e2
      obtain ⟨row, hr1, hr2⟩ := pd_at2 hv2 e2
      have hin : i < st.rows.length := by omega
      have hib : i < st.blocks.length := by rw [hS.lb]; exact hin
      have sT := new_same (o := .tup [.int (i : Nat), x2]) nT
      have hS2 := hS1.same sT
      have hrow : RowAt K (upd H1 T (.tup [.int (i : Nat), x2])) x2 row := ((hr2.same bm.frz).same (frz_same _ _)).same sT
      have ecp2 := sT _ _ ecp
      have bm2 : Bm st.M H (upd H1 T (.tup [.int (i : Nat), x2])) := bm.trans (Bm.of_same sT)
      refine ⟨T, _, rfl, sqT upd_same, rfl, _, _, rfl, _, _, rfl, rfl, ?_⟩
      generalize upd H1 T (.tup [.int (i : Nat), x2]) = H2 at hS2 hrow ecp2 bm2
      obtain ⟨p, xs, rfl, hp1, hp2⟩ := hrow
      refine ⟨.ref st.s, rfl, st.s, .ref st.b, rfl, dgOf hS2.ds (kvB (st.rw rs)), _, rfl, st.b, _, _, _, rfl, rfl, sqL hS2.blocks, atI_nat (by rw [List.getElem?_map]; show Option.map iv st.blocks[i]? = _; rw [gdl (d := 0) hib]; rfl), ?_⟩
      refine ⟨.ref p, rfl, p, _, _, _, rfl, rfl, hp1, atI_nat (j := 0) rfl, rfl, _, rfl, ?_⟩
      show if decide (V.str row.w = V.str "meet") = true then _ else _
      by_cases hme : decide (V.str row.w = V.str "meet") = true
      · rw [if_pos hme]
        obtain ⟨ps0, rfl⟩ := meet_is hme
        obtain ⟨qa, rfl, hqa⟩ := hp2
        obtain ⟨ld, hld, hpl0, hl1, hl2, hla, hpi0⟩ := hM i ps0 hr1
        have hps0 : ∀ y ∈ ps0, y < st.rows.length := (hRB _ (List.mem_of_getElem? hr1)).1
        have hi0 : i ≠ 0 := fun z => by
          rw [z, hB.r0] at hr1
          cases hr1
        refine ⟨.ref p, rfl, p, _, _, _, rfl, rfl, hp1, atI_nat (j := 1) rfl, qa, _, rfl, .inr hqa, fun pa npa => ?_⟩
        have mpa := hS2.fresh npa
        have npt : pa ≠ st.t := fun e => mpa (e ▸ tM (st.rw rs))
        have sP := new_same (o := .lst (ps0.map iv)) npa
        obtain ⟨zs, la, u1, u2, u3, u4⟩ := hS2.leads.at (show (st.rw rs).leads[st.blocks.getD i 0]? = some ld from hld)
        refine ⟨.ref st.s, rfl, st.s, .ref st.L, rfl, dgOf (hS2.same sP).ds (kvL (st.rw rs)), _, rfl, st.L, zs, _, .ref la, rfl, rfl, sP.seq (sq_out u1), u3, la, ld.map iv, rfl, sP.seq (sq_out u4), ?_⟩
        have sqla : ∀ {H4 : Hp}, But st.t H2 H4 → SqL K H4 la (ld.map iv) := fun b => sq_out (sq_but (st := st.rw rs) u4 b)
        generalize hblk : st.blocks.getD i 0 = blk at *
        refine for_it (walk_enum (xs := ld.map iv)) (fun j σ H4 => ∃ (ps : List Nat) (y6 y7 y8 y9 y10 y11 : Option V), σ = [some (.ref st.t), some (.ref st.s), some (iv i), some (.ref p), some (iv blk), some (.ref pa), y6, y7, y8, y9, y10, y11] ∧ But st.t H2 H4 ∧ Tape H4 st.t (c + 24 * i + 2 * j) ∧
          H4 pa = some (.lst (ps.map iv)) ∧ ps.length = ld.length ∧ (∀ y ∈ ps, y < st.rows.length) ∧ PartsIn st ld ps)
          ⟨ps0, _, _, _, _, _, _, rfl, Same.but sP, hS2.tape.same sP, upd_same, hpl0, hps0, hpi0⟩ (fun j σ H4 _ hP => ?_) (fun j x σ H4 H5 hj hP hY => ?_) (fun σ H4 hP => ?_)
        · obtain ⟨_, _, _, _, _, _, _, _, b, _⟩ := hP
          exact sqla b
        · obtain ⟨ps, z6, z7, z8, z9, z10, z11, rfl, b4, T4, epa, hpl, hps, hpi⟩ := hP
          obtain ⟨T2, x1, x2, rfl, nT2, rfl, e1, e2⟩ := hY
          cases e1
          have e2 : (ld.map iv)[j]? = some x2 := e2
          rw [List.getElem?_map] at e2
          obtain ⟨l, hl0, rfl⟩ := Option.map_eq_some_iff.mp e2
          have hlm := List.mem_of_getElem? hl0
          have hjl := (List.getElem?_eq_some_iff.mp hl0).1
          have sT2 := new_same (o := .tup [.int (j : Nat), iv l]) nT2
          refine ⟨T2, _, rfl, sqT upd_same, rfl, _, _, rfl, _, _, rfl, rfl, ?_⟩
          have b5 : But st.t H2 (upd H4 T2 (.tup [.int (j : Nat), iv l])) := b4.trans (Same.but sT2)
          have T5 := T4.same sT2
          have epa5 := sT2 _ _ epa
          generalize upd H4 T2 (.tup [.int (j : Nat), iv l]) = H5 at b5 T5 epa5
          have hS5 := hS2.bt b5 T5
          have hab : l < (st.rw rs).above.length := hla l hlm
          have h0 : 0 < ps.length := by omega
          refine ⟨.ref st.s, rfl, iv l, rfl, st.rw rs, _, l, rfl, hS5, hab, by show rs.length ≤ 1000; omega, fun sa H6 nsa s6 esa => ?_⟩
          have ss0 : 0 < (standL (st.rw rs) l).length := List.length_pos_of_mem (hB1.st0 hab)
          have ssl : (standL (st.rw rs) l).length ≤ 900 := Nat.le_trans (standL_len _ _) (by show rs.length ≤ 900; omega)
          have sslt : ∀ y ∈ standL (st.rw rs) l, y ∈ standL st l := fun y h => by rw [stand_rw hrl hmB hsR] at h; exact h
          generalize standL (st.rw rs) l = ss at esa ss0 ssl sslt
          have epa6 := s6 _ _ epa5
          have b6 : But st.t H2 H6 := b5.trans (Same.but s6)
          have T6 := T5.same s6
          refine ⟨_, rfl, _, rfl, _, _, rfl, rfl, _, rfl, ite2 (fun e => ?_) (fun e => ⟨ps, _, _, _, _, _, _, rfl, b6, T6.mono (by omega), epa6, hpl, hps, hpi⟩)⟩
          -- near
          refine ⟨.ref sa, rfl, sa, rfl, ⟨_, sqL esa⟩, fun L nL => ?_⟩
          refine lc_list (K := K) (a := sa) (xs := ss.map iv) (fun jj H7 => Same H6 H7 ∧ ∃ es : List Nat, H7 L = some (.lst (es.map iv)) ∧ es.length ≤ jj ∧ ∀ y ∈ es, y ∈ standL st l) ⟨new_same nL, [], upd_same, Nat.le_refl _, fun y h => by cases h⟩
            (fun jj H7 _ hP => sqL (hP.1 _ _ esa)) (fun jj x H7 hx hP => ?_) (fun H7 hP => ?_)
          · obtain ⟨s7, es, eL, hel, hes⟩ := hP
            rw [List.getElem?_map] at hx
            obtain ⟨z, hz0, rfl⟩ := Option.map_eq_some_iff.mp hx
            have hjj := (List.getElem?_eq_some_iff.mp hz0).1
            have hzn := sslt z (List.mem_of_getElem? hz0)
            have yes := keep_step s7 nL eL hel (by omega) hes hzn
            refine ⟨rfl, _, rfl, _, rfl, rfl, _, rfl, ?_⟩
            show if decide (iv z = iv i) = true then _ else _
            generalize decide (iv z = iv i) = bb
            cases bb with
            | true => exact ⟨_, rfl, yes⟩
            | false =>
              refine ⟨_, rfl, .ref pa, rfl, pa, _, _, _, rfl, rfl, sqL (s7 _ _ epa6), at_iv h0, rfl, _, rfl, ?_⟩
              show if decide (iv z = iv ps[0]) = true then _ else _
              generalize decide (iv z = iv ps[0]) = b2
              cases b2 with
              | true => exact ⟨_, rfl, yes⟩
              | false => exact ⟨s7, es, eL, by omega, hes⟩
          · obtain ⟨s7, es, eL, hel, hes⟩ := hP
            rw [List.length_map] at hel
            have esa7 := s7 _ _ esa
            have b7 : But st.t H2 H7 := b6.trans (Same.but s7)
            have hS7 := hS2.bt b7 (T6.same s7)
            obtain ⟨vc, hc1, hc2⟩ := hS7.rows
            have hcl : vc.length = rs.length := pd_len hc2
            -- own
            refine ⟨.ref sa, rfl, sa, rfl, ⟨_, sqL esa7⟩, fun L2 nL2 => ?_⟩
            refine lc_list (K := K) (a := sa) (xs := ss.map iv) (fun jj H8 => Same H7 H8 ∧ ∃ es : List Nat, H8 L2 = some (.lst (es.map iv)) ∧ es.length ≤ jj ∧ ∀ y ∈ es, y ∈ standL st l) ⟨new_same nL2, [], upd_same, Nat.le_refl _, fun y h => by cases h⟩
              (fun jj H8 _ hP => sqL (hP.1 _ _ esa7)) (fun jj x H8 hx hP => ?_) (fun H8 hP => ?_)
            · obtain ⟨s8, es2, eL2, hel2, hes2⟩ := hP
              rw [List.getElem?_map] at hx
              obtain ⟨z, hz0, rfl⟩ := Option.map_eq_some_iff.mp hx
              have hjj := (List.getElem?_eq_some_iff.mp hz0).1
              have hzn := sslt z (List.mem_of_getElem? hz0)
              have hzc : z < vc.length := by have := standL_lt hzn; omega
              obtain ⟨rz, hz1, hz2⟩ := pd_at2 hc2 (List.getElem?_eq_getElem hzc)
              obtain ⟨pz, xz, hpz0, hpz1, hpz2⟩ := (hz2.same (frz_same _ _)).same s8
              refine ⟨rfl, _, rfl, .ref st.s, rfl, st.s, .ref st.r, rfl, dgOf (s8 _ _ hS7.ds) (kvR (st.rw rs)), _, rfl, st.r, vc, _, vc[z], rfl, rfl, sqL (s8 _ _ hc1), at_lt hzc, 1, rfl, pz, _, hpz0, hpz1, cut_not _ _, fun T3 nT3 => ?_⟩
              have sT3 := new_same (o := .tup (cutV (.str rz.w :: xz) (some 1) none)) nT3
              refine ⟨.int (i : Int), rz.rdata, .int _, .tup (sqT upd_same) (by rw [cut_one]; rw [cut_one] at sT3; exact rest_dp (hpz2.same sT3)), sh_int i, sh_rest rz, _, rfl, ?_⟩
              have s9 := s8.trans sT3
              show if (rz.rdata.any fun z => PyData.eqv z (.int (i : Int))) = true then _ else _
              generalize (rz.rdata.any fun z => PyData.eqv z (.int (i : Int))) = bb
              cases bb with
              | true => exact ⟨_, rfl, keep_step s9 nL2 (sT3 _ _ eL2) hel2 (by omega) hes2 hzn⟩
              | false => exact ⟨s9, es2, sT3 _ _ eL2, by omega, hes2⟩
            · obtain ⟨s8, es2, eL2, hel2, hes2⟩ := hP
              rw [List.length_map] at hel2
              have b8 : But st.t H2 H8 := b7.trans (Same.but s8)
              have T8 := (T6.same s7).same s8
              have epa8 := s8 _ _ (s7 _ _ epa6)
              have esa8 := s8 _ _ esa7
              have eL8 := s8 _ _ eL
              refine ⟨fun σ H9 => ∃ (sb : Addr) (ms : List Nat), σ = [some (.ref st.t), some (.ref st.s), some (iv i), some (.ref p), some (iv blk), some (.ref pa), some (iv j), some (iv l), some (.ref sb), some (.ref L), some (.ref L2), z11] ∧ But st.t H2 H9 ∧ Tape H9 st.t (c + 24 * i + 2 * j + 1) ∧
                H9 pa = some (.lst (ps.map iv)) ∧ H9 sb = some (.lst (ms.map iv)) ∧ 0 < ms.length ∧ ms.length ≤ 900 ∧ (∀ y ∈ ms, y ∈ standL st l) ∧ sb ≠ st.t, ?_, fun σ H9 hM => ?_⟩
              · refine ⟨.ref sa, rfl, .ref L2, rfl, .ref L2, rfl, .ref L, rfl, szl (show 4 ≤ 1000000 by decide), fun q4 nq4 => ?_⟩
                have sQ := new_same (o := .lst [.ref sa, .ref L2, .ref L2, .ref L]) nq4
                have TQ := T8.same sQ
                refine ⟨.ref st.t, rfl, st.t, 4, _, rfl, TQ, by omega, by decide, by decide, fun r H9 h9 b9 T9 => ?_⟩
                have nqt : q4 ≠ st.t := T8.ne nq4
                have bA : But st.t H8 H9 := (Same.but sQ).trans b9
                have ne_t : ∀ {a : Addr} {zs : List Nat}, H8 a = some (.lst (zs.map iv)) → a ∉ (st.rw rs).M → H9 a = some (.lst (zs.map iv)) := fun {a zs} e n => bA a _ (fun z => n (z ▸ tM (st.rw rs))) e
                have nt : ∀ {a : Addr}, a ∉ (st.rw rs).M → a ≠ st.t := fun {a} n z => n (z ▸ tM (st.rw rs))
                have e9p := ne_t epa8 mpa
                have e9s := ne_t esa8 (hS5.fresh nsa)
                have e9L := ne_t eL8 ((hS2.bt b6 T6).fresh nL)
                have e9M := ne_t eL2 (hS7.fresh nL2)
                have b9' : But st.t H2 H9 := b8.trans bA
                have hr4 : r < 4 := by omega
                have sel : ∃ (X : Addr) (ms : List Nat), [V.ref sa, V.ref L2, V.ref L2, V.ref L][r]? = some (.ref X) ∧ H9 X = some (.lst (ms.map iv)) ∧ ms.length ≤ 900 ∧ (∀ y ∈ ms, y ∈ standL st l) ∧ X ≠ st.t := by
                  match r, hr4 with
                  | 0, _ => exact ⟨sa, ss, rfl, e9s, ssl, sslt, nt (hS5.fresh nsa)⟩
                  | 1, _ => exact ⟨L2, es2, rfl, e9M, by omega, hes2, nt (hS7.fresh nL2)⟩
                  | 2, _ => exact ⟨L2, es2, rfl, e9M, by omega, hes2, nt (hS7.fresh nL2)⟩
                  | 3, _ => exact ⟨L, es, rfl, e9L, by omega, hes, nt ((hS2.bt b6 T6).fresh nL)⟩
                obtain ⟨X, ms, hX1, hX2, hX3, hX4, hX5⟩ := sel
                refine ⟨q4, _, _, .ref X, rfl, rfl, sqL (b9 q4 _ nqt upd_same), atI_nat hX1, _, .inl ⟨_, sqL hX2, rfl⟩, ?_⟩
                cases ms with
                | nil => exact ⟨.ref sa, rfl, sa, ss, rfl, b9', T9, e9p, e9s, ss0, ssl, sslt, nt (hS5.fresh nsa)⟩
                | cons m0 ms => exact ⟨X, m0 :: ms, rfl, b9', T9, e9p, hX2, Nat.succ_pos _, hX3, hX4, hX5⟩
              · obtain ⟨sb, ms, rfl, b9, T9, e9p, e9b, hm0, hml, hmlt, nbt⟩ := hM
                have hlm2 : ((ms.map iv).length : Int) = (ms.length : Int) := by rw [List.length_map]
                refine ⟨.ref sb, rfl, .ref st.t, rfl, .ref sb, rfl, sb, _, rfl, .inl (sqL e9b), st.t, _, _, rfl, T9, by omega, by omega, by omega, fun r H10 h10 b10 T10 => ?_⟩
                have hrm : r < ms.length := by omega
                have e10 := b10 pa _ npt e9p
                refine ⟨sb, _, _, _, rfl, rfl, sqL (b10 sb _ nbt e9b), at_iv hrm, .ref pa, rfl, _, rfl, pa, _, _, j, rfl, rfl, e10, ixN_nat (by rw [List.length_map]; omega), ?_⟩
                refine ⟨ps.set j ms[r], _, _, _, _, _, _, rfl, fun a o n e => ?_, ?_, ?_, ?_, ?_, hpi.set hl0 (hmlt _ (List.getElem_mem hrm))⟩
                · rw [upd_ne (ne_of_none e npa)]
                  exact (b9.trans b10) a o n e
                · obtain ⟨a1, a2, a3, a4, a5⟩ := T10
                  exact ⟨a1, a2, a3, by rw [upd_ne npt.symm]; exact a4, a5⟩
                · rw [upd_same, List.map_set]
                · rw [List.length_set]; exact hpl
                · intro y hy
                  rcases List.mem_or_eq_of_mem_set hy with h | h
                  · exact hps y h
                  · rw [h]; exact standL_lt (hmlt _ (List.getElem_mem hrm))
        · obtain ⟨ps, z6, z7, z8, z9, z10, z11, rfl, b4, T4, epa, hpl, hps, hpi⟩ := hP
          rw [List.length_map] at T4
          refine ⟨.ref pa, rfl, pa, _, rfl, .inl ⟨sqL epa, fun U nU => ⟨szl (show 2 ≤ 1000000 by decide), fun p2 np2 => ?_⟩⟩⟩
          have hS4 := hS2.bt b4 T4
          have sU := new_same (o := .tup (ps.map iv)) nU
          have sV := new_same (o := .tup [.str "meet", .ref U]) np2
          have mU := hS4.fresh nU
          have mV := (hS4.same sU).fresh np2
          have hS6 := (hS4.same sU).same sV
          have bF : But st.t H2 (upd (upd H4 U (.tup (ps.map iv))) p2 (.tup [.str "meet", .ref U])) := b4.trans (Same.but (sU.trans sV))
          have hRn : RowAt K (frz st.M (upd (upd H4 U (.tup (ps.map iv))) p2 (.tup [.str "meet", .ref U]))) (.ref p2) (.meet ps) := ⟨p2, _, rfl, sqT (frz_at upd_same mV), U, rfl, sqT (frz_at (sV _ _ upd_same) mU)⟩
          generalize upd (upd H4 U (.tup (ps.map iv))) p2 (.tup [.str "meet", .ref U]) = H6 at hS6 bF hRn
          obtain ⟨vc, hc1, hc2⟩ := hS6.rows
          have hcl : vc.length = rs.length := pd_len hc2
          refine ⟨.ref st.s, rfl, st.s, .ref st.r, rfl, dgOf hS6.ds (kvR (st.rw rs)), _, rfl, st.r, vc, _, i, rfl, rfl, hc1, ixN_nat (by omega), ?_⟩
          obtain ⟨hSF, bmF⟩ := hS6.setRow (i := i) hc1 hc2 hRn
          have bmA : Bm st.M H H6 := bm2.trans (Bm.of_but bF (tM st))
          have hmB2 : ∀ k, mB (rs.set i (.meet ps)) k = mB st.rows k := fun k => by
            rw [mB_set (by omega)]
            by_cases hki : k = i
            · rw [if_pos hki, hki, mB_at hr1]; rfl
            · rw [if_neg hki]; exact hmB k
          have hsR2 : ∀ k, mB st.rows k = false → (rs.set i (.meet ps))[k]? = st.rows[k]? := fun k hk => by
            have hki : i ≠ k := fun z => by
              rw [← z, mB_at hr1] at hk
              cases hk
            rw [List.getElem?_set_ne hki]
            exact hsR k hk
          have hst2 := stand_rw (st := st) (by rw [List.length_set]; exact hrl) hmB2 hsR2
          have hst1 := stand_rw (st := st) hrl hmB hsR
          refine ⟨rs.set i (.meet ps), _, _, _, _, _, _, _, _, _, _, rfl, bmA.trans bmF, hSF.bt (But.refl _ _) (hSF.tape.mono (by omega)), by rw [List.length_set]; exact hrl, ?_, ?_, ?_, ?_, hmB2, hsR2⟩
          · refine ⟨?_, hB1.b0, hB1.ab, hB1.w0, hB1.d0⟩
            show (rs.set i (.meet ps))[0]? = _
            rw [List.getElem?_set_ne hi0]
            exact hB1.r0
          · intro r hr
            rcases List.mem_or_eq_of_mem_set hr with h | h
            · exact hRB1 r h
            · rw [h]; exact ⟨hps, by omega⟩
          · have mr : cp ≠ st.r := fun z => mcp (by rw [z]; simp [Sta.M])
            rw [upd_ne mr]
            exact bF cp _ (fun z => mcp (z ▸ tM st)) ecp2
          · intro k ps' e
            have e' : (rs.set i (.meet ps))[k]? = some (.meet ps') := e
            show ∃ ld, st.leads[st.blocks.getD k 0]? = some ld ∧ _
            by_cases hki : k = i
            · subst hki
              have hkl : k < rs.length := by omega
              rw [List.getElem?_set_self hkl] at e'
              cases e'
              rw [hblk]
              exact ⟨ld, hld, hpl, hl1, hl2, hla, hpi.cast fun l y h => by rw [hst2]; exact h⟩
            · rw [List.getElem?_set_ne (Ne.symm hki)] at e'
              obtain ⟨ld', a1, a2, a3, a4, a5, a6⟩ := hMk k ps' e'
              exact ⟨ld', a1, a2, a3, a4, a5, a6.cast fun l y h => by rw [hst2]; rw [hst1] at h; exact h⟩
      · rw [if_neg hme]
        exact ⟨rs, _, _, _, _, _, _, _, _, _, _, rfl, bm2, hS2.bt (But.refl _ _) (hS2.tape.mono (by omega)), hrl, hB1, hRB1, ecp2, hMk, hmB, hsR⟩
    · obtain ⟨rs, y2, y3, y4, y5, y6, y7, y8, y9, y10, y11, rfl, bm, hS1, hrl, hB1, hRB1, ecp, hMk, hmB, hsR⟩ := hP
      rw [hvl] at hS1
      exact q H1 rs bm hS1 hrl hB1 hRB1 hMk hmB hsR
end
end Gn
set_option Elab.async false
set_option linter.all false
set_option maxRecDepth 100000
set_option maxHeartbeats 4000000
namespace Gn
open PySem PySem.Spec PyProof.Rows L2
/-! ### programs -/
inductive En | go (b : Nat) | iff (r b c : Nat) | fin
def En.names : En → List Nat
  | .go b => [b]
  | .iff _ b c => [b, c]
  | .fin => []
def EnAt (K : PySem.W.Frag) (H : Hp) (v : V) : En → Prop
  | .go b => ∃ p, v = .ref p ∧ SqT K H p [.str "go", iv b]
  | .iff r b c => ∃ p, v = .ref p ∧ SqT K H p [.str "if", iv r, iv b, iv c]
  | .fin => ∃ p, v = .ref p ∧ SqT K H p [.str "end"]
abbrev Blk := List Rw × En
def BlkAt (K : PySem.W.Frag) (H : Hp) (v : V) (b : Blk) : Prop := ∃ p ra ea vs, v = .ref p ∧ SqT K H p [.ref ra, ea] ∧ H ra = some (.lst vs) ∧ Paired (RowAt K H) vs b.1 ∧ EnAt K H ea b.2
def ProgAt (K : PySem.W.Frag) (H : Hp) (v : V) (pr : List Blk) : Prop := ∃ p bs, v = .ref p ∧ SqL K H p bs ∧ Paired (BlkAt K H) bs pr
def EnOk (m n : Nat) : En → Prop
  | .go b => 1 ≤ b ∧ b < m
  | .iff r b c => r < n ∧ 1 ≤ b ∧ b < m ∧ 1 ≤ c ∧ c < m ∧ b ≠ c
  | .fin => True
structure ProgOk (m n : Nat) (pr : List Blk) : Prop where
  len : pr.length = m
  rows : ∀ b ∈ pr, b.1.length ≤ n ∧ (∀ r ∈ b.1, RwB n r) ∧ EnOk m n b.2
def BlkI (K : PySem.W.Frag) (t fo : Addr) (H : Hp) (v : V) (b : Blk) : Prop := ∃ p ra ea vs, v = .ref p ∧ SqT K H p [.ref ra, ea] ∧ H ra = some (.lst vs) ∧ ra ≠ t ∧ ra ≠ fo ∧ Paired (RowAt K H) vs b.1 ∧ EnAt K H ea b.2
theorem EnAt.mv {K : PySem.W.Frag} {H H' : Hp} {v : V} {e : En} (h : EnAt K H v e) (g : ∀ {a : Addr} {xs : List V}, SqT K H a xs → SqT K H' a xs) : EnAt K H' v e := by
  cases e <;> (obtain ⟨p, h1, h2⟩ := h; exact ⟨p, h1, g h2⟩)
theorem BlkI.mv {K : PySem.W.Frag} {t fo : Addr} {H H' : Hp} {v : V} {b : Blk} (h : BlkI K t fo H v b) (g : ∀ {a : Addr} {xs : List V}, SqT K H a xs → SqT K H' a xs) (k : ∀ a o, a ≠ t → a ≠ fo → H a = some o → H' a = some o) : BlkI K t fo H' v b := by
  obtain ⟨p, ra, ea, vs, h1, h2, h3, h4, h5, h6, h7⟩ := h
  exact ⟨p, ra, ea, vs, h1, g h2, k _ _ h4 h5 h3, h4, h5, pd_mono h6 fun _ _ z => row_tups z g, h7.mv g⟩
theorem BlkI.out {K : PySem.W.Frag} {t fo : Addr} {H : Hp} {v : V} {b : Blk} (h : BlkI K t fo H v b) : BlkAt K H v b := by
  obtain ⟨p, ra, ea, vs, h1, h2, h3, h4, h5, h6, h7⟩ := h
  exact ⟨p, ra, ea, vs, h1, h2, h3, h6, h7⟩
/-! ### the state while it grows -/
theorem RwB.mono {n n' : Nat} {r : Rw} (h : RwB n r) (e : n ≤ n') : RwB n' r := by
  cases r with
  | take i => exact h
  | num z => exact h
  | bin b x y => exact ⟨Nat.lt_of_lt_of_le h.1 e, Nat.lt_of_lt_of_le h.2 e⟩
  | pick x ps => exact ⟨Nat.lt_of_lt_of_le h.1 e, fun y hy => Nat.lt_of_lt_of_le (h.2.1 y hy) e, h.2.2⟩
  | meet ps => exact ⟨fun y hy => Nat.lt_of_lt_of_le (h.1 y hy) e, h.2⟩
  | tell x => exact Nat.lt_of_lt_of_le h e
  | look rs x => exact ⟨Nat.lt_of_lt_of_le h.1 e, h.2⟩
  | lay rs x y => exact ⟨Nat.lt_of_lt_of_le h.1 e, Nat.lt_of_lt_of_le h.2.1 e, h.2.2⟩
/-- the rows that a row names, a meet's aside -/
def Rw.used : Rw → List Nat
  | .bin _ x y => [x, y]
  | .pick x ps => x :: ps
  | .tell x => [x]
  | .look _ x => [x]
  | .lay _ x y => [x, y]
  | _ => []
/-- what is named stands -/
def UsedIn (st : Sta) : Prop := ∀ (k : Nat) (r : Rw), st.rows[k]? = some r → ∀ y ∈ r.used, y < k ∧ y ∈ standL st (st.blocks.getD k 0)
theorem stand_put {st : Sta} {blk wi de l y : Nat} {row : Rw} (hlb : st.blocks.length = st.rows.length) (h : y ∈ standL st l) : y ∈ standL (st.put blk row wi de) l := by
  obtain ⟨h1, h2⟩ := List.mem_filter.mp h
  have hy := List.mem_range.mp h1
  refine List.mem_filter.mpr ⟨List.mem_range.mpr ?_, ?_⟩
  · show y < (st.rows ++ [row]).length
    rw [List.length_append]
    omega
  · show (decide ((st.blocks ++ [blk]).getD y 0 ∈ st.above.getD l []) && ((st.rows ++ [row]).getD y (.take 0)).worthy) = true
    have e1 : (st.blocks ++ [blk]).getD y 0 = st.blocks.getD y 0 := by rw [List.getD_eq_getElem?_getD, List.getD_eq_getElem?_getD, List.getElem?_append_left (by omega)]
    have e2 : (st.rows ++ [row]).getD y (.take 0) = st.rows.getD y (.take 0) := by rw [List.getD_eq_getElem?_getD, List.getD_eq_getElem?_getD, List.getElem?_append_left hy]
    rw [e1, e2]
    exact h2
theorem UsedIn.rw {st : Sta} {rs : List Rw} (h : UsedIn st) (hl : rs.length = st.rows.length) (hm : ∀ k, mB rs k = mB st.rows k) (hs : ∀ k, mB st.rows k = false → rs[k]? = st.rows[k]?) : UsedIn (st.rw rs) := fun k r e y hy => by
  have e' : rs[k]? = some r := e
  by_cases h1 : mB st.rows k = false
  · rw [hs k h1] at e'
    rw [stand_rw hl hm hs]
    exact h k r e' y hy
  · have h2 : mB rs k = true := by rw [hm]; simpa using h1
    rw [mB_at e'] at h2
    cases r <;> cases h2
    cases hy
theorem RwIn.used {ss : List Nat} {r : Rw} (h : RwIn ss r) : ∀ y ∈ r.used, y ∈ ss := fun y hy => by
  cases r with
  | take i => cases hy
  | num z => cases hy
  | bin b x z =>
    have : y = x ∨ y = z := by simpa [Rw.used] using hy
    rcases this with rfl | rfl
    · exact h.1
    · exact h.2
  | pick x ps =>
    rcases List.mem_cons.mp hy with rfl | hy
    · exact h.1
    · exact h.2.1 y hy
  | meet ps => cases hy
  | tell x => exact h.elim
  | look rs x =>
    rw [List.mem_singleton.mp hy]; exact h.1
  | lay rs x z =>
    have : y = x ∨ y = z := by simpa [Rw.used] using hy
    rcases this with rfl | rfl
    · exact h.1
    · exact h.2.1
structure Gd (st : Sta) (m : Nat) : Prop where
  ll : st.leads.length = m
  la : st.above.length = m
  ab : ∀ xs ∈ st.above, 0 ∈ xs
  lv : ∀ xs ∈ st.leads, xs.length ≤ 12 ∧ ∀ l ∈ xs, l < m
  wd : WD st
  mo : MeetOk st
  rb : ∀ r ∈ st.rows, RwB st.rows.length r
  su : UsedIn st
theorem Gd.put {st : Sta} {m blk wi de : Nat} {row : Rw} (h : Gd st m) (hlb : st.blocks.length = st.rows.length) (hr : RwB (st.rows.length + 1) row) (hm : ∀ ps, row = .meet ps → ∃ ld, st.leads[blk]? = some ld ∧ ps.length = ld.length ∧ 1 ≤ ld.length ∧ ld.length ≤ 12 ∧ (∀ l ∈ ld, l < st.above.length) ∧ PartsIn st ld ps) (hus : ∀ y ∈ row.used, y ∈ standL st blk)
    (h1 : 1 ≤ wi) (h2 : wi ≤ 24) (h3 : 1 ≤ de) (h4 : de ≤ 8) : Gd (st.put blk row wi de) m := by
  have el : (st.rows ++ [row]).length = st.rows.length + 1 := by rw [List.length_append, List.length_singleton]
  refine ⟨h.ll, h.la, h.ab, h.lv, ⟨fun x hx => ?_, fun x hx => ?_⟩, fun k ps e => ?_, fun r hr' => ?_, fun k r e y hy => ?_⟩
  · rcases List.mem_append.mp hx with q | q
    · exact h.wd.1 x q
    · rw [List.mem_singleton.mp q]; exact ⟨h1, h2⟩
  · rcases List.mem_append.mp hx with q | q
    · exact h.wd.2 x q
    · rw [List.mem_singleton.mp q]; exact ⟨h3, h4⟩
  · have e' : (st.rows ++ [row])[k]? = some (.meet ps) := e
    show ∃ ld, st.leads[(st.blocks ++ [blk]).getD k 0]? = some ld ∧ _
    by_cases hk : k < st.rows.length
    · rw [List.getElem?_append_left hk] at e'
      have eb : (st.blocks ++ [blk]).getD k 0 = st.blocks.getD k 0 := by
        rw [List.getD_eq_getElem?_getD, List.getD_eq_getElem?_getD, List.getElem?_append_left (by omega)]
      rw [eb]
      obtain ⟨ld, a1, a2, a3, a4, a5, a6⟩ := h.mo k ps e'
      exact ⟨ld, a1, a2, a3, a4, a5, a6.cast fun l y => stand_put hlb⟩
    · have hk2 : k = st.rows.length := by
        have := (List.getElem?_eq_some_iff.mp e').1
        omega
      subst hk2
      rw [List.getElem?_append_right (Nat.le_refl _), Nat.sub_self] at e'
      have er : row = .meet ps := Option.some.inj e'
      have eb : (st.blocks ++ [blk]).getD st.rows.length 0 = blk := by
        rw [← hlb, List.getD_eq_getElem?_getD, List.getElem?_append_right (Nat.le_refl _), Nat.sub_self]
        rfl
      rw [eb]
      obtain ⟨ld, a1, a2, a3, a4, a5, a6⟩ := hm ps er
      exact ⟨ld, a1, a2, a3, a4, a5, a6.cast fun l y => stand_put hlb⟩
  · show RwB (st.rows ++ [row]).length r
    rw [el]
    rcases List.mem_append.mp hr' with q | q
    · exact (h.rb r q).mono (Nat.le_succ _)
    · rw [List.mem_singleton.mp q]; exact hr
  · have e' : (st.rows ++ [row])[k]? = some r := e
    show y < k ∧ y ∈ standL (st.put blk row wi de) ((st.blocks ++ [blk]).getD k 0)
    by_cases hk : k < st.rows.length
    · rw [List.getElem?_append_left hk] at e'
      have eb : (st.blocks ++ [blk]).getD k 0 = st.blocks.getD k 0 := by
        rw [List.getD_eq_getElem?_getD, List.getD_eq_getElem?_getD, List.getElem?_append_left (by omega)]
      rw [eb]
      obtain ⟨a1, a2⟩ := h.su k r e' y hy
      exact ⟨a1, stand_put hlb a2⟩
    · have hk2 : k = st.rows.length := by
        have := (List.getElem?_eq_some_iff.mp e').1
        omega
      subst hk2
      rw [List.getElem?_append_right (Nat.le_refl _), Nat.sub_self] at e'
      have er : row = r := Option.some.inj e'
      have eb : (st.blocks ++ [blk]).getD st.rows.length 0 = blk := by
        rw [← hlb, List.getD_eq_getElem?_getD, List.getElem?_append_right (Nat.le_refl _), Nat.sub_self]
        rfl
      rw [eb]
      have := hus y (by rw [er]; exact hy)
      exact ⟨standL_lt this, stand_put hlb this⟩
theorem Bs.put {st : Sta} {blk wi de : Nat} {row : Rw} (h : Bs st) : Bs (st.put blk row wi de) := by
  have app : ∀ {α : Type} {xs : List α} {x y : α}, xs[0]? = some y → (xs ++ [x])[0]? = some y := fun {α xs x y} e => by
    rw [List.getElem?_append_left (List.getElem?_eq_some_iff.mp e).1]
    exact e
  exact ⟨app h.r0, app h.b0, h.ab, app h.w0, app h.d0⟩
theorem RwIn.rb {ss : List Nat} {n : Nat} {r : Rw} (h : RwIn ss r) (hl : ∀ y ∈ ss, y < n) : RwB n r := by
  cases r with
  | take i => exact h
  | num z => exact h
  | bin b x y => exact ⟨hl x h.1, hl y h.2⟩
  | pick x ps => exact ⟨hl x h.1, fun y hy => hl y (h.2.1 y hy), h.2.2.2, fun z => by have := h.2.2.1; rw [z] at this; simp at this⟩
  | meet ps => exact h.elim
  | tell x => exact h.elim
  | look rs x => exact ⟨hl x h.1, h.2⟩
  | lay rs x y => exact ⟨hl x h.1, hl y h.2.1, h.2.2⟩
theorem RwIn.nm {ss : List Nat} {r : Rw} (h : RwIn ss r) : ∀ ps, r ≠ .meet ps := fun ps e => by
  subst e
  exact h
structure PInv (K : PySem.W.Frag) (I H H1 : Hp) (st : Sta) (t bg nxa : Addr) (gs : List Nat) (nx : List (List Nat)) (m c : Nat) : Prop where
  ht : st.t = t
  hM : ∀ a ∈ st.M, a ≠ t → H a = none
  mb : bg ∉ st.M
  nb : H bg = none
  bt : But t H H1
  ok : StaOk K H1 st c
  gd : Gd st m
  bgl : H1 bg = some (.lst (gs.map iv))
  iS : Same I (frz st.M H1)
  ib : I bg = none
  idi : I st.s = some (.dK st.kv)
  iL : NL K I st.L st.leads
  iA : NL K I st.A st.above
  iN : NL K I nxa nx
variable {K : PySem.W.Frag} {I H H1 H2 : Hp} {st : Sta} {t bg nxa : Addr} {gs : List Nat} {nx : List (List Nat)} {m c c' : Nat}
theorem PInv.next (h : PInv K I H H1 st t bg nxa gs nx m c) {blk wi de : Nat} {row : Rw} (b : Bm st.M H1 H2) (ok : StaOk K H2 (st.put blk row wi de) c') (gd : Gd (st.put blk row wi de) m) :
    PInv K I H H2 (st.put blk row wi de) t bg nxa gs nx m c' := by
  refine ⟨h.ht, h.hM, h.mb, h.nb, fun a o n e => b a o (fun hm => ?_) (h.bt a o n e), ok, gd, b _ _ h.mb h.bgl, h.iS.trans b.frz, h.ib, h.idi, h.iL, h.iA, h.iN⟩
  rw [h.hM a hm n] at e
  cases e
theorem PInv.rws (h : PInv K I H H1 st t bg nxa gs nx m c) {rs : List Rw} (b : Bm st.M H1 H2) (ok : StaOk K H2 (st.rw rs) c') (gd : Gd (st.rw rs) m) : PInv K I H H2 (st.rw rs) t bg nxa gs nx m c' := by
  refine ⟨h.ht, h.hM, h.mb, h.nb, fun a o n e => b a o (fun hm => ?_) (h.bt a o n e), ok, gd, b _ _ h.mb h.bgl, h.iS.trans b.frz, h.ib, h.idi, h.iL, h.iA, h.iN⟩
  rw [h.hM a hm n] at e
  cases e
theorem PInv.draw (h : PInv K I H H1 st t bg nxa gs nx m c) (b : But t H1 H2) (T : Tape H2 t c') : PInv K I H H2 st t bg nxa gs nx m c' := by
  have et := h.ht
  subst et
  have bm := Bm.of_but b (tM st)
  exact ⟨rfl, h.hM, h.mb, h.nb, h.bt.trans b, h.ok.bt b T, h.gd, bm _ _ h.mb h.bgl, h.iS.trans bm.frz, h.ib, h.idi, h.iL, h.iA, h.iN⟩
theorem PInv.tape (h : PInv K I H H1 st t bg nxa gs nx m c) : Tape H1 t c := h.ht ▸ h.ok.tape
theorem PInv.same (h : PInv K I H H1 st t bg nxa gs nx m c) (e : Same H1 H2) : PInv K I H H2 st t bg nxa gs nx m c := h.draw (Same.but e) (h.tape.same e)
theorem PInv.mono (h : PInv K I H H1 st t bg nxa gs nx m c) (e : c ≤ c') : PInv K I H H1 st t bg nxa gs nx m c' := h.draw (But.refl _ _) (h.tape.mono e)
theorem PInv.nl (h : PInv K I H H1 st t bg nxa gs nx m c) : NL K H1 nxa nx := (h.iN.same h.iS).same (frz_same _ _)
theorem frz_upd {M : List Addr} {H : Hp} {b : Addr} {o : HO} (n : b ∉ M) : frz M (upd H b o) = upd (frz M H) b o := by
  funext a
  show (if a ∈ M then none else upd H b o a) = (if a = b then some o else if a ∈ M then none else H a)
  by_cases h : a ∈ M
  · rw [if_pos h, if_neg (fun z : a = b => n (z ▸ h)), if_pos h]
  · rw [if_neg h, if_neg h]
    rfl
theorem PInv.push (h : PInv K I H H1 st t bg nxa gs nx m c) (g' : List Nat) : PInv K I H (upd H1 bg (.lst (g'.map iv))) st t bg nxa g' nx m c := by
  have nm : ∀ a ∈ st.M, a ≠ bg := fun a ha z => h.mb (z ▸ ha)
  have k : ∀ a ∈ st.M, ∀ o, H1 a = some o → upd H1 bg (.lst (g'.map iv)) a = some o := fun a ha o e => by rw [upd_ne (nm a ha)]; exact e
  have iS : Same I (frz st.M (upd H1 bg (.lst (g'.map iv)))) := fun a o e => by
    rw [frz_upd h.mb, upd_ne (ne_of_none e h.ib)]
    exact h.iS a o e
  have tu : ∀ {a : Addr} {xs : List V}, SqT K (frz st.M H1) a xs → SqT K (frz st.M (upd H1 bg (.lst (g'.map iv)))) a xs := fun {a xs} z => by
    rw [frz_upd h.mb]
    exact tup_upd z (frz_at h.bgl h.mb)
  obtain ⟨vs, v1, v2⟩ := h.ok.rows
  obtain ⟨x, y, z, t1, t2⟩ := h.ok.tape
  refine ⟨h.ht, h.hM, h.mb, h.nb, fun a o n e => ?_, ⟨h.ok.nd, ⟨x, y, z, k _ (tM st) _ t1, t2⟩, iS _ _ h.idi, ⟨vs, k _ (by simp [Sta.M]) _ v1, pd_mono v2 fun _ _ q => row_tups q tu⟩, k _ (by simp [Sta.M]) _ h.ok.blocks, k _ (by simp [Sta.M]) _ h.ok.wide, k _ (by simp [Sta.M]) _ h.ok.deep,
    h.iL.same iS, h.iA.same iS, h.ok.lb, h.ok.lw, h.ok.ld, tu h.ok.caps⟩, h.gd, upd_same, iS, h.ib, h.idi, h.iL, h.iA, h.iN⟩
  rw [upd_ne (ne_of_none e h.nb)]
  exact h.bt a o n e
end Gn
set_option Elab.async false
set_option linter.all false
set_option maxRecDepth 100000
set_option maxHeartbeats 4000000
set_option pp.maxSteps 300
namespace Gn
open PySem PySem.Spec PyProof.Rows L2
/-! ### told_size, chooser -/
def spToldSize (K : PySem.W.Frag) : Sp := fun vs H Q _ => ∃ (st : Sta) (c kk : Nat) (b : Bk) (x y : Nat), vs = [.ref st.s, iv kk] ∧ StaOk K H st c ∧ st.rows[kk]? = some (.bin b x y) ∧ x < st.rows.length ∧ y < st.rows.length ∧
  ∀ (z : Int) (H' : Hp), Same H H' → Q (.int z) H'
abbrev nTs : List Str := ["_law_state", "_law_k", "_law_one", "_law_other", "_law_powers"]
theorem scTs : FnScope nTs ["_law_state", "_law_k"] (defScope sToldSize) := ⟨rfl, rfl, rfl, by decide +kernel, rfl, by decide +kernel, by decide +kernel⟩
/-- but for two -/
def But2 (t s : Addr) (H H' : Hp) : Prop := ∀ a o, a ≠ t → a ≠ s → H a = some o → H' a = some o
theorem But2.of_but {t s : Addr} {H H' : Hp} (b : But t H H') : But2 t s H H' := fun a o n _ e => b a o n e
theorem But2.trans {t s : Addr} {H H1 H2 : Hp} (a : But2 t s H H1) (b : But2 t s H1 H2) : But2 t s H H2 := fun x o n m h => b x o n m (a x o n m h)
theorem But2.upd {t s : Addr} {H : Hp} {o : HO} : But2 t s H (upd H s o) := fun a u _ n h => by rw [upd_ne n]; exact h
def spChooser (K : PySem.W.Frag) : Sp := fun vs H Q _ => ∃ (st : Sta) (c i : Nat) (sa : Addr), vs = [.ref st.t, .ref st.s, .ref sa] ∧ StaOk K H st c ∧ Bs st ∧ (∀ r ∈ st.rows, RwB st.rows.length r) ∧ i < st.above.length ∧ c + 10 ≤ 100000000 ∧ st.rows.length ≤ 900 ∧ SqL K (frz st.M H) sa ((standL st i).map iv) ∧
  ∀ (r f : Nat) (H' : Hp), r ∈ standL st i → But2 st.t st.s H H' → Tape H' st.t (c + 3) → H' st.s = some (.dK (Sta.kv { st with few := f })) → Q (iv r) H'
abbrev nCh : List Str := ["_law_tape_here", "_law_state", "_law_some", "_law_fine", "_law_more", "_law_k", "_law_size", "_law_tests"]
theorem scCh : FnScope nCh ["_law_tape_here", "_law_state", "_law_some"] (defScope sChooser) := ⟨rfl, rfl, rfl, by decide +kernel, rfl, by decide +kernel, by decide +kernel⟩
theorem rep01 (c : Bool) (k : Nat) : ∃ rl : List Nat, (List.replicate (Int.toNat (if c = true then (1 : Int) else 0)) [iv k]).flatten = rl.map iv ∧ (∀ y ∈ rl, y = k) ∧ rl.length ≤ 1 := by
  cases c
  · exact ⟨[], rfl, fun y h => (by cases h), by decide⟩
  · exact ⟨[k], rfl, fun y h => List.mem_singleton.mp h, Nat.le_refl 1⟩
theorem and_any {ta tb : TE} {σ : L2.St} {H : Hp} {Q : VK} (ha : ∀ R : VK, (∀ c, R (.bl c) H) → ta σ H R) (hb : ∀ R : VK, (∀ c, R (.bl c) H) → tb σ H R) (k : ∀ c, Q (.bl c) H) : tAndV ta tb σ H Q :=
  ha _ fun c => ⟨c, rfl, by
    cases c with
    | false => exact k false
    | true => exact hb _ k⟩
theorem same_is {r : Rw} (h : decide (V.str r.w = V.str "same") = true) : ∃ x y, r = .bin .same x y := by
  cases r with
  | bin b x y => cases b <;> first | exact ⟨x, y, rfl⟩ | cases (show false = true from h)
  | take _ => cases (show false = true from h)
  | num _ => cases (show false = true from h)
  | pick _ _ => cases (show false = true from h)
  | meet _ => cases (show false = true from h)
  | tell _ => cases (show false = true from h)
  | look _ _ => cases (show false = true from h)
  | lay _ _ _ => cases (show false = true from h)
theorem few_same {st : Sta} {f : Nat} : putK st.kv (Sum.inr "few") (iv f) = Sta.kv { st with few := f } := by rfl
section
variable {P : Program} {w : World} {K : PySem.W.Frag} {mg : Str → Option Value} {base : Heap}
theorem ok_toldSize {f : Addr} {fd : FuncData} {k : Nat} (D : Df K mg "_law_told_size" sToldSize ["_law_state", "_law_k"] f fd) : FnOk P w K mg base CX0 (k + 1) f fd ["_law_state", "_law_k"] (spToldSize K) := by
  refine D.F.ok scTs (fun vs H Q E h => ?_) (fun cdv A outer s H vs Q E hr h => ?_)
  · obtain ⟨st, c, kk, b, x, y, rfl, _⟩ := h
    rfl
  · obtain ⟨st, c, kk, b, x, y, rfl, hS, hrow, hx, hy, q⟩ := h
    have hu := hu_of hr
    refine ⟨_, (pss_cons (ps_asg (pe_slice sl_tup (pe_ix ix_list (pe_dget hu (pv 0) pe_str (fun _ _ => rfl)) (pv 1) (fun _ _ => rfl)) (po_some pe_int) po_none) (pg_tup rfl (pgs_cons (pg_name (i := 2) scTs.nd rfl (.inl rfl)) (pgs_cons (pg_name (i := 3) scTs.nd rfl (.inl rfl)) pgs_nil))))
      (pss_cons (ps_set (i := 4) scTs.nd rfl (.inl rfl) (pe_op op_sub (pe_op op_add (pe_ix ix_list (pe_dget hu (pv 0) pe_str (fun _ _ => rfl)) (pv 2) (fun _ _ => rfl)) (pe_ix ix_list (pe_dget hu (pv 0) pe_str (fun _ _ => rfl)) (pv 3) (fun _ _ => rfl))) pe_int))
      (pss_one (ps_ret (pe_op op_add (pe_op op_add (pe_ix ix_list (pe_dget hu (pv 0) pe_str (fun _ _ => rfl)) (pv 2) (fun _ _ => rfl)) (pe_ix ix_list (pe_dget hu (pv 0) pe_str (fun _ _ => rfl)) (pv 3) (fun _ _ => rfl))) (pe_op op_mul pe_int (pv 4))))))), ?_⟩
    obtain ⟨vs, hv1, hv2⟩ := hS.rows
    obtain ⟨v, hvk, p, xs, rfl, hp1, hp2⟩ := pd_at hv2 hrow
    have hp2 : xs = [iv x, iv y] := hp2
    subst hp2
    refine ⟨.ref st.s, rfl, st.s, .ref st.r, rfl, dgOf hS.ds (kvR st), iv kk, rfl, st.r, vs, _, .ref p, rfl, rfl, sqL hv1, atI_nat hvk, 1, rfl, p, _, rfl, Same.tup (frz_same _ _) hp1, cut_not _ _, fun S nS => ?_⟩
    rw [cut_one]
    have sS := new_same (o := .tup [iv x, iv y]) nS
    have eS : upd H S (.tup [iv x, iv y]) S = some (.tup [iv x, iv y]) := upd_same
    generalize upd H S (.tup [iv x, iv y]) = H1 at sS eS
    have hS1 := hS.same sS
    have hxd : x < st.deep.length := by rw [hS.ld]; exact hx
    have hyd : y < st.deep.length := by rw [hS.ld]; exact hy
    have hxw : x < st.wide.length := by rw [hS.lw]; exact hx
    have hyw : y < st.wide.length := by rw [hS.lw]; exact hy
    refine ⟨S, _, rfl, sqT eS, rfl, _, _, rfl, _, _, rfl, rfl, ?_⟩
    refine ⟨.ref st.s, rfl, st.s, .ref st.d, rfl, dgOf hS1.ds (kvD st), _, rfl, st.d, _, _, _, rfl, rfl, sqL hS1.deep, at_iv hxd, ?_⟩
    refine ⟨.ref st.s, rfl, st.s, .ref st.d, rfl, dgOf hS1.ds (kvD st), _, rfl, st.d, _, _, _, rfl, rfl, sqL hS1.deep, at_iv hyd, ?_⟩
    refine ⟨_, _, rfl, rfl, _, _, rfl, rfl, ?_⟩
    refine ⟨.ref st.s, rfl, st.s, .ref st.w, rfl, dgOf hS1.ds (kvW st), _, rfl, st.w, _, _, _, rfl, rfl, sqL hS1.wide, at_iv hxw, ?_⟩
    refine ⟨.ref st.s, rfl, st.s, .ref st.w, rfl, dgOf hS1.ds (kvW st), _, rfl, st.w, _, _, _, rfl, rfl, sqL hS1.wide, at_iv hyw, ?_⟩
    refine ⟨_, _, rfl, rfl, _, rfl, _, _, rfl, rfl, .inl ⟨by decide, by decide⟩, _, _, rfl, rfl, q _ H1 sS⟩
theorem ok_chooser {f fD fT : Addr} {fd fdD fdT : FuncData} {k : Nat} (D : Df K mg "_law_chooser" sChooser ["_law_tape_here", "_law_state", "_law_some"] f fd) (B : Bi mg)
    (DD : Df K mg "_law_draw" sDraw ["_law_tape_here", "_law_many"] fD fdD) (GD : FnOk P w K mg base CX0 k fD fdD ["_law_tape_here", "_law_many"] spDraw)
    (DT : Df K mg "_law_told_size" sToldSize ["_law_state", "_law_k"] fT fdT) (GT : FnOk P w K mg base CX0 k fT fdT ["_law_state", "_law_k"] (spToldSize K)) : FnOk P w K mg base CX0 (k + 1) f fd ["_law_tape_here", "_law_state", "_law_some"] (spChooser K) := by
  refine D.F.ok scCh (fun vs H Q E h => ?_) (fun cdv A outer s H vs Q E hr h => ?_)
  · obtain ⟨st, c, i, sa, rfl, _⟩ := h
    rfl
  · obtain ⟨st, c, i, sa, rfl, hS, hB, hRB, hi, hc, hl, hsa, q⟩ := h
    have hu := hu_of hr
    refine ⟨_, (pss_cons (ps_par (i := 3) (j := 4) (by rfl) scCh.nd rfl rfl (by decide) rfl rfl (pa_cons (pe_lst pa_nil) (pa_cons (pe_lst pa_nil) pa_nil)) (by rfl))
      (pss_cons (ps_for PassesOwn.never rfl (pi_list (pv 2)) (pg_name (i := 5) scCh.nd rfl (.inl rfl)) (pss_one (ps_if (pt_cmpR op_eq (pe_ix ix_tup (pe_ix ix_list (pe_dget hu (pv 1) pe_str (fun _ _ => rfl)) (pv 5) (fun _ _ => rfl)) pe_int (fun _ _ => rfl)) pe_str (nomark _))
        (pss_cons (ps_set (i := 6) scCh.nd rfl (.inl rfl) (pe_call GT hr (by rfl) DT.g DT.F.kp DT.b .nil pass0 (pa_cons (pv 1) (pa_cons (pv 5) pa_nil))))
      (pss_cons (ps_set (i := 3) scCh.nd rfl (.inl rfl) (pe_op op_cat (pv 3) (pe_op op_rep (pe_lst (pa_cons (pv 5) pa_nil)) (pe_callTy call_int1 (by rfl) B.int PyProof.Rows.boot_int (pa_cons (pe_cmpR op_eq (pv 6) pe_int (nomark _)) pa_nil)))))
      (pss_one (ps_set (i := 4) scCh.nd rfl (.inl rfl) (pe_op op_cat (pv 4) (pe_op op_rep (pe_lst (pa_cons (pv 5) pa_nil)) (pe_callTy call_int1 (by rfl) B.int PyProof.Rows.boot_int (pa_cons (pe_and (pe_cmpR op_eq (pv 6) pe_int (nomark _)) (pe_one (pe_cmpR op_lt (pe_dget hu (pv 1) pe_str (fun _ _ => rfl)) pe_int (nomark _)))) pa_nil))))))))
        (pss_one (ps_if (pw_and (pt_cmpR op_eq (pe_ix ix_list (pe_dget hu (pv 1) pe_str (fun _ _ => rfl)) (pv 5) (fun _ _ => rfl)) pe_int (nomark _)) (pw_and1 (pt_cmpR op_lt (pe_ix ix_list (pe_dget hu (pv 1) pe_str (fun _ _ => rfl)) (pv 5) (fun _ _ => rfl)) pe_int (nomark _)))).pt (pss_one (ps_expr (pe_bm PySem.F.plainAttrs_list PySem.F.slot_list_append PySem.F.type_list_append mt_append (pv 3) (pa_cons (pv 5) pa_nil)))) pss_nil)))))
      (Evl.pss_cut (ps_if (pw_and (pt_cmpR (op_neD hr.units) (pv 4) (pe_lst pa_nil) (nomark _)) (pw_and1 (pt_cmpR op_eq (pe_call GD hr (by rfl) DD.g DD.F.kp DD.b .nil pass0 (pa_cons (pv 0) (pa_cons pe_int pa_nil))) pe_int (nomark _)))).pt (pss_cons (ps_dput hu (pv 1) pe_str (pe_op op_add (pe_dget hu (pv 1) pe_str (fun _ _ => rfl)) pe_int) rfl)
      (pss_one (ps_ret (pe_ix ix_list (pv 4) (pe_call GD hr (by rfl) DD.g DD.F.kp DD.b .nil pass0 (pa_cons (pv 0) (pa_cons (pe_callB call_len_seq (by rfl) B.len PySem.boot_len (pa_cons (pv 4) pa_nil)) pa_nil))) (fun _ _ => rfl))))) pss_nil)
      (pss_cons (ps_setLc (i := 7) (own := [("_law_k", 5)]) (g := gName 5) (tt := tIn K (tIxT K (tIxL K (tDGet (tVar 1) (tC (.str "rows"))) (tVar 5)) (tC (.int 0))) (tTup (tCons (tC (.str "same")) (tCons (tC (.str "below")) tNil)))) (te := tVar 5) (by rfl) scCh.nd rfl rfl (sw_true rfl rfl rfl (by decide +kernel)) (pi_list (pv 3)) (blkOk_by (own := [("_law_k", 5)]) (N := nCh) (sc := defScope sChooser) (by decide +kernel)) (fun _ _ _ _ _ => (pg_name (i := 5) scCh.nd rfl (.inl rfl))) (fun _ _ _ _ _ => pts_one (pt_cmpR op_in_seq (pe_ix ix_tup (pe_ix ix_list (pe_dget hu (pv 1) pe_str (fun _ _ => rfl)) (pv 5) (fun _ _ => rfl)) pe_int (fun _ _ => rfl)) (pe_tup (pa_cons pe_str (pa_cons pe_str pa_nil))) rfl)) (fun _ _ _ _ _ => pv 5))
      (pss_cons (ps_if (pw_and (pt_cmpR (op_neD hr.units) (pv 7) (pe_lst pa_nil) (nomark _)) (pw_and1 (pt_cmpR op_gt (pe_call GD hr (by rfl) DD.g DD.F.kp DD.b .nil pass0 (pa_cons (pv 0) (pa_cons pe_int pa_nil))) pe_int (nomark _)))).pt (pss_one (ps_ret (pe_ix ix_list (pv 7) (pe_call GD hr (by rfl) DD.g DD.F.kp DD.b .nil pass0 (pa_cons (pv 0) (pa_cons (pe_callB call_len_seq (by rfl) B.len PySem.boot_len (pa_cons (pv 7) pa_nil)) pa_nil))) (fun _ _ => rfl)))) pss_nil)
      (pss_one (ps_ret (pe_ix ix_list (pv 3) (pe_call GD hr (by rfl) DD.g DD.F.kp DD.b .nil pass0 (pa_cons (pv 0) (pa_cons (pe_callB call_len_seq (by rfl) B.len PySem.boot_len (pa_cons (pv 3) pa_nil)) pa_nil))) (fun _ _ => rfl))))))))), ?_⟩
    have h0S : 0 ∈ standL st i := hB.st0 hi
    have hlt : ∀ y ∈ standL st i, y < st.rows.length := fun y h => standL_lt h
    have hsl := standL_len st i
    generalize standL st i = ss at q hsa h0S hlt hsl
    have nts : st.s ≠ st.t := fun z => frz_mem hS.dict (by rw [z]; exact tM st)
    have hsaH : SqL K H sa (ss.map iv) := (frz_same _ _).seq hsa
    obtain ⟨vs, hv1, hv2⟩ := hS.rows
    have hvl : vs.length = st.rows.length := pd_len hv2
    refine ⟨Nat.zero_le _, fun fa nfa => ?_⟩
    have s1 := new_same (o := .lst []) nfa
    have e1 : upd H fa (.lst []) fa = some (.lst []) := upd_same
    generalize upd H fa (.lst []) = H1 at s1 e1
    refine ⟨Nat.zero_le _, fun ma nma => ?_⟩
    have s2 := new_same (o := .lst []) nma
    have e2 : upd H1 ma (.lst []) ma = some (.lst []) := upd_same
    have hne : fa ≠ ma := ne_of_none e1 nma
    have nmH : H ma = none := s1.free nma
    have e1' := s2 _ _ e1
    have s12 := s1.trans s2
    generalize upd H1 ma (.lst []) = H2 at s2 e2 e1' s12
    refine ⟨_, _, rfl, ?_⟩
    have e1T := e1'
    have e2T := e2
    have sHT := s12
    refine ⟨.ref sa, rfl, sa, rfl, ⟨_, sHT.seq hsaH⟩, ?_⟩
    refine for_list (K := K) (a := sa) (xs := ss.map iv) (fun n σ Hx => ∃ (fx mx : Addr) (fs ms : List Nat) (y5 y6 : Option V), σ = [some (.ref st.t), some (.ref st.s), some (.ref sa), some (.ref fx), some (.ref mx), y5, y6, none] ∧ Same H Hx ∧ H fx = none ∧ H mx = none ∧ fx ≠ mx ∧
      Hx fx = some (.lst (fs.map iv)) ∧ Hx mx = some (.lst (ms.map iv)) ∧ (∀ y ∈ fs, y ∈ ss) ∧ (∀ y ∈ ms, y ∈ ss) ∧ fs.length ≤ n ∧ ms.length ≤ n ∧ ∀ j, j < n → ss[j]? = some 0 → fs ≠ [])
      ⟨fa, ma, [], [], none, none, rfl, sHT, nfa, nmH, hne, e1T, e2T, fun y h => (by cases h), fun y h => (by cases h), Nat.le_refl _, Nat.le_refl _, fun j hj => absurd hj (Nat.not_lt_zero _)⟩ (fun n σ Hx _ hP => ?_) (fun n x σ Hx hx hP => ?_) (fun σ Hx hP => ?_)
    · obtain ⟨_, _, _, _, _, _, _, sx, _⟩ := hP
      exact sx.seq hsaH
    · obtain ⟨fx, mx, fs, ms, y5, y6, rfl, sx, nfx, nmxH, nfm, ef, em, hfs, hms, hfl, hml, hz⟩ := hP
      rw [List.getElem?_map] at hx
      obtain ⟨kk, hkk, rfl⟩ := Option.map_eq_some_iff.mp hx
      have hkm : kk ∈ ss := List.mem_of_getElem? hkk
      have hkl := hlt kk hkm
      have hnl := (List.getElem?_eq_some_iff.mp hkk).1
      have hrow := gdl (d := Rw.take 0) hkl
      obtain ⟨v, hvk, p, xs, rfl, hp1, hp2⟩ := pd_at hv2 hrow
      have hSx := hS.same sx
      refine ⟨.ref st.s, rfl, st.s, .ref st.r, rfl, dgOf hSx.ds (kvR st), iv kk, rfl, st.r, vs, _, .ref p, rfl, rfl, sqL (sx _ _ hv1), atI_nat hvk, p, _, _, _, rfl, rfl, Same.tup sx (Same.tup (frz_same _ _) hp1), atI_nat (j := 0) rfl, rfl, _, rfl, ?_⟩
      generalize st.rows.getD kk (.take 0) = row at hrow hp1 hp2
      show if decide (V.str row.w = V.str "same") = true then _ else _
      refine ite2 (fun e => ?_) (fun e => ?_)
      · obtain ⟨x, y, rfl⟩ := same_is e
        have hb := hRB _ (List.mem_of_getElem? hrow)
        refine ⟨.ref st.s, rfl, iv kk, rfl, st, c, kk, .same, x, y, rfl, hSx, hrow, hb.1, hb.2, fun z Hy sy => ?_⟩
        have sHy := sx.trans sy
        have ef2 := sy _ _ ef
        have em2 := sy _ _ em
        refine ⟨.ref fx, rfl, iv kk, rfl, szl (show 1 ≤ 1000000 by decide), fun l nl => ⟨.int z, rfl, rfl, .inr ⟨_, rfl, ?_⟩⟩⟩
        obtain ⟨rl, hrl, hrl2, hrl3⟩ := rep01 (decide (V.int z = V.int 2)) kk
        have sl := new_same (o := .lst [iv kk]) nl
        have hb01 : ∀ b : Bool, -(2 ^ 63) ≤ (if b = true then (1 : Int) else 0) ∧ (if b = true then (1 : Int) else 0) < 2 ^ 63 ∧ 1 * (if b = true then (1 : Int) else 0).toNat ≤ 1 := by decide
        refine ⟨l, _, _, rfl, rfl, upd_same, (hb01 _).1, (hb01 _).2.1, szl (Nat.le_trans (hb01 _).2.2 (by decide)), fun p2 np2 => ?_⟩
        rw [hrl]
        have sp2 := new_same (o := .lst (rl.map iv)) np2
        have ep2 : upd (upd Hy l (.lst [iv kk])) p2 (.lst (rl.map iv)) p2 = some (.lst (rl.map iv)) := upd_same
        have ef3 := sp2 _ _ (sl _ _ ef2)
        have em3 := sp2 _ _ (sl _ _ em2)
        have sH3 := (sHy.trans sl).trans sp2
        generalize upd (upd Hy l (.lst [iv kk])) p2 (.lst (rl.map iv)) = Hz at ep2 ef3 em3 sH3 sp2
        refine ⟨fx, p2, _, _, rfl, rfl, ef3, ep2, by rw [List.length_map, List.length_map]; exact szl (by omega), fun p3 np3 => ?_⟩
        rw [← List.map_append]
        have sp3 := new_same (o := .lst ((fs ++ rl).map iv)) np3
        have ep3 : upd Hz p3 (.lst ((fs ++ rl).map iv)) p3 = some (.lst ((fs ++ rl).map iv)) := upd_same
        have em4 := sp3 _ _ em3
        have sH4 := sH3.trans sp3
        have np3H : H p3 = none := sH3.free np3
        generalize upd Hz p3 (.lst ((fs ++ rl).map iv)) = Hw at ep3 em4 sH4
        refine ⟨.ref mx, rfl, iv kk, rfl, szl (show 1 ≤ 1000000 by decide), fun l2 nl2 => ?_⟩
        have sl2 := new_same (o := .lst [iv kk]) nl2
        have el2 : upd Hw l2 (.lst [iv kk]) l2 = some (.lst [iv kk]) := upd_same
        have sH5 := sH4.trans sl2
        have ep4 := sl2 _ _ ep3
        have em5 := sl2 _ _ em4
        generalize upd Hw l2 (.lst [iv kk]) = Hv at el2 sH5 ep4 em5
        have hS5 := hS.same sH5
        refine and_any (fun R r => ⟨.int z, rfl, rfl, r _⟩) (fun R r => ⟨.ref st.s, rfl, st.s, _, rfl, dgOf hS5.ds (kvF st), _, _, rfl, rfl, r _⟩) fun cc => .inr ⟨_, rfl, ?_⟩
        obtain ⟨rl2, hrl4, hrl5, hrl6⟩ := rep01 cc kk
        refine ⟨l2, _, _, rfl, rfl, el2, (hb01 _).1, (hb01 _).2.1, szl (Nat.le_trans (hb01 _).2.2 (by decide)), fun p5 np5 => ?_⟩
        rw [hrl4]
        have sp5 := new_same (o := .lst (rl2.map iv)) np5
        have ep5 : upd Hv p5 (.lst (rl2.map iv)) p5 = some (.lst (rl2.map iv)) := upd_same
        have ep6 := sp5 _ _ ep4
        have em6 := sp5 _ _ em5
        have sH6 := sH5.trans sp5
        generalize upd Hv p5 (.lst (rl2.map iv)) = Hu at ep5 ep6 em6 sH6
        refine ⟨mx, p5, _, _, rfl, rfl, em6, ep5, by rw [List.length_map, List.length_map]; exact szl (by omega), fun p7 np7 => ?_⟩
        rw [← List.map_append]
        have sp7 := new_same (o := .lst ((ms ++ rl2).map iv)) np7
        refine ⟨p3, p7, fs ++ rl, ms ++ rl2, _, _, rfl, sH6.trans sp7, np3H, sH6.free np7, ne_of_none ep6 np7, sp7 _ _ ep6, upd_same, fun y hy => ?_, fun y hy => ?_, by rw [List.length_append]; omega, by rw [List.length_append]; omega, fun j hj hj0 => ?_⟩
        · rcases List.mem_append.mp hy with h | h
          · exact hfs y h
          · rw [hrl2 y h]; exact hkm
        · rcases List.mem_append.mp hy with h | h
          · exact hms y h
          · rw [hrl5 y h]; exact hkm
        · by_cases hjn : j < n
          · have := hz j hjn hj0
            intro h
            exact this (List.append_eq_nil_iff.mp h).1
          · have hj2 : j = n := by omega
            rw [hj2, hkk] at hj0
            rw [Option.some.inj hj0, hB.r0] at hrow
            cases hrow
      · have hkd : kk < st.deep.length := by rw [hS.ld]; exact hkl
        have hkw : kk < st.wide.length := by rw [hS.lw]; exact hkl
        have keep : (ss[n]? = some 0 → False) → ∃ (fx' mx' : Addr) (fs' ms' : List Nat) (y5' y6' : Option V), [some (.ref st.t), some (.ref st.s), some (.ref sa), some (.ref fx), some (.ref mx), some (iv kk), y6, none] = [some (.ref st.t), some (.ref st.s), some (.ref sa), some (.ref fx'), some (.ref mx'), y5', y6', none] ∧ Same H Hx ∧ H fx' = none ∧ H mx' = none ∧ fx' ≠ mx' ∧
            Hx fx' = some (.lst (fs'.map iv)) ∧ Hx mx' = some (.lst (ms'.map iv)) ∧ (∀ y ∈ fs', y ∈ ss) ∧ (∀ y ∈ ms', y ∈ ss) ∧ fs'.length ≤ n + 1 ∧ ms'.length ≤ n + 1 ∧ ∀ j, j < n + 1 → ss[j]? = some 0 → fs' ≠ [] := fun hno =>
          ⟨fx, mx, fs, ms, _, _, rfl, sx, nfx, nmxH, nfm, ef, em, hfs, hms, by omega, by omega, fun j hj hj0 => hz j (by
            by_cases hjn : j = n
            · rw [hjn] at hj0; exact (hno hj0).elim
            · omega) hj0⟩
        refine ⟨.ref st.s, rfl, st.s, .ref st.d, rfl, dgOf hSx.ds (kvD st), iv kk, rfl, st.d, _, _, _, rfl, rfl, sqL hSx.deep, at_iv hkd, rfl, _, rfl, ite2 (fun e2 => ?_) (fun e2 => keep fun h0 => ?_)⟩
        · refine ⟨.ref st.s, rfl, st.s, .ref st.w, rfl, dgOf hSx.ds (kvW st), iv kk, rfl, st.w, _, _, _, rfl, rfl, sqL hSx.wide, at_iv hkw, _, _, rfl, rfl, _, rfl, ite2 (fun e3 => ?_) (fun e3 => keep fun h0 => ?_)⟩
          · refine ⟨.ref fx, rfl, .inl ⟨rfl, _, sqL ef⟩, iv kk, rfl, fx, _, _, rfl, rfl, ef, by rw [List.length_map]; exact szt (by omega), ?_⟩
            refine ⟨fx, mx, fs ++ [kk], ms, _, _, rfl, Same.upd sx nfx, nfx, nmxH, nfm, by rw [upd_same, List.map_append]; rfl, by rw [upd_ne (Ne.symm nfm)]; exact em, fun y hy => ?_, hms, by rw [List.length_append, List.length_singleton]; omega, by omega, fun j hj hj0 => by simp⟩
            rcases List.mem_append.mp hy with h | h
            · exact hfs y h
            · rw [List.mem_singleton.mp h]; exact hkm
          · rw [hkk] at h0
            have h1 := Option.some.inj h0
            subst h1
            have h2 : st.wide[0] = 1 := by
              have := hB.w0
              rw [List.getElem?_eq_getElem hkw] at this
              exact Option.some.inj this
            rw [h2] at e3
            exact e3 rfl
        · rw [hkk] at h0
          have h1 := Option.some.inj h0
          subst h1
          have h2 : st.deep[0] = 1 := by
            have := hB.d0
            rw [List.getElem?_eq_getElem hkd] at this
            exact Option.some.inj this
          rw [h2] at e2
          exact e2 rfl
    · obtain ⟨fx, mx, fs, ms, y5, y6, rfl, sx, nfx, nmxH, nfm, ef, em, hfs, hms, hfl, hml, hz⟩ := hP
      rw [List.length_map] at hfl hml
      have hfne : fs ≠ [] := by
        obtain ⟨j, hj, hj2⟩ := List.mem_iff_getElem.mp h0S
        exact hz j (by rw [List.length_map]; exact hj) (by rw [List.getElem?_eq_getElem hj, hj2])
      have hSx := hS.same sx
      have nft : fx ≠ st.t := hS.tape.ne nfx
      have nmx : mx ≠ st.t := hS.tape.ne nmxH
      have nms : mx ≠ st.s := (ne_of_none hS.ds nmxH).symm
      have nfs : fx ≠ st.s := (ne_of_none hS.ds nfx).symm
      have hkvl : (Sta.kv st).length < sizeLine := szt (show 8 < 1000000 by decide)
      refine ⟨fun σ Hy => σ = [some (.ref st.t), some (.ref st.s), some (.ref sa), some (.ref fx), some (.ref mx), y5, y6, none] ∧ But st.t H Hy ∧ Tape Hy st.t (c + 1) ∧ Hy fx = some (.lst (fs.map iv)), ?_, fun σ Hy hM => ?_⟩
      · refine ⟨.ref mx, rfl, Nat.zero_le _, fun l nl => ?_⟩
        have sl := new_same (o := .lst []) nl
        have el : upd Hx l (.lst []) l = some (.lst []) := upd_same
        have em2 := sl _ _ em
        have ef2 := sl _ _ ef
        have sx2 := sx.trans sl
        generalize upd Hx l (.lst []) = Hy at sl el em2 ef2 sx2
        have hSy := hS.same sx2
        refine ⟨_, .list [], .lst (sqL em2) (dp_nats ms), .lst (sqL el) .nil, sh_nats _, sh_nil, _, rfl, ?_⟩
        show if (!PyData.eqv (.list _) (.list [])) = true then _ else _
        rw [eqv_nil]
        refine ite2 (fun e => ?_) (fun e => ⟨rfl, Same.but sx2, hSy.tape.mono (by omega), ef2⟩)
        have hmp : 0 < ms.length := by
          cases ms with
          | nil => cases e
          | cons _ _ => exact Nat.succ_pos _
        refine ⟨.ref st.t, rfl, st.t, 2, c, rfl, hSy.tape, by omega, by decide, by decide, fun r1 H4 h4 b4 T4 => ⟨rfl, _, rfl, ite2 (fun e => ?_) (fun e => ⟨rfl, (Same.but sx2).trans b4, T4, b4 _ _ nft ef2⟩)⟩⟩
        have hS4 := hSy.bt b4 T4
        have em4 := b4 _ _ nmx em2
        refine ⟨.ref st.s, rfl, st.s, _, rfl, dgOf hS4.ds (kvF st), _, _, rfl, rfl, .ref st.s, rfl, st.s, _, rfl, DPut.k (k := Sum.inr "few") hS4.ds hkvl, ?_⟩
        have ek : putK st.kv (Sum.inr "few") (V.int ((st.few : Int) + 1)) = Sta.kv { st with few := st.few + 1 } := few_same (st := st) (f := st.few + 1)
        have b5 : But2 st.t st.s H4 (upd H4 st.s (.dK (putK st.kv (Sum.inr "few") (V.int ((st.few : Int) + 1))))) := But2.upd
        have es5 : upd H4 st.s (.dK (putK st.kv (Sum.inr "few") (V.int ((st.few : Int) + 1)))) st.s = some (.dK (Sta.kv { st with few := st.few + 1 })) := by rw [upd_same, ek]
        have em5 : upd H4 st.s (.dK (putK st.kv (Sum.inr "few") (V.int ((st.few : Int) + 1)))) mx = some (.lst (ms.map iv)) := by rw [upd_ne nms]; exact em4
        have T5 : Tape (upd H4 st.s (.dK (putK st.kv (Sum.inr "few") (V.int ((st.few : Int) + 1))))) st.t (c + 1) := by
          obtain ⟨a1, a2, a3, a4, a5⟩ := T4
          exact ⟨a1, a2, a3, by rw [upd_ne nts.symm]; exact a4, a5⟩
        generalize upd H4 st.s (.dK (putK st.kv (Sum.inr "few") (V.int ((st.few : Int) + 1)))) = H5 at b5 es5 em5 T5
        have hlm : ((ms.map iv).length : Int) = (ms.length : Int) := by rw [List.length_map]
        refine ⟨.ref mx, rfl, .ref st.t, rfl, .ref mx, rfl, mx, _, rfl, .inl (sqL em5), st.t, _, c + 1, rfl, T5, by omega, by omega, by omega, fun r H6 h6 b6 T6 => ?_⟩
        have hrr : r < ms.length := by omega
        refine ⟨mx, _, _, _, rfl, rfl, sqL (b6 _ _ nmx em5), at_iv hrr, ?_⟩
        exact q _ (st.few + 1) H6 (hms _ (List.getElem_mem hrr)) (((But2.of_but ((Same.but sx2).trans b4)).trans b5).trans (But2.of_but b6)) (T6.mono (by omega)) (b6 _ _ nts es5)
      · obtain ⟨rfl, by_, Ty, efy⟩ := hM
        have hSy := hS.bt by_ Ty
        refine ⟨.ref fx, rfl, fx, rfl, ⟨_, sqL efy⟩, fun L nL => ?_⟩
        have nLf : L ≠ fx := (ne_of_none efy nL).symm
        have nLt : L ≠ st.t := Ty.ne nL
        refine lc_list (K := K) (a := fx) (xs := fs.map iv) (fun j Hz => Same Hy Hz ∧ ∃ es : List Nat, Hz L = some (.lst (es.map iv)) ∧ es.length ≤ j ∧ ∀ y ∈ es, y ∈ ss) ⟨new_same nL, [], upd_same, Nat.le_refl _, fun y h => by cases h⟩ (fun j Hz _ hP => sqL (hP.1 _ _ efy)) (fun j x Hz hx hP => ?_) (fun Hz hP => ?_)
        · obtain ⟨sz, es, eL, hel, hes⟩ := hP
          rw [List.getElem?_map] at hx
          obtain ⟨kk, hkk, rfl⟩ := Option.map_eq_some_iff.mp hx
          have hkm : kk ∈ ss := hfs kk (List.mem_of_getElem? hkk)
          have hkl := hlt kk hkm
          have hjl := (List.getElem?_eq_some_iff.mp hkk).1
          have hrow := gdl (d := Rw.take 0) hkl
          have hSz := hSy.same sz
          obtain ⟨vs2, hv3, hv4⟩ := hSz.rows
          obtain ⟨v, hvk, p, xs, rfl, hp1, hp2⟩ := pd_at hv4 hrow
          refine ⟨rfl, .ref st.s, rfl, st.s, .ref st.r, rfl, dgOf hSz.ds (kvR st), iv kk, rfl, st.r, vs2, _, .ref p, rfl, rfl, sqL hv3, atI_nat hvk, p, _, _, _, rfl, rfl, Same.tup (frz_same _ _) hp1, atI_nat (j := 0) rfl, szl (show 2 ≤ 1000000 by decide), fun T nT => ?_⟩
          have sT := new_same (o := .tup [.str "same", .str "below"]) nT
          have eLT := sT _ _ eL
          refine ⟨T, _, rfl, .inr (sqT upd_same), rfl, rfl, _, rfl, ite2 (fun e => ?_) (fun e => ⟨sz.trans sT, es, eLT, by omega, hes⟩)⟩
          refine ⟨_, rfl, _, eLT, by rw [List.length_map]; exact szt (by omega), fun a o z => ?_, es ++ [kk], by rw [upd_same, List.map_append]; rfl, by rw [List.length_append, List.length_singleton]; omega, fun y hy => ?_⟩
          · rw [upd_ne (ne_of_none z nL)]; exact sT _ _ (sz _ _ z)
          · rcases List.mem_append.mp hy with h | h
            · exact hes y h
            · rw [List.mem_singleton.mp h]; exact hkm
        · obtain ⟨sz, es, eL, hel, hes⟩ := hP
          rw [List.length_map] at hel
          have hSz := hSy.same sz
          have efz := sz _ _ efy
          have bz := by_.trans (Same.but (t := st.t) sz)
          have last : ∀ (Hw : Hp), But st.t H Hw → Tape Hw st.t (c + 2) → Hw fx = some (.lst (fs.map iv)) → tRet (tIxL K (tVar 3) (tDr (tVar 0) (tLen K (tVar 3)))) { nx := fun _ H' => Q .non H', rt := Q } [some (.ref st.t), some (.ref st.s), some (.ref sa), some (.ref fx), some (.ref mx), y5, y6, some (.ref L)] Hw := fun Hw bw Tw efw => by
            have hlm : ((fs.map iv).length : Int) = (fs.length : Int) := by rw [List.length_map]
            have hfp := List.length_pos_iff.mpr hfne
            refine ⟨.ref fx, rfl, .ref st.t, rfl, .ref fx, rfl, fx, _, rfl, .inl (sqL efw), st.t, _, c + 2, rfl, Tw, by omega, by omega, by omega, fun r H6 h6 b6 T6 => ?_⟩
            have hrr : r < fs.length := by omega
            refine ⟨fx, _, _, _, rfl, rfl, sqL (b6 _ _ nft efw), at_iv hrr, ?_⟩
            exact q _ st.few H6 (hfs _ (List.getElem_mem hrr)) (But2.of_but (bw.trans b6)) T6 ((hS.bt (bw.trans b6) T6).ds)
          refine ⟨.ref L, rfl, Nat.zero_le _, fun l nl => ?_⟩
          have sl := new_same (o := .lst []) nl
          have el : upd Hz l (.lst []) l = some (.lst []) := upd_same
          have eL2 := sl _ _ eL
          have ef2 := sl _ _ efz
          have bz2 := bz.trans (Same.but (t := st.t) sl)
          have T2 := hSz.tape.same sl
          generalize upd Hz l (.lst []) = Hw at sl el eL2 ef2 bz2 T2
          refine ⟨_, .list [], .lst (sqL eL2) (dp_nats es), .lst (sqL el) .nil, sh_nats _, sh_nil, _, rfl, ?_⟩
          show if (!PyData.eqv (.list _) (.list [])) = true then _ else _
          rw [eqv_nil]
          refine ite2 (fun e => ?_) (fun e => last Hw bz2 (T2.mono (by omega)) ef2)
          have hmp : 0 < es.length := by
            cases es with
            | nil => cases e
            | cons _ _ => exact Nat.succ_pos _
          refine ⟨.ref st.t, rfl, st.t, 4, c + 1, rfl, T2, by omega, by decide, by decide, fun r1 H4 h4 b4 T4 => ⟨_, _, rfl, rfl, _, rfl, ite2 (fun e => ?_) (fun e => last H4 (bz2.trans b4) T4 (b4 _ _ nft ef2))⟩⟩
          have eL4 := b4 _ _ nLt eL2
          have hlm : ((es.map iv).length : Int) = (es.length : Int) := by rw [List.length_map]
          refine ⟨.ref L, rfl, .ref st.t, rfl, .ref L, rfl, L, _, rfl, .inl (sqL eL4), st.t, _, c + 2, rfl, T4, by omega, by omega, by omega, fun r H6 h6 b6 T6 => ?_⟩
          have hrr : r < es.length := by omega
          refine ⟨L, _, _, _, rfl, rfl, sqL (b6 _ _ nLt eL4), at_iv hrr, ?_⟩
          have bf := (bz2.trans b4).trans b6
          exact q _ st.few H6 (hes _ (List.getElem_mem hrr)) (But2.of_but bf) T6 ((hS.bt bf T6).ds)
end
end Gn
set_option Elab.async false
set_option linter.all false
set_option maxRecDepth 100000
set_option maxHeartbeats 8000000
namespace Gn
open PySem PySem.Spec PyProof.Rows L2
theorem leadsL_ok {nx : List (List Nat)} {m : Nat} (h : nx.length = m) (hm : m ≤ 12) : (leadsL nx).length = m ∧ ∀ xs ∈ leadsL nx, xs.length ≤ 12 ∧ ∀ l ∈ xs, l < m := by
  unfold leadsL
  refine ⟨by rw [List.length_map, List.length_range, h], fun xs hx => ?_⟩
  obtain ⟨b, hb, rfl⟩ := List.mem_map.mp hx
  refine ⟨Nat.le_trans (List.length_filter_le _ _) (by rw [List.length_range]; omega), fun l hl => ?_⟩
  have := List.mem_range.mp (List.mem_filter.mp hl).1
  omega
def Sta.upd4 (st : Sta) (a : List Rw) (b c d : List Nat) : Sta := { st with rows := a, blocks := b, wide := c, deep := d }
section
variable {K : PySem.W.Frag} {I H H1 : Hp} {st : Sta} {t bg nxa : Addr} {gs : List Nat} {nx : List (List Nat)} {m c : Nat}
theorem tell_rd {D : Ends} {ra : List Rw} {ba wa da : List Nat} {blk : Nat} {y1 y2 yc y3 y5 y7 y8 y9 y10 : Option V} (P : PInv K I H H1 (st.upd4 ra ba wa da) t bg nxa gs nx m c) (hB : Bs (st.upd4 ra ba wa da)) (hb : blk < m) (hl : ra.length ≤ 900) (hc : c + 1 ≤ 100000000)
    (k : ∀ (H2 : Hp) (ra' : List Rw) (ba' wa' da' : List Nat) (z8 : Option V), PInv K I H H2 (st.upd4 ra' ba' wa' da') t bg nxa gs nx m (c + 1) → Bs (st.upd4 ra' ba' wa' da') → ra'.length = ra.length + 1 → (∃ x, ra' = ra ++ [Rw.tell x]) → ba' = ba ++ [blk] → D.nx [some (.ref t), y1, y2, yc, y3, some (.ref st.s), y5, some (iv blk), y7, z8, y9, y10] H2) :
    tSeq (tAsg (tStand K (tVar 5) (tVar 7)) (gName 9)) (tDrop (tCall (spPut K) [] E0 (tCons (tVar 5) (tCons (tVar 7) (tCons (tTup (tCons (tC (.str "tell")) (tCons (tIxL K (tVar 9) (tDr (tVar 0) (tLen K (tVar 9)))) tNil))) (tCons (tC (.int 1)) (tCons (tC (.int 1)) tNil)))))))
      D [some (.ref t), y1, y2, yc, y3, some (.ref st.s), y5, some (iv blk), y7, y8, y9, y10] H1 := by
  have hab : blk < (st.upd4 ra ba wa da).above.length := by rw [P.gd.la]; exact hb
  have hlr : (st.upd4 ra ba wa da).rows.length = ra.length := rfl
  refine ⟨.ref st.s, rfl, iv blk, rfl, st.upd4 ra ba wa da, c, blk, rfl, P.ok, hab, by omega, fun sa H2 nsa s2 esa => ?_⟩
  have ss0 : 0 < (standL (st.upd4 ra ba wa da) blk).length := List.length_pos_of_mem (hB.st0 hab)
  have ssl : (standL (st.upd4 ra ba wa da) blk).length ≤ 900 := Nat.le_trans (standL_len _ _) (by omega)
  have sslt : ∀ y ∈ standL (st.upd4 ra ba wa da) blk, y < ra.length := fun y h => standL_lt h
  obtain ⟨ss, hss⟩ : ∃ ss, ss = standL (st.upd4 ra ba wa da) blk := ⟨_, rfl⟩
  rw [← hss] at esa ss0 ssl sslt
  have P2 := P.same s2
  have hlm : ((ss.map iv).length : Int) = (ss.length : Int) := by rw [List.length_map]
  have nst : sa ≠ t := P.tape.ne nsa
  refine ⟨.ref st.s, rfl, iv blk, rfl, .ref sa, rfl, .ref t, rfl, .ref sa, rfl, sa, _, rfl, .inl (sqL esa), t, _, c, rfl, P2.tape, by omega, by omega, by omega, fun r H3 h3 b3 T3 => ?_⟩
  have hr : r < ss.length := by omega
  refine ⟨sa, _, _, _, rfl, rfl, sqL (b3 sa _ nst esa), at_iv hr, szl (show 2 ≤ 1000000 by decide), fun p np => ?_⟩
  have P3 := P2.draw b3 T3
  have sp' := new_same (o := .tup [.str "tell", iv ss[r]]) np
  have P4 := P3.same sp'
  have mp := P3.ok.fresh np
  refine ⟨st.upd4 ra ba wa da, c + 1, blk, .ref p, .tell ss[r], 1, 1, rfl, P4.ok, by omega, ⟨p, _, rfl, sqT (frz_at upd_same mp), rfl⟩, fun H5 bm ok5 => ?_⟩
  have gd5 := P4.gd.put (blk := blk) (row := .tell ss[r]) (wi := 1) (de := 1) P4.ok.lb (show ss[r] < ra.length + 1 by have := sslt _ (List.getElem_mem hr); omega) (fun ps e => by cases e) (fun y hy => by rw [List.mem_singleton.mp hy, ← hss]; exact List.getElem_mem hr) (Nat.le_refl _) (by decide) (Nat.le_refl _) (by decide)
  exact k H5 (ra ++ [.tell ss[r]]) (ba ++ [blk]) (wa ++ [1]) (da ++ [1]) _ (P4.next bm ok5 gd5) hB.put (by rw [List.length_append, List.length_singleton]) ⟨_, rfl⟩ rfl
end
theorem pd_drop {α β : Type} {F : α → β → Prop} : ∀ {l : List α} {m : List β} (n : Nat), Paired F l m → Paired F (l.drop n) (m.drop n)
  | _, _, 0, h => h
  | _, _, _ + 1, .nil => .nil
  | _, _, n + 1, .cons _ t => pd_drop n t
theorem pd_take {α β : Type} {F : α → β → Prop} : ∀ {l : List α} {m : List β} (n : Nat), Paired F l m → Paired F (l.take n) (m.take n)
  | _, _, 0, _ => .nil
  | _, _, _ + 1, .nil => .nil
  | _, _, n + 1, .cons h t => .cons h (pd_take n t)
def cutR (rs : List Rw) (lo hi : Option Int) : List Rw := (rs.drop (HT.sIx rs.length 0 lo)).take (HT.sIx rs.length rs.length hi - HT.sIx rs.length 0 lo)
theorem pd_cut {F : V → Rw → Prop} {vs : List V} {rs : List Rw} (h : Paired F vs rs) (lo hi : Option Int) : Paired F (cutV vs lo hi) (cutR rs lo hi) := by
  unfold cutV cutR
  rw [pd_len h]
  exact pd_take _ (pd_drop _ h)
theorem cutR_mem {rs : List Rw} {lo hi : Option Int} {r : Rw} (h : r ∈ cutR rs lo hi) : r ∈ rs := List.mem_of_mem_drop (List.mem_of_mem_take h)
theorem cutR_len (rs : List Rw) (lo hi : Option Int) : (cutR rs lo hi).length ≤ rs.length := by
  unfold cutR
  rw [List.length_take, List.length_drop]
  omega
theorem PInv.oth {K : PySem.W.Frag} {I H H1 : Hp} {st : Sta} {t bg nxa f : Addr} {gs : List Nat} {nx : List (List Nat)} {m c : Nat} {xs ys : List V} (h : PInv K I H H1 st t bg nxa gs nx m c) (hf : f ∉ st.M) (nb : f ≠ bg) (iF : I f = none) (hF : H f = none) (e1 : H1 f = some (.lst xs)) :
    PInv K I H (upd H1 f (.lst ys)) st t bg nxa gs nx m c := by
  have nm : ∀ a ∈ st.M, a ≠ f := fun a ha z => hf (z ▸ ha)
  have k : ∀ a ∈ st.M, ∀ o, H1 a = some o → upd H1 f (.lst ys) a = some o := fun a ha o e => by rw [upd_ne (nm a ha)]; exact e
  have iS : Same I (frz st.M (upd H1 f (.lst ys))) := fun a o e => by
    rw [frz_upd hf, upd_ne (ne_of_none e iF)]
    exact h.iS a o e
  have tu : ∀ {a : Addr} {xs : List V}, SqT K (frz st.M H1) a xs → SqT K (frz st.M (upd H1 f (.lst ys))) a xs := fun {a xs} z => by
    rw [frz_upd hf]
    exact tup_upd z (frz_at e1 hf)
  obtain ⟨vs, v1, v2⟩ := h.ok.rows
  obtain ⟨x, y, z, t1, t2⟩ := h.ok.tape
  refine ⟨h.ht, h.hM, h.mb, h.nb, fun a o n e => ?_, ⟨h.ok.nd, ⟨x, y, z, k _ (tM st) _ t1, t2⟩, iS _ _ h.idi, ⟨vs, k _ (by simp [Sta.M]) _ v1, pd_mono v2 fun _ _ q => row_tups q tu⟩, k _ (by simp [Sta.M]) _ h.ok.blocks, k _ (by simp [Sta.M]) _ h.ok.wide, k _ (by simp [Sta.M]) _ h.ok.deep,
    h.iL.same iS, h.iA.same iS, h.ok.lb, h.ok.lw, h.ok.ld, tu h.ok.caps⟩, h.gd, by rw [upd_ne (Ne.symm nb)]; exact h.bgl, iS, h.ib, h.idi, h.iL, h.iA, h.iN⟩
  rw [upd_ne (ne_of_none e hF)]
  exact h.bt a o n e
theorem one_eq {xs : List Nat} (h : xs.length = 1) : [xs[0]] = xs := by
  match xs, h with
  | [a], _ => rfl
theorem two_eq {xs : List Nat} (h : xs.length = 2) : [xs[0], xs[1]] = xs := by
  match xs, h with
  | [a, b], _ => rfl
theorem nil_eq {xs : List Nat} (h : xs.length ≤ 2) (h1 : ¬ xs.length = 1) (h2 : xs.length ≠ 2) : [] = xs := by
  match xs, h, h1, h2 with
  | [], _, _, _ => rfl
  | [a], _, h1, _ => exact absurd rfl h1
  | [a, b], _, _, h2 => exact absurd rfl h2
theorem tup_frz {K : PySem.W.Frag} {H : Hp} {t a : Addr} {xs ys : List V} (h : SqT K H a xs) (e : H t = some (.lst ys)) : SqT K (frz [t] H) a xs := by
  rcases h with (h | ⟨u, h⟩) | h
  · exact .inl (.inl (frz_at h (by simpa using ne_of h e (by intro z; cases z))))
  · exact .inl (.inr ⟨u, frz_at h (by simpa using ne_of h e (by intro z; cases z))⟩)
  · exact .inr h
theorem BlkI.outF {K : PySem.W.Frag} {t fo : Addr} {H : Hp} {v : V} {b : Blk} {ys : List V} (h : BlkI K t fo H v b) (e : H t = some (.lst ys)) : BlkAt K (frz [t] H) v b := by
  obtain ⟨p, ra, ea, vs, h1, h2, h3, h4, h5, h6, h7⟩ := h
  exact ⟨p, ra, ea, vs, h1, tup_frz h2 e, frz_at h3 (by simpa using h4), pd_mono h6 fun _ _ z => row_tups z fun q => tup_frz q e, h7.mv fun q => tup_frz q e⟩
theorem EnOk.mono {m n n' : Nat} {e : En} (h : EnOk m n e) (l : n ≤ n') : EnOk m n' e := by
  cases e with
  | go b => exact h
  | iff r b c => exact ⟨Nat.lt_of_lt_of_le h.1 l, h.2⟩
  | fin => exact h
/-! ### where the rows of each block lie -/
structure Lay (ra : List Rw) (ba gs : List Nat) : Prop where
  asc : ∀ a b, a ≤ b → b < gs.length → gs.getD a 0 ≤ gs.getD b 0
  fst : gs.getD 0 0 = 0
  top : ∀ a, a < gs.length → gs.getD a 0 ≤ ra.length
  len : ba.length = ra.length
  own : ∀ k, k < ra.length → ba.getD k 0 < gs.length ∧ gs.getD (ba.getD k 0) 0 ≤ k ∧ (ba.getD k 0 + 1 < gs.length → k < gs.getD (ba.getD k 0 + 1) 0)
  ma : ∀ k, k + 1 < ra.length → mB ra (k + 1) = true → ba.getD k 0 = ba.getD (k + 1) 0 → mB ra k = true
theorem getD_app {α : Type} {xs : List α} {x d : α} (k : Nat) : (xs ++ [x]).getD k d = if k = xs.length then x else xs.getD k d := by
  rw [List.getD_eq_getElem?_getD, List.getD_eq_getElem?_getD]
  by_cases hk : k = xs.length
  · subst hk
    rw [if_pos rfl, List.getElem?_append_right (Nat.le_refl _), Nat.sub_self]
    rfl
  · rw [if_neg hk]
    by_cases h : k < xs.length
    · rw [List.getElem?_append_left h]
    · rw [List.getElem?_eq_none (by rw [List.length_append, List.length_singleton]; omega), List.getElem?_eq_none (by omega)]
theorem Lay.nil : Lay [] [] [] := ⟨fun a b _ h => by simp at h, rfl, fun a h => by simp at h, rfl, fun k h => by simp at h, fun k h => by simp at h⟩
theorem Lay.push {ra : List Rw} {ba gs : List Nat} (h : Lay ra ba gs) (h0 : gs = [] → ra = []) : Lay ra ba (gs ++ [ra.length]) := by
  have hl : (gs ++ [ra.length]).length = gs.length + 1 := by rw [List.length_append, List.length_singleton]
  refine ⟨fun a b hab hb => ?_, ?_, fun a ha => ?_, h.len, fun k hk => ?_, h.ma⟩
  · rw [hl] at hb
    rw [getD_app, getD_app]
    by_cases hb2 : b = gs.length
    · rw [if_pos hb2]
      by_cases ha2 : a = gs.length
      · rw [if_pos ha2]; exact Nat.le_refl _
      · rw [if_neg ha2]; exact h.top a (by omega)
    · rw [if_neg hb2, if_neg (by omega)]
      exact h.asc a b hab (by omega)
  · rw [getD_app]
    by_cases e : 0 = gs.length
    · rw [if_pos e, h0 (List.length_eq_zero_iff.mp e.symm)]
      rfl
    · rw [if_neg e]; exact h.fst
  · rw [hl] at ha
    rw [getD_app]
    by_cases e : a = gs.length
    · rw [if_pos e]; exact Nat.le_refl _
    · rw [if_neg e]; exact h.top a (by omega)
  · obtain ⟨h1, h2, h3⟩ := h.own k hk
    rw [hl, getD_app, if_neg (by omega), getD_app]
    refine ⟨by omega, h2, fun h4 => ?_⟩
    by_cases e : ba.getD k 0 + 1 = gs.length
    · rw [if_pos e]; exact hk
    · rw [if_neg e]; exact h3 (by omega)
theorem Lay.put {ra : List Rw} {ba gs : List Nat} {i : Nat} {row : Rw} (h : Lay ra ba gs) (hg : gs.length = i + 1) (hm : row.isM = true → ∀ k, k + 1 = ra.length → ba.getD k 0 = i → mB ra k = true) : Lay (ra ++ [row]) (ba ++ [i]) gs := by
  have hl : (ra ++ [row]).length = ra.length + 1 := by rw [List.length_append, List.length_singleton]
  have hb : ∀ k, (ba ++ [i]).getD k 0 = if k = ra.length then i else ba.getD k 0 := fun k => by rw [getD_app, h.len]
  have hmb : ∀ k, mB (ra ++ [row]) k = if k = ra.length then row.isM else mB ra k := fun k => by
    unfold mB
    rw [getD_app]
    by_cases e : k = ra.length
    · rw [if_pos e, if_pos e]
    · rw [if_neg e, if_neg e]
  refine ⟨h.asc, h.fst, fun a ha => Nat.le_trans (h.top a ha) (by omega), by rw [hl, List.length_append, List.length_singleton, h.len], fun k hk => ?_, fun k hk hm1 he => ?_⟩
  · rw [hb]
    by_cases e : k = ra.length
    · rw [if_pos e]
      exact ⟨by omega, by rw [e]; exact h.top i (by omega), fun z => by omega⟩
    · rw [if_neg e]
      exact h.own k (by omega)
  · rw [hb, hb, if_neg (by omega)] at he
    rw [hmb] at hm1
    rw [hmb, if_neg (by omega)]
    by_cases e : k + 1 = ra.length
    · rw [if_pos e] at hm1 he
      exact hm hm1 k e he
    · rw [if_neg e] at hm1 he
      exact h.ma k (by omega) hm1 he
theorem Lay.rw {ra rs : List Rw} {ba gs : List Nat} (h : Lay ra ba gs) (hl : rs.length = ra.length) (hm : ∀ k, mB rs k = mB ra k) : Lay rs ba gs :=
  ⟨h.asc, h.fst, fun a ha => by rw [hl]; exact h.top a ha, by rw [hl]; exact h.len, fun k hk => h.own k (by omega), fun k hk h1 h2 => by rw [hm] at h1 ⊢; exact h.ma k (by omega) h1 h2⟩
theorem Lay.at {ra : List Rw} {ba gs : List Nat} (h : Lay ra ba gs) {i k : Nat} (hi : i + 1 < gs.length) (h1 : gs.getD i 0 ≤ k) (h2 : k < gs.getD (i + 1) 0) : ba.getD k 0 = i := by
  have hk : k < ra.length := Nat.lt_of_lt_of_le h2 (h.top (i + 1) hi)
  obtain ⟨a1, a2, a3⟩ := h.own k hk
  rcases Nat.lt_trichotomy (ba.getD k 0) i with z | z | z
  · have b1 := a3 (by omega)
    have b2 := h.asc (ba.getD k 0 + 1) i z (by omega)
    omega
  · exact z
  · have b2 := h.asc (i + 1) (ba.getD k 0) z a1
    omega
theorem cut_nat {rs : List Rw} {a b : Nat} (h1 : a ≤ b) (h2 : b ≤ rs.length) : cutR rs (some (a : Int)) (some (b : Int)) = (rs.drop a).take (b - a) := by
  unfold cutR
  rw [show HT.sIx rs.length 0 (some (a : Int)) = min a rs.length from HT.sIx_nat rs.length 0 a, show HT.sIx rs.length rs.length (some (b : Int)) = min b rs.length from HT.sIx_nat rs.length rs.length b, Nat.min_eq_left h2, Nat.min_eq_left (Nat.le_trans h1 h2)]
theorem cut_at {rs : List Rw} {a b x : Nat} (hx : x < b - a) : ((rs.drop a).take (b - a))[x]? = rs[a + x]? := by
  rw [List.getElem?_take, if_pos hx, List.getElem?_drop]
theorem mB_cut {rs : List Rw} {a b y : Nat} (hy : y < b - a) : mB ((rs.drop a).take (b - a)) y = mB rs (a + y) := by
  unfold mB
  rw [List.getD_eq_getElem?_getD (l := List.take _ _), List.getD_eq_getElem?_getD, cut_at hy]
theorem RwIn.notM {ss : List Nat} {r : Rw} (h : RwIn ss r) : r.isM = false := by
  cases r with
  | meet ps => exact h.elim
  | _ => rfl
def rowsL (pr : List Blk) : List Rw := (pr.map (·.1)).flatten
theorem rowsL_snoc (pr : List Blk) (b : Blk) : (rowsL (pr ++ [b])).length = (rowsL pr).length + b.1.length := by
  unfold rowsL
  rw [List.map_append, List.flatten_append, List.length_append]
  simp
/-- what else the programs made here are -/
structure PrX (m : Nat) (pr : List Blk) : Prop where
  rb : ∀ b ∈ pr, (∀ r ∈ b.1, RwB (rowsL pr).length r) ∧ EnOk m (rowsL pr).length b.2
  mt : ∀ (i : Nat) (b : Blk), pr[i]? = some b → ∀ (x : Nat) (ps : List Nat), b.1[x]? = some (.meet ps) → ∃ ld, (leadsL (pr.map fun b => b.2.names))[i]? = some ld ∧ ps.length = ld.length ∧ 1 ≤ ld.length
  ma : ∀ b ∈ pr, ∀ x, x + 1 < b.1.length → mB b.1 (x + 1) = true → mB b.1 x = true
theorem lead0 {m : Nat} {nx : List (List Nat)} {ld : List Nat} (h : ∀ xs ∈ nx, NxE m xs) (e : (leadsL nx)[0]? = some ld) : ld = [] := by
  unfold leadsL at e
  rw [List.getElem?_map] at e
  obtain ⟨b, hb, rfl⟩ := Option.map_eq_some_iff.mp e
  have hb0 : b = 0 := by
    have h1 := (List.getElem?_eq_some_iff.mp hb).2
    rw [List.getElem_range] at h1
    exact h1.symm
  subst hb0
  rw [List.filter_eq_nil_iff]
  intro l hl hc
  have hl2 := List.mem_range.mp hl
  have h1 := of_decide_eq_true hc
  rw [List.getD_eq_getElem?_getD, List.getElem?_eq_getElem hl2] at h1
  exact absurd ((h _ (List.getElem_mem hl2)).2.2 0 h1).1 (by decide)
/-- what the ends name -/
def NxOk (m : Nat) (nx : List (List Nat)) : Prop := nx.length = m ∧ (∀ xs ∈ nx, NxE m xs) ∧ LedX m nx
/-- what the programs made here name stands: st is the maker's state at its end -/
structure PrS (st : Sta) (pr : List Blk) : Prop where
  rows : rowsL pr = st.rows
  lb : st.blocks.length = st.rows.length
  own : ∀ i k, i < pr.length → (rowsL (pr.take i)).length ≤ k → k < (rowsL (pr.take (i + 1))).length → st.blocks.getD k 0 = i
  su : UsedIn st
  mo : MeetOk st
  en : ∀ (i : Nat) (b : Blk), pr[i]? = some b → ∀ r x y, b.2 = .iff r x y → r ∈ standL st i
  ld : st.leads = leadsL (pr.map fun b => b.2.names)
  ab : st.above = abv (pr.map fun b => b.2.names)
  bs : Bs st
structure PrI (st : Sta) (gs : List Nat) (pr : List Blk) : Prop where
  rows : rowsL pr = st.rows.take (gs.getD pr.length 0)
  cut : ∀ j, j ≤ pr.length → (rowsL (pr.take j)).length = gs.getD j 0
  en : ∀ (i : Nat) (b : Blk), pr[i]? = some b → ∀ r x y, b.2 = .iff r x y → r ∈ standL st i
theorem PrI.nil {st : Sta} {gs : List Nat} (h : gs.getD 0 0 = 0) : PrI st gs [] := ⟨by rw [show ([] : List Blk).length = 0 from rfl, h]; rfl, fun j hj => by
  have : j = 0 := by simpa using hj
  rw [this, h]
  rfl, fun i b e => by simp at e⟩
theorem PrI.snoc {st : Sta} {gs : List Nat} {pr : List Blk} {b : Blk} {i : Nat} (h : PrI st gs pr) (hl : pr.length = i) (h1 : gs.getD i 0 ≤ gs.getD (i + 1) 0) (h2 : gs.getD (i + 1) 0 ≤ st.rows.length)
    (e : b.1 = (st.rows.drop (gs.getD i 0)).take (gs.getD (i + 1) 0 - gs.getD i 0)) (he : ∀ r x y, b.2 = .iff r x y → r ∈ standL st i) : PrI st gs (pr ++ [b]) := by
  have hlen : (pr ++ [b]).length = i + 1 := by rw [List.length_append, List.length_singleton, hl]
  have hr : rowsL (pr ++ [b]) = st.rows.take (gs.getD (i + 1) 0) := by
    have hx : rowsL (pr ++ [b]) = rowsL pr ++ b.1 := by
      unfold rowsL
      rw [List.map_append, List.flatten_append]
      simp
    rw [hx, h.rows, hl, e]
    have := List.take_add (l := st.rows) (i := gs.getD i 0) (j := gs.getD (i + 1) 0 - gs.getD i 0)
    rw [← this, show gs.getD i 0 + (gs.getD (i + 1) 0 - gs.getD i 0) = gs.getD (i + 1) 0 by omega]
  refine ⟨by rw [hlen]; exact hr, fun j hj => ?_, fun j b' hb r x y hbe => ?_⟩
  · rw [hlen] at hj
    by_cases hji : j ≤ i
    · rw [List.take_append_of_le_length (by omega)]
      exact h.cut j (by omega)
    · have : j = i + 1 := by omega
      subst this
      rw [List.take_of_length_le (by omega), hr, List.length_take]
      omega
  · by_cases hji : j < pr.length
    · rw [List.getElem?_append_left hji] at hb
      exact h.en j b' hb r x y hbe
    · have hj2 : j = i := by
        have := (List.getElem?_eq_some_iff.mp hb).1
        omega
      rw [List.getElem?_append_right (by omega), show j - pr.length = 0 by omega] at hb
      have : b = b' := Option.some.inj hb
      rw [hj2]
      exact he r x y (by rw [this]; exact hbe)
/-! ### the state with another count -/
def Sta.fw (st : Sta) (f : Nat) : Sta := { st with few := f }
theorem tup_updD {K : PySem.W.Frag} {H : Hp} {a b : Addr} {xs : List V} {kv : List (Key × V)} {o : HO} (h : SqT K H a xs) (e : H b = some (.dK kv)) : SqT K (upd H b o) a xs := by
  rcases h with (h | ⟨u, h⟩) | h
  · exact .inl (.inl (by rw [upd_ne (ne_of h e (by intro z; cases z))]; exact h))
  · exact .inl (.inr ⟨u, by rw [upd_ne (ne_of h e (by intro z; cases z))]; exact h⟩)
  · exact .inr h
theorem lst_updD {K : PySem.W.Frag} {H : Hp} {a b : Addr} {xs : List V} {kv : List (Key × V)} {o : HO} (h : SqL K H a xs) (e : H b = some (.dK kv)) : SqL K (upd H b o) a xs := by
  rcases h with (h | ⟨u, h⟩) | h
  · exact .inl (.inl (by rw [upd_ne (ne_of h e (by intro z; cases z))]; exact h))
  · exact .inl (.inr ⟨u, by rw [upd_ne (ne_of h e (by intro z; cases z))]; exact h⟩)
  · exact .inr h
theorem nl_updD {K : PySem.W.Frag} {H : Hp} {a b : Addr} {nx : List (List Nat)} {kv : List (Key × V)} {o : HO} (h : NL K H a nx) (e : H b = some (.dK kv)) : NL K (upd H b o) a nx := by
  obtain ⟨ps, h1, h2⟩ := h
  exact ⟨ps, lst_updD h1 e, pd_mono h2 fun _ _ z => lst_updD z e⟩
theorem tup_but2 {K : PySem.W.Frag} {H H' : Hp} {t s a : Addr} {xs ys : List V} {kv : List (Key × V)} (h : SqT K H a xs) (b : But2 t s H H') (e : H t = some (.lst ys)) (e2 : H s = some (.dK kv)) : SqT K H' a xs := by
  rcases h with (h | ⟨u, h⟩) | h
  · exact .inl (.inl (b _ _ (ne_of h e (by intro z; cases z)) (ne_of h e2 (by intro z; cases z)) h))
  · exact .inl (.inr ⟨u, b _ _ (ne_of h e (by intro z; cases z)) (ne_of h e2 (by intro z; cases z)) h⟩)
  · exact .inr h
theorem EnAt.but2 {K : PySem.W.Frag} {H H' : Hp} {t s : Addr} {v : V} {e : En} {ys : List V} {kv : List (Key × V)} (h : EnAt K H v e) (b : But2 t s H H') (e1 : H t = some (.lst ys)) (e2 : H s = some (.dK kv)) : EnAt K H' v e := h.mv fun z => tup_but2 z b e1 e2
theorem BlkI.mv2 {K : PySem.W.Frag} {t fo : Addr} {H H' : Hp} {v : V} {b : Blk} (h : BlkI K t fo H v b) (g : ∀ {a : Addr} {xs : List V}, SqT K H a xs → SqT K H' a xs) (k : ∀ a vs, a ≠ t → a ≠ fo → H a = some (.lst vs) → H' a = some (.lst vs)) : BlkI K t fo H' v b := by
  obtain ⟨p, ra, ea, vs, h1, h2, h3, h4, h5, h6, h7⟩ := h
  exact ⟨p, ra, ea, vs, h1, g h2, k _ _ h4 h5 h3, h4, h5, pd_mono h6 fun _ _ z => row_tups z g, h7.mv g⟩
theorem PInv.ch {K : PySem.W.Frag} {I H H1 H2 : Hp} {st : Sta} {t bg nxa : Addr} {gs : List Nat} {nx : List (List Nat)} {m c c' f : Nat} (h : PInv K I H H1 st t bg nxa gs nx m c) (hs : H st.s = none) (b : But2 st.t st.s H1 H2) (T : Tape H2 st.t c') (ed : H2 st.s = some (.dK (Sta.kv (st.fw f)))) :
    PInv K (upd I st.s (.dK (Sta.kv (st.fw f)))) H H2 (st.fw f) t bg nxa gs nx m c' := by
  have et := h.ht
  have sM := frz_mem h.ok.dict
  have eds := h.ok.ds
  have hn := h.ok.nd
  simp only [Sta.M, List.nodup_cons, List.mem_cons, List.not_mem_nil, or_false, not_or] at hn
  obtain ⟨⟨n1, n2, n3, n4⟩, _⟩ := hn
  have hsM := sM
  simp only [Sta.M, List.mem_cons, List.not_mem_nil, or_false, not_or] at hsM
  obtain ⟨m1, m2, m3, m4, m5⟩ := hsM
  have k1 : ∀ a o, a ∉ st.M → a ≠ st.s → H1 a = some o → frz st.M H2 a = some o := fun a o n1 n2 e => frz_at (b a o (fun z => n1 (by rw [z]; exact tM st)) n2 e) n1
  have iS : Same (upd I st.s (.dK (Sta.kv (st.fw f)))) (frz st.M H2) := fun a o e => by
    by_cases z : a = st.s
    · subst z
      rw [upd_same] at e
      rw [← e]
      exact frz_at ed sM
    · rw [upd_ne z] at e
      have e1 := h.iS a o e
      exact k1 a o (frz_mem e1) z (frz_same _ _ _ _ e1)
  have g : ∀ {a : Addr} {xs : List V}, SqT K (frz st.M H1) a xs → SqT K (frz st.M H2) a xs := fun {a xs} z => by
    rcases z with (z | ⟨u, z⟩) | z
    · exact .inl (.inl (k1 _ _ (frz_mem z) (ne_of (frz_same _ _ _ _ z) eds (by intro y; cases y)) (frz_same _ _ _ _ z)))
    · exact .inl (.inr ⟨u, k1 _ _ (frz_mem z) (ne_of (frz_same _ _ _ _ z) eds (by intro y; cases y)) (frz_same _ _ _ _ z)⟩)
    · exact .inr z
  obtain ⟨vs, v1, v2⟩ := h.ok.rows
  have iL := nl_updD (o := .dK (Sta.kv (st.fw f))) h.iL h.idi
  have iA := nl_updD (o := .dK (Sta.kv (st.fw f))) h.iA h.idi
  have iN := nl_updD (o := .dK (Sta.kv (st.fw f))) h.iN h.idi
  have nbs : bg ≠ st.s := fun z => by
    have := h.bgl
    rw [z, eds] at this
    cases this
  have nbt : bg ≠ st.t := fun z => h.mb (by rw [z]; exact tM st)
  refine ⟨et, h.hM, h.mb, h.nb, fun a o n e => b a o (by rw [et]; exact n) (fun z => by rw [z, hs] at e; cases e) (h.bt a o n e), ⟨h.ok.nd, T, iS _ _ upd_same, ⟨vs, b _ _ (Ne.symm n1) (Ne.symm m2) v1, pd_mono v2 fun _ _ z => row_tups z g⟩, b _ _ (Ne.symm n2) (Ne.symm m3) h.ok.blocks, b _ _ (Ne.symm n3) (Ne.symm m4) h.ok.wide, b _ _ (Ne.symm n4) (Ne.symm m5) h.ok.deep, iL.same iS, iA.same iS, h.ok.lb, h.ok.lw, h.ok.ld, g h.ok.caps⟩, ⟨h.gd.ll, h.gd.la, h.gd.ab, h.gd.lv, h.gd.wd, h.gd.mo, h.gd.rb, h.gd.su⟩, b _ _ nbt nbs h.bgl, iS, ?_, upd_same, iL, iA, iN⟩
  rw [upd_ne nbs]
  exact h.ib
def spProgram (K : PySem.W.Frag) : Sp := fun vs H Q _ => ∃ (t : Addr) (m most c : Nat) (ca : Addr), vs = [.ref t, iv m, iv most, .ref ca] ∧ Tape H t c ∧ SqT K H ca [.int 24, .int 8] ∧ 1 ≤ m ∧ m ≤ 12 ∧ most ≤ 4 ∧ c ≤ 1000 ∧
  ∀ (H' : Hp) (v : V) (pr : List Blk), But t H H' → Tape H' t 1000000 → ProgAt K (frz [t] H') v pr → ProgOk m 130 pr → NxOk m (pr.map fun b => b.2.names) → PrX m pr → (∃ st, PrS st pr) → Q v H'
abbrev nProgram : List Str := ["_law_tape_here", "_law_many", "_law_most", "_law_caps", "_law_nexts_here", "_law_state", "_law_begins", "_law_block", "_law_turn", "_law_some", "_law_found", "_law_end"]
theorem scProgram : FnScope nProgram ["_law_tape_here", "_law_many", "_law_most", "_law_caps"] (defScope sProgram) := ⟨rfl, rfl, rfl, by decide +kernel, rfl, by decide +kernel, by decide +kernel⟩
section
variable {P : Program} {w : World} {K : PySem.W.Frag} {mg : Str → Option Value} {base : Heap}
theorem ok_program {f fD fX fL fV fS fP fA fM fT fC : Addr} {fd fdD fdX fdL fdV fdS fdP fdA fdM fdT fdC : FuncData} {k : Nat} (D : Df K mg "_law_program" sProgram ["_law_tape_here", "_law_many", "_law_most", "_law_caps"] f fd) (B : Bi mg)
    (DD : Df K mg "_law_draw" sDraw ["_law_tape_here", "_law_many"] fD fdD) (GD : FnOk P w K mg base CX0 k fD fdD ["_law_tape_here", "_law_many"] spDraw)
    (DX : Df K mg "_law_nexts" sNexts ["_law_tape_here", "_law_many"] fX fdX) (GX : FnOk P w K mg base CX0 k fX fdX ["_law_tape_here", "_law_many"] (spNexts K))
    (DL : Df K mg "_law_leads" sLeads ["_law_nexts_here"] fL fdL) (GL : FnOk P w K mg base CX0 k fL fdL ["_law_nexts_here"] (spLeads K))
    (DV : Df K mg "_law_above" sAbove ["_law_nexts_here"] fV fdV) (GV : FnOk P w K mg base CX0 k fV fdV ["_law_nexts_here"] (spAbove K))
    (DS : Df K mg "_law_standing" sStanding ["_law_state", "_law_block"] fS fdS) (GS : FnOk P w K mg base CX0 k fS fdS ["_law_state", "_law_block"] (spStanding K))
    (DP : Df K mg "_law_put" sPut ["_law_state", "_law_block", "_law_row", "_law_wide", "_law_deep"] fP fdP) (GP : FnOk P w K mg base CX0 k fP fdP ["_law_state", "_law_block", "_law_row", "_law_wide", "_law_deep"] (spPut K))
    (DA : Df K mg "_law_add" sAdd ["_law_tape_here", "_law_state", "_law_block"] fA fdA) (GA : FnOk P w K mg base CX0 k fA fdA ["_law_tape_here", "_law_state", "_law_block"] (spAdd K))
    (DM : Df K mg "_law_meet" sMeet ["_law_tape_here", "_law_state", "_law_block"] fM fdM) (GM : FnOk P w K mg base CX0 k fM fdM ["_law_tape_here", "_law_state", "_law_block"] (spMeet K))
    (DT : Df K mg "_law_later" sLater ["_law_tape_here", "_law_state"] fT fdT) (GT : FnOk P w K mg base CX0 k fT fdT ["_law_tape_here", "_law_state"] (spLater K))
    (DC : Df K mg "_law_chooser" sChooser ["_law_tape_here", "_law_state", "_law_some"] fC fdC) (GC : FnOk P w K mg base CX0 k fC fdC ["_law_tape_here", "_law_state", "_law_some"] (spChooser K)) : FnOk P w K mg base CX0 (k + 1) f fd ["_law_tape_here", "_law_many", "_law_most", "_law_caps"] (spProgram K) := by
  refine D.F.ok scProgram (fun vs H Q E h => ?_) (fun cdv A outer s H vs Q E hr h => ?_)
  · obtain ⟨t, m, most, c, ca, rfl, _⟩ := h
    rfl
  · obtain ⟨t, m, most, c, ca, rfl, hT, hca, hm1, hm2, hmo, hc, q⟩ := h
    have hu := hu_of hr
    refine ⟨_, (pss_cons (ps_set (i := 4) scProgram.nd rfl (.inl rfl) (pe_call GX hr (by rfl) DX.g DX.F.kp DX.b .nil pass0 (pa_cons (pv 0) (pa_cons (pv 1) pa_nil))))
      (pss_cons (ps_set (i := 5) scProgram.nd rfl (.inl rfl) (pe_disp (pps_cons pe_str (pe_lst pa_nil) (pps_cons pe_str (pe_lst pa_nil) (pps_cons pe_str (pe_lst pa_nil) (pps_cons pe_str (pe_lst pa_nil) (pps_cons pe_str (pe_call GL hr (by rfl) DL.g DL.F.kp DL.b .nil pass0 (pa_cons (pv 4) pa_nil)) (pps_cons pe_str (pe_call GV hr (by rfl) DV.g DV.F.kp DV.b .nil pass0 (pa_cons (pv 4) pa_nil)) pps_nil)))))) (by rfl) (by rfl) (fun z => by cases z) (by decide)))
      (pss_cons (ps_expr (pe_bm PySem.F.plainAttrs_dict PySem.F.slot_dict_update PySem.F.type_dict_update mt_dud (pv 5) (pa_cons (pe_disp (pps_cons pe_str (pv 3) (pps_cons pe_str pe_int pps_nil)) (by rfl) (by rfl) (fun z => by cases z) (by decide)) pa_nil)))
      (pss_cons (ps_set (i := 6) scProgram.nd rfl (.inl rfl) (pe_lst pa_nil))
      (pss_cons (ps_for PassesOwn.never rfl (pi_range1 (by rfl) B.range (pa_cons (pv 1) pa_nil)) (pg_name (i := 7) scProgram.nd rfl (.inl rfl)) (pss_cons (ps_expr (pe_bm PySem.F.plainAttrs_list PySem.F.slot_list_append PySem.F.type_list_append mt_append (pv 6) (pa_cons (pe_callB call_len_seq (by rfl) B.len PySem.boot_len (pa_cons (pe_dget hu (pv 5) pe_str (fun _ _ => rfl)) pa_nil)) pa_nil)))
      (Evl.pss_cut (ps_if (pt_cmpR op_eq (pv 7) pe_int (nomark _)) (pss_one (ps_expr (pe_call GP hr (by rfl) DP.g DP.F.kp DP.b .nil pass0 (pa_cons (pv 5) (pa_cons pe_int (pa_cons (pe_tup (pa_cons pe_str (pa_cons pe_int pa_nil))) (pa_cons pe_int (pa_cons pe_int pa_nil)))))))) pss_nil)
      (pss_cons (ps_for PassesOwn.never rfl (pi_range1 (by rfl) B.range (pa_cons (pe_op op_mul (pe_call GD hr (by rfl) DD.g DD.F.kp DD.b .nil pass0 (pa_cons (pv 0) (pa_cons pe_int pa_nil))) (pe_callTy call_int1 (by rfl) B.int PyProof.Rows.boot_int (pa_cons (pe_cmpR op_gt (pe_callB call_len_seq (by rfl) B.len PySem.boot_len (pa_cons (pe_ix ix_list (pe_dget hu (pv 5) pe_str (fun _ _ => rfl)) (pv 7) (fun _ _ => rfl)) pa_nil)) pe_int (nomark _)) pa_nil))) pa_nil)) (pg_name (i := 8) scProgram.nd rfl (.inl rfl)) (pss_one (ps_expr (pe_call GM hr (by rfl) DM.g DM.F.kp DM.b .nil pass0 (pa_cons (pv 0) (pa_cons (pv 5) (pa_cons (pv 7) pa_nil)))))))
      (pss_cons (ps_for PassesOwn.never rfl (pi_range1 (by rfl) B.range (pa_cons (pe_call GD hr (by rfl) DD.g DD.F.kp DD.b .nil pass0 (pa_cons (pv 0) (pa_cons (pe_op op_add (pv 2) pe_int) pa_nil))) pa_nil)) (pg_name (i := 8) scProgram.nd rfl (.inl rfl)) (pss_one (ps_if (pt_cmpR op_eq (pe_call GD hr (by rfl) DD.g DD.F.kp DD.b .nil pass0 (pa_cons (pv 0) (pa_cons pe_int pa_nil))) pe_int (nomark _)) (pss_cons (ps_set (i := 9) scProgram.nd rfl (.inl rfl) (pe_call GS hr (by rfl) DS.g DS.F.kp DS.b .nil pass0 (pa_cons (pv 5) (pa_cons (pv 7) pa_nil))))
      (pss_one (ps_expr (pe_call GP hr (by rfl) DP.g DP.F.kp DP.b .nil pass0 (pa_cons (pv 5) (pa_cons (pv 7) (pa_cons (pe_tup (pa_cons pe_str (pa_cons (pe_ix ix_list (pv 9) (pe_call GD hr (by rfl) DD.g DD.F.kp DD.b .nil pass0 (pa_cons (pv 0) (pa_cons (pe_callB call_len_seq (by rfl) B.len PySem.boot_len (pa_cons (pv 9) pa_nil)) pa_nil))) (fun _ _ => rfl)) pa_nil))) (pa_cons pe_int (pa_cons pe_int pa_nil))))))))) (pss_one (ps_expr (pe_call GA hr (by rfl) DA.g DA.F.kp DA.b .nil pass0 (pa_cons (pv 0) (pa_cons (pv 5) (pa_cons (pv 7) pa_nil)))))))))
      (pss_one (ps_if (pt_cmpR op_eq (pe_call GD hr (by rfl) DD.g DD.F.kp DD.b .nil pass0 (pa_cons (pv 0) (pa_cons pe_int pa_nil))) pe_int (nomark _)) (pss_cons (ps_set (i := 9) scProgram.nd rfl (.inl rfl) (pe_call GS hr (by rfl) DS.g DS.F.kp DS.b .nil pass0 (pa_cons (pv 5) (pa_cons (pv 7) pa_nil))))
      (pss_one (ps_expr (pe_call GP hr (by rfl) DP.g DP.F.kp DP.b .nil pass0 (pa_cons (pv 5) (pa_cons (pv 7) (pa_cons (pe_tup (pa_cons pe_str (pa_cons (pe_ix ix_list (pv 9) (pe_call GD hr (by rfl) DD.g DD.F.kp DD.b .nil pass0 (pa_cons (pv 0) (pa_cons (pe_callB call_len_seq (by rfl) B.len PySem.boot_len (pa_cons (pv 9) pa_nil)) pa_nil))) (fun _ _ => rfl)) pa_nil))) (pa_cons pe_int (pa_cons pe_int pa_nil))))))))) pss_nil)))))))
      (pss_cons (ps_expr (pe_call GT hr (by rfl) DT.g DT.F.kp DT.b .nil pass0 (pa_cons (pv 0) (pa_cons (pv 5) pa_nil))))
      (pss_cons (ps_expr (pe_bm PySem.F.plainAttrs_list PySem.F.slot_list_append PySem.F.type_list_append mt_append (pv 6) (pa_cons (pe_callB call_len_seq (by rfl) B.len PySem.boot_len (pa_cons (pe_dget hu (pv 5) pe_str (fun _ _ => rfl)) pa_nil)) pa_nil)))
      (pss_cons (ps_set (i := 10) scProgram.nd rfl (.inl rfl) (pe_lst pa_nil))
      (pss_cons (ps_for PassesOwn.never rfl (pi_range1 (by rfl) B.range (pa_cons (pv 1) pa_nil)) (pg_name (i := 7) scProgram.nd rfl (.inl rfl)) (Evl.pss_cut (ps_set (i := 11) scProgram.nd rfl (.inl rfl) (pe_ifExp (pt_cmpR op_eq (pe_callB call_len_seq (by rfl) B.len PySem.boot_len (pa_cons (pe_ix ix_list (pv 4) (pv 7) (fun _ _ => rfl)) pa_nil)) pe_int (nomark _)) (pe_tup (pa_cons pe_str (pa_cons (pe_ix ix_list (pe_ix ix_list (pv 4) (pv 7) (fun _ _ => rfl)) pe_int (fun _ _ => rfl)) pa_nil))) (pe_tup (pa_cons pe_str pa_nil))))
      (Evl.pss_cut (ps_if (pt_cmpR op_eq (pe_callB call_len_seq (by rfl) B.len PySem.boot_len (pa_cons (pe_ix ix_list (pv 4) (pv 7) (fun _ _ => rfl)) pa_nil)) pe_int (nomark _)) (pss_one (ps_set (i := 11) scProgram.nd rfl (.inl rfl) (pe_tup (pa_cons pe_str (pa_cons (pe_call GC hr (by rfl) DC.g DC.F.kp DC.b .nil pass0 (pa_cons (pv 0) (pa_cons (pv 5) (pa_cons (pe_call GS hr (by rfl) DS.g DS.F.kp DS.b .nil pass0 (pa_cons (pv 5) (pa_cons (pv 7) pa_nil))) pa_nil)))) (pa_cons (pe_ix ix_list (pe_ix ix_list (pv 4) (pv 7) (fun _ _ => rfl)) pe_int (fun _ _ => rfl)) (pa_cons (pe_ix ix_list (pe_ix ix_list (pv 4) (pv 7) (fun _ _ => rfl)) pe_int (fun _ _ => rfl)) pa_nil))))))) pss_nil)
      (pss_one (ps_expr (pe_bm PySem.F.plainAttrs_list PySem.F.slot_list_append PySem.F.type_list_append mt_append (pv 10) (pa_cons (pe_tup (pa_cons (pe_slice sl_list (pe_dget hu (pv 5) pe_str (fun _ _ => rfl)) (po_some (pe_ix ix_list (pv 6) (pv 7) (fun _ _ => rfl))) (po_some (pe_ix ix_list (pv 6) (pe_op op_add (pv 7) pe_int) (fun _ _ => rfl)))) (pa_cons (pv 11) pa_nil))) pa_nil)))))))
      (pss_one (ps_ret (pv 10)))))))))))), ?_⟩
    refine ⟨.ref t, rfl, iv m, rfl, t, m, c, rfl, hT, by omega, hm1, hm2, fun nxa nx H1 b1 T1 hNL hnl hnx hledx => ?_⟩
    have hnx2 : ∀ xs ∈ nx, xs.length ≤ 2 ∧ ∀ y ∈ xs, y < nx.length := fun xs h => ⟨(hnx xs h).1, fun y hy => by rw [hnl]; exact ((hnx xs h).2.2 y hy).2⟩
    refine fun sA nS => ⟨Nat.zero_le _, fun r nr => ⟨Nat.zero_le _, fun b nb => ⟨Nat.zero_le _, fun wA nw => ⟨Nat.zero_le _, fun dA nd => ?_⟩⟩⟩⟩
    have sa := new_same (o := .dK []) nS
    have sb := new_same (o := .lst []) nr
    have sc := new_same (o := .lst []) nb
    have sd := new_same (o := .lst []) nw
    have se := new_same (o := .lst []) nd
    have eS := se _ _ (sd _ _ (sc _ _ (sb _ _ (upd_same (H := H1) (a := sA) (o := .dK [])))))
    have er := se _ _ (sd _ _ (sc _ _ (upd_same (H := upd H1 sA (.dK [])) (a := r) (o := .lst []))))
    have eb := se _ _ (sd _ _ (upd_same (H := upd (upd H1 sA (.dK [])) r (.lst [])) (a := b) (o := .lst [])))
    have ew := se _ _ (upd_same (H := upd (upd (upd H1 sA (.dK [])) r (.lst [])) b (.lst [])) (a := wA) (o := .lst []))
    have ed := upd_same (H := upd (upd (upd (upd H1 sA (.dK [])) r (.lst [])) b (.lst [])) wA (.lst [])) (a := dA) (o := .lst [])
    have nrs : sA ≠ r := ne_of_none upd_same nr
    have nrb : r ≠ b := ne_of_none upd_same nb
    have nbw : b ≠ wA := ne_of_none upd_same nw
    have nwd : wA ≠ dA := ne_of_none upd_same nd
    have nrw : r ≠ wA := ne_of_none (sc _ _ upd_same) nw
    have nrd : r ≠ dA := ne_of_none (sd _ _ (sc _ _ upd_same)) nd
    have nbd : b ≠ dA := ne_of_none (sd _ _ upd_same) nd
    have sAll : Same H1 _ := (((sa.trans sb).trans sc).trans sd).trans se
    have n1r : H1 r = none := sa.free nr
    have n1b : H1 b = none := (sa.trans sb).free nb
    have n1w : H1 wA = none := ((sa.trans sb).trans sc).free nw
    have n1d : H1 dA = none := (((sa.trans sb).trans sc).trans sd).free nd
    generalize upd (upd (upd (upd (upd H1 sA (.dK [])) r (.lst [])) b (.lst [])) wA (.lst [])) dA (.lst []) = He at eS er eb ew ed sAll
    clear sa sb sc sd se nr nb nw nd
    have nbs : b ≠ sA := fun z => by rw [z, eS] at eb; cases eb
    have nws : wA ≠ sA := fun z => by rw [z, eS] at ew; cases ew
    have nds : dA ≠ sA := fun z => by rw [z, eS] at ed; cases ed
    have hNL1 : NL K H1 nxa nx := hNL.same (new_sub _ _)
    refine ⟨.ref nxa, rfl, nxa, nx, rfl, hNL1.same sAll, by omega, fun LA H2 s2 hL => ?_⟩
    refine ⟨.ref nxa, rfl, nxa, nx, rfl, (hNL1.same sAll).same s2, by omega, by omega, hnx2, fun AA ab H3 s3 hA hal hab habv => ?_⟩
    refine ⟨s3 _ _ (s2 _ _ eS), [(.inr "rows", .ref r), (.inr "blocks", .ref b), (.inr "wide", .ref wA), (.inr "deep", .ref dA), (.inr "leads", .ref LA), (.inr "above", .ref AA)], rfl, show 6 ≤ 15 by decide, ?_⟩
    let st0 : Sta := ⟨t, sA, r, b, wA, dA, LA, AA, [], [], [], [], leadsL nx, ab, ca, 0⟩
    let kv6 : List (Key × V) := [(.inr "rows", .ref r), (.inr "blocks", .ref b), (.inr "wide", .ref wA), (.inr "deep", .ref dA), (.inr "leads", .ref LA), (.inr "above", .ref AA)]
    have emk : mergeK [] [(Sum.inr "rows", V.ref r), (.inr "blocks", .ref b), (.inr "wide", .ref wA), (.inr "deep", .ref dA), (.inr "leads", .ref LA), (.inr "above", .ref AA)] = kv6 := by rfl
    have emk2 : mergeK kv6 (mergeK [] [(Sum.inr "caps", V.ref ca), (.inr "few", .int 0)]) = st0.kv := by rfl
    rw [emk]
    have e4 : upd H3 sA (.dK kv6) sA = some (.dK kv6) := upd_same
    have k4 : ∀ a o, H3 a = some o → a ≠ sA → upd H3 sA (.dK kv6) a = some o := fun a o e n => by rw [upd_ne n]; exact e
    generalize upd H3 sA (.dK kv6) = H4 at e4 k4
    refine ⟨.ref sA, rfl, .inr (.inr (.inl ⟨rfl, .inl ⟨_, e4⟩⟩)), fun sB nB => ⟨.ref ca, rfl, upd_same, [(.inr "caps", .ref ca), (.inr "few", .int 0)], rfl, show 2 ≤ 15 by decide, ?_⟩⟩
    have nsB : sA ≠ sB := ne_of_none e4 nB
    have sB1 : Same H4 (upd (upd H4 sB (.dK [])) sB (.dK (mergeK [] [(Sum.inr "caps", V.ref ca), (.inr "few", .int 0)]))) := fun a o e => by
      have n : a ≠ sB := ne_of_none e nB
      rw [upd_ne n, upd_ne n]; exact e
    have eB1 : upd (upd H4 sB (.dK [])) sB (.dK (mergeK [] [(Sum.inr "caps", V.ref ca), (.inr "few", .int 0)])) sB = some (.dK (mergeK [] [(Sum.inr "caps", V.ref ca), (.inr "few", .int 0)])) := upd_same
    refine ⟨sA, sB, kv6, _, rfl, rfl, nsB, sB1 _ _ e4, eB1, szl (show 8 ≤ 1000000 by decide), ?_⟩
    rw [emk2]
    have k5 : ∀ a o, H4 a = some o → a ≠ sA → upd (upd (upd H4 sB (.dK [])) sB (.dK (mergeK [] [(Sum.inr "caps", V.ref ca), (.inr "few", .int 0)]))) sA (.dK st0.kv) a = some o := fun a o e n => by rw [upd_ne n]; exact sB1 _ _ e
    have e5 : upd (upd (upd H4 sB (.dK [])) sB (.dK (mergeK [] [(Sum.inr "caps", V.ref ca), (.inr "few", .int 0)]))) sA (.dK st0.kv) sA = some (.dK st0.kv) := upd_same
    generalize upd (upd (upd H4 sB (.dK [])) sB (.dK (mergeK [] [(Sum.inr "caps", V.ref ca), (.inr "few", .int 0)]))) sA (.dK st0.kv) = Hd at k5 e5
    refine ⟨Nat.zero_le _, fun bg nbg => ?_⟩
    have kk : ∀ a o, H3 a = some o → a ≠ sA → upd Hd bg (.lst []) a = some o := fun a o e n => by
      have e4 := k5 a o (k4 a o e n) n
      rw [upd_ne (ne_of_none e4 nbg)]
      exact e4
    have k2 : ∀ a o, H2 a = some o → a ≠ sA → upd Hd bg (.lst []) a = some o := fun a o e n => kk a o (s3 _ _ e) n
    have k3 : ∀ a o, He a = some o → a ≠ sA → upd Hd bg (.lst []) a = some o := fun a o e n => k2 a o (s2 _ _ e) n
    have nbS : bg ≠ sA := (ne_of_none e5 nbg).symm
    have n3b : H3 bg = none := by
      cases z : H3 bg with
      | none => rfl
      | some o => rw [k5 _ _ (k4 _ _ z nbS) nbS] at nbg; cases nbg
    have nst : t ≠ sA := by
      obtain ⟨x, y, z, t1, t2⟩ := T1
      exact ne_of_none t1 nS
    have nbt : ∀ a o, He a = some o → a ≠ bg := fun a o e => ne_of_none (s3 _ _ (s2 _ _ e)) n3b
    have hHs : H sA = none := fresh_but b1 nst.symm nS
    obtain ⟨tx, ty, tz, t1, t2⟩ := T1
    have ntr : t ≠ r := ne_of_none t1 n1r
    have ntb : t ≠ b := ne_of_none t1 n1b
    have ntw : t ≠ wA := ne_of_none t1 n1w
    have ntd : t ≠ dA := ne_of_none t1 n1d
    have nsr : sA ≠ r := nrs
    have eS5 : upd Hd bg (.lst []) sA = some (.dK st0.kv) := by rw [upd_ne nbS.symm]; exact e5
    generalize hH5 : upd Hd bg (.lst []) = H5 at k3 k2 kk eS5
    have ebg : H5 bg = some (.lst []) := by rw [← hH5]; exact upd_same
    have MM : st0.M = [t, r, b, wA, dA] := rfl
    have inM : ∀ a ∈ bg :: st0.M, a = bg ∨ ∃ o, He a = some o ∧ a ≠ sA := fun a ha => by
      rw [MM] at ha
      simp only [List.mem_cons, List.not_mem_nil, or_false] at ha
      rcases ha with rfl | rfl | rfl | rfl | rfl | rfl
      · exact .inl rfl
      · exact .inr ⟨_, sAll _ _ t1, nst⟩
      · exact .inr ⟨_, er, nsr.symm⟩
      · exact .inr ⟨_, eb, fun z => by rw [z, eS] at eb; cases eb⟩
      · exact .inr ⟨_, ew, fun z => by rw [z, eS] at ew; cases ew⟩
      · exact .inr ⟨_, ed, fun z => by rw [z, eS] at ed; cases ed⟩
    let I : Hp := frz (bg :: st0.M) H5
    have nM1 : ∀ a o, H1 a = some o → a ≠ t → a ∉ bg :: st0.M := fun a o e n ha => by
      rw [MM] at ha
      simp only [List.mem_cons, List.not_mem_nil, or_false] at ha
      rcases ha with rfl | rfl | rfl | rfl | rfl | rfl
      · exact nbt a o (sAll _ _ e) rfl
      · exact n rfl
      · rw [n1r] at e; cases e
      · rw [n1b] at e; cases e
      · rw [n1w] at e; cases e
      · rw [n1d] at e; cases e
    have iN : NL K I nxa nx := hNL.same fun a o e => by
      obtain ⟨e1, e2⟩ := new_of e
      have nat : a ≠ t := fun z => by
        obtain ⟨x, hx⟩ := hT.lst
        rw [z, hx] at e1; cases e1
      exact frz_at (k3 _ _ (sAll _ _ e2) (ne_of_none e2 nS)) (nM1 a o e2 nat)
    have iL : NL K I LA (leadsL nx) := hL.same fun a o e => by
      obtain ⟨e1, e2⟩ := new_of e
      refine frz_at (k2 _ _ e2 fun z => ?_) fun ha => ?_
      · rw [z, eS] at e1; cases e1
      · rcases inM a ha with rfl | ⟨o', h1, _⟩
        · rw [s3 _ _ e2] at n3b; cases n3b
        · rw [h1] at e1; cases e1
    have iA : NL K I AA ab := hA.same fun a o e => by
      obtain ⟨e1, e2⟩ := new_of e
      refine frz_at (kk _ _ e2 fun z => ?_) fun ha => ?_
      · rw [z, s2 _ _ eS] at e1; cases e1
      · rcases inM a ha with rfl | ⟨o', h1, _⟩
        · rw [e2] at n3b; cases n3b
        · rw [s2 _ _ h1] at e1; cases e1
    have iC : SqT K I ca [.int 24, .int 8] := by
      obtain ⟨x0, y0, z0, t0, _⟩ := hT
      exact Same.tup (fun a o e => by
        have n := frz_mem e
        have n2 : a ≠ t := by simpa using n
        have e1 := b1 a o n2 (frz_same _ _ _ _ e)
        exact frz_at (k3 _ _ (sAll _ _ e1) (ne_of_none e1 nS)) (nM1 a o e1 n2)) (tup_frz hca t0)
    have mbg : bg ∉ st0.M := fun ha => by
      rcases List.mem_cons.mp (List.mem_cons_of_mem bg ha) with _ | _
      · rw [MM] at ha
        simp only [List.mem_cons, List.not_mem_nil, or_false] at ha
        rcases ha with z | z | z | z | z
        · exact nbt t _ (sAll _ _ t1) z.symm
        · exact nbt r _ er z.symm
        · exact nbt b _ eb z.symm
        · exact nbt wA _ ew z.symm
        · exact nbt dA _ ed z.symm
      · rw [MM] at ha
        simp only [List.mem_cons, List.not_mem_nil, or_false] at ha
        rcases ha with z | z | z | z | z
        · exact nbt t _ (sAll _ _ t1) z.symm
        · exact nbt r _ er z.symm
        · exact nbt b _ eb z.symm
        · exact nbt wA _ ew z.symm
        · exact nbt dA _ ed z.symm
    have iS : Same I (frz st0.M H5) := fun a o e => frz_at (frz_same _ _ _ _ e) fun ha => frz_mem e (List.mem_cons_of_mem bg ha)
    have ib : I bg = none := by
      show frz (bg :: st0.M) H5 bg = none
      unfold frz
      rw [if_pos (List.mem_cons_self)]
    have msA : sA ∉ bg :: st0.M := fun ha => by
      rcases inM sA ha with z | ⟨_, _, z⟩
      · exact nbS z.symm
      · exact z rfl
    have idi : I st0.s = some (.dK st0.kv) := frz_at eS5 msA
    have t5 : H5 t = some (.lst [.int tx, .int ty, .int tz]) := k3 _ _ (sAll _ _ t1) nst
    have hfr : ∀ a, He a ≠ none → H1 a = none → a ≠ t → H a = none := fun a _ e n => fresh_but b1 n e
    have P0 : PInv K I H H5 st0 t bg nxa [] nx m (c + 24) := by
      refine ⟨rfl, fun a ha n => ?_, mbg, ?_, fun a o n e => ?_, ⟨?_, ⟨tx, ty, tz, t5, t2⟩, iS _ _ idi, ⟨[], k3 _ _ er nsr.symm, .nil⟩, k3 _ _ eb nbs, k3 _ _ ew nws, k3 _ _ ed nds, iL.same iS, iA.same iS, rfl, rfl, rfl, Same.tup iS iC⟩, ?_, ebg, iS, ib, idi, iL, iA, iN⟩
      · rw [MM] at ha
        simp only [List.mem_cons, List.not_mem_nil, or_false] at ha
        rcases ha with rfl | rfl | rfl | rfl | rfl
        · exact absurd rfl n
        · exact fresh_but b1 n n1r
        · exact fresh_but b1 n n1b
        · exact fresh_but b1 n n1w
        · exact fresh_but b1 n n1d
      · have nbgt : bg ≠ t := fun z => mbg (z ▸ tM st0)
        exact fresh_but b1 nbgt (sAll.free (s2.free (s3.free n3b)))
      · have e1 := b1 a o n e
        exact k3 _ _ (sAll _ _ e1) (ne_of_none e1 nS)
      · rw [MM]
        simp only [List.nodup_cons, List.mem_cons, List.not_mem_nil, or_false, not_or, List.nodup_nil, and_true, not_false_eq_true]
        exact ⟨⟨ntr, ntb, ntw, ntd⟩, ⟨nrb, nrw, nrd⟩, ⟨nbw, nbd⟩, nwd⟩
      · obtain ⟨l1, l2⟩ := leadsL_ok hnl hm2
        exact ⟨l1, by show ab.length = m; rw [hal, hnl], fun xs h => (hab xs h).1, l2, ⟨fun x h => (by cases h), fun x h => (by cases h)⟩, fun k ps e => (by cases e), (fun r h => (by cases h)), fun k r e => (by cases e)⟩
    have eB : ∀ xs ∈ st0.above, 0 ∈ xs := fun xs h => (hab xs h).1
    refine ⟨_, rfl, (m : Int), rfl, by omega, by omega, ?_⟩
    refine for_range (lo := 0) (n := m) (fun i σ H6 => ∃ (ra : List Rw) (ba wa da gs : List Nat) (y6 y7 y8 : Option V), σ = [some (.ref t), some (iv m), some (iv most), some (.ref ca), some (.ref nxa), some (.ref sA), some (.ref bg), y6, y7, y8, none, none] ∧
      PInv K I H H6 (st0.upd4 ra ba wa da) t bg nxa gs nx m (c + 24 + 260 * i) ∧ gs.length = i ∧ ra.length ≤ 10 * i ∧ (0 < i → Bs (st0.upd4 ra ba wa da)) ∧ Lay ra ba gs ∧ (gs = [] → ra = []))
      ⟨[], [], [], [], [], none, none, none, rfl, P0, rfl, Nat.zero_le _, fun z => absurd z (Nat.lt_irrefl 0), Lay.nil, fun _ => rfl⟩ (fun i σ H6 hi hP => ?_) (fun σ H6 hP => ?_)
    · obtain ⟨ra, ba, wa, da, gs, y6, y7, y8, rfl, P6, hgs, hra, hB6, hLy, hLe⟩ := hP
      have hi0 : V.int (0 + (i : Int)) = iv i := by rw [Int.zero_add]; rfl
      rw [hi0]
      obtain ⟨vs, v1, v2⟩ := P6.ok.rows
      have hvl : vs.length = ra.length := pd_len v2
      refine ⟨.ref bg, rfl, .inl ⟨rfl, _, sqL P6.bgl⟩, .ref sA, rfl, sA, .ref r, rfl, dgOf (st := st0.upd4 ra ba wa da) P6.ok.ds (kvR _), r, vs, rfl, .inl (sqL v1), bg, _, _, rfl, rfl, P6.bgl, by rw [List.length_map]; exact szt (by omega), ?_⟩
      have eg : gs.map iv ++ [V.int (vs.length : Int)] = (gs ++ [ra.length]).map iv := by rw [List.map_append, hvl]; rfl
      rw [eg]
      have P7 := P6.push (gs ++ [ra.length])
      generalize upd H6 bg (.lst ((gs ++ [ra.length]).map iv)) = H7 at P7
      have hgs2 : (gs ++ [ra.length]).length = i + 1 := by rw [List.length_append, List.length_singleton, hgs]
      have hLp := hLy.push hLe
      have hnoi : ∀ k, k < ra.length → ba.getD k 0 < i := fun k hk => by have := (hLy.own k hk).1; omega
      have hg2n : gs ++ [ra.length] ≠ [] := by simp
      generalize gs ++ [ra.length] = gs2 at P7 hgs2 hLp hg2n
      refine ⟨fun σ H8 => ∃ (ra : List Rw) (ba wa da : List Nat), σ = [some (.ref t), some (iv m), some (iv most), some (.ref ca), some (.ref nxa), some (.ref sA), some (.ref bg), some (iv i), y7, y8, none, none] ∧
        PInv K I H H8 (st0.upd4 ra ba wa da) t bg nxa gs2 nx m (c + 24 + 260 * i) ∧ ra.length ≤ 10 * i + 1 ∧ Bs (st0.upd4 ra ba wa da) ∧ Lay ra ba gs2 ∧ (0 < i → ∀ k, k < ra.length → ba.getD k 0 = i → mB ra k = true), ?_, fun σ H8 hM => ?_⟩
      · refine ⟨_, rfl, rfl, _, rfl, ite2 (fun e => ?_) (fun e => ?_)⟩
        · have ei : V.int (i : Int) = V.int 0 := of_decide_eq_true e
          have ei2 : (i : Int) = 0 := V.int.inj ei
          have ei3 : i = 0 := by omega
          subst ei3
          have er0 : ra = [] := List.length_eq_zero_iff.mp (by omega)
          have hbl : ba.length = ra.length := P7.ok.lb
          have eb0 : ba = [] := List.length_eq_zero_iff.mp (by rw [hbl, er0]; rfl)
          refine ⟨.ref sA, rfl, szl (show 2 ≤ 1000000 by decide), fun p np => ?_⟩
          have sp' := new_same (o := .tup [.str "take", .int 0]) np
          have P8 := P7.same sp'
          have mp := P7.ok.fresh np
          refine ⟨st0.upd4 ra ba wa da, _, 0, .ref p, .take 0, 1, 1, rfl, P8.ok, by show ra.length ≤ 1000; omega, ⟨p, _, rfl, sqT (frz_at upd_same mp), rfl⟩, fun H9 bm ok9 => ?_⟩
          have gd9 := P8.gd.put (blk := 0) (row := .take 0) (wi := 1) (de := 1) P8.ok.lb (show 0 ≤ 5 by decide) (fun ps e => (by cases e)) (fun y h => by cases h) (Nat.le_refl _) (by decide) (Nat.le_refl _) (by decide)
          refine ⟨ra ++ [.take 0], ba ++ [0], wa ++ [1], da ++ [1], rfl, P8.next bm ok9 gd9, by rw [List.length_append, List.length_singleton]; omega, ⟨?_, ?_, eB, ?_, ?_⟩, hLp.put hgs2 (fun z => by cases z), fun z => absurd z (Nat.lt_irrefl 0)⟩
          · rw [er0]; rfl
          · rw [eb0]; rfl
          · have hwl : wa.length = ra.length := P7.ok.lw
            rw [show wa = [] from List.length_eq_zero_iff.mp (by rw [hwl, er0]; rfl)]; rfl
          · have hdl : da.length = ra.length := P7.ok.ld
            rw [show da = [] from List.length_eq_zero_iff.mp (by rw [hdl, er0]; rfl)]; rfl
        · have hi1 : 0 < i := by
            cases i with
            | zero => exact absurd (decide_eq_true rfl) e
            | succ n => exact Nat.succ_pos _
          exact ⟨ra, ba, wa, da, rfl, P7, by omega, hB6 hi1, hLp, fun _ k hk e => by have := hnoi k hk; omega⟩
      · clear P7 P6 hra hB6 v1 v2 hvl hLy hLe hLp hnoi
        obtain ⟨ra, ba, wa, da, rfl, P8, hra, hB8, hL8, hm8⟩ := hM
        refine ⟨.ref t, rfl, t, 4, _, rfl, P8.tape, by omega, by decide, by decide, fun r1 H9 h9 b9 T9 => ?_⟩
        have P9 := P8.draw b9 T9
        have hlen : i < (st0.upd4 ra ba wa da).leads.length := by rw [P9.gd.ll]; exact hi
        obtain ⟨zs, la, u1, u2, u3, u4⟩ := P9.ok.leads.at (gdl (d := []) hlen)
        have hld := gdl (d := []) hlen
        obtain ⟨hl12, hlm⟩ := P9.gd.lv _ (List.mem_of_getElem? hld)
        have hld0 : (leadsL nx)[i]? = some ((st0.upd4 ra ba wa da).leads.getD i []) := hld
        have hal2 : ab.length = m := by rw [hal, hnl]
        generalize (st0.upd4 ra ba wa da).leads.getD i [] = ld at u4 hl12 hlm hld0
        refine ⟨.ref sA, rfl, sA, .ref LA, rfl, dgOf (st := st0.upd4 ra ba wa da) P9.ok.ds (kvL _), _, rfl, LA, zs, _, .ref la, rfl, rfl, sq_out u1, u3, la, _, rfl, .inl (sq_out u4), _, _, rfl, rfl, .inr ⟨_, rfl, _, _, rfl, rfl, .inl ⟨by omega, by omega⟩, _, rfl, ?_⟩⟩
        have hb01 : ∀ b : Bool, (if b = true then (1 : Int) else 0) = 0 ∨ ((if b = true then (1 : Int) else 0) = 1 ∧ b = true) := by decide
        have hj : (r1 : Int) * (if decide ((1 : Int) < ((ld.map iv).length : Int)) = true then 1 else 0) = 0 ∨ ((r1 : Int) * (if decide ((1 : Int) < ((ld.map iv).length : Int)) = true then 1 else 0) = r1 ∧ 1 < ld.length) := by
          rcases hb01 (decide ((1 : Int) < ((ld.map iv).length : Int))) with h | ⟨h, h'⟩
          · rw [h, Int.mul_zero]; exact .inl rfl
          · rw [h, Int.mul_one]
            have h2 : (1 : Int) < ((ld.map iv).length : Int) := of_decide_eq_true h'
            rw [List.length_map] at h2
            exact .inr ⟨rfl, by omega⟩
        generalize (r1 : Int) * (if decide ((1 : Int) < ((ld.map iv).length : Int)) = true then 1 else 0) = jn at hj
        refine ⟨by omega, by omega, ?_⟩
        have hla : ∀ l ∈ ld, l < ab.length := fun l h => by rw [hal2]; exact hlm l h
        refine for_range (lo := 0) (n := jn.toNat) (fun j σ H10 => ∃ (ra : List Rw) (ba wa da : List Nat) (y7 : Option V), σ = [some (.ref t), some (iv m), some (iv most), some (.ref ca), some (.ref nxa), some (.ref sA), some (.ref bg), some (iv i), y7, y8, none, none] ∧
          PInv K I H H10 (st0.upd4 ra ba wa da) t bg nxa gs2 nx m (c + 24 + 260 * i + 1 + 20 * j) ∧ ra.length ≤ 10 * i + 1 + j ∧ Bs (st0.upd4 ra ba wa da) ∧ Lay ra ba gs2 ∧ (0 < i → ∀ k, k < ra.length → ba.getD k 0 = i → mB ra k = true))
          ⟨ra, ba, wa, da, y7, rfl, P9, hra, hB8, hL8, hm8⟩ (fun j σ H10 hjj hP => ?_) (fun σ H10 hP => ?_)
        · obtain ⟨ra, ba, wa, da, y7, rfl, P10, hra, hB10, hL10, hm10⟩ := hP
          have hj1 : 1 < ld.length ∧ jn.toNat ≤ 3 := by
            rcases hj with h | ⟨h, h'⟩
            · omega
            · exact ⟨h', by omega⟩
          refine ⟨.ref t, rfl, .ref sA, rfl, iv i, rfl, st0.upd4 ra ba wa da, _, i, ld, rfl, P10.ok, P10.gd.wd, hB10, hld0, by omega, hl12, hla, by omega, by show ra.length ≤ 900; omega, fun H11 ps wi de bm ok11 hpl hps hpi k1 k2 k3 k4 => ?_⟩
          have hps' : ∀ y ∈ ps, y < ra.length := hps
          have gd11 := P10.gd.put (blk := i) (row := .meet ps) (wi := wi) (de := de) P10.ok.lb ⟨fun y hy => Nat.lt_succ_of_lt (hps' y hy), by omega⟩ (fun ps' e => by cases e; exact ⟨ld, hld0, hpl, by omega, hl12, hla, hpi⟩) (fun y h => by cases h) k1 k2 k3 k4
          have hi1 : 0 < i := Nat.pos_of_ne_zero fun z => by
            rw [z] at hld0
            exact absurd hj1.1 (by rw [lead0 hnx hld0]; decide)
          refine ⟨ra ++ [Rw.meet ps], ba ++ [i], wa ++ [wi], da ++ [de], _, rfl, (P10.next bm ok11 gd11).mono (by omega), by rw [List.length_append, List.length_singleton]; omega, hB10.put, hL10.put hgs2 (fun _ k hk e => hm10 hi1 k (by omega) e), fun _ k hk e => ?_⟩
          rw [List.length_append, List.length_singleton] at hk
          by_cases hkr : k = ra.length
          · rw [mB_at (r := .meet ps) (by rw [hkr, List.getElem?_append_right (Nat.le_refl _), Nat.sub_self]; rfl)]; rfl
          · rw [getD_app, if_neg (by rw [hL10.len]; exact hkr)] at e
            have := hm10 hi1 k (by omega) e
            unfold mB at this ⊢
            rw [getD_app, if_neg hkr]
            exact this
        · clear P8 P9 hra hB8 T9 b9 u1 u2 u3 u4 hld hlen hL8 hm8
          obtain ⟨ra, ba, wa, da, y7, rfl, P10, hra, hB10, hL10, hm10⟩ := hP
          have hj3 : jn.toNat ≤ 3 := by
            rcases hj with h | ⟨h, h'⟩ <;> omega
          refine ⟨.ref t, rfl, _, rfl, _, _, rfl, rfl, t, _, _, rfl, P10.tape, by omega, by omega, by omega, fun r2 H11 h11 b11 T11 => ⟨_, rfl, by omega, by omega, ?_⟩⟩
          have P11 := (P10.draw b11 T11).mono (show c + 24 + 260 * i + 1 + 20 * jn.toNat + 1 ≤ c + 24 + 260 * i + 62 + 34 * 0 by omega)
          refine for_range (lo := 0) (n := r2) (fun j σ H12 => ∃ (ra : List Rw) (ba wa da : List Nat) (y7 y8 : Option V), σ = [some (.ref t), some (iv m), some (iv most), some (.ref ca), some (.ref nxa), some (.ref sA), some (.ref bg), some (iv i), y7, y8, none, none] ∧
            PInv K I H H12 (st0.upd4 ra ba wa da) t bg nxa gs2 nx m (c + 24 + 260 * i + 62 + 34 * j) ∧ ra.length ≤ 10 * i + 4 + j ∧ Bs (st0.upd4 ra ba wa da) ∧ Lay ra ba gs2)
            ⟨ra, ba, wa, da, y7, y8, rfl, P11, by omega, hB10, hL10⟩ (fun j σ H12 hjj hP => ?_) (fun σ H12 hP => ?_)
          · obtain ⟨ra, ba, wa, da, y7, y8, rfl, P12, hra, hB12, hL12⟩ := hP
            refine ⟨.ref t, rfl, t, 8, _, rfl, P12.tape, by omega, by decide, by decide, fun r3 H13 h13 b13 T13 => ⟨rfl, _, rfl, ?_⟩⟩
            have P13 := P12.draw b13 T13
            show if decide (V.int (r3 : Int) = V.int 0) = true then _ else _
            generalize decide (V.int (r3 : Int) = V.int 0) = bb
            cases bb with
            | true =>
              refine tell_rd (st := st0) P13 hB12 hi (by omega) (by omega) fun H14 ra' ba' wa' da' z8 P14 hB14 hl14 hra' hba' => ?_
              obtain ⟨xt, rfl⟩ := hra'
              subst hba'
              exact ⟨_, _, wa', da', _, z8, rfl, P14.mono (by omega), by omega, hB14, hL12.put hgs2 (fun z => by cases z)⟩
            | false =>
              have hab : i < (st0.upd4 ra ba wa da).above.length := by rw [P13.gd.la]; exact hi
              refine ⟨.ref t, rfl, .ref sA, rfl, iv i, rfl, st0.upd4 ra ba wa da, _, i, rfl, P13.ok, P13.gd.wd, hab, by omega, by show ra.length ≤ 900; omega, fun H14 row wi de bm ok14 hin k1 k2 k3 k4 => ?_⟩
              have rb := (RwIn.rb hin fun y hy => standL_lt hy).mono (Nat.le_succ _)
              have gd14 := P13.gd.put (blk := i) (row := row) (wi := wi) (de := de) P13.ok.lb rb (fun ps e => absurd e (RwIn.nm hin ps)) hin.used k1 k2 k3 k4
              exact ⟨ra ++ [row], ba ++ [i], wa ++ [wi], da ++ [de], _, _, rfl, (P13.next bm ok14 gd14).mono (by omega), by rw [List.length_append, List.length_singleton]; omega, hB12.put, hL12.put hgs2 (fun z => by rw [RwIn.notM hin] at z; cases z)⟩
          · clear P10 P11 hra hB10 hL10 hm10
            obtain ⟨ra, ba, wa, da, y7, y8, rfl, P12, hra, hB12, hL12⟩ := hP
            refine ⟨.ref t, rfl, t, 3, _, rfl, P12.tape, by omega, by decide, by decide, fun r3 H13 h13 b13 T13 => ⟨rfl, _, rfl, ?_⟩⟩
            have P13 := P12.draw b13 T13
            show if decide (V.int (r3 : Int) = V.int 0) = true then _ else _
            generalize decide (V.int (r3 : Int) = V.int 0) = bb
            cases bb with
            | true =>
              refine tell_rd (st := st0) P13 hB12 hi (by omega) (by omega) fun H14 ra' ba' wa' da' z8 P14 hB14 hl14 hra' hba' => ?_
              obtain ⟨xt, rfl⟩ := hra'
              subst hba'
              exact ⟨_, _, wa', da', gs2, _, _, z8, rfl, P14.mono (by omega), hgs2, by omega, fun _ => hB14, hL12.put hgs2 (fun z => by cases z), fun z => absurd z hg2n⟩
            | false => exact ⟨ra, ba, wa, da, gs2, _, _, _, rfl, P13.mono (by omega), hgs2, by omega, fun _ => hB12, hL12, fun z => absurd z hg2n⟩
    · obtain ⟨ra, ba, wa, da, gs, y6, y7, y8, rfl, P6, hgs, hra, hB6, hLy, hLe⟩ := hP
      have hB := hB6 hm1
      refine ⟨.ref t, rfl, .ref sA, rfl, st0.upd4 ra ba wa da, _, rfl, P6.ok, hB, P6.gd.mo, P6.gd.rb, by show c + 24 + 260 * m + 24 * ra.length ≤ 90000000; omega, by show ra.length ≤ 900; omega, fun H7 rs bm ok7 hrl hB7 hRB7 hMk7 hmB7 hsR7 => ?_⟩
      have hrl' : rs.length = ra.length := hrl
      have hRB8 : ∀ r ∈ rs, RwB rs.length r := fun r h => by rw [hrl']; exact hRB7 r h
      have P7 : PInv K I H H7 (st0.upd4 rs ba wa da) t bg nxa gs nx m (c + 24 + 260 * m + 24 * ra.length) := P6.rws bm ok7 ⟨P6.gd.ll, P6.gd.la, P6.gd.ab, P6.gd.lv, P6.gd.wd, hMk7, hRB8, P6.gd.su.rw hrl hmB7 hsR7⟩
      obtain ⟨vs7, v71, v72⟩ := P7.ok.rows
      have hvl7 : vs7.length = rs.length := pd_len v72
      refine ⟨.ref bg, rfl, .inl ⟨rfl, _, sqL P7.bgl⟩, .ref sA, rfl, sA, .ref r, rfl, dgOf (st := st0.upd4 rs ba wa da) P7.ok.ds (kvR _), r, vs7, rfl, .inl (sqL v71), bg, _, _, rfl, rfl, P7.bgl, by rw [List.length_map]; exact szt (by omega), ?_⟩
      have eg : gs.map iv ++ [V.int (vs7.length : Int)] = (gs ++ [rs.length]).map iv := by rw [List.map_append, hvl7]; rfl
      rw [eg]
      have P8 := P7.push (gs ++ [rs.length])
      generalize upd H7 bg (.lst ((gs ++ [rs.length]).map iv)) = H8 at P8
      have hg2 : (gs ++ [rs.length]).length = m + 1 := by rw [List.length_append, List.length_singleton, hgs]
      have hLr := (hLy.rw hrl' hmB7).push (fun z => List.length_eq_zero_iff.mp (by rw [hrl', hLe z]; rfl))
      have hlast : (gs ++ [rs.length]).getD m 0 = rs.length := by rw [getD_app, if_pos hgs.symm]
      generalize gs ++ [rs.length] = gs2 at P8 hg2 hLr hlast
      refine ⟨Nat.zero_le _, fun fo nfo => ?_⟩
      have sF := new_same (o := .lst []) nfo
      have P9 := P8.same sF
      have mfo := P8.ok.fresh nfo
      have nfb : fo ≠ bg := (ne_of_none P8.bgl nfo).symm
      have nft : fo ≠ t := fun z => mfo (by rw [z]; exact tM (st0.upd4 rs ba wa da))
      have iF : I fo = none := by
        cases z : I fo with
        | none => rfl
        | some o => rw [frz_same _ _ _ _ (P8.iS _ _ z)] at nfo; cases nfo
      have hF : H fo = none := fresh_but P8.bt nft nfo
      have hCC : c + 24 + 260 * m + 24 * ra.length ≤ 10000 := by omega
      generalize c + 24 + 260 * m + 24 * ra.length = CC at P9 hCC
      have hn130 : rs.length ≤ 120 := by omega
      refine ⟨_, rfl, (m : Int), rfl, by omega, by omega, ?_⟩
      have hHs2 : H st0.s = none := hHs
      refine for_range (lo := 0) (n := m) (fun i σ H10 => ∃ (I : Hp) (f : Nat) (bs : List V) (pr : List Blk) (y6 y7 y8 y10 : Option V), σ = [some (.ref t), some (iv m), some (iv most), some (.ref ca), some (.ref nxa), some (.ref sA), some (.ref bg), y6, y7, y8, some (.ref fo), y10] ∧
        PInv K I H H10 ((st0.fw f).upd4 rs ba wa da) t bg nxa gs2 nx m (CC + 4 * i) ∧ I fo = none ∧ H10 fo = some (.lst bs) ∧ Paired (BlkI K t fo H10) bs pr ∧ pr.length = i ∧ (∀ b ∈ pr, b.1.length ≤ 130 ∧ (∀ r ∈ b.1, RwB 130 r) ∧ EnOk m 130 b.2) ∧ pr.map (fun b => b.2.names) = nx.take i ∧ (rowsL pr).length = gs2.getD i 0 ∧ (∀ b ∈ pr, (∀ r ∈ b.1, RwB rs.length r) ∧ EnOk m rs.length b.2) ∧ (∀ (j : Nat) (b : Blk), pr[j]? = some b → ∀ (x : Nat) (ps : List Nat), b.1[x]? = some (.meet ps) → ∃ ld, (leadsL nx)[j]? = some ld ∧ ps.length = ld.length ∧ 1 ≤ ld.length) ∧ (∀ b ∈ pr, ∀ x, x + 1 < b.1.length → mB b.1 (x + 1) = true → mB b.1 x = true) ∧ PrI (st0.upd4 rs ba wa da) gs2 pr)
        ⟨I, 0, [], [], _, _, _, _, rfl, P9, iF, upd_same, .nil, rfl, fun b h => (by cases h), rfl, hLr.fst.symm, fun b h => (by cases h), fun j b h => (by simp at h), (fun b h => (by cases h)), PrI.nil hLr.fst⟩ (fun i σ H10 hi hP => ?_) (fun σ H10 hP => ?_)
      · obtain ⟨I1, f, bs, pr, y6, y7, y8, y10, rfl, P10, iF1, efo, pdb, hpl, hpr, hpn, hx1, hx2, hx3, hx4, hx5⟩ := hP
        have hi0 : V.int (0 + (i : Int)) = iv i := by rw [Int.zero_add]; rfl
        rw [hi0]
        have hab : i < (st0.upd4 rs ba wa da).above.length := P10.gd.la ▸ hi
        have hin : i < nx.length := by omega
        have hni := gdl (d := ([] : List Nat)) hin
        have hnxi := hnx _ (List.mem_of_getElem? hni)
        generalize nx.getD i [] = xs at hni hnxi
        -- end
        refine ⟨fun σ H12 => ∃ (ea : V) (e : En), σ = [some (.ref t), some (iv m), some (iv most), some (.ref ca), some (.ref nxa), some (.ref sA), some (.ref bg), some (iv i), y7, y8, some (.ref fo), some ea] ∧ Same H10 H12 ∧ EnAt K H12 ea e ∧ (xs.length ≠ 2 → EnOk m rs.length e ∧ e.names = xs) ∧ (∀ r x y, e ≠ .iff r x y), ?_, fun σ H12 hM => ?_⟩
        · obtain ⟨zs, qa, z1, z2, z3, z4⟩ := P10.nl.at hni
          refine ⟨.ref nxa, rfl, _, rfl, nxa, zs, _, .ref qa, rfl, rfl, z1, z3, qa, _, rfl, .inl z4, rfl, _, rfl, ite2 (fun e => ?_) (fun e => ?_)⟩
          · have e1 : ((xs.map iv).length : Int) = 1 := V.int.inj (of_decide_eq_true e)
            rw [List.length_map] at e1
            have h0 : 0 < xs.length := by omega
            refine ⟨.ref nxa, rfl, _, rfl, nxa, zs, _, .ref qa, rfl, rfl, z1, z3, qa, _, _, _, rfl, rfl, z4, at_iv (r := 0) h0, szl (show 2 ≤ 1000000 by decide), fun p np => ?_⟩
            exact ⟨.ref p, .go xs[0], rfl, new_same np, ⟨p, rfl, sqT upd_same⟩, (fun _ => ⟨hnxi.2.2 _ (List.getElem_mem h0), one_eq (by omega)⟩), fun _ _ _ z => by cases z⟩
          · exact ⟨szl (show 1 ≤ 1000000 by decide), fun p np => ⟨.ref p, .fin, rfl, new_same np, ⟨p, rfl, sqT upd_same⟩, (fun z => ⟨trivial, (nil_eq hnxi.1 (fun q => e (decide_eq_true (by show V.int ((xs.map iv).length : Int) = V.int 1; rw [List.length_map, q]; rfl))) z)⟩), fun _ _ _ z => by cases z⟩⟩
        · obtain ⟨ea, e, rfl, s12, hea, heo, hei⟩ := hM
          have P12 := P10.same s12
          refine ⟨fun σ H13 => ∃ (I2 : Hp) (f2 : Nat) (ea : V) (e : En), σ = [some (.ref t), some (iv m), some (iv most), some (.ref ca), some (.ref nxa), some (.ref sA), some (.ref bg), some (iv i), y7, y8, some (.ref fo), some ea] ∧ But2 t sA H12 H13 ∧ PInv K I2 H H13 ((st0.fw f2).upd4 rs ba wa da) t bg nxa gs2 nx m (CC + 4 * i + 4) ∧ I2 fo = none ∧ EnAt K H13 ea e ∧ EnOk m rs.length e ∧ e.names = xs ∧ (∀ r x y, e = .iff r x y → r ∈ standL (st0.upd4 rs ba wa da) i), ?_, fun σ H13 hM => ?_⟩
          · obtain ⟨zs, qa, z1, z2, z3, z4⟩ := P12.nl.at hni
            refine ⟨.ref nxa, rfl, _, rfl, nxa, zs, _, .ref qa, rfl, rfl, z1, z3, qa, _, rfl, .inl z4, rfl, _, rfl, ite2 (fun e2 => ?_) (fun e2 => ?_)⟩
            · have e1 : ((xs.map iv).length : Int) = 2 := V.int.inj (of_decide_eq_true e2)
              rw [List.length_map] at e1
              have h0 : 0 < xs.length := by omega
              have h1 : 1 < xs.length := by omega
              have hBw : Bs ((st0.fw f).upd4 rs ba wa da) := ⟨hB7.r0, hB7.b0, hB7.ab, hB7.w0, hB7.d0⟩
              refine ⟨.ref t, rfl, .ref sA, rfl, .ref sA, rfl, iv i, rfl, (st0.fw f).upd4 rs ba wa da, _, i, rfl, P12.ok, hab, by show rs.length ≤ 1000; omega, fun sa Ha nsa sa1 esa => ?_⟩
              have Pa := P12.same sa1
              have msa := P12.ok.fresh nsa
              refine ⟨(st0.fw f).upd4 rs ba wa da, _, i, sa, rfl, Pa.ok, hBw, Pa.gd.rb, hab, by omega, by show rs.length ≤ 900; omega, sqL (frz_at esa msa), fun rr f2 Hb hrr b2 T2 ed2 => ?_⟩
              have Pb : PInv K (upd I1 sA (.dK (Sta.kv (((st0.fw f).upd4 rs ba wa da).fw f2)))) H Hb ((st0.fw f2).upd4 rs ba wa da) t bg nxa gs2 nx m (CC + 4 * i + 3) := Pa.ch hHs2 b2 T2 ed2
              have iF2 : upd I1 sA (.dK (Sta.kv (((st0.fw f).upd4 rs ba wa da).fw f2))) fo = none := by
                rw [upd_ne (fun z : fo = sA => by have := P10.idi; rw [z] at iF1; rw [show ((st0.fw f).upd4 rs ba wa da).s = sA from rfl, iF1] at this; cases this)]
                exact iF1
              obtain ⟨zs, qa, z1, z2, z3, z4⟩ := Pb.nl.at hni
              refine ⟨.ref nxa, rfl, _, rfl, nxa, zs, _, .ref qa, rfl, rfl, z1, z3, qa, _, _, _, rfl, rfl, z4, at_iv (r := 0) h0, ?_⟩
              refine ⟨.ref nxa, rfl, _, rfl, nxa, zs, _, .ref qa, rfl, rfl, z1, z3, qa, _, _, _, rfl, rfl, z4, at_iv (r := 1) h1, szl (show 4 ≤ 1000000 by decide), fun p np => ?_⟩
              have q0 := hnxi.2.2 _ (List.getElem_mem h0)
              have q1 := hnxi.2.2 _ (List.getElem_mem h1)
              have qd : xs[0] ≠ xs[1] := fun z => absurd ((List.getElem_inj hnxi.2.1).mp z) (by decide)
              have hrr' : rr ∈ standL (st0.upd4 rs ba wa da) i := hrr
              have hrl : rr < rs.length := standL_lt hrr'
              have sp := new_same (o := .tup [.str "if", iv rr, iv xs[0], iv xs[1]]) np
              exact ⟨_, f2, .ref p, .iff rr xs[0] xs[1], rfl, ((But2.of_but (Same.but sa1)).trans b2).trans (But2.of_but (Same.but sp)), (Pb.same sp).mono (by omega), iF2, ⟨p, rfl, sqT upd_same⟩, ⟨hrl, q0.1, q0.2, q1.1, q1.2, qd⟩, two_eq (by omega), fun r x y z => by cases z; exact hrr'⟩
            · have heo2 := heo fun z => e2 (decide_eq_true (by show V.int ((xs.map iv).length : Int) = V.int 2; rw [List.length_map, z]; rfl))
              exact ⟨I1, f, ea, e, rfl, fun _ _ _ _ z => z, P12.mono (by omega), iF1, hea, heo2.1, heo2.2, fun r x y z => absurd z (hei r x y)⟩
          · clear hea heo hei
            obtain ⟨I2, f2, ea, e, rfl, b13, P13, iF2, hea, heo, hen, hei⟩ := hM
            obtain ⟨vs, v1, v2⟩ := P13.ok.rows
            have hvl : vs.length = rs.length := pd_len v2
            obtain ⟨tx1, ty1, tz1, tt1, tt2⟩ := P12.tape
            have eds12 : H12 sA = some (.dK (Sta.kv ((st0.fw f).upd4 rs ba wa da))) := P12.ok.ds
            have tb : ∀ {a : Addr} {xs : List V}, SqT K H10 a xs → SqT K H13 a xs := fun {a xs} h => tup_but2 (Same.tup s12 h) b13 tt1 eds12
            have efo12 := s12 _ _ efo
            have nfs : fo ≠ sA := ne_of efo12 eds12 (by intro z; cases z)
            have efo13 := b13 fo _ nft nfs efo12
            have g0 : i < gs2.length := by omega
            have g1 : i + 1 < gs2.length := by omega
            refine ⟨.ref fo, rfl, .inl ⟨rfl, _, sqL efo13⟩, .ref sA, rfl, sA, .ref r, rfl, dgOf (st := (st0.fw f2).upd4 rs ba wa da) P13.ok.ds (kvR _), .ref bg, rfl, _, rfl, bg, _, _, _, rfl, rfl, sqL P13.bgl, at_iv g0, _, rfl, ?_⟩
            refine ⟨.ref bg, rfl, _, rfl, _, _, rfl, rfl, bg, _, _, _, rfl, rfl, sqL P13.bgl, at_iv g1, _, rfl, r, vs, rfl, sqL v1, fun rl nrl => ?_⟩
            refine ⟨ea, rfl, szl (show 2 ≤ 1000000 by decide), fun p np => ?_⟩
            have sR := new_same (o := .lst (cutV vs (some ((gs2[i] : Nat) : Int)) (some ((gs2[i + 1] : Nat) : Int)))) nrl
            have sP := new_same (o := .tup [.ref rl, ea]) np
            have e15 := (sR.trans sP) _ _ efo13
            have P15 := (P13.same sR).same sP
            have nrlt : rl ≠ t := P13.tape.ne nrl
            have nrlf : rl ≠ fo := (ne_of_none efo13 nrl).symm
            have bl : bs.length = pr.length := pd_len pdb
            have mfo2 : fo ∉ ((st0.fw f2).upd4 rs ba wa da).M := mfo
            refine ⟨fo, bs, _, rfl, rfl, e15, szt (by omega), ?_⟩
            have P16 := P15.oth (ys := bs ++ [.ref p]) mfo2 nfb iF2 hF e15
            have tc : ∀ {a : Addr} {xs : List V}, SqT K H13 a xs → SqT K (upd (upd (upd H13 rl (.lst (cutV vs (some ((gs2[i] : Nat) : Int)) (some ((gs2[i + 1] : Nat) : Int))))) p (.tup [.ref rl, ea])) fo (.lst (bs ++ [.ref p]))) a xs := fun {a xs} h => tup_upd (Same.tup (sR.trans sP) h) e15
            refine ⟨I2, f2, bs ++ [.ref p], pr ++ [(cutR rs (some ((gs2[i] : Nat) : Int)) (some ((gs2[i + 1] : Nat) : Int)), e)], _, _, _, _, rfl, P16.mono (by omega), iF2, upd_same, ?_, ?_, ?_, ?_, ?_, ?_, ?_, ?_, ?_⟩
            · refine pd_snoc (pd_mono pdb fun v b z => z.mv2 (fun h => tc (tb h)) fun a vs' n1 n2 e' => ?_) ⟨p, rl, ea, _, rfl, tup_upd (sqT upd_same) e15, ?_, nrlt, nrlf, pd_cut (pd_mono v2 fun _ _ z => row_tups z fun h => tc (Same.tup (frz_same _ _) h)) _ _, hea.mv tc⟩
              · rw [upd_ne n2]
                exact (sR.trans sP) _ _ (b13 a _ n1 (ne_of (s12 _ _ e') eds12 (by intro z; cases z)) (s12 _ _ e'))
              · rw [upd_ne nrlf]
                exact sP _ _ upd_same
            · rw [List.length_append, List.length_singleton, hpl]
            · intro b hb
              rcases List.mem_append.mp hb with h | h
              · exact hpr b h
              · rw [List.mem_singleton.mp h]
                exact ⟨Nat.le_trans (cutR_len _ _ _) (by omega), fun r hr => (hRB8 r (cutR_mem hr)).mono (by omega), heo.mono (by omega)⟩
            · rw [List.map_append, hpn, List.take_add_one, hni]
              show nx.take i ++ [e.names] = nx.take i ++ [xs]
              rw [hen]
            all_goals (have eg0 : gs2[i] = gs2.getD i 0 := by rw [List.getD_eq_getElem?_getD, List.getElem?_eq_getElem g0]; rfl)
            all_goals (have eg1 : gs2[i + 1] = gs2.getD (i + 1) 0 := by rw [List.getD_eq_getElem?_getD, List.getElem?_eq_getElem g1]; rfl)
            all_goals (have ga := hLr.asc i (i + 1) (Nat.le_succ i) g1)
            all_goals (have gb := hLr.top (i + 1) g1)
            all_goals (have ecut : cutR rs (some ((gs2[i] : Nat) : Int)) (some ((gs2[i + 1] : Nat) : Int)) = (rs.drop (gs2.getD i 0)).take (gs2.getD (i + 1) 0 - gs2.getD i 0) := by rw [eg0, eg1]; exact cut_nat ga gb)
            all_goals rw [ecut]
            all_goals (have elen : ((rs.drop (gs2.getD i 0)).take (gs2.getD (i + 1) 0 - gs2.getD i 0)).length = gs2.getD (i + 1) 0 - gs2.getD i 0 := by rw [List.length_take, List.length_drop]; omega)
            · rw [rowsL_snoc, hx1]
              show _ + ((rs.drop (gs2.getD i 0)).take (gs2.getD (i + 1) 0 - gs2.getD i 0)).length = _
              rw [elen]
              omega
            · intro b hb
              rcases List.mem_append.mp hb with h | h
              · exact hx2 b h
              · rw [List.mem_singleton.mp h]
                exact ⟨fun r hr => hRB8 r (List.mem_of_mem_drop (List.mem_of_mem_take hr)), heo⟩
            · intro j b hjb x ps hps
              by_cases hji : j < pr.length
              · rw [List.getElem?_append_left hji] at hjb
                exact hx3 j b hjb x ps hps
              · rw [List.getElem?_append_right (by omega)] at hjb
                have hj1 : j - pr.length < 1 := (List.getElem?_eq_some_iff.mp hjb).1
                have hjeq : j = i := by omega
                rw [show j - pr.length = 0 by omega] at hjb
                have hb1 := Option.some.inj hjb
                rw [← hb1] at hps
                have hxl : x < gs2.getD (i + 1) 0 - gs2.getD i 0 := by
                  have := (List.getElem?_eq_some_iff.mp hps).1
                  rw [elen] at this
                  exact this
                have hps2 : rs[gs2.getD i 0 + x]? = some (.meet ps) := by rw [← cut_at hxl]; exact hps
                obtain ⟨ld, hl1, hl2, hl3, _⟩ := P13.gd.mo (gs2.getD i 0 + x) ps hps2
                have hown : ba.getD (gs2.getD i 0 + x) 0 = i := hLr.at g1 (by omega) (by omega)
                refine ⟨ld, ?_, hl2, hl3⟩
                rw [hjeq, ← hown]
                exact hl1
            · intro b hb x hxx hm1
              rcases List.mem_append.mp hb with h | h
              · exact hx4 b h x hxx hm1
              · rw [List.mem_singleton.mp h] at hxx hm1 ⊢
                have hxx2 : x + 1 < gs2.getD (i + 1) 0 - gs2.getD i 0 := by
                  have : x + 1 < ((rs.drop (gs2.getD i 0)).take (gs2.getD (i + 1) 0 - gs2.getD i 0)).length := hxx
                  omega
                have hmb : ∀ y, y < gs2.getD (i + 1) 0 - gs2.getD i 0 → mB ((rs.drop (gs2.getD i 0)).take (gs2.getD (i + 1) 0 - gs2.getD i 0)) y = mB rs (gs2.getD i 0 + y) := fun y hy => mB_cut hy
                have hm1 : mB ((rs.drop (gs2.getD i 0)).take (gs2.getD (i + 1) 0 - gs2.getD i 0)) (x + 1) = true := hm1
                show mB ((rs.drop (gs2.getD i 0)).take (gs2.getD (i + 1) 0 - gs2.getD i 0)) x = true
                rw [hmb _ hxx2] at hm1
                rw [hmb x (by omega)]
                have o1 := hLr.at (i := i) (k := gs2.getD i 0 + x) g1 (by omega) (by omega)
                have o2 := hLr.at (i := i) (k := gs2.getD i 0 + (x + 1)) g1 (by omega) (by omega)
                exact hLr.ma (gs2.getD i 0 + x) (by omega) hm1 (by rw [o1]; exact o2.symm)
            · exact hx5.snoc hpl ga gb rfl hei
      · obtain ⟨I1, f, bs, pr, y6, y7, y8, y10, rfl, P10, iF1, efo, pdb, hpl, hpr, hpn, hx1, hx2, hx3, hx4, hx5⟩ := hP
        obtain ⟨tx9, ty9, tz9, tt9, _⟩ := P10.tape
        exact ⟨.ref fo, rfl, q H10 (.ref fo) pr P10.bt (P10.tape.mono (by omega)) ⟨fo, bs, rfl, sqL (frz_at efo (by simpa using nft)), pd_mono pdb fun _ _ z => z.outF tt9⟩ ⟨hpl, hpr⟩ (by rw [hpn, List.take_of_length_le (by omega)]; exact ⟨hnl, hnx, hledx⟩) (by
          have htot : (rowsL pr).length = rs.length := by rw [hx1, hlast]
          have hnm : pr.map (fun b => b.2.names) = nx := by rw [hpn, List.take_of_length_le (by omega)]
          exact ⟨fun b hb => by rw [htot]; exact hx2 b hb, by rw [hnm]; exact hx3, hx4⟩)
          (by
          have hnm : pr.map (fun b => b.2.names) = nx := by rw [hpn, List.take_of_length_le (by omega)]
          refine ⟨st0.upd4 rs ba wa da, ?_, P10.ok.lb, fun i k hi h1 h2 => ?_, P10.gd.su, P10.gd.mo, hx5.en, by rw [hnm]; rfl, by rw [hnm]; exact habv, hB7⟩
          · rw [hx5.rows, hpl, hlast]
            exact List.take_length
          · rw [hx5.cut i (by omega)] at h1
            rw [hx5.cut (i + 1) (by omega)] at h2
            exact hLr.at (by omega) h1 h2)⟩
end
end Gn
set_option Elab.async false
set_option linter.all false
set_option maxRecDepth 100000
set_option maxHeartbeats 4000000
namespace Gn
open PySem PySem.Spec PyProof.Rows L2
/-- a def that is called by the law's own caller alone (nothing is being printed around it) -/
structure FnG (P : Program) (w : World) (K : PySem.W.Frag) (mg : Str → Option Value) (base : Heap) (f : Addr) (fd : FuncData) (ps : List Str) (sp : Sp) : Prop where
  run : ∀ (outer : List Env) (s : Shared) (H : Hp) (args : Args) (us : List Value) (vs : List V) (Q : VK) (E : XK), Env0 P w K mg base callerA outer s H → BindsTo s fd args (ps.zip us) →
    Vals vs us → sp vs H Q E → codeAny (model P w) callerA (.call (.ref f) args) (CR CX0 outer P w H s Q E) s
theorem fnG_of {P : Program} {w : World} {K : PySem.W.Frag} {mg : Str → Option Value} {base : Heap} {x qual : Str} {st : Stmt} {f : Addr} {fd : FuncData} {N ps : List Str} {sp : Sp} {k : Nat} (F : Fun K x qual st f fd) (S : FnScope N ps (defScope st))
    (hr : Room (k + 1) callerA) (len : ∀ vs H Q E, sp vs H Q E → vs.length = ps.length)
    (body : ∀ (cdv : Value) (outer : List Env) (s : Shared) (H : Hp) (vs : List V) (Q : VK) (E : XK), Room k (callerA.deeper (envOfC qual (defScope st) s.heap.objs.size f cdv)) → sp vs H Q E →
      ∃ t, PSs (cxOf CX0 P w K mg base N qual (defScope st) f cdv callerA outer s H E).nox (defBody st) t ∧ t { nx := fun _ H' => Q .non H', rt := Q } (start N vs) H) : FnG P w K mg base f fd ps sp := by
  obtain ⟨oc, od, kV, doc, pm, an, cdv, ct, osl, rfl, lk, hcd⟩ := F.ex
  refine ⟨fun outer s H args us vs Q E e0 hb rv hsp => ?_⟩
  have hl := len _ _ _ _ hsp
  have inK : K.In s.heap := e0.mod.kin.keeps fun b o z => (e0.bs b o z).1
  have lim : s.heap.NoLimit := e0.mod.nolimit.keeps fun b o z => (e0.bs b o z).1
  have kinds : ∀ y ∈ ps.zip us, (defScope st).names.lookup y.1 = some .local ∨ ((defScope st).names.lookup y.1 = some .cell ∧ ((cellsFrom (s.heap.objs.size + 1) (defScope st).names []).lookup y.1).isSome = true) := by
    rintro ⟨n, v⟩ hy
    rcases S.par n (List.of_mem_zip hy).1 with z | z
    · exact .inl z
    · exact .inr ⟨z, PySem.W.cellsFrom_some _ _ _ (.inl z)⟩
  refine codeAny_call_function hr.depth (inK _ _ lk) rfl S.co S.gen rfl (PySem.W.codeRec_of inK hcd) (hb _ _ _ _ ?_)
  refine wpAny_newFunctionEnv_cells S.kind kinds fun env he t1 x1 => ?_
  subst he
  refine ⟨lim.keeps x1.toInCall.keep, codeAny_func ?_⟩
  obtain ⟨tt, h1, h2⟩ := body cdv outer s H vs Q E (hr.deeper _) hsp
  have J : Inv (cxOf CX0 P w K mg base N qual (defScope st) f cdv callerA outer s H E) [] (start N vs) H t1 := inv_start S hr.hd e0 hl rv x1
  refine wpAny_mono (h1.nox.run [] t1 (start N vs) H _ J h2) (fun fl t2 hs => ?_) fun e t2 hs => hs
  have fin : ∀ {σ' : L2.St} {H' : Hp} {v : V} {u : Value}, Inv (cxOf CX0 P w K mg base N qual (defScope st) f cdv callerA outer s H E) [] σ' H' t2 → RelV v u → Q v H' → CE outer P w H s Q u t2 :=
    fun {σ' H' v u} j ru qv => ⟨v, H', j.os, j.bare, j.base, j.hok, ru, qv⟩
  cases fl with
  | ret u =>
    obtain ⟨v, σ', H', j, ru, qv⟩ := hs
    exact fin j ru qv
  | next =>
    obtain ⟨σ', H', j, qv⟩ := hs
    exact fin (v := V.non) (u := Value.none) j rfl qv
  | brk =>
    obtain ⟨_, _, _, z⟩ := hs
    exact z.elim
  | cont =>
    obtain ⟨_, _, _, z⟩ := hs
    exact z.elim
theorem lawG {P : Program} {w : World} {K : PySem.W.Frag} {mg mb : Str → Option Value} {fa a : Addr} {fd : FuncData} {x : Str} {sp : Sp} {t1 : Shared} {vs : List Value} {ns : List Int} (inK : K.In t1.heap) (hns : t1.heap.Ns mainGlobals mg)
    (hb : t1.heap.Ns builtinsNs mb) (hbb : ∀ x : Str, x ≠ "__name__" → mb x = bootBuiltins x) (lim : t1.heap.NoLimit) (hg : t1.gens = #[]) (ha : t1.heap.get? a = some { cls := .type "list", data := .seq vs.toArray }) (hi : IntsAre vs ns) (hl : ns.length ≤ sizeLine)
    (F : ∀ base : Heap, K.In base → base.Ns mainGlobals mg → FnG P w K mg base fa fd [x] sp) (bind : ∀ (s : Shared) (u : Value), BindsTo s fd ⟨[u], []⟩ [(x, u)])
    (hsp : ∀ H : Hp, Only H → SqL K H a (ns.map V.int) → sp [.ref a] H (fun v _ => v = .bl true) fun _ _ _ => False) :
    codeAny (model P w) callerA (.call (.ref fa) ⟨[.ref a], []⟩) (fun r t => r = .ok (.ret (.bool true)) ∧ OldK t1.heap t.heap ∧ t.os = t1.os ∧ AllBare t.gens) t1 := by
  have rv := vals_ints hi
  have lenV := hi.length
  have core : ∀ H : Hp, Only H → SqL K H a (ns.map V.int) → HOk P w H t1.heap → (∀ b, H b ≠ none → b = a) → (H a ≠ none → K.lookup a = none) →
      codeAny (model P w) callerA (.call (.ref fa) ⟨[.ref a], []⟩) (fun r t => r = .ok (.ret (.bool true)) ∧ OldK t1.heap t.heap ∧ t.os = t1.os ∧ AllBare t.gens) t1 := by
    intro H hO hS hok hA hK
    have onlyA : ∀ {b : Addr} {u : HO}, H b = some u → b = a := fun {b u} q => hA b (by rw [q]; simp)
    have noA : ∀ {b : Addr} {o : Obj} {es : Array DictEntry} {ep : Nat}, t1.heap.get? b = some o → o.data = .dict es ep → H b = none := fun {b o es ep} e d => by
      cases q : H b with
      | none => rfl
      | some u =>
        have eb := onlyA q
        subst eb
        rw [ha] at e
        cases e
        cases (show Data.seq vs.toArray _ = Data.dict es ep from d)
    have nsK : ∀ {b : Addr} {m : Str → Option Value}, t1.heap.Ns b m → (hidT t1.heap H).Ns b m := fun {b m} ⟨o, es, ep, e, d, r⟩ => ⟨o, es, ep, hidT_get e (noA e d), d, r⟩
    have inKb : K.In (hidT t1.heap H) := fun b o e => by
      refine hidT_get (inK b o e) ?_
      cases q : H b with
      | none => rfl
      | some u =>
        have eb := onlyA q
        subst eb
        rw [hK (by rw [q]; simp)] at e
        cases e
    have hM : Mod K mg (hidT t1.heap H) := ⟨inKb, nsK hns, ⟨mb, nsK hb, hbb⟩, let ⟨mc, h1, h2⟩ := lim; ⟨mc, nsK h1, h2⟩⟩
    have e0 : Env0 P w K mg (hidT t1.heap H) callerA [] t1 H := ⟨rfl, hM, fun b o e => of_hidT e, Nat.le_of_eq (hidT_size _ _), trivial, (fun b hb => absurd (show b ∈ ([] : List Addr) from hb) (by simp)), hok, .of_eq hg⟩
    refine codeAny_mono ((F _ inKb (nsK hns)).run [] t1 H ⟨[.ref a], []⟩ [.ref a] [.ref a] _ _ e0 (bind t1 (.ref a)) (.cons rfl .nil) (hsp H hO hS)) fun r t h => ?_
    cases r with
    | error e => exact False.elim h
    | ok fl =>
      cases fl with
      | ret u =>
        obtain ⟨v, H', os, bare, un, hok', r', q⟩ := h
        have q' : v = .bl true := q
        subst q'
        obtain rfl : u = Value.bool true := r'
        refine ⟨rfl, (OldK.of_keep fun b o e => ?_), os, bare⟩
        cases q : H b with
        | none => exact un.keep b o e q ((by intro z; exact absurd (show b ∈ ([] : List Addr) from z) (by simp))) (by simp)
        | some u =>
          rcases hO b with z | ⟨ob, xs, z⟩
          · rw [q] at z
            cases z
          · have z2 := un.frzs b ob _ z
            obtain ⟨e1, _⟩ := hok b _ z
            obtain ⟨e2, _⟩ := hok' b _ z2
            rw [e] at e1
            cases e1
            exact e2
      | next => exact False.elim h
      | brk => exact False.elim h
      | cont => exact False.elim h
  cases hk : K.lookup a with
  | some o =>
    have e := inK a o hk
    rw [ha] at e
    cases e
    exact core (fun _ => none) (fun _ => .inl rfl) (.inr ⟨_, vs.toArray, _, hk, rfl, rfl, rfl, by rw [List.size_toArray, lenV]; exact hl, by simpa using rv⟩) (fun b u z => by cases (show (none : Option HO) = some u from z)) (fun b z => absurd rfl z) fun z => absurd rfl z
  | none =>
    let H0 : Hp := fun b => if b = a then some (.frz { cls := .type "list", data := .seq vs.toArray } (.lst (ns.map V.int))) else none
    have h1 : ∀ b, b = a → H0 b = some (.frz { cls := .type "list", data := .seq vs.toArray } (.lst (ns.map V.int))) := fun b e => if_pos e
    have h2 : ∀ b, b ≠ a → H0 b = none := fun b e => if_neg e
    refine core H0 (fun b => ?_) (.inl (.inr ⟨_, h1 a rfl⟩)) (fun b u z => ?_) (fun b z => ?_) fun _ => hk
    · by_cases eb : b = a
      · exact .inr ⟨_, _, h1 b eb⟩
      · exact .inl (h2 b eb)
    · by_cases eb : b = a
      · rw [h1 b eb] at z
        cases z
        subst eb
        exact ⟨ha, by rw [List.length_map]; exact hl, vs, _, rv, ha⟩
      · rw [h2 b eb] at z
        cases z
    · by_cases eb : b = a
      · exact eb
      · exact absurd (h2 b eb) z
theorem walkG {l : PySem.W.OpenLaw} {n : Nat} {q : Program} {loose : List Str} {XP : (Str → Option Value) → Heap → Prop} {YP : World → Heap → Prop} {d : DefRec} {K : Params → PySem.W.Frag} {sp : World → Sp} {x : Str} (hn : l.most = some n) (hn2 : n ≤ sizeLine) (hdf : d.params.defaults = [])
    (hY : ∀ (w : World) (h : Heap), YP w h → (K w.params).In h)
    (F : ∀ (w : World) (mg : Str → Option Value) (fa : Addr) (h : Heap), (K w.params).In h → h.Ns mainGlobals mg → mg d.name = some (.ref fa) →
      ∃ fd : FuncData, (∀ (s : Shared) (u : Value), BindsTo s fd ⟨[u], []⟩ [(x, u)]) ∧ ∀ base : Heap, (K w.params).In base → base.Ns mainGlobals mg → FnG l.prog w (K w.params) mg base fa fd [x] (sp w))
    (hsp : ∀ (w : World) (H : Hp) (a : Addr) (ns : List Int), ns.length ≤ n → Only H → SqL (K w.params) H a (ns.map V.int) → sp w [.ref a] H (fun v _ => v = .bl true) fun _ _ _ => False) :
    PySem.W.WalkO q loose XP YP l.row.toRowW d [] (fun f vs => PySem.call f vs) := by
  refine Att.attach_call hn hdf fun w t0 t1 mg mb fa o pm cd doc a vs ns G Y ho hd hcd hmg hobj hints hlen hg => ?_
  have KX := hY w _ Y
  obtain ⟨fd, hb, hF⟩ := F w mg fa _ KX G.T.g hmg
  exact lawG KX G.T.g G.T.b G.T.builtins G.T.nolimit hg hobj hints (Nat.le_trans hlen hn2) hF hb fun H hO hS => hsp w H a ns hlen hO hS
end Gn
set_option Elab.async false
set_option linter.all false
set_option maxRecDepth 100000
set_option maxHeartbeats 4000000
namespace Gn
open PySem PySem.Spec PyProof.Rows L2
/-- the table of ends' parts, as the top has written it -/
structure Ep (K : PySem.W.Frag) (w : World) (mg : Str → Option Value) (dE g1 g2 g3 : Addr) : Prop where
  mgE : mg "END_PARTS" = some (.ref dE)
  k1 : KDct K w dE "go" (.ref g1)
  k2 : KDct K w dE "if" (.ref g2)
  k3 : KDct K w dE "end" (.ref g3)
  t1 : ∀ H, SqT K H g1 [.str "block"]
  t2 : ∀ H, SqT K H g2 [.str "row", .str "block", .str "block"]
  t3 : ∀ H, SqT K H g3 []
theorem walk_zt {K : PySem.W.Frag} {a b : Addr} {xs ys : List V} (hl : xs.length = ys.length) : Walk (RZ.ItzT K a b) xs.length (fun H => SqT K H a xs ∧ SqT K H b ys) (YPair (fun i => xs[i]?) (fun i => ys[i]?)) := by
  refine ⟨fun i H hi q => ?_, fun H q => ⟨xs, ys, q.1, q.2, .inl (Nat.le_refl _)⟩, fun i H v H' hi q y => ?_⟩
  · have h2 : i < ys.length := by omega
    exact ⟨xs, ys, xs[i], ys[i], q.1, q.2, by simp [hi], by simp [h2]⟩
  · obtain ⟨T, x, z, h1, h2, h3, h4, h5⟩ := y
    exact ⟨T, x, z, h1, h2, h3, h4 xs q.1, h5 ys q.2⟩
def En.kinds : En → List V
  | .go _ => [.str "block"]
  | .iff _ _ _ => [.str "row", .str "block", .str "block"]
  | .fin => []
def En.parts : En → List V
  | .go b => [iv b]
  | .iff r b c => [iv r, iv b, iv c]
  | .fin => []
def En.word : En → Str
  | .go _ => "go"
  | .iff _ _ _ => "if"
  | .fin => "end"
theorem EnAt.at {K : PySem.W.Frag} {H : Hp} {v : V} {e : En} (h : EnAt K H v e) : ∃ p, v = .ref p ∧ SqT K H p (.str e.word :: e.parts) := by
  cases e <;> exact h
def spNamed (K : PySem.W.Frag) : Sp := fun vs H Q _ => ∃ (v : V) (e : En), vs = [v] ∧ EnAt K H v e ∧
  ∀ (p : Addr) (H' : Hp), H p = none → Same H H' → H' p = some (.lst (e.names.map iv)) → Q (.ref p) H'
abbrev nNamed : List Str := ["end", "kind", "part"]
theorem scNamed : FnScope nNamed ["end"] (defScope sNamed) := ⟨rfl, rfl, rfl, by decide +kernel, rfl, by decide +kernel, by decide +kernel⟩
def sel : List V → List V → Nat → List V
  | _, _, 0 => []
  | ks, ps, i + 1 => sel ks ps i ++ (if ks.getD i .non = .str "block" then [ps.getD i .non] else [])
section
variable {P : Program} {w : World} {K : PySem.W.Frag} {mg : Str → Option Value} {base : Heap}
theorem ok_named {f dE g1 g2 g3 : Addr} {fd : FuncData} {k : Nat} (D : Df K mg "blocks_named" sNamed ["end"] f fd) (B : Bi mg) (EP : Ep K w mg dE g1 g2 g3) : FnOk P w K mg base CX0 (k + 1) f fd ["end"] (spNamed K) := by
  refine D.F.ok scNamed (fun vs H Q E h => ?_) (fun cdv A outer s H vs Q E hr h => ?_)
  · obtain ⟨v, e, rfl, _⟩ := h
    rfl
  · obtain ⟨v, e, rfl, he, q⟩ := h
    refine ⟨_, pss_one (ps_ret (pe_lc (own := [("kind", 1), ("part", 2)]) (g := gTup K 2 (gCons (gName 1) (gCons (gName 2) gNil))) (tt := tTest (tOp rEq (tVar 1) (tC (.str "block")))) (te := tVar 2) rfl scNamed.nd
      (RZ.pi_zipA (by rfl) B.zip (pa_cons (pe_ix ix_kdict (pe_glob (v := .ref dE) (by rfl) EP.mgE rfl) (pe_ix ix_tup (pv 0) pe_int (fun _ _ => rfl)) (fun _ _ => rfl)) (pa_cons (pe_slice sl_tup (pv 0) (po_some pe_int) po_none) pa_nil)))
      (blkOk_by (own := [("kind", 1), ("part", 2)]) (N := nNamed) (sc := defScope sNamed) (by decide +kernel))
      (fun _ _ _ _ _ => pg_tup rfl (pgs_cons (pg_name (i := 1) scNamed.nd rfl (.inl rfl)) (pgs_cons (pg_name (i := 2) scNamed.nd rfl (.inl rfl)) pgs_nil)))
      (fun _ _ _ _ _ => pts_one (pt_cmpR op_eq (pv 1) pe_str (nomark _))) (fun _ _ _ _ _ => pv 2))), ?_⟩
    obtain ⟨p, rfl, hp⟩ := he.at
    have kd : ∃ gg, KDct K w dE e.word (.ref gg) ∧ ∀ H, SqT K H gg e.kinds := by
      cases e with
      | go b => exact ⟨g1, EP.k1, EP.t1⟩
      | iff r b c => exact ⟨g2, EP.k2, EP.t2⟩
      | fin => exact ⟨g3, EP.k3, EP.t3⟩
    obtain ⟨gg, kd1, kd2⟩ := kd
    have hll : e.kinds.length = e.parts.length := by cases e <;> rfl
    refine ⟨_, rfl, p, _, _, _, rfl, rfl, hp, atI_nat (j := 0) rfl, dE, e.word, .ref gg, rfl, rfl, kd1, .ref p, rfl, 1, rfl, p, _, rfl, hp, cut_not _ _, fun S nS => ?_⟩
    rw [cut_one]
    refine ⟨gg, S, e.kinds, e.parts, rfl, .inr ⟨kd2 _, sqT upd_same, fun L nL => ?_⟩⟩
    have sS := new_same (o := .tup e.parts) nS
    have eS : upd H S (.tup e.parts) S = some (.tup e.parts) := upd_same
    generalize hH1 : upd H S (.tup e.parts) = H1 at sS eS nL
    have hk3 : e.parts.length ≤ 3 := by cases e <;> simp [En.parts]
    refine lc_it (walk_zt hll) (fun i H2 => Same H1 H2 ∧ ∃ zs, H2 L = some (.lst zs) ∧ zs = sel e.kinds e.parts i ∧ zs.length ≤ i) ⟨new_same nL, [], upd_same, rfl, Nat.le_refl _⟩ (fun i H2 _ hP => ⟨kd2 _, sqT (hP.1 _ _ eS)⟩) (fun i x H2 H3 hi hP hY => ?_) (fun H2 hP => ?_)
    · obtain ⟨s2, zs, eL, hz, hzl⟩ := hP
      obtain ⟨T, x1, x2, rfl, nT, rfl, e1, e2⟩ := hY
      have e1 : e.kinds[i]? = some x1 := e1
      have e2 : e.parts[i]? = some x2 := e2
      have sT := new_same (o := .tup [x1, x2]) nT
      have sc : scal x1 (.str "block") = true := by
        have hm := List.mem_of_getElem? e1
        cases e with
        | go b => rw [List.mem_singleton.mp hm]; rfl
        | iff r b c =>
          have hm2 : x1 = .str "row" ∨ x1 = .str "block" ∨ x1 = .str "block" := by simpa [En.kinds] using hm
          rcases hm2 with rfl | rfl | rfl <;> rfl
        | fin => cases hm
      have es : sel e.kinds e.parts (i + 1) = zs ++ (if x1 = .str "block" then [x2] else []) := by
        show sel e.kinds e.parts i ++ _ = _
        rw [gd e1, gd e2, ← hz]
      refine ⟨T, _, rfl, sqT upd_same, rfl, _, _, rfl, _, _, rfl, rfl, rfl, _, rfl, sc, _, rfl, ite2 (fun h => ?_) (fun h => ?_)⟩
      · have h1 : x1 = .str "block" := of_decide_eq_true h
        rw [if_pos h1] at es
        refine ⟨_, rfl, zs, sT _ _ eL, szt (by omega), fun a o z => ?_, _, upd_same, es.symm, ?_⟩
        · rw [upd_ne (ne_of_none z nL)]; exact sT _ _ (s2 _ _ z)
        · rw [List.length_append, List.length_singleton]; omega
      · have h1 : ¬ x1 = .str "block" := fun z => h (decide_eq_true z)
        rw [if_neg h1, List.append_nil] at es
        exact ⟨s2.trans sT, zs, sT _ _ eL, es.symm, by omega⟩
    · obtain ⟨s2, zs, eL, hz, hzl⟩ := hP
      have ez : zs = e.names.map iv := by
        rw [hz]
        cases e <;> rfl
      rw [ez] at eL
      exact q L H2 (sS.free nL) (sS.trans s2) eL
end
end Gn
set_option Elab.async false
set_option linter.all false
set_option maxRecDepth 100000
set_option maxHeartbeats 4000000
namespace Gn
open PySem PySem.Spec PyProof.Rows L2
/-! ### a list of lists that grow -/
/-- at lp: m lists, unlike ones, the n-th holds f n; all new -/
structure LL (H H1 : Hp) (lp : Addr) (m : Nat) (qs : List Addr) (f : Nat → List Nat) : Prop where
  top : H1 lp = some (.lst (qs.map V.ref))
  nd : (lp :: qs).Nodup
  len : qs.length = m
  new : ∀ q ∈ lp :: qs, H q = none
  at_ : ∀ n q, qs[n]? = some q → H1 q = some (.lst ((f n).map iv))
theorem LL.same {H H1 H2 : Hp} {lp : Addr} {m : Nat} {qs : List Addr} {f : Nat → List Nat} (h : LL H H1 lp m qs f) (e : Same H1 H2) : LL H H2 lp m qs f :=
  ⟨e _ _ h.top, h.nd, h.len, h.new, fun n q z => e _ _ (h.at_ n q z)⟩
theorem LL.ext {H H1 : Hp} {lp : Addr} {m : Nat} {qs : List Addr} {f g : Nat → List Nat} (h : LL H H1 lp m qs f) (e : ∀ n, n < m → f n = g n) : LL H H1 lp m qs g :=
  ⟨h.top, h.nd, h.len, h.new, fun n q z => by
    have := (List.getElem?_eq_some_iff.mp z).1
    rw [← e n (by rw [← h.len]; exact this)]
    exact h.at_ n q z⟩
theorem LL.app {H H1 : Hp} {lp : Addr} {m : Nat} {qs : List Addr} {f : Nat → List Nat} {n i : Nat} {q : Addr} (h : LL H H1 lp m qs f) (hq : qs[n]? = some q) :
    LL H (upd H1 q (.lst ((f n).map iv ++ [iv i]))) lp m qs (fun k => if k = n then f n ++ [i] else f k) := by
  have hn := h.nd
  rw [List.nodup_cons] at hn
  have hqm := List.mem_of_getElem? hq
  refine ⟨?_, h.nd, h.len, h.new, fun k q' hk => ?_⟩
  · rw [upd_ne (fun z : lp = q => hn.1 (z ▸ hqm))]
    exact h.top
  · by_cases hkn : k = n
    · subst hkn
      have : q' = q := Option.some.inj (hk.symm.trans hq)
      subst this
      rw [upd_same, if_pos rfl, List.map_append]
      rfl
    · rw [if_neg hkn, upd_ne (fun z : q' = q => hkn (nd_ix hn.2 hk (z.symm ▸ hq)))]
      exact h.at_ k q' hk
theorem LL.frame {H H1 : Hp} {lp : Addr} {m : Nat} {qs : List Addr} {f : Nat → List Nat} {n : Nat} {q : Addr} {o : HO} (h : LL H H1 lp m qs f) (hq : qs[n]? = some q) (s : Same H H1) : Same H (upd H1 q o) := fun a u e => by
  rw [upd_ne (ne_of_none e (h.new q (List.mem_cons_of_mem _ (List.mem_of_getElem? hq))))]
  exact s a u e
/-- how often a number is among a block's names, in order -/
def spec (pr : List Blk) (i n : Nat) : List Nat := (List.range i).flatMap fun j => List.replicate (((pr.getD j ([], .fin)).2.names).count n) j
theorem spec_succ (pr : List Blk) (i n : Nat) : spec pr (i + 1) n = spec pr i n ++ List.replicate (((pr.getD i ([], .fin)).2.names).count n) i := by
  unfold spec
  rw [List.range_succ, List.flatMap_append]
  simp
theorem spec_len {pr : List Blk} (h : ∀ b ∈ pr, b.2.names.length ≤ 2) (n : Nat) : ∀ i, (spec pr i n).length ≤ 2 * i
  | 0 => Nat.le_refl _
  | i + 1 => by
    rw [spec_succ, List.length_append, List.length_replicate]
    have h1 := spec_len h n i
    have h2 : ((pr.getD i ([], .fin)).2.names).count n ≤ 2 := by
      refine Nat.le_trans List.count_le_length ?_
      by_cases hi : i < pr.length
      · exact h _ (List.mem_of_getElem? (gdl (d := ([], En.fin)) hi))
      · rw [List.getD_eq_getElem?_getD, List.getElem?_eq_none (by omega)]
        exact Nat.zero_le _
    omega
theorem rep_snoc (k i : Nat) : List.replicate k i ++ [i] = List.replicate (k + 1) i := by
  rw [List.replicate_succ']
theorem count_step {xs : List Nat} {j b n : Nat} (h : xs[j]? = some b) : (xs.take (j + 1)).count n = (xs.take j).count n + (if n = b then 1 else 0) := by
  rw [List.take_add_one, h, List.count_append]
  show _ + List.count n [b] = _
  rw [List.count_singleton]
  by_cases e : n = b
  · subst e; simp
  · rw [if_neg e]
    have : (b == n) = false := by simp; exact fun z => e z.symm
    rw [this]
    rfl
theorem ProgAt.len {K : PySem.W.Frag} {H : Hp} {v : V} {pr : List Blk} (h : ProgAt K H v pr) : ∃ p bs, v = .ref p ∧ SqL K H p bs ∧ bs.length = pr.length := by
  obtain ⟨p, bs, h1, h2, h3⟩ := h
  exact ⟨p, bs, h1, h2, pd_len h3⟩
/-! ### leads_of -/
theorem BlkAt.same {K : PySem.W.Frag} {H H' : Hp} {v : V} {b : Blk} (h : BlkAt K H v b) (e : Same H H') : BlkAt K H' v b := by
  obtain ⟨p, ra, ea, vs, h1, h2, h3, h4, h5⟩ := h
  exact ⟨p, ra, ea, vs, h1, Same.tup e h2, e _ _ h3, pd_mono h4 fun _ _ z => z.same e, h5.mv (Same.tup e)⟩
def namesOk (m : Nat) (pr : List Blk) : Prop := ∀ b ∈ pr, ∀ y ∈ b.2.names, y < m
def spLeadsOf (K : PySem.W.Frag) : Sp := fun vs H Q _ => ∃ (v : V) (pr : List Blk), vs = [v] ∧ ProgAt K H v pr ∧ pr.length ≤ 1000 ∧ namesOk pr.length pr ∧ (∀ b ∈ pr, b.2.names.length ≤ 2) ∧
  ∀ (lp : Addr) (qs : List Addr) (H' : Hp), Same H H' → LL H H' lp pr.length qs (spec pr pr.length) → Q (.ref lp) H'
abbrev nLeadsOf : List Str := ["program", "leads", "block", "rows", "end", "named"]
theorem scLeadsOf : FnScope nLeadsOf ["program"] (defScope sLeadsOf) := ⟨rfl, rfl, rfl, by decide +kernel, rfl, by decide +kernel, by decide +kernel⟩
theorem nd_snoc {α : Type} {l : List α} {a : α} (h : l.Nodup) (n : a ∉ l) : (l ++ [a]).Nodup := by
  rw [List.nodup_append]
  exact ⟨h, by simp, fun x hx y hy z => by rw [List.mem_singleton.mp hy] at z; exact n (z ▸ hx)⟩
section
variable {P : Program} {w : World} {K : PySem.W.Frag} {mg : Str → Option Value} {base : Heap}
theorem ok_leadsOf {f fN : Addr} {fd fdN : FuncData} {k : Nat} (D : Df K mg "leads_of" sLeadsOf ["program"] f fd) (B : Bi mg) (DN : Df K mg "blocks_named" sNamed ["end"] fN fdN) (GN : FnOk P w K mg base CX0 k fN fdN ["end"] (spNamed K)) :
    FnOk P w K mg base CX0 (k + 1) f fd ["program"] (spLeadsOf K) := by
  refine D.F.ok scLeadsOf (fun vs H Q E h => ?_) (fun cdv A outer s H vs Q E hr h => ?_)
  · obtain ⟨v, pr, rfl, _⟩ := h
    rfl
  · obtain ⟨v, pr, rfl, ⟨p, bs, rfl, hp, hbs⟩, hl, hno, hn2, q⟩ := h
    have hbl : bs.length = pr.length := pd_len hbs
    refine ⟨_, pss_cons (ps_setLc (i := 1) (own := [("block", 2)]) (g := gName 2) (tt := tYes) (te := tLst tNil) (by rfl) scLeadsOf.nd rfl rfl (sw_true rfl rfl rfl (by decide +kernel)) (pi_list (pv 0)) (blkOk_by (own := [("block", 2)]) (N := nLeadsOf) (sc := defScope sLeadsOf) (by decide +kernel))
        (fun _ _ _ _ _ => pg_name (i := 2) scLeadsOf.nd rfl (.inl rfl)) (fun _ _ _ _ _ => pts_nil) (fun _ _ _ _ _ => pe_lst pa_nil))
      (pss_cons (ps_for PassesOwn.never rfl (pi_enum (by rfl) B.enumerate (pa_cons (pv 0) pa_nil)) (pg_tup rfl (pgs_cons (pg_name (i := 2) scLeadsOf.nd rfl (.inl rfl)) (pgs_cons (pg_tup rfl (pgs_cons (pg_name (i := 3) scLeadsOf.nd rfl (.inl rfl)) (pgs_cons (pg_name (i := 4) scLeadsOf.nd rfl (.inl rfl)) pgs_nil))) pgs_nil)))
        (pss_one (ps_for PassesOwn.never rfl (pi_list (pe_call GN hr (by rfl) DN.g DN.F.kp DN.b .nil pass0 (pa_cons (pv 4) pa_nil))) (pg_name (i := 5) scLeadsOf.nd rfl (.inl rfl))
          (pss_one (ps_expr (pe_bm PySem.F.plainAttrs_list PySem.F.slot_list_append PySem.F.type_list_append mt_append (pe_ix ix_list (pv 1) (pv 5) (fun _ _ => rfl)) (pa_cons (pv 2) pa_nil)))))))
      (pss_one (ps_ret (pv 1)))), ?_⟩
    refine ⟨.ref p, rfl, p, rfl, ⟨_, hp⟩, fun lp nlp => ?_⟩
    refine lc_list (K := K) (a := p) (xs := bs) (fun i H1 => Same H H1 ∧ ∃ qs, LL H H1 lp i qs (fun _ => [])) ⟨new_same nlp, [], ⟨upd_same, by simp, rfl, fun q hq => by rw [List.mem_singleton.mp hq]; exact nlp, fun n q e => by simp at e⟩⟩ (fun i H1 _ hP => hP.1.seq hp) (fun i x H1 hx hP => ?_) (fun H1 hP => ?_)
    · obtain ⟨s1, qs, L1⟩ := hP
      have hil := (List.getElem?_eq_some_iff.mp hx).1
      refine ⟨rfl, Nat.zero_le _, fun b nb => ?_⟩
      have sB := new_same (o := .lst []) nb
      have L2' := L1.same sB
      have nbl : ∀ q ∈ lp :: qs, q ≠ b := fun q hq z => by
        rcases List.mem_cons.mp hq with rfl | hq
        · have := L1.top
          rw [z, nb] at this
          cases this
        · obtain ⟨n, hn⟩ := List.mem_iff_getElem?.mp hq
          have := L1.at_ n q hn
          rw [z, nb] at this
          cases this
      have hb0 : H b = none := s1.free nb
      refine ⟨_, L2'.top, by rw [List.length_map, L1.len]; exact szt (by omega), fun a o e => ?_, qs ++ [b], ?_⟩
      · rw [upd_ne (ne_of_none e nlp)]
        exact sB _ _ (s1 _ _ e)
      · refine ⟨by rw [upd_same, List.map_append]; rfl, ?_, by rw [List.length_append, List.length_singleton, L1.len], fun q hq => ?_, fun n q hn => ?_⟩
        · show ((lp :: qs) ++ [b]).Nodup
          exact nd_snoc L1.nd fun hm => nbl b hm rfl
        · have hq' : q ∈ (lp :: qs) ++ [b] := hq
          rcases List.mem_append.mp hq' with h | h
          · exact L1.new q h
          · rw [List.mem_singleton.mp h]; exact hb0
        · have nlb : b ≠ lp := (nbl lp List.mem_cons_self).symm
          by_cases hn2' : n < qs.length
          · rw [List.getElem?_append_left hn2'] at hn
            have hqm := List.mem_of_getElem? hn
            have hnd := L1.nd
            rw [List.nodup_cons] at hnd
            rw [upd_ne (fun z : q = lp => hnd.1 (z ▸ hqm))]
            exact L2'.at_ n q hn
          · rw [List.getElem?_append_right (by omega)] at hn
            have hm := List.mem_singleton.mp (List.mem_of_getElem? hn)
            subst hm
            rw [upd_ne nlb, upd_same]
            rfl
    · obtain ⟨s1, qs, L1⟩ := hP
      rw [hbl] at L1
      refine ⟨.ref p, rfl, p, bs, rfl, s1.seq hp, ?_⟩
      refine for_it (walk_enum (xs := bs)) (fun i σ H2 => ∃ (y2 y3 y4 y5 : Option V), σ = [some (.ref p), some (.ref lp), y2, y3, y4, y5] ∧ Same H H2 ∧ LL H H2 lp pr.length qs (spec pr i)) ⟨_, _, _, _, rfl, s1, L1⟩ (fun i σ H2 _ hP => ?_) (fun i x σ H2 H3 hi hP hY => ?_) (fun σ H2 hP => ?_)
      · obtain ⟨_, _, _, _, _, s2, _⟩ := hP
        exact s2.seq hp
      · obtain ⟨y2, y3, y4, y5, rfl, s2, L2'⟩ := hP
        obtain ⟨T, x1, x2, rfl, nT, rfl, e1, e2⟩ := hY
        cases e1
        have e2 : bs[i]? = some x2 := e2
        obtain ⟨bk, hb1, hb2⟩ := pd_at2 hbs e2
        have sT := new_same (o := .tup [.int (i : Nat), x2]) nT
        have s3 := s2.trans sT
        obtain ⟨pb, ra, ea, vs, rfl, h2, h3, h4, h5⟩ := hb2.same s3
        refine ⟨T, _, rfl, sqT upd_same, rfl, _, _, rfl, _, _, rfl, pb, _, rfl, h2, rfl, _, _, rfl, _, _, rfl, rfl, rfl, ?_⟩
        have L3 := L2'.same sT
        generalize upd H2 T (.tup [.int (i : Nat), .ref pb]) = H3 at s3 L3 h5
        refine ⟨ea, rfl, ea, bk.2, rfl, h5, fun np H4 nnp s4 enp => ⟨np, rfl, ⟨_, sqL enp⟩, ?_⟩⟩
        have L4 := L3.same s4
        have s5 := s3.trans s4
        have hnp : ∀ q ∈ lp :: qs, q ≠ np := fun q hq z => by
          rcases List.mem_cons.mp hq with rfl | hq
          · have := L3.top
            rw [z, nnp] at this; cases this
          · obtain ⟨n, hn⟩ := List.mem_iff_getElem?.mp hq
            have := L3.at_ n q hn
            rw [z, nnp] at this
            cases this
        have hbm := List.mem_of_getElem? hb1
        have hnm := hno bk hbm
        have hn2' := hn2 bk hbm
        have hpd : pr.getD i ([], .fin) = bk := gd hb1
        refine for_list (K := K) (a := np) (xs := bk.2.names.map iv) (fun j σ H5 => ∃ (y3 y4 y5 : Option V), σ = [some (.ref p), some (.ref lp), some (iv i), y3, y4, y5] ∧ Same H H5 ∧ H5 np = some (.lst (bk.2.names.map iv)) ∧ LL H H5 lp pr.length qs (fun n => spec pr i n ++ List.replicate ((bk.2.names.take j).count n) i))
          ⟨_, _, _, rfl, s5, enp, L4.ext fun n _ => by simp⟩ (fun j σ H5 _ hP => ?_) (fun j x σ H5 hx hP => ?_) (fun σ H5 hP => ?_)
        · obtain ⟨_, _, _, _, _, h, _⟩ := hP
          exact sqL h
        · obtain ⟨z3, z4, z5, rfl, s6, enp6, L5⟩ := hP
          rw [List.getElem?_map] at hx
          obtain ⟨b, hb, rfl⟩ := Option.map_eq_some_iff.mp hx
          have hbm2 := hnm b (List.mem_of_getElem? hb)
          have hbq : b < qs.length := by rw [L5.len]; exact hbm2
          have hq := List.getElem?_eq_getElem hbq
          have eq5 := L5.at_ b _ hq
          have hjl := (List.getElem?_eq_some_iff.mp hb).1
          have hsz : (spec pr i b ++ List.replicate ((bk.2.names.take j).count b) i).length ≤ 100000 := by
            rw [List.length_append, List.length_replicate]
            have h1 := spec_len hn2 b i
            have h2 : (bk.2.names.take j).count b ≤ 2 := Nat.le_trans List.count_le_length (Nat.le_trans (List.length_take_le _ _) (by omega))
            omega
          refine ⟨.ref lp, rfl, _, rfl, lp, _, _, .ref qs[b], rfl, rfl, sqL L5.top, atI_nat (by rw [List.getElem?_map, hq]; rfl), .inl ⟨rfl, _, sqL eq5⟩, _, rfl, qs[b], _, _, rfl, rfl, eq5, by rw [List.length_map]; exact szt (by omega), ?_⟩
          refine ⟨_, _, _, rfl, L5.frame hq s6, ?_, (L5.app (i := i) hq).ext fun n _ => ?_⟩
          · rw [upd_ne (hnp _ (List.mem_cons_of_mem _ (List.getElem_mem hbq))).symm]
            exact enp6
          · rw [count_step hb]
            by_cases e : n = b
            · subst e
              rw [if_pos rfl, if_pos rfl, List.append_assoc, rep_snoc]
            · rw [if_neg e, if_neg e, Nat.add_zero]
        · obtain ⟨z3, z4, z5, rfl, s6, enp6, L5⟩ := hP
          refine ⟨_, _, _, _, rfl, s6, L5.ext fun n _ => ?_⟩
          rw [spec_succ, hpd, List.length_map, List.take_length]
      · obtain ⟨y2, y3, y4, y5, rfl, s2, L2'⟩ := hP
        rw [hbl] at L2'
        exact ⟨.ref lp, rfl, q lp qs H2 s2 L2'⟩
end
end Gn
set_option Elab.async false
set_option linter.all false
set_option maxRecDepth 100000
set_option maxHeartbeats 4000000
namespace Gn
open PySem PySem.Spec PyProof.Rows L2
/-! ### common_above -/
def Nf (ns : List Nat) (b : Nat) : Nat := ns.getD b 0
theorem Nf.at {ns : List Nat} {b : Nat} (h : b < ns.length) : (ns.map iv)[b]? = some (iv (Nf ns b)) := by
  unfold Nf
  rw [List.getElem?_map, List.getD_eq_getElem?_getD, List.getElem?_eq_getElem h]
  rfl
def spCommon (K : PySem.W.Frag) : Sp := fun vs H Q _ => ∃ (na ba : Addr) (ns : List Nat) (l0 : Nat) (ls : List Nat), vs = [.ref na, .ref ba] ∧ SqL K H na (ns.map iv) ∧ SqL K H ba ((l0 :: ls).map iv) ∧
  Dn ns.length (Nf ns) ∧ (∀ y ∈ l0 :: ls, y < ns.length) ∧ ∀ (e : Nat) (H' : Hp), Same H H' → LcaL (Nf ns) l0 ls e → Q (iv e) H'
abbrev nCommon : List Str := ["nearest", "blocks", "common", "block", "other"]
theorem scCommon : FnScope nCommon ["nearest", "blocks"] (defScope sCommon) := ⟨rfl, rfl, rfl, by decide +kernel, rfl, by decide +kernel, by decide +kernel⟩
theorem iv_ne {a b : Nat} : (!decide (iv a = iv b)) = !decide (a = b) := by
  have h : decide (iv a = iv b) = decide (a = b) := decide_eq_decide.mpr ⟨fun e => by have := V.int.inj e; omega, fun e => by rw [e]⟩
  rw [h]
section
variable {P : Program} {w : World} {K : PySem.W.Frag} {mg : Str → Option Value} {base : Heap}
theorem ok_common {f : Addr} {fd : FuncData} {k : Nat} (D : Df K mg "common_above" sCommon ["nearest", "blocks"] f fd) (B : Bi mg) : FnOk P w K mg base CX0 (k + 1) f fd ["nearest", "blocks"] (spCommon K) := by
  refine D.F.ok scCommon (fun vs H Q E h => ?_) (fun cdv A outer s H vs Q E hr h => ?_)
  · obtain ⟨na, ba, ns, l0, ls, rfl, _⟩ := h
    rfl
  · obtain ⟨na, ba, ns, l0, ls, rfl, hna, hba, hN, hlt, q⟩ := h
    refine ⟨_, pss_cons (ps_set (i := 2) scCommon.nd rfl (.inl rfl) (pe_ix ix_list (pv 1) pe_int (fun _ _ => rfl)))
      (pss_cons (ps_for PassesOwn.never rfl (pi_list (pe_slice sl_list (pv 1) (po_some pe_int) po_none)) (pg_name (i := 3) scCommon.nd rfl (.inl rfl))
        (pss_cons (ps_set (i := 4) scCommon.nd rfl (.inl rfl) (pv 3))
        (pss_one (ps_while PassesOwn.never (pt_cmpR op_ne (pv 2) (pv 4) (nomark _))
          (pss_one (ps_if (pt_cmpR op_gt (pv 2) (pv 4) (nomark _))
            (pss_one (ps_set (i := 2) scCommon.nd rfl (.inl rfl) (pe_ix ix_list (pv 0) (pv 2) (fun _ _ => rfl))))
            (pss_one (ps_set (i := 4) scCommon.nd rfl (.inl rfl) (pe_ix ix_list (pv 0) (pv 4) (fun _ _ => rfl))))))))))
      (pss_one (ps_ret (pv 2)))), ?_⟩
    refine ⟨.ref ba, rfl, ba, _, _, iv l0, rfl, rfl, hba, atI_nat (j := 0) rfl, ?_⟩
    refine ⟨.ref ba, rfl, 1, rfl, ba, _, rfl, hba, fun S nS => ⟨S, rfl, ⟨_, sqL upd_same⟩, ?_⟩⟩
    have ec : cutV ((l0 :: ls).map iv) (some 1) none = ls.map iv := cut_one _ _
    rw [ec]
    have sS := new_same (o := .lst (ls.map iv)) nS
    have eS : upd H S (.lst (ls.map iv)) S = some (.lst (ls.map iv)) := upd_same
    generalize upd H S (.lst (ls.map iv)) = H1 at sS eS
    refine for_list (K := K) (a := S) (xs := ls.map iv) (fun j σ H2 => ∃ (y3 y4 : Option V) (co : Nat), σ = [some (.ref na), some (.ref ba), some (iv co), y3, y4] ∧ H2 = H1 ∧ co < ns.length ∧ ∀ e, LcaL (Nf ns) co (ls.drop j) e → LcaL (Nf ns) l0 ls e)
      ⟨none, none, l0, rfl, rfl, hlt l0 List.mem_cons_self, fun e h => h⟩ (fun j σ H2 _ hP => ?_) (fun j x σ H2 hx hP => ?_) (fun σ H2 hP => ?_)
    · obtain ⟨_, _, _, _, rfl, _⟩ := hP
      exact sqL eS
    · obtain ⟨y3, y4, co, rfl, rfl, hco, hL⟩ := hP
      rw [List.getElem?_map] at hx
      obtain ⟨b, hb, rfl⟩ := Option.map_eq_some_iff.mp hx
      have hbl : b < ns.length := hlt b (List.mem_cons_of_mem _ (List.mem_of_getElem? hb))
      have hjl := (List.getElem?_eq_some_iff.mp hb).1
      have hdr : ls.drop j = b :: ls.drop (j + 1) := by
        rw [List.drop_eq_getElem_cons hjl, (List.getElem?_eq_some_iff.mp hb).2]
      refine ⟨_, rfl, fun m σ H3 => ∃ c o : Nat, σ = [some (.ref na), some (.ref ba), some (iv c), some (iv b), some (iv o)] ∧ H3 = H2 ∧ m = c + o ∧ c < ns.length ∧ o < ns.length ∧ ∀ e, Lca (Nf ns) c o e → Lca (Nf ns) co b e, ⟨_, co, b, rfl, rfl, rfl, hco, hbl, fun e h => h⟩, fun m σ H3 hW => ?_⟩
      obtain ⟨c, o, rfl, rfl, rfl, hc, ho, hl⟩ := hW
      refine ⟨_, rfl, _, rfl, rfl, _, rfl, ?_⟩
      show if (!decide (iv c = iv o)) = true then _ else _
      rw [iv_ne]
      by_cases hco2 : c = o
      · rw [if_neg (by rw [decide_eq_true hco2]; decide)]
        subst hco2
        exact ⟨_, _, c, rfl, rfl, hc, fun e h => hL e (by rw [hdr]; exact .c (hl c .e) h)⟩
      · rw [if_pos (by rw [decide_eq_false hco2]; rfl)]
        refine ⟨fun σ' H' => ∃ m', m' < c + o ∧ ∃ c o : Nat, σ' = [some (.ref na), some (.ref ba), some (iv c), some (iv b), some (iv o)] ∧ H' = H3 ∧ m' = c + o ∧ c < ns.length ∧ o < ns.length ∧ ∀ e, Lca (Nf ns) c o e → Lca (Nf ns) co b e, fun σ' H' h => h, ?_⟩
        refine ⟨_, rfl, _, rfl, _, _, rfl, rfl, _, rfl, ite2 (fun e => ?_) (fun e => ?_)⟩
        · have hgt : (c : Int) > (o : Int) := of_decide_eq_true e
          have h1 := hN c (by omega) hc
          refine ⟨.ref na, rfl, _, rfl, na, _, _, iv (Nf ns c), rfl, rfl, sS.seq hna, atI_nat (Nf.at hc), ?_⟩
          exact ⟨Nf ns c + o, by omega, Nf ns c, o, rfl, rfl, rfl, by omega, ho, fun e h => hl e (.l (by omega) h)⟩
        · have hgt : ¬ (c : Int) > (o : Int) := fun z => e (decide_eq_true z)
          have h1 := hN o (by omega) ho
          refine ⟨.ref na, rfl, _, rfl, na, _, _, iv (Nf ns o), rfl, rfl, sS.seq hna, atI_nat (Nf.at ho), ?_⟩
          exact ⟨c + Nf ns o, by omega, c, Nf ns o, rfl, rfl, rfl, hc, by omega, fun e h => hl e (.r (by omega) h)⟩
    · obtain ⟨y3, y4, co, rfl, rfl, hco, hL⟩ := hP
      rw [List.length_map, List.drop_length] at hL
      exact ⟨_, rfl, q co H2 sS (hL co .n)⟩
end
end Gn
set_option Elab.async false
set_option linter.all false
set_option maxRecDepth 100000
set_option maxHeartbeats 4000000
namespace Gn
open PySem PySem.Spec PyProof.Rows L2
/-! ### brought_nearer -/
structure Gr (m : Nat) (E : Nat → List Nat) (lds : List (List Nat)) : Prop where
  pos : 0 < m
  len : lds.length = m
  le : m ≤ 1000
  inE : ∀ a, ∀ b ∈ E a, b < m
  ofE : ∀ a, E a ≠ [] → a < m
  noZ : ∀ a, 0 ∉ E a
  led : Led m E
  ld : ∀ b, b < m → IsLd m E b (lds.getD b [])
structure Nw (m : Nat) (E : Nat → List Nat) (n : Nat) (ns : List Nat) : Prop where
  len : ns.length = m
  dn : Dn m (Nf ns)
  bet : Bet m E (Nf ns)
  kd : Kd m E (Nf ns) n
theorem Nf.set {ns : List Nat} {b e : Nat} (h : b < ns.length) (c : Nat) : Nf (ns.set b e) c = if c = b then e else Nf ns c := by
  unfold Nf
  rw [List.getD_eq_getElem?_getD, List.getElem?_set, List.getD_eq_getElem?_getD]
  by_cases hc : c = b
  · subst hc
    rw [if_pos rfl, if_pos rfl, if_pos h]
    rfl
  · rw [if_neg (fun z : b = c => hc z.symm), if_neg hc]
theorem Nw.set {m n : Nat} {E : Nat → List Nat} {lds : List (List Nat)} {ns : List Nat} (g : Gr m E lds) (h : Nw m E n ns) {b e : Nat} (h0 : 0 < b) (hb : b < m) (hl : LcaB (Nf ns) (lds.getD b []) e) : Nw m E n (ns.set b e) ∧ ¬ Rn E e (n + 1) b := by
  have hbl : b < ns.length := by rw [h.len]; exact hb
  have k1 := step_kd g.ofE h.dn h.kd h0 (g.ld b hb) hl
  refine ⟨⟨by rw [List.length_set, h.len], fun c c0 hc => ?_, fun c x c0 hc hd hx => ?_, fun c c0 hc => ?_⟩, k1⟩
  · rw [Nf.set hbl]
    by_cases e1 : c = b
    · rw [if_pos e1, e1]; exact step_lt h.dn g.led h0 hb (g.ld b hb) hl
    · rw [if_neg e1]; exact h.dn c c0 hc
  · rw [Nf.set hbl]
    by_cases e1 : c = b
    · rw [if_pos e1]
      subst e1
      exact step_bet h.dn g.led h.bet (g.ld c hb) hl hd hx
    · rw [if_neg e1]; exact h.bet c x c0 hc hd hx
  · rw [Nf.set hbl]
    by_cases e1 : c = b
    · rw [if_pos e1, e1]; exact fun z => k1 (z.mono (Nat.le_succ n))
    · rw [if_neg e1]; exact h.kd c c0 hc
theorem Gr.ne {m : Nat} {E : Nat → List Nat} {lds : List (List Nat)} (g : Gr m E lds) {b : Nat} (h0 : 0 < b) (hb : b < m) : ∃ l0 ls, lds.getD b [] = l0 :: ls := by
  obtain ⟨j, hj, hbj⟩ := g.led b h0 hb
  have := (g.ld b hb j).mpr ⟨by omega, hbj⟩
  cases h : lds.getD b [] with
  | nil => rw [h] at this; cases this
  | cons l0 ls => exact ⟨l0, ls, rfl⟩
def spBrought (K : PySem.W.Frag) : Sp := fun vs H Q _ => ∃ (na lp : Addr) (I : Hp) (ns : List Nat) (lds : List (List Nat)) (m n : Nat) (E : Nat → List Nat), vs = [.ref na, .ref lp] ∧ Same I H ∧ I na = none ∧ NL K I lp lds ∧ H na = some (.lst (ns.map iv)) ∧
  Gr m E lds ∧ Nw m E n ns ∧ ∀ (c : Bool) (ns' : List Nat) (H' : Hp), But na H H' → Same I H' → H' na = some (.lst (ns'.map iv)) → Nw m E (n + 1) ns' → (c = true → n < m) →
    (c = false → ∀ b, 0 < b → b < m → LcaB (Nf ns') (lds.getD b []) (Nf ns' b)) → Q (.bl c) H'
abbrev nBrought : List Str := ["nearest", "leads", "changed", "block", "found"]
theorem scBrought : FnScope nBrought ["nearest", "leads"] (defScope sBrNearer) := ⟨rfl, rfl, rfl, by decide +kernel, rfl, by decide +kernel, by decide +kernel⟩
section
variable {P : Program} {w : World} {K : PySem.W.Frag} {mg : Str → Option Value} {base : Heap}
theorem ok_brought {f fC : Addr} {fd fdC : FuncData} {k : Nat} (D : Df K mg "brought_nearer" sBrNearer ["nearest", "leads"] f fd) (B : Bi mg)
    (DC : Df K mg "common_above" sCommon ["nearest", "blocks"] fC fdC) (GC : FnOk P w K mg base CX0 k fC fdC ["nearest", "blocks"] (spCommon K)) : FnOk P w K mg base CX0 (k + 1) f fd ["nearest", "leads"] (spBrought K) := by
  refine D.F.ok scBrought (fun vs H Q E h => ?_) (fun cdv A outer s H vs Q E hr h => ?_)
  · obtain ⟨na, lp, I, ns, lds, m, n, E', rfl, _⟩ := h
    rfl
  · obtain ⟨na, lp, I, ns, lds, m, n, E', rfl, sI, nI, hNL, hna, g, hw, q⟩ := h
    refine ⟨_, pss_cons (ps_set (i := 2) scBrought.nd rfl (.inl rfl) pe_bl)
      (pss_cons (ps_for PassesOwn.never rfl (pi_range2 (by rfl) B.range (pa_cons pe_int (pa_cons (pe_callB call_len_seq (by rfl) B.len PySem.boot_len (pa_cons (pv 1) pa_nil)) pa_nil))) (pg_name (i := 3) scBrought.nd rfl (.inl rfl))
        (pss_cons (ps_set (i := 4) scBrought.nd rfl (.inl rfl) (pe_call GC hr (by rfl) DC.g DC.F.kp DC.b .nil pass0 (pa_cons (pv 0) (pa_cons (pe_ix ix_list (pv 1) (pv 3) (fun _ _ => rfl)) pa_nil))))
        (pss_one (ps_if (pt_cmpR op_ne (pv 4) (pe_ix ix_list (pv 0) (pv 3) (fun _ _ => rfl)) (nomark _))
          (pss_cons (ps_asg (pv 4) (pg_sub (pv 0) (pv 3) set_list))
          (pss_one (ps_set (i := 2) scBrought.nd rfl (.inl rfl) pe_bl))) pss_nil))))
      (pss_one (ps_ret (pv 2)))), ?_⟩
    obtain ⟨ys, hy, hyl⟩ := (hNL.same sI).len
    have hyi : (ys.length : Int) = (m : Int) := by rw [hyl, g.len]
    have hm1 := g.pos
    have hm2 := g.le
    refine ⟨.ref lp, rfl, lp, ys, rfl, .inl hy, 1, (m : Int), by rw [hyi], ⟨by decide, by decide, by omega, by omega⟩, ?_⟩
    refine for_range (lo := 1) (n := ((m : Int) - 1).toNat) (fun i σ H1 => ∃ (c : Bool) (ns1 : List Nat) (y3 y4 : Option V), σ = [some (.ref na), some (.ref lp), some (.bl c), y3, y4] ∧ But na H H1 ∧ Same I H1 ∧ H1 na = some (.lst (ns1.map iv)) ∧
      Nw m E' n ns1 ∧ (∀ b, 0 < b → b < 1 + i → ¬ Rn E' (Nf ns1 b) (n + 1) b) ∧ (c = true → n < m) ∧ (c = false → ∀ b, 0 < b → b < 1 + i → LcaB (Nf ns1) (lds.getD b []) (Nf ns1 b)))
      ⟨false, ns, none, none, rfl, But.refl _ _, sI, hna, hw, fun b h1 h2 => (by omega), fun z => (by cases z), fun _ b h1 h2 => (by omega)⟩ (fun i σ H1 hi hP => ?_) (fun σ H1 hP => ?_)
    · obtain ⟨c, ns1, y3, y4, rfl, b1, s1, e1, w1, k1, c1, c2⟩ := hP
      have hb : 1 + i < m := by omega
      have hbl : 1 + i < ns1.length := by rw [w1.len]; exact hb
      have hld : lds[1 + i]? = some (lds.getD (1 + i) []) := by rw [List.getD_eq_getElem?_getD, List.getElem?_eq_getElem (by rw [g.len]; exact hb)]; rfl
      obtain ⟨us, qa, u1, u2, u3, u4⟩ := (hNL.same s1).at hld
      obtain ⟨l0, ls, hls⟩ := g.ne (b := 1 + i) (by omega) hb
      have hlt := (g.ld (1 + i) hb).lt
      have hbe : V.int (1 + (i : Int)) = iv (1 + i) := by
        show V.int (1 + (i : Int)) = V.int ((1 + i : Nat) : Int)
        rw [show 1 + (i : Int) = ((1 + i : Nat) : Int) by omega]
      rw [hbe]
      rw [hls] at u4
      refine ⟨.ref na, rfl, .ref lp, rfl, _, rfl, lp, us, _, _, rfl, rfl, u1, u3, na, qa, ns1, l0, ls, rfl, sqL e1, u4, by rw [w1.len]; exact w1.dn, fun y hy => by rw [w1.len]; exact hlt y (by rw [hls]; exact hy), fun e H2 s2 hL => ?_⟩
      have e2 := s2 _ _ e1
      have hLB : LcaB (Nf ns1) (lds.getD (1 + i) []) e := ⟨l0, ls, hls, hL⟩
      refine ⟨_, rfl, .ref na, rfl, _, rfl, na, _, _, _, rfl, rfl, sqL e2, atI_nat (Nf.at hbl), rfl, _, rfl, ?_⟩
      show if (!decide (iv e = iv (Nf ns1 (1 + i)))) = true then _ else _
      rw [iv_ne]
      by_cases hee : e = Nf ns1 (1 + i)
      · rw [if_neg (by rw [decide_eq_true hee]; decide)]
        subst hee
        refine ⟨c, ns1, _, _, rfl, b1.trans (Same.but s2), s1.trans s2, e2, w1, fun b h1 h2 => ?_, c1, fun hc b h1 h2 => ?_⟩
        · by_cases hbi : b < 1 + i
          · exact k1 b h1 hbi
          · have : b = 1 + i := by omega
            subst this
            exact (w1.set g h1 hb hLB).2
        · by_cases hbi : b < 1 + i
          · exact c2 hc b h1 hbi
          · have : b = 1 + i := by omega
            subst this
            exact hLB
      · rw [if_pos (by rw [decide_eq_false hee]; rfl)]
        refine ⟨_, rfl, .ref na, rfl, _, rfl, na, _, _, 1 + i, rfl, rfl, e2, ixN_nat (by rw [List.length_map]; exact hbl), ?_⟩
        have es : (ns1.map iv).set (1 + i) (iv e) = (ns1.set (1 + i) e).map iv := by rw [List.map_set]
        have hset := w1.set g (b := 1 + i) (by omega) hb hLB
        have hnm : n < m := Nat.lt_of_not_le fun z => hee (step_end g.pos g.inE g.ofE g.led w1.dn w1.bet (fun b h0 hb z2 => w1.kd b h0 hb (z2.mono z)) (by omega) hb (g.ld _ hb) hLB)
        refine ⟨true, ns1.set (1 + i) e, _, _, rfl, (b1.trans (Same.but s2)).trans But.upd, Same.upd (s1.trans s2) nI, by rw [upd_same]; rw [es], hset.1, fun b h1 h2 => ?_, fun _ => hnm, fun z => by cases z⟩
        rw [Nf.set hbl]
        by_cases hbi : b = 1 + i
        · rw [if_pos hbi, hbi]; exact hset.2
        · rw [if_neg hbi]
          exact k1 b h1 (by omega)
    · obtain ⟨c, ns1, y3, y4, rfl, b1, s1, e1, w1, k1, c1, c2⟩ := hP
      refine ⟨_, rfl, q c ns1 H1 b1 s1 e1 ⟨w1.len, w1.dn, w1.bet, fun b h1 h2 => k1 b h1 (by omega)⟩ c1 fun hc b h1 h2 => c2 hc b h1 (by omega)⟩
end
end Gn
set_option Elab.async false
set_option linter.all false
set_option maxRecDepth 100000
set_option maxHeartbeats 4000000
namespace Gn
open PySem PySem.Spec PyProof.Rows L2
/-! ### nearest_above -/
theorem Nf.snoc {ns : List Nat} {e : Nat} (c : Nat) : Nf (ns ++ [e]) c = if c = ns.length then e else Nf ns c := by
  unfold Nf
  rw [List.getD_eq_getElem?_getD, List.getD_eq_getElem?_getD]
  by_cases hc : c = ns.length
  · subst hc
    rw [if_pos rfl, List.getElem?_append_right (Nat.le_refl _), Nat.sub_self]
    rfl
  · rw [if_neg hc]
    by_cases h : c < ns.length
    · rw [List.getElem?_append_left h]
    · rw [List.getElem?_eq_none (by rw [List.length_append, List.length_singleton]; omega), List.getElem?_eq_none (by omega)]
theorem Led.mono {m k : Nat} {E : Nat → List Nat} (h : Led m E) (e : k ≤ m) : Led k E := fun b h0 hb => h b h0 (by omega)
def spNearest (K : PySem.W.Frag) : Sp := fun vs H Q _ => ∃ (lp : Addr) (lds : List (List Nat)) (m : Nat) (E : Nat → List Nat), vs = [.ref lp] ∧ NL K H lp lds ∧ Gr m E lds ∧ (∀ xs ∈ lds, xs.length ≤ 1000) ∧
  ∀ (na : Addr) (ns : List Nat) (H' : Hp), H na = none → Same H H' → H' na = some (.lst (ns.map iv)) → ns.length = m → Dn m (Nf ns) → (∀ b x, b < m → (Ch (Nf ns) x b ↔ ¬ Rc E x b)) → Q (.ref na) H'
abbrev nNearest : List Str := ["leads", "nearest", "block", "lesser", "lead"]
theorem scNearest : FnScope nNearest ["leads"] (defScope sNearest) := ⟨rfl, rfl, rfl, by decide +kernel, rfl, by decide +kernel, by decide +kernel⟩
section
variable {P : Program} {w : World} {K : PySem.W.Frag} {mg : Str → Option Value} {base : Heap}
theorem ok_nearest {f fC fB : Addr} {fd fdC fdB : FuncData} {k : Nat} (D : Df K mg "nearest_above" sNearest ["leads"] f fd) (B : Bi mg)
    (DC : Df K mg "common_above" sCommon ["nearest", "blocks"] fC fdC) (GC : FnOk P w K mg base CX0 k fC fdC ["nearest", "blocks"] (spCommon K))
    (DB : Df K mg "brought_nearer" sBrNearer ["nearest", "leads"] fB fdB) (GB : FnOk P w K mg base CX0 k fB fdB ["nearest", "leads"] (spBrought K)) : FnOk P w K mg base CX0 (k + 1) f fd ["leads"] (spNearest K) := by
  refine D.F.ok scNearest (fun vs H Q E h => ?_) (fun cdv A outer s H vs Q E hr h => ?_)
  · obtain ⟨lp, lds, m, E', rfl, _⟩ := h
    rfl
  · obtain ⟨lp, lds, m, E', rfl, hNL, g, hsz, q⟩ := h
    refine ⟨_, pss_cons (ps_set (i := 1) scNearest.nd rfl (.inl rfl) (pe_lst (pa_cons pe_int pa_nil)))
      (pss_cons (ps_for PassesOwn.never rfl (pi_range2 (by rfl) B.range (pa_cons pe_int (pa_cons (pe_callB call_len_seq (by rfl) B.len PySem.boot_len (pa_cons (pv 0) pa_nil)) pa_nil))) (pg_name (i := 2) scNearest.nd rfl (.inr rfl))
        (pss_cons (ps_setLc (i := 3) (own := [("lead", 4)]) (g := gName 4) (tt := tTest (tOp (rI0 fun i j => .bl (decide (i < j))) (tVar 4) (tVar 2))) (te := tVar 4) (by rfl) scNearest.nd rfl rfl (sw_true rfl rfl rfl (by decide +kernel)) (pi_list (pe_ix ix_list (pv 0) (pv 2) (fun _ _ => rfl)))
          (blkOk_by (own := [("lead", 4)]) (N := nNearest) (sc := defScope sNearest) (by decide +kernel)) (fun _ _ _ _ _ => pg_name (i := 4) scNearest.nd rfl (.inl rfl)) (fun _ _ _ _ _ => pts_one (pt_cmpR op_lt (pv 4) (pv 2) (nomark _))) (fun _ _ _ _ _ => pv 4))
        (pss_one (ps_expr (pe_bm PySem.F.plainAttrs_list PySem.F.slot_list_append PySem.F.type_list_append mt_append (pv 1) (pa_cons (pe_call GC hr (by rfl) DC.g DC.F.kp DC.b .nil pass0 (pa_cons (pv 1) (pa_cons (pv 3) pa_nil))) pa_nil))))))
      (pss_cons (ps_while PassesOwn.never (pt_val (pe_call GB hr (by rfl) DB.g DB.F.kp DB.b .nil pass0 (pa_cons (pv 1) (pa_cons (pv 0) pa_nil)))) (pss_one ps_pass))
      (pss_one (ps_ret (pv 1))))), ?_⟩
    refine ⟨szl (show 1 ≤ 1000000 by decide), fun na nna => ?_⟩
    have s0 := new_same (o := .lst [.int 0]) nna
    have e0 : upd H na (.lst [.int 0]) na = some (.lst (([0] : List Nat).map iv)) := upd_same
    generalize upd H na (.lst [.int 0]) = H0 at s0 e0
    obtain ⟨ys, hy, hyl⟩ := (hNL.same s0).len
    have hyi : (ys.length : Int) = (m : Int) := by rw [hyl, g.len]
    have hm1 := g.pos
    have hm2 := g.le
    refine ⟨.ref lp, rfl, lp, ys, rfl, .inl hy, 1, (m : Int), by rw [hyi], ⟨by decide, by decide, by omega, by omega⟩, ?_⟩
    refine for_range (lo := 1) (n := ((m : Int) - 1).toNat) (fun i σ H1 => ∃ (ns1 : List Nat) (y2 y3 y4 : Option V), σ = [some (.ref lp), some (.ref na), y2, y3, y4] ∧ Same H H1 ∧ H1 na = some (.lst (ns1.map iv)) ∧ ns1.length = 1 + i ∧ Dn (1 + i) (Nf ns1) ∧ Bet (1 + i) E' (Nf ns1))
      ⟨[0], none, none, none, rfl, s0, e0, rfl, fun b h1 h2 => (by omega), fun b x h1 h2 => (by omega)⟩ (fun i σ H1 hi hP => ?_) (fun σ H1 hP => ?_)
    · obtain ⟨ns1, y2, y3, y4, rfl, s1, e1, l1, d1, t1⟩ := hP
      have hb : 1 + i < m := by omega
      have hld : lds[1 + i]? = some (lds.getD (1 + i) []) := by rw [List.getD_eq_getElem?_getD, List.getElem?_eq_getElem (by rw [g.len]; exact hb)]; rfl
      obtain ⟨us, qa, u1, u2, u3, u4⟩ := (hNL.same s1).at hld
      have hsz1 := hsz _ (List.mem_of_getElem? hld)
      have hbe : V.int (1 + (i : Int)) = iv (1 + i) := by
        show V.int (1 + (i : Int)) = V.int ((1 + i : Nat) : Int)
        rw [show 1 + (i : Int) = ((1 + i : Nat) : Int) by omega]
      rw [hbe]
      have hIs := g.ld (1 + i) hb
      have hled := g.led (1 + i) (by omega) hb
      generalize lds.getD (1 + i) [] = ld at u4 hsz1 hIs
      refine ⟨.ref lp, rfl, _, rfl, lp, us, _, _, rfl, rfl, u1, u3, qa, rfl, ⟨_, u4⟩, fun L nL => ?_⟩
      have nLna : na ≠ L := ne_of_none e1 nL
      refine lc_list (K := K) (a := qa) (xs := ld.map iv) (fun j H2 => Same H1 H2 ∧ H2 L = some (.lst (((ld.take j).filter fun l => decide (l < 1 + i)).map iv))) ⟨new_same nL, upd_same⟩ (fun j H2 _ hP => hP.1.seq u4) (fun j x H2 hx hP => ?_) (fun H2 hP => ?_)
      · obtain ⟨s2, eL⟩ := hP
        rw [List.getElem?_map] at hx
        obtain ⟨l, hl, rfl⟩ := Option.map_eq_some_iff.mp hx
        have hjl := (List.getElem?_eq_some_iff.mp hl).1
        have htk : (ld.take (j + 1)).filter (fun l => decide (l < 1 + i)) = (ld.take j).filter (fun l => decide (l < 1 + i)) ++ (if decide (l < 1 + i) = true then [l] else []) := by
          rw [List.take_add_one, hl, List.filter_append]
          show _ ++ List.filter _ [l] = _
          rw [filt_one]
        refine ⟨rfl, _, rfl, _, rfl, _, _, rfl, rfl, _, rfl, ite2 (fun e => ?_) (fun e => ?_)⟩
        · have e2 : (l : Int) < ((1 + i : Nat) : Int) := of_decide_eq_true e
          have e3 : decide (l < 1 + i) = true := decide_eq_true (by omega)
          rw [if_pos e3] at htk
          refine ⟨_, rfl, _, eL, ?_, fun a o z => ?_, ?_⟩
          · rw [List.length_map]
            exact szt (Nat.lt_of_le_of_lt (List.length_filter_le _ _) (by rw [List.length_take]; omega))
          · rw [upd_ne (ne_of_none z nL)]
            exact s2 _ _ z
          · rw [upd_same, htk, List.map_append]
            rfl
        · have e2 : ¬ (l : Int) < ((1 + i : Nat) : Int) := fun z => e (decide_eq_true z)
          rw [if_neg (fun z => e2 (by have := of_decide_eq_true z; omega)), List.append_nil] at htk
          exact ⟨s2, by rw [htk]; exact eL⟩
      · obtain ⟨s2, eL⟩ := hP
        rw [List.length_map, List.take_length] at eL
        have hmem : ∀ a, a ∈ ld.filter (fun l => decide (l < 1 + i)) ↔ (a < 1 + i ∧ 1 + i ∈ E' a) := fun a => by
          rw [List.mem_filter, decide_eq_true_iff, hIs a]
          exact ⟨fun z => ⟨z.2, z.1.2⟩, fun z => ⟨⟨by omega, z.2⟩, z.1⟩⟩
        obtain ⟨j, hj, hbj⟩ := hled
        have hjm := (hmem j).mpr ⟨hj, hbj⟩
        generalize ld.filter (fun l => decide (l < 1 + i)) = le at eL hmem hjm
        obtain ⟨l0, ls, rfl⟩ : ∃ l0 ls, le = l0 :: ls := by
          cases le with
          | nil => cases hjm
          | cons l0 ls => exact ⟨l0, ls, rfl⟩
        have e2 := s2 _ _ e1
        refine ⟨.ref na, rfl, .inl ⟨rfl, _, sqL e2⟩, .ref na, rfl, .ref L, rfl, na, L, ns1, l0, ls, rfl, sqL e2, sqL eL, by rw [l1]; exact d1, fun y hy => by rw [l1]; exact ((hmem y).mp hy).1, fun e H3 s3 hL => ?_⟩
        have hLB : LcaB (Nf ns1) (l0 :: ls) e := ⟨l0, ls, rfl, hL⟩
        have hlt : ∀ b ∈ l0 :: ls, b < 1 + i := fun b hb => ((hmem b).mp hb).1
        have hel : e < 1 + i := Nat.lt_of_le_of_lt (hLB.le d1 hlt hjm) hj
        refine ⟨na, _, _, rfl, rfl, s3 _ _ e2, by rw [List.length_map, l1]; exact szt (by omega), ?_⟩
        refine ⟨ns1 ++ [e], _, _, _, rfl, Same.upd ((s1.trans s2).trans s3) nna, by rw [upd_same, List.map_append]; rfl, by rw [List.length_append, List.length_singleton, l1]; omega, fun b h1 h2 => ?_, fun b x h1 h2 hd hx => ?_⟩
        · rw [Nf.snoc, l1]
          by_cases hbi : b = 1 + i
          · rw [if_pos hbi, hbi]; exact hel
          · rw [if_neg hbi]; exact d1 b h1 (by omega)
        · rw [Nf.snoc, l1]
          by_cases hbi : b = 1 + i
          · rw [if_pos hbi]
            subst hbi
            exact hLB.dom d1 (g.led.mono (by omega)) t1 hlt fun a ha z => hd (.s z ((hmem a).mp ha).2 (Ne.symm hx))
          · rw [if_neg hbi]; exact t1 b x h1 (by omega) hd hx
    · obtain ⟨ns1, y2, y3, y4, rfl, s1, e1, l1, d1, t1⟩ := hP
      have hmi : 1 + ((m : Int) - 1).toNat = m := by omega
      rw [hmi] at l1 d1 t1
      have w1 : Nw m E' 0 ns1 := ⟨l1, d1, t1, fun b h1 h2 z => by cases z with | z _ => omega⟩
      refine ⟨fun mm σ H2 => ∃ (n : Nat) (ns2 : List Nat), mm = m + 1 - n ∧ n ≤ m ∧ σ = [some (.ref lp), some (.ref na), y2, y3, y4] ∧ Same H H2 ∧ H2 na = some (.lst (ns2.map iv)) ∧ Nw m E' n ns2, ⟨_, 0, ns1, rfl, Nat.zero_le _, rfl, s1, e1, w1⟩, fun mm σ H2 hW => ?_⟩
      obtain ⟨n, ns2, rfl, hn, rfl, s2, e2, w2⟩ := hW
      refine ⟨.ref na, rfl, .ref lp, rfl, na, lp, H, ns2, lds, m, n, E', rfl, s2, nna, hNL, e2, g, w2, fun c ns3 H3 b3 s3 e3 w3 c1 c2 => ⟨c, rfl, ?_⟩⟩
      cases c with
      | true =>
        have hnm := c1 rfl
        exact ⟨fun σ' H' => ∃ m', m' < m + 1 - n ∧ ∃ (n : Nat) (ns2 : List Nat), m' = m + 1 - n ∧ n ≤ m ∧ σ' = [some (.ref lp), some (.ref na), y2, y3, y4] ∧ Same H H' ∧ H' na = some (.lst (ns2.map iv)) ∧ Nw m E' n ns2, fun σ' H' h => h, ⟨m + 1 - (n + 1), by omega, n + 1, ns3, rfl, by omega, rfl, s3, e3, w3⟩⟩
      | false =>
        refine ⟨_, rfl, q na ns3 H3 nna s3 e3 w3.len w3.dn fun b x hb => ?_⟩
        exact ch_dom g.pos g.inE g.ofE g.noZ g.led w3.dn w3.bet (fun b h0 hb => ⟨_, g.ld b hb, c2 rfl b h0 hb⟩) hb
end
end Gn
set_option Elab.async false
set_option linter.all false
set_option maxRecDepth 100000
set_option maxHeartbeats 4000000
namespace Gn
open PySem PySem.Spec PyProof.Rows L2
/-! ### above -/
theorem pd_idx {α β : Type} {F : α → β → Prop} {f : Nat → β} : ∀ {l : List α} {k : Nat}, (∀ n q, l[n]? = some q → F q (f (k + n))) → Paired F l ((List.range' k l.length).map f)
  | [], _, _ => .nil
  | a :: l, k, h => by
    rw [List.length_cons, List.range'_succ, List.map_cons]
    refine .cons (h 0 a rfl) (pd_idx fun n q e => ?_)
    have := h (n + 1) q (by simpa using e)
    rw [show k + (n + 1) = k + 1 + n by omega] at this
    exact this
theorem LL.nl {K : PySem.W.Frag} {H H1 : Hp} {lp : Addr} {m : Nat} {qs : List Addr} {f : Nat → List Nat} (h : LL H H1 lp m qs f) : NL K H1 lp ((List.range m).map f) := by
  refine ⟨qs, sqL h.top, ?_⟩
  have := pd_idx (F := fun q xs => SqL K H1 q (xs.map iv)) (f := f) (l := qs) (k := 0) fun n q e => by rw [Nat.zero_add]; exact sqL (h.at_ n q e)
  rw [h.len, ← List.range_eq_range'] at this
  exact this
theorem LL.snoc {H H1 : Hp} {lp r : Addr} {i : Nat} {qs : List Addr} {f : Nat → List Nat} {xs : List Nat} (h : LL H H1 lp i qs f) (nr : H1 r = none) (hr : H r = none) (hf : f i = xs) :
    LL H (upd (upd H1 r (.lst (xs.map iv))) lp (.lst (qs.map V.ref ++ [.ref r]))) lp (i + 1) (qs ++ [r]) f := by
  have nl : ∀ q ∈ lp :: qs, q ≠ r := fun q hq z => by
    rcases List.mem_cons.mp hq with rfl | hq
    · have := h.top
      rw [z, nr] at this; cases this
    · obtain ⟨n, hn⟩ := List.mem_iff_getElem?.mp hq
      have := h.at_ n q hn
      rw [z, nr] at this; cases this
  have nd := h.nd
  rw [List.nodup_cons] at nd
  refine ⟨by rw [upd_same, List.map_append]; rfl, ?_, by rw [List.length_append, List.length_singleton, h.len], fun q hq => ?_, fun n q hn => ?_⟩
  · show ((lp :: qs) ++ [r]).Nodup
    exact nd_snoc h.nd fun hm => nl r hm rfl
  · have hq' : q ∈ (lp :: qs) ++ [r] := hq
    rcases List.mem_append.mp hq' with z | z
    · exact h.new q z
    · rw [List.mem_singleton.mp z]; exact hr
  · by_cases hn2 : n < qs.length
    · rw [List.getElem?_append_left hn2] at hn
      have hqm := List.mem_of_getElem? hn
      rw [upd_ne (fun z : q = lp => nd.1 (z ▸ hqm)), upd_ne (nl q (List.mem_cons_of_mem _ hqm))]
      exact h.at_ n q hn
    · rw [List.getElem?_append_right (by omega)] at hn
      have hm := List.mem_singleton.mp (List.mem_of_getElem? hn)
      have hl : n - qs.length < 1 := (List.getElem?_eq_some_iff.mp hn).1
      have hni : n = i := by rw [← h.len]; omega
      subst hm
      rw [upd_ne (nl lp List.mem_cons_self).symm, upd_same, hni, hf]
/-- the blocks on all ways to one -/
noncomputable def dl (nx : List (List Nat)) (b : Nat) : List Nat := (List.range nx.length).filter fun o => dB nx o b
theorem dl_mem {nx : List (List Nat)} {b y : Nat} : y ∈ dl nx b ↔ y < nx.length ∧ ¬ Rc (Ex nx) y b := by
  unfold dl
  rw [List.mem_filter, List.mem_range, dB_iff]
theorem dl_asc (nx : List (List Nat)) (b : Nat) : (dl nx b).Pairwise (· < ·) := List.Pairwise.filter _ List.pairwise_lt_range
theorem dl_len (nx : List (List Nat)) (b : Nat) : (dl nx b).length ≤ nx.length := Nat.le_trans (List.length_filter_le _ _) (by rw [List.length_range]; exact Nat.le_refl _)
theorem dl_zero {nx : List (List Nat)} (h : 0 < nx.length) : dl nx 0 = [0] := by
  refine asc_eq (dl_asc nx 0) (by simp) fun x => ?_
  rw [dl_mem, List.mem_singleton]
  refine ⟨fun z => ?_, fun z => ⟨by omega, fun r => r.ne z.symm⟩⟩
  by_cases e : x = 0
  · exact e
  · exact absurd (.z e) z.2
theorem dl_step {nx : List (List Nat)} {N : Nat → Nat} (hN : Dn nx.length N) (hc : ∀ b x, b < nx.length → (Ch N x b ↔ ¬ Rc (Ex nx) x b)) {b : Nat} (h0 : 0 < b) (hb : b < nx.length) : dl nx b = dl nx (N b) ++ [b] := by
  have hn := hN b h0 hb
  refine asc_eq (dl_asc nx b) ?_ fun x => ?_
  · rw [List.pairwise_append]
    refine ⟨dl_asc nx _, by simp, fun x hx y hy => ?_⟩
    rw [List.mem_singleton.mp hy]
    have h1 := (hc (N b) x (by omega)).mpr (dl_mem.mp hx).2
    have := h1.le hN (by omega)
    omega
  · rw [List.mem_append, List.mem_singleton, dl_mem, dl_mem, ← hc b x hb, ← hc (N b) x (by omega)]
    constructor
    · rintro ⟨h1, h2⟩
      rcases h2.inv with e | e
      · exact .inr e
      · exact .inl ⟨h1, e.2⟩
    · rintro (z | rfl)
      · exact ⟨z.1, .u h0 z.2⟩
      · exact ⟨hb, .r⟩
theorem abv_eq (nx : List (List Nat)) : abv nx = (List.range nx.length).map (dl nx) := rfl
theorem spec_mem {pr : List Blk} {i n a : Nat} : a ∈ spec pr i n ↔ a < i ∧ n ∈ (pr.getD a ([], .fin)).2.names := by
  unfold spec
  rw [List.mem_flatMap]
  constructor
  · rintro ⟨j, hj, ha⟩
    obtain ⟨h1, rfl⟩ := List.mem_replicate.mp ha
    exact ⟨List.mem_range.mp hj, List.count_pos_iff.mp (Nat.pos_of_ne_zero h1)⟩
  · rintro ⟨h1, h2⟩
    exact ⟨a, List.mem_range.mpr h1, List.mem_replicate.mpr ⟨Nat.ne_of_gt (List.count_pos_iff.mpr h2), rfl⟩⟩
abbrev nmL (pr : List Blk) : List (List Nat) := pr.map fun b => b.2.names
theorem Ex.names {pr : List Blk} {a : Nat} : Ex (nmL pr) a = (pr.getD a ([], .fin)).2.names := by
  unfold Ex nmL
  rw [List.getD_eq_getElem?_getD, List.getD_eq_getElem?_getD, List.getElem?_map]
  cases h : pr[a]? <;> rfl
theorem gr_of {m : Nat} {pr : List Blk} (hm : 1 ≤ m) (hm2 : m ≤ 12) (hl : pr.length = m) (h : NxOk m (nmL pr)) : Gr m (Ex (nmL pr)) ((List.range m).map (spec pr m)) := by
  have hin : ∀ a b, b ∈ Ex (nmL pr) a → a < m ∧ 1 ≤ b ∧ b < m := fun a b hb => by
    by_cases ha : a < (nmL pr).length
    · rw [Ex.at ha] at hb
      have h1 := (h.2.1 _ (List.getElem_mem ha)).2.2 b hb
      exact ⟨by rw [← h.1]; exact ha, h1⟩
    · unfold Ex at hb
      rw [List.getD_eq_getElem?_getD, List.getElem?_eq_none (by omega)] at hb
      cases hb
  refine ⟨by omega, by rw [List.length_map, List.length_range], by omega, fun a b hb => (hin a b hb).2.2, fun a ha => ?_, fun a z => ?_, fun b h0 hb => ?_, fun b hb a => ?_⟩
  · cases e : Ex (nmL pr) a with
    | nil => exact absurd e ha
    | cons b r => exact (hin a b (by rw [e]; exact List.mem_cons_self)).1
  · exact absurd (hin a 0 z).2.1 (by decide)
  · obtain ⟨j, xs, h1, h2, h3⟩ := h.2.2 b h0 hb
    refine ⟨j, h1, ?_⟩
    unfold Ex
    rw [List.getD_eq_getElem?_getD, h2]
    exact h3
  · have e : ((List.range m).map (spec pr m)).getD b [] = spec pr m b := by
      rw [List.getD_eq_getElem?_getD, List.getElem?_map, List.getElem?_range hb]
      rfl
    rw [e, spec_mem, Ex.names]
def spAboveP (K : PySem.W.Frag) : Sp := fun vs H Q _ => ∃ (v : V) (pr : List Blk) (m : Nat), vs = [v] ∧ ProgAt K H v pr ∧ 1 ≤ m ∧ m ≤ 12 ∧ pr.length = m ∧ namesOk pr.length pr ∧ (∀ b ∈ pr, b.2.names.length ≤ 2) ∧ NxOk m (nmL pr) ∧
  ∀ (lp : Addr) (qs : List Addr) (H' : Hp), Same H H' → LL H H' lp m qs (dl (nmL pr)) → Q (.ref lp) H'
abbrev nAboveP : List Str := ["program", "lists", "nearest", "block"]
theorem scAboveP : FnScope nAboveP ["program"] (defScope sAboveP) := ⟨rfl, rfl, rfl, by decide +kernel, rfl, by decide +kernel, by decide +kernel⟩
section
variable {P : Program} {w : World} {K : PySem.W.Frag} {mg : Str → Option Value} {base : Heap}
theorem ok_aboveP {f fO fN : Addr} {fd fdO fdN : FuncData} {k : Nat} (D : Df K mg "above" sAboveP ["program"] f fd) (B : Bi mg)
    (DO : Df K mg "leads_of" sLeadsOf ["program"] fO fdO) (GO : FnOk P w K mg base CX0 k fO fdO ["program"] (spLeadsOf K))
    (DN : Df K mg "nearest_above" sNearest ["leads"] fN fdN) (GN : FnOk P w K mg base CX0 k fN fdN ["leads"] (spNearest K)) : FnOk P w K mg base CX0 (k + 1) f fd ["program"] (spAboveP K) := by
  refine D.F.ok scAboveP (fun vs H Q E h => ?_) (fun cdv A outer s H vs Q E hr h => ?_)
  · obtain ⟨v, pr, m, rfl, _⟩ := h
    rfl
  · obtain ⟨v, pr, m, rfl, hP, hm1, hm2, hpl, hno, hn2, hnx, q⟩ := h
    refine ⟨_, pss_cons (ps_set (i := 1) scAboveP.nd rfl (.inl rfl) (pe_lst (pa_cons (pe_lst (pa_cons pe_int pa_nil)) pa_nil)))
      (pss_cons (ps_set (i := 2) scAboveP.nd rfl (.inl rfl) (pe_call GN hr (by rfl) DN.g DN.F.kp DN.b .nil pass0 (pa_cons (pe_call GO hr (by rfl) DO.g DO.F.kp DO.b .nil pass0 (pa_cons (pv 0) pa_nil)) pa_nil)))
      (pss_cons (ps_for PassesOwn.never rfl (pi_range2 (by rfl) B.range (pa_cons pe_int (pa_cons (pe_callB call_len_seq (by rfl) B.len PySem.boot_len (pa_cons (pv 0) pa_nil)) pa_nil))) (pg_name (i := 3) scAboveP.nd rfl (.inl rfl))
        (pss_one (ps_expr (pe_bm PySem.F.plainAttrs_list PySem.F.slot_list_append PySem.F.type_list_append mt_append (pv 1) (pa_cons (pe_op op_cat (pe_ix ix_list (pv 1) (pe_ix ix_list (pv 2) (pv 3) (fun _ _ => rfl)) (fun _ _ => rfl)) (pe_lst (pa_cons (pv 3) pa_nil))) pa_nil)))))
      (pss_one (ps_ret (pv 1))))), ?_⟩
    have hnl : (nmL pr).length = m := hnx.1
    refine ⟨szl (show 1 ≤ 1000000 by decide), fun p1 n1 => ⟨szl (show 1 ≤ 1000000 by decide), fun lp nlp => ?_⟩⟩
    have np : p1 ≠ lp := ne_of_none upd_same nlp
    have s0 : Same H (upd (upd H p1 (.lst [.int 0])) lp (.lst [.ref p1])) := (new_same n1).trans (new_same nlp)
    have hlpH : H lp = none := (new_same n1).free nlp
    have L0 : LL H (upd (upd H p1 (.lst [.int 0])) lp (.lst [.ref p1])) lp 1 [p1] (dl (nmL pr)) := by
      refine ⟨upd_same, by simp; exact np.symm, rfl, fun q hq => ?_, fun n q hn => ?_⟩
      · have hq2 : q = lp ∨ q = p1 := by simpa using hq
        rcases hq2 with rfl | rfl
        · exact hlpH
        · exact n1
      · have hn0 : n = 0 := by have := (List.getElem?_eq_some_iff.mp hn).1; simp at this; exact this
        subst hn0
        have hq : p1 = q := Option.some.inj hn
        subst hq
        rw [upd_ne np, upd_same, dl_zero (by omega)]
        rfl
    generalize upd (upd H p1 (.lst [.int 0])) lp (.lst [.ref p1]) = H0 at s0 L0
    have hP0 : ProgAt K H0 v pr := by
      obtain ⟨p, bs, h1, h2, h3⟩ := hP
      exact ⟨p, bs, h1, s0.seq h2, pd_mono h3 fun _ _ z => z.same s0⟩
    refine ⟨v, rfl, v, pr, rfl, hP0, by omega, hno, hn2, fun la qs1 H1 s1 LL1 => ?_⟩
    have hsz : ∀ xs ∈ (List.range m).map (spec pr m), xs.length ≤ 1000 := fun xs hx => by
      obtain ⟨b, hb, rfl⟩ := List.mem_map.mp hx
      have := spec_len hn2 b m
      omega
    rw [hpl] at LL1
    refine ⟨la, _, m, _, rfl, LL1.nl, gr_of hm1 hm2 hpl hnx, hsz, fun na ns H2 nna s2 ena hnsl hdn hch => ?_⟩
    have s02 := s1.trans s2
    have L2' := L0.same s02
    have sH2 := s0.trans s02
    rw [← hnl] at hdn hch
    obtain ⟨pp, bs, rfl, hp1, hp2⟩ := hP
    have hbl : bs.length = m := by rw [pd_len hp2, hpl]
    have hbi : (bs.length : Int) = (m : Int) := by rw [hbl]
    have nna0 : H na = none := (s0.trans s1).free nna
    have nnl : ∀ q ∈ lp :: [p1], q ≠ na := fun q hq z => by
      rcases List.mem_cons.mp hq with rfl | hq
      · have := s1 _ _ L0.top
        rw [z, nna] at this; cases this
      · rw [List.mem_singleton.mp hq] at z
        have := s1 _ _ (L0.at_ 0 p1 rfl)
        rw [z, nna] at this; cases this
    refine ⟨.ref pp, rfl, pp, bs, rfl, .inl (sH2.seq hp1), 1, (m : Int), by rw [hbi], ⟨by decide, by decide, by omega, by omega⟩, ?_⟩
    refine for_range (lo := 1) (n := ((m : Int) - 1).toNat) (fun i σ H3 => ∃ (y3 : Option V) (qs : List Addr), σ = [some (.ref pp), some (.ref lp), some (.ref na), y3] ∧ Same H H3 ∧ H3 na = some (.lst (ns.map iv)) ∧ LL H H3 lp (1 + i) qs (dl (nmL pr)) ∧ ∀ q ∈ lp :: qs, q ≠ na)
      ⟨none, [p1], rfl, sH2, ena, L2', nnl⟩ (fun i σ H3 hi hP => ?_) (fun σ H3 hP => ?_)
    · obtain ⟨y3, qs, rfl, s3, e3, L3, n3⟩ := hP
      have hb : 1 + i < m := by omega
      have hbe : V.int (1 + (i : Int)) = iv (1 + i) := by
        show V.int (1 + (i : Int)) = V.int ((1 + i : Nat) : Int)
        rw [show 1 + (i : Int) = ((1 + i : Nat) : Int) by omega]
      rw [hbe]
      have hnb := hdn (1 + i) (by omega) (by omega)
      have hst := dl_step hdn hch (b := 1 + i) (by omega) (by omega)
      have hql : Nf ns (1 + i) < qs.length := by rw [L3.len]; exact hnb
      have hq := List.getElem?_eq_getElem hql
      have eq3 := L3.at_ _ _ hq
      generalize qs[Nf ns (1 + i)] = qn at hq eq3
      refine ⟨.ref lp, rfl, .inl ⟨rfl, _, sqL L3.top⟩, .ref lp, rfl, .ref na, rfl, _, rfl, na, _, _, iv (Nf ns (1 + i)), rfl, rfl, sqL e3, atI_nat (Nf.at (by omega)), lp, _, _, .ref qn, rfl, rfl, sqL L3.top, atI_nat (by rw [List.getElem?_map, hq]; rfl), _, rfl, szl (show 1 ≤ 1000000 by decide), fun l nl => ?_⟩
      have sl := new_same (o := .lst [iv (1 + i)]) nl
      have hdll := dl_len (nmL pr) (Nf ns (1 + i))
      refine ⟨qn, l, _, _, rfl, rfl, sl _ _ eq3, upd_same, ?_, fun r nr => ?_⟩
      · rw [List.length_map]
        exact szl (by show _ + 1 ≤ _; omega)
      · have L4 := L3.same sl
        have s4 := s3.trans sl
        have e4 := sl _ _ e3
        generalize upd H3 l (.lst [iv (1 + i)]) = H4 at nr L4 s4 e4
        have exs : (dl (nmL pr) (Nf ns (1 + i))).map iv ++ [iv (1 + i)] = (dl (nmL pr) (1 + i)).map iv := by rw [hst, List.map_append]; rfl
        rw [exs]
        have sr := new_same (o := .lst ((dl (nmL pr) (1 + i)).map iv)) nr
        have nrna : r ≠ na := (ne_of_none e4 nr).symm
        refine ⟨lp, _, _, rfl, rfl, sr _ _ L4.top, by rw [List.length_map, L4.len]; exact szt (by omega), ?_⟩
        have L5 := L4.snoc (r := r) nr (s4.free nr) rfl
        refine ⟨_, qs ++ [r], rfl, Same.upd (s4.trans sr) hlpH, ?_, ?_, fun q hq' => ?_⟩
        · rw [upd_ne (n3 lp List.mem_cons_self).symm]
          exact sr _ _ e4
        · rw [show 1 + (i + 1) = 1 + i + 1 by omega]
          exact L5
        · have hq2 : q ∈ (lp :: qs) ++ [r] := hq'
          rcases List.mem_append.mp hq2 with z | z
          · exact n3 q z
          · rw [List.mem_singleton.mp z]; exact nrna
    · obtain ⟨y3, qs, rfl, s3, e3, L3, n3⟩ := hP
      rw [show 1 + ((m : Int) - 1).toNat = m by omega] at L3
      exact ⟨_, rfl, q lp qs H3 s3 L3⟩
end
end Gn
set_option Elab.async false
set_option linter.all false
set_option maxRecDepth 100000
set_option maxHeartbeats 4000000
namespace Gn
open PySem PySem.Spec PyProof.Rows L2
/-! ### a run as plain functions -/
structure MSt where
  lasts : List Int
  rooms : List Int
  way : List Nat
  told : List Int
  done : List (Nat × Option Int)
def LI (xs : List Int) (k : Nat) : Int := xs.getD k 0
def pk (xs : List Nat) (n : Int) : Nat := xs.getD (n % (xs.length : Int)).toNat 0
def Bk.op : Bk → Int → Int → Int
  | .sum, a, b => a + b
  | .less, a, b => a - b
  | .times, a, b => a * b
  | .same, a, b => if a = b then 1 else 0
  | .below, a, b => if a < b then 1 else 0
def wOf (tk : List Int) (s : MSt) : Rw → Option Int
  | .take i => some (LI tk i)
  | .num n => some n
  | .bin b x y => some (b.op (LI s.lasts x) (LI s.lasts y))
  | .pick x ps => some (LI s.lasts (pk ps (LI s.lasts x)))
  | .look rs x => some (LI s.rooms (pk rs (LI s.lasts x)))
  | .meet _ => none
  | .tell _ => none
  | .lay _ _ _ => none
abbrev GT40 : Int := 10000000000000000000000000000000000000000
def too : Option Int → Bool
  | none => false
  | some w => !(decide (-GT40 ≤ w) && decide (w ≤ GT40))
def doR (k : Nat) (r : Rw) (w : Option Int) (s : MSt) : MSt :=
  match r with
  | .lay rs x y => { s with rooms := s.rooms.set (pk rs (LI s.lasts x)) (LI s.lasts y), done := s.done ++ [(k, w)] }
  | .tell x => { s with told := s.told ++ [LI s.lasts x], done := s.done ++ [(k, w)] }
  | _ => { s with lasts := s.lasts.set k (w.getD 0), done := s.done ++ [(k, w)] }
inductive Cfg
  | come (b : Nat) (bl : List Int) (s : MSt)
  | row (b i : Nat) (bl : List Int) (s : MSt)
  | ended (s : MSt)
  | great (s : MSt)
section
variable (pr : List Blk) (tk : List Int)
def rowsB (b : Nat) : List Rw := (pr.getD b ([], .fin)).1
def endB (b : Nat) : En := (pr.getD b ([], .fin)).2
def bgn (b : Nat) : Nat := (rowsL (pr.take b)).length
def nextB (s : MSt) : En → Option Nat
  | .go b => some b
  | .iff r b c => some (if LI s.lasts r ≠ 0 then b else c)
  | .fin => none
def mVal (s : MSt) (at_ : Nat) : Rw → Option Int
  | .meet ps => some (LI s.lasts (ps.getD at_ 0))
  | _ => none
def brt (lead blk : Nat) (s : MSt) : List Int := (rowsB pr blk).filterMap (mVal s ((spec pr pr.length blk).idxOf lead))
def norm (b i : Nat) (bl : List Int) (s : MSt) : Cfg :=
  if i < (rowsB pr b).length then .row b i bl s
  else match nextB s (endB pr b) with
    | none => .ended s
    | some c => .come c (brt pr b c s) s
def rwAt (b i : Nat) : Rw := (rowsB pr b).getD i (.take 0)
def wAt (b i : Nat) (bl : List Int) (s : MSt) : Option Int := if (rwAt pr b i).isM = true then some (LI bl i) else wOf tk s (rwAt pr b i)
def stepC : Cfg → Cfg
  | .come b bl s => norm pr b 0 bl { s with way := s.way ++ [b] }
  | .row b i bl s => if too (wAt pr tk b i bl s) = true then .great s else norm pr b (i + 1) bl (doR (bgn pr b + i) (rwAt pr b i) (wAt pr tk b i bl s) s)
  | .ended s => .ended s
  | .great s => .great s
def itC : Nat → Cfg → Cfg
  | 0, c => c
  | n + 1, c => itC n (stepC pr tk c)
def Cfg.st : Cfg → MSt
  | .come _ _ s => s
  | .row _ _ _ s => s
  | .ended s => s
  | .great s => s
def Cfg.word : Cfg → Str
  | .come _ _ _ => "going"
  | .row _ _ _ _ => "going"
  | .ended _ => "ended"
  | .great _ => "great"
def MSt.first : MSt := ⟨List.replicate (rowsL pr).length 0, List.replicate 6 0, [], [], []⟩
def runC (n : Nat) : Cfg := itC pr tk n (.come 0 [] (MSt.first pr))
end
variable {pr : List Blk} {tk : List Int}
theorem itC_succ : ∀ (n : Nat) (c : Cfg), itC pr tk (n + 1) c = stepC pr tk (itC pr tk n c)
  | 0, _ => rfl
  | n + 1, c => itC_succ n (stepC pr tk c)
theorem itC_add : ∀ (n k : Nat) (c : Cfg), itC pr tk (n + k) c = itC pr tk k (itC pr tk n c)
  | 0, k, c => by rw [Nat.zero_add]; rfl
  | n + 1, k, c => by rw [show n + 1 + k = (n + k) + 1 by omega]; exact itC_add n k (stepC pr tk c)
theorem itC_ended (s : MSt) : ∀ n, itC pr tk n (.ended s) = .ended s
  | 0 => rfl
  | n + 1 => itC_ended s n
theorem itC_great (s : MSt) : ∀ n, itC pr tk n (.great s) = .great s
  | 0 => rfl
  | n + 1 => itC_great s n
/-- all last worths and rooms are within the bounds -/
def Bd (s : MSt) : Prop := (∀ x ∈ s.lasts, -GT40 ≤ x ∧ x ≤ GT40) ∧ ∀ x ∈ s.rooms, -GT40 ≤ x ∧ x ≤ GT40
theorem LI_mem {xs : List Int} {k : Nat} (h : k < xs.length) : LI xs k ∈ xs := by
  unfold LI
  rw [List.getD_eq_getElem?_getD, List.getElem?_eq_getElem h]
  exact List.getElem_mem h
theorem LI_at {xs : List Int} {k : Nat} (h : k < xs.length) : (xs.map V.int)[k]? = some (.int (LI xs k)) := by
  unfold LI
  rw [List.getElem?_map, List.getD_eq_getElem?_getD, List.getElem?_eq_getElem h]
  rfl
theorem LI_bd {xs : List Int} {k : Nat} (h : ∀ x ∈ xs, -GT40 ≤ x ∧ x ≤ GT40) : -GT40 ≤ LI xs k ∧ LI xs k ≤ GT40 := by
  by_cases hk : k < xs.length
  · exact h _ (LI_mem hk)
  · unfold LI
    rw [List.getD_eq_getElem?_getD, List.getElem?_eq_none (by omega)]
    decide
theorem pk_lt {xs : List Nat} {n : Int} {m : Nat} (h0 : xs ≠ []) (h : ∀ y ∈ xs, y < m) : pk xs n < m ∧ (n % (xs.length : Int)).toNat < xs.length ∧ 0 ≤ n % (xs.length : Int) := by
  have hl : 0 < xs.length := List.length_pos_iff.mpr h0
  have h1 : 0 ≤ n % (xs.length : Int) := Int.emod_nonneg _ (by omega)
  have h2 : n % (xs.length : Int) < (xs.length : Int) := Int.emod_lt_of_pos _ (by omega)
  have h3 : (n % (xs.length : Int)).toNat < xs.length := by omega
  refine ⟨?_, h3, h1⟩
  unfold pk
  rw [List.getD_eq_getElem?_getD, List.getElem?_eq_getElem h3]
  exact h _ (List.getElem_mem h3)
structure StOk (s : MSt) (n k : Nat) : Prop where
  ll : s.lasts.length = n
  lr : s.rooms.length = 6
  bd : Bd s
  lw : s.way.length ≤ k
  lt : s.told.length ≤ k
  ld : s.done.length ≤ k
theorem bd_set {xs : List Int} {k : Nat} {v : Int} (h : ∀ x ∈ xs, -GT40 ≤ x ∧ x ≤ GT40) (hv : -GT40 ≤ v ∧ v ≤ GT40) : ∀ x ∈ xs.set k v, -GT40 ≤ x ∧ x ≤ GT40 := fun x hx => by
  rcases List.mem_or_eq_of_mem_set hx with z | z
  · exact h x z
  · rw [z]; exact hv
theorem too_no {w : Int} (h : too (some w) = false) : -GT40 ≤ w ∧ w ≤ GT40 := by
  unfold too at h
  rw [Bool.not_eq_false', Bool.and_eq_true, decide_eq_true_iff, decide_eq_true_iff] at h
  exact h
theorem StOk.doR {s : MSt} {n k j : Nat} {r : Rw} {w : Option Int} (h : StOk s n k) (hw : too w = false) : StOk (doR j r w s) n (k + 1) := by
  have hwb : -GT40 ≤ w.getD 0 ∧ w.getD 0 ≤ GT40 := by
    cases w with
    | none => decide
    | some w => exact too_no hw
  have app : ∀ {α : Type} {xs : List α} {x : α}, xs.length ≤ k → (xs ++ [x]).length ≤ k + 1 := fun {α xs x} z => by rw [List.length_append, List.length_singleton]; omega
  have las : StOk { s with lasts := s.lasts.set j (w.getD 0), done := s.done ++ [(j, w)] } n (k + 1) := ⟨by show (s.lasts.set j (w.getD 0)).length = n; rw [List.length_set]; exact h.ll, h.lr, ⟨bd_set h.bd.1 hwb, h.bd.2⟩, Nat.le_succ_of_le h.lw, Nat.le_succ_of_le h.lt, app h.ld⟩
  cases r with
  | lay rs x y => exact ⟨h.ll, by show (s.rooms.set _ _).length = 6; rw [List.length_set]; exact h.lr, ⟨h.bd.1, bd_set h.bd.2 (LI_bd h.bd.1)⟩, Nat.le_succ_of_le h.lw, Nat.le_succ_of_le h.lt, app h.ld⟩
  | tell x => exact ⟨h.ll, h.lr, h.bd, Nat.le_succ_of_le h.lw, app h.lt, app h.ld⟩
  | take _ => exact las
  | num _ => exact las
  | bin _ _ _ => exact las
  | pick _ _ => exact las
  | meet _ => exact las
  | look _ _ => exact las
/-! ### one step more -/
theorem norm_st {b i : Nat} {bl : List Int} {s : MSt} : (norm pr b i bl s).st = s := by
  unfold norm
  by_cases h : i < (rowsB pr b).length
  · rw [if_pos h]; rfl
  · rw [if_neg h]
    cases nextB s (endB pr b) <;> rfl
theorem norm_word {b i : Nat} {bl : List Int} {s : MSt} : (norm pr b i bl s).word = "going" ∨ (norm pr b i bl s).word = "ended" := by
  unfold norm
  by_cases h : i < (rowsB pr b).length
  · rw [if_pos h]; exact .inl rfl
  · rw [if_neg h]
    cases nextB s (endB pr b)
    · exact .inr rfl
    · exact .inl rfl
/-- what a step more does to what is told and done -/
theorem step_more (c : Cfg) : (∃ ts ds, (stepC pr tk c).st.told = c.st.told ++ ts ∧ (stepC pr tk c).st.done = c.st.done ++ ds ∧ ts.length ≤ ds.length ∧ ds.length ≤ 1) ∧ (c.word ≠ "going" → stepC pr tk c = c) := by
  cases c with
  | come b bl s =>
    refine ⟨⟨[], [], ?_, ?_, Nat.le_refl _, Nat.zero_le _⟩, fun z => absurd rfl z⟩
    · show (norm pr b 0 bl { s with way := s.way ++ [b] }).st.told = s.told ++ []
      rw [norm_st, List.append_nil]
    · show (norm pr b 0 bl { s with way := s.way ++ [b] }).st.done = s.done ++ []
      rw [norm_st, List.append_nil]
  | row b i bl s =>
    refine ⟨?_, fun z => absurd rfl z⟩
    show ∃ ts ds, (if too (wAt pr tk b i bl s) = true then Cfg.great s else norm pr b (i + 1) bl (doR (bgn pr b + i) (rwAt pr b i) (wAt pr tk b i bl s) s)).st.told = s.told ++ ts ∧ (if too (wAt pr tk b i bl s) = true then Cfg.great s else norm pr b (i + 1) bl (doR (bgn pr b + i) (rwAt pr b i) (wAt pr tk b i bl s) s)).st.done = s.done ++ ds ∧ ts.length ≤ ds.length ∧ ds.length ≤ 1
    by_cases ht : too (wAt pr tk b i bl s) = true
    · rw [if_pos ht]
      exact ⟨[], [], (List.append_nil _).symm, (List.append_nil _).symm, Nat.le_refl _, Nat.zero_le _⟩
    · rw [if_neg ht, norm_st]
      generalize wAt pr tk b i bl s = w
      generalize bgn pr b + i = k
      cases rwAt pr b i with
      | tell x => exact ⟨[LI s.lasts x], [(k, w)], rfl, rfl, Nat.le_refl _, Nat.le_refl _⟩
      | lay rs x y => exact ⟨[], [(k, w)], (List.append_nil _).symm, rfl, Nat.zero_le _, Nat.le_refl _⟩
      | take _ => exact ⟨[], [(k, w)], (List.append_nil _).symm, rfl, Nat.zero_le _, Nat.le_refl _⟩
      | num _ => exact ⟨[], [(k, w)], (List.append_nil _).symm, rfl, Nat.zero_le _, Nat.le_refl _⟩
      | bin _ _ _ => exact ⟨[], [(k, w)], (List.append_nil _).symm, rfl, Nat.zero_le _, Nat.le_refl _⟩
      | pick _ _ => exact ⟨[], [(k, w)], (List.append_nil _).symm, rfl, Nat.zero_le _, Nat.le_refl _⟩
      | meet _ => exact ⟨[], [(k, w)], (List.append_nil _).symm, rfl, Nat.zero_le _, Nat.le_refl _⟩
      | look _ _ => exact ⟨[], [(k, w)], (List.append_nil _).symm, rfl, Nat.zero_le _, Nat.le_refl _⟩
  | ended s => exact ⟨⟨[], [], (List.append_nil _).symm, (List.append_nil _).symm, Nat.le_refl _, Nat.zero_le _⟩, fun _ => rfl⟩
  | great s => exact ⟨⟨[], [], (List.append_nil _).symm, (List.append_nil _).symm, Nat.le_refl _, Nat.zero_le _⟩, fun _ => rfl⟩
end Gn
set_option Elab.async false
set_option linter.all false
set_option maxRecDepth 100000
set_option maxHeartbeats 4000000
namespace Gn
open PySem PySem.Spec PyProof.Rows L2
theorem ProgAt.same {K : PySem.W.Frag} {H H' : Hp} {v : V} {pr : List Blk} (h : ProgAt K H v pr) (e : Same H H') : ProgAt K H' v pr := by
  obtain ⟨p, bs, rfl, h1, h2⟩ := h
  exact ⟨p, bs, rfl, e.seq h1, pd_mono h2 fun _ _ z => z.same e⟩
def wv : Option Int → V
  | none => .non
  | some i => .int i
/-! ### the small ones -/
def spIsMeet (K : PySem.W.Frag) : Sp := fun vs H Q _ => ∃ (v : V) (r : Rw), vs = [v] ∧ RowAt K H v r ∧ Q (.bl r.isM) H
theorem scIsMeet : FnScope ["row"] ["row"] (defScope sIsMeet) := ⟨rfl, rfl, rfl, by decide +kernel, rfl, by decide +kernel, by decide +kernel⟩
theorem isM_dec (r : Rw) : decide (V.str r.w = V.str "meet") = r.isM := by
  cases r with
  | bin b x y => cases b <;> rfl
  | meet ps => exact decide_eq_true rfl
  | take _ => rfl
  | num _ => rfl
  | pick _ _ => rfl
  | tell _ => rfl
  | look _ _ => rfl
  | lay _ _ _ => rfl
def spOp (b : Bk) : Sp := fun vs H Q _ => ∃ (x y : Int), vs = [.int x, .int y] ∧ (-GT40 ≤ x ∧ x ≤ GT40) ∧ (-GT40 ≤ y ∧ y ≤ GT40) ∧ Q (.int (b.op x y)) H
def spPicked (K : PySem.W.Frag) : Sp := fun vs H Q _ => ∃ (q : Addr) (ps : List Nat) (n : Int), vs = [.ref q, .int n] ∧ SqT K H q (ps.map iv) ∧ ps ≠ [] ∧ ps.length ≤ 1000 ∧ Q (iv (pk ps n)) H
theorem scPicked : FnScope ["things", "number"] ["things", "number"] (defScope sPicked) := ⟨rfl, rfl, rfl, by decide +kernel, rfl, by decide +kernel, by decide +kernel⟩
def spGreat : Sp := fun vs H Q _ => ∃ w : Option Int, vs = [wv w] ∧ Q (.bl (too w)) H
theorem scGreat : FnScope ["worth"] ["worth"] (defScope sGreat) := ⟨rfl, rfl, rfl, by decide +kernel, rfl, by decide +kernel, by decide +kernel⟩
abbrev oo : List Str := ["one", "other"]
theorem scSummed : FnScope oo oo (defScope sSummed) := ⟨rfl, rfl, rfl, by decide +kernel, rfl, by decide +kernel, by decide +kernel⟩
theorem scLessened : FnScope oo oo (defScope sLessened) := ⟨rfl, rfl, rfl, by decide +kernel, rfl, by decide +kernel, by decide +kernel⟩
theorem scProduct : FnScope oo oo (defScope sProduct) := ⟨rfl, rfl, rfl, by decide +kernel, rfl, by decide +kernel, by decide +kernel⟩
theorem scTSame : FnScope oo oo (defScope sTSame) := ⟨rfl, rfl, rfl, by decide +kernel, rfl, by decide +kernel, by decide +kernel⟩
theorem scTBelow : FnScope oo oo (defScope sTBelow) := ⟨rfl, rfl, rfl, by decide +kernel, rfl, by decide +kernel, by decide +kernel⟩
theorem bd_abs {x : Int} (h : -GT40 ≤ x ∧ x ≤ GT40) : x.natAbs < 2 ^ 140 := by
  have h1 : x.natAbs ≤ 10000000000000000000000000000000000000000 := by
    obtain ⟨a, b⟩ := h
    unfold GT40 at a b
    omega
  exact Nat.lt_of_le_of_lt h1 (by decide)
section
variable {P : Program} {w : World} {K : PySem.W.Frag} {mg : Str → Option Value} {base : Heap}
theorem ok_isMeet {f : Addr} {fd : FuncData} {k : Nat} (D : Df K mg "is_meet" sIsMeet ["row"] f fd) : FnOk P w K mg base CX0 (k + 1) f fd ["row"] (spIsMeet K) := by
  refine D.F.ok scIsMeet (fun vs H Q E h => ?_) (fun cdv A outer s H vs Q E hr h => ?_)
  · obtain ⟨v, r, rfl, _⟩ := h
    rfl
  · obtain ⟨v, r, rfl, ⟨p, xs, rfl, h1, h2⟩, q⟩ := h
    refine ⟨_, pss_one (ps_ret (pe_cmpR op_eq (pe_ix ix_tup (pv 0) pe_int (fun _ _ => rfl)) pe_str (nomark _))), ?_⟩
    refine ⟨.ref p, rfl, p, _, _, _, rfl, rfl, h1, atI_nat (j := 0) rfl, rfl, ?_⟩
    show Q (.bl (decide (V.str r.w = V.str "meet"))) H
    rw [isM_dec]
    exact q
theorem ok_summed {f : Addr} {fd : FuncData} {k : Nat} (D : Df K mg "summed" sSummed oo f fd) : FnOk P w K mg base CX0 (k + 1) f fd oo (spOp .sum) := by
  refine D.F.ok scSummed (fun vs H Q E h => ?_) (fun cdv A outer s H vs Q E hr h => ?_)
  · obtain ⟨x, y, rfl, _⟩ := h
    rfl
  · obtain ⟨x, y, rfl, _, _, q⟩ := h
    exact ⟨_, pss_one (ps_ret (pe_op op_add (pv 0) (pv 1))), _, rfl, _, rfl, _, _, rfl, rfl, q⟩
theorem ok_lessened {f : Addr} {fd : FuncData} {k : Nat} (D : Df K mg "lessened" sLessened oo f fd) : FnOk P w K mg base CX0 (k + 1) f fd oo (spOp .less) := by
  refine D.F.ok scLessened (fun vs H Q E h => ?_) (fun cdv A outer s H vs Q E hr h => ?_)
  · obtain ⟨x, y, rfl, _⟩ := h
    rfl
  · obtain ⟨x, y, rfl, _, _, q⟩ := h
    exact ⟨_, pss_one (ps_ret (pe_op op_sub (pv 0) (pv 1))), _, rfl, _, rfl, _, _, rfl, rfl, q⟩
theorem ok_product {f : Addr} {fd : FuncData} {k : Nat} (D : Df K mg "product" sProduct oo f fd) : FnOk P w K mg base CX0 (k + 1) f fd oo (spOp .times) := by
  refine D.F.ok scProduct (fun vs H Q E h => ?_) (fun cdv A outer s H vs Q E hr h => ?_)
  · obtain ⟨x, y, rfl, _⟩ := h
    rfl
  · obtain ⟨x, y, rfl, hx, hy, q⟩ := h
    exact ⟨_, pss_one (ps_ret (pe_op op_mulW (pv 0) (pv 1))), _, rfl, _, rfl, _, _, rfl, rfl, wide_mul (bd_abs hx) (bd_abs hy) (by decide) (by decide) (by decide), q⟩
theorem ok_tsame {f : Addr} {fd : FuncData} {k : Nat} (D : Df K mg "tested_same" sTSame oo f fd) : FnOk P w K mg base CX0 (k + 1) f fd oo (spOp .same) := by
  refine D.F.ok scTSame (fun vs H Q E h => ?_) (fun cdv A outer s H vs Q E hr h => ?_)
  · obtain ⟨x, y, rfl, _⟩ := h
    rfl
  · obtain ⟨x, y, rfl, _, _, q⟩ := h
    refine ⟨_, pss_one (ps_ret (pe_ifExp (pt_cmpR op_eq (pv 0) (pv 1) (nomark _)) pe_int pe_int)), _, rfl, _, rfl, rfl, _, rfl, ite2 (fun e => ?_) (fun e => ?_)⟩
    · have e1 : x = y := V.int.inj (of_decide_eq_true e)
      have : Bk.same.op x y = 1 := if_pos e1
      rw [this] at q
      exact q
    · have e1 : ¬ x = y := fun z => e (decide_eq_true (by rw [z]))
      have : Bk.same.op x y = 0 := if_neg e1
      rw [this] at q
      exact q
theorem ok_tbelow {f : Addr} {fd : FuncData} {k : Nat} (D : Df K mg "tested_below" sTBelow oo f fd) : FnOk P w K mg base CX0 (k + 1) f fd oo (spOp .below) := by
  refine D.F.ok scTBelow (fun vs H Q E h => ?_) (fun cdv A outer s H vs Q E hr h => ?_)
  · obtain ⟨x, y, rfl, _⟩ := h
    rfl
  · obtain ⟨x, y, rfl, _, _, q⟩ := h
    refine ⟨_, pss_one (ps_ret (pe_ifExp (pt_cmpR op_lt (pv 0) (pv 1) (nomark _)) pe_int pe_int)), _, rfl, _, rfl, _, _, rfl, rfl, _, rfl, ite2 (fun e => ?_) (fun e => ?_)⟩
    · have e1 : x < y := of_decide_eq_true e
      have : Bk.below.op x y = 1 := if_pos e1
      rw [this] at q
      exact q
    · have e1 : ¬ x < y := fun z => e (decide_eq_true z)
      have : Bk.below.op x y = 0 := if_neg e1
      rw [this] at q
      exact q
theorem ok_picked {f : Addr} {fd : FuncData} {k : Nat} (D : Df K mg "picked" sPicked ["things", "number"] f fd) (B : Bi mg) : FnOk P w K mg base CX0 (k + 1) f fd ["things", "number"] (spPicked K) := by
  refine D.F.ok scPicked (fun vs H Q E h => ?_) (fun cdv A outer s H vs Q E hr h => ?_)
  · obtain ⟨a, ps, n, rfl, _⟩ := h
    rfl
  · obtain ⟨a, ps, n, rfl, ha, hne, hl, q⟩ := h
    refine ⟨_, pss_one (ps_ret (pe_ix ix_tup (pv 0) (pe_op op_mod (pv 1) (pe_callB call_len_seq (by rfl) B.len PySem.boot_len (pa_cons (pv 0) pa_nil))) (fun _ _ => rfl))), ?_⟩
    have hli : ((ps.map iv).length : Int) = (ps.length : Int) := by rw [List.length_map]
    have hp0 : 0 < ps.length := List.length_pos_iff.mpr hne
    have h1 : 0 ≤ n % (ps.length : Int) := Int.emod_nonneg _ (by omega)
    have h2 : n % (ps.length : Int) < (ps.length : Int) := Int.emod_lt_of_pos _ (by omega)
    have h3 : (n % (ps.length : Int)).toNat < ps.length := by omega
    refine ⟨.ref a, rfl, _, rfl, .ref a, rfl, a, _, rfl, .inr ha, _, _, rfl, rfl, by rw [hli]; omega, a, _, _, iv (pk ps n), rfl, rfl, ha, ?_, q⟩
    rw [hli]
    have : n % (ps.length : Int) = ((n % (ps.length : Int)).toNat : Int) := (Int.toNat_of_nonneg h1).symm
    rw [this]
    refine atI_nat ?_
    unfold pk
    rw [List.getElem?_map, List.getD_eq_getElem?_getD, List.getElem?_eq_getElem h3]
    rfl
theorem ok_great {f : Addr} {fd : FuncData} {tg : Tok} {k : Nat} (D : Df K mg "is_too_great" sGreat ["worth"] f fd) (hG : mg "GREATEST" = some (.int GT40 tg)) : FnOk P w K mg base CX0 (k + 1) f fd ["worth"] spGreat := by
  refine D.F.ok scGreat (fun vs H Q E h => ?_) (fun cdv A outer s H vs Q E hr h => ?_)
  · obtain ⟨w, rfl, _⟩ := h
    rfl
  · obtain ⟨w, rfl, q⟩ := h
    refine ⟨_, pss_one (ps_ret (pe_and (pe_cmpR op_notN (pv 0) pe_non (nomark _)) (pe_one (pe_not (pe_chain op_le op_le (pe_un un_neg (pe_glob (v := .int GT40) (by rfl) hG ⟨_, rfl⟩)) (pv 0) (pe_glob (v := .int GT40) (by rfl) hG ⟨_, rfl⟩)))))), ?_⟩
    cases w with
    | none => exact ⟨_, rfl, rfl, _, rfl, q⟩
    | some w =>
      refine ⟨_, rfl, rfl, _, rfl, ?_⟩
      refine ⟨_, rfl, _, rfl, _, _, rfl, rfl, _, rfl, ite2 (fun e => ?_) (fun e => ?_)⟩
      · have e1 : -GT40 ≤ w := of_decide_eq_true e
        refine ⟨_, _, rfl, rfl, _, rfl, ?_⟩
        have q1 : Q (.bl (!(decide (-GT40 ≤ w) && decide (w ≤ GT40)))) H := q
        rw [decide_eq_true e1, Bool.true_and] at q1
        exact q1
      · have e1 : ¬ -GT40 ≤ w := fun z => e (decide_eq_true z)
        have q1 : Q (.bl (!(decide (-GT40 ≤ w) && decide (w ≤ GT40)))) H := q
        rw [decide_eq_false e1, Bool.false_and] at q1
        exact ⟨_, rfl, q1⟩
end
end Gn
set_option Elab.async false
set_option linter.all false
set_option maxRecDepth 100000
set_option maxHeartbeats 4000000
namespace Gn
open PySem PySem.Spec PyProof.Rows L2
/-! ### the machine in memory -/
structure MAd where
  pv : V
  tk : Addr
  most : Nat
  ld : Addr
  bg : Addr
  la : Addr
  ro : Addr
  wy : Addr
  te : Addr
  dn : Addr
  dx : Addr
def mf (A : MAd) (n : Nat) : List (Str × V) := [("program", A.pv), ("takes", .ref A.tk), ("most", .int A.most), ("leads", .ref A.ld), ("begins", .ref A.bg), ("steps", .int n), ("lasts", .ref A.la), ("rooms", .ref A.ro), ("way", .ref A.wy), ("told", .ref A.te), ("done", .ref A.dn)]
section
variable (A : MAd) (n : Nat)
theorem mf_program : (mf A n).lookup ("program" : Str) = some A.pv := rfl
theorem mf_takes : (mf A n).lookup ("takes" : Str) = some (.ref A.tk) := rfl
theorem mf_most : (mf A n).lookup ("most" : Str) = some (.int A.most) := rfl
theorem mf_leads : (mf A n).lookup ("leads" : Str) = some (.ref A.ld) := rfl
theorem mf_begins : (mf A n).lookup ("begins" : Str) = some (.ref A.bg) := rfl
theorem mf_steps : (mf A n).lookup ("steps" : Str) = some (.int n) := rfl
theorem mf_lasts : (mf A n).lookup ("lasts" : Str) = some (.ref A.la) := rfl
theorem mf_rooms : (mf A n).lookup ("rooms" : Str) = some (.ref A.ro) := rfl
theorem mf_way : (mf A n).lookup ("way" : Str) = some (.ref A.wy) := rfl
theorem mf_told : (mf A n).lookup ("told" : Str) = some (.ref A.te) := rfl
theorem mf_done : (mf A n).lookup ("done" : Str) = some (.ref A.dn) := rfl
theorem mf_put (k : Nat) : putF "steps" (.int k) (mf A n) = mf A k := rfl
end
structure MTxt (K : PySem.W.Frag) (mg : Str → Option Value) (C : Addr) : Prop where
  cl : L2.Cls K C
  program : NoAttr K C "program"
  takes : NoAttr K C "takes"
  most : NoAttr K C "most"
  leads : NoAttr K C "leads"
  begins : NoAttr K C "begins"
  steps : NoAttr K C "steps"
  lasts : NoAttr K C "lasts"
  rooms : NoAttr K C "rooms"
  way : NoAttr K C "way"
  told : NoAttr K C "told"
  done : NoAttr K C "done"
  mgC : mg "Machine" = some (.ref C)
def DnAt (K : PySem.W.Frag) (H : Hp) (v : V) (d : Nat × Option Int) : Prop := ∃ q, v = .ref q ∧ SqT K H q [iv d.1, wv d.2]
structure MAt (K : PySem.W.Frag) (C : Addr) (I H : Hp) (p : Addr) (A : MAd) (n : Nat) (s : MSt) : Prop where
  sI : Same I H
  nw : ∀ a ∈ [p, A.la, A.ro, A.wy, A.te, A.dn], I a = none
  nd : [p, A.la, A.ro, A.wy, A.te, A.dn].Nodup
  ob : H p = some (.ins C A.dx (mf A n))
  la : H A.la = some (.lst (s.lasts.map V.int))
  ro : H A.ro = some (.lst (s.rooms.map V.int))
  wy : H A.wy = some (.lst (s.way.map iv))
  te : H A.te = some (.lst (s.told.map V.int))
  dn : ∃ ds, H A.dn = some (.lst ds) ∧ Paired (DnAt K H) ds s.done
variable {K : PySem.W.Frag} {C : Addr} {I H H' : Hp} {p : Addr} {A : MAd} {n : Nat} {s : MSt}
theorem tup_any {a b : Addr} {xs : List V} {o o' : HO} (h : SqT K H a xs) (e : H b = some o) (h1 : ∀ ys, o ≠ .tup ys) (h2 : ∀ u ys, o ≠ .frz u (.tup ys)) : SqT K (upd H b o') a xs := by
  rcases h with (h | ⟨u, h⟩) | h
  · exact .inl (.inl (by rw [upd_ne (fun z => by rw [z, e] at h; exact h1 _ (Option.some.inj h))]; exact h))
  · exact .inl (.inr ⟨u, by rw [upd_ne (fun z => by rw [z, e] at h; exact h2 _ _ (Option.some.inj h))]; exact h⟩)
  · exact .inr h
theorem dn_upd {b : Addr} {o o' : HO} {ds : List V} {xs : List (Nat × Option Int)} (h : Paired (DnAt K H) ds xs) (e : H b = some o) (h1 : ∀ ys, o ≠ .tup ys) (h2 : ∀ u ys, o ≠ .frz u (.tup ys)) : Paired (DnAt K (upd H b o')) ds xs :=
  pd_mono h fun _ _ ⟨q, z1, z2⟩ => ⟨q, z1, tup_any z2 e h1 h2⟩
theorem MAt.same (h : MAt K C I H p A n s) (e : Same H H') : MAt K C I H' p A n s := by
  obtain ⟨ds, d1, d2⟩ := h.dn
  exact ⟨h.sI.trans e, h.nw, h.nd, e _ _ h.ob, e _ _ h.la, e _ _ h.ro, e _ _ h.wy, e _ _ h.te, ds, e _ _ d1, pd_mono d2 fun _ _ ⟨q, z1, z2⟩ => ⟨q, z1, Same.tup e z2⟩⟩
theorem MAt.ne (h : MAt K C I H p A n s) : (p ≠ A.la ∧ p ≠ A.ro ∧ p ≠ A.wy ∧ p ≠ A.te ∧ p ≠ A.dn) ∧ (A.la ≠ A.ro ∧ A.la ≠ A.wy ∧ A.la ≠ A.te ∧ A.la ≠ A.dn) ∧ (A.ro ≠ A.wy ∧ A.ro ≠ A.te ∧ A.ro ≠ A.dn) ∧ (A.wy ≠ A.te ∧ A.wy ≠ A.dn) ∧ A.te ≠ A.dn := by
  have := h.nd
  simp only [List.nodup_cons, List.mem_cons, List.not_mem_nil, or_false, not_or, List.nodup_nil, and_true, not_false_eq_true] at this
  exact this
theorem MAt.setLa (h : MAt K C I H p A n s) (xs : List Int) : MAt K C I (upd H A.la (.lst (xs.map V.int))) p A n { s with lasts := xs } := by
  obtain ⟨⟨a1, a2, a3, a4, a5⟩, ⟨b1, b2, b3, b4⟩, ⟨c1, c2, c3⟩, ⟨d1, d2⟩, e1⟩ := h.ne
  obtain ⟨ds, x1, x2⟩ := h.dn
  exact ⟨Same.upd h.sI (h.nw _ (by simp)), h.nw, h.nd, by rw [upd_ne a1]; exact h.ob, upd_same, by rw [upd_ne b1.symm]; exact h.ro, by rw [upd_ne b2.symm]; exact h.wy, by rw [upd_ne b3.symm]; exact h.te, ds, by rw [upd_ne b4.symm]; exact x1, dn_upd x2 h.la (fun _ z => by cases z) (fun _ _ z => by cases z)⟩
theorem MAt.setRo (h : MAt K C I H p A n s) (xs : List Int) : MAt K C I (upd H A.ro (.lst (xs.map V.int))) p A n { s with rooms := xs } := by
  obtain ⟨⟨a1, a2, a3, a4, a5⟩, ⟨b1, b2, b3, b4⟩, ⟨c1, c2, c3⟩, ⟨d1, d2⟩, e1⟩ := h.ne
  obtain ⟨ds, x1, x2⟩ := h.dn
  exact ⟨Same.upd h.sI (h.nw _ (by simp)), h.nw, h.nd, by rw [upd_ne a2]; exact h.ob, by rw [upd_ne b1]; exact h.la, upd_same, by rw [upd_ne c1.symm]; exact h.wy, by rw [upd_ne c2.symm]; exact h.te, ds, by rw [upd_ne c3.symm]; exact x1, dn_upd x2 h.ro (fun _ z => by cases z) (fun _ _ z => by cases z)⟩
theorem MAt.setWy (h : MAt K C I H p A n s) (xs : List Nat) : MAt K C I (upd H A.wy (.lst (xs.map iv))) p A n { s with way := xs } := by
  obtain ⟨⟨a1, a2, a3, a4, a5⟩, ⟨b1, b2, b3, b4⟩, ⟨c1, c2, c3⟩, ⟨d1, d2⟩, e1⟩ := h.ne
  obtain ⟨ds, x1, x2⟩ := h.dn
  exact ⟨Same.upd h.sI (h.nw _ (by simp)), h.nw, h.nd, by rw [upd_ne a3]; exact h.ob, by rw [upd_ne b2]; exact h.la, by rw [upd_ne c1]; exact h.ro, upd_same, by rw [upd_ne d1.symm]; exact h.te, ds, by rw [upd_ne d2.symm]; exact x1, dn_upd x2 h.wy (fun _ z => by cases z) (fun _ _ z => by cases z)⟩
theorem MAt.setTe (h : MAt K C I H p A n s) (xs : List Int) : MAt K C I (upd H A.te (.lst (xs.map V.int))) p A n { s with told := xs } := by
  obtain ⟨⟨a1, a2, a3, a4, a5⟩, ⟨b1, b2, b3, b4⟩, ⟨c1, c2, c3⟩, ⟨d1, d2⟩, e1⟩ := h.ne
  obtain ⟨ds, x1, x2⟩ := h.dn
  exact ⟨Same.upd h.sI (h.nw _ (by simp)), h.nw, h.nd, by rw [upd_ne a4]; exact h.ob, by rw [upd_ne b3]; exact h.la, by rw [upd_ne c2]; exact h.ro, by rw [upd_ne d1]; exact h.wy, upd_same, ds, by rw [upd_ne e1.symm]; exact x1, dn_upd x2 h.te (fun _ z => by cases z) (fun _ _ z => by cases z)⟩
theorem MAt.setN (h : MAt K C I H p A n s) (k : Nat) : MAt K C I (upd H p (.ins C A.dx (mf A k))) p A k s := by
  obtain ⟨⟨a1, a2, a3, a4, a5⟩, ⟨b1, b2, b3, b4⟩, ⟨c1, c2, c3⟩, ⟨d1, d2⟩, e1⟩ := h.ne
  obtain ⟨ds, x1, x2⟩ := h.dn
  exact ⟨Same.upd h.sI (h.nw _ (by simp)), h.nw, h.nd, upd_same, by rw [upd_ne a1.symm]; exact h.la, by rw [upd_ne a2.symm]; exact h.ro, by rw [upd_ne a3.symm]; exact h.wy, by rw [upd_ne a4.symm]; exact h.te, ds, by rw [upd_ne a5.symm]; exact x1, dn_upd x2 h.ob (fun _ z => by cases z) (fun _ _ z => by cases z)⟩
/-- done.append((k, w)): T the new tuple -/
theorem MAt.app (h : MAt K C I H p A n s) {T : Addr} {ds : List V} {k : Nat} {w : Option Int} (nT : H T = none) (e : H A.dn = some (.lst ds)) : MAt K C I (upd (upd H T (.tup [iv k, wv w])) A.dn (.lst (ds ++ [.ref T]))) p A n { s with done := s.done ++ [(k, w)] } := by
  have h' := h.same (new_same (o := .tup [iv k, wv w]) nT)
  have e' := (new_same (o := .tup [iv k, wv w]) nT) _ _ e
  obtain ⟨⟨a1, a2, a3, a4, a5⟩, ⟨b1, b2, b3, b4⟩, ⟨c1, c2, c3⟩, ⟨d1, d2⟩, e1⟩ := h.ne
  obtain ⟨ds', x1, x2⟩ := h'.dn
  rw [e'] at x1
  cases x1
  have eT : SqT K (upd H T (.tup [iv k, wv w])) T [iv k, wv w] := sqT upd_same
  exact ⟨Same.upd h'.sI (h.nw _ (by simp)), h.nw, h.nd, by rw [upd_ne a5]; exact h'.ob, by rw [upd_ne b4]; exact h'.la, by rw [upd_ne c3]; exact h'.ro, by rw [upd_ne d2]; exact h'.wy, by rw [upd_ne e1]; exact h'.te, _, upd_same, pd_snoc (dn_upd x2 e' (fun _ z => by cases z) (fun _ _ z => by cases z)) ⟨T, rfl, tup_any eT e' (fun _ z => by cases z) (fun _ _ z => by cases z)⟩⟩
/-- what stands still while a machine runs -/
structure EnvOk (K : PySem.W.Frag) (I : Hp) (A : MAd) (pr : List Blk) (tk : List Int) : Prop where
  prog : ProgAt K I A.pv pr
  tks : SqL K I A.tk (tk.map V.int)
  tl : tk.length = 6
  tb : ∀ x ∈ tk, -GT40 ≤ x ∧ x ≤ GT40
  leads : NL K I A.ld ((List.range pr.length).map (spec pr pr.length))
  begins : SqL K I A.bg ((List.range (pr.length + 1)).map fun b => iv (bgn pr b))
  l1 : 1 ≤ pr.length
  l2 : pr.length ≤ 12
  px : PrX pr.length pr
  nx : NxOk pr.length (pr.map fun b => b.2.names)
  rl : ∀ b ∈ pr, b.1.length ≤ 130
/-- the table of rows of two rows -/
structure OfTwo (P : Program) (w : World) (K : PySem.W.Frag) (mg : Str → Option Value) (base : Heap) (k : Nat) (fs : Bk → Addr) (d : Addr) (es : Array DictEntry) (nE : Nat) : Prop where
  kd : KDict K w d es nE
  mgD : mg "OF_TWO_ROWS" = some (.ref d)
  at_ : ∀ b : Bk, PySem.W.nsIn K d b.w = some (some (.ref (fs b)))
  tell : PySem.W.nsIn K d "tell" = some none
  lay : PySem.W.nsIn K d "lay" = some none
  fn : ∀ b, FnR P w K mg base CX0 k (fs b) (spOp b)
  kp : ∀ b, PySem.W.keepIn K (.ref (fs b)) = true
theorem pe_callF {P : Program} {w : World} {X : Cx} {fs : Bk → Addr} {x : Str} {i k : Nat} {e : Expr} {es : List Expr} {t : TA} {q pos : Pos} {E : XK} (F : ∀ b, FnR X.prog X.w X.K X.mg X.base CX0 k (fs b) (spOp b)) (hr : Room k X.A) (hk : ∀ b, PySem.W.keepIn X.K (.ref (fs b)) = true) (hx : Passes CX0 X E) (hN : X.N[i]? = some x) (hv : Vis X.env.scope x) (ha : PA X (e :: es) t)
    (hd : (x == ("__debug__" : Str)) = false := by decide) (hcd : (x == ("__classdict__" : Str)) = false := by decide)
    (he : starEach (e :: es) X.env = (false, eval e X.env) :: starEach es X.env := by rfl) (hpl : (backTo pos (starEach es X.env)).any (·.1) = false := by rfl) : PE X (.Call (.Name x q) (e :: es) [] pos) (fun σ H Q => ∃ b : Bk, ItX.tCallV i (fs b) (spOp b) E t σ H Q) :=
  ⟨fun pins s σ H Q I ⟨b, h⟩ => (ItX.pe_callV (F b) hr (hk b) hx hN hv ha hd hcd he hpl).run pins s σ H Q I h⟩
theorem iteS_ne {a b : Str} {X Y : Prop} (h : ¬ a = b) (q : Y) : if decide (V.str a = V.str b) = true then X else Y := by
  rw [if_neg (fun z => h (V.str.inj (of_decide_eq_true z)))]
  exact q
theorem iteS_eq {a : Str} {X Y : Prop} (q : X) : if decide (V.str a = V.str a) = true then X else Y := by
  rw [if_pos (decide_eq_true rfl)]
  exact q
end Gn
set_option Elab.async false
set_option linter.all false
set_option maxRecDepth 100000
set_option maxHeartbeats 8000000
namespace Gn
open PySem PySem.Spec PyProof.Rows L2
/-! ### worth_of -/
def spWorthOf (K : PySem.W.Frag) (C : Addr) : Sp := fun vs H Q _ => ∃ (I : Hp) (p : Addr) (A : MAd) (n : Nat) (s : MSt) (pr : List Blk) (tk : List Int) (v : V) (r : Rw) (N k : Nat), vs = [.ref p, v] ∧ MAt K C I H p A n s ∧ EnvOk K I A pr tk ∧ StOk s N k ∧ RowAt K H v r ∧ RwB N r ∧ r.isM = false ∧ Q (wv (wOf tk s r)) H
abbrev nWorthOf : List Str := ["self", "row", "word", "reckon"]
theorem scWorthOf : FnScope nWorthOf ["self", "row"] (defScope sWorthOf) := ⟨rfl, rfl, rfl, by decide +kernel, rfl, by decide +kernel, by decide +kernel⟩
theorem bw_ne (b : Bk) : (¬ b.w = "take") ∧ (¬ b.w = "num") ∧ (¬ b.w = "pick") ∧ ¬ b.w = "look" := by
  cases b <;> exact ⟨by decide +kernel, by decide +kernel, by decide +kernel, by decide +kernel⟩
section
variable {P : Program} {w : World} {K : PySem.W.Frag} {mg : Str → Option Value} {base : Heap}
theorem ok_worthOf {f C fP d : Addr} {fd fdP : FuncData} {es : Array DictEntry} {nE k : Nat} {fs : Bk → Addr} (F : Fun K "worth_of" "Machine.worth_of" sWorthOf f fd) (T : MTxt K mg C) (O : OfTwo P w K mg base k fs d es nE)
    (DP : Df K mg "picked" sPicked ["things", "number"] fP fdP) (GP : FnOk P w K mg base CX0 k fP fdP ["things", "number"] (spPicked K)) : FnOk P w K mg base CX0 (k + 1) f fd ["self", "row"] (spWorthOf K C) := by
  refine F.ok scWorthOf (fun vs H Q E h => ?_) (fun cdv A outer s H vs Q E hr h => ?_)
  · obtain ⟨I, p, A, n, s, pr, tk, v, r, N, k, rfl, _⟩ := h
    rfl
  · obtain ⟨I, p, A, n, st, pr, tk, v, r, N, kk, rfl, hM, hE, hS, hR, hB, hm, q⟩ := h
    refine ⟨_, pss_cons (ps_set (i := 2) scWorthOf.nd rfl (.inl rfl) (pe_ix ix_tup (pv 1) pe_int (fun _ _ => rfl)))
      (pss_cons (ps_if (pt_cmpR op_eq (pv 2) pe_str (nomark _)) (pss_one (ps_ret (pe_ix ix_list (pe_fld (pv 0) rfl) (pe_ix ix_tup (pv 1) pe_int (fun _ _ => rfl)) (fun _ _ => rfl)))) pss_nil)
      (pss_cons (ps_if (pt_cmpR op_eq (pv 2) pe_str (nomark _)) (pss_one (ps_ret (pe_ix ix_tup (pv 1) pe_int (fun _ _ => rfl)))) pss_nil)
      (pss_cons (ps_if (pt_cmpR op_eq (pv 2) pe_str (nomark _)) (pss_one (ps_ret (pe_ix ix_list (pe_fld (pv 0) rfl) (pe_call GP hr (by rfl) DP.g DP.F.kp DP.b .nil pass0 (pa_cons (pe_ix ix_tup (pv 1) pe_int (fun _ _ => rfl)) (pa_cons (pe_ix ix_list (pe_fld (pv 0) rfl) (pe_ix ix_tup (pv 1) pe_int (fun _ _ => rfl)) (fun _ _ => rfl)) pa_nil))) (fun _ _ => rfl)))) pss_nil)
      (pss_cons (ps_if (pt_cmpR op_eq (pv 2) pe_str (nomark _)) (pss_one (ps_ret (pe_ix ix_list (pe_fld (pv 0) rfl) (pe_call GP hr (by rfl) DP.g DP.F.kp DP.b .nil pass0 (pa_cons (pe_ix ix_tup (pv 1) pe_int (fun _ _ => rfl)) (pa_cons (pe_ix ix_list (pe_fld (pv 0) rfl) (pe_ix ix_tup (pv 1) pe_int (fun _ _ => rfl)) (fun _ _ => rfl)) pa_nil))) (fun _ _ => rfl)))) pss_nil)
      (pss_cons (ps_if (pt_cmpR (op_in_kd O.kd) (pv 2) (pe_glob (v := .ref d) (by rfl) O.mgD rfl) rfl)
        (pss_cons (ps_set (i := 3) scWorthOf.nd rfl (.inl rfl) (pe_ix ix_kdict (pe_glob (v := .ref d) (by rfl) O.mgD rfl) (pv 2) (fun _ _ => rfl)))
        (pss_one (ps_ret (pe_callF (i := 3) (x := "reckon") (P := P) (w := w) O.fn hr O.kp pass0 rfl (.inl rfl) (pa_cons (pe_ix ix_list (pe_fld (pv 0) rfl) (pe_ix ix_tup (pv 1) pe_int (fun _ _ => rfl)) (fun _ _ => rfl)) (pa_cons (pe_ix ix_list (pe_fld (pv 0) rfl) (pe_ix ix_tup (pv 1) pe_int (fun _ _ => rfl)) (fun _ _ => rfl)) pa_nil)))))) pss_nil)
      (pss_one (ps_ret pe_non))))))), ?_⟩
    obtain ⟨a, xs, rfl, ha, hx⟩ := hR
    refine ⟨.ref a, rfl, a, _, _, _, rfl, rfl, ha, atI_nat (j := 0) rfl, ?_⟩
    have lsAt : ∀ x, x < N → (st.lasts.map V.int)[x]? = some (.int (LI st.lasts x)) := fun x hx => LI_at (by rw [hS.ll]; exact hx)
    cases r with
    | take i =>
      have hxs : xs = [iv i] := hx
      subst hxs
      have hi : i < tk.length := by rw [hE.tl]; exact Nat.lt_succ_of_le hB
      refine ⟨_, rfl, rfl, _, rfl, iteS_eq ?_⟩
      exact ⟨.ref p, rfl, p, C, A.dx, _, _, rfl, hM.ob, T.cl, T.takes, mf_takes _ _, .ref a, rfl, a, _, _, _, rfl, rfl, ha, atI_nat (j := 1) rfl, A.tk, _, _, _, rfl, rfl, hM.sI.seq hE.tks, atI_nat (LI_at hi), q⟩
    | num z =>
      have hxs : xs = [.int z] := hx
      subst hxs
      refine ⟨_, rfl, rfl, _, rfl, iteS_ne (show ¬ (("num" : Str) = "take") by decide +kernel) ?_⟩
      refine ⟨_, rfl, rfl, _, rfl, iteS_eq ?_⟩
      exact ⟨.ref a, rfl, a, _, _, _, rfl, rfl, ha, atI_nat (j := 1) rfl, q⟩
    | pick x ps =>
      obtain ⟨qa, rfl, hqa⟩ := hx
      obtain ⟨hxN, hps, hpl, hpn⟩ := hB
      have hpk := pk_lt (n := LI st.lasts x) hpn hps
      refine ⟨_, rfl, rfl, _, rfl, iteS_ne (show ¬ (("pick" : Str) = "take") by decide +kernel) ?_⟩
      refine ⟨_, rfl, rfl, _, rfl, iteS_ne (show ¬ (("pick" : Str) = "num") by decide +kernel) ?_⟩
      refine ⟨_, rfl, rfl, _, rfl, iteS_eq ?_⟩
      refine ⟨.ref p, rfl, p, C, A.dx, _, _, rfl, hM.ob, T.cl, T.lasts, mf_lasts _ _, .ref a, rfl, a, _, _, _, rfl, rfl, ha, atI_nat (j := 2) rfl, ?_⟩
      refine ⟨.ref p, rfl, p, C, A.dx, _, _, rfl, hM.ob, T.cl, T.lasts, mf_lasts _ _, .ref a, rfl, a, _, _, _, rfl, rfl, ha, atI_nat (j := 1) rfl, A.la, _, _, _, rfl, rfl, sqL hM.la, atI_nat (lsAt x hxN), ?_⟩
      exact ⟨qa, ps, _, rfl, hqa, hpn, by omega, A.la, _, _, _, rfl, rfl, sqL hM.la, atI_nat (lsAt _ hpk.1), q⟩
    | look rs x =>
      obtain ⟨qa, rfl, hqa⟩ := hx
      obtain ⟨hxN, hr1, hr2, hr3⟩ := hB
      have hpk := pk_lt (n := LI st.lasts x) hr2 hr3
      refine ⟨_, rfl, rfl, _, rfl, iteS_ne (show ¬ (("look" : Str) = "take") by decide +kernel) ?_⟩
      refine ⟨_, rfl, rfl, _, rfl, iteS_ne (show ¬ (("look" : Str) = "num") by decide +kernel) ?_⟩
      refine ⟨_, rfl, rfl, _, rfl, iteS_ne (show ¬ (("look" : Str) = "pick") by decide +kernel) ?_⟩
      refine ⟨_, rfl, rfl, _, rfl, iteS_eq ?_⟩
      refine ⟨.ref p, rfl, p, C, A.dx, _, _, rfl, hM.ob, T.cl, T.rooms, mf_rooms _ _, .ref a, rfl, a, _, _, _, rfl, rfl, ha, atI_nat (j := 1) rfl, ?_⟩
      refine ⟨.ref p, rfl, p, C, A.dx, _, _, rfl, hM.ob, T.cl, T.lasts, mf_lasts _ _, .ref a, rfl, a, _, _, _, rfl, rfl, ha, atI_nat (j := 2) rfl, A.la, _, _, _, rfl, rfl, sqL hM.la, atI_nat (lsAt x hxN), ?_⟩
      exact ⟨qa, rs, _, rfl, hqa, hr2, by omega, A.ro, _, _, _, rfl, rfl, sqL hM.ro, atI_nat (LI_at (by rw [hS.lr]; exact hpk.1)), q⟩
    | bin b x y =>
      have hxs : xs = [iv x, iv y] := hx
      subst hxs
      obtain ⟨n1, n2, n3, n4⟩ := bw_ne b
      refine ⟨_, rfl, rfl, _, rfl, iteS_ne n1 ?_⟩
      refine ⟨_, rfl, rfl, _, rfl, iteS_ne n2 ?_⟩
      refine ⟨_, rfl, rfl, _, rfl, iteS_ne n3 ?_⟩
      refine ⟨_, rfl, rfl, _, rfl, iteS_ne n4 ?_⟩
      refine ⟨_, rfl, b.w, _, rfl, rfl, O.at_ b, _, rfl, ?_⟩
      refine ⟨_, rfl, d, b.w, .ref (fs b), rfl, rfl, ⟨es, nE, _, O.kd.at_, O.kd.lit, O.at_ b, rfl⟩, ?_⟩
      refine ⟨b, rfl, ?_⟩
      refine ⟨.ref p, rfl, p, C, A.dx, _, _, rfl, hM.ob, T.cl, T.lasts, mf_lasts _ _, .ref a, rfl, a, _, _, _, rfl, rfl, ha, atI_nat (j := 1) rfl, A.la, _, _, _, rfl, rfl, sqL hM.la, atI_nat (lsAt x hB.1), ?_⟩
      refine ⟨.ref p, rfl, p, C, A.dx, _, _, rfl, hM.ob, T.cl, T.lasts, mf_lasts _ _, .ref a, rfl, a, _, _, _, rfl, rfl, ha, atI_nat (j := 2) rfl, A.la, _, _, _, rfl, rfl, sqL hM.la, atI_nat (lsAt y hB.2), ?_⟩
      exact ⟨_, _, rfl, LI_bd hS.bd.1, LI_bd hS.bd.1, q⟩
    | meet ps => cases hm
    | tell x =>
      refine ⟨_, rfl, rfl, _, rfl, iteS_ne (show ¬ (("tell" : Str) = "take") by decide +kernel) ?_⟩
      refine ⟨_, rfl, rfl, _, rfl, iteS_ne (show ¬ (("tell" : Str) = "num") by decide +kernel) ?_⟩
      refine ⟨_, rfl, rfl, _, rfl, iteS_ne (show ¬ (("tell" : Str) = "pick") by decide +kernel) ?_⟩
      refine ⟨_, rfl, rfl, _, rfl, iteS_ne (show ¬ (("tell" : Str) = "look") by decide +kernel) ?_⟩
      exact ⟨_, rfl, "tell", none, rfl, rfl, O.tell, _, rfl, q⟩
    | lay rs x y =>
      refine ⟨_, rfl, rfl, _, rfl, iteS_ne (show ¬ (("lay" : Str) = "take") by decide +kernel) ?_⟩
      refine ⟨_, rfl, rfl, _, rfl, iteS_ne (show ¬ (("lay" : Str) = "num") by decide +kernel) ?_⟩
      refine ⟨_, rfl, rfl, _, rfl, iteS_ne (show ¬ (("lay" : Str) = "pick") by decide +kernel) ?_⟩
      refine ⟨_, rfl, rfl, _, rfl, iteS_ne (show ¬ (("lay" : Str) = "look") by decide +kernel) ?_⟩
      exact ⟨_, rfl, "lay", none, rfl, rfl, O.lay, _, rfl, q⟩
end
end Gn
set_option Elab.async false
set_option linter.all false
set_option maxRecDepth 100000
set_option maxHeartbeats 8000000
namespace Gn
open PySem PySem.Spec PyProof.Rows L2
/-! ### do_row -/
def wOk (w : Option Int) : Rw → Prop
  | .lay _ _ _ => True
  | .tell _ => True
  | _ => ∃ i, w = some i
def doA (k : Nat) (r : Rw) (w : Option Int) (s : MSt) : MSt :=
  match r with
  | .lay rs x y => { s with rooms := s.rooms.set (pk rs (LI s.lasts x)) (LI s.lasts y) }
  | .tell x => { s with told := s.told ++ [LI s.lasts x] }
  | _ => { s with lasts := s.lasts.set k (w.getD 0) }
theorem doR_eq (k : Nat) (r : Rw) (w : Option Int) (s : MSt) : doR k r w s = { doA k r w s with done := (doA k r w s).done ++ [(k, w)] } := by cases r <;> rfl
theorem doA_done (k : Nat) (r : Rw) (w : Option Int) (s : MSt) : (doA k r w s).done = s.done := by cases r <;> rfl
def spDoRow (K : PySem.W.Frag) (C : Addr) : Sp := fun vs H Q _ => ∃ (I : Hp) (p : Addr) (A : MAd) (n : Nat) (s : MSt) (k : Nat) (v : V) (r : Rw) (w : Option Int) (N kk : Nat), vs = [.ref p, iv k, v, wv w] ∧ MAt K C I H p A n s ∧ StOk s N kk ∧ kk ≤ 100000 ∧ RowAt K H v r ∧ RwB N r ∧ k < N ∧ wOk w r ∧
  ∀ H', MAt K C I H' p A n (doR k r w s) → Q .non H'
abbrev nDoRow : List Str := ["self", "number", "row", "worth"]
theorem scDoRow : FnScope nDoRow ["self", "number", "row", "worth"] (defScope sDoRow) := ⟨rfl, rfl, rfl, by decide +kernel, rfl, by decide +kernel, by decide +kernel⟩
def spBehind (K : PySem.W.Frag) (C : Addr) : Sp := fun vs H Q _ => ∃ (I : Hp) (p : Addr) (A : MAd) (n : Nat) (s : MSt) (v : V) (e : En) (c m N kk : Nat), vs = [.ref p, v] ∧ MAt K C I H p A n s ∧ StOk s N kk ∧ EnAt K H v e ∧ EnOk m N e ∧ nextB s e = some c ∧ Q (iv c) H
abbrev nBehind : List Str := ["self", "end"]
theorem scBehind : FnScope nBehind ["self", "end"] (defScope sBehind) := ⟨rfl, rfl, rfl, by decide +kernel, rfl, by decide +kernel, by decide +kernel⟩
theorem bw_ne2 (b : Bk) : (¬ b.w = "lay") ∧ ¬ b.w = "tell" := by
  cases b <;> exact ⟨by decide +kernel, by decide +kernel⟩
theorem lay_is {r : Rw} (h : r.w = "lay") : ∃ rs x y, r = .lay rs x y := by
  cases r with
  | lay rs x y => exact ⟨rs, x, y, rfl⟩
  | bin b x y => exact absurd h (bw_ne2 b).1
  | take _ => exact absurd h (show ¬ (("take" : Str) = "lay") by decide +kernel)
  | num _ => exact absurd h (show ¬ (("num" : Str) = "lay") by decide +kernel)
  | pick _ _ => exact absurd h (show ¬ (("pick" : Str) = "lay") by decide +kernel)
  | meet _ => exact absurd h (show ¬ (("meet" : Str) = "lay") by decide +kernel)
  | tell _ => exact absurd h (show ¬ (("tell" : Str) = "lay") by decide +kernel)
  | look _ _ => exact absurd h (show ¬ (("look" : Str) = "lay") by decide +kernel)
theorem tell_is {r : Rw} (h : r.w = "tell") : ∃ x, r = .tell x := by
  cases r with
  | tell x => exact ⟨x, rfl⟩
  | bin b x y => exact absurd h (bw_ne2 b).2
  | take _ => exact absurd h (show ¬ (("take" : Str) = "tell") by decide +kernel)
  | num _ => exact absurd h (show ¬ (("num" : Str) = "tell") by decide +kernel)
  | pick _ _ => exact absurd h (show ¬ (("pick" : Str) = "tell") by decide +kernel)
  | meet _ => exact absurd h (show ¬ (("meet" : Str) = "tell") by decide +kernel)
  | lay _ _ _ => exact absurd h (show ¬ (("lay" : Str) = "tell") by decide +kernel)
  | look _ _ => exact absurd h (show ¬ (("look" : Str) = "tell") by decide +kernel)
theorem doA_oth {k : Nat} {r : Rw} {w : Option Int} {s : MSt} (h1 : ¬ r.w = "lay") (h2 : ¬ r.w = "tell") (hw : wOk w r) : (∃ i, w = some i) ∧ doA k r w s = { s with lasts := s.lasts.set k (w.getD 0) } := by
  cases r with
  | lay _ _ _ => exact absurd rfl h1
  | tell _ => exact absurd rfl h2
  | take _ => exact ⟨hw, rfl⟩
  | num _ => exact ⟨hw, rfl⟩
  | bin _ _ _ => exact ⟨hw, rfl⟩
  | pick _ _ => exact ⟨hw, rfl⟩
  | meet _ => exact ⟨hw, rfl⟩
  | look _ _ => exact ⟨hw, rfl⟩
theorem set_int {xs : List Int} {k : Nat} {v : Int} : (xs.map V.int).set k (.int v) = (xs.set k v).map V.int := by rw [List.map_set]
section
variable {P : Program} {w : World} {K : PySem.W.Frag} {mg : Str → Option Value} {base : Heap}
theorem ok_doRow {f C fP : Addr} {fd fdP : FuncData} {k : Nat} (F : Fun K "do_row" "Machine.do_row" sDoRow f fd) (T : MTxt K mg C)
    (DP : Df K mg "picked" sPicked ["things", "number"] fP fdP) (GP : FnOk P w K mg base CX0 k fP fdP ["things", "number"] (spPicked K)) : FnOk P w K mg base CX0 (k + 1) f fd ["self", "number", "row", "worth"] (spDoRow K C) := by
  refine F.ok scDoRow (fun vs H Q E h => ?_) (fun cdv A outer s H vs Q E hr h => ?_)
  · obtain ⟨I, p, A, n, s, k, v, r, w, N, kk, rfl, _⟩ := h
    rfl
  · obtain ⟨I, p, A, n, st, kr, v, r, wo, N, kk, rfl, hM, hS, hk, hR, hB, hkN, hw, q⟩ := h
    refine ⟨_, Evl.pss_cut (ps_if (pt_cmpR op_eq (pe_ix ix_tup (pv 2) pe_int (fun _ _ => rfl)) pe_str (nomark _))
        (pss_one (ps_asg (pe_ix ix_list (pe_fld (pv 0) rfl) (pe_ix ix_tup (pv 2) pe_int (fun _ _ => rfl)) (fun _ _ => rfl)) (pg_sub (pe_fld (pv 0) rfl) (pe_call GP hr (by rfl) DP.g DP.F.kp DP.b .nil pass0 (pa_cons (pe_ix ix_tup (pv 2) pe_int (fun _ _ => rfl)) (pa_cons (pe_ix ix_list (pe_fld (pv 0) rfl) (pe_ix ix_tup (pv 2) pe_int (fun _ _ => rfl)) (fun _ _ => rfl)) pa_nil))) set_list)))
        (pss_one (ps_if (pt_cmpR op_eq (pe_ix ix_tup (pv 2) pe_int (fun _ _ => rfl)) pe_str (nomark _))
          (pss_one (ps_expr (pe_bm PySem.F.plainAttrs_list PySem.F.slot_list_append PySem.F.type_list_append mt_append (pe_fld (pv 0) rfl) (pa_cons (pe_ix ix_list (pe_fld (pv 0) rfl) (pe_ix ix_tup (pv 2) pe_int (fun _ _ => rfl)) (fun _ _ => rfl)) pa_nil))))
          (pss_one (ps_asg (pv 3) (pg_sub (pe_fld (pv 0) rfl) (pv 1) set_list))))))
      (pss_one (ps_expr (pe_bm PySem.F.plainAttrs_list PySem.F.slot_list_append PySem.F.type_list_append mt_append (pe_fld (pv 0) rfl) (pa_cons (pe_tup (pa_cons (pv 1) (pa_cons (pv 3) pa_nil))) pa_nil)))), ?_⟩
    have lsAt : ∀ x, x < N → (st.lasts.map V.int)[x]? = some (.int (LI st.lasts x)) := fun x hx => LI_at (by rw [hS.ll]; exact hx)
    refine ⟨fun σ H1 => σ = [some (.ref p), some (iv kr), some v, some (wv wo)] ∧ MAt K C I H1 p A n (doA kr r wo st), ?_, fun σ H1 hC => ?_⟩
    · obtain ⟨a, xs, rfl, ha, hx⟩ := hR
      refine ⟨.ref a, rfl, a, _, _, _, rfl, rfl, ha, atI_nat (j := 0) rfl, rfl, _, rfl, ite2 (fun e => ?_) (fun e => ?_)⟩
      · obtain ⟨rs, x, y, rfl⟩ := lay_is (V.str.inj (of_decide_eq_true e))
        obtain ⟨qa, rfl, hqa⟩ := hx
        obtain ⟨hxN, hyN, hr1, hr2, hr3⟩ := hB
        have hpk := pk_lt (n := LI st.lasts x) hr2 hr3
        refine ⟨.ref p, rfl, p, C, A.dx, _, _, rfl, hM.ob, T.cl, T.lasts, mf_lasts _ _, .ref a, rfl, a, _, _, _, rfl, rfl, ha, atI_nat (j := 3) rfl, A.la, _, _, _, rfl, rfl, sqL hM.la, atI_nat (lsAt y hyN), ?_⟩
        refine ⟨.ref p, rfl, p, C, A.dx, _, _, rfl, hM.ob, T.cl, T.rooms, mf_rooms _ _, .ref a, rfl, a, _, _, _, rfl, rfl, ha, atI_nat (j := 1) rfl, ?_⟩
        refine ⟨.ref p, rfl, p, C, A.dx, _, _, rfl, hM.ob, T.cl, T.lasts, mf_lasts _ _, .ref a, rfl, a, _, _, _, rfl, rfl, ha, atI_nat (j := 2) rfl, A.la, _, _, _, rfl, rfl, sqL hM.la, atI_nat (lsAt x hxN), ?_⟩
        refine ⟨qa, rs, _, rfl, hqa, hr2, by omega, A.ro, _, _, pk rs (LI st.lasts x), rfl, rfl, hM.ro, ixN_nat (by rw [List.length_map, hS.lr]; exact hpk.1), rfl, ?_⟩
        rw [set_int]
        exact hM.setRo _
      · have e1 : ¬ r.w = "lay" := fun z => e (decide_eq_true (by rw [z]))
        refine ⟨.ref a, rfl, a, _, _, _, rfl, rfl, ha, atI_nat (j := 0) rfl, rfl, _, rfl, ite2 (fun e2 => ?_) (fun e2 => ?_)⟩
        · obtain ⟨x, rfl⟩ := tell_is (V.str.inj (of_decide_eq_true e2))
          have hxs : xs = [iv x] := hx
          subst hxs
          have hlt := hS.lt
          refine ⟨.ref p, rfl, p, C, A.dx, _, _, rfl, hM.ob, T.cl, T.told, mf_told _ _, .inl ⟨rfl, _, sqL hM.te⟩, ?_⟩
          refine ⟨.ref p, rfl, p, C, A.dx, _, _, rfl, hM.ob, T.cl, T.lasts, mf_lasts _ _, .ref a, rfl, a, _, _, _, rfl, rfl, ha, atI_nat (j := 1) rfl, A.la, _, _, _, rfl, rfl, sqL hM.la, atI_nat (lsAt x hB), ?_⟩
          refine ⟨A.te, _, _, rfl, rfl, hM.te, by rw [List.length_map]; exact szt (by omega), rfl, ?_⟩
          have et : st.told.map V.int ++ [.int (LI st.lasts x)] = (st.told ++ [LI st.lasts x]).map V.int := by rw [List.map_append]; rfl
          rw [et]
          exact hM.setTe _
        · have e3 : ¬ r.w = "tell" := fun z => e2 (decide_eq_true (by rw [z]))
          obtain ⟨⟨i, rfl⟩, h4⟩ := doA_oth (k := kr) (s := st) e1 e3 hw
          refine ⟨_, rfl, .ref p, rfl, p, C, A.dx, _, _, rfl, hM.ob, T.cl, T.lasts, mf_lasts _ _, _, rfl, A.la, _, _, kr, rfl, rfl, hM.la, ixN_nat (by rw [List.length_map, hS.ll]; exact hkN), rfl, ?_⟩
          rw [h4]
          show MAt K C I (upd H A.la (.lst ((st.lasts.map V.int).set kr (.int i)))) p A n _
          rw [set_int]
          exact hM.setLa _
    · obtain ⟨rfl, hM1⟩ := hC
      obtain ⟨ds, d1, d2⟩ := hM1.dn
      have hdl := pd_len d2
      rw [doA_done] at hdl
      have hld := hS.ld
      refine ⟨.ref p, rfl, p, C, A.dx, _, _, rfl, hM1.ob, T.cl, T.done, mf_done _ _, .inl ⟨rfl, _, sqL d1⟩, _, rfl, _, rfl, szl (show 2 ≤ 1000000 by decide), fun U nU => ?_⟩
      refine ⟨A.dn, ds, _, rfl, rfl, (new_same nU) _ _ d1, szt (by omega), ?_⟩
      have := hM1.app (k := kr) (w := wo) nU d1
      rw [← doR_eq] at this
      exact q _ this
theorem ok_behind {f C : Addr} {fd : FuncData} {k : Nat} (F : Fun K "block_behind" "Machine.block_behind" sBehind f fd) (T : MTxt K mg C) : FnOk P w K mg base CX0 (k + 1) f fd ["self", "end"] (spBehind K C) := by
  refine F.ok scBehind (fun vs H Q E h => ?_) (fun cdv A outer s H vs Q E hr h => ?_)
  · obtain ⟨I, p, A, n, s, v, e, c, m, N, kk, rfl, _⟩ := h
    rfl
  · obtain ⟨I, p, A, n, st, v, e, c, m, N, kk, rfl, hM, hS, hA, hO, hn, q⟩ := h
    refine ⟨_, pss_cons (ps_if (pt_cmpR op_eq (pe_ix ix_tup (pv 1) pe_int (fun _ _ => rfl)) pe_str (nomark _)) (pss_one (ps_ret (pe_ix ix_tup (pv 1) pe_int (fun _ _ => rfl)))) pss_nil)
      (pss_one (ps_ret (pe_ifExp (pt_cmpR op_ne (pe_ix ix_list (pe_fld (pv 0) rfl) (pe_ix ix_tup (pv 1) pe_int (fun _ _ => rfl)) (fun _ _ => rfl)) pe_int (nomark _)) (pe_ix ix_tup (pv 1) pe_int (fun _ _ => rfl)) (pe_ix ix_tup (pv 1) pe_int (fun _ _ => rfl))))), ?_⟩
    cases e with
    | go b =>
      obtain ⟨a, rfl, ha⟩ := hA
      have hc : b = c := Option.some.inj hn
      subst hc
      refine ⟨.ref a, rfl, a, _, _, _, rfl, rfl, ha, atI_nat (j := 0) rfl, rfl, _, rfl, iteS_eq ?_⟩
      exact ⟨.ref a, rfl, a, _, _, _, rfl, rfl, ha, atI_nat (j := 1) rfl, q⟩
    | iff r b d =>
      obtain ⟨a, rfl, ha⟩ := hA
      have hc : (if LI st.lasts r ≠ 0 then b else d) = c := Option.some.inj hn
      refine ⟨.ref a, rfl, a, _, _, _, rfl, rfl, ha, atI_nat (j := 0) rfl, rfl, _, rfl, iteS_ne (show ¬ (("if" : Str) = "go") by decide +kernel) ?_⟩
      refine ⟨.ref p, rfl, p, C, A.dx, _, _, rfl, hM.ob, T.cl, T.lasts, mf_lasts _ _, .ref a, rfl, a, _, _, _, rfl, rfl, ha, atI_nat (j := 1) rfl, A.la, _, _, _, rfl, rfl, sqL hM.la, atI_nat (LI_at (by rw [hS.ll]; exact hO.1)), rfl, _, rfl, ite2 (fun e => ?_) (fun e => ?_)⟩
      · have e1 : LI st.lasts r ≠ 0 := fun z => by rw [z] at e; cases e
        rw [if_pos e1] at hc
        subst hc
        exact ⟨.ref a, rfl, a, _, _, _, rfl, rfl, ha, atI_nat (j := 2) rfl, q⟩
      · have e1 : ¬ LI st.lasts r ≠ 0 := fun z => e (by rw [Bool.not_eq_true', decide_eq_false_iff_not]; exact fun y => z (V.int.inj y))
        rw [if_neg e1] at hc
        subst hc
        exact ⟨.ref a, rfl, a, _, _, _, rfl, rfl, ha, atI_nat (j := 3) rfl, q⟩
    | fin => cases hn
end
end Gn
set_option Elab.async false
set_option linter.all false
set_option maxRecDepth 100000
set_option maxHeartbeats 8000000
namespace Gn
open PySem PySem.Spec PyProof.Rows L2
/-! ### brought_by -/
theorem flat_filt {p : Nat → Bool} {c : Nat → Nat} (h : ∀ j, c j = if p j = true then 1 else 0) : ∀ l : List Nat, (l.flatMap fun j => List.replicate (c j) j) = l.filter p
  | [] => rfl
  | a :: l => by
    rw [List.flatMap_cons, flat_filt h l, h a, List.filter_cons]
    by_cases e : p a = true
    · rw [if_pos e, if_pos e]; rfl
    · rw [if_neg e, if_neg e]; rfl
theorem spec_ld {pr : List Blk} (h : ∀ xs ∈ pr.map (fun b => b.2.names), xs.Nodup) {b : Nat} {ld : List Nat} (e : (leadsL (pr.map fun b => b.2.names))[b]? = some ld) : ld = spec pr pr.length b := by
  unfold leadsL at e
  rw [List.getElem?_map] at e
  obtain ⟨b', hb, rfl⟩ := Option.map_eq_some_iff.mp e
  have hb0 : b' = b := by
    have h1 := (List.getElem?_eq_some_iff.mp hb).2
    rw [List.getElem_range] at h1
    exact h1.symm
  subst hb0
  unfold spec
  rw [List.length_map]
  refine (flat_filt (fun j => ?_) _).symm
  have hn : (pr.map fun b => b.2.names).getD j [] = (pr.getD j ([], .fin)).2.names := by
    rw [List.getD_eq_getElem?_getD, List.getD_eq_getElem?_getD, List.getElem?_map]
    cases pr[j]? <;> rfl
  rw [hn]
  have hd : ((pr.getD j ([], .fin)).2.names).Nodup := by
    by_cases hj : j < pr.length
    · refine h _ (List.mem_map.mpr ⟨pr.getD j ([], .fin), ?_, rfl⟩)
      rw [List.getD_eq_getElem?_getD, List.getElem?_eq_getElem hj]
      exact List.getElem_mem hj
    · rw [List.getD_eq_getElem?_getD, List.getElem?_eq_none (by omega)]
      exact List.nodup_nil
  rw [hd.count]
  by_cases hm : b' ∈ (pr.getD j ([], .fin)).2.names
  · rw [if_pos hm, if_pos (decide_eq_true hm)]
  · rw [if_neg hm, if_neg (by rw [decide_eq_false hm]; decide)]
/-- a block of a program in memory -/
theorem ProgAt.blk {K : PySem.W.Frag} {H : Hp} {v : V} {pr : List Blk} (h : ProgAt K H v pr) {b : Nat} (hb : b < pr.length) :
    ∃ (pp : Addr) (bs : List V) (pb ra : Addr) (ea : V) (vs : List V), v = .ref pp ∧ SqL K H pp bs ∧ bs[b]? = some (.ref pb) ∧ SqT K H pb [.ref ra, ea] ∧ H ra = some (.lst vs) ∧ Paired (RowAt K H) vs (rowsB pr b) ∧ EnAt K H ea (endB pr b) := by
  obtain ⟨pp, bs, rfl, h1, h2⟩ := h
  have e : pr[b]? = some (pr.getD b ([], .fin)) := by rw [List.getD_eq_getElem?_getD, List.getElem?_eq_getElem hb]; rfl
  obtain ⟨x, hx, pb, ra, ea, vs, rfl, a1, a2, a3, a4⟩ := pd_at h2 e
  exact ⟨pp, bs, pb, ra, ea, vs, rfl, h1, hx, a1, a2, a3, a4⟩
theorem blkAt {pr : List Blk} {b : Nat} (hb : b < pr.length) : pr[b]? = some (rowsB pr b, endB pr b) := by
  unfold rowsB endB
  rw [List.getD_eq_getElem?_getD, List.getElem?_eq_getElem hb]
  rfl
theorem blkMem {pr : List Blk} {b : Nat} (hb : b < pr.length) : (rowsB pr b, endB pr b) ∈ pr := List.mem_of_getElem? (blkAt hb)
def spBrt (K : PySem.W.Frag) (C : Addr) : Sp := fun vs H Q _ => ∃ (I : Hp) (p : Addr) (A : MAd) (n : Nat) (s : MSt) (pr : List Blk) (tk : List Int) (lead blk kk : Nat), vs = [.ref p, iv lead, iv blk] ∧ MAt K C I H p A n s ∧ EnvOk K I A pr tk ∧ StOk s (rowsL pr).length kk ∧ lead < pr.length ∧ blk < pr.length ∧ blk ∈ (endB pr lead).names ∧
  ∀ (bp : Addr) (H' : Hp), H bp = none → Same H H' → H' bp = some (.lst ((brt pr lead blk s).map V.int)) → Q (.ref bp) H'
abbrev nBrt : List Str := ["self", "lead", "block", "at", "row"]
theorem scBrt : FnScope nBrt ["self", "lead", "block"] (defScope sBrought) := ⟨rfl, rfl, rfl, by decide +kernel, rfl, by decide +kernel, by decide +kernel⟩
section
variable {P : Program} {w : World} {K : PySem.W.Frag} {mg : Str → Option Value} {base : Heap}
theorem ok_brt {f C fM : Addr} {fd fdM : FuncData} {k : Nat} (F : Fun K "brought_by" "Machine.brought_by" sBrought f fd) (T : MTxt K mg C)
    (DM : Df K mg "is_meet" sIsMeet ["row"] fM fdM) (GM : FnOk P w K mg base CX0 k fM fdM ["row"] (spIsMeet K)) : FnOk P w K mg base CX0 (k + 1) f fd ["self", "lead", "block"] (spBrt K C) := by
  refine F.ok scBrt (fun vs H Q E h => ?_) (fun cdv A outer s H vs Q E hr h => ?_)
  · obtain ⟨I, p, A, n, s, pr, tk, lead, blk, kk, rfl, _⟩ := h
    rfl
  · obtain ⟨I, p, A, n, st, pr, tk, lead, blk, kk, rfl, hM, hE, hS, hl, hb, hnm, q⟩ := h
    refine ⟨_, pss_cons (ps_set (i := 3) scBrt.nd rfl (.inr rfl) (pe_bm PySem.F.plainAttrs_list PySem.F.slot_list_index PySem.F.type_list_index mt_index (pe_ix ix_list (pe_fld (pv 0) rfl) (pv 2) (fun _ _ => rfl)) (pa_cons (pv 1) pa_nil)))
      (pss_one (ps_ret (pe_lc (own := [("row", 4)]) (g := gName 4) (tt := tTest (tCall (spIsMeet K) [] E0 (tCons (tVar 4) tNil))) (te := tIxL K (tFld K (tVar 0) "lasts") (tIxT K (tIxT K (tVar 4) (tC (.int 1))) (tVar 3))) rfl scBrt.nd (pi_list (pe_ix ix_tup (pe_ix ix_list (pe_fld (pv 0) rfl) (pv 2) (fun _ _ => rfl)) pe_int (fun _ _ => rfl)))
        (blkOk_by (own := [("row", 4)]) (N := nBrt) (sc := defScope sBrought) (by decide +kernel)) (fun _ _ _ _ _ => pg_name (i := 4) scBrt.nd rfl (.inl rfl))
        (fun _ _ _ _ _ => pts_one (pt_val (pe_call GM hr (by rfl) DM.g DM.F.kp DM.b .nil pass0 (pa_cons (pv 4) pa_nil))))
        (fun _ _ _ _ _ => pe_ix ix_list (pe_fld (pv 0) rfl) (pe_ix ix_tup (pe_ix ix_tup (pv 4) pe_int (fun _ _ => rfl)) (pv 3) (fun _ _ => rfl)) (fun _ _ => rfl))))), ?_⟩
    have hld : ((List.range pr.length).map (spec pr pr.length))[blk]? = some (spec pr pr.length blk) := by rw [List.getElem?_map, List.getElem?_range hb]; rfl
    obtain ⟨us, qa, u1, u2, u3, u4⟩ := (hE.leads.same hM.sI).at hld
    have hmem : lead ∈ spec pr pr.length blk := spec_mem.mpr ⟨hl, hnm⟩
    have hjl : (spec pr pr.length blk).idxOf lead < (spec pr pr.length blk).length := List.idxOf_lt_length_iff.mpr hmem
    have hjat : (spec pr pr.length blk)[(spec pr pr.length blk).idxOf lead]? = some lead := by rw [List.getElem?_eq_getElem hjl, List.getElem_idxOf]
    refine ⟨.ref p, rfl, p, C, A.dx, _, _, rfl, hM.ob, T.cl, T.leads, mf_leads _ _, _, rfl, A.ld, us, _, .ref qa, rfl, rfl, u1, u3, .inl ⟨rfl, _, u4⟩, _, rfl, qa, _, iv lead, (spec pr pr.length blk).idxOf lead, iv lead, rfl, rfl, u4, rfl, flat_iv _, by rw [List.getElem?_map, hjat]; rfl, (beq_self_eq_true (lead : Int) : ((lead : Int) == (lead : Int)) = true), fun m' z' hm' hz' => ?_, ?_⟩
    · rw [List.getElem?_map] at hz'
      obtain ⟨y, hy, rfl⟩ := Option.map_eq_some_iff.mp hz'
      have hyl := (List.getElem?_eq_some_iff.mp hy).1
      have hne : y ≠ lead := fun z => by
        have h1 := List.not_of_lt_findIdx (show m' < (spec pr pr.length blk).findIdx (· == lead) from hm')
        have h2 := (List.getElem?_eq_some_iff.mp hy).2
        rw [h2, z] at h1
        simp at h1
      show ((y : Int) == (lead : Int)) = false
      rw [beq_eq_false_iff_ne]
      omega
    generalize hat : (spec pr pr.length blk).idxOf lead = at_ at hjl
    obtain ⟨pp, bs, pb, ra, ea, vs, hpv, h1, h2, h3, h4, h5, h6⟩ := hE.prog.blk hb
    refine ⟨.ref p, rfl, p, C, A.dx, _, _, rfl, hM.ob, T.cl, T.program, mf_program _ _, _, rfl, pp, bs, _, .ref pb, hpv, rfl, hM.sI.seq h1, atI_nat h2, pb, _, _, .ref ra, rfl, rfl, Same.tup hM.sI h3, atI_nat (j := 0) rfl, ra, rfl, ⟨_, sqL (hM.sI _ _ h4)⟩, fun L nL => ?_⟩
    have hvl : vs.length = (rowsB pr blk).length := pd_len h5
    have hr130 : (rowsB pr blk).length ≤ 130 := hE.rl _ (blkMem hb)
    refine lc_list (K := K) (a := ra) (xs := vs) (fun i H1 => Same H H1 ∧ ∃ es : List Int, H1 L = some (.lst (es.map V.int)) ∧ es = ((rowsB pr blk).take i).filterMap (mVal st at_) ∧ es.length ≤ i) ⟨new_same nL, [], upd_same, rfl, Nat.le_refl _⟩ (fun i H1 _ hP => sqL (hP.1 _ _ (hM.sI _ _ h4))) (fun i x H1 hx hP => ?_) (fun H1 hP => ?_)
    · obtain ⟨s1, es, eL, hes, hel⟩ := hP
      obtain ⟨r, hr1, hr2⟩ := pd_at2 h5 hx
      have hil := (List.getElem?_eq_some_iff.mp hx).1
      have hrow : RowAt K H1 x r := hr2.same (hM.sI.trans s1)
      have htk : ((rowsB pr blk).take (i + 1)).filterMap (mVal st at_) = es ++ (mVal st at_ r).toList := by
        rw [List.take_add_one, hr1, List.filterMap_append, ← hes]
        cases h : mVal st at_ r <;> simp [h]
      refine ⟨rfl, x, rfl, x, r, rfl, hrow, r.isM, rfl, ite2 (fun e => ?_) (fun e => ?_)⟩
      · obtain ⟨ps, rfl⟩ : ∃ ps, r = .meet ps := by
          cases r with
          | meet ps => exact ⟨ps, rfl⟩
          | _ => cases e
        obtain ⟨a, xs, rfl, ha, qb, rfl, hqb⟩ := hrow
        obtain ⟨ld, hld1, hld2, _⟩ := hE.px.mt blk _ (blkAt hb) i ps hr1
        have hlde := spec_ld (fun xs hx => (hE.nx.2.1 xs hx).2.1) hld1
        have hps : at_ < ps.length := by rw [hld2, hlde]; exact hjl
        have hpb : ps.getD at_ 0 < (rowsL pr).length := by
          rw [List.getD_eq_getElem?_getD, List.getElem?_eq_getElem hps]
          exact ((hE.px.rb _ (blkMem hb)).1 _ (List.mem_of_getElem? hr1)).1 _ (List.getElem_mem hps)
        refine ⟨.ref p, rfl, p, C, A.dx, _, _, rfl, s1 _ _ hM.ob, T.cl, T.lasts, mf_lasts _ _, .ref a, rfl, a, _, _, .ref qb, rfl, rfl, ha, atI_nat (j := 1) rfl, _, rfl, qb, _, _, iv (ps.getD at_ 0), rfl, rfl, hqb, atI_nat (by rw [List.getElem?_map, List.getD_eq_getElem?_getD, List.getElem?_eq_getElem hps]; rfl), A.la, _, _, _, rfl, rfl, sqL (s1 _ _ hM.la), atI_nat (LI_at (by rw [hS.ll]; exact hpb)), ?_⟩
        refine ⟨_, eL, by rw [List.length_map]; exact szt (by omega), fun b o z => ?_, es ++ [LI st.lasts (ps.getD at_ 0)], by rw [upd_same, List.map_append]; rfl, htk.symm, by rw [List.length_append, List.length_singleton]; omega⟩
        rw [upd_ne (ne_of_none z nL)]
        exact s1 _ _ z
      · have hnm2 : mVal st at_ r = none := by
          cases r with
          | meet ps => exact absurd rfl e
          | _ => rfl
        rw [hnm2] at htk
        exact ⟨s1, es, eL, by rw [htk]; simp, by omega⟩
    · obtain ⟨s1, es, eL, hes, hel⟩ := hP
      rw [hvl, List.take_length] at hes
      refine q L H1 nL s1 ?_
      unfold brt
      rw [hat, ← hes]
      exact eL
end
end Gn
set_option Elab.async false
set_option linter.all false
set_option maxRecDepth 100000
set_option maxHeartbeats 8000000
namespace Gn
open PySem PySem.Spec PyProof.Rows L2
/-! ### do_rows -/
theorem rows_take {pr : List Blk} {i : Nat} {b : Blk} (h : pr[i]? = some b) : rowsL (pr.take (i + 1)) = rowsL (pr.take i) ++ b.1 := by
  unfold rowsL
  rw [List.take_add_one, h, List.map_append, List.flatten_append]
  simp
theorem rowsL_app (xs ys : List Blk) : rowsL (xs ++ ys) = rowsL xs ++ rowsL ys := by
  unfold rowsL
  rw [List.map_append, List.flatten_append]
theorem bgn_le (pr : List Blk) (b : Nat) : bgn pr b ≤ (rowsL pr).length := by
  have h := congrArg (fun z => (rowsL z).length) (List.take_append_drop b pr)
  rw [rowsL_app, List.length_append] at h
  unfold bgn
  omega
theorem bgn_lt {pr : List Blk} {b i : Nat} (hb : b < pr.length) (hi : i < (rowsB pr b).length) : bgn pr b + i < (rowsL pr).length := by
  have h1 := bgn_le pr (b + 1)
  unfold bgn at h1 ⊢
  rw [rows_take (blkAt hb), List.length_append] at h1
  have h2 : (rowsL (pr.take b)).length + (rowsB pr b).length ≤ (rowsL pr).length := h1
  omega
theorem wOf_ok {tk : List Int} {s : MSt} {r : Rw} (h : r.isM = false) : wOk (wOf tk s r) r := by
  cases r with
  | meet ps => cases h
  | tell _ => exact trivial
  | lay _ _ _ => exact trivial
  | take _ => exact ⟨_, rfl⟩
  | num _ => exact ⟨_, rfl⟩
  | bin _ _ _ => exact ⟨_, rfl⟩
  | pick _ _ => exact ⟨_, rfl⟩
  | look _ _ => exact ⟨_, rfl⟩
def spDoRows (K : PySem.W.Frag) (C : Addr) : Sp := fun vs H Q _ => ∃ (I : Hp) (p : Addr) (A : MAd) (n : Nat) (s : MSt) (pr : List Blk) (tk : List Int) (b : Nat) (bp : Addr) (bl : List Int), vs = [.ref p, iv b, .ref bp] ∧ MAt K C I H p A n s ∧ EnvOk K I A pr tk ∧ StOk s (rowsL pr).length n ∧ n ≤ A.most ∧ A.most ≤ 30000 ∧ b < pr.length ∧ SqL K I bp (bl.map V.int) ∧
  (∀ i, i < (rowsB pr b).length → mB (rowsB pr b) i = true → i < bl.length) ∧
  ∀ (i : Nat) (s' : MSt) (H' : Hp) (wd : Str), MAt K C I H' p A (n + i) s' → itC pr tk i (norm pr b 0 bl s) = norm pr b i bl s' → StOk s' (rowsL pr).length (n + i) → n + i ≤ A.most →
    ((wd = "done" ∧ i = (rowsB pr b).length) ∨ (wd = "going" ∧ n + i = A.most ∧ i < (rowsB pr b).length) ∨ (wd = "great" ∧ n + i < A.most ∧ i < (rowsB pr b).length ∧ too (wAt pr tk b i bl s') = true)) → Q (.str wd) H'
abbrev nDoRows : List Str := ["self", "block", "brought", "place", "row", "worth"]
theorem scDoRows : FnScope nDoRows ["self", "block", "brought"] (defScope sDoRows) := ⟨rfl, rfl, rfl, by decide +kernel, rfl, by decide +kernel, by decide +kernel⟩
section
variable {P : Program} {w : World} {K : PySem.W.Frag} {mg : Str → Option Value} {base : Heap}
theorem ok_doRows {f C fM fG fW fD : Addr} {fd fdM fdG fdW fdD : FuncData} {k : Nat} (F : Fun K "do_rows" "Machine.do_rows" sDoRows f fd) (T : MTxt K mg C) (B : Bi mg)
    (DM : Df K mg "is_meet" sIsMeet ["row"] fM fdM) (GM : FnOk P w K mg base CX0 k fM fdM ["row"] (spIsMeet K))
    (DG : Df K mg "is_too_great" sGreat ["worth"] fG fdG) (GG : FnOk P w K mg base CX0 k fG fdG ["worth"] spGreat)
    (mW : Meth K C "worth_of" fW) (bW : Binds K fdW ["self", "row"] []) (GW : FnOk P w K mg base CX0 k fW fdW ["self", "row"] (spWorthOf K C))
    (mD : Meth K C "do_row" fD) (bD : Binds K fdD ["self", "number", "row", "worth"] []) (GD : FnOk P w K mg base CX0 k fD fdD ["self", "number", "row", "worth"] (spDoRow K C)) : FnOk P w K mg base CX0 (k + 1) f fd ["self", "block", "brought"] (spDoRows K C) := by
  refine F.ok scDoRows (fun vs H Q E h => ?_) (fun cdv A outer s H vs Q E hr h => ?_)
  · obtain ⟨I, p, A, n, s, pr, tk, b, bp, bl, rfl, _⟩ := h
    rfl
  · obtain ⟨I, p, A, n, st, pr, tk, b, bp, bl, rfl, hM, hE, hS, hn, hmo, hb, hbp, hbl, q⟩ := h
    refine ⟨_, pss_cons (ps_for PassesOwn.never rfl (pi_enum (by rfl) B.enumerate (pa_cons (pe_ix ix_tup (pe_ix ix_list (pe_fld (pv 0) rfl) (pv 1) (fun _ _ => rfl)) pe_int (fun _ _ => rfl)) pa_nil)) (pg_tup rfl (pgs_cons (pg_name (i := 3) scDoRows.nd rfl (.inl rfl)) (pgs_cons (pg_name (i := 4) scDoRows.nd rfl (.inl rfl)) pgs_nil)))
        (pss_cons (ps_if (pt_cmpR op_eq (pe_fld (pv 0) rfl) (pe_fld (pv 0) rfl) (nomark _)) (pss_one (ps_ret pe_str)) pss_nil)
        (Evl.pss_cut (ps_set (i := 5) scDoRows.nd rfl (.inl rfl) (pe_ifExp (pt_val (pe_call GM hr (by rfl) DM.g DM.F.kp DM.b .nil pass0 (pa_cons (pv 4) pa_nil))) (pe_ix ix_list (pv 2) (pv 3) (fun _ _ => rfl)) (pe_meth (pv 0) T.cl mW GW hr bW .nil pass0 (pa_cons (pv 4) pa_nil))))
        (pss_cons (ps_if (pt_val (pe_call GG hr (by rfl) DG.g DG.F.kp DG.b .nil pass0 (pa_cons (pv 5) pa_nil))) (pss_one (ps_ret pe_str)) pss_nil)
        (pss_cons (ps_fldaug (pv 0) pe_int in_add)
        (pss_one (ps_expr (pe_meth (pv 0) T.cl mD GD hr bD .nil pass0 (pa_cons (pe_op op_add (pe_ix ix_list (pe_fld (pv 0) rfl) (pv 1) (fun _ _ => rfl)) (pv 3)) (pa_cons (pv 4) (pa_cons (pv 5) pa_nil)))))))))))
      (pss_one (ps_ret pe_str)), ?_⟩
    obtain ⟨pp, bs, pb, ra, ea, vs, hpv, h1, h2, h3, h4, h5, h6⟩ := hE.prog.blk hb
    have hvl : vs.length = (rowsB pr b).length := pd_len h5
    refine ⟨.ref p, rfl, p, C, A.dx, _, _, rfl, hM.ob, T.cl, T.program, mf_program _ _, _, rfl, pp, bs, _, .ref pb, hpv, rfl, hM.sI.seq h1, atI_nat h2, pb, _, _, .ref ra, rfl, rfl, Same.tup hM.sI h3, atI_nat (j := 0) rfl, ra, _, rfl, sqL (hM.sI _ _ h4), ?_⟩
    refine for_it (walk_enum (K := K) (a := ra) (xs := vs)) (fun i σ H1 => ∃ (y3 y4 y5 : Option V) (s1 : MSt), σ = [some (.ref p), some (iv b), some (.ref bp), y3, y4, y5] ∧ MAt K C I H1 p A (n + i) s1 ∧ itC pr tk i (norm pr b 0 bl st) = norm pr b i bl s1 ∧ StOk s1 (rowsL pr).length (n + i) ∧ n + i ≤ A.most)
      ⟨none, none, none, st, rfl, hM, rfl, hS, hn⟩ (fun i σ H1 _ hP => ?_) (fun i x σ H1 H2 hi hP hY => ?_) (fun σ H1 hP => ?_)
    · obtain ⟨_, _, _, _, _, hM1, _⟩ := hP
      exact sqL (hM1.sI _ _ h4)
    · obtain ⟨y3, y4, y5, s1, rfl, hM1, hit, hS1, hn1⟩ := hP
      obtain ⟨U, x1, x2, rfl, nU, rfl, e1, e2⟩ := hY
      cases e1
      have e2 : vs[i]? = some x2 := e2
      obtain ⟨r, hr1, hr2⟩ := pd_at2 h5 e2
      have hil : i < (rowsB pr b).length := by omega
      have sU := new_same (o := .tup [.int (i : Nat), x2]) nU
      have hM2 := hM1.same sU
      refine ⟨U, _, rfl, sqT upd_same, rfl, _, _, rfl, _, _, rfl, rfl, ?_⟩
      generalize upd H1 U (.tup [.int (i : Nat), x2]) = H2 at hM2
      have hrow : RowAt K H2 x2 r := hr2.same hM2.sI
      have hrat : rwAt pr b i = r := by unfold rwAt; rw [List.getD_eq_getElem?_getD, hr1]; rfl
      have hrb : RwB (rowsL pr).length r := (hE.px.rb _ (blkMem hb)).1 r (List.mem_of_getElem? hr1)
      refine ⟨.ref p, rfl, p, C, A.dx, _, _, rfl, hM2.ob, T.cl, T.steps, mf_steps _ _, .ref p, rfl, p, C, A.dx, _, _, rfl, hM2.ob, T.cl, T.most, mf_most _ _, rfl, _, rfl, ite2 (fun e => ?_) (fun e => ?_)⟩
      · have e3 : ((n + i : Nat) : Int) = (A.most : Int) := V.int.inj (of_decide_eq_true e)
        exact q i s1 H2 "going" hM2 hit hS1 hn1 (.inr (.inl ⟨rfl, by omega, hil⟩))
      · have e3 : n + i < A.most := by
          have : ¬ ((n + i : Nat) : Int) = (A.most : Int) := fun z => e (decide_eq_true (by rw [z]))
          omega
        refine ⟨fun σ H3 => σ = [some (.ref p), some (iv b), some (.ref bp), some (.int (i : Nat)), some x2, some (wv (wAt pr tk b i bl s1))] ∧ H3 = H2, ?_, fun σ H3 hC => ?_⟩
        · refine ⟨x2, rfl, x2, r, rfl, hrow, r.isM, rfl, ite2 (fun em => ?_) (fun em => ?_)⟩
          · have hw : wAt pr tk b i bl s1 = some (LI bl i) := by unfold wAt; rw [hrat, if_pos em]
            have hib : i < bl.length := hbl i hil (by rw [mB_at hr1]; exact em)
            refine ⟨.ref bp, rfl, _, rfl, bp, _, _, _, rfl, rfl, hM2.sI.seq hbp, atI_nat (LI_at hib), ?_, rfl⟩
            rw [hw]
            rfl
          · have em' : r.isM = false := by cases h : r.isM with | true => exact absurd h em | false => rfl
            have hw : wAt pr tk b i bl s1 = wOf tk s1 r := by unfold wAt; rw [hrat, if_neg em]
            refine ⟨.ref p, rfl, p, A.dx, _, rfl, hM2.ob, rfl, x2, rfl, I, p, A, n + i, s1, pr, tk, x2, r, (rowsL pr).length, n + i, rfl, hM2, hE, hS1, hrow, hrb, em', ?_, rfl⟩
            rw [hw]
            rfl
        · obtain ⟨rfl, rfl⟩ := hC
          have hwok : wOk (wAt pr tk b i bl s1) r := by
            unfold wAt
            rw [hrat]
            cases em : r.isM with
            | true =>
              rw [if_pos rfl]
              cases r with
              | meet ps => exact ⟨_, rfl⟩
              | _ => cases em
            | false =>
              rw [if_neg (by decide)]
              exact wOf_ok em
          have hnr : norm pr b i bl s1 = .row b i bl s1 := by unfold norm; rw [if_pos hil]
          refine ⟨_, rfl, wAt pr tk b i bl s1, rfl, too (wAt pr tk b i bl s1), rfl, ite2 (fun et => ?_) (fun et => ?_)⟩
          · exact q i s1 H3 "great" hM2 hit hS1 hn1 (.inr (.inr ⟨rfl, e3, hil, et⟩))
          · have et' : too (wAt pr tk b i bl s1) = false := by cases h : too (wAt pr tk b i bl s1) with | true => exact absurd h et | false => rfl
            refine ⟨.ref p, rfl, p, C, A.dx, _, _, rfl, hM2.ob, T.cl, T.steps, mf_steps _ _, _, _, rfl, rfl, A.dx, _, hM2.ob, (by show 11 < 1000; decide), ?_⟩
            have hM3 : MAt K C I (upd H3 p (.ins C A.dx (putF "steps" (V.int (((n + i : Nat) : Int) + 1)) (mf A (n + i))))) p A (n + i + 1) s1 := hM2.setN (n + i + 1)
            have hbg : ((List.range (pr.length + 1)).map fun b => iv (bgn pr b))[b]? = some (iv (bgn pr b)) := by rw [List.getElem?_map, List.getElem?_range (by omega)]; rfl
            refine ⟨.ref p, rfl, p, A.dx, _, rfl, hM3.ob, rfl, .ref p, rfl, p, C, A.dx, _, _, rfl, hM3.ob, T.cl, T.begins, mf_begins _ _, _, rfl, A.bg, _, _, _, rfl, rfl, hM3.sI.seq hE.begins, atI_nat hbg, _, rfl, _, _, rfl, rfl, x2, rfl, _, rfl, ?_⟩
            have ek : V.int ((bgn pr b : Int) + (i : Int)) = iv (bgn pr b + i) := rfl
            refine ⟨I, p, A, n + i + 1, s1, bgn pr b + i, x2, r, wAt pr tk b i bl s1, (rowsL pr).length, n + i, rfl, hM3, hS1, by omega, hr2.same hM3.sI, hrb, bgn_lt hb hil, hwok, fun H5 hM5 => ?_⟩
            refine ⟨_, _, _, doR (bgn pr b + i) r (wAt pr tk b i bl s1) s1, rfl, hM5, ?_, hS1.doR et', by omega⟩
            rw [itC_succ, hit, hnr]
            show (if too (wAt pr tk b i bl s1) = true then Cfg.great s1 else norm pr b (i + 1) bl (doR (bgn pr b + i) (rwAt pr b i) (wAt pr tk b i bl s1) s1)) = _
            rw [if_neg et, hrat]
    · obtain ⟨y3, y4, y5, s1, rfl, hM1, hit, hS1, hn1⟩ := hP
      rw [hvl] at hM1 hit hS1 hn1
      exact q _ s1 H1 "done" hM1 hit hS1 hn1 (.inl ⟨rfl, rfl⟩)
end
end Gn
set_option Elab.async false
set_option linter.all false
set_option maxRecDepth 100000
set_option maxHeartbeats 8000000
namespace Gn
open PySem PySem.Spec PyProof.Rows L2
/-! ### go_on -/
section
variable {K : PySem.W.Frag} {C : Addr} {I I' H : Hp} {p : Addr} {A : MAd} {n : Nat} {s : MSt} {pr : List Blk} {tk : List Int}
theorem MAt.sub (h : MAt K C I' H p A n s) (e : Same I I') : MAt K C I H p A n s := by
  refine ⟨e.trans h.sI, fun a ha => ?_, h.nd, h.ob, h.la, h.ro, h.wy, h.te, h.dn⟩
  cases z : I a with
  | none => rfl
  | some o =>
    have h1 := e _ _ z
    rw [h.nw a ha] at h1
    cases h1
theorem MAt.ext (h : MAt K C I H p A n s) {bp : Addr} {o : HO} (hb : H bp = some o) (hn : bp ∉ [p, A.la, A.ro, A.wy, A.te, A.dn]) : MAt K C (upd I bp o) H p A n s := by
  refine ⟨fun a o' e => ?_, fun a ha => ?_, h.nd, h.ob, h.la, h.ro, h.wy, h.te, h.dn⟩
  · by_cases z : a = bp
    · subst z
      rw [upd_same] at e
      rw [← e]; exact hb
    · rw [upd_ne z] at e
      exact h.sI _ _ e
  · have hne : a ≠ bp := fun z => hn (by rw [← z]; exact ha)
    rw [upd_ne hne]
    exact h.nw a ha
theorem EnvOk.same (h : EnvOk K I A pr tk) (e : Same I I') : EnvOk K I' A pr tk := ⟨h.prog.same e, e.seq h.tks, h.tl, h.tb, h.leads.same e, e.seq h.begins, h.l1, h.l2, h.px, h.nx, h.rl⟩
/-- a new object is none of the machine's -/
theorem MAt.fresh (h : MAt K C I H p A n s) {b : Addr} (nb : H b = none) : b ∉ [p, A.la, A.ro, A.wy, A.te, A.dn] := fun hb => by
  obtain ⟨ds, d1, _⟩ := h.dn
  have : ∃ o, H b = some o := by
    simp only [List.mem_cons, List.not_mem_nil, or_false] at hb
    rcases hb with rfl | rfl | rfl | rfl | rfl | rfl
    · exact ⟨_, h.ob⟩
    · exact ⟨_, h.la⟩
    · exact ⟨_, h.ro⟩
    · exact ⟨_, h.wy⟩
    · exact ⟨_, h.te⟩
    · exact ⟨_, d1⟩
  obtain ⟨o, ho⟩ := this
  rw [nb] at ho
  cases ho
end
theorem all_m {rs : List Rw} (h : ∀ x, x + 1 < rs.length → mB rs (x + 1) = true → mB rs x = true) : ∀ (d i : Nat), i + d < rs.length → mB rs (i + d) = true → mB rs i = true
  | 0, i, _, hm => hm
  | d + 1, i, hl, hm => all_m h d i (by omega) (h (i + d) (by omega) hm)
theorem fm_len {s : MSt} {a : Nat} : ∀ {l : List Rw}, (∀ r ∈ l, r.isM = true) → (l.filterMap (mVal s a)).length = l.length
  | [], _ => rfl
  | r :: l, h => by
    have h1 := h r List.mem_cons_self
    have h2 := fm_len (s := s) (a := a) (l := l) fun x hx => h x (List.mem_cons_of_mem _ hx)
    cases r with
    | meet ps =>
      rw [List.filterMap_cons]
      show ((LI s.lasts (ps.getD a 0)) :: l.filterMap (mVal s a)).length = _
      rw [List.length_cons, List.length_cons, h2]
    | _ => cases h1
theorem brt_len {pr : List Blk} {lead b i : Nat} {s : MSt} (h : ∀ x, x + 1 < (rowsB pr b).length → mB (rowsB pr b) (x + 1) = true → mB (rowsB pr b) x = true) (hi : i < (rowsB pr b).length) (hm : mB (rowsB pr b) i = true) : i < (brt pr lead b s).length := by
  have h1 : ∀ r ∈ (rowsB pr b).take (i + 1), r.isM = true := fun r hr => by
    obtain ⟨j, hj1, hj2⟩ := List.mem_iff_getElem.mp hr
    rw [List.length_take] at hj1
    rw [List.getElem_take] at hj2
    have h2 := all_m h (i - j) j (by omega) (by rw [show j + (i - j) = i by omega]; exact hm)
    rw [mB_at (List.getElem?_eq_getElem (by omega)), hj2] at h2
    exact h2
  have h2 := fm_len (s := s) (a := (spec pr pr.length b).idxOf lead) h1
  have h3 := congrArg (fun z => (z.filterMap (mVal s ((spec pr pr.length b).idxOf lead))).length) (List.take_append_drop (i + 1) (rowsB pr b))
  rw [List.filterMap_append, List.length_append, h2, List.length_take] at h3
  unfold brt
  omega
theorem no_m0 {pr : List Blk} (l1 : 1 ≤ pr.length) (px : PrX pr.length pr) (nx : NxOk pr.length (pr.map fun b => b.2.names)) {i : Nat} (hi : i < (rowsB pr 0).length) (hm : mB (rowsB pr 0) i = true) : False := by
  rw [mB_at (List.getElem?_eq_getElem hi)] at hm
  cases hr : (rowsB pr 0)[i] with
  | meet ps =>
    obtain ⟨ld, h1, _, h3⟩ := px.mt 0 _ (blkAt l1) i ps (by rw [List.getElem?_eq_getElem hi, hr])
    rw [lead0 nx.2.1 h1] at h3
    exact absurd h3 (by decide)
  | _ => rw [hr] at hm; cases hm
def spGoOn (K : PySem.W.Frag) (C : Addr) : Sp := fun vs H Q _ => ∃ (I : Hp) (p : Addr) (A : MAd) (pr : List Blk) (tk : List Int), vs = [.ref p] ∧ MAt K C I H p A 0 (MSt.first pr) ∧ EnvOk K I A pr tk ∧ A.most ≤ 30000 ∧
  ∀ (H' : Hp) (n' : Nat), MAt K C I H' p A n' (runC pr tk A.most).st → (runC pr tk A.most).st.done.length ≤ 30000 → Q (.str (runC pr tk A.most).word) H'
abbrev nGoOn : List Str := ["self", "block", "brought", "state", "end", "lead"]
theorem scGoOn : FnScope nGoOn ["self"] (defScope sGoOn) := ⟨rfl, rfl, rfl, by decide +kernel, rfl, by decide +kernel, by decide +kernel⟩
theorem first_ok (pr : List Blk) : StOk (MSt.first pr) (rowsL pr).length 0 := by
  refine ⟨List.length_replicate, List.length_replicate, ⟨fun x hx => ?_, fun x hx => ?_⟩, Nat.le_refl _, Nat.le_refl _, Nat.le_refl _⟩
  · rw [List.eq_of_mem_replicate hx]; decide
  · rw [List.eq_of_mem_replicate hx]; decide
section
variable {P : Program} {w : World} {K : PySem.W.Frag} {mg : Str → Option Value} {base : Heap}
theorem ok_goOn {f C fR fB fT : Addr} {fd fdR fdB fdT : FuncData} {k : Nat} (F : Fun K "go_on" "Machine.go_on" sGoOn f fd) (T : MTxt K mg C)
    (mR : Meth K C "do_rows" fR) (bR : Binds K fdR ["self", "block", "brought"] []) (GR : FnOk P w K mg base CX0 k fR fdR ["self", "block", "brought"] (spDoRows K C))
    (mB' : Meth K C "block_behind" fB) (bB : Binds K fdB ["self", "end"] []) (GB : FnOk P w K mg base CX0 k fB fdB ["self", "end"] (spBehind K C))
    (mT : Meth K C "brought_by" fT) (bT : Binds K fdT ["self", "lead", "block"] []) (GT : FnOk P w K mg base CX0 k fT fdT ["self", "lead", "block"] (spBrt K C)) : FnOk P w K mg base CX0 (k + 1) f fd ["self"] (spGoOn K C) := by
  refine F.ok scGoOn (fun vs H Q E h => ?_) (fun cdv A outer s H vs Q E hr h => ?_)
  · obtain ⟨I, p, A, pr, tk, rfl, _⟩ := h
    rfl
  · obtain ⟨I, p, A, pr, tk, rfl, hM, hE, hmo, q⟩ := h
    refine ⟨_, pss_cons (ps_set (i := 1) scGoOn.nd rfl (.inl rfl) pe_int)
      (pss_cons (ps_set (i := 2) scGoOn.nd rfl (.inl rfl) (pe_lst pa_nil))
      (pss_cons (ps_while PassesOwn.never (pt_cmpR op_lt (pe_fld (pv 0) rfl) (pe_fld (pv 0) rfl) (nomark _))
        (pss_cons (ps_fldaug (pv 0) pe_int in_add)
        (pss_cons (ps_expr (pe_bm PySem.F.plainAttrs_list PySem.F.slot_list_append PySem.F.type_list_append mt_append (pe_fld (pv 0) rfl) (pa_cons (pv 1) pa_nil)))
        (pss_cons (ps_set (i := 3) scGoOn.nd rfl (.inl rfl) (pe_meth (pv 0) T.cl mR GR hr bR .nil pass0 (pa_cons (pv 1) (pa_cons (pv 2) pa_nil))))
        (pss_cons (ps_if (pt_cmpR op_ne (pv 3) pe_str (nomark _)) (pss_one (ps_ret (pv 3))) pss_nil)
        (pss_cons (ps_set (i := 4) scGoOn.nd rfl (.inl rfl) (pe_ix ix_tup (pe_ix ix_list (pe_fld (pv 0) rfl) (pv 1) (fun _ _ => rfl)) pe_int (fun _ _ => rfl)))
        (pss_cons (ps_if (pt_cmpR op_eq (pe_ix ix_tup (pv 4) pe_int (fun _ _ => rfl)) pe_str (nomark _)) (pss_one (ps_ret pe_str)) pss_nil)
        (pss_cons (ps_set (i := 5) scGoOn.nd rfl (.inl rfl) (pv 1))
        (pss_cons (ps_set (i := 1) scGoOn.nd rfl (.inl rfl) (pe_meth (pv 0) T.cl mB' GB hr bB .nil pass0 (pa_cons (pv 4) pa_nil)))
        (pss_one (ps_set (i := 2) scGoOn.nd rfl (.inl rfl) (pe_meth (pv 0) T.cl mT GT hr bT .nil pass0 (pa_cons (pv 5) (pa_cons (pv 1) pa_nil))))))))))))))
      (pss_one (ps_ret pe_str)))), ?_⟩
    refine ⟨Nat.zero_le _, fun b0 nb0 => ?_⟩
    have sb := new_same (o := .lst []) nb0
    have eb : upd H b0 (.lst []) b0 = some (.lst (([] : List Int).map V.int)) := upd_same
    have hM0 := hM.same sb
    have hfr := hM.fresh nb0
    have hI0 : I b0 = none := hM.sI.free nb0
    generalize upd H b0 (.lst []) = H0 at eb hM0
    refine ⟨fun mm σ H1 => ∃ (n b : Nat) (bp : Addr) (bl : List Int) (s1 : MSt) (y3 y4 y5 : Option V), mm = A.most - n ∧ σ = [some (.ref p), some (iv b), some (.ref bp), y3, y4, y5] ∧ n ≤ A.most ∧ MAt K C I H1 p A n s1 ∧ StOk s1 (rowsL pr).length n ∧ itC pr tk n (.come 0 [] (MSt.first pr)) = .come b bl s1 ∧ b < pr.length ∧
      H1 bp = some (.lst (bl.map V.int)) ∧ bp ∉ [p, A.la, A.ro, A.wy, A.te, A.dn] ∧ I bp = none ∧ (∀ i, i < (rowsB pr b).length → mB (rowsB pr b) i = true → i < bl.length),
      ⟨_, 0, 0, b0, [], MSt.first pr, none, none, none, rfl, rfl, Nat.zero_le _, hM0, first_ok pr, rfl, hE.l1, eb, hfr, hI0, fun i h1 h2 => (no_m0 hE.l1 hE.px hE.nx h1 h2).elim⟩, fun mm σ H1 hW => ?_⟩
    obtain ⟨n, b, bp, bl, s1, y3, y4, y5, rfl, rfl, hn, hM1, hS1, hit, hb, ebp, hbf, hIb, hbl⟩ := hW
    refine ⟨.ref p, rfl, p, C, A.dx, _, _, rfl, hM1.ob, T.cl, T.steps, mf_steps _ _, .ref p, rfl, p, C, A.dx, _, _, rfl, hM1.ob, T.cl, T.most, mf_most _ _, _, _, rfl, rfl, _, rfl, ite2 (fun e => ?_) (fun e => ?_)⟩
    · have e1 : (n : Int) < (A.most : Int) := of_decide_eq_true e
      have hn1 : n < A.most := by omega
      refine ⟨fun σ' H' => ∃ m', m' < A.most - n ∧ ∃ (n b : Nat) (bp : Addr) (bl : List Int) (s1 : MSt) (y3 y4 y5 : Option V), m' = A.most - n ∧ σ' = [some (.ref p), some (iv b), some (.ref bp), y3, y4, y5] ∧ n ≤ A.most ∧ MAt K C I H' p A n s1 ∧ StOk s1 (rowsL pr).length n ∧ itC pr tk n (.come 0 [] (MSt.first pr)) = .come b bl s1 ∧ b < pr.length ∧
        H' bp = some (.lst (bl.map V.int)) ∧ bp ∉ [p, A.la, A.ro, A.wy, A.te, A.dn] ∧ I bp = none ∧ (∀ i, i < (rowsB pr b).length → mB (rowsB pr b) i = true → i < bl.length), fun σ' H' h => h, ?_⟩
      refine ⟨.ref p, rfl, p, C, A.dx, _, _, rfl, hM1.ob, T.cl, T.steps, mf_steps _ _, _, _, rfl, rfl, A.dx, _, hM1.ob, (by show 11 < 1000; decide), ?_⟩
      have hM2 : MAt K C I (upd H1 p (.ins C A.dx (putF "steps" (V.int ((n : Int) + 1)) (mf A n)))) p A (n + 1) s1 := hM1.setN (n + 1)
      have npb : bp ≠ p := fun z => hbf (by rw [z]; simp)
      have nwb : bp ≠ A.wy := fun z => hbf (by rw [z]; simp)
      have ebp2 : upd H1 p (.ins C A.dx (putF "steps" (V.int ((n : Int) + 1)) (mf A n))) bp = some (.lst (bl.map V.int)) := by rw [upd_ne npb]; exact ebp
      have hlw := hS1.lw
      refine ⟨.ref p, rfl, p, C, A.dx, _, _, rfl, hM2.ob, T.cl, T.way, mf_way _ _, .inl ⟨rfl, _, sqL hM2.wy⟩, iv b, rfl, A.wy, _, _, rfl, rfl, hM2.wy, by rw [List.length_map]; exact szt (by omega), ?_⟩
      have ew : s1.way.map iv ++ [iv b] = (s1.way ++ [b]).map iv := by rw [List.map_append]; rfl
      rw [ew]
      have hM3 := hM2.setWy (s1.way ++ [b])
      have ebp3 : upd (upd H1 p (.ins C A.dx (putF "steps" (V.int ((n : Int) + 1)) (mf A n)))) A.wy (.lst ((s1.way ++ [b]).map iv)) bp = some (.lst (bl.map V.int)) := by rw [upd_ne nwb]; exact ebp2
      generalize upd (upd H1 p (.ins C A.dx (putF "steps" (V.int ((n : Int) + 1)) (mf A n)))) A.wy (.lst ((s1.way ++ [b]).map iv)) = H3 at hM3 ebp3
      have hS3 : StOk { s1 with way := s1.way ++ [b] } (rowsL pr).length (n + 1) := ⟨hS1.ll, hS1.lr, hS1.bd, by show (s1.way ++ [b]).length ≤ n + 1; rw [List.length_append, List.length_singleton]; omega, Nat.le_succ_of_le hS1.lt, Nat.le_succ_of_le hS1.ld⟩
      have hit1 : itC pr tk (n + 1) (.come 0 [] (MSt.first pr)) = norm pr b 0 bl { s1 with way := s1.way ++ [b] } := by rw [itC_succ, hit]; rfl
      generalize hs3 : ({ s1 with way := s1.way ++ [b] } : MSt) = s3 at hM3 hS3 hit1
      have sII : Same I (upd I bp (.lst (bl.map V.int))) := new_same hIb
      refine ⟨.ref p, rfl, p, A.dx, _, rfl, hM3.ob, rfl, iv b, rfl, .ref bp, rfl, upd I bp (.lst (bl.map V.int)), p, A, n + 1, s3, pr, tk, b, bp, bl, rfl, hM3.ext ebp3 hbf, hE.same sII, hS3, hn1, hmo, hb, sqL upd_same, hbl, fun i s4 H4 wd hM4 hit4 hS4 hn4 hcase => ?_⟩
      have hM4' := hM4.sub sII
      have hitA : itC pr tk (n + 1 + i) (.come 0 [] (MSt.first pr)) = norm pr b i bl s4 := by rw [itC_add, hit1, hit4]
      have hrun : ∀ j, n + 1 + i + j = A.most → runC pr tk A.most = itC pr tk j (norm pr b i bl s4) := fun j hj => by
        unfold runC
        rw [← hj, itC_add, hitA]
      have hld := hS4.ld
      rcases hcase with ⟨rfl, rfl⟩ | ⟨rfl, h1, h2⟩ | ⟨rfl, h1, h2, h3⟩
      · -- done
        refine ⟨_, rfl, rfl, _, rfl, iteNS rfl ?_⟩
        obtain ⟨pp, bs, pb, ra, ea, vs, hpv, g1, g2, g3, g4, g5, g6⟩ := hE.prog.blk hb
        refine ⟨.ref p, rfl, p, C, A.dx, _, _, rfl, hM4'.ob, T.cl, T.program, mf_program _ _, iv b, rfl, pp, bs, _, .ref pb, hpv, rfl, hM4'.sI.seq g1, atI_nat g2, pb, _, _, ea, rfl, rfl, Same.tup hM4'.sI g3, atI_nat (j := 1) rfl, ?_⟩
        have hea : EnAt K H4 ea (endB pr b) := g6.mv (Same.tup hM4'.sI)
        have heo : EnOk pr.length (rowsL pr).length (endB pr b) := (hE.px.rb _ (blkMem hb)).2
        have hnn : norm pr b (rowsB pr b).length bl s4 = match nextB s4 (endB pr b) with | none => .ended s4 | some c => .come c (brt pr b c s4) s4 := by
          unfold norm
          rw [if_neg (Nat.lt_irrefl _)]
          all_goals (cases nextB s4 (endB pr b) <;> rfl)
        have hnmz : ∀ c, nextB s4 (endB pr b) = some c → c ∈ (endB pr b).names ∧ c < pr.length := fun c hc => by
          cases he : endB pr b with
          | go d =>
            rw [he] at hc heo
            have : d = c := Option.some.inj hc
            subst this
            exact ⟨List.mem_singleton.mpr rfl, heo.2⟩
          | iff r d e =>
            rw [he] at hc heo
            have : (if LI s4.lasts r ≠ 0 then d else e) = c := Option.some.inj hc
            obtain ⟨_, _, o3, _, o5, _⟩ := heo
            by_cases hz : LI s4.lasts r ≠ 0
            · rw [if_pos hz] at this; subst this; exact ⟨by simp [En.names], o3⟩
            · rw [if_neg hz] at this; subst this; exact ⟨by simp [En.names], o5⟩
          | fin => rw [he] at hc; cases hc
        obtain ⟨pe, rfl, hpe⟩ := hea.at
        refine ⟨.ref pe, rfl, pe, _, _, _, rfl, rfl, hpe, atI_nat (j := 0) rfl, rfl, _, rfl, ite2 (fun ee => ?_) (fun ee => ?_)⟩
        · have hf : endB pr b = .fin := by
            have hw : (endB pr b).word = "end" := V.str.inj (of_decide_eq_true ee)
            cases he : endB pr b with
            | go d => rw [he] at hw; exact absurd hw (show ¬ (("go" : Str) = "end") by decide +kernel)
            | iff r d e => rw [he] at hw; exact absurd hw (show ¬ (("if" : Str) = "end") by decide +kernel)
            | fin => rfl
          have hend : norm pr b (rowsB pr b).length bl s4 = .ended s4 := by rw [hnn, hf]; rfl
          have hr1 : runC pr tk A.most = .ended s4 := by
            rw [hrun (A.most - (n + 1 + (rowsB pr b).length)) (by omega), hend]
            exact itC_ended _ _
          have := q H4 (n + 1 + (rowsB pr b).length) (by rw [hr1]; exact hM4') (by rw [hr1]; show s4.done.length ≤ 30000; omega)
          rw [hr1] at this
          exact this
        · obtain ⟨c, hc⟩ : ∃ c, nextB s4 (endB pr b) = some c := by
            cases he : endB pr b with
            | go d => exact ⟨_, rfl⟩
            | iff r d e => exact ⟨_, rfl⟩
            | fin => rw [he] at ee; exact absurd (decide_eq_true rfl) ee
          obtain ⟨hcn, hcl⟩ := hnmz c hc
          refine ⟨iv b, rfl, ?_⟩
          refine ⟨.ref p, rfl, p, A.dx, _, rfl, hM4'.ob, rfl, .ref pe, rfl, I, p, A, n + 1 + (rowsB pr b).length, s4, .ref pe, endB pr b, c, pr.length, (rowsL pr).length, _, rfl, hM4', hS4, hea, heo, hc, ?_⟩
          refine ⟨.ref p, rfl, p, A.dx, _, rfl, hM4'.ob, rfl, iv b, rfl, iv c, rfl, I, p, A, n + 1 + (rowsB pr b).length, s4, pr, tk, b, c, _, rfl, hM4', hE, hS4, hb, hcl, hcn, fun bp2 H5 nb2 s5 eb2 => ?_⟩
          refine ⟨A.most - (n + 1 + (rowsB pr b).length), by omega, n + 1 + (rowsB pr b).length, c, bp2, brt pr b c s4, s4, _, _, _, rfl, rfl, hn4, hM4'.same s5, hS4, by rw [hitA, hnn, hc], hcl, eb2, hM4'.fresh nb2, hM4'.sI.free nb2, fun i hi hm => brt_len (hE.px.ma _ (blkMem hcl)) hi hm⟩
      · -- going
        refine ⟨_, rfl, rfl, _, rfl, ?_⟩
        have hr1 : runC pr tk A.most = .row b i bl s4 := by
          rw [hrun 0 (by omega)]
          show norm pr b i bl s4 = _
          unfold norm
          rw [if_pos h2]
        have := q H4 _ (by rw [hr1]; exact hM4') (by rw [hr1]; show s4.done.length ≤ 30000; omega)
        rw [hr1] at this
        exact ⟨_, rfl, this⟩
      · -- great
        refine ⟨_, rfl, rfl, _, rfl, ?_⟩
        have hr1 : runC pr tk A.most = .great s4 := by
          rw [hrun (A.most - (n + 1 + i)) (by omega)]
          obtain ⟨j, hj⟩ : ∃ j, A.most - (n + 1 + i) = j + 1 := ⟨A.most - (n + 1 + i) - 1, by omega⟩
          rw [hj]
          show itC pr tk j (stepC pr tk (norm pr b i bl s4)) = _
          have : norm pr b i bl s4 = .row b i bl s4 := by unfold norm; rw [if_pos h2]
          rw [this]
          show itC pr tk j (if too (wAt pr tk b i bl s4) = true then Cfg.great s4 else _) = _
          rw [if_pos h3]
          exact itC_great _ _
        have := q H4 _ (by rw [hr1]; exact hM4') (by rw [hr1]; show s4.done.length ≤ 30000; omega)
        rw [hr1] at this
        exact ⟨_, rfl, this⟩
    · have e1 : ¬ (n : Int) < (A.most : Int) := fun z => e (decide_eq_true z)
      have hne : n = A.most := by omega
      have hr1 : runC pr tk A.most = .come b bl s1 := by unfold runC; rw [← hne]; exact hit
      have hld := hS1.ld
      have := q H1 n (by rw [hr1]; exact hM1) (by rw [hr1]; show s1.done.length ≤ 30000; omega)
      rw [hr1] at this
      exact this
end
end Gn
set_option Elab.async false
set_option linter.all false
set_option maxRecDepth 100000
set_option maxHeartbeats 8000000
namespace Gn
open PySem PySem.Spec PyProof.Rows L2
/-! ### Machine(..), run -/
theorem bgn_succ {pr : List Blk} {i : Nat} (hi : i < pr.length) : bgn pr (i + 1) = bgn pr i + (rowsB pr i).length := by
  unfold bgn
  rw [rows_take (blkAt hi), List.length_append]
theorem bgn_succ' {pr : List Blk} {i : Nat} {rs : List Rw} {vs : List V} (h : rowsB pr i = rs) (hv : vs.length = rs.length) (hi : i < pr.length) : bgn pr (i + 1) = bgn pr i + vs.length := by
  rw [bgn_succ hi, h, hv]
theorem bgn_all (pr : List Blk) : bgn pr pr.length = (rowsL pr).length := by unfold bgn; rw [List.take_length]
theorem rep0 (k : Nat) : (List.replicate k [V.int 0]).flatten = (List.replicate k (0 : Int)).map V.int := by
  induction k with
  | zero => rfl
  | succ k ih => rw [List.replicate_succ, List.replicate_succ, List.flatten_cons, List.map_cons, ih]; rfl
structure PureOk (pr : List Blk) (tk : List Int) : Prop where
  tl : tk.length = 6
  tb : ∀ x ∈ tk, -GT40 ≤ x ∧ x ≤ GT40
  l1 : 1 ≤ pr.length
  l2 : pr.length ≤ 12
  px : PrX pr.length pr
  nx : NxOk pr.length (pr.map fun b => b.2.names)
  rl : ∀ b ∈ pr, b.1.length ≤ 130
theorem names_two (e : En) : e.names.length ≤ 2 := by cases e <;> simp [En.names]
theorem names_ok {m n : Nat} {e : En} (h : EnOk m n e) : ∀ y ∈ e.names, y < m := fun y hy => by
  cases e with
  | go b => rw [List.mem_singleton.mp hy]; exact h.2
  | iff r b c =>
    obtain ⟨_, _, h3, _, h5, _⟩ := h
    have hy2 : y = b ∨ y = c := by simpa [En.names] using hy
    rcases hy2 with rfl | rfl
    · exact h3
    · exact h5
  | fin => cases hy
theorem rowsL_le {n : Nat} : ∀ {pr : List Blk}, (∀ b ∈ pr, b.1.length ≤ n) → (rowsL pr).length ≤ pr.length * n
  | [], _ => by simp [rowsL]
  | b :: bs, h => by
    have h1 := rowsL_le (pr := bs) fun c hc => h c (List.mem_cons_of_mem _ hc)
    have h2 := h b List.mem_cons_self
    unfold rowsL at h1 ⊢
    rw [List.map_cons, List.flatten_cons, List.length_append, List.length_cons, Nat.succ_mul]
    omega
def spMInit (K : PySem.W.Frag) (C : Addr) : Sp := fun vs H Q _ => ∃ (H0 : Hp) (p dx tka : Addr) (v : V) (most : Nat) (pr : List Blk) (tk : List Int), vs = [.ref p, v, .ref tka, iv most] ∧ Same H0 H ∧ H0 p = none ∧ H p = some (.ins C dx []) ∧ ProgAt K H0 v pr ∧ SqL K H0 tka (tk.map V.int) ∧ PureOk pr tk ∧
  ∀ (I : Hp) (A : MAd) (H' : Hp), Same H0 I → A.most = most → MAt K C I H' p A 0 (MSt.first pr) → EnvOk K I A pr tk → Q .non H'
abbrev nMInit : List Str := ["self", "program", "takes", "most", "rows", "end"]
theorem scMInit : FnScope nMInit ["self", "program", "takes", "most"] (defScope sMInit) := ⟨rfl, rfl, rfl, by decide +kernel, rfl, by decide +kernel, by decide +kernel⟩
def spRun (K : PySem.W.Frag) : Sp := fun vs H Q _ => ∃ (tka : Addr) (v : V) (most : Nat) (pr : List Blk) (tk : List Int), vs = [v, .ref tka, iv most] ∧ ProgAt K H v pr ∧ SqL K H tka (tk.map V.int) ∧ PureOk pr tk ∧ most ≤ 30000 ∧
  ∀ (q te dn : Addr) (ds : List V) (H' : Hp), Same H H' → H q = none → H te = none → H dn = none → te ≠ dn → SqT K H' q [.str (runC pr tk most).word, .ref te, .ref dn] → H' te = some (.lst ((runC pr tk most).st.told.map V.int)) → H' dn = some (.lst ds) → Paired (DnAt K H') ds (runC pr tk most).st.done → (runC pr tk most).st.done.length ≤ 30000 → Q (.ref q) H'
abbrev nRun : List Str := ["program", "takes", "most", "machine", "state"]
theorem scRun : FnScope nRun ["program", "takes", "most"] (defScope sRun) := ⟨rfl, rfl, rfl, by decide +kernel, rfl, by decide +kernel, by decide +kernel⟩
/-- a field set to a new list -/
theorem fld_but {C dx p l : Addr} {H : Hp} {fs : List (Str × V)} {xs : List V} (nl : H l = none) : But p H (upd (upd H l (.lst xs)) p (.ins C dx fs)) := fun a o n e => by
  rw [upd_ne n, upd_ne (ne_of_none e nl)]
  exact e
theorem fld_but2 {C dx p l l2 : Addr} {H : Hp} {fs : List (Str × V)} {xs ys : List V} (nl : H l = none) (nl2 : upd H l (.lst xs) l2 = none) : But p H (upd (upd (upd H l (.lst xs)) l2 (.lst ys)) p (.ins C dx fs)) := fun a o n e => by
  have e1 : upd H l (.lst xs) a = some o := by rw [upd_ne (ne_of_none e nl)]; exact e
  rw [upd_ne n, upd_ne (ne_of_none e1 nl2)]
  exact e1
section
variable {P : Program} {w : World} {K : PySem.W.Frag} {mg : Str → Option Value} {base : Heap}
theorem ok_minit {f C fL : Addr} {fd fdL : FuncData} {t6 : Tok} {k : Nat} (F : Fun K "__init__" "Machine.__init__" sMInit f fd) (T : MTxt K mg C) (B : Bi mg) (h6 : mg "ROOMS" = some (.int 6 t6))
    (DL : Df K mg "leads_of" sLeadsOf ["program"] fL fdL) (GL : FnOk P w K mg base CX0 k fL fdL ["program"] (spLeadsOf K)) : FnOk P w K mg base CX0 (k + 1) f fd ["self", "program", "takes", "most"] (spMInit K C) := by
  refine F.ok scMInit (fun vs H Q E h => ?_) (fun cdv A outer s H vs Q E hr h => ?_)
  · obtain ⟨H0, p, dx, tka, v, most, pr, tk, rfl, _⟩ := h
    rfl
  · obtain ⟨H0, p, dx, tka, v, most, pr, tk, rfl, s0, p0, hp, hP, hT, hO, q⟩ := h
    refine ⟨_, pss_cons (ps_fld (pv 0) (pv 1) rfl) (pss_cons (ps_fld (pv 0) (pv 2) rfl) (pss_cons (ps_fld (pv 0) (pv 3) rfl)
      (pss_cons (ps_fld (pv 0) (pe_call GL hr (by rfl) DL.g DL.F.kp DL.b .nil pass0 (pa_cons (pv 1) pa_nil)) rfl)
      (pss_cons (ps_fld (pv 0) (pe_lst (pa_cons pe_int pa_nil)) rfl)
      (pss_cons (ps_for PassesOwn.never rfl (pi_list (pv 1)) (pg_tup rfl (pgs_cons (pg_name (i := 4) scMInit.nd rfl (.inl rfl)) (pgs_cons (pg_name (i := 5) scMInit.nd rfl (.inl rfl)) pgs_nil)))
        (pss_one (ps_expr (pe_bm PySem.F.plainAttrs_list PySem.F.slot_list_append PySem.F.type_list_append mt_append (pe_fld (pv 0) rfl) (pa_cons (pe_op op_add (pe_ix ix_list (pe_fld (pv 0) rfl) (pe_un un_neg pe_int) (fun _ _ => rfl)) (pe_callB call_len_seq (by rfl) B.len PySem.boot_len (pa_cons (pv 4) pa_nil))) pa_nil)))))
      (pss_cons (ps_fld (pv 0) pe_int rfl)
      (pss_cons (ps_fld (pv 0) (pe_op op_rep (pe_lst (pa_cons pe_int pa_nil)) (pe_ix ix_list (pe_fld (pv 0) rfl) (pe_un un_neg pe_int) (fun _ _ => rfl))) rfl)
      (pss_cons (ps_fld (pv 0) (pe_op op_rep (pe_lst (pa_cons pe_int pa_nil)) (pe_glob (v := .int 6) (by rfl) h6 ⟨_, rfl⟩)) rfl)
      (pss_cons (ps_fld (pv 0) (pe_lst pa_nil) rfl) (pss_cons (ps_fld (pv 0) (pe_lst pa_nil) rfl) (pss_one (ps_fld (pv 0) (pe_lst pa_nil) rfl)))))))))))), ?_⟩
    refine ⟨v, rfl, .ref p, rfl, p, C, dx, [], rfl, hp, T.cl, T.program, (by show 0 < 1000; decide), ?_⟩
    refine ⟨.ref tka, rfl, .ref p, rfl, p, C, dx, _, rfl, upd_same, T.cl, T.takes, (by show 1 < 1000; decide), ?_⟩
    refine ⟨iv most, rfl, .ref p, rfl, p, C, dx, _, rfl, upd_same, T.cl, T.most, (by show 2 < 1000; decide), ?_⟩
    generalize hf3 : putF "most" (iv most) (putF "takes" (V.ref tka) (putF "program" v [])) = f3
    have s1 : Same H0 (upd (upd (upd H p (.ins C dx (putF "program" v []))) p (.ins C dx (putF "takes" (V.ref tka) (putF "program" v [])))) p (.ins C dx f3)) := Same.upd (Same.upd (Same.upd s0 p0) p0) p0
    have e1 : upd (upd (upd H p (.ins C dx (putF "program" v []))) p (.ins C dx (putF "takes" (V.ref tka) (putF "program" v [])))) p (.ins C dx f3) p = some (.ins C dx f3) := upd_same
    generalize upd (upd (upd H p (.ins C dx (putF "program" v []))) p (.ins C dx (putF "takes" (V.ref tka) (putF "program" v [])))) p (.ins C dx f3) = H1 at s1 e1
    have hnmo : namesOk pr.length pr := fun b hb => names_ok (hO.px.rb b hb).2
    refine ⟨v, rfl, v, pr, rfl, hP.same s1, by have := hO.l2; omega, hnmo, fun b _ => names_two b.2, fun lp qs H2 s2 LL2 => ?_⟩
    have e2 := s2 _ _ e1
    refine ⟨.ref p, rfl, p, C, dx, _, rfl, e2, T.cl, T.leads, (by rw [← hf3]; show 3 < 1000; decide), ?_⟩
    -- what stays: all but the machine
    have J0 : frz [p] H2 p = none := by unfold frz; rw [if_pos (by simp)]
    have sJ : Same (frz [p] H2) H2 := frz_same _ _
    have sHJ : Same H0 (frz [p] H2) := fun a o e => frz_at (s2 _ _ (s1 _ _ e)) (by simpa using ne_of_none e p0)
    have hJL : NL K (frz [p] H2) lp ((List.range pr.length).map (spec pr pr.length)) := by
      have nlp : ∀ q ∈ lp :: qs, q ≠ p := fun q hq => (ne_of_none e1 (LL2.new q hq)).symm
      refine ⟨qs, sqL (frz_at LL2.top (by simpa using nlp lp List.mem_cons_self)), ?_⟩
      have := pd_idx (F := fun q xs => SqL K (frz [p] H2) q (xs.map iv)) (f := spec pr pr.length) (l := qs) (k := 0) fun n q e => by rw [Nat.zero_add]; exact sqL (frz_at (LL2.at_ n q e) (by simpa using nlp q (List.mem_cons_of_mem _ (List.mem_of_getElem? e))))
      rw [LL2.len, ← List.range_eq_range'] at this
      exact this
    generalize frz [p] H2 = J at J0 sJ sHJ hJL
    generalize hf4 : putF "leads" (V.ref lp) f3 = f4
    have s3 := Same.upd (o := .ins C dx f4) sJ J0
    have e3 : upd H2 p (.ins C dx f4) p = some (.ins C dx f4) := upd_same
    generalize upd H2 p (.ins C dx f4) = H3 at s3 e3
    refine ⟨szl (show 1 ≤ 1000000 by decide), fun bg nbg => ?_⟩
    have nbp : p ≠ bg := ne_of_none e3 nbg
    refine ⟨.ref p, rfl, p, C, dx, _, rfl, (by rw [upd_ne nbp]; exact e3), T.cl, T.begins, (by rw [← hf4, ← hf3]; show 4 < 1000; decide), ?_⟩
    generalize hf5 : putF "begins" (V.ref bg) f4 = f5
    have b5 : But p H3 (upd (upd H3 bg (.lst [.int 0])) p (.ins C dx f5)) := fld_but nbg
    have hJbg : J bg = none := s3.free nbg
    have s5 := Same.bt s3 J0 b5
    have e5 : upd (upd H3 bg (.lst [.int 0])) p (.ins C dx f5) p = some (.ins C dx f5) := upd_same
    have g5 : upd (upd H3 bg (.lst [.int 0])) p (.ins C dx f5) bg = some (.lst ((List.range (0 + 1)).map fun b => iv (bgn pr b))) := by rw [upd_ne nbp.symm, upd_same]; rfl
    generalize upd (upd H3 bg (.lst [.int 0])) p (.ins C dx f5) = H5 at s5 e5 g5
    have lkb : f5.lookup ("begins" : Str) = some (.ref bg) := by rw [← hf5, lookup_putF, if_pos rfl]
    obtain ⟨pp, bs, hpv, hp1, hp2⟩ := hP
    have hbl : bs.length = pr.length := pd_len hp2
    subst hpv
    have hl12 := hO.l2
    have hJp : SqL K J pp bs := sHJ.seq hp1
    have hrle := rowsL_le hO.rl
    have h130 : pr.length * 130 ≤ 12 * 130 := Nat.mul_le_mul_right _ hl12
    refine ⟨.ref pp, rfl, pp, rfl, ⟨_, s5.seq hJp⟩, ?_⟩
    refine for_list (K := K) (a := pp) (xs := bs) (fun i σ H6 => ∃ y4 y5 : Option V, σ = [some (.ref p), some (.ref pp), some (.ref tka), some (iv most), y4, y5] ∧ Same J H6 ∧ H6 p = some (.ins C dx f5) ∧ H6 bg = some (.lst ((List.range (i + 1)).map fun b => iv (bgn pr b)))) ⟨none, none, rfl, s5, e5, g5⟩ (fun i σ H6 _ hP => ?_) (fun i x σ H6 hx hP => ?_) (fun σ H6 hP => ?_)
    · obtain ⟨_, _, _, s6, _⟩ := hP
      exact s6.seq hJp
    · obtain ⟨y4, y5, rfl, s6, e6, g6⟩ := hP
      have hil := (List.getElem?_eq_some_iff.mp hx).1
      obtain ⟨bk, hb1, pb, ra, ea, vs, rfl, k2, k3, k4, _⟩ := pd_at2 hp2 hx
      have hvl : vs.length = bk.1.length := pd_len k4
      have hbk : rowsB pr i = bk.1 := by unfold rowsB; rw [List.getD_eq_getElem?_getD, hb1]; rfl
      have sH6 := sHJ.trans s6
      refine ⟨pb, _, rfl, Same.tup sH6 k2, rfl, _, _, rfl, _, _, rfl, rfl, ?_⟩
      have hra6 := sH6 _ _ k3
      have hlast : atI ((List.range (i + 1)).map fun b => iv (bgn pr b)) (-1) = some (iv (bgn pr i)) := by rw [List.range_succ, List.map_append]; exact atI_last _ _
      refine ⟨.ref p, rfl, p, C, dx, _, _, rfl, e6, T.cl, T.begins, lkb, .inl ⟨rfl, _, sqL g6⟩, .ref p, rfl, p, C, dx, _, _, rfl, e6, T.cl, T.begins, lkb, _, rfl, bg, _, _, _, rfl, rfl, sqL g6, hlast, .ref ra, rfl, ra, _, rfl, .inl (sqL hra6), _, _, rfl, rfl, bg, _, _, rfl, rfl, g6, by rw [List.length_map, List.length_range]; exact szt (by omega), ?_⟩
      refine ⟨_, _, rfl, Same.upd s6 hJbg, by rw [upd_ne nbp]; exact e6, ?_⟩
      rw [upd_same, List.range_succ (n := i + 1), List.map_append]
      show some (HO.lst (List.map (fun b => iv (bgn pr b)) (List.range (i + 1)) ++ [V.int ((bgn pr i : Int) + (vs.length : Int))])) = some (HO.lst (List.map (fun b => iv (bgn pr b)) (List.range (i + 1)) ++ [iv (bgn pr (i + 1))]))
      rw [bgn_succ' hbk hvl (by omega)]
      rfl
    · obtain ⟨y4, y5, rfl, s6, e6, g6⟩ := hP
      rw [hbl] at g6
      have hlast : atI ((List.range (pr.length + 1)).map fun b => iv (bgn pr b)) (-1) = some (iv (rowsL pr).length) := by
        rw [List.range_succ, List.map_append, ← bgn_all]; exact atI_last _ _
      refine ⟨.ref p, rfl, p, C, dx, _, rfl, e6, T.cl, T.steps, (by rw [← hf5, ← hf4, ← hf3]; show 5 < 1000; decide), ?_⟩
      generalize hf7 : putF "steps" (V.int 0) f5 = f7
      have b7 : But p H6 (upd H6 p (.ins C dx f7)) := But.upd
      have s7 := Same.bt s6 J0 b7
      have e7 : upd H6 p (.ins C dx f7) p = some (.ins C dx f7) := upd_same
      have g7 := b7 _ _ nbp.symm g6
      generalize upd H6 p (.ins C dx f7) = H7 at s7 e7 g7
      have lkb7 : f7.lookup ("begins" : Str) = some (.ref bg) := by rw [← hf7, lookup_putF, if_neg (by decide +kernel)]; exact lkb
      -- lasts
      refine ⟨szl (show 1 ≤ 1000000 by decide), fun l1 nl1 => ?_⟩
      have t1 := new_same (o := .lst [.int 0]) nl1
      refine ⟨.ref p, rfl, p, C, dx, _, _, rfl, t1 _ _ e7, T.cl, T.begins, lkb7, _, rfl, bg, _, _, _, rfl, rfl, sqL (t1 _ _ g7), hlast, l1, _, _, rfl, rfl, upd_same, by omega, by omega, ?_, fun la nla => ?_⟩
      · rw [Int.toNat_natCast]
        exact szl (by show 1 * (rowsL pr).length ≤ 1000000; omega)
      rw [Int.toNat_natCast, rep0]
      have npla : p ≠ la := ne_of_none (t1 _ _ e7) nla
      have nbla : bg ≠ la := ne_of_none (t1 _ _ g7) nla
      have n7la : H7 la = none := t1.free nla
      refine ⟨.ref p, rfl, p, C, dx, _, rfl, (by rw [upd_ne npla]; exact t1 _ _ e7), T.cl, T.lasts, (by rw [← hf7, ← hf5, ← hf4, ← hf3]; show 6 < 1000; decide), ?_⟩
      generalize hf8 : putF "lasts" (V.ref la) f7 = f8
      have b8 : But p H7 (upd (upd (upd H7 l1 (.lst [.int 0])) la (.lst ((List.replicate (rowsL pr).length (0 : Int)).map V.int))) p (.ins C dx f8)) := fld_but2 nl1 nla
      have e8 : upd (upd (upd H7 l1 (.lst [.int 0])) la (.lst ((List.replicate (rowsL pr).length (0 : Int)).map V.int))) p (.ins C dx f8) p = some (.ins C dx f8) := upd_same
      have la8 : upd (upd (upd H7 l1 (.lst [.int 0])) la (.lst ((List.replicate (rowsL pr).length (0 : Int)).map V.int))) p (.ins C dx f8) la = some (.lst ((List.replicate (rowsL pr).length (0 : Int)).map V.int)) := by rw [upd_ne npla.symm, upd_same]
      generalize upd (upd (upd H7 l1 (.lst [.int 0])) la (.lst ((List.replicate (rowsL pr).length (0 : Int)).map V.int))) p (.ins C dx f8) = H8 at b8 e8 la8
      have s8 := Same.bt s7 J0 b8
      have g8 := b8 _ _ nbp.symm g7
      -- rooms
      refine ⟨szl (show 1 ≤ 1000000 by decide), fun l2 nl2 => ?_⟩
      have t2 := new_same (o := .lst [.int 0]) nl2
      refine ⟨l2, _, _, rfl, rfl, upd_same, by decide, by decide, szl (show 1 * 6 ≤ 1000000 by decide), fun ro nro => ?_⟩
      have e66 : (List.replicate (Int.toNat 6) [V.int 0]).flatten = (List.replicate 6 (0 : Int)).map V.int := rep0 6
      rw [e66]
      have npro : p ≠ ro := ne_of_none (t2 _ _ e8) nro
      refine ⟨.ref p, rfl, p, C, dx, _, rfl, (by rw [upd_ne npro]; exact t2 _ _ e8), T.cl, T.rooms, (by rw [← hf8, ← hf7, ← hf5, ← hf4, ← hf3]; show 7 < 1000; decide), ?_⟩
      generalize hf9 : putF "rooms" (V.ref ro) f8 = f9
      have b9 : But p H8 (upd (upd (upd H8 l2 (.lst [.int 0])) ro (.lst ((List.replicate 6 (0 : Int)).map V.int))) p (.ins C dx f9)) := fld_but2 nl2 nro
      have e9 : upd (upd (upd H8 l2 (.lst [.int 0])) ro (.lst ((List.replicate 6 (0 : Int)).map V.int))) p (.ins C dx f9) p = some (.ins C dx f9) := upd_same
      have ro9 : upd (upd (upd H8 l2 (.lst [.int 0])) ro (.lst ((List.replicate 6 (0 : Int)).map V.int))) p (.ins C dx f9) ro = some (.lst ((List.replicate 6 (0 : Int)).map V.int)) := by rw [upd_ne npro.symm, upd_same]
      have n8ro : H8 ro = none := t2.free nro
      generalize upd (upd (upd H8 l2 (.lst [.int 0])) ro (.lst ((List.replicate 6 (0 : Int)).map V.int))) p (.ins C dx f9) = H9 at b9 e9 ro9
      have s9 := Same.bt s8 J0 b9
      have g9 := b9 _ _ nbp.symm g8
      have la9 := b9 _ _ npla.symm la8
      -- way
      refine ⟨Nat.zero_le _, fun wy nwy => ?_⟩
      have npwy : p ≠ wy := ne_of_none e9 nwy
      refine ⟨.ref p, rfl, p, C, dx, _, rfl, (by rw [upd_ne npwy]; exact e9), T.cl, T.way, (by rw [← hf9, ← hf8, ← hf7, ← hf5, ← hf4, ← hf3]; show 8 < 1000; decide), ?_⟩
      generalize hfa : putF "way" (V.ref wy) f9 = fa
      have ba : But p H9 (upd (upd H9 wy (.lst [])) p (.ins C dx fa)) := fld_but nwy
      have ea : upd (upd H9 wy (.lst [])) p (.ins C dx fa) p = some (.ins C dx fa) := upd_same
      have wya : upd (upd H9 wy (.lst [])) p (.ins C dx fa) wy = some (.lst []) := by rw [upd_ne npwy.symm, upd_same]
      generalize upd (upd H9 wy (.lst [])) p (.ins C dx fa) = Ha at ba ea wya
      have sa := Same.bt s9 J0 ba
      have ga := ba _ _ nbp.symm g9
      have laa := ba _ _ npla.symm la9
      have roa := ba _ _ npro.symm ro9
      -- told
      refine ⟨Nat.zero_le _, fun te nte => ?_⟩
      have npte : p ≠ te := ne_of_none ea nte
      refine ⟨.ref p, rfl, p, C, dx, _, rfl, (by rw [upd_ne npte]; exact ea), T.cl, T.told, (by rw [← hfa, ← hf9, ← hf8, ← hf7, ← hf5, ← hf4, ← hf3]; show 9 < 1000; decide), ?_⟩
      generalize hfb : putF "told" (V.ref te) fa = fb
      have bb : But p Ha (upd (upd Ha te (.lst [])) p (.ins C dx fb)) := fld_but nte
      have eb : upd (upd Ha te (.lst [])) p (.ins C dx fb) p = some (.ins C dx fb) := upd_same
      have teb : upd (upd Ha te (.lst [])) p (.ins C dx fb) te = some (.lst []) := by rw [upd_ne npte.symm, upd_same]
      generalize upd (upd Ha te (.lst [])) p (.ins C dx fb) = Hb at bb eb teb
      have sb := Same.bt sa J0 bb
      have gb := bb _ _ nbp.symm ga
      have lab := bb _ _ npla.symm laa
      have rob := bb _ _ npro.symm roa
      have wyb := bb _ _ npwy.symm wya
      -- done
      refine ⟨Nat.zero_le _, fun dn ndn => ?_⟩
      have npdn : p ≠ dn := ne_of_none eb ndn
      refine ⟨.ref p, rfl, p, C, dx, _, rfl, (by rw [upd_ne npdn]; exact eb), T.cl, T.done, (by rw [← hfb, ← hfa, ← hf9, ← hf8, ← hf7, ← hf5, ← hf4, ← hf3]; show 10 < 1000; decide), ?_⟩
      have bc : But p Hb (upd (upd Hb dn (.lst [])) p (.ins C dx (putF "done" (V.ref dn) fb))) := fld_but ndn
      have dnc : upd (upd Hb dn (.lst [])) p (.ins C dx (putF "done" (V.ref dn) fb)) dn = some (.lst []) := by rw [upd_ne npdn.symm, upd_same]
      have ec : upd (upd Hb dn (.lst [])) p (.ins C dx (putF "done" (V.ref dn) fb)) p = some (.ins C dx (mf ⟨.ref pp, tka, most, lp, bg, la, ro, wy, te, dn, dx⟩ 0)) := by
        rw [upd_same, ← hfb, ← hfa, ← hf9, ← hf8, ← hf7, ← hf5, ← hf4, ← hf3]
        rfl
      generalize upd (upd Hb dn (.lst [])) p (.ins C dx (putF "done" (V.ref dn) fb)) = Hc at bc dnc ec
      have sc := Same.bt sb J0 bc
      have sI : Same (upd J bg (.lst ((List.range (pr.length + 1)).map fun b => iv (bgn pr b)))) Hc := fun a o e => by
        by_cases z : a = bg
        · subst z
          rw [upd_same] at e
          rw [← e]
          exact bc _ _ nbp.symm gb
        · rw [upd_ne z] at e
          exact sc _ _ e
      have sJI : Same J (upd J bg (.lst ((List.range (pr.length + 1)).map fun b => iv (bgn pr b)))) := new_same hJbg
      have nI : ∀ {a : Addr}, J a = none → a ≠ bg → upd J bg (.lst ((List.range (pr.length + 1)).map fun b => iv (bgn pr b))) a = none := fun {a} h1 h2 => by rw [upd_ne h2]; exact h1
      have n8la := b8
      have nrola : la ≠ ro := ne_of_none la8 n8ro
      have nwyla : la ≠ wy := ne_of_none la9 nwy
      have nwyro : ro ≠ wy := ne_of_none ro9 nwy
      have ntela : la ≠ te := ne_of_none laa nte
      have ntero : ro ≠ te := ne_of_none roa nte
      have ntewy : wy ≠ te := ne_of_none wya nte
      have ndnla : la ≠ dn := ne_of_none lab ndn
      have ndnro : ro ≠ dn := ne_of_none rob ndn
      have ndnwy : wy ≠ dn := ne_of_none wyb ndn
      have ndnte : te ≠ dn := ne_of_none teb ndn
      refine q (upd J bg (.lst ((List.range (pr.length + 1)).map fun b => iv (bgn pr b)))) ⟨.ref pp, tka, most, lp, bg, la, ro, wy, te, dn, dx⟩ Hc (sHJ.trans sJI) rfl ⟨sI, fun a ha => ?_, ?_, ec, bc _ _ npla.symm lab, bc _ _ npro.symm rob, bc _ _ npwy.symm wyb, bc _ _ npte.symm teb, [], dnc, .nil⟩ ⟨⟨pp, bs, rfl, sJI.seq hJp, pd_mono hp2 fun _ _ z => z.same (sHJ.trans sJI)⟩, (sHJ.trans sJI).seq hT, hO.tl, hO.tb, hJL.same sJI, sqL upd_same, hO.l1, hO.l2, hO.px, hO.nx, hO.rl⟩
      · simp only [List.mem_cons, List.not_mem_nil, or_false] at ha
        rcases ha with rfl | rfl | rfl | rfl | rfl | rfl
        · exact nI J0 nbp
        · exact nI (s7.free n7la) nbla.symm
        · exact nI (s8.free n8ro) (ne_of_none g8 n8ro).symm
        · exact nI (s9.free nwy) (ne_of_none g9 nwy).symm
        · exact nI (sa.free nte) (ne_of_none ga nte).symm
        · exact nI (sb.free ndn) (ne_of_none gb ndn).symm
      · simp only [List.nodup_cons, List.mem_cons, List.not_mem_nil, or_false, not_or, List.nodup_nil, and_true, not_false_eq_true]
        exact ⟨⟨npla, npro, npwy, npte, npdn⟩, ⟨nrola, nwyla, ntela, ndnla⟩, ⟨nwyro, ntero, ndnro⟩, ⟨ntewy, ndnwy⟩, ndnte⟩
theorem ok_run {f C fI fG : Addr} {fd fdI fdG : FuncData} {k : Nat} (D : Df K mg "run" sRun ["program", "takes", "most"] f fd) (T : MTxt K mg C) (M : Mk K C fI) (bI : Binds K fdI ["self", "program", "takes", "most"] []) (GI : FnOk P w K mg base CX0 k fI fdI ["self", "program", "takes", "most"] (spMInit K C))
    (mG : Meth K C "go_on" fG) (bG : Binds K fdG ["self"] []) (GG : FnOk P w K mg base CX0 (k + 1) fG fdG ["self"] (spGoOn K C)) : FnOk P w K mg base CX0 (k + 1 + 1) f fd ["program", "takes", "most"] (spRun K) := by
  refine D.F.ok scRun (fun vs H Q E h => ?_) (fun cdv A outer s H vs Q E hr h => ?_)
  · obtain ⟨tka, v, most, pr, tk, rfl, _⟩ := h
    rfl
  · obtain ⟨tka, v, most, pr, tk, rfl, hP, hT, hO, hmo, q⟩ := h
    refine ⟨_, pss_cons (ps_set (i := 3) scRun.nd rfl (.inl rfl) (pe_make M GI hr (by rfl) T.mgC bI .nil pass0 (pa_cons (pv 0) (pa_cons (pv 1) (pa_cons (pv 2) pa_nil)))))
      (pss_cons (ps_set (i := 4) scRun.nd rfl (.inl rfl) (pe_meth0 (pv 3) T.cl mG GG hr bG .nil pass0))
      (pss_one (ps_ret (pe_tup (pa_cons (pv 4) (pa_cons (pe_fld (pv 3) rfl) (pa_cons (pe_fld (pv 3) rfl) pa_nil))))))), ?_⟩
    refine ⟨v, rfl, .ref tka, rfl, iv most, rfl, ?_⟩
    intro x dx nx ndx nex
    have s0 : Same H (upd (upd H dx (.own x)) x (.ins C dx [])) := fun b o e => by
      rw [upd_ne (ne_of_none e nx), upd_ne (ne_of_none e ndx)]
      exact e
    refine ⟨H, x, dx, tka, v, most, pr, tk, rfl, s0, nx, upd_same, hP, hT, hO, fun I A H1 sI hA hM hE => ⟨rfl, ?_⟩⟩
    subst hA
    refine ⟨.ref x, rfl, x, A.dx, _, rfl, hM.ob, rfl, I, x, A, pr, tk, rfl, hM, hE, hmo, fun H2 n2 hM2 hdl => ?_⟩
    refine ⟨_, rfl, .ref x, rfl, x, C, A.dx, _, _, rfl, hM2.ob, T.cl, T.told, mf_told _ _, .ref x, rfl, x, C, A.dx, _, _, rfl, hM2.ob, T.cl, T.done, mf_done _ _, szl (show 3 ≤ 1000000 by decide), fun qa nqa => ?_⟩
    have sq := new_same (o := .tup [.str (runC pr tk A.most).word, .ref A.te, .ref A.dn]) nqa
    obtain ⟨ds, d1, d2⟩ := hM2.dn
    have sH := (sI.trans hM2.sI).trans sq
    exact q qa A.te A.dn ds _ sH ((sI.trans hM2.sI).free nqa) (sI.free (hM2.nw _ (by simp))) (sI.free (hM2.nw _ (by simp))) hM2.ne.2.2.2.2 (sqT upd_same) (sq _ _ hM2.te) (sq _ _ d1) (pd_mono d2 fun _ _ ⟨z, z1, z2⟩ => ⟨z, z1, Same.tup sq z2⟩) hdl
end
end Gn
set_option Elab.async false
set_option linter.all false
set_option maxRecDepth 100000
set_option maxHeartbeats 8000000
namespace Gn
open PySem PySem.Spec PyProof.Rows L2
/-! ### takes -/
def spTakes : Sp := fun vs H Q _ => ∃ (t : Addr) (c : Nat), vs = [.ref t] ∧ Tape H t c ∧ c + 18 ≤ 100000000 ∧
  ∀ (p : Addr) (tk : List Int) (H' : Hp), But t H H' → Tape H' t (c + 18) → H p = none → p ≠ t → H' p = some (.lst (tk.map V.int)) → tk.length = 6 → (∀ x ∈ tk, -1000 ≤ x ∧ x ≤ 10 ^ 12) → Q (.ref p) H'
abbrev nTakes : List Str := ["_law_tape_here", "_law_place"]
theorem scTakes : FnScope nTakes ["_law_tape_here"] (defScope sTakes) := ⟨rfl, rfl, rfl, by decide +kernel, rfl, by decide +kernel, by decide +kernel⟩
abbrev teTakes (K : PySem.W.Frag) : TE := tIxL K (tLst (tCons (tOp (rI0 fun i j => .int (i - j)) (tDr (tVar 0) (tC (.int 7))) (tC (.int 3))) (tCons (tOp (rI0 fun i j => .int (i - j)) (tDr (tVar 0) (tOp (rI CPow fun i j => .int (i ^ j.toNat)) (tC (.int 10)) (tC (.int 6)))) (tOp (rI CPow fun i j => .int (i ^ j.toNat)) (tC (.int 10)) (tC (.int 3)))) tNil))) (tOp (rI CDiv fun i j => .int (i / j)) (tDr (tVar 0) (tC (.int 5))) (tC (.int 4)))
section
variable {P : Program} {w : World} {K : PySem.W.Frag} {mg : Str → Option Value} {base : Heap}
theorem ok_takes {f fD : Addr} {fd fdD : FuncData} {k : Nat} (D : Df K mg "_law_takes" sTakes ["_law_tape_here"] f fd) (B : Bi mg) (DD : Df K mg "_law_draw" sDraw ["_law_tape_here", "_law_many"] fD fdD)
    (GD : FnOk P w K mg base CX0 k fD fdD ["_law_tape_here", "_law_many"] spDraw) : FnOk P w K mg base CX0 (k + 1) f fd ["_law_tape_here"] spTakes := by
  refine D.F.ok scTakes (fun vs H Q E h => ?_) (fun cdv A outer s H vs Q E hr h => ?_)
  · obtain ⟨t, c, rfl, _⟩ := h
    rfl
  · obtain ⟨t, c, rfl, hT, hc, q⟩ := h
    refine ⟨_, pss_one (ps_ret (pe_lc (own := [("_law_place", 1)]) (g := gName 1) (tt := tYes) (te := teTakes K) rfl scTakes.nd (pi_range1 (by rfl) B.range (pa_cons pe_int pa_nil))
      (blkOk_by (own := [("_law_place", 1)]) (N := nTakes) (sc := defScope sTakes) (by decide +kernel)) (fun _ _ _ _ _ => pg_name (i := 1) scTakes.nd rfl (.inl rfl)) (fun _ _ _ _ _ => pts_nil)
      (fun _ _ _ _ _ => pe_ix ix_list (pe_lst (pa_cons (pe_op op_sub (pe_call GD hr (by rfl) DD.g DD.F.kp DD.b .nil pass0 (pa_cons (pv 0) (pa_cons pe_int pa_nil))) pe_int) (pa_cons (pe_op op_sub (pe_call GD hr (by rfl) DD.g DD.F.kp DD.b .nil pass0 (pa_cons (pv 0) (pa_cons (pe_op op_pow pe_int pe_int) pa_nil))) (pe_op op_pow pe_int pe_int)) pa_nil))) (pe_op op_fdiv (pe_call GD hr (by rfl) DD.g DD.F.kp DD.b .nil pass0 (pa_cons (pv 0) (pa_cons pe_int pa_nil))) pe_int) (fun _ _ => rfl)))), ?_⟩
    refine ⟨6, rfl, by decide, by decide, fun L nL => ?_⟩
    have nLt : L ≠ t := hT.ne nL
    refine lc_range (lo := 0) (n := 6) (fun i H1 => But t H H1 ∧ Tape H1 t (c + 3 * i) ∧ ∃ tk : List Int, H1 L = some (.lst (tk.map V.int)) ∧ tk.length = i ∧ ∀ x ∈ tk, -1000 ≤ x ∧ x ≤ 10 ^ 12) ⟨Same.but (new_same nL), hT.same (new_same nL), [], upd_same, rfl, fun x h => (by cases h)⟩ (fun i H1 hi hP => ?_) (fun H1 hP => ?_)
    · obtain ⟨b1, T1, tk, eL, hl, hb⟩ := hP
      have hi6 : i < 6 := hi
      refine ⟨rfl, .ref t, rfl, t, 7, c + 3 * i, rfl, T1, by omega, by decide, by decide, fun r1 H2 h2 b2 T2 => ?_⟩
      refine ⟨_, _, rfl, rfl, .ref t, rfl, _, _, rfl, rfl, ⟨by decide, by decide, by decide⟩, t, _, c + 3 * i + 1, rfl, T2, by omega, by decide, by decide, fun r2 H3 h3 b3 T3 => ?_⟩
      refine ⟨_, _, rfl, rfl, ⟨by decide, by decide, by decide⟩, _, _, rfl, rfl, szl (show 2 ≤ 1000000 by decide), fun p np => ?_⟩
      have sp := new_same (o := .lst [.int ((r1 : Int) - 3), .int ((r2 : Int) - 10 ^ (3 : Int).toNat)]) np
      have npt : p ≠ t := T3.ne np
      refine ⟨.ref t, rfl, t, 5, c + 3 * i + 2, rfl, T3.same sp, by omega, by decide, by decide, fun r3 H4 h4 b4 T4 => ?_⟩
      have b24 : But t H1 H4 := ((b2.trans b3).trans (Same.but sp)).trans b4
      have eL4 := b24 _ _ nLt eL
      have h3' : (r2 : Int) < 1000000 := h3
      have fin : ∀ v : Int, (-1000 ≤ v ∧ v ≤ 10 ^ 12) → ∃ acc, H4 L = some (.lst acc) ∧ acc.length < sizeLine ∧ But t H (upd H4 L (.lst (acc ++ [.int v]))) ∧ Tape (upd H4 L (.lst (acc ++ [.int v]))) t (c + 3 * (i + 1)) ∧ ∃ tk : List Int, upd H4 L (.lst (acc ++ [.int v])) L = some (.lst (tk.map V.int)) ∧ tk.length = i + 1 ∧ ∀ x ∈ tk, -1000 ≤ x ∧ x ≤ 10 ^ 12 := fun v hv => by
        refine ⟨_, eL4, by rw [List.length_map]; exact szt (by omega), fun a o n e => ?_, ?_, tk ++ [v], by rw [upd_same, List.map_append]; rfl, by rw [List.length_append, List.length_singleton, hl], fun x hx => ?_⟩
        · rw [upd_ne (ne_of_none e nL)]
          exact (b1.trans b24) a o n e
        · obtain ⟨x, y, z, q1, q2⟩ := T4
          exact ⟨x, y, z, by rw [upd_ne nLt.symm]; exact q1, q2.1, q2.2.1, q2.2.2.1, q2.2.2.2.1, by have := q2.2.2.2.2; omega⟩
        · rcases List.mem_append.mp hx with z | z
          · exact hb x z
          · rw [List.mem_singleton.mp z]; exact hv
      have e10 : ((10 : Int) ^ (3 : Int).toNat) = 1000 := by decide
      refine ⟨_, _, rfl, rfl, ⟨by decide, by decide⟩, ?_⟩
      have hq : (r3 : Int) / 4 = 0 ∨ (r3 : Int) / 4 = 1 := by omega
      have ep := b4 p _ npt upd_same
      rcases hq with hq | hq
      · exact ⟨p, _, _, _, rfl, rfl, sqL ep, by show atI _ ((r3 : Int) / 4) = _; rw [hq]; exact atI_nat (j := 0) rfl, fin _ ⟨by omega, by omega⟩⟩
      · exact ⟨p, _, _, _, rfl, rfl, sqL ep, by show atI _ ((r3 : Int) / 4) = _; rw [hq]; exact atI_nat (j := 1) rfl, fin _ ⟨by rw [e10]; omega, by rw [e10]; omega⟩⟩
    · obtain ⟨b1, T1, tk, eL, hl, hb⟩ := hP
      exact q L tk H1 b1 T1 nL nLt eL hl hb
end
end Gn
set_option Elab.async false
set_option linter.all false
set_option maxRecDepth 100000
set_option maxHeartbeats 4000000
namespace Gn
open PySem PySem.Spec PyProof.Rows L2
/-! ### what a run has done where it is: every block above the one that is come to -/
def Eo (pr : List Blk) (a : Nat) : List Nat := (endB pr a).names
def keysD (s : MSt) : List Nat := s.done.map (·.1)
def BlkDone (pr : List Blk) (s : MSt) (a : Nat) : Prop := ∀ k, bgn pr a ≤ k → k < bgn pr (a + 1) → k ∈ keysD s
structure AtRow (pr : List Blk) (b i : Nat) (s : MSt) : Prop where
  rc : ∀ x, x ∉ s.way → Rc (Eo pr) x b
  here : b ∈ s.way
  dn : ∀ a ∈ s.way, a ≠ b → BlkDone pr s a
  row : ∀ k, bgn pr b ≤ k → k < bgn pr b + i → k ∈ keysD s
def CI (pr : List Blk) : Cfg → Prop
  | .come b _ s => (∀ x, x ∉ s.way → x ≠ b → Rc (Eo pr) x b) ∧ ∀ a ∈ s.way, BlkDone pr s a
  | .row b i _ s => i < (rowsB pr b).length ∧ AtRow pr b i s
  | .ended _ => True
  | .great _ => True
theorem bgn_nxt (pr : List Blk) (b : Nat) : bgn pr (b + 1) = bgn pr b + (rowsB pr b).length := by
  unfold bgn rowsB
  by_cases h : b < pr.length
  · rw [List.take_add_one, List.getElem?_eq_getElem h, List.getD_eq_getElem?_getD, List.getElem?_eq_getElem h]
    exact rowsL_snoc _ _
  · rw [List.take_of_length_le (by omega), List.take_of_length_le (by omega), List.getD_eq_getElem?_getD, List.getElem?_eq_none (by omega)]
    rfl
theorem next_in {pr : List Blk} {s : MSt} {b c : Nat} (h : nextB s (endB pr b) = some c) : c ∈ Eo pr b := by
  unfold Eo
  cases he : endB pr b with
  | go d =>
    rw [he] at h
    cases h
    exact List.mem_singleton.mpr rfl
  | iff r x y =>
    rw [he] at h
    have h : (if LI s.lasts r ≠ 0 then x else y) = c := Option.some.inj h
    rw [← h]
    by_cases z : LI s.lasts r ≠ 0
    · rw [if_pos z]; simp [En.names]
    · rw [if_neg z]; simp [En.names]
  | fin =>
    rw [he] at h
    cases h
theorem AtRow.norm {pr : List Blk} {b i : Nat} {s : MSt} {bl : List Int} (h : AtRow pr b i s) (hi : i ≤ (rowsB pr b).length) : CI pr (norm pr b i bl s) := by
  unfold Gn.norm
  by_cases hl : i < (rowsB pr b).length
  · rw [if_pos hl]
    exact ⟨hl, h⟩
  · rw [if_neg hl]
    cases hn : nextB s (endB pr b) with
    | none => exact trivial
    | some c =>
      refine ⟨fun x hx hxc => .s (h.rc x hx) (next_in hn) (Ne.symm hxc), fun a ha => ?_⟩
      by_cases hab : a = b
      · subst hab
        intro k h1 h2
        rw [bgn_nxt] at h2
        exact h.row k h1 (by omega)
      · exact h.dn a ha hab
theorem keys_doR {j : Nat} {r : Rw} {w : Option Int} {s : MSt} : keysD (doR j r w s) = keysD s ++ [j] ∧ (doR j r w s).way = s.way := by
  cases r <;> exact ⟨by simp [keysD, doR], rfl⟩
theorem CI.step {pr : List Blk} {tk : List Int} {c : Cfg} (h : CI pr c) : CI pr (stepC pr tk c) := by
  cases c with
  | ended s => exact trivial
  | great s => exact trivial
  | come b bl s =>
    obtain ⟨h1, h2⟩ := h
    refine AtRow.norm (i := 0) ⟨fun x hx => ?_, ?_, fun a ha hab => ?_, fun k k1 k2 => by omega⟩ (Nat.zero_le _)
    · have hx : x ∉ s.way ++ [b] := hx
      rw [List.mem_append, not_or, List.mem_singleton] at hx
      exact h1 x hx.1 hx.2
    · show b ∈ s.way ++ [b]
      simp
    · have ha : a ∈ s.way ++ [b] := ha
      rcases List.mem_append.mp ha with z | z
      · exact h2 a z
      · exact absurd (List.mem_singleton.mp z) hab
  | row b i bl s =>
    obtain ⟨hi, h⟩ := h
    show CI pr (if too (wAt pr tk b i bl s) = true then .great s else _)
    by_cases ht : too (wAt pr tk b i bl s) = true
    · rw [if_pos ht]
      exact trivial
    · rw [if_neg ht]
      obtain ⟨e1, e2⟩ := keys_doR (j := bgn pr b + i) (r := rwAt pr b i) (w := wAt pr tk b i bl s) (s := s)
      have up : ∀ k, k ∈ keysD s → k ∈ keysD (doR (bgn pr b + i) (rwAt pr b i) (wAt pr tk b i bl s) s) := fun k hk => by
        rw [e1]
        exact List.mem_append_left _ hk
      refine AtRow.norm ⟨fun x hx => h.rc x (by rw [e2] at hx; exact hx), by rw [e2]; exact h.here, fun a ha hab k k1 k2 => up k (h.dn a (by rw [e2] at ha; exact ha) hab k k1 k2), fun k k1 k2 => ?_⟩ hi
      by_cases z : k = bgn pr b + i
      · rw [e1, z]
        simp
      · exact up k (h.row k k1 (by omega))
theorem CI.first (pr : List Blk) : CI pr (.come 0 [] (MSt.first pr)) := ⟨fun x _ h => .z h, fun a h => by cases h⟩
theorem CI.run (pr : List Blk) (tk : List Int) : ∀ n, CI pr (runC pr tk n) := fun n => by
  unfold runC
  induction n with
  | zero => exact CI.first pr
  | succ n ih =>
    rw [itC_succ]
    exact ih.step
/-- a row of a block that is on all ways to b, ahead of where the run is, was done -/
theorem AtRow.done {pr : List Blk} {b i a k : Nat} {s : MSt} (h : AtRow pr b i s) (ha : ¬ Rc (Eo pr) a b) (h1 : bgn pr a ≤ k) (h2 : k < bgn pr (a + 1)) (h3 : a = b → k < bgn pr b + i) : k ∈ keysD s := by
  have hw : a ∈ s.way := Classical.byContradiction fun z => ha (h.rc a z)
  by_cases hab : a = b
  · subst hab
    exact h.row k h1 (h3 rfl)
  · exact h.dn a hw hab k h1 h2
theorem row_at {pr : List Blk} {b i : Nat} (hb : b < pr.length) (hi : i < (rowsB pr b).length) : (rowsL pr)[bgn pr b + i]? = some (rwAt pr b i) := by
  have hs : pr = pr.take b ++ pr[b] :: pr.drop (b + 1) := by rw [← List.drop_eq_getElem_cons hb, List.take_append_drop]
  have hr : rowsL pr = rowsL (pr.take b) ++ (pr[b].1 ++ rowsL (pr.drop (b + 1))) := by
    conv => lhs; rw [hs]
    unfold rowsL
    rw [List.map_append, List.flatten_append, List.map_cons, List.flatten_cons]
  have hB : rowsB pr b = pr[b].1 := by
    unfold rowsB
    rw [List.getD_eq_getElem?_getD, List.getElem?_eq_getElem hb]
    rfl
  rw [hB] at hi
  unfold rwAt
  rw [hB, hr, List.getElem?_append_right (by unfold bgn; omega), show bgn pr b + i - (rowsL (pr.take b)).length = i by unfold bgn; omega, List.getElem?_append_left hi, List.getD_eq_getElem?_getD, List.getElem?_eq_getElem hi]
  rfl
theorem find_blk (pr : List Blk) : ∀ n k, k < bgn pr n → ∃ i, i < n ∧ bgn pr i ≤ k ∧ k < bgn pr (i + 1)
  | 0, k, h => absurd h (Nat.not_lt_zero k)
  | n + 1, k, h => by
    by_cases z : k < bgn pr n
    · obtain ⟨i, a1, a2, a3⟩ := find_blk pr n k z
      exact ⟨i, by omega, a2, a3⟩
    · exact ⟨n, by omega, by omega, h⟩
theorem Eo_nx (pr : List Blk) : (fun a => (pr.map fun b => b.2.names).getD a []) = Eo pr := by
  funext a
  unfold Eo endB
  rw [List.getD_eq_getElem?_getD, List.getD_eq_getElem?_getD, List.getElem?_map]
  cases pr[a]? <;> rfl
/-- where a row that stands at b lies -/
theorem PrS.lies {st : Sta} {pr : List Blk} (S : PrS st pr) {b y : Nat} (hb : b < pr.length) (hy : y ∈ standL st b) : ∃ a, a < pr.length ∧ ¬ Rc (Eo pr) a b ∧ bgn pr a ≤ y ∧ y < bgn pr (a + 1) ∧ st.blocks.getD y 0 = a ∧ (st.rows.getD y (.take 0)).worthy = true := by
  obtain ⟨h1, h2⟩ := List.mem_filter.mp hy
  have hyl := List.mem_range.mp h1
  rw [Bool.and_eq_true] at h2
  obtain ⟨h2, h3⟩ := h2
  have h2 := of_decide_eq_true h2
  have hyr : y < bgn pr pr.length := by
    rw [bgn_all, S.rows]
    exact hyl
  obtain ⟨i, i1, i2, i3⟩ := find_blk pr pr.length y hyr
  have e := S.own i y i1 i2 i3
  refine ⟨i, i1, ?_, i2, i3, e, h3⟩
  rw [e, S.ab] at h2
  unfold abv at h2
  rw [List.getD_eq_getElem?_getD, List.getElem?_map, List.getElem?_eq_getElem (by rw [List.length_range, List.length_map]; exact hb), List.getElem_range] at h2
  have h4 := (List.mem_filter.mp h2).2
  rw [← Eo_nx]
  exact dB_iff.mp h4
theorem PrS.done {st : Sta} {pr : List Blk} (S : PrS st pr) {b i y : Nat} {s : MSt} (hb : b < pr.length) (h : AtRow pr b i s) (hy : y ∈ standL st b) (hlt : st.blocks.getD y 0 = b → y < bgn pr b + i) : y ∈ keysD s := by
  obtain ⟨a, a1, a2, a3, a4, a5, _⟩ := S.lies hb hy
  exact h.done a2 a3 a4 fun z => hlt (by rw [a5, z])
/-- the row that is to be done: what it names was done -/
theorem PrS.used {st : Sta} {pr : List Blk} (S : PrS st pr) {b i y : Nat} {s : MSt} (hb : b < pr.length) (hi : i < (rowsB pr b).length) (h : AtRow pr b i s) (hy : y ∈ (rwAt pr b i).used) : y ∈ keysD s ∧ (st.rows.getD y (.take 0)).worthy = true := by
  have hk : bgn pr b + i < (rowsL pr).length := bgn_lt hb hi
  have hown := S.own b (bgn pr b + i) hb (Nat.le_add_right _ _) (by show bgn pr b + i < bgn pr (b + 1); rw [bgn_nxt]; omega)
  have hrow : st.rows[bgn pr b + i]? = some (rwAt pr b i) := by
    rw [← S.rows]
    exact row_at hb hi
  obtain ⟨u1, u2⟩ := S.su _ _ hrow y hy
  rw [hown] at u2
  obtain ⟨_, _, _, _, _, _, hw⟩ := S.lies hb u2
  exact ⟨S.done hb h u2 fun _ => u1, hw⟩
end Gn
set_option Elab.async false
set_option linter.all false
set_option maxRecDepth 100000
set_option maxHeartbeats 4000000
namespace Gn
open PySem PySem.Spec PyProof.Rows L2
/-! ### the last worth of a row that was done -/
theorem PrS.atEnd {st : Sta} {pr : List Blk} (S : PrS st pr) {b y : Nat} {s : MSt} (hb : b < pr.length) (h : AtRow pr b (rowsB pr b).length s) (hy : y ∈ standL st b) : y ∈ keysD s ∧ (st.rows.getD y (.take 0)).worthy = true := by
  obtain ⟨a, a1, a2, a3, a4, a5, hw⟩ := S.lies hb hy
  refine ⟨h.done a2 a3 a4 fun z => ?_, hw⟩
  rw [z, bgn_nxt] at a4
  exact a4
def lastD : List (Nat × Option Int) → Nat → Option (Option Int)
  | [], _ => none
  | (k, w) :: d, y => match lastD d y with
    | some v => some v
    | none => if k = y then some w else none
theorem lastD_snoc (d : List (Nat × Option Int)) (k : Nat) (w : Option Int) (y : Nat) : lastD (d ++ [(k, w)]) y = if k = y then some w else lastD d y := by
  induction d with
  | nil => rfl
  | cons x d ih =>
    obtain ⟨k', w'⟩ := x
    show (match lastD (d ++ [(k, w)]) y with | some v => some v | none => if k' = y then some w' else none) = _
    rw [ih]
    by_cases h : k = y
    · rw [if_pos h, if_pos h]
    · rw [if_neg h, if_neg h]
      rfl
theorem lastD_key {d : List (Nat × Option Int)} {y : Nat} (h : y ∈ d.map (·.1)) : ∃ w, lastD d y = some w := by
  induction d with
  | nil => cases h
  | cons x d ih =>
    obtain ⟨k, w⟩ := x
    show ∃ w', (match lastD d y with | some v => some v | none => if k = y then some w else none) = some w'
    cases e : lastD d y with
    | some v => exact ⟨v, rfl⟩
    | none =>
      rcases List.mem_cons.mp h with z | z
      · exact ⟨w, if_pos z.symm⟩
      · obtain ⟨w', e'⟩ := ih z
        rw [e] at e'
        cases e'
/-- the rows done have their last worths in lasts -/
structure LW (pr : List Blk) (s : MSt) : Prop where
  len : s.lasts.length = (rowsL pr).length
  val : ∀ y w, lastD s.done y = some w → ((rowsL pr).getD y (.take 0)).worthy = true → w = some (LI s.lasts y)
theorem wAt_worthy {pr : List Blk} {tk : List Int} {b i : Nat} {bl : List Int} {s : MSt} (h : (rwAt pr b i).worthy = true) : ∃ v, wAt pr tk b i bl s = some v := by
  unfold wAt
  generalize rwAt pr b i = r at h
  cases r with
  | meet ps => exact ⟨_, rfl⟩
  | tell x => cases h
  | lay rs x y => cases h
  | take i => exact ⟨_, rfl⟩
  | num n => exact ⟨_, rfl⟩
  | bin b x y => exact ⟨_, rfl⟩
  | pick x ps => exact ⟨_, rfl⟩
  | look rs x => exact ⟨_, rfl⟩
theorem LI_set {xs : List Int} {k y : Nat} {v : Int} (h : k < xs.length) : LI (xs.set k v) y = if k = y then v else LI xs y := by
  unfold LI
  rw [List.getD_eq_getElem?_getD, List.getD_eq_getElem?_getD, List.getElem?_set]
  by_cases e : k = y
  · subst e
    rw [if_pos rfl, if_pos rfl, if_pos h]
    rfl
  · rw [if_neg e, if_neg e]
theorem LW.row {pr : List Blk} {tk : List Int} {b i : Nat} {bl : List Int} {s : MSt} (h : LW pr s) (hb : b < pr.length) (hi : i < (rowsB pr b).length) : LW pr (doR (bgn pr b + i) (rwAt pr b i) (wAt pr tk b i bl s) s) := by
  have hk := bgn_lt hb hi
  have hrow : (rowsL pr).getD (bgn pr b + i) (.take 0) = rwAt pr b i := by rw [List.getD_eq_getElem?_getD, row_at hb hi]; rfl
  by_cases hw : (rwAt pr b i).worthy = true
  · obtain ⟨v, hv⟩ := wAt_worthy (tk := tk) (bl := bl) (s := s) hw
    rw [hv]
    have e : doR (bgn pr b + i) (rwAt pr b i) (some v) s = { s with lasts := s.lasts.set (bgn pr b + i) v, done := s.done ++ [(bgn pr b + i, some v)] } := by
      generalize rwAt pr b i = r at hw
      cases r with
      | tell x => cases hw
      | lay rs x y => cases hw
      | _ => rfl
    rw [e]
    refine ⟨by rw [List.length_set]; exact h.len, fun y w hy hyw => ?_⟩
    have hy : lastD (s.done ++ [(bgn pr b + i, some v)]) y = some w := hy
    show w = some (LI (s.lasts.set (bgn pr b + i) v) y)
    rw [lastD_snoc] at hy
    rw [LI_set (by rw [h.len]; exact hk)]
    by_cases z : bgn pr b + i = y
    · rw [if_pos z] at hy ⊢
      exact (Option.some.inj hy).symm
    · rw [if_neg z] at hy ⊢
      exact h.val y w hy hyw
  · have e : (doR (bgn pr b + i) (rwAt pr b i) (wAt pr tk b i bl s) s).lasts = s.lasts ∧ (doR (bgn pr b + i) (rwAt pr b i) (wAt pr tk b i bl s) s).done = s.done ++ [(bgn pr b + i, wAt pr tk b i bl s)] := by
      generalize wAt pr tk b i bl s = w'
      generalize rwAt pr b i = r at hw
      cases r with
      | tell x => exact ⟨rfl, rfl⟩
      | lay rs x y => exact ⟨rfl, rfl⟩
      | _ => exact absurd rfl hw
    refine ⟨by rw [e.1]; exact h.len, fun y w hy hyw => ?_⟩
    rw [e.2, lastD_snoc] at hy
    rw [e.1]
    by_cases z : bgn pr b + i = y
    · rw [← z, hrow] at hyw
      exact absurd hyw hw
    · rw [if_neg z] at hy
      exact h.val y w hy hyw
end Gn
set_option Elab.async false
set_option linter.all false
set_option maxRecDepth 100000
set_option maxHeartbeats 4000000
namespace Gn
open PySem PySem.Spec PyProof.Rows L2
/-! ### what lies on all ways -/
section
variable {E : Nat → List Nat}
theorem dom_anti {A b N : Nat} (hr : Rc E N b) (h1 : ¬ Rc E A b) (h2 : ¬ Rc E b A) : A = b := by
  refine Classical.byContradiction fun hne => ?_
  have key : ∀ x, Rc E N x → (Rc E A x ∧ Rc E b x) ∨ Rc E A b ∨ Rc E b A := fun x hx => by
    induction hx with
    | z _ =>
      by_cases ha : A = 0
      · exact .inr (.inr (ha ▸ .z (fun z => hne (ha.trans z.symm))))
      · by_cases hb : b = 0
        · exact .inr (.inl (hb ▸ .z ha))
        · exact .inl ⟨.z ha, .z hb⟩
    | @s x y hx hy _ ih =>
      rcases ih with ⟨i1, i2⟩ | i
      · by_cases hyb : y = b
        · exact .inr (.inl (hyb ▸ .s i1 hy (fun z => hne (z.symm.trans hyb))))
        · by_cases hya : y = A
          · exact .inr (.inr (hya ▸ .s i2 hy hyb))
          · exact .inl ⟨.s i1 hy hya, .s i2 hy hyb⟩
      · exact .inr i
  rcases key b hr with ⟨_, h⟩ | h | h
  · exact h.ne rfl
  · exact h1 h
  · exact h2 h
theorem dom_trans {A u b : Nat} (h1 : ¬ Rc E A u) (h2 : ¬ Rc E u b) : ¬ Rc E A b := fun h => by
  have key : ∀ x, Rc E A x → Rc E u x ∨ Rc E A u := fun x hx => by
    induction hx with
    | z ha =>
      by_cases hu : u = 0
      · exact .inr (hu ▸ .z ha)
      · exact .inl (.z hu)
    | @s x y hx hy hya ih =>
      rcases ih with i | i
      · by_cases hyu : y = u
        · exact .inr (hyu ▸ .s hx hy hya)
        · exact .inl (.s i hy hyu)
      · exact .inr i
  rcases key b h with z | z
  · exact h2 z
  · exact h1 z
/-- what lies on all ways to the one lead lies on all ways to the block -/
theorem dom_lead {A u L : Nat} (h0 : u ≠ 0) (hl : ∀ x, u ∈ E x → x = L) (h : ¬ Rc E A L) : ¬ Rc E A u := fun z => by
  cases z with
  | z _ => exact h0 rfl
  | s hx hy _ =>
    rw [hl _ hy] at hx
    exact h hx
/-- the one lead of a block is come to without it -/
theorem lead_free {u L N : Nat} (h0 : u ≠ 0) (hl : ∀ x, u ∈ E x → x = L) (hr : Rc E N u) : Rc E u L := by
  have key : ∀ x, Rc E N x → Rc E u x ∨ Rc E u L := fun x hx => by
    induction hx with
    | z _ => exact .inl (.z h0)
    | @s x y hx hy _ ih =>
      rcases ih with i | i
      · by_cases hyu : y = u
        · rw [hl x (hyu ▸ hy)] at i
          exact .inr i
        · exact .inl (.s i hy hyu)
      · exact .inr i
  rcases key u hr with z | z
  · exact (z.ne rfl).elim
  · exact z
end
/-! ### facts -/
inductive Fa | alike (p q : Nat) | one (a : Nat) | none (a : Nat)
def factR (a : Nat) : Rw → List Fa
  | .bin .same p q => [.alike p q, .one a]
  | .bin .below _ _ => [.one a]
  | _ => []
def factE (rws : List Rw) (u : Nat) : En → List Fa
  | .iff a x _ => if u ≠ x then [.none a] else factR a (rws.getD a (.take 0))
  | _ => []
def factU (pr : List Blk) (u : Nat) : List Fa := match (leadsL (nmL pr)).getD u [] with
  | [l] => factE (rowsL pr) u (endB pr l)
  | _ => []
noncomputable def factsF (pr : List Blk) (b : Nat) : List Fa := (dl (nmL pr) b).flatMap (factU pr)
/-- whether a fact is so, by the last worths -/
def FaOk (L : Nat → Option (Option Int)) : Fa → Prop
  | .alike p q => ∃ x : Int, L p = some (some x) ∧ L q = some (some x)
  | .one a => L a = some (some 1)
  | .none a => L a = some (some 0)
theorem Ex_Eo (pr : List Blk) : Ex (nmL pr) = Eo pr := Eo_nx pr
theorem lead_mem {pr : List Blk} {u l : Nat} (hu : u < pr.length) : l ∈ (leadsL (nmL pr)).getD u [] ↔ l < pr.length ∧ u ∈ Eo pr l := by
  have hl : (nmL pr).length = pr.length := List.length_map _
  unfold leadsL
  rw [List.getD_eq_getElem?_getD, List.getElem?_map, List.getElem?_range (by rw [hl]; exact hu)]
  show l ∈ (List.range (nmL pr).length).filter _ ↔ _
  rw [List.mem_filter, List.mem_range, hl, decide_eq_true_iff, ← Ex_Eo]
  exact Iff.rfl
theorem Eo_lt {pr : List Blk} {l u : Nat} (h : u ∈ Eo pr l) : l < pr.length := by
  refine Classical.byContradiction fun z => ?_
  unfold Eo endB at h
  rw [List.getD_eq_getElem?_getD, List.getElem?_eq_none (by omega)] at h
  cases h
theorem one_lead {pr : List Blk} {u l : Nat} (hu : u < pr.length) (h : (leadsL (nmL pr)).getD u [] = [l]) : ∀ x, u ∈ Eo pr x → x = l := fun x hx => by
  have := (lead_mem hu).mpr ⟨Eo_lt hx, hx⟩
  rw [h] at this
  exact List.mem_singleton.mp this
theorem in_lead {pr : List Blk} {u l : Nat} (hu : u < pr.length) (h : (leadsL (nmL pr)).getD u [] = [l]) : l < pr.length ∧ u ∈ Eo pr l := (lead_mem hu).mp (by rw [h]; exact List.mem_singleton.mpr rfl)
/-! ### what the last worths are, on a run -/
structure Good (st : Sta) (pr : List Blk) (tk : List Int) : Prop where
  S : PrS st pr
  O : PureOk pr tk
  en : ∀ b ∈ pr, EnOk pr.length (rowsL pr).length b.2
def Tst (s : MSt) (y : Nat) : Rw → Prop
  | .bin .same p q => LI s.lasts y = if LI s.lasts p = LI s.lasts q then 1 else 0
  | .bin .below p q => LI s.lasts y = if LI s.lasts p < LI s.lasts q then 1 else 0
  | _ => True
/-- tests are as what they name, in all blocks on all ways; tests of single leads were as the way went -/
structure Sm (st : Sta) (pr : List Blk) (b : Nat) (Pl : Nat → Prop) (s : MSt) : Prop where
  ts : ∀ y, y ∈ standL st b → Pl y → Tst s y ((rowsL pr).getD y (.take 0))
  fx : ∀ u l, u < pr.length → ¬ Rc (Eo pr) u b → (leadsL (nmL pr)).getD u [] = [l] → ∀ a x z, endB pr l = .iff a x z → (u = x → LI s.lasts a ≠ 0) ∧ (u ≠ x → LI s.lasts a = 0)
def SC (st : Sta) (pr : List Blk) : Cfg → Prop
  | .come b _ s => b < pr.length ∧ Rc (Eo pr) pr.length b ∧ Sm st pr b (fun y => st.blocks.getD y 0 ≠ b) s
  | .row b i _ s => b < pr.length ∧ i < (rowsB pr b).length ∧ Rc (Eo pr) pr.length b ∧ Sm st pr b (fun y => st.blocks.getD y 0 = b → y < bgn pr b + i) s
  | _ => True
section
variable {st : Sta} {pr : List Blk} {tk : List Int}
theorem Good.endAt (G : Good st pr tk) {l : Nat} (hl : l < pr.length) {a x z : Nat} (h : endB pr l = .iff a x z) : a ∈ standL st l ∧ x ≠ z := by
  have hb := blkAt hl
  refine ⟨G.S.en l _ hb a x z h, ?_⟩
  have := G.en _ (List.mem_of_getElem? hb)
  rw [show ((rowsB pr l, endB pr l) : Blk).2 = .iff a x z from h] at this
  exact this.2.2.2.2.2
theorem Good.pos (G : Good st pr tk) {l u : Nat} (h : u ∈ Eo pr l) : u ≠ 0 ∧ u < pr.length := by
  have hl := Eo_lt h
  have := G.O.nx.2.1 (Eo pr l) (by
    have e := blkMem hl
    exact List.mem_map.mpr ⟨_, e, rfl⟩)
  have h1 := this.2.2 u h
  exact ⟨by omega, h1.2⟩
/-- the block of a row that stands -/
theorem Good.dom (G : Good st pr tk) {b y : Nat} (hb : b < pr.length) (hy : y ∈ standL st b) : st.blocks.getD y 0 < pr.length ∧ ¬ Rc (Eo pr) (st.blocks.getD y 0) b ∧ y < bgn pr (st.blocks.getD y 0 + 1) ∧ bgn pr (st.blocks.getD y 0) ≤ y := by
  obtain ⟨a, a1, a2, a3, a4, a5, _⟩ := G.S.lies hb hy
  rw [a5]
  exact ⟨a1, a2, a4, a3⟩
/-- standing goes along -/
theorem Good.stand (G : Good st pr tk) {A b y : Nat} (hA : A < pr.length) (hb : b < pr.length) (hy : y ∈ standL st A) (hd : ¬ Rc (Eo pr) A b) : y ∈ standL st b := by
  obtain ⟨h1, h2⟩ := List.mem_filter.mp hy
  rw [Bool.and_eq_true] at h2
  have hdm := (G.dom hA hy).2.1
  refine List.mem_filter.mpr ⟨h1, ?_⟩
  rw [Bool.and_eq_true]
  refine ⟨decide_eq_true ?_, h2.2⟩
  have hab : st.above.getD b [] = dl (nmL pr) b := by
    rw [G.S.ab]
    show (abv (nmL pr)).getD b [] = _
    rw [abv_eq, List.getD_eq_getElem?_getD, List.getElem?_map, List.getElem?_range (by rw [List.length_map]; exact hb)]
    rfl
  rw [hab, dl_mem, Ex_Eo]
  exact ⟨by rw [List.length_map]; exact (G.dom hA hy).1, dom_trans hdm hd⟩
/-- what a row that stands names stands, and ahead of it -/
theorem Good.used (G : Good st pr tk) {b y p : Nat} (hb : b < pr.length) (hy : y ∈ standL st b) (hp : p ∈ ((rowsL pr).getD y (.take 0)).used) : p < y ∧ p ∈ standL st (st.blocks.getD y 0) ∧ p ∈ standL st b := by
  have hyl : y < st.rows.length := standL_lt hy
  have hrow : st.rows[y]? = some ((rowsL pr).getD y (.take 0)) := by
    rw [G.S.rows]
    exact gdl hyl
  obtain ⟨h1, h2⟩ := G.S.su y _ hrow p hp
  obtain ⟨d1, d2, _⟩ := G.dom hb hy
  exact ⟨h1, h2, G.stand d1 hb h2 d2⟩
/-- a row done changes no test that stands, and no fact -/
theorem Sm.row (G : Good st pr tk) {b i : Nat} {bl : List Int} {s : MSt} (hb : b < pr.length) (hi : i < (rowsB pr b).length) (hr : Rc (Eo pr) pr.length b) (hl : s.lasts.length = (rowsL pr).length) (h : Sm st pr b (fun y => st.blocks.getD y 0 = b → y < bgn pr b + i) s) :
    Sm st pr b (fun y => st.blocks.getD y 0 = b → y < bgn pr b + (i + 1)) (doR (bgn pr b + i) (rwAt pr b i) (wAt pr tk b i bl s) s) := by
  have hk := bgn_lt hb hi
  have hrow : (rowsL pr).getD (bgn pr b + i) (.take 0) = rwAt pr b i := by rw [List.getD_eq_getElem?_getD, row_at hb hi]; rfl
  have hown : st.blocks.getD (bgn pr b + i) 0 = b := G.S.own b (bgn pr b + i) hb (Nat.le_add_right _ _) (by show bgn pr b + i < bgn pr (b + 1); rw [bgn_nxt]; omega)
  -- the lasts elsewhere stay
  have hls : ∀ y, y ≠ bgn pr b + i → LI (doR (bgn pr b + i) (rwAt pr b i) (wAt pr tk b i bl s) s).lasts y = LI s.lasts y := fun y hy => by
    generalize wAt pr tk b i bl s = w
    have hset : LI (s.lasts.set (bgn pr b + i) (w.getD 0)) y = LI s.lasts y := by
      rw [LI_set (by rw [hl]; exact hk), if_neg (Ne.symm hy)]
    cases rwAt pr b i <;> first | exact hset | rfl
  -- what a row of b names is not b's own later one
  have hno : ∀ y p, y ∈ standL st b → (st.blocks.getD y 0 = b → y < bgn pr b + (i + 1)) → p ∈ ((rowsL pr).getD y (.take 0)).used → p ≠ bgn pr b + i := fun y p hy hpl hp z => by
    obtain ⟨u1, u2, u3⟩ := G.used hb hy hp
    obtain ⟨d1, d2, _⟩ := G.dom hb hy
    obtain ⟨e1, e2, _⟩ := G.dom d1 u2
    rw [z, hown] at e2
    have hA := dom_anti hr d2 e2
    have := hpl hA
    omega
  refine ⟨fun y hy hpl => ?_, fun u l hu hd hld a x z he => ?_⟩
  · by_cases hyk : y = bgn pr b + i
    · subst hyk
      have hu : ∀ p ∈ (rwAt pr b i).used, p ≠ bgn pr b + i := fun p hp => hno _ p hy (fun _ => by omega) (by rw [hrow]; exact hp)
      rw [hrow]
      cases hrw : rwAt pr b i with
      | bin bk p q =>
        rw [hrw] at hu
        have h1 : LI (doR (bgn pr b + i) (.bin bk p q) (wAt pr tk b i bl s) s).lasts p = LI s.lasts p := by rw [← hrw]; exact hls p (hu p (by simp [Rw.used]))
        have h2 : LI (doR (bgn pr b + i) (.bin bk p q) (wAt pr tk b i bl s) s).lasts q = LI s.lasts q := by rw [← hrw]; exact hls q (hu q (by simp [Rw.used]))
        have hw : wAt pr tk b i bl s = some (bk.op (LI s.lasts p) (LI s.lasts q)) := by
          unfold wAt
          rw [hrw]
          rfl
        have h3 : LI (doR (bgn pr b + i) (.bin bk p q) (wAt pr tk b i bl s) s).lasts (bgn pr b + i) = bk.op (LI s.lasts p) (LI s.lasts q) := by
          show LI (s.lasts.set (bgn pr b + i) ((wAt pr tk b i bl s).getD 0)) _ = _
          rw [LI_set (by rw [hl]; exact hk), if_pos rfl, hw]
          rfl
        cases bk with
        | same =>
          show LI _ _ = if LI _ _ = LI _ _ then 1 else 0
          rw [h1, h2, h3]; rfl
        | below =>
          show LI _ _ = if LI _ _ < LI _ _ then 1 else 0
          rw [h1, h2, h3]; rfl
        | sum => exact trivial
        | less => exact trivial
        | times => exact trivial
      | _ => exact trivial
    · have h0 := h.ts y hy (fun z => by have := hpl z; omega)
      have hu := fun p hp => hls p (hno y p hy hpl hp)
      cases hrw : (rowsL pr).getD y (.take 0) with
      | bin bk p q =>
        rw [hrw] at h0 hu
        have h1 := hu p (by simp [Rw.used])
        have h2 := hu q (by simp [Rw.used])
        cases bk with
        | same =>
          have h0 : LI s.lasts y = if LI s.lasts p = LI s.lasts q then 1 else 0 := h0
          show LI _ _ = if LI _ _ = LI _ _ then 1 else 0
          rw [h1, h2, hls y hyk]; exact h0
        | below =>
          have h0 : LI s.lasts y = if LI s.lasts p < LI s.lasts q then 1 else 0 := h0
          show LI _ _ = if LI _ _ < LI _ _ then 1 else 0
          rw [h1, h2, hls y hyk]; exact h0
        | sum => exact trivial
        | less => exact trivial
        | times => exact trivial
      | _ => exact trivial
  · obtain ⟨l1, l2⟩ := in_lead hu hld
    have hol := one_lead hu hld
    have hu0 := (G.pos l2).1
    obtain ⟨ha, _⟩ := G.endAt l1 he
    have hak : a ≠ bgn pr b + i := fun z => by
      obtain ⟨d1, d2, _⟩ := G.dom l1 ha
      rw [z, hown] at d2
      have hbu := dom_lead hu0 hol d2
      have e := dom_anti hr hd hbu
      subst e
      exact d2 (lead_free hu0 hol hr)
    rw [hls a hak]
    exact h.fx u l hu hd hld a x z he
theorem LWlen (h : StOk s (rowsL pr).length k) : s.lasts.length = (rowsL pr).length := h.ll
/-- to the next block -/
theorem Sm.go (G : Good st pr tk) {b c : Nat} {s : MSt} (hb : b < pr.length) (hn : nextB s (endB pr b) = some c) (h : Sm st pr b (fun y => st.blocks.getD y 0 = b → y < bgn pr b + (rowsB pr b).length) s) : Sm st pr c (fun y => st.blocks.getD y 0 ≠ c) s := by
  have hc := next_in hn
  obtain ⟨c0, cl⟩ := G.pos hc
  have up : ∀ {A : Nat}, A ≠ c → ¬ Rc (Eo pr) A c → ¬ Rc (Eo pr) A b := fun n d z => d (.s z hc (Ne.symm n))
  refine ⟨fun y hy hne => ?_, fun u l hu hd hld a x z he => ?_⟩
  · obtain ⟨d1, d2, d3, d4⟩ := G.dom cl hy
    have hdb := up hne d2
    have hyb : y ∈ standL st b := by
      obtain ⟨h1, h2⟩ := List.mem_filter.mp hy
      rw [Bool.and_eq_true] at h2
      refine List.mem_filter.mpr ⟨h1, ?_⟩
      rw [Bool.and_eq_true]
      refine ⟨decide_eq_true ?_, h2.2⟩
      have hab : st.above.getD b [] = dl (nmL pr) b := by
        rw [G.S.ab]
        show (abv (nmL pr)).getD b [] = _
        rw [abv_eq, List.getD_eq_getElem?_getD, List.getElem?_map, List.getElem?_range (by rw [List.length_map]; exact hb)]
        rfl
      rw [hab, dl_mem, Ex_Eo]
      exact ⟨by rw [List.length_map]; exact d1, hdb⟩
    refine h.ts y hyb fun e => ?_
    rw [e, bgn_nxt] at d3
    exact d3
  · by_cases huc : u = c
    · subst huc
      have e := one_lead hu hld b hc
      subst e
      obtain ⟨_, hxz⟩ := G.endAt hb he
      rw [he] at hn
      have hn : (if LI s.lasts a ≠ 0 then x else z) = u := Option.some.inj hn
      by_cases h0 : LI s.lasts a ≠ 0
      · rw [if_pos h0] at hn
        exact ⟨fun _ => h0, fun w => absurd hn.symm w⟩
      · rw [if_neg h0] at hn
        refine ⟨fun w => absurd (w.symm.trans hn.symm) hxz, fun _ => Classical.not_not.mp h0⟩
    · exact h.fx u l hu (up huc hd) hld a x z he
end
end Gn
set_option Elab.async false
set_option linter.all false
set_option maxRecDepth 100000
set_option maxHeartbeats 4000000
namespace Gn
open PySem PySem.Spec PyProof.Rows L2
/-! ### facts are so at each block's end that a run comes to -/
def FB (pr : List Blk) (d : List (Nat × Option Int)) (b : Nat) : Prop := ∀ f ∈ factsF pr b, FaOk (lastD d) f
def cs (pr : List Blk) : List Nat → Nat
  | [] => 0
  | b :: ws => (rowsB pr b).length + cs pr ws
theorem cs_app (pr : List Blk) : ∀ a b : List Nat, cs pr (a ++ b) = cs pr a + cs pr b
  | [], b => by show cs pr b = 0 + cs pr b; omega
  | x :: a, b => by
    show (rowsB pr x).length + cs pr (a ++ b) = (rowsB pr x).length + cs pr a + cs pr b
    rw [cs_app pr a b]; omega
theorem cs_take (pr : List Blk) (ws : List Nat) (j : Nat) : cs pr (ws.take j) ≤ cs pr ws := by
  conv => rhs; rw [← List.take_append_drop j ws, cs_app]
  omega
theorem cs_succ {pr : List Blk} {ws : List Nat} {j : Nat} (h : j < ws.length) : cs pr (ws.take (j + 1)) = cs pr (ws.take j) + (rowsB pr (ws.getD j 0)).length := by
  rw [List.take_add_one, gdl (d := 0) h, cs_app]
  rfl
section
variable {st : Sta} {pr : List Blk} {tk : List Int}
structure RS (st : Sta) (pr : List Blk) (b i : Nat) (s : MSt) : Prop where
  hb : b < pr.length
  hi : i ≤ (rowsB pr b).length
  rc : Rc (Eo pr) pr.length b
  wl : ∀ y ∈ s.way, y < pr.length
  ar : AtRow pr b i s
  lw : LW pr s
  sm : Sm st pr b (fun y => st.blocks.getD y 0 = b → y < bgn pr b + i) s
  wy : ∃ w', s.way = w' ++ [b] ∧ s.done.length = cs pr w' + i ∧ ∀ j, j < w'.length → FB pr (s.done.take (cs pr (w'.take (j + 1)))) (w'.getD j 0)
def Vis2 (pr : List Blk) (s : MSt) : Prop := (∀ y ∈ s.way, y < pr.length) ∧ ∀ j, j < s.way.length → cs pr (s.way.take (j + 1)) ≤ s.done.length → FB pr (s.done.take (cs pr (s.way.take (j + 1)))) (s.way.getD j 0)
def AllC (st : Sta) (pr : List Blk) : Cfg → Prop
  | .come b _ s => b < pr.length ∧ Rc (Eo pr) pr.length b ∧ (∀ x, x ∉ s.way → x ≠ b → Rc (Eo pr) x b) ∧ (∀ a ∈ s.way, BlkDone pr s a) ∧ LW pr s ∧ Sm st pr b (fun y => st.blocks.getD y 0 ≠ b) s ∧ s.done.length = cs pr s.way ∧ Vis2 pr s
  | .row b i _ s => i < (rowsB pr b).length ∧ RS st pr b i s
  | .ended s => Vis2 pr s
  | .great s => Vis2 pr s
theorem Good.last (G : Good st pr tk) {b y : Nat} {s : MSt} (hb : b < pr.length) (ha : AtRow pr b (rowsB pr b).length s) (hl : LW pr s) (hy : y ∈ standL st b) : lastD s.done y = some (some (LI s.lasts y)) := by
  obtain ⟨h1, h2⟩ := G.S.atEnd hb ha hy
  obtain ⟨w, hw⟩ := lastD_key h1
  rw [← G.S.rows] at h2
  rw [hw, hl.val y w hw h2]
theorem RS.fb (G : Good st pr tk) {b : Nat} {s : MSt} (h : RS st pr b (rowsB pr b).length s) : FB pr s.done b := fun f hf => by
  obtain ⟨u, hu1, hu2⟩ := List.mem_flatMap.mp hf
  rw [dl_mem, Ex_Eo, show (nmL pr).length = pr.length from List.length_map _] at hu1
  obtain ⟨hul, hud⟩ := hu1
  unfold factU at hu2
  match hld : (leadsL (nmL pr)).getD u [] with
  | [] => rw [hld] at hu2; cases hu2
  | _ :: _ :: _ => rw [hld] at hu2; cases hu2
  | [l] =>
    rw [hld] at hu2
    have hu2 : f ∈ factE (rowsL pr) u (endB pr l) := hu2
    obtain ⟨l1, l2⟩ := in_lead hul hld
    have hol := one_lead hul hld
    have hu0 := (G.pos l2).1
    cases he : endB pr l with
    | go c => rw [he] at hu2; cases hu2
    | fin => rw [he] at hu2; cases hu2
    | iff a x z =>
      rw [he] at hu2
      obtain ⟨ha, hxz⟩ := G.endAt l1 he
      have hlb : ¬ Rc (Eo pr) l b := dom_trans (dom_lead hu0 hol fun z => z.ne rfl) hud
      have hab := G.stand l1 h.hb ha hlb
      have hla := G.last h.hb h.ar h.lw hab
      obtain ⟨f1, f2⟩ := h.sm.fx u l hul hud hld a x z he
      have hu2 : f ∈ (if u ≠ x then [Fa.none a] else factR a ((rowsL pr).getD a (.take 0))) := hu2
      by_cases hux : u ≠ x
      · rw [if_pos hux] at hu2
        rw [List.mem_singleton.mp hu2]
        show lastD s.done a = some (some 0)
        rw [hla, f2 hux]
      · rw [if_neg hux] at hu2
        have hne := f1 (Classical.not_not.mp hux)
        have hts := h.sm.ts a hab fun e => by
          obtain ⟨_, _, d3, _⟩ := G.dom h.hb hab
          rw [e, bgn_nxt] at d3
          exact d3
        cases hrw : (rowsL pr).getD a (.take 0) with
        | bin bk p q =>
          rw [hrw] at hu2 hts
          have hp := G.last h.hb h.ar h.lw (G.used h.hb hab (p := p) (by rw [hrw]; simp [Rw.used])).2.2
          have hq := G.last h.hb h.ar h.lw (G.used h.hb hab (p := q) (by rw [hrw]; simp [Rw.used])).2.2
          cases bk with
          | same =>
            have hts : LI s.lasts a = if LI s.lasts p = LI s.lasts q then 1 else 0 := hts
            have hpq : LI s.lasts p = LI s.lasts q := Classical.byContradiction fun w => hne (by rw [hts, if_neg w])
            rw [if_pos hpq] at hts
            have hu2 : f ∈ [Fa.alike p q, .one a] := hu2
            rcases List.mem_cons.mp hu2 with rfl | hu2
            · exact ⟨LI s.lasts p, hp, by rw [hpq]; exact hq⟩
            · rw [List.mem_singleton.mp hu2]
              show lastD s.done a = some (some 1)
              rw [hla, hts]
          | below =>
            have hts : LI s.lasts a = if LI s.lasts p < LI s.lasts q then 1 else 0 := hts
            have hpq : LI s.lasts p < LI s.lasts q := Classical.byContradiction fun w => hne (by rw [hts, if_neg w])
            rw [if_pos hpq] at hts
            have hu2 : f ∈ [Fa.one a] := hu2
            rw [List.mem_singleton.mp hu2]
            show lastD s.done a = some (some 1)
            rw [hla, hts]
          | sum => cases (show f ∈ ([] : List Fa) from hu2)
          | less => cases (show f ∈ ([] : List Fa) from hu2)
          | times => cases (show f ∈ ([] : List Fa) from hu2)
        | take _ => rw [hrw] at hu2; cases hu2
        | num _ => rw [hrw] at hu2; cases hu2
        | pick _ _ => rw [hrw] at hu2; cases hu2
        | meet _ => rw [hrw] at hu2; cases hu2
        | tell _ => rw [hrw] at hu2; cases hu2
        | look _ _ => rw [hrw] at hu2; cases hu2
        | lay _ _ _ => rw [hrw] at hu2; cases hu2
theorem RS.vis (h : RS st pr b i s) (hf : i = (rowsB pr b).length → FB pr s.done b) : Vis2 pr s := by
  obtain ⟨w', e1, e2, e3⟩ := h.wy
  refine ⟨h.wl, fun j hj hd => ?_⟩
  rw [e1, List.length_append, List.length_singleton] at hj
  rw [e1] at hd ⊢
  by_cases hjw : j < w'.length
  · rw [List.take_append_of_le_length (by omega), List.getD_eq_getElem?_getD, List.getElem?_append_left hjw, ← List.getD_eq_getElem?_getD]
    exact e3 j hjw
  · have hj2 : j = w'.length := by omega
    subst hj2
    have ht : (w' ++ [b]).take (w'.length + 1) = w' ++ [b] := List.take_of_length_le (by rw [List.length_append]; exact Nat.le_refl _)
    rw [ht] at hd ⊢
    have hcs : cs pr (w' ++ [b]) = cs pr w' + (rowsB pr b).length := by rw [cs_app]; rfl
    have hil : i = (rowsB pr b).length := by have := h.hi; omega
    rw [List.take_of_length_le (by omega), List.getD_eq_getElem?_getD, List.getElem?_append_right (Nat.le_refl _), Nat.sub_self]
    exact hf hil
theorem RS.norm (G : Good st pr tk) {b i : Nat} {bl : List Int} {s : MSt} (h : RS st pr b i s) : AllC st pr (norm pr b i bl s) := by
  unfold Gn.norm
  by_cases hi : i < (rowsB pr b).length
  · rw [if_pos hi]
    exact ⟨hi, h⟩
  · rw [if_neg hi]
    have hil : i = (rowsB pr b).length := by have := h.hi; omega
    subst hil
    have hv := h.vis fun _ => h.fb G
    cases hn : nextB s (endB pr b) with
    | none => exact hv
    | some c =>
      have hc := next_in hn
      obtain ⟨c0, cl⟩ := G.pos hc
      obtain ⟨w', e1, e2, e3⟩ := h.wy
      refine ⟨cl, .s h.rc hc (by omega), fun x hx hxc => .s (h.ar.rc x hx) hc (Ne.symm hxc), fun a ha => ?_, h.lw, h.sm.go G h.hb hn, ?_, hv⟩
      · by_cases hab : a = b
        · subst hab
          intro k h1 h2
          rw [bgn_nxt] at h2
          exact h.ar.row k h1 h2
        · exact h.ar.dn a ha hab
      · rw [e1, cs_app, e2]
        rfl
theorem AllC.step (G : Good st pr tk) {c : Cfg} (h : AllC st pr c) : AllC st pr (stepC pr tk c) := by
  cases c with
  | ended s => exact h
  | great s => exact h
  | come b bl s =>
    obtain ⟨hb, hr, h1, h2, hlw, hsm, hd, hv⟩ := h
    refine RS.norm G (i := 0) ⟨hb, Nat.zero_le _, hr, fun y hy => ?_, ⟨fun x hx => ?_, ?_, fun a ha hab => ?_, fun k k1 k2 => by omega⟩, ⟨hlw.len, hlw.val⟩, ⟨fun y hy hpl => ?_, hsm.fx⟩, s.way, rfl, hd, fun j hj => ?_⟩
    · have hy : y ∈ s.way ++ [b] := hy
      rcases List.mem_append.mp hy with z | z
      · exact hv.1 y z
      · rw [List.mem_singleton.mp z]; exact hb
    · have hx : x ∉ s.way ++ [b] := hx
      rw [List.mem_append, not_or, List.mem_singleton] at hx
      exact h1 x hx.1 hx.2
    · show b ∈ s.way ++ [b]
      simp
    · have ha : a ∈ s.way ++ [b] := ha
      rcases List.mem_append.mp ha with z | z
      · exact h2 a z
      · exact absurd (List.mem_singleton.mp z) hab
    · refine hsm.ts y hy fun e => ?_
      obtain ⟨_, _, _, d4⟩ := G.dom hb hy
      have := hpl e
      rw [e] at d4
      omega
    · exact hv.2 j hj (by rw [hd]; exact cs_take _ _ _)
  | row b i bl s =>
    obtain ⟨hi, h⟩ := h
    show AllC st pr (if too (wAt pr tk b i bl s) = true then .great s else _)
    by_cases ht : too (wAt pr tk b i bl s) = true
    · rw [if_pos ht]
      exact h.vis fun e => by omega
    · rw [if_neg ht]
      obtain ⟨e1, e2⟩ := keys_doR (j := bgn pr b + i) (r := rwAt pr b i) (w := wAt pr tk b i bl s) (s := s)
      have ed : (doR (bgn pr b + i) (rwAt pr b i) (wAt pr tk b i bl s) s).done = s.done ++ [(bgn pr b + i, wAt pr tk b i bl s)] := by
        generalize wAt pr tk b i bl s = w
        cases rwAt pr b i <;> rfl
      have up : ∀ k, k ∈ keysD s → k ∈ keysD (doR (bgn pr b + i) (rwAt pr b i) (wAt pr tk b i bl s) s) := fun k hk => by
        rw [e1]
        exact List.mem_append_left _ hk
      obtain ⟨w', y1, y2, y3⟩ := h.wy
      refine RS.norm G ⟨h.hb, hi, h.rc, by rw [e2]; exact h.wl, ⟨fun x hx => h.ar.rc x (by rw [e2] at hx; exact hx), by rw [e2]; exact h.ar.here, fun a ha hab k k1 k2 => up k (h.ar.dn a (by rw [e2] at ha; exact ha) hab k k1 k2), fun k k1 k2 => ?_⟩, h.lw.row h.hb hi, h.sm.row G h.hb hi h.rc h.lw.len, w', by rw [e2]; exact y1, ?_, fun j hj => ?_⟩
      · by_cases z : k = bgn pr b + i
        · rw [e1, z]
          simp
        · exact up k (h.ar.row k k1 (by omega))
      · rw [ed, List.length_append, y2]
        rfl
      · rw [ed, List.take_append_of_le_length (by rw [y2]; exact Nat.le_trans (cs_take pr w' (j + 1)) (Nat.le_add_right _ _))]
        exact y3 j hj
theorem AllC.vis (h : AllC st pr c) : Vis2 pr c.st := by
  cases c with
  | come b bl s => exact h.2.2.2.2.2.2.2
  | row b i bl s => exact h.2.vis fun e => by have := h.1; omega
  | ended s => exact h
  | great s => exact h
theorem vis_run (G : Good st pr tk) (n : Nat) : Vis2 pr (runC pr tk n).st := by
  refine AllC.vis (st := st) ?_
  unfold runC
  induction n with
  | zero =>
    have hp := G.O.l1
    refine ⟨by omega, .z (by omega), fun x _ h => .z h, fun a h => (by cases h), ⟨?_, fun y w hw => by cases hw⟩, ⟨fun y hy hne => ?_, fun u l hu hd hld a x z he => ?_⟩, rfl, fun y h => (by cases h), fun j hj => absurd hj (Nat.not_lt_zero j)⟩
    · show (List.replicate _ _).length = _
      rw [List.length_replicate]
    · obtain ⟨d1, d2, _⟩ := G.dom (by omega) hy
      exact absurd (.z hne) d2
    · obtain ⟨_, l2⟩ := in_lead hu hld
      exact absurd (.z (G.pos l2).1) hd
  | succ n ih =>
    rw [itC_succ]
    exact ih.step G
end
end Gn
set_option Elab.async false
set_option linter.all false
set_option maxRecDepth 100000
set_option maxHeartbeats 4000000
namespace Gn
open PySem PySem.Spec PyProof.Rows L2
theorem rowsL_len {n : Nat} : ∀ {pr : List Blk}, (∀ b ∈ pr, b.1.length ≤ n) → (rowsL pr).length ≤ pr.length * n
  | [], _ => by simp [rowsL]
  | b :: bs, h => by
    have h1 := rowsL_len (pr := bs) fun c hc => h c (List.mem_cons_of_mem _ hc)
    have h2 := h b List.mem_cons_self
    unfold rowsL at h1 ⊢
    rw [List.map_cons, List.flatten_cons, List.length_append, List.length_cons, Nat.succ_mul]
    omega
theorem pd_app {α β : Type} {F : α → β → Prop} : ∀ {l l' : List α} {m m' : List β}, Paired F l m → Paired F l' m' → Paired F (l ++ l') (m ++ m')
  | _, _, _, _, .nil, h => h
  | _, _, _, _, .cons h t, g => .cons h (pd_app t g)
theorem take_rows_le {pr : List Blk} {n i : Nat} (h : ∀ b ∈ pr, b.1.length ≤ n) (hi : i ≤ pr.length) : (rowsL (pr.take i)).length ≤ pr.length * n := by
  have h1 := rowsL_len (pr := pr.take i) fun b hb => h b (List.mem_of_mem_take hb)
  rw [List.length_take] at h1
  exact Nat.le_trans h1 (Nat.mul_le_mul_right _ (Nat.min_le_right _ _))
theorem it_core {J : It} {n : Nat} {G : Hp → Prop} {Y : Nat → Hp → V → Hp → Prop} (w : Walk J n G Y) {Body : (Hp → Prop) → V → Hp → Prop} {H0 : Hp} {Qd : Hp → Prop} (Pv : Nat → Hp → Prop) (h0 : Pv 0 H0) (hG : ∀ i H, i ≤ n → Pv i H → G H)
    (hs : ∀ i x H H', i < n → Pv i H → Y i H x H' → Body (Pv (i + 1)) x H') (hd : ∀ H, Pv n H → Qd H) :
    ∃ W : Nat → Nat → Hp → Prop, (∃ m, W 0 m H0) ∧ ∀ i m H, W i m H → (J.stop i H ∧ Qd H) ∨ (J.go i H ∧ ∃ Nx : Hp → Prop, (∀ H', Nx H' → ∃ m', m' < m ∧ W (i + 1) m' H') ∧ ∀ x H', J.yld i H x H' → Body Nx x H') := by
  refine ⟨fun i m H => m = n - i ∧ i ≤ n ∧ Pv i H, ⟨n, by simp, Nat.zero_le _, h0⟩, ?_⟩
  rintro i m H ⟨rfl, hi, p⟩
  have q := hG i H hi p
  by_cases hlt : i < n
  · exact .inr ⟨w.goes i H hlt q, Pv (i + 1), fun H' p' => ⟨n - (i + 1), by omega, rfl, hlt, p'⟩, fun x H' y => hs i x H H' hlt p (w.yields i H x H' hlt q y)⟩
  · have e : i = n := by omega
    subst e
    exact .inl ⟨w.stops H q, hd H p⟩
def spRowsOf (K : PySem.W.Frag) : Sp := fun vs H Q _ => ∃ (v : V) (pr : List Blk), vs = [v] ∧ ProgAt K H v pr ∧ pr.length ≤ 12 ∧ (∀ b ∈ pr, b.1.length ≤ 130) ∧
  ∀ (p : Addr) (H' : Hp) (us : List V), H p = none → Same H H' → H' p = some (.lst us) → Paired (RowAt K H') us (rowsL pr) → Q (.ref p) H'
abbrev nRowsOf : List Str := ["program", "rows", "end", "row"]
theorem scRowsOf : FnScope nRowsOf ["program"] (defScope sRowsOf) := ⟨rfl, rfl, rfl, by decide +kernel, rfl, by decide +kernel, by decide +kernel⟩
def spWay (K : PySem.W.Frag) : Sp := fun vs H Q _ => ∃ (tka : Addr) (v : V) (most : Nat) (pr : List Blk) (tk : List Int), vs = [v, .ref tka, iv most] ∧ ProgAt K H v pr ∧ SqL K H tka (tk.map V.int) ∧ PureOk pr tk ∧ most ≤ 30000 ∧
  ∀ (wy : Addr) (H' : Hp), Same H H' → H wy = none → H' wy = some (.lst ((runC pr tk most).st.way.map iv)) → Q (.ref wy) H'
abbrev nWay : List Str := ["program", "takes", "most", "machine"]
theorem scWay : FnScope nWay ["program", "takes", "most"] (defScope sWay) := ⟨rfl, rfl, rfl, by decide +kernel, rfl, by decide +kernel, by decide +kernel⟩
section
variable {P : Program} {w : World} {K : PySem.W.Frag} {mg : Str → Option Value} {base : Heap}
theorem ok_rowsOf {f : Addr} {fd : FuncData} {k : Nat} (D : Df K mg "rows_of" sRowsOf ["program"] f fd) (B : Bi mg) : FnOk P w K mg base CX0 (k + 1) f fd ["program"] (spRowsOf K) := by
  refine D.F.ok scRowsOf (fun vs H Q E h => ?_) (fun cdv A outer s H vs Q E hr h => ?_)
  · obtain ⟨v, pr, rfl, _⟩ := h
    rfl
  · obtain ⟨v, pr, rfl, ⟨a, xs, rfl, ha, pd⟩, hl, hbl, q⟩ := h
    refine ⟨_, pss_one (ps_ret (pe_lc2 (own := [("rows", 1), ("end", 2), ("row", 3)]) (vs1 := [3]) (g := gTup K 2 (gCons (gName 1) (gCons (gName 2) gNil))) (tt := tYes) (g1 := gName 3) (tt1 := tYes) (te := tVar 3) (wi1 := iList K (tVar 1)) rfl scRowsOf.nd (pi_list (pv 0))
      (blkOk_by (own := [("rows", 1), ("end", 2), ("row", 3)]) (N := nRowsOf) (sc := defScope sRowsOf) (by decide +kernel)) (by decide)
      (fun _ _ _ _ _ => pg_tup rfl (pgs_cons (pg_name (i := 1) scRowsOf.nd rfl (.inl rfl)) (pgs_cons (pg_name (i := 2) scRowsOf.nd rfl (.inl rfl)) pgs_nil))) (fun _ _ _ _ _ => pts_nil)
      (fun _ _ _ _ _ => pi_list (pv 1)) (fun _ _ _ _ _ => pg_name (i := 3) scRowsOf.nd rfl (.inl rfl)) (fun _ _ _ _ _ => pts_nil) (fun _ _ _ _ _ => pv 3))), ?_⟩
    have hxl : xs.length = pr.length := pd_len pd
    refine ⟨.ref a, rfl, a, rfl, ⟨_, ha⟩, fun L nL => ?_⟩
    refine it_core (walk_list (K := K) (a := a) (xs := xs)) (fun i H1 => Same H H1 ∧ ∃ us, H1 L = some (.lst us) ∧ Paired (RowAt K H) us (rowsL (pr.take i))) ⟨new_same nL, [], upd_same, .nil⟩ (fun i H1 _ hP => hP.1.seq ha) (fun i x H1 H2 hi hP hY => ?_) (fun H1 hP => ?_)
    · obtain ⟨s1, us, eL, pu⟩ := hP
      obtain ⟨e1, ex⟩ := hY
      subst e1
      obtain ⟨bk, hbk, p, ra, ea, vs, rfl, hp, hra, pv, _⟩ := pd_at2 pd ex
      refine ⟨p, _, rfl, Same.tup s1 hp, rfl, _, _, rfl, _, _, rfl, rfl, rfl, ?_⟩
      have hvl : vs.length = bk.1.length := pd_len pv
      refine ⟨.ref ra, rfl, ra, rfl, ⟨_, sqL (s1 _ _ hra)⟩, ?_⟩
      refine it_core (walk_list (K := K) (a := ra) (xs := vs)) (fun j H3 => Same H H3 ∧ ∃ us, H3 L = some (.lst us) ∧ Paired (RowAt K H) us (rowsL (pr.take i) ++ bk.1.take j)) ⟨s1, us, eL, by simpa using pu⟩ (fun j H3 _ hP => sqL (hP.1 _ _ hra)) (fun j z H3 H4 hj hP hY => ?_) (fun H3 hP => ?_)
      · obtain ⟨s3, us3, eL3, pu3⟩ := hP
        obtain ⟨e1, ez⟩ := hY
        subst e1
        obtain ⟨rw_, hrw, hrow⟩ := pd_at2 pv ez
        refine ⟨rfl, _, rfl, us3, eL3, ?_, fun b o e => ?_, us3 ++ [z], upd_same, ?_⟩
        · have h1 := pd_len pu3
          have h2 := take_rows_le hbl (show i ≤ pr.length by omega)
          have h3 := hbl bk (List.mem_of_getElem? hbk)
          have h4 : pr.length * 130 ≤ 12 * 130 := Nat.mul_le_mul_right _ hl
          rw [List.length_append, List.length_take] at h1
          exact szt (by omega)
        · rw [upd_ne (ne_of_none e nL)]; exact s3 _ _ e
        · rw [List.take_add_one, hrw, ← List.append_assoc]
          exact pd_app pu3 (.cons hrow .nil)
      · obtain ⟨s3, us3, eL3, pu3⟩ := hP
        rw [hvl, List.take_length] at pu3
        exact ⟨s3, us3, eL3, by rw [rows_take hbk]; exact pu3⟩
    · obtain ⟨s1, us, eL, pu⟩ := hP
      rw [hxl, List.take_length] at pu
      exact q L H1 us nL s1 eL (pd_mono pu fun _ _ z => z.same s1)
theorem ok_way {f C fI fG : Addr} {fd fdI fdG : FuncData} {k : Nat} (D : Df K mg "way_of" sWay ["program", "takes", "most"] f fd) (T : MTxt K mg C) (M : Mk K C fI) (bI : Binds K fdI ["self", "program", "takes", "most"] []) (GI : FnOk P w K mg base CX0 k fI fdI ["self", "program", "takes", "most"] (spMInit K C))
    (mG : Meth K C "go_on" fG) (bG : Binds K fdG ["self"] []) (GG : FnOk P w K mg base CX0 (k + 1) fG fdG ["self"] (spGoOn K C)) : FnOk P w K mg base CX0 (k + 1 + 1) f fd ["program", "takes", "most"] (spWay K) := by
  refine D.F.ok scWay (fun vs H Q E h => ?_) (fun cdv A outer s H vs Q E hr h => ?_)
  · obtain ⟨tka, v, most, pr, tk, rfl, _⟩ := h
    rfl
  · obtain ⟨tka, v, most, pr, tk, rfl, hP, hT, hO, hmo, q⟩ := h
    refine ⟨_, pss_cons (ps_set (i := 3) scWay.nd rfl (.inl rfl) (pe_make M GI hr (by rfl) T.mgC bI .nil pass0 (pa_cons (pv 0) (pa_cons (pv 1) (pa_cons (pv 2) pa_nil)))))
      (pss_cons (ps_expr (pe_meth0 (pv 3) T.cl mG GG hr bG .nil pass0))
      (pss_one (ps_ret (pe_fld (pv 3) rfl)))), ?_⟩
    refine ⟨v, rfl, .ref tka, rfl, iv most, rfl, ?_⟩
    intro x dx nx ndx nex
    have s0 : Same H (upd (upd H dx (.own x)) x (.ins C dx [])) := fun b o e => by
      rw [upd_ne (ne_of_none e nx), upd_ne (ne_of_none e ndx)]
      exact e
    refine ⟨H, x, dx, tka, v, most, pr, tk, rfl, s0, nx, upd_same, hP, hT, hO, fun I A H1 sI hA hM hE => ⟨rfl, ?_⟩⟩
    subst hA
    refine ⟨.ref x, rfl, x, A.dx, _, rfl, hM.ob, rfl, I, x, A, pr, tk, rfl, hM, hE, hmo, fun H2 n2 hM2 hdl => ?_⟩
    refine ⟨.ref x, rfl, x, C, A.dx, _, _, rfl, hM2.ob, T.cl, T.way, mf_way _ _, ?_⟩
    exact q A.wy _ (sI.trans hM2.sI) (sI.free (hM2.nw A.wy (by simp))) hM2.wy
end
end Gn
set_option Elab.async false
set_option linter.all false
set_option maxRecDepth 100000
set_option maxHeartbeats 4000000
set_option pp.maxSteps 300
namespace Gn
open PySem PySem.Spec PyProof.Rows L2
/-! ### facts_behind, facts_at -/
theorem ifP {c A B : Prop} [Decidable c] (h : c) (p : A) : if c then A else B := by rw [if_pos h]; exact p
theorem ifN {c A B : Prop} [Decidable c] (h : ¬ c) (p : B) : if c then A else B := by rw [if_neg h]; exact p
def Fa.vals : Fa → List V
  | .alike p q => [.str "alike", iv p, iv q]
  | .one a => [.str "one", iv a]
  | .none a => [.str "none", iv a]
def FaAt (K : PySem.W.Frag) (H : Hp) (v : V) (f : Fa) : Prop := ∃ p, v = .ref p ∧ SqT K H p f.vals
theorem FaAt.same {K : PySem.W.Frag} {H H' : Hp} {v : V} {f : Fa} (h : FaAt K H v f) (e : Same H H') : FaAt K H' v f := by
  obtain ⟨p, h1, h2⟩ := h
  exact ⟨p, h1, Same.tup e h2⟩
def spFactsBh (K : PySem.W.Frag) : Sp := fun vs H Q _ => ∃ (ra : Addr) (ev : V) (u : Nat) (us : List V) (rws : List Rw) (e : En), vs = [.ref ra, ev, iv u] ∧ SqL K H ra us ∧ Paired (RowAt K H) us rws ∧ EnAt K H ev e ∧ (∀ a x z, e = .iff a x z → a < rws.length) ∧
  ∀ (p : Addr) (H' : Hp) (fs : List V), H p = none → Same H H' → H' p = some (.lst fs) → Paired (FaAt K H') fs (factE rws u e) → Q (.ref p) H'
abbrev nFb : List Str := ["rows", "end", "block", "tested", "row"]
theorem scFb : FnScope nFb ["rows", "end", "block"] (defScope sFactsBh) := ⟨rfl, rfl, rfl, by decide +kernel, rfl, by decide +kernel, by decide +kernel⟩
def spFactsAt (K : PySem.W.Frag) : Sp := fun vs H Q _ => ∃ (v : V) (pr : List Blk) (b : Nat), vs = [v, iv b] ∧ ProgAt K H v pr ∧ 1 ≤ pr.length ∧ pr.length ≤ 12 ∧ (∀ b ∈ pr, b.1.length ≤ 130) ∧ (∀ b ∈ pr, EnOk pr.length (rowsL pr).length b.2) ∧ NxOk pr.length (nmL pr) ∧ b < pr.length ∧
  ∀ (p : Addr) (H' : Hp) (fs : List V), H p = none → Same H H' → H' p = some (.lst fs) → Paired (FaAt K H') fs (factsF pr b) → Q (.ref p) H'
abbrev nFat : List Str := ["program", "block", "leads", "rows", "facts", "other"]
theorem scFat : FnScope nFat ["program", "block"] (defScope sFactsAt) := ⟨rfl, rfl, rfl, by decide +kernel, rfl, by decide +kernel, by decide +kernel⟩
theorem spec_leads {pr : List Blk} {u : Nat} (hn : ∀ b ∈ pr, b.2.names.Nodup) (hu : u < pr.length) : spec pr pr.length u = (leadsL (nmL pr)).getD u [] := by
  have hl : (nmL pr).length = pr.length := List.length_map _
  unfold leadsL
  rw [List.getD_eq_getElem?_getD, List.getElem?_map, List.getElem?_range (by rw [hl]; exact hu)]
  show spec pr pr.length u = (List.range (nmL pr).length).filter _
  rw [hl]
  unfold spec
  have key : ∀ n, n ≤ pr.length → ((List.range n).flatMap fun j => List.replicate (((pr.getD j ([], .fin)).2.names).count u) j) = (List.range n).filter fun l => decide (u ∈ (nmL pr).getD l []) := fun n => by
    induction n with
    | zero => intro _; rfl
    | succ n ih =>
      intro h
      rw [List.range_succ, List.flatMap_append, List.filter_append, ih (by omega)]
      congr 1
      have hnm : (nmL pr).getD n [] = (pr.getD n ([], .fin)).2.names := by
        have := Ex.names (pr := pr) (a := n)
        unfold Ex at this
        exact this
      have hmem : pr.getD n ([], .fin) ∈ pr := List.mem_of_getElem? (gdl (d := ([], En.fin)) (by omega))
      have hnd := hn _ hmem
      show List.replicate _ n ++ [] = _
      rw [List.append_nil, List.filter_cons, hnm]
      by_cases hm : u ∈ (pr.getD n ([], .fin)).2.names
      · rw [if_pos (decide_eq_true hm), hnd.count, if_pos hm]
        rfl
      · rw [if_neg (by simpa using hm), List.count_eq_zero_of_not_mem hm]
        rfl
  exact key pr.length (Nat.le_refl _)
theorem names_nd {m n : Nat} {e : En} (h : EnOk m n e) : e.names.Nodup := by
  cases e with
  | go b => exact List.nodup_cons.mpr ⟨(by simp), List.nodup_nil⟩
  | iff r b c =>
    have := h.2.2.2.2.2
    exact List.nodup_cons.mpr ⟨by simpa using this, List.nodup_cons.mpr ⟨(by simp), List.nodup_nil⟩⟩
  | fin => exact List.nodup_nil
section
variable {P : Program} {w : World} {K : PySem.W.Frag} {mg : Str → Option Value} {base : Heap}
theorem ok_factsBh {f : Addr} {fd : FuncData} {k : Nat} (D : Df K mg "facts_behind" sFactsBh ["rows", "end", "block"] f fd) : FnOk P w K mg base CX0 (k + 1) f fd ["rows", "end", "block"] (spFactsBh K) := by
  refine D.F.ok scFb (fun vs H Q E h => ?_) (fun cdv A outer s H vs Q E hr h => ?_)
  · obtain ⟨ra, ev, u, us, rws, e, rfl, _⟩ := h
    rfl
  · obtain ⟨ra, ev, u, us, rws, e, rfl, hra, hpu, he, hal, q⟩ := h
    refine ⟨_, (pss_cons (ps_if (pt_cmpR op_ne (pe_ix ix_tup (pv 1) pe_int (fun _ _ => rfl)) pe_str (nomark _)) (pss_one (ps_ret (pe_lst pa_nil))) pss_nil)
      (pss_cons (ps_set (i := 3) scFb.nd rfl (.inl rfl) (pe_ix ix_tup (pv 1) pe_int (fun _ _ => rfl)))
      (pss_cons (ps_if (pt_cmpR op_ne (pv 2) (pe_ix ix_tup (pv 1) pe_int (fun _ _ => rfl)) (nomark _)) (pss_one (ps_ret (pe_lst (pa_cons (pe_tup (pa_cons pe_str (pa_cons (pv 3) pa_nil))) pa_nil)))) pss_nil)
      (pss_cons (ps_set (i := 4) scFb.nd rfl (.inl rfl) (pe_ix ix_list (pv 0) (pv 3) (fun _ _ => rfl)))
      (pss_cons (ps_if (pt_cmpR op_eq (pe_ix ix_tup (pv 4) pe_int (fun _ _ => rfl)) pe_str (nomark _)) (pss_one (ps_ret (pe_lst (pa_cons (pe_tup (pa_cons pe_str (pa_cons (pe_ix ix_tup (pv 4) pe_int (fun _ _ => rfl)) (pa_cons (pe_ix ix_tup (pv 4) pe_int (fun _ _ => rfl)) pa_nil)))) (pa_cons (pe_tup (pa_cons pe_str (pa_cons (pv 3) pa_nil))) pa_nil))))) pss_nil)
      (pss_one (ps_ret (pe_ifExp (pt_cmpR op_eq (pe_ix ix_tup (pv 4) pe_int (fun _ _ => rfl)) pe_str (nomark _)) (pe_lst (pa_cons (pe_tup (pa_cons pe_str (pa_cons (pv 3) pa_nil))) pa_nil)) (pe_lst pa_nil))))))))), ?_⟩
    obtain ⟨pe, rfl, hpe⟩ := he.at
    refine ⟨.ref pe, rfl, pe, _, _, _, rfl, rfl, hpe, atI_nat (j := 0) rfl, rfl, _, rfl, ?_⟩
    show if (!decide (V.str e.word = V.str "if")) = true then _ else _
    cases e with
    | go b => exact ifP (by rfl) ⟨Nat.zero_le _, fun p np => q p _ [] np (new_same np) upd_same .nil⟩
    | fin => exact ifP (by rfl) ⟨Nat.zero_le _, fun p np => q p _ [] np (new_same np) upd_same .nil⟩
    | iff a x z =>
      have hal' := hal a x z rfl
      refine ifN (by intro h; cases h) ?_
      refine ⟨.ref pe, rfl, pe, _, _, _, rfl, rfl, hpe, atI_nat (j := 1) rfl, ?_⟩
      refine ⟨_, rfl, .ref pe, rfl, pe, _, _, _, rfl, rfl, hpe, atI_nat (j := 2) rfl, rfl, _, rfl, ?_⟩
      have hne : (!decide (iv u = iv x)) = !decide (u = x) := iv_ne
      show if (!decide (iv u = iv x)) = true then _ else _
      rw [hne]
      by_cases hux : u = x
      · refine ifN (by rw [decide_eq_true hux]; intro h; cases h) ?_
        have ef : factE rws u (.iff a x z) = factR a (rws.getD a (.take 0)) := if_neg (fun h => h hux)
        rw [ef] at q
        have hrow := gdl (d := Rw.take 0) hal'
        obtain ⟨v, hv, p, xs, rfl, hp1, hp2⟩ := pd_at hpu hrow
        generalize rws.getD a (.take 0) = row at q hrow hp1 hp2
        refine ⟨.ref ra, rfl, iv a, rfl, ra, us, _, .ref p, rfl, rfl, hra, atI_nat hv, ?_⟩
        refine ⟨.ref p, rfl, p, _, _, _, rfl, rfl, hp1, atI_nat (j := 0) rfl, rfl, _, rfl, ?_⟩
        show if decide (V.str row.w = V.str "same") = true then _ else _
        refine ite2 (fun e1 => ?_) (fun e1 => ?_)
        · obtain ⟨y1, y2, rfl⟩ := same_is e1
          have hp2 : xs = [iv y1, iv y2] := hp2
          subst hp2
          refine ⟨.ref p, rfl, p, _, _, _, rfl, rfl, hp1, atI_nat (j := 1) rfl, .ref p, rfl, p, _, _, _, rfl, rfl, hp1, atI_nat (j := 2) rfl, szl (show 3 ≤ 1000000 by decide), fun t1 n1 => ?_⟩
          refine ⟨_, rfl, szl (show 2 ≤ 1000000 by decide), fun t2 n2 => ⟨szl (show 2 ≤ 1000000 by decide), fun l nl => ?_⟩⟩
          have s1 := new_same (o := .tup [.str "alike", iv y1, iv y2]) n1
          have s2 := new_same (o := .tup [.str "one", iv a]) n2
          have s3 := new_same (o := .lst [.ref t1, .ref t2]) nl
          refine q l _ _ ((s1.trans s2).free nl) ((s1.trans s2).trans s3) upd_same (.cons ⟨t1, rfl, sqT (s3 _ _ (s2 _ _ upd_same))⟩ (.cons ⟨t2, rfl, sqT (s3 _ _ upd_same)⟩ .nil))
        · refine ⟨.ref p, rfl, p, _, _, _, rfl, rfl, hp1, atI_nat (j := 0) rfl, rfl, _, rfl, ?_⟩
          show if decide (V.str row.w = V.str "below") = true then _ else _
          refine ite2 (fun e2 => ?_) (fun e2 => ?_)
          · have hb : ∃ y1 y2, row = .bin .below y1 y2 := by
              cases row with
              | bin b y1 y2 => cases b <;> first | exact ⟨y1, y2, rfl⟩ | cases (show false = true from e2)
              | take _ => cases (show false = true from e2)
              | num _ => cases (show false = true from e2)
              | pick _ _ => cases (show false = true from e2)
              | meet _ => cases (show false = true from e2)
              | tell _ => cases (show false = true from e2)
              | look _ _ => cases (show false = true from e2)
              | lay _ _ _ => cases (show false = true from e2)
            obtain ⟨y1, y2, rfl⟩ := hb
            refine ⟨_, rfl, szl (show 2 ≤ 1000000 by decide), fun t2 n2 => ⟨szl (show 1 ≤ 1000000 by decide), fun l nl => ?_⟩⟩
            have s2 := new_same (o := .tup [.str "one", iv a]) n2
            have s3 := new_same (o := .lst [.ref t2]) nl
            exact q l _ _ (s2.free nl) (s2.trans s3) upd_same (.cons ⟨t2, rfl, sqT (s3 _ _ upd_same)⟩ .nil)
          · have h0 : factR a row = [] := by
              cases row with
              | bin b y1 y2 => cases b <;> first | rfl | exact absurd rfl e1 | exact absurd rfl e2
              | _ => rfl
            rw [h0] at q
            exact ⟨Nat.zero_le _, fun l nl => q l _ [] nl (new_same nl) upd_same .nil⟩
      · refine ifP (by rw [decide_eq_false hux]; rfl) ?_
        have ef : factE rws u (.iff a x z) = [.none a] := if_pos hux
        rw [ef] at q
        refine ⟨_, rfl, szl (show 2 ≤ 1000000 by decide), fun t2 n2 => ⟨szl (show 1 ≤ 1000000 by decide), fun l nl => ?_⟩⟩
        have s2 := new_same (o := .tup [.str "none", iv a]) n2
        have s3 := new_same (o := .lst [.ref t2]) nl
        exact q l _ _ (s2.free nl) (s2.trans s3) upd_same (.cons ⟨t2, rfl, sqT (s3 _ _ upd_same)⟩ .nil)
theorem ok_factsAt {f fL fA fR fB : Addr} {fd fdL fdA fdR fdB : FuncData} {k : Nat} (D : Df K mg "facts_at" sFactsAt ["program", "block"] f fd) (B : Bi mg)
    (DL : Df K mg "leads_of" sLeadsOf ["program"] fL fdL) (GL : FnOk P w K mg base CX0 k fL fdL ["program"] (spLeadsOf K))
    (DA : Df K mg "above" sAboveP ["program"] fA fdA) (GA : FnOk P w K mg base CX0 k fA fdA ["program"] (spAboveP K))
    (DR : Df K mg "rows_of" sRowsOf ["program"] fR fdR) (GR : FnOk P w K mg base CX0 k fR fdR ["program"] (spRowsOf K))
    (DB : Df K mg "facts_behind" sFactsBh ["rows", "end", "block"] fB fdB) (GB : FnOk P w K mg base CX0 k fB fdB ["rows", "end", "block"] (spFactsBh K)) : FnOk P w K mg base CX0 (k + 1) f fd ["program", "block"] (spFactsAt K) := by
  refine D.F.ok scFat (fun vs H Q E h => ?_) (fun cdv A outer s H vs Q E hr h => ?_)
  · obtain ⟨v, pr, b, rfl, _⟩ := h
    rfl
  · obtain ⟨v, pr, b, rfl, hP, hl1, hl2, hbl, hen, hnx, hb, q⟩ := h
    refine ⟨_, (pss_cons (ps_set (i := 2) scFat.nd rfl (.inl rfl) (pe_call GL hr (by rfl) DL.g DL.F.kp DL.b .nil pass0 (pa_cons (pv 0) pa_nil)))
      (pss_cons (ps_set (i := 3) scFat.nd rfl (.inl rfl) (pe_call GR hr (by rfl) DR.g DR.F.kp DR.b .nil pass0 (pa_cons (pv 0) pa_nil)))
      (pss_cons (ps_set (i := 4) scFat.nd rfl (.inl rfl) (pe_lst pa_nil))
      (pss_cons (ps_for PassesOwn.never rfl (pi_list (pe_ix ix_list (pe_call GA hr (by rfl) DA.g DA.F.kp DA.b .nil pass0 (pa_cons (pv 0) pa_nil)) (pv 1) (fun _ _ => rfl))) (pg_name (i := 5) scFat.nd rfl (.inl rfl)) (pss_one (ps_if (pt_cmpR op_eq (pe_callB call_len_seq (by rfl) B.len PySem.boot_len (pa_cons (pe_ix ix_list (pv 2) (pv 5) (fun _ _ => rfl)) pa_nil)) pe_int (nomark _)) (pss_one (ps_expr (pe_bm PySem.F.plainAttrs_list PySem.F.slot_list_extend PySem.F.type_list_extend mt_extend (pv 4) (pa_cons (pe_call GB hr (by rfl) DB.g DB.F.kp DB.b .nil pass0 (pa_cons (pv 3) (pa_cons (pe_ix ix_tup (pe_ix ix_list (pv 0) (pe_ix ix_list (pe_ix ix_list (pv 2) (pv 5) (fun _ _ => rfl)) pe_int (fun _ _ => rfl)) (fun _ _ => rfl)) pe_int (fun _ _ => rfl)) (pa_cons (pv 5) pa_nil)))) pa_nil)))) pss_nil)))
      (pss_one (ps_ret (pv 4))))))), ?_⟩
    have hno : namesOk pr.length pr := fun b hb => names_ok (hen b hb)
    have hn2 : ∀ b ∈ pr, b.2.names.length ≤ 2 := fun b _ => names_two b.2
    have hnd : ∀ b ∈ pr, b.2.names.Nodup := fun b hb => names_nd (hen b hb)
    refine ⟨v, rfl, v, pr, rfl, hP, by omega, hno, hn2, fun lp qs H1 s1 LL1 => ?_⟩
    refine ⟨v, rfl, v, pr, rfl, hP.same s1, by omega, hbl, fun ra H2 us nra s2 era hpu => ?_⟩
    have LL2 := LL1.same s2
    have s12 := s1.trans s2
    refine ⟨Nat.zero_le _, fun fo nfo => ?_⟩
    have s3 := new_same (o := .lst []) nfo
    have efo : upd H2 fo (.lst []) fo = some (.lst []) := upd_same
    have nfH : H fo = none := s12.free nfo
    have nfra : fo ≠ ra := (ne_of_none era nfo).symm
    have nfl : ∀ a ∈ lp :: qs, a ≠ fo := fun a ha z => by
      rcases List.mem_cons.mp ha with rfl | ha
      · have := LL2.top
        rw [z, nfo] at this; cases this
      · obtain ⟨n, hn⟩ := List.mem_iff_getElem?.mp ha
        have := LL2.at_ n a hn
        rw [z, nfo] at this; cases this
    have n2f : H2 fo = none := nfo
    have s13 := s12.trans s3
    generalize hH3 : upd H2 fo (.lst []) = H3 at s3 efo s13
    refine ⟨v, rfl, v, pr, pr.length, rfl, hP.same s13, hl1, hl2, rfl, hno, hn2, hnx, fun ab qa H4 s4 LL4 => ?_⟩
    obtain ⟨pb, hpb⟩ : ∃ pb, qa[b]? = some pb := ⟨qa[b]'(by rw [LL4.len]; exact hb), List.getElem?_eq_getElem _⟩
    have epb := LL4.at_ b pb hpb
    have npf : pb ≠ fo := (ne_of_none efo (LL4.new pb (List.mem_cons_of_mem _ (List.mem_of_getElem? hpb)))).symm
    refine ⟨iv b, rfl, ab, _, _, .ref pb, rfl, rfl, sqL LL4.top, atI_nat (by rw [List.getElem?_map, hpb]; rfl), pb, rfl, ⟨_, sqL epb⟩, ?_⟩
    have s24 : Same H2 H4 := s3.trans s4
    have efo4 := s4 _ _ efo
    have s14 := s13.trans s4
    refine for_list (K := K) (a := pb) (xs := (dl (nmL pr) b).map iv) (fun i σ Hx => ∃ (y5 : Option V) (fs : List V), σ = [some v, some (iv b), some (.ref lp), some (.ref ra), some (.ref fo), y5] ∧ Same H Hx ∧ (∀ a o, a ≠ fo → H4 a = some o → Hx a = some o) ∧ Hx fo = some (.lst fs) ∧ Paired (FaAt K Hx) fs (((dl (nmL pr) b).take i).flatMap (factU pr)) ∧ fs.length ≤ 2 * i)
      ⟨none, [], rfl, s14, fun _ _ _ z => z, efo4, .nil, Nat.zero_le _⟩ (fun i σ Hx _ hP => ?_) (fun i x σ Hx hx hP => ?_) (fun σ Hx hP => ?_)
    · obtain ⟨y5, fs, _, _, kx, _⟩ := hP
      exact sqL (kx _ _ npf epb)
    · obtain ⟨y5, fs, rfl, sx, kx, ef, hpf, hfl⟩ := hP
      rw [List.getElem?_map] at hx
      obtain ⟨u, hu, rfl⟩ := Option.map_eq_some_iff.mp hx
      have hul : u < pr.length := by
        have := (dl_mem.mp (List.mem_of_getElem? hu)).1
        rw [show (nmL pr).length = pr.length from List.length_map _] at this
        exact this
      have hil : i < (dl (nmL pr) b).length := (List.getElem?_eq_some_iff.mp hu).1
      have hil2 : (dl (nmL pr) b).length ≤ 12 := Nat.le_trans (dl_len _ _) (by rw [List.length_map]; exact hl2)
      obtain ⟨qu, hqu⟩ : ∃ qu, qs[u]? = some qu := ⟨qs[u]'(by rw [LL2.len]; exact hul), List.getElem?_eq_getElem _⟩
      have elp : Hx lp = some (.lst (qs.map V.ref)) := kx _ _ (nfl lp List.mem_cons_self) (s24 _ _ LL2.top)
      have equ : Hx qu = some (.lst ((spec pr pr.length u).map iv)) := kx _ _ (nfl qu (List.mem_cons_of_mem _ (List.mem_of_getElem? hqu))) (s24 _ _ (LL2.at_ u qu hqu))
      have hsp := spec_leads hnd hul
      rw [hsp] at equ
      refine ⟨.ref lp, rfl, iv u, rfl, lp, _, _, .ref qu, rfl, rfl, sqL elp, atI_nat (by rw [List.getElem?_map, hqu]; rfl), qu, _, rfl, .inl (sqL equ), rfl, _, rfl, ?_⟩
      have hnext : ((dl (nmL pr) b).take (i + 1)).flatMap (factU pr) = ((dl (nmL pr) b).take i).flatMap (factU pr) ++ factU pr u := by
        rw [List.take_add_one, hu, List.flatMap_append]
        show _ ++ (factU pr u ++ []) = _
        rw [List.append_nil]
      refine ite2 (fun e => ?_) (fun e => ?_)
      · have e1 : (((leadsL (nmL pr)).getD u []).map iv).length = 1 := by
          have := V.int.inj (of_decide_eq_true e)
          omega
        rw [List.length_map] at e1
        obtain ⟨l, hld⟩ : ∃ l, (leadsL (nmL pr)).getD u [] = [l] := by
          match h : (leadsL (nmL pr)).getD u [] with
          | [] => rw [h] at e1; cases e1
          | [l] => exact ⟨l, rfl⟩
          | _ :: _ :: _ => rw [h] at e1; simp at e1
        have hfu : factU pr u = factE (rowsL pr) u (endB pr l) := by
          unfold factU
          rw [hld]
        rw [hld] at equ
        obtain ⟨l1, l2⟩ := in_lead hul hld
        obtain ⟨pp, bs, pk, rk, ea, vk, rfl, h1, h2, h3, h4, h5, h6⟩ := (hP.same sx).blk l1
        have era4 : Hx ra = some (.lst us) := kx _ _ (Ne.symm nfra) (s24 _ _ era)
        have hpux : Paired (RowAt K Hx) us (rowsL pr) := by
          refine pd_mono hpu fun _ _ z => row_tups z fun {a xs} w => ?_
          rcases w with (w | ⟨o, w⟩) | w
          · exact .inl (.inl (kx _ _ (ne_of_none w n2f) (s24 _ _ w)))
          · exact .inl (.inr ⟨o, kx _ _ (ne_of_none w n2f) (s24 _ _ w)⟩)
          · exact .inr w
        refine ⟨.ref fo, rfl, .inl ⟨rfl, _, sqL ef⟩, .ref ra, rfl, .ref pp, rfl, .ref lp, rfl, iv u, rfl, lp, _, _, .ref qu, rfl, rfl, sqL elp, atI_nat (by rw [List.getElem?_map, hqu]; rfl), qu, _, _, iv l, rfl, rfl, sqL equ, atI_nat (j := 0) rfl, pp, bs, _, .ref pk, rfl, rfl, h1, atI_nat h2, pk, _, _, ea, rfl, rfl, h3, atI_nat (j := 1) rfl, iv u, rfl, ?_⟩
        refine ⟨ra, ea, u, us, rowsL pr, endB pr l, rfl, sqL era4, hpux, h6, fun a x z he => ?_, fun p Hy gs np sy ep hpg => ?_⟩
        · have := hen _ (blkMem l1)
          rw [show ((rowsB pr l, endB pr l) : Blk).2 = .iff a x z from he] at this
          exact this.1
        · have hgl : gs.length ≤ 2 := by
            rw [pd_len hpg]
            unfold factE
            cases endB pr l with
            | go c => exact Nat.zero_le _
            | fin => exact Nat.zero_le _
            | iff a x z =>
              show (if u ≠ x then [Fa.none a] else factR a ((rowsL pr).getD a (.take 0))).length ≤ 2
              by_cases h : u ≠ x
              · rw [if_pos h]; exact (show 1 ≤ 2 by decide)
              · rw [if_neg h]
                cases (rowsL pr).getD a (.take 0) with
                | bin bk y1 y2 => cases bk <;> simp [factR]
                | _ => exact Nat.zero_le _
          have efy := sy _ _ ef
          have npf2 : p ≠ fo := (ne_of_none ef np).symm
          refine ⟨fo, p, fs, gs, rfl, rfl, efy, ep, szl (by omega), ?_⟩
          have tf : ∀ {v : V} {f : Fa}, FaAt K Hy v f → FaAt K (upd Hy fo (.lst (fs ++ gs))) v f := fun {v f} ⟨t, z1, z2⟩ => ⟨t, z1, tup_upd z2 efy⟩
          refine ⟨_, fs ++ gs, rfl, fun a o z => ?_, fun a o n z => ?_, upd_same, ?_, by rw [List.length_append]; omega⟩
          · rw [upd_ne (ne_of_none z nfH)]
            exact sy _ _ (sx _ _ z)
          · rw [upd_ne n]
            exact sy _ _ (kx _ _ n z)
          · rw [hnext, hfu]
            exact pd_app (pd_mono hpf fun _ _ z => tf (z.same sy)) (pd_mono hpg fun _ _ z => tf z)
      · have e1 : ¬ ((leadsL (nmL pr)).getD u []).length = 1 := fun z => e (decide_eq_true (by rw [List.length_map, z]; rfl))
        have hfu : factU pr u = [] := by
          unfold factU
          match h : (leadsL (nmL pr)).getD u [] with
          | [] => rfl
          | [l] => rw [h] at e1; exact absurd rfl e1
          | _ :: _ :: _ => rfl
        exact ⟨_, fs, rfl, sx, kx, ef, by rw [hnext, hfu, List.append_nil]; exact hpf, by omega⟩
    · obtain ⟨y5, fs, rfl, sx, kx, ef, hpf, hfl⟩ := hP
      rw [List.length_map, List.take_length] at hpf
      exact ⟨.ref fo, rfl, q fo Hx fs nfH sx ef hpf⟩
end
end Gn
set_option Elab.async false
set_option linter.all false
set_option maxRecDepth 100000
set_option maxHeartbeats 4000000
set_option pp.maxSteps 300
namespace Gn
open PySem PySem.Spec PyProof.Rows L2
/-! ### the law's own: next_blocks, places, facts -/
def spNextBl (K : PySem.W.Frag) : Sp := fun vs H Q _ => ∃ (v : V) (pr : List Blk), vs = [v] ∧ ProgAt K H v pr ∧ pr.length ≤ 12 ∧
  ∀ (p : Addr) (H' : Hp), H p = none → Same H H' → NL K H' p (nmL pr) → Q (.ref p) H'
abbrev nNb : List Str := ["_law_program_here", "_law_found", "_law_rows", "_law_end"]
theorem scNb : FnScope nNb ["_law_program_here"] (defScope sNextBl) := ⟨rfl, rfl, rfl, by decide +kernel, rfl, by decide +kernel, by decide +kernel⟩
def spPlaces (K : PySem.W.Frag) : Sp := fun vs H Q _ => ∃ (v : V) (pr : List Blk), vs = [v] ∧ ProgAt K H v pr ∧ 1 ≤ pr.length ∧ pr.length ≤ 12 ∧ (∀ b ∈ pr, b.1.length ≤ 130) ∧ NxOk pr.length (nmL pr) ∧
  ∀ (T ra ba ab : Addr) (us : List V) (H' : Hp), Same H H' → H' T = some (.tup [.ref ra, .ref ba, .ref ab]) → SqL K H' ra us → Paired (RowAt K H') us (rowsL pr) → NL K H' ab (abv (nmL pr)) → Q (.ref T) H'
abbrev nPl : List Str := ["_law_program_here", "_law_rows", "_law_blocks", "_law_block", "_law_some", "_law_end"]
theorem scPl : FnScope nPl ["_law_program_here"] (defScope sPlaces) := ⟨rfl, rfl, rfl, by decide +kernel, rfl, by decide +kernel, by decide +kernel⟩
def spFacts (K : PySem.W.Frag) : Sp := fun vs H Q _ => ∃ (v : V) (pr : List Blk) (b : Nat), vs = [v, iv b] ∧ ProgAt K H v pr ∧ 1 ≤ pr.length ∧ pr.length ≤ 12 ∧ (∀ b ∈ pr, b.1.length ≤ 130) ∧ (∀ b ∈ pr, EnOk pr.length (rowsL pr).length b.2) ∧ NxOk pr.length (nmL pr) ∧ b < pr.length ∧
  ∀ (p : Addr) (H' : Hp) (fs : List V), H p = none → Same H H' → H' p = some (.lst fs) → Paired (FaAt K H') fs (factsF pr b) → Q (.ref p) H'
abbrev nFc : List Str := ["_law_program_here", "_law_block", "_law_rows", "_law_blocks", "_law_over", "_law_nexts_here", "_law_found", "_law_there", "_law_ends", "_law_chooser_here", "_law_kind", "_law_lead"]
theorem scFc : FnScope nFc ["_law_program_here", "_law_block"] (defScope sFacts) := ⟨rfl, rfl, rfl, by decide +kernel, rfl, by decide +kernel, by decide +kernel⟩
theorem rep_len (k : Nat) (x : V) : (List.replicate k [x]).flatten.length = k := by
  induction k with
  | zero => rfl
  | succ k ih => rw [List.replicate_succ, List.flatten_cons, List.length_append, ih]; simp; omega
theorem word_in (r : Rw) : inV (.str r.w) [.str "same", .str "below"] = true → ∃ b x y, r = .bin b x y ∧ (b = .same ∨ b = .below) := fun h => by
  cases r with
  | bin b x y => cases b <;> first | exact ⟨_, x, y, rfl, .inl rfl⟩ | exact ⟨_, x, y, rfl, .inr rfl⟩ | cases (show false = true from h)
  | take _ => cases (show false = true from h)
  | num _ => cases (show false = true from h)
  | pick _ _ => cases (show false = true from h)
  | meet _ => cases (show false = true from h)
  | tell _ => cases (show false = true from h)
  | look _ _ => cases (show false = true from h)
  | lay _ _ _ => cases (show false = true from h)
section
variable {P : Program} {w : World} {K : PySem.W.Frag} {mg : Str → Option Value} {base : Heap}
theorem ok_nextBl {f : Addr} {fd : FuncData} {k : Nat} (D : Df K mg "_law_next_blocks" sNextBl ["_law_program_here"] f fd) (B : Bi mg) : FnOk P w K mg base CX0 (k + 1) f fd ["_law_program_here"] (spNextBl K) := by
  refine D.F.ok scNb (fun vs H Q E h => ?_) (fun cdv A outer s H vs Q E hr h => ?_)
  · obtain ⟨v, pr, rfl, _⟩ := h
    rfl
  · obtain ⟨v, pr, rfl, ⟨a, xs, rfl, ha, pd⟩, hl, q⟩ := h
    refine ⟨_, (pss_cons (ps_set (i := 1) scNb.nd rfl (.inl rfl) (pe_lst pa_nil))
      (pss_cons (ps_for PassesOwn.never rfl (pi_list (pv 0)) (pg_tup rfl (pgs_cons (pg_name (i := 2) scNb.nd rfl (.inl rfl)) (pgs_cons (pg_name (i := 3) scNb.nd rfl (.inl rfl)) pgs_nil))) (pss_one (ps_expr (pe_bm PySem.F.plainAttrs_list PySem.F.slot_list_append PySem.F.type_list_append mt_append (pv 1) (pa_cons (pe_ifExp (pt_cmpR op_eq (pe_ix ix_tup (pv 3) pe_int (fun _ _ => rfl)) pe_str (nomark _)) (pe_lst (pa_cons (pe_ix ix_tup (pv 3) pe_int (fun _ _ => rfl)) pa_nil)) (pe_callTy call_list_of (by rfl) B.list PyProof.Rows.boot_list (pa_cons (pe_slice sl_tup (pv 3) (po_some pe_int) po_none) pa_nil))) pa_nil)))))
      (pss_one (ps_ret (pv 1))))), ?_⟩
    have hxl : xs.length = pr.length := pd_len pd
    refine ⟨Nat.zero_le _, fun fo nfo => ?_⟩
    refine ⟨.ref a, rfl, a, rfl, ⟨_, (new_same nfo).seq ha⟩, ?_⟩
    refine for_list (K := K) (a := a) (xs := xs) (fun i σ Hx => ∃ (y2 y3 : Option V) (qs : List Addr), σ = [some (.ref a), some (.ref fo), y2, y3] ∧ Same H Hx ∧ LL H Hx fo i qs (fun n => (pr.getD n ([], .fin)).2.names))
      ⟨none, none, [], rfl, new_same nfo, ⟨upd_same, by simp, rfl, fun q hq => by rw [List.mem_singleton.mp hq]; exact nfo, fun n q e => by simp at e⟩⟩ (fun i σ Hx _ hP => ?_) (fun i x σ Hx hx hP => ?_) (fun σ Hx hP => ?_)
    · obtain ⟨_, _, _, _, sx, _⟩ := hP
      exact sx.seq ha
    · obtain ⟨y2, y3, qs, rfl, sx, L1⟩ := hP
      obtain ⟨bk, hbk, p, rl, ea, vs, rfl, hp, hrl, pv, hea⟩ := pd_at2 pd hx
      have hil := (List.getElem?_eq_some_iff.mp hx).1
      have hnm : (pr.getD i ([], .fin)).2.names = bk.2.names := by rw [List.getD_eq_getElem?_getD, hbk]; rfl
      obtain ⟨pe, rfl, hpe⟩ := (EnAt.mv hea fun z => Same.tup sx z).at
      refine ⟨p, _, rfl, Same.tup sx hp, rfl, _, _, rfl, _, _, rfl, rfl, ?_⟩
      refine ⟨.ref fo, rfl, .inl ⟨rfl, _, sqL L1.top⟩, .ref pe, rfl, pe, _, _, _, rfl, rfl, hpe, atI_nat (j := 0) rfl, rfl, _, rfl, ?_⟩
      have hln : (qs.map V.ref).length < sizeLine := by rw [List.length_map, L1.len]; exact szt (by omega)
      show if decide (V.str bk.2.word = V.str "go") = true then _ else _
      cases he : bk.2 with
      | go b =>
        rw [he] at hpe hnm
        refine ifP (by rfl) ?_
        refine ⟨.ref pe, rfl, pe, _, _, _, rfl, rfl, hpe, atI_nat (j := 1) rfl, szl (show 1 ≤ 1000000 by decide), fun l nl => ?_⟩
        exact ⟨fo, _, _, rfl, rfl, by rw [upd_ne (ne_of_none L1.top nl)]; exact L1.top, hln, _, _, qs ++ [l], rfl, Same.upd (sx.trans (new_same nl)) nfo, L1.snoc (xs := [b]) nl (sx.free nl) hnm⟩
      | iff r b c =>
        rw [he] at hpe hnm
        refine ifN (by intro h; cases h) ?_
        refine ⟨.ref pe, rfl, 2, rfl, pe, _, rfl, hpe, (by decide : ¬ (HT.sIx 4 0 (some 2) = 0 ∧ HT.sIx 4 4 none = 4)), fun S nS => ?_⟩
        have sS := new_same (o := .tup (cutV [.str "if", iv r, iv b, iv c] (some 2) none)) nS
        refine ⟨S, [iv b, iv c], rfl, .inr (sqT upd_same), fun l nl => ?_⟩
        have L2' := L1.same sS
        exact ⟨fo, _, _, rfl, rfl, by rw [upd_ne (ne_of_none L2'.top nl)]; exact L2'.top, hln, _, _, qs ++ [l], rfl, Same.upd ((sx.trans sS).trans (new_same nl)) nfo, L2'.snoc (xs := [b, c]) nl ((sx.trans sS).free nl) hnm⟩
      | fin =>
        rw [he] at hpe hnm
        refine ifN (by intro h; cases h) ?_
        refine ⟨.ref pe, rfl, 2, rfl, pe, _, rfl, hpe, (by decide : ¬ (HT.sIx 1 0 (some 2) = 0 ∧ HT.sIx 1 1 none = 1)), fun S nS => ?_⟩
        have sS := new_same (o := .tup (cutV [.str "end"] (some 2) none)) nS
        refine ⟨S, [], rfl, .inr (sqT upd_same), fun l nl => ?_⟩
        have L2' := L1.same sS
        exact ⟨fo, _, _, rfl, rfl, by rw [upd_ne (ne_of_none L2'.top nl)]; exact L2'.top, hln, _, _, qs ++ [l], rfl, Same.upd ((sx.trans sS).trans (new_same nl)) nfo, L2'.snoc (xs := []) nl ((sx.trans sS).free nl) hnm⟩
    · obtain ⟨y2, y3, qs, rfl, sx, L1⟩ := hP
      have hN := L1.nl (K := K)
      have en : (List.range xs.length).map (fun n => (pr.getD n ([], .fin)).2.names) = nmL pr := by
        refine List.ext_getElem? fun n => ?_
        rw [List.getElem?_map, List.getElem?_map]
        by_cases hn : n < pr.length
        · rw [List.getElem?_range (by omega), gdl (d := ([], En.fin)) hn]
          rfl
        · rw [List.getElem?_eq_none (by rw [List.length_range]; omega), List.getElem?_eq_none (by omega)]
          rfl
      rw [en] at hN
      exact ⟨.ref fo, rfl, q fo Hx nfo sx hN⟩
theorem ok_places {f fN fV : Addr} {fd fdN fdV : FuncData} {k : Nat} (D : Df K mg "_law_places" sPlaces ["_law_program_here"] f fd) (B : Bi mg)
    (DN : Df K mg "_law_next_blocks" sNextBl ["_law_program_here"] fN fdN) (GN : FnOk P w K mg base CX0 k fN fdN ["_law_program_here"] (spNextBl K))
    (DV : Df K mg "_law_above" sAbove ["_law_nexts_here"] fV fdV) (GV : FnOk P w K mg base CX0 k fV fdV ["_law_nexts_here"] (spAbove K)) : FnOk P w K mg base CX0 (k + 1) f fd ["_law_program_here"] (spPlaces K) := by
  refine D.F.ok scPl (fun vs H Q E h => ?_) (fun cdv A outer s H vs Q E hr h => ?_)
  · obtain ⟨v, pr, rfl, _⟩ := h
    rfl
  · obtain ⟨v, pr, rfl, hP, hl1, hl, hbl, hnx, q⟩ := h
    refine ⟨_, (pss_cons (ps_par (i := 1) (j := 2) (by rfl) scPl.nd rfl rfl (by decide) rfl rfl (pa_cons (pe_lst pa_nil) (pa_cons (pe_lst pa_nil) pa_nil)) (by rfl))
      (pss_cons (ps_for PassesOwn.never rfl (pi_enum (by rfl) B.enumerate (pa_cons (pv 0) pa_nil)) (pg_tup rfl (pgs_cons (pg_name (i := 3) scPl.nd rfl (.inl rfl)) (pgs_cons (pg_tup rfl (pgs_cons (pg_name (i := 4) scPl.nd rfl (.inl rfl)) (pgs_cons (pg_name (i := 5) scPl.nd rfl (.inl rfl)) pgs_nil))) pgs_nil))) (pss_cons (ps_expr (pe_bm PySem.F.plainAttrs_list PySem.F.slot_list_extend PySem.F.type_list_extend mt_extend (pv 1) (pa_cons (pv 4) pa_nil)))
      (pss_one (ps_set (i := 2) scPl.nd rfl (.inl rfl) (pe_op op_cat (pv 2) (pe_op op_rep (pe_lst (pa_cons (pv 3) pa_nil)) (pe_callB call_len_seq (by rfl) B.len PySem.boot_len (pa_cons (pv 4) pa_nil))))))))
      (pss_one (ps_ret (pe_tup (pa_cons (pv 1) (pa_cons (pv 2) (pa_cons (pe_call GV hr (by rfl) DV.g DV.F.kp DV.b .nil pass0 (pa_cons (pe_call GN hr (by rfl) DN.g DN.F.kp DN.b .nil pass0 (pa_cons (pv 0) pa_nil)) pa_nil)) pa_nil)))))))), ?_⟩
    have hP0 := hP
    obtain ⟨a, xs, rfl, ha, pd⟩ := hP0
    have hxl : xs.length = pr.length := pd_len pd
    refine ⟨Nat.zero_le _, fun ra nra => ⟨Nat.zero_le _, fun ba nba => ⟨_, _, rfl, ?_⟩⟩⟩
    have nrb : ra ≠ ba := ne_of_none upd_same nba
    have s0 : Same H (upd (upd H ra (.lst [])) ba (.lst [])) := (new_same nra).trans (new_same nba)
    have er : upd (upd H ra (.lst [])) ba (.lst []) ra = some (.lst []) := by rw [upd_ne nrb]; exact upd_same
    have eb : upd (upd H ra (.lst [])) ba (.lst []) ba = some (.lst []) := upd_same
    generalize upd (upd H ra (.lst [])) ba (.lst []) = H0 at s0 er eb
    refine ⟨.ref a, rfl, a, _, rfl, s0.seq ha, ?_⟩
    refine for_it (walk_enum (K := K) (a := a) (xs := xs)) (fun i σ H1 => ∃ (y3 y4 y5 : Option V) (us zs : List V) (bx : Addr), σ = [some (.ref a), some (.ref ra), some (.ref bx), y3, y4, y5] ∧ Same H H1 ∧ H1 ra = some (.lst us) ∧ Paired (RowAt K H) us (rowsL (pr.take i)) ∧ H1 bx = some (.lst zs) ∧ bx ≠ ra ∧ zs.length ≤ 130 * i)
      ⟨_, _, _, [], [], ba, rfl, s0, er, .nil, eb, nrb.symm, Nat.zero_le _⟩ (fun i σ H1 _ hP => ?_) (fun i x σ H1 H2 hi hP hY => ?_) (fun σ H1 hP => ?_)
    · obtain ⟨_, _, _, _, _, _, _, s1, _⟩ := hP
      exact s1.seq ha
    · obtain ⟨y3, y4, y5, us, zs, bx, rfl, s1, er1, pu, eb1, nbr, hzl⟩ := hP
      obtain ⟨T, x1, x2, rfl, nT, rfl, e1, e2⟩ := hY
      cases e1
      have e2 : xs[i]? = some x2 := e2
      obtain ⟨bk, hbk, p, rl, ea, vs, rfl, hp, hrl, pv, _⟩ := pd_at2 pd e2
      have sT := new_same (o := .tup [.int (i : Nat), .ref p]) nT
      have s2 := s1.trans sT
      have er2 := sT _ _ er1
      have eb2 := sT _ _ eb1
      have eT : upd H1 T (.tup [.int (i : Nat), .ref p]) T = some (.tup [.int (i : Nat), .ref p]) := upd_same
      generalize upd H1 T (.tup [.int (i : Nat), .ref p]) = H3 at s2 er2 eb2 eT
      have hp3 := Same.tup s2 hp
      refine ⟨T, _, rfl, sqT eT, rfl, _, _, rfl, _, _, rfl, p, _, rfl, hp3, rfl, _, _, rfl, _, _, rfl, rfl, rfl, ?_⟩
      have hvl : vs.length = bk.1.length := pd_len pv
      have hul := pd_len pu
      have h2 := take_rows_le hbl (show i ≤ pr.length by omega)
      have h130 : i * 130 ≤ 12 * 130 := Nat.mul_le_mul_right _ (by omega)
      have h3 := hbl bk (List.mem_of_getElem? hbk)
      refine ⟨.ref ra, rfl, .inl ⟨rfl, _, sqL er2⟩, _, rfl, ra, rl, _, _, rfl, rfl, er2, s2 _ _ hrl, szl (by omega), ?_⟩
      have s4 := Same.upd (o := .lst (us ++ vs)) s2 nra
      have er4 : upd H3 ra (.lst (us ++ vs)) ra = some (.lst (us ++ vs)) := upd_same
      have eb4 : upd H3 ra (.lst (us ++ vs)) bx = some (.lst zs) := by rw [upd_ne nbr]; exact eb2
      generalize upd H3 ra (.lst (us ++ vs)) = H4 at s4 er4 eb4
      refine ⟨_, rfl, _, rfl, szl (show 1 ≤ 1000000 by decide), fun l nl => ?_⟩
      have sl := new_same (o := .lst [V.int (i : Nat)]) nl
      refine ⟨.ref rl, rfl, rl, vs, rfl, .inl (sqL (sl _ _ (s4 _ _ hrl))), l, _, _, rfl, rfl, upd_same, by omega, by omega, ?_, fun m nm => ?_⟩
      · rw [Int.toNat_natCast]
        exact szl (by show 1 * vs.length ≤ 1000000; omega)
      have sm := new_same (o := .lst (List.replicate ((vs.length : Int)).toNat [V.int (i : Nat)]).flatten) nm
      have hrl2 : (List.replicate ((vs.length : Int)).toNat [V.int (i : Nat)]).flatten.length = vs.length := by rw [Int.toNat_natCast]; exact rep_len _ _
      refine ⟨bx, m, _, _, rfl, rfl, sm _ _ (sl _ _ eb4), upd_same, by rw [hrl2]; exact szl (by omega), fun n nn => ?_⟩
      have sn := new_same (o := .lst (zs ++ (List.replicate ((vs.length : Int)).toNat [V.int (i : Nat)]).flatten)) nn
      have s5 := ((s4.trans sl).trans sm).trans sn
      have er5 := sn _ _ (sm _ _ (sl _ _ er4))
      refine ⟨_, _, _, us ++ vs, _, n, rfl, s5, er5, ?_, upd_same, (ne_of_none (sm _ _ (sl _ _ er4)) nn).symm, by rw [List.length_append, hrl2]; omega⟩
      rw [rows_take hbk]
      exact pd_app pu pv
    · obtain ⟨y3, y4, y5, us, zs, bx, rfl, s1, er1, pu, eb1, nbr, hzl⟩ := hP
      rw [hxl, List.take_length] at pu
      refine ⟨_, rfl, _, rfl, .ref a, rfl, .ref a, pr, rfl, hP.same s1, hl, fun na H2 nna s2 hN => ?_⟩
      have hlen : (nmL pr).length = pr.length := List.length_map _
      refine ⟨na, nmL pr, rfl, hN, by omega, by omega, fun ys hy => ⟨(hnx.2.1 ys hy).1, fun y h => by rw [hlen]; exact ((hnx.2.1 ys hy).2.2 y h).2⟩, fun ab abx H3 s3 hA _ _ habv => ?_⟩
      rw [habv] at hA
      refine ⟨szl (show 3 ≤ 1000000 by decide), fun T nT => ?_⟩
      have sT := new_same (o := .tup [.ref ra, .ref bx, .ref ab]) nT
      have s4 := (s2.trans s3).trans sT
      exact q T ra bx ab us _ (s1.trans s4) upd_same (sqL (s4 _ _ er1)) (pd_mono pu fun _ _ z => z.same (s1.trans s4)) ((hA.same (new_sub _ _)).same sT)
theorem ok_facts {f fN fL : Addr} {fd fdN fdL : FuncData} {k : Nat} (D : Df K mg "_law_facts" sFacts ["_law_program_here", "_law_block"] f fd) (B : Bi mg)
    (DN : Df K mg "_law_next_blocks" sNextBl ["_law_program_here"] fN fdN) (GN : FnOk P w K mg base CX0 k fN fdN ["_law_program_here"] (spNextBl K))
    (DL : Df K mg "_law_places" sPlaces ["_law_program_here"] fL fdL) (GL : FnOk P w K mg base CX0 k fL fdL ["_law_program_here"] (spPlaces K)) : FnOk P w K mg base CX0 (k + 1) f fd ["_law_program_here", "_law_block"] (spFacts K) := by
  refine D.F.ok scFc (fun vs H Q E h => ?_) (fun cdv A outer s H vs Q E hr h => ?_)
  · obtain ⟨v, pr, b, rfl, _⟩ := h
    rfl
  · obtain ⟨v, pr, b, rfl, hP, hl1, hl2, hbl, hen, hnx, hb, q⟩ := h
    refine ⟨_, (pss_cons (ps_asg (pe_call GL hr (by rfl) DL.g DL.F.kp DL.b .nil pass0 (pa_cons (pv 0) pa_nil)) (pg_tup rfl (pgs_cons (pg_name (i := 2) scFc.nd rfl (.inl rfl)) (pgs_cons (pg_name (i := 3) scFc.nd rfl (.inl rfl)) (pgs_cons (pg_name (i := 4) scFc.nd rfl (.inl rfl)) pgs_nil)))))
      (pss_cons (ps_asg (pe_tup (pa_cons (pe_call GN hr (by rfl) DN.g DN.F.kp DN.b .nil pass0 (pa_cons (pv 0) pa_nil)) (pa_cons (pe_lst pa_nil) pa_nil))) (pg_tup rfl (pgs_cons (pg_name (i := 5) scFc.nd rfl (.inr rfl)) (pgs_cons (pg_name (i := 6) scFc.nd rfl (.inl rfl)) pgs_nil))))
      (pss_cons (ps_for PassesOwn.never rfl (pi_list (pe_ix ix_list (pv 4) (pv 1) (fun _ _ => rfl))) (pg_name (i := 7) scFc.nd rfl (.inr rfl)) (pss_cons (ps_setLc (i := 8) (own := [("_law_lead", 11)]) (g := gName 11) (tt := tIn K (tVar 7) (tIxL K (tVar 5) (tVar 11))) (te := tIxT K (tIxL K (tVar 0) (tVar 11)) (tC (.int 1))) (by rfl) scFc.nd rfl rfl (sw_true rfl rfl rfl (by decide +kernel)) (pi_range1 (by rfl) B.range (pa_cons (pe_callB call_len_seq (by rfl) B.len PySem.boot_len (pa_cons (pv 0) pa_nil)) pa_nil)) (blkOk_by (own := [("_law_lead", 11)]) (N := nFc) (sc := defScope sFacts) (by decide +kernel)) (fun _ _ _ _ _ => (pg_name (i := 11) scFc.nd rfl (.inl rfl))) (fun _ _ _ _ _ => pts_one (pt_cmpR op_in_seq (pv 7) (pe_ix ix_list (pv 5) (pv 11) (fun _ _ => rfl)) rfl)) (fun _ _ _ _ _ => (pe_ix ix_tup (pe_ix ix_list (pv 0) (pv 11) (fun _ _ => rfl)) pe_int (fun _ _ => rfl))))
      (pss_one (ps_if (pw_and (pt_cmpR op_eq (pe_callB call_len_seq (by rfl) B.len PySem.boot_len (pa_cons (pv 8) pa_nil)) pe_int (nomark _)) (pw_and1 (pt_cmpR op_eq (pe_ix ix_tup (pe_ix ix_list (pv 8) pe_int (fun _ _ => rfl)) pe_int (fun _ _ => rfl)) pe_str (nomark _)))).pt (pss_cons (ps_par (i := 9) (j := 10) (by rfl) scFc.nd rfl rfl (by decide) rfl rfl (pa_cons (pe_ix ix_tup (pe_ix ix_list (pv 8) pe_int (fun _ _ => rfl)) pe_int (fun _ _ => rfl)) (pa_cons (pe_ix ix_tup (pe_ix ix_list (pv 2) (pe_ix ix_tup (pe_ix ix_list (pv 8) pe_int (fun _ _ => rfl)) pe_int (fun _ _ => rfl)) (fun _ _ => rfl)) pe_int (fun _ _ => rfl)) pa_nil)) (by rfl))
      (pss_one (ps_if (pt_cmpR op_eq (pv 7) (pe_ix ix_tup (pe_ix ix_list (pv 8) pe_int (fun _ _ => rfl)) pe_int (fun _ _ => rfl)) (nomark _)) (pss_one (ps_expr (pe_bm PySem.F.plainAttrs_list PySem.F.slot_list_append PySem.F.type_list_append mt_append (pv 6) (pa_cons (pe_tup (pa_cons pe_str (pa_cons (pv 9) pa_nil))) pa_nil)))) (pss_one (ps_if (pt_cmpR op_in_seq (pv 10) (pe_tup (pa_cons pe_str (pa_cons pe_str pa_nil))) rfl) (pss_cons (ps_set (i := 6) scFc.nd rfl (.inl rfl) (pe_op op_cat (pv 6) (pe_op op_rep (pe_lst (pa_cons (pe_tup (pa_cons pe_str (pa_cons (pe_ix ix_tup (pe_ix ix_list (pv 2) (pv 9) (fun _ _ => rfl)) pe_int (fun _ _ => rfl)) (pa_cons (pe_ix ix_tup (pe_ix ix_list (pv 2) (pv 9) (fun _ _ => rfl)) pe_int (fun _ _ => rfl)) pa_nil)))) pa_nil)) (pe_callTy call_int1 (by rfl) B.int PyProof.Rows.boot_int (pa_cons (pe_cmpR op_eq (pv 10) pe_str (nomark _)) pa_nil)))))
      (pss_one (ps_expr (pe_bm PySem.F.plainAttrs_list PySem.F.slot_list_append PySem.F.type_list_append mt_append (pv 6) (pa_cons (pe_tup (pa_cons pe_str (pa_cons (pv 9) pa_nil))) pa_nil))))) pss_nil))))) pss_nil))))
      (pss_one (ps_ret (pv 6)))))), ?_⟩
    have hlen : (nmL pr).length = pr.length := List.length_map _
    refine ⟨v, rfl, v, pr, rfl, hP, hl1, hl2, hbl, hnx, fun T ra ba ab us H1 s1 eT era hpu hA => ?_⟩
    refine ⟨T, _, rfl, sqT eT, rfl, _, _, rfl, _, _, rfl, _, _, rfl, rfl, ?_⟩
    refine ⟨v, rfl, v, pr, rfl, hP.same s1, hl2, fun na H2 nna s2 hN => ⟨Nat.zero_le _, fun fo nfo => ⟨szl (show 2 ≤ 1000000 by decide), fun T2 nT2 => ?_⟩⟩⟩
    have s12 := s1.trans s2
    have s3 := new_same (o := .lst []) nfo
    have sT2 := new_same (o := .tup [.ref na, .ref fo]) nT2
    refine ⟨T2, _, rfl, sqT upd_same, rfl, _, _, rfl, _, _, rfl, rfl, ?_⟩
    have efo : upd (upd H2 fo (.lst [])) T2 (.tup [.ref na, .ref fo]) fo = some (.lst []) := sT2 _ _ upd_same
    have s23 := s3.trans sT2
    show tSeq _ _ _ _ (upd (upd H2 fo (.lst [])) T2 (.tup [.ref na, .ref fo]))
    generalize upd (upd H2 fo (.lst [])) T2 (.tup [.ref na, .ref fo]) = H3 at efo s23
    have hA2 := hA.same s2
    have habv : (abv (nmL pr))[b]? = some (dl (nmL pr) b) := by
      rw [abv_eq, List.getElem?_map, List.getElem?_range (by rw [hlen]; exact hb)]
      rfl
    obtain ⟨ys, qb, y1, y2, y3, hqb⟩ := hA2.at habv
    have era2 := s2.seq era
    have hpu2 := pd_mono hpu fun _ _ z => z.same s2
    have hP2 := hP.same s12
    obtain ⟨a0, bs, rfl, ha, pd⟩ := hP2
    have hbsl : bs.length = pr.length := pd_len pd
    refine ⟨.ref ab, rfl, iv b, rfl, ab, ys, _, .ref qb, rfl, rfl, s23.seq y1, y3, qb, rfl, ⟨_, s23.seq hqb⟩, ?_⟩
    refine for_list (K := K) (a := qb) (xs := (dl (nmL pr) b).map iv) (fun i σ Hx => ∃ (y7 y8 y9 y10 : Option V) (fx : Addr) (fs : List V), σ = [some (.ref a0), some (iv b), some (.ref ra), some (.ref ba), some (.ref ab), some (.ref na), some (.ref fx), y7, y8, y9, y10, none] ∧ Same H2 Hx ∧ H2 fx = none ∧ Hx fx = some (.lst fs) ∧ Paired (FaAt K Hx) fs (((dl (nmL pr) b).take i).flatMap (factU pr)) ∧ fs.length ≤ 2 * i)
      ⟨_, _, _, _, fo, [], rfl, s23, nfo, efo, .nil, Nat.zero_le _⟩ (fun i σ Hx _ hP => ?_) (fun i x σ Hx hx hP => ?_) (fun σ Hx hP => ?_)
    · obtain ⟨_, _, _, _, _, _, _, sx, _⟩ := hP
      exact sx.seq hqb
    · obtain ⟨y7, y8, y9, y10, fx, fs, rfl, sx, nfx, ef, hpf, hfl⟩ := hP
      rw [List.getElem?_map] at hx
      obtain ⟨u, hu, rfl⟩ := Option.map_eq_some_iff.mp hx
      have hul : u < pr.length := by
        have := (dl_mem.mp (List.mem_of_getElem? hu)).1
        rw [hlen] at this
        exact this
      have hil : i < (dl (nmL pr) b).length := (List.getElem?_eq_some_iff.mp hu).1
      have hil2 : (dl (nmL pr) b).length ≤ 12 := Nat.le_trans (dl_len _ _) (by rw [hlen]; exact hl2)
      have hnext : ((dl (nmL pr) b).take (i + 1)).flatMap (factU pr) = ((dl (nmL pr) b).take i).flatMap (factU pr) ++ factU pr u := by
        rw [List.take_add_one, hu, List.flatMap_append]
        show _ ++ (factU pr u ++ []) = _
        rw [List.append_nil]
      let F : Nat → Bool := fun l => decide (u ∈ (nmL pr).getD l [])
      refine ⟨.ref a0, rfl, a0, bs, rfl, .inl (sx.seq ha), (pr.length : Int), by rw [hbsl], by omega, by omega, fun L nL => ?_⟩
      refine lc_range (lo := 0) (n := pr.length) (fun j H4 => Same Hx H4 ∧ ∃ es, H4 L = some (.lst es) ∧ Paired (EnAt K Hx) es (((List.range j).filter F).map (endB pr))) ⟨new_same nL, [], upd_same, .nil⟩ (fun j H4 hj hP4 => ?_) (fun H4 hP4 => ?_)
      · obtain ⟨s4, es, eL, hpe⟩ := hP4
        have hj0 : V.int (0 + (j : Int)) = iv j := by rw [Int.zero_add]; rfl
        rw [hj0]
        have sx4 := sx.trans s4
        have hjn : j < (nmL pr).length := by rw [hlen]; exact hj
        obtain ⟨zs, qn, z1, z2, z3, z4⟩ := (hN.same sx4).at (gdl (d := ([] : List Nat)) hjn)
        refine ⟨rfl, _, rfl, .ref na, rfl, _, rfl, na, zs, _, .ref qn, rfl, rfl, z1, z3, qn, _, rfl, .inl z4, rfl, flat_iv _, _, rfl, ?_⟩
        show if inV (iv u) (((nmL pr).getD j []).map iv) = true then _ else _
        rw [inV_iv]
        have er := filt_succ F j
        refine ite2 (fun e => ?_) (fun e => ?_)
        · rw [if_pos e] at er
          obtain ⟨bk, hbk, pk, rk, ea, vk, rfl2, h3, h4, h5, h6⟩ := pd_at2 pd (List.getElem?_eq_getElem (l := bs) (i := j) (by omega))
          have hbv : bs[j]? = some (.ref pk) := by rw [List.getElem?_eq_getElem (by omega), rfl2]
          have heb : endB pr j = bk.2 := by unfold endB; rw [List.getD_eq_getElem?_getD, hbk]; rfl
          refine ⟨.ref a0, rfl, iv j, rfl, a0, bs, _, .ref pk, rfl, rfl, sx4.seq ha, atI_nat hbv, pk, _, _, ea, rfl, rfl, Same.tup sx4 h3, atI_nat (j := 1) rfl, es, eL, ?_, fun c o z => ?_, es ++ [ea], upd_same, ?_⟩
          · have := pd_len hpe
            rw [List.length_map] at this
            have h9 := List.length_filter_le F (List.range j)
            rw [List.length_range] at h9
            exact szt (by omega)
          · rw [upd_ne (ne_of_none z nL)]; exact s4 _ _ z
          · rw [er, List.map_append]
            exact pd_app hpe (.cons (by rw [heb]; exact EnAt.mv h6 fun z => Same.tup sx z) .nil)
        · rw [if_neg e, List.append_nil] at er
          exact ⟨s4, es, eL, by rw [er]; exact hpe⟩
      · obtain ⟨s4, es, eL, hpe⟩ := hP4
        have hld0 : (leadsL (nmL pr)).getD u [] = (List.range pr.length).filter F := by
          unfold leadsL
          rw [List.getD_eq_getElem?_getD, List.getElem?_map, List.getElem?_range (by rw [hlen]; exact hul)]
          show (List.range (nmL pr).length).filter _ = _
          rw [hlen]
        rw [← hld0] at hpe
        have sx4 := sx.trans s4
        have ef4 := s4 _ _ ef
        have hpf4 := pd_mono hpf fun _ _ z => z.same s4
        have hesl := pd_len hpe
        rw [List.length_map] at hesl
        have keep : factU pr u = [] → ∀ y9' y10' : Option V, ∃ (y7 y8 y9 y10 : Option V) (fx' : Addr) (fs' : List V), [some (.ref a0), some (iv b), some (.ref ra), some (.ref ba), some (.ref ab), some (.ref na), some (.ref fx), some (iv u), some (.ref L), y9', y10', none] = [some (.ref a0), some (iv b), some (.ref ra), some (.ref ba), some (.ref ab), some (.ref na), some (.ref fx'), y7, y8, y9, y10, none] ∧ Same H2 H4 ∧ H2 fx' = none ∧ H4 fx' = some (.lst fs') ∧ Paired (FaAt K H4) fs' (((dl (nmL pr) b).take (i + 1)).flatMap (factU pr)) ∧ fs'.length ≤ 2 * (i + 1) := fun h0 _ _ =>
          ⟨_, _, _, _, fx, fs, rfl, sx4, nfx, ef4, by rw [hnext, h0, List.append_nil]; exact hpf4, by omega⟩
        refine ⟨.ref L, rfl, L, es, rfl, .inl (sqL eL), rfl, _, rfl, ite2 (fun e => ?_) (fun e => ?_)⟩
        · have e1 : es.length = 1 := by
            have := V.int.inj (of_decide_eq_true e)
            omega
          obtain ⟨l, hld⟩ : ∃ l, (leadsL (nmL pr)).getD u [] = [l] := by
            match h : (leadsL (nmL pr)).getD u [] with
            | [] => rw [h, e1] at hesl; cases hesl
            | [l] => exact ⟨l, rfl⟩
            | _ :: _ :: _ => rw [h, e1] at hesl; simp at hesl
          have hfu : factU pr u = factE (rowsL pr) u (endB pr l) := by
            unfold factU
            rw [hld]
          obtain ⟨l1, l2⟩ := in_lead hul hld
          rw [hld] at hpe
          obtain ⟨e0, rfl, hen0⟩ : ∃ e0, es = [e0] ∧ EnAt K Hx e0 (endB pr l) := by
            match es, e1, hpe with
            | [e0], _, .cons h .nil => exact ⟨e0, rfl, h⟩
          obtain ⟨pe, rfl, hpe4⟩ := (EnAt.mv hen0 fun z => Same.tup s4 z).at
          refine ⟨.ref L, rfl, L, _, _, .ref pe, rfl, rfl, sqL eL, atI_nat (j := 0) rfl, pe, _, _, _, rfl, rfl, hpe4, atI_nat (j := 0) rfl, rfl, _, rfl, ?_⟩
          show if decide (V.str (endB pr l).word = V.str "if") = true then _ else _
          cases he : endB pr l with
          | go c => exact ifN (by intro h; cases h) (keep (by rw [hfu, he]; rfl) _ _)
          | fin => exact ifN (by intro h; cases h) (keep (by rw [hfu, he]; rfl) _ _)
          | iff a x z =>
            rw [he] at hpe4 hfu
            refine ifP (by rfl) ?_
            have hbl1 := hen _ (blkMem l1)
            rw [show ((rowsB pr l, endB pr l) : Blk).2 = .iff a x z from he] at hbl1
            have hal := hbl1.1
            have hxz : x ≠ z := hbl1.2.2.2.2.2
            have hrow := gdl (d := Rw.take 0) hal
            have hxm : u = x ∨ u = z := by
              have := l2
              unfold Eo at this
              rw [he] at this
              simpa [En.names] using this
            obtain ⟨vr, hv, pw, xs, rfl, hp1, hp2⟩ := pd_at hpu2 hrow
            have hp1 := Same.tup sx4 hp1
            have hfe : factE (rowsL pr) u (.iff a x z) = if u ≠ x then [.none a] else factR a ((rowsL pr).getD a (.take 0)) := rfl
            generalize (rowsL pr).getD a (.take 0) = row at hrow hp1 hp2 hfe
            refine ⟨.ref L, rfl, L, _, _, .ref pe, rfl, rfl, sqL eL, atI_nat (j := 0) rfl, pe, _, _, _, rfl, rfl, hpe4, atI_nat (j := 1) rfl, ?_⟩
            refine ⟨.ref ra, rfl, .ref L, rfl, L, _, _, .ref pe, rfl, rfl, sqL eL, atI_nat (j := 0) rfl, pe, _, _, _, rfl, rfl, hpe4, atI_nat (j := 1) rfl, ra, us, _, .ref pw, rfl, rfl, sx4.seq era2, atI_nat hv, pw, _, _, _, rfl, rfl, hp1, atI_nat (j := 0) rfl, _, _, rfl, ?_⟩
            refine ⟨_, rfl, .ref L, rfl, L, _, _, .ref pe, rfl, rfl, sqL eL, atI_nat (j := 0) rfl, pe, _, _, _, rfl, rfl, hpe4, atI_nat (j := 3) rfl, rfl, _, rfl, ite2 (fun e2 => ?_) (fun e2 => ?_)⟩
            · have huz : u = z := by
                have := V.int.inj (of_decide_eq_true e2)
                omega
              have hux : u ≠ x := fun h => hxz (h.symm.trans huz)
              rw [if_pos hux] at hfe
              refine ⟨.ref fx, rfl, .inl ⟨rfl, _, sqL ef4⟩, _, rfl, szl (show 2 ≤ 1000000 by decide), fun t2 n2 => ?_⟩
              have st2 := new_same (o := .tup [.str "none", iv a]) n2
              have ef5 := st2 _ _ ef4
              refine ⟨fx, _, _, rfl, rfl, ef5, szt (by omega), _, _, _, _, fx, fs ++ [.ref t2], rfl, Same.upd (sx4.trans st2) nfx, nfx, upd_same, ?_, by rw [List.length_append, List.length_singleton]; omega⟩
              rw [hnext, hfu, hfe]
              have tf : ∀ {v : V} {f : Fa}, FaAt K (upd H4 t2 (.tup [.str "none", iv a])) v f → FaAt K (upd (upd H4 t2 (.tup [.str "none", iv a])) fx (.lst (fs ++ [.ref t2]))) v f := fun {v f} ⟨t, z1, z2⟩ => ⟨t, z1, tup_upd z2 ef5⟩
              exact pd_app (pd_mono hpf4 fun _ _ z => tf (z.same st2)) (.cons (tf ⟨t2, rfl, sqT upd_same⟩) .nil)
            · have hux : u = x := hxm.resolve_right fun h => e2 (decide_eq_true (by rw [h]))
              rw [if_neg (fun h => h hux)] at hfe
              refine ⟨_, rfl, szl (show 2 ≤ 1000000 by decide), fun Tt nTt => ?_⟩
              have sTt := new_same (o := .tup [.str "same", .str "below"]) nTt
              have eTt : upd H4 Tt (.tup [.str "same", .str "below"]) Tt = some (.tup [.str "same", .str "below"]) := upd_same
              have ef5 := sTt _ _ ef4
              have eL5 := sTt _ _ eL
              have sx5 := sx4.trans sTt
              have hpf5 := pd_mono hpf4 fun _ _ z => z.same sTt
              have hp15 := Same.tup sTt hp1
              generalize upd H4 Tt (.tup [.str "same", .str "below"]) = H5 at sTt eTt ef5 eL5 sx5 hpf5 hp15
              refine ⟨Tt, _, rfl, .inr (sqT eTt), rfl, rfl, _, rfl, ?_⟩
              show if inV (.str row.w) [.str "same", .str "below"] = true then _ else _
              refine ite2 (fun e3 => ?_) (fun e3 => ?_)
              · obtain ⟨bk, y1', y2', rfl, hbk⟩ := word_in row e3
                have hp2 : xs = [iv y1', iv y2'] := hp2
                subst hp2
                have era5 := sx5.seq era2
                refine ⟨.ref fx, rfl, .ref ra, rfl, iv a, rfl, ra, us, _, .ref pw, rfl, rfl, era5, atI_nat hv, pw, _, _, _, rfl, rfl, hp15, atI_nat (j := 1) rfl, ?_⟩
                refine ⟨.ref ra, rfl, iv a, rfl, ra, us, _, .ref pw, rfl, rfl, era5, atI_nat hv, pw, _, _, _, rfl, rfl, hp15, atI_nat (j := 2) rfl, szl (show 3 ≤ 1000000 by decide), fun t1 n1 => ⟨szl (show 1 ≤ 1000000 by decide), fun l6 n6 => ?_⟩⟩
                have st1 := new_same (o := .tup [.str "alike", iv y1', iv y2']) n1
                have et1 : upd H5 t1 (.tup [.str "alike", iv y1', iv y2']) t1 = some (.tup [.str "alike", iv y1', iv y2']) := upd_same
                have ef6 := st1 _ _ ef5
                have sx6 := sx5.trans st1
                have hpf6 := pd_mono hpf5 fun _ _ z => z.same st1
                generalize upd H5 t1 (.tup [.str "alike", iv y1', iv y2']) = H6 at st1 et1 ef6 sx6 hpf6 n6
                have sl6 := new_same (o := .lst [V.ref t1]) n6
                refine ⟨_, rfl, rfl, .inr ⟨_, rfl, ?_⟩⟩
                have hb01 : ∀ b : Bool, -(2 ^ 63) ≤ (if b = true then (1 : Int) else 0) ∧ (if b = true then (1 : Int) else 0) < 2 ^ 63 ∧ 1 * (if b = true then (1 : Int) else 0).toNat ≤ 1 := by decide
                refine ⟨l6, _, _, rfl, rfl, upd_same, (hb01 _).1, (hb01 _).2.1, szl (Nat.le_trans (hb01 _).2.2 (by decide)), fun p7 np7 => ?_⟩
                obtain ⟨rl, rf, hrl, hrp, hrl2, hre⟩ : ∃ (rl : List V) (rf : List Fa), (List.replicate (Int.toNat (if decide (V.str (Rw.bin bk y1' y2').w = V.str "same") = true then (1 : Int) else 0)) [V.ref t1]).flatten = rl ∧ Paired (FaAt K H6) rl rf ∧ rl.length ≤ 1 ∧ rf ++ [Fa.one a] = factR a (.bin bk y1' y2') := by
                  rcases hbk with rfl | rfl
                  · exact ⟨[.ref t1], [.alike y1' y2'], rfl, .cons ⟨t1, rfl, sqT et1⟩ .nil, Nat.le_refl _, rfl⟩
                  · exact ⟨[], [], rfl, .nil, Nat.zero_le _, rfl⟩
                rw [hrl]
                have sp7 := new_same (o := .lst rl) np7
                have ep7 : upd (upd H6 l6 (.lst [V.ref t1])) p7 (.lst rl) p7 = some (.lst rl) := upd_same
                have ef7 := sp7 _ _ (sl6 _ _ ef6)
                have s67 := sl6.trans sp7
                generalize upd (upd H6 l6 (.lst [V.ref t1])) p7 (.lst rl) = H7 at sp7 ep7 ef7 s67
                have sx7 := sx6.trans s67
                refine ⟨fx, p7, _, _, rfl, rfl, ef7, ep7, szl (by omega), fun p8 np8 => ?_⟩
                have sp8 := new_same (o := .lst (fs ++ rl)) np8
                have ep8 : upd H7 p8 (.lst (fs ++ rl)) p8 = some (.lst (fs ++ rl)) := upd_same
                have n8 : H2 p8 = none := sx7.free np8
                have sx8 := sx7.trans sp8
                have s68 := s67.trans sp8
                generalize upd H7 p8 (.lst (fs ++ rl)) = H8 at sp8 ep8 sx8 s68
                refine ⟨.ref p8, rfl, .inl ⟨rfl, _, sqL ep8⟩, _, rfl, szl (show 2 ≤ 1000000 by decide), fun t9 n9 => ?_⟩
                have st9 := new_same (o := .tup [.str "one", iv a]) n9
                have ep9 := st9 _ _ ep8
                have tf : ∀ {v : V} {f : Fa}, FaAt K (upd H8 t9 (.tup [.str "one", iv a])) v f → FaAt K (upd (upd H8 t9 (.tup [.str "one", iv a])) p8 (.lst ((fs ++ rl) ++ [.ref t9]))) v f := fun {v f} ⟨t, z1, z2⟩ => ⟨t, z1, tup_upd z2 ep9⟩
                refine ⟨p8, _, _, rfl, rfl, ep9, by rw [List.length_append]; exact szt (by omega), _, _, _, _, p8, (fs ++ rl) ++ [.ref t9], rfl, Same.upd (sx8.trans st9) n8, n8, upd_same, ?_, by rw [List.length_append, List.length_append, List.length_singleton]; omega⟩
                rw [hnext, hfu, hfe, ← hre, ← List.append_assoc]
                exact pd_app (pd_app (pd_mono hpf6 fun _ _ z => tf ((z.same s68).same st9)) (pd_mono hrp fun _ _ z => tf ((z.same s68).same st9))) (.cons (tf ⟨t9, rfl, sqT upd_same⟩) .nil)
              · have h0 : factR a row = [] := by
                  cases row with
                  | bin b y1 y2 => cases b <;> first | rfl | exact absurd rfl e3
                  | _ => rfl
                exact ⟨_, _, _, _, fx, fs, rfl, sx5, nfx, ef5, by rw [hnext, hfu, hfe, h0, List.append_nil]; exact hpf5, by omega⟩
        · have e1 : ¬ ((leadsL (nmL pr)).getD u []).length = 1 := fun z => e (decide_eq_true (by rw [hesl, z]; rfl))
          refine keep ?_ _ _
          unfold factU
          match h : (leadsL (nmL pr)).getD u [] with
          | [] => rfl
          | [l] => rw [h] at e1; exact absurd rfl e1
          | _ :: _ :: _ => rfl
    · obtain ⟨y7, y8, y9, y10, fx, fs, rfl, sx, nfx, ef, hpf, hfl⟩ := hP
      rw [List.length_map, List.take_length] at hpf
      exact ⟨.ref fx, rfl, q fx Hx fs (s12.free nfx) (s12.trans sx) ef hpf⟩
end
end Gn
set_option Elab.async false
set_option linter.all false
set_option maxRecDepth 100000
set_option maxHeartbeats 4000000
set_option pp.maxSteps 300
namespace Gn
open PySem PySem.Spec PyProof.Rows L2
/-! ### the law's own comparison: what is alike is told so -/
def spSm (R : V → V → Hp → Prop) : Sp := fun vs H Q _ => ∃ x y : V, vs = [x, y] ∧ R x y H ∧ ∀ H' : Hp, Same H H' → Q (.bl true) H'
def RLf (x y : V) (_ : Hp) : Prop := x = y ∧ ((∃ z, x = .str z) ∨ ∃ n, x = .int n)
def RTp (K : PySem.W.Frag) (x y : V) (H : Hp) : Prop := ∃ p q xs, x = .ref p ∧ y = .ref q ∧ SqT K H p xs ∧ SqT K H q xs ∧ (∀ v ∈ xs, RLf v v H) ∧ xs.length ≤ 1000
def RLs (K : PySem.W.Frag) (x y : V) (H : Hp) : Prop := ∃ p q xs ys, x = .ref p ∧ y = .ref q ∧ H p = some (.lst xs) ∧ H q = some (.lst ys) ∧ Paired (fun a b => RTp K a b H) xs ys ∧ xs.length ≤ 1000
theorem RTp.same {K : PySem.W.Frag} {x y : V} {H H' : Hp} (h : RTp K x y H) (e : Same H H') : RTp K x y H' := by
  obtain ⟨p, q, xs, h1, h2, h3, h4, h5, h6⟩ := h
  exact ⟨p, q, xs, h1, h2, Same.tup e h3, Same.tup e h4, h5, h6⟩
theorem tyT {K : PySem.W.Frag} {H : Hp} {p : Addr} {xs : List V} (h : SqT K H p xs) : TyX K H (.ref p) (.type "tuple") := by
  rcases h with (h | ⟨u, h⟩) | ⟨o, its, n, h1, h2, _⟩
  · exact .base (.tup h)
  · exact .fTuple h
  · exact .kTuple h1 h2
theorem all_rep (n : Nat) : (List.replicate n true).all id = true := by
  rw [List.all_replicate]
  cases n <;> rfl
abbrev nSm : List Str := ["_law_found", "_law_due", "_law_one", "_law_other"]
theorem scSm : FnScope nSm ["_law_found", "_law_due"] (defScope sSame) := ⟨rfl, rfl, rfl, by decide +kernel, rfl, by decide +kernel, by decide +kernel⟩
section
variable {P : Program} {w : World} {K : PySem.W.Frag} {mg : Str → Option Value} {base : Heap}
theorem ok_sm0 {f : Addr} {fd : FuncData} {k : Nat} (D : Df K mg "_law_same" sSame ["_law_found", "_law_due"] f fd) : FnOk P w K mg base CX0 (k + 1) f fd ["_law_found", "_law_due"] (spSm fun _ _ _ => False) := by
  refine D.F.ok scSm (fun vs H Q E h => ?_) (fun cdv A outer s H vs Q E hr h => ?_)
  · obtain ⟨x, y, rfl, _⟩ := h
    rfl
  · obtain ⟨x, y, rfl, hR, _⟩ := h
    exact hR.elim
theorem ok_smL {f : Addr} {fd : FuncData} {k : Nat} (D : Df K mg "_law_same" sSame ["_law_found", "_law_due"] f fd) (B : Bi mg) (GI : FnOk P w K mg base CX0 k f fd ["_law_found", "_law_due"] (spSm fun _ _ _ => False)) : FnOk P w K mg base CX0 (k + 1) f fd ["_law_found", "_law_due"] (spSm RLf) := by
  refine D.F.ok scSm (fun vs H Q E h => ?_) (fun cdv A outer s H vs Q E hr h => ?_)
  · obtain ⟨x, y, rfl, _⟩ := h
    rfl
  · obtain ⟨x, y, rfl, ⟨rfl, hx⟩, q⟩ := h
    refine ⟨_, (pss_cons (ps_if (pt_cmp (pc_isN (pv 1))) (pss_one (ps_ret (pe_cmp (pc_isN (pv 0))))) pss_nil)
      (pss_cons (ps_if (pt_val (pe_callB call_isiT (by rfl) B.isinstance PyProof.Rows.boot_isinstance (pa_cons (pv 1) (pa_cons (pe_tup (pa_cons (pe_bltn (v := .ty "list") (by rfl) B.list (show bootBuiltins "list" = some (.type "list") by rfl) rfl) (pa_cons (pe_bltn (v := .ty "tuple") (by rfl) B.tuple (show bootBuiltins "tuple" = some (.type "tuple") by rfl) rfl) pa_nil))) pa_nil)))) (pss_cons (ps_if (pw_or (pt_cmpR op_ne (pe_callB call_isi (by rfl) B.isinstance PyProof.Rows.boot_isinstance (pa_cons (pv 0) (pa_cons (pe_bltn (v := .ty "list") (by rfl) B.list (show bootBuiltins "list" = some (.type "list") by rfl) rfl) pa_nil))) (pe_callB call_isi (by rfl) B.isinstance PyProof.Rows.boot_isinstance (pa_cons (pv 1) (pa_cons (pe_bltn (v := .ty "list") (by rfl) B.list (show bootBuiltins "list" = some (.type "list") by rfl) rfl) pa_nil))) (nomark _)) (pw_or1 (pt_cmpR op_ne (pe_callB call_isi (by rfl) B.isinstance PyProof.Rows.boot_isinstance (pa_cons (pv 0) (pa_cons (pe_bltn (v := .ty "tuple") (by rfl) B.tuple (show bootBuiltins "tuple" = some (.type "tuple") by rfl) rfl) pa_nil))) (pe_callB call_isi (by rfl) B.isinstance PyProof.Rows.boot_isinstance (pa_cons (pv 1) (pa_cons (pe_bltn (v := .ty "tuple") (by rfl) B.tuple (show bootBuiltins "tuple" = some (.type "tuple") by rfl) rfl) pa_nil))) (nomark _)))).pt (pss_one (ps_ret pe_bl)) pss_nil)
      (pss_one (ps_ret (pe_and (pe_cmpR op_eq (pe_callB call_len_seq (by rfl) B.len PySem.boot_len (pa_cons (pv 0) pa_nil)) (pe_callB call_len_seq (by rfl) B.len PySem.boot_len (pa_cons (pv 1) pa_nil)) (nomark _)) (pe_one (pe_callB (cr_all rfl) (by rfl) B.all (by decide +kernel) (pa_cons (pe_lc (own := [("_law_one", 2), ("_law_other", 3)]) (g := gTup K 2 (gCons (gName 2) (gCons (gName 3) gNil))) (tt := tYes) (te := tCall (spSm fun _ _ _ => False) [] E0 (tCons (tVar 2) (tCons (tVar 3) tNil))) rfl scSm.nd (RZ.pi_zipA (by rfl) B.zip (pa_cons (pv 0) (pa_cons (pv 1) pa_nil)))
        (blkOk_by (own := [("_law_one", 2), ("_law_other", 3)]) (N := nSm) (sc := defScope sSame) (by decide +kernel)) (fun _ _ _ _ _ => (pg_tup rfl (pgs_cons (pg_name (i := 2) scSm.nd rfl (.inl rfl)) (pgs_cons (pg_name (i := 3) scSm.nd rfl (.inl rfl)) pgs_nil)))) (fun _ _ _ _ _ => pts_nil) (fun _ _ _ _ _ => pe_call GI hr (by rfl) D.g D.F.kp D.b .nil pass0 (pa_cons (pv 2) (pa_cons (pv 3) pa_nil)))) pa_nil))))))) pss_nil)
      (pss_cons (ps_if (pt_val (pe_callB call_isi (by rfl) B.isinstance PyProof.Rows.boot_isinstance (pa_cons (pv 1) (pa_cons (pe_bltn (v := .ty "bool") (by rfl) B.bool (show bootBuiltins "bool" = some (.type "bool") by rfl) rfl) pa_nil)))) (pss_one (ps_ret (pe_and (pe_callB call_isi (by rfl) B.isinstance PyProof.Rows.boot_isinstance (pa_cons (pv 0) (pa_cons (pe_bltn (v := .ty "bool") (by rfl) B.bool (show bootBuiltins "bool" = some (.type "bool") by rfl) rfl) pa_nil))) (pe_one (pe_cmpR op_eq (pv 0) (pv 1) (nomark _)))))) pss_nil)
      (pss_cons (ps_if (pt_val (pe_callB call_isi (by rfl) B.isinstance PyProof.Rows.boot_isinstance (pa_cons (pv 1) (pa_cons (pe_bltn (v := .ty "str") (by rfl) B.str (show bootBuiltins "str" = some (.type "str") by rfl) rfl) pa_nil)))) (pss_one (ps_ret (pe_and (pe_callB call_isi (by rfl) B.isinstance PyProof.Rows.boot_isinstance (pa_cons (pv 0) (pa_cons (pe_bltn (v := .ty "str") (by rfl) B.str (show bootBuiltins "str" = some (.type "str") by rfl) rfl) pa_nil))) (pe_one (pe_cmpR op_eq (pv 0) (pv 1) (nomark _)))))) pss_nil)
      (pss_one (ps_ret (pe_and (pe_callB call_isi (by rfl) B.isinstance PyProof.Rows.boot_isinstance (pa_cons (pv 0) (pa_cons (pe_bltn (v := .ty "int") (by rfl) B.int (show bootBuiltins "int" = some (.type "int") by rfl) rfl) pa_nil))) (pe_and (pe_not (pe_callB call_isi (by rfl) B.isinstance PyProof.Rows.boot_isinstance (pa_cons (pv 0) (pa_cons (pe_bltn (v := .ty "bool") (by rfl) B.bool (show bootBuiltins "bool" = some (.type "bool") by rfl) rfl) pa_nil)))) (pe_one (pe_cmpR op_eq (pv 0) (pv 1) (nomark _))))))))))), ?_⟩
    have kn : ∀ {t c : Value}, PySem.W.kitOne K t (.type "list") = some false → PySem.W.kitOne K t (.type "tuple") = some false → PySem.W.kitAny K t [.type "list", .type "tuple"] = some false := fun h1 h2 => kitAny_cons h1 (fun _ => kitAny_cons h2 (fun _ => kitAny_nil) (fun h => by cases h)) (fun h => by cases h)
    rcases hx with ⟨z, rfl⟩ | ⟨n, rfl⟩
    · refine ⟨_, rfl, _, rfl, ?_⟩
      refine ifN (by intro h; cases of_decide_eq_true h) ?_
      refine ⟨_, rfl, szl (show 2 ≤ 1000000 by decide), fun T nT => ⟨_, T, [.ty "list", .ty "tuple"], .type "str", [.type "list", .type "tuple"], false, rfl, upd_same, .cons (.ty "list") (.cons (.ty "tuple") .nil), .base (.str _), kn (c := .none) (kit_ty (by decide +kernel)) (kit_ty (by decide +kernel)), _, rfl, ?_⟩⟩
      have sT := new_same (o := .tup [.ty "list", .ty "tuple"]) nT
      refine ifN (by intro h; cases h) ?_
      refine ⟨_, rfl, _, .ty "bool", .type "str", .type "bool", false, rfl, .ty "bool", .base (.str _), kit_ty (by decide +kernel), _, rfl, ?_⟩
      refine ifN (by intro h; cases h) ?_
      refine ⟨_, rfl, _, .ty "str", .type "str", .type "str", true, rfl, .ty "str", .base (.str _), kit_ty (by decide +kernel), _, rfl, ?_⟩
      refine ifP rfl ?_
      refine ⟨_, rfl, _, .ty "str", .type "str", .type "str", true, rfl, .ty "str", .base (.str _), kit_ty (by decide +kernel), _, rfl, ?_⟩
      refine ifP rfl ⟨_, rfl, _, rfl, rfl, ?_⟩
      rw [decide_eq_true rfl]
      exact q _ sT
    · refine ⟨_, rfl, _, rfl, ?_⟩
      refine ifN (by intro h; cases of_decide_eq_true h) ?_
      refine ⟨_, rfl, szl (show 2 ≤ 1000000 by decide), fun T nT => ⟨_, T, [.ty "list", .ty "tuple"], .type "int", [.type "list", .type "tuple"], false, rfl, upd_same, .cons (.ty "list") (.cons (.ty "tuple") .nil), .base (.int _), kn (c := .none) (kit_ty (by decide +kernel)) (kit_ty (by decide +kernel)), _, rfl, ?_⟩⟩
      have sT := new_same (o := .tup [.ty "list", .ty "tuple"]) nT
      refine ifN (by intro h; cases h) ?_
      refine ⟨_, rfl, _, .ty "bool", .type "int", .type "bool", false, rfl, .ty "bool", .base (.int _), kit_ty (by decide +kernel), _, rfl, ?_⟩
      refine ifN (by intro h; cases h) ?_
      refine ⟨_, rfl, _, .ty "str", .type "int", .type "str", false, rfl, .ty "str", .base (.int _), kit_ty (by decide +kernel), _, rfl, ?_⟩
      refine ifN (by intro h; cases h) ?_
      refine ⟨_, rfl, _, .ty "int", .type "int", .type "int", true, rfl, .ty "int", .base (.int _), kit_ty (by decide +kernel), _, rfl, ?_⟩
      refine ifP rfl ?_
      refine ⟨_, rfl, _, .ty "bool", .type "int", .type "bool", false, rfl, .ty "bool", .base (.int _), kit_ty (by decide +kernel), _, rfl, _, rfl, ?_⟩
      refine ifP rfl ⟨_, rfl, _, rfl, rfl, ?_⟩
      rw [decide_eq_true rfl]
      exact q _ sT
theorem ok_smT {f : Addr} {fd : FuncData} {k : Nat} (D : Df K mg "_law_same" sSame ["_law_found", "_law_due"] f fd) (B : Bi mg) (GI : FnOk P w K mg base CX0 k f fd ["_law_found", "_law_due"] (spSm RLf)) : FnOk P w K mg base CX0 (k + 1) f fd ["_law_found", "_law_due"] (spSm (RTp K)) := by
  refine D.F.ok scSm (fun vs H Q E h => ?_) (fun cdv A outer s H vs Q E hr h => ?_)
  · obtain ⟨x, y, rfl, _⟩ := h
    rfl
  · obtain ⟨x, y, rfl, ⟨p, p', xs, rfl, rfl, hp0, hq0, hxs, hln⟩, q⟩ := h
    refine ⟨_, (pss_cons (ps_if (pt_cmp (pc_isN (pv 1))) (pss_one (ps_ret (pe_cmp (pc_isN (pv 0))))) pss_nil)
      (pss_cons (ps_if (pt_val (pe_callB call_isiT (by rfl) B.isinstance PyProof.Rows.boot_isinstance (pa_cons (pv 1) (pa_cons (pe_tup (pa_cons (pe_bltn (v := .ty "list") (by rfl) B.list (show bootBuiltins "list" = some (.type "list") by rfl) rfl) (pa_cons (pe_bltn (v := .ty "tuple") (by rfl) B.tuple (show bootBuiltins "tuple" = some (.type "tuple") by rfl) rfl) pa_nil))) pa_nil)))) (pss_cons (ps_if (pw_or (pt_cmpR op_ne (pe_callB call_isi (by rfl) B.isinstance PyProof.Rows.boot_isinstance (pa_cons (pv 0) (pa_cons (pe_bltn (v := .ty "list") (by rfl) B.list (show bootBuiltins "list" = some (.type "list") by rfl) rfl) pa_nil))) (pe_callB call_isi (by rfl) B.isinstance PyProof.Rows.boot_isinstance (pa_cons (pv 1) (pa_cons (pe_bltn (v := .ty "list") (by rfl) B.list (show bootBuiltins "list" = some (.type "list") by rfl) rfl) pa_nil))) (nomark _)) (pw_or1 (pt_cmpR op_ne (pe_callB call_isi (by rfl) B.isinstance PyProof.Rows.boot_isinstance (pa_cons (pv 0) (pa_cons (pe_bltn (v := .ty "tuple") (by rfl) B.tuple (show bootBuiltins "tuple" = some (.type "tuple") by rfl) rfl) pa_nil))) (pe_callB call_isi (by rfl) B.isinstance PyProof.Rows.boot_isinstance (pa_cons (pv 1) (pa_cons (pe_bltn (v := .ty "tuple") (by rfl) B.tuple (show bootBuiltins "tuple" = some (.type "tuple") by rfl) rfl) pa_nil))) (nomark _)))).pt (pss_one (ps_ret pe_bl)) pss_nil)
      (pss_one (ps_ret (pe_and (pe_cmpR op_eq (pe_callB call_len_seq (by rfl) B.len PySem.boot_len (pa_cons (pv 0) pa_nil)) (pe_callB call_len_seq (by rfl) B.len PySem.boot_len (pa_cons (pv 1) pa_nil)) (nomark _)) (pe_one (pe_callB (cr_all rfl) (by rfl) B.all (by decide +kernel) (pa_cons (pe_lc (own := [("_law_one", 2), ("_law_other", 3)]) (g := gTup K 2 (gCons (gName 2) (gCons (gName 3) gNil))) (tt := tYes) (te := tCall (spSm RLf) [] E0 (tCons (tVar 2) (tCons (tVar 3) tNil))) rfl scSm.nd (RZ.pi_zipA (by rfl) B.zip (pa_cons (pv 0) (pa_cons (pv 1) pa_nil)))
        (blkOk_by (own := [("_law_one", 2), ("_law_other", 3)]) (N := nSm) (sc := defScope sSame) (by decide +kernel)) (fun _ _ _ _ _ => (pg_tup rfl (pgs_cons (pg_name (i := 2) scSm.nd rfl (.inl rfl)) (pgs_cons (pg_name (i := 3) scSm.nd rfl (.inl rfl)) pgs_nil)))) (fun _ _ _ _ _ => pts_nil) (fun _ _ _ _ _ => pe_call GI hr (by rfl) D.g D.F.kp D.b .nil pass0 (pa_cons (pv 2) (pa_cons (pv 3) pa_nil)))) pa_nil))))))) pss_nil)
      (pss_cons (ps_if (pt_val (pe_callB call_isi (by rfl) B.isinstance PyProof.Rows.boot_isinstance (pa_cons (pv 1) (pa_cons (pe_bltn (v := .ty "bool") (by rfl) B.bool (show bootBuiltins "bool" = some (.type "bool") by rfl) rfl) pa_nil)))) (pss_one (ps_ret (pe_and (pe_callB call_isi (by rfl) B.isinstance PyProof.Rows.boot_isinstance (pa_cons (pv 0) (pa_cons (pe_bltn (v := .ty "bool") (by rfl) B.bool (show bootBuiltins "bool" = some (.type "bool") by rfl) rfl) pa_nil))) (pe_one (pe_cmpR op_eq (pv 0) (pv 1) (nomark _)))))) pss_nil)
      (pss_cons (ps_if (pt_val (pe_callB call_isi (by rfl) B.isinstance PyProof.Rows.boot_isinstance (pa_cons (pv 1) (pa_cons (pe_bltn (v := .ty "str") (by rfl) B.str (show bootBuiltins "str" = some (.type "str") by rfl) rfl) pa_nil)))) (pss_one (ps_ret (pe_and (pe_callB call_isi (by rfl) B.isinstance PyProof.Rows.boot_isinstance (pa_cons (pv 0) (pa_cons (pe_bltn (v := .ty "str") (by rfl) B.str (show bootBuiltins "str" = some (.type "str") by rfl) rfl) pa_nil))) (pe_one (pe_cmpR op_eq (pv 0) (pv 1) (nomark _)))))) pss_nil)
      (pss_one (ps_ret (pe_and (pe_callB call_isi (by rfl) B.isinstance PyProof.Rows.boot_isinstance (pa_cons (pv 0) (pa_cons (pe_bltn (v := .ty "int") (by rfl) B.int (show bootBuiltins "int" = some (.type "int") by rfl) rfl) pa_nil))) (pe_and (pe_not (pe_callB call_isi (by rfl) B.isinstance PyProof.Rows.boot_isinstance (pa_cons (pv 0) (pa_cons (pe_bltn (v := .ty "bool") (by rfl) B.bool (show bootBuiltins "bool" = some (.type "bool") by rfl) rfl) pa_nil)))) (pe_one (pe_cmpR op_eq (pv 0) (pv 1) (nomark _))))))))))), ?_⟩
    refine ⟨_, rfl, _, rfl, ?_⟩
    refine ifN (by intro h; cases of_decide_eq_true h) ?_
    refine ⟨_, rfl, szl (show 2 ≤ 1000000 by decide), fun T nT => ?_⟩
    have sT := new_same (o := .tup [.ty "list", .ty "tuple"]) nT
    have eT : upd H T (.tup [.ty "list", .ty "tuple"]) T = some (.tup [.ty "list", .ty "tuple"]) := upd_same
    have hp := Same.tup sT hp0
    have hq := Same.tup sT hq0
    have hxy := hxs
    have hll : xs.length = xs.length := rfl
    generalize upd H T (.tup [.ty "list", .ty "tuple"]) = H1 at sT eT hp hq hxy
    refine ⟨_, T, [.ty "list", .ty "tuple"], .type "tuple", [.type "list", .type "tuple"], true, rfl, eT, .cons (.ty "list") (.cons (.ty "tuple") .nil), (tyT hq), kitAny_cons (b := false) (kit_ty (by decide +kernel)) (fun _ => kitAny_cons (b := true) (kit_ty (by decide +kernel)) (fun h => by cases h) (fun _ => rfl)) (fun h => by cases h), _, rfl, ?_⟩
    refine ifP rfl ?_
    refine ⟨_, rfl, _, .ty "list", .type "tuple", .type "list", false, rfl, .ty "list", (tyT hp), kit_ty (by decide +kernel), _, rfl, _, .ty "list", .type "tuple", .type "list", false, rfl, .ty "list", (tyT hq), kit_ty (by decide +kernel), rfl, _, rfl, ?_⟩
    refine ifN (by intro h; cases h) ?_
    refine ⟨_, rfl, _, .ty "tuple", .type "tuple", .type "tuple", true, rfl, .ty "tuple", (tyT hp), kit_ty (by decide +kernel), _, rfl, _, .ty "tuple", .type "tuple", .type "tuple", true, rfl, .ty "tuple", (tyT hq), kit_ty (by decide +kernel), rfl, _, rfl, ?_⟩
    refine ifN (by intro h; cases h) ?_
    refine ⟨_, rfl, p, _, rfl, .inr hp, _, rfl, p', _, rfl, .inr hq, rfl, _, rfl, ?_⟩
    refine ifP (decide_eq_true (by rw [hll])) ?_
    refine ⟨_, rfl, _, rfl, p, p', _, _, rfl, .inr ⟨hp, hq, fun L nL => ?_⟩⟩
    refine lc_it (walk_zt (K := K) (a := p) (b := p') hll) (fun i H2 => Same H1 H2 ∧ H2 L = some (.lst ((List.replicate i true).map V.bl))) ⟨new_same nL, upd_same⟩ (fun i H2 _ hP => ⟨Same.tup hP.1 hp, Same.tup hP.1 hq⟩) (fun i x H2 H3 hi hP hY => ?_) (fun H2 hP => ?_)
    · obtain ⟨s2, eL⟩ := hP
      obtain ⟨T2, x1, x2, rfl, nT2, rfl, e1, e2⟩ := hY
      have sT2 := new_same (o := .tup [x1, x2]) nT2
      refine ⟨T2, _, rfl, sqT upd_same, rfl, _, _, rfl, _, _, rfl, rfl, rfl, x1, rfl, x2, rfl, x1, x2, rfl, ?_, fun H4 s4 => ⟨_, s4 _ _ (sT2 _ _ eL), ?_, fun a o z => ?_, ?_⟩⟩
      · have e1 : xs[i]? = some x1 := e1
        have e2 : xs[i]? = some x2 := e2
        rw [e1] at e2
        cases e2
        exact hxy x1 (List.mem_of_getElem? e1)
      · rw [List.length_map, List.length_replicate]; exact szt (by omega)
      · rw [upd_ne (ne_of_none z nL)]; exact s4 _ _ (sT2 _ _ (s2 _ _ z))
      · rw [upd_same, List.replicate_succ', List.map_append]; rfl
    · obtain ⟨s2, eL⟩ := hP
      refine ⟨L, _, rfl, sqL eL, ?_⟩
      rw [all_rep]
      exact q _ (sT.trans s2)
theorem ok_smS {f : Addr} {fd : FuncData} {k : Nat} (D : Df K mg "_law_same" sSame ["_law_found", "_law_due"] f fd) (B : Bi mg) (GI : FnOk P w K mg base CX0 k f fd ["_law_found", "_law_due"] (spSm (RTp K))) : FnOk P w K mg base CX0 (k + 1) f fd ["_law_found", "_law_due"] (spSm (RLs K)) := by
  refine D.F.ok scSm (fun vs H Q E h => ?_) (fun cdv A outer s H vs Q E hr h => ?_)
  · obtain ⟨x, y, rfl, _⟩ := h
    rfl
  · obtain ⟨x, y, rfl, ⟨p, p', xs, ys, rfl, rfl, hp0, hq0, hxs, hln⟩, q⟩ := h
    refine ⟨_, (pss_cons (ps_if (pt_cmp (pc_isN (pv 1))) (pss_one (ps_ret (pe_cmp (pc_isN (pv 0))))) pss_nil)
      (pss_cons (ps_if (pt_val (pe_callB call_isiT (by rfl) B.isinstance PyProof.Rows.boot_isinstance (pa_cons (pv 1) (pa_cons (pe_tup (pa_cons (pe_bltn (v := .ty "list") (by rfl) B.list (show bootBuiltins "list" = some (.type "list") by rfl) rfl) (pa_cons (pe_bltn (v := .ty "tuple") (by rfl) B.tuple (show bootBuiltins "tuple" = some (.type "tuple") by rfl) rfl) pa_nil))) pa_nil)))) (pss_cons (ps_if (pw_or (pt_cmpR op_ne (pe_callB call_isi (by rfl) B.isinstance PyProof.Rows.boot_isinstance (pa_cons (pv 0) (pa_cons (pe_bltn (v := .ty "list") (by rfl) B.list (show bootBuiltins "list" = some (.type "list") by rfl) rfl) pa_nil))) (pe_callB call_isi (by rfl) B.isinstance PyProof.Rows.boot_isinstance (pa_cons (pv 1) (pa_cons (pe_bltn (v := .ty "list") (by rfl) B.list (show bootBuiltins "list" = some (.type "list") by rfl) rfl) pa_nil))) (nomark _)) (pw_or1 (pt_cmpR op_ne (pe_callB call_isi (by rfl) B.isinstance PyProof.Rows.boot_isinstance (pa_cons (pv 0) (pa_cons (pe_bltn (v := .ty "tuple") (by rfl) B.tuple (show bootBuiltins "tuple" = some (.type "tuple") by rfl) rfl) pa_nil))) (pe_callB call_isi (by rfl) B.isinstance PyProof.Rows.boot_isinstance (pa_cons (pv 1) (pa_cons (pe_bltn (v := .ty "tuple") (by rfl) B.tuple (show bootBuiltins "tuple" = some (.type "tuple") by rfl) rfl) pa_nil))) (nomark _)))).pt (pss_one (ps_ret pe_bl)) pss_nil)
      (pss_one (ps_ret (pe_and (pe_cmpR op_eq (pe_callB call_len_seq (by rfl) B.len PySem.boot_len (pa_cons (pv 0) pa_nil)) (pe_callB call_len_seq (by rfl) B.len PySem.boot_len (pa_cons (pv 1) pa_nil)) (nomark _)) (pe_one (pe_callB (cr_all rfl) (by rfl) B.all (by decide +kernel) (pa_cons (pe_lc (own := [("_law_one", 2), ("_law_other", 3)]) (g := gTup K 2 (gCons (gName 2) (gCons (gName 3) gNil))) (tt := tYes) (te := tCall (spSm (RTp K)) [] E0 (tCons (tVar 2) (tCons (tVar 3) tNil))) rfl scSm.nd (RZ.pi_zipA (by rfl) B.zip (pa_cons (pv 0) (pa_cons (pv 1) pa_nil)))
        (blkOk_by (own := [("_law_one", 2), ("_law_other", 3)]) (N := nSm) (sc := defScope sSame) (by decide +kernel)) (fun _ _ _ _ _ => (pg_tup rfl (pgs_cons (pg_name (i := 2) scSm.nd rfl (.inl rfl)) (pgs_cons (pg_name (i := 3) scSm.nd rfl (.inl rfl)) pgs_nil)))) (fun _ _ _ _ _ => pts_nil) (fun _ _ _ _ _ => pe_call GI hr (by rfl) D.g D.F.kp D.b .nil pass0 (pa_cons (pv 2) (pa_cons (pv 3) pa_nil)))) pa_nil))))))) pss_nil)
      (pss_cons (ps_if (pt_val (pe_callB call_isi (by rfl) B.isinstance PyProof.Rows.boot_isinstance (pa_cons (pv 1) (pa_cons (pe_bltn (v := .ty "bool") (by rfl) B.bool (show bootBuiltins "bool" = some (.type "bool") by rfl) rfl) pa_nil)))) (pss_one (ps_ret (pe_and (pe_callB call_isi (by rfl) B.isinstance PyProof.Rows.boot_isinstance (pa_cons (pv 0) (pa_cons (pe_bltn (v := .ty "bool") (by rfl) B.bool (show bootBuiltins "bool" = some (.type "bool") by rfl) rfl) pa_nil))) (pe_one (pe_cmpR op_eq (pv 0) (pv 1) (nomark _)))))) pss_nil)
      (pss_cons (ps_if (pt_val (pe_callB call_isi (by rfl) B.isinstance PyProof.Rows.boot_isinstance (pa_cons (pv 1) (pa_cons (pe_bltn (v := .ty "str") (by rfl) B.str (show bootBuiltins "str" = some (.type "str") by rfl) rfl) pa_nil)))) (pss_one (ps_ret (pe_and (pe_callB call_isi (by rfl) B.isinstance PyProof.Rows.boot_isinstance (pa_cons (pv 0) (pa_cons (pe_bltn (v := .ty "str") (by rfl) B.str (show bootBuiltins "str" = some (.type "str") by rfl) rfl) pa_nil))) (pe_one (pe_cmpR op_eq (pv 0) (pv 1) (nomark _)))))) pss_nil)
      (pss_one (ps_ret (pe_and (pe_callB call_isi (by rfl) B.isinstance PyProof.Rows.boot_isinstance (pa_cons (pv 0) (pa_cons (pe_bltn (v := .ty "int") (by rfl) B.int (show bootBuiltins "int" = some (.type "int") by rfl) rfl) pa_nil))) (pe_and (pe_not (pe_callB call_isi (by rfl) B.isinstance PyProof.Rows.boot_isinstance (pa_cons (pv 0) (pa_cons (pe_bltn (v := .ty "bool") (by rfl) B.bool (show bootBuiltins "bool" = some (.type "bool") by rfl) rfl) pa_nil)))) (pe_one (pe_cmpR op_eq (pv 0) (pv 1) (nomark _))))))))))), ?_⟩
    refine ⟨_, rfl, _, rfl, ?_⟩
    refine ifN (by intro h; cases of_decide_eq_true h) ?_
    refine ⟨_, rfl, szl (show 2 ≤ 1000000 by decide), fun T nT => ?_⟩
    have sT := new_same (o := .tup [.ty "list", .ty "tuple"]) nT
    have eT : upd H T (.tup [.ty "list", .ty "tuple"]) T = some (.tup [.ty "list", .ty "tuple"]) := upd_same
    have hp := sT _ _ hp0
    have hq := sT _ _ hq0
    have hxy := pd_mono hxs fun _ _ z => RTp.same z sT
    have hll : xs.length = ys.length := pd_len hxs
    generalize upd H T (.tup [.ty "list", .ty "tuple"]) = H1 at sT eT hp hq hxy
    refine ⟨_, T, [.ty "list", .ty "tuple"], .type "list", [.type "list", .type "tuple"], true, rfl, eT, .cons (.ty "list") (.cons (.ty "tuple") .nil), (.base (.lst hq)), kitAny_cons (b := true) (kit_ty (by decide +kernel)) (fun h => by cases h) (fun _ => rfl), _, rfl, ?_⟩
    refine ifP rfl ?_
    refine ⟨_, rfl, _, .ty "list", .type "list", .type "list", true, rfl, .ty "list", (.base (.lst hp)), kit_ty (by decide +kernel), _, rfl, _, .ty "list", .type "list", .type "list", true, rfl, .ty "list", (.base (.lst hq)), kit_ty (by decide +kernel), rfl, _, rfl, ?_⟩
    refine ifN (by intro h; cases h) ?_
    refine ⟨_, rfl, _, .ty "tuple", .type "list", .type "tuple", false, rfl, .ty "tuple", (.base (.lst hp)), kit_ty (by decide +kernel), _, rfl, _, .ty "tuple", .type "list", .type "tuple", false, rfl, .ty "tuple", (.base (.lst hq)), kit_ty (by decide +kernel), rfl, _, rfl, ?_⟩
    refine ifN (by intro h; cases h) ?_
    refine ⟨_, rfl, p, _, rfl, .inl (sqL hp), _, rfl, p', _, rfl, .inl (sqL hq), rfl, _, rfl, ?_⟩
    refine ifP (decide_eq_true (by rw [hll])) ?_
    refine ⟨_, rfl, _, rfl, p, p', _, _, rfl, .inl ⟨(sqL hp), (sqL hq), fun L nL => ?_⟩⟩
    refine lc_it (walk_zip (K := K) (a := p) (b := p') (n := xs.length) (by omega)) (fun i H2 => Same H1 H2 ∧ H2 L = some (.lst ((List.replicate i true).map V.bl))) ⟨new_same nL, upd_same⟩ (fun i H2 _ hP => ⟨sqL (hP.1 _ _ hp), sqL (hP.1 _ _ hq)⟩) (fun i x H2 H3 hi hP hY => ?_) (fun H2 hP => ?_)
    · obtain ⟨s2, eL⟩ := hP
      obtain ⟨T2, x1, x2, rfl, nT2, rfl, e1, e2⟩ := hY
      have sT2 := new_same (o := .tup [x1, x2]) nT2
      refine ⟨T2, _, rfl, sqT upd_same, rfl, _, _, rfl, _, _, rfl, rfl, rfl, x1, rfl, x2, rfl, x1, x2, rfl, ?_, fun H4 s4 => ⟨_, s4 _ _ (sT2 _ _ eL), ?_, fun a o z => ?_, ?_⟩⟩
      · have e1 : xs[i]? = some x1 := e1
        have e2 : ys[i]? = some x2 := e2
        obtain ⟨z, z1, z2⟩ := pd_at2 hxy e1
        rw [e2] at z1
        cases z1
        exact (z2.same s2).same sT2
      · rw [List.length_map, List.length_replicate]; exact szt (by omega)
      · rw [upd_ne (ne_of_none z nL)]; exact s4 _ _ (sT2 _ _ (s2 _ _ z))
      · rw [upd_same, List.replicate_succ', List.map_append]; rfl
    · obtain ⟨s2, eL⟩ := hP
      refine ⟨L, _, rfl, sqL eL, ?_⟩
      rw [all_rep]
      exact q _ (sT.trans s2)
end
end Gn
set_option Elab.async false
set_option linter.all false
set_option maxRecDepth 100000
set_option maxHeartbeats 4000000
set_option pp.maxSteps 300
namespace Gn
open PySem PySem.Spec PyProof.Rows L2
/-! ### holds, true_on_run -/
def LastAt (kvs : List (Key × V)) (L : Nat → Option (Option Int)) : Prop := ∀ y : Nat, valV kvs (Sum.inl (y : Int)) = (L y).map wv
def spHolds (K : PySem.W.Frag) : Sp := fun vs H Q _ => ∃ (x : V) (d : Addr) (f : Fa) (kvs : List (Key × V)) (L : Nat → Option (Option Int)), vs = [x, .ref d] ∧ FaAt K H x f ∧ H d = some (.dK kvs) ∧ LastAt kvs L ∧ FaOk L f ∧ Q (.bl true) H
abbrev nHo : List Str := ["_law_fact", "_law_last"]
theorem scHo : FnScope nHo ["_law_fact", "_law_last"] (defScope sHolds) := ⟨rfl, rfl, rfl, by decide +kernel, rfl, by decide +kernel, by decide +kernel⟩
def FcsAt (K : PySem.W.Frag) (H : Hp) (pr : List Blk) (x : V) (b : Nat) : Prop := ∃ p fs, x = .ref p ∧ SqL K H p fs ∧ Paired (FaAt K H) fs (factsF pr b)
theorem FcsAt.same {K : PySem.W.Frag} {H H' : Hp} {pr : List Blk} {x : V} {b : Nat} (h : FcsAt K H pr x b) (e : Same H H') : FcsAt K H' pr x b := by
  obtain ⟨p, fs, h1, h2, h3⟩ := h
  exact ⟨p, fs, h1, e.seq h2, pd_mono h3 fun _ _ z => z.same e⟩
def spTrue (K : PySem.W.Frag) : Sp := fun vs H Q _ => ∃ (v : V) (fa ta : Addr) (gs : List V) (pr : List Blk) (tk : List Int) (st : Sta), vs = [v, .ref fa, .ref ta] ∧ ProgAt K H v pr ∧ SqL K H ta (tk.map V.int) ∧ Good st pr tk ∧ SqL K H fa gs ∧ Paired (FcsAt K H pr) gs (List.range pr.length) ∧
  ∀ H' : Hp, Same H H' → Q (.bl true) H'
abbrev nTr : List Str := ["_law_program_here", "_law_facts_here", "_law_takes_here", "_law_state", "_law_told", "_law_done", "_law_last", "_law_at", "_law_block", "_law_many", "_law_fact"]
theorem scTr : FnScope nTr ["_law_program_here", "_law_facts_here", "_law_takes_here"] (defScope sTrue) := ⟨rfl, rfl, rfl, by decide +kernel, rfl, by decide +kernel, by decide +kernel⟩
/-! what an update of a dict by pairs leaves -/
def lastK (k : Key) : List (Key × V) → Option V → Option V
  | [], o => o
  | p :: r, o => lastK k r (if k = p.1 then some p.2 else o)
theorem vmerge (k : Key) : ∀ (more acc : List (Key × V)), valV (mergeK acc more) k = lastK k more (valV acc k)
  | [], acc => rfl
  | p :: r, acc => by
    show valV (mergeK (putK acc p.1 p.2) r) k = lastK k r (if k = p.1 then some p.2 else valV acc k)
    rw [vmerge k r, valV_put]
theorem lastK_app (k : Key) : ∀ (a b : List (Key × V)) (o : Option V), lastK k (a ++ b) o = lastK k b (lastK k a o)
  | [], b, o => rfl
  | p :: a, b, o => lastK_app k a b _
theorem lastK_some {k : Key} {x : V} : ∀ {more : List (Key × V)} {o o' : Option V}, valV more k = some x → lastK k more o = lastK k more o'
  | [], o, o', h => by cases h
  | p :: r, o, o', h => by
    show lastK k r _ = lastK k r _
    by_cases e : k = p.1
    · rw [if_pos e, if_pos e]
    · rw [if_neg e, if_neg e]
      rw [valV_neg (fun z => e z.symm)] at h
      exact lastK_some h
theorem lastK_none {k : Key} : ∀ {more : List (Key × V)} {o : Option V}, valV more k = none → lastK k more o = o
  | [], o, h => rfl
  | p :: r, o, h => by
    show lastK k r _ = o
    by_cases e : k = p.1
    · rw [valV_pos e.symm] at h; cases h
    · rw [if_neg e]
      rw [valV_neg (fun z => e z.symm)] at h
      exact lastK_none h
theorem lastK_map (k : Key) (j : Key) (v : V) : ∀ (more : List (Key × V)) (o : Option V), (valV more j).isSome = true → lastK k (more.map fun kv => if kv.1 = j then (kv.1, v) else kv) o = if k = j then some v else lastK k more o
  | [], o, h => by cases h
  | p :: r, o, h => by
    by_cases e : p.1 = j
    · rw [List.map_cons, if_pos e]
      show lastK k (r.map _) (if k = p.1 then some v else o) = _
      by_cases hr : (valV r j).isSome = true
      · rw [lastK_map k j v r _ hr]
        by_cases hk : k = j
        · rw [if_pos hk, if_pos hk]
        · rw [if_neg hk, if_neg hk, if_neg (fun z => hk (z.trans e))]
          show _ = lastK k r (if k = p.1 then some p.2 else o)
          rw [if_neg (fun z => hk (z.trans e))]
      · have hn : valV r j = none := by cases h : valV r j with | none => rfl | some x => rw [h] at hr; exact absurd rfl hr
        have hid : (r.map fun kv => if kv.1 = j then (kv.1, v) else kv) = r := by
          refine (List.map_congr_left fun kv hkv => ?_).trans (List.map_id r)
          have : ¬ kv.1 = j := fun z => valV_not hn (List.mem_map.mpr ⟨kv, hkv, z⟩)
          rw [if_neg this]; rfl
        rw [hid]
        by_cases hk : k = j
        · rw [if_pos (hk.trans e.symm), if_pos hk, hk, lastK_none hn]
        · rw [if_neg (fun z => hk (z.trans e)), if_neg hk]
          show _ = lastK k r (if k = p.1 then some p.2 else o)
          rw [if_neg (fun z => hk (z.trans e))]
    · rw [List.map_cons, if_neg e]
      rw [valV_neg e] at h
      show lastK k (r.map _) (if k = p.1 then some p.2 else o) = _
      rw [lastK_map k j v r _ h]
      rfl
theorem lastK_put (k j : Key) (v : V) (acc : List (Key × V)) (o : Option V) : lastK k (putK acc j v) o = if k = j then some v else lastK k acc o := by
  cases h : valV acc j with
  | none =>
    rw [putK_new v h, lastK_app]
    show (if k = j then some v else lastK k acc o) = _
    rfl
  | some x =>
    have hs : (valV acc j).isSome = true := by rw [h]; rfl
    have e : putK acc j v = acc.map fun kv => if kv.1 = j then (kv.1, v) else kv := by
      unfold putK
      rw [if_pos (by rw [valV_any]; exact hs)]
    rw [e, lastK_map k j v acc o hs]
theorem lastK_merge (k : Key) : ∀ (more acc : List (Key × V)) (o : Option V), lastK k (mergeK acc more) o = lastK k more (lastK k acc o)
  | [], acc, o => rfl
  | p :: r, acc, o => by
    show lastK k (mergeK (putK acc p.1 p.2) r) o = lastK k r (if k = p.1 then some p.2 else lastK k acc o)
    rw [lastK_merge k r, lastK_put]
def dKv (d : Nat × Option Int) : Key × V := (Sum.inl (d.1 : Int), wv d.2)
theorem lastK_D (y : Nat) : ∀ (seg : List (Nat × Option Int)) (o : Option V), lastK (Sum.inl (y : Int)) (seg.map dKv) o = match lastD seg y with | some w => some (wv w) | none => o
  | [], o => rfl
  | x :: r, o => by
    obtain ⟨k, w⟩ := x
    show lastK _ (r.map dKv) (if (Sum.inl (y : Int) : Key) = Sum.inl (k : Int) then some (wv w) else o) = match (match lastD r y with | some v => some v | none => if k = y then some w else none) with | some w => some (wv w) | none => o
    rw [lastK_D y r]
    cases lastD r y with
    | some v => rfl
    | none =>
      by_cases h : k = y
      · rw [if_pos (by rw [h]), if_pos h]
      · rw [if_neg (fun z => h (by have := Sum.inl.inj z; omega)), if_neg h]
theorem lastD_app (y : Nat) : ∀ (a b : List (Nat × Option Int)), lastD (a ++ b) y = match lastD b y with | some w => some w | none => lastD a y
  | [], b => by
    show lastD b y = _
    cases lastD b y <;> rfl
  | x :: a, b => by
    obtain ⟨k, w⟩ := x
    show (match lastD (a ++ b) y with | some v => some v | none => if k = y then some w else none) = _
    rw [lastD_app y a b]
    cases lastD b y with
    | some v => rfl
    | none => rfl
theorem LastAt.upd {kvs : List (Key × V)} {a seg : List (Nat × Option Int)} (h : LastAt kvs (lastD a)) : LastAt (mergeK kvs (mergeK [] (seg.map dKv))) (lastD (a ++ seg)) := fun y => by
  rw [vmerge, lastK_merge]
  show lastK _ _ (valV kvs (Sum.inl (y : Int))) = _
  rw [h y, lastK_D, lastD_app]
  cases lastD seg y <;> rfl
theorem cut_natV {xs : List V} {a b : Nat} (h1 : a ≤ b) (h2 : b ≤ xs.length) : cutV xs (some (a : Int)) (some (b : Int)) = (xs.drop a).take (b - a) := by
  unfold cutV
  rw [show HT.sIx xs.length 0 (some (a : Int)) = min a xs.length from HT.sIx_nat xs.length 0 a, show HT.sIx xs.length xs.length (some (b : Int)) = min b xs.length from HT.sIx_nat xs.length xs.length b, Nat.min_eq_left h2, Nat.min_eq_left (Nat.le_trans h1 h2)]
theorem dn_refs {K : PySem.W.Frag} {H : Hp} : ∀ {ds : List V} {d : List (Nat × Option Int)}, Paired (DnAt K H) ds d → ∃ ps : List Addr, ds = ps.map V.ref ∧ Paired (fun p x => SqT K H p [iv x.1, wv x.2]) ps d
  | _, _, .nil => ⟨[], rfl, .nil⟩
  | _, _, .cons h t => by
    obtain ⟨q, rfl, h2⟩ := h
    obtain ⟨ps, rfl, h3⟩ := dn_refs t
    exact ⟨q :: ps, rfl, .cons h2 h3⟩
theorem pd_mapR {α β γ : Type} {F : α → γ → Prop} {f : β → γ} : ∀ {l : List α} {m : List β}, Paired (fun a b => F a (f b)) l m → Paired F l (m.map f)
  | _, _, .nil => .nil
  | _, _, .cons h t => .cons h (pd_mapR t)
theorem flat_len {α β : Type} {f : α → List β} {n : Nat} (h : ∀ a, (f a).length ≤ n) : ∀ l : List α, (l.flatMap f).length ≤ n * l.length
  | [] => Nat.zero_le _
  | a :: l => by
    have h1 := flat_len h l
    have h2 := h a
    rw [List.flatMap_cons, List.length_append, List.length_cons, Nat.mul_succ]
    omega
theorem factU_len (pr : List Blk) (u : Nat) : (factU pr u).length ≤ 2 := by
  unfold factU
  match (leadsL (nmL pr)).getD u [] with
  | [] => exact Nat.zero_le _
  | _ :: _ :: _ => exact Nat.zero_le _
  | [l] =>
    show (factE (rowsL pr) u (endB pr l)).length ≤ 2
    cases endB pr l with
    | go c => exact Nat.zero_le _
    | fin => exact Nat.zero_le _
    | iff a x z =>
      show (if u ≠ x then [Fa.none a] else factR a ((rowsL pr).getD a (.take 0))).length ≤ 2
      by_cases h : u ≠ x
      · rw [if_pos h]; exact (show 1 ≤ 2 by decide)
      · rw [if_neg h]
        cases (rowsL pr).getD a (.take 0) with
        | bin bk y1 y2 => cases bk <;> simp [factR]
        | _ => exact Nat.zero_le _
theorem facts_len {st : Sta} {tk : List Int} (pr : List Blk) (b : Nat) (G : Good st pr tk) : (factsF pr b).length ≤ 100 := by
  have h1 := flat_len (factU_len pr) (dl (nmL pr) b)
  have h2 := dl_len (nmL pr) b
  have h3 : (nmL pr).length = pr.length := List.length_map _
  have h4 := G.O.l2
  unfold factsF
  omega
section
variable {P : Program} {w : World} {K : PySem.W.Frag} {mg : Str → Option Value} {base : Heap}
theorem ok_holds {f : Addr} {fd : FuncData} {k : Nat} (D : Df K mg "_law_holds" sHolds ["_law_fact", "_law_last"] f fd) (B : Bi mg) : FnOk P w K mg base CX0 (k + 1) f fd ["_law_fact", "_law_last"] (spHolds K) := by
  refine D.F.ok scHo (fun vs H Q E h => ?_) (fun cdv A outer s H vs Q E hr h => ?_)
  · obtain ⟨x, d, f, kvs, L, rfl, _⟩ := h
    rfl
  · obtain ⟨x, d, f, kvs, L, rfl, ⟨p, rfl, hp⟩, hd, hL, hf, q⟩ := h
    have hu := hu_of hr
    refine ⟨_, (pss_cons (ps_if (pt_cmpR op_eq (pe_ix ix_tup (pv 0) pe_int (fun _ _ => rfl)) pe_str (nomark _)) (pss_one (ps_ret (pe_cmpR op_eq (pe_dget hu (pv 1) (pe_ix ix_tup (pv 0) pe_int (fun _ _ => rfl)) (fun _ _ => rfl)) (pe_dget hu (pv 1) (pe_ix ix_tup (pv 0) pe_int (fun _ _ => rfl)) (fun _ _ => rfl)) (nomark _)))) pss_nil)
      (pss_one (ps_ret (pe_cmpR op_eq (pe_dget hu (pv 1) (pe_ix ix_tup (pv 0) pe_int (fun _ _ => rfl)) (fun _ _ => rfl)) (pe_callTy call_int1 (by rfl) B.int PyProof.Rows.boot_int (pa_cons (pe_cmpR op_eq (pe_ix ix_tup (pv 0) pe_int (fun _ _ => rfl)) pe_str (nomark _)) pa_nil)) (nomark _))))), ?_⟩
    have dg : ∀ (y : Nat) (x : Int), L y = some (some x) → DGet H d (iv y) (some (.int x)) := fun y x e => .inl ⟨kvs, Sum.inl (y : Int), .inl hd, rfl, by rw [hL y, e]; rfl⟩
    cases f with
    | alike a b =>
      obtain ⟨x, h1, h2⟩ := hf
      refine ⟨.ref p, rfl, p, _, _, _, rfl, rfl, hp, atI_nat (j := 0) rfl, rfl, _, rfl, ?_⟩
      refine ifP rfl ?_
      refine ⟨.ref d, rfl, .ref p, rfl, p, _, _, _, rfl, rfl, hp, atI_nat (j := 1) rfl, d, _, rfl, dg a x h1, ?_⟩
      refine ⟨.ref d, rfl, .ref p, rfl, p, _, _, _, rfl, rfl, hp, atI_nat (j := 2) rfl, d, _, rfl, dg b x h2, rfl, ?_⟩
      rw [decide_eq_true rfl]
      exact q
    | one a =>
      refine ⟨.ref p, rfl, p, _, _, _, rfl, rfl, hp, atI_nat (j := 0) rfl, rfl, _, rfl, ?_⟩
      refine ifN (by intro h; cases h) ?_
      refine ⟨.ref d, rfl, .ref p, rfl, p, _, _, _, rfl, rfl, hp, atI_nat (j := 1) rfl, d, _, rfl, dg a 1 hf, ?_⟩
      refine ⟨.ref p, rfl, p, _, _, _, rfl, rfl, hp, atI_nat (j := 0) rfl, rfl, .inr ⟨_, rfl, rfl, ?_⟩⟩
      exact q
    | none a =>
      refine ⟨.ref p, rfl, p, _, _, _, rfl, rfl, hp, atI_nat (j := 0) rfl, rfl, _, rfl, ?_⟩
      refine ifN (by intro h; cases h) ?_
      refine ⟨.ref d, rfl, .ref p, rfl, p, _, _, _, rfl, rfl, hp, atI_nat (j := 1) rfl, d, _, rfl, dg a 0 hf, ?_⟩
      refine ⟨.ref p, rfl, p, _, _, _, rfl, rfl, hp, atI_nat (j := 0) rfl, rfl, .inr ⟨_, rfl, rfl, ?_⟩⟩
      exact q
theorem ok_true {f fR fW fH : Addr} {fd fdR fdW fdH : FuncData} {k : Nat} (D : Df K mg "_law_true_on_run" sTrue ["_law_program_here", "_law_facts_here", "_law_takes_here"] f fd) (B : Bi mg)
    (DR : Df K mg "run" sRun ["program", "takes", "most"] fR fdR) (GR : FnOk P w K mg base CX0 k fR fdR ["program", "takes", "most"] (spRun K))
    (DW : Df K mg "way_of" sWay ["program", "takes", "most"] fW fdW) (GW : FnOk P w K mg base CX0 k fW fdW ["program", "takes", "most"] (spWay K))
    (DH : Df K mg "_law_holds" sHolds ["_law_fact", "_law_last"] fH fdH) (GH : FnOk P w K mg base CX0 k fH fdH ["_law_fact", "_law_last"] (spHolds K)) : FnOk P w K mg base CX0 (k + 1) f fd ["_law_program_here", "_law_facts_here", "_law_takes_here"] (spTrue K) := by
  refine D.F.ok scTr (fun vs H Q E h => ?_) (fun cdv A outer s H vs Q E hr h => ?_)
  · obtain ⟨v, fa, ta, gs, pr, tk, st, rfl, _⟩ := h
    rfl
  · obtain ⟨v, fa, ta, gs, pr, tk, st, rfl, hP, hT, G, hfa, hgs, q⟩ := h
    refine ⟨_, (pss_cons (ps_asg (pe_call GR hr (by rfl) DR.g DR.F.kp DR.b .nil pass0 (pa_cons (pv 0) (pa_cons (pv 2) (pa_cons pe_int pa_nil)))) (pg_tup rfl (pgs_cons (pg_name (i := 3) scTr.nd rfl (.inl rfl)) (pgs_cons (pg_name (i := 4) scTr.nd rfl (.inl rfl)) (pgs_cons (pg_name (i := 5) scTr.nd rfl (.inl rfl)) pgs_nil)))))
      (pss_cons (ps_asg (pe_tup (pa_cons pe_dnewK (pa_cons pe_int pa_nil))) (pg_tup rfl (pgs_cons (pg_name (i := 6) scTr.nd rfl (.inr rfl)) (pgs_cons (pg_name (i := 7) scTr.nd rfl (.inl rfl)) pgs_nil))))
      (pss_cons (ps_for PassesOwn.never rfl (pi_list (pe_call GW hr (by rfl) DW.g DW.F.kp DW.b .nil pass0 (pa_cons (pv 0) (pa_cons (pv 2) (pa_cons pe_int pa_nil))))) (pg_name (i := 8) scTr.nd rfl (.inl rfl)) (pss_cons (ps_set (i := 9) scTr.nd rfl (.inl rfl) (pe_callB call_len_seq (by rfl) B.len PySem.boot_len (pa_cons (pe_ix ix_tup (pe_ix ix_list (pv 0) (pv 8) (fun _ _ => rfl)) pe_int (fun _ _ => rfl)) pa_nil)))
      (pss_cons (ps_if (pt_cmpR op_lt (pe_callB call_len_seq (by rfl) B.len PySem.boot_len (pa_cons (pv 5) pa_nil)) (pe_op op_add (pv 7) (pv 9)) (nomark _)) (pss_one (ps_ret pe_bl)) pss_nil)
      (pss_cons (ps_expr (pe_bm PySem.F.plainAttrs_dict PySem.F.slot_dict_update PySem.F.type_dict_update mt_dud (pv 6) (pa_cons (pe_callTy (call_dictP rfl) (by rfl) B.dict PyProof.Rows.boot_dict (pa_cons (pe_slice sl_list (pv 5) (po_some (pv 7)) (po_some (pe_op op_add (pv 7) (pv 9)))) pa_nil)) pa_nil)))
      (pss_cons (ps_set (i := 7) scTr.nd rfl (.inl rfl) (pe_op op_add (pv 7) (pv 9)))
      (pss_one (ps_if (pt_not (pt_val (pe_callB (cr_all rfl) (by rfl) B.all (by decide +kernel) (pa_cons (pe_lc (own := [("_law_fact", 10)]) (g := gName 10) (tt := tYes) (te := tCall (spHolds K) [] E0 (tCons (tVar 10) (tCons (tVar 6) tNil))) rfl scTr.nd (pi_list (pe_ix ix_list (pv 1) (pv 8) (fun _ _ => rfl)))
        (blkOk_by (own := [("_law_fact", 10)]) (N := nTr) (sc := defScope sTrue) (by decide +kernel)) (fun _ _ _ _ _ => (pg_name (i := 10) scTr.nd rfl (.inl rfl))) (fun _ _ _ _ _ => pts_nil) (fun _ _ _ _ _ => (pe_call GH hr (by rfl) DH.g DH.F.kp DH.b .nil pass0 (pa_cons (pv 10) (pa_cons (pv 6) pa_nil))))) pa_nil)))) (pss_one (ps_ret pe_bl)) pss_nil)))))))
      (pss_one (ps_ret pe_bl))))), ?_⟩
    refine ⟨v, rfl, .ref ta, rfl, ta, v, 300, pr, tk, rfl, hP, hT, G.O, by decide, fun q0 te dn ds H1 s1 nq nte ndn ned hq hte hdn hds hdl => ?_⟩
    refine ⟨q0, _, rfl, hq, rfl, _, _, rfl, _, _, rfl, _, _, rfl, rfl, ?_⟩
    have hvis := vis_run G 300
    generalize hD : (runC pr tk 300).st.done = D at hds hdl
    generalize hW : (runC pr tk 300).st.way = ws
    have hvis2 : (∀ y ∈ ws, y < pr.length) ∧ ∀ j, j < ws.length → cs pr (ws.take (j + 1)) ≤ D.length → FB pr (D.take (cs pr (ws.take (j + 1)))) (ws.getD j 0) := by
      rw [← hD, ← hW]; exact hvis
    refine fun la nla => ⟨szl (show 2 ≤ 1000000 by decide), fun T nT => ⟨T, _, rfl, sqT upd_same, rfl, _, _, rfl, _, _, rfl, rfl, ?_⟩⟩
    have s2 := new_same (o := .dK []) nla
    have sT := new_same (o := .tup [.ref la, .int 0]) nT
    have ela : upd (upd H1 la (.dK [])) T (.tup [.ref la, .int 0]) la = some (.dK []) := sT _ _ upd_same
    have s12 := s2.trans sT
    have nlH : H la = none := s1.free nla
    show tSeq _ _ _ _ (upd (upd H1 la (.dK [])) T (.tup [.ref la, .int 0]))
    generalize upd (upd H1 la (.dK [])) T (.tup [.ref la, .int 0]) = H2 at ela s12
    have sH2 := s1.trans s12
    refine ⟨v, rfl, .ref ta, rfl, ta, v, 300, pr, tk, rfl, hP.same sH2, sH2.seq hT, G.O, by decide, fun wy H3 s3 nwy ewy => ⟨wy, rfl, ⟨_, sqL ewy⟩, ?_⟩⟩
    rw [hW] at ewy
    have sH3 := sH2.trans s3
    have ela3 := s3 _ _ ela
    have edn3 : H3 dn = some (.lst ds) := s3 _ _ (s12 _ _ hdn)
    have nld : dn ≠ la := ne_of_none hdn nla
    have nwl : wy ≠ la := (ne_of_none ela nwy).symm
    have hds3 : Paired (DnAt K H3) ds D := pd_mono hds fun _ _ ⟨y, z1, z2⟩ => ⟨y, z1, Same.tup (s12.trans s3) z2⟩
    have hdsl := pd_len hds3
    obtain ⟨ps, rfl, hps⟩ := dn_refs hds3
    rw [List.length_map] at hdsl
    refine for_list (K := K) (a := wy) (xs := ws.map iv) (fun j σ Hx => ∃ (y3 y4 y8 y9 : Option V) (kvs : List (Key × V)), σ = [some v, some (.ref fa), some (.ref ta), y3, y4, some (.ref dn), some (.ref la), some (iv (cs pr (ws.take j))), y8, y9, none] ∧ Same H Hx ∧ (∀ a o, a ≠ la → H3 a = some o → Hx a = some o) ∧ Hx la = some (.dK kvs) ∧ LastAt kvs (lastD (D.take (cs pr (ws.take j)))) ∧ kvs.length ≤ cs pr (ws.take j) ∧ cs pr (ws.take j) ≤ D.length)
      ⟨_, _, _, _, [], rfl, sH3, fun _ _ _ z => z, ela3, fun y => rfl, Nat.zero_le _, Nat.zero_le _⟩ (fun j σ Hx _ hP => ?_) (fun j x σ Hx hx hPv => ?_) (fun σ Hx hP => ?_)
    · obtain ⟨_, _, _, _, _, _, _, kx, _⟩ := hP
      exact sqL (kx _ _ nwl ewy)
    · obtain ⟨y3, y4, y8, y9, kvs, rfl, sx, kx, el, hLA, hkl, hcd⟩ := hPv
      rw [List.getElem?_map] at hx
      obtain ⟨b, hb, rfl⟩ := Option.map_eq_some_iff.mp hx
      have hjl := (List.getElem?_eq_some_iff.mp hb).1
      have hgb : ws.getD j 0 = b := gd hb
      have hbl : b < pr.length := hvis2.1 b (List.mem_of_getElem? hb)
      have hcs := cs_succ (pr := pr) hjl
      rw [hgb] at hcs
      have hP3 := hP.same sx
      obtain ⟨pp, bs, pk, rk, ea, vk, rfl, h1, h2, h3, h4, h5, h6⟩ := hP3.blk hbl
      have hvk : vk.length = (rowsB pr b).length := pd_len h5
      have hrb : (rowsB pr b).length ≤ 130 := G.O.rl _ (blkMem hbl)
      refine ⟨.ref pp, rfl, iv b, rfl, pp, bs, _, .ref pk, rfl, rfl, h1, atI_nat h2, pk, _, _, .ref rk, rfl, rfl, h3, atI_nat (j := 0) rfl, rk, vk, rfl, .inl (sqL h4), ?_⟩
      have edn := kx _ _ nld edn3
      refine ⟨.ref dn, rfl, dn, _, rfl, .inl (sqL edn), _, rfl, _, rfl, _, _, rfl, rfl, _, _, rfl, rfl, _, rfl, ite2 (fun _ => q Hx sx) (fun e => ?_)⟩
      have hge : cs pr (ws.take (j + 1)) ≤ D.length := by
        rw [hcs]
        have e1 : ¬ (((ps.map V.ref).length : Int) < (cs pr (ws.take j) : Int) + (vk.length : Int)) := fun z => e (decide_eq_true z)
        rw [List.length_map] at e1
        omega
      have hcast : (cs pr (ws.take j) : Int) + (vk.length : Int) = ((cs pr (ws.take (j + 1)) : Nat) : Int) := by rw [hcs, hvk]; omega
      refine ⟨.ref la, rfl, .inr (.inr (.inl ⟨rfl, .inl ⟨_, el⟩⟩)), .ref dn, rfl, _, rfl, _, rfl, _, rfl, _, rfl, _, _, rfl, rfl, _, rfl, dn, _, rfl, sqL edn, fun sl nsl => ?_⟩
      have ecut : cutV (ps.map V.ref) (some ((cs pr (ws.take j) : Nat) : Int)) (some ((cs pr (ws.take j) : Int) + (vk.length : Int))) = ((ps.drop (cs pr (ws.take j))).take (cs pr (ws.take (j + 1)) - cs pr (ws.take j))).map V.ref := by
        rw [hcast, cut_natV (by omega) (by rw [List.length_map]; omega), ← List.map_drop, ← List.map_take]
      rw [ecut]
      have ssl := new_same (o := .lst (((ps.drop (cs pr (ws.take j))).take (cs pr (ws.take (j + 1)) - cs pr (ws.take j))).map V.ref)) nsl
      have esl : upd Hx sl (.lst (((ps.drop (cs pr (ws.take j))).take (cs pr (ws.take (j + 1)) - cs pr (ws.take j))).map V.ref)) sl = some (.lst (((ps.drop (cs pr (ws.take j))).take (cs pr (ws.take (j + 1)) - cs pr (ws.take j))).map V.ref)) := upd_same
      generalize upd Hx sl (.lst (((ps.drop (cs pr (ws.take j))).take (cs pr (ws.take (j + 1)) - cs pr (ws.take j))).map V.ref)) = Hy at ssl esl
      have el2 := ssl _ _ el
      have hpsx : Paired (fun p x => SqT K Hy p [iv x.1, wv x.2]) ps D := pd_mono hps fun _ _ z => by
        rcases z with (z | ⟨o, z⟩) | z
        · exact .inl (.inl (ssl _ _ (kx _ _ (ne_of z ela3 (by intro y; cases y)) z)))
        · exact .inl (.inr ⟨o, ssl _ _ (kx _ _ (ne_of z ela3 (by intro y; cases y)) z)⟩)
        · exact .inr z
      have hseg := pd_take (cs pr (ws.take (j + 1)) - cs pr (ws.take j)) (pd_drop (cs pr (ws.take j)) hpsx)
      generalize hsg : (D.drop (cs pr (ws.take j))).take (cs pr (ws.take (j + 1)) - cs pr (ws.take j)) = seg at hseg
      have htk : D.take (cs pr (ws.take (j + 1))) = D.take (cs pr (ws.take j)) ++ seg := by
        have e : cs pr (ws.take (j + 1)) = cs pr (ws.take j) + (cs pr (ws.take (j + 1)) - cs pr (ws.take j)) := by omega
        rw [e, List.take_add, ← hsg]
      have hsl : seg.length ≤ (rowsB pr b).length := by rw [← hsg, List.length_take]; omega
      refine ⟨sl, _, seg.map dKv, rfl, sqL esl, pd_mapR hseg, fun dd ndd => ?_⟩
      have sdd := new_same (o := .dK (mergeK [] (seg.map dKv))) ndd
      have edd : upd Hy dd (.dK (mergeK [] (seg.map dKv))) dd = some (.dK (mergeK [] (seg.map dKv))) := upd_same
      have el3 := sdd _ _ el2
      have hml := length_mergeK (seg.map dKv) []
      rw [List.length_map, List.length_nil] at hml
      refine ⟨la, dd, kvs, _, rfl, rfl, ne_of_none el2 ndd, el3, edd, szl (by omega), ?_⟩
      have hml2 := length_mergeK (mergeK [] (seg.map dKv)) kvs
      have hLA2 := hLA.upd (seg := seg)
      rw [← htk] at hLA2
      generalize mergeK kvs (mergeK [] (seg.map dKv)) = kvs2 at hml2 hLA2
      have el4 : upd (upd Hy dd (.dK (mergeK [] (seg.map dKv)))) la (.dK kvs2) la = some (.dK kvs2) := upd_same
      have s4 : Same H (upd (upd Hy dd (.dK (mergeK [] (seg.map dKv)))) la (.dK kvs2)) := Same.upd ((sx.trans ssl).trans sdd) nlH
      have k4 : ∀ a o, a ≠ la → H3 a = some o → upd (upd Hy dd (.dK (mergeK [] (seg.map dKv)))) la (.dK kvs2) a = some o := fun a o n z => by
        rw [upd_ne n]
        exact sdd _ _ (ssl _ _ (kx _ _ n z))
      generalize upd (upd Hy dd (.dK (mergeK [] (seg.map dKv)))) la (.dK kvs2) = Hz at el4 s4 k4
      refine ⟨_, rfl, _, rfl, _, _, rfl, rfl, ?_⟩
      have hv : V.int ((cs pr (ws.take j) : Int) + (vk.length : Int)) = iv (cs pr (ws.take (j + 1))) := by rw [hcast]; rfl
      show gName 7 (V.int ((cs pr (ws.take j) : Int) + (vk.length : Int))) _ _ _
      rw [hv]
      have hgb2 : (List.range pr.length)[b]? = some b := List.getElem?_range hbl
      obtain ⟨gx, hgx, gp, fs, rfl, hgp, hfs⟩ := pd_at hgs hgb2
      have hfb : FB pr (D.take (cs pr (ws.take (j + 1)))) b := by
        have := hvis2.2 j hjl hge
        rw [hgb] at this
        exact this
      refine ⟨.ref fa, rfl, iv b, rfl, fa, _, _, .ref gp, rfl, rfl, s4.seq hfa, atI_nat hgx, gp, rfl, ⟨_, s4.seq hgp⟩, fun L nL => ?_⟩
      have nLl : L ≠ la := (ne_of_none el4 nL).symm
      have hfl : fs.length = (factsF pr b).length := pd_len hfs
      refine lc_list (K := K) (a := gp) (xs := fs) (fun i H5 => Same Hz H5 ∧ H5 L = some (.lst ((List.replicate i true).map V.bl)) ∧ i ≤ 1000) ⟨new_same nL, upd_same, Nat.zero_le _⟩ (fun i H5 _ hP => (s4.trans hP.1).seq hgp) (fun i x H5 hx hP => ?_) (fun H5 hP => ?_)
      · obtain ⟨s5, eL, hi⟩ := hP
        obtain ⟨fc, hfc1, hfc2⟩ := pd_at2 hfs hx
        have hil := (List.getElem?_eq_some_iff.mp hfc1).1
        have hfl2 : (factsF pr b).length ≤ 100 := facts_len pr b G
        refine ⟨rfl, x, rfl, .ref la, rfl, x, la, fc, kvs2, _, rfl, (hfc2.same s4).same s5, s5 _ _ el4, hLA2, hfb fc (List.mem_of_getElem? hfc1), ⟨_, eL, ?_, fun a o z => ?_, ?_, by omega⟩⟩
        · rw [List.length_map, List.length_replicate]; exact szt (by omega)
        · rw [upd_ne (ne_of_none z nL)]; exact s5 _ _ z
        · rw [upd_same, List.replicate_succ', List.map_append]; rfl
      · obtain ⟨s5, eL, hi⟩ := hP
        refine ⟨L, _, rfl, sqL eL, _, rfl, ?_⟩
        rw [all_rep]
        refine ifN (by intro h; cases h) ?_
        exact ⟨_, _, _, _, kvs2, rfl, s4.trans s5, fun a o n z => s5 _ _ (k4 a o n z), s5 _ _ el4, hLA2, by omega, hge⟩
    · obtain ⟨_, _, _, _, _, rfl, sx, _⟩ := hP
      exact q Hx sx
end
end Gn
set_option Elab.async false
set_option linter.all false
set_option maxRecDepth 100000
set_option maxHeartbeats 4000000
namespace Gn
open PySem PySem.Spec PyProof.Rows L2
/-! ### data that can be compared and shown -/
structure Nice (B : Nat) (d : PyData) (k W : Nat) : Prop where
  lay : d.canLay0 = true
  dep : d.depth ≤ k
  sho : d.showable = true
  sht : d.intsShort B = true
  wt : d.weight ≤ W
theorem Nice.mono {B : Nat} {d : PyData} {k W k' W' : Nat} (h : Nice B d k W) (a : k ≤ k') (b : W ≤ W') : Nice B d k' W' := ⟨h.lay, Nat.le_trans h.dep a, h.sho, h.sht, Nat.le_trans h.wt b⟩
theorem niceAll {B k W : Nat} : ∀ {ds : List PyData}, (∀ d ∈ ds, Nice B d k W) → PyData.canLayAll0 ds = true ∧ PyData.depthAll ds ≤ k ∧ PyData.showableAll ds = true ∧ PyData.intsShortAll B ds = true ∧ PyData.weightAll ds ≤ ds.length * (W + 1)
  | [], _ => by simp [PyData.canLayAll0, PyData.depthAll, PyData.showableAll, PyData.intsShortAll, PyData.weightAll]
  | d :: ds, h => by
    obtain ⟨h1, h2, h3, h4, h5⟩ := niceAll (ds := ds) fun x hx => h x (List.mem_cons_of_mem _ hx)
    have n := h d List.mem_cons_self
    refine ⟨?_, ?_, ?_, ?_, ?_⟩
    · simp only [PyData.canLayAll0, n.lay, h1, Bool.and_self]
    · simp only [PyData.depthAll]
      have := n.dep
      omega
    · simp only [PyData.showableAll, n.sho, h3, Bool.and_self]
    · simp only [PyData.intsShortAll, n.sht, h4, Bool.and_self]
    · simp only [PyData.weightAll, List.length_cons]
      have := n.wt
      rw [Nat.succ_mul]
      omega
theorem nice_list {B k W : Nat} {ds : List PyData} (h : ∀ d ∈ ds, Nice B d k W) : Nice B (.list ds) (k + 1) (ds.length * (W + 1)) := by
  obtain ⟨h1, h2, h3, h4, h5⟩ := niceAll h
  refine ⟨by simp only [PyData.canLay0, h1], by simp only [PyData.depth]; omega, by simp only [PyData.showable, h3], by simp only [PyData.intsShort, h4], by simp only [PyData.weight]; exact h5⟩
theorem nice_tup {B k W : Nat} {ds : List PyData} (h : ∀ d ∈ ds, Nice B d k W) : Nice B (.tuple ds) (k + 1) (ds.length * (W + 1)) := by
  obtain ⟨h1, h2, h3, h4, h5⟩ := niceAll h
  refine ⟨by simp only [PyData.canLay0, h1], by simp only [PyData.depth]; omega, by simp only [PyData.showable, h3], by simp only [PyData.intsShort, h4], by simp only [PyData.weight]; exact h5⟩
theorem nice_int {z : Int} (h1 : -20 ≤ z) (h2 : z ≤ 10 ^ 12) : Nice 13 (.int z) 0 41 := by
  have hs : (PyData.shown (.int z)).length ≤ 13 := by
    by_cases e : z = 10 ^ 12
    · rw [e]; decide +kernel
    · exact PyData.shown_int_le (by omega)
  have hl : z.natAbs.log2 < 41 := by
    by_cases e : z.natAbs = 0
    · rw [e]; decide
    · exact (Nat.log2_lt e).mpr (by omega)
  refine ⟨by simp only [PyData.canLay0], by simp only [PyData.depth]; omega, ?_, ?_, ?_⟩
  · simp only [PyData.showable, decide_eq_true_eq]; omega
  · simp only [PyData.intsShort, decide_eq_true_eq]; exact hs
  · simp only [PyData.weight]
    split <;> omega
theorem nice_nat {n : Nat} (h : n < 256) : Nice 13 (nd n) 0 8 := by
  have a := nice_int (z := (n : Int)) (by omega) (by omega)
  refine ⟨a.lay, a.dep, a.sho, a.sht, ?_⟩
  have hl : (n : Int).natAbs.log2 < 8 := by
    rw [Int.natAbs_natCast]
    by_cases e : n = 0
    · rw [e]; decide
    · exact (Nat.log2_lt e).mpr (by omega)
  simp only [nd, PyData.weight]
  split <;> omega
/-- a worth -/
theorem nice_big {z : Int} (h : -GT40 ≤ z ∧ z ≤ GT40) : Nice 42 (.int z) 0 140 := by
  have hb : z.natAbs < 10 ^ 41 := by
    have h1 := h.1
    have h2 := h.2
    unfold GT40 at h1 h2
    omega
  have hs : (PyData.shown (.int z)).length ≤ 42 := by
    have e := PySem.int_text_length_le10 (k := 41) (by decide) hb
    show (Str.ofString (toString z)).length ≤ 42
    rw [PySem.ofString_length]; exact e
  have hl : z.natAbs.log2 < 139 := by
    by_cases e : z.natAbs = 0
    · rw [e]; decide
    · exact (Nat.log2_lt e).mpr (Nat.lt_trans hb (by decide))
  refine ⟨by simp only [PyData.canLay0], by simp only [PyData.depth]; omega, ?_, ?_, ?_⟩
  · simp only [PyData.showable, decide_eq_true_eq]; omega
  · simp only [PyData.intsShort, decide_eq_true_eq]; exact hs
  · simp only [PyData.weight]
    split <;> omega
theorem nice_str {B : Nat} {s : Str} (h1 : PyData.strOk s = true) (h2 : s.cps.size ≤ 8) : Nice B (.str s) 0 8 :=
  ⟨by simp only [PyData.canLay0, h1], by simp only [PyData.depth]; omega, by simp only [PyData.showable], by simp only [PyData.intsShort], by simp only [PyData.weight]; exact h2⟩
theorem nice_nats {ns : List Nat} (h : ∀ n ∈ ns, n < 256) : ∀ d ∈ ns.map nd, Nice 13 d 0 8 := fun d hd => by
  obtain ⟨n, hn, rfl⟩ := List.mem_map.mp hd
  exact nice_nat (h n hn)
theorem bkw_nice (b : Bk) : Nice 13 (.str b.w) 0 8 := by
  cases b <;> exact nice_str (by decide +kernel) (by decide +kernel)
theorem word_nice (r : Rw) : Nice 13 (.str r.w) 0 8 := by
  cases r with
  | bin b x y => exact bkw_nice b
  | take _ => exact nice_str (s := "take") (by decide +kernel) (by decide +kernel)
  | num _ => exact nice_str (s := "num") (by decide +kernel) (by decide +kernel)
  | pick _ _ => exact nice_str (s := "pick") (by decide +kernel) (by decide +kernel)
  | meet _ => exact nice_str (s := "meet") (by decide +kernel) (by decide +kernel)
  | tell _ => exact nice_str (s := "tell") (by decide +kernel) (by decide +kernel)
  | look _ _ => exact nice_str (s := "look") (by decide +kernel) (by decide +kernel)
  | lay _ _ _ => exact nice_str (s := "lay") (by decide +kernel) (by decide +kernel)
theorem row_nice {r : Rw} (h : RwB 130 r) : Nice 13 r.data 2 500 := by
  rw [data_eq]
  have hw := (word_nice r).mono (show 0 ≤ 1 by decide) (show 8 ≤ 108 by decide)
  have nn : ∀ {n : Nat}, n < 130 → Nice 13 (nd n) 1 108 := fun h => (nice_nat (Nat.lt_of_lt_of_le h (by decide))).mono (by decide) (by decide)
  have tt : ∀ {ps : List Nat}, (∀ y ∈ ps, y < 130) → ps.length ≤ 12 → Nice 13 (.tuple (ps.map nd)) 1 108 := fun {ps} h1 h2 => by
    have := nice_tup (nice_nats fun n hn => Nat.lt_of_lt_of_le (h1 n hn) (show 130 ≤ 256 by decide))
    rw [List.length_map] at this
    exact this.mono (Nat.le_refl _) (by omega)
  have key : (∀ d ∈ r.rdata, Nice 13 d 1 108) ∧ r.rdata.length ≤ 3 := by
    cases r with
    | take i =>
      refine ⟨fun d hd => ?_, show 1 ≤ 3 by decide⟩
      rw [List.mem_singleton.mp hd]
      exact nn (Nat.lt_of_le_of_lt h (by decide))
    | num z =>
      refine ⟨fun d hd => ?_, show 1 ≤ 3 by decide⟩
      rw [List.mem_singleton.mp hd]
      exact (nice_int (by have := h.1; omega) h.2).mono (by decide) (by decide)
    | bin b x y =>
      refine ⟨fun d hd => ?_, show 2 ≤ 3 by decide⟩
      have hd2 : d = nd x ∨ d = nd y := by simpa [Rw.rdata] using hd
      rcases hd2 with rfl | rfl
      · exact nn h.1
      · exact nn h.2
    | pick x ps =>
      refine ⟨fun d hd => ?_, show 2 ≤ 3 by decide⟩
      have hd2 : d = nd x ∨ d = .tuple (ps.map nd) := by simpa [Rw.rdata] using hd
      rcases hd2 with rfl | rfl
      · exact nn h.1
      · exact tt h.2.1 (Nat.le_trans h.2.2.1 (by decide))
    | meet ps =>
      refine ⟨fun d hd => ?_, show 1 ≤ 3 by decide⟩
      rw [List.mem_singleton.mp hd]
      exact tt h.1 h.2
    | tell x =>
      refine ⟨fun d hd => ?_, show 1 ≤ 3 by decide⟩
      rw [List.mem_singleton.mp hd]
      exact nn h
    | look rs x =>
      refine ⟨fun d hd => ?_, show 2 ≤ 3 by decide⟩
      have hd2 : d = .tuple (rs.map nd) ∨ d = nd x := by simpa [Rw.rdata] using hd
      rcases hd2 with rfl | rfl
      · exact tt (fun y hy => Nat.lt_trans (h.2.2.2 y hy) (by decide)) (Nat.le_trans h.2.1 (by decide))
      · exact nn h.1
    | lay rs x y =>
      refine ⟨fun d hd => ?_, show 3 ≤ 3 by decide⟩
      have hd2 : d = .tuple (rs.map nd) ∨ d = nd x ∨ d = nd y := by simpa [Rw.rdata] using hd
      rcases hd2 with rfl | rfl | rfl
      · exact tt (fun y hy => Nat.lt_trans (h.2.2.2.2 y hy) (by decide)) (Nat.le_trans h.2.2.1 (by decide))
      · exact nn h.1
      · exact nn h.2.1
  have := nice_tup (ds := .str r.w :: r.rdata) (k := 1) (W := 108) fun d hd => by
    rcases List.mem_cons.mp hd with rfl | hd
    · exact hw
    · exact key.1 d hd
  refine this.mono (Nat.le_refl _) ?_
  rw [List.length_cons]
  have := key.2
  omega
def En.data : En → PyData
  | .go b => .tuple [.str "go", nd b]
  | .iff r b c => .tuple [.str "if", nd r, nd b, nd c]
  | .fin => .tuple [.str "end"]
theorem EnAt.dp {K : PySem.W.Frag} {H : Hp} {v : V} {e : En} (h : EnAt K H v e) : Dp K H v e.data := by
  cases e with
  | go b => obtain ⟨p, rfl, h⟩ := h; exact .tup h (.cons (.str _) (.cons (.int _) .nil))
  | iff r b c => obtain ⟨p, rfl, h⟩ := h; exact .tup h (.cons (.str _) (.cons (.int _) (.cons (.int _) (.cons (.int _) .nil))))
  | fin => obtain ⟨p, rfl, h⟩ := h; exact .tup h (.cons (.str _) .nil)
theorem end_nice {e : En} {m : Nat} (hm : m ≤ 12) (h : EnOk m 130 e) : Nice 13 e.data 1 40 := by
  cases e with
  | go b =>
    refine (nice_tup (k := 0) (W := 8) fun d hd => ?_).mono (Nat.le_refl _) (show 2 * 9 ≤ 40 by decide)
    have hd2 : d = .str "go" ∨ d = nd b := by simpa using hd
    rcases hd2 with rfl | rfl
    · exact nice_str (by decide +kernel) (by decide +kernel)
    · exact nice_nat (by have := h.2; omega)
  | iff r b c =>
    refine (nice_tup (k := 0) (W := 8) fun d hd => ?_).mono (Nat.le_refl _) (show 4 * 9 ≤ 40 by decide)
    obtain ⟨h1, h2, h3, h4, h5, _⟩ := h
    have hd2 : d = .str "if" ∨ d = nd r ∨ d = nd b ∨ d = nd c := by simpa using hd
    rcases hd2 with rfl | rfl | rfl | rfl
    · exact nice_str (by decide +kernel) (by decide +kernel)
    · exact nice_nat (by omega)
    · exact nice_nat (by omega)
    · exact nice_nat (by omega)
  | fin =>
    refine (nice_tup (k := 0) (W := 8) fun d hd => ?_).mono (Nat.le_refl _) (show 1 * 9 ≤ 40 by decide)
    rw [List.mem_singleton.mp hd]
    exact nice_str (by decide +kernel) (by decide +kernel)
def bdata (b : Blk) : PyData := .tuple [.list (b.1.map Rw.data), b.2.data]
def pdata (pr : List Blk) : PyData := .list (pr.map bdata)
theorem BlkAt.dp {K : PySem.W.Frag} {H : Hp} {v : V} {b : Blk} (h : BlkAt K H v b) : Dp K H v (bdata b) := by
  obtain ⟨p, ra, ea, vs, rfl, h2, h3, h4, h5⟩ := h
  exact .tup h2 (.cons (.lst (sqL h3) (rows_dp h4)) (.cons h5.dp .nil))
theorem blks_dp {K : PySem.W.Frag} {H : Hp} : ∀ {vs : List V} {bs : List Blk}, Paired (BlkAt K H) vs bs → DpAll K H vs (bs.map bdata)
  | _, _, .nil => .nil
  | _, _, .cons h t => .cons h.dp (blks_dp t)
theorem ProgAt.dp {K : PySem.W.Frag} {H : Hp} {v : V} {pr : List Blk} (h : ProgAt K H v pr) : Dp K H v (pdata pr) := by
  obtain ⟨p, bs, rfl, h1, h2⟩ := h
  exact .lst h1 (blks_dp h2)
theorem prog_nice {pr : List Blk} {m : Nat} (hm : m ≤ 12) (h : ProgOk m 130 pr) : Nice 13 (pdata pr) 60 850000 := by
  have hb : ∀ d ∈ pr.map bdata, Nice 13 d 4 66000 := fun d hd => by
    obtain ⟨b, hb, rfl⟩ := List.mem_map.mp hd
    obtain ⟨h1, h2, h3⟩ := h.rows b hb
    have r1 := nice_list (ds := b.1.map Rw.data) (k := 2) (W := 500) fun d hd => by
      obtain ⟨r, hr, rfl⟩ := List.mem_map.mp hd
      exact row_nice (h2 r hr)
    rw [List.length_map] at r1
    have e1 := end_nice hm h3
    refine ⟨?_, ?_, ?_, ?_, ?_⟩
    · simp only [bdata, PyData.canLay0, PyData.canLayAll0]
      have := r1.lay
      simp only [PyData.canLay0] at this
      simp only [this, e1.lay, Bool.and_self]
    · have a1 := r1.dep
      have a2 := e1.dep
      simp only [bdata, PyData.depth, PyData.depthAll] at *
      omega
    · simp only [bdata, PyData.showable, PyData.showableAll]
      have := r1.sho
      simp only [PyData.showable] at this
      simp only [this, e1.sho, Bool.and_self]
    · simp only [bdata, PyData.intsShort, PyData.intsShortAll]
      have := r1.sht
      simp only [PyData.intsShort] at this
      simp only [this, e1.sht, Bool.and_self]
    · have a1 := r1.wt
      have a2 := e1.wt
      simp only [bdata, PyData.weight, PyData.weightAll] at *
      omega
  have := nice_list hb
  rw [List.length_map, h.len] at this
  exact this.mono (by decide) (by omega)
theorem Nice.shaped {B : Nat} {d : PyData} {W : Nat} (h : Nice B d 60 W) : SeqAt.shaped d = true := by
  unfold SeqAt.shaped
  rw [h.lay, decide_eq_true (Nat.le_trans h.dep (by decide))]
  rfl
theorem Nice.shown {d : PyData} {W : Nat} (h : Nice 13 d 60 W) (hW : W ≤ 1000000) : d.shown.length ≤ sizeLine := by
  refine PyData.shown_fits_of_layable0 (B := 13) (by decide) (by decide) ?_ h.sht
  unfold PyData.layable0
  rw [h.lay, decide_eq_true (Nat.le_trans h.dep (by decide)), decide_eq_true (Nat.le_trans h.wt (by omega))]
  rfl
theorem Nice.noDict {B : Nat} {d : PyData} {k W : Nat} (h : Nice B d k W) : d.hasDict = false := PyData.hasDict_of_canLay d h.lay
theorem Nice.eqv {B : Nat} {d : PyData} {k W : Nat} (h : Nice B d k W) : PyData.eqv d d = true := SeqAt.eqv_refl d h.lay
theorem Nice.shown42 {d : PyData} {W : Nat} (h : Nice 42 d 60 W) (hW : W ≤ 100000) : d.shown.length ≤ sizeLine := by
  have h1 := PyData.shown_le 42 (by decide) d (PyData.leavesShort_of_canLay0 42 d h.lay h.sht)
  have h2 := h.wt
  have h3 : (42 + 2) * d.weight + 42 ≤ (42 + 2) * 100000 + 42 := by omega
  exact Nat.le_trans h1 (Nat.le_trans h3 (by decide))
end Gn
set_option Elab.async false
set_option linter.all false
set_option maxRecDepth 100000
set_option maxHeartbeats 8000000
set_option pp.maxSteps 300
namespace Gn
open PySem PySem.Spec PyProof.Rows L2
/-! ### some_program, the law -/
theorem cr_strD {X : Cx} (hg : X.A.guards = some []) (hu : X.A.units + 64 < cLine) : CallR X (.type "str") (rRepr X.K) := by
  intro pins s σ H vs us Q I r h
  obtain ⟨a, d, rfl, hd, hs, hh, hdp, hz, q⟩ := h
  rw [Vals.ref1 r]
  obtain ⟨as, r1⟩ := Dp.reads I d (.ref a) (.ref a) hd rfl
  refine str_of_reads r1 hs (fun e => by rw [hh] at e; cases e) hg (by omega) (fun _ _ e => e) (fun g u tk k => ?_) hz
  exact ⟨.str d.shown, H, I.kept (t' := tk) k, ⟨u, rfl⟩, q⟩
def spSome (K : PySem.W.Frag) : Sp := fun vs H Q _ => ∃ (t : Addr) (k c : Nat) (ca : Addr), vs = [.ref t, iv k, .ref ca] ∧ Tape H t c ∧ SqT K H ca [.int 24, .int 8] ∧ c ≤ 900 ∧
  ∀ (H' : Hp) (v : V) (pr : List Blk) (m : Nat), But t H H' → Tape H' t 1000000 → 1 ≤ m → m ≤ 12 → ProgAt K (frz [t] H') v pr → ProgOk m 130 pr → NxOk m (pr.map fun b => b.2.names) → PrX m pr → (∃ st, PrS st pr) → Q v H'
abbrev nSo : List Str := ["_law_tape_here", "_law_k", "_law_caps"]
theorem scSo : FnScope nSo ["_law_tape_here", "_law_k", "_law_caps"] (defScope sSome) := ⟨rfl, rfl, rfl, by decide +kernel, rfl, by decide +kernel, by decide +kernel⟩
theorem mm7 (L : Nat) : 0 ≤ 1 + (if (L : Int) < 6 then (L : Int) else 6) ∧ 1 + (if (L : Int) < 6 then (L : Int) else 6) ≤ 7 := by
  by_cases h : (L : Int) < 6
  · rw [if_pos h]; omega
  · rw [if_neg h]; omega
theorem in_gt {x : Int} (h : -1000 ≤ x ∧ x ≤ 10 ^ 12) : -GT40 ≤ x ∧ x ≤ GT40 := by
  obtain ⟨a, b⟩ := h
  unfold GT40
  omega
/-- the facts of a block, in a list of their own -/
def Fc2 (K : PySem.W.Frag) (H : Hp) (t fx : Addr) (pr : List Blk) (x : V) (b : Nat) : Prop := ∃ p fs, x = .ref p ∧ p ≠ fx ∧ p ≠ t ∧ H p = some (.lst fs) ∧ Paired (FaAt K H) fs (factsF pr b)
theorem Fc2.same {K : PySem.W.Frag} {H H' : Hp} {t fx : Addr} {pr : List Blk} {x : V} {b : Nat} (h : Fc2 K H t fx pr x b) (e : Same H H') : Fc2 K H' t fx pr x b := by
  obtain ⟨p, fs, h1, h2, h3, h4, h5⟩ := h
  exact ⟨p, fs, h1, h2, h3, e _ _ h4, pd_mono h5 fun _ _ z => z.same e⟩
theorem Fc2.updF {K : PySem.W.Frag} {H : Hp} {t fx : Addr} {pr : List Blk} {x : V} {b : Nat} {xs : List V} {o : HO} (h : Fc2 K H t fx pr x b) (e : H fx = some (.lst xs)) : Fc2 K (upd H fx o) t fx pr x b := by
  obtain ⟨p, fs, h1, h2, h3, h4, h5⟩ := h
  exact ⟨p, fs, h1, h2, h3, by rw [upd_ne h2]; exact h4, pd_mono h5 fun _ _ ⟨t, z1, z2⟩ => ⟨t, z1, tup_upd z2 e⟩⟩
theorem Fc2.out {K : PySem.W.Frag} {H H' : Hp} {t fx : Addr} {pr : List Blk} {x : V} {b : Nat} {xs : List V} (h : Fc2 K H t fx pr x b) (e : H t = some (.lst xs)) (bt : But t H H') : FcsAt K H' pr x b := by
  obtain ⟨p, fs, h1, h2, h3, h4, h5⟩ := h
  exact ⟨p, fs, h1, sqL (bt _ _ h3 h4), pd_mono h5 fun _ _ ⟨t, z1, z2⟩ => ⟨t, z1, tup_but z2 bt e⟩⟩
theorem Fc2.but {K : PySem.W.Frag} {H H' : Hp} {t fx : Addr} {pr : List Blk} {x : V} {b : Nat} {xs : List V} (h : Fc2 K H t fx pr x b) (e : H t = some (.lst xs)) (bt : But t H H') : Fc2 K H' t fx pr x b := by
  obtain ⟨p, fs, h1, h2, h3, h4, h5⟩ := h
  exact ⟨p, fs, h1, h2, h3, bt _ _ h3 h4, pd_mono h5 fun _ _ ⟨t, z1, z2⟩ => ⟨t, z1, tup_but z2 bt e⟩⟩
theorem RLs.of {K : PySem.W.Frag} {H : Hp} {p q : Addr} : ∀ {fs gs : List V} {f : List Fa}, Paired (FaAt K H) fs f → Paired (FaAt K H) gs f → Paired (fun a b => RTp K a b H) fs gs
  | _, _, _, .nil, .nil => .nil
  | _, _, _, .cons (b := f) ⟨t1, h1, h2⟩ r1, .cons ⟨t2, h3, h4⟩ r2 => by
    refine .cons ⟨t1, t2, f.vals, h1, h3, h2, h4, fun v hv => ⟨rfl, ?_⟩, ?_⟩ (RLs.of (p := p) (q := q) r1 r2)
    · cases f with
      | alike a b =>
        have : v = .str "alike" ∨ v = iv a ∨ v = iv b := by simpa [Fa.vals] using hv
        rcases this with rfl | rfl | rfl
        · exact .inl ⟨_, rfl⟩
        · exact .inr ⟨_, rfl⟩
        · exact .inr ⟨_, rfl⟩
      | one a =>
        have : v = .str "one" ∨ v = iv a := by simpa [Fa.vals] using hv
        rcases this with rfl | rfl
        · exact .inl ⟨_, rfl⟩
        · exact .inr ⟨_, rfl⟩
      | none a =>
        have : v = .str "none" ∨ v = iv a := by simpa [Fa.vals] using hv
        rcases this with rfl | rfl
        · exact .inl ⟨_, rfl⟩
        · exact .inr ⟨_, rfl⟩
    · cases f <;> simp [Fa.vals]
theorem facts_len2 {pr : List Blk} (h : pr.length ≤ 12) (b : Nat) : (factsF pr b).length ≤ 100 := by
  have h1 := flat_len (factU_len pr) (dl (nmL pr) b)
  have h2 := dl_len (nmL pr) b
  have h3 : (nmL pr).length = pr.length := List.length_map _
  unfold factsF
  omega
def spLaw (K : PySem.W.Frag) : Sp := fun vs H Q _ => ∃ (a : Addr) (ns : List Int), vs = [.ref a] ∧ SqL K H a (ns.map V.int) ∧ ns.length ≤ 63 ∧ ∀ H', Q (.bl true) H'
abbrev nLaw : List Str := ["_law_script", "_law_k", "_law_tape_here", "_law_program_here", "_law_kept", "_law_facts_here", "_law_block", "_law_due", "_law_turn", "_law_found"]
theorem scLaw : FnScope nLaw ["_law_script"] (defScope sLaw) := ⟨rfl, rfl, rfl, by decide +kernel, rfl, by decide +kernel, by decide +kernel⟩
section
variable {P : Program} {w : World} {K : PySem.W.Frag} {mg : Str → Option Value} {base : Heap}
theorem ok_some {f fD fQ : Addr} {fd fdD fdQ : FuncData} {k : Nat} (D : Df K mg "_law_some_program" sSome ["_law_tape_here", "_law_k", "_law_caps"] f fd) (B : Bi mg)
    (DD : Df K mg "_law_draw" sDraw ["_law_tape_here", "_law_many"] fD fdD) (GD : FnOk P w K mg base CX0 k fD fdD ["_law_tape_here", "_law_many"] spDraw)
    (DQ : Df K mg "_law_program" sProgram ["_law_tape_here", "_law_many", "_law_most", "_law_caps"] fQ fdQ) (GQ : FnOk P w K mg base CX0 k fQ fdQ ["_law_tape_here", "_law_many", "_law_most", "_law_caps"] (spProgram K)) : FnOk P w K mg base CX0 (k + 1) f fd ["_law_tape_here", "_law_k", "_law_caps"] (spSome K) := by
  refine D.F.ok scSo (fun vs H Q E h => ?_) (fun cdv A outer s H vs Q E hr h => ?_)
  · obtain ⟨t, kk, c, ca, rfl, _⟩ := h
    rfl
  · obtain ⟨t, kk, c, ca, rfl, hT, hca, hc, q⟩ := h
    refine ⟨_, (pss_cons (ps_if (pw_and (pt_cmpR op_eq (pv 1) pe_int (nomark _)) (pw_and1 (pt_cmpR op_eq (pe_call GD hr (by rfl) DD.g DD.F.kp DD.b .nil pass0 (pa_cons (pv 0) (pa_cons pe_int pa_nil))) pe_int (nomark _)))).pt (pss_one (ps_ret (pe_call GQ hr (by rfl) DQ.g DQ.F.kp DQ.b .nil pass0 (pa_cons (pv 0) (pa_cons (pe_op op_add pe_int (pe_call GD hr (by rfl) DD.g DD.F.kp DD.b .nil pass0 (pa_cons (pv 0) (pa_cons pe_int pa_nil)))) (pa_cons pe_int (pa_cons (pv 2) pa_nil))))))) pss_nil)
      (pss_one (ps_ret (pe_call GQ hr (by rfl) DQ.g DQ.F.kp DQ.b .nil pass0 (pa_cons (pv 0) (pa_cons (pe_op op_add pe_int (pe_call GD hr (by rfl) DD.g DD.F.kp DD.b .nil pass0 (pa_cons (pv 0) (pa_cons pe_int pa_nil)))) (pa_cons (pe_op op_add pe_int (pe_call GD hr (by rfl) DD.g DD.F.kp DD.b .nil pass0 (pa_cons (pv 0) (pa_cons pe_int pa_nil)))) (pa_cons (pv 2) pa_nil)))))))), ?_⟩
    have tl : ∀ {Hx : Hp} {c : Nat}, Tape Hx t c → ∃ xs, Hx t = some (.lst xs) := fun ⟨x, y, z, h, _⟩ => ⟨_, h⟩
    have last : ∀ Hx c', But t H Hx → Tape Hx t c' → c' ≤ 910 → tRet (tCall (spProgram K) [] E0 (tCons (tVar 0) (tCons (tOp (rI0 fun i j => .int (i + j)) (tC (.int 1)) (tDr (tVar 0) (tC (.int 6)))) (tCons (tOp (rI0 fun i j => .int (i + j)) (tC (.int 1)) (tDr (tVar 0) (tC (.int 4)))) (tCons (tVar 2) tNil))))) { nx := fun _ H' => Q .non H', rt := Q } [some (.ref t), some (iv kk), some (.ref ca)] Hx := fun Hx c' bx Tx hc' => by
      obtain ⟨xs0, e0⟩ := tl hT
      refine ⟨.ref t, rfl, .ref t, rfl, t, 6, c', rfl, Tx, by omega, by decide, by decide, fun r1 H1 h1 b1 T1 => ⟨_, _, rfl, rfl, .ref t, rfl, t, 4, c' + 1, rfl, T1, by omega, by decide, by decide, fun r2 H2 h2 b2 T2 => ⟨_, _, rfl, rfl, .ref ca, rfl, ?_⟩⟩⟩
      have b := (bx.trans b1).trans b2
      refine ⟨t, 1 + r1, 1 + r2, c' + 2, ca, ?_, T2, tup_but hca b e0, by omega, by omega, by omega, by omega, fun H' v pr b' T' h1 h2 h3 h4 h5 => q H' v pr (1 + r1) (b.trans b') T' (by omega) (by omega) h1 h2 h3 h4 h5⟩
      show [V.ref t, V.int (1 + (r1 : Int)), V.int (1 + (r2 : Int)), V.ref ca] = [V.ref t, iv (1 + r1), iv (1 + r2), V.ref ca]
      rw [show (iv (1 + r1)) = V.int (1 + (r1 : Int)) from congrArg V.int (by omega), show (iv (1 + r2)) = V.int (1 + (r2 : Int)) from congrArg V.int (by omega)]
    refine ⟨_, rfl, rfl, _, rfl, ite2 (fun _ => ?_) (fun _ => last H c (But.refl _ _) hT (by omega))⟩
    refine ⟨.ref t, rfl, t, 8, c, rfl, hT, by omega, by decide, by decide, fun r0 H0 h0 b0 T0 => ⟨rfl, _, rfl, ite2 (fun _ => ?_) (fun _ => last H0 (c + 1) b0 T0 (by omega))⟩⟩
    obtain ⟨xs0, e0⟩ := tl hT
    refine ⟨.ref t, rfl, .ref t, rfl, t, 3, c + 1, rfl, T0, by omega, by decide, by decide, fun r1 H1 h1 b1 T1 => ⟨_, _, rfl, rfl, .ref ca, rfl, ?_⟩⟩
    have b := b0.trans b1
    refine ⟨t, 7 + r1, 2, c + 2, ca, ?_, T1, tup_but hca b e0, by omega, by omega, by omega, by omega, fun H' v pr b' T' h1 h2 h3 h4 h5 => q H' v pr (7 + r1) (b.trans b') T' (by omega) (by omega) h1 h2 h3 h4 h5⟩
    show [V.ref t, V.int (7 + (r1 : Int)), V.int 2, V.ref ca] = [V.ref t, iv (7 + r1), iv 2, V.ref ca]
    rw [show (iv (7 + r1)) = V.int (7 + (r1 : Int)) from congrArg V.int (by omega)]
    rfl
theorem ok_law {f fE fQ fA fF fS fR fT : Addr} {fd fdE fdQ fdA fdF fdS fdR fdT : FuncData} {k : Nat} (F : Fun K "law" "law" sLaw f fd) (B : Bi mg) (hc : Room (k + 1) callerA)
    (DE : Df K mg "_law_tape" sTape ["_law_script", "_law_k"] fE fdE) (GE : FnOk P w K mg base CX0 k fE fdE ["_law_script", "_law_k"] (spTape K))
    (DQ : Df K mg "_law_some_program" sSome ["_law_tape_here", "_law_k", "_law_caps"] fQ fdQ) (GQ : FnOk P w K mg base CX0 k fQ fdQ ["_law_tape_here", "_law_k", "_law_caps"] (spSome K))
    (DA : Df K mg "facts_at" sFactsAt ["program", "block"] fA fdA) (GA : FnOk P w K mg base CX0 k fA fdA ["program", "block"] (spFactsAt K))
    (DF : Df K mg "_law_facts" sFacts ["_law_program_here", "_law_block"] fF fdF) (GF : FnOk P w K mg base CX0 k fF fdF ["_law_program_here", "_law_block"] (spFacts K))
    (DS : Df K mg "_law_same" sSame ["_law_found", "_law_due"] fS fdS) (GS : FnOk P w K mg base CX0 k fS fdS ["_law_found", "_law_due"] (spSm (RLs K)))
    (DR : Df K mg "_law_true_on_run" sTrue ["_law_program_here", "_law_facts_here", "_law_takes_here"] fR fdR) (GR : FnOk P w K mg base CX0 k fR fdR ["_law_program_here", "_law_facts_here", "_law_takes_here"] (spTrue K))
    (DT : Df K mg "_law_takes" sTakes ["_law_tape_here"] fT fdT) (GT : FnOk P w K mg base CX0 k fT fdT ["_law_tape_here"] spTakes) : FnG P w K mg base f fd ["_law_script"] (spLaw K) := by
  refine fnG_of F scLaw hc (fun vs H Q E h => ?_) (fun cdv outer s H vs Q E hr h => ?_)
  · obtain ⟨a, ns, rfl, _⟩ := h
    rfl
  · obtain ⟨a, ns, rfl, hS, hlen, q⟩ := h
    refine ⟨_, (pss_cons (ps_for PassesOwn.never rfl (pi_range1 (by rfl) B.range (pa_cons (pe_op op_add pe_int (pe_callB (call_min2 rfl) (by rfl) B.min PyProof.Rows.boot_min (pa_cons pe_int (pa_cons (pe_callB call_len_seq (by rfl) B.len PySem.boot_len (pa_cons (pv 0) pa_nil)) pa_nil)))) pa_nil)) (pg_name (i := 1) scLaw.nd rfl (.inl rfl)) (pss_cons (ps_set (i := 2) scLaw.nd rfl (.inl rfl) (pe_call GE hr (by rfl) DE.g DE.F.kp DE.b .nil pass0 (pa_cons (pv 0) (pa_cons (pv 1) pa_nil))))
      (pss_cons (ps_set (i := 3) scLaw.nd rfl (.inl rfl) (pe_call GQ hr (by rfl) DQ.g DQ.F.kp DQ.b .nil pass0 (pa_cons (pv 2) (pa_cons (pv 1) (pa_cons (pe_tup (pa_cons pe_int (pa_cons pe_int pa_nil))) pa_nil)))))
      (pss_cons (ps_par (i := 4) (j := 5) (by rfl) scLaw.nd rfl rfl (by decide) rfl rfl (pa_cons (pe_callTy (cr_strD rfl hr.units) (by rfl) B.str PyProof.Rows.boot_str (pa_cons (pv 3) pa_nil)) (pa_cons (pe_lst pa_nil) pa_nil)) (by rfl))
      (pss_cons (ps_for PassesOwn.never rfl (pi_range1 (by rfl) B.range (pa_cons (pe_callB call_len_seq (by rfl) B.len PySem.boot_len (pa_cons (pv 3) pa_nil)) pa_nil)) (pg_name (i := 6) scLaw.nd rfl (.inl rfl)) (pss_cons (ps_set (i := 7) scLaw.nd rfl (.inl rfl) (pe_call GF hr (by rfl) DF.g DF.F.kp DF.b .nil pass0 (pa_cons (pv 3) (pa_cons (pv 6) pa_nil))))
      (pss_cons (ps_for PassesOwn.never rfl (pi_range1 (by rfl) B.range (pa_cons pe_int pa_nil)) (pg_name (i := 8) scLaw.nd rfl (.inl rfl)) (pss_cons (ps_set (i := 9) scLaw.nd rfl (.inl rfl) (pe_call GA hr (by rfl) DA.g DA.F.kp DA.b .nil pass0 (pa_cons (pv 3) (pa_cons (pv 6) pa_nil))))
      (pss_cons (ps_if (pt_not (pt_val (pe_call GS hr (by rfl) DS.g DS.F.kp DS.b .nil pass0 (pa_cons (pv 9) (pa_cons (pv 7) pa_nil))))) (pss_one (ps_ret pe_bl)) pss_nil)
      (pss_cons (ps_expr (pe_bm PySem.F.plainAttrs_list PySem.F.slot_list_append PySem.F.type_list_append mt_append (pv 9) (pa_cons (pe_tup (pa_cons pe_str (pa_cons pe_int pa_nil))) pa_nil)))
      (pss_one (ps_expr (pe_bm0 PySem.F.plainAttrs_list PySem.F.slot_list_reverse PySem.F.type_list_reverse mt_reverse (pv 9))))))))
      (pss_one (ps_expr (pe_bm PySem.F.plainAttrs_list PySem.F.slot_list_append PySem.F.type_list_append mt_append (pv 5) (pa_cons (pv 7) pa_nil)))))))
      (pss_cons (ps_if (pt_cmpR op_ne (pe_callTy (cr_strD rfl hr.units) (by rfl) B.str PyProof.Rows.boot_str (pa_cons (pv 3) pa_nil)) (pv 4) (nomark _)) (pss_one (ps_ret pe_bl)) pss_nil)
      (pss_one (ps_for PassesOwn.never rfl (pi_range1 (by rfl) B.range (pa_cons pe_int pa_nil)) (pg_name (i := 8) scLaw.nd rfl (.inl rfl)) (pss_one (ps_if (pt_not (pt_val (pe_call GR hr (by rfl) DR.g DR.F.kp DR.b .nil pass0 (pa_cons (pv 3) (pa_cons (pv 5) (pa_cons (pe_call GT hr (by rfl) DT.g DT.F.kp DT.b .nil pass0 (pa_cons (pv 2) pa_nil)) pa_nil)))))) (pss_one (ps_ret pe_bl)) pss_nil))))))))))
      (pss_one (ps_ret pe_bl))), ?_⟩
    have hml := mm7 (ns.map V.int).length
    refine ⟨.ref a, rfl, a, _, rfl, .inl hS, _, _, rfl, _, _, rfl, rfl, _, rfl, by omega, by omega, ?_⟩
    generalize (1 + (if ((ns.map V.int).length : Int) < 6 then ((ns.map V.int).length : Int) else 6)) = vv at hml
    refine for_range (lo := 0) (n := vv.toNat) (fun k σ H1 => ∃ (y1 y2 y3 y4 y5 y6 y7 y8 y9 : Option V), σ = [some (.ref a), y1, y2, y3, y4, y5, y6, y7, y8, y9] ∧ Same H H1) ⟨_, _, _, _, _, _, _, _, _, rfl, Same.refl H⟩ (fun k σ H1 hk hP => ?_) (fun σ H1 hP => ?_)
    · obtain ⟨y1, y2, y3, y4, y5, y6, y7, y8, y9, rfl, s1⟩ := hP
      have hi0 : V.int (0 + (k : Int)) = iv k := by rw [Int.zero_add]; rfl
      rw [hi0]
      refine ⟨.ref a, rfl, iv k, rfl, a, ns, k, rfl, s1.seq hS, by omega, fun t o nt hT => ?_⟩
      have s2 := s1.trans (new_same (o := o) nt)
      have ht0 : H t = none := s1.free nt
      generalize upd H1 t o = H2 at hT s2
      refine ⟨.ref t, rfl, iv k, rfl, szl (show 2 ≤ 1000000 by decide), fun ca nca => ?_⟩
      have s3 := new_same (o := .tup [.int 24, .int 8]) nca
      have s23 := s2.trans s3
      refine ⟨t, k, 0, ca, rfl, hT.same s3, sqT upd_same, by decide, fun H4 v pr m b4 T4 hm1 hm2 hPf hO hX hPX hst => ?_⟩
      obtain ⟨st, hst⟩ := hst
      have F0t : frz [t] H4 t = none := by unfold frz; rw [if_pos (by simp)]
      have sF : Same (frz [t] H4) H4 := frz_same _ _
      generalize frz [t] H4 = F0 at hPf F0t sF
      have hprl : pr.length = m := hO.len
      have hbl : ∀ b ∈ pr, b.1.length ≤ 130 := fun b hb => (hO.rows b hb).1
      have hen : ∀ b ∈ pr, EnOk pr.length (rowsL pr).length b.2 := fun b hb => by rw [hprl]; exact (hPX.rb b hb).2
      have hnx : NxOk pr.length (nmL pr) := by rw [hprl]; exact hX
      have sH4 : Same H H4 := Same.bt s23 ht0 b4
      have npk := prog_nice hm2 hO
      have hP0 := hPf
      obtain ⟨pp, bs, rfl, hpp, hbs⟩ := hP0
      have hbsl : bs.length = pr.length := pd_len hbs
      refine ⟨.ref pp, rfl, pp, pdata pr, rfl, (hPf.same sF).dp, npk.sho, npk.noDict, npk.dep, npk.shown (by decide), Nat.zero_le _, fun fx nfx => ⟨_, _, rfl, ?_⟩⟩
      have s5 := new_same (o := .lst []) nfx
      have efx : upd H4 fx (.lst []) fx = some (.lst []) := upd_same
      have nft : fx ≠ t := T4.ne nfx
      have nfH : H fx = none := sH4.free nfx
      have nfF : F0 fx = none := sF.free nfx
      have sH5 := sH4.trans s5
      have sF5 := sF.trans s5
      have T5 := T4.same s5
      generalize upd H4 fx (.lst []) = H5 at s5 efx sH5 sF5 T5
      refine ⟨.ref pp, rfl, pp, bs, rfl, .inl (sF5.seq hpp), (pr.length : Int), by rw [hbsl], by omega, by omega, ?_⟩
      refine for_range (lo := 0) (n := pr.length) (fun i σ Hx => ∃ (y6 y7 y8 y9 : Option V) (gs : List V), σ = [some (.ref a), some (iv k), some (.ref t), some (.ref pp), some (.str (pdata pr).shown), some (.ref fx), y6, y7, y8, y9] ∧ Same H Hx ∧ Same F0 Hx ∧ Tape Hx t 1000000 ∧ Hx fx = some (.lst gs) ∧ Paired (Fc2 K Hx t fx pr) gs (List.range i))
        ⟨_, _, _, _, [], rfl, sH5, sF5, T5, efx, .nil⟩ (fun i σ Hx hi hP => ?_) (fun σ Hx hP => ?_)
      · obtain ⟨y6, y7, y8, y9, gs, rfl, sx, sFx, Tx, ex, hgs⟩ := hP
        have hi1 : V.int (0 + (i : Int)) = iv i := by rw [Int.zero_add]; rfl
        rw [hi1]
        refine ⟨.ref pp, rfl, iv i, rfl, .ref pp, pr, i, rfl, hPf.same sFx, by omega, by omega, hbl, hen, hnx, hi, fun du Hd fs ndu sd edu hfs => ?_⟩
        have sHd := sx.trans sd
        have sFd := sFx.trans sd
        have Td := Tx.same sd
        have nduf : du ≠ fx := (ne_of_none ex ndu).symm
        have ndut : du ≠ t := Tx.ne ndu
        have exd := sd _ _ ex
        have hfl : fs.length ≤ 100 := by rw [pd_len hfs]; exact facts_len2 (by omega) i
        refine ⟨2, rfl, by decide, by decide, ?_⟩
        refine for_range (lo := 0) (n := (2 : Int).toNat) (fun j σ Hy => ∃ (y8 y9 : Option V), σ = [some (.ref a), some (iv k), some (.ref t), some (.ref pp), some (.str (pdata pr).shown), some (.ref fx), some (iv i), some (.ref du), y8, y9] ∧ Same Hd Hy) ⟨_, _, rfl, Same.refl _⟩ (fun j σ Hy hj hP => ?_) (fun σ Hy hP => ?_)
        · obtain ⟨y8, y9, rfl, sy⟩ := hP
          refine ⟨.ref pp, rfl, iv i, rfl, .ref pp, pr, i, rfl, hPf.same (sFd.trans sy), by omega, by omega, hbl, hen, hnx, hi, fun fo Hf gf nfo sf efo hgf => ?_⟩
          have syf := sy.trans sf
          have nfoD : Hd fo = none := sy.free nfo
          have hgl : gf.length ≤ 100 := by rw [pd_len hgf]; exact facts_len2 (by omega) i
          refine ⟨.ref fo, rfl, .ref du, rfl, .ref fo, .ref du, rfl, ⟨fo, du, gf, fs, rfl, rfl, efo, syf _ _ edu, RLs.of (p := fo) (q := du) hgf (pd_mono hfs fun _ _ z => z.same syf), by omega⟩, fun Hg sg => ⟨_, rfl, ?_⟩⟩
          refine ifN (by intro h; cases h) ?_
          have efg := sg _ _ efo
          refine ⟨.ref fo, rfl, .inl ⟨rfl, _, sqL efg⟩, szl (show 2 ≤ 1000000 by decide), fun tp ntp => ?_⟩
          have stp := new_same (o := .tup [.str "none", .int 0]) ntp
          have efp := stp _ _ efg
          refine ⟨fo, _, _, rfl, rfl, efp, szt (by omega), ?_⟩
          have s7 : Same Hd (upd (upd Hg tp (.tup [.str "none", .int 0])) fo (.lst (gf ++ [.ref tp]))) := Same.upd ((syf.trans sg).trans stp) nfoD
          have e7 : upd (upd Hg tp (.tup [.str "none", .int 0])) fo (.lst (gf ++ [.ref tp])) fo = some (.lst (gf ++ [.ref tp])) := upd_same
          generalize upd (upd Hg tp (.tup [.str "none", .int 0])) fo (.lst (gf ++ [.ref tp])) = Hh at s7 e7
          exact ⟨.ref fo, rfl, .inl ⟨rfl, _, sqL e7⟩, fo, _, rfl, rfl, e7, _, _, rfl, Same.upd s7 nfoD⟩
        · obtain ⟨y8, y9, rfl, sy⟩ := hP
          have exy := sy _ _ exd
          have hgl : gs.length = i := by rw [pd_len hgs, List.length_range]
          refine ⟨.ref fx, rfl, .inl ⟨rfl, _, sqL exy⟩, .ref du, rfl, fx, _, _, rfl, rfl, exy, szt (by omega), ?_⟩
          refine ⟨_, _, _, _, gs ++ [.ref du], rfl, Same.upd (sHd.trans sy) nfH, Same.upd (sFd.trans sy) nfF, ?_, upd_same, ?_⟩
          · obtain ⟨a1, a2, a3, a4, a5⟩ := Td.same sy
            exact ⟨a1, a2, a3, by rw [upd_ne nft.symm]; exact a4, a5⟩
          · rw [List.range_succ]
            refine pd_app (pd_mono hgs fun _ _ z => ((z.same sd).same sy).updF exy) (.cons (Fc2.updF ⟨du, fs, rfl, nduf, ndut, sy _ _ edu, pd_mono hfs fun _ _ z => z.same sy⟩ exy) .nil)
      · obtain ⟨y6, y7, y8, y9, gs, rfl, sx, sFx, Tx, ex, hgs⟩ := hP
        refine ⟨.ref pp, rfl, pp, pdata pr, rfl, (hPf.same sFx).dp, npk.sho, npk.noDict, npk.dep, npk.shown (by decide), _, rfl, rfl, _, rfl, ?_⟩
        refine ifN (by rw [decide_eq_true rfl]; intro h; cases h) ?_
        refine ⟨3, rfl, by decide, by decide, ?_⟩
        refine for_range (lo := 0) (n := (3 : Int).toNat) (fun j σ Hy => ∃ (y6 y7 y8 y9 : Option V), σ = [some (.ref a), some (iv k), some (.ref t), some (.ref pp), some (.str (pdata pr).shown), some (.ref fx), y6, y7, y8, y9] ∧ Same H Hy ∧ Same F0 Hy ∧ Tape Hy t (1000000 + 18 * j) ∧ Hy fx = some (.lst gs) ∧ Paired (Fc2 K Hy t fx pr) gs (List.range pr.length))
          ⟨_, _, _, _, rfl, sx, sFx, Tx, ex, hgs⟩ (fun j σ Hy hj hP => ?_) (fun σ Hy hP => ?_)
        · obtain ⟨y6, y7, y8, y9, rfl, sy, sFy, Ty, ey, hgy⟩ := hP
          have hj3 : j < 3 := hj
          refine ⟨.ref pp, rfl, .ref fx, rfl, .ref t, rfl, t, 1000000 + 18 * j, rfl, Ty, by omega, fun p tk H6 b6 T6 np npt ep htl htb => ?_⟩
          have hpure : PureOk pr tk := ⟨htl, fun x hx => in_gt (htb x hx), by omega, by omega, by rw [hprl]; exact hPX, by rw [hprl]; exact hX, hbl⟩
          obtain ⟨a1, a2, a3, a4, _⟩ := Ty
          have sF6 := Same.bt sFy F0t b6
          have sH6 := Same.bt sy ht0 b6
          have e6 := b6 _ _ nft ey
          have hg6 := pd_mono hgy fun _ _ z => Fc2.out z a4 b6
          have hg7 := pd_mono hgy fun _ _ z => Fc2.but z a4 b6
          refine ⟨.ref pp, fx, p, gs, pr, tk, st, rfl, hPf.same sF6, sqL ep, ⟨hst, hpure, hen⟩, sqL e6, hg6, fun H7 s7 => ⟨_, rfl, ?_⟩⟩
          refine ifN (by intro h; cases h) ?_
          exact ⟨_, _, _, _, rfl, sH6.trans s7, sF6.trans s7, by rw [show 1000000 + 18 * (j + 1) = 1000000 + 18 * j + 18 by omega]; exact T6.same s7, s7 _ _ e6, pd_mono hg7 fun _ _ z => z.same s7⟩
        · obtain ⟨y6, y7, y8, y9, rfl, sy, _⟩ := hP
          exact ⟨_, _, _, _, _, _, _, _, _, rfl, sy⟩
    · obtain ⟨y1, y2, y3, y4, y5, y6, y7, y8, y9, rfl, s1⟩ := hP
      exact q H1
end
end Gn
set_option Elab.async false
set_option linter.all false
set_option maxRecDepth 100000
namespace Gn
open PySem PySem.Spec PyProof.Rows L2
set_option maxHeartbeats 4000000
theorem all_mk {l : PySem.W.OpenLaw} {w : World} {K : PySem.W.Frag} {h : Heap} {mg : Str → Option Value} {fa fN fO fE fD fX fL fR fV fS fP fU fG fW fF1 fA fM fT fF2 fF3 fQ fF4 fC1 fC4 fC5 fC6 fC7 fC8 fC9 fB1 fB2 fB3 fB4 fH1 fH2 fH3 fH4 fH5 fH6 fH7 fJ1 fJ2 fJ3 fJ4 fJ5 fJ6 fZ fm1 fm2 fm3 fm4 fm5 fm6 fm7 dE g1 g2 g3 CW dO : Addr} (X : K.In h) (G : h.Ns mainGlobals mg) (hfa : mg "law" = some (.ref fa))
    {odN anN odO anO odE anE odD anD odX anX odL anL odR anR odV anV odS anS odP anP odU anU odG anG odW anW odF1 anF1 odA anA odM anM odT anT odF2 anF2 odF3 anF3 odQ anQ odF4 anF4 odC1 anC1 odC4 anC4 odC5 anC5 odC6 anC6 odC7 anC7 odC8 anC8 odC9 anC9 odB1 anB1 odB2 anB2 odB3 anB3 odB4 anB4 odH1 anH1 odH2 anH2 odH3 anH3 odH4 anH4 odH5 anH5 odH6 anH6 odH7 anH7 odJ1 anJ1 odJ2 anJ2 odJ3 anJ3 odJ4 anJ4 odJ5 anJ5 odJ6 anJ6 odZ anZ odw1 anw1 odw2 anw2 odw3 anw3 odw4 anw4 odw5 anw5 odw6 anw6 odw7 anw7 h1 h2 h3 : Option Addr} {slN slO slE slD slX slL slR slV slS slP slU slG slW slF1 slA slM slT slF2 slF3 slQ slF4 slC1 slC4 slC5 slC6 slC7 slC8 slC9 slB1 slB2 slB3 slB4 slH1 slH2 slH3 slH4 slH5 slH6 slH7 slJ1 slJ2 slJ3 slJ4 slJ5 slJ6 slZ slw1 slw2 slw3 slw4 slw5 slw6 slw7 q1 q2 q3 : Array (Option Value)} {ocN kVN dcN pmN cdN ctN ocO kVO dcO pmO cdO ctO ocE kVE dcE pmE cdE ctE ocD kVD dcD pmD cdD ctD ocX kVX dcX pmX cdX ctX ocL kVL dcL pmL cdL ctL ocR kVR dcR pmR cdR ctR ocV kVV dcV pmV cdV ctV ocS kVS dcS pmS cdS ctS ocP kVP dcP pmP cdP ctP ocU kVU dcU pmU cdU ctU ocG kVG dcG pmG cdG ctG ocW kVW dcW pmW cdW ctW ocF1 kVF1 dcF1 pmF1 cdF1 ctF1 ocA kVA dcA pmA cdA ctA ocM kVM dcM pmM cdM ctM ocT kVT dcT pmT cdT ctT ocF2 kVF2 dcF2 pmF2 cdF2 ctF2 ocF3 kVF3 dcF3 pmF3 cdF3 ctF3 ocQ kVQ dcQ pmQ cdQ ctQ ocF4 kVF4 dcF4 pmF4 cdF4 ctF4 ocC1 kVC1 dcC1 pmC1 cdC1 ctC1 ocC4 kVC4 dcC4 pmC4 cdC4 ctC4 ocC5 kVC5 dcC5 pmC5 cdC5 ctC5 ocC6 kVC6 dcC6 pmC6 cdC6 ctC6 ocC7 kVC7 dcC7 pmC7 cdC7 ctC7 ocC8 kVC8 dcC8 pmC8 cdC8 ctC8 ocC9 kVC9 dcC9 pmC9 cdC9 ctC9 ocB1 kVB1 dcB1 pmB1 cdB1 ctB1 ocB2 kVB2 dcB2 pmB2 cdB2 ctB2 ocB3 kVB3 dcB3 pmB3 cdB3 ctB3 ocB4 kVB4 dcB4 pmB4 cdB4 ctB4 ocH1 kVH1 dcH1 pmH1 cdH1 ctH1 ocH2 kVH2 dcH2 pmH2 cdH2 ctH2 ocH3 kVH3 dcH3 pmH3 cdH3 ctH3 ocH4 kVH4 dcH4 pmH4 cdH4 ctH4 ocH5 kVH5 dcH5 pmH5 cdH5 ctH5 ocH6 kVH6 dcH6 pmH6 cdH6 ctH6 ocH7 kVH7 dcH7 pmH7 cdH7 ctH7 ocJ1 kVJ1 dcJ1 pmJ1 cdJ1 ctJ1 ocJ2 kVJ2 dcJ2 pmJ2 cdJ2 ctJ2 ocJ3 kVJ3 dcJ3 pmJ3 cdJ3 ctJ3 ocJ4 kVJ4 dcJ4 pmJ4 cdJ4 ctJ4 ocJ5 kVJ5 dcJ5 pmJ5 cdJ5 ctJ5 ocJ6 kVJ6 dcJ6 pmJ6 cdJ6 ctJ6 ocZ kVZ dcZ pmZ cdZ ctZ ocw1 kVw1 dcw1 pmw1 cdw1 ctw1 ocw2 kVw2 dcw2 pmw2 cdw2 ctw2 ocw3 kVw3 dcw3 pmw3 cdw3 ctw3 ocw4 kVw4 dcw4 pmw4 cdw4 ctw4 ocw5 kVw5 dcw5 pmw5 cdw5 ctw5 ocw6 kVw6 dcw6 pmw6 cdw6 ctw6 ocw7 kVw7 dcw7 pmw7 cdw7 ctw7 : Value} {es es2 : Array DictEntry} {nE nE2 j1 j2 j3 : Nat} {i1 i2 i3 : Array Value} {tg t6 : Tok}
    (aN : PySem.W.nsIn K mainGlobals "blocks_named" = some (some (.ref fN))) (lN : K.lookup fN = some ⟨ocN, odN, .func (PySem.W.fnOf "blocks_named" "blocks_named" (defArgs sNamed) (defBody sNamed) (defScope sNamed) .none kVN dcN pmN anN cdN ctN), slN⟩) (cN : PySem.W.codeIn K cdN "blocks_named" = true) (kN : PySem.W.keepIn K (.ref fN) = true)
    (aO : PySem.W.nsIn K mainGlobals "leads_of" = some (some (.ref fO))) (lO : K.lookup fO = some ⟨ocO, odO, .func (PySem.W.fnOf "leads_of" "leads_of" (defArgs sLeadsOf) (defBody sLeadsOf) (defScope sLeadsOf) .none kVO dcO pmO anO cdO ctO), slO⟩) (cO : PySem.W.codeIn K cdO "leads_of" = true) (kO : PySem.W.keepIn K (.ref fO) = true)
    (aE : PySem.W.nsIn K mainGlobals "_law_tape" = some (some (.ref fE))) (lE : K.lookup fE = some ⟨ocE, odE, .func (PySem.W.fnOf "_law_tape" "_law_tape" (defArgs sTape) (defBody sTape) (defScope sTape) .none kVE dcE pmE anE cdE ctE), slE⟩) (cE : PySem.W.codeIn K cdE "_law_tape" = true) (kE : PySem.W.keepIn K (.ref fE) = true)
    (aD : PySem.W.nsIn K mainGlobals "_law_draw" = some (some (.ref fD))) (lD : K.lookup fD = some ⟨ocD, odD, .func (PySem.W.fnOf "_law_draw" "_law_draw" (defArgs sDraw) (defBody sDraw) (defScope sDraw) .none kVD dcD pmD anD cdD ctD), slD⟩) (cD : PySem.W.codeIn K cdD "_law_draw" = true) (kD : PySem.W.keepIn K (.ref fD) = true)
    (aX : PySem.W.nsIn K mainGlobals "_law_nexts" = some (some (.ref fX))) (lX : K.lookup fX = some ⟨ocX, odX, .func (PySem.W.fnOf "_law_nexts" "_law_nexts" (defArgs sNexts) (defBody sNexts) (defScope sNexts) .none kVX dcX pmX anX cdX ctX), slX⟩) (cX : PySem.W.codeIn K cdX "_law_nexts" = true) (kX : PySem.W.keepIn K (.ref fX) = true)
    (aL : PySem.W.nsIn K mainGlobals "_law_leads" = some (some (.ref fL))) (lL : K.lookup fL = some ⟨ocL, odL, .func (PySem.W.fnOf "_law_leads" "_law_leads" (defArgs sLeads) (defBody sLeads) (defScope sLeads) .none kVL dcL pmL anL cdL ctL), slL⟩) (cL : PySem.W.codeIn K cdL "_law_leads" = true) (kL : PySem.W.keepIn K (.ref fL) = true)
    (aR : PySem.W.nsIn K mainGlobals "_law_reached" = some (some (.ref fR))) (lR : K.lookup fR = some ⟨ocR, odR, .func (PySem.W.fnOf "_law_reached" "_law_reached" (defArgs sReached) (defBody sReached) (defScope sReached) .none kVR dcR pmR anR cdR ctR), slR⟩) (cR : PySem.W.codeIn K cdR "_law_reached" = true) (kR : PySem.W.keepIn K (.ref fR) = true)
    (aV : PySem.W.nsIn K mainGlobals "_law_above" = some (some (.ref fV))) (lV : K.lookup fV = some ⟨ocV, odV, .func (PySem.W.fnOf "_law_above" "_law_above" (defArgs sAbove) (defBody sAbove) (defScope sAbove) .none kVV dcV pmV anV cdV ctV), slV⟩) (cV : PySem.W.codeIn K cdV "_law_above" = true) (kV : PySem.W.keepIn K (.ref fV) = true)
    (aS : PySem.W.nsIn K mainGlobals "_law_standing" = some (some (.ref fS))) (lS : K.lookup fS = some ⟨ocS, odS, .func (PySem.W.fnOf "_law_standing" "_law_standing" (defArgs sStanding) (defBody sStanding) (defScope sStanding) .none kVS dcS pmS anS cdS ctS), slS⟩) (cS : PySem.W.codeIn K cdS "_law_standing" = true) (kS : PySem.W.keepIn K (.ref fS) = true)
    (aP : PySem.W.nsIn K mainGlobals "_law_put" = some (some (.ref fP))) (lP : K.lookup fP = some ⟨ocP, odP, .func (PySem.W.fnOf "_law_put" "_law_put" (defArgs sPut) (defBody sPut) (defScope sPut) .none kVP dcP pmP anP cdP ctP), slP⟩) (cP : PySem.W.codeIn K cdP "_law_put" = true) (kP : PySem.W.keepIn K (.ref fP) = true)
    (aU : PySem.W.nsIn K mainGlobals "_law_number" = some (some (.ref fU))) (lU : K.lookup fU = some ⟨ocU, odU, .func (PySem.W.fnOf "_law_number" "_law_number" (defArgs sNumber) (defBody sNumber) (defScope sNumber) .none kVU dcU pmU anU cdU ctU), slU⟩) (cU : PySem.W.codeIn K cdU "_law_number" = true) (kU : PySem.W.keepIn K (.ref fU) = true)
    (aG : PySem.W.nsIn K mainGlobals "_law_again" = some (some (.ref fG))) (lG : K.lookup fG = some ⟨ocG, odG, .func (PySem.W.fnOf "_law_again" "_law_again" (defArgs sAgain) (defBody sAgain) (defScope sAgain) .none kVG dcG pmG anG cdG ctG), slG⟩) (cG : PySem.W.codeIn K cdG "_law_again" = true) (kG : PySem.W.keepIn K (.ref fG) = true)
    (aW : PySem.W.nsIn K mainGlobals "_law_drawn_row" = some (some (.ref fW))) (lW : K.lookup fW = some ⟨ocW, odW, .func (PySem.W.fnOf "_law_drawn_row" "_law_drawn_row" (defArgs sDrawn) (defBody sDrawn) (defScope sDrawn) .none kVW dcW pmW anW cdW ctW), slW⟩) (cW : PySem.W.codeIn K cdW "_law_drawn_row" = true) (kW : PySem.W.keepIn K (.ref fW) = true)
    (aF1 : PySem.W.nsIn K mainGlobals "_law_fits" = some (some (.ref fF1))) (lF1 : K.lookup fF1 = some ⟨ocF1, odF1, .func (PySem.W.fnOf "_law_fits" "_law_fits" (defArgs sFits) (defBody sFits) (defScope sFits) .none kVF1 dcF1 pmF1 anF1 cdF1 ctF1), slF1⟩) (cF1 : PySem.W.codeIn K cdF1 "_law_fits" = true) (kF1 : PySem.W.keepIn K (.ref fF1) = true)
    (aA : PySem.W.nsIn K mainGlobals "_law_add" = some (some (.ref fA))) (lA : K.lookup fA = some ⟨ocA, odA, .func (PySem.W.fnOf "_law_add" "_law_add" (defArgs sAdd) (defBody sAdd) (defScope sAdd) .none kVA dcA pmA anA cdA ctA), slA⟩) (cA : PySem.W.codeIn K cdA "_law_add" = true) (kA : PySem.W.keepIn K (.ref fA) = true)
    (aM : PySem.W.nsIn K mainGlobals "_law_meet" = some (some (.ref fM))) (lM : K.lookup fM = some ⟨ocM, odM, .func (PySem.W.fnOf "_law_meet" "_law_meet" (defArgs sMeet) (defBody sMeet) (defScope sMeet) .none kVM dcM pmM anM cdM ctM), slM⟩) (cM : PySem.W.codeIn K cdM "_law_meet" = true) (kM : PySem.W.keepIn K (.ref fM) = true)
    (aT : PySem.W.nsIn K mainGlobals "_law_later" = some (some (.ref fT))) (lT : K.lookup fT = some ⟨ocT, odT, .func (PySem.W.fnOf "_law_later" "_law_later" (defArgs sLater) (defBody sLater) (defScope sLater) .none kVT dcT pmT anT cdT ctT), slT⟩) (cT : PySem.W.codeIn K cdT "_law_later" = true) (kT : PySem.W.keepIn K (.ref fT) = true)
    (aF2 : PySem.W.nsIn K mainGlobals "_law_told_size" = some (some (.ref fF2))) (lF2 : K.lookup fF2 = some ⟨ocF2, odF2, .func (PySem.W.fnOf "_law_told_size" "_law_told_size" (defArgs sToldSize) (defBody sToldSize) (defScope sToldSize) .none kVF2 dcF2 pmF2 anF2 cdF2 ctF2), slF2⟩) (cF2 : PySem.W.codeIn K cdF2 "_law_told_size" = true) (kF2 : PySem.W.keepIn K (.ref fF2) = true)
    (aF3 : PySem.W.nsIn K mainGlobals "_law_chooser" = some (some (.ref fF3))) (lF3 : K.lookup fF3 = some ⟨ocF3, odF3, .func (PySem.W.fnOf "_law_chooser" "_law_chooser" (defArgs sChooser) (defBody sChooser) (defScope sChooser) .none kVF3 dcF3 pmF3 anF3 cdF3 ctF3), slF3⟩) (cF3 : PySem.W.codeIn K cdF3 "_law_chooser" = true) (kF3 : PySem.W.keepIn K (.ref fF3) = true)
    (aQ : PySem.W.nsIn K mainGlobals "_law_program" = some (some (.ref fQ))) (lQ : K.lookup fQ = some ⟨ocQ, odQ, .func (PySem.W.fnOf "_law_program" "_law_program" (defArgs sProgram) (defBody sProgram) (defScope sProgram) .none kVQ dcQ pmQ anQ cdQ ctQ), slQ⟩) (cQ : PySem.W.codeIn K cdQ "_law_program" = true) (kQ : PySem.W.keepIn K (.ref fQ) = true)
    (aF4 : PySem.W.nsIn K mainGlobals "_law_some_program" = some (some (.ref fF4))) (lF4 : K.lookup fF4 = some ⟨ocF4, odF4, .func (PySem.W.fnOf "_law_some_program" "_law_some_program" (defArgs sSome) (defBody sSome) (defScope sSome) .none kVF4 dcF4 pmF4 anF4 cdF4 ctF4), slF4⟩) (cF4 : PySem.W.codeIn K cdF4 "_law_some_program" = true) (kF4 : PySem.W.keepIn K (.ref fF4) = true)
    (aC1 : PySem.W.nsIn K mainGlobals "_law_takes" = some (some (.ref fC1))) (lC1 : K.lookup fC1 = some ⟨ocC1, odC1, .func (PySem.W.fnOf "_law_takes" "_law_takes" (defArgs sTakes) (defBody sTakes) (defScope sTakes) .none kVC1 dcC1 pmC1 anC1 cdC1 ctC1), slC1⟩) (cC1 : PySem.W.codeIn K cdC1 "_law_takes" = true) (kC1 : PySem.W.keepIn K (.ref fC1) = true)
    (aC4 : PySem.W.nsIn K mainGlobals "is_meet" = some (some (.ref fC4))) (lC4 : K.lookup fC4 = some ⟨ocC4, odC4, .func (PySem.W.fnOf "is_meet" "is_meet" (defArgs sIsMeet) (defBody sIsMeet) (defScope sIsMeet) .none kVC4 dcC4 pmC4 anC4 cdC4 ctC4), slC4⟩) (cC4 : PySem.W.codeIn K cdC4 "is_meet" = true) (kC4 : PySem.W.keepIn K (.ref fC4) = true)
    (aC5 : PySem.W.nsIn K mainGlobals "summed" = some (some (.ref fC5))) (lC5 : K.lookup fC5 = some ⟨ocC5, odC5, .func (PySem.W.fnOf "summed" "summed" (defArgs sSummed) (defBody sSummed) (defScope sSummed) .none kVC5 dcC5 pmC5 anC5 cdC5 ctC5), slC5⟩) (cC5 : PySem.W.codeIn K cdC5 "summed" = true) (kC5 : PySem.W.keepIn K (.ref fC5) = true)
    (aC6 : PySem.W.nsIn K mainGlobals "lessened" = some (some (.ref fC6))) (lC6 : K.lookup fC6 = some ⟨ocC6, odC6, .func (PySem.W.fnOf "lessened" "lessened" (defArgs sLessened) (defBody sLessened) (defScope sLessened) .none kVC6 dcC6 pmC6 anC6 cdC6 ctC6), slC6⟩) (cC6 : PySem.W.codeIn K cdC6 "lessened" = true) (kC6 : PySem.W.keepIn K (.ref fC6) = true)
    (aC7 : PySem.W.nsIn K mainGlobals "product" = some (some (.ref fC7))) (lC7 : K.lookup fC7 = some ⟨ocC7, odC7, .func (PySem.W.fnOf "product" "product" (defArgs sProduct) (defBody sProduct) (defScope sProduct) .none kVC7 dcC7 pmC7 anC7 cdC7 ctC7), slC7⟩) (cC7 : PySem.W.codeIn K cdC7 "product" = true) (kC7 : PySem.W.keepIn K (.ref fC7) = true)
    (aC8 : PySem.W.nsIn K mainGlobals "tested_same" = some (some (.ref fC8))) (lC8 : K.lookup fC8 = some ⟨ocC8, odC8, .func (PySem.W.fnOf "tested_same" "tested_same" (defArgs sTSame) (defBody sTSame) (defScope sTSame) .none kVC8 dcC8 pmC8 anC8 cdC8 ctC8), slC8⟩) (cC8 : PySem.W.codeIn K cdC8 "tested_same" = true) (kC8 : PySem.W.keepIn K (.ref fC8) = true)
    (aC9 : PySem.W.nsIn K mainGlobals "tested_below" = some (some (.ref fC9))) (lC9 : K.lookup fC9 = some ⟨ocC9, odC9, .func (PySem.W.fnOf "tested_below" "tested_below" (defArgs sTBelow) (defBody sTBelow) (defScope sTBelow) .none kVC9 dcC9 pmC9 anC9 cdC9 ctC9), slC9⟩) (cC9 : PySem.W.codeIn K cdC9 "tested_below" = true) (kC9 : PySem.W.keepIn K (.ref fC9) = true)
    (aB1 : PySem.W.nsIn K mainGlobals "picked" = some (some (.ref fB1))) (lB1 : K.lookup fB1 = some ⟨ocB1, odB1, .func (PySem.W.fnOf "picked" "picked" (defArgs sPicked) (defBody sPicked) (defScope sPicked) .none kVB1 dcB1 pmB1 anB1 cdB1 ctB1), slB1⟩) (cB1 : PySem.W.codeIn K cdB1 "picked" = true) (kB1 : PySem.W.keepIn K (.ref fB1) = true)
    (aB2 : PySem.W.nsIn K mainGlobals "is_too_great" = some (some (.ref fB2))) (lB2 : K.lookup fB2 = some ⟨ocB2, odB2, .func (PySem.W.fnOf "is_too_great" "is_too_great" (defArgs sGreat) (defBody sGreat) (defScope sGreat) .none kVB2 dcB2 pmB2 anB2 cdB2 ctB2), slB2⟩) (cB2 : PySem.W.codeIn K cdB2 "is_too_great" = true) (kB2 : PySem.W.keepIn K (.ref fB2) = true)
    (aB3 : PySem.W.nsIn K mainGlobals "run" = some (some (.ref fB3))) (lB3 : K.lookup fB3 = some ⟨ocB3, odB3, .func (PySem.W.fnOf "run" "run" (defArgs sRun) (defBody sRun) (defScope sRun) .none kVB3 dcB3 pmB3 anB3 cdB3 ctB3), slB3⟩) (cB3 : PySem.W.codeIn K cdB3 "run" = true) (kB3 : PySem.W.keepIn K (.ref fB3) = true)
    (aB4 : PySem.W.nsIn K mainGlobals "way_of" = some (some (.ref fB4))) (lB4 : K.lookup fB4 = some ⟨ocB4, odB4, .func (PySem.W.fnOf "way_of" "way_of" (defArgs sWay) (defBody sWay) (defScope sWay) .none kVB4 dcB4 pmB4 anB4 cdB4 ctB4), slB4⟩) (cB4 : PySem.W.codeIn K cdB4 "way_of" = true) (kB4 : PySem.W.keepIn K (.ref fB4) = true)
    (aH1 : PySem.W.nsIn K mainGlobals "nearest_above" = some (some (.ref fH1))) (lH1 : K.lookup fH1 = some ⟨ocH1, odH1, .func (PySem.W.fnOf "nearest_above" "nearest_above" (defArgs sNearest) (defBody sNearest) (defScope sNearest) .none kVH1 dcH1 pmH1 anH1 cdH1 ctH1), slH1⟩) (cH1 : PySem.W.codeIn K cdH1 "nearest_above" = true) (kH1 : PySem.W.keepIn K (.ref fH1) = true)
    (aH2 : PySem.W.nsIn K mainGlobals "brought_nearer" = some (some (.ref fH2))) (lH2 : K.lookup fH2 = some ⟨ocH2, odH2, .func (PySem.W.fnOf "brought_nearer" "brought_nearer" (defArgs sBrNearer) (defBody sBrNearer) (defScope sBrNearer) .none kVH2 dcH2 pmH2 anH2 cdH2 ctH2), slH2⟩) (cH2 : PySem.W.codeIn K cdH2 "brought_nearer" = true) (kH2 : PySem.W.keepIn K (.ref fH2) = true)
    (aH3 : PySem.W.nsIn K mainGlobals "common_above" = some (some (.ref fH3))) (lH3 : K.lookup fH3 = some ⟨ocH3, odH3, .func (PySem.W.fnOf "common_above" "common_above" (defArgs sCommon) (defBody sCommon) (defScope sCommon) .none kVH3 dcH3 pmH3 anH3 cdH3 ctH3), slH3⟩) (cH3 : PySem.W.codeIn K cdH3 "common_above" = true) (kH3 : PySem.W.keepIn K (.ref fH3) = true)
    (aH4 : PySem.W.nsIn K mainGlobals "above" = some (some (.ref fH4))) (lH4 : K.lookup fH4 = some ⟨ocH4, odH4, .func (PySem.W.fnOf "above" "above" (defArgs sAboveP) (defBody sAboveP) (defScope sAboveP) .none kVH4 dcH4 pmH4 anH4 cdH4 ctH4), slH4⟩) (cH4 : PySem.W.codeIn K cdH4 "above" = true) (kH4 : PySem.W.keepIn K (.ref fH4) = true)
    (aH5 : PySem.W.nsIn K mainGlobals "rows_of" = some (some (.ref fH5))) (lH5 : K.lookup fH5 = some ⟨ocH5, odH5, .func (PySem.W.fnOf "rows_of" "rows_of" (defArgs sRowsOf) (defBody sRowsOf) (defScope sRowsOf) .none kVH5 dcH5 pmH5 anH5 cdH5 ctH5), slH5⟩) (cH5 : PySem.W.codeIn K cdH5 "rows_of" = true) (kH5 : PySem.W.keepIn K (.ref fH5) = true)
    (aH6 : PySem.W.nsIn K mainGlobals "facts_behind" = some (some (.ref fH6))) (lH6 : K.lookup fH6 = some ⟨ocH6, odH6, .func (PySem.W.fnOf "facts_behind" "facts_behind" (defArgs sFactsBh) (defBody sFactsBh) (defScope sFactsBh) .none kVH6 dcH6 pmH6 anH6 cdH6 ctH6), slH6⟩) (cH6 : PySem.W.codeIn K cdH6 "facts_behind" = true) (kH6 : PySem.W.keepIn K (.ref fH6) = true)
    (aH7 : PySem.W.nsIn K mainGlobals "facts_at" = some (some (.ref fH7))) (lH7 : K.lookup fH7 = some ⟨ocH7, odH7, .func (PySem.W.fnOf "facts_at" "facts_at" (defArgs sFactsAt) (defBody sFactsAt) (defScope sFactsAt) .none kVH7 dcH7 pmH7 anH7 cdH7 ctH7), slH7⟩) (cH7 : PySem.W.codeIn K cdH7 "facts_at" = true) (kH7 : PySem.W.keepIn K (.ref fH7) = true)
    (aJ1 : PySem.W.nsIn K mainGlobals "_law_next_blocks" = some (some (.ref fJ1))) (lJ1 : K.lookup fJ1 = some ⟨ocJ1, odJ1, .func (PySem.W.fnOf "_law_next_blocks" "_law_next_blocks" (defArgs sNextBl) (defBody sNextBl) (defScope sNextBl) .none kVJ1 dcJ1 pmJ1 anJ1 cdJ1 ctJ1), slJ1⟩) (cJ1 : PySem.W.codeIn K cdJ1 "_law_next_blocks" = true) (kJ1 : PySem.W.keepIn K (.ref fJ1) = true)
    (aJ2 : PySem.W.nsIn K mainGlobals "_law_places" = some (some (.ref fJ2))) (lJ2 : K.lookup fJ2 = some ⟨ocJ2, odJ2, .func (PySem.W.fnOf "_law_places" "_law_places" (defArgs sPlaces) (defBody sPlaces) (defScope sPlaces) .none kVJ2 dcJ2 pmJ2 anJ2 cdJ2 ctJ2), slJ2⟩) (cJ2 : PySem.W.codeIn K cdJ2 "_law_places" = true) (kJ2 : PySem.W.keepIn K (.ref fJ2) = true)
    (aJ3 : PySem.W.nsIn K mainGlobals "_law_facts" = some (some (.ref fJ3))) (lJ3 : K.lookup fJ3 = some ⟨ocJ3, odJ3, .func (PySem.W.fnOf "_law_facts" "_law_facts" (defArgs sFacts) (defBody sFacts) (defScope sFacts) .none kVJ3 dcJ3 pmJ3 anJ3 cdJ3 ctJ3), slJ3⟩) (cJ3 : PySem.W.codeIn K cdJ3 "_law_facts" = true) (kJ3 : PySem.W.keepIn K (.ref fJ3) = true)
    (aJ4 : PySem.W.nsIn K mainGlobals "_law_same" = some (some (.ref fJ4))) (lJ4 : K.lookup fJ4 = some ⟨ocJ4, odJ4, .func (PySem.W.fnOf "_law_same" "_law_same" (defArgs sSame) (defBody sSame) (defScope sSame) .none kVJ4 dcJ4 pmJ4 anJ4 cdJ4 ctJ4), slJ4⟩) (cJ4 : PySem.W.codeIn K cdJ4 "_law_same" = true) (kJ4 : PySem.W.keepIn K (.ref fJ4) = true)
    (aJ5 : PySem.W.nsIn K mainGlobals "_law_holds" = some (some (.ref fJ5))) (lJ5 : K.lookup fJ5 = some ⟨ocJ5, odJ5, .func (PySem.W.fnOf "_law_holds" "_law_holds" (defArgs sHolds) (defBody sHolds) (defScope sHolds) .none kVJ5 dcJ5 pmJ5 anJ5 cdJ5 ctJ5), slJ5⟩) (cJ5 : PySem.W.codeIn K cdJ5 "_law_holds" = true) (kJ5 : PySem.W.keepIn K (.ref fJ5) = true)
    (aJ6 : PySem.W.nsIn K mainGlobals "_law_true_on_run" = some (some (.ref fJ6))) (lJ6 : K.lookup fJ6 = some ⟨ocJ6, odJ6, .func (PySem.W.fnOf "_law_true_on_run" "_law_true_on_run" (defArgs sTrue) (defBody sTrue) (defScope sTrue) .none kVJ6 dcJ6 pmJ6 anJ6 cdJ6 ctJ6), slJ6⟩) (cJ6 : PySem.W.codeIn K cdJ6 "_law_true_on_run" = true) (kJ6 : PySem.W.keepIn K (.ref fJ6) = true)
    (aZ : PySem.W.nsIn K mainGlobals "law" = some (some (.ref fZ))) (lZ : K.lookup fZ = some ⟨ocZ, odZ, .func (PySem.W.fnOf "law" "law" (defArgs sLaw) (defBody sLaw) (defScope sLaw) .none kVZ dcZ pmZ anZ cdZ ctZ), slZ⟩) (cZ : PySem.W.codeIn K cdZ "law" = true) (kZ : PySem.W.keepIn K (.ref fZ) = true)
    (z_len : PySem.W.nsIn K mainGlobals "len" = some none)
    (z_abs : PySem.W.nsIn K mainGlobals "abs" = some none)
    (z_int : PySem.W.nsIn K mainGlobals "int" = some none)
    (z_range : PySem.W.nsIn K mainGlobals "range" = some none)
    (z_max : PySem.W.nsIn K mainGlobals "max" = some none)
    (z_min : PySem.W.nsIn K mainGlobals "min" = some none)
    (z_list : PySem.W.nsIn K mainGlobals "list" = some none)
    (z_tuple : PySem.W.nsIn K mainGlobals "tuple" = some none)
    (z_sorted : PySem.W.nsIn K mainGlobals "sorted" = some none)
    (z_set : PySem.W.nsIn K mainGlobals "set" = some none)
    (z_enumerate : PySem.W.nsIn K mainGlobals "enumerate" = some none)
    (z_zip : PySem.W.nsIn K mainGlobals "zip" = some none)
    (z_sum : PySem.W.nsIn K mainGlobals "sum" = some none)
    (z_repr : PySem.W.nsIn K mainGlobals "repr" = some none)
    (z_any : PySem.W.nsIn K mainGlobals "any" = some none)
    (z_isinstance : PySem.W.nsIn K mainGlobals "isinstance" = some none)
    (z_bool : PySem.W.nsIn K mainGlobals "bool" = some none)
    (z_str : PySem.W.nsIn K mainGlobals "str" = some none)
    (z_dict : PySem.W.nsIn K mainGlobals "dict" = some none)
    (z_all : PySem.W.nsIn K mainGlobals "all" = some none)
    (eE : PySem.W.nsIn K mainGlobals "END_PARTS" = some (some (.ref dE))) (eL : K.lookup dE = some ⟨.type "dict", none, .dict es nE, #[]⟩) (eK : PySem.W.KeysLit w.params es.toList)
    (e1 : PySem.W.nsIn K dE "go" = some (some (.ref g1))) (e2 : PySem.W.nsIn K dE "if" = some (some (.ref g2))) (e3 : PySem.W.nsIn K dE "end" = some (some (.ref g3)))
    (t1 : K.lookup g1 = some ⟨.type "tuple", h1, .seq i1 j1, q1⟩) (t2 : K.lookup g2 = some ⟨.type "tuple", h2, .seq i2 j2, q2⟩) (t3 : K.lookup g3 = some ⟨.type "tuple", h3, .seq i3 j3, q3⟩)
    (v1 : Vals [.str "block"] i1.toList) (v2 : Vals [.str "row", .str "block", .str "block"] i2.toList) (v3 : Vals [] i3.toList)
    (aMa : PySem.W.nsIn K mainGlobals "Machine" = some (some (.ref CW)))
    (am1 : PySem.W.findIn K (.ref CW) "__init__" = some (some (.ref fm1))) (nm1 : PySem.W.isFn K (.ref fm1) = true) (lm1 : K.lookup fm1 = some ⟨ocw1, odw1, .func (PySem.W.fnOf "__init__" "Machine.__init__" (defArgs sMInit) (defBody sMInit) (defScope sMInit) .none kVw1 dcw1 pmw1 anw1 cdw1 ctw1), slw1⟩) (cm1 : PySem.W.codeIn K cdw1 "Machine.__init__" = true) (km1 : PySem.W.keepIn K (.ref fm1) = true)
    (am2 : PySem.W.findIn K (.ref CW) "go_on" = some (some (.ref fm2))) (nm2 : PySem.W.isFn K (.ref fm2) = true) (lm2 : K.lookup fm2 = some ⟨ocw2, odw2, .func (PySem.W.fnOf "go_on" "Machine.go_on" (defArgs sGoOn) (defBody sGoOn) (defScope sGoOn) .none kVw2 dcw2 pmw2 anw2 cdw2 ctw2), slw2⟩) (cm2 : PySem.W.codeIn K cdw2 "Machine.go_on" = true) (km2 : PySem.W.keepIn K (.ref fm2) = true)
    (am3 : PySem.W.findIn K (.ref CW) "do_rows" = some (some (.ref fm3))) (nm3 : PySem.W.isFn K (.ref fm3) = true) (lm3 : K.lookup fm3 = some ⟨ocw3, odw3, .func (PySem.W.fnOf "do_rows" "Machine.do_rows" (defArgs sDoRows) (defBody sDoRows) (defScope sDoRows) .none kVw3 dcw3 pmw3 anw3 cdw3 ctw3), slw3⟩) (cm3 : PySem.W.codeIn K cdw3 "Machine.do_rows" = true) (km3 : PySem.W.keepIn K (.ref fm3) = true)
    (am4 : PySem.W.findIn K (.ref CW) "brought_by" = some (some (.ref fm4))) (nm4 : PySem.W.isFn K (.ref fm4) = true) (lm4 : K.lookup fm4 = some ⟨ocw4, odw4, .func (PySem.W.fnOf "brought_by" "Machine.brought_by" (defArgs sBrought) (defBody sBrought) (defScope sBrought) .none kVw4 dcw4 pmw4 anw4 cdw4 ctw4), slw4⟩) (cm4 : PySem.W.codeIn K cdw4 "Machine.brought_by" = true) (km4 : PySem.W.keepIn K (.ref fm4) = true)
    (am5 : PySem.W.findIn K (.ref CW) "block_behind" = some (some (.ref fm5))) (nm5 : PySem.W.isFn K (.ref fm5) = true) (lm5 : K.lookup fm5 = some ⟨ocw5, odw5, .func (PySem.W.fnOf "block_behind" "Machine.block_behind" (defArgs sBehind) (defBody sBehind) (defScope sBehind) .none kVw5 dcw5 pmw5 anw5 cdw5 ctw5), slw5⟩) (cm5 : PySem.W.codeIn K cdw5 "Machine.block_behind" = true) (km5 : PySem.W.keepIn K (.ref fm5) = true)
    (am6 : PySem.W.findIn K (.ref CW) "worth_of" = some (some (.ref fm6))) (nm6 : PySem.W.isFn K (.ref fm6) = true) (lm6 : K.lookup fm6 = some ⟨ocw6, odw6, .func (PySem.W.fnOf "worth_of" "Machine.worth_of" (defArgs sWorthOf) (defBody sWorthOf) (defScope sWorthOf) .none kVw6 dcw6 pmw6 anw6 cdw6 ctw6), slw6⟩) (cm6 : PySem.W.codeIn K cdw6 "Machine.worth_of" = true) (km6 : PySem.W.keepIn K (.ref fm6) = true)
    (am7 : PySem.W.findIn K (.ref CW) "do_row" = some (some (.ref fm7))) (nm7 : PySem.W.isFn K (.ref fm7) = true) (lm7 : K.lookup fm7 = some ⟨ocw7, odw7, .func (PySem.W.fnOf "do_row" "Machine.do_row" (defArgs sDoRow) (defBody sDoRow) (defScope sDoRow) .none kVw7 dcw7 pmw7 anw7 cdw7 ctw7), slw7⟩) (cm7 : PySem.W.codeIn K cdw7 "Machine.do_row" = true) (km7 : PySem.W.keepIn K (.ref fm7) = true)
    (pg : PySem.W.plainGet K CW Str.empty = true) (hd : PySem.W.hasDictIn K CW = true) (po : PySem.W.plainOver K CW = true) (sa : PySem.W.findIn K (.ref CW) "__setattr__" = some (some (.builtin "object.__setattr__"))) (mk : PySem.W.makesIn K CW = true) (kc : PySem.W.keepIn K (.ref CW) = true)
    (n_program : PySem.W.findIn K (.ref CW) "program" = some none)
    (n_takes : PySem.W.findIn K (.ref CW) "takes" = some none)
    (n_most : PySem.W.findIn K (.ref CW) "most" = some none)
    (n_leads : PySem.W.findIn K (.ref CW) "leads" = some none)
    (n_begins : PySem.W.findIn K (.ref CW) "begins" = some none)
    (n_steps : PySem.W.findIn K (.ref CW) "steps" = some none)
    (n_lasts : PySem.W.findIn K (.ref CW) "lasts" = some none)
    (n_rooms : PySem.W.findIn K (.ref CW) "rooms" = some none)
    (n_way : PySem.W.findIn K (.ref CW) "way" = some none)
    (n_told : PySem.W.findIn K (.ref CW) "told" = some none)
    (n_done : PySem.W.findIn K (.ref CW) "done" = some none)
    (hG : PySem.W.nsIn K mainGlobals "GREATEST" = some (some (.int GT40 tg))) (h6 : PySem.W.nsIn K mainGlobals "ROOMS" = some (some (.int 6 t6)))
    (oE : PySem.W.nsIn K mainGlobals "OF_TWO_ROWS" = some (some (.ref dO))) (oL : K.lookup dO = some ⟨.type "dict", none, .dict es2 nE2, #[]⟩) (oK : PySem.W.KeysLit w.params es2.toList) (oS : (dO == sysModules) = false)
    (o_sum : PySem.W.nsIn K dO "sum" = some (some (.ref fC5)))
    (o_less : PySem.W.nsIn K dO "less" = some (some (.ref fC6)))
    (o_times : PySem.W.nsIn K dO "times" = some (some (.ref fC7)))
    (o_same : PySem.W.nsIn K dO "same" = some (some (.ref fC8)))
    (o_below : PySem.W.nsIn K dO "below" = some (some (.ref fC9)))
    (o_tell : PySem.W.nsIn K dO "tell" = some none)
    (o_lay : PySem.W.nsIn K dO "lay" = some none) :
    ∃ fd : FuncData, (∀ (s : Shared) (v : Value), BindsTo s fd ⟨[v], []⟩ [("_law_script", v)]) ∧ ∀ base : Heap, K.In base → base.Ns mainGlobals mg → FnG l.prog w K mg base fa fd ["_law_script"] (spLaw K) := by
  have ez := hfa.symm.trans (PySem.W.mg_of X G aZ)
  cases ez
  have FN := fun_mk (st := sNamed) lN cN kN
  have DN : Df K mg "blocks_named" sNamed ["end"] fN _ := ⟨FN, FN.binds (ps := ["end"]) fun _ _ _ _ _ _ us hl => match us, hl with | [_], _ => rfl, PySem.W.mg_of X G aN⟩
  have FO := fun_mk (st := sLeadsOf) lO cO kO
  have DO : Df K mg "leads_of" sLeadsOf ["program"] fO _ := ⟨FO, FO.binds (ps := ["program"]) fun _ _ _ _ _ _ us hl => match us, hl with | [_], _ => rfl, PySem.W.mg_of X G aO⟩
  have FE := fun_mk (st := sTape) lE cE kE
  have DE : Df K mg "_law_tape" sTape ["_law_script", "_law_k"] fE _ := ⟨FE, FE.binds (ps := ["_law_script", "_law_k"]) fun _ _ _ _ _ _ us hl => match us, hl with | [_, _], _ => rfl, PySem.W.mg_of X G aE⟩
  have FD := fun_mk (st := sDraw) lD cD kD
  have DD : Df K mg "_law_draw" sDraw ["_law_tape_here", "_law_many"] fD _ := ⟨FD, FD.binds (ps := ["_law_tape_here", "_law_many"]) fun _ _ _ _ _ _ us hl => match us, hl with | [_, _], _ => rfl, PySem.W.mg_of X G aD⟩
  have FX := fun_mk (st := sNexts) lX cX kX
  have DX : Df K mg "_law_nexts" sNexts ["_law_tape_here", "_law_many"] fX _ := ⟨FX, FX.binds (ps := ["_law_tape_here", "_law_many"]) fun _ _ _ _ _ _ us hl => match us, hl with | [_, _], _ => rfl, PySem.W.mg_of X G aX⟩
  have FL := fun_mk (st := sLeads) lL cL kL
  have DL : Df K mg "_law_leads" sLeads ["_law_nexts_here"] fL _ := ⟨FL, FL.binds (ps := ["_law_nexts_here"]) fun _ _ _ _ _ _ us hl => match us, hl with | [_], _ => rfl, PySem.W.mg_of X G aL⟩
  have FR := fun_mk (st := sReached) lR cR kR
  have DR : Df K mg "_law_reached" sReached ["_law_nexts_here", "_law_without"] fR _ := ⟨FR, FR.binds (ps := ["_law_nexts_here", "_law_without"]) fun _ _ _ _ _ _ us hl => match us, hl with | [_, _], _ => rfl, PySem.W.mg_of X G aR⟩
  have FV := fun_mk (st := sAbove) lV cV kV
  have DV : Df K mg "_law_above" sAbove ["_law_nexts_here"] fV _ := ⟨FV, FV.binds (ps := ["_law_nexts_here"]) fun _ _ _ _ _ _ us hl => match us, hl with | [_], _ => rfl, PySem.W.mg_of X G aV⟩
  have FS := fun_mk (st := sStanding) lS cS kS
  have DS : Df K mg "_law_standing" sStanding ["_law_state", "_law_block"] fS _ := ⟨FS, FS.binds (ps := ["_law_state", "_law_block"]) fun _ _ _ _ _ _ us hl => match us, hl with | [_, _], _ => rfl, PySem.W.mg_of X G aS⟩
  have FP := fun_mk (st := sPut) lP cP kP
  have DP : Df K mg "_law_put" sPut ["_law_state", "_law_block", "_law_row", "_law_wide", "_law_deep"] fP _ := ⟨FP, FP.binds (ps := ["_law_state", "_law_block", "_law_row", "_law_wide", "_law_deep"]) fun _ _ _ _ _ _ us hl => match us, hl with | [_, _, _, _, _], _ => rfl, PySem.W.mg_of X G aP⟩
  have FU := fun_mk (st := sNumber) lU cU kU
  have DU : Df K mg "_law_number" sNumber ["_law_tape_here"] fU _ := ⟨FU, FU.binds (ps := ["_law_tape_here"]) fun _ _ _ _ _ _ us hl => match us, hl with | [_], _ => rfl, PySem.W.mg_of X G aU⟩
  have FG := fun_mk (st := sAgain) lG cG kG
  have DG : Df K mg "_law_again" sAgain ["_law_tape_here", "_law_state", "_law_some"] fG _ := ⟨FG, FG.binds (ps := ["_law_tape_here", "_law_state", "_law_some"]) fun _ _ _ _ _ _ us hl => match us, hl with | [_, _, _], _ => rfl, PySem.W.mg_of X G aG⟩
  have FW := fun_mk (st := sDrawn) lW cW kW
  have DW : Df K mg "_law_drawn_row" sDrawn ["_law_tape_here", "_law_state", "_law_some"] fW _ := ⟨FW, FW.binds (ps := ["_law_tape_here", "_law_state", "_law_some"]) fun _ _ _ _ _ _ us hl => match us, hl with | [_, _, _], _ => rfl, PySem.W.mg_of X G aW⟩
  have FF1 := fun_mk (st := sFits) lF1 cF1 kF1
  have DF1 : Df K mg "_law_fits" sFits ["_law_state", "_law_row"] fF1 _ := ⟨FF1, FF1.binds (ps := ["_law_state", "_law_row"]) fun _ _ _ _ _ _ us hl => match us, hl with | [_, _], _ => rfl, PySem.W.mg_of X G aF1⟩
  have FA := fun_mk (st := sAdd) lA cA kA
  have DA : Df K mg "_law_add" sAdd ["_law_tape_here", "_law_state", "_law_block"] fA _ := ⟨FA, FA.binds (ps := ["_law_tape_here", "_law_state", "_law_block"]) fun _ _ _ _ _ _ us hl => match us, hl with | [_, _, _], _ => rfl, PySem.W.mg_of X G aA⟩
  have FM := fun_mk (st := sMeet) lM cM kM
  have DM : Df K mg "_law_meet" sMeet ["_law_tape_here", "_law_state", "_law_block"] fM _ := ⟨FM, FM.binds (ps := ["_law_tape_here", "_law_state", "_law_block"]) fun _ _ _ _ _ _ us hl => match us, hl with | [_, _, _], _ => rfl, PySem.W.mg_of X G aM⟩
  have FT := fun_mk (st := sLater) lT cT kT
  have DT : Df K mg "_law_later" sLater ["_law_tape_here", "_law_state"] fT _ := ⟨FT, FT.binds (ps := ["_law_tape_here", "_law_state"]) fun _ _ _ _ _ _ us hl => match us, hl with | [_, _], _ => rfl, PySem.W.mg_of X G aT⟩
  have FF2 := fun_mk (st := sToldSize) lF2 cF2 kF2
  have DF2 : Df K mg "_law_told_size" sToldSize ["_law_state", "_law_k"] fF2 _ := ⟨FF2, FF2.binds (ps := ["_law_state", "_law_k"]) fun _ _ _ _ _ _ us hl => match us, hl with | [_, _], _ => rfl, PySem.W.mg_of X G aF2⟩
  have FF3 := fun_mk (st := sChooser) lF3 cF3 kF3
  have DF3 : Df K mg "_law_chooser" sChooser ["_law_tape_here", "_law_state", "_law_some"] fF3 _ := ⟨FF3, FF3.binds (ps := ["_law_tape_here", "_law_state", "_law_some"]) fun _ _ _ _ _ _ us hl => match us, hl with | [_, _, _], _ => rfl, PySem.W.mg_of X G aF3⟩
  have FQ := fun_mk (st := sProgram) lQ cQ kQ
  have DQ : Df K mg "_law_program" sProgram ["_law_tape_here", "_law_many", "_law_most", "_law_caps"] fQ _ := ⟨FQ, FQ.binds (ps := ["_law_tape_here", "_law_many", "_law_most", "_law_caps"]) fun _ _ _ _ _ _ us hl => match us, hl with | [_, _, _, _], _ => rfl, PySem.W.mg_of X G aQ⟩
  have FF4 := fun_mk (st := sSome) lF4 cF4 kF4
  have DF4 : Df K mg "_law_some_program" sSome ["_law_tape_here", "_law_k", "_law_caps"] fF4 _ := ⟨FF4, FF4.binds (ps := ["_law_tape_here", "_law_k", "_law_caps"]) fun _ _ _ _ _ _ us hl => match us, hl with | [_, _, _], _ => rfl, PySem.W.mg_of X G aF4⟩
  have FC1 := fun_mk (st := sTakes) lC1 cC1 kC1
  have DC1 : Df K mg "_law_takes" sTakes ["_law_tape_here"] fC1 _ := ⟨FC1, FC1.binds (ps := ["_law_tape_here"]) fun _ _ _ _ _ _ us hl => match us, hl with | [_], _ => rfl, PySem.W.mg_of X G aC1⟩
  have FC4 := fun_mk (st := sIsMeet) lC4 cC4 kC4
  have DC4 : Df K mg "is_meet" sIsMeet ["row"] fC4 _ := ⟨FC4, FC4.binds (ps := ["row"]) fun _ _ _ _ _ _ us hl => match us, hl with | [_], _ => rfl, PySem.W.mg_of X G aC4⟩
  have FC5 := fun_mk (st := sSummed) lC5 cC5 kC5
  have DC5 : Df K mg "summed" sSummed ["one", "other"] fC5 _ := ⟨FC5, FC5.binds (ps := ["one", "other"]) fun _ _ _ _ _ _ us hl => match us, hl with | [_, _], _ => rfl, PySem.W.mg_of X G aC5⟩
  have FC6 := fun_mk (st := sLessened) lC6 cC6 kC6
  have DC6 : Df K mg "lessened" sLessened ["one", "other"] fC6 _ := ⟨FC6, FC6.binds (ps := ["one", "other"]) fun _ _ _ _ _ _ us hl => match us, hl with | [_, _], _ => rfl, PySem.W.mg_of X G aC6⟩
  have FC7 := fun_mk (st := sProduct) lC7 cC7 kC7
  have DC7 : Df K mg "product" sProduct ["one", "other"] fC7 _ := ⟨FC7, FC7.binds (ps := ["one", "other"]) fun _ _ _ _ _ _ us hl => match us, hl with | [_, _], _ => rfl, PySem.W.mg_of X G aC7⟩
  have FC8 := fun_mk (st := sTSame) lC8 cC8 kC8
  have DC8 : Df K mg "tested_same" sTSame ["one", "other"] fC8 _ := ⟨FC8, FC8.binds (ps := ["one", "other"]) fun _ _ _ _ _ _ us hl => match us, hl with | [_, _], _ => rfl, PySem.W.mg_of X G aC8⟩
  have FC9 := fun_mk (st := sTBelow) lC9 cC9 kC9
  have DC9 : Df K mg "tested_below" sTBelow ["one", "other"] fC9 _ := ⟨FC9, FC9.binds (ps := ["one", "other"]) fun _ _ _ _ _ _ us hl => match us, hl with | [_, _], _ => rfl, PySem.W.mg_of X G aC9⟩
  have FB1 := fun_mk (st := sPicked) lB1 cB1 kB1
  have DB1 : Df K mg "picked" sPicked ["things", "number"] fB1 _ := ⟨FB1, FB1.binds (ps := ["things", "number"]) fun _ _ _ _ _ _ us hl => match us, hl with | [_, _], _ => rfl, PySem.W.mg_of X G aB1⟩
  have FB2 := fun_mk (st := sGreat) lB2 cB2 kB2
  have DB2 : Df K mg "is_too_great" sGreat ["worth"] fB2 _ := ⟨FB2, FB2.binds (ps := ["worth"]) fun _ _ _ _ _ _ us hl => match us, hl with | [_], _ => rfl, PySem.W.mg_of X G aB2⟩
  have FB3 := fun_mk (st := sRun) lB3 cB3 kB3
  have DB3 : Df K mg "run" sRun ["program", "takes", "most"] fB3 _ := ⟨FB3, FB3.binds (ps := ["program", "takes", "most"]) fun _ _ _ _ _ _ us hl => match us, hl with | [_, _, _], _ => rfl, PySem.W.mg_of X G aB3⟩
  have FB4 := fun_mk (st := sWay) lB4 cB4 kB4
  have DB4 : Df K mg "way_of" sWay ["program", "takes", "most"] fB4 _ := ⟨FB4, FB4.binds (ps := ["program", "takes", "most"]) fun _ _ _ _ _ _ us hl => match us, hl with | [_, _, _], _ => rfl, PySem.W.mg_of X G aB4⟩
  have FH1 := fun_mk (st := sNearest) lH1 cH1 kH1
  have DH1 : Df K mg "nearest_above" sNearest ["leads"] fH1 _ := ⟨FH1, FH1.binds (ps := ["leads"]) fun _ _ _ _ _ _ us hl => match us, hl with | [_], _ => rfl, PySem.W.mg_of X G aH1⟩
  have FH2 := fun_mk (st := sBrNearer) lH2 cH2 kH2
  have DH2 : Df K mg "brought_nearer" sBrNearer ["nearest", "leads"] fH2 _ := ⟨FH2, FH2.binds (ps := ["nearest", "leads"]) fun _ _ _ _ _ _ us hl => match us, hl with | [_, _], _ => rfl, PySem.W.mg_of X G aH2⟩
  have FH3 := fun_mk (st := sCommon) lH3 cH3 kH3
  have DH3 : Df K mg "common_above" sCommon ["nearest", "blocks"] fH3 _ := ⟨FH3, FH3.binds (ps := ["nearest", "blocks"]) fun _ _ _ _ _ _ us hl => match us, hl with | [_, _], _ => rfl, PySem.W.mg_of X G aH3⟩
  have FH4 := fun_mk (st := sAboveP) lH4 cH4 kH4
  have DH4 : Df K mg "above" sAboveP ["program"] fH4 _ := ⟨FH4, FH4.binds (ps := ["program"]) fun _ _ _ _ _ _ us hl => match us, hl with | [_], _ => rfl, PySem.W.mg_of X G aH4⟩
  have FH5 := fun_mk (st := sRowsOf) lH5 cH5 kH5
  have DH5 : Df K mg "rows_of" sRowsOf ["program"] fH5 _ := ⟨FH5, FH5.binds (ps := ["program"]) fun _ _ _ _ _ _ us hl => match us, hl with | [_], _ => rfl, PySem.W.mg_of X G aH5⟩
  have FH6 := fun_mk (st := sFactsBh) lH6 cH6 kH6
  have DH6 : Df K mg "facts_behind" sFactsBh ["rows", "end", "block"] fH6 _ := ⟨FH6, FH6.binds (ps := ["rows", "end", "block"]) fun _ _ _ _ _ _ us hl => match us, hl with | [_, _, _], _ => rfl, PySem.W.mg_of X G aH6⟩
  have FH7 := fun_mk (st := sFactsAt) lH7 cH7 kH7
  have DH7 : Df K mg "facts_at" sFactsAt ["program", "block"] fH7 _ := ⟨FH7, FH7.binds (ps := ["program", "block"]) fun _ _ _ _ _ _ us hl => match us, hl with | [_, _], _ => rfl, PySem.W.mg_of X G aH7⟩
  have FJ1 := fun_mk (st := sNextBl) lJ1 cJ1 kJ1
  have DJ1 : Df K mg "_law_next_blocks" sNextBl ["_law_program_here"] fJ1 _ := ⟨FJ1, FJ1.binds (ps := ["_law_program_here"]) fun _ _ _ _ _ _ us hl => match us, hl with | [_], _ => rfl, PySem.W.mg_of X G aJ1⟩
  have FJ2 := fun_mk (st := sPlaces) lJ2 cJ2 kJ2
  have DJ2 : Df K mg "_law_places" sPlaces ["_law_program_here"] fJ2 _ := ⟨FJ2, FJ2.binds (ps := ["_law_program_here"]) fun _ _ _ _ _ _ us hl => match us, hl with | [_], _ => rfl, PySem.W.mg_of X G aJ2⟩
  have FJ3 := fun_mk (st := sFacts) lJ3 cJ3 kJ3
  have DJ3 : Df K mg "_law_facts" sFacts ["_law_program_here", "_law_block"] fJ3 _ := ⟨FJ3, FJ3.binds (ps := ["_law_program_here", "_law_block"]) fun _ _ _ _ _ _ us hl => match us, hl with | [_, _], _ => rfl, PySem.W.mg_of X G aJ3⟩
  have FJ4 := fun_mk (st := sSame) lJ4 cJ4 kJ4
  have DJ4 : Df K mg "_law_same" sSame ["_law_found", "_law_due"] fJ4 _ := ⟨FJ4, FJ4.binds (ps := ["_law_found", "_law_due"]) fun _ _ _ _ _ _ us hl => match us, hl with | [_, _], _ => rfl, PySem.W.mg_of X G aJ4⟩
  have FJ5 := fun_mk (st := sHolds) lJ5 cJ5 kJ5
  have DJ5 : Df K mg "_law_holds" sHolds ["_law_fact", "_law_last"] fJ5 _ := ⟨FJ5, FJ5.binds (ps := ["_law_fact", "_law_last"]) fun _ _ _ _ _ _ us hl => match us, hl with | [_, _], _ => rfl, PySem.W.mg_of X G aJ5⟩
  have FJ6 := fun_mk (st := sTrue) lJ6 cJ6 kJ6
  have DJ6 : Df K mg "_law_true_on_run" sTrue ["_law_program_here", "_law_facts_here", "_law_takes_here"] fJ6 _ := ⟨FJ6, FJ6.binds (ps := ["_law_program_here", "_law_facts_here", "_law_takes_here"]) fun _ _ _ _ _ _ us hl => match us, hl with | [_, _, _], _ => rfl, PySem.W.mg_of X G aJ6⟩
  have FZ := fun_mk (st := sLaw) lZ cZ kZ
  have B : Bi mg := ⟨PySem.W.mg_none_of X G z_len, PySem.W.mg_none_of X G z_abs, PySem.W.mg_none_of X G z_int, PySem.W.mg_none_of X G z_range, PySem.W.mg_none_of X G z_max, PySem.W.mg_none_of X G z_min, PySem.W.mg_none_of X G z_list, PySem.W.mg_none_of X G z_tuple, PySem.W.mg_none_of X G z_sorted, PySem.W.mg_none_of X G z_set, PySem.W.mg_none_of X G z_enumerate, PySem.W.mg_none_of X G z_zip, PySem.W.mg_none_of X G z_sum, PySem.W.mg_none_of X G z_repr, PySem.W.mg_none_of X G z_any, PySem.W.mg_none_of X G z_isinstance, PySem.W.mg_none_of X G z_bool, PySem.W.mg_none_of X G z_str, PySem.W.mg_none_of X G z_dict, PySem.W.mg_none_of X G z_all⟩
  have TM : MTxt K mg CW := ⟨⟨pg, hd, po, sa⟩, n_program, n_takes, n_most, n_leads, n_begins, n_steps, n_lasts, n_rooms, n_way, n_told, n_done, PySem.W.mg_of X G aMa⟩
  have FM1 := fun_mk (st := sMInit) lm1 cm1 km1
  have bM1 := FM1.binds (ps := ["self", "program", "takes", "most"]) fun _ _ _ _ _ _ us hl => match us, hl with | [_, _, _, _], _ => rfl
  have FM2 := fun_mk (st := sGoOn) lm2 cm2 km2
  have bM2 := FM2.binds (ps := ["self"]) fun _ _ _ _ _ _ us hl => match us, hl with | [_], _ => rfl
  have FM3 := fun_mk (st := sDoRows) lm3 cm3 km3
  have bM3 := FM3.binds (ps := ["self", "block", "brought"]) fun _ _ _ _ _ _ us hl => match us, hl with | [_, _, _], _ => rfl
  have FM4 := fun_mk (st := sBrought) lm4 cm4 km4
  have bM4 := FM4.binds (ps := ["self", "lead", "block"]) fun _ _ _ _ _ _ us hl => match us, hl with | [_, _, _], _ => rfl
  have FM5 := fun_mk (st := sBehind) lm5 cm5 km5
  have bM5 := FM5.binds (ps := ["self", "end"]) fun _ _ _ _ _ _ us hl => match us, hl with | [_, _], _ => rfl
  have FM6 := fun_mk (st := sWorthOf) lm6 cm6 km6
  have bM6 := FM6.binds (ps := ["self", "row"]) fun _ _ _ _ _ _ us hl => match us, hl with | [_, _], _ => rfl
  have FM7 := fun_mk (st := sDoRow) lm7 cm7 km7
  have bM7 := FM7.binds (ps := ["self", "number", "row", "worth"]) fun _ _ _ _ _ _ us hl => match us, hl with | [_, _, _, _], _ => rfl
  have sz : ∀ {xs : List V} {its : Array Value}, Vals xs its.toList → xs.length ≤ 3 → its.size ≤ sizeLine := fun {xs its} v h => by
    have e := v.length
    have e2 : its.toList.length = its.size := Array.length_toList
    exact szl (by omega)
  have EP : Ep K w mg dE g1 g2 g3 := ⟨PySem.W.mg_of X G eE, ⟨es, nE, _, eL, eK, e1, rfl⟩, ⟨es, nE, _, eL, eK, e2, rfl⟩, ⟨es, nE, _, eL, eK, e3, rfl⟩, fun H => .inr ⟨_, i1, j1, t1, rfl, rfl, sz v1 (by decide), v1⟩, fun H => .inr ⟨_, i2, j2, t2, rfl, rfl, sz v2 (by decide), v2⟩, fun H => .inr ⟨_, i3, j3, t3, rfl, rfl, sz v3 (by decide), v3⟩⟩
  refine ⟨PySem.W.fnOf "law" "law" (defArgs sLaw) (defBody sLaw) (defScope sLaw) .none kVZ dcZ pmZ anZ cdZ ctZ, fun s v => .of_eq rfl, fun base hK hN => ?_⟩
  have GN : FnOk l.prog w K mg base CX0 1 fN _ ["end"] (spNamed K) := ok_named DN B EP
  have GD : FnOk l.prog w K mg base CX0 1 fD _ ["_law_tape_here", "_law_many"] spDraw := ok_draw DD
  have GL : FnOk l.prog w K mg base CX0 1 fL _ ["_law_nexts_here"] (spLeads K) := ok_leads DL B
  have GR : FnOk l.prog w K mg base CX0 1 fR _ ["_law_nexts_here", "_law_without"] (spReached K) := ok_reached DR B
  have GS : FnOk l.prog w K mg base CX0 1 fS _ ["_law_state", "_law_block"] (spStanding K) := ok_standing DS B
  have GP : FnOk l.prog w K mg base CX0 1 fP _ ["_law_state", "_law_block", "_law_row", "_law_wide", "_law_deep"] (spPut K) := ok_put DP
  have GE : FnOk l.prog w K mg base CX0 1 fE _ ["_law_script", "_law_k"] (spTape K) := ok_tape DE B
  have GF1 : FnOk l.prog w K mg base CX0 1 fF1 _ ["_law_state", "_law_row"] (spFits K) := ok_fits DF1 B
  have GF2 : FnOk l.prog w K mg base CX0 1 fF2 _ ["_law_state", "_law_k"] (spToldSize K) := ok_toldSize DF2
  have GC4 : FnOk l.prog w K mg base CX0 1 fC4 _ ["row"] (spIsMeet K) := ok_isMeet DC4
  have GC5 : FnOk l.prog w K mg base CX0 1 fC5 _ ["one", "other"] (spOp .sum) := ok_summed DC5
  have GC6 : FnOk l.prog w K mg base CX0 1 fC6 _ ["one", "other"] (spOp .less) := ok_lessened DC6
  have GC7 : FnOk l.prog w K mg base CX0 1 fC7 _ ["one", "other"] (spOp .times) := ok_product DC7
  have GC8 : FnOk l.prog w K mg base CX0 1 fC8 _ ["one", "other"] (spOp .same) := ok_tsame DC8
  have GC9 : FnOk l.prog w K mg base CX0 1 fC9 _ ["one", "other"] (spOp .below) := ok_tbelow DC9
  have GB1 : FnOk l.prog w K mg base CX0 1 fB1 _ ["things", "number"] (spPicked K) := ok_picked DB1 B
  have GB2 : FnOk l.prog w K mg base CX0 1 fB2 _ ["worth"] spGreat := ok_great DB2 (PySem.W.mg_of X G hG)
  have GH3 : FnOk l.prog w K mg base CX0 1 fH3 _ ["nearest", "blocks"] (spCommon K) := ok_common DH3 B
  have GH5 : FnOk l.prog w K mg base CX0 1 fH5 _ ["program"] (spRowsOf K) := ok_rowsOf DH5 B
  have GH6 : FnOk l.prog w K mg base CX0 1 fH6 _ ["rows", "end", "block"] (spFactsBh K) := ok_factsBh DH6
  have GJ1 : FnOk l.prog w K mg base CX0 1 fJ1 _ ["_law_program_here"] (spNextBl K) := ok_nextBl DJ1 B
  have GJ5 : FnOk l.prog w K mg base CX0 1 fJ5 _ ["_law_fact", "_law_last"] (spHolds K) := ok_holds DJ5 B
  have GO : FnOk l.prog w K mg base CX0 2 fO _ ["program"] (spLeadsOf K) := ok_leadsOf DO B DN (GN.mono (by decide))
  have GX : FnOk l.prog w K mg base CX0 2 fX _ ["_law_tape_here", "_law_many"] (spNexts K) := ok_nexts DX B DD (GD.mono (by decide))
  have GV : FnOk l.prog w K mg base CX0 2 fV _ ["_law_nexts_here"] (spAbove K) := ok_above DV B DR (GR.mono (by decide))
  have GU : FnOk l.prog w K mg base CX0 2 fU _ ["_law_tape_here"] spNumber := ok_number DU DD (GD.mono (by decide))
  have GC1 : FnOk l.prog w K mg base CX0 2 fC1 _ ["_law_tape_here"] spTakes := ok_takes DC1 B DD (GD.mono (by decide))
  have GG : FnOk l.prog w K mg base CX0 2 fG _ ["_law_tape_here", "_law_state", "_law_some"] (spAgain K) := ok_again DG B DD (GD.mono (by decide))
  have GM : FnOk l.prog w K mg base CX0 2 fM _ ["_law_tape_here", "_law_state", "_law_block"] (spMeet K) := ok_meet DM B DD (GD.mono (by decide)) DS (GS.mono (by decide)) DP (GP.mono (by decide))
  have GT : FnOk l.prog w K mg base CX0 2 fT _ ["_law_tape_here", "_law_state"] (spLater K) := ok_later DT B DD (GD.mono (by decide)) DS (GS.mono (by decide))
  have GF3 : FnOk l.prog w K mg base CX0 2 fF3 _ ["_law_tape_here", "_law_state", "_law_some"] (spChooser K) := ok_chooser DF3 B DD (GD.mono (by decide)) DF2 (GF2.mono (by decide))
  have GH2 : FnOk l.prog w K mg base CX0 2 fH2 _ ["nearest", "leads"] (spBrought K) := ok_brought DH2 B DH3 (GH3.mono (by decide))
  have GH1 : FnOk l.prog w K mg base CX0 3 fH1 _ ["leads"] (spNearest K) := ok_nearest DH1 B DH3 (GH3.mono (by decide)) DH2 (GH2.mono (by decide))
  have GH4 : FnOk l.prog w K mg base CX0 4 fH4 _ ["program"] (spAboveP K) := ok_aboveP DH4 B DO (GO.mono (by decide)) DH1 (GH1.mono (by decide))
  have GH7 : FnOk l.prog w K mg base CX0 5 fH7 _ ["program", "block"] (spFactsAt K) := ok_factsAt DH7 B DO (GO.mono (by decide)) DH4 (GH4.mono (by decide)) DH5 (GH5.mono (by decide)) DH6 (GH6.mono (by decide))
  have GJ2 : FnOk l.prog w K mg base CX0 3 fJ2 _ ["_law_program_here"] (spPlaces K) := ok_places DJ2 B DJ1 (GJ1.mono (by decide)) DV (GV.mono (by decide))
  have GJ3 : FnOk l.prog w K mg base CX0 4 fJ3 _ ["_law_program_here", "_law_block"] (spFacts K) := ok_facts DJ3 B DJ1 (GJ1.mono (by decide)) DJ2 (GJ2.mono (by decide))
  have GW : FnOk l.prog w K mg base CX0 3 fW _ ["_law_tape_here", "_law_state", "_law_some"] (spDrawn K) := ok_drawn DW B DD (GD.mono (by decide)) DU (GU.mono (by decide)) DG (GG.mono (by decide))
  have GA : FnOk l.prog w K mg base CX0 4 fA _ ["_law_tape_here", "_law_state", "_law_block"] (spAdd K) := ok_add DA B DS (GS.mono (by decide)) DW (GW.mono (by decide)) DP (GP.mono (by decide)) DF1 (GF1.mono (by decide))
  have GQ : FnOk l.prog w K mg base CX0 5 fQ _ ["_law_tape_here", "_law_many", "_law_most", "_law_caps"] (spProgram K) := ok_program DQ B DD (GD.mono (by decide)) DX (GX.mono (by decide)) DL (GL.mono (by decide)) DV (GV.mono (by decide)) DS (GS.mono (by decide)) DP (GP.mono (by decide)) DA (GA.mono (by decide)) DM (GM.mono (by decide)) DT (GT.mono (by decide)) DF3 (GF3.mono (by decide))
  have GF4 : FnOk l.prog w K mg base CX0 6 fF4 _ ["_law_tape_here", "_law_k", "_law_caps"] (spSome K) := ok_some DF4 B DD (GD.mono (by decide)) DQ (GQ.mono (by decide))
  have RC5 : FnR l.prog w K mg base CX0 1 fC5 (spOp .sum) := (FnOk.raw GC5 DC5.b .nil).imp fun vs H Q E h => by rw [List.append_nil]; exact h
  have RC6 : FnR l.prog w K mg base CX0 1 fC6 (spOp .less) := (FnOk.raw GC6 DC6.b .nil).imp fun vs H Q E h => by rw [List.append_nil]; exact h
  have RC7 : FnR l.prog w K mg base CX0 1 fC7 (spOp .times) := (FnOk.raw GC7 DC7.b .nil).imp fun vs H Q E h => by rw [List.append_nil]; exact h
  have RC8 : FnR l.prog w K mg base CX0 1 fC8 (spOp .same) := (FnOk.raw GC8 DC8.b .nil).imp fun vs H Q E h => by rw [List.append_nil]; exact h
  have RC9 : FnR l.prog w K mg base CX0 1 fC9 (spOp .below) := (FnOk.raw GC9 DC9.b .nil).imp fun vs H Q E h => by rw [List.append_nil]; exact h
  have O : OfTwo l.prog w K mg base 1 (fun b => match b with | .sum => fC5 | .less => fC6 | .times => fC7 | .same => fC8 | .below => fC9) dO es2 nE2 := ⟨⟨oL, oK, oS⟩, PySem.W.mg_of X G oE, fun b => match b with | .sum => o_sum | .less => o_less | .times => o_times | .same => o_same | .below => o_below, o_tell, o_lay, fun b => match b with | .sum => RC5 | .less => RC6 | .times => RC7 | .same => RC8 | .below => RC9, fun b => match b with | .sum => kC5 | .less => kC6 | .times => kC7 | .same => kC8 | .below => kC9⟩
  have GM1 : FnOk l.prog w K mg base CX0 3 fm1 _ ["self", "program", "takes", "most"] (spMInit K CW) := ok_minit (k := 2) FM1 TM B (PySem.W.mg_of X G h6) DO GO
  have GM6 : FnOk l.prog w K mg base CX0 2 fm6 _ ["self", "row"] (spWorthOf K CW) := ok_worthOf (k := 1) FM6 TM O DB1 GB1
  have GM7 : FnOk l.prog w K mg base CX0 2 fm7 _ ["self", "number", "row", "worth"] (spDoRow K CW) := ok_doRow (k := 1) FM7 TM DB1 GB1
  have GM4 : FnOk l.prog w K mg base CX0 2 fm4 _ ["self", "lead", "block"] (spBrt K CW) := ok_brt (k := 1) FM4 TM DC4 GC4
  have GM5 : FnOk l.prog w K mg base CX0 1 fm5 _ ["self", "end"] (spBehind K CW) := ok_behind (k := 0) FM5 TM
  have GM3 : FnOk l.prog w K mg base CX0 3 fm3 _ ["self", "block", "brought"] (spDoRows K CW) := ok_doRows (k := 2) FM3 TM B DC4 (GC4.mono (by decide)) DB2 (GB2.mono (by decide)) ⟨am6, nm6, km6⟩ bM6 GM6 ⟨am7, nm7, km7⟩ bM7 GM7
  have GM2 : FnOk l.prog w K mg base CX0 4 fm2 _ ["self"] (spGoOn K CW) := ok_goOn (k := 3) FM2 TM ⟨am3, nm3, km3⟩ bM3 GM3 ⟨am5, nm5, km5⟩ bM5 (GM5.mono (by decide)) ⟨am4, nm4, km4⟩ bM4 (GM4.mono (by decide))
  have GB3 : FnOk l.prog w K mg base CX0 5 fB3 _ ["program", "takes", "most"] (spRun K) := ok_run (k := 3) DB3 TM ⟨mk, am1, nm1, kc⟩ bM1 GM1 ⟨am2, nm2, km2⟩ bM2 GM2
  have GB4 : FnOk l.prog w K mg base CX0 5 fB4 _ ["program", "takes", "most"] (spWay K) := ok_way (k := 3) DB4 TM ⟨mk, am1, nm1, kc⟩ bM1 GM1 ⟨am2, nm2, km2⟩ bM2 GM2
  have S0 : FnOk l.prog w K mg base CX0 1 fJ4 _ ["_law_found", "_law_due"] (spSm fun _ _ _ => False) := ok_sm0 DJ4
  have S1 : FnOk l.prog w K mg base CX0 2 fJ4 _ ["_law_found", "_law_due"] (spSm RLf) := ok_smL DJ4 B S0
  have S2 : FnOk l.prog w K mg base CX0 3 fJ4 _ ["_law_found", "_law_due"] (spSm (RTp K)) := ok_smT DJ4 B S1
  have GJ4 : FnOk l.prog w K mg base CX0 4 fJ4 _ ["_law_found", "_law_due"] (spSm (RLs K)) := ok_smS DJ4 B S2
  have GJ6 : FnOk l.prog w K mg base CX0 6 fJ6 _ ["_law_program_here", "_law_facts_here", "_law_takes_here"] (spTrue K) := ok_true DJ6 B DB3 (GB3.mono (by decide)) DB4 (GB4.mono (by decide)) DJ5 (GJ5.mono (by decide))
  exact ok_law (k := 6) FZ B ⟨rfl, by decide, by decide⟩ DE (GE.mono (by decide)) DF4 (GF4.mono (by decide)) DH7 (GH7.mono (by decide)) DJ3 (GJ3.mono (by decide)) DJ4 (GJ4.mono (by decide)) DJ6 (GJ6.mono (by decide)) DC1 (GC1.mono (by decide))
end Gn
set_option Elab.async false
set_option linter.all false
set_option maxRecDepth 100000
open PySem PySem.W PyProof.Rows
set_option maxHeartbeats 0 in
theorem PySem.Challenge.cw_sameworth_k42_facts_at_blocks_holds : PySem.Challenge.rw_sameworth_k42_facts_at_blocks.Holds := by
  w_on; o_law; k_head; (case hw => w_witness2)
  k_fill
  refine Gn.walkG (l := PySem.Challenge.rw_sameworth_k42_facts_at_blocks) (n := 63) (x := "_law_script") (sp := fun w => Gn.spLaw _) rfl (by decide) rfl (fun w h Y => PySem.W.kIn_of Y) ?F (fun _ _ a ns hl _ hS => ⟨a, ns, rfl, hS, hl, fun _ => rfl⟩)
  case F =>
    intro w mg fa h KX G hmg
    refine' Gn.all_mk KX G hmg ?aN ?lN ?cN ?kN ?aO ?lO ?cO ?kO ?aE ?lE ?cE ?kE ?aD ?lD ?cD ?kD ?aX ?lX ?cX ?kX ?aL ?lL ?cL ?kL ?aR ?lR ?cR ?kR ?aV ?lV ?cV ?kV ?aS ?lS ?cS ?kS ?aP ?lP ?cP ?kP ?aU ?lU ?cU ?kU ?aG ?lG ?cG ?kG ?aW ?lW ?cW ?kW ?aF1 ?lF1 ?cF1 ?kF1 ?aA ?lA ?cA ?kA ?aM ?lM ?cM ?kM ?aT ?lT ?cT ?kT ?aF2 ?lF2 ?cF2 ?kF2 ?aF3 ?lF3 ?cF3 ?kF3 ?aQ ?lQ ?cQ ?kQ ?aF4 ?lF4 ?cF4 ?kF4 ?aC1 ?lC1 ?cC1 ?kC1 ?aC4 ?lC4 ?cC4 ?kC4 ?aC5 ?lC5 ?cC5 ?kC5 ?aC6 ?lC6 ?cC6 ?kC6 ?aC7 ?lC7 ?cC7 ?kC7 ?aC8 ?lC8 ?cC8 ?kC8 ?aC9 ?lC9 ?cC9 ?kC9 ?aB1 ?lB1 ?cB1 ?kB1 ?aB2 ?lB2 ?cB2 ?kB2 ?aB3 ?lB3 ?cB3 ?kB3 ?aB4 ?lB4 ?cB4 ?kB4 ?aH1 ?lH1 ?cH1 ?kH1 ?aH2 ?lH2 ?cH2 ?kH2 ?aH3 ?lH3 ?cH3 ?kH3 ?aH4 ?lH4 ?cH4 ?kH4 ?aH5 ?lH5 ?cH5 ?kH5 ?aH6 ?lH6 ?cH6 ?kH6 ?aH7 ?lH7 ?cH7 ?kH7 ?aJ1 ?lJ1 ?cJ1 ?kJ1 ?aJ2 ?lJ2 ?cJ2 ?kJ2 ?aJ3 ?lJ3 ?cJ3 ?kJ3 ?aJ4 ?lJ4 ?cJ4 ?kJ4 ?aJ5 ?lJ5 ?cJ5 ?kJ5 ?aJ6 ?lJ6 ?cJ6 ?kJ6 ?aZ ?lZ ?cZ ?kZ ?z_len ?z_abs ?z_int ?z_range ?z_max ?z_min ?z_list ?z_tuple ?z_sorted ?z_set ?z_enumerate ?z_zip ?z_sum ?z_repr ?z_any ?z_isinstance ?z_bool ?z_str ?z_dict ?z_all ?eE ?eL ?eK ?e1 ?e2 ?e3 ?t1 ?t2 ?t3 ?v1 ?v2 ?v3 ?aMa ?am1 ?nm1 ?lm1 ?cm1 ?km1 ?am2 ?nm2 ?lm2 ?cm2 ?km2 ?am3 ?nm3 ?lm3 ?cm3 ?km3 ?am4 ?nm4 ?lm4 ?cm4 ?km4 ?am5 ?nm5 ?lm5 ?cm5 ?km5 ?am6 ?nm6 ?lm6 ?cm6 ?km6 ?am7 ?nm7 ?lm7 ?cm7 ?km7 ?pg ?hd ?po ?sa ?mk ?kc ?n_program ?n_takes ?n_most ?n_leads ?n_begins ?n_steps ?n_lasts ?n_rooms ?n_way ?n_told ?n_done ?hG ?h6 ?oE ?oL ?oK ?oS ?o_sum ?o_less ?o_times ?o_same ?o_below ?o_tell ?o_lay
    (case aN => k_is); (case lN => k_is); (case cN => k_is); (case kN => k_is); (case aO => k_is); (case lO => k_is); (case cO => k_is); (case kO => k_is); (case aE => k_is); (case lE => k_is); (case cE => k_is); (case kE => k_is); (case aD => k_is); (case lD => k_is); (case cD => k_is); (case kD => k_is); (case aX => k_is); (case lX => k_is); (case cX => k_is); (case kX => k_is); (case aL => k_is); (case lL => k_is); (case cL => k_is); (case kL => k_is); (case aR => k_is); (case lR => k_is); (case cR => k_is); (case kR => k_is); (case aV => k_is); (case lV => k_is); (case cV => k_is); (case kV => k_is); (case aS => k_is); (case lS => k_is); (case cS => k_is); (case kS => k_is); (case aP => k_is); (case lP => k_is); (case cP => k_is); (case kP => k_is); (case aU => k_is); (case lU => k_is); (case cU => k_is); (case kU => k_is); (case aG => k_is); (case lG => k_is); (case cG => k_is); (case kG => k_is); (case aW => k_is); (case lW => k_is); (case cW => k_is); (case kW => k_is); (case aF1 => k_is); (case lF1 => k_is); (case cF1 => k_is); (case kF1 => k_is); (case aA => k_is); (case lA => k_is); (case cA => k_is); (case kA => k_is); (case aM => k_is); (case lM => k_is); (case cM => k_is); (case kM => k_is); (case aT => k_is); (case lT => k_is); (case cT => k_is); (case kT => k_is); (case aF2 => k_is); (case lF2 => k_is); (case cF2 => k_is); (case kF2 => k_is); (case aF3 => k_is); (case lF3 => k_is); (case cF3 => k_is); (case kF3 => k_is); (case aQ => k_is); (case lQ => k_is); (case cQ => k_is); (case kQ => k_is); (case aF4 => k_is); (case lF4 => k_is); (case cF4 => k_is); (case kF4 => k_is); (case aC1 => k_is); (case lC1 => k_is); (case cC1 => k_is); (case kC1 => k_is); (case aC4 => k_is); (case lC4 => k_is); (case cC4 => k_is); (case kC4 => k_is); (case aC5 => k_is); (case lC5 => k_is); (case cC5 => k_is); (case kC5 => k_is); (case aC6 => k_is); (case lC6 => k_is); (case cC6 => k_is); (case kC6 => k_is); (case aC7 => k_is); (case lC7 => k_is); (case cC7 => k_is); (case kC7 => k_is); (case aC8 => k_is); (case lC8 => k_is); (case cC8 => k_is); (case kC8 => k_is); (case aC9 => k_is); (case lC9 => k_is); (case cC9 => k_is); (case kC9 => k_is); (case aB1 => k_is); (case lB1 => k_is); (case cB1 => k_is); (case kB1 => k_is); (case aB2 => k_is); (case lB2 => k_is); (case cB2 => k_is); (case kB2 => k_is); (case aB3 => k_is); (case lB3 => k_is); (case cB3 => k_is); (case kB3 => k_is); (case aB4 => k_is); (case lB4 => k_is); (case cB4 => k_is); (case kB4 => k_is); (case aH1 => k_is); (case lH1 => k_is); (case cH1 => k_is); (case kH1 => k_is); (case aH2 => k_is); (case lH2 => k_is); (case cH2 => k_is); (case kH2 => k_is); (case aH3 => k_is); (case lH3 => k_is); (case cH3 => k_is); (case kH3 => k_is); (case aH4 => k_is); (case lH4 => k_is); (case cH4 => k_is); (case kH4 => k_is); (case aH5 => k_is); (case lH5 => k_is); (case cH5 => k_is); (case kH5 => k_is); (case aH6 => k_is); (case lH6 => k_is); (case cH6 => k_is); (case kH6 => k_is); (case aH7 => k_is); (case lH7 => k_is); (case cH7 => k_is); (case kH7 => k_is); (case aJ1 => k_is); (case lJ1 => k_is); (case cJ1 => k_is); (case kJ1 => k_is); (case aJ2 => k_is); (case lJ2 => k_is); (case cJ2 => k_is); (case kJ2 => k_is); (case aJ3 => k_is); (case lJ3 => k_is); (case cJ3 => k_is); (case kJ3 => k_is); (case aJ4 => k_is); (case lJ4 => k_is); (case cJ4 => k_is); (case kJ4 => k_is); (case aJ5 => k_is); (case lJ5 => k_is); (case cJ5 => k_is); (case kJ5 => k_is); (case aJ6 => k_is); (case lJ6 => k_is); (case cJ6 => k_is); (case kJ6 => k_is); (case aZ => k_is); (case lZ => k_is); (case cZ => k_is); (case kZ => k_is); (case z_len => k_is); (case z_abs => k_is); (case z_int => k_is); (case z_range => k_is); (case z_max => k_is); (case z_min => k_is); (case z_list => k_is); (case z_tuple => k_is); (case z_sorted => k_is); (case z_set => k_is); (case z_enumerate => k_is); (case z_zip => k_is); (case z_sum => k_is); (case z_repr => k_is); (case z_any => k_is); (case z_isinstance => k_is); (case z_bool => k_is); (case z_str => k_is); (case z_dict => k_is); (case z_all => k_is); (case eE => k_is); (case eL => k_is); (case e1 => k_is); (case e2 => k_is); (case e3 => k_is); (case t1 => k_is); (case t2 => k_is); (case t3 => k_is); (case aMa => k_is); (case am1 => k_is); (case nm1 => k_is); (case lm1 => k_is); (case cm1 => k_is); (case km1 => k_is); (case am2 => k_is); (case nm2 => k_is); (case lm2 => k_is); (case cm2 => k_is); (case km2 => k_is); (case am3 => k_is); (case nm3 => k_is); (case lm3 => k_is); (case cm3 => k_is); (case km3 => k_is); (case am4 => k_is); (case nm4 => k_is); (case lm4 => k_is); (case cm4 => k_is); (case km4 => k_is); (case am5 => k_is); (case nm5 => k_is); (case lm5 => k_is); (case cm5 => k_is); (case km5 => k_is); (case am6 => k_is); (case nm6 => k_is); (case lm6 => k_is); (case cm6 => k_is); (case km6 => k_is); (case am7 => k_is); (case nm7 => k_is); (case lm7 => k_is); (case cm7 => k_is); (case km7 => k_is); (case pg => k_is); (case hd => k_is); (case po => k_is); (case sa => k_is); (case mk => k_is); (case kc => k_is); (case n_program => k_is); (case n_takes => k_is); (case n_most => k_is); (case n_leads => k_is); (case n_begins => k_is); (case n_steps => k_is); (case n_lasts => k_is); (case n_rooms => k_is); (case n_way => k_is); (case n_told => k_is); (case n_done => k_is); (case hG => k_is); (case h6 => k_is); (case oE => k_is); (case oL => k_is); (case o_sum => k_is); (case o_less => k_is); (case o_times => k_is); (case o_same => k_is); (case o_below => k_is); (case o_tell => k_is); (case o_lay => k_is)
    (case eK => k_keys)
    (case oK => k_keys)
    (case oS => rfl)
    (case v1 => exact .cons ⟨_, rfl⟩ .nil)
    (case v2 => exact .cons ⟨_, rfl⟩ (.cons ⟨_, rfl⟩ (.cons ⟨_, rfl⟩ .nil)))
    (case v3 => exact .nil)
