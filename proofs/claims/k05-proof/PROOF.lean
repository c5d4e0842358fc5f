import PyProof.Rows.All
import Wide.All
import OpenK.AllK
import Wide.FinOn
import HandS.ForMost
import HandS.Strs
import HandS.Flow
import HandS.Conv
import HandS.Deep
import KE.KDictPairs
import PyProof.P3In
import PyProof.ReprRoads
import HandS.SetFor
import HandS.Evl
import HandS.Style
import HandS.EndBits
import HandS.TupAny
import HandS.RaiseMore
import HandS.IsInst
import HandS.Zip
import HandS.More
import HandS.IterVal
import HandS.Wide
import HandS.Walk
import HandS.AnyAll
import HandS.GenList
import HandS.Lambda
import KE.KOwnCellsLaws
import PyProof.AutoSeq1
import PyProof.FitsInt
import KE.GoesEnumKw
import KE.GoesMore
import HandS.SortKw
import HandS.Dict
import HandS.ListEq
import KE.GoesEnum
import KE.GoesZip
import HandS.TupLe
import HandS.EndTab
import KE.KNestM
import PySem.Challenge.RW_sameworth_k05_programs_of_anything
set_option Elab.async false
set_option linter.all false
set_option maxRecDepth 100000
set_option maxHeartbeats 2000000
namespace Gn
open PySem PySem.Spec PyProof.Rows L2
section
variable {X : Cx}
/-- d.update(xs), xs a list of pairs -/
def rDUp (K : PySem.W.Frag) : V → List V → Hp → VK → Prop := fun x vs H Q =>
  ∃ (d a : Addr) (ps : List Addr) (acc kvs : List (Key × V)), x = .ref d ∧ vs = [.ref a] ∧ H d = some (.dK acc) ∧
    SqL K H a (ps.map V.ref) ∧ Paired (fun p kv => SqT K H p [kV kv.1, kv.2]) ps kvs ∧ (∀ p ∈ ps, p ≠ d) ∧ a ≠ d ∧
    acc.length + kvs.length ≤ sizeLine ∧ Q .non (upd H d (.dK (mergeK acc kvs)))
theorem pairs_vals : ∀ {prs : List (Key × Value)} {ps : List Addr} {h : Heap}, prs.length = ps.length →
    (∀ (j : Nat) (q : Key × Value), prs[j]? = some q → ∃ (b : Addr) (u : Value), ps[j]? = some b ∧ IsTup h b #[u, q.2] ∧ keyIs q.1 u = true) →
    ∃ vv : List (Value × Value), vv.length = ps.length ∧ ∀ (j : Nat) (k v : Value), vv[j]? = some (k, v) →
      ∃ (b : Addr) (q : Key × Value), ps[j]? = some b ∧ prs[j]? = some q ∧ q.2 = v ∧ keyIs q.1 k = true ∧ IsTup h b #[k, v]
  | [], [], h, _, _ => ⟨[], rfl, fun j k v e => by simp at e⟩
  | [], _ :: _, _, e, _ => by simp at e
  | _ :: _, [], _, e, _ => by simp at e
  | q :: prs, p :: ps, h, e, hp => by
    obtain ⟨vv, hl, hv⟩ := pairs_vals (prs := prs) (ps := ps) (h := h) (by simpa using e)
      (fun j q' e' => by
        obtain ⟨b, u, h1, h2, h3⟩ := hp (j + 1) q' (by simpa using e')
        exact ⟨b, u, by simpa using h1, h2, h3⟩)
    obtain ⟨b, u, h1, h2, h3⟩ := hp 0 q rfl
    refine ⟨(u, q.2) :: vv, by simp [hl], fun j k v e' => ?_⟩
    cases j with
    | zero =>
      have e2 : (u, q.2) = (k, v) := Option.some.inj e'
      cases e2
      exact ⟨b, q, h1, rfl, rfl, h3, h2⟩
    | succ j =>
      obtain ⟨b', q', z1, z2, z3, z4, z5⟩ := hv j k v (by simpa using e')
      exact ⟨b', q', by simpa using z1, by simpa using z2, z3, z4, z5⟩
theorem mt_dup (hcalm : X.calm = true) : MtR X "dict.update" (rDUp X.K) := by
  intro pins s σ H x xs v us Q I rx rxs h
  obtain ⟨d, a, ps, acc, kvs, rfl, rfl, hd, hq, hp, hpd, had, hz, q⟩ := h
  cases rx
  obtain ⟨u, rfl, ru⟩ := rxs.one
  cases ru
  obtain ⟨its, rv, pl, hz2⟩ := I.list hq
  have ei := refs_at rv
  subst ei
  obtain ⟨prs, rel, hl, hpr⟩ := pairs_of I hp
  obtain ⟨vv, hvl, hvv⟩ := pairs_vals hl hpr
  obtain ⟨z, hsm, vs, rel0, dd⟩ := dk_of I.hok hd
  obtain ⟨o, n, ho, hc, hdc, hdat⟩ := pl
  have hlen : prs.length = kvs.length := rel.length.symm
  have hTs : ∀ j : Nat, j < ps.length → ps[j]? = some (ps.getD j 0) := fun j hj => by
    rw [List.getD_eq_getElem?_getD, List.getElem?_eq_getElem hj]; rfl
  refine call_update_pairs (knd := mixKind X.prog X.w) (acc := vs) (kvs := prs) (PairArg.list a (ps.map Value.ref).toArray (fun j => ps.getD j 0) vv) (I.ok.hd hcalm) ⟨⟨o, n, ho, hc, hdc, hdat⟩, ?_, ?_⟩ ?_ ⟨?_, ?_⟩ dd ?_ fun h' tk dd' k => ?_
  · simp [hvl]
  · intro j k v e
    obtain ⟨b, q', z1, z2, z3, z4, z5⟩ := hvv j k v e
    have hj := (List.getElem?_eq_some_iff.mp z1).1
    have eb : ps.getD j 0 = b := Option.some.inj ((hTs j hj).symm.trans z1)
    refine ⟨?_, .inl ?_⟩
    · show (ps.map Value.ref).toArray[j]? = some (Value.ref (ps.getD j 0))
      rw [eb, List.getElem?_toArray, List.getElem?_map, z1]
      rfl
    · show s.heap.IsTuple (ps.getD j 0) _
      rw [eb]; exact z5
  · intro hm
    rcases List.mem_cons.mp hm with e | hm
    · exact had e.symm
    · obtain ⟨j, hj, e⟩ := List.mem_map.mp hm
      have hj := List.mem_range.mp hj
      rw [hvl] at hj
      exact hpd _ (List.mem_of_getElem? (hTs j hj)) e
  · rw [hl, hvl]
  · intro i key v e
    obtain ⟨b, q', z1, z2, z3, z4, z5⟩ := hvv i key v e
    refine ⟨q'.1, ?_, z4⟩
    rw [z2, ← z3]
  · rw [hvl, ← hl, hlen, ← rel0.length]
    exact hz
  · have he : ∃ q, h'.get? d = some q := let ⟨q, _, _, hq, _⟩ := dd'; ⟨q, hq⟩
    refine ⟨.non, upd H d (.dK (mergeK acc kvs)), ?_, rfl, q⟩
    refine I.write (x := d) (e := d) (by rw [hd]; exact True.intro) (.inl rfl) (fun b q hb z => k b q hb (by simp) z) he (dk_new ?_ hsm (KV.merge rel rel0) dd')
    refine Nat.le_trans (length_mergeK kvs acc) ?_
    omega
end
end Gn
set_option Elab.async false
set_option linter.all false
set_option maxRecDepth 100000
set_option maxHeartbeats 3200000
namespace Gn
open PySem PySem.Spec PyProof.Rows L2
/-- an empty set as it is laid -/
abbrev so (w : World) : Obj := { cls := .type "set", dict := none, data := .set #[] 0 (.fresh 0 0 (!w.params.followText "set-order")) }
section
variable {P : Program} {w : World} {A : Around} {E : Value → Shared → Prop} {s : Shared}
theorem set_of_list {l : Addr} {its : Array Value} (ns : List Int) {Q : Value → Shared → Prop} (hh : A.handled = none) (hl : s.heap.IsList l its)
    (hit : IntsAre its.toList ns) (hb : ns.length + 1 < scanBound)
    (h : ∀ (g : Heap) (tk c : Nat), SetR w g s.heap.objs.size (fun j => decide (j ∈ ns)) c → c ≤ ns.length →
      (∀ b o, s.heap.get? b = some o → g.get? b = some o) → Q (.ref s.heap.objs.size) { s with heap := g, toks := tk }) :
    wpAny (model P w) A (call (.type "set") [.ref l]) Q E s := by
  have hisz : its.size = ns.length := (Array.length_toList).symm.trans (IntsAre.length hit)
  obtain ⟨c, tl, hmro⟩ := F.called_set.mro
  have g0 := F.called_set.made
  have g1 := F.called_set.sub
  refine wpAny_call (codeAny_of_tree ?_)
  show wpAny (model P w) _ (callAny (.type "set") _) _ _ s
  refine wpAny_pure ⟨Code.quiet_builtin _ (by decide +kernel), (codeAny_builtin F.entry_type_call ?_)⟩
  rw [Around.under_plain ((weight_type_call_type "set" [.ref l] [])) rfl]
  have g2 := F.called_set.notType
  have g3 := F.called_set.canCreate
  have g4 := F.typeCall_set_1 (.ref l)
  (repeat (any_goals (first | assumption | wp_step)))
  refine codeAny_mono (code_set_led1 (.ref l) (E := E) (Q₁ := fun u t => u = .ref s.heap.objs.size ∧ t = { s with heap := s.heap.push (so w) }) ⟨rfl, rfl⟩) fun r t hr => ?_
  cases r with
  | error e => exact hr
  | ok fl =>
    cases fl with
    | ret obj =>
      obtain ⟨rfl, rfl⟩ := hr
      have hS : (s.heap.push (so w)).get? s.heap.objs.size = some (so w) := Heap.get?_push_size _ rfl
      have hT : Shared.TypeIs { s with heap := s.heap.push (so w) } (.ref s.heap.objs.size) "set" := ⟨_, hS, rfl⟩
      have g5 := F.called_set.init.lookup
      have g6 := F.called_set.init.bind (.ref s.heap.objs.size)
      (repeat (any_goals (first | assumption | wp_step)))
      refine codeAny_mono (codeAny_call_builtin (R := wants (fun r t => r = .none ∧ ∃ g tk c, t = { s with heap := g, toks := tk } ∧ SetR w g s.heap.objs.size (fun j => decide (j ∈ ns)) c ∧
        c ≤ ns.length ∧ (∀ b o, s.heap.get? b = some o → g.get? b = some o)) E) F.called_set.init.plain F.entry_set_init (check_set_init_1 hT ?_)) fun r2 t2 hr2 => ?_
      · obtain ⟨ol, hol, hcl, nl, hdl⟩ := hl
        obtain ⟨oc, od, oda, osl⟩ := ol
        simp only at hcl hdl
        subst hcl
        subst hdl
        have ho2 : (s.heap.push (so w)).get? l = some { cls := .type "list", dict := od, data := .seq its nl, slots := osl } := Heap.get?_push_of_some _ hol
        have g7 := F.sub_list_set
        have g8 := F.sub_list_frozenset
        have g9 : (Value.type "list" == Value.type "dict") = false := (by decide)
        have hl1 : (s.heap.push (so w)).IsList l its := ⟨_, ho2, rfl, nl, rfl⟩
        unfold Builtin.«set.__init__» noKeywords
        unfold Builtin.Frozenset.updateFrom
        generalize hPI : pyIter = PI
        wp_walk
        subst hPI
        refine wpAny_pyIter_list hl1 ?_
        refine wpAny_bind (wpAny_runValue ?_)
        have hlS : l < s.heap.objs.size := Heap.lt_size hol
        have hh3 : A.in1.in1.in1.handled = none := (by simp [hh])
        have hneI : l ≠ (s.heap.push (so w)).objs.size := (by rw [Heap.size_push]; exact Nat.ne_of_lt (Nat.lt_succ_of_lt hlS))
        have hSf : s.heap.objs.size ∉ [(s.heap.push (so w)).objs.size, l] := by
          rw [Heap.size_push]
          simp only [List.mem_cons, List.mem_singleton, List.not_mem_nil, or_false, not_or]
          exact ⟨Nat.ne_of_lt (Nat.lt_succ_self _), (Nat.ne_of_gt hlS)⟩
        have hval : ∀ (i : Nat) (v : Value), its[i]? = some v → ∃ k t, ns[i]? = some k ∧ v = .int k t := fun i v hv => by
          have hi : i < ns.length := (by rw [← hisz]; exact (Array.getElem?_eq_some_iff.mp hv).1)
          obtain ⟨t, e⟩ := PyProof.Rows.IntsAre.int_at hit i v ((by rw [Array.getElem?_toList]; exact hv))
          refine ⟨ns[i], t, List.getElem?_eq_getElem hi, ?_⟩
          (rw [e, List.getD_eq_getElem?_getD, List.getElem?_eq_getElem hi] <;> rfl)
        refine set_update_ints ((Walks.list hh3 _ l hneI its).toS) s.heap.objs.size hSf ns hisz hb hval (its.size - 0) 0 _ (by omega) (Nat.zero_le _)
          (⟨⟨_, Heap.get?_push_size _ rfl, rfl, rfl⟩, (hl1.push _)⟩) ?z0 ?zR
        case z0 =>
          exact ⟨0, Nat.le_refl 0, setR_new_at (Heap.get?_push_of_some _ hS)⟩
        case zR =>
          intro t' c' hm hc' hS'
          obtain ⟨g, g2, d2, tk2, os2⟩ := t'
          have eg : g2 = s.gens := hm.gens
          have ed : d2 = s.drawn := hm.drawn
          have eo : os2 = s.os := hm.os
          subst eg
          subst ed
          subst eo
          show wpAny _ _ _ _ _ _
          refine wpAny_pure ?_
          show wpAny _ _ (ret Value.none) _ _ _
          rw [hisz] at hc'
          refine wpAny_pure ⟨rfl, g, tk2, c', rfl, hS', hc', (fun b o e => ?_)⟩
          have hb0 : b < s.heap.objs.size := Heap.lt_size e
          have hb2 : b ≠ (s.heap.push (so w)).objs.size := (by rw [Heap.size_push]; exact Nat.ne_of_lt (Nat.lt_succ_of_lt hb0))
          refine hm.heap b o ?_ (Heap.get?_push_of_some _ (Heap.get?_push_of_some _ e))
          simp only [List.mem_cons, List.mem_singleton, List.not_mem_nil, or_false, not_or]
          exact ⟨Nat.ne_of_lt hb0, hb2⟩
      · cases r2 with
        | error e => exact hr2
        | ok fl2 =>
          cases fl2 with
          | ret r =>
            obtain ⟨rfl, g, tk, c', rfl, hS', hc', hk'⟩ := hr2
            (repeat (any_goals (first | assumption | wp_step)))
            exact h _ _ _ hS' hc' hk'
          | _ => exact hr2.elim
    | _ => exact hr.elim
end
section
variable {X : Cx}
def rSetL (X : Cx) : List V → Hp → VK → Prop := fun vs H Q => ∃ (a : Addr) (ns : List Int), vs = [.ref a] ∧ SqL X.K H a (ns.map V.int) ∧ ns.length < 60 ∧
  ∀ p c, H p = none → c ≤ ns.length → Q (.ref p) (upd H p (SetO X.w p (fun j => decide (j ∈ ns)) c))
theorem cr_setL (hc : X.calm = true) : CallR X (.type "set") (rSetL X) := by
  intro pins s σ H vs us Q I r h
  obtain ⟨a, ns, rfl, hq, hl, q⟩ := h
  rw [Vals.ref1 r]
  obtain ⟨its, rv, pl, hz⟩ := I.list hq
  refine set_of_list ns (I.ok.hd hc) pl.isList (by simpa using ints_of_vals rv) (by unfold scanBound; omega) fun g tk c R hcl k => ?_
  exact ⟨.ref _, upd H s.heap.objs.size (SetO X.w s.heap.objs.size (fun j => decide (j ∈ ns)) c), I.laid (t' := tk) k (Nat.le_refl _) (setO_new R), rfl, q _ c (I.hok.fresh (Nat.le_refl _)) hcl⟩
end
end Gn
set_option Elab.async false
set_option linter.all false
set_option maxRecDepth 100000
set_option maxHeartbeats 3200000
namespace Gn
open PySem PySem.Spec PyProof.Rows L2
section
variable {X : Cx}
/-- x in t, t a tuple of data -/
def rInT (K : PySem.W.Frag) : R2 := fun x y H Q =>
  ∃ d ds, Dp K H x d ∧ Dp K H y (.tuple ds) ∧ SeqAt.shaped d = true ∧ SeqAt.shaped (.tuple ds) = true ∧ Q (.bl (ds.any fun z => PyData.eqv z d)) H
theorem op_inT (hu : X.A.units + 65 < cLine) : OpR X (compareOp .In) (rInT X.K) := by
  intro pins s σ H x y v u Q I rx ry h
  obtain ⟨d, ds, hd, he, sd, se, q⟩ := h
  obtain ⟨as, r1⟩ := Dp.reads I d x v hd rx
  obtain ⟨bs, r2⟩ := Dp.reads I (.tuple ds) y u he ry
  have c1 := SeqAt.canLay_of_shaped se
  have c2 := SeqAt.canLay_of_shaped sd
  exact SeqAt.in_tuple_reads r2 r1 c1 c2 (room_in_shaped sd hu) ⟨.bl _, H, I, rfl, q⟩
/-- repr(x) of data -/
def rRepr (K : PySem.W.Frag) : List V → Hp → VK → Prop := fun vs H Q =>
  ∃ (a : Addr) (d : PyData), vs = [.ref a] ∧ Dp K H (.ref a) d ∧ d.showable = true ∧ d.hasDict = false ∧ d.depth ≤ 60 ∧ d.shown.length ≤ sizeLine ∧ Q (.str d.shown) H
theorem cr_repr (hg : X.A.guards = some []) (hu : X.A.units + 64 < cLine) : CallR X (.builtin "repr") (rRepr X.K) := by
  intro pins s σ H vs us Q I r h
  obtain ⟨a, d, rfl, hd, hs, hh, hdp, hz, q⟩ := h
  rw [Vals.ref1 r]
  obtain ⟨as, r1⟩ := Dp.reads I d (.ref a) (.ref a) hd rfl
  refine repr_of_reads' r1 hs (fun e => by rw [hh] at e; cases e) hg (by omega) (fun _ _ e => e) (fun g u tk k => ?_) hz
  exact ⟨.str d.shown, H, I.kept (t' := tk) k, ⟨u, rfl⟩, q⟩
end
end Gn
set_option Elab.async false
set_option linter.all false
set_option maxRecDepth 100000
set_option maxHeartbeats 4000000
namespace Gn
open PySem PySem.Spec PyProof.Rows L2
def topS (i : Nat) : Stmt := PySem.Challenge.pw_sameworth_k05_programs_of_anything.main.body.getD i (.Pass ⟨0, 0, 0, 0⟩)
abbrev sHasWorth : Stmt := topS 4
abbrev sIsMeet : Stmt := topS 5
abbrev sRowsNamed : Stmt := topS 6
abbrev sRowsTested : Stmt := topS 7
abbrev sNumbersIn : Stmt := topS 8
abbrev sNamed : Stmt := topS 9
abbrev sNearest : Stmt := topS 12
abbrev sBrought : Stmt := topS 13
abbrev sCommon : Stmt := topS 14
abbrev sSizes : Stmt := topS 15
abbrev sPlaces : Stmt := topS 16
abbrev sLeadsOf : Stmt := topS 18
abbrev sRowsOf : Stmt := topS 19
abbrev sOwners : Stmt := topS 20
abbrev sIsNum : Stmt := topS 22
abbrev sIsPlace : Stmt := topS 23
abbrev sIsParts : Stmt := topS 24
abbrev sIsRooms : Stmt := topS 25
abbrev sWordOf : Stmt := topS 27
abbrev sFits : Stmt := topS 28
abbrev sIsRow : Stmt := topS 29
abbrev sIsEnd : Stmt := topS 30
abbrev sIsBlock : Stmt := topS 31
abbrev sIsWritten : Stmt := topS 32
abbrev sIsProg : Stmt := topS 35
abbrev sIsLed : Stmt := topS 36
abbrev sCanLead : Stmt := topS 37
abbrev sNamesRight : Stmt := topS 38
abbrev sAhead : Stmt := topS 39
abbrev sRowsRight : Stmt := topS 40
abbrev sTape : Stmt := topS 42
abbrev sDraw : Stmt := topS 43
abbrev sLLeads : Stmt := topS 44
abbrev sLReached : Stmt := topS 45
abbrev sLAbove : Stmt := topS 46
abbrev sLFlat : Stmt := topS 47
abbrev sLWhole : Stmt := topS 48
abbrev sLWithin : Stmt := topS 49
abbrev sLNums : Stmt := topS 50
abbrev sLShaped : Stmt := topS 51
abbrev sLEnded : Stmt := topS 52
abbrev sLFormed : Stmt := topS 53
abbrev sLUsed : Stmt := topS 54
abbrev sLRight : Stmt := topS 55
abbrev sLSmall : Stmt := topS 56
abbrev sLRow : Stmt := topS 57
abbrev sLBlock : Stmt := topS 58
abbrev sLThing : Stmt := topS 59
abbrev sLRooms : Stmt := topS 60
abbrev sLaw : Stmt := topS 61
abbrev sWInit : Stmt := inClass (topS 11) 0
abbrev sLies : Stmt := inClass (topS 11) 1
abbrev sPInit : Stmt := inClass (topS 34) 0
abbrev sCanName : Stmt := inClass (topS 34) 1
abbrev sCanAll : Stmt := inClass (topS 34) 2
abbrev sCanMeet : Stmt := inClass (topS 34) 3
/-- built-in names that the module leaves alone -/
structure Bi (mg : Str → Option Value) : Prop where
  len : mg "len" = none
  abs : mg "abs" = none
  int : mg "int" = none
  range : mg "range" = none
  max : mg "max" = none
  min : mg "min" = none
  list : mg "list" = none
  tuple : mg "tuple" = none
  sorted : mg "sorted" = none
  set : mg "set" = none
  enumerate : mg "enumerate" = none
  zip : mg "zip" = none
  sum : mg "sum" = none
  repr : mg "repr" = none
  any : mg "any" = none
  isinstance : mg "isinstance" = none
  bool : mg "bool" = none
  str : mg "str" = none
  all : mg "all" = none
/-- a def as it stands behind the top -/
structure Df (K : PySem.W.Frag) (mg : Str → Option Value) (x : Str) (st : Stmt) (ps : List Str) (f : Addr) (fd : FuncData) : Prop where
  F : Fun K x x st f fd
  b : Binds K fd ps []
  g : mg x = some (.ref f)
/-- all that was tracked is as it was, but for t -/
def But (t : Addr) (H H' : Hp) : Prop := ∀ a o, a ≠ t → H a = some o → H' a = some o
theorem But.refl (t : Addr) (H : Hp) : But t H H := fun _ _ _ h => h
theorem But.trans {t : Addr} {H H1 H2 : Hp} (a : But t H H1) (b : But t H1 H2) : But t H H2 := fun x o n h => b x o n (a x o n h)
theorem But.upd {t : Addr} {H : Hp} {o : HO} : But t H (upd H t o) := fun a u n h => by rw [upd_ne n]; exact h
theorem Same.but {t : Addr} {H H' : Hp} (h : Same H H') : But t H H' := fun a o _ e => h a o e
theorem new_same {H : Hp} {p : Addr} {o : HO} (h : H p = none) : Same H (upd H p o) := fun a u e => by
  rw [upd_ne (ne_of_none e h)]
  exact e
theorem Same.bt {t : Addr} {I H H' : Hp} (a : Same I H) (n : I t = none) (b : But t H H') : Same I H' := fun x o e =>
  b x o (ne_of_none e n) (a x o e)
theorem Same.upd {I H : Hp} {t : Addr} {o : HO} (a : Same I H) (n : I t = none) : Same I (L2.upd H t o) := fun x u e => by
  rw [upd_ne (ne_of_none e n)]
  exact a x u e
theorem Same.tup {K : PySem.W.Frag} {H H' : Hp} {a : Addr} {xs : List V} (e : Same H H') (h : SqT K H a xs) : SqT K H' a xs := by
  rcases h with (h | ⟨o, h⟩) | h
  · exact .inl (.inl (e _ _ h))
  · exact .inl (.inr ⟨o, e _ _ h⟩)
  · exact .inr h
theorem sqL {K : PySem.W.Frag} {H : Hp} {a : Addr} {xs : List V} (h : H a = some (.lst xs)) : SqL K H a xs := .inl (.inl h)
theorem sqT {K : PySem.W.Frag} {H : Hp} {a : Addr} {xs : List V} (h : H a = some (.tup xs)) : SqT K H a xs := .inl (.inl h)
theorem szl {n : Nat} (h : n ≤ 1000000) : n ≤ sizeLine := Nat.le_trans h (by decide)
theorem szt {n : Nat} (h : n < 1000000) : n < sizeLine := Nat.lt_of_lt_of_le h (by decide)
/-- the tape at t: its third number is at most c -/
def Tape (H : Hp) (t : Addr) (c : Nat) : Prop := ∃ x y n : Int, H t = some (.lst [.int x, .int y, .int n]) ∧ 0 ≤ x ∧ 0 ≤ y ∧ y < 2 ^ 62 ∧ 0 ≤ n ∧ n ≤ c
theorem Tape.mono {H : Hp} {t : Addr} {c d : Nat} (h : Tape H t c) (hc : c ≤ d) : Tape H t d := by
  obtain ⟨x, y, n, a, b, e, f, g, i⟩ := h
  exact ⟨x, y, n, a, b, e, f, g, by omega⟩
theorem Tape.same {H H' : Hp} {t : Addr} {c : Nat} (h : Tape H t c) (e : Same H H') : Tape H' t c := by
  obtain ⟨x, y, n, a, r⟩ := h
  exact ⟨x, y, n, e _ _ a, r⟩
theorem Tape.lst {H : Hp} {t : Addr} {c : Nat} (h : Tape H t c) : ∃ o, H t = some o := by
  obtain ⟨x, y, n, a, r⟩ := h
  exact ⟨_, a⟩
/-! ### draw -/
def spDraw : Sp := fun vs H Q _ => ∃ (t : Addr) (m : Int) (c : Nat), vs = [.ref t, .int m] ∧ Tape H t c ∧ c ≤ 100000000 ∧ 0 < m ∧ m ≤ 1000000 ∧
  ∀ (r : Nat) (H' : Hp), (r : Int) < m → But t H H' → Tape H' t (c + 1) → Q (.int r) H'
theorem scDraw : FnScope ["_law_tape_here", "_law_many", "_law_found", "_law_once", "_law_twice"] ["_law_tape_here", "_law_many"] (defScope sDraw) := ⟨rfl, rfl, rfl, by decide +kernel, rfl, by decide +kernel, by decide +kernel⟩
section
variable {P : Program} {w : World} {K : PySem.W.Frag} {mg : Str → Option Value} {base : Heap}
theorem ok_draw {f : Addr} {fd : FuncData} {k : Nat} (D : Df K mg "_law_draw" sDraw ["_law_tape_here", "_law_many"] f fd) : FnOk P w K mg base CX0 (k + 1) f fd ["_law_tape_here", "_law_many"] spDraw := by
  refine D.F.ok scDraw (fun vs H Q E h => ?_) (fun cdv A outer s H vs Q E hr h => ?_)
  · obtain ⟨t, m, c, rfl, _⟩ := h
    rfl
  · obtain ⟨t, m, c, rfl, ⟨x, y, n, ht, hx, hy, hy2, hn, hn2⟩, hc, hm, hm2, q⟩ := h
    refine ⟨_, pss_cons (ps_if (pt_cmpR op_gt (pe_ix ix_list (pv 0) pe_int (fun _ _ => rfl)) pe_int (nomark _))
        (pss_cons (ps_set (i := 2) scDraw.nd rfl (.inl rfl) (pe_op op_mod (pe_ix ix_list (pv 0) pe_int (fun _ _ => rfl)) (pv 1)))
        (pss_cons (ps_asg (pe_op op_fdiv (pe_ix ix_list (pv 0) pe_int (fun _ _ => rfl)) (pv 1)) (pg_sub (pv 0) pe_int set_list))
        (pss_one (ps_ret (pv 2))))) pss_nil)
      (pss_cons (ps_asg (pe_op op_add (pe_ix ix_list (pv 0) pe_int (fun _ _ => rfl)) pe_int) (pg_sub (pv 0) pe_int set_list))
      (pss_cons (ps_set (i := 3) scDraw.nd rfl (.inl rfl) (pe_op op_mod (pe_op op_pow (pe_op op_add (pe_ix ix_list (pv 0) pe_int (fun _ _ => rfl)) (pe_op op_mul pe_int (pe_ix ix_list (pv 0) pe_int (fun _ _ => rfl)))) pe_int) pe_int))
      (pss_cons (ps_set (i := 4) scDraw.nd rfl (.inl rfl) (pe_op op_mod (pe_op op_mul (pe_op op_add (pv 3) (pe_ix ix_list (pv 0) pe_int (fun _ _ => rfl))) (pe_op op_add (pe_op op_add (pe_op op_mod (pv 3) pe_int) pe_int) (pe_ix ix_list (pv 0) pe_int (fun _ _ => rfl)))) pe_int))
      (pss_one (ps_ret (pe_op op_mod (pe_op op_fdiv (pe_op op_mod (pe_op op_add (pe_op op_mul (pv 4) pe_int) (pv 3)) pe_int) pe_int) (pv 1))))))), ?_⟩
    have hL : SqL K H t [.int x, .int y, .int n] := sqL ht
    refine ⟨_, rfl, t, _, _, _, rfl, rfl, hL, atI_nat (j := 0) rfl, _, _, rfl, rfl, _, rfl, ite2 (fun e => ?_) (fun e => ?_)⟩
    · have e0 : 0 < x := of_decide_eq_true e
      refine ⟨_, rfl, t, _, _, _, rfl, rfl, hL, atI_nat (j := 0) rfl, _, rfl, _, _, rfl, rfl, hm, ?_⟩
      refine ⟨_, rfl, t, _, _, _, rfl, rfl, hL, atI_nat (j := 0) rfl, _, rfl, _, _, rfl, rfl, ⟨hm, by omega⟩, _, rfl, t, _, _, 0, rfl, rfl, ht, rfl, ?_⟩
      refine ⟨_, rfl, ?_⟩
      have h1 : 0 ≤ x % m := Int.emod_nonneg _ (by omega)
      have h2 : x % m < m := Int.emod_lt_of_pos _ hm
      have h3 : ((x % m).toNat : Int) = x % m := Int.toNat_of_nonneg h1
      have := q (x % m).toNat (upd H t (.lst [.int (x / m), .int y, .int n])) (by omega) But.upd ⟨x / m, y, n, upd_same, Int.ediv_nonneg hx (by omega), hy, hy2, hn, by omega⟩
      rw [h3] at this
      exact this
    · refine ⟨_, rfl, t, _, _, _, rfl, rfl, hL, atI_nat (j := 2) rfl, _, _, rfl, rfl, _, rfl, t, _, _, 2, rfl, rfl, ht, rfl, ?_⟩
      show tSeq _ _ _ _ (upd H t (.lst [.int x, .int y, .int (n + 1)]))
      have hL2 : SqL K (upd H t (.lst [.int x, .int y, .int (n + 1)])) t [.int x, .int y, .int (n + 1)] := sqL upd_same
      have hp : (y + 39373 * (n + 1)).natAbs < 2 ^ 64 := by omega
      refine ⟨_, rfl, t, _, _, _, rfl, rfl, hL2, atI_nat (j := 1) rfl, _, rfl, t, _, _, _, rfl, rfl, hL2, atI_nat (j := 2) rfl, _, _, rfl, rfl, .inl ⟨by decide, by decide⟩, _, _, rfl, rfl,
        _, _, rfl, rfl, ⟨by decide, by decide, hp⟩, _, _, rfl, rfl, (by decide : (0 : Int) < 2147483647), ?_⟩
      generalize hA : (y + 39373 * (n + 1)) ^ (5 : Int).toNat % 2147483647 = once
      have o1 : 0 ≤ once := by rw [← hA]; exact Int.emod_nonneg _ (by decide)
      have o2 : once < 2147483647 := by rw [← hA]; exact Int.emod_lt_of_pos _ (by decide)
      refine ⟨_, rfl, _, rfl, t, _, _, _, rfl, rfl, hL2, atI_nat (j := 2) rfl, _, _, rfl, rfl, _, rfl, _, _, rfl, rfl, (by decide : (0 : Int) < 40009), _, _, rfl, rfl, _, rfl, t, _, _, _, rfl, rfl, hL2, atI_nat (j := 2) rfl, _, _, rfl, rfl,
        _, _, rfl, rfl, .inl ⟨by omega, by omega⟩, _, _, rfl, rfl, (by decide : (0 : Int) < 2147483629), ?_⟩
      generalize hB : (once + (n + 1)) * (once % 40009 + 7 + (n + 1)) % 2147483629 = twice
      have t1 : 0 ≤ twice := by rw [← hB]; exact Int.emod_nonneg _ (by decide)
      have t2 : twice < 2147483629 := by rw [← hB]; exact Int.emod_lt_of_pos _ (by decide)
      refine ⟨_, rfl, _, _, rfl, rfl, .inl ⟨by omega, by omega⟩, _, rfl, _, _, rfl, rfl, _, _, rfl, rfl, (by decide : (0 : Int) < 2147483587), _, _, rfl, rfl, ⟨by decide, by decide⟩, _, rfl, _, _, rfl, rfl, hm, ?_⟩
      generalize hC : (twice * 48271 + once) % 2147483587 / 64 = d
      have h1 : 0 ≤ d % m := Int.emod_nonneg _ (by omega)
      have h2 : d % m < m := Int.emod_lt_of_pos _ hm
      have h3 : ((d % m).toNat : Int) = d % m := Int.toNat_of_nonneg h1
      have := q (d % m).toNat (upd H t (.lst [.int x, .int y, .int (n + 1)])) (by omega) But.upd ⟨x, y, n + 1, upd_same, hx, hy, hy2, by omega, by omega⟩
      rw [h3] at this
      subst hC
      subst hB
      subst hA
      exact this
/-! ### tape -/
def spTape (K : PySem.W.Frag) : Sp := fun vs H Q _ => ∃ (a : Addr) (ns : List Int) (k : Nat), vs = [.ref a, .int k] ∧ SqL K H a (ns.map V.int) ∧ k ≤ 100 ∧
  ∀ (p : Addr) (o : HO), H p = none → Tape (upd H p o) p 0 → Q (.ref p) (upd H p o)
theorem tape_ok {H : Hp} {p : Addr} {k : Nat} (hk : k ≤ 100) (cell : Int) : Tape (upd H p (.lst [.int ((if cell < 0 then -cell else cell) * (if decide ((10 : Int) ^ (18 : Int).toNat ≤ (if cell < 0 then -cell else cell)) then 1 else 0)), .int (cell % 2305843009213693951 + 39373 * (k : Int) + 17), .int 0])) p 0 := by
  refine ⟨_, _, _, upd_same, ?_, ?_, ?_, ?_, ?_⟩
  · have : 0 ≤ (if cell < 0 then -cell else cell) := by split <;> omega
    have h01 : ∀ b : Bool, 0 ≤ (if b = true then (1 : Int) else 0) := by decide
    exact Int.mul_nonneg this (h01 _)
  · have := Int.emod_nonneg cell (b := 2305843009213693951) (by decide)
    omega
  · have := Int.emod_lt_of_pos cell (b := 2305843009213693951) (by decide)
    omega
  · decide
  · decide
theorem b01 : ∀ b : Bool, -(2 ^ 64) < (if b = true then (1 : Int) else 0) ∧ (if b = true then (1 : Int) else 0) < 2 ^ 64 := by decide
theorem scTape : FnScope ["_law_script", "_law_k", "_law_cell"] ["_law_script", "_law_k"] (defScope sTape) := ⟨rfl, rfl, rfl, by decide +kernel, rfl, by decide +kernel, by decide +kernel⟩
theorem ok_tape {f : Addr} {fd : FuncData} {k : Nat} (D : Df K mg "_law_tape" sTape ["_law_script", "_law_k"] f fd) (B : Bi mg) : FnOk P w K mg base CX0 (k + 1) f fd ["_law_script", "_law_k"] (spTape K) := by
  refine D.F.ok scTape (fun vs H Q E h => ?_) (fun cdv A outer s H vs Q E hr h => ?_)
  · obtain ⟨a, ns, k, rfl, _⟩ := h
    rfl
  · obtain ⟨a, ns, k, rfl, hS, hk, q⟩ := h
    refine ⟨_, pss_cons (ps_set (i := 2) scTape.nd rfl (.inl rfl) (pe_ifExp (pt_cmpR op_lt (pv 1) (pe_callB call_len_seq (by rfl) B.len PySem.boot_len (pa_cons (pv 0) pa_nil)) (nomark _)) (pe_ix ix_list (pv 0) (pv 1) (fun _ _ => rfl)) pe_int))
      (pss_one (ps_ret (pe_lst (pa_cons (pe_op op_mul (pe_callB call_abs (by rfl) B.abs (by decide +kernel) (pa_cons (pv 2) pa_nil)) (pe_callTy call_int1 (by rfl) B.int PyProof.Rows.boot_int (pa_cons (pe_cmpR op_ge (pe_callB call_abs (by rfl) B.abs (by decide +kernel) (pa_cons (pv 2) pa_nil)) (pe_op op_pow pe_int pe_int) (nomark _)) pa_nil)))
        (pa_cons (pe_op op_add (pe_op op_add (pe_op op_mod (pv 2) pe_int) (pe_op op_mul pe_int (pv 1))) pe_int) (pa_cons pe_int pa_nil)))))), ?_⟩
    refine ⟨_, rfl, _, rfl, a, _, rfl, .inl hS, _, _, rfl, rfl, _, rfl, ite2 (fun e => ?_) (fun e => ?_)⟩
    · have e0 : (k : Int) < ((ns.map V.int).length : Int) := of_decide_eq_true e
      have e1 : k < ns.length := by rw [List.length_map] at e0; omega
      refine ⟨_, rfl, _, rfl, a, _, _, .int ns[k], rfl, rfl, hS, atI_nat (by rw [List.getElem?_map, List.getElem?_eq_getElem e1]; rfl), ?_⟩
      generalize ns[k] = cell
      refine ⟨_, rfl, _, rfl, _, rfl, _, rfl, _, _, rfl, rfl, ⟨by decide, by decide, by decide⟩, _, _, rfl, rfl, .inr ⟨_, rfl, _, _, rfl, rfl, .inr (b01 _), _, rfl, _, _, rfl, rfl, (by decide : (0 : Int) < 2305843009213693951), _, rfl, _, _, rfl, rfl, .inl ⟨by decide, by decide⟩, _, _, rfl, rfl, _, _, rfl, rfl, ?_⟩⟩
      exact ⟨szl (show 3 ≤ 1000000 by decide), fun p np => q p _ np (tape_ok hk cell)⟩
    · refine ⟨_, rfl, _, rfl, _, rfl, _, rfl, _, _, rfl, rfl, ⟨by decide, by decide, by decide⟩, _, _, rfl, rfl, .inr ⟨_, rfl, _, _, rfl, rfl, .inr (b01 _), _, rfl, _, _, rfl, rfl, (by decide : (0 : Int) < 2305843009213693951), _, rfl, _, _, rfl, rfl, .inl ⟨by decide, by decide⟩, _, _, rfl, rfl, _, _, rfl, rfl, ?_⟩⟩
      exact ⟨szl (show 3 ≤ 1000000 by decide), fun p np => q p _ np (tape_ok hk 0)⟩
end
end Gn
set_option Elab.async false
set_option linter.all false
set_option maxRecDepth 100000
set_option maxHeartbeats 4000000
namespace Gn
open PySem PySem.Spec PyProof.Rows L2
theorem Tape.but {H H' : Hp} {t a : Addr} {c : Nat} (h : Tape H t c) (e : But a H H') (n : t ≠ a) : Tape H' t c := by
  obtain ⟨x, y, z, q, r⟩ := h
  exact ⟨x, y, z, e _ _ n q, r⟩
theorem Tape.upd {H : Hp} {t p : Addr} {c : Nat} {o : HO} (h : Tape H t c) (n : H p = none) : Tape (L2.upd H p o) t c := h.same (new_same n)
theorem Tape.ne {H : Hp} {t p : Addr} {c : Nat} (h : Tape H t c) (n : H p = none) : p ≠ t := fun e => by
  obtain ⟨x, y, z, q, r⟩ := h
  rw [e, q] at n
  cases n
theorem at_lt {α : Type} {xs : List α} {r : Nat} (h : r < xs.length) : atI xs (r : Int) = some xs[r] := atI_nat (List.getElem?_eq_getElem h)
/-! ### lists of numbers, lists of these -/
def iv (n : Nat) : V := .int (n : Int)
def NL (K : PySem.W.Frag) (H : Hp) (p : Addr) (xss : List (List Nat)) : Prop := ∃ ps : List Addr, SqL K H p (ps.map V.ref) ∧ Paired (fun q xs => SqL K H q (xs.map iv)) ps xss
theorem pd_mono {α β : Type} {F G : α → β → Prop} : ∀ {l : List α} {m : List β}, Paired F l m → (∀ a b, F a b → G a b) → Paired G l m
  | _, _, .nil, _ => .nil
  | _, _, .cons h t, g => .cons (g _ _ h) (pd_mono t g)
theorem pd_len {α β : Type} {F : α → β → Prop} : ∀ {l : List α} {m : List β}, Paired F l m → l.length = m.length
  | _, _, .nil => rfl
  | _, _, .cons h t => by rw [List.length_cons, List.length_cons, pd_len t]
theorem pd_at {α β : Type} {F : α → β → Prop} : ∀ {l : List α} {m : List β} {j : Nat} {b : β}, Paired F l m → m[j]? = some b → ∃ a, l[j]? = some a ∧ F a b
  | _, _, _, _, .nil, e => by simp at e
  | _, _, 0, b, .cons (a := a) h t, e => by
    have e' := Option.some.inj e
    subst e'
    exact ⟨a, rfl, h⟩
  | _, _, j + 1, b, .cons h t, e => by
    obtain ⟨a, h1, h2⟩ := pd_at (j := j) t (by simpa using e)
    exact ⟨a, by simpa using h1, h2⟩
theorem pd_snoc {α β : Type} {F : α → β → Prop} {a : α} {b : β} {l : List α} {m : List β} (h : Paired F l m) (g : F a b) : Paired F (l ++ [a]) (m ++ [b]) := Paired.snoc h g
theorem seq_upd {K : PySem.W.Frag} {H : Hp} {a b : Addr} {xs : List V} {o : HO} (h : SqL K H a xs) (n : a ≠ b) : SqL K (upd H b o) a xs := by
  rcases h with (h | ⟨u, h⟩) | h
  · exact .inl (.inl (by rw [upd_ne n]; exact h))
  · exact .inl (.inr ⟨u, by rw [upd_ne n]; exact h⟩)
  · exact .inr h
theorem NL.same {K : PySem.W.Frag} {H H' : Hp} {p : Addr} {xss : List (List Nat)} (h : NL K H p xss) (e : Same H H') : NL K H' p xss := by
  obtain ⟨ps, h1, h2⟩ := h
  exact ⟨ps, e.seq h1, pd_mono h2 fun a b q => e.seq q⟩
theorem NL.at {K : PySem.W.Frag} {H : Hp} {p : Addr} {xss : List (List Nat)} (h : NL K H p xss) {j : Nat} {xs : List Nat} (e : xss[j]? = some xs) :
    ∃ (ys : List V) (q : Addr), SqL K H p ys ∧ ys.length = xss.length ∧ atI ys (j : Int) = some (.ref q) ∧ SqL K H q (xs.map iv) := by
  obtain ⟨ps, h1, h2⟩ := h
  obtain ⟨q, h3, h4⟩ := pd_at h2 e
  exact ⟨_, q, h1, by rw [List.length_map, pd_len h2], atI_nat (by rw [List.getElem?_map, h3]; rfl), h4⟩
theorem NL.len {K : PySem.W.Frag} {H : Hp} {p : Addr} {xss : List (List Nat)} (h : NL K H p xss) : ∃ ys : List V, SqL K H p ys ∧ ys.length = xss.length := by
  obtain ⟨ps, h1, h2⟩ := h
  exact ⟨_, h1, by rw [List.length_map, pd_len h2]⟩
theorem filt_one {α : Type} (p : α → Bool) (x : α) : [x].filter p = if p x = true then [x] else [] := by
  cases h : p x <;> simp [h]
theorem filt_succ (p : Nat → Bool) (j : Nat) : (List.range (j + 1)).filter p = (List.range j).filter p ++ (if p j = true then [j] else []) := by
  rw [List.range_succ, List.filter_append, filt_one]
theorem flat_iv (xs : List Nat) : (xs.map iv).all flatV = true := by
  rw [List.all_map]
  exact List.all_eq_true.mpr fun _ _ => rfl
theorem inV_iv (b : Nat) (xs : List Nat) : inV (iv b) (xs.map iv) = decide (b ∈ xs) := by
  unfold inV
  rw [List.any_map, Bool.eq_iff_iff, List.any_eq_true, decide_eq_true_eq]
  constructor
  · rintro ⟨x, hx, e⟩
    have e2 : ((x : Int) == (b : Int)) = true := e
    have e3 : (x : Int) = (b : Int) := eq_of_beq e2
    have e4 : x = b := by omega
    rw [← e4]; exact hx
  · intro h
    exact ⟨b, h, (beq_self_eq_true (b : Int) : ((b : Int) == (b : Int)) = true)⟩
/-- what is new in H' -/
def newOf (H H' : Hp) : Hp := fun a => if (H a).isNone = true then H' a else none
theorem new_at {H H' : Hp} {a : Addr} {o : HO} (n : H a = none) (e : H' a = some o) : newOf H H' a = some o := by
  unfold newOf
  rw [n]
  exact e
theorem new_of {H H' : Hp} {a : Addr} {o : HO} (e : newOf H H' a = some o) : H a = none ∧ H' a = some o := by
  unfold newOf at e
  cases h : H a with
  | none => rw [h] at e; exact ⟨rfl, e⟩
  | some u => rw [h] at e; cases e
theorem new_sub (H H' : Hp) : Same (newOf H H') H' := fun _ _ e => (new_of e).2
/-! ### the text's comprehensions -/
def valE : Stmt → Expr
  | .Return (some e) _ => e
  | .Assign _ e _ => e
  | _ => .Constant .none 0 ⟨0, 0, 0, 0⟩
def lcS : Expr → Scope
  | .ListComp _ _ sc _ => sc
  | _ => { kind := .function, names := [], isGenerator := false, isCoroutine := false }
def nthS (l : List Stmt) (i : Nat) : Stmt := l.getD i (.Pass ⟨0, 0, 0, 0⟩)
/-! ### readings by name -/
abbrev rLen (K : PySem.W.Frag) : List V → Hp → VK → Prop := fun xs H Q => ∃ p ys, xs = [.ref p] ∧ (SqL K H p ys ∨ SqT K H p ys) ∧ Q (.int ys.length) H
abbrev tLen (K : PySem.W.Frag) (t : TE) : TE := tCB (rLen K) (tCons t tNil)
abbrev tIxL (K : PySem.W.Frag) (a b : TE) : TE := tOp (rIxL K) a b
abbrev tIxT (K : PySem.W.Frag) (a b : TE) : TE := tOp (rIxT K) a b
abbrev tIn (K : PySem.W.Frag) (a b : TE) : TT := tTest (tOp (rIn K false) a b)
abbrev tNotIn (K : PySem.W.Frag) (a b : TE) : TT := tTest (tOp (rIn K true) a b)
abbrev iRange (t : TE) : TI := iRng1 (tCons t tNil)
theorem pd_at2 {α β : Type} {F : α → β → Prop} : ∀ {l : List α} {m : List β} {j : Nat} {a : α}, Paired F l m → l[j]? = some a → ∃ b, m[j]? = some b ∧ F a b
  | _, _, _, _, .nil, e => by simp at e
  | _, _, 0, a, .cons (b := b) h t, e => by
    have e' := Option.some.inj e
    subst e'
    exact ⟨b, rfl, h⟩
  | _, _, j + 1, a, .cons h t, e => by
    obtain ⟨b, h1, h2⟩ := pd_at2 (j := j) t (by simpa using e)
    exact ⟨b, by simpa using h1, h2⟩
theorem gd {α : Type} {l : List α} {j : Nat} {d a : α} (h : l[j]? = some a) : l.getD j d = a := by
  rw [List.getD_eq_getElem?_getD, h]
  rfl
theorem gdl {α : Type} {l : List α} {j : Nat} {d : α} (h : j < l.length) : l[j]? = some (l.getD j d) := by
  rw [List.getD_eq_getElem?_getD, List.getElem?_eq_getElem h]
  rfl
/-! ### rows -/
inductive Bk | sum | less | times | same | below
  deriving DecidableEq
def Bk.w : Bk → Str
  | .sum => "sum" | .less => "less" | .times => "times" | .same => "same" | .below => "below"
inductive Rw
  | take (i : Nat) | num (n : Int) | bin (b : Bk) (x y : Nat) | pick (x : Nat) (ps : List Nat) | meet (ps : List Nat) | tell (x : Nat) | look (rs : List Nat) (x : Nat) | lay (rs : List Nat) (x y : Nat)
def Rw.w : Rw → Str
  | .take _ => "take" | .num _ => "num" | .bin b _ _ => b.w | .pick _ _ => "pick" | .meet _ => "meet" | .tell _ => "tell" | .look _ _ => "look" | .lay _ _ _ => "lay"
def Rw.worthy : Rw → Bool
  | .tell _ => false
  | .lay _ _ _ => false
  | _ => true
def Rest (K : PySem.W.Frag) (H : Hp) : Rw → List V → Prop
  | .take i, xs => xs = [iv i]
  | .num n, xs => xs = [.int n]
  | .bin _ x y, xs => xs = [iv x, iv y]
  | .pick x ps, xs => ∃ q, xs = [iv x, .ref q] ∧ SqT K H q (ps.map iv)
  | .meet ps, xs => ∃ q, xs = [.ref q] ∧ SqT K H q (ps.map iv)
  | .tell x, xs => xs = [iv x]
  | .look rs x, xs => ∃ q, xs = [.ref q, iv x] ∧ SqT K H q (rs.map iv)
  | .lay rs x y, xs => ∃ q, xs = [.ref q, iv x, iv y] ∧ SqT K H q (rs.map iv)
def RowAt (K : PySem.W.Frag) (H : Hp) (v : V) (r : Rw) : Prop := ∃ p xs, v = .ref p ∧ SqT K H p (.str r.w :: xs) ∧ Rest K H r xs
theorem Rest.same {K : PySem.W.Frag} {H H' : Hp} {r : Rw} {xs : List V} (h : Rest K H r xs) (e : Same H H') : Rest K H' r xs := by
  cases r with
  | pick x ps =>
    obtain ⟨q, h1, h2⟩ := h
    exact ⟨q, h1, Same.tup e h2⟩
  | meet ps =>
    obtain ⟨q, h1, h2⟩ := h
    exact ⟨q, h1, Same.tup e h2⟩
  | look rs x =>
    obtain ⟨q, h1, h2⟩ := h
    exact ⟨q, h1, Same.tup e h2⟩
  | lay rs x y =>
    obtain ⟨q, h1, h2⟩ := h
    exact ⟨q, h1, Same.tup e h2⟩
  | _ => exact h
theorem RowAt.same {K : PySem.W.Frag} {H H' : Hp} {r : Rw} {v : V} (h : RowAt K H v r) (e : Same H H') : RowAt K H' v r := by
  obtain ⟨p, xs, h1, h2, h3⟩ := h
  exact ⟨p, xs, h1, Same.tup e h2, h3.same e⟩
theorem worthy_in (r : Rw) : (!inV (.str r.w) [.str "tell", .str "lay"]) = r.worthy := by
  cases r with
  | bin b x y => cases b <;> rfl
  | _ => (first | rfl | decide)
/-! ### the state -/
def frz (M : List Addr) (H : Hp) : Hp := fun a => if a ∈ M then none else H a
theorem frz_same (M : List Addr) (H : Hp) : Same (frz M H) H := fun a o e => by
  unfold frz at e
  by_cases h : a ∈ M
  · rw [if_pos h] at e; cases e
  · rw [if_neg h] at e; exact e
theorem frz_at {M : List Addr} {H : Hp} {a : Addr} {o : HO} (h : H a = some o) (n : a ∉ M) : frz M H a = some o := by
  unfold frz
  rw [if_neg n]
  exact h
theorem frz_mem {M : List Addr} {H : Hp} {a : Addr} {o : HO} (h : frz M H a = some o) : a ∉ M := fun n => by
  unfold frz at h
  rw [if_pos n] at h
  cases h
/-- but for what is in M -/
def Bm (M : List Addr) (H H' : Hp) : Prop := ∀ a o, a ∉ M → H a = some o → H' a = some o
theorem Bm.refl (M : List Addr) (H : Hp) : Bm M H H := fun _ _ _ h => h
theorem Bm.trans {M : List Addr} {H H1 H2 : Hp} (a : Bm M H H1) (b : Bm M H1 H2) : Bm M H H2 := fun x o n h => b x o n (a x o n h)
theorem Bm.of_but {M : List Addr} {t : Addr} {H H1 : Hp} (a : But t H H1) (h : t ∈ M) : Bm M H H1 := fun x o n e => a x o (fun z => n (z ▸ h)) e
theorem Bm.of_same {M : List Addr} {H H1 : Hp} (a : Same H H1) : Bm M H H1 := fun x o n e => a x o e
theorem Bm.frz {M : List Addr} {H H' : Hp} (b : Bm M H H') : Same (frz M H) (frz M H') := fun a o e =>
  frz_at (b a o (frz_mem e) (frz_same M H a o e)) (frz_mem e)
theorem tup_frz {K : PySem.W.Frag} {H : Hp} {t a : Addr} {xs ys : List V} (h : SqT K H a xs) (e : H t = some (.lst ys)) : SqT K (frz [t] H) a xs := by
  rcases h with (h | ⟨u, h⟩) | h
  · exact .inl (.inl (frz_at h (by simpa using ne_of h e (by intro z; cases z))))
  · exact .inl (.inr ⟨u, frz_at h (by simpa using ne_of h e (by intro z; cases z))⟩)
  · exact .inr h
theorem pd_app {α β : Type} {F : α → β → Prop} : ∀ {l l' : List α} {m m' : List β}, Paired F l m → Paired F l' m' → Paired F (l ++ l') (m ++ m')
  | _, _, _, _, .nil, h => h
  | _, _, _, _, .cons h t, g => .cons h (pd_app t g)
theorem it_core {J : It} {n : Nat} {G : Hp → Prop} {Y : Nat → Hp → V → Hp → Prop} (w : Walk J n G Y) {Body : (Hp → Prop) → V → Hp → Prop} {H0 : Hp} {Qd : Hp → Prop} (Pv : Nat → Hp → Prop) (h0 : Pv 0 H0) (hG : ∀ i H, i ≤ n → Pv i H → G H)
    (hs : ∀ i x H H', i < n → Pv i H → Y i H x H' → Body (Pv (i + 1)) x H') (hd : ∀ H, Pv n H → Qd H) :
    ∃ W : Nat → Nat → Hp → Prop, (∃ m, W 0 m H0) ∧ ∀ i m H, W i m H → (J.stop i H ∧ Qd H) ∨ (J.go i H ∧ ∃ Nx : Hp → Prop, (∀ H', Nx H' → ∃ m', m' < m ∧ W (i + 1) m' H') ∧ ∀ x H', J.yld i H x H' → Body Nx x H') := by
  refine ⟨fun i m H => m = n - i ∧ i ≤ n ∧ Pv i H, ⟨n, by simp, Nat.zero_le _, h0⟩, ?_⟩
  rintro i m H ⟨rfl, hi, p⟩
  have q := hG i H hi p
  by_cases hlt : i < n
  · exact .inr ⟨w.goes i H hlt q, Pv (i + 1), fun H' p' => ⟨n - (i + 1), by omega, rfl, hlt, p'⟩, fun x H' y => hs i x H H' hlt p (w.yields i H x H' hlt q y)⟩
  · have e : i = n := by omega
    subst e
    exact .inl ⟨w.stops H q, hd H p⟩
end Gn
set_option linter.all false
namespace Gn
/-! ### reached blocks, chains of nearest ones -/
inductive Rc (E : Nat → List Nat) (x : Nat) : Nat → Prop
  | z : x ≠ 0 → Rc E x 0
  | s {a b : Nat} : Rc E x a → b ∈ E a → b ≠ x → Rc E x b
inductive Rn (E : Nat → List Nat) (x : Nat) : Nat → Nat → Prop
  | z {n : Nat} : x ≠ 0 → Rn E x n 0
  | s {n a b : Nat} : Rn E x n a → b ∈ E a → b ≠ x → Rn E x (n + 1) b
variable {E : Nat → List Nat} {x y m n : Nat}
theorem Rn.mono {k b : Nat} (h : Rn E x n b) : n ≤ k → Rn E x k b := by
  induction h generalizing k with
  | z h => exact fun _ => .z h
  | s h hb hx ih =>
    intro hk
    obtain ⟨j, rfl⟩ : ∃ j, k = j + 1 := ⟨k - 1, by omega⟩
    exact .s (ih (by omega)) hb hx
theorem Rn.rc {b : Nat} (h : Rn E x n b) : Rc E x b := by
  induction h with
  | z h => exact .z h
  | s h hb hx ih => exact .s ih hb hx
theorem Rc.rn {b : Nat} (h : Rc E x b) : ∃ n, Rn E x n b := by
  induction h with
  | z h => exact ⟨0, .z h⟩
  | s h hb hx ih =>
    obtain ⟨n, hn⟩ := ih
    exact ⟨n + 1, .s hn hb hx⟩
theorem Rc.ne {b : Nat} (h : Rc E x b) : b ≠ x := by
  cases h with
  | z h => exact fun e => h e.symm
  | s _ _ hx => exact hx
theorem Rc.lt {b : Nat} (hm : 0 < m) (hE : ∀ a, ∀ b ∈ E a, b < m) (h : Rc E x b) : b < m := by
  cases h with
  | z h => exact hm
  | s _ hb _ => exact hE _ _ hb
theorem Rc.no0 {b : Nat} (h : Rc E 0 b) : False := by
  induction h with
  | z h => exact h rfl
  | s _ _ _ ih => exact ih
theorem Rn.stab (h : ∀ b, Rn E x (n + 1) b → Rn E x n b) {k b : Nat} (r : Rn E x k b) : Rn E x n b := by
  induction r with
  | z h0 => exact .z h0
  | s _ hb hx ih => exact h _ (.s ih hb hx)
theorem cnt_lt {p q : Nat → Bool} (h : ∀ y, p y = true → q y = true) {b : Nat} (hq : q b = true) (hp : p b = false) : ∀ {l : List Nat}, b ∈ l → l.countP p < l.countP q
  | c :: l, hb => by
    have hle : l.countP p ≤ l.countP q := List.countP_mono_left fun y _ e => h y e
    rw [List.countP_cons, List.countP_cons]
    rcases List.mem_cons.mp hb with rfl | hb
    · rw [hq, hp]
      simp
      omega
    · have := cnt_lt h hq hp hb
      by_cases e : p c = true
      · rw [e, h c e]; simp; omega
      · have : (if p c = true then 1 else 0) = 0 := if_neg e
        omega
open Classical in
noncomputable def cntR (E : Nat → List Nat) (x m n : Nat) : Nat := (List.range m).countP fun b => decide (Rn E x n b)
open Classical in
theorem grow (hm : 0 < m) (hE : ∀ a, ∀ b ∈ E a, b < m) (hx : x ≠ 0) : ∀ n, (∃ j, j ≤ n ∧ ∀ b, Rn E x (j + 1) b → Rn E x j b) ∨ n + 1 ≤ cntR E x m n
  | 0 => .inr (List.countP_pos_iff.mpr ⟨0, List.mem_range.mpr hm, decide_eq_true (.z hx)⟩)
  | n + 1 => by
    rcases grow hm hE hx n with ⟨j, hj, h⟩ | h
    · exact .inl ⟨j, by omega, h⟩
    · by_cases hs : ∀ b, Rn E x (n + 1) b → Rn E x n b
      · exact .inl ⟨n, by omega, hs⟩
      · obtain ⟨b, hb⟩ := Classical.not_forall.mp hs
        obtain ⟨h1, h2⟩ := Classical.not_imp.mp hb
        refine .inr ?_
        have : cntR E x m n < cntR E x m (n + 1) := cnt_lt (b := b) (fun y e => decide_eq_true ((of_decide_eq_true e : Rn E x n y).mono (Nat.le_succ n))) (decide_eq_true h1) (decide_eq_false h2) (List.mem_range.mpr (h1.rc.lt hm hE))
        omega
open Classical in
theorem Rc.rm (hm : 0 < m) (hE : ∀ a, ∀ b ∈ E a, b < m) {b : Nat} (h : Rc E x b) : Rn E x m b := by
  by_cases hx : x = 0
  · subst hx; exact h.no0.elim
  · have hc : cntR E x m m ≤ m := Nat.le_trans (List.countP_le_length (p := _)) (by rw [List.length_range]; exact Nat.le_refl _)
    rcases grow hm hE hx m with ⟨j, hj, hs⟩ | h2
    · obtain ⟨k, hk⟩ := h.rn
      exact (hk.stab hs).mono hj
    · omega
theorem Rn.split {b : Nat} (y : Nat) (h : Rn E x n b) : Rn E y n b ∨ Rn E x n y := by
  induction h with
  | z h =>
    by_cases e : y = 0
    · subst e; exact .inr (.z h)
    · exact .inl (.z e)
  | s h hb hx ih =>
    rename_i n a b
    rcases ih with ih | ih
    · by_cases e : b = y
      · subst e; exact .inr (.s h hb hx)
      · exact .inl (.s ih hb e)
    · exact .inr (ih.mono (Nat.le_succ _))
/-- each block but the first has a lesser lead -/
def Led (m : Nat) (E : Nat → List Nat) : Prop := ∀ b, 0 < b → b < m → ∃ j, j < b ∧ b ∈ E j
theorem rc_gt (hl : Led m E) : ∀ b, b < m → b < x → Rc E x b := by
  intro b
  induction b using Nat.strongRecOn with
  | ind b ih =>
    intro hb hx
    by_cases h0 : b = 0
    · subst h0; exact .z (by omega)
    · obtain ⟨j, hj, hbj⟩ := hl b (by omega) hb
      exact .s (ih j hj (by omega) (by omega)) hbj (by omega)
theorem dom_le (hl : Led m E) {b : Nat} (hb : b < m) (h : ¬ Rc E x b) : x ≤ b := Nat.le_of_not_lt fun z => h (rc_gt hl b hb z)
inductive Ch (N : Nat → Nat) : Nat → Nat → Prop
  | r {b : Nat} : Ch N b b
  | u {x b : Nat} : 0 < b → Ch N x (N b) → Ch N x b
variable {N : Nat → Nat}
/-- nearest ones are lesser -/
def Dn (m : Nat) (N : Nat → Nat) : Prop := ∀ b, 0 < b → b < m → N b < b
theorem Ch.inv {b : Nat} (h : Ch N x b) : x = b ∨ (0 < b ∧ Ch N x (N b)) := by
  cases h with
  | r => exact .inl rfl
  | u h0 h => exact .inr ⟨h0, h⟩
theorem Ch.le (hN : Dn m N) {b : Nat} (h : Ch N x b) : b < m → x ≤ b := by
  induction h with
  | r => exact fun _ => Nat.le_refl _
  | u h0 h ih => exact fun hb => by have := hN _ h0 hb; have := ih (by omega); omega
inductive Lca (N : Nat → Nat) : Nat → Nat → Nat → Prop
  | e {a : Nat} : Lca N a a a
  | l {a b c : Nat} : b < a → Lca N (N a) b c → Lca N a b c
  | r {a b c : Nat} : a < b → Lca N a (N b) c → Lca N a b c
theorem Lca.ch (hN : Dn m N) {a b c : Nat} (h : Lca N a b c) : a < m → b < m → ∀ x, Ch N x c ↔ Ch N x a ∧ Ch N x b := by
  induction h with
  | e => exact fun _ _ x => ⟨fun h => ⟨h, h⟩, fun h => h.1⟩
  | l hba h ih =>
    intro ha hb x
    have h1 := hN _ (by omega) ha
    rw [ih (by omega) hb x]
    refine ⟨fun q => ⟨.u (by omega) q.1, q.2⟩, fun q => ⟨?_, q.2⟩⟩
    rcases q.1.inv with rfl | z
    · have := q.2.le hN hb; omega
    · exact z.2
  | r hab h ih =>
    intro ha hb x
    have h1 := hN _ (by omega) hb
    rw [ih ha (by omega) x]
    refine ⟨fun q => ⟨q.1, .u (by omega) q.2⟩, fun q => ⟨q.1, ?_⟩⟩
    rcases q.2.inv with rfl | z
    · have := q.1.le hN ha; omega
    · exact z.2
/-- what lies on all ways to a block lies so to its nearest one -/
def Bet (m : Nat) (E : Nat → List Nat) (N : Nat → Nat) : Prop := ∀ b x, 0 < b → b < m → ¬ Rc E x b → x ≠ b → ¬ Rc E x (N b)
theorem Lca.dom (hN : Dn m N) (hl : Led m E) (hB : Bet m E N) {a b c : Nat} (h : Lca N a b c) : a < m → b < m → ¬ Rc E x a → ¬ Rc E x b → ¬ Rc E x c := by
  induction h with
  | e => exact fun _ _ h _ => h
  | l hba h ih =>
    intro ha hb h1 h2
    have h3 := hN _ (by omega) ha
    have h4 := dom_le hl hb h2
    exact ih (by omega) hb (hB _ _ (by omega) ha h1 (by omega)) h2
  | r hab h ih =>
    intro ha hb h1 h2
    have h3 := hN _ (by omega) hb
    have h4 := dom_le hl ha h1
    exact ih ha (by omega) h1 (hB _ _ (by omega) hb h2 (by omega))
theorem Lca.lt (hN : Dn m N) {a b c : Nat} (h : Lca N a b c) (ha : a < m) (hb : b < m) : c ≤ a := ((h.ch hN ha hb c).mp .r).1.le hN ha
inductive LcaL (N : Nat → Nat) : Nat → List Nat → Nat → Prop
  | n {c : Nat} : LcaL N c [] c
  | c {a b d e : Nat} {bs : List Nat} : Lca N a b d → LcaL N d bs e → LcaL N a (b :: bs) e
theorem LcaL.ch (hN : Dn m N) {a e : Nat} {bs : List Nat} (h : LcaL N a bs e) : a < m → (∀ b ∈ bs, b < m) → ∀ x, Ch N x e → ∀ b ∈ a :: bs, Ch N x b := by
  induction h with
  | n => exact fun _ _ x h b hb => by rw [List.mem_singleton.mp hb]; exact h
  | c h1 h2 ih =>
    intro ha hbs x hx b hb
    rename_i a b0 d e bs
    have hb0 := hbs b0 List.mem_cons_self
    have hd := h1.lt hN ha hb0
    have h4 := ih (by omega) (fun y hy => hbs y (List.mem_cons_of_mem _ hy)) x hx
    have h5 := (h1.ch hN ha hb0 x).mp (h4 d List.mem_cons_self)
    rcases List.mem_cons.mp hb with rfl | hb
    · exact h5.1
    · rcases List.mem_cons.mp hb with rfl | hb
      · exact h5.2
      · exact h4 b (List.mem_cons_of_mem _ hb)
theorem LcaL.dom (hN : Dn m N) (hl : Led m E) (hB : Bet m E N) {a e : Nat} {bs : List Nat} (h : LcaL N a bs e) : a < m → (∀ b ∈ bs, b < m) → (∀ b ∈ a :: bs, ¬ Rc E x b) → ¬ Rc E x e := by
  induction h with
  | n => exact fun _ _ h => h _ List.mem_cons_self
  | c h1 h2 ih =>
    intro ha hbs h
    rename_i a b0 d e bs
    have hb0 := hbs b0 List.mem_cons_self
    have hd := h1.lt hN ha hb0
    refine ih (by omega) (fun y hy => hbs y (List.mem_cons_of_mem _ hy)) fun b hb => ?_
    rcases List.mem_cons.mp hb with rfl | hb
    · exact h1.dom hN hl hB ha hb0 (h _ List.mem_cons_self) (h _ (List.mem_cons_of_mem _ List.mem_cons_self))
    · exact h b (List.mem_cons_of_mem _ (List.mem_cons_of_mem _ hb))
/-- the nearest common one of a list that isn't empty -/
def LcaB (N : Nat → Nat) (ld : List Nat) (e : Nat) : Prop := ∃ a bs, ld = a :: bs ∧ LcaL N a bs e
theorem LcaB.ch (hN : Dn m N) {ld : List Nat} {e : Nat} (h : LcaB N ld e) (hl : ∀ b ∈ ld, b < m) {x : Nat} (hx : Ch N x e) : ∀ b ∈ ld, Ch N x b := by
  obtain ⟨a, bs, rfl, h⟩ := h
  exact h.ch hN (hl a List.mem_cons_self) (fun b hb => hl b (List.mem_cons_of_mem _ hb)) x hx
theorem LcaB.dom (hN : Dn m N) (hl : Led m E) (hB : Bet m E N) {ld : List Nat} {e : Nat} (h : LcaB N ld e) (hm : ∀ b ∈ ld, b < m) (hd : ∀ b ∈ ld, ¬ Rc E x b) : ¬ Rc E x e := by
  obtain ⟨a, bs, rfl, h⟩ := h
  exact h.dom hN hl hB (hm a List.mem_cons_self) (fun b hb => hm b (List.mem_cons_of_mem _ hb)) hd
theorem LcaB.le (hN : Dn m N) {ld : List Nat} {e b : Nat} (h : LcaB N ld e) (hl : ∀ b ∈ ld, b < m) (hb : b ∈ ld) : e ≤ b := (h.ch hN hl .r b hb).le hN (hl b hb)
/-- nearest ones are on all ways of so many steps -/
def Kd (m : Nat) (E : Nat → List Nat) (N : Nat → Nat) (n : Nat) : Prop := ∀ b, 0 < b → b < m → ¬ Rn E (N b) n b
theorem Ch.kd (hN : Dn m N) (hK : Kd m E N n) {a : Nat} (h : Ch N x a) : a < m → ¬ Rn E x n a := by
  induction h with
  | r => exact fun _ h => h.rc.ne rfl
  | u h0 h ih =>
    intro ha hr
    have h1 := hN _ h0 ha
    rcases hr.split (N _) with q | q
    · exact hK _ h0 ha q
    · exact ih (by omega) q
/-- the leads of a block -/
def IsLd (m : Nat) (E : Nat → List Nat) (b : Nat) (ld : List Nat) : Prop := ∀ a, a ∈ ld ↔ a < m ∧ b ∈ E a
theorem IsLd.lt {b : Nat} {ld : List Nat} (h : IsLd m E b ld) : ∀ a ∈ ld, a < m := fun a ha => ((h a).mp ha).1
theorem lead_dom {b : Nat} {ld : List Nat} (h : IsLd m E b ld) (hd : ¬ Rc E x b) (hx : x ≠ b) : ∀ a ∈ ld, ¬ Rc E x a := fun a ha z => hd (.s z ((h a).mp ha).2 (Ne.symm hx))
theorem step_bet (hN : Dn m N) (hl : Led m E) (hB : Bet m E N) {b e : Nat} {ld : List Nat} (hld : IsLd m E b ld) (h : LcaB N ld e) (hd : ¬ Rc E x b) (hx : x ≠ b) : ¬ Rc E x e :=
  h.dom hN hl hB hld.lt (lead_dom hld hd hx)
theorem step_lt (hN : Dn m N) (hl : Led m E) {b e : Nat} {ld : List Nat} (h0 : 0 < b) (hb : b < m) (hld : IsLd m E b ld) (h : LcaB N ld e) : e < b := by
  obtain ⟨j, hj, hbj⟩ := hl b h0 hb
  have := h.le hN hld.lt ((hld j).mpr ⟨by omega, hbj⟩)
  omega
theorem step_kd (hE : ∀ a, E a ≠ [] → a < m) (hN : Dn m N) (hK : Kd m E N n) {b e : Nat} {ld : List Nat} (h0 : 0 < b) (hld : IsLd m E b ld) (h : LcaB N ld e) : ¬ Rn E e (n + 1) b := by
  intro z
  cases z with
  | z _ => omega
  | s hr hb hx =>
    rename_i a
    have ha : a ∈ ld := (hld a).mpr ⟨hE a (fun q => by rw [q] at hb; cases hb), hb⟩
    exact (h.ch hN hld.lt .r a ha).kd hN hK (hld.lt a ha) hr
theorem ch_of_dom (hl : Led m E) (hN : Dn m N) (hB : Bet m E N) : ∀ b, b < m → ¬ Rc E x b → Ch N x b := by
  intro b
  induction b using Nat.strongRecOn with
  | ind b ih =>
    intro hb hd
    by_cases e : x = b
    · subst e; exact .r
    · have h0 : 0 < b := by
        have := dom_le hl hb hd
        omega
      have := hN b h0 hb
      exact .u h0 (ih _ this (by omega) (hB b x h0 hb hd e))
/-- by so many steps as there are blocks nothing changes any more -/
theorem step_end (hm : 0 < m) (hE : ∀ a, ∀ b ∈ E a, b < m) (hE2 : ∀ a, E a ≠ [] → a < m) (hl : Led m E) (hN : Dn m N) (hB : Bet m E N) (hK : Kd m E N m) {b e : Nat} {ld : List Nat} (h0 : 0 < b) (hb : b < m) (hld : IsLd m E b ld) (h : LcaB N ld e) : e = N b := by
  have h1 := hN b h0 hb
  have h2 := step_lt hN hl h0 hb hld h
  have hD : ∀ {x a : Nat}, Ch N x a → a < m → ¬ Rc E x a := fun hc ha z => hc.kd hN hK ha (z.rm hm hE)
  have h3 : ¬ Rc E (N b) b := hD (.u h0 .r) hb
  have h4 : ¬ Rc E (N b) e := step_bet hN hl hB hld h h3 (by omega)
  have h5 := dom_le hl (by omega) h4
  have h6 : ¬ Rc E e b := fun z => by
    cases z with
    | z _ => omega
    | s hr hb' hx =>
      rename_i a
      have ha : a ∈ ld := (hld a).mpr ⟨hE2 a (fun q => by rw [q] at hb'; cases hb'), hb'⟩
      exact hD (h.ch hN hld.lt .r a ha) (hld.lt a ha) hr
  rcases (ch_of_dom hl hN hB b hb h6).inv with q | q
  · omega
  · have := q.2.le hN (by omega)
    omega
/-- where nothing changes, chains are what lies on all ways -/
theorem ch_dom (hm : 0 < m) (hE : ∀ a, ∀ b ∈ E a, b < m) (hE2 : ∀ a, E a ≠ [] → a < m) (hE0 : ∀ a, 0 ∉ E a) (hl : Led m E) (hN : Dn m N) (hB : Bet m E N) (hF : ∀ b, 0 < b → b < m → ∃ ld, IsLd m E b ld ∧ LcaB N ld (N b)) {b : Nat} (hb : b < m) : Ch N x b ↔ ¬ Rc E x b := by
  refine ⟨fun hc hr => ?_, ch_of_dom hl hN hB b hb⟩
  revert hc
  induction hr with
  | z hx =>
    intro hc
    rcases hc.inv with q | q
    · exact hx q
    · exact Nat.lt_irrefl _ q.1
  | s hr hba hx ih =>
    intro hc
    rename_i a b
    have ha : a < m := hE2 a (fun q => by rw [q] at hba; cases hba)
    rcases hc.inv with q | q
    · exact hx q.symm
    · obtain ⟨ld, h1, h2⟩ := hF b q.1 (hE a b hba)
      exact ih ha (h2.ch hN h1.lt q.2 a ((h1 a).mpr ⟨ha, hba⟩))
theorem asc_eq : ∀ {l k : List Nat}, l.Pairwise (· < ·) → k.Pairwise (· < ·) → (∀ x, x ∈ l ↔ x ∈ k) → l = k
  | [], [], _, _, _ => rfl
  | [], b :: k, _, _, h => by have := (h b).mpr List.mem_cons_self; cases this
  | a :: l, [], _, _, h => by have := (h a).mp List.mem_cons_self; cases this
  | a :: l, b :: k, hl, hk, h => by
    have hl' := List.pairwise_cons.mp hl
    have hk' := List.pairwise_cons.mp hk
    have e : a = b := by
      rcases List.mem_cons.mp ((h a).mp List.mem_cons_self) with q | q
      · exact q
      · rcases List.mem_cons.mp ((h b).mpr List.mem_cons_self) with z | z
        · exact z.symm
        · have := hk'.1 a q; have := hl'.1 b z; omega
    subst e
    rw [asc_eq hl'.2 hk'.2 fun x => ⟨fun hx => ?_, fun hx => ?_⟩]
    · rcases List.mem_cons.mp ((h x).mp (List.mem_cons_of_mem _ hx)) with q | q
      · have := hl'.1 x hx; omega
      · exact q
    · rcases List.mem_cons.mp ((h x).mpr (List.mem_cons_of_mem _ hx)) with q | q
      · have := hk'.1 x hx; omega
      · exact q
end Gn
set_option Elab.async false
set_option linter.all false
set_option maxRecDepth 100000
set_option maxHeartbeats 2000000
namespace Gx
open PySem PySem.Spec PyProof.Rows L2 GxR GenW
section
variable {X : Cx} {pins : List (Addr × Obj)} {σ : L2.St} {H : Hp} {s : Shared}
/-- the frame of a generator expression that we began: s, H as its frame was made; fp its iterator's objects -/
abbrev genX (X : Cx) (A : Around) (s : Shared) (H : Hp) (ce : Env) (fp : List Addr) (pn : List (Addr × Obj)) : Cx :=
  { X with A := A, s_0 := s, H_0 := H, env := ce, outer := X.stack, stack := ce :: X.stack, ex := fp, fn := fun x => ce.scope.names.lookup x == some NameKind.cell, pn := pn, xe := fun _ _ => False }
theorem inv_sleep {s' : Shared} (I : Inv X pins σ H s) (e : s'.heap = s.heap) (eo : s'.os = s.os) (hb : AllBare s'.gens) : Inv X pins σ H s' := by
  obtain ⟨h', g', d', t', o'⟩ := s'
  obtain rfl : h' = s.heap := e
  obtain rfl : o' = s.os := eo
  exact ⟨I.ok, I.os, hb, I.base, I.loc, I.cell, I.free, I.freeC, I.pin, I.hok, I.len⟩
theorem gen_start {scope : Scope} {own : List (Str × Nat)} {fp : List Addr} {A : Around} {code : Value} {pn : List (Addr × Obj)} {s' : Shared} {m : Str → Option Value} {ce : Env} (I : Inv X pins σ H s) (ok : BlkOk X.N X.env.scope scope own)
    (hcell : ∀ y ∈ scope.names, y.2 ≠ .cell) (hN : X.N.Nodup) (hfp : ∀ b ∈ fp, FpOk X pins H b ∧ b < s.heap.objs.size)
    (hce : ce = genEnv scope (cloFrom X.env.cells scope.names []) s.heap.objs.size code builtinsNs X.env) (hA : A.frames = some (ce :: X.stack)) (hh : A.handled = none)
    (hos : s'.os = s.os) (hb : AllBare s'.gens) (kp : ∀ b o, s.heap.get? b = some o → s'.heap.get? b = some o) (hn : s'.heap.Ns s.heap.objs.size m)
    (hpn : ∀ p ∈ pn, s.heap.objs.size < p.1 ∧ s'.heap.get? p.1 = some p.2 ∧ ∀ v, p.2.data ≠ .cell v) :
    Inv (genX X A s H ce fp pn) [] (wipe σ (own.map (·.2))) H s' := by
  have hfree : ∀ y ∈ scope.names, y.2 = .free → ∃ c, X.env.cells.lookup y.1 = some c := fun y hy e => by
    rcases ok.free y hy e with k | k
    · exact I.ok.has _ (.inl k)
    · exact I.ok.has _ (.inr k)
  have hL : ce.locals = s.heap.objs.size := by rw [hce]; rfl
  have hcl : ce.cells = cloFrom X.env.cells scope.names [] := by rw [hce]; rfl
  have hsc : ce.scope = scope := by rw [hce]; rfl
  have cm : ∀ {y c}, (y, c) ∈ cloFrom X.env.cells scope.names [] → X.env.cells.lookup y = some c ∧ c < s.heap.objs.size := fun {y c} hm => by
    rcases cloFrom_mem hm with h1 | ⟨h1, h2⟩
    · cases h1
    · obtain ⟨c', hc'⟩ := hfree _ h1 rfl
      have hc2 : X.env.cells.lookup y = some c' := hc'
      rw [hc2] at h2
      have h3 : c = c' := h2
      subst h3
      obtain ⟨w, z⟩ := I.cell _ _ hc2
      exact ⟨hc2, z.lt⟩
  have mem : ∀ {y c}, ce.cells.lookup y = some c → X.env.cells.lookup y = some c ∧ c < s.heap.objs.size := fun {y c} e => by
    rw [hcl] at e
    exact cm (PySem.mem_of_lookup e)
  have look : ∀ {y}, scope.names.lookup y = some .free → ∃ c, ce.cells.lookup y = some c ∧ X.env.cells.lookup y = some c := fun {y} hl => by
    have hy : (y, NameKind.free) ∈ scope.names := PySem.mem_of_lookup hl
    obtain ⟨c', e'⟩ := mem_lookup (cloFrom_has (cells := X.env.cells) (acc := []) hy)
    rw [← hcl] at e'
    exact ⟨c', e', (mem e').1⟩
  have okB : (genX X A s H ce fp pn).Ok := by
    refine ⟨I.ok.mod, by show ce.scope.kind = _; rw [hsc]; exact ok.kind, by show ce.globals = _; rw [hce]; exact I.ok.glob, by show ce.builtins = _; rw [hce]; rfl, by show s.heap.objs.size ≤ ce.locals; rw [hL]; exact Nat.le_refl _,
      fun y z c e1 e2 => ?_, fun y hy => ?_, fun y c z e => ?_, fun _ => hh, hA, .inr ⟨rfl, ?_⟩, fun b hb => ⟨?_, fun y c e z => ?_⟩, I.bs, Nat.le_trans I.ok.bsz I.sz, fun b o e hb => ?_, fun b hb z => ?_, I.stack, I.stkFree⟩
    · exact I.ok.inj y z c (mem e1).1 (mem e2).1
    · show ∃ c, ce.cells.lookup y = some c
      rcases hy with hy | hy
      · have hy : ce.scope.names.lookup y = some .cell := hy
        rw [hsc] at hy
        exact absurd rfl (hcell _ (PySem.mem_of_lookup hy))
      · have hy : ce.scope.names.lookup y = some .free := hy
        rw [hsc] at hy
        obtain ⟨c, h1, _⟩ := look hy
        exact ⟨c, h1⟩
    · have z : (ce.scope.names.lookup y == some NameKind.cell) = true := z
      rw [hsc] at z
      exact absurd rfl (hcell _ (PySem.mem_of_lookup (eq_of_beq z)))
    · show ce.frame = some ce.locals
      rw [hce]; rfl
    · show b ≠ ce.locals
      rw [hL]; exact Nat.ne_of_lt (hfp b hb).2
    · exact (hfp b hb).1.2.2.2.2.1 y c (mem e).1 z
    · rcases (hfp b hb).1.2.2.2.1 with z | z
      · exact I.ok.noex b o e z
      · exact absurd (Nat.lt_of_lt_of_le (Heap.lt_size e) (Nat.le_trans I.ok.bsz z)) (Nat.lt_irrefl _)
    · rcases List.mem_cons.mp (I.stkSub b z) with z | z
      · exact (hfp b hb).1.2.1 z
      · exact (hfp b hb).1.2.2.1 z
  refine ⟨okB, hos, hb, Un.kept kp, ⟨m, ?_, fun i y av e1 e2 e3 => ?_⟩, fun y c e => ?_, ?_, fun y c e => ?_, fun p hp => ?_, I.hok.kept kp, by rw [wipe_length]; exact I.len⟩
  · show Heap.Ns _ ce.locals _
    rw [hL]
    exact hn
  · obtain ⟨e2, hne⟩ := wipe_some e2
    have hfr : scope.names.lookup y = some .free := by
      have key : ∀ k, ce.scope.names.lookup y = some k → k = .local ∨ k = .cell ∨ k = .free → scope.names.lookup y = some .free := fun k hk hk' => by
        rw [hsc] at hk
        have no : ¬ (k = .local ∨ k = .cell) := fun hh => by
          rcases ok.own _ (PySem.mem_of_lookup hk) hh with e' | e'
          · obtain ⟨p, hp, hpy⟩ := List.mem_map.mp e'
            have e3 := ok.ix p hp
            have : p.1 = y := hpy
            rw [this] at e3
            exact hne (List.mem_map.mpr ⟨p, hp, nodup_ix hN e3 e1⟩)
          · exact e' (List.mem_of_getElem? e1)
        rcases hk' with rfl | rfl | rfl
        · exact absurd (.inl rfl) no
        · exact absurd (.inr rfl) no
        · exact hk
      have e3 : Vis ce.scope y := e3
      rcases e3 with e3 | e3 | e3
      · exact key _ e3 (.inl rfl)
      · exact key _ e3 (.inr (.inl rfl))
      · exact key _ e3 (.inr (.inr rfl))
    obtain ⟨m0, hn0, hl⟩ := I.loc
    have hvis : Vis X.env.scope y := (ok.free _ (PySem.mem_of_lookup hfr) rfl).elim (fun k => .inr (.inl k)) (fun k => .inr (.inr k))
    obtain ⟨w, r, q⟩ := hl i y av e1 e2 hvis
    refine ⟨w, r, .inr ⟨.inr ?_, ?_⟩⟩
    · show ce.scope.names.lookup y = _
      rw [hsc]; exact hfr
    obtain ⟨c, h1, h2⟩ := look hfr
    rcases q with ⟨k, _⟩ | ⟨_, c', e', z⟩
    · have k : X.env.scope.names.lookup y = some .local := k
      rcases ok.free _ (PySem.mem_of_lookup hfr) rfl with k' | k' <;> rw [show X.env.scope.names.lookup y = _ from k'] at k <;> cases k
    · rw [h2] at e'; cases e'
      exact ⟨c, h1, z.keeps kp⟩
  · obtain ⟨w, z⟩ := I.cell y c (mem e).1
    exact ⟨w, z.keeps kp⟩
  · show H ce.locals = none
    rw [hL]; exact I.hok.fresh (Nat.le_refl _)
  · exact I.freeC y c (mem e).1
  · rcases List.mem_append.mp hp with hp | hp
    · obtain ⟨h1, h2, h3⟩ := hpn p hp
      refine ⟨h2, I.hok.fresh (Nat.le_of_lt h1), ?_, fun z => ?_, h3⟩
      · show p.1 ≠ ce.locals
        rw [hL]; exact Nat.ne_of_gt h1
      · have z : p.1 ∈ frs X.stack := z
        rcases List.mem_cons.mp (I.stkSub _ z) with z | z
        · have := I.lt
          rw [← z] at this
          exact absurd (Nat.lt_trans this h1) (Nat.lt_irrefl _)
        · exact I.nofs (Nat.le_of_lt h1) z
    · cases hp
end
theorem over_loop {A : Around} {elt : Expr} {cs : List Comprehension} {scope : Scope} {pos : Pos} {it acc : Value} {ce : Env} : A.over (.compLoop (.GeneratorExp elt cs scope pos) 0 it acc ce) [] = A.deeper ce := by
  first
    | rfl
    | (simp [Around.over, Around.deeper, Code.envs, Code.isFrame, Code.env?, pushEnvs])
/-- the end: the heap as it is then, c told -/
def Fin (X : Cx) (fp : List Addr) (H : Hp) (s : Shared) (Q : VK) (c : Bool) (s1 : Shared) : Prop :=
  ∃ H', s1.os = s.os ∧ AllBare s1.gens ∧ Un (frs X.stack) fp H H' s.heap s1.heap ∧ HOk X.prog X.w H' s1.heap ∧ Q (.bl c) H'
def EndB (X : Cx) (fp : List Addr) (H : Hp) (s : Shared) (Q : VK) (b : Bool) : Nat → Shared → Shared → Prop := fun _ _ s1 => Fin X fp H s Q (!b) s1
def RB (X : Cx) (fp : List Addr) (H : Hp) (s : Shared) (Q : VK) (b : Bool) : GenEnd := fun n s₀ r s1 => r = .ok .next ∧ EndB X fp H s Q b n s₀ s1
def YB (X : Cx) (fp : List Addr) (H : Hp) (s : Shared) (Q : VK) (b : Bool) (a : Addr) (g : Nat) : Protocol := fun _ _ v s1 kap =>
  AllBare s1.gens ∧ s1.heap.NoLimit ∧ s1.heap.IsGen a g ∧ ∃ c : Bool, v = .bool c ∧ (c = b → Fin X fp H s Q b s1) ∧
    (c ≠ b → ∀ s' : Shared, s'.heap = s1.heap → s'.os = s1.os → AllBare s'.gens → kap (.send .none) s')
/-- a turn's test: b ends it -/
def tTurn (b : Bool) (J : It) (σ : L2.St) (g : TG) (tt : TT) (te : TE) (vs : List Nat) (Q : VK) (W : Nat → Nat → Hp → Prop) (i m : Nat) (H : Hp) : Prop :=
  (J.stop i H ∧ Q (.bl (!b)) H) ∨ (J.go i H ∧ ∃ Nx : Hp → Prop, (∀ H', Nx H' → ∃ m', m' < m ∧ W (i + 1) m' H') ∧ ∀ x H', J.yld i H x H' → g x (wipe σ vs) H' fun σ2 H2 => wipe σ2 vs = wipe σ vs ∧ tt σ2 H2 fun ok H3 =>
    if ok = true then te σ2 H3 fun y H4 => ∃ c : Bool, y = .bl c ∧ (c = b → Q (.bl b) H4) ∧ (c ≠ b → Nx H4) else Nx H3)
section
variable {X : Cx} {σ : L2.St} {H₀ : Hp} {s₄ : Shared}
theorem seg_loop {k : Nat} {A : Around} {b : Bool} {elt tg iter : Expr} {ifs : List Expr} {scope : Scope} {pos : Pos} {ce : Env} {fp : List Addr} {a : Addr} {gn : Nat} {go : Obj} {it : Addr} {tn : Nat → Heap → Prop} {J : It} {g : TG} {tt : TT} {te : TE} {vs : List Nat} {Q : VK} {W : Nat → Nat → Hp → Prop}
    (hc : X.calm = true) (hr : Room k (A.deeper ce)) (hco : ce.scope.isCoroutine = false) (hgo : ∀ h : Heap, h.get? a = some go → h.IsGen a gn) (haf : ∀ b ∈ fp, a ≠ b)
    (T : Turn X.prog X.w X.K tg J fp it tn)
    (hg : PG (genX X (A.deeper ce) s₄ H₀ ce fp [(a, go)]) tg g) (ht : PTs (genX X (A.deeper ce) s₄ H₀ ce fp [(a, go)]) ifs tt) (he : PE (genX X (A.deeper ce) s₄ H₀ ce fp [(a, go)]) elt te)
    (turn : ∀ i m H, W i m H → tTurn b J σ g tt te vs Q W i m H) :
    ∀ (m n i : Nat) (H : Hp) (s s₀ : Shared), m < n → W i m H → Inv (genX X (A.deeper ce) s₄ H₀ ce fp [(a, go)]) [] (wipe σ vs) H s → tn i s.heap → (∀ b ∈ fp, H b = none) →
      Seg (model X.prog X.w) A (RB X fp H₀ s₄ Q b) (YB X fp H₀ s₄ Q b a gn) n s₀ (.compLoop (.GeneratorExp elt [⟨tg, iter, ifs, 0⟩] scope pos) 0 (.ref it) .none ce)
        ((model X.prog X.w).den (.compLoop (.GeneratorExp elt [⟨tg, iter, ifs, 0⟩] scope pos) 0 (.ref it) .none ce)) [] s := by
  have stat : ∀ {σ' : L2.St} {H' : Hp} {s' : Shared}, Inv (genX X (A.deeper ce) s₄ H₀ ce fp [(a, go)]) [] σ' H' s' → (∀ b ∈ fp, H' b = none) → ∀ b ∈ fp, FpOk (genX X (A.deeper ce) s₄ H₀ ce fp [(a, go)]) [] H' b := fun {σ' H' s'} I' hn b hb =>
    ⟨hn b hb, (I'.ok.exf b hb).1, I'.ok.exfs b hb, .inl hb, fun x c e => (I'.ok.exf b hb).2 x c e, fun p hp => by
      have hp : p ∈ [(a, go)] ++ ([] : List (Addr × Obj)) := hp
      rw [List.append_nil] at hp
      rw [List.mem_singleton.mp hp]
      exact haf b hb⟩
  intro m
  induction m using Nat.strongRecOn with
  | ind m ih =>
    intro n i H s s₀ hmn w I st nf
    show Seg _ A _ _ _ s₀ _ ((compTurn (.GeneratorExp elt [⟨tg, iter, ifs, 0⟩] scope pos) 0 (.ref it) .none ce).onRaise (leaving ce)) [] s
    rw [compTurn_gen, Sem.onRaise_eq_wrap]
    refine seg_bind_wrap (wpAny_standAt ?_)
    rcases turn i m H w with ⟨stop, qq⟩ | ⟨go', Nx, hNx, step⟩
    · refine seg_bind_wrap ?_
      rw [over_loop]
      refine thnF (T.done (genX X (A.deeper ce) s₄ H₀ ce fp [(a, go)]) rfl rfl rfl hc i [] s _ H (fun _ _ => False) I (stat I nf) st stop) fun r s6 ⟨hr, I6⟩ => ?_
      subst hr
      exact seg_end (.ok .next) ⟨rfl, H, I6.os, I6.bare, I6.base, I6.hok, qq⟩
    · refine seg_bind_wrap ?_
      rw [over_loop]
      refine thnF (T.item (genX X (A.deeper ce) s₄ H₀ ce fp [(a, go)]) rfl rfl rfl hc i [] s _ H (fun _ _ => False) I (stat I nf) st go') fun r s6 ⟨u, hr, h6⟩ => ?_
      subst hr
      refine seg_bind_wrap ?_
      rw [over_loop]
      refine thnF h6 fun _ s7 ⟨x, H7, I7, r7, y7, st7, n7⟩ => ?_
      have I7' := I7.pinned (stat I7 n7) (T.obj _ _ st7)
      refine seg_bind_wrap ?_
      rw [over_loop]
      refine thnF (hg.run _ s7 _ H7 x u _ I7' r7 (step x H7 y7)) fun _ s8 ⟨σ8, H8, I8, hw8, q8⟩ => ?_
      refine seg_bind_wrap ?_
      rw [over_loop]
      refine thnF (ht.run _ s8 σ8 H8 _ I8 q8) fun ok s9 ⟨H9, I9, q9⟩ => ?_
      have fin : ∀ {s' : Shared} {H' : Hp} (n' : Nat) (s₀' : Shared), Inv (genX X (A.deeper ce) s₄ H₀ ce fp [(a, go)]) ([] ++ pinsAt fp s7.heap) σ8 H' s' → Nx H' → m < n' + 1 →
          Seg (model X.prog X.w) A (RB X fp H₀ s₄ Q b) (YB X fp H₀ s₄ Q b a gn) n' s₀' (.compLoop (.GeneratorExp elt [⟨tg, iter, ifs, 0⟩] scope pos) 0 (.ref it) .none ce)
            ((model X.prog X.w).den (.compLoop (.GeneratorExp elt [⟨tg, iter, ifs, 0⟩] scope pos) 0 (.ref it) .none ce)) [] s' := fun {s' H'} n' s₀' I' nx hmn' => by
        obtain ⟨m', hm, w'⟩ := hNx H' nx
        have pin' : ∀ b ∈ fp, ∀ o, s7.heap.get? b = some o → s'.heap.get? b = some o ∧ H' b = none := fun b hb o e =>
          let z := I'.pin (b, o) (List.mem_append_right _ (List.mem_append_right _ (mem_pinsAt hb e)))
          ⟨z.1, z.2.1⟩
        have hl : (wipe σ vs).length = σ8.length := by rw [← hw8, wipe_length]
        refine ih m' hm n' (i + 1) H' s' s₀' (by omega) w' ((I'.unpinned (pins := [])).weak hl (fun j v e => ?_)) (T.keep _ _ _ st7 fun b hb o e => (pin' b hb o e).1) fun b hb => ?_
        · rw [← hw8] at e
          exact (wipe_some e).1
        · obtain ⟨o, e, _⟩ := T.obj _ _ st7 b hb
          exact (pin' b hb o e).2
      cases ok with
      | false =>
        simp only [Bool.false_eq_true, if_false] at q9 ⊢
        exact seg_again rfl (fin n s₀ I9 q9 (by omega))
      | true =>
        simp only [if_true] at q9 ⊢
        have hy : ∀ v, yieldOut ce v = yieldValue v := fun v => by simp only [yieldOut, hco, Bool.false_eq_true, if_false]
        simp only [hy]
        rw [Sem.bind_eq_wrap', Sem.bind_eq_wrap', Sem.wrap_wrap, Sem.wrap_wrap]
        refine seg_wrap ?_
        rw [over_loop]
        refine thnF (he.run _ s9 σ8 H9 _ I9 q9) fun z s10 ⟨yv, H10, I10, r10, c, ec, qe, qn⟩ => ?_
        subst ec
        have rz : z = .bool c := r10
        subst rz
        obtain ⟨n', hn'⟩ : ∃ n', n = n' + 1 := by
          cases n with
          | zero => exact absurd hmn (Nat.not_lt_zero _)
          | succ n' => exact ⟨n', rfl⟩
        subst hn'
        have ga : s10.heap.get? a = some go := (I10.pin (a, go) (List.mem_append_left _ (List.mem_singleton.mpr rfl))).1
        refine seg_at (seg_yield rfl rfl rfl ⟨I10.bare, I10.nolimit, hgo _ ga, c, rfl, fun e => ⟨H10, I10.os, I10.bare, I10.base, I10.hok, qe e⟩, fun e s'' e1 e2 e3 => ?_⟩)
        exact seg_again rfl (fin n' s'' (inv_sleep I10 e1 e2 e3) (qn e) hmn)
end
end Gx
set_option Elab.async false
set_option linter.all false
set_option maxRecDepth 100000
set_option maxHeartbeats 2000000
namespace Gx
open PySem PySem.Spec PyProof.Rows L2 GxR GenW
theorem over_start {A : Around} {elt : Expr} {cs : List Comprehension} {scope : Scope} {pos : Pos} {it acc : Value} {ce : Env} : A.over (.compStart (.GeneratorExp elt cs scope pos) 0 it acc ce) [] = A.deeper ce := by
  first
    | rfl
    | (simp [Around.over, Around.deeper, Code.envs, Code.isFrame, Code.env?, pushEnvs])
theorem seg_start {M : Model} {prog : Program} {w : World} (hM : M = model prog w) {A : Around} {R : GenEnd} {Y : Protocol} {n : Nat} {s₀ s : Shared} {elt tg iter : Expr} {ifs : List Expr} {scope : Scope} {pos : Pos} {ce : Env} {it : Addr}
    (self : ∀ (A' : Around) (Q : Value → Shared → Prop) (E : Value → Shared → Prop), Q (.ref it) s → wpAny M A' (pyIter (.ref it)) Q E s)
    (loop : Seg M A R Y n s₀ (.compLoop (.GeneratorExp elt [⟨tg, iter, ifs, 0⟩] scope pos) 0 (.ref it) .none ce) (M.den (.compLoop (.GeneratorExp elt [⟨tg, iter, ifs, 0⟩] scope pos) 0 (.ref it) .none ce)) [] s) :
    Seg M A R Y n s₀ (.compStart (.GeneratorExp elt [⟨tg, iter, ifs, 0⟩] scope pos) 0 (.ref it) .none ce) (M.den (.compStart (.GeneratorExp elt [⟨tg, iter, ifs, 0⟩] scope pos) 0 (.ref it) .none ce)) [] s := by
  subst hM
  show Seg _ A _ _ _ s₀ _ ((compStart (.GeneratorExp elt [⟨tg, iter, ifs, 0⟩] scope pos) 0 (.ref it) .none ce).onRaise (leaving ce)) [] s
  unfold compStart
  rw [Sem.onRaise_eq_wrap]
  show Seg _ A _ _ _ s₀ _ ((ask >>= _).wrap _ _ _ _) [] s
  refine seg_bind_wrap (wpAny_askSetting ?_)
  split
  · exact seg_again rfl loop
  · first
      | exact seg_bind_wrap (wpAny_rule (seg_bind_wrap (wpAny_standAt (seg_bind_wrap (self _ _ _ (seg_again rfl loop))))))
      | (refine seg_bind_wrap (wpAny_rule ?_); show Seg _ A _ _ _ s₀ _ ((standAt iter.pos >>= _).wrap _ _ _ _) [] s; exact seg_bind_wrap (wpAny_standAt (seg_bind_wrap (self _ _ _ (seg_again rfl loop)))))
section
variable {X : Cx} {H₀ : Hp} {s₄ : Shared} {fp : List Addr} {Q : VK} {a : Addr} {g : Nat} {A : Around} {RR : Result → Shared → Prop}
theorem fin_after {c : Bool} {s1 : Shared} {gs : GenState} {h' : Heap} (hf : Fin X fp H₀ s₄ Q c s1) (hb : gs.bare = true) (hk : ∀ b o, s1.heap.get? b = some o → h'.get? b = some o) : Fin X fp H₀ s₄ Q c { s1.setGen g gs with heap := h' } := by
  obtain ⟨H', h1, h2, h3, h4, h5⟩ := hf
  exact ⟨H', h1, allBare_setGen h2 hb, h3.trans (Un.kept hk), h4.kept hk, h5⟩
theorem any_gen (hh : A.handled = none) (hd : A.depth < recursionLimit) (hfin : ∀ c s', Fin X fp H₀ s₄ Q c s' → RR (.ok (.ret (.bool c))) s') : ∀ (n : Nat) (s : Shared), s.heap.IsGen a g → s.heap.NoLimit →
      (∃ gs, s.gens[g]? = some gs ∧ gs.Goes (model X.prog X.w) A.in1.in1 (RB X fp H₀ s₄ Q true) (YB X fp H₀ s₄ Q true a g) n (.send .none) (s.setGen g .running)) →
      codeAny (model X.prog X.w) A (.builtin "any.loop" ⟨[.ref a], []⟩) RR s := by
  intro n
  induction n with
  | zero =>
    intro s hg hl ⟨gs, hgs, hgo⟩
    refine codeAny_builtin F.entry_any_loop ?_
    rw [Around.under_plainId F.plain_any_loop _]
    show wpAny _ A.in1 (pyNext (.ref a) >>= _) _ _ s
    refine wpAny_bind (wpAny_pyNext_genexpQ (P := EndB X fp H₀ s₄ Q true) hh hl hd hg hgs hgo (fun v s₁ gs' hb hv => ?_) (fun s₁ hp h' hk => ?_))
    · obtain ⟨hb1, hl1, hg1, c, rfl, hf, hn⟩ := hv
      refine wpAny_bind (wpAny_holding (wpAny_truthy_bool ?_))
      refine wpAny_bind (wpAny_letGo ?_)
      cases c with
      | false => exact False.elim (hn (by decide) _ rfl rfl hb1)
      | true =>
        simp only [if_true]
        refine wpAny_bind (wpAny_rule (wpAny_pure ?_))
        exact hfin true _ (fin_after (h' := s₁.heap) (hf rfl) hb fun _ _ e => e)
    · refine wpAny_bind (wpAny_rule (wpAny_pure ?_))
      exact hfin false _ (fin_after hp rfl hk)
  | succ n ih =>
    intro s hg hl ⟨gs, hgs, hgo⟩
    have hgl : g < s.gens.size := (Array.getElem?_eq_some_iff.mp hgs).1
    refine codeAny_builtin F.entry_any_loop ?_
    rw [Around.under_plainId F.plain_any_loop _]
    show wpAny _ A.in1 (pyNext (.ref a) >>= _) _ _ s
    refine wpAny_bind (wpAny_gsz (n := g + 1) hgl (wpAny_pyNext_genexpQ (P := EndB X fp H₀ s₄ Q true) hh hl hd hg hgs hgo (fun v s₁ gs' hb hv => ?_) (fun s₁ hp h' hk => ?_)))
    · intro hsz
      obtain ⟨hb1, hl1, hg1, c, rfl, hf, hn⟩ := hv
      have hsz1 : g < s₁.gens.size := by
        have q : (s₁.setGen g gs').gens.size = s₁.gens.size := setGen_size _ _ _
        have hsz' : g + 1 ≤ (s₁.setGen g gs').gens.size := hsz
        omega
      refine wpAny_bind (wpAny_holding (wpAny_truthy_bool ?_))
      refine wpAny_bind (wpAny_letGo ?_)
      cases c with
      | false =>
        simp only [Bool.false_eq_true, if_false]
        refine wpAny_pure ⟨plainId_quiet F.plain_any_loop _, ih (s₁.setGen g gs') hg1 hl1 ⟨gs', setGen_at hsz1, ?_⟩⟩
        exact hn (by decide) _ rfl rfl (allBare_setGen (s := s₁.setGen g gs') (allBare_setGen hb1 hb) rfl)
      | true =>
        simp only [if_true]
        refine wpAny_bind (wpAny_rule (wpAny_pure ?_))
        exact hfin true _ (fin_after (h' := s₁.heap) (hf rfl) hb fun _ _ e => e)
    · intro _
      refine wpAny_bind (wpAny_rule (wpAny_pure ?_))
      exact hfin false _ (fin_after hp rfl hk)
theorem all_gen (hh : A.handled = none) (hd : A.depth < recursionLimit) (hfin : ∀ c s', Fin X fp H₀ s₄ Q c s' → RR (.ok (.ret (.bool c))) s') : ∀ (n : Nat) (s : Shared), s.heap.IsGen a g → s.heap.NoLimit →
      (∃ gs, s.gens[g]? = some gs ∧ gs.Goes (model X.prog X.w) A.in1.in1 (RB X fp H₀ s₄ Q false) (YB X fp H₀ s₄ Q false a g) n (.send .none) (s.setGen g .running)) →
      codeAny (model X.prog X.w) A (.builtin "all.loop" ⟨[.ref a], []⟩) RR s := by
  intro n
  induction n with
  | zero =>
    intro s hg hl ⟨gs, hgs, hgo⟩
    refine codeAny_builtin F.entry_all_loop ?_
    rw [Around.under_plainId F.plain_all_loop _]
    show wpAny _ A.in1 (pyNext (.ref a) >>= _) _ _ s
    refine wpAny_bind (wpAny_pyNext_genexpQ (P := EndB X fp H₀ s₄ Q false) hh hl hd hg hgs hgo (fun v s₁ gs' hb hv => ?_) (fun s₁ hp h' hk => ?_))
    · obtain ⟨hb1, hl1, hg1, c, rfl, hf, hn⟩ := hv
      refine wpAny_bind (wpAny_holding (wpAny_truthy_bool ?_))
      refine wpAny_bind (wpAny_letGo ?_)
      cases c with
      | true => exact False.elim (hn (by decide) _ rfl rfl hb1)
      | false =>
        simp only [Bool.false_eq_true, if_false]
        refine wpAny_bind (wpAny_rule (wpAny_pure ?_))
        exact hfin false _ (fin_after (h' := s₁.heap) (hf rfl) hb fun _ _ e => e)
    · refine wpAny_bind (wpAny_rule (wpAny_pure ?_))
      exact hfin true _ (fin_after hp rfl hk)
  | succ n ih =>
    intro s hg hl ⟨gs, hgs, hgo⟩
    have hgl : g < s.gens.size := (Array.getElem?_eq_some_iff.mp hgs).1
    refine codeAny_builtin F.entry_all_loop ?_
    rw [Around.under_plainId F.plain_all_loop _]
    show wpAny _ A.in1 (pyNext (.ref a) >>= _) _ _ s
    refine wpAny_bind (wpAny_gsz (n := g + 1) hgl (wpAny_pyNext_genexpQ (P := EndB X fp H₀ s₄ Q false) hh hl hd hg hgs hgo (fun v s₁ gs' hb hv => ?_) (fun s₁ hp h' hk => ?_)))
    · intro hsz
      obtain ⟨hb1, hl1, hg1, c, rfl, hf, hn⟩ := hv
      have hsz1 : g < s₁.gens.size := by
        have q : (s₁.setGen g gs').gens.size = s₁.gens.size := setGen_size _ _ _
        have hsz' : g + 1 ≤ (s₁.setGen g gs').gens.size := hsz
        omega
      refine wpAny_bind (wpAny_holding (wpAny_truthy_bool ?_))
      refine wpAny_bind (wpAny_letGo ?_)
      cases c with
      | true =>
        simp only [if_true]
        refine wpAny_pure ⟨plainId_quiet F.plain_all_loop _, ih (s₁.setGen g gs') hg1 hl1 ⟨gs', setGen_at hsz1, ?_⟩⟩
        exact hn (by decide) _ rfl rfl (allBare_setGen (s := s₁.setGen g gs') (allBare_setGen hb1 hb) rfl)
      | false =>
        simp only [Bool.false_eq_true, if_false]
        refine wpAny_bind (wpAny_rule (wpAny_pure ?_))
        exact hfin false _ (fin_after (h' := s₁.heap) (hf rfl) hb fun _ _ e => e)
    · intro _
      refine wpAny_bind (wpAny_rule (wpAny_pure ?_))
      exact hfin true _ (fin_after hp rfl hk)
end
end Gx
set_option Elab.async false
set_option linter.all false
set_option maxRecDepth 100000
set_option maxHeartbeats 2000000
namespace Gx
open PySem PySem.Spec PyProof.Rows L2 GxR GenW
/-- any (b), all (not b) of (elt for tg in iter if ..): W by the turn and a measure; the def's table at P may have grown -/
def tGx (b : Bool) (P : Addr) (wi : TI) (g : TG) (tt : TT) (te : TE) (vs : List Nat) : TE := fun σ H Q => wi σ H fun J H1 => TabG H1 P ∧ ∀ H2, Tabbed P H1 H2 →
  ∃ W : Nat → Nat → Hp → Prop, (∃ m, W 0 m H2) ∧ ∀ i m H, W i m H → tTurn b J σ g tt te vs Q W i m H
/-- what the frame's rules are asked for -/
abbrev InGen (X : Cx) (k : Nat) (scope : Scope) (φ : Cx → Prop) : Prop :=
  ∀ (A : Around) (s : Shared) (H : Hp) (C : Addr) (cl : List (Str × Addr)) (code : Value) (fp : List Addr) (pn : List (Addr × Obj)), Room k A → φ (genX X A s H (genEnv scope cl C code builtinsNs X.env) fp pn)
/-- a generator that has not begun, to be drained at X.A.in1.in1 -/
def Fresh (X : Cx) (pins : List (Addr × Obj)) (σ : L2.St) (Q : VK) (b : Bool) (a : Addr) (s5 : Shared) : Prop :=
  ∃ (g n : Nat) (fp : List Addr) (H₀ : Hp) (s₄ : Shared) (cde : Code), s5.heap.IsGen a g ∧ s5.heap.NoLimit ∧ AllBare s5.gens ∧ s5.gens[g]? = some (.fresh cde) ∧
    (∀ s6 : Shared, s6.heap = s5.heap → s6.os = s5.os → AllBare s6.gens → Seg (model X.prog X.w) X.A.in1.in1 (RB X fp H₀ s₄ Q b) (YB X fp H₀ s₄ Q b a g) n s6 cde ((model X.prog X.w).den cde) [] s6) ∧
    ∀ c s', Fin X fp H₀ s₄ Q c s' → ∃ H', Inv X pins σ H' s' ∧ Q (.bl c) H'
section
variable {X : Cx} {pins : List (Addr × Obj)} {σ : L2.St} {H : Hp} {s : Shared}
theorem gen_make {k : Nat} {c P : Addr} {b : Bool} {elt tg iter : Expr} {ifs : List Expr} {scope : Scope} {own : List (Str × Nat)} {gpos : Pos} {wi : TI} {g : TG} {tt : TT} {te : TE} {Q : VK} {Q' : Value → Shared → Prop}
    (hc : X.calm = true) (hr : Room (k + 3) X.A) (hN : X.N.Nodup) (TB : TabB X.base X.mg c P) (hcode : X.env.code = .ref c) (ok : BlkOk X.N X.env.scope scope own) (hcell : ∀ y ∈ scope.names, y.2 ≠ .cell) (hdot : scope.names.lookup (".0" : Str) = some NameKind.local)
    (hco : scope.isCoroutine = false) (hi : PI X tg iter wi) (hg : InGen X k scope fun Y => PG Y tg g) (ht : InGen X k scope fun Y => PTs Y ifs tt) (he : InGen X k scope fun Y => PE Y elt te)
    (hs : ∀ v, genFold iter X.env v = pure v) (I : Inv X pins σ H s) (h : tGx b P wi g tt te (own.map (·.2)) σ H Q) (hQ : ∀ a s5, Fresh X pins σ Q b a s5 → Q' (.ref a) s5) :
    wpAny (model X.prog X.w) X.A (eval (.GeneratorExp elt [⟨tg, iter, ifs, 0⟩] scope gpos) X.env) Q' X.xe s := by
  have hfree : ∀ y ∈ scope.names, y.2 = .free → ∃ c, X.env.cells.lookup y.1 = some c := fun y hy e => by
    rcases ok.free y hy e with k | k
    · exact I.ok.has _ (.inl k)
    · exact I.ok.has _ (.inr k)
  refine wpAny_GeneratorExp_make hco (closure_ok hfree) hcell hdot ok.kind (by have := hr.dp; omega) ?_ hs
  refine thn (hi.run pins s σ H _ I h) fun xv s1 hx => thn hx fun itv s2 h2 => ?_
  obtain ⟨it, fp, tn, J, H2, e, I2, T, st2, f2, ⟨ps, hP, htr⟩, q⟩ := h2
  subst e
  refine ⟨I2.nolimit, ?_⟩
  have hPs : s2.heap.get? P = some { cls := .none, data := .fields ps } := I2.hok P _ hP
  have cd : PySem.W.CodeHd s2.heap c P := TB.code.keeps fun b u e => I2.bk b u e
  have sz : ∀ b ∈ fp, b < s2.heap.objs.size := fun b hb => by
    obtain ⟨o, e, _⟩ := T.obj _ _ st2 b hb
    exact Heap.lt_size e
  have nP : ∀ b ∈ fp, b ≠ P := fun b hb z => by
    have := (f2 b hb).1
    rw [z, hP] at this
    cases this
  have cont : ∀ (code : Value) (h3 : Heap) (tk : Nat) (ps' : Array Value), Heap.ExtBut P s2.heap h3 → s2.heap.objs.size ≤ h3.objs.size → h3.get? P = some { cls := .none, data := .fields ps' } → (∃ more, ps' = ps ++ more) → TriplesOk ps'.toList →
      wpAny (model X.prog X.w) X.A (builtinsFor X.env.globals X.env.builtins) (fun bi s₄ =>
        ∀ h', h'.Ns s₄.heap.objs.size (fun y => if y = ".0" then some (Value.ref it) else none) → Heap.SameBut s₄.heap.objs.size (s₄.heap.push { cls := .type "frame", data := .dict #[] }) h' →
          Q' (.ref h'.objs.size) { s₄ with
            gens := s₄.gens.push (.fresh (.compStart (.GeneratorExp elt [⟨tg, iter, ifs, 0⟩] scope gpos) 0 (.ref it) .none (genEnv scope (cloFrom X.env.cells scope.names []) s₄.heap.objs.size code bi X.env))),
            toks := s₄.toks + 1 + 1 + 1,
            heap := h'.push { cls := .type "generator", data := .fields #[.int s₄.gens.size 0, .str "<genexpr>" (s₄.toks + 1), .str (X.env.qual ++ "<genexpr>") (s₄.toks + 1 + 1)] } }) X.xe { s2 with heap := h3, toks := tk } := by
    intro code h3 tk ps' hx hsz hP3 hmore ht3
    obtain ⟨more, em⟩ := hmore
    subst em
    have I3 : Inv X pins σ (upd H2 P (.tbl (ps ++ more))) ({ s2 with heap := h3, toks := tk } : Shared) := inv_tab (more := more) (h' := h3) (g' := s2.gens) (d' := s2.drawn) (t' := tk) I2 hP (fun b o hb e => hx b o hb e) hP3 I2.bare
    obtain ⟨bm, ob, e1, e2, e3, e4, e5, e6, e7, e8⟩ := TB.bm
    refine wpAny_builtinsFor (m := X.mg) (by rw [I3.ok.glob]; exact I3.mod.glob.keeps I3.bk) e1 e2 (I3.bk _ _ e5) e6 e7 e8 ?_
    obtain ⟨W, ⟨m0, w0⟩, turn⟩ := q (upd H2 P (.tbl (ps ++ more))) ⟨⟨ps ++ more, upd_same, ht3⟩, fun b hb => upd_ne hb⟩
    have f3 : ∀ b ∈ fp, FpOk X pins (upd H2 P (.tbl (ps ++ more))) b ∧ b < h3.objs.size := fun b hb =>
      ⟨⟨by rw [upd_ne (nP b hb)]; exact (f2 b hb).1, (f2 b hb).2⟩, Nat.lt_of_lt_of_le (sz b hb) hsz⟩
    have st3 : tn 0 h3 := T.keep _ _ _ st2 fun b hb o e => hx b o (nP b hb) e
    generalize hH3 : upd H2 P (.tbl (ps ++ more)) = H3 at I3 w0 f3
    generalize hs3 : ({ s2 with heap := h3, toks := tk } : Shared) = s3 at I3
    have hh3 : h3 = s3.heap := by rw [← hs3]
    rw [hh3] at f3 st3
    clear hh3
    intro h' hn' hs'
    have hn' : h'.Ns s3.heap.objs.size (fun y => if y = ".0" then some (Value.ref it) else none) := hn'
    have hs' : Heap.SameBut s3.heap.objs.size (s3.heap.push { cls := .type "frame", data := .dict #[] }) h' := hs'
    have hszz : h'.objs.size = s3.heap.objs.size + 1 := by rw [hs'.1, Heap.size_push]
    have keep' : ∀ b o, s3.heap.get? b = some o → h'.get? b = some o := fun b o e => hs'.extBut b o (Nat.ne_of_lt (Heap.lt_size e)) (Heap.get?_push_of_some _ e)
    refine hQ _ _ ?_
    generalize hgo : ({ cls := .type "generator", data := .fields #[.int s3.gens.size 0, .str "<genexpr>" (s3.toks + 1), .str (X.env.qual ++ "<genexpr>") (s3.toks + 1 + 1)] } : Obj) = go
    have hgen : ∀ h : Heap, h.get? h'.objs.size = some go → h.IsGen h'.objs.size s3.gens.size := fun h e => by
      subst hgo
      exact ⟨_, _, _, e, rfl, rfl, rfl⟩
    have keep5 : ∀ b o, s3.heap.get? b = some o → (h'.push go).get? b = some o := fun b o e => Heap.get?_push_of_some _ (keep' b o e)
    have hpushed : (h'.push go).get? h'.objs.size = some go := by
      subst hgo
      exact Heap.get?_push_size _ rfl
    have hgd : ∀ v, go.data ≠ .cell v := fun v z => by
      subst hgo
      cases z
    generalize hce : genEnv scope (cloFrom X.env.cells scope.names []) s3.heap.objs.size code builtinsNs X.env = ce
    have bare5 : AllBare (s3.gens.push (.fresh (.compStart (.GeneratorExp elt [⟨tg, iter, ifs, 0⟩] scope gpos) 0 (.ref it) .none ce))) := AllBare.push I3.bare rfl
    have hsc : ce.scope = scope := by rw [← hce]; rfl
    have hr2 : Room (k + 1) X.A.in1.in1 := hr.in1.in1
    refine ⟨s3.gens.size, m0 + 1, fp, H3, s3, .compStart (.GeneratorExp elt [⟨tg, iter, ifs, 0⟩] scope gpos) 0 (.ref it) .none ce, ?_, ?_, ?_, ?_, fun s6 eh eo hb6 => ?_, fun c s' hf => ?_⟩
    · subst hgo hce hs3
      exact hgen _ hpushed
    · subst hgo hce hs3
      exact I3.nolimit.keeps keep5
    · subst hgo hce hs3
      exact bare5
    · subst hgo hce hs3
      exact Array.getElem?_push_size ..
    · have eh : s6.heap = h'.push go := by subst hgo hce hs3; exact eh
      have eo : s6.os = s3.os := by subst hgo hce hs3; exact eo
      have I6 : Inv (genX X (X.A.in1.in1.deeper ce) s3 H3 ce fp [(h'.objs.size, go)]) [] (wipe σ (own.map (·.2))) H3 s6 := by
        refine gen_start (code := code) I3 ok hcell hN f3 hce.symm ?_ (hr2.deeper ce).hd eo hb6 (fun b o e => by rw [eh]; exact keep5 b o e) (by rw [eh]; exact hn'.keeps fun b o e => Heap.get?_push_of_some _ e) fun p hp => ?_
        · show pushEnvs [ce] X.A.frames = _
          rw [I3.ok.frames]
          rfl
        · rw [List.mem_singleton.mp hp]
          refine ⟨?_, by rw [eh]; exact hpushed, hgd⟩
          show s3.heap.objs.size < h'.objs.size
          omega
      have st6 : tn 0 s6.heap := T.keep _ _ _ st3 fun b _ o e => by rw [eh]; exact keep5 b o e
      refine seg_start rfl (fun A' Q E hq => T.self A' 0 s6 Q E st6 hq) ?_
      refine seg_loop (k := k) hc (hr2.deeper ce) (by rw [hsc]; exact hco) hgen (fun b hb => ?_) T ?_ ?_ ?_ turn m0 (m0 + 1) 0 H3 s6 s6 (Nat.lt_succ_self _) w0 I6 st6 fun b hb => (f3 b hb).1.1
      · intro z
        have h11 := Nat.lt_trans (f3 b hb).2 (show s3.heap.objs.size < h'.objs.size by omega)
        rw [← z] at h11
        exact Nat.lt_irrefl _ h11
      · rw [← hce]; exact hg _ _ _ _ _ _ _ _ (hr2.deeper _)
      · rw [← hce]; exact ht _ _ _ _ _ _ _ _ (hr2.deeper _)
      · rw [← hce]; exact he _ _ _ _ _ _ _ _ (hr2.deeper _)
    · obtain ⟨H', h1, h2, h3, h4, h5⟩ := hf
      exact ⟨H', I3.call' (ch := fp) h1 h3 h4 h2 fun b hb => ⟨(f3 b hb).1.2.2.2.1, (f3 b hb).1.2.1, (f3 b hb).1.2.2.2.2.1, (f3 b hb).1.2.2.2.2.2⟩, h5⟩
  cases hf : codeAmong gpos ps.toList with
  | none =>
    refine wpAny_genexprCodeX hcode (cd.code hPs htr) (cd.tab hPs) hf fun c' h' tk hx hge hlt hco' _ htab' _ => ?_
    obtain ⟨o1, vs, f1, tf, fl, tg, inF, tx, tt, op, _, _, _, _, _, _, _, _, _, htr', _⟩ := hco'
    exact cont _ h' tk _ hx (Nat.le_trans hge (Nat.le_of_lt hlt)) htab'.2 ⟨_, rfl⟩ htr'
  | some cv =>
    refine wpAny_genexprCode_hit hcode (cd.code hPs htr) hf ?_
    exact cont cv s2.heap s2.toks ps (Heap.ExtBut.refl _ _) (Nat.le_refl _) hPs ⟨#[], by simp⟩ htr
theorem call_any_new {b : Bool} {a : Addr} {Q : VK} (hb : b = true) (hh : X.A.handled = none) (hd : X.A.depth < recursionLimit) (h : Fresh X pins σ Q b a s) : wpAny (model X.prog X.w) X.A (call (.builtin "any") [.ref a]) (EP X pins σ Q) X.xe s := by
  subst hb
  obtain ⟨g, n, fp, H₀, s₄, cde, hg, hl, hba, hgs, wake, hfin⟩ := h
  refine call_function_tree F.kind_any F.plain_any F.entry_any (F.args_any1 _) ?_
  unfold Builtin.«any»
  refine wpAny_bind (m := oneArg "any" _) (wpAny_pure ?_)
  refine wpAny_bind (wpAny_pyIter_gen hg ?_)
  refine wpAny_pure ⟨plainId_quiet F.plain_any_loop _, any_gen (X := X) (fp := fp) (H₀ := H₀) (s₄ := s₄) (Q := Q) hh hd (fun c s' hf => ?_) n s hg hl ⟨_, hgs, rfl, wake _ rfl rfl (allBare_setGen hba rfl)⟩⟩
  obtain ⟨H', I', q⟩ := hfin c s' hf
  exact ⟨.bl c, H', I', rfl, q⟩
theorem call_all_new {b : Bool} {a : Addr} {Q : VK} (hb : b = false) (hh : X.A.handled = none) (hd : X.A.depth < recursionLimit) (h : Fresh X pins σ Q b a s) : wpAny (model X.prog X.w) X.A (call (.builtin "all") [.ref a]) (EP X pins σ Q) X.xe s := by
  subst hb
  obtain ⟨g, n, fp, H₀, s₄, cde, hg, hl, hba, hgs, wake, hfin⟩ := h
  refine call_function_tree F.kind_all F.plain_all F.entry_all (F.args_all1 _) ?_
  unfold Builtin.«all»
  refine wpAny_bind (m := oneArg "all" _) (wpAny_pure ?_)
  refine wpAny_bind (wpAny_pyIter_gen hg ?_)
  refine wpAny_pure ⟨plainId_quiet F.plain_all_loop _, all_gen (X := X) (fp := fp) (H₀ := H₀) (s₄ := s₄) (Q := Q) hh hd (fun c s' hf => ?_) n s hg hl ⟨_, hgs, rfl, wake _ rfl rfl (allBare_setGen hba rfl)⟩⟩
  obtain ⟨H', I', q⟩ := hfin c s' hf
  exact ⟨.bl c, H', I', rfl, q⟩
/-- any(elt for tg in iter if ..) -/
theorem pe_anyG {k : Nat} {c P : Addr} {elt tg iter : Expr} {ifs : List Expr} {scope : Scope} {own : List (Str × Nat)} {p pos gpos : Pos} {wi : TI} {g : TG} {tt : TT} {te : TE}
    (hc : X.calm = true) (hr : Room (k + 3) X.A) (hN : X.N.Nodup) (hgl : Gl X "any") (hm : X.mg "any" = none) (TB : TabB X.base X.mg c P) (hcode : X.env.code = .ref c) (ok : BlkOk X.N X.env.scope scope own) (hcell : ∀ y ∈ scope.names, y.2 ≠ .cell) (hdot : scope.names.lookup (".0" : Str) = some NameKind.local)
    (hco : scope.isCoroutine = false) (hi : PI X tg iter wi) (hg : InGen X k scope fun Y => PG Y tg g) (ht : InGen X k scope fun Y => PTs Y ifs tt) (he : InGen X k scope fun Y => PE Y elt te)
    (hs : ∀ v, genFold iter X.env v = pure v)
    (hst : starEach [.GeneratorExp elt [⟨tg, iter, ifs, 0⟩] scope gpos] X.env = (false, eval (.GeneratorExp elt [⟨tg, iter, ifs, 0⟩] scope gpos) X.env) :: starEach [] X.env := by rfl) :
    PE X (.Call (.Name "any" p) [.GeneratorExp elt [⟨tg, iter, ifs, 0⟩] scope gpos] [] pos) (tGx true P wi g tt te (own.map (·.2))) := by
  refine ⟨fun pins s σ H Q I h => ?_⟩
  refine wpAny_Call_Name_kw (ld_blt I hgl hm boot_any ?_)
  refine PyProof.Rows.callWith_builtin1 ?_ hst (by rfl)
  rw [hst]
  show wpAny _ _ (spliced ((false, eval (.GeneratorExp elt [⟨tg, iter, ifs, 0⟩] scope gpos) X.env) :: backTo pos (starEach [] X.env))) _ _ s
  refine Calls.spliced_cons (gen_make hc hr hN TB hcode ok hcell hdot hco hi hg ht he hs I h fun a s5 hF => ?_)
  refine Calls.spliced_nil ?_
  exact call_any_new rfl hr.hd (by have := hr.dp; omega) hF
/-- all(elt for tg in iter if ..) -/
theorem pe_allG {k : Nat} {c P : Addr} {elt tg iter : Expr} {ifs : List Expr} {scope : Scope} {own : List (Str × Nat)} {p pos gpos : Pos} {wi : TI} {g : TG} {tt : TT} {te : TE}
    (hc : X.calm = true) (hr : Room (k + 3) X.A) (hN : X.N.Nodup) (hgl : Gl X "all") (hm : X.mg "all" = none) (hbo : bootBuiltins "all" = some (.builtin "all")) (TB : TabB X.base X.mg c P) (hcode : X.env.code = .ref c) (ok : BlkOk X.N X.env.scope scope own) (hcell : ∀ y ∈ scope.names, y.2 ≠ .cell) (hdot : scope.names.lookup (".0" : Str) = some NameKind.local)
    (hco : scope.isCoroutine = false) (hi : PI X tg iter wi) (hg : InGen X k scope fun Y => PG Y tg g) (ht : InGen X k scope fun Y => PTs Y ifs tt) (he : InGen X k scope fun Y => PE Y elt te)
    (hs : ∀ v, genFold iter X.env v = pure v)
    (hst : starEach [.GeneratorExp elt [⟨tg, iter, ifs, 0⟩] scope gpos] X.env = (false, eval (.GeneratorExp elt [⟨tg, iter, ifs, 0⟩] scope gpos) X.env) :: starEach [] X.env := by rfl) :
    PE X (.Call (.Name "all" p) [.GeneratorExp elt [⟨tg, iter, ifs, 0⟩] scope gpos] [] pos) (tGx false P wi g tt te (own.map (·.2))) := by
  refine ⟨fun pins s σ H Q I h => ?_⟩
  refine wpAny_Call_Name_kw (ld_blt I hgl hm hbo ?_)
  refine PyProof.Rows.callWith_builtin1 ?_ hst (by rfl)
  rw [hst]
  show wpAny _ _ (spliced ((false, eval (.GeneratorExp elt [⟨tg, iter, ifs, 0⟩] scope gpos) X.env) :: backTo pos (starEach [] X.env))) _ _ s
  refine Calls.spliced_cons (gen_make hc hr hN TB hcode ok hcell hdot hco hi hg ht he hs I h fun a s5 hF => ?_)
  refine Calls.spliced_nil ?_
  exact call_all_new rfl hr.hd (by have := hr.dp; omega) hF
end
end Gx
set_option Elab.async false
set_option linter.all false
set_option maxRecDepth 100000
set_option maxHeartbeats 2000000
/-! ### a generator expression within a generator expression: the outer one's code object is made while the def runs, and has a table of its own -/
namespace Gx
open PySem PySem.Spec PyProof.Rows L2 GxR GenW
/-- the object at c is a code object whose table is at P -/
def CodeH (c P : Addr) : HO := .ext fun h => PySem.W.CodeHd h c P
theorem codeH_ne {c P : Addr} (ps : Array Value) : CodeH c P ≠ .tbl ps := fun z => by
  unfold CodeH at z
  cases z
theorem codeH_at {P : Program} {w : World} {H : Hp} {h : Heap} {c P1 : Addr} (hok : HOk P w H h) (e : H c = some (CodeH c P1)) : PySem.W.CodeHd h c P1 := (hok c _ e).1
/-- a table each of whose code objects has a table of its own -/
def TabD (H : Hp) (P : Addr) : Prop := ∃ ps : Array Value, H P = some (.tbl ps) ∧ TriplesOk ps.toList ∧ ∀ (pos : Pos) (cv : Value), codeAmong pos ps.toList = some cv →
  ∃ c1 P1, cv = .ref c1 ∧ P1 ≠ P ∧ H c1 = some (CodeH c1 P1) ∧ TabG H P1
theorem TabD.g {H : Hp} {P : Addr} (h : TabD H P) : TabG H P := let ⟨ps, a, b, _⟩ := h; ⟨ps, a, b⟩
theorem TabD.nil {H : Hp} {P : Addr} (h : H P = some (.tbl #[])) : TabD H P := ⟨#[], h, True.intro, fun pos cv hc => by
  have z : codeAmong pos [] = some cv := hc
  simp [codeAmong] at z⟩
/-- all but the tables stays, the tables stay tables -/
def Kt (H H' : Hp) : Prop := LamX.ExtN H H' ∧ ∀ P, TabG H P → TabG H' P
theorem Kt.refl (H : Hp) : Kt H H := ⟨LamX.ExtN.refl H, fun _ h => h⟩
theorem Kt.trans {H H1 H2 : Hp} (a : Kt H H1) (b : Kt H1 H2) : Kt H H2 := ⟨a.1.trans b.1, fun P h => b.2 P (a.2 P h)⟩
/-- the code object stands in the table at P -/
def InTab (H : Hp) (P : Addr) (cv : Value) : Prop := ∃ (pos : Pos) (ps : Array Value), H P = some (.tbl ps) ∧ TriplesOk ps.toList ∧ codeAmong pos ps.toList = some cv
theorem among_pre {pos : Pos} {cv : Value} (l l' : List Value) (h : TriplesOk l) (e : codeAmong pos l = some cv) : codeAmong pos (l ++ l') = some cv := by
  fun_induction TriplesOk l with
  | case1 => simp [codeAmong] at e
  | case2 a t b u x rest ih =>
    simp only [List.cons_append, codeAmong] at e ⊢
    split at e
    · rename_i q
      rw [if_pos q]
      exact e
    · rename_i q
      rw [if_neg q]
      exact ih h e
  | case3 l h1 h2 => exact h.elim
theorem InTab.un {fs ex : List Addr} {H H' : Hp} {h h' : Heap} {P : Addr} {cv : Value} (i : InTab H P cv) (u : Un fs ex H H' h h') (t : TabG H' P) : InTab H' P cv := by
  obtain ⟨pos, ps, e1, e2, e3⟩ := i
  obtain ⟨more, e4⟩ := u.tbls P ps e1
  obtain ⟨ps', e5, e6⟩ := t
  rw [e4] at e5
  cases e5
  refine ⟨pos, _, e4, e6, ?_⟩
  rw [Array.toList_append]
  exact among_pre _ _ e2 e3
section
variable {X : Cx} {pins : List (Addr × Obj)} {σ : L2.St} {H : Hp} {s : Shared}
theorem off_tbl {H : Hp} {P : Addr} {ps : Array Value} (hP : H P = some (.tbl ps)) : (∀ b u, H b = some u → (∀ q, u ≠ .tbl q) → b ≠ P) ∧ ∀ b, H b = none → b ≠ P := by
  constructor
  · rintro b u e q rfl
    rw [hP] at e
    exact q ps (Option.some.inj e).symm
  · rintro b e rfl
    rw [hP] at e
    cases e
theorem has_free {scope : Scope} {own : List (Str × Nat)} (I : Inv X pins σ H s) (ok : BlkOk X.N X.env.scope scope own) (y : Str × NameKind) (hy : y ∈ scope.names) (e : y.2 = .free) : ∃ c, X.env.cells.lookup y.1 = some c :=
  (ok.free y hy e).elim (fun k => I.ok.has _ (.inl k)) fun k => I.ok.has _ (.inr k)
theorem turn_old {tg : Expr} {J : It} {fp : List Addr} {it : Addr} {tn : Nat → Heap → Prop} {i : Nat} {h : Heap} {P : Program} {w : World} {K : PySem.W.Frag} (T : Turn P w K tg J fp it tn) (st : tn i h) (b : Addr) (hb : b ∈ fp) : b < h.objs.size :=
  let ⟨_, e, _⟩ := T.obj _ _ st b hb
  Heap.lt_size e
/-- the table has grown by a new code object at c with its empty table at P1 -/
theorem inv_tabD {P c P1 : Addr} {ps more : Array Value} {h' : Heap} {g' : Array GenState} {d' : Drawn} {t' : Nat} (I : Inv X pins σ H s) (hP : H P = some (.tbl ps)) (k : ∀ b o, b ≠ P → s.heap.get? b = some o → h'.get? b = some o)
    (hm : h'.get? P = some { cls := .none, data := .fields (ps ++ more) }) (hc : s.heap.objs.size ≤ c) (hp1 : s.heap.objs.size ≤ P1) (ne : c ≠ P1) (ho : PySem.W.CodeHd h' c P1) (h1 : h'.get? P1 = some { cls := .none, data := .fields #[] }) (hg : AllBare g') :
    Inv X pins σ (upd (upd (upd H P (.tbl (ps ++ more))) c (CodeH c P1)) P1 (.tbl #[])) { s with heap := h', gens := g', drawn := d', toks := t' } := by
  have nC : H c = none := I.hok.fresh hc
  have n1 : H P1 = none := I.hok.fresh hp1
  have nPc : P ≠ c := ne_of_none hP nC
  have nP1 : P ≠ P1 := ne_of_none hP n1
  have at_ : ∀ b, b ≠ P → b ≠ c → b ≠ P1 → upd (upd (upd H P (.tbl (ps ++ more))) c (CodeH c P1)) P1 (.tbl #[]) b = H b := fun b h1 h2 h3 => by rw [upd_ne h3, upd_ne h2, upd_ne h1]
  have atP : upd (upd (upd H P (.tbl (ps ++ more))) c (CodeH c P1)) P1 (.tbl #[]) P = some (.tbl (ps ++ more)) := by rw [upd_ne nP1, upd_ne nPc, upd_same]
  have atc : upd (upd (upd H P (.tbl (ps ++ more))) c (CodeH c P1)) P1 (.tbl #[]) c = some (CodeH c P1) := by rw [upd_ne ne, upd_same]
  have nP := (off_tbl hP).1
  have nN := (off_tbl hP).2
  have lt' : ∀ {d}, s.heap.objs.size ≤ d → ∀ b o, s.heap.get? b = some o → b ≠ d := fun {d} hd b o e z => by
    rw [z] at e
    exact Nat.lt_irrefl _ (Nat.lt_of_lt_of_le (Heap.lt_size e) hd)
  have sm : ∀ b u, H b = some u → b ≠ c ∧ b ≠ P1 := fun b u e => ⟨ne_of_none e nC, ne_of_none e n1⟩
  have grown : ∀ b o, s.heap.get? b = some o → H b = none → h'.get? b = some o := fun b o e n => k b o (nN b n) e
  refine I.step (ch := []) nofun (fun b o _ _ _ e n => grown b o e n) (fun b o _ _ _ e n => ⟨o.slots, grown b o e n⟩)
    (fun b o _ e n => by rw [at_ b (nN b n) (lt' hc b o e) (lt' hp1 b o e)]; exact n) (fun b o _ e => ?_) (fun b xs e => by rw [at_ b (nP b _ e (fun q z => by cases z)) (sm b _ e).1 (sm b _ e).2]; exact e) (fun b o u e => by rw [at_ b (nP b _ e (fun q z => by cases z)) (sm b _ e).1 (sm b _ e).2]; exact e) (fun b qs e => ?_) (fun m hn => ?_) (fun b u e => ?_) hg
  · by_cases hb : b = P
    · rw [hb]
      exact ⟨_, hm⟩
    · exact ⟨o, k b o hb e⟩
  · by_cases hb : b = P
    · rw [hb, hP] at e
      cases e
      rw [hb, atP]
      exact ⟨more, rfl⟩
    · rw [at_ b hb (sm b _ e).1 (sm b _ e).2, e]
      exact ⟨#[], by simp⟩
  · obtain ⟨ob, es, ep, ho, r⟩ := hn
    exact ⟨ob, es, ep, k _ ob (nN _ I.free) ho, r⟩
  · by_cases hb1 : b = P1
    · rw [hb1, upd_same] at e
      cases e
      rw [hb1]
      exact h1
    · by_cases hb : b = c
      · rw [hb, atc] at e
        cases e
        rw [hb]
        refine ⟨ho, ?_, fun h1 h2 a st => ?_⟩
        · obtain ⟨oc, _, _, _, _, _, _, _, _, e1, _⟩ := ho
          exact ⟨oc, e1⟩
        · obtain ⟨o, vs, file, tf, flags, tg, inF, text, tt, e, r⟩ := a
          exact ⟨o, vs, file, tf, flags, tg, inF, text, tt, st _ e, r⟩
      · by_cases hb2 : b = P
        · rw [hb2, atP] at e
          cases e
          rw [hb2]
          exact hm
        · rw [at_ b hb2 hb hb1] at e
          refine (I.hok b u e).stay (fun d v hd q => k d v ?_ q) (fun d q => by rw [at_ d (nP d _ q (fun q z => by cases z)) (sm d _ q).1 (sm d _ q).2]; exact q) fun d xs q => by rw [at_ d (nP d _ q (fun q z => by cases z)) (sm d _ q).1 (sm d _ q).2]; exact q
          rcases hd with z | z
          · rw [z]
            exact hb2
          · exact nP d _ z (fun q z => by cases z)
theorem tabD_new {H : Hp} {P c P1 : Addr} {ps : Array Value} {pos : Pos} (h : TabD H P) (hP : H P = some (.tbl ps)) (nC : H c = none) (n1 : H P1 = none) (ne : c ≠ P1) (ht : TriplesOk (ps ++ #[rawInt pos.line, rawInt pos.col, Value.ref c]).toList) :
    TabD (upd (upd (upd H P (.tbl (ps ++ #[rawInt pos.line, rawInt pos.col, Value.ref c]))) c (CodeH c P1)) P1 (.tbl #[])) P ∧ Kt H (upd (upd (upd H P (.tbl (ps ++ #[rawInt pos.line, rawInt pos.col, Value.ref c]))) c (CodeH c P1)) P1 (.tbl #[])) := by
  have nPc : P ≠ c := ne_of_none hP nC
  have nP1 : P ≠ P1 := ne_of_none hP n1
  have at_ : ∀ b, b ≠ P → b ≠ c → b ≠ P1 → upd (upd (upd H P (.tbl (ps ++ #[rawInt pos.line, rawInt pos.col, Value.ref c]))) c (CodeH c P1)) P1 (.tbl #[]) b = H b := fun b h1 h2 h3 => by rw [upd_ne h3, upd_ne h2, upd_ne h1]
  have nP := (off_tbl hP).1
  obtain ⟨ps', e1, e2, e3⟩ := h
  rw [hP] at e1
  cases e1
  refine ⟨⟨_, by rw [upd_ne nP1, upd_ne nPc, upd_same], ht, fun p' cv hcv => ?_⟩, fun b o e n => ?_, fun P' t => ?_⟩
  · have hl : (ps ++ #[rawInt pos.line, rawInt pos.col, Value.ref c]).toList = ps.toList ++ [rawInt pos.line, rawInt pos.col, .ref c] := by simp
    rw [hl] at hcv
    rcases LamX.among_app _ e2 hcv with z | z
    · obtain ⟨c1, Q1, z1, z2, z3, ps1, z4, z5⟩ := e3 p' cv z
      exact ⟨c1, Q1, z1, z2, by rw [at_ c1 (nP c1 _ z3 codeH_ne) (ne_of_none z3 nC) (ne_of_none z3 n1)]; exact z3, ps1, by rw [at_ Q1 z2 (ne_of_none z4 nC) (ne_of_none z4 n1)]; exact z4, z5⟩
    · exact ⟨c, P1, z, Ne.symm nP1, by rw [upd_ne ne, upd_same], #[], by rw [upd_same], True.intro⟩
  · rw [at_ b (nP b _ e n) (ne_of_none e nC) (ne_of_none e n1)]
    exact e
  · obtain ⟨qs, z4, z5⟩ := t
    by_cases hq : P' = P
    · rw [hq]
      exact ⟨_, by rw [upd_ne nP1, upd_ne nPc, upd_same], ht⟩
    · exact ⟨qs, by rw [at_ P' hq (ne_of_none z4 nC) (ne_of_none z4 n1)]; exact z4, z5⟩
theorem tabD_grow {H : Hp} {P P1 : Addr} {ps ps' : Array Value} (h : TabD H P) (n : P1 ≠ P) (hP : H P1 = some (.tbl ps)) (ht : TriplesOk ps'.toList) : TabD (upd H P1 (.tbl ps')) P ∧ Kt H (upd H P1 (.tbl ps')) := by
  have nP : ∀ b u, H b = some u → (∀ q, u ≠ .tbl q) → b ≠ P1 := fun b u e q z => by
    rw [z, hP] at e
    exact q ps (Option.some.inj e).symm
  obtain ⟨qs, e1, e2, e3⟩ := h
  refine ⟨⟨qs, by rw [upd_ne (Ne.symm n)]; exact e1, e2, fun p' cv hcv => ?_⟩, fun b o e n => ?_, fun P' t => ?_⟩
  · obtain ⟨c1, Q1, z1, z2, z3, z4⟩ := e3 p' cv hcv
    refine ⟨c1, Q1, z1, z2, by rw [upd_ne (nP c1 _ z3 codeH_ne)]; exact z3, ?_⟩
    by_cases hq : Q1 = P1
    · rw [hq]
      exact ⟨ps', upd_same, ht⟩
    · obtain ⟨ps1, z5, z6⟩ := z4
      exact ⟨ps1, by rw [upd_ne hq]; exact z5, z6⟩
  · rw [upd_ne (nP b _ e n)]
    exact e
  · by_cases hq : P' = P1
    · rw [hq]
      exact ⟨ps', upd_same, ht⟩
    · obtain ⟨ps1, z5, z6⟩ := t
      exact ⟨ps1, by rw [upd_ne hq]; exact z5, z6⟩
/-- any (b), all (not b) of (elt for tg in iter if ..), the def's table at P one with tables of its own -/
def tGd (b : Bool) (P : Addr) (wi : TI) (g : TG) (tt : TT) (te : TE) (vs : List Nat) : TE := fun σ H Q => wi σ H fun J H1 => TabD H1 P ∧ ∀ H2, Kt H1 H2 → TabD H2 P →
  ∃ W : Nat → Nat → Hp → Prop, (∃ m, W 0 m H2) ∧ ∀ i m H, W i m H → tTurn b J σ g tt te vs Q W i m H
/-- what the frame's rules are asked for, the code object one of the table at P -/
abbrev InGenD (X : Cx) (k : Nat) (P : Addr) (scope : Scope) (φ : Cx → Prop) : Prop :=
  ∀ (A : Around) (s : Shared) (H : Hp) (C : Addr) (cl : List (Str × Addr)) (code : Value) (fp : List Addr) (pn : List (Addr × Obj)), Room k A → InTab H P code → φ (genX X A s H (genEnv scope cl C code builtinsNs X.env) fp pn)
theorem cells_inj : ∀ (names : List (Str × NameKind)) (n : Nat) (acc : List (Str × Addr)), (∀ x ∈ acc, ∀ y ∈ acc, x.2 = y.2 → x.1 = y.1) → (∀ x ∈ acc, x.2 < n) → ∀ x ∈ cellsFrom n names acc, ∀ y ∈ cellsFrom n names acc, x.2 = y.2 → x.1 = y.1
  | [], _, _, h, _ => h
  | (nm, kd) :: r, n, acc, h, hl => by
    unfold cellsFrom
    split
    · refine cells_inj r (n + 1) _ (fun x hx y hy e => ?_) fun x hx => ?_
      · rcases List.mem_cons.mp hx with rfl | hx <;> rcases List.mem_cons.mp hy with rfl | hy
        · rfl
        · have h1 := hl y hy
          have e : n = y.2 := e
          exact absurd h1 (by rw [e]; exact Nat.lt_irrefl _)
        · have h1 := hl x hx
          have e : x.2 = n := e
          exact absurd h1 (by rw [e]; exact Nat.lt_irrefl _)
        · exact h x hx y hy e
      · rcases List.mem_cons.mp hx with rfl | hx
        · exact Nat.lt_succ_self _
        · exact Nat.lt_succ_of_lt (hl x hx)
    · exact cells_inj r n acc h hl
theorem cells_skip : ∀ (names : List (Str × NameKind)) (n : Nat) (acc : List (Str × Addr)) {y : Str}, (y, NameKind.cell) ∉ names → (cellsFrom n names acc).lookup y = acc.lookup y
  | [], _, _, _, _ => rfl
  | (nm, kd) :: r, n, acc, y, h => by
    unfold cellsFrom
    have hr : (y, NameKind.cell) ∉ r := fun z => h (List.mem_cons_of_mem _ z)
    split
    · rename_i hk
      have ek : kd = .cell := by cases kd <;> first | rfl | cases hk
      subst ek
      rw [cells_skip r _ _ hr, List.lookup_cons]
      have : (y == nm) = false := by
        rw [beq_eq_false_iff_ne]
        exact fun e => h (by rw [e]; exact List.mem_cons_self)
      rw [this]
    · exact cells_skip r _ _ hr
theorem pushC_le : ∀ (names : List (Str × NameKind)) (h : Heap), h.objs.size ≤ (pushCells h names).objs.size
  | [], _ => Nat.le_refl _
  | (nm, kd) :: r, h => by
    unfold pushCells
    split
    · refine Nat.le_trans ?_ (pushC_le r _)
      rw [Heap.size_push]
      exact Nat.le_succ _
    · exact pushC_le r h
/-- the generator object of the n-th generator, its two names of the texts ahead of t -/
abbrev genObj (n t : Nat) (q : Str) : Obj := { cls := .type "generator", data := .fields #[.int n 0, .str "<genexpr>" (t + 1), .str (q ++ "<genexpr>") (t + 1 + 1)] }
/-- what is asked when the generator stands: its frame at the heap's end has the one name and room for its cells, its object lies behind -/
def Born (ge : Expr) (scope : Scope) (cl : List (Str × Addr)) (it code : Value) (env : Env) (Q : Value → Shared → Prop) (bi : Addr) (s : Shared) : Prop :=
  ∀ h', h'.Ns s.heap.objs.size (fun y => if y = ".0" then some it else none) → Heap.SameBut s.heap.objs.size (pushCells (s.heap.push { cls := .type "frame", data := .dict #[] }) scope.names) h' →
    Q (.ref h'.objs.size) ⟨h'.push (genObj s.gens.size s.toks env.qual), s.gens.push (.fresh (.compStart ge 0 it .none (genEnv scope (cellsFrom (s.heap.objs.size + 1) scope.names cl) s.heap.objs.size code bi env))), s.drawn, s.toks + 1 + 1 + 1, s.os⟩
theorem gen_born {M : Model} {A : Around} {E : Value → Shared → Prop} {s : Shared} {env : Env} {elt target iter : Expr} {ifs : List Expr} {scope : Scope} {cl : List (Str × Addr)} {pos : Pos} {Q : Value → Shared → Prop}
    (hco : scope.isCoroutine = false) (hclos : closureFor scope env = pure cl) (dot : scope.names.lookup (".0" : Str) = some NameKind.local) (fn : scope.kind = .function) (deep : A.depth < recursionLimit) (hs : ∀ x, genFold iter env x = pure x)
    (h : wpAny M A (eval iter env) (fun xv => wpAny M A (pyIter xv) (fun it s₂ => s₂.heap.NoLimit ∧ wpAny M A (genexprCode env pos (env.qual ++ "<genexpr>") scope)
      (fun code => wpAny M A (builtinsFor env.globals env.builtins) (Born (.GeneratorExp elt [⟨target, iter, ifs, 0⟩] scope pos) scope cl it code env Q) E) E s₂) E) E s) :
    wpAny M A (eval (.GeneratorExp elt [⟨target, iter, ifs, 0⟩] scope pos) env) Q E s := by
  rw [eval_GeneratorExp1 (hco := hco), hclos]
  apply wpAny_bind
  apply thn h
  intro xv s1 h1
  apply wpAny_bind
  apply wpAny_standAt
  apply wpAny_bind
  apply wpAny_of_eq (hs xv)
  apply wpAny_bind
  apply wpAny_holding
  apply thn h1
  rintro it s2 ⟨free, h2⟩
  apply wpAny_bind
  apply wpAny_enterFrame free deep
  apply wpAny_bind
  apply wpAny_pure
  apply wpAny_bind
  apply thn h2
  intro code s3 h3
  apply wpAny_bind
  apply thn h3
  intro bi s4 born
  have fit : A.depth < recursionLimit := deep
  have named := (Heap.Ns.new s4.heap (.type "frame")).keeps (pushCells_keeps scope.names (s4.heap.push { cls := .type "frame", data := .dict #[] }))
  simp only [newFunctionEnv, Option.isSome, Bool.false_eq_true, ↓reduceIte]
  apply wpAny_bind
  apply wpAny_bind
  apply wpAny_alloc
  apply wpAny_bind
  apply wpAny_layCells
  · intro y k cs
    cases k <;> rfl
  rw [List.forIn_cons, show (Shared.heap { s4 with heap := s4.heap.push { cls := .type "frame", data := .dict #[] } }).objs.size = s4.heap.objs.size + 1 from Heap.size_push ..]
  apply wpAny_bind
  apply wpAny_bind
  apply wpAny_bind
  refine wpAny_storeName_local (by exact dot) named ?_ (by simp only [fn]; rfl)
  · intro g hg same
    apply wpAny_pure
    apply wpAny_pure
    apply wpAny_pure
    simp only [newGenerator, newFields]
    apply wpAny_bind
    apply wpAny_newGen
    apply wpAny_bind
    apply wpAny_mkText
    apply wpAny_bind
    apply wpAny_mkText
    apply wpAny_newObj_type
    · exact born g hg same
    · size_fits
theorem gen_startC {scope : Scope} {own : List (Str × Nat)} {fp : List Addr} {A : Around} {code : Value} {pn : List (Addr × Obj)} {s' : Shared} {m : Str → Option Value} {ce : Env} (I : Inv X pins σ H s) (ok : BlkOk X.N X.env.scope scope own)
    (hN : X.N.Nodup) (hfp : ∀ b ∈ fp, FpOk X pins H b ∧ b < s.heap.objs.size)
    (hce : ce = genEnv scope (cellsFrom (s.heap.objs.size + 1) scope.names (cloFrom X.env.cells scope.names [])) s.heap.objs.size code builtinsNs X.env) (hA : A.frames = some (ce :: X.stack)) (hh : A.handled = none)
    (hos : s'.os = s.os) (hb : AllBare s'.gens) (kp : ∀ b o, s.heap.get? b = some o → s'.heap.get? b = some o) (hn : s'.heap.Ns s.heap.objs.size m)
    (hnew : ∀ c, (pushCells (s.heap.push { cls := .type "frame", data := .dict #[] }) scope.names).IsCell c none → s.heap.objs.size < c → s'.heap.IsCell c none)
    (hpn : ∀ p ∈ pn, s.heap.objs.size < p.1 ∧ s'.heap.get? p.1 = some p.2 ∧ ∀ v, p.2.data ≠ .cell v) :
    Inv (genX X A s H ce fp pn) [] (wipe σ (own.map (·.2))) H s' := by
  have hfree := has_free I ok
  have hL : ce.locals = s.heap.objs.size := by rw [hce]; rfl
  have hcl : ce.cells = cellsFrom (s.heap.objs.size + 1) scope.names (cloFrom X.env.cells scope.names []) := by rw [hce]; rfl
  have hsc : ce.scope = scope := by rw [hce]; rfl
  have cm : ∀ {y c}, (y, c) ∈ cloFrom X.env.cells scope.names [] → X.env.cells.lookup y = some c ∧ c < s.heap.objs.size := fun {y c} hm => by
    rcases cloFrom_mem hm with h1 | ⟨h1, h2⟩
    · cases h1
    · obtain ⟨c', hc'⟩ := hfree _ h1 rfl
      have hc2 : X.env.cells.lookup y = some c' := hc'
      rw [hc2] at h2
      have h3 : c = c' := h2
      subst h3
      obtain ⟨w, z⟩ := I.cell _ _ hc2
      exact ⟨hc2, z.lt⟩
  have mem : ∀ {y c}, ce.cells.lookup y = some c → (X.env.cells.lookup y = some c ∧ c < s.heap.objs.size) ∨ (s.heap.objs.size < c ∧ s'.heap.IsCell c none) := fun {y c} e => by
    rw [hcl] at e
    have hm := PySem.mem_of_lookup e
    rw [← Heap.size_push s.heap { cls := .type "frame", data := .dict #[] }] at hm
    rcases oc_cells_mem hm with h | ⟨h1, h2⟩
    · exact .inl (cm h)
    · rw [Heap.size_push] at h1
      exact .inr ⟨h1, hnew c h2 h1⟩
  have inj : ∀ {y z c}, ce.cells.lookup y = some c → ce.cells.lookup z = some c → y = z := fun {y z c} e1 e2 => by
    rw [hcl] at e1 e2
    refine cells_inj scope.names (s.heap.objs.size + 1) _ (fun p hp q hq e => ?_) (fun p hp => ?_) _ (PySem.mem_of_lookup e1) _ (PySem.mem_of_lookup e2) rfl
    · obtain ⟨p1, p2⟩ := p
      obtain ⟨q1, q2⟩ := q
      have e : p2 = q2 := e
      subst e
      exact I.ok.inj _ _ _ (cm hp).1 (cm hq).1
    · obtain ⟨p1, p2⟩ := p
      exact Nat.lt_succ_of_lt (cm hp).2
  have look : ∀ {y}, scope.names.lookup y = some .free → ∃ c, ce.cells.lookup y = some c ∧ X.env.cells.lookup y = some c := fun {y} hl => by
    have hy : (y, NameKind.free) ∈ scope.names := PySem.mem_of_lookup hl
    obtain ⟨c', e'⟩ := mem_lookup (cloFrom_has (cells := X.env.cells) (acc := []) hy)
    have nc : (y, NameKind.cell) ∉ scope.names := fun hm => by
      have := ok.uniq _ hm
      rw [show scope.names.lookup y = _ from hl] at this
      cases this
    refine ⟨c', ?_, (cm (PySem.mem_of_lookup e')).1⟩
    rw [hcl, cells_skip scope.names _ _ nc]
    exact e'
  have okB : (genX X A s H ce fp pn).Ok := by
    refine ⟨I.ok.mod, by show ce.scope.kind = _; rw [hsc]; exact ok.kind, by show ce.globals = _; rw [hce]; exact I.ok.glob, by show ce.builtins = _; rw [hce]; rfl, by show s.heap.objs.size ≤ ce.locals; rw [hL]; exact Nat.le_refl _,
      fun y z c e1 e2 => ?_, fun y hy => ?_, fun y c z e => ?_, fun _ => hh, hA, .inr ⟨rfl, ?_⟩, fun b hb => ⟨?_, fun y c e z => ?_⟩, I.bs, Nat.le_trans I.ok.bsz I.sz, fun b o e hb => ?_, fun b hb z => ?_, I.stack, I.stkFree⟩
    · exact inj e1 e2
    · show ∃ c, ce.cells.lookup y = some c
      rcases hy with hy | hy
      · have hy : ce.scope.names.lookup y = some .cell := hy
        rw [hsc] at hy
        rw [hcl]
        exact Option.isSome_iff_exists.mp (oc_cell_some _ _ _ _ hy)
      · have hy : ce.scope.names.lookup y = some .free := hy
        rw [hsc] at hy
        obtain ⟨c, h1, _⟩ := look hy
        exact ⟨c, h1⟩
    · have z : (ce.scope.names.lookup y == some NameKind.cell) = true := z
      rw [hsc] at z
      have z : scope.names.lookup y = some NameKind.cell := eq_of_beq z
      rw [hcl] at e
      have hm := PySem.mem_of_lookup e
      rw [← Heap.size_push s.heap { cls := .type "frame", data := .dict #[] }] at hm
      rcases oc_cells_mem hm with h | ⟨h1, h2⟩
      · exfalso
        rcases cloFrom_mem h with k | ⟨k, _⟩
        · cases k
        · have := ok.uniq _ k
          rw [show scope.names.lookup y = _ from z] at this
          cases this
      · rw [Heap.size_push] at h1
        exact Nat.le_of_lt h1
    · show ce.frame = some ce.locals
      rw [hce]; rfl
    · show b ≠ ce.locals
      rw [hL]; exact Nat.ne_of_lt (hfp b hb).2
    · rcases mem e with h | h
      · exact (hfp b hb).1.2.2.2.2.1 y c h.1 z
      · have h1 := h.1
        rw [z] at h1
        exact Nat.lt_irrefl _ (Nat.lt_trans h1 (hfp b hb).2)
    · rcases (hfp b hb).1.2.2.2.1 with z | z
      · exact I.ok.noex b o e z
      · exact (Nat.lt_irrefl _ (Nat.lt_of_lt_of_le (Nat.lt_of_lt_of_le (Heap.lt_size e) I.ok.bsz) z)).elim
    · rcases List.mem_cons.mp (I.stkSub b z) with z | z
      · exact (hfp b hb).1.2.1 z
      · exact (hfp b hb).1.2.2.1 z
  refine ⟨okB, hos, hb, Un.kept kp, ⟨m, ?_, fun i y av e1 e2 e3 => ?_⟩, fun y c e => ?_, ?_, fun y c e => ?_, fun p hp => ?_, I.hok.kept kp, by rw [wipe_length]; exact I.len⟩
  · show Heap.Ns _ ce.locals _
    rw [hL]
    exact hn
  · obtain ⟨e2, hne⟩ := wipe_some e2
    have hfr : scope.names.lookup y = some .free := by
      have key : ∀ k, ce.scope.names.lookup y = some k → k = .local ∨ k = .cell ∨ k = .free → scope.names.lookup y = some .free := fun k hk hk' => by
        rw [hsc] at hk
        have no : ¬ (k = .local ∨ k = .cell) := fun hh => by
          rcases ok.own _ (PySem.mem_of_lookup hk) hh with e' | e'
          · obtain ⟨p, hp, hpy⟩ := List.mem_map.mp e'
            have e3 := ok.ix p hp
            have : p.1 = y := hpy
            rw [this] at e3
            exact hne (List.mem_map.mpr ⟨p, hp, nodup_ix hN e3 e1⟩)
          · exact e' (List.mem_of_getElem? e1)
        rcases hk' with rfl | rfl | rfl
        · exact absurd (.inl rfl) no
        · exact absurd (.inr rfl) no
        · exact hk
      have e3 : Vis ce.scope y := e3
      rcases e3 with e3 | e3 | e3
      · exact key _ e3 (.inl rfl)
      · exact key _ e3 (.inr (.inl rfl))
      · exact key _ e3 (.inr (.inr rfl))
    obtain ⟨m0, hn0, hl⟩ := I.loc
    have hvis : Vis X.env.scope y := (ok.free _ (PySem.mem_of_lookup hfr) rfl).elim (fun k => .inr (.inl k)) (fun k => .inr (.inr k))
    obtain ⟨w, r, q⟩ := hl i y av e1 e2 hvis
    refine ⟨w, r, .inr ⟨.inr ?_, ?_⟩⟩
    · show ce.scope.names.lookup y = _
      rw [hsc]; exact hfr
    obtain ⟨c, h1, h2⟩ := look hfr
    rcases q with ⟨k, _⟩ | ⟨_, c', e', z⟩
    · have k : X.env.scope.names.lookup y = some .local := k
      rcases ok.free _ (PySem.mem_of_lookup hfr) rfl with k' | k' <;> rw [show X.env.scope.names.lookup y = _ from k'] at k <;> cases k
    · rw [h2] at e'; cases e'
      exact ⟨c, h1, z.keeps kp⟩
  · rcases mem e with h | h
    · obtain ⟨w, z⟩ := I.cell y c h.1
      exact ⟨w, z.keeps kp⟩
    · exact ⟨none, h.2⟩
  · show H ce.locals = none
    rw [hL]; exact I.hok.fresh (Nat.le_refl _)
  · rcases mem e with h | h
    · exact I.freeC y c h.1
    · exact I.hok.fresh (Nat.le_of_lt h.1)
  · rcases List.mem_append.mp hp with hp | hp
    · obtain ⟨h1, h2, h3⟩ := hpn p hp
      refine ⟨h2, I.hok.fresh (Nat.le_of_lt h1), ?_, fun z => ?_, h3⟩
      · show p.1 ≠ ce.locals
        rw [hL]; exact Nat.ne_of_gt h1
      · have z : p.1 ∈ frs X.stack := z
        rcases List.mem_cons.mp (I.stkSub _ z) with z | z
        · have := I.lt
          rw [← z] at this
          exact absurd (Nat.lt_trans this h1) (Nat.lt_irrefl _)
        · exact I.nofs (Nat.le_of_lt h1) z
    · cases hp
/-- what is left once the code object is there -/
theorem gen_cont {k : Nat} {b : Bool} {P0 : Addr} {elt tg iter : Expr} {ifs : List Expr} {scope : Scope} {own : List (Str × Nat)} {gpos : Pos} {g : TG} {tt : TT} {te : TE} {Q : VK} {Q' : Value → Shared → Prop} {code : Value} {it : Addr} {fp : List Addr} {tn : Nat → Heap → Prop} {J : It}
    (hc : X.calm = true) (hr : Room (k + 3) X.A) (hN : X.N.Nodup) (hbm : X.base.BuiltinsAt X.mg P0) (ok : BlkOk X.N X.env.scope scope own) (hco : scope.isCoroutine = false)
    (hg : ∀ (A : Around) (C : Addr) (cl : List (Str × Addr)) (fp : List Addr) (pn : List (Addr × Obj)), Room k A → PG (genX X A s H (genEnv scope cl C code builtinsNs X.env) fp pn) tg g)
    (ht : ∀ (A : Around) (C : Addr) (cl : List (Str × Addr)) (fp : List Addr) (pn : List (Addr × Obj)), Room k A → PTs (genX X A s H (genEnv scope cl C code builtinsNs X.env) fp pn) ifs tt)
    (he : ∀ (A : Around) (C : Addr) (cl : List (Str × Addr)) (fp : List Addr) (pn : List (Addr × Obj)), Room k A → PE (genX X A s H (genEnv scope cl C code builtinsNs X.env) fp pn) elt te)
    (I3 : Inv X pins σ H s) (T : Turn X.prog X.w X.K tg J fp it tn) (st3 : tn 0 s.heap) (f3 : ∀ b ∈ fp, FpOk X pins H b ∧ b < s.heap.objs.size)
    (hW : ∃ W : Nat → Nat → Hp → Prop, (∃ m, W 0 m H) ∧ ∀ i m H, W i m H → tTurn b J σ g tt te (own.map (·.2)) Q W i m H) (hQ : ∀ a s5, Fresh X pins σ Q b a s5 → Q' (.ref a) s5) :
    wpAny (model X.prog X.w) X.A (builtinsFor X.env.globals X.env.builtins) (Born (.GeneratorExp elt [⟨tg, iter, ifs, 0⟩] scope gpos) scope (cloFrom X.env.cells scope.names []) (.ref it) code X.env Q') X.xe s := by
  obtain ⟨bm, ob, e1, e2, e3, e4, e5, e6, e7, e8⟩ := hbm
  refine wpAny_builtinsFor (m := X.mg) (by rw [I3.ok.glob]; exact I3.mod.glob.keeps I3.bk) e1 e2 (I3.bk _ _ e5) e6 e7 e8 ?_
  obtain ⟨W, ⟨m0, w0⟩, turn⟩ := hW
  intro h' hn' hs'
  have hn' : h'.Ns s.heap.objs.size (fun y => if y = ".0" then some (Value.ref it) else none) := hn'
  have hs' : Heap.SameBut s.heap.objs.size (pushCells (s.heap.push { cls := .type "frame", data := .dict #[] }) scope.names) h' := hs'
  have hszz : s.heap.objs.size + 1 ≤ h'.objs.size := by
    have := pushC_le scope.names (s.heap.push { cls := .type "frame", data := .dict #[] })
    rw [Heap.size_push] at this
    rw [hs'.1]
    exact this
  have keep' : ∀ b o, s.heap.get? b = some o → h'.get? b = some o := fun b o e => hs'.extBut b o (Nat.ne_of_lt (Heap.lt_size e)) (pushCells_keeps _ _ b o (Heap.get?_push_of_some _ e))
  refine hQ _ _ ?_
  generalize hgo : genObj s.gens.size s.toks X.env.qual = go
  have hgen : ∀ h : Heap, h.get? h'.objs.size = some go → h.IsGen h'.objs.size s.gens.size := fun h e => by
    subst hgo
    exact ⟨_, _, _, e, rfl, rfl, rfl⟩
  have keep5 : ∀ b o, s.heap.get? b = some o → (h'.push go).get? b = some o := fun b o e => Heap.get?_push_of_some _ (keep' b o e)
  have hpushed : (h'.push go).get? h'.objs.size = some go := by
    subst hgo
    exact Heap.get?_push_size _ rfl
  have hgd : ∀ v, go.data ≠ .cell v := fun v z => by
    subst hgo
    cases z
  generalize hce : genEnv scope (cellsFrom (s.heap.objs.size + 1) scope.names (cloFrom X.env.cells scope.names [])) s.heap.objs.size code builtinsNs X.env = ce
  have bare5 : AllBare (s.gens.push (.fresh (.compStart (.GeneratorExp elt [⟨tg, iter, ifs, 0⟩] scope gpos) 0 (.ref it) .none ce))) := AllBare.push I3.bare rfl
  have hsc : ce.scope = scope := by rw [← hce]; rfl
  have hr2 : Room (k + 1) X.A.in1.in1 := hr.in1.in1
  refine ⟨s.gens.size, m0 + 1, fp, H, s, .compStart (.GeneratorExp elt [⟨tg, iter, ifs, 0⟩] scope gpos) 0 (.ref it) .none ce, ?_, ?_, ?_, ?_, fun s6 eh eo hb6 => ?_, fun c s' hf => ?_⟩
  · subst hgo hce
    exact hgen _ hpushed
  · subst hgo hce
    exact I3.nolimit.keeps keep5
  · subst hgo hce
    exact bare5
  · subst hgo hce
    exact Array.getElem?_push_size ..
  · have eh : s6.heap = h'.push go := by subst hgo hce; exact eh
    have eo : s6.os = s.os := by subst hgo hce; exact eo
    have I6 : Inv (genX X (X.A.in1.in1.deeper ce) s H ce fp [(h'.objs.size, go)]) [] (wipe σ (own.map (·.2))) H s6 := by
      refine gen_startC (code := code) I3 ok hN f3 hce.symm ?_ (hr2.deeper ce).hd eo hb6 (fun b o e => by rw [eh]; exact keep5 b o e) (by rw [eh]; exact hn'.keeps fun b o e => Heap.get?_push_of_some _ e) (fun c hc hlt => by rw [eh]; exact (hc.sameBut hs' (Nat.ne_of_gt hlt)).keeps fun b o e => Heap.get?_push_of_some _ e) fun p hp => ?_
      · show pushEnvs [ce] X.A.frames = _
        rw [I3.ok.frames]
        rfl
      · rw [List.mem_singleton.mp hp]
        refine ⟨?_, by rw [eh]; exact hpushed, hgd⟩
        show s.heap.objs.size < h'.objs.size
        omega
    have st6 : tn 0 s6.heap := T.keep _ _ _ st3 fun b _ o e => by rw [eh]; exact keep5 b o e
    refine seg_start rfl (fun A' Q E hq => T.self A' 0 s6 Q E st6 hq) ?_
    refine seg_loop (k := k) hc (hr2.deeper ce) (by rw [hsc]; exact hco) hgen (fun b hb => ?_) T ?_ ?_ ?_ turn m0 (m0 + 1) 0 H s6 s6 (Nat.lt_succ_self _) w0 I6 st6 fun b hb => (f3 b hb).1.1
    · intro z
      have h11 := Nat.lt_trans (f3 b hb).2 (show s.heap.objs.size < h'.objs.size by omega)
      rw [← z] at h11
      exact Nat.lt_irrefl _ h11
    · rw [← hce]; exact hg _ _ _ _ _ (hr2.deeper _)
    · rw [← hce]; exact ht _ _ _ _ _ (hr2.deeper _)
    · rw [← hce]; exact he _ _ _ _ _ (hr2.deeper _)
  · obtain ⟨H', h1, h2, h3, h4, h5⟩ := hf
    exact ⟨H', I3.call' (ch := fp) h1 h3 h4 h2 fun b hb => ⟨(f3 b hb).1.2.2.2.1, (f3 b hb).1.2.1, (f3 b hb).1.2.2.2.2.1, (f3 b hb).1.2.2.2.2.2⟩, h5⟩
/-- the outer one: the def's own code object at c, its table at P -/
theorem gen_makeD {k : Nat} {c P : Addr} {b : Bool} {elt tg iter : Expr} {ifs : List Expr} {scope : Scope} {own : List (Str × Nat)} {gpos : Pos} {wi : TI} {g : TG} {tt : TT} {te : TE} {Q : VK} {Q' : Value → Shared → Prop}
    (hc : X.calm = true) (hr : Room (k + 3) X.A) (hN : X.N.Nodup) (TB : TabB X.base X.mg c P) (hcode : X.env.code = .ref c) (ok : BlkOk X.N X.env.scope scope own) (hdot : scope.names.lookup (".0" : Str) = some NameKind.local)
    (hco : scope.isCoroutine = false) (hi : PI X tg iter wi) (hg : InGenD X k P scope fun Y => PG Y tg g) (ht : InGenD X k P scope fun Y => PTs Y ifs tt) (he : InGenD X k P scope fun Y => PE Y elt te)
    (hs : ∀ v, genFold iter X.env v = pure v) (I : Inv X pins σ H s) (h : tGd b P wi g tt te (own.map (·.2)) σ H Q) (hQ : ∀ a s5, Fresh X pins σ Q b a s5 → Q' (.ref a) s5) :
    wpAny (model X.prog X.w) X.A (eval (.GeneratorExp elt [⟨tg, iter, ifs, 0⟩] scope gpos) X.env) Q' X.xe s := by
  have hfree := has_free I ok
  refine gen_born hco (closure_ok hfree) hdot ok.kind (by have := hr.dp; omega) hs ?_
  refine thn (hi.run pins s σ H _ I h) fun xv s1 hx => thn hx fun itv s2 h2 => ?_
  obtain ⟨it, fp, tn, J, H2, e, I2, T, st2, f2, hD, q⟩ := h2
  subst e
  refine ⟨I2.nolimit, ?_⟩
  obtain ⟨ps, hP, htr, ent⟩ := id hD
  have hPs : s2.heap.get? P = some { cls := .none, data := .fields ps } := I2.hok P _ hP
  have cd : PySem.W.CodeHd s2.heap c P := TB.code.keeps fun b u e => I2.bk b u e
  have sz := turn_old T st2
  have nP : ∀ b ∈ fp, b ≠ P := fun b hb z => by
    have := (f2 b hb).1
    rw [z, hP] at this
    cases this
  cases hf : codeAmong gpos ps.toList with
  | none =>
    refine wpAny_genexprCodeX hcode (cd.code hPs htr) (cd.tab hPs) hf fun c' h' tk hx hge hlt hco' _ htab' ⟨P', hP', hic, hta⟩ => ?_
    have cdN : PySem.W.CodeHd h' c' P' := .of hic hta
    obtain ⟨o1, vs, f1, tf, fl, tg', inF, tx, tt', op, _, _, _, _, _, _, _, _, _, htr', _⟩ := hco'
    have nc : c' ≠ P' := let ⟨_, _, _, _, _, _, _, _, _, _, _, _, _, _, _, _, _, _, z⟩ := cdN; z
    have hnC : H2 c' = none := I2.hok.fresh hge
    have hnP : H2 P' = none := I2.hok.fresh hP'
    have I3 := inv_tabD (more := #[rawInt gpos.line, rawInt gpos.col, Value.ref c']) (h' := h') (g' := s2.gens) (d' := s2.drawn) (t' := tk) I2 hP (fun b o hb e => hx b o hb e) htab'.2 hge hP' nc cdN hta.2 I2.bare
    obtain ⟨d3, x3⟩ := tabD_new (pos := gpos) hD hP hnC hnP nc htr'
    have nPc : P ≠ c' := ne_of_none hP hnC
    have nP1 : P ≠ P' := ne_of_none hP hnP
    have hin : InTab (upd (upd (upd H2 P (.tbl (ps ++ #[rawInt gpos.line, rawInt gpos.col, Value.ref c']))) c' (CodeH c' P')) P' (.tbl #[])) P (.ref c') := ⟨gpos, _, by rw [upd_ne nP1, upd_ne nPc, upd_same], htr', by
      rw [show (ps ++ #[rawInt gpos.line, rawInt gpos.col, Value.ref c']).toList = ps.toList ++ [rawInt gpos.line, rawInt gpos.col, .ref c'] by simp]
      exact codeAmong_snoc _ htr hf⟩
    refine gen_cont (k := k) (own := own) (g := g) (tt := tt) (te := te) hc hr hN TB.bm ok hco (fun A C cl fp pn hA => hg A _ _ C cl _ fp pn hA hin) (fun A C cl fp pn hA => ht A _ _ C cl _ fp pn hA hin) (fun A C cl fp pn hA => he A _ _ C cl _ fp pn hA hin) I3 T
      (T.keep _ _ _ st2 fun b hb o e => hx b o (nP b hb) e) (fun b hb => ⟨⟨?_, (f2 b hb).2⟩, Nat.lt_of_lt_of_le (sz b hb) (Nat.le_trans hge (Nat.le_of_lt hlt))⟩) (q _ x3 d3) hQ
    rw [upd_ne (Nat.ne_of_lt (Nat.lt_of_lt_of_le (sz b hb) hP')), upd_ne (Nat.ne_of_lt (Nat.lt_of_lt_of_le (sz b hb) hge)), upd_ne (nP b hb)]
    exact (f2 b hb).1
  | some cv =>
    refine wpAny_genexprCode_hit hcode (cd.code hPs htr) hf ?_
    have hin : InTab H2 P cv := ⟨gpos, ps, hP, htr, hf⟩
    exact gen_cont (k := k) (own := own) (g := g) (tt := tt) (te := te) hc hr hN TB.bm ok hco (fun A C cl fp pn hA => hg A _ _ C cl _ fp pn hA hin) (fun A C cl fp pn hA => ht A _ _ C cl _ fp pn hA hin) (fun A C cl fp pn hA => he A _ _ C cl _ fp pn hA hin) I2 T
      st2 (fun b hb => ⟨f2 b hb, sz b hb⟩) (q _ (Kt.refl _) hD) hQ
/-- the inner one: the frame's code object is one of the table at P -/
theorem gen_makeN {k : Nat} {P P0 : Addr} {b : Bool} {elt tg iter : Expr} {ifs : List Expr} {scope : Scope} {own : List (Str × Nat)} {gpos : Pos} {wi : TI} {g : TG} {tt : TT} {te : TE} {Q : VK} {Q' : Value → Shared → Prop}
    (hc : X.calm = true) (hr : Room (k + 3) X.A) (hN : X.N.Nodup) (hbm : X.base.BuiltinsAt X.mg P0) (hcode : InTab X.H_0 P X.env.code) (ok : BlkOk X.N X.env.scope scope own) (hdot : scope.names.lookup (".0" : Str) = some NameKind.local)
    (hco : scope.isCoroutine = false) (hi : PI X tg iter wi) (hg : InGen X k scope fun Y => PG Y tg g) (ht : InGen X k scope fun Y => PTs Y ifs tt) (he : InGen X k scope fun Y => PE Y elt te)
    (hs : ∀ v, genFold iter X.env v = pure v) (I : Inv X pins σ H s) (h : tGd b P wi g tt te (own.map (·.2)) σ H Q) (hQ : ∀ a s5, Fresh X pins σ Q b a s5 → Q' (.ref a) s5) :
    wpAny (model X.prog X.w) X.A (eval (.GeneratorExp elt [⟨tg, iter, ifs, 0⟩] scope gpos) X.env) Q' X.xe s := by
  have hfree := has_free I ok
  refine gen_born hco (closure_ok hfree) hdot ok.kind (by have := hr.dp; omega) hs ?_
  refine thn (hi.run pins s σ H _ I h) fun xv s1 hx => thn hx fun itv s2 h2 => ?_
  obtain ⟨it, fp, tn, J, H2, e, I2, T, st2, f2, hD, q⟩ := h2
  subst e
  refine ⟨I2.nolimit, ?_⟩
  obtain ⟨pos0, qs, hq0, hq1, hq2⟩ := hcode.un I2.base hD.g
  obtain ⟨qs', hq3, hq4, ent⟩ := id hD
  rw [hq0] at hq3
  cases hq3
  obtain ⟨c, P1, hcv, n1, hH, ps, hP, htr⟩ := ent pos0 _ hq2
  have hPs : s2.heap.get? P1 = some { cls := .none, data := .fields ps } := I2.hok P1 _ hP
  have cd : PySem.W.CodeHd s2.heap c P1 := codeH_at I2.hok hH
  have sz := turn_old T st2
  have nP : ∀ b ∈ fp, b ≠ P1 := fun b hb z => by
    have := (f2 b hb).1
    rw [z, hP] at this
    cases this
  cases hf : codeAmong gpos ps.toList with
  | none =>
    refine wpAny_genexprCodeX hcv (cd.code hPs htr) (cd.tab hPs) hf fun c' h' tk hx hge hlt hco' _ htab' _ => ?_
    obtain ⟨o1, vs, f1, tf, fl, tg', inF, tx, tt', op, _, _, _, _, _, _, _, _, _, htr', _⟩ := hco'
    have I3 := inv_tab (more := #[rawInt gpos.line, rawInt gpos.col, Value.ref c']) (h' := h') (g' := s2.gens) (d' := s2.drawn) (t' := tk) I2 hP (fun b o hb e => hx b o hb e) htab'.2 I2.bare
    obtain ⟨d3, x3⟩ := tabD_grow hD n1 hP htr'
    refine gen_cont (k := k) (own := own) (g := g) (tt := tt) (te := te) hc hr hN hbm ok hco (fun A C cl fp pn hA => hg A _ _ C cl _ fp pn hA) (fun A C cl fp pn hA => ht A _ _ C cl _ fp pn hA) (fun A C cl fp pn hA => he A _ _ C cl _ fp pn hA) I3 T
      (T.keep _ _ _ st2 fun b hb o e => hx b o (nP b hb) e) (fun b hb => ⟨⟨?_, (f2 b hb).2⟩, Nat.lt_of_lt_of_le (sz b hb) (Nat.le_trans hge (Nat.le_of_lt hlt))⟩) (q _ x3 d3) hQ
    rw [upd_ne (nP b hb)]
    exact (f2 b hb).1
  | some cv =>
    refine wpAny_genexprCode_hit hcv (cd.code hPs htr) hf ?_
    exact gen_cont (k := k) (own := own) (g := g) (tt := tt) (te := te) hc hr hN hbm ok hco (fun A C cl fp pn hA => hg A _ _ C cl _ fp pn hA) (fun A C cl fp pn hA => ht A _ _ C cl _ fp pn hA) (fun A C cl fp pn hA => he A _ _ C cl _ fp pn hA) I2 T
      st2 (fun b hb => ⟨f2 b hb, sz b hb⟩) (q _ (Kt.refl _) hD) hQ
/-- any(elt for tg in iter if ..) -/
theorem pe_anyD {k : Nat} {c P : Addr} {elt tg iter : Expr} {ifs : List Expr} {scope : Scope} {own : List (Str × Nat)} {p pos gpos : Pos} {wi : TI} {g : TG} {tt : TT} {te : TE}
    (hc : X.calm = true) (hr : Room (k + 3) X.A) (hN : X.N.Nodup) (hgl : Gl X "any") (hm : X.mg "any" = none) (TB : TabB X.base X.mg c P) (hcode : X.env.code = .ref c) (ok : BlkOk X.N X.env.scope scope own) (hdot : scope.names.lookup (".0" : Str) = some NameKind.local)
    (hco : scope.isCoroutine = false) (hi : PI X tg iter wi) (hg : InGenD X k P scope fun Y => PG Y tg g) (ht : InGenD X k P scope fun Y => PTs Y ifs tt) (he : InGenD X k P scope fun Y => PE Y elt te)
    (hs : ∀ v, genFold iter X.env v = pure v)
    (hst : starEach [.GeneratorExp elt [⟨tg, iter, ifs, 0⟩] scope gpos] X.env = (false, eval (.GeneratorExp elt [⟨tg, iter, ifs, 0⟩] scope gpos) X.env) :: starEach [] X.env := by rfl) :
    PE X (.Call (.Name "any" p) [.GeneratorExp elt [⟨tg, iter, ifs, 0⟩] scope gpos] [] pos) (tGd true P wi g tt te (own.map (·.2))) := by
  refine ⟨fun pins s σ H Q I h => ?_⟩
  refine wpAny_Call_Name_kw (ld_blt I hgl hm boot_any ?_)
  refine PyProof.Rows.callWith_builtin1 ?_ hst (by rfl)
  rw [hst]
  show wpAny _ _ (spliced ((false, eval (.GeneratorExp elt [⟨tg, iter, ifs, 0⟩] scope gpos) X.env) :: backTo pos (starEach [] X.env))) _ _ s
  refine Calls.spliced_cons (gen_makeD hc hr hN TB hcode ok hdot hco hi hg ht he hs I h fun a s5 hF => ?_)
  refine Calls.spliced_nil ?_
  exact call_any_new rfl hr.hd (by have := hr.dp; omega) hF
/-- all(elt for tg in iter if ..) -/
theorem pe_allD {k : Nat} {c P : Addr} {elt tg iter : Expr} {ifs : List Expr} {scope : Scope} {own : List (Str × Nat)} {p pos gpos : Pos} {wi : TI} {g : TG} {tt : TT} {te : TE}
    (hc : X.calm = true) (hr : Room (k + 3) X.A) (hN : X.N.Nodup) (hgl : Gl X "all") (hm : X.mg "all" = none) (hbo : bootBuiltins "all" = some (.builtin "all")) (TB : TabB X.base X.mg c P) (hcode : X.env.code = .ref c) (ok : BlkOk X.N X.env.scope scope own) (hdot : scope.names.lookup (".0" : Str) = some NameKind.local)
    (hco : scope.isCoroutine = false) (hi : PI X tg iter wi) (hg : InGenD X k P scope fun Y => PG Y tg g) (ht : InGenD X k P scope fun Y => PTs Y ifs tt) (he : InGenD X k P scope fun Y => PE Y elt te)
    (hs : ∀ v, genFold iter X.env v = pure v)
    (hst : starEach [.GeneratorExp elt [⟨tg, iter, ifs, 0⟩] scope gpos] X.env = (false, eval (.GeneratorExp elt [⟨tg, iter, ifs, 0⟩] scope gpos) X.env) :: starEach [] X.env := by rfl) :
    PE X (.Call (.Name "all" p) [.GeneratorExp elt [⟨tg, iter, ifs, 0⟩] scope gpos] [] pos) (tGd false P wi g tt te (own.map (·.2))) := by
  refine ⟨fun pins s σ H Q I h => ?_⟩
  refine wpAny_Call_Name_kw (ld_blt I hgl hm hbo ?_)
  refine PyProof.Rows.callWith_builtin1 ?_ hst (by rfl)
  rw [hst]
  show wpAny _ _ (spliced ((false, eval (.GeneratorExp elt [⟨tg, iter, ifs, 0⟩] scope gpos) X.env) :: backTo pos (starEach [] X.env))) _ _ s
  refine Calls.spliced_cons (gen_makeD hc hr hN TB hcode ok hdot hco hi hg ht he hs I h fun a s5 hF => ?_)
  refine Calls.spliced_nil ?_
  exact call_all_new rfl hr.hd (by have := hr.dp; omega) hF
/-- .. within: any(elt for tg in iter if ..) -/
theorem pe_anyN {k : Nat} {P P0 : Addr} {elt tg iter : Expr} {ifs : List Expr} {scope : Scope} {own : List (Str × Nat)} {p pos gpos : Pos} {wi : TI} {g : TG} {tt : TT} {te : TE}
    (hc : X.calm = true) (hr : Room (k + 3) X.A) (hN : X.N.Nodup) (hgl : Gl X "any") (hm : X.mg "any" = none) (hbm : X.base.BuiltinsAt X.mg P0) (hcode : InTab X.H_0 P X.env.code) (ok : BlkOk X.N X.env.scope scope own) (hdot : scope.names.lookup (".0" : Str) = some NameKind.local)
    (hco : scope.isCoroutine = false) (hi : PI X tg iter wi) (hg : InGen X k scope fun Y => PG Y tg g) (ht : InGen X k scope fun Y => PTs Y ifs tt) (he : InGen X k scope fun Y => PE Y elt te)
    (hs : ∀ v, genFold iter X.env v = pure v)
    (hst : starEach [.GeneratorExp elt [⟨tg, iter, ifs, 0⟩] scope gpos] X.env = (false, eval (.GeneratorExp elt [⟨tg, iter, ifs, 0⟩] scope gpos) X.env) :: starEach [] X.env := by rfl) :
    PE X (.Call (.Name "any" p) [.GeneratorExp elt [⟨tg, iter, ifs, 0⟩] scope gpos] [] pos) (tGd true P wi g tt te (own.map (·.2))) := by
  refine ⟨fun pins s σ H Q I h => ?_⟩
  refine wpAny_Call_Name_kw (ld_blt I hgl hm boot_any ?_)
  refine PyProof.Rows.callWith_builtin1 ?_ hst (by rfl)
  rw [hst]
  show wpAny _ _ (spliced ((false, eval (.GeneratorExp elt [⟨tg, iter, ifs, 0⟩] scope gpos) X.env) :: backTo pos (starEach [] X.env))) _ _ s
  refine Calls.spliced_cons (gen_makeN hc hr hN hbm hcode ok hdot hco hi hg ht he hs I h fun a s5 hF => ?_)
  refine Calls.spliced_nil ?_
  exact call_any_new rfl hr.hd (by have := hr.dp; omega) hF
/-- .. within: all(elt for tg in iter if ..) -/
theorem pe_allN {k : Nat} {P P0 : Addr} {elt tg iter : Expr} {ifs : List Expr} {scope : Scope} {own : List (Str × Nat)} {p pos gpos : Pos} {wi : TI} {g : TG} {tt : TT} {te : TE}
    (hc : X.calm = true) (hr : Room (k + 3) X.A) (hN : X.N.Nodup) (hgl : Gl X "all") (hm : X.mg "all" = none) (hbo : bootBuiltins "all" = some (.builtin "all")) (hbm : X.base.BuiltinsAt X.mg P0) (hcode : InTab X.H_0 P X.env.code) (ok : BlkOk X.N X.env.scope scope own) (hdot : scope.names.lookup (".0" : Str) = some NameKind.local)
    (hco : scope.isCoroutine = false) (hi : PI X tg iter wi) (hg : InGen X k scope fun Y => PG Y tg g) (ht : InGen X k scope fun Y => PTs Y ifs tt) (he : InGen X k scope fun Y => PE Y elt te)
    (hs : ∀ v, genFold iter X.env v = pure v)
    (hst : starEach [.GeneratorExp elt [⟨tg, iter, ifs, 0⟩] scope gpos] X.env = (false, eval (.GeneratorExp elt [⟨tg, iter, ifs, 0⟩] scope gpos) X.env) :: starEach [] X.env := by rfl) :
    PE X (.Call (.Name "all" p) [.GeneratorExp elt [⟨tg, iter, ifs, 0⟩] scope gpos] [] pos) (tGd false P wi g tt te (own.map (·.2))) := by
  refine ⟨fun pins s σ H Q I h => ?_⟩
  refine wpAny_Call_Name_kw (ld_blt I hgl hm hbo ?_)
  refine PyProof.Rows.callWith_builtin1 ?_ hst (by rfl)
  rw [hst]
  show wpAny _ _ (spliced ((false, eval (.GeneratorExp elt [⟨tg, iter, ifs, 0⟩] scope gpos) X.env) :: backTo pos (starEach [] X.env))) _ _ s
  refine Calls.spliced_cons (gen_makeN hc hr hN hbm hcode ok hdot hco hi hg ht he hs I h fun a s5 hF => ?_)
  refine Calls.spliced_nil ?_
  exact call_all_new rfl hr.hd (by have := hr.dp; omega) hF
end
end Gx
set_option Elab.async false
set_option linter.all false
set_option maxRecDepth 100000
set_option maxHeartbeats 4000000
namespace Gn
open PySem PySem.Spec PyProof.Rows L2
/-! ### many tables: all else stays -/
/-- H without the tables -/
def nt (H : Hp) : Hp := fun a => match H a with
  | some (.tbl _) => none
  | o => o
theorem nt_at {H : Hp} {a : Addr} {o : HO} (h : H a = some o) (n : ∀ ps, o ≠ .tbl ps) : nt H a = some o := by
  unfold nt
  rw [h]
  cases o <;> first | rfl | exact absurd rfl (n _)
theorem nt_to {H : Hp} {a : Addr} {o : HO} (h : nt H a = some o) : H a = some o ∧ ∀ ps, o ≠ .tbl ps := by
  unfold nt at h
  cases e : H a with
  | none => rw [e] at h; cases h
  | some u =>
    rw [e] at h
    cases u with
    | tbl ps => cases h
    | _ => cases h; exact ⟨rfl, fun ps z => by cases z⟩
theorem nt_same (H : Hp) : Same (nt H) H := fun a o h => (nt_to h).1
theorem nt_none {H : Hp} {a : Addr} (h : H a = none) : nt H a = none := by
  unfold nt
  rw [h]
theorem ext_nt {H H' : Hp} (e : LamX.ExtN H H') : Same (nt H) (nt H') := fun a o h => by
  obtain ⟨h1, h2⟩ := nt_to h
  exact nt_at (e a o h1 h2) h2
theorem same_ext {H H' : Hp} (e : Same H H') : LamX.ExtN H H' := fun a o h _ => e a o h
theorem same_nt {H H' : Hp} (e : Same H H') : Same (nt H) (nt H') := ext_nt (same_ext e)
theorem same_kt {H H' : Hp} (e : Same H H') : Gx.Kt H H' := ⟨same_ext e, fun P ⟨ps, a, b⟩ => ⟨ps, e _ _ a, b⟩⟩
theorem tabD_same {H H' : Hp} {P : Addr} (h : Gx.TabD H P) (e : Same H H') : Gx.TabD H' P := by
  obtain ⟨ps, a, b, c⟩ := h
  refine ⟨ps, e _ _ a, b, fun pos cv hc => ?_⟩
  obtain ⟨c1, P1, z1, z2, z3, qs, z4, z5⟩ := c pos cv hc
  exact ⟨c1, P1, z1, z2, e _ _ z3, qs, e _ _ z4, z5⟩
/-- the defs' tables: flat ones at Ts, one of tables at D -/
structure Tbs (Ts : List Addr) (D : Addr) (H : Hp) : Prop where
  g : ∀ P ∈ Ts, GxR.TabG H P
  d : Gx.TabD H D
theorem Tbs.kt {Ts : List Addr} {D : Addr} {H H' : Hp} (h : Tbs Ts D H) (k : Gx.Kt H H') (d : Gx.TabD H' D) : Tbs Ts D H' := ⟨fun P hP => k.2 P (h.g P hP), d⟩
theorem Tbs.same {Ts : List Addr} {D : Addr} {H H' : Hp} (h : Tbs Ts D H) (e : Same H H') : Tbs Ts D H' := h.kt (same_kt e) (tabD_same h.d e)
theorem tabbed_kt {P : Addr} {H H' : Hp} (h : GxR.TabG H P) (t : GxR.Tabbed P H H') : Gx.Kt H H' := by
  obtain ⟨ps, e, _⟩ := h
  refine ⟨fun b o hb n => ?_, fun Q hQ => ?_⟩
  · rw [t.2 b fun z => by rw [z, e] at hb; cases hb; exact n ps rfl]
    exact hb
  · by_cases z : Q = P
    · rw [z]; exact t.1
    · obtain ⟨qs, e1, e2⟩ := hQ
      exact ⟨qs, by rw [t.2 Q z]; exact e1, e2⟩
theorem tabbed_d {P D : Addr} {H H' : Hp} (h : GxR.TabG H P) (n : P ≠ D) (d : Gx.TabD H D) (t : GxR.Tabbed P H H') : Gx.TabD H' D := by
  obtain ⟨ps, e, _⟩ := h
  obtain ⟨qs, e1, e2, e3⟩ := d
  refine ⟨qs, by rw [t.2 D (Ne.symm n)]; exact e1, e2, fun pos cv hc => ?_⟩
  obtain ⟨c1, P1, z1, z2, z3, z4⟩ := e3 pos cv hc
  refine ⟨c1, P1, z1, z2, ?_, (tabbed_kt ⟨ps, e, ‹_›⟩ t).2 P1 z4⟩
  rw [t.2 c1 fun z => by rw [z, e] at z3; exact Gx.codeH_ne _ (Option.some.inj z3).symm]
  exact z3
theorem Tbs.tabbed {Ts : List Addr} {D P : Addr} {H H' : Hp} (h : Tbs Ts D H) (hP : P ∈ Ts) (n : P ≠ D) (t : GxR.Tabbed P H H') : Tbs Ts D H' ∧ LamX.ExtN H H' :=
  have k := tabbed_kt (h.g P hP) t
  ⟨h.kt k (tabbed_d (h.g P hP) n h.d t), k.1⟩
/-- what the tables are to the defs: each flat one is apart from the deep one -/
def TsOk (Ts : List Addr) (D : Addr) : Prop := D ∉ Ts
theorem TsOk.ne {Ts : List Addr} {D P : Addr} (h : TsOk Ts D) (hP : P ∈ Ts) : P ≠ D := fun z => h (z ▸ hP)
theorem ntT {K : PySem.W.Frag} {H : Hp} {a : Addr} {xs : List V} (h : SqT K (nt H) a xs) : SqT K H a xs := Same.tup (nt_same H) h
theorem ntL {K : PySem.W.Frag} {H : Hp} {a : Addr} {xs : List V} (h : SqL K (nt H) a xs) : SqL K H a xs := (nt_same H).seq h
/-- a def whose code object is c -/
structure FunC (K : PySem.W.Frag) (x q : Str) (st : Stmt) (f : Addr) (fd : FuncData) (c : Addr) : Prop where
  ex : ∃ (oc : Value) (od : Option Addr) (kV doc pm : Value) (an : Option Addr) (ct : Value) (osl : Array (Option Value)),
    fd = PySem.W.fnOf x q (defArgs st) (defBody st) (defScope st) .none kV doc pm an (.ref c) ct ∧ K.lookup f = some ⟨oc, od, .func fd, osl⟩ ∧ PySem.W.codeIn K (.ref c) q = true
  kp : PySem.W.keepIn K (.ref f) = true
theorem FunC.ok {P : Program} {w : World} {K : PySem.W.Frag} {mg : Str → Option Value} {base : Heap} {x q : Str} {st : Stmt} {f c : Addr} {fd : FuncData} {N ps : List Str} {k : Nat} {sp : Sp} (F : FunC K x q st f fd c) (S : FnScope N ps (defScope st)) (len : ∀ vs H Q E, sp vs H Q E → vs.length = ps.length)
    (hbody : ∀ (A : Around) (outer : List Env) (s : Shared) (H : Hp) (vs : List V) (Q : VK) (E : XK), Room k (A.deeper (envOfC q (defScope st) s.heap.objs.size f (.ref c))) → sp vs H Q E →
      ∃ t, PSs (cxOf CX0 P w K mg base N q (defScope st) f (.ref c) A outer s H E).nox (defBody st) t ∧ t { nx := fun _ H' => Q .non H', rt := Q } (L2.start N vs) H) : FnOk P w K mg base CX0 (k + 1) f fd ps sp := by
  obtain ⟨oc, od, kV, doc, pm, an, ct, osl, rfl, lk, hcd⟩ := F.ex
  refine fn_of lk hcd S len fun A outer s H vs Q E hr hsp => ?_
  obtain ⟨t, h, q⟩ := hbody A outer s H vs Q E hr hsp
  exact ⟨t, h.nox, q⟩
/-- a def whose code object is c, as it stands behind the top -/
structure DfC (K : PySem.W.Frag) (mg : Str → Option Value) (x : Str) (st : Stmt) (ps : List Str) (f : Addr) (fd : FuncData) (c : Addr) : Prop where
  F : FunC K x x st f fd c
  b : Binds K fd ps []
  g : mg x = some (.ref f)
end Gn
set_option Elab.async false
set_option linter.all false
set_option maxRecDepth 100000
set_option maxHeartbeats 4000000
set_option pp.maxSteps 600
namespace Gn
open PySem PySem.Spec PyProof.Rows L2
theorem ifP {c p q : Prop} [Decidable c] (h : c) (x : p) : if c then p else q := by
  rw [if_pos h]
  exact x
theorem ifN {c p q : Prop} [Decidable c] (h : ¬ c) (x : q) : if c then p else q := by
  rw [if_neg h]
  exact x
theorem ntT' {K : PySem.W.Frag} {H : Hp} {a : Addr} {xs : List V} (h : SqT K H a xs) : SqT K (nt H) a xs := by
  rcases h with (h | ⟨u, h⟩) | h
  · exact .inl (.inl (nt_at h (fun ps z => by cases z)))
  · exact .inl (.inr ⟨u, nt_at h (fun ps z => by cases z)⟩)
  · exact .inr h
theorem ntL' {K : PySem.W.Frag} {H : Hp} {a : Addr} {xs : List V} (h : SqL K H a xs) : SqL K (nt H) a xs := by
  rcases h with (h | ⟨u, h⟩) | h
  · exact .inl (.inl (nt_at h (fun ps z => by cases z)))
  · exact .inl (.inr ⟨u, nt_at h (fun ps z => by cases z)⟩)
  · exact .inr h
/-! ### data of any kind -/
inductive Dt
  | non | bl (b : Bool) | int (n : Int) | str (s : Str) | lst (ds : List Dt) | tup (ds : List Dt) | dct
mutual
inductive DtAt (K : PySem.W.Frag) (H : Hp) : V → Dt → Prop
  | non : DtAt K H .non .non
  | bl (b : Bool) : DtAt K H (.bl b) (.bl b)
  | int (n : Int) : DtAt K H (.int n) (.int n)
  | str (s : Str) : DtAt K H (.str s) (.str s)
  | lst {a : Addr} {xs : List V} {ds : List Dt} : H a = some (.lst xs) → DtAll K H xs ds → DtAt K H (.ref a) (.lst ds)
  | tup {a : Addr} {xs : List V} {ds : List Dt} : SqT K H a xs → DtAll K H xs ds → DtAt K H (.ref a) (.tup ds)
  | dct {a : Addr} {kvs : List (L2.Key × V)} : H a = some (.dK kvs) → DtAt K H (.ref a) .dct
inductive DtAll (K : PySem.W.Frag) (H : Hp) : List V → List Dt → Prop
  | nil : DtAll K H [] []
  | cons {v : V} {vs : List V} {d : Dt} {ds : List Dt} : DtAt K H v d → DtAll K H vs ds → DtAll K H (v :: vs) (d :: ds)
end
mutual
theorem DtAt.same {K : PySem.W.Frag} {H H' : Hp} (e : Same H H') : ∀ (d : Dt) {v : V}, DtAt K H v d → DtAt K H' v d
  | .non, _, h => by cases h; exact .non
  | .bl b, _, h => by cases h; exact .bl b
  | .int n, _, h => by cases h; exact .int n
  | .str s, _, h => by cases h; exact .str s
  | .lst ds, _, h => by
    cases h with
    | lst h1 h2 => exact .lst (e _ _ h1) (DtAll.same e ds h2)
  | .tup ds, _, h => by
    cases h with
    | tup h1 h2 => exact .tup (Same.tup e h1) (DtAll.same e ds h2)
  | .dct, _, h => by
    cases h with
    | dct h1 => exact .dct (e _ _ h1)
theorem DtAll.same {K : PySem.W.Frag} {H H' : Hp} (e : Same H H') : ∀ (ds : List Dt) {vs : List V}, DtAll K H vs ds → DtAll K H' vs ds
  | [], _, h => by cases h; exact .nil
  | d :: ds, _, h => by
    cases h with
    | cons h1 h2 => exact .cons (DtAt.same e d h1) (DtAll.same e ds h2)
end
theorem DtAll.pd {K : PySem.W.Frag} {H : Hp} : ∀ {vs : List V} {ds : List Dt}, DtAll K H vs ds → Paired (DtAt K H) vs ds
  | _, _, .nil => .nil
  | _, _, .cons h t => .cons h t.pd
theorem DtAll.len {K : PySem.W.Frag} {H : Hp} {vs : List V} {ds : List Dt} (h : DtAll K H vs ds) : vs.length = ds.length := pd_len h.pd
mutual
/-- no list or tuple within is too long -/
def szD : Dt → Bool
  | .lst ds => decide (ds.length ≤ 4000) && szAll ds
  | .tup ds => decide (ds.length ≤ 4000) && szAll ds
  | .non => true | .bl _ => true | .int _ => true | .str _ => true | .dct => true
def szAll : List Dt → Bool
  | [] => true
  | d :: ds => szD d && szAll ds
end
theorem szAll_mem : ∀ {ds : List Dt}, szAll ds = true → ∀ d ∈ ds, szD d = true
  | d :: ds, h, x, hx => by
    have h : (szD d && szAll ds) = true := h
    rw [Bool.and_eq_true] at h
    rcases List.mem_cons.mp hx with rfl | hx
    · exact h.1
    · exact szAll_mem h.2 x hx
theorem sz_tup {ds : List Dt} (h : szD (.tup ds) = true) : ds.length ≤ 4000 ∧ ∀ d ∈ ds, szD d = true := by
  have h : (decide (ds.length ≤ 4000) && szAll ds) = true := h
  rw [Bool.and_eq_true] at h
  exact ⟨of_decide_eq_true h.1, szAll_mem h.2⟩
theorem sz_lst {ds : List Dt} (h : szD (.lst ds) = true) : ds.length ≤ 4000 ∧ ∀ d ∈ ds, szD d = true := by
  have h : (decide (ds.length ≤ 4000) && szAll ds) = true := h
  rw [Bool.and_eq_true] at h
  exact ⟨of_decide_eq_true h.1, szAll_mem h.2⟩
def Dt.ty : Dt → String
  | .non => "NoneType" | .bl _ => "bool" | .int _ => "int" | .str _ => "str" | .lst _ => "list" | .tup _ => "tuple" | .dct => "dict"
theorem tyT {K : PySem.W.Frag} {H : Hp} {p : Addr} {xs : List V} (h : SqT K H p xs) : TyX K H (.ref p) (.type "tuple") := by
  rcases h with (h | ⟨u, h⟩) | ⟨o, its, n, h1, h2, _⟩
  · exact .base (.tup h)
  · exact .fTuple h
  · exact .kTuple h1 h2
theorem tyL {K : PySem.W.Frag} {H : Hp} {p : Addr} {xs : List V} (h : SqL K H p xs) : TyX K H (.ref p) (.type "list") := by
  rcases h with (h | ⟨u, h⟩) | ⟨o, its, n, h1, h2, _⟩
  · exact .base (.lst h)
  · exact .base (.frz h)
  · exact .kList h1 h2
theorem tyD {K : PySem.W.Frag} {H : Hp} {v : V} {d : Dt} (h : DtAt K H v d) : TyX K H v (.type d.ty) := by
  cases h with
  | non => exact .base .non
  | bl b => exact .base (.bl b)
  | int n => exact .base (.int n)
  | str s => exact .base (.str s)
  | lst h1 h2 => exact tyL (sqL h1)
  | tup h1 h2 => exact tyT h1
  | dct h1 => exact .base (.dK h1)
def Dt.isInt : Dt → Bool
  | .int _ => true | .bl _ => true | _ => false
def Dt.isBl : Dt → Bool
  | .bl _ => true | _ => false
def Dt.isStr : Dt → Bool
  | .str _ => true | _ => false
def Dt.isL : Dt → Bool
  | .lst _ => true | _ => false
def Dt.isT : Dt → Bool
  | .tup _ => true | _ => false
theorem kt_int {K : PySem.W.Frag} : ∀ d : Dt, PySem.W.kitOne K (.type d.ty) (.type "int") = some d.isInt
  | .non => kit_ty (show kitB "NoneType" "int" = some false by decide +kernel)
  | .bl _ => kit_ty (show kitB "bool" "int" = some true by decide +kernel)
  | .int _ => kit_ty (show kitB "int" "int" = some true by decide +kernel)
  | .str _ => kit_ty (show kitB "str" "int" = some false by decide +kernel)
  | .lst _ => kit_ty (show kitB "list" "int" = some false by decide +kernel)
  | .tup _ => kit_ty (show kitB "tuple" "int" = some false by decide +kernel)
  | .dct => kit_ty (show kitB "dict" "int" = some false by decide +kernel)
theorem kt_bool {K : PySem.W.Frag} : ∀ d : Dt, PySem.W.kitOne K (.type d.ty) (.type "bool") = some d.isBl
  | .non => kit_ty (show kitB "NoneType" "bool" = some false by decide +kernel)
  | .bl _ => kit_ty (show kitB "bool" "bool" = some true by decide +kernel)
  | .int _ => kit_ty (show kitB "int" "bool" = some false by decide +kernel)
  | .str _ => kit_ty (show kitB "str" "bool" = some false by decide +kernel)
  | .lst _ => kit_ty (show kitB "list" "bool" = some false by decide +kernel)
  | .tup _ => kit_ty (show kitB "tuple" "bool" = some false by decide +kernel)
  | .dct => kit_ty (show kitB "dict" "bool" = some false by decide +kernel)
theorem kt_str {K : PySem.W.Frag} : ∀ d : Dt, PySem.W.kitOne K (.type d.ty) (.type "str") = some d.isStr
  | .non => kit_ty (show kitB "NoneType" "str" = some false by decide +kernel)
  | .bl _ => kit_ty (show kitB "bool" "str" = some false by decide +kernel)
  | .int _ => kit_ty (show kitB "int" "str" = some false by decide +kernel)
  | .str _ => kit_ty (show kitB "str" "str" = some true by decide +kernel)
  | .lst _ => kit_ty (show kitB "list" "str" = some false by decide +kernel)
  | .tup _ => kit_ty (show kitB "tuple" "str" = some false by decide +kernel)
  | .dct => kit_ty (show kitB "dict" "str" = some false by decide +kernel)
theorem kt_list {K : PySem.W.Frag} : ∀ d : Dt, PySem.W.kitOne K (.type d.ty) (.type "list") = some d.isL
  | .non => kit_ty (show kitB "NoneType" "list" = some false by decide +kernel)
  | .bl _ => kit_ty (show kitB "bool" "list" = some false by decide +kernel)
  | .int _ => kit_ty (show kitB "int" "list" = some false by decide +kernel)
  | .str _ => kit_ty (show kitB "str" "list" = some false by decide +kernel)
  | .lst _ => kit_ty (show kitB "list" "list" = some true by decide +kernel)
  | .tup _ => kit_ty (show kitB "tuple" "list" = some false by decide +kernel)
  | .dct => kit_ty (show kitB "dict" "list" = some false by decide +kernel)
theorem kt_tuple {K : PySem.W.Frag} : ∀ d : Dt, PySem.W.kitOne K (.type d.ty) (.type "tuple") = some d.isT
  | .non => kit_ty (show kitB "NoneType" "tuple" = some false by decide +kernel)
  | .bl _ => kit_ty (show kitB "bool" "tuple" = some false by decide +kernel)
  | .int _ => kit_ty (show kitB "int" "tuple" = some false by decide +kernel)
  | .str _ => kit_ty (show kitB "str" "tuple" = some false by decide +kernel)
  | .lst _ => kit_ty (show kitB "list" "tuple" = some false by decide +kernel)
  | .tup _ => kit_ty (show kitB "tuple" "tuple" = some true by decide +kernel)
  | .dct => kit_ty (show kitB "dict" "tuple" = some false by decide +kernel)
/-! ### an all, turn by turn -/
theorem all_wi {J : It} {σ : L2.St} {g : TG} {tt : TT} {te : TE} {vs : List Nat} {Q : VK} (n : Nat) (Φ : Nat → Hp → Prop) {H2 : Hp} (h0 : Φ 0 H2)
    (go : ∀ i H, i < n → Φ i H → J.go i H ∧ ∀ x H', J.yld i H x H' → g x (wipe σ vs) H' fun σ2 H2 => wipe σ2 vs = wipe σ vs ∧ tt σ2 H2 fun ok H3 =>
      if ok = true then te σ2 H3 fun y H4 => ∃ c : Bool, y = .bl c ∧ (c = false → Q (.bl false) H4) ∧ (c ≠ false → Φ (i + 1) H4) else Φ (i + 1) H3)
    (stop : ∀ H, Φ n H → J.stop n H ∧ Q (.bl true) H) : ∃ W : Nat → Nat → Hp → Prop, (∃ m, W 0 m H2) ∧ ∀ i m H, W i m H → Gx.tTurn false J σ g tt te vs Q W i m H := by
  refine ⟨fun i m H => m = n - i ∧ i ≤ n ∧ Φ i H, ⟨n, by simp, Nat.zero_le _, h0⟩, ?_⟩
  rintro i m H ⟨rfl, hi, hΦ⟩
  by_cases hlt : i < n
  · obtain ⟨a, b⟩ := go i H hlt hΦ
    exact .inr ⟨a, Φ (i + 1), fun H' h' => ⟨n - (i + 1), by omega, rfl, hlt, h'⟩, b⟩
  · have e : i = n := by omega
    subst e
    exact .inl (stop H hΦ)
theorem all_take {α : Type} (p : α → Bool) {xs : List α} {i : Nat} {x : α} (h : xs[i]? = some x) : (xs.take (i + 1)).all p = ((xs.take i).all p && p x) := by
  rw [List.take_add_one, h, List.all_append]
  simp
theorem all_no {α : Type} {p : α → Bool} {xs : List α} {i : Nat} {x : α} (h : xs[i]? = some x) (e : p x = false) : xs.all p = false := by
  refine Bool.eq_false_iff.mpr fun z => ?_
  have := List.all_eq_true.mp z x (List.mem_of_getElem? h)
  rw [e] at this
  cases this
/-! ### len(set(..)) of a tuple of numbers -/
theorem nd_le : ∀ {xs ys : List Int}, xs.Nodup → (∀ x ∈ xs, x ∈ ys) → xs.length ≤ ys.length
  | [], _, _, _ => Nat.zero_le _
  | x :: xs, ys, h, s => by
    have hx : x ∈ ys := s x List.mem_cons_self
    have h2 := List.nodup_cons.mp h
    have ih := nd_le (ys := ys.erase x) h2.2 fun y hy => (List.mem_erase_of_ne (fun e => h2.1 (by rw [← e]; exact hy))).mpr (s y (List.mem_cons_of_mem _ hy))
    rw [List.length_erase_of_mem hx] at ih
    have : 0 < ys.length := List.length_pos_of_mem hx
    rw [List.length_cons]
    omega
theorem not_nd : ∀ {ns : List Int}, ¬ ns.Nodup → ∃ ys : List Int, (∀ x ∈ ns, x ∈ ys) ∧ ys.length < ns.length
  | [], h => absurd List.nodup_nil h
  | x :: t, h => by
    by_cases hx : x ∈ t
    · exact ⟨t, fun y hy => by
        rcases List.mem_cons.mp hy with rfl | hy
        · exact hx
        · exact hy, by simp⟩
    · obtain ⟨ys, h1, h2⟩ := not_nd (ns := t) fun z => h (List.nodup_cons.mpr ⟨hx, z⟩)
      exact ⟨x :: ys, fun y hy => by
        rcases List.mem_cons.mp hy with rfl | hy
        · exact List.mem_cons_self
        · exact List.mem_cons_of_mem _ (h1 y hy), by simp only [List.length_cons]; omega⟩
/-- c is how many unlike ones there are -/
structure Unl (ns : List Int) (c : Nat) : Prop where
  le : c ≤ ns.length
  iff : c = ns.length ↔ ns.Nodup
theorem unl_of {ns xs : List Int} (h : xs.Nodup) (e : ∀ x, x ∈ xs ↔ x ∈ ns) : Unl ns xs.length := by
  have h1 := nd_le h fun x hx => (e x).mp hx
  refine ⟨h1, fun z => ?_, fun z => ?_⟩
  · refine Classical.byContradiction fun n => ?_
    obtain ⟨ys, g1, g2⟩ := not_nd n
    have := nd_le h fun x hx => g1 x ((e x).mp hx)
    omega
  · have := nd_le z fun x hx => (e x).mpr hx
    omega
/-- len(set(a)): what the set's making and its length ask of a's value -/
theorem pe_lenSet {X : Cx} {a : Expr} {ta : TE} {p p2 q pos : Pos} {R : V → Hp → VK → Prop} (hg : Gl X "len") (hm : X.mg "len" = none) (hg2 : Gl X "set") (hm2 : X.mg "set" = none) (ha : PE X a ta) (one : starEach [a] X.env = (false, eval a X.env) :: starEach [] X.env)
    (R2 : ∀ (pins : List (Addr × Obj)) (s : Shared) (σ : L2.St) (H : Hp) (Q : VK) (x : V) (v : Value), Inv X pins σ H s → RelV x v → R x H Q →
      wpAny (model X.prog X.w) X.A (call (.type "set") [v]) (fun u s2 => wpAny (model X.prog X.w) X.A (call (.builtin "len") [u]) (EP X pins σ Q) X.xe s2) X.xe s) :
    PE X (.Call (.Name "len" p) [.Call (.Name "set" p2) [a] [] q] [] pos) (fun σ H Q => ta σ H fun x H1 => R x H1 Q) := by
  constructor
  intro pins s σ H Q I h
  refine Call_ (ld_blt I hg hm boot_len (PyProof.Rows.callWith_builtin1 (PyProof.Rows.args_cons (Call_ (ld_blt I hg2 hm2 boot_set (PyProof.Rows.callWith_type1 (PyProof.Rows.args_cons ?_ one) one rfl))) rfl) rfl rfl))
  apply thn (ha.run pins s σ H _ I h)
  rintro v s1 ⟨x, H1, I1, rv, hR⟩
  apply PyProof.Rows.args_nil
  apply thn (R2 pins s1 σ H1 Q x v I1 rv hR)
  intro u s2 h2
  exact PyProof.Rows.args_nil h2
def tLenSetT (K : PySem.W.Frag) (ta : TE) : TE := fun σ H Q => ta σ H fun x H1 => ∃ (l : Addr) (ns : List Int), x = .ref l ∧ SqT K H1 l (ns.map V.int) ∧ ns.length ≤ 4000 ∧ ∀ c, Unl ns c → Q (.int (c : Nat)) H1
theorem pe_lenSetT {X : Cx} {a : Expr} {ta : TE} {p p2 q pos : Pos} (hg : Gl X "len") (hm : X.mg "len" = none) (hg2 : Gl X "set") (hm2 : X.mg "set" = none) (ha : PE X a ta) (hc : X.calm = true := by rfl)
    (na : starEach [a] X.env = (false, eval a X.env) :: starEach [] X.env := by rfl) : PE X (.Call (.Name "len" p) [.Call (.Name "set" p2) [a] [] q] [] pos) (tLenSetT X.K ta) := by
  refine pe_lenSet (R := fun x H1 Q => ∃ (l : Addr) (ns : List Int), x = .ref l ∧ SqT X.K H1 l (ns.map V.int) ∧ ns.length ≤ 4000 ∧ ∀ c, Unl ns c → Q (.int (c : Nat)) H1) hg hm hg2 hm2 ha na fun pins s1 σ H1 Q x v I1 r1 q1 => ?_
  obtain ⟨l, ns, rfl, hq, hl, q1⟩ := q1
  cases r1
  obtain ⟨its, r, pl, hz⟩ := I1.tuple hq
  refine call_set_tupI ns (I1.ok.hd hc) pl (by simpa using RZ.intsAre_vals r) (by unfold scanBound; omega) fun h' tk c R hcl hk => ?_
  obtain ⟨o, es, ep, t, ho, hex, hd, hgood, hnd', hS, hlt, hf, hn, _⟩ := R
  have I2 : Inv X pins σ H1 { s1 with heap := h', toks := tk } := I1.kept fun b o e => hk b o e
  have hu : Unl ns es.size := by
    have := unl_of (ns := ns) hnd' fun x => by simpa using (hS x).symm
    rw [List.length_map, Array.length_toList] at this
    exact this
  exact call_len_set ho hex hd hf (by unfold scanBound at hlt; omega) ⟨.int es.size, H1, I2.tok _, ⟨_, rfl⟩, q1 _ hu⟩
/-! ### the checks -/
def isNumD : Dt → Bool
  | .int _ => true | _ => false
def isPlaceD : Dt → Bool
  | .int n => decide (0 ≤ n) && decide (n ≤ 5) | _ => false
def isPartsD : Dt → Bool
  | .tup ds => !ds.isEmpty && ds.all isNumD | _ => false
def intD : Dt → Int
  | .int n => n | _ => 0
def isRoomsD : Dt → Bool
  | .tup ds => decide (1 ≤ ds.length) && decide (ds.length ≤ 4) && ds.all isPlaceD && decide ((ds.map intD).Nodup) | _ => false
def wordD : Dt → Str
  | .tup (.str s :: _) => s | _ => ""
def spD1 (K : PySem.W.Frag) (f : Dt → Bool) : Sp := fun vs H Q _ => ∃ (v : V) (d : Dt), vs = [v] ∧ DtAt K H v d ∧ Q (.bl (f d)) H
def spDT (K : PySem.W.Frag) (Ts : List Addr) (D : Addr) (f : Dt → Bool) : Sp := fun vs H Q _ => ∃ (v : V) (d : Dt), vs = [v] ∧ DtAt K (nt H) v d ∧ szD d = true ∧ Tbs Ts D H ∧ ∀ H', LamX.ExtN H H' → Tbs Ts D H' → Q (.bl (f d)) H'
def spWordD (K : PySem.W.Frag) : Sp := fun vs H Q _ => ∃ (v : V) (d : Dt), vs = [v] ∧ DtAt K H v d ∧ Q (.str (wordD d)) H
abbrev nThing1 : List Str := ["thing"]
theorem scIsNum : FnScope nThing1 ["thing"] (defScope sIsNum) := ⟨rfl, rfl, rfl, by decide +kernel, rfl, by decide +kernel, by decide +kernel⟩
theorem scIsPlace : FnScope nThing1 ["thing"] (defScope sIsPlace) := ⟨rfl, rfl, rfl, by decide +kernel, rfl, by decide +kernel, by decide +kernel⟩
abbrev nParts : List Str := ["thing", "part"]
theorem scParts : FnScope nParts ["thing"] (defScope sIsParts) := ⟨rfl, rfl, rfl, by decide +kernel, rfl, by decide +kernel, by decide +kernel⟩
abbrev nRoomsI : List Str := ["thing", "room"]
theorem scRoomsI : FnScope nRoomsI ["thing"] (defScope sIsRooms) := ⟨rfl, rfl, rfl, by decide +kernel, rfl, by decide +kernel, by decide +kernel⟩
theorem scWordOf : FnScope nThing1 ["thing"] (defScope sWordOf) := ⟨rfl, rfl, rfl, by decide +kernel, rfl, by decide +kernel, by decide +kernel⟩
theorem ints_of {K : PySem.W.Frag} {H : Hp} : ∀ {xs : List V} {ds : List Dt}, DtAll K H xs ds → ds.all isNumD = true → xs = (ds.map intD).map V.int
  | _, _, .nil, _ => rfl
  | _, _, .cons (d := d) h t, e => by
    rw [List.all_cons, Bool.and_eq_true] at e
    cases h with
    | int n => rw [List.map_cons, List.map_cons, ← ints_of t e.2]; rfl
    | _ => cases e.1
theorem place_num {d : Dt} (h : isPlaceD d = true) : isNumD d = true := by
  cases d <;> first | rfl | cases h
section
variable {P0 : Program} {w : World} {K : PySem.W.Frag} {mg : Str → Option Value} {base : Heap} {Ts : List Addr} {Dd : Addr}
theorem ok_isNum {f : Addr} {fd : FuncData} {k : Nat} (D : Df K mg "is_number" sIsNum ["thing"] f fd) (B : Bi mg) : FnOk P0 w K mg base CX0 (k + 1) f fd ["thing"] (spD1 K isNumD) := by
  refine D.F.ok scIsNum (fun vs H Q E h => ?_) (fun cdv A outer s H vs Q E hr h => ?_)
  · obtain ⟨v, d, rfl, _⟩ := h
    rfl
  · obtain ⟨v, d, rfl, hd, q⟩ := h
    refine ⟨_, (pss_one (ps_ret (pe_and (pe_callB call_isi (by rfl) B.isinstance PyProof.Rows.boot_isinstance (pa_cons (pv 0) (pa_cons (pe_bltn (v := .ty "int") (by rfl) B.int (show bootBuiltins "int" = some (.type "int") by rfl) rfl) pa_nil))) (pe_one (pe_not (pe_callB call_isi (by rfl) B.isinstance PyProof.Rows.boot_isinstance (pa_cons (pv 0) (pa_cons (pe_bltn (v := .ty "bool") (by rfl) B.bool (show bootBuiltins "bool" = some (.type "bool") by rfl) rfl) pa_nil)))))))), ?_⟩
    refine ⟨_, rfl, _, .ty "int", _, .type "int", _, rfl, .ty "int", tyD hd, kt_int d, _, rfl, ?_⟩
    refine ite2 (fun e => ?_) (fun e => ?_)
    · refine ⟨_, rfl, _, .ty "bool", _, .type "bool", _, rfl, .ty "bool", tyD hd, kt_bool d, _, rfl, ?_⟩
      have : (!d.isBl) = isNumD d := by cases d <;> first | rfl | cases e
      rw [this]
      exact q
    · have : isNumD d = false := by cases d <;> first | rfl | exact absurd rfl e
      rw [this] at q
      exact q
theorem ok_isPlace {f fN : Addr} {fd fdN : FuncData} {k : Nat} (D : Df K mg "is_place" sIsPlace ["thing"] f fd) (B : Bi mg) (DN : Df K mg "is_number" sIsNum ["thing"] fN fdN) (GN : FnOk P0 w K mg base CX0 k fN fdN ["thing"] (spD1 K isNumD)) : FnOk P0 w K mg base CX0 (k + 1) f fd ["thing"] (spD1 K isPlaceD) := by
  refine D.F.ok scIsPlace (fun vs H Q E h => ?_) (fun cdv A outer s H vs Q E hr h => ?_)
  · obtain ⟨v, d, rfl, _⟩ := h
    rfl
  · obtain ⟨v, d, rfl, hd, q⟩ := h
    refine ⟨_, (pss_one (ps_ret (pe_and (pe_call GN hr (by rfl) DN.g DN.F.kp DN.b .nil pass0 (pa_cons (pv 0) pa_nil)) (pe_one (pe_chain op_le op_le pe_int (pv 0) pe_int))))), ?_⟩
    refine ⟨_, rfl, v, d, rfl, hd, _, rfl, ite2 (fun e => ?_) (fun e => ?_)⟩
    · cases hd with
      | int n =>
        refine ⟨_, rfl, _, _, rfl, rfl, _, rfl, ite2 (fun e1 => ?_) (fun e1 => ?_)⟩
        · refine ⟨_, _, rfl, rfl, ?_⟩
          have q' : Q (.bl (decide ((0 : Int) ≤ n) && decide (n ≤ 5))) H := q
          rw [e1, Bool.true_and] at q'
          exact q'
        · have q' : Q (.bl (decide ((0 : Int) ≤ n) && decide (n ≤ 5))) H := q
          rw [Bool.eq_false_iff.mpr e1, Bool.false_and] at q'
          exact q'
      | _ => cases e
    · have : isPlaceD d = false := by cases d <;> first | rfl | exact absurd rfl e
      rw [this] at q
      exact q
theorem ok_isParts {f fN c P : Addr} {fd fdN : FuncData} {k : Nat} (D : DfC K mg "is_parts" sIsParts ["thing"] f fd c) (B : Bi mg) (TB : GxR.TabB base mg c P) (hP : P ∈ Ts) (hTs : TsOk Ts Dd) (DN : Df K mg "is_number" sIsNum ["thing"] fN fdN) (GN : FnOk P0 w K mg base CX0 k fN fdN ["thing"] (spD1 K isNumD)) :
    FnOk P0 w K mg base CX0 (k + 3 + 1) f fd ["thing"] (spDT K Ts Dd isPartsD) := by
  refine D.F.ok scParts (fun vs H Q E h => ?_) (fun A outer s H vs Q E hr h => ?_)
  · obtain ⟨v, d, rfl, _⟩ := h
    rfl
  · obtain ⟨v, d, rfl, hd, hz, hT, q⟩ := h
    refine ⟨_, (pss_one (ps_ret (pe_and (pe_callB call_isi (by rfl) B.isinstance PyProof.Rows.boot_isinstance (pa_cons (pv 0) (pa_cons (pe_bltn (v := .ty "tuple") (by rfl) B.tuple (show bootBuiltins "tuple" = some (.type "tuple") by rfl) rfl) pa_nil))) (pe_and (pe_cmpR op_gt (pe_callB call_len_seq (by rfl) B.len PySem.boot_len (pa_cons (pv 0) pa_nil)) pe_int (nomark _)) (pe_one (Gx.pe_allG (k := k) (own := [("part", 1)]) (g := gName 1) (tt := tYes) (te := tCall (spD1 K isNumD) [] E0 (tCons (tVar 1) tNil)) rfl hr scParts.nd (by rfl) B.all (by decide +kernel) TB rfl
      (blkOk_by (own := [("part", 1)]) (N := nParts) (sc := defScope sIsParts) (by decide +kernel)) (by decide +kernel) (by rfl) (by rfl)
      (pi_tup (pv 0)) (fun _ _ _ _ _ _ _ _ _ => pg_name (i := 1) scParts.nd rfl (.inl rfl)) (fun _ _ _ _ _ _ _ _ _ => pts_nil)
      (fun A' _ _ _ _ _ _ _ hr' => pe_call GN hr' (by rfl) DN.g DN.F.kp DN.b .nil pass0 (pa_cons (pv 1) pa_nil)) (fun _ => rfl))))))), ?_⟩
    have hd0 := hd.same (nt_same _)
    refine ⟨_, rfl, _, .ty "tuple", _, .type "tuple", _, rfl, .ty "tuple", tyD hd0, kt_tuple d, _, rfl, ite2 (fun e => ?_) (fun e => ?_)⟩
    · cases hd with
      | @tup p xs ds hp hds =>
        have hxl := hds.len
        refine ⟨_, rfl, p, _, rfl, .inr (ntT hp), _, _, rfl, rfl, _, rfl, ite2 (fun e1 => ?_) (fun e1 => ?_)⟩
        · have hpos : 0 < xs.length := by have := of_decide_eq_true e1; omega
          have hne : ds.isEmpty = false := by cases ds with | nil => (have h0 : xs.length = 0 := hxl; omega) | cons d ds => rfl
          have q' : ∀ H', LamX.ExtN H H' → Tbs Ts Dd H' → Q (.bl (ds.all isNumD)) H' := fun H' a b => by
            have h9 : isPartsD (.tup ds) = ds.all isNumD := by
              show (!ds.isEmpty && ds.all isNumD) = _
              rw [hne]
              rfl
            rw [← h9]
            exact q H' a b
          refine ⟨_, rfl, p, rfl, ⟨_, ntT hp⟩, hT.g P hP, fun H2 hTb => ?_⟩
          obtain ⟨hT2, e2⟩ := hT.tabbed hP (hTs.ne hP) hTb
          refine all_wi xs.length (fun i H' => LamX.ExtN H H' ∧ Tbs Ts Dd H' ∧ (ds.take i).all isNumD = true) ⟨e2, hT2, rfl⟩ (fun i H3 hi hΦ => ?_) (fun H3 hΦ => ⟨⟨_, ntT (Same.tup (ext_nt hΦ.1) hp), Nat.le_refl _⟩, ?_⟩)
          · have hp3 := ntT (Same.tup (ext_nt hΦ.1) hp)
            have hxi := List.getElem?_eq_getElem hi
            refine ⟨⟨_, _, hp3, hxi⟩, fun x H' y => ?_⟩
            obtain ⟨e1, y⟩ := y
            subst e1
            have ex := y _ hp3
            rw [hxi] at ex
            cases ex
            obtain ⟨dd, hdd, hda⟩ := pd_at2 hds.pd hxi
            refine ⟨rfl, _, rfl, _, dd, rfl, (hda.same (ext_nt hΦ.1)).same (nt_same _), _, rfl, fun e => ?_, fun e => ⟨hΦ.1, hΦ.2.1, ?_⟩⟩
            · have := q' _ hΦ.1 hΦ.2.1
              rw [all_no hdd e] at this
              exact this
            · rw [all_take _ hdd, hΦ.2.2]
              simpa using e
          · have := q' _ hΦ.1 hΦ.2.1
            rw [hxl] at hΦ
            rw [← hΦ.2.2, List.take_length]
            exact this
        · have : ds = [] := by
            refine List.eq_nil_of_length_eq_zero ?_
            rw [← hxl]
            have : ¬ ((xs.length : Int) > 0) := fun z => e1 (decide_eq_true z)
            omega
          subst this
          exact q H (LamX.ExtN.refl H) hT
      | _ => cases e
    · have : isPartsD d = false := by cases d <;> first | rfl | exact absurd rfl e
      have q1 := q H (LamX.ExtN.refl H) hT
      rw [this] at q1
      exact q1
theorem ok_isRooms {f fN c P : Addr} {fd fdN : FuncData} {k : Nat} (D : DfC K mg "is_rooms" sIsRooms ["thing"] f fd c) (B : Bi mg) (TB : GxR.TabB base mg c P) (hP : P ∈ Ts) (hTs : TsOk Ts Dd) (DN : Df K mg "is_place" sIsPlace ["thing"] fN fdN) (GN : FnOk P0 w K mg base CX0 k fN fdN ["thing"] (spD1 K isPlaceD)) :
    FnOk P0 w K mg base CX0 (k + 3 + 1) f fd ["thing"] (spDT K Ts Dd isRoomsD) := by
  refine D.F.ok scRoomsI (fun vs H Q E h => ?_) (fun A outer s H vs Q E hr h => ?_)
  · obtain ⟨v, d, rfl, _⟩ := h
    rfl
  · obtain ⟨v, d, rfl, hd, hz, hT, q⟩ := h
    refine ⟨_, (pss_cons (ps_if (pw_or (pt_not (pt_val (pe_callB call_isi (by rfl) B.isinstance PyProof.Rows.boot_isinstance (pa_cons (pv 0) (pa_cons (pe_bltn (v := .ty "tuple") (by rfl) B.tuple (show bootBuiltins "tuple" = some (.type "tuple") by rfl) rfl) pa_nil))))) (pw_or1 (pt_not (pt_chain op_le op_le pe_int (pe_callB call_len_seq (by rfl) B.len PySem.boot_len (pa_cons (pv 0) pa_nil)) pe_int)))).pt (pss_one (ps_ret pe_bl)) pss_nil)
      (pss_one (ps_ret (pe_and (Gx.pe_allG (k := k) (own := [("room", 1)]) (g := gName 1) (tt := tYes) (te := tCall (spD1 K isPlaceD) [] E0 (tCons (tVar 1) tNil)) rfl hr scRoomsI.nd (by rfl) B.all (by decide +kernel) TB rfl
      (blkOk_by (own := [("room", 1)]) (N := nRoomsI) (sc := defScope sIsRooms) (by decide +kernel)) (by decide +kernel) (by rfl) (by rfl)
      (pi_tup (pv 0)) (fun _ _ _ _ _ _ _ _ _ => pg_name (i := 1) scRoomsI.nd rfl (.inl rfl)) (fun _ _ _ _ _ _ _ _ _ => pts_nil)
      (fun A' _ _ _ _ _ _ _ hr' => pe_call GN hr' (by rfl) DN.g DN.F.kp DN.b .nil pass0 (pa_cons (pv 1) pa_nil)) (fun _ => rfl)) (pe_one (pe_cmpR op_eq (pe_lenSetT (by rfl) B.len (by rfl) B.set (pv 0)) (pe_callB call_len_seq (by rfl) B.len PySem.boot_len (pa_cons (pv 0) pa_nil)) (nomark _))))))), ?_⟩
    have hd0 := hd.same (nt_same _)
    have no : isRoomsD d = false → Q (.bl false) H := fun e => by
      have := q H (LamX.ExtN.refl H) hT
      rw [e] at this
      exact this
    refine ⟨_, rfl, _, .ty "tuple", _, .type "tuple", _, rfl, .ty "tuple", tyD hd0, kt_tuple d, _, rfl, ite2 (fun e => ?_) (fun e => ?_)⟩
    · have : d.isT = false := by simpa using e
      exact no (by cases d <;> first | rfl | cases this)
    · have e : d.isT = true := by simpa using e
      cases hd with
      | @tup p xs ds hp hds =>
        have hxl := hds.len
        refine ⟨_, rfl, p, _, rfl, .inr (ntT hp), _, _, rfl, rfl, _, rfl, ite2 (fun e1 => ⟨_, _, rfl, rfl, _, rfl, ite2 (fun e2 => ?_) (fun e2 => ?_)⟩) (fun e1 => ?_)⟩
        · have h4 : ¬ ((xs.length : Int) ≤ 4) := by simpa using e2
          refine no ?_
          show (decide (1 ≤ ds.length) && decide (ds.length ≤ 4) && ds.all isPlaceD && decide ((ds.map intD).Nodup)) = false
          rw [decide_eq_false (show ¬ ds.length ≤ 4 by omega), Bool.and_false, Bool.false_and, Bool.false_and]
        · have h1 : (1 : Int) ≤ xs.length := of_decide_eq_true e1
          have h4 : (xs.length : Int) ≤ 4 := by simpa using e2
          have h9 : isRoomsD (.tup ds) = (ds.all isPlaceD && decide ((ds.map intD).Nodup)) := by
            show (decide (1 ≤ ds.length) && decide (ds.length ≤ 4) && ds.all isPlaceD && decide ((ds.map intD).Nodup)) = _
            rw [decide_eq_true (show 1 ≤ ds.length by omega), decide_eq_true (show ds.length ≤ 4 by omega)]
            simp
          rw [h9] at q
          refine ⟨_, rfl, p, rfl, ⟨_, ntT hp⟩, hT.g P hP, fun H2 hTb => ?_⟩
          obtain ⟨hT2, e2⟩ := hT.tabbed hP (hTs.ne hP) hTb
          refine all_wi xs.length (fun i H' => LamX.ExtN H H' ∧ Tbs Ts Dd H' ∧ (ds.take i).all isPlaceD = true) ⟨e2, hT2, rfl⟩ (fun i H3 hi hΦ => ?_) (fun H3 hΦ => ⟨⟨_, ntT (Same.tup (ext_nt hΦ.1) hp), Nat.le_refl _⟩, true, rfl, ifP rfl ?_⟩)
          · have hp3 := ntT (Same.tup (ext_nt hΦ.1) hp)
            have hxi := List.getElem?_eq_getElem hi
            refine ⟨⟨_, _, hp3, hxi⟩, fun x H' y => ?_⟩
            obtain ⟨e1, y⟩ := y
            subst e1
            have ex := y _ hp3
            rw [hxi] at ex
            cases ex
            obtain ⟨dd, hdd, hda⟩ := pd_at2 hds.pd hxi
            refine ⟨rfl, _, rfl, _, dd, rfl, (hda.same (ext_nt hΦ.1)).same (nt_same _), _, rfl, fun e => ⟨_, rfl, ifN (by intro h; cases h) ?_⟩, fun e => ⟨hΦ.1, hΦ.2.1, ?_⟩⟩
            · have := q _ hΦ.1 hΦ.2.1
              rw [all_no hdd e, Bool.false_and] at this
              exact this
            · rw [all_take _ hdd, hΦ.2.2]
              simpa using e
          · have hp3 := ntT (Same.tup (ext_nt hΦ.1) hp)
            have hall := hΦ.2.2
            rw [hxl, List.take_length] at hall
            have hxs := ints_of hds (List.all_eq_true.mpr fun d hd => place_num (List.all_eq_true.mp hall d hd))
            refine ⟨_, rfl, p, ds.map intD, rfl, by rw [← hxs]; exact hp3, by rw [List.length_map]; omega, fun c hc => ⟨_, rfl, p, _, rfl, .inr hp3, rfl, ?_⟩⟩
            have := q _ hΦ.1 hΦ.2.1
            rw [hall, Bool.true_and] at this
            have e9 : decide (V.int (c : Nat) = V.int (xs.length : Nat)) = decide ((ds.map intD).Nodup) := by
              have h2 := hc.iff
              rw [List.length_map, ← hxl] at h2
              refine decide_eq_decide.mpr ⟨fun z => h2.mp (by have := V.int.inj z; omega), fun z => by rw [h2.mpr z]⟩
            show Q (.bl (decide (V.int (c : Nat) = V.int (xs.length : Nat)))) H3
            rw [e9]
            exact this
        · have h1 : ¬ (1 : Int) ≤ xs.length := fun z => e1 (decide_eq_true z)
          refine ⟨_, rfl, ifP rfl (no ?_)⟩
          show (decide (1 ≤ ds.length) && decide (ds.length ≤ 4) && ds.all isPlaceD && decide ((ds.map intD).Nodup)) = false
          rw [decide_eq_false (show ¬ 1 ≤ ds.length by omega), Bool.false_and, Bool.false_and, Bool.false_and]
      | _ => cases e
theorem ok_wordOf {f : Addr} {fd : FuncData} {k : Nat} (D : Df K mg "word_of" sWordOf ["thing"] f fd) (B : Bi mg) : FnOk P0 w K mg base CX0 (k + 1) f fd ["thing"] (spWordD K) := by
  refine D.F.ok scWordOf (fun vs H Q E h => ?_) (fun cdv A outer s H vs Q E hr h => ?_)
  · obtain ⟨v, d, rfl, _⟩ := h
    rfl
  · obtain ⟨v, d, rfl, hd, q⟩ := h
    refine ⟨_, (pss_cons (ps_if (pw_and (pt_val (pe_callB call_isi (by rfl) B.isinstance PyProof.Rows.boot_isinstance (pa_cons (pv 0) (pa_cons (pe_bltn (v := .ty "tuple") (by rfl) B.tuple (show bootBuiltins "tuple" = some (.type "tuple") by rfl) rfl) pa_nil)))) (pw_and (pt_truth (pv 0) (by intro _; rfl)) (pw_and1 (pt_val (pe_callB call_isi (by rfl) B.isinstance PyProof.Rows.boot_isinstance (pa_cons (pe_ix ix_tup (pv 0) pe_int (fun _ _ => rfl)) (pa_cons (pe_bltn (v := .ty "str") (by rfl) B.str (show bootBuiltins "str" = some (.type "str") by rfl) rfl) pa_nil))))))).pt (pss_one (ps_ret (pe_ix ix_tup (pv 0) pe_int (fun _ _ => rfl)))) pss_nil)
      (pss_one (ps_ret pe_str))), ?_⟩
    have no : wordD d = "" → Q (.str "") H := fun e => by rw [e] at q; exact q
    refine ⟨_, rfl, _, .ty "tuple", _, .type "tuple", _, rfl, .ty "tuple", tyD hd, kt_tuple d, _, rfl, ite2 (fun e => ?_) (fun e => ?_)⟩
    · cases hd with
      | @tup p xs ds hp hds =>
        refine ⟨_, rfl, _, .inr (.inl ⟨_, hp, rfl⟩), ite2 (fun e1 => ?_) (fun e1 => ?_)⟩
        · cases hds with
          | nil => cases e1
          | @cons x xs d ds h0 ht =>
            refine ⟨_, rfl, p, _, _, _, rfl, rfl, hp, atI_nat (j := 0) rfl, _, .ty "str", _, .type "str", _, rfl, .ty "str", tyD h0, kt_str d, _, rfl, ite2 (fun e2 => ?_) (fun e2 => ?_)⟩
            · cases h0 with
              | str s => exact ⟨_, rfl, p, _, _, _, rfl, rfl, hp, atI_nat (j := 0) rfl, q⟩
              | _ => cases e2
            · exact no (by cases d <;> first | rfl | exact absurd rfl e2)
        · cases hds with
          | nil => exact no rfl
          | cons h0 ht => exact absurd rfl e1
      | _ => cases e
    · exact no (by cases d <;> first | rfl | exact absurd rfl e)
end
end Gn
set_option Elab.async false
set_option linter.all false
set_option maxRecDepth 100000
set_option maxHeartbeats 4000000
set_option pp.maxSteps 300
namespace Gn
open PySem PySem.Spec PyProof.Rows L2
def rKGet (K : PySem.W.Frag) (w : World) : V → List V → Hp → VK → Prop := fun x vs H Q => ∃ (d : Addr) (z : Str), x = .ref d ∧ vs = [.str z] ∧ (d == sysModules) = false ∧
  ((∃ v, KDct K w d z v ∧ Q v H) ∨ ∃ es n, K.lookup d = some ⟨.type "dict", none, .dict es n, #[]⟩ ∧ PySem.W.KeysLit w.params es.toList ∧ PySem.W.nsIn K d z = some none ∧ Q .non H)
theorem mt_kget {X : Cx} : MtR X "dict.get" (rKGet X.K X.w) := by
  intro pins s σ H x xs v us Q I rx rxs h
  obtain ⟨d, z, rfl, rfl, low, h⟩ := h
  cases rx
  obtain ⟨u, rfl, ru⟩ := rxs.one
  obtain ⟨t, rfl⟩ := ru
  rcases h with ⟨v, ⟨es, n, u, hl, hk, e, rv⟩, q⟩ | ⟨es, n, hl, hk, e, q⟩
  · have hm := PySem.W.mapOf_K (prog := X.prog) (w := X.w) I.kIn hl hk
    refine call_meetsIn PySem.F.slot_dict_get hm.typeIs PySem.F.entry_dict_get (PySem.F.args_dict_get_2 _ _) (meets_dict_get (strKind X.prog X.w) d (strKind_is X.prog X.w z t) low) ⟨_, hm, ?_⟩
    rw [PySem.W.find_K hl e]
    exact ⟨v, H, I.tok _, rv, q⟩
  · have hm := PySem.W.mapOf_K (prog := X.prog) (w := X.w) I.kIn hl hk
    refine call_meetsIn PySem.F.slot_dict_get hm.typeIs PySem.F.entry_dict_get (PySem.F.args_dict_get_2 _ _) (meets_dict_get (strKind X.prog X.w) d (strKind_is X.prog X.w z t) low) ⟨_, hm, ?_⟩
    rw [PySem.W.find_K hl e]
    exact ⟨.non, H, I.tok _, rfl, q⟩
def KNo (K : PySem.W.Frag) (w : World) (d : Addr) (z : Str) : Prop := ∃ es n, K.lookup d = some ⟨.type "dict", none, .dict es n, #[]⟩ ∧ PySem.W.KeysLit w.params es.toList ∧ PySem.W.nsIn K d z = some none
def IsKD (K : PySem.W.Frag) (w : World) (d : Addr) : Prop := (d == sysModules) = false ∧ ∃ es n, K.lookup d = some ⟨.type "dict", none, .dict es n, #[]⟩ ∧ PySem.W.KeysLit w.params es.toList
def tKGet (K : PySem.W.Frag) (w : World) (td ty : TE) : TE := fun σ H Q => td σ H fun x H1 => ∃ d, x = .ref d ∧ IsKD K w d ∧ ty σ H1 fun y H2 => ∃ z, y = .str z ∧ ((∃ v, KDct K w d z v ∧ Q v H2) ∨ (KNo K w d z ∧ Q .non H2))
theorem pe_kget {X : Cx} {o e : Expr} {apos cpos : Pos} {td ty : TE} (ho : PE X o td) (he : PE X e ty) (m : M1 X o "get" apos e cpos) : PE X (.Call (.Attribute o "get" apos) [e] [] cpos) (tKGet X.K X.w td ty) := by
  refine ⟨fun pins s σ H Q I h => ?_⟩
  refine wpAny_Call_method m.base m.few m.line PySem.F.plainAttrs_dict PySem.F.slot_dict_get PySem.F.type_dict_get (thn (ho.run pins s σ H _ I h) fun u s1 ⟨x, H1, I1, rx, d, ex, ⟨low, es, n, hl, hk⟩, q1⟩ => ?_)
  subst ex
  obtain rfl : u = Value.ref d := rx
  have hm1 := PySem.W.mapOf_K (prog := X.prog) (w := X.w) I1.kIn hl hk
  refine ⟨hm1.typeIs, fun a e2 => ?_, ?_⟩
  · cases e2
    exact ⟨_, I1.kIn _ _ hl, rfl⟩
  rw [m.trees]
  refine Calls.callWith_builtin rfl (Calls.evalArgs_plain (Calls.spliced_cons (thn (he.run pins s1 σ H1 _ I1 q1) fun iv s2 ⟨y, H2, I2, ry, z, ez, g⟩ => Calls.spliced_nil ?_)))
  subst ez
  obtain ⟨t, rfl⟩ := ry
  have hm := PySem.W.mapOf_K (prog := X.prog) (w := X.w) I2.kIn hl hk
  refine call_meetsIn PySem.F.slot_dict_get hm.typeIs PySem.F.entry_dict_get (PySem.F.args_dict_get_2 _ _) (meets_dict_get (strKind X.prog X.w) d (strKind_is X.prog X.w z t) low) ⟨_, hm, ?_⟩
  rcases g with ⟨v, ⟨es', n', u, hl', hk', e', rv⟩, q⟩ | ⟨⟨es', n', hl', hk', e'⟩, q⟩
  · rw [PySem.W.find_K hl e']
    exact ⟨v, H2, I2.tok _, rv, q⟩
  · rw [PySem.W.find_K hl e']
    exact ⟨.non, H2, I2.tok _, rfl, q⟩
theorem cut_one (x : V) (xs : List V) : cutV (x :: xs) (some 1) none = xs := by
  unfold cutV
  rw [show HT.sIx (x :: xs).length 0 (some 1) = min 1 (x :: xs).length from HT.sIx_nat (x :: xs).length 0 1, HT.sIx_none]
  rw [show min 1 (x :: xs).length = 1 by rw [List.length_cons]; omega]
  show (List.take ((x :: xs).length - 1) xs) = xs
  rw [List.length_cons, Nat.add_sub_cancel]
  exact List.take_length
theorem cut_not (x : V) (xs : List V) : ¬ (HT.sIx (x :: xs).length 0 (some 1) = 0 ∧ HT.sIx (x :: xs).length (x :: xs).length none = (x :: xs).length) := by
  rw [show HT.sIx (x :: xs).length 0 (some 1) = min 1 (x :: xs).length from HT.sIx_nat (x :: xs).length 0 1]
  rw [List.length_cons]
  omega
theorem cut_not2 (x : V) (xs : List V) : ¬ (HT.sIx (x :: xs).length 0 (some 2) = 0 ∧ HT.sIx (x :: xs).length (x :: xs).length none = (x :: xs).length) := by
  rw [show HT.sIx (x :: xs).length 0 (some 2) = min 2 (x :: xs).length from HT.sIx_nat (x :: xs).length 0 2]
  rw [List.length_cons]
  omega
theorem walk_zt {K : PySem.W.Frag} {a b : Addr} {xs ys : List V} (hl : xs.length = ys.length) : Walk (RZ.ItzT K a b) xs.length (fun H => SqT K H a xs ∧ SqT K H b ys) (YPair (fun i => xs[i]?) (fun i => ys[i]?)) := by
  refine ⟨fun i H hi q => ?_, fun H q => ⟨xs, ys, q.1, q.2, .inl (Nat.le_refl _)⟩, fun i H v H' hi q y => ?_⟩
  · have h2 : i < ys.length := by omega
    exact ⟨xs, ys, xs[i], ys[i], q.1, q.2, by simp [hi], by simp [h2]⟩
  · obtain ⟨T, x, z, h1, h2, h3, h4, h5⟩ := y
    exact ⟨T, x, z, h1, h2, h3, h4 xs q.1, h5 ys q.2⟩
theorem notT {b : Bool} (h : (!b) = true) : b = false := by cases b <;> first | rfl | cases h
theorem notF {b : Bool} (h : ¬ (!b) = true) : b = true := by cases b <;> first | rfl | exact absurd rfl h
/-! ### the checks by their kinds -/
inductive Ck
  | num | place | parts | rooms
def Ck.f : Ck → Dt → Bool
  | .num => isNumD | .place => isPlaceD | .parts => isPartsD | .rooms => isRoomsD
def ckOf (s : Str) : Option Ck :=
  if s = "number" ∨ s = "row" ∨ s = "block" then some .num else if s = "place" then some .place else if s = "parts" then some .parts else if s = "rooms" then some .rooms else none
def ckD (s : Str) (d : Dt) : Bool := match ckOf s with
  | some c => c.f d
  | none => false
def spC (K : PySem.W.Frag) (Ts : List Addr) (D : Addr) : Ck → Sp
  | .num => spD1 K isNumD
  | .place => spD1 K isPlaceD
  | .parts => spDT K Ts D isPartsD
  | .rooms => spDT K Ts D isRoomsD
structure Cks (P : Program) (w : World) (K : PySem.W.Frag) (mg : Str → Option Value) (base : Heap) (k : Nat) (Ts : List Addr) (D : Addr) (d : Addr) (fs : Ck → Addr) : Prop where
  mgC : mg "CHECKS" = some (.ref d)
  at_ : ∀ s c, ckOf s = some c → KDct K w d s (.ref (fs c))
  fn : ∀ b, FnR P w K mg base CX0 k (fs b) (spC K Ts D b)
  kp : ∀ b, PySem.W.keepIn K (.ref (fs b)) = true
def fitsD (d : Dt) (o : Option (List Str)) : Bool := match o, d with
  | some kds, .tup (_ :: ds) => decide (ds.length = kds.length) && (kds.zip ds).all fun p => ckD p.1 p.2
  | _, _ => false
def rowKd (s : Str) : Option (List Str) :=
  if s = "take" then some ["place"] else if s = "num" then some ["number"] else if s = "sum" ∨ s = "less" ∨ s = "times" ∨ s = "same" ∨ s = "below" then some ["row", "row"] else
  if s = "pick" then some ["row", "parts"] else if s = "meet" then some ["parts"] else if s = "look" then some ["rooms", "row"] else if s = "lay" then some ["rooms", "row", "row"] else if s = "tell" then some ["row"] else none
def endKd (s : Str) : Option (List Str) :=
  if s = "go" then some ["block"] else if s = "if" then some ["row", "block", "block"] else if s = "end" then some [] else none
def isRowD (d : Dt) : Bool := fitsD d (rowKd (wordD d))
def isEndD (d : Dt) : Bool := fitsD d (endKd (wordD d))
def isBlockD : Dt → Bool
  | .tup [.lst rs, e] => rs.all isRowD && isEndD e
  | _ => false
def isWrittenD : Dt → Bool
  | .lst bs => !bs.isEmpty && bs.all isBlockD
  | _ => false
theorem kd_ok {kds : List Str} {s : Str} (h : rowKd s = some kds ∨ endKd s = some kds) : (∀ k ∈ kds, ∃ c, ckOf k = some c) ∧ kds.length ≤ 3 := by
  rcases h with h | h
  · unfold rowKd at h
    repeat' split at h
    all_goals first | (cases h; refine ⟨?_, by decide⟩; intro k hk; simp only [List.mem_cons, List.not_mem_nil, or_false] at hk; rcases hk with rfl | rfl | rfl <;> exact ⟨_, rfl⟩) | (cases h; refine ⟨?_, by decide⟩; intro k hk; simp only [List.mem_cons, List.not_mem_nil, or_false] at hk; rcases hk with rfl | rfl <;> exact ⟨_, rfl⟩) | (cases h; refine ⟨?_, by decide⟩; intro k hk; simp only [List.mem_cons, List.not_mem_nil, or_false] at hk; subst hk; exact ⟨_, rfl⟩) | cases h
  · unfold endKd at h
    repeat' split at h
    all_goals first | (cases h; refine ⟨?_, by decide⟩; intro k hk; simp only [List.mem_cons, List.not_mem_nil, or_false] at hk; rcases hk with rfl | rfl | rfl <;> exact ⟨_, rfl⟩) | (cases h; refine ⟨?_, by decide⟩; intro k hk; simp only [List.mem_cons, List.not_mem_nil, or_false] at hk; subst hk; exact ⟨_, rfl⟩) | (cases h; refine ⟨?_, by decide⟩; intro k hk; cases hk) | cases h
/-- the tables of the rows' and the ends' kinds, at any word -/
structure TbD (K : PySem.W.Frag) (w : World) (mg : Str → Option Value) (dR dE : Addr) : Prop where
  mgR : mg "ROW_PARTS" = some (.ref dR)
  mgE : mg "END_PARTS" = some (.ref dE)
  isR : IsKD K w dR
  isE : IsKD K w dE
  row : ∀ s kds, rowKd s = some kds → ∃ g, KDct K w dR s (.ref g) ∧ ∀ H, SqT K H g (kds.map V.str)
  end_ : ∀ s kds, endKd s = some kds → ∃ g, KDct K w dE s (.ref g) ∧ ∀ H, SqT K H g (kds.map V.str)
  rowN : ∀ s, rowKd s = none → KNo K w dR s
  endN : ∀ s, endKd s = none → KNo K w dE s
theorem wordD_tup {d : Dt} (h : wordD d ≠ "") : ∃ ds, d = .tup (.str (wordD d) :: ds) := by
  cases d with
  | tup ds =>
    cases ds with
    | nil => exact absurd rfl h
    | cons x xs =>
      cases x with
      | str s => exact ⟨xs, rfl⟩
      | _ => exact absurd rfl h
  | _ => exact absurd rfl h
theorem pe_callI {ι : Type} {X : Cx} {fs : ι → Addr} {sp : ι → Sp} {x : Str} {i k : Nat} {e : Expr} {es : List Expr} {t : TA} {q pos : Pos} {E : XK} (F : ∀ b, FnR X.prog X.w X.K X.mg X.base CX0 k (fs b) (sp b)) (hr : Room k X.A) (hk : ∀ b, PySem.W.keepIn X.K (.ref (fs b)) = true) (hx : Passes CX0 X E) (hN : X.N[i]? = some x) (hv : Vis X.env.scope x) (ha : PA X (e :: es) t)
    (hd : (x == ("__debug__" : Str)) = false := by decide) (hcd : (x == ("__classdict__" : Str)) = false := by decide)
    (he : starEach (e :: es) X.env = (false, eval e X.env) :: starEach es X.env := by rfl) (hpl : (backTo pos (starEach es X.env)).any (·.1) = false := by rfl) : PE X (.Call (.Name x q) (e :: es) [] pos) (fun σ H Q => ∃ b : ι, ItX.tCallV i (fs b) (sp b) E t σ H Q) :=
  ⟨fun pins s σ H Q I ⟨b, h⟩ => (ItX.pe_callV (F b) hr (hk b) hx hN hv ha hd hcd he hpl).run pins s σ H Q I h⟩
def spFits (K : PySem.W.Frag) (Ts : List Addr) (D : Addr) : Sp := fun vs H Q _ => ∃ (v kv : V) (d : Dt) (o : Option (List Str)), vs = [v, kv] ∧ DtAt K (nt H) v d ∧ szD d = true ∧
  (match o with | none => kv = .non | some kds => ∃ (kt : Addr) (wd : Str) (ds : List Dt), d = .tup (.str wd :: ds) ∧ kv = .ref kt ∧ (∀ H', SqT K H' kt (kds.map V.str)) ∧ (∀ k ∈ kds, ∃ c, ckOf k = some c) ∧ kds.length ≤ 3) ∧
  Tbs Ts D H ∧ ∀ H', LamX.ExtN H H' → Tbs Ts D H' → Q (.bl (fitsD d o)) H'
abbrev nFits : List Str := ["thing", "kinds", "kind", "part", "check"]
theorem scFits : FnScope nFits ["thing", "kinds"] (defScope sFits) := ⟨rfl, rfl, rfl, by decide +kernel, rfl, by decide +kernel, by decide +kernel⟩
theorem scIsRow : FnScope nThing1 ["thing"] (defScope sIsRow) := ⟨rfl, rfl, rfl, by decide +kernel, rfl, by decide +kernel, by decide +kernel⟩
theorem scIsEnd : FnScope nThing1 ["thing"] (defScope sIsEnd) := ⟨rfl, rfl, rfl, by decide +kernel, rfl, by decide +kernel, by decide +kernel⟩
abbrev nIsBlock : List Str := ["thing", "rows", "end", "row"]
theorem scIsBlock : FnScope nIsBlock ["thing"] (defScope sIsBlock) := ⟨rfl, rfl, rfl, by decide +kernel, rfl, by decide +kernel, by decide +kernel⟩
abbrev nIsWritten : List Str := ["thing", "block"]
theorem scIsWritten : FnScope nIsWritten ["thing"] (defScope sIsWritten) := ⟨rfl, rfl, rfl, by decide +kernel, rfl, by decide +kernel, by decide +kernel⟩
theorem zip_at {α β : Type} {xs : List α} {ys : List β} {i : Nat} {x : α} {y : β} (h1 : xs[i]? = some x) (h2 : ys[i]? = some y) : (xs.zip ys)[i]? = some (x, y) := by
  rw [List.getElem?_zip_eq_some]
  exact ⟨h1, h2⟩
section
variable {P0 : Program} {w : World} {K : PySem.W.Frag} {mg : Str → Option Value} {base : Heap} {Ts : List Addr} {Dd : Addr}
theorem ok_fits {f dC : Addr} {fs : Ck → Addr} {fd : FuncData} {k : Nat} (D : Df K mg "fits" sFits ["thing", "kinds"] f fd) (B : Bi mg) (C : Cks P0 w K mg base k Ts Dd dC fs) : FnOk P0 w K mg base CX0 (k + 1) f fd ["thing", "kinds"] (spFits K Ts Dd) := by
  refine D.F.ok scFits (fun vs H Q E h => ?_) (fun cdv A outer s H vs Q E hr h => ?_)
  · obtain ⟨v, kv, d, o, rfl, _⟩ := h
    rfl
  · obtain ⟨v, kv, d, o, rfl, hd, hz, hk, hT, q⟩ := h
    refine ⟨_, (pss_cons (ps_if (pw_or (pt_cmp (pc_isN (pv 1))) (pw_or1 (pt_cmpR op_ne (pe_callB call_len_seq (by rfl) B.len PySem.boot_len (pa_cons (pv 0) pa_nil)) (pe_op op_add (pe_callB call_len_seq (by rfl) B.len PySem.boot_len (pa_cons (pv 1) pa_nil)) pe_int) (nomark _)))).pt (pss_one (ps_ret pe_bl)) pss_nil)
      (pss_cons (ps_for PassesOwn.never rfl (RZ.pi_zipA (by rfl) B.zip (pa_cons (pv 1) (pa_cons (pe_slice sl_tup (pv 0) (po_some pe_int) po_none) pa_nil))) (pg_tup rfl (pgs_cons (pg_name (i := 2) scFits.nd rfl (.inl rfl)) (pgs_cons (pg_name (i := 3) scFits.nd rfl (.inl rfl)) pgs_nil))) (pss_cons (ps_set (i := 4) scFits.nd rfl (.inl rfl) (pe_ix ix_kdict (pe_glob (v := .ref dC) (by rfl) C.mgC rfl) (pv 2) (fun _ _ => rfl)))
      (pss_one (ps_if (pt_not (pt_val (pe_callI (i := 4) (x := "check") C.fn hr C.kp pass0 rfl (.inl rfl) (pa_cons (pv 3) pa_nil)))) (pss_one (ps_ret pe_bl)) pss_nil))))
      (pss_one (ps_ret pe_bl)))), ?_⟩
    cases o with
    | none =>
      have hk : kv = .non := hk
      subst hk
      refine ⟨_, rfl, _, rfl, ifP (by decide) ?_⟩
      exact q H (LamX.ExtN.refl H) hT
    | some kds =>
    obtain ⟨kt, wd, ds, rfl, rfl, hk, hck, hkl⟩ := hk
    cases hd with
    | @tup p xs ds' hp hds =>
    cases hds with
    | @cons x0 xs d0 ds' h0 hds =>
    cases h0
    have hxl := hds.len
    refine ⟨_, rfl, _, rfl, ifN (by intro h; cases of_decide_eq_true h) ?_⟩
    refine ⟨_, rfl, p, _, rfl, .inr (ntT hp), _, rfl, kt, _, rfl, .inr (hk _), _, _, rfl, rfl, rfl, _, rfl, ?_⟩
    refine ite2 (fun e => ?_) (fun e => ?_)
    · have : ds.length ≠ kds.length := fun z => by
        rw [List.length_cons, List.length_map, hxl, z] at e
        simp at e
      have q1 := q H (LamX.ExtN.refl H) hT
      have e9 : fitsD (.tup (.str wd :: ds)) (some kds) = false := by
        show (decide (ds.length = kds.length) && _) = false
        rw [decide_eq_false this, Bool.false_and]
      rw [e9] at q1
      exact q1
    have hl : ds.length = kds.length := by
      rw [List.length_cons, List.length_map, hxl] at e
      have := of_decide_eq_true (by simpa using e)
      omega
    have e9 : fitsD (.tup (.str wd :: ds)) (some kds) = (kds.zip ds).all fun p => ckD p.1 p.2 := by
      show (decide (ds.length = kds.length) && _) = _
      rw [decide_eq_true hl, Bool.true_and]
    rw [e9] at q
    refine ⟨.ref kt, rfl, .ref p, rfl, 1, rfl, p, _, rfl, ntT hp, cut_not _ _, fun R nR => ?_⟩
    rw [cut_one]
    have sR := new_same (o := .tup xs) nR
    have eR : upd H R (.tup xs) R = some (.tup xs) := upd_same
    have hT1 := hT.same sR
    generalize upd H R (.tup xs) = H1 at sR eR hT1
    refine ⟨kt, R, kds.map V.str, xs, rfl, .inr ⟨hk _, sqT eR, ?_⟩⟩
    refine for_it (walk_zt (xs := kds.map V.str) (ys := xs) (by rw [List.length_map]; omega)) (fun i σ Hx => ∃ y2 y3 y4 : Option V, σ = [some (.ref p), some (.ref kt), y2, y3, y4] ∧ LamX.ExtN H Hx ∧ Tbs Ts Dd Hx ∧ Hx R = some (.tup xs) ∧ (((kds.zip ds).take i).all fun p => ckD p.1 p.2) = true) ⟨none, none, none, rfl, same_ext sR, hT1, eR, rfl⟩ (fun i σ Hx _ hP => ?_) (fun i x σ Hx Hy hi hP hY => ?_) (fun σ Hx hP => ?_)
    · obtain ⟨_, _, _, _, _, _, eRx, _⟩ := hP
      exact ⟨hk _, sqT eRx⟩
    · obtain ⟨y2, y3, y4, rfl, sx, tx, eRx, hal⟩ := hP
      obtain ⟨T, x1, x2, rfl, nT', rfl, e1, e2⟩ := hY
      have e2 : xs[i]? = some x2 := e2
      have e1 : (kds.map V.str)[i]? = some x1 := e1
      obtain ⟨dd, hdd, hok⟩ := pd_at2 hds.pd e2
      rw [List.getElem?_map] at e1
      cases hkd : kds[i]? with
      | none => rw [hkd] at e1; cases e1
      | some kd =>
      rw [hkd] at e1
      cases e1
      have hzi := zip_at hkd hdd
      obtain ⟨c, hc⟩ := hck kd (List.mem_of_getElem? hkd)
      have hcD : ckD kd dd = c.f dd := by unfold ckD; rw [hc]
      have sT := new_same (o := .tup [.str kd, x2]) nT'
      have sx2 : LamX.ExtN H (upd Hx T (.tup [.str kd, x2])) := sx.trans (same_ext sT)
      have tx2 := tx.same sT
      have eR2 := sT _ _ eRx
      refine ⟨T, _, rfl, sqT upd_same, rfl, _, _, rfl, _, _, rfl, rfl, ?_⟩
      generalize upd Hx T (.tup [.str kd, x2]) = Hz at sx2 tx2 eR2
      have hok2 : DtAt K (nt Hz) x2 dd := hok.same (ext_nt sx2)
      have hok3 : DtAt K Hz x2 dd := hok2.same (nt_same _)
      have hzd : szD dd = true := (sz_tup hz).2 dd (List.mem_cons_of_mem _ (List.mem_of_getElem? hdd))
      have no : ∀ Hw, c.f dd = false → LamX.ExtN H Hw → Tbs Ts Dd Hw → Q (.bl false) Hw := fun Hw e a b => by
        have := q Hw a b
        rw [all_no hzi (by show ckD kd dd = false; rw [hcD]; exact e)] at this
        exact this
      have yes : c.f dd = true → (((kds.zip ds).take (i + 1)).all fun p => ckD p.1 p.2) = true := fun e => by
        rw [all_take _ hzi, hal]
        show (true && ckD kd dd) = true
        rw [hcD, e]
        rfl
      refine ⟨_, rfl, dC, _, _, rfl, rfl, C.at_ _ _ hc, c, rfl, _, rfl, ?_⟩
      cases c with
      | num => exact ⟨_, _, rfl, hok3, _, rfl, ite2 (fun e => no _ (notT e) sx2 tx2) (fun e => ⟨_, _, _, rfl, sx2, tx2, eR2, yes (notF e)⟩)⟩
      | place => exact ⟨_, _, rfl, hok3, _, rfl, ite2 (fun e => no _ (notT e) sx2 tx2) (fun e => ⟨_, _, _, rfl, sx2, tx2, eR2, yes (notF e)⟩)⟩
      | parts => exact ⟨_, _, rfl, hok2, hzd, tx2, fun H' ex tx' => ⟨_, rfl, ite2 (fun e => no _ (notT e) (sx2.trans ex) tx') (fun e => ⟨_, _, _, rfl, sx2.trans ex, tx', ex _ _ eR2 (fun ps z => by cases z), yes (notF e)⟩)⟩⟩
      | rooms => exact ⟨_, _, rfl, hok2, hzd, tx2, fun H' ex tx' => ⟨_, rfl, ite2 (fun e => no _ (notT e) (sx2.trans ex) tx') (fun e => ⟨_, _, _, rfl, sx2.trans ex, tx', ex _ _ eR2 (fun ps z => by cases z), yes (notF e)⟩)⟩⟩
    · obtain ⟨y2, y3, y4, rfl, sx, tx, eRx, hal⟩ := hP
      have q1 := q _ sx tx
      rw [List.length_map] at hal
      rw [List.take_of_length_le (by rw [List.length_zip]; omega)] at hal
      rw [hal] at q1
      exact q1
end
end Gn
set_option Elab.async false
set_option linter.all false
set_option maxRecDepth 100000
set_option maxHeartbeats 4000000
set_option pp.maxSteps 300
namespace Gn
open PySem PySem.Spec PyProof.Rows L2
/-! ### rows, ends, blocks, programs: written or not -/
section
variable {P0 : Program} {w : World} {K : PySem.W.Frag} {mg : Str → Option Value} {base : Heap} {Ts : List Addr} {Dd : Addr}
theorem rowKd_ne {s : Str} {kds : List Str} (h : rowKd s = some kds) : s ≠ "" := fun z => by subst z; cases h
theorem endKd_ne {s : Str} {kds : List Str} (h : endKd s = some kds) : s ≠ "" := fun z => by subst z; cases h
theorem ok_isRow {f fF fW dR dE : Addr} {fd fdF fdW : FuncData} {k : Nat} (D : Df K mg "is_row" sIsRow ["thing"] f fd) (T : TbD K w mg dR dE)
    (DF : Df K mg "fits" sFits ["thing", "kinds"] fF fdF) (GF : FnOk P0 w K mg base CX0 k fF fdF ["thing", "kinds"] (spFits K Ts Dd)) (DW : Df K mg "word_of" sWordOf ["thing"] fW fdW) (GW : FnOk P0 w K mg base CX0 k fW fdW ["thing"] (spWordD K)) :
    FnOk P0 w K mg base CX0 (k + 1) f fd ["thing"] (spDT K Ts Dd isRowD) := by
  refine D.F.ok scIsRow (fun vs H Q E h => ?_) (fun cdv A outer s H vs Q E hr h => ?_)
  · obtain ⟨v, d, rfl, _⟩ := h
    rfl
  · obtain ⟨v, d, rfl, hd, hz, hT, q⟩ := h
    refine ⟨_, (pss_one (ps_ret (pe_call GF hr (by rfl) DF.g DF.F.kp DF.b .nil pass0 (pa_cons (pv 0) (pa_cons (pe_kget (pe_glob (v := .ref dR) (by rfl) T.mgR rfl) (pe_call GW hr (by rfl) DW.g DW.F.kp DW.b .nil pass0 (pa_cons (pv 0) pa_nil)) ⟨rfl, rfl, rfl, rfl⟩) pa_nil))))), ?_⟩
    refine ⟨_, rfl, dR, rfl, T.isR, _, rfl, v, d, rfl, hd.same (nt_same _), wordD d, rfl, ?_⟩
    cases hk : rowKd (wordD d) with
    | none =>
      refine .inr ⟨T.rowN _ hk, v, .non, d, none, rfl, hd, hz, rfl, hT, fun H' a b => ?_⟩
      have := q H' a b
      unfold isRowD at this
      rw [hk] at this
      exact this
    | some kds =>
      obtain ⟨g, hg, hgT⟩ := T.row _ _ hk
      obtain ⟨ds, he⟩ := wordD_tup (rowKd_ne hk)
      refine .inl ⟨.ref g, hg, v, .ref g, d, some kds, rfl, hd, hz, ⟨g, wordD d, ds, he, rfl, hgT, (kd_ok (.inl hk)).1, (kd_ok (.inl hk)).2⟩, hT, fun H' a b => ?_⟩
      have := q H' a b
      unfold isRowD at this
      rw [hk] at this
      exact this
theorem ok_isEnd {f fF fW dR dE : Addr} {fd fdF fdW : FuncData} {k : Nat} (D : Df K mg "is_end" sIsEnd ["thing"] f fd) (T : TbD K w mg dR dE)
    (DF : Df K mg "fits" sFits ["thing", "kinds"] fF fdF) (GF : FnOk P0 w K mg base CX0 k fF fdF ["thing", "kinds"] (spFits K Ts Dd)) (DW : Df K mg "word_of" sWordOf ["thing"] fW fdW) (GW : FnOk P0 w K mg base CX0 k fW fdW ["thing"] (spWordD K)) :
    FnOk P0 w K mg base CX0 (k + 1) f fd ["thing"] (spDT K Ts Dd isEndD) := by
  refine D.F.ok scIsEnd (fun vs H Q E h => ?_) (fun cdv A outer s H vs Q E hr h => ?_)
  · obtain ⟨v, d, rfl, _⟩ := h
    rfl
  · obtain ⟨v, d, rfl, hd, hz, hT, q⟩ := h
    refine ⟨_, (pss_one (ps_ret (pe_call GF hr (by rfl) DF.g DF.F.kp DF.b .nil pass0 (pa_cons (pv 0) (pa_cons (pe_kget (pe_glob (v := .ref dE) (by rfl) T.mgE rfl) (pe_call GW hr (by rfl) DW.g DW.F.kp DW.b .nil pass0 (pa_cons (pv 0) pa_nil)) ⟨rfl, rfl, rfl, rfl⟩) pa_nil))))), ?_⟩
    refine ⟨_, rfl, dE, rfl, T.isE, _, rfl, v, d, rfl, hd.same (nt_same _), wordD d, rfl, ?_⟩
    cases hk : endKd (wordD d) with
    | none =>
      refine .inr ⟨T.endN _ hk, v, .non, d, none, rfl, hd, hz, rfl, hT, fun H' a b => ?_⟩
      have := q H' a b
      unfold isEndD at this
      rw [hk] at this
      exact this
    | some kds =>
      obtain ⟨g, hg, hgT⟩ := T.end_ _ _ hk
      obtain ⟨ds, he⟩ := wordD_tup (endKd_ne hk)
      refine .inl ⟨.ref g, hg, v, .ref g, d, some kds, rfl, hd, hz, ⟨g, wordD d, ds, he, rfl, hgT, (kd_ok (.inr hk)).1, (kd_ok (.inr hk)).2⟩, hT, fun H' a b => ?_⟩
      have := q H' a b
      unfold isEndD at this
      rw [hk] at this
      exact this
theorem blk_tup {ds : List Dt} (h : ds.length ≠ 2) : isBlockD (.tup ds) = false := by
  unfold isBlockD
  split
  · exact absurd (by rename_i e; cases e; rfl) h
  · rfl
theorem blk_nl {d e : Dt} (h : d.isL = false) : isBlockD (.tup [d, e]) = false := by
  cases d <;> first | rfl | cases h
theorem ok_isBlock {f fR fE c P : Addr} {fd fdR fdE : FuncData} {k : Nat} (D : DfC K mg "is_block" sIsBlock ["thing"] f fd c) (B : Bi mg) (TB : GxR.TabB base mg c P) (hP : P ∈ Ts) (hTs : TsOk Ts Dd)
    (DR : Df K mg "is_row" sIsRow ["thing"] fR fdR) (GR : FnOk P0 w K mg base CX0 k fR fdR ["thing"] (spDT K Ts Dd isRowD)) (DE : Df K mg "is_end" sIsEnd ["thing"] fE fdE) (GE : FnOk P0 w K mg base CX0 (k + 3) fE fdE ["thing"] (spDT K Ts Dd isEndD)) :
    FnOk P0 w K mg base CX0 (k + 3 + 1) f fd ["thing"] (spDT K Ts Dd isBlockD) := by
  refine D.F.ok scIsBlock (fun vs H Q E h => ?_) (fun A outer s H vs Q E hr h => ?_)
  · obtain ⟨v, d, rfl, _⟩ := h
    rfl
  · obtain ⟨v, d, rfl, hd, hz, hT, q⟩ := h
    refine ⟨_, (pss_cons (ps_if (pw_or (pt_not (pt_val (pe_callB call_isi (by rfl) B.isinstance PyProof.Rows.boot_isinstance (pa_cons (pv 0) (pa_cons (pe_bltn (v := .ty "tuple") (by rfl) B.tuple (show bootBuiltins "tuple" = some (.type "tuple") by rfl) rfl) pa_nil))))) (pw_or1 (pt_cmpR op_ne (pe_callB call_len_seq (by rfl) B.len PySem.boot_len (pa_cons (pv 0) pa_nil)) pe_int (nomark _)))).pt (pss_one (ps_ret pe_bl)) pss_nil)
      (pss_cons (ps_asg (pv 0) (pg_tup rfl (pgs_cons (pg_name (i := 1) scIsBlock.nd rfl (.inl rfl)) (pgs_cons (pg_name (i := 2) scIsBlock.nd rfl (.inl rfl)) pgs_nil))))
      (pss_one (ps_ret (pe_and (pe_callB call_isi (by rfl) B.isinstance PyProof.Rows.boot_isinstance (pa_cons (pv 1) (pa_cons (pe_bltn (v := .ty "list") (by rfl) B.list (show bootBuiltins "list" = some (.type "list") by rfl) rfl) pa_nil))) (pe_and (Gx.pe_allG (k := k) (own := [("row", 3)]) (g := gName 3) (tt := tYes) (te := tCall (spDT K Ts Dd isRowD) [] E0 (tCons (tVar 3) tNil)) rfl hr scIsBlock.nd (by rfl) B.all (by decide +kernel) TB rfl
      (blkOk_by (own := [("row", 3)]) (N := nIsBlock) (sc := defScope sIsBlock) (by decide +kernel)) (by decide +kernel) (by rfl) (by rfl)
      (pi_list (pv 1)) (fun _ _ _ _ _ _ _ _ _ => pg_name (i := 3) scIsBlock.nd rfl (.inl rfl)) (fun _ _ _ _ _ _ _ _ _ => pts_nil)
      (fun A' _ _ _ _ _ _ _ hr' => pe_call GR hr' (by rfl) DR.g DR.F.kp DR.b .nil pass0 (pa_cons (pv 3) pa_nil)) (fun _ => rfl)) (pe_one (pe_call GE hr (by rfl) DE.g DE.F.kp DE.b .nil pass0 (pa_cons (pv 2) pa_nil))))))))), ?_⟩
    have no : isBlockD d = false → Q (.bl false) H := fun e => by
      have := q H (LamX.ExtN.refl H) hT
      rw [e] at this
      exact this
    have hd0 := hd.same (nt_same _)
    refine ⟨_, rfl, _, .ty "tuple", _, .type "tuple", _, rfl, .ty "tuple", tyD hd0, kt_tuple d, _, rfl, ite2 (fun e => ?_) (fun e => ?_)⟩
    · have := notT e
      exact no (by cases d <;> first | rfl | cases this)
    have e := notF e
    cases hd with
    | @tup p xs ds hp hds =>
      have hxl := hds.len
      refine ⟨_, rfl, p, _, rfl, .inr (ntT hp), rfl, _, rfl, ite2 (fun e2 => ?_) (fun e2 => ?_)⟩
      · refine no (blk_tup ?_)
        have := of_decide_eq_false (notT e2)
        intro z
        exact this (by rw [hxl, z]; rfl)
      cases hds with
      | nil => exact absurd rfl e2
      | @cons x1 xs d1 ds h1 hds =>
      cases hds with
      | nil => exact absurd rfl e2
      | @cons x2 xs d2 ds h2 hds =>
      cases hds with
      | @cons x3 xs d3 ds h3 hds =>
        have z := V.int.inj (of_decide_eq_true (notF e2))
        simp only [List.length_cons] at z
        omega
      | nil =>
      have hz1 := (sz_tup hz).2 d1 (by simp)
      have hz2 := (sz_tup hz).2 d2 (by simp)
      refine ⟨_, rfl, p, _, rfl, ntT hp, rfl, _, _, rfl, _, _, rfl, rfl, ?_⟩
      refine ⟨_, rfl, _, .ty "list", _, .type "list", _, rfl, .ty "list", tyD (h1.same (nt_same _)), kt_list d1, _, rfl, ite2 (fun e3 => ?_) (fun e3 => ?_)⟩
      · cases h1 with
        | @lst ra us rs hra' hrs =>
          have hra : SqL K (nt H) ra us := sqL hra'
          have hul := hrs.len
          have h9 : isBlockD (.tup [.lst rs, d2]) = (rs.all isRowD && isEndD d2) := rfl
          rw [h9] at q
          have at_ : ∀ {H' : Hp}, LamX.ExtN H H' → SqL K H' ra us := fun e => ntL ((ext_nt e).seq hra)
          refine ⟨_, rfl, ra, rfl, ⟨_, ntL hra⟩, hT.g P hP, fun H2 hTb => ?_⟩
          obtain ⟨hT2, e2⟩ := hT.tabbed hP (hTs.ne hP) hTb
          refine all_wi us.length (fun i H' => LamX.ExtN H H' ∧ Tbs Ts Dd H' ∧ (rs.take i).all isRowD = true) ⟨e2, hT2, rfl⟩ (fun i H3 hi hΦ => ?_) (fun H3 hΦ => ⟨⟨_, at_ hΦ.1, Nat.le_refl _⟩, _, rfl, ifP rfl ?_⟩)
          · have hp3 := at_ hΦ.1
            have hxi := List.getElem?_eq_getElem hi
            refine ⟨⟨_, _, hp3, hxi⟩, fun x H' y => ?_⟩
            obtain ⟨e1, y⟩ := y
            subst e1
            have ex := y _ hp3
            rw [hxi] at ex
            cases ex
            obtain ⟨dd, hdd, hda⟩ := pd_at2 hrs.pd hxi
            refine ⟨rfl, _, rfl, _, dd, rfl, hda.same (ext_nt hΦ.1), (sz_lst hz1).2 _ (List.mem_of_getElem? hdd), hΦ.2.1, fun H4 e4 t4 => ⟨_, rfl, fun e => ⟨_, rfl, ifN (by intro h; cases h) ?_⟩, fun e => ⟨hΦ.1.trans e4, t4, ?_⟩⟩⟩
            · have := q _ (hΦ.1.trans e4) t4
              rw [all_no hdd e, Bool.false_and] at this
              exact this
            · rw [all_take _ hdd, hΦ.2.2]
              simpa using e
          · have hall := hΦ.2.2
            rw [hul, List.take_length] at hall
            refine ⟨_, rfl, _, d2, rfl, h2.same (ext_nt hΦ.1), hz2, hΦ.2.1, fun H4 e4 t4 => ?_⟩
            have := q _ (hΦ.1.trans e4) t4
            rw [hall, Bool.true_and] at this
            exact this
        | _ => cases e3
      · have e3 : d1.isL = false := Bool.eq_false_iff.mpr e3
        exact no (blk_nl e3)
    | _ => cases e
theorem ok_isWritten {f fR c P : Addr} {fd fdR : FuncData} {k : Nat} (D : DfC K mg "is_written" sIsWritten ["thing"] f fd c) (B : Bi mg) (TB : GxR.TabB base mg c P) (hP : P ∈ Ts) (hTs : TsOk Ts Dd) {cR : Addr}
    (DR : DfC K mg "is_block" sIsBlock ["thing"] fR fdR cR) (GR : FnOk P0 w K mg base CX0 k fR fdR ["thing"] (spDT K Ts Dd isBlockD)) :
    FnOk P0 w K mg base CX0 (k + 3 + 1) f fd ["thing"] (spDT K Ts Dd isWrittenD) := by
  refine D.F.ok scIsWritten (fun vs H Q E h => ?_) (fun A outer s H vs Q E hr h => ?_)
  · obtain ⟨v, d, rfl, _⟩ := h
    rfl
  · obtain ⟨v, d, rfl, hd, hz, hT, q⟩ := h
    refine ⟨_, (pss_one (ps_ret (pe_and (pe_callB call_isi (by rfl) B.isinstance PyProof.Rows.boot_isinstance (pa_cons (pv 0) (pa_cons (pe_bltn (v := .ty "list") (by rfl) B.list (show bootBuiltins "list" = some (.type "list") by rfl) rfl) pa_nil))) (pe_and (pe_cmpR op_gt (pe_callB call_len_seq (by rfl) B.len PySem.boot_len (pa_cons (pv 0) pa_nil)) pe_int (nomark _)) (pe_one (Gx.pe_allG (k := k) (own := [("block", 1)]) (g := gName 1) (tt := tYes) (te := tCall (spDT K Ts Dd isBlockD) [] E0 (tCons (tVar 1) tNil)) rfl hr scIsWritten.nd (by rfl) B.all (by decide +kernel) TB rfl
      (blkOk_by (own := [("block", 1)]) (N := nIsWritten) (sc := defScope sIsWritten) (by decide +kernel)) (by decide +kernel) (by rfl) (by rfl)
      (pi_list (pv 0)) (fun _ _ _ _ _ _ _ _ _ => pg_name (i := 1) scIsWritten.nd rfl (.inl rfl)) (fun _ _ _ _ _ _ _ _ _ => pts_nil)
      (fun A' _ _ _ _ _ _ _ hr' => pe_call GR hr' (by rfl) DR.g DR.F.kp DR.b .nil pass0 (pa_cons (pv 1) pa_nil)) (fun _ => rfl))))))), ?_⟩
    have hd0 := hd.same (nt_same _)
    refine ⟨_, rfl, _, .ty "list", _, .type "list", _, rfl, .ty "list", tyD hd0, kt_list d, _, rfl, ite2 (fun e => ?_) (fun e => ?_)⟩
    · cases hd with
      | @lst p xs ds hp' hds =>
        have hp : SqL K (nt H) p xs := sqL hp'
        have hxl := hds.len
        have at_ : ∀ {H' : Hp}, LamX.ExtN H H' → SqL K H' p xs := fun e => ntL ((ext_nt e).seq hp)
        refine ⟨_, rfl, p, _, rfl, .inl (ntL hp), _, _, rfl, rfl, _, rfl, ite2 (fun e1 => ?_) (fun e1 => ?_)⟩
        · have hpos : 0 < xs.length := by have := of_decide_eq_true e1; omega
          have hne : ds.isEmpty = false := by cases ds with | nil => (have h0 : xs.length = 0 := hxl; omega) | cons d ds => rfl
          have q' : ∀ H', LamX.ExtN H H' → Tbs Ts Dd H' → Q (.bl (ds.all isBlockD)) H' := fun H' a b => by
            have h9 : isWrittenD (.lst ds) = ds.all isBlockD := by
              show (!ds.isEmpty && ds.all isBlockD) = _
              rw [hne]
              rfl
            rw [← h9]
            exact q H' a b
          refine ⟨_, rfl, p, rfl, ⟨_, ntL hp⟩, hT.g P hP, fun H2 hTb => ?_⟩
          obtain ⟨hT2, e2⟩ := hT.tabbed hP (hTs.ne hP) hTb
          refine all_wi xs.length (fun i H' => LamX.ExtN H H' ∧ Tbs Ts Dd H' ∧ (ds.take i).all isBlockD = true) ⟨e2, hT2, rfl⟩ (fun i H3 hi hΦ => ?_) (fun H3 hΦ => ⟨⟨_, at_ hΦ.1, Nat.le_refl _⟩, ?_⟩)
          · have hp3 := at_ hΦ.1
            have hxi := List.getElem?_eq_getElem hi
            refine ⟨⟨_, _, hp3, hxi⟩, fun x H' y => ?_⟩
            obtain ⟨e1, y⟩ := y
            subst e1
            have ex := y _ hp3
            rw [hxi] at ex
            cases ex
            obtain ⟨dd, hdd, hda⟩ := pd_at2 hds.pd hxi
            refine ⟨rfl, _, rfl, _, dd, rfl, hda.same (ext_nt hΦ.1), (sz_lst hz).2 _ (List.mem_of_getElem? hdd), hΦ.2.1, fun H4 e4 t4 => ⟨_, rfl, fun e => ?_, fun e => ⟨hΦ.1.trans e4, t4, ?_⟩⟩⟩
            · have := q' _ (hΦ.1.trans e4) t4
              rw [all_no hdd e] at this
              exact this
            · rw [all_take _ hdd, hΦ.2.2]
              simpa using e
          · have := q' _ hΦ.1 hΦ.2.1
            rw [hxl] at hΦ
            rw [← hΦ.2.2, List.take_length]
            exact this
        · have : ds = [] := by
            refine List.eq_nil_of_length_eq_zero ?_
            rw [← hxl]
            have : ¬ ((xs.length : Int) > 0) := fun z => e1 (decide_eq_true z)
            omega
          subst this
          exact q H (LamX.ExtN.refl H) hT
      | _ => cases e
    · have : isWrittenD d = false := by cases d <;> first | rfl | exact absurd rfl e
      have q1 := q H (LamX.ExtN.refl H) hT
      rw [this] at q1
      exact q1
end
end Gn
set_option Elab.async false
set_option linter.all false
set_option maxRecDepth 100000
set_option maxHeartbeats 4000000
set_option pp.maxSteps 300
namespace Gn
open PySem PySem.Spec PyProof.Rows L2
/-! ### rows, ends, blocks as they are written: their numbers any -/
inductive Bn
  | sum | less | times | same | below
def Bn.w : Bn → Str
  | .sum => "sum" | .less => "less" | .times => "times" | .same => "same" | .below => "below"
inductive Rz
  | take (i : Int) | num (n : Int) | bin (b : Bn) (x y : Int) | pick (x : Int) (ps : List Int) | meet (ps : List Int) | tell (x : Int) | look (rs : List Int) (x : Int) | lay (rs : List Int) (x y : Int)
def intsD (ps : List Int) : Dt := .tup (ps.map Dt.int)
def Rz.w : Rz → Str
  | .take _ => "take" | .num _ => "num" | .bin b _ _ => b.w | .pick _ _ => "pick" | .meet _ => "meet" | .tell _ => "tell" | .look _ _ => "look" | .lay _ _ _ => "lay"
def Rz.ps : Rz → List Dt
  | .take i => [.int i] | .num n => [.int n] | .bin _ x y => [.int x, .int y] | .pick x ps => [.int x, intsD ps] | .meet ps => [intsD ps] | .tell x => [.int x] | .look rs x => [intsD rs, .int x] | .lay rs x y => [intsD rs, .int x, .int y]
def Rz.dt (r : Rz) : Dt := .tup (.str r.w :: r.ps)
def Rz.worthy : Rz → Bool
  | .tell _ => false | .lay _ _ _ => false | _ => true
inductive En
  | go (b : Int) | iff (r b c : Int) | fin
def En.word : En → Str
  | .go _ => "go" | .iff _ _ _ => "if" | .fin => "end"
def En.ps : En → List Dt
  | .go b => [.int b] | .iff r b c => [.int r, .int b, .int c] | .fin => []
def En.dt (e : En) : Dt := .tup (.str e.word :: e.ps)
/-- the blocks that an end names -/
def En.nmI : En → List Int
  | .go b => [b] | .iff _ b c => [b, c] | .fin => []
def En.names (e : En) : List Nat := e.nmI.map Int.toNat
abbrev Blk := List Rz × En
def bdt (b : Blk) : Dt := .tup [.lst (b.1.map Rz.dt), b.2.dt]
def pdt (pr : List Blk) : Dt := .lst (pr.map bdt)
def RzAt (K : PySem.W.Frag) (H : Hp) (v : V) (r : Rz) : Prop := DtAt K H v r.dt
def EnAt (K : PySem.W.Frag) (H : Hp) (v : V) (e : En) : Prop := DtAt K H v e.dt
theorem RzAt.same {K : PySem.W.Frag} {H H' : Hp} {v : V} {r : Rz} (h : RzAt K H v r) (e : Same H H') : RzAt K H' v r := DtAt.same e _ h
theorem EnAt.same {K : PySem.W.Frag} {H H' : Hp} {v : V} {r : En} (h : EnAt K H v r) (e : Same H H') : EnAt K H' v r := DtAt.same e _ h
theorem DtAt.same' {K : PySem.W.Frag} {H H' : Hp} {v : V} {d : Dt} (h : DtAt K H v d) (e : Same H H') : DtAt K H' v d := DtAt.same e _ h
theorem RzAt.at {K : PySem.W.Frag} {H : Hp} {v : V} {r : Rz} (h : RzAt K H v r) : ∃ p xs, v = .ref p ∧ SqT K H p (.str r.w :: xs) ∧ DtAll K H xs r.ps := by
  unfold RzAt Rz.dt at h
  cases h with
  | @tup p xs ds hp hds =>
    cases hds with
    | cons h0 ht => cases h0; exact ⟨p, _, rfl, hp, ht⟩
theorem EnAt.at {K : PySem.W.Frag} {H : Hp} {v : V} {e : En} (h : EnAt K H v e) : ∃ p xs, v = .ref p ∧ SqT K H p (.str e.word :: xs) ∧ DtAll K H xs e.ps := by
  unfold EnAt En.dt at h
  cases h with
  | @tup p xs ds hp hds =>
    cases hds with
    | cons h0 ht => cases h0; exact ⟨p, _, rfl, hp, ht⟩
def BlkAt (K : PySem.W.Frag) (H : Hp) (v : V) (b : Blk) : Prop := ∃ p ra ea vs, v = .ref p ∧ SqT K H p [.ref ra, ea] ∧ SqL K H ra vs ∧ Paired (RzAt K H) vs b.1 ∧ EnAt K H ea b.2
def ProgAt (K : PySem.W.Frag) (H : Hp) (v : V) (pr : List Blk) : Prop := ∃ p bs, v = .ref p ∧ SqL K H p bs ∧ Paired (BlkAt K H) bs pr
theorem BlkAt.same {K : PySem.W.Frag} {H H' : Hp} {v : V} {b : Blk} (h : BlkAt K H v b) (e : Same H H') : BlkAt K H' v b := by
  obtain ⟨p, ra, ea, vs, h1, h2, h3, h4, h5⟩ := h
  exact ⟨p, ra, ea, vs, h1, Same.tup e h2, e.seq h3, pd_mono h4 fun _ _ y => y.same e, h5.same e⟩
theorem ProgAt.same {K : PySem.W.Frag} {H H' : Hp} {v : V} {pr : List Blk} (h : ProgAt K H v pr) (e : Same H H') : ProgAt K H' v pr := by
  obtain ⟨p, bs, rfl, h1, h2⟩ := h
  exact ⟨p, bs, rfl, e.seq h1, pd_mono h2 fun _ _ y => y.same e⟩
theorem all_pd {α : Type} {K : PySem.W.Frag} {H : Hp} {f : α → Dt} {F : V → α → Prop} (g : ∀ v a, DtAt K H v (f a) → F v a) : ∀ {vs : List V} {as : List α}, DtAll K H vs (as.map f) → Paired F vs as
  | _, [], h => by cases h; exact .nil
  | _, a :: as, h => by
    cases h with
    | cons h0 ht => exact .cons (g _ _ h0) (all_pd g ht)
theorem blk_at {K : PySem.W.Frag} {H : Hp} {v : V} {b : Blk} (h : DtAt K H v (bdt b)) : BlkAt K H v b := by
  unfold bdt at h
  cases h with
  | @tup p xs ds hp hds =>
    cases hds with
    | cons h1 ht =>
      cases ht with
      | cons h2 ht =>
        cases ht
        cases h1 with
        | lst h3 h4 => exact ⟨p, _, _, _, rfl, hp, sqL h3, all_pd (F := RzAt K H) (fun _ _ z => z) h4, h2⟩
theorem prog_at {K : PySem.W.Frag} {H : Hp} {v : V} {pr : List Blk} (h : DtAt K H v (pdt pr)) : ProgAt K H v pr := by
  unfold pdt at h
  cases h with
  | @lst p xs ds hp hds => exact ⟨p, xs, rfl, sqL hp, all_pd (F := BlkAt K H) (fun _ _ z => blk_at z) hds⟩
/-- with the lists themselves -/
def BlkH (K : PySem.W.Frag) (H : Hp) (v : V) (b : Blk) : Prop := ∃ p ra ea vs, v = .ref p ∧ SqT K H p [.ref ra, ea] ∧ H ra = some (.lst vs) ∧ Paired (RzAt K H) vs b.1 ∧ EnAt K H ea b.2
def ProgH (K : PySem.W.Frag) (H : Hp) (v : V) (pr : List Blk) : Prop := ∃ p bs, v = .ref p ∧ SqL K H p bs ∧ Paired (BlkH K H) bs pr
theorem blk_atH {K : PySem.W.Frag} {H : Hp} {v : V} {b : Blk} (h : DtAt K H v (bdt b)) : BlkH K H v b := by
  unfold bdt at h
  cases h with
  | @tup p xs ds hp hds =>
    cases hds with
    | cons h1 ht =>
      cases ht with
      | cons h2 ht =>
        cases ht
        cases h1 with
        | lst h3 h4 => exact ⟨p, _, _, _, rfl, hp, h3, all_pd (F := RzAt K H) (fun _ _ z => z) h4, h2⟩
theorem prog_atH {K : PySem.W.Frag} {H : Hp} {v : V} {pr : List Blk} (h : DtAt K H v (pdt pr)) : ProgH K H v pr := by
  unfold pdt at h
  cases h with
  | @lst p xs ds hp hds => exact ⟨p, xs, rfl, sqL hp, all_pd (F := BlkH K H) (fun _ _ z => blk_atH z) hds⟩
theorem ints_at {K : PySem.W.Frag} {H : Hp} : ∀ {ps : List Int} {vs : List V}, DtAll K H vs (ps.map Dt.int) → vs = ps.map V.int
  | [], _, h => by cases h; rfl
  | p :: ps, _, h => by
    cases h with
    | cons h0 ht => cases h0; rw [ints_at ht]; rfl
theorem intsD_at {K : PySem.W.Frag} {H : Hp} {v : V} {ps : List Int} (h : DtAt K H v (intsD ps)) : ∃ q, v = .ref q ∧ SqT K H q (ps.map V.int) := by
  unfold intsD at h
  cases h with
  | tup h1 h2 => rw [ints_at h2] at h1; exact ⟨_, rfl, h1⟩
/-! ### what is written so -/
def RmG (rs : List Int) : Prop := 1 ≤ rs.length ∧ rs.length ≤ 4 ∧ (∀ x ∈ rs, 0 ≤ x ∧ x ≤ 5) ∧ rs.Nodup
def RwG : Rz → Prop
  | .take i => 0 ≤ i ∧ i ≤ 5
  | .pick _ ps => ps ≠ []
  | .meet ps => ps ≠ []
  | .look rs _ => RmG rs
  | .lay rs _ _ => RmG rs
  | _ => True
theorem isNum_iff {d : Dt} : isNumD d = true ↔ ∃ n, d = .int n := by
  constructor
  · intro h
    cases d <;> first | exact ⟨_, rfl⟩ | cases h
  · rintro ⟨n, rfl⟩; rfl
theorem isPlace_iff {d : Dt} : isPlaceD d = true ↔ ∃ n, d = .int n ∧ 0 ≤ n ∧ n ≤ 5 := by
  constructor
  · intro h
    cases d with
    | int n =>
      have h : (decide ((0 : Int) ≤ n) && decide (n ≤ 5)) = true := h
      rw [Bool.and_eq_true] at h
      exact ⟨n, rfl, of_decide_eq_true h.1, of_decide_eq_true h.2⟩
    | _ => cases h
  · rintro ⟨n, rfl, h1, h2⟩
    show (decide ((0 : Int) ≤ n) && decide (n ≤ 5)) = true
    rw [decide_eq_true h1, decide_eq_true h2]; rfl
theorem allNum_iff : ∀ {ds : List Dt}, ds.all isNumD = true ↔ ∃ ps : List Int, ds = ps.map Dt.int
  | [] => ⟨fun _ => ⟨[], rfl⟩, fun _ => rfl⟩
  | d :: ds => by
    rw [List.all_cons, Bool.and_eq_true, isNum_iff, allNum_iff]
    constructor
    · rintro ⟨⟨n, rfl⟩, ps, rfl⟩; exact ⟨n :: ps, rfl⟩
    · rintro ⟨ps, h⟩
      cases ps with
      | nil => cases h
      | cons p ps => cases h; exact ⟨⟨_, rfl⟩, _, rfl⟩
theorem isParts_iff {d : Dt} : isPartsD d = true ↔ ∃ ps, d = intsD ps ∧ ps ≠ [] := by
  constructor
  · intro h
    cases d with
    | tup ds =>
      have h : (!ds.isEmpty && ds.all isNumD) = true := h
      rw [Bool.and_eq_true] at h
      obtain ⟨ps, rfl⟩ := allNum_iff.mp h.2
      refine ⟨ps, rfl, fun z => ?_⟩
      subst z
      cases h.1
    | _ => cases h
  · rintro ⟨ps, rfl, h⟩
    show (!(ps.map Dt.int).isEmpty && (ps.map Dt.int).all isNumD) = true
    rw [allNum_iff.mpr ⟨ps, rfl⟩]
    cases ps with
    | nil => exact absurd rfl h
    | cons p ps => rfl
theorem intD_map (ps : List Int) : (ps.map Dt.int).map intD = ps := by
  rw [List.map_map]
  exact List.map_id' ps
theorem isRooms_iff {d : Dt} : isRoomsD d = true ↔ ∃ ps, d = intsD ps ∧ RmG ps := by
  constructor
  · intro h
    cases d with
    | tup ds =>
      have h : (decide (1 ≤ ds.length) && decide (ds.length ≤ 4) && ds.all isPlaceD && decide ((ds.map intD).Nodup)) = true := h
      simp only [Bool.and_eq_true, decide_eq_true_eq] at h
      obtain ⟨⟨⟨h1, h2⟩, h3⟩, h4⟩ := h
      obtain ⟨ps, rfl⟩ := allNum_iff.mp (List.all_eq_true.mpr fun d hd => place_num (List.all_eq_true.mp h3 d hd))
      rw [intD_map] at h4
      rw [List.length_map] at h1 h2
      refine ⟨ps, rfl, h1, h2, fun x hx => ?_, h4⟩
      obtain ⟨n, e, a, b⟩ := isPlace_iff.mp (List.all_eq_true.mp h3 (.int x) (List.mem_map.mpr ⟨x, hx, rfl⟩))
      cases e
      exact ⟨a, b⟩
    | _ => cases h
  · rintro ⟨ps, rfl, h1, h2, h3, h4⟩
    show (decide (1 ≤ (ps.map Dt.int).length) && decide ((ps.map Dt.int).length ≤ 4) && (ps.map Dt.int).all isPlaceD && decide (((ps.map Dt.int).map intD).Nodup)) = true
    rw [intD_map, List.length_map]
    simp only [Bool.and_eq_true, decide_eq_true_eq]
    refine ⟨⟨⟨h1, h2⟩, List.all_eq_true.mpr fun d hd => ?_⟩, h4⟩
    obtain ⟨x, hx, rfl⟩ := List.mem_map.mp hd
    exact isPlace_iff.mpr ⟨x, rfl, h3 x hx⟩
theorem fit0 {s : Str} {ds : List Dt} (h : fitsD (.tup (.str s :: ds)) (some []) = true) : ds = [] := by
  cases ds with
  | nil => rfl
  | cons a l => cases h
theorem fit1 {s k : Str} {ds : List Dt} (h : fitsD (.tup (.str s :: ds)) (some [k]) = true) : ∃ a, ds = [a] ∧ ckD k a = true := by
  match ds, h with
  | [a], h =>
    have h : (decide ([a].length = [k].length) && ((([k].zip [a]).all fun p => ckD p.1 p.2))) = true := h
    simp at h
    exact ⟨a, rfl, h⟩
theorem fit2 {s k l : Str} {ds : List Dt} (h : fitsD (.tup (.str s :: ds)) (some [k, l]) = true) : ∃ a b, ds = [a, b] ∧ ckD k a = true ∧ ckD l b = true := by
  match ds, h with
  | [a, b], h =>
    have h : (decide ([a, b].length = [k, l].length) && ((([k, l].zip [a, b]).all fun p => ckD p.1 p.2))) = true := h
    simp at h
    exact ⟨a, b, rfl, h.1, h.2⟩
theorem fit3 {s k l m : Str} {ds : List Dt} (h : fitsD (.tup (.str s :: ds)) (some [k, l, m]) = true) : ∃ a b c, ds = [a, b, c] ∧ ckD k a = true ∧ ckD l b = true ∧ ckD m c = true := by
  match ds, h with
  | [a, b, c], h =>
    have h : (decide ([a, b, c].length = [k, l, m].length) && ((([k, l, m].zip [a, b, c]).all fun p => ckD p.1 p.2))) = true := h
    simp at h
    exact ⟨a, b, c, rfl, h.1, h.2.1, h.2.2⟩
theorem row_of {d : Dt} (h : isRowD d = true) : ∃ r : Rz, d = r.dt ∧ RwG r := by
  unfold isRowD at h
  have hk : rowKd (wordD d) ≠ none := fun z => by rw [z] at h; cases h
  have hw : wordD d ≠ "" := fun z => hk (by rw [z]; rfl)
  obtain ⟨ds, hd⟩ := wordD_tup hw
  generalize wordD d = s at *
  subst hd
  unfold rowKd at h
  split at h
  · subst s
    obtain ⟨a, rfl, h1⟩ := fit1 h
    obtain ⟨n, rfl, h2⟩ := isPlace_iff.mp (show isPlaceD a = true from h1)
    exact ⟨.take n, rfl, h2⟩
  split at h
  · subst s
    obtain ⟨a, rfl, h1⟩ := fit1 h
    obtain ⟨n, rfl⟩ := isNum_iff.mp (show isNumD a = true from h1)
    exact ⟨.num n, rfl, trivial⟩
  split at h
  · rename_i hs
    obtain ⟨a, b, rfl, h1, h2⟩ := fit2 h
    obtain ⟨x, rfl⟩ := isNum_iff.mp (show isNumD a = true from h1)
    obtain ⟨y, rfl⟩ := isNum_iff.mp (show isNumD b = true from h2)
    rcases hs with rfl | rfl | rfl | rfl | rfl
    · exact ⟨.bin .sum x y, rfl, trivial⟩
    · exact ⟨.bin .less x y, rfl, trivial⟩
    · exact ⟨.bin .times x y, rfl, trivial⟩
    · exact ⟨.bin .same x y, rfl, trivial⟩
    · exact ⟨.bin .below x y, rfl, trivial⟩
  split at h
  · subst s
    obtain ⟨a, b, rfl, h1, h2⟩ := fit2 h
    obtain ⟨x, rfl⟩ := isNum_iff.mp (show isNumD a = true from h1)
    obtain ⟨ps, rfl, h3⟩ := isParts_iff.mp (show isPartsD b = true from h2)
    exact ⟨.pick x ps, rfl, h3⟩
  split at h
  · subst s
    obtain ⟨a, rfl, h1⟩ := fit1 h
    obtain ⟨ps, rfl, h3⟩ := isParts_iff.mp (show isPartsD a = true from h1)
    exact ⟨.meet ps, rfl, h3⟩
  split at h
  · subst s
    obtain ⟨a, b, rfl, h1, h2⟩ := fit2 h
    obtain ⟨ps, rfl, h3⟩ := isRooms_iff.mp (show isRoomsD a = true from h1)
    obtain ⟨x, rfl⟩ := isNum_iff.mp (show isNumD b = true from h2)
    exact ⟨.look ps x, rfl, h3⟩
  split at h
  · subst s
    obtain ⟨a, b, c, rfl, h1, h2, h4⟩ := fit3 h
    obtain ⟨ps, rfl, h3⟩ := isRooms_iff.mp (show isRoomsD a = true from h1)
    obtain ⟨x, rfl⟩ := isNum_iff.mp (show isNumD b = true from h2)
    obtain ⟨y, rfl⟩ := isNum_iff.mp (show isNumD c = true from h4)
    exact ⟨.lay ps x y, rfl, h3⟩
  split at h
  · subst s
    obtain ⟨a, rfl, h1⟩ := fit1 h
    obtain ⟨n, rfl⟩ := isNum_iff.mp (show isNumD a = true from h1)
    exact ⟨.tell n, rfl, trivial⟩
  · cases h
theorem end_of {d : Dt} (h : isEndD d = true) : ∃ e : En, d = e.dt := by
  unfold isEndD at h
  have hk : endKd (wordD d) ≠ none := fun z => by rw [z] at h; cases h
  have hw : wordD d ≠ "" := fun z => hk (by rw [z]; rfl)
  obtain ⟨ds, hd⟩ := wordD_tup hw
  generalize wordD d = s at *
  subst hd
  unfold endKd at h
  split at h
  · subst s
    obtain ⟨a, rfl, h1⟩ := fit1 h
    obtain ⟨n, rfl⟩ := isNum_iff.mp (show isNumD a = true from h1)
    exact ⟨.go n, rfl⟩
  split at h
  · subst s
    obtain ⟨a, b, c, rfl, h1, h2, h3⟩ := fit3 h
    obtain ⟨x, rfl⟩ := isNum_iff.mp (show isNumD a = true from h1)
    obtain ⟨y, rfl⟩ := isNum_iff.mp (show isNumD b = true from h2)
    obtain ⟨z, rfl⟩ := isNum_iff.mp (show isNumD c = true from h3)
    exact ⟨.iff x y z, rfl⟩
  split at h
  · subst s
    rw [fit0 h]
    exact ⟨.fin, rfl⟩
  · cases h
theorem all_of {α : Type} {p : Dt → Bool} {f : α → Dt} {G : α → Prop} (g : ∀ d, p d = true → ∃ a, d = f a ∧ G a) : ∀ {ds : List Dt}, ds.all p = true → ∃ as : List α, ds = as.map f ∧ ∀ a ∈ as, G a
  | [], _ => ⟨[], rfl, by simp⟩
  | d :: ds, h => by
    rw [List.all_cons, Bool.and_eq_true] at h
    obtain ⟨a, rfl, ga⟩ := g d h.1
    obtain ⟨as, rfl, gas⟩ := all_of g h.2
    exact ⟨a :: as, rfl, fun b hb => by
      rcases List.mem_cons.mp hb with rfl | hb
      · exact ga
      · exact gas b hb⟩
def BkG (b : Blk) : Prop := ∀ r ∈ b.1, RwG r
theorem block_of {d : Dt} (h : isBlockD d = true) : ∃ b : Blk, d = bdt b ∧ BkG b := by
  unfold isBlockD at h
  split at h
  · rename_i rs e
    rw [Bool.and_eq_true] at h
    obtain ⟨as, rfl, g⟩ := all_of (fun d z => row_of z) h.1
    obtain ⟨e, rfl⟩ := end_of h.2
    exact ⟨(as, e), rfl, g⟩
  · cases h
theorem written_of {d : Dt} (h : isWrittenD d = true) : ∃ pr : List Blk, d = pdt pr ∧ pr ≠ [] ∧ ∀ b ∈ pr, BkG b := by
  cases d with
  | lst bs =>
    have h : (!bs.isEmpty && bs.all isBlockD) = true := h
    rw [Bool.and_eq_true] at h
    obtain ⟨as, rfl, g⟩ := all_of (fun d z => block_of z) h.2
    refine ⟨as, rfl, fun z => ?_, g⟩
    subst z
    cases h.1
  | _ => cases h
end Gn
set_option Elab.async false
set_option linter.all false
set_option maxRecDepth 100000
set_option maxHeartbeats 4000000
namespace Gn
open PySem PySem.Spec PyProof.Rows L2
def En.kds : En → List Str
  | .go _ => ["block"] | .iff _ _ _ => ["row", "block", "block"] | .fin => []
def En.vs : En → List V
  | .go b => [.int b] | .iff r b c => [.int r, .int b, .int c] | .fin => []
theorem en_kds (e : En) : endKd e.word = some e.kds := by cases e <;> rfl
theorem en_vs {K : PySem.W.Frag} {H : Hp} {xs : List V} {e : En} (h : DtAll K H xs e.ps) : xs = e.vs := by
  cases e with
  | go b => exact ints_at (ps := [b]) h
  | iff r b c => exact ints_at (ps := [r, b, c]) h
  | fin => exact ints_at (ps := []) h
def spNamed (K : PySem.W.Frag) : Sp := fun vs H Q _ => ∃ (v : V) (e : En), vs = [v] ∧ EnAt K H v e ∧
  ∀ (p : Addr) (H' : Hp), H p = none → Same H H' → H' p = some (.lst (e.nmI.map V.int)) → Q (.ref p) H'
abbrev nNamed : List Str := ["end", "kind", "part"]
theorem scNamed : FnScope nNamed ["end"] (defScope sNamed) := ⟨rfl, rfl, rfl, by decide +kernel, rfl, by decide +kernel, by decide +kernel⟩
def sel : List V → List V → Nat → List V
  | _, _, 0 => []
  | ks, ps, i + 1 => sel ks ps i ++ (if ks.getD i .non = .str "block" then [ps.getD i .non] else [])
section
variable {P : Program} {w : World} {K : PySem.W.Frag} {mg : Str → Option Value} {base : Heap}
theorem ok_named {f dR dE : Addr} {fd : FuncData} {k : Nat} (D : Df K mg "blocks_named" sNamed ["end"] f fd) (B : Bi mg) (T : TbD K w mg dR dE) : FnOk P w K mg base CX0 (k + 1) f fd ["end"] (spNamed K) := by
  refine D.F.ok scNamed (fun vs H Q E h => ?_) (fun cdv A outer s H vs Q E hr h => ?_)
  · obtain ⟨v, e, rfl, _⟩ := h
    rfl
  · obtain ⟨v, e, rfl, he, q⟩ := h
    refine ⟨_, pss_one (ps_ret (pe_lc (own := [("kind", 1), ("part", 2)]) (g := gTup K 2 (gCons (gName 1) (gCons (gName 2) gNil))) (tt := tTest (tOp rEq (tVar 1) (tC (.str "block")))) (te := tVar 2) rfl scNamed.nd
      (RZ.pi_zipA (by rfl) B.zip (pa_cons (pe_ix ix_kdict (pe_glob (v := .ref dE) (by rfl) T.mgE rfl) (pe_ix ix_tup (pv 0) pe_int (fun _ _ => rfl)) (fun _ _ => rfl)) (pa_cons (pe_slice sl_tup (pv 0) (po_some pe_int) po_none) pa_nil)))
      (blkOk_by (own := [("kind", 1), ("part", 2)]) (N := nNamed) (sc := defScope sNamed) (by decide +kernel))
      (fun _ _ _ _ _ => pg_tup rfl (pgs_cons (pg_name (i := 1) scNamed.nd rfl (.inl rfl)) (pgs_cons (pg_name (i := 2) scNamed.nd rfl (.inl rfl)) pgs_nil)))
      (fun _ _ _ _ _ => pts_one (pt_cmpR op_eq (pv 1) pe_str (nomark _))) (fun _ _ _ _ _ => pv 2))), ?_⟩
    obtain ⟨p, xs, rfl, hp, hxs⟩ := he.at
    have hxe := en_vs hxs
    subst hxe
    obtain ⟨gg, kd1, kd2⟩ := T.end_ _ _ (en_kds e)
    generalize hek : e.kds.map V.str = ek at kd2
    have hll : ek.length = e.vs.length := by rw [← hek]; cases e <;> rfl
    refine ⟨_, rfl, p, _, _, _, rfl, rfl, hp, atI_nat (j := 0) rfl, dE, e.word, .ref gg, rfl, rfl, kd1, .ref p, rfl, 1, rfl, p, _, rfl, hp, cut_not _ _, fun S nS => ?_⟩
    rw [cut_one]
    refine ⟨gg, S, ek, e.vs, rfl, .inr ⟨kd2 _, sqT upd_same, fun L nL => ?_⟩⟩
    have sS := new_same (o := .tup e.vs) nS
    have eS : upd H S (.tup e.vs) S = some (.tup e.vs) := upd_same
    generalize hH1 : upd H S (.tup e.vs) = H1 at sS eS nL
    have hk3 : e.vs.length ≤ 3 := by cases e <;> simp [En.vs]
    refine lc_it (walk_zt hll) (fun i H2 => Same H1 H2 ∧ ∃ zs, H2 L = some (.lst zs) ∧ zs = sel ek e.vs i ∧ zs.length ≤ i) ⟨new_same nL, [], upd_same, rfl, Nat.le_refl _⟩ (fun i H2 _ hP => ⟨kd2 _, sqT (hP.1 _ _ eS)⟩) (fun i x H2 H3 hi hP hY => ?_) (fun H2 hP => ?_)
    · obtain ⟨s2, zs, eL, hz, hzl⟩ := hP
      obtain ⟨T, x1, x2, rfl, nT, rfl, e1, e2⟩ := hY
      have e1 : ek[i]? = some x1 := e1
      have e2 : e.vs[i]? = some x2 := e2
      have sT := new_same (o := .tup [x1, x2]) nT
      have sc : scal x1 (.str "block") = true := by
        have hm := List.mem_of_getElem? e1
        rw [← hek] at hm
        obtain ⟨s, _, rfl⟩ := List.mem_map.mp hm
        rfl
      have es : sel ek e.vs (i + 1) = zs ++ (if x1 = .str "block" then [x2] else []) := by
        show sel ek e.vs i ++ _ = _
        rw [gd e1, gd e2, ← hz]
      refine ⟨T, _, rfl, sqT upd_same, rfl, _, _, rfl, _, _, rfl, rfl, rfl, _, rfl, sc, _, rfl, ite2 (fun h => ?_) (fun h => ?_)⟩
      · have h1 : x1 = .str "block" := of_decide_eq_true h
        rw [if_pos h1] at es
        refine ⟨_, rfl, zs, sT _ _ eL, szt (by omega), fun a o z => ?_, _, upd_same, es.symm, ?_⟩
        · rw [upd_ne (ne_of_none z nL)]; exact sT _ _ (s2 _ _ z)
        · rw [List.length_append, List.length_singleton]; omega
      · have h1 : ¬ x1 = .str "block" := fun z => h (decide_eq_true z)
        rw [if_neg h1, List.append_nil] at es
        exact ⟨s2.trans sT, zs, sT _ _ eL, es.symm, by omega⟩
    · obtain ⟨s2, zs, eL, hz, hzl⟩ := hP
      have ez : zs = e.nmI.map V.int := by
        rw [hz, ← hek]
        cases e <;> rfl
      rw [ez] at eL
      exact q L H2 (sS.free nL) (sS.trans s2) eL
end
end Gn
set_option Elab.async false
set_option linter.all false
set_option maxRecDepth 100000
set_option maxHeartbeats 4000000
namespace Gn
open PySem PySem.Spec PyProof.Rows L2
/-! ### a list of lists that grow -/
/-- at lp: m lists, unlike ones, the n-th holds f n; all new -/
structure LL (H H1 : Hp) (lp : Addr) (m : Nat) (qs : List Addr) (f : Nat → List Nat) : Prop where
  top : H1 lp = some (.lst (qs.map V.ref))
  nd : (lp :: qs).Nodup
  len : qs.length = m
  new : ∀ q ∈ lp :: qs, H q = none
  at_ : ∀ n q, qs[n]? = some q → H1 q = some (.lst ((f n).map iv))
theorem LL.same {H H1 H2 : Hp} {lp : Addr} {m : Nat} {qs : List Addr} {f : Nat → List Nat} (h : LL H H1 lp m qs f) (e : Same H1 H2) : LL H H2 lp m qs f :=
  ⟨e _ _ h.top, h.nd, h.len, h.new, fun n q z => e _ _ (h.at_ n q z)⟩
theorem LL.ext {H H1 : Hp} {lp : Addr} {m : Nat} {qs : List Addr} {f g : Nat → List Nat} (h : LL H H1 lp m qs f) (e : ∀ n, n < m → f n = g n) : LL H H1 lp m qs g :=
  ⟨h.top, h.nd, h.len, h.new, fun n q z => by
    have := (List.getElem?_eq_some_iff.mp z).1
    rw [← e n (by rw [← h.len]; exact this)]
    exact h.at_ n q z⟩
theorem LL.app {H H1 : Hp} {lp : Addr} {m : Nat} {qs : List Addr} {f : Nat → List Nat} {n i : Nat} {q : Addr} (h : LL H H1 lp m qs f) (hq : qs[n]? = some q) :
    LL H (upd H1 q (.lst ((f n).map iv ++ [iv i]))) lp m qs (fun k => if k = n then f n ++ [i] else f k) := by
  have hn := h.nd
  rw [List.nodup_cons] at hn
  have hqm := List.mem_of_getElem? hq
  refine ⟨?_, h.nd, h.len, h.new, fun k q' hk => ?_⟩
  · rw [upd_ne (fun z : lp = q => hn.1 (z ▸ hqm))]
    exact h.top
  · by_cases hkn : k = n
    · subst hkn
      have : q' = q := Option.some.inj (hk.symm.trans hq)
      subst this
      rw [upd_same, if_pos rfl, List.map_append]
      rfl
    · rw [if_neg hkn, upd_ne (fun z : q' = q => hkn (nd_ix hn.2 hk (z.symm ▸ hq)))]
      exact h.at_ k q' hk
theorem LL.frame {H H1 : Hp} {lp : Addr} {m : Nat} {qs : List Addr} {f : Nat → List Nat} {n : Nat} {q : Addr} {o : HO} (h : LL H H1 lp m qs f) (hq : qs[n]? = some q) (s : Same H H1) : Same H (upd H1 q o) := fun a u e => by
  rw [upd_ne (ne_of_none e (h.new q (List.mem_cons_of_mem _ (List.mem_of_getElem? hq))))]
  exact s a u e
/-- how often a number is among a block's names, in order -/
def spec (pr : List Blk) (i n : Nat) : List Nat := (List.range i).flatMap fun j => List.replicate (((pr.getD j ([], .fin)).2.names).count n) j
theorem spec_succ (pr : List Blk) (i n : Nat) : spec pr (i + 1) n = spec pr i n ++ List.replicate (((pr.getD i ([], .fin)).2.names).count n) i := by
  unfold spec
  rw [List.range_succ, List.flatMap_append]
  simp
theorem spec_len {pr : List Blk} (h : ∀ b ∈ pr, b.2.names.length ≤ 2) (n : Nat) : ∀ i, (spec pr i n).length ≤ 2 * i
  | 0 => Nat.le_refl _
  | i + 1 => by
    rw [spec_succ, List.length_append, List.length_replicate]
    have h1 := spec_len h n i
    have h2 : ((pr.getD i ([], .fin)).2.names).count n ≤ 2 := by
      refine Nat.le_trans List.count_le_length ?_
      by_cases hi : i < pr.length
      · exact h _ (List.mem_of_getElem? (gdl (d := ([], En.fin)) hi))
      · rw [List.getD_eq_getElem?_getD, List.getElem?_eq_none (by omega)]
        exact Nat.zero_le _
    omega
theorem rep_snoc (k i : Nat) : List.replicate k i ++ [i] = List.replicate (k + 1) i := by
  rw [List.replicate_succ']
theorem count_step {xs : List Nat} {j b n : Nat} (h : xs[j]? = some b) : (xs.take (j + 1)).count n = (xs.take j).count n + (if n = b then 1 else 0) := by
  rw [List.take_add_one, h, List.count_append]
  show _ + List.count n [b] = _
  rw [List.count_singleton]
  by_cases e : n = b
  · subst e; simp
  · rw [if_neg e]
    have : (b == n) = false := by simp; exact fun z => e z.symm
    rw [this]
    rfl
/-! ### leads_of -/
def namesOk (m : Nat) (pr : List Blk) : Prop := ∀ b ∈ pr, ∀ y ∈ b.2.nmI, 0 ≤ y ∧ y < (m : Int)
theorem nm_iv {ns : List Int} (h : ∀ y ∈ ns, 0 ≤ y) : ns.map V.int = (ns.map Int.toNat).map iv := by
  rw [List.map_map]
  refine List.map_congr_left fun k hk => ?_
  show V.int k = V.int ((k.toNat : Nat) : Int)
  rw [Int.toNat_of_nonneg (h k hk)]
theorem nm_lt {e : En} {m : Nat} (h : ∀ y ∈ e.nmI, 0 ≤ y ∧ y < (m : Int)) : ∀ y ∈ e.names, y < m := fun y hy => by
  obtain ⟨z, hz, rfl⟩ := List.mem_map.mp hy
  have := h z hz
  omega
theorem nm_len (e : En) : e.names.length ≤ 2 := by cases e <;> simp [En.names, En.nmI]
def spLeadsOf (K : PySem.W.Frag) : Sp := fun vs H Q _ => ∃ (v : V) (pr : List Blk), vs = [v] ∧ ProgAt K H v pr ∧ pr.length ≤ 1000 ∧ namesOk pr.length pr ∧ (∀ b ∈ pr, b.2.names.length ≤ 2) ∧
  ∀ (lp : Addr) (qs : List Addr) (H' : Hp), Same H H' → LL H H' lp pr.length qs (spec pr pr.length) → Q (.ref lp) H'
abbrev nLeadsOf : List Str := ["program", "leads", "block", "rows", "end", "named"]
theorem scLeadsOf : FnScope nLeadsOf ["program"] (defScope sLeadsOf) := ⟨rfl, rfl, rfl, by decide +kernel, rfl, by decide +kernel, by decide +kernel⟩
theorem nd_snoc {α : Type} {l : List α} {a : α} (h : l.Nodup) (n : a ∉ l) : (l ++ [a]).Nodup := by
  rw [List.nodup_append]
  exact ⟨h, by simp, fun x hx y hy z => by rw [List.mem_singleton.mp hy] at z; exact n (z ▸ hx)⟩
section
variable {P : Program} {w : World} {K : PySem.W.Frag} {mg : Str → Option Value} {base : Heap}
theorem ok_leadsOf {f fN : Addr} {fd fdN : FuncData} {k : Nat} (D : Df K mg "leads_of" sLeadsOf ["program"] f fd) (B : Bi mg) (DN : Df K mg "blocks_named" sNamed ["end"] fN fdN) (GN : FnOk P w K mg base CX0 k fN fdN ["end"] (spNamed K)) :
    FnOk P w K mg base CX0 (k + 1) f fd ["program"] (spLeadsOf K) := by
  refine D.F.ok scLeadsOf (fun vs H Q E h => ?_) (fun cdv A outer s H vs Q E hr h => ?_)
  · obtain ⟨v, pr, rfl, _⟩ := h
    rfl
  · obtain ⟨v, pr, rfl, ⟨p, bs, rfl, hp, hbs⟩, hl, hno, hn2, q⟩ := h
    have hbl : bs.length = pr.length := pd_len hbs
    refine ⟨_, pss_cons (ps_setLc (i := 1) (own := [("block", 2)]) (g := gName 2) (tt := tYes) (te := tLst tNil) (by rfl) scLeadsOf.nd rfl rfl (sw_true rfl rfl rfl (by decide +kernel)) (pi_list (pv 0)) (blkOk_by (own := [("block", 2)]) (N := nLeadsOf) (sc := defScope sLeadsOf) (by decide +kernel))
        (fun _ _ _ _ _ => pg_name (i := 2) scLeadsOf.nd rfl (.inl rfl)) (fun _ _ _ _ _ => pts_nil) (fun _ _ _ _ _ => pe_lst pa_nil))
      (pss_cons (ps_for PassesOwn.never rfl (pi_enum (by rfl) B.enumerate (pa_cons (pv 0) pa_nil)) (pg_tup rfl (pgs_cons (pg_name (i := 2) scLeadsOf.nd rfl (.inl rfl)) (pgs_cons (pg_tup rfl (pgs_cons (pg_name (i := 3) scLeadsOf.nd rfl (.inl rfl)) (pgs_cons (pg_name (i := 4) scLeadsOf.nd rfl (.inl rfl)) pgs_nil))) pgs_nil)))
        (pss_one (ps_for PassesOwn.never rfl (pi_list (pe_call GN hr (by rfl) DN.g DN.F.kp DN.b .nil pass0 (pa_cons (pv 4) pa_nil))) (pg_name (i := 5) scLeadsOf.nd rfl (.inl rfl))
          (pss_one (ps_expr (pe_bm PySem.F.plainAttrs_list PySem.F.slot_list_append PySem.F.type_list_append mt_append (pe_ix ix_list (pv 1) (pv 5) (fun _ _ => rfl)) (pa_cons (pv 2) pa_nil)))))))
      (pss_one (ps_ret (pv 1)))), ?_⟩
    refine ⟨.ref p, rfl, p, rfl, ⟨_, hp⟩, fun lp nlp => ?_⟩
    refine lc_list (K := K) (a := p) (xs := bs) (fun i H1 => Same H H1 ∧ ∃ qs, LL H H1 lp i qs (fun _ => [])) ⟨new_same nlp, [], ⟨upd_same, by simp, rfl, fun q hq => by rw [List.mem_singleton.mp hq]; exact nlp, fun n q e => by simp at e⟩⟩ (fun i H1 _ hP => hP.1.seq hp) (fun i x H1 hx hP => ?_) (fun H1 hP => ?_)
    · obtain ⟨s1, qs, L1⟩ := hP
      have hil := (List.getElem?_eq_some_iff.mp hx).1
      refine ⟨rfl, Nat.zero_le _, fun b nb => ?_⟩
      have sB := new_same (o := .lst []) nb
      have L2' := L1.same sB
      have nbl : ∀ q ∈ lp :: qs, q ≠ b := fun q hq z => by
        rcases List.mem_cons.mp hq with rfl | hq
        · have := L1.top
          rw [z, nb] at this
          cases this
        · obtain ⟨n, hn⟩ := List.mem_iff_getElem?.mp hq
          have := L1.at_ n q hn
          rw [z, nb] at this
          cases this
      have hb0 : H b = none := s1.free nb
      refine ⟨_, L2'.top, by rw [List.length_map, L1.len]; exact szt (by omega), fun a o e => ?_, qs ++ [b], ?_⟩
      · rw [upd_ne (ne_of_none e nlp)]
        exact sB _ _ (s1 _ _ e)
      · refine ⟨by rw [upd_same, List.map_append]; rfl, ?_, by rw [List.length_append, List.length_singleton, L1.len], fun q hq => ?_, fun n q hn => ?_⟩
        · show ((lp :: qs) ++ [b]).Nodup
          exact nd_snoc L1.nd fun hm => nbl b hm rfl
        · have hq' : q ∈ (lp :: qs) ++ [b] := hq
          rcases List.mem_append.mp hq' with h | h
          · exact L1.new q h
          · rw [List.mem_singleton.mp h]; exact hb0
        · have nlb : b ≠ lp := (nbl lp List.mem_cons_self).symm
          by_cases hn2' : n < qs.length
          · rw [List.getElem?_append_left hn2'] at hn
            have hqm := List.mem_of_getElem? hn
            have hnd := L1.nd
            rw [List.nodup_cons] at hnd
            rw [upd_ne (fun z : q = lp => hnd.1 (z ▸ hqm))]
            exact L2'.at_ n q hn
          · rw [List.getElem?_append_right (by omega)] at hn
            have hm := List.mem_singleton.mp (List.mem_of_getElem? hn)
            subst hm
            rw [upd_ne nlb, upd_same]
            rfl
    · obtain ⟨s1, qs, L1⟩ := hP
      rw [hbl] at L1
      refine ⟨.ref p, rfl, p, bs, rfl, s1.seq hp, ?_⟩
      refine for_it (walk_enum (xs := bs)) (fun i σ H2 => ∃ (y2 y3 y4 y5 : Option V), σ = [some (.ref p), some (.ref lp), y2, y3, y4, y5] ∧ Same H H2 ∧ LL H H2 lp pr.length qs (spec pr i)) ⟨_, _, _, _, rfl, s1, L1⟩ (fun i σ H2 _ hP => ?_) (fun i x σ H2 H3 hi hP hY => ?_) (fun σ H2 hP => ?_)
      · obtain ⟨_, _, _, _, _, s2, _⟩ := hP
        exact s2.seq hp
      · obtain ⟨y2, y3, y4, y5, rfl, s2, L2'⟩ := hP
        obtain ⟨T, x1, x2, rfl, nT, rfl, e1, e2⟩ := hY
        cases e1
        have e2 : bs[i]? = some x2 := e2
        obtain ⟨bk, hb1, hb2⟩ := pd_at2 hbs e2
        have sT := new_same (o := .tup [.int (i : Nat), x2]) nT
        have s3 := s2.trans sT
        obtain ⟨pb, ra, ea, vs, rfl, h2, h3, h4, h5⟩ := hb2.same s3
        refine ⟨T, _, rfl, sqT upd_same, rfl, _, _, rfl, _, _, rfl, pb, _, rfl, h2, rfl, _, _, rfl, _, _, rfl, rfl, rfl, ?_⟩
        have L3 := L2'.same sT
        generalize upd H2 T (.tup [.int (i : Nat), .ref pb]) = H3 at s3 L3 h5
        refine ⟨ea, rfl, ea, bk.2, rfl, h5, fun np H4 nnp s4 enp0 => ?_⟩
        have enp : H4 np = some (.lst (bk.2.names.map iv)) := by
          rw [enp0, nm_iv fun y hy => (hno bk (List.mem_of_getElem? hb1) y hy).1]
          rfl
        refine ⟨np, rfl, ⟨_, sqL enp⟩, ?_⟩
        have L4 := L3.same s4
        have s5 := s3.trans s4
        have hnp : ∀ q ∈ lp :: qs, q ≠ np := fun q hq z => by
          rcases List.mem_cons.mp hq with rfl | hq
          · have := L3.top
            rw [z, nnp] at this; cases this
          · obtain ⟨n, hn⟩ := List.mem_iff_getElem?.mp hq
            have := L3.at_ n q hn
            rw [z, nnp] at this
            cases this
        have hbm := List.mem_of_getElem? hb1
        have hnm := nm_lt (hno bk hbm)
        have hn2' := hn2 bk hbm
        have hpd : pr.getD i ([], .fin) = bk := gd hb1
        refine for_list (K := K) (a := np) (xs := bk.2.names.map iv) (fun j σ H5 => ∃ (y3 y4 y5 : Option V), σ = [some (.ref p), some (.ref lp), some (iv i), y3, y4, y5] ∧ Same H H5 ∧ H5 np = some (.lst (bk.2.names.map iv)) ∧ LL H H5 lp pr.length qs (fun n => spec pr i n ++ List.replicate ((bk.2.names.take j).count n) i))
          ⟨_, _, _, rfl, s5, enp, L4.ext fun n _ => by simp⟩ (fun j σ H5 _ hP => ?_) (fun j x σ H5 hx hP => ?_) (fun σ H5 hP => ?_)
        · obtain ⟨_, _, _, _, _, h, _⟩ := hP
          exact sqL h
        · obtain ⟨z3, z4, z5, rfl, s6, enp6, L5⟩ := hP
          rw [List.getElem?_map] at hx
          obtain ⟨b, hb, rfl⟩ := Option.map_eq_some_iff.mp hx
          have hbm2 := hnm b (List.mem_of_getElem? hb)
          have hbq : b < qs.length := by rw [L5.len]; exact hbm2
          have hq := List.getElem?_eq_getElem hbq
          have eq5 := L5.at_ b _ hq
          have hjl := (List.getElem?_eq_some_iff.mp hb).1
          have hsz : (spec pr i b ++ List.replicate ((bk.2.names.take j).count b) i).length ≤ 100000 := by
            rw [List.length_append, List.length_replicate]
            have h1 := spec_len hn2 b i
            have h2 : (bk.2.names.take j).count b ≤ 2 := Nat.le_trans List.count_le_length (Nat.le_trans (List.length_take_le _ _) (by omega))
            omega
          refine ⟨.ref lp, rfl, _, rfl, lp, _, _, .ref qs[b], rfl, rfl, sqL L5.top, atI_nat (by rw [List.getElem?_map, hq]; rfl), .inl ⟨rfl, _, sqL eq5⟩, _, rfl, qs[b], _, _, rfl, rfl, eq5, by rw [List.length_map]; exact szt (by omega), ?_⟩
          refine ⟨_, _, _, rfl, L5.frame hq s6, ?_, (L5.app (i := i) hq).ext fun n _ => ?_⟩
          · rw [upd_ne (hnp _ (List.mem_cons_of_mem _ (List.getElem_mem hbq))).symm]
            exact enp6
          · rw [count_step hb]
            by_cases e : n = b
            · subst e
              rw [if_pos rfl, if_pos rfl, List.append_assoc, rep_snoc]
            · rw [if_neg e, if_neg e, Nat.add_zero]
        · obtain ⟨z3, z4, z5, rfl, s6, enp6, L5⟩ := hP
          refine ⟨_, _, _, _, rfl, s6, L5.ext fun n _ => ?_⟩
          rw [spec_succ, hpd, List.length_map, List.take_length]
      · obtain ⟨y2, y3, y4, y5, rfl, s2, L2'⟩ := hP
        rw [hbl] at L2'
        exact ⟨.ref lp, rfl, q lp qs H2 s2 L2'⟩
end
end Gn
set_option Elab.async false
set_option linter.all false
set_option maxRecDepth 100000
set_option maxHeartbeats 4000000
namespace Gn
open PySem PySem.Spec PyProof.Rows L2
theorem ixN_nat {n j : Nat} (h : j < n) : ixN n (j : Int) = some j := by
  unfold ixN
  rw [if_pos (by omega), if_pos (by omega), Int.toNat_natCast]
def Ex (nx : List (List Nat)) (a : Nat) : List Nat := nx.getD a []
theorem Ex.at {nx : List (List Nat)} {a : Nat} (h : a < nx.length) : Ex nx a = nx[a] := by
  unfold Ex
  rw [List.getD_eq_getElem?_getD, List.getElem?_eq_getElem h]
  rfl
def NxE (m : Nat) (xs : List Nat) : Prop := xs.length ≤ 2 ∧ xs.Nodup ∧ ∀ y ∈ xs, 1 ≤ y ∧ y < m
/-- each number from 1 on is in a lesser one's list -/
def LedX (m : Nat) (nx : List (List Nat)) : Prop := ∀ b, 1 ≤ b → b < m → ∃ j xs, j < b ∧ nx[j]? = some xs ∧ b ∈ xs
/-- what the ends name -/
def NxOk (m : Nat) (nx : List (List Nat)) : Prop := nx.length = m ∧ (∀ xs ∈ nx, NxE m xs) ∧ LedX m nx
/-! ### common_above -/
def Nf (ns : List Nat) (b : Nat) : Nat := ns.getD b 0
theorem Nf.at {ns : List Nat} {b : Nat} (h : b < ns.length) : (ns.map iv)[b]? = some (iv (Nf ns b)) := by
  unfold Nf
  rw [List.getElem?_map, List.getD_eq_getElem?_getD, List.getElem?_eq_getElem h]
  rfl
def spCommon (K : PySem.W.Frag) : Sp := fun vs H Q _ => ∃ (na ba : Addr) (ns : List Nat) (l0 : Nat) (ls : List Nat), vs = [.ref na, .ref ba] ∧ SqL K H na (ns.map iv) ∧ SqL K H ba ((l0 :: ls).map iv) ∧
  Dn ns.length (Nf ns) ∧ (∀ y ∈ l0 :: ls, y < ns.length) ∧ ∀ (e : Nat) (H' : Hp), Same H H' → LcaL (Nf ns) l0 ls e → Q (iv e) H'
abbrev nCommon : List Str := ["nearest", "blocks", "common", "block", "other"]
theorem scCommon : FnScope nCommon ["nearest", "blocks"] (defScope sCommon) := ⟨rfl, rfl, rfl, by decide +kernel, rfl, by decide +kernel, by decide +kernel⟩
theorem iv_ne {a b : Nat} : (!decide (iv a = iv b)) = !decide (a = b) := by
  have h : decide (iv a = iv b) = decide (a = b) := decide_eq_decide.mpr ⟨fun e => by have := V.int.inj e; omega, fun e => by rw [e]⟩
  rw [h]
section
variable {P : Program} {w : World} {K : PySem.W.Frag} {mg : Str → Option Value} {base : Heap}
theorem ok_common {f : Addr} {fd : FuncData} {k : Nat} (D : Df K mg "common_above" sCommon ["nearest", "blocks"] f fd) (B : Bi mg) : FnOk P w K mg base CX0 (k + 1) f fd ["nearest", "blocks"] (spCommon K) := by
  refine D.F.ok scCommon (fun vs H Q E h => ?_) (fun cdv A outer s H vs Q E hr h => ?_)
  · obtain ⟨na, ba, ns, l0, ls, rfl, _⟩ := h
    rfl
  · obtain ⟨na, ba, ns, l0, ls, rfl, hna, hba, hN, hlt, q⟩ := h
    refine ⟨_, pss_cons (ps_set (i := 2) scCommon.nd rfl (.inl rfl) (pe_ix ix_list (pv 1) pe_int (fun _ _ => rfl)))
      (pss_cons (ps_for PassesOwn.never rfl (pi_list (pe_slice sl_list (pv 1) (po_some pe_int) po_none)) (pg_name (i := 3) scCommon.nd rfl (.inl rfl))
        (pss_cons (ps_set (i := 4) scCommon.nd rfl (.inl rfl) (pv 3))
        (pss_one (ps_while PassesOwn.never (pt_cmpR op_ne (pv 2) (pv 4) (nomark _))
          (pss_one (ps_if (pt_cmpR op_gt (pv 2) (pv 4) (nomark _))
            (pss_one (ps_set (i := 2) scCommon.nd rfl (.inl rfl) (pe_ix ix_list (pv 0) (pv 2) (fun _ _ => rfl))))
            (pss_one (ps_set (i := 4) scCommon.nd rfl (.inl rfl) (pe_ix ix_list (pv 0) (pv 4) (fun _ _ => rfl))))))))))
      (pss_one (ps_ret (pv 2)))), ?_⟩
    refine ⟨.ref ba, rfl, ba, _, _, iv l0, rfl, rfl, hba, atI_nat (j := 0) rfl, ?_⟩
    refine ⟨.ref ba, rfl, 1, rfl, ba, _, rfl, hba, fun S nS => ⟨S, rfl, ⟨_, sqL upd_same⟩, ?_⟩⟩
    have ec : cutV ((l0 :: ls).map iv) (some 1) none = ls.map iv := cut_one _ _
    rw [ec]
    have sS := new_same (o := .lst (ls.map iv)) nS
    have eS : upd H S (.lst (ls.map iv)) S = some (.lst (ls.map iv)) := upd_same
    generalize upd H S (.lst (ls.map iv)) = H1 at sS eS
    refine for_list (K := K) (a := S) (xs := ls.map iv) (fun j σ H2 => ∃ (y3 y4 : Option V) (co : Nat), σ = [some (.ref na), some (.ref ba), some (iv co), y3, y4] ∧ H2 = H1 ∧ co < ns.length ∧ ∀ e, LcaL (Nf ns) co (ls.drop j) e → LcaL (Nf ns) l0 ls e)
      ⟨none, none, l0, rfl, rfl, hlt l0 List.mem_cons_self, fun e h => h⟩ (fun j σ H2 _ hP => ?_) (fun j x σ H2 hx hP => ?_) (fun σ H2 hP => ?_)
    · obtain ⟨_, _, _, _, rfl, _⟩ := hP
      exact sqL eS
    · obtain ⟨y3, y4, co, rfl, rfl, hco, hL⟩ := hP
      rw [List.getElem?_map] at hx
      obtain ⟨b, hb, rfl⟩ := Option.map_eq_some_iff.mp hx
      have hbl : b < ns.length := hlt b (List.mem_cons_of_mem _ (List.mem_of_getElem? hb))
      have hjl := (List.getElem?_eq_some_iff.mp hb).1
      have hdr : ls.drop j = b :: ls.drop (j + 1) := by
        rw [List.drop_eq_getElem_cons hjl, (List.getElem?_eq_some_iff.mp hb).2]
      refine ⟨_, rfl, fun m σ H3 => ∃ c o : Nat, σ = [some (.ref na), some (.ref ba), some (iv c), some (iv b), some (iv o)] ∧ H3 = H2 ∧ m = c + o ∧ c < ns.length ∧ o < ns.length ∧ ∀ e, Lca (Nf ns) c o e → Lca (Nf ns) co b e, ⟨_, co, b, rfl, rfl, rfl, hco, hbl, fun e h => h⟩, fun m σ H3 hW => ?_⟩
      obtain ⟨c, o, rfl, rfl, rfl, hc, ho, hl⟩ := hW
      refine ⟨_, rfl, _, rfl, rfl, _, rfl, ?_⟩
      show if (!decide (iv c = iv o)) = true then _ else _
      rw [iv_ne]
      by_cases hco2 : c = o
      · rw [if_neg (by rw [decide_eq_true hco2]; decide)]
        subst hco2
        exact ⟨_, _, c, rfl, rfl, hc, fun e h => hL e (by rw [hdr]; exact .c (hl c .e) h)⟩
      · rw [if_pos (by rw [decide_eq_false hco2]; rfl)]
        refine ⟨fun σ' H' => ∃ m', m' < c + o ∧ ∃ c o : Nat, σ' = [some (.ref na), some (.ref ba), some (iv c), some (iv b), some (iv o)] ∧ H' = H3 ∧ m' = c + o ∧ c < ns.length ∧ o < ns.length ∧ ∀ e, Lca (Nf ns) c o e → Lca (Nf ns) co b e, fun σ' H' h => h, ?_⟩
        refine ⟨_, rfl, _, rfl, _, _, rfl, rfl, _, rfl, ite2 (fun e => ?_) (fun e => ?_)⟩
        · have hgt : (c : Int) > (o : Int) := of_decide_eq_true e
          have h1 := hN c (by omega) hc
          refine ⟨.ref na, rfl, _, rfl, na, _, _, iv (Nf ns c), rfl, rfl, sS.seq hna, atI_nat (Nf.at hc), ?_⟩
          exact ⟨Nf ns c + o, by omega, Nf ns c, o, rfl, rfl, rfl, by omega, ho, fun e h => hl e (.l (by omega) h)⟩
        · have hgt : ¬ (c : Int) > (o : Int) := fun z => e (decide_eq_true z)
          have h1 := hN o (by omega) ho
          refine ⟨.ref na, rfl, _, rfl, na, _, _, iv (Nf ns o), rfl, rfl, sS.seq hna, atI_nat (Nf.at ho), ?_⟩
          exact ⟨c + Nf ns o, by omega, c, Nf ns o, rfl, rfl, rfl, hc, by omega, fun e h => hl e (.r (by omega) h)⟩
    · obtain ⟨y3, y4, co, rfl, rfl, hco, hL⟩ := hP
      rw [List.length_map, List.drop_length] at hL
      exact ⟨_, rfl, q co H2 sS (hL co .n)⟩
end
end Gn
set_option Elab.async false
set_option linter.all false
set_option maxRecDepth 100000
set_option maxHeartbeats 4000000
namespace Gn
open PySem PySem.Spec PyProof.Rows L2
/-! ### brought_nearer -/
structure Gr (m : Nat) (E : Nat → List Nat) (lds : List (List Nat)) : Prop where
  pos : 0 < m
  len : lds.length = m
  le : m ≤ 1000
  inE : ∀ a, ∀ b ∈ E a, b < m
  ofE : ∀ a, E a ≠ [] → a < m
  noZ : ∀ a, 0 ∉ E a
  led : Led m E
  ld : ∀ b, b < m → IsLd m E b (lds.getD b [])
structure Nw (m : Nat) (E : Nat → List Nat) (n : Nat) (ns : List Nat) : Prop where
  len : ns.length = m
  dn : Dn m (Nf ns)
  bet : Bet m E (Nf ns)
  kd : Kd m E (Nf ns) n
theorem Nf.set {ns : List Nat} {b e : Nat} (h : b < ns.length) (c : Nat) : Nf (ns.set b e) c = if c = b then e else Nf ns c := by
  unfold Nf
  rw [List.getD_eq_getElem?_getD, List.getElem?_set, List.getD_eq_getElem?_getD]
  by_cases hc : c = b
  · subst hc
    rw [if_pos rfl, if_pos rfl, if_pos h]
    rfl
  · rw [if_neg (fun z : b = c => hc z.symm), if_neg hc]
theorem Nw.set {m n : Nat} {E : Nat → List Nat} {lds : List (List Nat)} {ns : List Nat} (g : Gr m E lds) (h : Nw m E n ns) {b e : Nat} (h0 : 0 < b) (hb : b < m) (hl : LcaB (Nf ns) (lds.getD b []) e) : Nw m E n (ns.set b e) ∧ ¬ Rn E e (n + 1) b := by
  have hbl : b < ns.length := by rw [h.len]; exact hb
  have k1 := step_kd g.ofE h.dn h.kd h0 (g.ld b hb) hl
  refine ⟨⟨by rw [List.length_set, h.len], fun c c0 hc => ?_, fun c x c0 hc hd hx => ?_, fun c c0 hc => ?_⟩, k1⟩
  · rw [Nf.set hbl]
    by_cases e1 : c = b
    · rw [if_pos e1, e1]; exact step_lt h.dn g.led h0 hb (g.ld b hb) hl
    · rw [if_neg e1]; exact h.dn c c0 hc
  · rw [Nf.set hbl]
    by_cases e1 : c = b
    · rw [if_pos e1]
      subst e1
      exact step_bet h.dn g.led h.bet (g.ld c hb) hl hd hx
    · rw [if_neg e1]; exact h.bet c x c0 hc hd hx
  · rw [Nf.set hbl]
    by_cases e1 : c = b
    · rw [if_pos e1, e1]; exact fun z => k1 (z.mono (Nat.le_succ n))
    · rw [if_neg e1]; exact h.kd c c0 hc
theorem Gr.ne {m : Nat} {E : Nat → List Nat} {lds : List (List Nat)} (g : Gr m E lds) {b : Nat} (h0 : 0 < b) (hb : b < m) : ∃ l0 ls, lds.getD b [] = l0 :: ls := by
  obtain ⟨j, hj, hbj⟩ := g.led b h0 hb
  have := (g.ld b hb j).mpr ⟨by omega, hbj⟩
  cases h : lds.getD b [] with
  | nil => rw [h] at this; cases this
  | cons l0 ls => exact ⟨l0, ls, rfl⟩
def spBrought (K : PySem.W.Frag) : Sp := fun vs H Q _ => ∃ (na lp : Addr) (I : Hp) (ns : List Nat) (lds : List (List Nat)) (m n : Nat) (E : Nat → List Nat), vs = [.ref na, .ref lp] ∧ Same I H ∧ I na = none ∧ NL K I lp lds ∧ H na = some (.lst (ns.map iv)) ∧
  Gr m E lds ∧ Nw m E n ns ∧ ∀ (c : Bool) (ns' : List Nat) (H' : Hp), But na H H' → Same I H' → H' na = some (.lst (ns'.map iv)) → Nw m E (n + 1) ns' → (c = true → n < m) →
    (c = false → ∀ b, 0 < b → b < m → LcaB (Nf ns') (lds.getD b []) (Nf ns' b)) → Q (.bl c) H'
abbrev nBrought : List Str := ["nearest", "leads", "changed", "block", "found"]
theorem scBrought : FnScope nBrought ["nearest", "leads"] (defScope sBrought) := ⟨rfl, rfl, rfl, by decide +kernel, rfl, by decide +kernel, by decide +kernel⟩
section
variable {P : Program} {w : World} {K : PySem.W.Frag} {mg : Str → Option Value} {base : Heap}
theorem ok_brought {f fC : Addr} {fd fdC : FuncData} {k : Nat} (D : Df K mg "brought_nearer" sBrought ["nearest", "leads"] f fd) (B : Bi mg)
    (DC : Df K mg "common_above" sCommon ["nearest", "blocks"] fC fdC) (GC : FnOk P w K mg base CX0 k fC fdC ["nearest", "blocks"] (spCommon K)) : FnOk P w K mg base CX0 (k + 1) f fd ["nearest", "leads"] (spBrought K) := by
  refine D.F.ok scBrought (fun vs H Q E h => ?_) (fun cdv A outer s H vs Q E hr h => ?_)
  · obtain ⟨na, lp, I, ns, lds, m, n, E', rfl, _⟩ := h
    rfl
  · obtain ⟨na, lp, I, ns, lds, m, n, E', rfl, sI, nI, hNL, hna, g, hw, q⟩ := h
    refine ⟨_, pss_cons (ps_set (i := 2) scBrought.nd rfl (.inl rfl) pe_bl)
      (pss_cons (ps_for PassesOwn.never rfl (pi_range2 (by rfl) B.range (pa_cons pe_int (pa_cons (pe_callB call_len_seq (by rfl) B.len PySem.boot_len (pa_cons (pv 1) pa_nil)) pa_nil))) (pg_name (i := 3) scBrought.nd rfl (.inl rfl))
        (pss_cons (ps_set (i := 4) scBrought.nd rfl (.inl rfl) (pe_call GC hr (by rfl) DC.g DC.F.kp DC.b .nil pass0 (pa_cons (pv 0) (pa_cons (pe_ix ix_list (pv 1) (pv 3) (fun _ _ => rfl)) pa_nil))))
        (pss_one (ps_if (pt_cmpR op_ne (pv 4) (pe_ix ix_list (pv 0) (pv 3) (fun _ _ => rfl)) (nomark _))
          (pss_cons (ps_asg (pv 4) (pg_sub (pv 0) (pv 3) set_list))
          (pss_one (ps_set (i := 2) scBrought.nd rfl (.inl rfl) pe_bl))) pss_nil))))
      (pss_one (ps_ret (pv 2)))), ?_⟩
    obtain ⟨ys, hy, hyl⟩ := (hNL.same sI).len
    have hyi : (ys.length : Int) = (m : Int) := by rw [hyl, g.len]
    have hm1 := g.pos
    have hm2 := g.le
    refine ⟨.ref lp, rfl, lp, ys, rfl, .inl hy, 1, (m : Int), by rw [hyi], ⟨by decide, by decide, by omega, by omega⟩, ?_⟩
    refine for_range (lo := 1) (n := ((m : Int) - 1).toNat) (fun i σ H1 => ∃ (c : Bool) (ns1 : List Nat) (y3 y4 : Option V), σ = [some (.ref na), some (.ref lp), some (.bl c), y3, y4] ∧ But na H H1 ∧ Same I H1 ∧ H1 na = some (.lst (ns1.map iv)) ∧
      Nw m E' n ns1 ∧ (∀ b, 0 < b → b < 1 + i → ¬ Rn E' (Nf ns1 b) (n + 1) b) ∧ (c = true → n < m) ∧ (c = false → ∀ b, 0 < b → b < 1 + i → LcaB (Nf ns1) (lds.getD b []) (Nf ns1 b)))
      ⟨false, ns, none, none, rfl, But.refl _ _, sI, hna, hw, fun b h1 h2 => (by omega), fun z => (by cases z), fun _ b h1 h2 => (by omega)⟩ (fun i σ H1 hi hP => ?_) (fun σ H1 hP => ?_)
    · obtain ⟨c, ns1, y3, y4, rfl, b1, s1, e1, w1, k1, c1, c2⟩ := hP
      have hb : 1 + i < m := by omega
      have hbl : 1 + i < ns1.length := by rw [w1.len]; exact hb
      have hld : lds[1 + i]? = some (lds.getD (1 + i) []) := by rw [List.getD_eq_getElem?_getD, List.getElem?_eq_getElem (by rw [g.len]; exact hb)]; rfl
      obtain ⟨us, qa, u1, u2, u3, u4⟩ := (hNL.same s1).at hld
      obtain ⟨l0, ls, hls⟩ := g.ne (b := 1 + i) (by omega) hb
      have hlt := (g.ld (1 + i) hb).lt
      have hbe : V.int (1 + (i : Int)) = iv (1 + i) := by
        show V.int (1 + (i : Int)) = V.int ((1 + i : Nat) : Int)
        rw [show 1 + (i : Int) = ((1 + i : Nat) : Int) by omega]
      rw [hbe]
      rw [hls] at u4
      refine ⟨.ref na, rfl, .ref lp, rfl, _, rfl, lp, us, _, _, rfl, rfl, u1, u3, na, qa, ns1, l0, ls, rfl, sqL e1, u4, by rw [w1.len]; exact w1.dn, fun y hy => by rw [w1.len]; exact hlt y (by rw [hls]; exact hy), fun e H2 s2 hL => ?_⟩
      have e2 := s2 _ _ e1
      have hLB : LcaB (Nf ns1) (lds.getD (1 + i) []) e := ⟨l0, ls, hls, hL⟩
      refine ⟨_, rfl, .ref na, rfl, _, rfl, na, _, _, _, rfl, rfl, sqL e2, atI_nat (Nf.at hbl), rfl, _, rfl, ?_⟩
      show if (!decide (iv e = iv (Nf ns1 (1 + i)))) = true then _ else _
      rw [iv_ne]
      by_cases hee : e = Nf ns1 (1 + i)
      · rw [if_neg (by rw [decide_eq_true hee]; decide)]
        subst hee
        refine ⟨c, ns1, _, _, rfl, b1.trans (Same.but s2), s1.trans s2, e2, w1, fun b h1 h2 => ?_, c1, fun hc b h1 h2 => ?_⟩
        · by_cases hbi : b < 1 + i
          · exact k1 b h1 hbi
          · have : b = 1 + i := by omega
            subst this
            exact (w1.set g h1 hb hLB).2
        · by_cases hbi : b < 1 + i
          · exact c2 hc b h1 hbi
          · have : b = 1 + i := by omega
            subst this
            exact hLB
      · rw [if_pos (by rw [decide_eq_false hee]; rfl)]
        refine ⟨_, rfl, .ref na, rfl, _, rfl, na, _, _, 1 + i, rfl, rfl, e2, ixN_nat (by rw [List.length_map]; exact hbl), ?_⟩
        have es : (ns1.map iv).set (1 + i) (iv e) = (ns1.set (1 + i) e).map iv := by rw [List.map_set]
        have hset := w1.set g (b := 1 + i) (by omega) hb hLB
        have hnm : n < m := Nat.lt_of_not_le fun z => hee (step_end g.pos g.inE g.ofE g.led w1.dn w1.bet (fun b h0 hb z2 => w1.kd b h0 hb (z2.mono z)) (by omega) hb (g.ld _ hb) hLB)
        refine ⟨true, ns1.set (1 + i) e, _, _, rfl, (b1.trans (Same.but s2)).trans But.upd, Same.upd (s1.trans s2) nI, by rw [upd_same]; rw [es], hset.1, fun b h1 h2 => ?_, fun _ => hnm, fun z => by cases z⟩
        rw [Nf.set hbl]
        by_cases hbi : b = 1 + i
        · rw [if_pos hbi, hbi]; exact hset.2
        · rw [if_neg hbi]
          exact k1 b h1 (by omega)
    · obtain ⟨c, ns1, y3, y4, rfl, b1, s1, e1, w1, k1, c1, c2⟩ := hP
      refine ⟨_, rfl, q c ns1 H1 b1 s1 e1 ⟨w1.len, w1.dn, w1.bet, fun b h1 h2 => k1 b h1 (by omega)⟩ c1 fun hc b h1 h2 => c2 hc b h1 (by omega)⟩
end
end Gn
set_option Elab.async false
set_option linter.all false
set_option maxRecDepth 100000
set_option maxHeartbeats 4000000
namespace Gn
open PySem PySem.Spec PyProof.Rows L2
/-! ### nearest_above -/
theorem Nf.snoc {ns : List Nat} {e : Nat} (c : Nat) : Nf (ns ++ [e]) c = if c = ns.length then e else Nf ns c := by
  unfold Nf
  rw [List.getD_eq_getElem?_getD, List.getD_eq_getElem?_getD]
  by_cases hc : c = ns.length
  · subst hc
    rw [if_pos rfl, List.getElem?_append_right (Nat.le_refl _), Nat.sub_self]
    rfl
  · rw [if_neg hc]
    by_cases h : c < ns.length
    · rw [List.getElem?_append_left h]
    · rw [List.getElem?_eq_none (by rw [List.length_append, List.length_singleton]; omega), List.getElem?_eq_none (by omega)]
theorem Led.mono {m k : Nat} {E : Nat → List Nat} (h : Led m E) (e : k ≤ m) : Led k E := fun b h0 hb => h b h0 (by omega)
def spNearest (K : PySem.W.Frag) : Sp := fun vs H Q _ => ∃ (lp : Addr) (lds : List (List Nat)) (m : Nat) (E : Nat → List Nat), vs = [.ref lp] ∧ NL K H lp lds ∧ Gr m E lds ∧ (∀ xs ∈ lds, xs.length ≤ 1000) ∧
  ∀ (na : Addr) (ns : List Nat) (H' : Hp), H na = none → Same H H' → H' na = some (.lst (ns.map iv)) → ns.length = m → Dn m (Nf ns) → (∀ b x, b < m → (Ch (Nf ns) x b ↔ ¬ Rc E x b)) → Q (.ref na) H'
abbrev nNearest : List Str := ["leads", "nearest", "block", "lesser", "lead"]
theorem scNearest : FnScope nNearest ["leads"] (defScope sNearest) := ⟨rfl, rfl, rfl, by decide +kernel, rfl, by decide +kernel, by decide +kernel⟩
section
variable {P : Program} {w : World} {K : PySem.W.Frag} {mg : Str → Option Value} {base : Heap}
theorem ok_nearest {f fC fB : Addr} {fd fdC fdB : FuncData} {k : Nat} (D : Df K mg "nearest_above" sNearest ["leads"] f fd) (B : Bi mg)
    (DC : Df K mg "common_above" sCommon ["nearest", "blocks"] fC fdC) (GC : FnOk P w K mg base CX0 k fC fdC ["nearest", "blocks"] (spCommon K))
    (DB : Df K mg "brought_nearer" sBrought ["nearest", "leads"] fB fdB) (GB : FnOk P w K mg base CX0 k fB fdB ["nearest", "leads"] (spBrought K)) : FnOk P w K mg base CX0 (k + 1) f fd ["leads"] (spNearest K) := by
  refine D.F.ok scNearest (fun vs H Q E h => ?_) (fun cdv A outer s H vs Q E hr h => ?_)
  · obtain ⟨lp, lds, m, E', rfl, _⟩ := h
    rfl
  · obtain ⟨lp, lds, m, E', rfl, hNL, g, hsz, q⟩ := h
    refine ⟨_, pss_cons (ps_set (i := 1) scNearest.nd rfl (.inl rfl) (pe_lst (pa_cons pe_int pa_nil)))
      (pss_cons (ps_for PassesOwn.never rfl (pi_range2 (by rfl) B.range (pa_cons pe_int (pa_cons (pe_callB call_len_seq (by rfl) B.len PySem.boot_len (pa_cons (pv 0) pa_nil)) pa_nil))) (pg_name (i := 2) scNearest.nd rfl (.inr rfl))
        (pss_cons (ps_setLc (i := 3) (own := [("lead", 4)]) (g := gName 4) (tt := tTest (tOp (rI0 fun i j => .bl (decide (i < j))) (tVar 4) (tVar 2))) (te := tVar 4) (by rfl) scNearest.nd rfl rfl (sw_true rfl rfl rfl (by decide +kernel)) (pi_list (pe_ix ix_list (pv 0) (pv 2) (fun _ _ => rfl)))
          (blkOk_by (own := [("lead", 4)]) (N := nNearest) (sc := defScope sNearest) (by decide +kernel)) (fun _ _ _ _ _ => pg_name (i := 4) scNearest.nd rfl (.inl rfl)) (fun _ _ _ _ _ => pts_one (pt_cmpR op_lt (pv 4) (pv 2) (nomark _))) (fun _ _ _ _ _ => pv 4))
        (pss_one (ps_expr (pe_bm PySem.F.plainAttrs_list PySem.F.slot_list_append PySem.F.type_list_append mt_append (pv 1) (pa_cons (pe_call GC hr (by rfl) DC.g DC.F.kp DC.b .nil pass0 (pa_cons (pv 1) (pa_cons (pv 3) pa_nil))) pa_nil))))))
      (pss_cons (ps_while PassesOwn.never (pt_val (pe_call GB hr (by rfl) DB.g DB.F.kp DB.b .nil pass0 (pa_cons (pv 1) (pa_cons (pv 0) pa_nil)))) (pss_one ps_pass))
      (pss_one (ps_ret (pv 1))))), ?_⟩
    refine ⟨szl (show 1 ≤ 1000000 by decide), fun na nna => ?_⟩
    have s0 := new_same (o := .lst [.int 0]) nna
    have e0 : upd H na (.lst [.int 0]) na = some (.lst (([0] : List Nat).map iv)) := upd_same
    generalize upd H na (.lst [.int 0]) = H0 at s0 e0
    obtain ⟨ys, hy, hyl⟩ := (hNL.same s0).len
    have hyi : (ys.length : Int) = (m : Int) := by rw [hyl, g.len]
    have hm1 := g.pos
    have hm2 := g.le
    refine ⟨.ref lp, rfl, lp, ys, rfl, .inl hy, 1, (m : Int), by rw [hyi], ⟨by decide, by decide, by omega, by omega⟩, ?_⟩
    refine for_range (lo := 1) (n := ((m : Int) - 1).toNat) (fun i σ H1 => ∃ (ns1 : List Nat) (y2 y3 y4 : Option V), σ = [some (.ref lp), some (.ref na), y2, y3, y4] ∧ Same H H1 ∧ H1 na = some (.lst (ns1.map iv)) ∧ ns1.length = 1 + i ∧ Dn (1 + i) (Nf ns1) ∧ Bet (1 + i) E' (Nf ns1))
      ⟨[0], none, none, none, rfl, s0, e0, rfl, fun b h1 h2 => (by omega), fun b x h1 h2 => (by omega)⟩ (fun i σ H1 hi hP => ?_) (fun σ H1 hP => ?_)
    · obtain ⟨ns1, y2, y3, y4, rfl, s1, e1, l1, d1, t1⟩ := hP
      have hb : 1 + i < m := by omega
      have hld : lds[1 + i]? = some (lds.getD (1 + i) []) := by rw [List.getD_eq_getElem?_getD, List.getElem?_eq_getElem (by rw [g.len]; exact hb)]; rfl
      obtain ⟨us, qa, u1, u2, u3, u4⟩ := (hNL.same s1).at hld
      have hsz1 := hsz _ (List.mem_of_getElem? hld)
      have hbe : V.int (1 + (i : Int)) = iv (1 + i) := by
        show V.int (1 + (i : Int)) = V.int ((1 + i : Nat) : Int)
        rw [show 1 + (i : Int) = ((1 + i : Nat) : Int) by omega]
      rw [hbe]
      have hIs := g.ld (1 + i) hb
      have hled := g.led (1 + i) (by omega) hb
      generalize lds.getD (1 + i) [] = ld at u4 hsz1 hIs
      refine ⟨.ref lp, rfl, _, rfl, lp, us, _, _, rfl, rfl, u1, u3, qa, rfl, ⟨_, u4⟩, fun L nL => ?_⟩
      have nLna : na ≠ L := ne_of_none e1 nL
      refine lc_list (K := K) (a := qa) (xs := ld.map iv) (fun j H2 => Same H1 H2 ∧ H2 L = some (.lst (((ld.take j).filter fun l => decide (l < 1 + i)).map iv))) ⟨new_same nL, upd_same⟩ (fun j H2 _ hP => hP.1.seq u4) (fun j x H2 hx hP => ?_) (fun H2 hP => ?_)
      · obtain ⟨s2, eL⟩ := hP
        rw [List.getElem?_map] at hx
        obtain ⟨l, hl, rfl⟩ := Option.map_eq_some_iff.mp hx
        have hjl := (List.getElem?_eq_some_iff.mp hl).1
        have htk : (ld.take (j + 1)).filter (fun l => decide (l < 1 + i)) = (ld.take j).filter (fun l => decide (l < 1 + i)) ++ (if decide (l < 1 + i) = true then [l] else []) := by
          rw [List.take_add_one, hl, List.filter_append]
          show _ ++ List.filter _ [l] = _
          rw [filt_one]
        refine ⟨rfl, _, rfl, _, rfl, _, _, rfl, rfl, _, rfl, ite2 (fun e => ?_) (fun e => ?_)⟩
        · have e2 : (l : Int) < ((1 + i : Nat) : Int) := of_decide_eq_true e
          have e3 : decide (l < 1 + i) = true := decide_eq_true (by omega)
          rw [if_pos e3] at htk
          refine ⟨_, rfl, _, eL, ?_, fun a o z => ?_, ?_⟩
          · rw [List.length_map]
            exact szt (Nat.lt_of_le_of_lt (List.length_filter_le _ _) (by rw [List.length_take]; omega))
          · rw [upd_ne (ne_of_none z nL)]
            exact s2 _ _ z
          · rw [upd_same, htk, List.map_append]
            rfl
        · have e2 : ¬ (l : Int) < ((1 + i : Nat) : Int) := fun z => e (decide_eq_true z)
          rw [if_neg (fun z => e2 (by have := of_decide_eq_true z; omega)), List.append_nil] at htk
          exact ⟨s2, by rw [htk]; exact eL⟩
      · obtain ⟨s2, eL⟩ := hP
        rw [List.length_map, List.take_length] at eL
        have hmem : ∀ a, a ∈ ld.filter (fun l => decide (l < 1 + i)) ↔ (a < 1 + i ∧ 1 + i ∈ E' a) := fun a => by
          rw [List.mem_filter, decide_eq_true_iff, hIs a]
          exact ⟨fun z => ⟨z.2, z.1.2⟩, fun z => ⟨⟨by omega, z.2⟩, z.1⟩⟩
        obtain ⟨j, hj, hbj⟩ := hled
        have hjm := (hmem j).mpr ⟨hj, hbj⟩
        generalize ld.filter (fun l => decide (l < 1 + i)) = le at eL hmem hjm
        obtain ⟨l0, ls, rfl⟩ : ∃ l0 ls, le = l0 :: ls := by
          cases le with
          | nil => cases hjm
          | cons l0 ls => exact ⟨l0, ls, rfl⟩
        have e2 := s2 _ _ e1
        refine ⟨.ref na, rfl, .inl ⟨rfl, _, sqL e2⟩, .ref na, rfl, .ref L, rfl, na, L, ns1, l0, ls, rfl, sqL e2, sqL eL, by rw [l1]; exact d1, fun y hy => by rw [l1]; exact ((hmem y).mp hy).1, fun e H3 s3 hL => ?_⟩
        have hLB : LcaB (Nf ns1) (l0 :: ls) e := ⟨l0, ls, rfl, hL⟩
        have hlt : ∀ b ∈ l0 :: ls, b < 1 + i := fun b hb => ((hmem b).mp hb).1
        have hel : e < 1 + i := Nat.lt_of_le_of_lt (hLB.le d1 hlt hjm) hj
        refine ⟨na, _, _, rfl, rfl, s3 _ _ e2, by rw [List.length_map, l1]; exact szt (by omega), ?_⟩
        refine ⟨ns1 ++ [e], _, _, _, rfl, Same.upd ((s1.trans s2).trans s3) nna, by rw [upd_same, List.map_append]; rfl, by rw [List.length_append, List.length_singleton, l1]; omega, fun b h1 h2 => ?_, fun b x h1 h2 hd hx => ?_⟩
        · rw [Nf.snoc, l1]
          by_cases hbi : b = 1 + i
          · rw [if_pos hbi, hbi]; exact hel
          · rw [if_neg hbi]; exact d1 b h1 (by omega)
        · rw [Nf.snoc, l1]
          by_cases hbi : b = 1 + i
          · rw [if_pos hbi]
            subst hbi
            exact hLB.dom d1 (g.led.mono (by omega)) t1 hlt fun a ha z => hd (.s z ((hmem a).mp ha).2 (Ne.symm hx))
          · rw [if_neg hbi]; exact t1 b x h1 (by omega) hd hx
    · obtain ⟨ns1, y2, y3, y4, rfl, s1, e1, l1, d1, t1⟩ := hP
      have hmi : 1 + ((m : Int) - 1).toNat = m := by omega
      rw [hmi] at l1 d1 t1
      have w1 : Nw m E' 0 ns1 := ⟨l1, d1, t1, fun b h1 h2 z => by cases z with | z _ => omega⟩
      refine ⟨fun mm σ H2 => ∃ (n : Nat) (ns2 : List Nat), mm = m + 1 - n ∧ n ≤ m ∧ σ = [some (.ref lp), some (.ref na), y2, y3, y4] ∧ Same H H2 ∧ H2 na = some (.lst (ns2.map iv)) ∧ Nw m E' n ns2, ⟨_, 0, ns1, rfl, Nat.zero_le _, rfl, s1, e1, w1⟩, fun mm σ H2 hW => ?_⟩
      obtain ⟨n, ns2, rfl, hn, rfl, s2, e2, w2⟩ := hW
      refine ⟨.ref na, rfl, .ref lp, rfl, na, lp, H, ns2, lds, m, n, E', rfl, s2, nna, hNL, e2, g, w2, fun c ns3 H3 b3 s3 e3 w3 c1 c2 => ⟨c, rfl, ?_⟩⟩
      cases c with
      | true =>
        have hnm := c1 rfl
        exact ⟨fun σ' H' => ∃ m', m' < m + 1 - n ∧ ∃ (n : Nat) (ns2 : List Nat), m' = m + 1 - n ∧ n ≤ m ∧ σ' = [some (.ref lp), some (.ref na), y2, y3, y4] ∧ Same H H' ∧ H' na = some (.lst (ns2.map iv)) ∧ Nw m E' n ns2, fun σ' H' h => h, ⟨m + 1 - (n + 1), by omega, n + 1, ns3, rfl, by omega, rfl, s3, e3, w3⟩⟩
      | false =>
        refine ⟨_, rfl, q na ns3 H3 nna s3 e3 w3.len w3.dn fun b x hb => ?_⟩
        exact ch_dom g.pos g.inE g.ofE g.noZ g.led w3.dn w3.bet (fun b h0 hb => ⟨_, g.ld b hb, c2 rfl b h0 hb⟩) hb
end
end Gn
set_option linter.all false
namespace Gn
/-! ### branches of the tree of nearest blocks -/
def Is (f : Nat → Nat) : Nat → Nat → Nat
  | _, 0 => 0
  | lo, n + 1 => f lo + Is f (lo + 1) n
theorem Is.snoc {f : Nat → Nat} : ∀ (n lo : Nat), Is f lo (n + 1) = Is f lo n + f (lo + n)
  | 0, lo => by simp [Is]
  | n + 1, lo => by
    show f lo + Is f (lo + 1) (n + 1) = f lo + Is f (lo + 1) n + f (lo + (n + 1))
    rw [Is.snoc n (lo + 1), show lo + 1 + n = lo + (n + 1) by omega]
    omega
theorem Is.congr {f g : Nat → Nat} : ∀ (n lo : Nat), (∀ c, lo ≤ c → c < lo + n → f c = g c) → Is f lo n = Is g lo n
  | 0, _, _ => rfl
  | n + 1, lo, h => by
    show f lo + Is f (lo + 1) n = g lo + Is g (lo + 1) n
    rw [h lo (Nat.le_refl _) (by omega), Is.congr n (lo + 1) fun c h1 h2 => h c (by omega) (by omega)]
theorem Is.zero {f : Nat → Nat} : ∀ (n lo : Nat), (∀ c, lo ≤ c → c < lo + n → f c = 0) → Is f lo n = 0
  | 0, _, _ => rfl
  | n + 1, lo, h => by
    show f lo + Is f (lo + 1) n = 0
    rw [h lo (Nat.le_refl _) (by omega), Is.zero n (lo + 1) fun c h1 h2 => h c (by omega) (by omega)]
theorem Is.le {f : Nat → Nat} {lo : Nat} : ∀ {n k : Nat}, n ≤ k → Is f lo n ≤ Is f lo k
  | n, 0, h => by rw [Nat.le_zero.mp h]; exact Nat.le_refl _
  | n, k + 1, h => by
    by_cases e : n = k + 1
    · subst e; exact Nat.le_refl _
    · rw [Is.snoc]
      have := Is.le (f := f) (lo := lo) (n := n) (k := k) (by omega)
      omega
def kid (N sz : Nat → Nat) (b c : Nat) : Nat := if N c = b then sz c else 0
def Szp (m : Nat) (N sz : Nat → Nat) : Prop := ∀ b, b < m → sz b = 1 + Is (kid N sz b) 1 (m - 1)
def Plp (m : Nat) (N sz pl : Nat → Nat) : Prop := ∀ c, 0 < c → c < m → pl c = pl (N c) + 1 + Is (kid N sz (N c)) 1 (c - 1)
variable {m : Nat} {N sz pl : Nat → Nat}
theorem kid_step {p c : Nat} (h0 : 0 < c) (e : N c = p) : Is (kid N sz p) 1 (c - 1) + sz c = Is (kid N sz p) 1 c := by
  obtain ⟨k, rfl⟩ : ∃ k, c = k + 1 := ⟨c - 1, by omega⟩
  rw [show k + 1 - 1 = k by omega, Is.snoc, show 1 + k = k + 1 by omega]
  unfold kid
  rw [if_pos e]
theorem in_parent (hN : Dn m N) (hS : Szp m N sz) (hP : Plp m N sz pl) {c : Nat} (h0 : 0 < c) (hc : c < m) : pl (N c) < pl c ∧ pl c + sz c ≤ pl (N c) + sz (N c) := by
  have h1 := hN c h0 hc
  have h2 := hP c h0 hc
  have h3 := hS (N c) (by omega)
  have h4 := kid_step (N := N) (sz := sz) h0 (rfl : N c = N c)
  have h5 := Is.le (f := kid N sz (N c)) (lo := 1) (show c ≤ m - 1 by omega)
  omega
theorem sibs (hP : Plp m N sz pl) {c d : Nat} (h0 : 0 < c) (hcd : c < d) (hd : d < m) (e : N c = N d) : pl c + sz c ≤ pl d := by
  have h1 := hP c h0 (by omega)
  have h2 := hP d (by omega) hd
  have h4 := kid_step (N := N) (sz := sz) h0 e
  have h5 := Is.le (f := kid N sz (N d)) (lo := 1) (show c ≤ d - 1 by omega)
  rw [e] at h1
  omega
theorem Ch.span (hN : Dn m N) (hS : Szp m N sz) (hP : Plp m N sz pl) {x b : Nat} (h : Ch N x b) : b < m → pl x ≤ pl b ∧ pl b + sz b ≤ pl x + sz x ∧ (x ≠ b → pl x < pl b) := by
  induction h with
  | r => exact fun _ => ⟨Nat.le_refl _, Nat.le_refl _, fun z => absurd rfl z⟩
  | u h0 h ih =>
    intro hb
    have h1 := hN _ h0 hb
    have h2 := in_parent hN hS hP h0 hb
    have h3 := ih (by omega)
    exact ⟨by omega, by omega, fun _ => by omega⟩
theorem Ch.child (hN : Dn m N) {p a : Nat} (h : Ch N p a) : a < m → p ≠ a → ∃ c, Ch N c a ∧ 0 < c ∧ N c = p ∧ c ≤ a := by
  induction h with
  | r => exact fun _ z => absurd rfl z
  | u h0 h ih =>
    intro ha hne
    rename_i a
    have h1 := hN _ h0 ha
    by_cases e : p = N a
    · exact ⟨a, .r, h0, e.symm, Nat.le_refl _⟩
    · obtain ⟨c, h2, h3, h4, h5⟩ := ih (by omega) e
      exact ⟨c, .u h0 h2, h3, h4, by omega⟩
theorem meet_ch (hN : Dn m N) (hS : Szp m N sz) (hP : Plp m N sz pl) : ∀ (n a b : Nat), a + b = n → a ≤ b → b < m → pl a < pl b + sz b → pl b < pl a + sz a → Ch N a b := by
  intro n
  induction n using Nat.strongRecOn with
  | ind n ih =>
    intro a b hn hab hb h1 h2
    by_cases e : a = b
    · subst e; exact .r
    · have h0 : 0 < b := by omega
      have h3 := hN b h0 hb
      have h4 := in_parent hN hS hP h0 hb
      by_cases hap : a ≤ N b
      · exact .u h0 (ih (a + N b) (by omega) a (N b) rfl hap (by omega) (by omega) (by omega))
      · have hc := ih (N b + a) (by omega) (N b) a rfl (by omega) (by omega) (by omega) (by omega)
        obtain ⟨c, c1, c2, c3, c4⟩ := hc.child hN (by omega) (by omega)
        have h5 := c1.span hN hS hP (by omega)
        have h6 := sibs hP c2 (show c < b by omega) hb c3
        omega
theorem lies_iff (hN : Dn m N) (hS : Szp m N sz) (hP : Plp m N sz pl) {a b : Nat} (ha : a < m) (hb : b < m) : (pl a ≤ pl b ∧ pl b < pl a + sz a) ↔ Ch N a b := by
  have s1 : 1 ≤ sz b := by have := hS b hb; omega
  have s2 : 1 ≤ sz a := by have := hS a ha; omega
  constructor
  · rintro ⟨h1, h2⟩
    by_cases hab : a ≤ b
    · exact meet_ch hN hS hP _ a b rfl hab hb (by omega) h2
    · have h3 := meet_ch hN hS hP _ b a rfl (by omega) ha (by omega) (by omega)
      have h4 := (h3.span hN hS hP ha).2.2 (by omega)
      omega
  · intro h
    have h1 := h.span hN hS hP hb
    exact ⟨h1.1, by omega⟩
end Gn
set_option Elab.async false
set_option linter.all false
set_option maxRecDepth 100000
set_option maxHeartbeats 4000000
namespace Gn
open PySem PySem.Spec PyProof.Rows L2
/-! ### xs[i] += e, xs a list -/
def rGetL (K : PySem.W.Frag) : V → V → Hp → VK → Prop := fun x y H Q => ∃ (p : Addr) (xs : List V) (j : Nat) (v : V), x = .ref p ∧ y = .int (j : Int) ∧ SqL K H p xs ∧ xs[j]? = some v ∧ Q v H
theorem get_list {X : Cx} : PGet X (rGetL X.K) := by
  intro pins s σ H x y v u Q I rx ry h
  obtain ⟨p, xs, j, z, rfl, rfl, hq, he, q⟩ := h
  cases rx
  obtain ⟨t, rfl⟩ := ry
  obtain ⟨its, r, pl, hz⟩ := I.list hq
  obtain ⟨w, ew, rw'⟩ := r.get he
  have hl := r.length
  have hn := line63
  have hj := (List.getElem?_eq_some_iff.mp he).1
  exact wpAny_getItem_list pl.isList (by omega) (by omega) (by rw [Int.toNat_natCast]; simpa using ew) ⟨z, H, I, rw', q⟩
theorem rep_iv (a k : Nat) : (List.replicate k [iv a]).flatten = (List.replicate k a).map iv := by
  induction k with
  | zero => rfl
  | succ k ih => rw [List.replicate_succ, List.replicate_succ, List.flatten_cons, List.map_cons, ih]; rfl
theorem Nf.rep {a k b : Nat} (h : b < k) : Nf (List.replicate k a) b = a := by
  unfold Nf
  rw [List.getD_eq_getElem?_getD, List.getElem?_replicate, if_pos h]
  rfl
theorem map_setN {ns : List Nat} {b e : Nat} : (ns.map iv).set b (iv e) = (ns.set b e).map iv := by rw [List.map_set]
/-! ### branch_sizes -/
def spSizes (K : PySem.W.Frag) : Sp := fun vs H Q _ => ∃ (na : Addr) (ns : List Nat) (m : Nat), vs = [.ref na] ∧ SqL K H na (ns.map iv) ∧ ns.length = m ∧ 0 < m ∧ m ≤ 1000 ∧ Dn m (Nf ns) ∧
  ∀ (p : Addr) (ss : List Nat) (H' : Hp), H p = none → Same H H' → H' p = some (.lst (ss.map iv)) → ss.length = m → Szp m (Nf ns) (Nf ss) → Q (.ref p) H'
abbrev nSizes : List Str := ["nearest", "sizes", "block"]
theorem scSizes : FnScope nSizes ["nearest"] (defScope sSizes) := ⟨rfl, rfl, rfl, by decide +kernel, rfl, by decide +kernel, by decide +kernel⟩
def spPlaces (K : PySem.W.Frag) : Sp := fun vs H Q _ => ∃ (na sa : Addr) (ns ss : List Nat) (m : Nat), vs = [.ref na, .ref sa] ∧ SqL K H na (ns.map iv) ∧ SqL K H sa (ss.map iv) ∧ ns.length = m ∧ ss.length = m ∧ 0 < m ∧ m ≤ 1000 ∧ Dn m (Nf ns) ∧
  ∀ (p : Addr) (ps : List Nat) (H' : Hp), H p = none → Same H H' → H' p = some (.lst (ps.map iv)) → ps.length = m → Plp m (Nf ns) (Nf ss) (Nf ps) → Q (.ref p) H'
abbrev nPlaces : List Str := ["nearest", "sizes", "places", "free", "block", "top"]
theorem scPlaces : FnScope nPlaces ["nearest", "sizes"] (defScope sPlaces) := ⟨rfl, rfl, rfl, by decide +kernel, rfl, by decide +kernel, by decide +kernel⟩
section
variable {P : Program} {w : World} {K : PySem.W.Frag} {mg : Str → Option Value} {base : Heap}
theorem ok_sizes {f : Addr} {fd : FuncData} {k : Nat} (D : Df K mg "branch_sizes" sSizes ["nearest"] f fd) (B : Bi mg) : FnOk P w K mg base CX0 (k + 1) f fd ["nearest"] (spSizes K) := by
  refine D.F.ok scSizes (fun vs H Q E h => ?_) (fun cdv A outer s H vs Q E hr h => ?_)
  · obtain ⟨na, ns, m, rfl, _⟩ := h
    rfl
  · obtain ⟨na, ns, m, rfl, hna, hnl, hm0, hm1, hN, q⟩ := h
    refine ⟨_, pss_cons (ps_set (i := 1) scSizes.nd rfl (.inl rfl) (pe_op op_rep (pe_lst (pa_cons pe_int pa_nil)) (pe_callB call_len_seq (by rfl) B.len PySem.boot_len (pa_cons (pv 0) pa_nil))))
      (pss_cons (ps_for PassesOwn.never rfl (pi_range3 (by rfl) B.range (pa_cons (pe_op op_sub (pe_callB call_len_seq (by rfl) B.len PySem.boot_len (pa_cons (pv 0) pa_nil)) pe_int) (pa_cons pe_int (pa_cons (pe_un un_neg pe_int) pa_nil)))) (pg_name (i := 2) scSizes.nd rfl (.inl rfl))
        (pss_one (ps_augS (pv 1) (pe_ix ix_list (pv 0) (pv 2) (fun _ _ => rfl)) get_list (pe_ix ix_list (pv 1) (pv 2) (fun _ _ => rfl)) ip_add set_list)))
      (pss_one (ps_ret (pv 1)))), ?_⟩
    have hli : ((ns.map iv).length : Int) = (m : Int) := by rw [List.length_map, hnl]
    refine ⟨szl (show 1 ≤ 1000000 by decide), fun l nl => ?_⟩
    have sl := new_same (o := .lst [.int 1]) nl
    have el : upd H l (.lst [.int 1]) l = some (.lst [iv 1]) := upd_same
    generalize upd H l (.lst [.int 1]) = H0 at sl el
    refine ⟨.ref na, rfl, na, _, rfl, .inl (sl.seq hna), l, _, _, rfl, rfl, el, by omega, by omega, ?_, fun p np => ?_⟩
    · rw [hli, Int.toNat_natCast]
      exact szl (by show 1 * m ≤ 1000000; omega)
    rw [hli, Int.toNat_natCast, rep_iv]
    have sp := sl.trans (new_same (o := .lst ((List.replicate m 1).map iv)) np)
    have ep : upd H0 p (.lst ((List.replicate m 1).map iv)) p = some (.lst ((List.replicate m 1).map iv)) := upd_same
    have hp0 : H p = none := sl.free np
    generalize upd H0 p (.lst ((List.replicate m 1).map iv)) = H1 at sp ep
    refine ⟨.ref na, rfl, na, _, rfl, .inl (sp.seq hna), _, _, rfl, rfl, _, rfl, _, _, _, _, rfl, RgC.neg (by omega) (by omega) (by omega) (by omega), ?_⟩
    refine for_rangeC (lo := ((ns.map iv).length : Int) - 1) (c := -1) (n := (((ns.map iv).length : Int) - 1 - 0).toNat) (fun i σ H2 => ∃ (ss : List Nat) (y2 : Option V), σ = [some (.ref na), some (.ref p), y2] ∧ Same H H2 ∧ H2 p = some (.lst (ss.map iv)) ∧ ss.length = m ∧ ∀ b, b < m → Nf ss b = 1 + Is (kid (Nf ns) (Nf ss) b) (m - i) i)
      ⟨List.replicate m 1, none, rfl, sp, ep, List.length_replicate, fun b hb => by rw [Nf.rep hb]; rfl⟩ (fun i σ H2 hi hP => ?_) (fun σ H2 hP => ?_)
    · obtain ⟨ss, y2, rfl, s2, e2, hsl, hs⟩ := hP
      have hi' : i < m - 1 := by omega
      have hbe : V.int (((ns.map iv).length : Int) - 1 + (i : Nat) * (-1)) = iv (m - 1 - i) := by
        show V.int _ = V.int ((m - 1 - i : Nat) : Int)
        congr 1
        omega
      rw [hbe]
      have ht0 : 0 < m - 1 - i := by omega
      have htm : m - 1 - i < m := by omega
      have hpt := hN _ ht0 htm
      generalize htt : m - 1 - i = t at ht0 htm hpt
      have hmi : m - i = t + 1 := by omega
      refine ⟨.ref p, rfl, .ref na, rfl, iv t, rfl, na, _, _, _, rfl, rfl, s2.seq hna, atI_nat (Nf.at (by omega)), p, _, Nf ns t, iv (Nf ss (Nf ns t)), rfl, rfl, sqL e2, Nf.at (by omega), ?_⟩
      refine ⟨.ref p, rfl, iv t, rfl, p, _, _, iv (Nf ss t), rfl, rfl, sqL e2, atI_nat (Nf.at (by omega)), _, _, rfl, rfl, p, _, _, Nf ns t, rfl, rfl, e2, ixN_nat (by rw [List.length_map]; omega), ?_⟩
      have ev : V.int ((Nf ss (Nf ns t) : Int) + (Nf ss t : Int)) = iv (Nf ss (Nf ns t) + Nf ss t) := by
        show V.int _ = V.int _
        congr 1
      refine ⟨ss.set (Nf ns t) (Nf ss (Nf ns t) + Nf ss t), _, rfl, Same.upd s2 hp0, ?_, by rw [List.length_set, hsl], fun b hb => ?_⟩
      · rw [upd_same]
        show some (HO.lst ((ss.map iv).set (Nf ns t) (V.int ((Nf ss (Nf ns t) : Int) + (Nf ss t : Int))))) = _
        rw [ev, map_setN]
      · have hpl : Nf ns t < ss.length := by omega
        rw [show m - (i + 1) = t by omega]
        show _ = 1 + (kid (Nf ns) _ b t + Is _ (t + 1) i)
        have hcg : Is (kid (Nf ns) (Nf (ss.set (Nf ns t) (Nf ss (Nf ns t) + Nf ss t))) b) (t + 1) i = Is (kid (Nf ns) (Nf ss) b) (t + 1) i := Is.congr _ _ fun c h1 h2 => by
          unfold kid
          rw [Nf.set hpl, if_neg (show ¬ c = Nf ns t by omega)]
        rw [hcg, Nf.set hpl]
        have hb2 := hs b hb
        rw [hmi] at hb2
        unfold kid
        rw [Nf.set hpl, if_neg (show ¬ t = Nf ns t by omega)]
        by_cases e : b = Nf ns t
        · rw [if_pos e, if_pos e.symm, ← e]
          unfold kid at hb2
          omega
        · rw [if_neg e, if_neg (fun z => e z.symm)]
          unfold kid at hb2
          omega
    · obtain ⟨ss, y2, rfl, s2, e2, hsl, hs⟩ := hP
      have hn : (((ns.map iv).length : Int) - 1 - 0).toNat = m - 1 := by omega
      rw [hn, show m - (m - 1) = 1 by omega] at hs
      exact ⟨_, rfl, q p ss H2 hp0 s2 e2 hsl hs⟩
theorem ok_places {f : Addr} {fd : FuncData} {k : Nat} (D : Df K mg "branch_places" sPlaces ["nearest", "sizes"] f fd) (B : Bi mg) : FnOk P w K mg base CX0 (k + 1) f fd ["nearest", "sizes"] (spPlaces K) := by
  refine D.F.ok scPlaces (fun vs H Q E h => ?_) (fun cdv A outer s H vs Q E hr h => ?_)
  · obtain ⟨na, sa, ns, ss, m, rfl, _⟩ := h
    rfl
  · obtain ⟨na, sa, ns, ss, m, rfl, hna, hsa, hnl, hsl, hm0, hm1, hN, q⟩ := h
    refine ⟨_, pss_cons (ps_set (i := 2) scPlaces.nd rfl (.inl rfl) (pe_op op_rep (pe_lst (pa_cons pe_int pa_nil)) (pe_callB call_len_seq (by rfl) B.len PySem.boot_len (pa_cons (pv 0) pa_nil))))
      (pss_cons (ps_set (i := 3) scPlaces.nd rfl (.inl rfl) (pe_op op_rep (pe_lst (pa_cons pe_int pa_nil)) (pe_callB call_len_seq (by rfl) B.len PySem.boot_len (pa_cons (pv 0) pa_nil))))
      (pss_cons (ps_for PassesOwn.never rfl (pi_range2 (by rfl) B.range (pa_cons pe_int (pa_cons (pe_callB call_len_seq (by rfl) B.len PySem.boot_len (pa_cons (pv 0) pa_nil)) pa_nil))) (pg_name (i := 4) scPlaces.nd rfl (.inl rfl))
        (pss_cons (ps_set (i := 5) scPlaces.nd rfl (.inl rfl) (pe_ix ix_list (pv 0) (pv 4) (fun _ _ => rfl)))
        (pss_cons (ps_asg (pe_ix ix_list (pv 3) (pv 5) (fun _ _ => rfl)) (pg_sub (pv 2) (pv 4) set_list))
        (pss_cons (ps_augS (pv 3) (pv 5) get_list (pe_ix ix_list (pv 1) (pv 4) (fun _ _ => rfl)) ip_add set_list)
        (pss_one (ps_asg (pe_op op_add (pe_ix ix_list (pv 2) (pv 4) (fun _ _ => rfl)) pe_int) (pg_sub (pv 3) (pv 4) set_list)))))))
      (pss_one (ps_ret (pv 2))))), ?_⟩
    have hli : ((ns.map iv).length : Int) = (m : Int) := by rw [List.length_map, hnl]
    refine ⟨szl (show 1 ≤ 1000000 by decide), fun l nl => ?_⟩
    have sl := new_same (o := .lst [.int 0]) nl
    have el : upd H l (.lst [.int 0]) l = some (.lst [iv 0]) := upd_same
    generalize upd H l (.lst [.int 0]) = H0 at sl el
    refine ⟨.ref na, rfl, na, _, rfl, .inl (sl.seq hna), l, _, _, rfl, rfl, el, by omega, by omega, ?_, fun p np => ?_⟩
    · rw [hli, Int.toNat_natCast]
      exact szl (by show 1 * m ≤ 1000000; omega)
    rw [hli, Int.toNat_natCast, rep_iv]
    have sp := sl.trans (new_same (o := .lst ((List.replicate m 0).map iv)) np)
    have ep : upd H0 p (.lst ((List.replicate m 0).map iv)) p = some (.lst ((List.replicate m 0).map iv)) := upd_same
    have hp0 : H p = none := sl.free np
    generalize upd H0 p (.lst ((List.replicate m 0).map iv)) = H1 at sp ep
    clear el
    refine ⟨szl (show 1 ≤ 1000000 by decide), fun l2 nl2 => ?_⟩
    have sl2 := new_same (o := .lst [.int 1]) nl2
    have el2 : upd H1 l2 (.lst [.int 1]) l2 = some (.lst [iv 1]) := upd_same
    have ep2 := sl2 _ _ ep
    have sH2 := sp.trans sl2
    generalize upd H1 l2 (.lst [.int 1]) = H2 at sl2 el2 ep2 sH2
    refine ⟨.ref na, rfl, na, _, rfl, .inl (sH2.seq hna), l2, _, _, rfl, rfl, el2, by omega, by omega, ?_, fun fr nf => ?_⟩
    · rw [hli, Int.toNat_natCast]
      exact szl (by show 1 * m ≤ 1000000; omega)
    rw [hli, Int.toNat_natCast, rep_iv]
    have sf := new_same (o := .lst ((List.replicate m 1).map iv)) nf
    have ef : upd H2 fr (.lst ((List.replicate m 1).map iv)) fr = some (.lst ((List.replicate m 1).map iv)) := upd_same
    have hf0 : H fr = none := sH2.free nf
    have nfp : fr ≠ p := (ne_of_none ep2 nf).symm
    have ep3 := sf _ _ ep2
    have sH3 := sH2.trans sf
    generalize upd H2 fr (.lst ((List.replicate m 1).map iv)) = H3 at ef ep3 sH3
    refine ⟨.ref na, rfl, na, _, rfl, .inl (sH3.seq hna), 1, (m : Int), by rw [hli], ⟨by decide, by decide, by omega, by omega⟩, ?_⟩
    refine for_range (lo := 1) (n := ((m : Int) - 1).toNat) (fun i σ H4 => ∃ (ps fs : List Nat) (y4 y5 : Option V), σ = [some (.ref na), some (.ref sa), some (.ref p), some (.ref fr), y4, y5] ∧ Same H H4 ∧ H4 p = some (.lst (ps.map iv)) ∧ H4 fr = some (.lst (fs.map iv)) ∧ ps.length = m ∧ fs.length = m ∧
      (∀ c, 0 < c → c < 1 + i → Nf ps c = Nf ps (Nf ns c) + 1 + Is (kid (Nf ns) (Nf ss) (Nf ns c)) 1 (c - 1)) ∧ ∀ b, b < 1 + i → Nf fs b = Nf ps b + 1 + Is (kid (Nf ns) (Nf ss) b) 1 i)
      ⟨List.replicate m 0, List.replicate m 1, none, none, rfl, sH3, ep3, ef, List.length_replicate, List.length_replicate, fun c h1 h2 => (by omega), fun b hb => (by rw [Nf.rep (by omega), Nf.rep (by omega)]; rfl)⟩ (fun i σ H4 hi hP => ?_) (fun σ H4 hP => ?_)
    · obtain ⟨ps, fs, y4, y5, rfl, s4, e4, f4, hpl, hfl, hp, hf⟩ := hP
      have hbe : V.int (1 + (i : Int)) = iv (1 + i) := by
        show V.int _ = V.int ((1 + i : Nat) : Int)
        congr 1
      rw [hbe]
      have htm : 1 + i < m := by omega
      have hpt := hN (1 + i) (by omega) htm
      generalize htt : Nf ns (1 + i) = tp at hpt
      have hat := Nf.at (ns := ns) (b := 1 + i) (by omega)
      rw [htt] at hat
      refine ⟨.ref na, rfl, iv (1 + i), rfl, na, _, _, _, rfl, rfl, s4.seq hna, atI_nat hat, ?_⟩
      refine ⟨.ref fr, rfl, iv tp, rfl, fr, _, _, iv (Nf fs tp), rfl, rfl, sqL f4, atI_nat (Nf.at (by omega)), .ref p, rfl, iv (1 + i), rfl, p, _, _, 1 + i, rfl, rfl, e4, ixN_nat (by rw [List.length_map]; omega), ?_⟩
      rw [map_setN]
      have s5 := Same.upd (o := .lst ((ps.set (1 + i) (Nf fs tp)).map iv)) s4 hp0
      have e5 : upd H4 p (.lst ((ps.set (1 + i) (Nf fs tp)).map iv)) p = some (.lst ((ps.set (1 + i) (Nf fs tp)).map iv)) := upd_same
      have f5 : upd H4 p (.lst ((ps.set (1 + i) (Nf fs tp)).map iv)) fr = some (.lst (fs.map iv)) := by rw [upd_ne nfp]; exact f4
      generalize upd H4 p (.lst ((ps.set (1 + i) (Nf fs tp)).map iv)) = H5 at s5 e5 f5
      refine ⟨.ref fr, rfl, iv tp, rfl, fr, _, tp, iv (Nf fs tp), rfl, rfl, sqL f5, Nf.at (by omega), .ref sa, rfl, iv (1 + i), rfl, sa, _, _, iv (Nf ss (1 + i)), rfl, rfl, s5.seq hsa, atI_nat (Nf.at (by omega)), _, _, rfl, rfl, fr, _, _, tp, rfl, rfl, f5, ixN_nat (by rw [List.length_map]; omega), ?_⟩
      have ev : V.int ((Nf fs tp : Int) + (Nf ss (1 + i) : Int)) = iv (Nf fs tp + Nf ss (1 + i)) := by
        show V.int _ = V.int _
        congr 1
      show tSeq _ _ _ _ (upd H5 fr (.lst ((fs.map iv).set tp (V.int ((Nf fs tp : Int) + (Nf ss (1 + i) : Int))))))
      rw [ev, map_setN]
      have s6 := Same.upd (o := .lst ((fs.set tp (Nf fs tp + Nf ss (1 + i))).map iv)) s5 hf0
      have e6 : upd H5 fr (.lst ((fs.set tp (Nf fs tp + Nf ss (1 + i))).map iv)) p = some (.lst ((ps.set (1 + i) (Nf fs tp)).map iv)) := by rw [upd_ne nfp.symm]; exact e5
      have f6 : upd H5 fr (.lst ((fs.set tp (Nf fs tp + Nf ss (1 + i))).map iv)) fr = some (.lst ((fs.set tp (Nf fs tp + Nf ss (1 + i))).map iv)) := upd_same
      generalize upd H5 fr (.lst ((fs.set tp (Nf fs tp + Nf ss (1 + i))).map iv)) = H6 at s6 e6 f6
      have gp : ∀ c, Nf (ps.set (1 + i) (Nf fs tp)) c = if c = 1 + i then Nf fs tp else Nf ps c := Nf.set (by omega)
      have gq : Nf (ps.set (1 + i) (Nf fs tp)) (1 + i) = Nf fs tp := by rw [gp, if_pos rfl]
      refine ⟨.ref p, rfl, iv (1 + i), rfl, p, _, _, iv (Nf (ps.set (1 + i) (Nf fs tp)) (1 + i)), rfl, rfl, sqL e6, atI_nat (Nf.at (by rw [List.length_set]; omega)), _, _, rfl, rfl, .ref fr, rfl, iv (1 + i), rfl, fr, _, _, 1 + i, rfl, rfl, f6, ixN_nat (by rw [List.length_map, List.length_set]; omega), ?_⟩
      have ev2 : V.int ((Nf (ps.set (1 + i) (Nf fs tp)) (1 + i) : Int) + 1) = iv (Nf fs tp + 1) := by
        rw [gq]
        show V.int _ = V.int _
        congr 1
      refine ⟨ps.set (1 + i) (Nf fs tp), (fs.set tp (Nf fs tp + Nf ss (1 + i))).set (1 + i) (Nf fs tp + 1), _, _, rfl, Same.upd s6 hf0, ?_, ?_, by rw [List.length_set, hpl], by rw [List.length_set, List.length_set, hfl], fun c h1 h2 => ?_, fun b hb => ?_⟩
      · rw [upd_ne nfp.symm]; exact e6
      · rw [upd_same]
        show some (HO.lst ((List.map iv (fs.set tp (Nf fs tp + Nf ss (1 + i)))).set (1 + i) (V.int ((Nf (ps.set (1 + i) (Nf fs tp)) (1 + i) : Int) + 1)))) = _
        rw [ev2, map_setN]
      · have hcn := hN c h1 (by omega)
        by_cases hc : c = 1 + i
        · subst hc
          rw [htt, gq, gp, if_neg (show ¬ tp = 1 + i by omega), hf tp hpt, show 1 + i - 1 = i by omega]
        · rw [gp, if_neg hc, gp, if_neg (show ¬ Nf ns c = 1 + i by omega)]
          exact hp c h1 (by omega)
      · rw [Nf.set (by rw [List.length_set]; omega), gp]
        by_cases hbt : b = 1 + i
        · rw [if_pos hbt, if_pos hbt, Is.zero (i + 1) 1 fun c h1 h2 => ?_]
          unfold kid
          rw [if_neg]
          have := hN c (by omega) (by omega)
          omega
        · rw [if_neg hbt, if_neg hbt, Nf.set (by omega), Is.snoc]
          have h9 := hf b (by omega)
          unfold kid
          rw [htt]
          by_cases hbp : b = tp
          · rw [if_pos hbp, if_pos hbp.symm, ← hbp]
            unfold kid at h9
            omega
          · rw [if_neg hbp, if_neg (fun z => hbp z.symm)]
            unfold kid at h9
            omega
    · obtain ⟨ps, fs, y4, y5, rfl, s4, e4, f4, hpl, hfl, hp, hf⟩ := hP
      exact ⟨_, rfl, q p ps H4 hp0 s4 e4 hpl fun c h1 h2 => hp c h1 (by omega)⟩
end
end Gn
set_option Elab.async false
set_option linter.all false
set_option maxRecDepth 100000
set_option maxHeartbeats 4000000
namespace Gn
open PySem PySem.Spec PyProof.Rows L2
/-! ### rows and their blocks -/
def rowsL (pr : List Blk) : List Rz := (pr.map (·.1)).flatten
def ownL (pr : List Blk) (i : Nat) : List Nat := (List.range i).flatMap fun j => List.replicate (pr.getD j ([], .fin)).1.length j
theorem ownL_succ {pr : List Blk} {i : Nat} {b : Blk} (h : pr[i]? = some b) : ownL pr (i + 1) = ownL pr i ++ List.replicate b.1.length i := by
  unfold ownL
  rw [List.range_succ, List.flatMap_append]
  simp [List.getD_eq_getElem?_getD, h]
theorem rows_take {pr : List Blk} {i : Nat} {b : Blk} (h : pr[i]? = some b) : rowsL (pr.take (i + 1)) = rowsL (pr.take i) ++ b.1 := by
  unfold rowsL
  rw [List.take_add_one, h, List.map_append, List.flatten_append]
  simp
theorem rowsL_len {n : Nat} : ∀ {pr : List Blk}, (∀ b ∈ pr, b.1.length ≤ n) → (rowsL pr).length ≤ pr.length * n
  | [], _ => by simp [rowsL]
  | b :: bs, h => by
    have h1 := rowsL_len (pr := bs) fun c hc => h c (List.mem_cons_of_mem _ hc)
    have h2 := h b List.mem_cons_self
    unfold rowsL at h1 ⊢
    rw [List.map_cons, List.flatten_cons, List.length_append, List.length_cons, Nat.succ_mul]
    omega
theorem ownL_len {pr : List Blk} : ∀ i, i ≤ pr.length → (ownL pr i).length = (rowsL (pr.take i)).length
  | 0, _ => by simp [ownL, rowsL]
  | i + 1, h => by
    have hb := List.getElem?_eq_getElem (show i < pr.length by omega)
    rw [ownL_succ hb, rows_take hb, List.length_append, List.length_append, List.length_replicate, ownL_len i (by omega)]
theorem ownL_lt {pr : List Blk} {i y : Nat} (h : y ∈ ownL pr i) : y < i := by
  unfold ownL at h
  obtain ⟨j, hj, hy⟩ := List.mem_flatMap.mp h
  rw [List.eq_of_mem_replicate hy]
  exact List.mem_range.mp hj
theorem take_rows_le {pr : List Blk} {n i : Nat} (h : ∀ b ∈ pr, b.1.length ≤ n) (hi : i ≤ pr.length) : (rowsL (pr.take i)).length ≤ pr.length * n := by
  have h1 := rowsL_len (pr := pr.take i) fun b hb => h b (List.mem_of_mem_take hb)
  rw [List.length_take] at h1
  exact Nat.le_trans h1 (Nat.mul_le_mul_right _ (Nat.min_le_right _ _))
def spRowsOf (K : PySem.W.Frag) : Sp := fun vs H Q _ => ∃ (v : V) (pr : List Blk), vs = [v] ∧ ProgAt K H v pr ∧ pr.length ≤ 100 ∧ (∀ b ∈ pr, b.1.length ≤ 1000) ∧
  ∀ (p : Addr) (H' : Hp) (us : List V), H p = none → Same H H' → H' p = some (.lst us) → Paired (RzAt K H') us (rowsL pr) → Q (.ref p) H'
abbrev nRowsOf : List Str := ["program", "rows", "end", "row"]
theorem scRowsOf : FnScope nRowsOf ["program"] (defScope sRowsOf) := ⟨rfl, rfl, rfl, by decide +kernel, rfl, by decide +kernel, by decide +kernel⟩
def spOwners (K : PySem.W.Frag) : Sp := fun vs H Q _ => ∃ (v : V) (pr : List Blk), vs = [v] ∧ ProgAt K H v pr ∧ pr.length ≤ 100 ∧ (∀ b ∈ pr, b.1.length ≤ 1000) ∧
  ∀ (p : Addr) (H' : Hp), H p = none → Same H H' → H' p = some (.lst ((ownL pr pr.length).map iv)) → Q (.ref p) H'
abbrev nOwners : List Str := ["program", "block", "rows", "end", "row"]
theorem scOwners : FnScope nOwners ["program"] (defScope sOwners) := ⟨rfl, rfl, rfl, by decide +kernel, rfl, by decide +kernel, by decide +kernel⟩
section
variable {P : Program} {w : World} {K : PySem.W.Frag} {mg : Str → Option Value} {base : Heap}
theorem ok_rowsOf {f : Addr} {fd : FuncData} {k : Nat} (D : Df K mg "rows_of" sRowsOf ["program"] f fd) (B : Bi mg) : FnOk P w K mg base CX0 (k + 1) f fd ["program"] (spRowsOf K) := by
  refine D.F.ok scRowsOf (fun vs H Q E h => ?_) (fun cdv A outer s H vs Q E hr h => ?_)
  · obtain ⟨v, pr, rfl, _⟩ := h
    rfl
  · obtain ⟨v, pr, rfl, ⟨a, xs, rfl, ha, pd⟩, hl, hbl, q⟩ := h
    refine ⟨_, pss_one (ps_ret (pe_lc2 (own := [("rows", 1), ("end", 2), ("row", 3)]) (vs1 := [3]) (g := gTup K 2 (gCons (gName 1) (gCons (gName 2) gNil))) (tt := tYes) (g1 := gName 3) (tt1 := tYes) (te := tVar 3) (wi1 := iList K (tVar 1)) rfl scRowsOf.nd (pi_list (pv 0))
      (blkOk_by (own := [("rows", 1), ("end", 2), ("row", 3)]) (N := nRowsOf) (sc := defScope sRowsOf) (by decide +kernel)) (by decide)
      (fun _ _ _ _ _ => pg_tup rfl (pgs_cons (pg_name (i := 1) scRowsOf.nd rfl (.inl rfl)) (pgs_cons (pg_name (i := 2) scRowsOf.nd rfl (.inl rfl)) pgs_nil))) (fun _ _ _ _ _ => pts_nil)
      (fun _ _ _ _ _ => pi_list (pv 1)) (fun _ _ _ _ _ => pg_name (i := 3) scRowsOf.nd rfl (.inl rfl)) (fun _ _ _ _ _ => pts_nil) (fun _ _ _ _ _ => pv 3))), ?_⟩
    have hxl : xs.length = pr.length := pd_len pd
    refine ⟨.ref a, rfl, a, rfl, ⟨_, ha⟩, fun L nL => ?_⟩
    refine it_core (walk_list (K := K) (a := a) (xs := xs)) (fun i H1 => Same H H1 ∧ ∃ us, H1 L = some (.lst us) ∧ Paired (RzAt K H) us (rowsL (pr.take i))) ⟨new_same nL, [], upd_same, .nil⟩ (fun i H1 _ hP => hP.1.seq ha) (fun i x H1 H2 hi hP hY => ?_) (fun H1 hP => ?_)
    · obtain ⟨s1, us, eL, pu⟩ := hP
      obtain ⟨e1, ex⟩ := hY
      subst e1
      obtain ⟨bk, hbk, p, ra, ea, vs, rfl, hp, hra, pv, _⟩ := pd_at2 pd ex
      refine ⟨p, _, rfl, Same.tup s1 hp, rfl, _, _, rfl, _, _, rfl, rfl, rfl, ?_⟩
      have hvl : vs.length = bk.1.length := pd_len pv
      refine ⟨.ref ra, rfl, ra, rfl, ⟨_, s1.seq hra⟩, ?_⟩
      refine it_core (walk_list (K := K) (a := ra) (xs := vs)) (fun j H3 => Same H H3 ∧ ∃ us, H3 L = some (.lst us) ∧ Paired (RzAt K H) us (rowsL (pr.take i) ++ bk.1.take j)) ⟨s1, us, eL, by simpa using pu⟩ (fun j H3 _ hP => hP.1.seq hra) (fun j z H3 H4 hj hP hY => ?_) (fun H3 hP => ?_)
      · obtain ⟨s3, us3, eL3, pu3⟩ := hP
        obtain ⟨e1, ez⟩ := hY
        subst e1
        obtain ⟨rw_, hrw, hrow⟩ := pd_at2 pv ez
        refine ⟨rfl, _, rfl, us3, eL3, ?_, fun b o e => ?_, us3 ++ [z], upd_same, ?_⟩
        · have h1 := pd_len pu3
          have h2 := take_rows_le hbl (show i ≤ pr.length by omega)
          have h3 := hbl bk (List.mem_of_getElem? hbk)
          have h4 : pr.length * 1000 ≤ 100 * 1000 := Nat.mul_le_mul_right _ hl
          rw [List.length_append, List.length_take] at h1
          exact szt (by omega)
        · rw [upd_ne (ne_of_none e nL)]; exact s3 _ _ e
        · rw [List.take_add_one, hrw, ← List.append_assoc]
          exact pd_app pu3 (.cons hrow .nil)
      · obtain ⟨s3, us3, eL3, pu3⟩ := hP
        rw [hvl, List.take_length] at pu3
        exact ⟨s3, us3, eL3, by rw [rows_take hbk]; exact pu3⟩
    · obtain ⟨s1, us, eL, pu⟩ := hP
      rw [hxl, List.take_length] at pu
      exact q L H1 us nL s1 eL (pd_mono pu fun _ _ z => z.same s1)
theorem ok_owners {f : Addr} {fd : FuncData} {k : Nat} (D : Df K mg "owners_of" sOwners ["program"] f fd) (B : Bi mg) : FnOk P w K mg base CX0 (k + 1) f fd ["program"] (spOwners K) := by
  refine D.F.ok scOwners (fun vs H Q E h => ?_) (fun cdv A outer s H vs Q E hr h => ?_)
  · obtain ⟨v, pr, rfl, _⟩ := h
    rfl
  · obtain ⟨v, pr, rfl, ⟨a, xs, rfl, ha, pd⟩, hl, hbl, q⟩ := h
    refine ⟨_, pss_one (ps_ret (pe_lc2 (own := [("block", 1), ("rows", 2), ("end", 3), ("row", 4)]) (vs1 := [4]) (g := gTup K 2 (gCons (gName 1) (gCons (gTup K 2 (gCons (gName 2) (gCons (gName 3) gNil))) gNil))) (tt := tYes) (g1 := gName 4) (tt1 := tYes) (te := tVar 1) (wi1 := iList K (tVar 2)) rfl scOwners.nd (pi_enum (by rfl) B.enumerate (pa_cons (pv 0) pa_nil))
      (blkOk_by (own := [("block", 1), ("rows", 2), ("end", 3), ("row", 4)]) (N := nOwners) (sc := defScope sOwners) (by decide +kernel)) (by decide)
      (fun _ _ _ _ _ => pg_tup rfl (pgs_cons (pg_name (i := 1) scOwners.nd rfl (.inl rfl)) (pgs_cons (pg_tup rfl (pgs_cons (pg_name (i := 2) scOwners.nd rfl (.inl rfl)) (pgs_cons (pg_name (i := 3) scOwners.nd rfl (.inl rfl)) pgs_nil))) pgs_nil))) (fun _ _ _ _ _ => pts_nil)
      (fun _ _ _ _ _ => pi_list (pv 2)) (fun _ _ _ _ _ => pg_name (i := 4) scOwners.nd rfl (.inl rfl)) (fun _ _ _ _ _ => pts_nil) (fun _ _ _ _ _ => pv 1))), ?_⟩
    have hxl : xs.length = pr.length := pd_len pd
    refine ⟨.ref a, rfl, a, _, rfl, ha, fun L nL => ?_⟩
    refine it_core (walk_enum (K := K) (a := a) (xs := xs)) (fun i H1 => Same H H1 ∧ H1 L = some (.lst ((ownL pr i).map iv))) ⟨new_same nL, upd_same⟩ (fun i H1 _ hP => hP.1.seq ha) (fun i x H1 H2 hi hP hY => ?_) (fun H1 hP => ?_)
    · obtain ⟨s1, eL⟩ := hP
      obtain ⟨T, x1, x2, rfl, nT, rfl, e1, e2⟩ := hY
      cases e1
      have e2 : xs[i]? = some x2 := e2
      obtain ⟨bk, hbk, p, ra, ea, vs, rfl, hp, hra, pv, _⟩ := pd_at2 pd e2
      have sT := new_same (o := .tup [.int (i : Nat), .ref p]) nT
      have s2 := s1.trans sT
      refine ⟨T, _, rfl, sqT upd_same, rfl, _, _, rfl, _, _, rfl, p, _, rfl, Same.tup s2 hp, rfl, _, _, rfl, _, _, rfl, rfl, rfl, rfl, ?_⟩
      have eL2 := sT _ _ eL
      generalize upd H1 T (.tup [.int (i : Nat), .ref p]) = H3 at s2 eL2
      have hvl : vs.length = bk.1.length := pd_len pv
      refine ⟨.ref ra, rfl, ra, rfl, ⟨_, s2.seq hra⟩, ?_⟩
      refine it_core (walk_list (K := K) (a := ra) (xs := vs)) (fun j H4 => Same H H4 ∧ H4 L = some (.lst ((ownL pr i ++ List.replicate j i).map iv))) ⟨s2, by simpa using eL2⟩ (fun j H4 _ hP => hP.1.seq hra) (fun j z H4 H5 hj hP hY => ?_) (fun H4 hP => ?_)
      · obtain ⟨s4, eL4⟩ := hP
        obtain ⟨e1, ez⟩ := hY
        subst e1
        refine ⟨rfl, _, rfl, _, eL4, ?_, fun b o e => ?_, ?_⟩
        · rw [List.length_map, List.length_append, List.length_replicate, ownL_len i (by omega)]
          have h2 := take_rows_le hbl (show i ≤ pr.length by omega)
          have h3 := hbl bk (List.mem_of_getElem? hbk)
          have h4 : pr.length * 1000 ≤ 100 * 1000 := Nat.mul_le_mul_right _ hl
          exact szt (by omega)
        · rw [upd_ne (ne_of_none e nL)]; exact s4 _ _ e
        · rw [upd_same, List.replicate_succ', ← List.append_assoc, List.map_append (l₁ := ownL pr i ++ List.replicate j i)]
          rfl
      · obtain ⟨s4, eL4⟩ := hP
        rw [hvl] at eL4
        exact ⟨s4, by rw [ownL_succ hbk]; exact eL4⟩
    · obtain ⟨s1, eL⟩ := hP
      rw [hxl] at eL
      exact q L H1 nL s1 eL
end
end Gn
set_option Elab.async false
set_option linter.all false
set_option maxRecDepth 100000
set_option maxHeartbeats 4000000
namespace Gn
open PySem PySem.Spec PyProof.Rows L2
/-! ### above, as in k02 -/
theorem pd_idx {α β : Type} {F : α → β → Prop} {f : Nat → β} : ∀ {l : List α} {k : Nat}, (∀ n q, l[n]? = some q → F q (f (k + n))) → Paired F l ((List.range' k l.length).map f)
  | [], _, _ => .nil
  | a :: l, k, h => by
    rw [List.length_cons, List.range'_succ, List.map_cons]
    refine .cons (h 0 a rfl) (pd_idx fun n q e => ?_)
    have := h (n + 1) q (by simpa using e)
    rw [show k + (n + 1) = k + 1 + n by omega] at this
    exact this
theorem LL.nl {K : PySem.W.Frag} {H H1 : Hp} {lp : Addr} {m : Nat} {qs : List Addr} {f : Nat → List Nat} (h : LL H H1 lp m qs f) : NL K H1 lp ((List.range m).map f) := by
  refine ⟨qs, sqL h.top, ?_⟩
  have := pd_idx (F := fun q xs => SqL K H1 q (xs.map iv)) (f := f) (l := qs) (k := 0) fun n q e => by rw [Nat.zero_add]; exact sqL (h.at_ n q e)
  rw [h.len, ← List.range_eq_range'] at this
  exact this
theorem spec_mem {pr : List Blk} {i n a : Nat} : a ∈ spec pr i n ↔ a < i ∧ n ∈ (pr.getD a ([], .fin)).2.names := by
  unfold spec
  rw [List.mem_flatMap]
  constructor
  · rintro ⟨j, hj, ha⟩
    obtain ⟨h1, rfl⟩ := List.mem_replicate.mp ha
    exact ⟨List.mem_range.mp hj, List.count_pos_iff.mp (Nat.pos_of_ne_zero h1)⟩
  · rintro ⟨h1, h2⟩
    exact ⟨a, List.mem_range.mpr h1, List.mem_replicate.mpr ⟨Nat.ne_of_gt (List.count_pos_iff.mpr h2), rfl⟩⟩
abbrev nmL (pr : List Blk) : List (List Nat) := pr.map fun b => b.2.names
theorem Ex.names {pr : List Blk} {a : Nat} : Ex (nmL pr) a = (pr.getD a ([], .fin)).2.names := by
  unfold Ex nmL
  rw [List.getD_eq_getElem?_getD, List.getD_eq_getElem?_getD, List.getElem?_map]
  cases h : pr[a]? <;> rfl
theorem gr_of {m : Nat} {pr : List Blk} (hm : 1 ≤ m) (hm2 : m ≤ 100) (hl : pr.length = m) (h : NxOk m (nmL pr)) : Gr m (Ex (nmL pr)) ((List.range m).map (spec pr m)) := by
  have hin : ∀ a b, b ∈ Ex (nmL pr) a → a < m ∧ 1 ≤ b ∧ b < m := fun a b hb => by
    by_cases ha : a < (nmL pr).length
    · rw [Ex.at ha] at hb
      have h1 := (h.2.1 _ (List.getElem_mem ha)).2.2 b hb
      exact ⟨by rw [← h.1]; exact ha, h1⟩
    · unfold Ex at hb
      rw [List.getD_eq_getElem?_getD, List.getElem?_eq_none (by omega)] at hb
      cases hb
  refine ⟨by omega, by rw [List.length_map, List.length_range], by omega, fun a b hb => (hin a b hb).2.2, fun a ha => ?_, fun a z => ?_, fun b h0 hb => ?_, fun b hb a => ?_⟩
  · cases e : Ex (nmL pr) a with
    | nil => exact absurd e ha
    | cons b r => exact (hin a b (by rw [e]; exact List.mem_cons_self)).1
  · exact absurd (hin a 0 z).2.1 (by decide)
  · obtain ⟨j, xs, h1, h2, h3⟩ := h.2.2 b h0 hb
    refine ⟨j, h1, ?_⟩
    unfold Ex
    rw [List.getD_eq_getElem?_getD, h2]
    exact h3
  · have e : ((List.range m).map (spec pr m)).getD b [] = spec pr m b := by
      rw [List.getD_eq_getElem?_getD, List.getElem?_map, List.getElem?_range hb]
      rfl
    rw [e, spec_mem, Ex.names]
/-! ### Ways -/
theorem sf_ : ¬ (("span" : Str) = "first") := by decide +kernel
theorem fs_ : ¬ (("first" : Str) = "span") := by decide +kernel
def wf (s f : Addr) : List (Str × V) := putF "first" (.ref f) (putF "span" (.ref s) [])
theorem wf_eq (s f : Addr) : wf s f = ([("span", V.ref s), ("first", V.ref f)] : List (Str × V)) := by
  show (if ("span" : Str) = "first" then [(("span" : Str), V.ref f)] else (("span" : Str), V.ref s) :: putF "first" (V.ref f) []) = ([("span", V.ref s), ("first", V.ref f)] : List (Str × V))
  rw [if_neg sf_]
  all_goals rfl
theorem wf_first (s f : Addr) : (wf s f).lookup ("first" : Str) = some (.ref f) := by
  unfold wf
  rw [lookup_putF, if_pos rfl]
theorem wf_span (s f : Addr) : (wf s f).lookup ("span" : Str) = some (.ref s) := by
  unfold wf
  rw [lookup_putF, if_neg sf_, lookup_putF, if_pos rfl]
theorem wf_no (s f : Addr) {m : Str} (h1 : ¬ m = "first") (h2 : ¬ m = "span") : (wf s f).lookup m = none := by
  unfold wf
  rw [lookup_putF, if_neg h1, lookup_putF, if_neg h2]
  all_goals rfl
structure WTxt (K : PySem.W.Frag) (mg : Str → Option Value) (C : Addr) : Prop where
  cl : L2.Cls K C
  nS : NoAttr K C "span"
  nF : NoAttr K C "first"
  mgC : mg "Ways" = some (.ref C)
def WaysAt (C : Addr) (H : Hp) (p : Addr) (m : Nat) (E : Nat → List Nat) : Prop := ∃ (dx s f : Addr) (ss ps ns : List Nat), H p = some (.ins C dx (wf s f)) ∧ H s = some (.lst (ss.map iv)) ∧ H f = some (.lst (ps.map iv)) ∧ ss.length = m ∧ ps.length = m ∧
  Dn m (Nf ns) ∧ Szp m (Nf ns) (Nf ss) ∧ Plp m (Nf ns) (Nf ss) (Nf ps) ∧ ∀ b x, b < m → (Ch (Nf ns) x b ↔ ¬ Rc E x b)
theorem WaysAt.same {C : Addr} {H H' : Hp} {p : Addr} {m : Nat} {E : Nat → List Nat} (h : WaysAt C H p m E) (e : Same H H') : WaysAt C H' p m E := by
  obtain ⟨dx, s, f, ss, ps, ns, h1, h2, h3, h4⟩ := h
  exact ⟨dx, s, f, ss, ps, ns, e _ _ h1, e _ _ h2, e _ _ h3, h4⟩
def spWInit (K : PySem.W.Frag) (C : Addr) : Sp := fun vs H Q _ => ∃ (H0 : Hp) (p dx lp : Addr) (lds : List (List Nat)) (m : Nat) (E : Nat → List Nat), vs = [.ref p, .ref lp] ∧ Same H0 H ∧ H0 p = none ∧ H p = some (.ins C dx []) ∧ NL K H0 lp lds ∧ Gr m E lds ∧ (∀ xs ∈ lds, xs.length ≤ 1000) ∧
  ∀ (H' : Hp), Same H0 H' → WaysAt C H' p m E → Q .non H'
abbrev nWInit : List Str := ["self", "leads", "nearest"]
theorem scWInit : FnScope nWInit ["self", "leads"] (defScope sWInit) := ⟨rfl, rfl, rfl, by decide +kernel, rfl, by decide +kernel, by decide +kernel⟩
def spLies (C : Addr) : Sp := fun vs H Q _ => ∃ (p : Addr) (a b m : Nat) (E : Nat → List Nat), vs = [.ref p, iv a, iv b] ∧ WaysAt C H p m E ∧ a < m ∧ b < m ∧ ∀ r : Bool, (r = true ↔ ¬ Rc E a b) → Q (.bl r) H
abbrev nLies : List Str := ["self", "block", "other"]
theorem scLies : FnScope nLies ["self", "block", "other"] (defScope sLies) := ⟨rfl, rfl, rfl, by decide +kernel, rfl, by decide +kernel, by decide +kernel⟩
section
variable {P : Program} {w : World} {K : PySem.W.Frag} {mg : Str → Option Value} {base : Heap}
theorem ok_winit {f C fN fS fP : Addr} {fd fdN fdS fdP : FuncData} {k : Nat} (F : Fun K "__init__" "Ways.__init__" sWInit f fd) (T : WTxt K mg C)
    (DN : Df K mg "nearest_above" sNearest ["leads"] fN fdN) (GN : FnOk P w K mg base CX0 k fN fdN ["leads"] (spNearest K))
    (DS : Df K mg "branch_sizes" sSizes ["nearest"] fS fdS) (GS : FnOk P w K mg base CX0 k fS fdS ["nearest"] (spSizes K))
    (DP : Df K mg "branch_places" sPlaces ["nearest", "sizes"] fP fdP) (GP : FnOk P w K mg base CX0 k fP fdP ["nearest", "sizes"] (spPlaces K)) : FnOk P w K mg base CX0 (k + 1) f fd ["self", "leads"] (spWInit K C) := by
  refine F.ok scWInit (fun vs H Q E h => ?_) (fun cdv A outer s H vs Q E hr h => ?_)
  · obtain ⟨H0, p, dx, lp, lds, m, E', rfl, _⟩ := h
    rfl
  · obtain ⟨H0, p, dx, lp, lds, m, E', rfl, s0, p0, hp, hNL, g, hsz, q⟩ := h
    refine ⟨_, pss_cons (ps_set (i := 2) scWInit.nd rfl (.inl rfl) (pe_call GN hr (by rfl) DN.g DN.F.kp DN.b .nil pass0 (pa_cons (pv 1) pa_nil)))
      (pss_cons (ps_fld (pv 0) (pe_call GS hr (by rfl) DS.g DS.F.kp DS.b .nil pass0 (pa_cons (pv 2) pa_nil)) rfl)
      (pss_one (ps_fld (pv 0) (pe_call GP hr (by rfl) DP.g DP.F.kp DP.b .nil pass0 (pa_cons (pv 2) (pa_cons (pe_fld (pv 0) rfl) pa_nil))) rfl))), ?_⟩
    refine ⟨.ref lp, rfl, lp, lds, m, E', rfl, hNL.same s0, g, hsz, fun na ns H1 nna s1 ena hnl hdn hch => ?_⟩
    have ep1 := s1 _ _ hp
    refine ⟨.ref na, rfl, na, ns, m, rfl, sqL ena, hnl, g.pos, g.le, hdn, fun sa ss H2 nsa s2 esa hsl hS => ?_⟩
    have ep2 := s2 _ _ ep1
    have ena2 := s2 _ _ ena
    have npsa : p ≠ sa := ne_of_none ep1 nsa
    have npna : p ≠ na := ne_of_none hp nna
    have sH2 : Same H0 H2 := (s0.trans s1).trans s2
    refine ⟨_, rfl, p, C, dx, [], rfl, ep2, T.cl, T.nS, (by show 0 < 1000; decide), ?_⟩
    have sH3 := Same.upd (o := .ins C dx (putF "span" (.ref sa) [])) sH2 p0
    have ep3 : upd H2 p (.ins C dx (putF "span" (.ref sa) [])) p = some (.ins C dx (putF "span" (.ref sa) [])) := upd_same
    have ena3 : upd H2 p (.ins C dx (putF "span" (.ref sa) [])) na = some (.lst (ns.map iv)) := by rw [upd_ne npna.symm]; exact ena2
    have esa3 : upd H2 p (.ins C dx (putF "span" (.ref sa) [])) sa = some (.lst (ss.map iv)) := by rw [upd_ne npsa.symm]; exact esa
    generalize upd H2 p (.ins C dx (putF "span" (.ref sa) [])) = H3 at sH3 ep3 ena3 esa3
    have hlk : (putF "span" (.ref sa) [] : List (Str × V)).lookup ("span" : Str) = some (.ref sa) := by rw [lookup_putF, if_pos rfl]
    refine ⟨.ref na, rfl, _, rfl, p, C, dx, _, _, rfl, ep3, T.cl, T.nS, hlk, na, sa, ns, ss, m, rfl, sqL ena3, sqL esa3, hnl, hsl, g.pos, g.le, hdn, fun fa ps H4 nfa s4 efa hpl hP => ?_⟩
    have ep4 := s4 _ _ ep3
    have esa4 := s4 _ _ esa3
    have npfa : p ≠ fa := ne_of_none ep3 nfa
    refine ⟨_, rfl, p, C, dx, _, rfl, ep4, T.cl, T.nF, (by show 1 < 1000; decide), ?_⟩
    exact q _ (Same.upd (sH3.trans s4) p0) ⟨dx, sa, fa, ss, ps, ns, upd_same, by rw [upd_ne npsa.symm]; exact esa4, by rw [upd_ne npfa.symm]; exact efa, hsl, hpl, hdn, hS, hP, hch⟩
theorem ok_lies {f C : Addr} {fd : FuncData} {k : Nat} (F : Fun K "lies" "Ways.lies" sLies f fd) (T : WTxt K mg C) : FnOk P w K mg base CX0 (k + 1) f fd ["self", "block", "other"] (spLies C) := by
  refine F.ok scLies (fun vs H Q E h => ?_) (fun cdv A outer s H vs Q E hr h => ?_)
  · obtain ⟨p, a, b, m, E', rfl, _⟩ := h
    rfl
  · obtain ⟨p, a, b, m, E', rfl, ⟨dx, s, f, ss, ps, ns, h1, h2, h3, h4, h5, hN, hS, hP, hch⟩, ha, hb, q⟩ := h
    refine ⟨_, pss_one (ps_ret (pe_chain op_le op_lt (pe_ix ix_list (pe_fld (pv 0) rfl) (pv 1) (fun _ _ => rfl)) (pe_ix ix_list (pe_fld (pv 0) rfl) (pv 2) (fun _ _ => rfl)) (pe_op op_add (pe_ix ix_list (pe_fld (pv 0) rfl) (pv 1) (fun _ _ => rfl)) (pe_ix ix_list (pe_fld (pv 0) rfl) (pv 1) (fun _ _ => rfl))))), ?_⟩
    have hli := lies_iff hN hS hP ha hb
    rw [hch b a hb] at hli
    refine ⟨_, rfl, p, C, dx, _, _, rfl, h1, T.cl, T.nF, wf_first _ _, iv a, rfl, f, _, _, iv (Nf ps a), rfl, rfl, sqL h3, atI_nat (Nf.at (by omega)), ?_⟩
    refine ⟨_, rfl, p, C, dx, _, _, rfl, h1, T.cl, T.nF, wf_first _ _, iv b, rfl, f, _, _, iv (Nf ps b), rfl, rfl, sqL h3, atI_nat (Nf.at (by omega)), _, _, rfl, rfl, _, rfl, ite2 (fun e => ?_) (fun e => ?_)⟩
    · have e1 : (Nf ps a : Int) ≤ (Nf ps b : Int) := of_decide_eq_true e
      refine ⟨_, rfl, p, C, dx, _, _, rfl, h1, T.cl, T.nF, wf_first _ _, iv a, rfl, f, _, _, iv (Nf ps a), rfl, rfl, sqL h3, atI_nat (Nf.at (by omega)), ?_⟩
      refine ⟨_, rfl, p, C, dx, _, _, rfl, h1, T.cl, T.nS, wf_span _ _, iv a, rfl, s, _, _, iv (Nf ss a), rfl, rfl, sqL h2, atI_nat (Nf.at (by omega)), _, _, rfl, rfl, _, _, rfl, rfl, ?_⟩
      refine q _ ?_
      rw [decide_eq_true_iff, ← hli]
      exact ⟨fun z => ⟨by omega, by omega⟩, fun z => by have := z.2; omega⟩
    · have e1 : ¬ (Nf ps a : Int) ≤ (Nf ps b : Int) := fun z => e (decide_eq_true z)
      refine q false ⟨fun z => (by cases z), fun z => ?_⟩
      have := (hli.mpr z).1
      omega
end
end Gn
set_option Elab.async false
set_option linter.all false
set_option maxRecDepth 100000
set_option maxHeartbeats 4000000
set_option pp.maxSteps 300
namespace Gn
open PySem PySem.Spec PyProof.Rows L2
abbrev scGen : Scope := { kind := .function, names := [(".0", .local), ("block", .cell), ("leads", .free), ("any", .globalImplicit)], isGenerator := true, isCoroutine := false }
/-! ### len(set(..)) of a list of numbers -/
theorem fm_nodup (val : Nat → Int) : ∀ i, (PyProof.Rows.firstMet val i).Nodup
  | 0 => by rw [PyProof.Rows.firstMet_zero]; exact List.nodup_nil
  | i + 1 => by
    rw [PyProof.Rows.firstMet_succ]
    unfold PyProof.Rows.step_dedup
    have ih := fm_nodup val i
    split
    · exact ih
    · rename_i h
      rw [List.nodup_append]
      refine ⟨ih, by simp, fun x hx y hy z => ?_⟩
      rw [List.mem_singleton] at hy
      subst hy
      subst z
      exact h (List.any_eq_true.mpr ⟨_, hx, beq_self_eq_true _⟩)
theorem fm_unl (ns : List Int) : Unl ns (PyProof.Rows.firstMet (fun i => ns.getD i 0) ns.length).length := by
  refine unl_of (fm_nodup _ _) fun x => ?_
  have h := PyProof.Rows.firstMet_any (fun i => ns.getD i 0) ns.length x
  have e : (List.range ns.length).map (fun i => ns.getD i 0) = ns := by
    apply List.ext_getElem
    · simp
    · intro i _ h2
      simp [h2]
  rw [e] at h
  have a1 : ∀ l : List Int, x ∈ l ↔ (l.any fun y => y == x) = true := fun l => by rw [List.any_eq_true]; exact ⟨fun z => ⟨x, z, beq_self_eq_true x⟩, fun ⟨y, z, e⟩ => by rw [← eq_of_beq e]; exact z⟩
  rw [a1, a1 ns, h]
def tLenSetL (K : PySem.W.Frag) (ta : TE) : TE := fun σ H Q => ta σ H fun x H1 => ∃ (l : Addr) (ns : List Int), x = .ref l ∧ SqL K H1 l (ns.map V.int) ∧ ns.length ≤ 4000 ∧ ∀ c, Unl ns c → Q (.int (c : Nat)) H1
theorem pe_lenSetL {X : Cx} {a : Expr} {ta : TE} {p p2 q pos : Pos} (hg : Gl X "len") (hm : X.mg "len" = none) (hg2 : Gl X "set") (hm2 : X.mg "set" = none) (ha : PE X a ta) (hc : X.calm = true := by rfl)
    (na : starEach [a] X.env = (false, eval a X.env) :: starEach [] X.env := by rfl) : PE X (.Call (.Name "len" p) [.Call (.Name "set" p2) [a] [] q] [] pos) (tLenSetL X.K ta) := by
  refine pe_lenSet (R := fun x H1 Q => ∃ (l : Addr) (ns : List Int), x = .ref l ∧ SqL X.K H1 l (ns.map V.int) ∧ ns.length ≤ 4000 ∧ ∀ c, Unl ns c → Q (.int (c : Nat)) H1) hg hm hg2 hm2 ha na fun pins s1 σ H1 Q x v I1 r1 q1 => ?_
  obtain ⟨l, ns, rfl, hq, hl, q1⟩ := q1
  cases r1
  obtain ⟨its, r, pl, hz⟩ := I1.list hq
  have long : its.toArray.size = ns.length := by have := r.length; rw [List.length_map] at this; rw [List.size_toArray, this]
  refine call_set_list (I1.ok.hd hc) pl.isList (by simpa using RZ.intsAre_vals r) (by rw [long]; unfold scanBound; omega) fun h' tk hS hk => ?_
  rw [long] at hS
  obtain ⟨so, _, _, _, there, made, dat, _, _, _, fine, hn⟩ := hS
  have I2 := I1.kept (t' := tk) fun b o e => hk b o (Heap.lt_size e) e
  have hu := fm_unl ns
  have hle := hu.le
  exact call_len_set there made dat fine (by rw [hn] <;> omega) ⟨.int ((PyProof.Rows.firstMet (fun i => ns.getD i 0) ns.length).length : Nat), H1, I2.tok _, ⟨_, by rw [hn]⟩, q1 _ hu⟩
/-! ### an any whose first true test, if there is one, ends it -/
theorem any_wi {J : It} {σ : L2.St} {g : TG} {tt : TT} {te : TE} {vs : List Nat} {Q : VK} (n : Nat) (Φ : Nat → Hp → Prop) {H2 : Hp} (h0 : Φ 0 H2)
    (go : ∀ i H, i < n → Φ i H → J.go i H ∧ ∀ x H', J.yld i H x H' → g x (wipe σ vs) H' fun σ2 H2 => wipe σ2 vs = wipe σ vs ∧ tt σ2 H2 fun ok H3 =>
      if ok = true then te σ2 H3 fun y H4 => ∃ c : Bool, y = .bl c ∧ (c = true → Q (.bl true) H4) ∧ (c ≠ true → Φ (i + 1) H4) else Φ (i + 1) H3)
    (stop : ∀ H, Φ n H → J.stop n H ∧ Q (.bl false) H) : ∃ W : Nat → Nat → Hp → Prop, (∃ m, W 0 m H2) ∧ ∀ i m H, W i m H → Gx.tTurn true J σ g tt te vs Q W i m H := by
  refine ⟨fun i m H => m = n - i ∧ i ≤ n ∧ Φ i H, ⟨n, by simp, Nat.zero_le _, h0⟩, ?_⟩
  rintro i m H ⟨rfl, hi, hΦ⟩
  by_cases hlt : i < n
  · obtain ⟨a, b⟩ := go i H hlt hΦ
    exact .inr ⟨a, Φ (i + 1), fun H' h' => ⟨n - (i + 1), by omega, rfl, hlt, h'⟩, b⟩
  · have e : i = n := by omega
    subst e
    exact .inl (stop H hΦ)
/-! ### can_lead_to, is_led -/
def canLead (bs : List Int) (m : Nat) : Bool := decide bs.Nodup && bs.all fun b => decide (0 < b) && decide (b < (m : Int))
def spCanLead (K : PySem.W.Frag) (Ts : List Addr) (D : Addr) : Sp := fun vs H Q _ => ∃ (np : Addr) (bs : List Int) (m : Nat), vs = [.ref np, iv m] ∧ SqL K (nt H) np (bs.map V.int) ∧ bs.length ≤ 100 ∧ Tbs Ts D H ∧ ∀ H', LamX.ExtN H H' → Tbs Ts D H' → Q (.bl (canLead bs m)) H'
abbrev nCanLead : List Str := ["named", "many", "block"]
theorem scCanLead : FnScope nCanLead ["named", "many"] (defScope sCanLead) := ⟨rfl, rfl, rfl, by decide +kernel, rfl, by decide +kernel, by decide +kernel⟩
/-- whether block k has a lesser lead -/
def lesser (pr : List Blk) (k : Nat) : Bool := (spec pr pr.length k).any fun j => decide (j < k)
def ledB (pr : List Blk) : Bool := (pr.all fun b => canLead b.2.nmI pr.length) && (List.range (pr.length - 1)).all fun k => lesser pr (k + 1)
def spLed (K : PySem.W.Frag) (Ts : List Addr) (D : Addr) : Sp := fun vs H Q _ => ∃ (v : V) (pr : List Blk), vs = [v] ∧ ProgAt K (nt H) v pr ∧ 1 ≤ pr.length ∧ pr.length ≤ 100 ∧ Tbs Ts D H ∧ ∀ H', LamX.ExtN H H' → Tbs Ts D H' → Q (.bl (ledB pr)) H'
abbrev nLed : List Str := ["program", "leads", "rows", "end", "block", "lead"]
theorem scLed : FnScope nLed ["program"] (defScope sIsLed) := ⟨rfl, rfl, rfl, by decide +kernel, rfl, by decide +kernel, by decide +kernel⟩
theorem any_take {α : Type} (p : α → Bool) {xs : List α} {i : Nat} {x : α} (h : xs[i]? = some x) : (xs.take (i + 1)).any p = ((xs.take i).any p || p x) := by
  rw [List.take_add_one, h, List.any_append]
  simp
theorem any_yes {α : Type} {p : α → Bool} {xs : List α} {i : Nat} {x : α} (h : xs[i]? = some x) (e : p x = true) : xs.any p = true := List.any_eq_true.mpr ⟨x, List.mem_of_getElem? h, e⟩
section
variable {P0 : Program} {w : World} {K : PySem.W.Frag} {mg : Str → Option Value} {base : Heap} {Ts : List Addr} {Dd : Addr}
theorem ok_canLead {f c P : Addr} {fd : FuncData} {k : Nat} (D : DfC K mg "can_lead_to" sCanLead ["named", "many"] f fd c) (B : Bi mg) (TB : GxR.TabB base mg c P) (hP : P ∈ Ts) (hTs : TsOk Ts Dd) :
    FnOk P0 w K mg base CX0 (k + 3 + 1) f fd ["named", "many"] (spCanLead K Ts Dd) := by
  refine D.F.ok scCanLead (fun vs H Q E h => ?_) (fun A outer s H vs Q E hr h => ?_)
  · obtain ⟨np, bs, m, rfl, _⟩ := h
    rfl
  · obtain ⟨np, bs, m, rfl, hp, hl, hT, q⟩ := h
    refine ⟨_, (pss_one (ps_ret (pe_and (pe_cmpR op_eq (pe_lenSetL (by rfl) B.len (by rfl) B.set (pv 0)) (pe_callB call_len_seq (by rfl) B.len PySem.boot_len (pa_cons (pv 0) pa_nil)) (nomark _)) (pe_one (Gx.pe_allG (k := k) (own := [("block", 2)]) (g := gName 2) (tt := tYes) (te := tChain (rI0 fun i j => .bl (decide (i < j))) (rI0 fun i j => .bl (decide (i < j))) (tC (.int 0)) (tVar 2) (tVar 1)) rfl hr scCanLead.nd (by rfl) B.all (by decide +kernel) TB rfl
      (blkOk_by (own := [("block", 2)]) (N := nCanLead) (sc := defScope sCanLead) (by decide +kernel)) (by decide +kernel) (by rfl) (by rfl)
      (pi_list (pv 0)) (fun _ _ _ _ _ _ _ _ _ => pg_name (i := 2) scCanLead.nd rfl (.inl rfl)) (fun _ _ _ _ _ _ _ _ _ => pts_nil)
      (fun A' _ _ _ _ _ _ _ hr' => (pe_chain op_lt op_lt pe_int (pv 2) (pv 1))) (fun _ => rfl)))))), ?_⟩
    refine ⟨_, rfl, np, bs, rfl, ntL hp, by omega, fun c hc => ⟨_, rfl, np, _, rfl, .inl (ntL hp), rfl, _, rfl, ite2 (fun e => ?_) (fun e => ?_)⟩⟩
    · have hnd : bs.Nodup := by
        refine hc.iff.mp ?_
        have := V.int.inj (of_decide_eq_true e)
        rw [List.length_map] at this
        omega
      have q' : ∀ H', LamX.ExtN H H' → Tbs Ts Dd H' → Q (.bl (bs.all fun b => decide (0 < b) && decide (b < (m : Int)))) H' := fun H' a b => by
        have := q H' a b
        unfold canLead at this
        rw [decide_eq_true hnd, Bool.true_and] at this
        exact this
      refine ⟨_, rfl, np, rfl, ⟨_, ntL hp⟩, hT.g P hP, fun H2 hTb => ?_⟩
      obtain ⟨hT2, e2⟩ := hT.tabbed hP (hTs.ne hP) hTb
      have at_ : ∀ {H' : Hp}, LamX.ExtN H H' → SqL K H' np (bs.map V.int) := fun e => ntL ((ext_nt e).seq hp)
      refine all_wi bs.length (fun i H' => LamX.ExtN H H' ∧ Tbs Ts Dd H' ∧ ((bs.take i).all fun b => decide (0 < b) && decide (b < (m : Int))) = true) ⟨e2, hT2, rfl⟩ (fun i H3 hi hΦ => ?_) (fun H3 hΦ => ⟨⟨_, at_ hΦ.1, by rw [List.length_map]; exact Nat.le_refl _⟩, ?_⟩)
      · have h3 := at_ hΦ.1
        refine ⟨⟨_, _, h3, by rw [List.getElem?_map, List.getElem?_eq_getElem hi]; rfl⟩, fun x H' y => ?_⟩
        obtain ⟨e1, y⟩ := y
        subst e1
        have ex := y _ h3
        have hbi := List.getElem?_eq_getElem hi
        rw [List.getElem?_map, hbi] at ex
        cases ex
        generalize bs[i] = b at hbi
        have no : (decide (0 < b) && decide (b < (m : Int))) = false → Q (.bl false) H' := fun e => by
          have := q' H' hΦ.1 hΦ.2.1
          rw [all_no hbi e] at this
          exact this
        refine ⟨rfl, _, rfl, _, _, rfl, rfl, _, rfl, ite2 (fun e => ⟨_, rfl, _, _, rfl, rfl, _, rfl, fun e3 => no ?_, fun e3 => ⟨hΦ.1, hΦ.2.1, ?_⟩⟩) (fun e => ⟨_, rfl, fun _ => no ?_, fun e3 => absurd rfl e3⟩)⟩
        · rw [e3, Bool.and_false]
        · rw [all_take _ hbi, hΦ.2.2, e]
          simpa using e3
        · rw [Bool.eq_false_iff.mpr e, Bool.false_and]
      · have := q' _ hΦ.1 hΦ.2.1
        rw [← hΦ.2.2, List.take_length]
        exact this
    · have hnd : ¬ bs.Nodup := fun z => e (by
        refine decide_eq_true ?_
        rw [hc.iff.mpr z, List.length_map])
      have := q H (LamX.ExtN.refl H) hT
      unfold canLead at this
      rw [decide_eq_false hnd, Bool.false_and] at this
      exact this
theorem ok_led {f c fC fN fO cC : Addr} {fd fdC fdN fdO : FuncData} {k : Nat} (D : DfC K mg "is_led" sIsLed ["program"] f fd c) (B : Bi mg) (TB : GxR.TabB base mg c Dd)
    (DC : DfC K mg "can_lead_to" sCanLead ["named", "many"] fC fdC cC) (GC : FnOk P0 w K mg base CX0 (k + 3) fC fdC ["named", "many"] (spCanLead K Ts Dd))
    (DN : Df K mg "blocks_named" sNamed ["end"] fN fdN) (GN : FnOk P0 w K mg base CX0 (k + 3) fN fdN ["end"] (spNamed K))
    (DO : Df K mg "leads_of" sLeadsOf ["program"] fO fdO) (GO : FnOk P0 w K mg base CX0 (k + 3 + 3) fO fdO ["program"] (spLeadsOf K)) :
    FnOk P0 w K mg base CX0 (k + 3 + 3 + 1) f fd ["program"] (spLed K Ts Dd) := by
  refine D.F.ok scLed (fun vs H Q E h => ?_) (fun A outer s H vs Q E hr h => ?_)
  · obtain ⟨v, pr, rfl, _⟩ := h
    rfl
  · obtain ⟨v, pr, rfl, ⟨p, bs, rfl, hp, hbs⟩, h1, h12, hT, q⟩ := h
    refine ⟨_, (pss_cons (ps_if (pt_not (pt_val (Gx.pe_allD (k := k + 3) (own := [("rows", 2), ("end", 3)]) (g := gTup K 2 (gCons (gName 2) (gCons (gName 3) gNil))) (tt := tYes) (te := tCall (spCanLead K Ts Dd) [] E0 (tCons (tCall (spNamed K) [] E0 (tCons (tVar 3) tNil)) (tCons (tCB (Evl.rLenS K) (tCons (tVar 0) tNil)) tNil))) rfl hr scLed.nd (by rfl) B.all (by decide +kernel) TB rfl
      (blkOk_by (own := [("rows", 2), ("end", 3)]) (N := nLed) (sc := defScope sIsLed) (by decide +kernel)) (by rfl) (by rfl)
      (pi_list (pv 0)) (fun _ _ _ _ _ _ _ _ _ _ => (pg_tup rfl (pgs_cons (pg_name (i := 2) scLed.nd rfl (.inl rfl)) (pgs_cons (pg_name (i := 3) scLed.nd rfl (.inl rfl)) pgs_nil)))) (fun _ _ _ _ _ _ _ _ _ _ => pts_nil)
      (fun A' _ _ _ _ _ _ _ hr' _ => pe_call GC hr' (by rfl) DC.g DC.F.kp DC.b .nil pass0 (pa_cons (pe_call GN hr' (by rfl) DN.g DN.F.kp DN.b .nil pass0 (pa_cons (pv 3) pa_nil)) (pa_cons (pe_callB call_len_seq (by rfl) B.len PySem.boot_len (pa_cons (pv 0) pa_nil)) pa_nil))) (fun _ => rfl)))) (pss_one (ps_ret pe_bl)) pss_nil)
      (pss_cons (ps_set (i := 1) scLed.nd rfl (.inr rfl) (pe_call GO hr (by rfl) DO.g DO.F.kp DO.b .nil pass0 (pa_cons (pv 0) pa_nil)))
      (pss_one (ps_ret (Gx.pe_allD (k := k + 3) (own := [("block", 4)]) (g := gName 4) (tt := tYes) (te := Gx.tGd true Dd (iList K (tIxL K (tVar 1) (tVar 4))) (gName 5) tYes (tOp (rI0 fun i j => .bl (decide (i < j))) (tVar 5) (tVar 4)) [5]) rfl hr scLed.nd (by rfl) B.all (by decide +kernel) TB rfl
      (blkOk_by (own := [("block", 4)]) (N := nLed) (sc := defScope sIsLed) (by decide +kernel)) (by rfl) (by rfl)
      (pi_range2 (by rfl) B.range (pa_cons pe_int (pa_cons (pe_callB call_len_seq (by rfl) B.len PySem.boot_len (pa_cons (pv 0) pa_nil)) pa_nil))) (fun _ _ _ _ _ _ _ _ _ _ => pg_name (i := 4) scLed.nd rfl (.inr rfl)) (fun _ _ _ _ _ _ _ _ _ _ => pts_nil)
      (fun A' _ _ _ _ _ _ _ hr' hin => (Gx.pe_anyN (k := k) (own := [("lead", 5)]) (g := gName 5) (tt := tYes) (te := tOp (rI0 fun i j => .bl (decide (i < j))) (tVar 5) (tVar 4)) rfl hr' scLed.nd (by rfl) B.any TB.bm hin
        (blkOk_by (own := [("lead", 5)]) (N := nLed) (sc := scGen) (by decide +kernel)) (by rfl) (by rfl)
        (pi_list (pe_ix ix_list (pv 1) (pv 4) (fun _ _ => rfl))) (fun _ _ _ _ _ _ _ _ _ => pg_name (i := 5) scLed.nd rfl (.inl rfl)) (fun _ _ _ _ _ _ _ _ _ => pts_nil)
        (fun _ _ _ _ _ _ _ _ _ => pe_cmpR op_lt (pv 5) (pv 4) (nomark _)) (fun _ => rfl))) (fun _ => rfl)))))), ?_⟩
    have hbl : bs.length = pr.length := pd_len hbs
    have at_ : ∀ {H' : Hp}, LamX.ExtN H H' → SqL K H' p bs := fun e => ntL ((ext_nt e).seq hp)
    have tt : ¬ ((!true) = true) := by intro h; cases h
    refine ⟨_, rfl, p, rfl, ⟨_, ntL hp⟩, hT.d, fun H2 kt d2 => ?_⟩
    have hT2 := hT.kt kt d2
    refine all_wi bs.length (fun i H' => LamX.ExtN H H' ∧ Tbs Ts Dd H' ∧ ((pr.take i).all fun b => canLead b.2.nmI pr.length) = true) ⟨kt.1, hT2, rfl⟩ (fun i H3 hi hΦ => ?_) (fun H3 hΦ => ⟨⟨_, at_ hΦ.1, Nat.le_refl _⟩, true, rfl, ifN tt ?_⟩)
    · have h3 := at_ hΦ.1
      refine ⟨⟨_, _, h3, List.getElem?_eq_getElem hi⟩, fun x H' y => ?_⟩
      obtain ⟨e1, y⟩ := y
      subst e1
      obtain ⟨b, hb1, pb, ra, ea, us, rfl, g1, g2, g3, g4⟩ := pd_at2 hbs (y _ h3)
      refine ⟨pb, _, rfl, ntT (Same.tup (ext_nt hΦ.1) g1), rfl, _, _, rfl, _, _, rfl, rfl, rfl, ?_⟩
      refine ⟨ea, rfl, ea, b.2, rfl, (g4.same (ext_nt hΦ.1)).same (nt_same _), fun np H4 nnp s4 enp => ?_⟩
      have e4 : LamX.ExtN H H4 := hΦ.1.trans (same_ext s4)
      refine ⟨_, rfl, p, _, rfl, .inl (at_ e4), np, b.2.nmI, bs.length, rfl, sqL (nt_at enp (fun ps z => by cases z)), (by cases b.2 <;> simp [En.nmI]), hΦ.2.1.same s4, fun H5 e5 t5 => ⟨_, rfl, fun e => ⟨_, rfl, ifP (by rfl) ?_⟩, fun e => ⟨e4.trans e5, t5, ?_⟩⟩⟩
      · have := q _ (e4.trans e5) t5
        rw [hbl] at e
        unfold ledB at this
        rw [all_no hb1 e, Bool.false_and] at this
        exact this
      · rw [hbl] at e
        rw [all_take _ hb1, hΦ.2.2]
        simpa using e
    · have hall := hΦ.2.2
      rw [hbl, List.take_length] at hall
      have hcl : ∀ b ∈ pr, b.2.nmI.Nodup ∧ ∀ y ∈ b.2.nmI, 0 < y ∧ y < (pr.length : Int) := fun b hb => by
        have := List.all_eq_true.mp hall b hb
        unfold canLead at this
        rw [Bool.and_eq_true, List.all_eq_true] at this
        refine ⟨of_decide_eq_true this.1, fun y hy => ?_⟩
        have := this.2 y hy
        rw [Bool.and_eq_true] at this
        exact ⟨of_decide_eq_true this.1, of_decide_eq_true this.2⟩
      have q' : ∀ H', LamX.ExtN H H' → Tbs Ts Dd H' → Q (.bl ((List.range (pr.length - 1)).all fun k => lesser pr (k + 1))) H' := fun H' a b => by
        have := q H' a b
        unfold ledB at this
        rw [hall, Bool.true_and] at this
        exact this
      refine ⟨_, rfl, _, pr, rfl, ⟨p, bs, rfl, at_ hΦ.1, pd_mono hbs fun _ _ z => (z.same (ext_nt hΦ.1)).same (nt_same _)⟩, by omega, fun b hb y hy => ⟨by have := (hcl b hb).2 y hy; omega, ((hcl b hb).2 y hy).2⟩, fun b _ => nm_len b.2, fun lp qs H4 s4 hLL => ?_⟩
      have e4 : LamX.ExtN H H4 := hΦ.1.trans (same_ext s4)
      have hT4 := hΦ.2.1.same s4
      refine ⟨_, rfl, p, _, rfl, .inl (at_ e4), 1, bs.length, rfl, ⟨by decide, by decide, by omega, by omega⟩, hT4.d, fun H5 kt5 d5 => ?_⟩
      have hT5 := hT4.kt kt5 d5
      have hm1 : ((bs.length : Int) - 1).toNat = pr.length - 1 := by omega
      refine all_wi ((bs.length : Int) - 1).toNat (fun i H' => LamX.ExtN H4 H' ∧ Tbs Ts Dd H' ∧ (((List.range (pr.length - 1)).take i).all fun k => lesser pr (k + 1)) = true) ⟨kt5.1, hT5, rfl⟩ (fun i H6 hi hΦ6 => ⟨hi, fun x H' y => ?_⟩) (fun H6 hΦ6 => ⟨Nat.le_refl _, ?_⟩)
      · obtain ⟨e1, ex⟩ := y
        subst e1
        have ex : x = iv (i + 1) := by
          rw [ex]
          show V.int _ = V.int _
          congr 1
          omega
        subst ex
        have hb : i + 1 < pr.length := by omega
        have hri : (List.range (pr.length - 1))[i]? = some i := List.getElem?_range (by omega)
        have hbq : i + 1 < qs.length := by rw [hLL.len]; exact hb
        have hq := List.getElem?_eq_getElem hbq
        have nl : ∀ {zs : List V} (ps : Array Value), HO.lst zs ≠ .tbl ps := fun ps z => by cases z
        have at6 : ∀ {H' : Hp}, LamX.ExtN H4 H' → H' qs[i + 1] = some (.lst ((spec pr pr.length (i + 1)).map iv)) := fun e => e _ _ (hLL.at_ _ _ hq) nl
        have tp6 := hΦ6.1 _ _ hLL.top nl
        refine ⟨rfl, .ref lp, rfl, iv (i + 1), rfl, lp, _, _, .ref qs[i + 1], rfl, rfl, sqL tp6, atI_nat (by rw [List.getElem?_map, hq]; rfl), qs[i + 1], rfl, ⟨_, sqL (at6 hΦ6.1)⟩, hΦ6.2.1.d, fun H7 kt7 d7 => ?_⟩
        refine any_wi (spec pr pr.length (i + 1)).length (fun n H' => LamX.ExtN H4 H' ∧ Tbs Ts Dd H' ∧ ((spec pr pr.length (i + 1)).take n).any (fun j => decide (j < i + 1)) = false) ⟨hΦ6.1.trans kt7.1, hΦ6.2.1.kt kt7 d7, rfl⟩ (fun n H8 hn hΦ8 => ?_) (fun H8 hΦ8 => ⟨⟨_, sqL (at6 hΦ8.1), by rw [List.length_map]; exact Nat.le_refl _⟩, false, rfl, fun _ => ?_, fun e => absurd rfl e⟩)
        · have h8 := sqL (K := K) (at6 hΦ8.1)
          refine ⟨⟨_, _, h8, by rw [List.getElem?_map, List.getElem?_eq_getElem hn]; rfl⟩, fun x H' y => ?_⟩
          obtain ⟨e1, y⟩ := y
          subst e1
          have ex := y _ h8
          have hsn := List.getElem?_eq_getElem hn
          rw [List.getElem?_map, hsn] at ex
          cases ex
          generalize (spec pr pr.length (i + 1))[n] = j at hsn
          have ej : decide ((j : Int) < ((i + 1 : Nat) : Int)) = decide (j < i + 1) := decide_eq_decide.mpr (by omega)
          refine ⟨rfl, _, rfl, _, rfl, _, _, rfl, rfl, decide ((j : Int) < ((i + 1 : Nat) : Int)), rfl, fun e => ⟨true, rfl, fun e => (by cases e), fun _ => ⟨hΦ8.1, hΦ8.2.1, ?_⟩⟩, fun e => ⟨hΦ8.1, hΦ8.2.1, ?_⟩⟩
          · rw [ej] at e
            rw [all_take _ hri, hΦ6.2.2]
            show (true && lesser pr (i + 1)) = true
            unfold lesser
            rw [any_yes hsn e]
            rfl
          · rw [ej] at e
            rw [any_take _ hsn, hΦ8.2.2]
            simpa using e
        · have h9 := hΦ8.2.2
          rw [List.take_length] at h9
          have := q' _ (e4.trans hΦ8.1) hΦ8.2.1
          rw [all_no hri (show lesser pr (i + 1) = false from h9)] at this
          exact this
      · have := q' _ (e4.trans hΦ6.1) hΦ6.2.1
        have h9 := hΦ6.2.2
        rw [hm1, List.take_of_length_le (by rw [List.length_range]; exact Nat.le_refl _)] at h9
        rw [h9] at this
        exact this
end
end Gn
set_option Elab.async false
set_option linter.all false
namespace PySem.AutoSeq1
set_option maxRecDepth 8000 in
theorem own_extend (l b : Addr) (xs ys : Array Value) (n m : Nat) (dd : Option Addr) (sl : Array (Option Value)) (h0 : ¬(!xs.isEmpty && Builtin.List.listTooLong (xs.size + ys.size)) = true) (h1 : xs.size ≤ sizeLine) (h2 : xs.size + ys.size ≤ sizeLine + 1) :
    Meets (Builtin.«list.extend» ⟨[.ref l, .ref b], []⟩) (fun _ R s => s.heap.get? l = some { cls := .type "list", dict := none, data := .seq xs n, slots := #[] } ∧ s.heap.get? b = some { cls := .type "tuple", dict := dd, data := .seq ys m, slots := sl } ∧
      R (.ok (.ret Value.none)) { s with heap := s.heap.update l (Obj.mapSeq fun x => x ++ ys), toks := s.toks }) := by
  refine .of_wp fun prog w A R s h => ?_
  obtain ⟨hp, g, d, tk, os⟩ := s
  obtain ⟨hl, hb, h⟩ := h
  have f1 := idx_int
  have f2 := sub_tuple_tuple
  have f3 := sub_list_list
  have f4 := sub_tuple_list
  have f5 := sub_list_tuple
  have hz' : (xs ++ ys).size ≤ sizeLine + 1 := by rw [Array.size_append]; exact h2
  wp_walk using (wpAny_updateSeq hl rfl (hz := h1) (_hz' := hz')), wpAny_loadPart' hl, wpAny_loadPart' hb
  exact ⟨_, rfl, h⟩
end PySem.AutoSeq1
namespace Gn
open PySem PySem.Spec PyProof.Rows L2
/-! ### xs.extend(t), t a tuple -/
def rExtendT (K : PySem.W.Frag) : V → List V → Hp → VK → Prop := fun x vs H Q => ∃ l b xs zs, x = .ref l ∧ vs = [.ref b] ∧ H l = some (.lst xs) ∧ SqT K H b zs ∧ xs.length + zs.length ≤ sizeLine ∧ Q .non (upd H l (.lst (xs ++ zs)))
theorem mt_extendT {X : Cx} : MtM X "list.extend" (rExtendT X.K) := by
  intro pins s σ H x vs v us Q I rx rv h
  obtain ⟨l, b, as, bs, rfl, rfl, hl, hb, hle, q⟩ := h
  cases rx
  obtain ⟨u, rfl, ru⟩ := rv.one
  cases ru
  obtain ⟨zl, vl, nl, rl, ll, el⟩ := I.lstM hl
  obtain ⟨vb, rb, ⟨⟨cb, db, data, sb⟩, eb, kb, nb, hd⟩, zb⟩ := I.tuple hb
  simp only at kb hd
  subst kb hd
  have lb := rb.length
  have both : vl.toArray.size + vb.toArray.size ≤ sizeLine := by simp only [List.size_toArray]; omega
  have door : ¬ (!vl.toArray.isEmpty && Builtin.List.listTooLong (vl.toArray.size + vb.toArray.size)) = true := by
    rw [notLongL both, Bool.and_false]
    decide
  refine call_meets F.slot_list_extend ⟨_, el, rfl⟩ F.entry_list_extend (F.args_list_extend_2 _ _) (AutoSeq1.own_extend l b vl.toArray vb.toArray nl nb db sb door (by simp only [List.size_toArray]; omega) (by omega)) ⟨el, eb, ?_⟩
  refine ⟨.non, _, I.lset (its' := vl ++ vb) hl el (by simp) (rl.append rb) ?_, rfl, q⟩
  simp only [List.length_append]
  omega
end Gn
set_option Elab.async false
set_option linter.all false
set_option maxRecDepth 100000
set_option maxHeartbeats 4000000
set_option pp.maxSteps 300
namespace Gn
open PySem PySem.Spec PyProof.Rows L2
/-! ### what a row names -/
def Rz.nms : Rz → List Int
  | .take _ => []
  | .num _ => []
  | .bin _ x y => [x, y]
  | .pick x ps => x :: ps
  | .meet ps => ps
  | .tell x => [x]
  | .look _ x => [x]
  | .lay _ x y => [x, y]
def En.nms : En → List Int
  | .iff r _ _ => [r]
  | _ => []
/-- the numbers that one part names -/
def NmOk (K : PySem.W.Frag) (I : Hp) (kd : Str) (x : V) (ns : List Int) : Prop := (kd = "row" ∧ ∃ n : Int, x = .int n ∧ ns = [n]) ∨ (kd = "parts" ∧ ∃ q, x = .ref q ∧ SqT K I q (ns.map V.int)) ∨ (kd ≠ "row" ∧ kd ≠ "parts" ∧ ns = [])
theorem NmOk.same {K : PySem.W.Frag} {I J : Hp} {kd : Str} {x : V} {ns : List Int} (h : NmOk K I kd x ns) (e : Same I J) : NmOk K J kd x ns := by
  rcases h with h | ⟨h, q, a, b⟩ | h
  · exact .inl h
  · exact .inr (.inl ⟨h, q, a, Same.tup e b⟩)
  · exact .inr (.inr h)
/-- part by part -/
inductive Nms (K : PySem.W.Frag) (I : Hp) : List V → List Str → List (List Int) → Prop
  | nil : Nms K I [] [] []
  | cons {x : V} {kd : Str} {ns : List Int} {xs : List V} {ks : List Str} {nss : List (List Int)} (h : NmOk K I kd x ns) (t : Nms K I xs ks nss) : Nms K I (x :: xs) (kd :: ks) (ns :: nss)
theorem Nms.len {K : PySem.W.Frag} {I : Hp} {xs : List V} {ks : List Str} {nss : List (List Int)} (h : Nms K I xs ks nss) : xs.length = ks.length ∧ nss.length = ks.length := by
  induction h with
  | nil => exact ⟨rfl, rfl⟩
  | cons h t ih => simp [ih.1, ih.2]
theorem Nms.at_ {K : PySem.W.Frag} {I : Hp} {xs : List V} {ks : List Str} {nss : List (List Int)} (h : Nms K I xs ks nss) : ∀ {i : Nat} {x : V} {kd : Str}, xs[i]? = some x → ks[i]? = some kd → ∃ ns, nss[i]? = some ns ∧ NmOk K I kd x ns := by
  induction h with
  | nil => intro i x kd e; simp at e
  | cons h t ih =>
    intro i x kd e1 e2
    cases i with
    | zero => cases e1; cases e2; exact ⟨_, rfl, h⟩
    | succ i => exact ih e1 e2
def Rz.kdS : Rz → List Str
  | .take _ => ["place"]
  | .num _ => ["number"]
  | .bin _ _ _ => ["row", "row"]
  | .pick _ _ => ["row", "parts"]
  | .meet _ => ["parts"]
  | .tell _ => ["row"]
  | .look _ _ => ["rooms", "row"]
  | .lay _ _ _ => ["rooms", "row", "row"]
theorem rz_kds (r : Rz) : rowKd r.w = some r.kdS := by
  cases r with
  | bin b x y => cases b <;> rfl
  | _ => rfl
theorem row_nms {K : PySem.W.Frag} {I : Hp} {v : V} {r : Rz} (h : RzAt K I v r) : ∃ p ps nss, v = .ref p ∧ SqT K I p (.str r.w :: ps) ∧ Nms K I ps r.kdS nss ∧ nss.flatten = r.nms := by
  obtain ⟨p, xs, h1, h2, h3⟩ := h.at
  have no : ∀ {kd : Str} {x : V}, kd ≠ "row" → kd ≠ "parts" → NmOk K I kd x [] := fun a b => .inr (.inr ⟨a, b, rfl⟩)
  have one : ∀ {n : Int}, NmOk K I "row" (.int n) [n] := fun {n} => .inl ⟨rfl, n, rfl, rfl⟩
  have pts : ∀ {v : V} {qs : List Int}, DtAt K I v (intsD qs) → NmOk K I "parts" v qs := fun h => by
    obtain ⟨q, rfl, hq⟩ := intsD_at h
    exact .inr (.inl ⟨rfl, q, rfl, hq⟩)
  cases r with
  | take i => cases h3 with | cons h0 ht => cases ht; exact ⟨p, _, _, h1, h2, .cons (no (by decide) (by decide)) .nil, rfl⟩
  | num n => cases h3 with | cons h0 ht => cases ht; exact ⟨p, _, _, h1, h2, .cons (no (by decide) (by decide)) .nil, rfl⟩
  | bin b x y =>
    have e := ints_at (ps := [x, y]) h3
    subst e
    exact ⟨p, _, _, h1, h2, .cons one (.cons one .nil), rfl⟩
  | pick x qs =>
    cases h3 with
    | cons h0 ht =>
      cases ht with
      | cons h4 ht =>
        cases ht
        cases h0
        exact ⟨p, _, _, h1, h2, .cons one (.cons (pts h4) .nil), by simp [Rz.nms]⟩
  | meet qs =>
    cases h3 with
    | cons h4 ht =>
      cases ht
      exact ⟨p, _, _, h1, h2, .cons (pts h4) .nil, by simp [Rz.nms]⟩
  | tell x => cases h3 with | cons h0 ht => cases ht; cases h0; exact ⟨p, _, _, h1, h2, .cons one .nil, rfl⟩
  | look rs x =>
    cases h3 with
    | cons h0 ht =>
      cases ht with
      | cons h4 ht =>
        cases ht
        cases h4
        exact ⟨p, _, _, h1, h2, .cons (no (by decide) (by decide)) (.cons one .nil), rfl⟩
  | lay rs x y =>
    cases h3 with
    | cons h0 ht =>
      have e := ints_at (ps := [x, y]) ht
      subst e
      exact ⟨p, _, _, h1, h2, .cons (no (by decide) (by decide)) (.cons one (.cons one .nil)), rfl⟩
theorem en_nms {K : PySem.W.Frag} {I : Hp} {v : V} {e : En} (h : EnAt K I v e) : ∃ p ps nss, v = .ref p ∧ SqT K I p (.str e.word :: ps) ∧ Nms K I ps e.kds nss ∧ nss.flatten = e.nms := by
  obtain ⟨p, xs, h1, h2, h3⟩ := h.at
  have hx := en_vs h3
  subst hx
  have no : ∀ {kd : Str} {x : V}, kd ≠ "row" → kd ≠ "parts" → NmOk K I kd x [] := fun a b => .inr (.inr ⟨a, b, rfl⟩)
  cases e with
  | go b => exact ⟨p, _, _, h1, h2, .cons (no (by decide) (by decide)) .nil, rfl⟩
  | iff r b c => exact ⟨p, _, _, h1, h2, .cons (.inl ⟨rfl, r, rfl, rfl⟩) (.cons (no (by decide) (by decide)) (.cons (no (by decide) (by decide)) .nil)), rfl⟩
  | fin => exact ⟨p, _, _, h1, h2, .nil, rfl⟩
def spNumsIn (K : PySem.W.Frag) : Sp := fun vs H Q _ => ∃ (p kt : Addr) (wd : Str) (ps : List V) (kds : List Str) (nss : List (List Int)), vs = [.ref p, .ref kt] ∧ SqT K H p (.str wd :: ps) ∧ (∀ H', SqT K H' kt (kds.map V.str)) ∧ Nms K H ps kds nss ∧ nss.flatten.length ≤ 10000 ∧
  ∀ (a : Addr) (H' : Hp), H a = none → Same H H' → H' a = some (.lst (nss.flatten.map V.int)) → Q (.ref a) H'
abbrev nNumsIn : List Str := ["thing", "kinds", "named", "kind", "part"]
theorem scNumsIn : FnScope nNumsIn ["thing", "kinds"] (defScope sNumbersIn) := ⟨rfl, rfl, rfl, by decide +kernel, rfl, by decide +kernel, by decide +kernel⟩
def spRowsNamed (K : PySem.W.Frag) : Sp := fun vs H Q _ => ∃ (v : V) (r : Rz), vs = [v] ∧ RzAt K H v r ∧ r.nms.length ≤ 10000 ∧ ∀ (a : Addr) (H' : Hp), H a = none → Same H H' → H' a = some (.lst (r.nms.map V.int)) → Q (.ref a) H'
def spRowsTested (K : PySem.W.Frag) : Sp := fun vs H Q _ => ∃ (v : V) (e : En), vs = [v] ∧ EnAt K H v e ∧ ∀ (a : Addr) (H' : Hp), H a = none → Same H H' → H' a = some (.lst (e.nms.map V.int)) → Q (.ref a) H'
def spHasWorth (K : PySem.W.Frag) : Sp := fun vs H Q _ => ∃ (v : V) (r : Rz), vs = [v] ∧ RzAt K H v r ∧ Q (.bl r.worthy) H
def spIsMeetR (K : PySem.W.Frag) : Sp := fun vs H Q _ => ∃ (v : V) (r : Rz), vs = [v] ∧ RzAt K H v r ∧ Q (.bl (decide (r.w = "meet"))) H
abbrev nRowP : List Str := ["row"]
theorem scRowP : FnScope nRowP ["row"] (defScope sRowsNamed) := ⟨rfl, rfl, rfl, by decide +kernel, rfl, by decide +kernel, by decide +kernel⟩
theorem scHasW : FnScope nRowP ["row"] (defScope sHasWorth) := ⟨rfl, rfl, rfl, by decide +kernel, rfl, by decide +kernel, by decide +kernel⟩
theorem scIsMt : FnScope nRowP ["row"] (defScope sIsMeet) := ⟨rfl, rfl, rfl, by decide +kernel, rfl, by decide +kernel, by decide +kernel⟩
theorem scEndP : FnScope ["end"] ["end"] (defScope sRowsTested) := ⟨rfl, rfl, rfl, by decide +kernel, rfl, by decide +kernel, by decide +kernel⟩
section
variable {P0 : Program} {w : World} {K : PySem.W.Frag} {mg : Str → Option Value} {base : Heap}
theorem ok_hasWorth {f gW : Addr} {fd : FuncData} {k : Nat} (D : Df K mg "has_worth" sHasWorth ["row"] f fd) (hW : mg "WORTHLESS" = some (.ref gW)) (tW : ∀ H, SqT K H gW [.str "lay", .str "tell"]) : FnOk P0 w K mg base CX0 (k + 1) f fd ["row"] (spHasWorth K) := by
  refine D.F.ok scHasW (fun vs H Q E h => ?_) (fun cdv A outer s H vs Q E hr h => ?_)
  · obtain ⟨v, r, rfl, _⟩ := h
    rfl
  · obtain ⟨v, r, rfl, hv, q⟩ := h
    obtain ⟨p, xs, rfl, hp, _⟩ := hv.at
    refine ⟨_, (pss_one (ps_ret (pe_cmpR op_notIn_seq (pe_ix ix_tup (pv 0) pe_int (fun _ _ => rfl)) (pe_glob (v := .ref gW) (by rfl) hW rfl) rfl))), ?_⟩
    refine ⟨_, rfl, p, _, _, _, rfl, rfl, hp, atI_nat (j := 0) rfl, gW, _, rfl, .inr (tW _), rfl, rfl, ?_⟩
    have e : (!inV (.str r.w) [.str "lay", .str "tell"]) = r.worthy := by
      cases r with
      | bin b x y => cases b <;> rfl
      | _ => (first | rfl | decide)
    show Q (.bl (!inV (.str r.w) [.str "lay", .str "tell"])) H
    rw [e]
    exact q
theorem ok_isMt {f : Addr} {fd : FuncData} {k : Nat} (D : Df K mg "is_meet" sIsMeet ["row"] f fd) : FnOk P0 w K mg base CX0 (k + 1) f fd ["row"] (spIsMeetR K) := by
  refine D.F.ok scIsMt (fun vs H Q E h => ?_) (fun cdv A outer s H vs Q E hr h => ?_)
  · obtain ⟨v, r, rfl, _⟩ := h
    rfl
  · obtain ⟨v, r, rfl, hv, q⟩ := h
    obtain ⟨p, xs, rfl, hp, _⟩ := hv.at
    refine ⟨_, (pss_one (ps_ret (pe_cmpR op_eq (pe_ix ix_tup (pv 0) pe_int (fun _ _ => rfl)) pe_str (nomark _)))), ?_⟩
    refine ⟨_, rfl, p, _, _, _, rfl, rfl, hp, atI_nat (j := 0) rfl, rfl, ?_⟩
    show Q (.bl (decide (V.str r.w = V.str "meet"))) H
    rw [show decide (V.str r.w = V.str "meet") = decide (r.w = "meet") by simp]
    exact q
theorem ok_numsIn {f : Addr} {fd : FuncData} {k : Nat} (D : Df K mg "numbers_in" sNumbersIn ["thing", "kinds"] f fd) (B : Bi mg) : FnOk P0 w K mg base CX0 (k + 1) f fd ["thing", "kinds"] (spNumsIn K) := by
  refine D.F.ok scNumsIn (fun vs H Q E h => ?_) (fun cdv A outer s H vs Q E hr h => ?_)
  · obtain ⟨p, kt, wd, ps, kds, nss, rfl, _⟩ := h
    rfl
  · obtain ⟨p, kt, wd, ps, kds, nss, rfl, hp, hk, hN, hl, q⟩ := h
    refine ⟨_, (pss_cons (ps_set (i := 2) scNumsIn.nd rfl (.inl rfl) (pe_lst pa_nil))
      (pss_cons (ps_for PassesOwn.never rfl (RZ.pi_zipA (by rfl) B.zip (pa_cons (pv 1) (pa_cons (pe_slice sl_tup (pv 0) (po_some pe_int) po_none) pa_nil))) (pg_tup rfl (pgs_cons (pg_name (i := 3) scNumsIn.nd rfl (.inl rfl)) (pgs_cons (pg_name (i := 4) scNumsIn.nd rfl (.inl rfl)) pgs_nil))) (pss_cons (ps_if (pt_cmpR op_eq (pv 3) pe_str (nomark _)) (pss_one (ps_expr (pe_bm PySem.F.plainAttrs_list PySem.F.slot_list_append PySem.F.type_list_append mt_append (pv 2) (pa_cons (pv 4) pa_nil)))) pss_nil)
      (pss_one (ps_if (pt_cmpR op_eq (pv 3) pe_str (nomark _)) (pss_one (ps_expr (pe_bm PySem.F.plainAttrs_list PySem.F.slot_list_extend PySem.F.type_list_extend mt_extendT (pv 2) (pa_cons (pv 4) pa_nil)))) pss_nil))))
      (pss_one (ps_ret (pv 2))))), ?_⟩
    obtain ⟨l1, l2⟩ := hN.len
    refine ⟨Nat.zero_le _, fun S nS => ?_⟩
    have sS := new_same (o := .lst []) nS
    have eS : upd H S (.lst []) S = some (.lst []) := upd_same
    generalize upd H S (.lst []) = H0 at sS eS
    refine ⟨.ref kt, rfl, .ref p, rfl, 1, rfl, p, _, rfl, Same.tup sS hp, cut_not _ _, fun R nR => ?_⟩
    rw [cut_one]
    have sR := new_same (o := .tup ps) nR
    have eR : upd H0 R (.tup ps) R = some (.tup ps) := upd_same
    have s1 := sS.trans sR
    have eS1 := sR _ _ eS
    generalize upd H0 R (.tup ps) = H1 at sR eR s1 eS1
    refine ⟨kt, R, kds.map V.str, ps, rfl, .inr ⟨hk _, sqT eR, ?_⟩⟩
    refine for_it (walk_zt (xs := kds.map V.str) (ys := ps) (by rw [List.length_map]; exact l1.symm)) (fun i σ Hx => ∃ y3 y4 : Option V, σ = [some (.ref p), some (.ref kt), some (.ref S), y3, y4] ∧ Same H Hx ∧ Hx R = some (.tup ps) ∧ Hx S = some (.lst ((nss.take i).flatten.map V.int))) ⟨none, none, rfl, s1, eR, eS1⟩ (fun i σ Hx _ hP => ?_) (fun i x σ Hx Hy hi hP hY => ?_) (fun σ Hx hP => ?_)
    · obtain ⟨_, _, _, _, eRx, _⟩ := hP
      exact ⟨hk _, sqT eRx⟩
    · obtain ⟨y3, y4, rfl, sx, eRx, eSx⟩ := hP
      obtain ⟨T, x1, x2, rfl, nT', rfl, e1, e2⟩ := hY
      have e2 : ps[i]? = some x2 := e2
      have e1 : (kds.map V.str)[i]? = some x1 := e1
      rw [List.getElem?_map] at e1
      obtain ⟨kd, hkd, rfl⟩ := Option.map_eq_some_iff.mp e1
      obtain ⟨ns, hns, hok⟩ := hN.at_ e2 hkd
      have sT := new_same (o := .tup [.str kd, x2]) nT'
      have sx2 := sx.trans sT
      have eR2 := sT _ _ eRx
      have eS2 := sT _ _ eSx
      have hfl : (nss.take (i + 1)).flatten = (nss.take i).flatten ++ ns := by
        rw [List.take_add_one, hns, List.flatten_append]
        simp
      have hle : ((nss.take i).flatten ++ ns).length ≤ 10000 := by
        rw [← hfl]
        refine Nat.le_trans ?_ hl
        have e : nss.flatten = (nss.take (i + 1)).flatten ++ (nss.drop (i + 1)).flatten := by rw [← List.flatten_append, List.take_append_drop]
        rw [e, List.length_append]
        omega
      rw [List.length_append] at hle
      refine ⟨T, _, rfl, sqT upd_same, rfl, _, _, rfl, _, _, rfl, rfl, ?_⟩
      generalize upd Hx T (.tup [.str kd, x2]) = Hz at sx2 eR2 eS2
      have hok2 := hok.same sx2
      have nRS : R ≠ S := fun z => by rw [z, eS2] at eR2; cases eR2
      rcases hok2 with ⟨rfl, n, rfl, rfl⟩ | ⟨rfl, qa, rfl, hqa⟩ | ⟨hn1, hn2, rfl⟩
      · refine ⟨_, rfl, rfl, _, rfl, ifP (decide_eq_true rfl) ?_⟩
        refine ⟨.ref S, rfl, .inl ⟨rfl, _, sqL eS2⟩, .int n, rfl, S, _, _, rfl, rfl, eS2, by rw [List.length_map]; exact szt (by omega), ?_⟩
        refine ⟨_, rfl, rfl, _, rfl, ifN (fun h => absurd (V.str.inj (of_decide_eq_true h)) (by decide)) ?_⟩
        exact ⟨_, _, rfl, Same.upd sx2 nS, by rw [upd_ne nRS]; exact eR2, by rw [upd_same, hfl, List.map_append]; rfl⟩
      · refine ⟨_, rfl, rfl, _, rfl, ifN (fun h => absurd (V.str.inj (of_decide_eq_true h)) (by decide)) ?_⟩
        refine ⟨_, rfl, rfl, _, rfl, ifP (decide_eq_true rfl) ?_⟩
        refine ⟨.ref S, rfl, .inl ⟨rfl, _, sqL eS2⟩, .ref qa, rfl, S, qa, _, _, rfl, rfl, eS2, hqa, by rw [List.length_map, List.length_map]; exact szl (by omega), ?_⟩
        exact ⟨_, _, rfl, Same.upd sx2 nS, by rw [upd_ne nRS]; exact eR2, by rw [upd_same, hfl, List.map_append]⟩
      · refine ⟨_, rfl, rfl, _, rfl, ifN (fun h => hn1 (V.str.inj (of_decide_eq_true h))) ?_⟩
        refine ⟨_, rfl, rfl, _, rfl, ifN (fun h => hn2 (V.str.inj (of_decide_eq_true h))) ?_⟩
        exact ⟨_, _, rfl, sx2, eR2, by rw [hfl, List.append_nil]; exact eS2⟩
    · obtain ⟨y3, y4, rfl, sx, eRx, eSx⟩ := hP
      rw [List.length_map, ← l2, List.take_length] at eSx
      exact ⟨_, rfl, q S Hx nS sx eSx⟩
theorem ok_rowsNamed {f fN dR dE : Addr} {fd fdN : FuncData} {k : Nat} (D : Df K mg "rows_named" sRowsNamed ["row"] f fd) (T : TbD K w mg dR dE) (DN : Df K mg "numbers_in" sNumbersIn ["thing", "kinds"] fN fdN) (GN : FnOk P0 w K mg base CX0 k fN fdN ["thing", "kinds"] (spNumsIn K)) : FnOk P0 w K mg base CX0 (k + 1) f fd ["row"] (spRowsNamed K) := by
  refine D.F.ok scRowP (fun vs H Q E h => ?_) (fun cdv A outer s H vs Q E hr h => ?_)
  · obtain ⟨v, r, rfl, _⟩ := h
    rfl
  · obtain ⟨v, r, rfl, hv, hl, q⟩ := h
    obtain ⟨p, ps, nss, rfl, hp, hN, he⟩ := row_nms hv
    refine ⟨_, (pss_one (ps_ret (pe_call GN hr (by rfl) DN.g DN.F.kp DN.b .nil pass0 (pa_cons (pv 0) (pa_cons (pe_ix ix_kdict (pe_glob (v := .ref dR) (by rfl) T.mgR rfl) (pe_ix ix_tup (pv 0) pe_int (fun _ _ => rfl)) (fun _ _ => rfl)) pa_nil))))), ?_⟩
    obtain ⟨g, hg, hgT⟩ := T.row _ _ (rz_kds r)
    exact ⟨_, rfl, _, rfl, p, _, _, _, rfl, rfl, hp, atI_nat (j := 0) rfl, dR, r.w, .ref g, rfl, rfl, hg, p, g, r.w, ps, r.kdS, nss, rfl, hp, hgT, hN, by rw [he]; exact hl, by rw [he]; exact q⟩
theorem ok_rowsTested {f fN dR dE : Addr} {fd fdN : FuncData} {k : Nat} (D : Df K mg "rows_tested" sRowsTested ["end"] f fd) (T : TbD K w mg dR dE) (DN : Df K mg "numbers_in" sNumbersIn ["thing", "kinds"] fN fdN) (GN : FnOk P0 w K mg base CX0 k fN fdN ["thing", "kinds"] (spNumsIn K)) : FnOk P0 w K mg base CX0 (k + 1) f fd ["end"] (spRowsTested K) := by
  refine D.F.ok scEndP (fun vs H Q E h => ?_) (fun cdv A outer s H vs Q E hr h => ?_)
  · obtain ⟨v, r, rfl, _⟩ := h
    rfl
  · obtain ⟨v, e, rfl, hv, q⟩ := h
    obtain ⟨p, ps, nss, rfl, hp, hN, he⟩ := en_nms hv
    refine ⟨_, (pss_one (ps_ret (pe_call GN hr (by rfl) DN.g DN.F.kp DN.b .nil pass0 (pa_cons (pv 0) (pa_cons (pe_ix ix_kdict (pe_glob (v := .ref dE) (by rfl) T.mgE rfl) (pe_ix ix_tup (pv 0) pe_int (fun _ _ => rfl)) (fun _ _ => rfl)) pa_nil))))), ?_⟩
    obtain ⟨g, hg, hgT⟩ := T.end_ _ _ (en_kds e)
    exact ⟨_, rfl, _, rfl, p, _, _, _, rfl, rfl, hp, atI_nat (j := 0) rfl, dE, e.word, .ref g, rfl, rfl, hg, p, g, e.word, ps, e.kds, nss, rfl, hp, hgT, hN, by rw [he]; cases e <;> simp [En.nms], by rw [he]; exact q⟩
end
end Gn
set_option Elab.async false
set_option linter.all false
set_option maxRecDepth 100000
set_option maxHeartbeats 4000000
set_option pp.maxSteps 300
namespace Gn
open PySem PySem.Spec PyProof.Rows L2
theorem tup_any {K : PySem.W.Frag} {H : Hp} {a b : Addr} {xs : List V} {o o' : HO} (h : SqT K H a xs) (e : H b = some o) (h1 : ∀ ys, o ≠ .tup ys) (h2 : ∀ u ys, o ≠ .frz u (.tup ys)) : SqT K (upd H b o') a xs := by
  rcases h with (h | ⟨u, h⟩) | h
  · exact .inl (.inl (by rw [upd_ne (fun z => by rw [z, e] at h; exact h1 _ (Option.some.inj h))]; exact h))
  · exact .inl (.inr ⟨u, by rw [upd_ne (fun z => by rw [z, e] at h; exact h2 _ _ (Option.some.inj h))]; exact h⟩)
  · exact .inr h
theorem lst_any {K : PySem.W.Frag} {H : Hp} {a b : Addr} {xs : List V} {o o' : HO} (h : SqL K H a xs) (e : H b = some o) (h1 : ∀ ys, o ≠ .lst ys) (h2 : ∀ u ys, o ≠ .frz u (.lst ys)) : SqL K (upd H b o') a xs := by
  rcases h with (h | ⟨u, h⟩) | h
  · exact .inl (.inl (by rw [upd_ne (fun z => by rw [z, e] at h; exact h1 _ (Option.some.inj h))]; exact h))
  · exact .inl (.inr ⟨u, by rw [upd_ne (fun z => by rw [z, e] at h; exact h2 _ _ (Option.some.inj h))]; exact h⟩)
  · exact .inr h
theorem nl_any {K : PySem.W.Frag} {H : Hp} {a b : Addr} {lds : List (List Nat)} {o o' : HO} (h : NL K H a lds) (e : H b = some o) (h1 : ∀ ys, o ≠ .lst ys) (h2 : ∀ u ys, o ≠ .frz u (.lst ys)) : NL K (upd H b o') a lds := by
  obtain ⟨qs, z1, z2⟩ := h
  exact ⟨qs, lst_any z1 e h1 h2, pd_mono z2 fun _ _ z => lst_any z e h1 h2⟩
mutual
def tOnly : Dt → Bool
  | .tup ds => tOnlyL ds
  | .lst _ => false | .dct => false | .non => true | .bl _ => true | .int _ => true | .str _ => true
def tOnlyL : List Dt → Bool
  | [] => true
  | d :: ds => tOnly d && tOnlyL ds
end
mutual
theorem DtAt.tups {K : PySem.W.Frag} {H H' : Hp} (e : ∀ {a xs}, SqT K H a xs → SqT K H' a xs) : ∀ (d : Dt) {v : V}, tOnly d = true → DtAt K H v d → DtAt K H' v d
  | .non, _, _, h => by cases h; exact .non
  | .bl b, _, _, h => by cases h; exact .bl b
  | .int n, _, _, h => by cases h; exact .int n
  | .str s, _, _, h => by cases h; exact .str s
  | .lst ds, _, z, _ => by cases z
  | .tup ds, _, z, h => by
    cases h with
    | tup h1 h2 => exact .tup (e h1) (DtAll.tups e ds z h2)
  | .dct, _, z, _ => by cases z
theorem DtAll.tups {K : PySem.W.Frag} {H H' : Hp} (e : ∀ {a xs}, SqT K H a xs → SqT K H' a xs) : ∀ (ds : List Dt) {vs : List V}, tOnlyL ds = true → DtAll K H vs ds → DtAll K H' vs ds
  | [], _, _, h => by cases h; exact .nil
  | d :: ds, _, z, h => by
    have z : (tOnly d && tOnlyL ds) = true := z
    rw [Bool.and_eq_true] at z
    cases h with
    | cons h1 h2 => exact .cons (DtAt.tups e d z.1 h1) (DtAll.tups e ds z.2 h2)
end
theorem to_ints : ∀ ps : List Int, tOnlyL (ps.map Dt.int) = true
  | [] => rfl
  | p :: ps => by
    show (true && tOnlyL (ps.map Dt.int)) = true
    rw [to_ints ps]
    rfl
theorem to_intsD (ps : List Int) : tOnly (intsD ps) = true := to_ints ps
theorem to_row (r : Rz) : tOnly r.dt = true := by
  cases r with
  | pick x ps => show (true && (true && (tOnly (intsD ps) && true))) = true; rw [to_intsD]; rfl
  | meet ps => show (true && (tOnly (intsD ps) && true)) = true; rw [to_intsD]; rfl
  | look ps x => show (true && (tOnly (intsD ps) && (true && true))) = true; rw [to_intsD]; rfl
  | lay ps x y => show (true && (tOnly (intsD ps) && (true && (true && true)))) = true; rw [to_intsD]; rfl
  | _ => rfl
theorem row_tups {K : PySem.W.Frag} {H H' : Hp} {v : V} {r : Rz} (h : RzAt K H v r) (e : ∀ {a xs}, SqT K H a xs → SqT K H' a xs) : RzAt K H' v r := DtAt.tups e _ (to_row r) h
/-! ### what is_led says -/
theorem led_nm {pr : List Blk} (h : ledB pr = true) : ∀ b ∈ pr, b.2.nmI.Nodup ∧ ∀ y ∈ b.2.nmI, 0 < y ∧ y < (pr.length : Int) := fun b hb => by
  unfold ledB at h
  rw [Bool.and_eq_true] at h
  have := List.all_eq_true.mp h.1 b hb
  unfold canLead at this
  rw [Bool.and_eq_true, List.all_eq_true] at this
  refine ⟨of_decide_eq_true this.1, fun y hy => ?_⟩
  have := this.2 y hy
  rw [Bool.and_eq_true] at this
  exact ⟨of_decide_eq_true this.1, of_decide_eq_true this.2⟩
theorem nd_toNat : ∀ {xs : List Int}, xs.Nodup → (∀ x ∈ xs, 0 ≤ x) → (xs.map Int.toNat).Nodup
  | [], _, _ => List.nodup_nil
  | x :: xs, h, g => by
    have h2 := List.nodup_cons.mp h
    rw [List.map_cons, List.nodup_cons]
    refine ⟨fun z => ?_, nd_toNat h2.2 fun y hy => g y (List.mem_cons_of_mem _ hy)⟩
    obtain ⟨y, hy, e⟩ := List.mem_map.mp z
    have a := g y (List.mem_cons_of_mem _ hy)
    have b := g x List.mem_cons_self
    have : y = x := by omega
    exact h2.1 (this ▸ hy)
theorem nx_of {pr : List Blk} (h : ledB pr = true) : NxOk pr.length (nmL pr) := by
  have hn := led_nm h
  refine ⟨by rw [List.length_map], fun xs hx => ?_, fun b h1 h2 => ?_⟩
  · obtain ⟨b, hb, rfl⟩ := List.mem_map.mp hx
    obtain ⟨a1, a2⟩ := hn b hb
    refine ⟨nm_len b.2, nd_toNat a1 fun x hx => by have := a2 x hx; omega, fun y hy => ?_⟩
    obtain ⟨z, hz, rfl⟩ := List.mem_map.mp hy
    have := a2 z hz
    omega
  · unfold ledB at h
    rw [Bool.and_eq_true] at h
    have h3 := List.all_eq_true.mp h.2 (b - 1) (List.mem_range.mpr (by omega))
    rw [show b - 1 + 1 = b by omega] at h3
    unfold lesser at h3
    obtain ⟨j, hj, e⟩ := List.any_eq_true.mp h3
    obtain ⟨j1, j2⟩ := spec_mem.mp hj
    have hg := List.getElem?_eq_getElem j1
    rw [List.getD_eq_getElem?_getD, hg] at j2
    exact ⟨j, pr[j].2.names, of_decide_eq_true e, by rw [List.getElem?_map, hg]; rfl, j2⟩
theorem no_of {pr : List Blk} (h : ledB pr = true) : namesOk pr.length pr := fun b hb y hy => by
  have := (led_nm h b hb).2 y hy
  omega
/-! ### Places -/
structure PTxt (K : PySem.W.Frag) (mg : Str → Option Value) (C : Addr) : Prop where
  cl : L2.Cls K C
  nR : NoAttr K C "rows"
  nO : NoAttr K C "owners"
  nL : NoAttr K C "leads"
  nW : NoAttr K C "ways"
  mgC : mg "Places" = some (.ref C)
def pf (ra oa la wa : Addr) : List (Str × V) := [("rows", .ref ra), ("owners", .ref oa), ("leads", .ref la), ("ways", .ref wa)]
theorem pf_1 (ra : Addr) : putF "rows" (.ref ra) [] = ([("rows", .ref ra)] : List (Str × V)) := rfl
theorem pf_2 (ra oa : Addr) : putF "owners" (.ref oa) [("rows", .ref ra)] = ([("rows", .ref ra), ("owners", .ref oa)] : List (Str × V)) := rfl
theorem pf_3 (ra oa la : Addr) : putF "leads" (.ref la) [("rows", .ref ra), ("owners", .ref oa)] = ([("rows", .ref ra), ("owners", .ref oa), ("leads", .ref la)] : List (Str × V)) := rfl
theorem pf_4 (ra oa la wa : Addr) : putF "ways" (.ref wa) [("rows", .ref ra), ("owners", .ref oa), ("leads", .ref la)] = pf ra oa la wa := rfl
def PlAt (K : PySem.W.Frag) (C Cw : Addr) (H : Hp) (p : Addr) (pr : List Blk) : Prop := ∃ (dx ra oa la wa : Addr) (rs : List V), H p = some (.ins C dx (pf ra oa la wa)) ∧ H ra = some (.lst rs) ∧ Paired (RzAt K H) rs (rowsL pr) ∧
  H oa = some (.lst ((ownL pr pr.length).map iv)) ∧ NL K H la ((List.range pr.length).map (spec pr pr.length)) ∧ WaysAt Cw H wa pr.length (Ex (nmL pr))
theorem PlAt.same {K : PySem.W.Frag} {C Cw : Addr} {H H' : Hp} {p : Addr} {pr : List Blk} (h : PlAt K C Cw H p pr) (e : Same H H') : PlAt K C Cw H' p pr := by
  obtain ⟨dx, ra, oa, la, wa, rs, h1, h2, h3, h4, h5, h6⟩ := h
  exact ⟨dx, ra, oa, la, wa, rs, e _ _ h1, e _ _ h2, pd_mono h3 fun _ _ z => z.same e, e _ _ h4, h5.same e, h6.same e⟩
/-- a program that Places is asked of -/
structure PrP (pr : List Blk) : Prop where
  l1 : 1 ≤ pr.length
  l12 : pr.length ≤ 100
  rl : ∀ b ∈ pr, b.1.length ≤ 1000
  led : ledB pr = true
def spPInit (K : PySem.W.Frag) (C Cw : Addr) : Sp := fun vs H Q _ => ∃ (H0 : Hp) (p dx : Addr) (v : V) (pr : List Blk), vs = [.ref p, v] ∧ Same H0 H ∧ H0 p = none ∧ H p = some (.ins C dx []) ∧ ProgAt K H0 v pr ∧ PrP pr ∧ ∀ (H' : Hp), Same H0 H' → PlAt K C Cw H' p pr → Q .non H'
abbrev nPInit : List Str := ["self", "program"]
theorem scPInit : FnScope nPInit ["self", "program"] (defScope sPInit) := ⟨rfl, rfl, rfl, by decide +kernel, rfl, by decide +kernel, by decide +kernel⟩
/-- what a name must be -/
def CanN (pr : List Blk) (x : Int) (b : Nat) (pl : Int) : Prop := 0 ≤ x ∧ ∃ r, (rowsL pr)[x.toNat]? = some r ∧ r.worthy = true ∧ ((ownL pr pr.length).getD x.toNat 0 = b → x < pl) ∧ ((ownL pr pr.length).getD x.toNat 0 ≠ b → ¬ Rc (Ex (nmL pr)) ((ownL pr pr.length).getD x.toNat 0) b)
def spCanName (K : PySem.W.Frag) (C Cw : Addr) : Sp := fun vs H Q _ => ∃ (p : Addr) (x : Int) (b : Nat) (pl : Int) (pr : List Blk), vs = [.ref p, .int x, iv b, .int pl] ∧ PlAt K C Cw H p pr ∧ b < pr.length ∧ ∀ c : Bool, (c = true ↔ CanN pr x b pl) → Q (.bl c) H
abbrev nCanName : List Str := ["self", "name", "block", "place", "owner"]
theorem scCanName : FnScope nCanName ["self", "name", "block", "place"] (defScope sCanName) := ⟨rfl, rfl, rfl, by decide +kernel, rfl, by decide +kernel, by decide +kernel⟩
theorem own_len {pr : List Blk} : (ownL pr pr.length).length = (rowsL pr).length := by
  rw [ownL_len _ (Nat.le_refl _), List.take_length]
section
variable {P0 : Program} {w : World} {K : PySem.W.Frag} {mg : Str → Option Value} {base : Heap} {Ts : List Addr} {Dd : Addr}
theorem ok_pinit {f C Cw fR fO fL fI : Addr} {fd fdR fdO fdL fdI : FuncData} {k : Nat} (F : Fun K "__init__" "Places.__init__" sPInit f fd) (T : PTxt K mg C) (Tw : WTxt K mg Cw)
    (DR : Df K mg "rows_of" sRowsOf ["program"] fR fdR) (GR : FnOk P0 w K mg base CX0 (k + 1) fR fdR ["program"] (spRowsOf K)) (DO : Df K mg "owners_of" sOwners ["program"] fO fdO) (GO : FnOk P0 w K mg base CX0 (k + 1) fO fdO ["program"] (spOwners K))
    (DL : Df K mg "leads_of" sLeadsOf ["program"] fL fdL) (GL : FnOk P0 w K mg base CX0 (k + 1) fL fdL ["program"] (spLeadsOf K))
    (M : Mk K Cw fI) (bI : Binds K fdI ["self", "leads"] []) (GI : FnOk P0 w K mg base CX0 k fI fdI ["self", "leads"] (spWInit K Cw)) : FnOk P0 w K mg base CX0 (k + 1 + 1) f fd ["self", "program"] (spPInit K C Cw) := by
  refine F.ok scPInit (fun vs H Q E h => ?_) (fun cdv A outer s H vs Q E hr h => ?_)
  · obtain ⟨H0, p, dx, v, pr, rfl, _⟩ := h
    rfl
  · obtain ⟨H0, p, dx, v, pr, rfl, s0, p0, hp, hP, hB, q⟩ := h
    obtain ⟨b1, b12, brl, bled⟩ := hB
    have bnx := nx_of bled
    have hnm : ∀ b ∈ pr, NxE pr.length b.2.names := fun b hb => bnx.2.1 _ (List.mem_map.mpr ⟨b, hb, rfl⟩)
    have hn2 : ∀ b ∈ pr, b.2.names.length ≤ 2 := fun b hb => (hnm b hb).1
    refine ⟨_, (pss_cons (ps_fld (pv 0) (pe_call GR hr (by rfl) DR.g DR.F.kp DR.b .nil pass0 (pa_cons (pv 1) pa_nil)) rfl)
      (pss_cons (ps_fld (pv 0) (pe_call GO hr (by rfl) DO.g DO.F.kp DO.b .nil pass0 (pa_cons (pv 1) pa_nil)) rfl)
      (pss_cons (ps_fld (pv 0) (pe_call GL hr (by rfl) DL.g DL.F.kp DL.b .nil pass0 (pa_cons (pv 1) pa_nil)) rfl)
      (pss_one (ps_fld (pv 0) (pe_make M GI hr (by rfl) Tw.mgC bI .nil pass0 (pa_cons (pe_fld (pv 0) rfl) pa_nil)) rfl))))), ?_⟩
    refine ⟨v, rfl, v, pr, rfl, hP.same s0, b12, brl, fun ra H1 rs nra s1 era hrs => ?_⟩
    have n1 : p ≠ ra := ne_of_none hp nra
    refine ⟨_, rfl, p, C, dx, _, rfl, s1 _ _ hp, T.cl, T.nR, (by show 0 < 1000; decide), ?_⟩
    rw [pf_1]
    have s2 := Same.upd (o := .ins C dx [("rows", .ref ra)]) (s0.trans s1) p0
    have e2 : upd H1 p (.ins C dx [("rows", .ref ra)]) p = some (.ins C dx [("rows", .ref ra)]) := upd_same
    have f2 : upd H1 p (.ins C dx [("rows", .ref ra)]) ra = some (.lst rs) := by rw [upd_ne n1.symm]; exact era
    have g2 : Paired (RzAt K (upd H1 p (.ins C dx [("rows", .ref ra)]))) rs (rowsL pr) := pd_mono hrs fun _ _ z => row_tups z fun t => tup_any t (s1 _ _ hp) (fun _ z => by cases z) (fun _ _ z => by cases z)
    generalize upd H1 p (.ins C dx [("rows", .ref ra)]) = H2 at s2 e2 f2 g2
    refine ⟨v, rfl, v, pr, rfl, hP.same s2, b12, brl, fun oa H3 noa s3 eoa => ?_⟩
    have n2 : p ≠ oa := ne_of_none e2 noa
    have n3 : ra ≠ oa := ne_of_none f2 noa
    refine ⟨_, rfl, p, C, dx, _, rfl, s3 _ _ e2, T.cl, T.nO, (by show 1 < 1000; decide), ?_⟩
    rw [pf_2]
    have s4 := Same.upd (o := .ins C dx [("rows", .ref ra), ("owners", .ref oa)]) (s2.trans s3) p0
    have e4 : upd H3 p (.ins C dx [("rows", .ref ra), ("owners", .ref oa)]) p = some (.ins C dx [("rows", .ref ra), ("owners", .ref oa)]) := upd_same
    have f4 : upd H3 p (.ins C dx [("rows", .ref ra), ("owners", .ref oa)]) ra = some (.lst rs) := by rw [upd_ne n1.symm]; exact s3 _ _ f2
    have o4 : upd H3 p (.ins C dx [("rows", .ref ra), ("owners", .ref oa)]) oa = some (.lst ((ownL pr pr.length).map iv)) := by rw [upd_ne n2.symm]; exact eoa
    have g4 : Paired (RzAt K (upd H3 p (.ins C dx [("rows", .ref ra), ("owners", .ref oa)]))) rs (rowsL pr) := pd_mono g2 fun _ _ z => row_tups (z.same s3) fun t => tup_any t (s3 _ _ e2) (fun _ z => by cases z) (fun _ _ z => by cases z)
    generalize upd H3 p (.ins C dx [("rows", .ref ra), ("owners", .ref oa)]) = H4 at s4 e4 f4 o4 g4
    refine ⟨v, rfl, v, pr, rfl, hP.same s4, by omega, no_of bled, hn2, fun la qs H5 s5 hLL => ?_⟩
    have n4 : p ≠ la := fun z => by
      have := hLL.new la List.mem_cons_self
      rw [← z, e4] at this
      cases this
    refine ⟨_, rfl, p, C, dx, _, rfl, s5 _ _ e4, T.cl, T.nL, (by show 2 < 1000; decide), ?_⟩
    rw [pf_3]
    have s6 := Same.upd (o := .ins C dx [("rows", .ref ra), ("owners", .ref oa), ("leads", .ref la)]) (s4.trans s5) p0
    have e6 : upd H5 p (.ins C dx [("rows", .ref ra), ("owners", .ref oa), ("leads", .ref la)]) p = some (.ins C dx [("rows", .ref ra), ("owners", .ref oa), ("leads", .ref la)]) := upd_same
    have f6 : upd H5 p (.ins C dx [("rows", .ref ra), ("owners", .ref oa), ("leads", .ref la)]) ra = some (.lst rs) := by rw [upd_ne n1.symm]; exact s5 _ _ f4
    have o6 : upd H5 p (.ins C dx [("rows", .ref ra), ("owners", .ref oa), ("leads", .ref la)]) oa = some (.lst ((ownL pr pr.length).map iv)) := by rw [upd_ne n2.symm]; exact s5 _ _ o4
    have g6 : Paired (RzAt K (upd H5 p (.ins C dx [("rows", .ref ra), ("owners", .ref oa), ("leads", .ref la)]))) rs (rowsL pr) := pd_mono g4 fun _ _ z => row_tups (z.same s5) fun t => tup_any t (s5 _ _ e4) (fun _ z => by cases z) (fun _ _ z => by cases z)
    have l6 := nl_any (K := K) (o' := .ins C dx [("rows", .ref ra), ("owners", .ref oa), ("leads", .ref la)]) hLL.nl (s5 _ _ e4) (fun _ z => by cases z) (fun _ _ z => by cases z)
    generalize upd H5 p (.ins C dx [("rows", .ref ra), ("owners", .ref oa), ("leads", .ref la)]) = H6 at s6 e6 f6 o6 g6 l6
    refine ⟨_, rfl, p, C, dx, _, _, rfl, e6, T.cl, T.nL, rfl, ?_⟩
    intro x dx2 nx ndx nex
    have s7 : Same H6 (upd (upd H6 dx2 (.own x)) x (.ins Cw dx2 [])) := fun b o e => by
      rw [upd_ne (ne_of_none e nx), upd_ne (ne_of_none e ndx)]
      exact e
    have hsz : ∀ xs ∈ (List.range pr.length).map (spec pr pr.length), xs.length ≤ 1000 := fun xs hx => by
      obtain ⟨b, hb, rfl⟩ := List.mem_map.mp hx
      have := spec_len hn2 b pr.length
      omega
    refine ⟨H6, x, dx2, la, _, pr.length, _, rfl, s7, nx, upd_same, l6, gr_of b1 b12 rfl bnx, hsz, fun H8 s8 hW => ⟨rfl, ?_⟩⟩
    refine ⟨_, rfl, p, C, dx, _, rfl, s8 _ _ e6, T.cl, T.nW, (by show 3 < 1000; decide), ?_⟩
    rw [pf_4]
    have n5 : p ≠ x := ne_of_none e6 nx
    refine q _ (Same.upd (s6.trans s8) p0) ⟨dx, ra, oa, la, x, rs, upd_same, by rw [upd_ne n1.symm]; exact s8 _ _ f6, pd_mono g6 fun _ _ z => row_tups (z.same s8) fun t => tup_any t (s8 _ _ e6) (fun _ z => by cases z) (fun _ _ z => by cases z), by rw [upd_ne n2.symm]; exact s8 _ _ o6, nl_any (l6.same s8) (s8 _ _ e6) (fun _ z => by cases z) (fun _ _ z => by cases z), ?_⟩
    obtain ⟨dx3, ss, ff, sl, pl, nsl, w1, w2, w3, w4⟩ := hW
    have ni : p ≠ ss ∧ p ≠ ff := ⟨fun z => (by rw [← z, s8 _ _ e6] at w2; cases w2), fun z => (by rw [← z, s8 _ _ e6] at w3; cases w3)⟩
    exact ⟨dx3, ss, ff, sl, pl, nsl, by rw [upd_ne n5.symm]; exact w1, by rw [upd_ne ni.1.symm]; exact w2, by rw [upd_ne ni.2.symm]; exact w3, w4⟩
theorem ok_canName {f C Cw fW fL : Addr} {fd fdW fdL : FuncData} {k : Nat} (F : Fun K "can_name" "Places.can_name" sCanName f fd) (B : Bi mg) (T : PTxt K mg C) (Tw : WTxt K mg Cw)
    (DW : Df K mg "has_worth" sHasWorth ["row"] fW fdW) (GW : FnOk P0 w K mg base CX0 k fW fdW ["row"] (spHasWorth K))
    (mL : Meth K Cw "lies" fL) (bL : Binds K fdL ["self", "block", "other"] []) (GL : FnOk P0 w K mg base CX0 k fL fdL ["self", "block", "other"] (spLies Cw)) : FnOk P0 w K mg base CX0 (k + 1) f fd ["self", "name", "block", "place"] (spCanName K C Cw) := by
  refine F.ok scCanName (fun vs H Q E h => ?_) (fun cdv A outer s H vs Q E hr h => ?_)
  · obtain ⟨p, x, b, pl, pr, rfl, _⟩ := h
    rfl
  · obtain ⟨p, x, b, pl, pr, rfl, ⟨dx, ra, oa, la, wa, rs, h1, h2, h3, h4, h5, h6⟩, c3, q⟩ := h
    refine ⟨_, (pss_cons (ps_if (pw_or (pt_not (pt_chain op_le op_lt pe_int (pv 1) (pe_callB call_len_seq (by rfl) B.len PySem.boot_len (pa_cons (pe_fld (pv 0) rfl) pa_nil)))) (pw_or1 (pt_not (pt_val (pe_call GW hr (by rfl) DW.g DW.F.kp DW.b .nil pass0 (pa_cons (pe_ix ix_list (pe_fld (pv 0) rfl) (pv 1) (fun _ _ => rfl)) pa_nil)))))).pt (pss_one (ps_ret pe_bl)) pss_nil)
      (pss_cons (ps_set (i := 4) scCanName.nd rfl (.inl rfl) (pe_ix ix_list (pe_fld (pv 0) rfl) (pv 1) (fun _ _ => rfl)))
      (pss_cons (ps_if (pt_cmpR op_eq (pv 4) (pv 2) (nomark _)) (pss_one (ps_ret (pe_cmpR op_lt (pv 1) (pv 3) (nomark _)))) pss_nil)
      (pss_one (ps_ret (pe_meth (pe_fld (pv 0) rfl) Tw.cl mL GL hr bL .nil pass0 (pa_cons (pv 4) (pa_cons (pv 2) pa_nil)))))))), ?_⟩
    have hrl : rs.length = (rowsL pr).length := pd_len h3
    have no : ¬ CanN pr x b pl → Q (.bl false) H := fun n => q false ⟨fun z => (by cases z), fun z => absurd z n⟩
    refine ⟨_, rfl, _, _, rfl, rfl, _, rfl, ite2 (fun e0 => ?_) (fun e0 => ?_)⟩
    rotate_left
    · refine ⟨_, rfl, ifP rfl (no fun z => e0 (decide_eq_true z.1))⟩
    have x0 : (0 : Int) ≤ x := of_decide_eq_true e0
    refine ⟨_, rfl, p, C, dx, _, _, rfl, h1, T.cl, T.nR, rfl, ra, _, rfl, .inl (sqL h2), _, _, rfl, rfl, _, rfl, ite2 (fun e1 => ?_) (fun e1 => ?_)⟩
    · refine no fun ⟨_, r, z, _⟩ => ?_
      have := (List.getElem?_eq_some_iff.mp z).1
      have := of_decide_eq_false (notT e1)
      omega
    have hx : x.toNat < rs.length := by
      have := of_decide_eq_true (notF e1)
      omega
    obtain ⟨n, rfl⟩ : ∃ n : Nat, x = (n : Int) := ⟨x.toNat, by omega⟩
    rw [Int.toNat_natCast] at hx
    obtain ⟨r, c1, z2⟩ := pd_at2 h3 (List.getElem?_eq_getElem hx)
    have hol : n < (ownL pr pr.length).length := by rw [own_len, ← hrl]; exact hx
    have hoe : (ownL pr pr.length).getD n 0 = (ownL pr pr.length)[n] := by rw [List.getD_eq_getElem?_getD, List.getElem?_eq_getElem hol]; rfl
    have hom : (ownL pr pr.length).getD n 0 < pr.length := by rw [hoe]; exact ownL_lt (List.getElem_mem hol)
    have hoa : ((ownL pr pr.length).map iv)[n]? = some (iv ((ownL pr pr.length).getD n 0)) := by rw [List.getElem?_map, List.getElem?_eq_getElem hol, hoe]; rfl
    have hC : ∀ r', (rowsL pr)[((n : Int)).toNat]? = some r' → r' = r := fun r' z => by
      rw [Int.toNat_natCast, c1] at z
      exact (Option.some.inj z).symm
    refine ⟨_, rfl, p, C, dx, _, _, rfl, h1, T.cl, T.nR, rfl, iv n, rfl, ra, _, _, rs[n], rfl, rfl, sqL h2, atI_nat (List.getElem?_eq_getElem hx), rs[n], r, rfl, z2, _, rfl, ite2 (fun e2 => ?_) (fun e2 => ?_)⟩
    · refine no fun ⟨_, r', z, zw, _⟩ => ?_
      rw [hC r' z, notT e2] at zw
      cases zw
    have c2 := notF e2
    have hiff : CanN pr (n : Int) b pl ↔ ((ownL pr pr.length).getD n 0 = b → (n : Int) < pl) ∧ ((ownL pr pr.length).getD n 0 ≠ b → ¬ Rc (Ex (nmL pr)) ((ownL pr pr.length).getD n 0) b) := by
      constructor
      · rintro ⟨_, r', z, zw, z4, z5⟩
        rw [Int.toNat_natCast] at z4 z5
        exact ⟨z4, z5⟩
      · rintro ⟨z4, z5⟩
        exact ⟨x0, r, by rw [Int.toNat_natCast]; exact c1, c2, by rw [Int.toNat_natCast]; exact z4, by rw [Int.toNat_natCast]; exact z5⟩
    rw [hiff] at q
    generalize (ownL pr pr.length).getD n 0 = o at q hom hoa
    refine ⟨_, rfl, p, C, dx, _, _, rfl, h1, T.cl, T.nO, rfl, iv n, rfl, oa, _, _, iv o, rfl, rfl, sqL h4, atI_nat hoa, ?_⟩
    refine ⟨_, rfl, _, rfl, rfl, _, rfl, ite2 (fun e => ?_) (fun e => ?_)⟩
    · have e1 : o = b := by
        have := of_decide_eq_true e
        exact Int.ofNat.inj (V.int.inj this)
      refine ⟨_, rfl, _, rfl, _, _, rfl, rfl, ?_⟩
      refine q _ ⟨fun z => ⟨fun _ => of_decide_eq_true z, fun z => absurd e1 z⟩, fun z => decide_eq_true (z.1 e1)⟩
    · have e1 : o ≠ b := fun z => e (by rw [z]; exact decide_eq_true rfl)
      obtain ⟨dx2, ss, ff, sl, plc, nsl, w1, w2⟩ := id h6
      refine ⟨_, rfl, p, C, dx, _, _, rfl, h1, T.cl, T.nW, rfl, wa, dx2, _, rfl, w1, wf_no _ _ (by decide +kernel) (by decide +kernel), iv o, rfl, iv b, rfl, wa, o, b, pr.length, _, rfl, h6, hom, c3, fun rr hrr => ?_⟩
      exact q rr ⟨fun z => ⟨fun z => absurd z e1, fun _ => hrr.mp z⟩, fun z => hrr.mpr (z.2 e1)⟩
end
end Gn
set_option Elab.async false
set_option linter.all false
set_option maxRecDepth 100000
set_option maxHeartbeats 4000000
set_option pp.maxSteps 300
namespace Gn
open PySem PySem.Spec PyProof.Rows L2
/-! ### names, all of them; meets -/
def spCanAll (K : PySem.W.Frag) (C Cw : Addr) (Ts : List Addr) (D : Addr) : Sp := fun vs H Q _ => ∃ (p na : Addr) (ns : List Int) (b : Nat) (pl : Int) (pr : List Blk), vs = [.ref p, .ref na, iv b, .int pl] ∧ PlAt K C Cw (nt H) p pr ∧ SqL K (nt H) na (ns.map V.int) ∧ b < pr.length ∧ Tbs Ts D H ∧
  ∀ H' (c : Bool), LamX.ExtN H H' → Tbs Ts D H' → (c = true ↔ ∀ x ∈ ns, CanN pr x b pl) → Q (.bl c) H'
abbrev nCanAll : List Str := ["self", "names", "block", "place", "name"]
theorem scCanAll : FnScope nCanAll ["self", "names", "block", "place"] (defScope sCanAll) := ⟨rfl, rfl, rfl, by decide +kernel, rfl, by decide +kernel, by decide +kernel⟩
def MeetOk (pr : List Blk) (ns : List Int) (b : Nat) : Prop := 2 ≤ (spec pr pr.length b).length ∧ ns.length = (spec pr pr.length b).length ∧ ∀ (i : Nat) (x : Int) (l : Nat), ns[i]? = some x → (spec pr pr.length b)[i]? = some l → CanN pr x l ((rowsL pr).length : Nat)
def spCanMeet (K : PySem.W.Frag) (C Cw : Addr) (Ts : List Addr) (D : Addr) : Sp := fun vs H Q _ => ∃ (p na : Addr) (ns : List Int) (b : Nat) (pr : List Blk), vs = [.ref p, .ref na, iv b] ∧ PlAt K C Cw (nt H) p pr ∧ SqL K (nt H) na (ns.map V.int) ∧ b < pr.length ∧ Tbs Ts D H ∧
  ∀ H' (c : Bool), LamX.ExtN H H' → Tbs Ts D H' → (c = true ↔ MeetOk pr ns b) → Q (.bl c) H'
abbrev nCanMeet : List Str := ["self", "parts", "block", "leads", "behind", "part", "lead"]
theorem scCanMeet : FnScope nCanMeet ["self", "parts", "block"] (defScope sCanMeet) := ⟨rfl, rfl, rfl, by decide +kernel, rfl, by decide +kernel, by decide +kernel⟩
section
variable {P0 : Program} {w : World} {K : PySem.W.Frag} {mg : Str → Option Value} {base : Heap} {Ts : List Addr} {Dd : Addr}
theorem ok_canAll {f C Cw fN c P : Addr} {fd fdN : FuncData} {k : Nat} (F : FunC K "can_name_all" "Places.can_name_all" sCanAll f fd c) (B : Bi mg) (T : PTxt K mg C) (TB : GxR.TabB base mg c P) (hP : P ∈ Ts) (hTs : TsOk Ts Dd)
    (mN : Meth K C "can_name" fN) (bN : Binds K fdN ["self", "name", "block", "place"] []) (GN : FnOk P0 w K mg base CX0 k fN fdN ["self", "name", "block", "place"] (spCanName K C Cw)) :
    FnOk P0 w K mg base CX0 (k + 3 + 1) f fd ["self", "names", "block", "place"] (spCanAll K C Cw Ts Dd) := by
  refine F.ok scCanAll (fun vs H Q E h => ?_) (fun A outer s H vs Q E hr h => ?_)
  · obtain ⟨p, na, ns, b, pl, pr, rfl, _⟩ := h
    rfl
  · obtain ⟨p, na, ns, b, pl, pr, rfl, hPl, hna, hb, hT, q⟩ := h
    refine ⟨_, (pss_one (ps_ret (Gx.pe_allG (k := k) (own := [("name", 4)]) (g := gName 4) (tt := tYes) (te := _) rfl hr scCanAll.nd (by rfl) B.all (by decide +kernel) TB rfl
      (blkOk_by (own := [("name", 4)]) (N := nCanAll) (sc := defScope sCanAll) (by decide +kernel)) (by decide +kernel) (by rfl) (by rfl)
      (pi_list (pv 1)) (fun _ _ _ _ _ _ _ _ _ => pg_name (i := 4) scCanAll.nd rfl (.inl rfl)) (fun _ _ _ _ _ _ _ _ _ => pts_nil)
      (fun A' _ _ _ _ _ _ _ hr' => pe_meth (pv 0) T.cl mN GN hr' bN .nil pass0 (pa_cons (pv 4) (pa_cons (pv 2) (pa_cons (pv 3) pa_nil)))) (fun _ => rfl)))), ?_⟩
    refine ⟨_, rfl, na, rfl, ⟨_, ntL hna⟩, hT.g P hP, fun H2 hTb => ?_⟩
    obtain ⟨hT2, e2⟩ := hT.tabbed hP (hTs.ne hP) hTb
    have at_ : ∀ {H' : Hp}, LamX.ExtN H H' → SqL K H' na (ns.map V.int) := fun e => ntL ((ext_nt e).seq hna)
    refine all_wi ns.length (fun i H' => LamX.ExtN H H' ∧ Tbs Ts Dd H' ∧ ∀ x ∈ ns.take i, CanN pr x b pl) ⟨e2, hT2, fun x hx => by simp at hx⟩ (fun i H3 hi hΦ => ?_) (fun H3 hΦ => ⟨⟨_, at_ hΦ.1, by rw [List.length_map]; exact Nat.le_refl _⟩, ?_⟩)
    · have h3 := at_ hΦ.1
      refine ⟨⟨_, _, h3, by rw [List.getElem?_map, List.getElem?_eq_getElem hi]; rfl⟩, fun x H' y => ?_⟩
      obtain ⟨e1, y⟩ := y
      subst e1
      have ex := y _ h3
      have hni := List.getElem?_eq_getElem hi
      rw [List.getElem?_map, hni] at ex
      cases ex
      generalize ns[i] = n at hni
      have hPl3 : PlAt K C Cw H' p pr := (hPl.same (ext_nt hΦ.1)).same (nt_same _)
      obtain ⟨dx, ra, oa, la, wa, rs, g1, g2⟩ := id hPl3
      refine ⟨rfl, .ref p, rfl, p, dx, _, rfl, g1, rfl, .int n, rfl, iv b, rfl, .int pl, rfl, p, n, b, pl, pr, rfl, hPl3, hb, fun c hc => ⟨c, rfl, fun e => ?_, fun e => ⟨hΦ.1, hΦ.2.1, fun x hx => ?_⟩⟩⟩
      · refine q H' false hΦ.1 hΦ.2.1 ⟨fun z => (by cases z), fun z => ?_⟩
        have := hc.mpr (z n (List.mem_of_getElem? hni))
        rw [e] at this
        cases this
      · rw [List.take_add_one, hni] at hx
        rcases List.mem_append.mp hx with hx | hx
        · exact hΦ.2.2 x hx
        · rw [List.mem_singleton.mp hx]
          exact hc.mp (by cases c; exact absurd rfl e; rfl)
    · have h9 := hΦ.2.2
      rw [List.take_length] at h9
      exact q H3 true hΦ.1 hΦ.2.1 ⟨fun _ => h9, fun _ => rfl⟩
theorem ok_canMeet {f C Cw fN c P : Addr} {fd fdN : FuncData} {k : Nat} (F : FunC K "can_meet" "Places.can_meet" sCanMeet f fd c) (B : Bi mg) (T : PTxt K mg C) (TB : GxR.TabB base mg c P) (hP : P ∈ Ts) (hTs : TsOk Ts Dd)
    (mN : Meth K C "can_name" fN) (bN : Binds K fdN ["self", "name", "block", "place"] []) (GN : FnOk P0 w K mg base CX0 k fN fdN ["self", "name", "block", "place"] (spCanName K C Cw)) :
    FnOk P0 w K mg base CX0 (k + 3 + 1) f fd ["self", "parts", "block"] (spCanMeet K C Cw Ts Dd) := by
  refine F.ok scCanMeet (fun vs H Q E h => ?_) (fun A outer s H vs Q E hr h => ?_)
  · obtain ⟨p, na, ns, b, pr, rfl, _⟩ := h
    rfl
  · obtain ⟨p, na, ns, b, pr, rfl, hPl, hna, hb, hT, q⟩ := h
    refine ⟨_, (pss_cons (ps_set (i := 3) scCanMeet.nd rfl (.inl rfl) (pe_ix ix_list (pe_fld (pv 0) rfl) (pv 2) (fun _ _ => rfl)))
      (pss_cons (ps_if (pw_or (pt_cmpR op_lt (pe_callB call_len_seq (by rfl) B.len PySem.boot_len (pa_cons (pv 3) pa_nil)) pe_int (nomark _)) (pw_or1 (pt_cmpR op_ne (pe_callB call_len_seq (by rfl) B.len PySem.boot_len (pa_cons (pv 1) pa_nil)) (pe_callB call_len_seq (by rfl) B.len PySem.boot_len (pa_cons (pv 3) pa_nil)) (nomark _)))).pt (pss_one (ps_ret pe_bl)) pss_nil)
      (pss_cons (ps_set (i := 4) scCanMeet.nd rfl (.inr rfl) (pe_callB call_len_seq (by rfl) B.len PySem.boot_len (pa_cons (pe_fld (pv 0) rfl) pa_nil)))
      (pss_one (ps_ret (Gx.pe_allG (k := k) (own := [("part", 5), ("lead", 6)]) (g := gTup K 2 (gCons (gName 5) (gCons (gName 6) gNil))) (tt := tYes) (te := _) rfl hr scCanMeet.nd (by rfl) B.all (by decide +kernel) TB rfl
      (blkOk_by (own := [("part", 5), ("lead", 6)]) (N := nCanMeet) (sc := defScope sCanMeet) (by decide +kernel)) (by decide +kernel) (by rfl) (by rfl)
      (RZ.pi_zipA (by rfl) B.zip (pa_cons (pv 1) (pa_cons (pv 3) pa_nil))) (fun _ _ _ _ _ _ _ _ _ => (pg_tup rfl (pgs_cons (pg_name (i := 5) scCanMeet.nd rfl (.inl rfl)) (pgs_cons (pg_name (i := 6) scCanMeet.nd rfl (.inl rfl)) pgs_nil)))) (fun _ _ _ _ _ _ _ _ _ => pts_nil)
      (fun A' _ _ _ _ _ _ _ hr' => pe_meth (pv 0) T.cl mN GN hr' bN .nil pass0 (pa_cons (pv 5) (pa_cons (pv 6) (pa_cons (pv 4) pa_nil)))) (fun _ => rfl))))))), ?_⟩
    have no : ¬ MeetOk pr ns b → Q (.bl false) H := fun n => q H false (LamX.ExtN.refl H) hT ⟨fun z => (by cases z), fun z => absurd z n⟩
    have hPl0 : PlAt K C Cw H p pr := hPl.same (nt_same _)
    obtain ⟨dx, ra, oa, la, wa, rs, g1, g2, g3, g4, ⟨qs, g5, g6⟩, g7⟩ := id hPl0
    obtain ⟨dx', ra', oa', la', wa', rs', g1', g2', g3', g4', ⟨qs', g5', g6'⟩, g7'⟩ := id hPl
    have hrl : rs.length = (rowsL pr).length := pd_len g3
    have hql : qs'.length = pr.length := by rw [pd_len g6', List.length_map, List.length_range]
    have e11 := (nt_same H) _ _ g1'
    rw [g1] at e11
    cases e11
    have hqb := List.getElem?_eq_getElem (show b < qs'.length by omega)
    obtain ⟨L, hL1, hL2⟩ := pd_at2 g6' hqb
    rw [List.getElem?_map, List.getElem?_range hb] at hL1
    cases hL1
    refine ⟨_, rfl, p, C, dx, _, _, rfl, g1, T.cl, T.nL, rfl, iv b, rfl, la, _, _, .ref qs'[b], rfl, rfl, ntL g5', atI_nat (by rw [List.getElem?_map, hqb]; rfl), ?_⟩
    refine ⟨_, rfl, qs'[b], _, rfl, .inl (ntL hL2), _, _, rfl, rfl, _, rfl, ite2 (fun e1 => ?_) (fun e1 => ?_)⟩
    · refine no fun z => ?_
      have := of_decide_eq_true e1
      rw [List.length_map] at this
      have := z.1
      omega
    have hl2 : 2 ≤ (spec pr pr.length b).length := by
      have : ¬ (((spec pr pr.length b).map iv).length : Int) < 2 := fun z => e1 (decide_eq_true z)
      rw [List.length_map] at this
      omega
    refine ⟨_, rfl, na, _, rfl, .inl (ntL hna), _, rfl, qs'[b], _, rfl, .inl (ntL hL2), rfl, _, rfl, ite2 (fun e2 => ?_) (fun e2 => ?_)⟩
    · refine no fun z => ?_
      have e2 := of_decide_eq_false (notT e2)
      exact e2 (by rw [List.length_map, List.length_map, z.2.1])
    have hln : ns.length = (spec pr pr.length b).length := by
      have := V.int.inj (of_decide_eq_true (notF e2))
      rw [List.length_map, List.length_map] at this
      omega
    refine ⟨_, rfl, p, C, dx, _, _, rfl, g1, T.cl, T.nR, rfl, ra, _, rfl, .inl (sqL g2), ?_⟩
    refine ⟨_, rfl, _, rfl, na, qs'[b], ns.map V.int, (spec pr pr.length b).map iv, rfl, .inl ⟨ntL hna, ntL hL2, hT.g P hP, fun H2 hTb => ?_⟩⟩
    obtain ⟨hT2, e2⟩ := hT.tabbed hP (hTs.ne hP) hTb
    have a1 : ∀ {H' : Hp}, LamX.ExtN H H' → SqL K H' na (ns.map V.int) := fun e => ntL ((ext_nt e).seq hna)
    have a2 : ∀ {H' : Hp}, LamX.ExtN H H' → SqL K H' qs'[b] ((spec pr pr.length b).map iv) := fun e => ntL ((ext_nt e).seq hL2)
    have w := walk_zip (K := K) (a := na) (b := qs'[b]) (xs := ns.map V.int) (ys := (spec pr pr.length b).map iv) (n := ns.length) (by rw [List.length_map, List.length_map]; omega)
    refine all_wi ns.length (fun i H' => LamX.ExtN H H' ∧ Tbs Ts Dd H' ∧ ∀ (j : Nat) (x : Int) (l : Nat), j < i → ns[j]? = some x → (spec pr pr.length b)[j]? = some l → CanN pr x l ((rowsL pr).length : Nat)) ⟨e2, hT2, fun j x l hj => absurd hj (Nat.not_lt_zero _)⟩ (fun i H3 hi hΦ => ⟨w.goes i H3 hi ⟨a1 hΦ.1, a2 hΦ.1⟩, fun x H' y => ?_⟩) (fun H3 hΦ => ⟨w.stops H3 ⟨a1 hΦ.1, a2 hΦ.1⟩, ?_⟩)
    · obtain ⟨Tt, x1, x2, rfl, nT, rfl, y1, y2⟩ := w.yields i H3 x H' hi ⟨a1 hΦ.1, a2 hΦ.1⟩ y
      have y1 : (ns.map V.int)[i]? = some x1 := y1
      have y2 : ((spec pr pr.length b).map iv)[i]? = some x2 := y2
      rw [List.getElem?_map] at y1 y2
      obtain ⟨n1, z1, rfl⟩ := Option.map_eq_some_iff.mp y1
      obtain ⟨n2, z2, rfl⟩ := Option.map_eq_some_iff.mp y2
      have hn2 : n2 < pr.length := (spec_mem.mp (List.mem_of_getElem? z2)).1
      have sT := new_same (o := .tup [.int n1, iv n2]) nT
      have e4 : LamX.ExtN H (upd H3 Tt (.tup [.int n1, iv n2])) := hΦ.1.trans (same_ext sT)
      have t4 := hΦ.2.1.same sT
      refine ⟨Tt, _, rfl, sqT upd_same, rfl, _, _, rfl, _, _, rfl, rfl, rfl, ?_⟩
      generalize upd H3 Tt (.tup [.int n1, iv n2]) = H4 at e4 t4
      have hPl4 : PlAt K C Cw H4 p pr := (hPl.same (ext_nt e4)).same (nt_same _)
      obtain ⟨dx4, ra4, oa4, la4, wa4, rs4, k1, k2⟩ := id hPl4
      refine ⟨.ref p, rfl, p, dx4, _, rfl, k1, rfl, .int n1, rfl, iv n2, rfl, iv rs.length, rfl, p, n1, n2, (rs.length : Nat), pr, rfl, hPl4, hn2, fun c hc => ⟨c, rfl, fun e => ?_, fun e => ⟨e4, t4, fun j x l hj hx hl => ?_⟩⟩⟩
      · refine q H4 false e4 t4 ⟨fun z => (by cases z), fun z => ?_⟩
        have := hc.mpr (by rw [hrl]; exact z.2.2 i n1 n2 z1 z2)
        rw [e] at this
        cases this
      · by_cases hji : j < i
        · exact hΦ.2.2 j x l hji hx hl
        · have : j = i := by omega
          subst this
          rw [z1] at hx
          rw [z2] at hl
          cases hx
          cases hl
          rw [hrl] at hc
          exact hc.mp (by cases c; exact absurd rfl e; rfl)
    · refine q H3 true hΦ.1 hΦ.2.1 ⟨fun _ => ⟨hl2, hln, fun i x l hx hl => ?_⟩, fun _ => rfl⟩
      exact hΦ.2.2 i x l (List.getElem?_eq_some_iff.mp hx).1 hx hl
end
end Gn
set_option Elab.async false
set_option linter.all false
set_option maxRecDepth 100000
set_option maxHeartbeats 4000000
set_option pp.maxSteps 300
namespace Gn
open PySem PySem.Spec PyProof.Rows L2
/-! ### meets ahead of the others -/
def AheadOk (rs : List Rz) : Prop := ∀ (i : Nat) (r r' : Rz), rs[i]? = some r → rs[i + 1]? = some r' → r'.w = "meet" → r.w = "meet"
def oth (rs : List Rz) : Nat → Bool
  | 0 => false
  | i + 1 => !decide ((rs.getD i (.take 0)).w = "meet")
def AhUp (rs : List Rz) (n : Nat) : Prop := ∀ (i : Nat) (r r' : Rz), i + 1 < n + 0 → rs[i]? = some r → rs[i + 1]? = some r' → r'.w = "meet" → r.w = "meet"
def spAhead (K : PySem.W.Frag) : Sp := fun vs H Q _ => ∃ (ra : Addr) (us : List V) (rs : List Rz), vs = [.ref ra] ∧ SqL K H ra us ∧ Paired (RzAt K H) us rs ∧ ∀ c : Bool, (c = true ↔ AheadOk rs) → Q (.bl c) H
abbrev nAhead : List Str := ["rows", "others", "row"]
theorem scAhead : FnScope nAhead ["rows"] (defScope sAhead) := ⟨rfl, rfl, rfl, by decide +kernel, rfl, by decide +kernel, by decide +kernel⟩
section
variable {P0 : Program} {w : World} {K : PySem.W.Frag} {mg : Str → Option Value} {base : Heap}
theorem ok_ahead {f fM : Addr} {fd fdM : FuncData} {k : Nat} (D : Df K mg "are_meets_ahead" sAhead ["rows"] f fd) (DM : Df K mg "is_meet" sIsMeet ["row"] fM fdM) (GM : FnOk P0 w K mg base CX0 k fM fdM ["row"] (spIsMeetR K)) : FnOk P0 w K mg base CX0 (k + 1) f fd ["rows"] (spAhead K) := by
  refine D.F.ok scAhead (fun vs H Q E h => ?_) (fun cdv A outer s H vs Q E hr h => ?_)
  · obtain ⟨ra, us, rs, rfl, _⟩ := h
    rfl
  · obtain ⟨ra, us, rs, rfl, hra, hrs, q⟩ := h
    refine ⟨_, (pss_cons (ps_set (i := 1) scAhead.nd rfl (.inl rfl) pe_bl)
      (pss_cons (ps_for PassesOwn.never rfl (pi_list (pv 0)) (pg_name (i := 2) scAhead.nd rfl (.inl rfl)) (pss_cons (ps_if (pw_and (pt_val (pe_call GM hr (by rfl) DM.g DM.F.kp DM.b .nil pass0 (pa_cons (pv 2) pa_nil))) (pw_and1 (pt_val (pv 1)))).pt (pss_one (ps_ret pe_bl)) pss_nil)
      (pss_one (ps_set (i := 1) scAhead.nd rfl (.inl rfl) (pe_not (pe_call GM hr (by rfl) DM.g DM.F.kp DM.b .nil pass0 (pa_cons (pv 2) pa_nil)))))))
      (pss_one (ps_ret pe_bl)))), ?_⟩
    refine ⟨_, rfl, ra, rfl, ⟨_, hra⟩, ?_⟩
    refine for_list (K := K) (a := ra) (xs := us) (fun i σ Hx => ∃ y2 : Option V, σ = [some (.ref ra), some (.bl (oth rs i)), y2] ∧ Hx = H ∧ AhUp rs i) ⟨none, rfl, rfl, fun j r r' hj => absurd hj (Nat.not_lt_zero _)⟩ (fun i σ Hx _ hP => ?_) (fun i x σ Hx hx hP => ?_) (fun σ Hx hP => ?_)
    · obtain ⟨_, _, rfl, _⟩ := hP
      exact hra
    · obtain ⟨y2, rfl, rfl, hU⟩ := hP
      obtain ⟨r, hr1, hr2⟩ := pd_at2 hrs hx
      have hg : rs.getD i (.take 0) = r := gd hr1
      have ho1 : oth rs (i + 1) = !decide (r.w = "meet") := by
        show (!decide ((rs.getD i (.take 0)).w = "meet")) = _
        rw [hg]
      have fin : (r.w = "meet" → oth rs i = false) → ∀ {σ2 : L2.St}, σ2 = [some (.ref ra), some (.bl (!decide (r.w = "meet"))), some x] → ∃ y2 : Option V, σ2 = [some (.ref ra), some (.bl (oth rs (i + 1))), y2] ∧ Hx = Hx ∧ AhUp rs (i + 1) := fun hok {σ2} e => ⟨some x, by rw [e, ho1], rfl, fun j r1 r2 hj e1 e2 e3 => by
        by_cases hji : j + 1 < i
        · exact hU j r1 r2 (by omega) e1 e2 e3
        · have hj2 : j + 1 = i := by omega
          subst hj2
          rw [hr1] at e2
          cases e2
          have h5 := hok e3
          have h6 : (!decide ((rs.getD j (.take 0)).w = "meet")) = false := h5
          rw [gd (d := Rz.take 0) e1] at h6
          simpa using h6⟩
      refine ⟨x, rfl, x, r, rfl, hr2, _, rfl, ?_⟩
      by_cases hm : r.w = "meet"
      · refine ifP (decide_eq_true hm) ⟨_, rfl, _, rfl, ite2 (fun e => ?_) (fun e => ?_)⟩
        · refine q false ⟨fun z => (by cases z), fun z => ?_⟩
          cases i with
          | zero => cases e
          | succ i =>
            have hi : i < rs.length := by have := (List.getElem?_eq_some_iff.mp hr1).1; omega
            have e0 := List.getElem?_eq_getElem hi
            have h6 : (!decide ((rs.getD i (.take 0)).w = "meet")) = true := e
            rw [gd (d := Rz.take 0) e0, decide_eq_true (z i _ _ e0 hr1 hm)] at h6
            cases h6
        · exact ⟨x, rfl, x, r, rfl, hr2, _, rfl, fin (fun _ => Bool.eq_false_iff.mpr e) rfl⟩
      · refine ifN (fun h => hm (of_decide_eq_true h)) (ifN (by intro h; cases h) ?_)
        exact ⟨x, rfl, x, r, rfl, hr2, _, rfl, fin (fun z => absurd z hm) rfl⟩
    · obtain ⟨y2, rfl, rfl, hU⟩ := hP
      refine q true ⟨fun _ i r r' e1 e2 => ?_, fun _ => rfl⟩
      have h1 := pd_len hrs
      have h2 := (List.getElem?_eq_some_iff.mp e2).1
      exact hU i r r' (by omega) e1 e2
end
end Gn
set_option Elab.async false
set_option linter.all false
set_option maxRecDepth 100000
set_option maxHeartbeats 4000000
/-! ### enumerate(list, start=k) -/
namespace Gn
open PySem PySem.Spec PyProof.Rows L2
/-- the two objects of a counted walk at the i-th: the enumerate, the list's iterator -/
structure CntAt (e it a : Addr) (k : Int) (i : Nat) (h : Heap) : Prop where
  cnt : ∃ old, IsEnum h e it (k + (i : Int)) old
  pos : h.IsListIter it a i
theorem CntAt.real {e it a : Addr} {k : Int} {i : Nat} {h : Heap} (t : CntAt e it a k i h) : ∀ b ∈ [e, it], ∃ o, h.get? b = some o ∧ ∀ v, o.data ≠ .cell v := by
  obtain ⟨⟨old, he⟩, o, ho, _, d⟩ := t
  simp only [List.forall_mem_cons, List.not_mem_nil, false_imp_iff, implies_true, and_true]
  exact ⟨⟨_, he, nofun⟩, o, ho, by rw [d]; nofun⟩
theorem CntAt.stay {e it a : Addr} {k : Int} {i : Nat} {h h' : Heap} (t : CntAt e it a k i h) (kp : ∀ b ∈ [e, it], ∀ o, h.get? b = some o → h'.get? b = some o) : CntAt e it a k i h' :=
  ⟨let ⟨old, he⟩ := t.cnt; ⟨old, kp e (by simp) _ he⟩, t.pos.at (kp it (by simp))⟩
def IteS (K : PySem.W.Frag) (a : Addr) (k : Int) : It :=
  ⟨fun i H => ∃ (xs : List V) (x : V), SqL K H a xs ∧ xs[i]? = some x, fun i H v H' => ∃ T x, v = .ref T ∧ H T = none ∧ H' = upd H T (.tup [.int (k + (i : Nat)), x]) ∧ ∀ xs, SqL K H a xs → xs[i]? = some x, fun i H => ∃ xs : List V, SqL K H a xs ∧ xs.length = i⟩
theorem walk_enumS {K : PySem.W.Frag} {a : Addr} {k : Int} {xs : List V} : Walk (IteS K a k) xs.length (fun H => SqL K H a xs) (YPair (fun i => some (.int (k + (i : Nat)))) (fun i => xs[i]?)) where
  goes := fun i _ hi q => ⟨xs, _, q, List.getElem?_eq_getElem hi⟩
  stops := fun _ q => ⟨xs, q, rfl⟩
  yields := fun i H v H' _ q ⟨T, x, h1, h2, h3, h4⟩ => ⟨T, _, x, h1, h2, h3, rfl, h4 xs q⟩
theorem turn_enumS {P : Program} {w : World} {K : PySem.W.Frag} {elts : List Expr} {kk : Nat} {tpos : Pos} (a e it : Addr) (k : Int) (ne : e ≠ it) (na : a ≠ it) (nea : e ≠ a) :
    Turn P w K (.Tuple elts kk tpos) (IteS K a k) [e, it] e (CntAt e it a k) where
  mem := by simp
  obj := fun i h t => t.real
  keep := fun i h h' t => t.stay
  self := fun A i s Q E t => let ⟨_, he⟩ := t.cnt; wpAny_pyIter_enum he
  item := by
    rintro X rfl rfl rfl hc i pins s σ H E I hf t ⟨xs, x, hq, hx⟩
    obtain ⟨its, rv, lst, hz⟩ := I.list hq
    obtain ⟨u, hu, ru⟩ := rv.get hx
    obtain ⟨old, he⟩ := t.cnt
    have low : ∀ b ∈ [e, it], b < s.heap.objs.size := fun b hb => let ⟨_, q, _⟩ := t.real b hb; Heap.lt_size q
    have short : i < its.toArray.size := by have := (List.getElem?_eq_some_iff.mp hu).1; simpa using this
    apply wpAny_pyNext_enum_itemC (Draws.list (A := X.A.in1) (I.ok.hd hc) it a na its.toArray) he ⟨t.pos, lst.isList⟩ short ne (by simp [ne, nea])
    intro u' h' tk hu' out st made sz stays
    have eu : u' = u := by
      rw [List.getElem?_toArray, hu] at hu'
      exact (Option.some.inj hu').symm
    subst eu
    refine ⟨_, rfl, wpAny_letOwnedTupleGo_enum (s := { s with heap := h', toks := tk + 1 }) out fun h2 he2 same => ?_⟩
    have made2 := (same.2 _ (Nat.ne_of_gt (low e (by simp)))).trans made
    have I1 : Inv X pins σ (upd H s.heap.objs.size (.tup [.int (k + (i : Nat)), x])) { s with heap := h2, toks := tk + 1 } := by
      refine I.turnedNew (ch := [e, it]) (fun b ob off q => ?_) hf (Nat.le_refl _) ⟨show 2 ≤ sizeLine by decide, _, .cons ⟨tk, rfl⟩ (.cons ru .nil), _, made2, rfl, _, rfl⟩
      simp only [List.mem_cons, List.not_mem_nil, or_false, not_or] at off
      rw [same.2 b off.1]
      exact stays b ob off.1 off.2 q
    refine ⟨.ref s.heap.objs.size, _, I1, rfl, ⟨_, x, rfl, I.hok.fresh (Nat.le_refl _), rfl, fun ys hy => ?_⟩, ⟨⟨u', ?_⟩, st.1.at fun o q => (same.2 it ne.symm).trans q⟩, fun b hb => ?_⟩
    · rw [I.list_inj hy hq]; exact hx
    · rw [show k + ((i + 1 : Nat) : Int) = k + (i : Int) + 1 by omega]
      exact he2
    · rw [upd_ne (Nat.ne_of_lt (low b hb))]
      exact (hf b hb).1
  done := by
    rintro X rfl rfl rfl hc i pins s σ H E I hf t ⟨xs, hq, hx⟩
    obtain ⟨its, rv, lst, hz⟩ := I.list hq
    obtain ⟨old, he⟩ := t.cnt
    have over : its.toArray.size = i := by rw [List.size_toArray, ← rv.length]; exact hx
    have st : s.heap.IsListIter it a its.toArray.size ∧ s.heap.IsList a its.toArray := by rw [over]; exact ⟨t.pos, lst.isList⟩
    apply wpAny_pyNext_enum_endD (Draws.list (A := X.A.in1) (I.ok.hd hc) it a na its.toArray) he st
    intro h' ext
    refine ⟨rfl, I.turnedL (t' := s.toks) (ch := [e, it]) (fun b ob off q => ext b ob (fun z => off (by simp [z])) q) hf⟩
/-- the reading of enumerate(l, start=k) -/
def iEnumS (K : PySem.W.Frag) (ta tk : TA) : TI := fun σ H R => ta σ H fun vs H1 => tk σ H1 fun zs H2 => ∃ (a : Addr) (xs : List V) (k : Nat), vs = [.ref a] ∧ zs = [iv k] ∧ k ≤ 1000000 ∧ SqL K H2 a xs ∧ R (IteS K a (k : Int)) H2
theorem pi_enumS {X : Cx} {e ek : Expr} {ta tk : TA} {p pos kpos tpos : Pos} {elts : List Expr} {kk : Nat} (hg : Gl X "enumerate") (hm : X.mg "enumerate" = none) (ha : PA X [e] ta) (hk : PK X [⟨some (Str.ofString "start"), ek, kpos⟩] tk)
    (one : starEach [e] X.env = (false, eval e X.env) :: starEach [] X.env := by rfl)
    (plain : ((backTo pos (starEach [e] X.env)).any (·.1) || (backToKw pos (keywordEach [⟨some (Str.ofString "start"), ek, kpos⟩] X.env)).any (·.1.isNone)) = false := by rfl)
    (named : (backToKw pos (keywordEach [⟨some (Str.ofString "start"), ek, kpos⟩] X.env)).all (·.1.isSome) = true := by rfl)
    (names : (backToKw pos (keywordEach [⟨some (Str.ofString "start"), ek, kpos⟩] X.env)).filterMap (·.1) = [Str.ofString "start"] := by rfl) :
    PI X (.Tuple elts kk tpos) (.Call (.Name "enumerate" p) [e] [⟨some (Str.ofString "start"), ek, kpos⟩] pos) (iEnumS X.K ta tk) := by
  constructor
  intro pins s σ H R I h
  refine wpAny_Call_Name_kw (ld_blt I hg hm boot_enumerate ?_)
  refine PySem.W.callWith_of (P := fun _ => True) plain (fun h _ => ⟨.machine, .inr (.inl rfl), .now⟩) (evalArgs_kw2 named ?_ one)
  apply thn (ha.run pos pins s σ H _ I h)
  intro us s1 ⟨vs, H1, I1, r1, q1⟩
  apply thn (hk.run pos pins s1 σ H1 _ I1 q1)
  rintro ws s2 ⟨zs, H2, I2, r2, a, xs, k, rfl, rfl, small, hq, q⟩
  obtain ⟨u, rfl, ru⟩ := r1.one
  cases ru
  obtain ⟨u2, rfl, t, rfl⟩ := r2.one
  obtain ⟨its, _, lst, _⟩ := I2.list hq
  rw [names]
  refine ⟨trivial, enum_begins_start (begins_list a its.toArray) lst.isList (by omega) (by omega) fun h' he hit _ stays => wpAny_pyIter_enum he ?_⟩
  have la := lst.lt
  have up : ∀ b ∈ [s2.heap.objs.size + 1, s2.heap.objs.size], FpOk X pins H2 b := by
    simp only [List.forall_mem_cons, List.not_mem_nil, false_imp_iff, implies_true, and_true]
    exact ⟨I2.fpOk (Nat.le_add_right ..) (I2.hok.fresh (Nat.le_add_right ..)), I2.fpOk (Nat.le_refl _) (I2.hok.fresh (Nat.le_refl _))⟩
  exact ⟨s2.heap.objs.size + 1, _, _, _, H2, rfl, I2.kept (t' := s2.toks) stays, turn_enumS a (s2.heap.objs.size + 1) s2.heap.objs.size (k : Int) (Nat.succ_ne_self _) (Nat.ne_of_lt la) (Nat.ne_of_gt (Nat.lt_succ_of_lt la)),
    ⟨⟨.none, by simpa using he⟩, _, hit, rfl, rfl⟩, up, q⟩
end Gn
set_option Elab.async false
set_option linter.all false
set_option maxRecDepth 100000
set_option maxHeartbeats 4000000
set_option pp.maxSteps 300
namespace Gn
open PySem PySem.Spec PyProof.Rows L2
/-! ### rows' names -/
def RowRight (pr : List Blk) (b j : Nat) (r : Rz) : Prop := (r.w = "meet" → MeetOk pr r.nms b) ∧ (r.w ≠ "meet" → ∀ x ∈ r.nms, CanN pr x b (j : Nat))
def spRowsRight (K : PySem.W.Frag) (C Cw : Addr) (Ts : List Addr) (D : Addr) : Sp := fun vs H Q _ => ∃ (p ra : Addr) (us : List V) (rs : List Rz) (b bg : Nat) (pr : List Blk), vs = [.ref p, iv b, iv bg, .ref ra] ∧ PlAt K C Cw (nt H) p pr ∧ SqL K (nt H) ra us ∧ Paired (RzAt K (nt H)) us rs ∧ bg ≤ 200000 ∧ b < pr.length ∧ (∀ r ∈ rs, r.nms.length ≤ 10000) ∧
  Tbs Ts D H ∧ ∀ H' (c : Bool), LamX.ExtN H H' → Tbs Ts D H' → (c = true ↔ ∀ (j : Nat) (r : Rz), rs[j]? = some r → RowRight pr b (bg + j) r) → Q (.bl c) H'
abbrev nRR : List Str := ["places", "block", "begin", "rows", "place", "row", "names", "right"]
theorem scRR : FnScope nRR ["places", "block", "begin", "rows"] (defScope sRowsRight) := ⟨rfl, rfl, rfl, by decide +kernel, rfl, by decide +kernel, by decide +kernel⟩
section
variable {P0 : Program} {w : World} {K : PySem.W.Frag} {mg : Str → Option Value} {base : Heap} {Ts : List Addr} {Dd : Addr}
theorem ok_rowsRight {f C Cw fN fM fA fI : Addr} {fd fdN fdM fdA fdI : FuncData} {k : Nat} (D : Df K mg "are_rows_right" sRowsRight ["places", "block", "begin", "rows"] f fd) (B : Bi mg) (T : PTxt K mg C)
    (DN : Df K mg "rows_named" sRowsNamed ["row"] fN fdN) (GN : FnOk P0 w K mg base CX0 k fN fdN ["row"] (spRowsNamed K)) (DI : Df K mg "is_meet" sIsMeet ["row"] fI fdI) (GI : FnOk P0 w K mg base CX0 k fI fdI ["row"] (spIsMeetR K))
    (mM : Meth K C "can_meet" fM) (bM : Binds K fdM ["self", "parts", "block"] []) (GM : FnOk P0 w K mg base CX0 k fM fdM ["self", "parts", "block"] (spCanMeet K C Cw Ts Dd))
    (mA : Meth K C "can_name_all" fA) (bA : Binds K fdA ["self", "names", "block", "place"] []) (GA : FnOk P0 w K mg base CX0 k fA fdA ["self", "names", "block", "place"] (spCanAll K C Cw Ts Dd)) :
    FnOk P0 w K mg base CX0 (k + 1) f fd ["places", "block", "begin", "rows"] (spRowsRight K C Cw Ts Dd) := by
  refine D.F.ok scRR (fun vs H Q E h => ?_) (fun cdv A outer s H vs Q E hr h => ?_)
  · obtain ⟨p, ra, us, rs, b, bg, pr, rfl, _⟩ := h
    rfl
  · obtain ⟨p, ra, us, rs, b, bg, pr, rfl, hPl, hra, hrs, hbg, hb, hnl, hT, q⟩ := h
    refine ⟨_, (pss_cons (ps_for PassesOwn.never rfl (pi_enumS (by rfl) B.enumerate (pa_cons (pv 3) pa_nil) (pk_cons (pv 2) pk_nil)) (pg_tup rfl (pgs_cons (pg_name (i := 4) scRR.nd rfl (.inl rfl)) (pgs_cons (pg_name (i := 5) scRR.nd rfl (.inl rfl)) pgs_nil))) (pss_cons (ps_set (i := 6) scRR.nd rfl (.inl rfl) (pe_call GN hr (by rfl) DN.g DN.F.kp DN.b .nil pass0 (pa_cons (pv 5) pa_nil)))
      (pss_cons (ps_set (i := 7) scRR.nd rfl (.inl rfl) (pe_ifExp (pt_val (pe_call GI hr (by rfl) DI.g DI.F.kp DI.b .nil pass0 (pa_cons (pv 5) pa_nil))) (pe_meth (pv 0) T.cl mM GM hr bM .nil pass0 (pa_cons (pv 6) (pa_cons (pv 1) pa_nil))) (pe_meth (pv 0) T.cl mA GA hr bA .nil pass0 (pa_cons (pv 6) (pa_cons (pv 1) (pa_cons (pv 4) pa_nil))))))
      (pss_one (ps_if (pt_not (pt_val (pv 7))) (pss_one (ps_ret pe_bl)) pss_nil)))))
      (pss_one (ps_ret pe_bl))), ?_⟩
    refine ⟨_, rfl, _, rfl, ra, us, bg, rfl, rfl, by omega, ntL hra, ?_⟩
    have at_ : ∀ {H' : Hp}, LamX.ExtN H H' → SqL K H' ra us := fun e => ntL ((ext_nt e).seq hra)
    refine for_it (walk_enumS (K := K) (a := ra) (k := (bg : Int)) (xs := us)) (fun i σ Hx => ∃ y4 y5 y6 y7 : Option V, σ = [some (.ref p), some (iv b), some (iv bg), some (.ref ra), y4, y5, y6, y7] ∧ LamX.ExtN H Hx ∧ Tbs Ts Dd Hx ∧ ∀ (j : Nat) (r : Rz), j < i → rs[j]? = some r → RowRight pr b (bg + j) r) ⟨none, none, none, none, rfl, LamX.ExtN.refl _, hT, fun j r hj => absurd hj (Nat.not_lt_zero _)⟩ (fun i σ Hx _ hP => ?_) (fun i x σ Hx Hy hi hP hY => ?_) (fun σ Hx hP => ?_)
    · obtain ⟨_, _, _, _, _, sx, _⟩ := hP
      exact at_ sx
    · obtain ⟨y4, y5, y6, y7, rfl, sx, tx, hU⟩ := hP
      obtain ⟨Tt, x1, x2, rfl, nT, rfl, e1, e2⟩ := hY
      cases e1
      have e2 : us[i]? = some x2 := e2
      obtain ⟨r, hr1, hr2⟩ := pd_at2 hrs e2
      have r1 := hnl r (List.mem_of_getElem? hr1)
      have sT := new_same (o := .tup [.int ((bg : Int) + (i : Nat)), x2]) nT
      have sx2 := sx.trans (same_ext sT)
      have tx2 := tx.same sT
      refine ⟨Tt, _, rfl, sqT upd_same, rfl, _, _, rfl, _, _, rfl, rfl, ?_⟩
      generalize upd Hx Tt (.tup [.int ((bg : Int) + (i : Nat)), x2]) = Hz at sx2 tx2
      refine ⟨x2, rfl, x2, r, rfl, (hr2.same (ext_nt sx2)).same (nt_same _), r1, fun na H4 nna s4 ena => ?_⟩
      have sx4 := sx2.trans (same_ext s4)
      have tx4 := tx2.same s4
      have hPl4 : PlAt K C Cw (nt H4) p pr := hPl.same (ext_nt sx4)
      obtain ⟨dx4, ra4, oa4, la4, wa4, rs4, k1, k2⟩ := id (hPl4.same (nt_same _))
      have hna : SqL K (nt H4) na (r.nms.map V.int) := sqL (nt_at ena (fun ps z => by cases z))
      refine ⟨x2, rfl, x2, r, rfl, (hr2.same (ext_nt sx4)).same (nt_same _), _, rfl, ?_⟩
      have fin : ∀ {c : Bool}, (c = true ↔ RowRight pr b (bg + i) r) → c = true → ∀ (j : Nat) (r' : Rz), j < i + 1 → rs[j]? = some r' → RowRight pr b (bg + j) r' := fun hc e j r' hj hr' => by
        by_cases hji : j < i
        · exact hU j r' hji hr'
        · have : j = i := by omega
          subst this
          rw [hr1] at hr'
          cases hr'
          exact hc.mp e
      have bad : ∀ (c : Bool), (c = true ↔ RowRight pr b (bg + i) r) → c = false → ∀ (Hw : Hp), LamX.ExtN H Hw → Tbs Ts Dd Hw → Q (.bl false) Hw := fun c hc e Hw a t => q Hw false a t ⟨fun z => (by cases z), fun z => by
        have := hc.mpr (z i r hr1)
        rw [e] at this
        cases this⟩
      by_cases hm : r.w = "meet"
      · refine ifP (decide_eq_true hm) ?_
        refine ⟨.ref p, rfl, p, dx4, _, rfl, k1, rfl, .ref na, rfl, iv b, rfl, p, na, r.nms, b, pr, rfl, hPl4, hna, hb, tx4, fun H5 c e5 t5 hc => ?_⟩
        have hc2 : c = true ↔ RowRight pr b (bg + i) r := hc.trans ⟨fun z => ⟨fun _ => z, fun n => absurd hm n⟩, fun z => z.1 hm⟩
        exact ⟨_, rfl, c, rfl, ite2 (fun e => bad _ hc2 (notT e) _ (sx4.trans e5) t5) (fun e => ⟨_, _, _, _, rfl, sx4.trans e5, t5, fin hc2 (notF e)⟩)⟩
      · refine ifN (fun h => hm (of_decide_eq_true h)) ?_
        have ei : ((bg : Int) + (i : Nat)) = ((bg + i : Nat) : Int) := by omega
        refine ⟨.ref p, rfl, p, dx4, _, rfl, k1, rfl, .ref na, rfl, iv b, rfl, .int ((bg : Int) + (i : Nat)), rfl, p, na, r.nms, b, (bg : Int) + (i : Nat), pr, rfl, hPl4, hna, hb, tx4, fun H5 c e5 t5 hc => ?_⟩
        have hc2 : c = true ↔ RowRight pr b (bg + i) r := hc.trans ⟨fun z => ⟨fun n => absurd n hm, fun _ => by rw [← ei]; exact z⟩, fun z => by rw [ei]; exact z.2 hm⟩
        exact ⟨_, rfl, c, rfl, ite2 (fun e => bad _ hc2 (notT e) _ (sx4.trans e5) t5) (fun e => ⟨_, _, _, _, rfl, sx4.trans e5, t5, fin hc2 (notF e)⟩)⟩
    · obtain ⟨y4, y5, y6, y7, rfl, sx, tx, hU⟩ := hP
      refine q _ true sx tx ⟨fun _ j r hr' => ?_, fun _ => rfl⟩
      have h1 := pd_len hrs
      exact hU j r (by rw [h1]; exact (List.getElem?_eq_some_iff.mp hr').1) hr'
end
end Gn
set_option Elab.async false
set_option linter.all false
set_option maxRecDepth 100000
set_option maxHeartbeats 4000000
set_option pp.maxSteps 300
namespace Gn
open PySem PySem.Spec PyProof.Rows L2
/-! ### are_names_right, is_program -/
def bgnP (pr : List Blk) (i : Nat) : Nat := (rowsL (pr.take i)).length
/-- a program of which each name is right -/
def NmAt (pr : List Blk) (i : Nat) (b : Blk) : Prop := AheadOk b.1 ∧ (∀ (j : Nat) (r : Rz), b.1[j]? = some r → RowRight pr i (bgnP pr i + j) r) ∧ ∀ x ∈ b.2.nms, CanN pr x i (bgnP pr (i + 1))
def NamesOk (pr : List Blk) : Prop := ∀ (i : Nat) (b : Blk), pr[i]? = some b → NmAt pr i b
/-- whether are_names_right answers True -/
def nmlOk (pr : List Blk) : Prop := ∀ b ∈ pr, ∀ r ∈ b.1, r.nms.length ≤ 10000
def spNamesRight (K : PySem.W.Frag) (Ts : List Addr) (D : Addr) : Sp := fun vs H Q _ => ∃ (v : V) (pr : List Blk), vs = [v] ∧ ProgAt K (nt H) v pr ∧ PrP pr ∧ nmlOk pr ∧ Tbs Ts D H ∧ ∀ H' (c : Bool), LamX.ExtN H H' → Tbs Ts D H' → (c = true ↔ NamesOk pr) → Q (.bl c) H'
abbrev nNR : List Str := ["program", "places", "begin", "block", "rows", "end"]
theorem scNR : FnScope nNR ["program"] (defScope sNamesRight) := ⟨rfl, rfl, rfl, by decide +kernel, rfl, by decide +kernel, by decide +kernel⟩
def dec : Dt → Rz
  | .tup [.str w, .int n] => if w = "take" then .take n else if w = "num" then .num n else .tell n
  | .tup [.str _, .tup ps] => .meet (ps.map intD)
  | .tup [.str w, .int x, .int y] => .bin (if w = "sum" then .sum else if w = "less" then .less else if w = "times" then .times else if w = "same" then .same else .below) x y
  | .tup [.str _, .int x, .tup ps] => .pick x (ps.map intD)
  | .tup [.str _, .tup rs, .int x] => .look (rs.map intD) x
  | .tup [.str _, .tup rs, .int x, .int y] => .lay (rs.map intD) x y
  | _ => .take 0
theorem dec_dt (r : Rz) : dec r.dt = r := by
  cases r with
  | bin b x y => cases b <;> rfl
  | take i => rfl
  | num i => rfl
  | tell i => rfl
  | pick x ps => show Rz.pick x ((ps.map Dt.int).map intD) = _; rw [intD_map]
  | meet ps => show Rz.meet ((ps.map Dt.int).map intD) = _; rw [intD_map]
  | look ps x => show Rz.look ((ps.map Dt.int).map intD) x = _; rw [intD_map]
  | lay ps x y => show Rz.lay ((ps.map Dt.int).map intD) x y = _; rw [intD_map]
def decE : Dt → En
  | .tup [.str _, .int b] => .go b
  | .tup [.str _, .int r, .int b, .int c] => .iff r b c
  | _ => .fin
theorem decE_dt (e : En) : decE e.dt = e := by cases e <;> rfl
def decB : Dt → Blk
  | .tup [.lst rs, e] => (rs.map dec, decE e)
  | _ => ([], .fin)
theorem map_dec {α β : Type} {f : α → β} {g : β → α} (h : ∀ a, g (f a) = a) (as : List α) : (as.map f).map g = as := by
  rw [List.map_map]
  conv => rhs; rw [← List.map_id as]
  exact List.map_congr_left fun a _ => h a
theorem decB_dt (b : Blk) : decB (bdt b) = b := by
  show ((b.1.map Rz.dt).map dec, decE b.2.dt) = b
  rw [map_dec dec_dt, decE_dt]
def decP : Dt → List Blk
  | .lst bs => bs.map decB
  | _ => []
theorem decP_dt (pr : List Blk) : decP (pdt pr) = pr := map_dec decB_dt pr
/-- the right programs, as the program tells them -/
def RightP (d : Dt) : Prop := isWrittenD d = true ∧ ledB (decP d) = true ∧ NamesOk (decP d)
theorem szD_nms {r : Rz} (h : szD r.dt = true) : r.nms.length ≤ 10000 := by
  have h := (sz_tup h).2
  have g : ∀ {ps : List Int}, intsD ps ∈ r.ps → ps.length ≤ 4000 := fun {ps} hp => by
    have := (sz_tup (h _ (List.mem_cons_of_mem _ hp))).1
    rwa [List.length_map] at this
  cases r with
  | pick x ps =>
    have := g (ps := ps) (by simp [Rz.ps])
    show (x :: ps).length ≤ 10000
    rw [List.length_cons]
    omega
  | meet ps =>
    have := g (ps := ps) (by simp [Rz.ps])
    show ps.length ≤ 10000
    omega
  | _ => (first | exact Nat.zero_le _ | (show (1 : Nat) ≤ 10000; decide) | (show (2 : Nat) ≤ 10000; decide))
theorem szD_prog {pr : List Blk} (h : szD (pdt pr) = true) : nmlOk pr := fun b hb r hr => by
  have h1 := (sz_lst h).2 (bdt b) (List.mem_map.mpr ⟨b, hb, rfl⟩)
  have h2 := (sz_tup h1).2 _ (List.mem_cons_self (a := Dt.lst (b.1.map Rz.dt)))
  exact szD_nms ((sz_lst h2).2 _ (List.mem_map.mpr ⟨r, hr, rfl⟩))
def spIsProg (K : PySem.W.Frag) (Ts : List Addr) (D : Addr) : Sp := fun vs H Q _ => ∃ (v : V) (d : Dt), vs = [v] ∧ DtAt K (nt H) v d ∧ szD d = true ∧ (∀ pr, d = pdt pr → pr.length ≤ 100 ∧ ∀ b ∈ pr, b.1.length ≤ 1000) ∧ Tbs Ts D H ∧ ∀ H' (c : Bool), LamX.ExtN H H' → Tbs Ts D H' → (c = true ↔ RightP d) → Q (.bl c) H'
abbrev nIP : List Str := ["thing"]
theorem scIP : FnScope nIP ["thing"] (defScope sIsProg) := ⟨rfl, rfl, rfl, by decide +kernel, rfl, by decide +kernel, by decide +kernel⟩
theorem PlAt.nt {K : PySem.W.Frag} {C Cw : Addr} {H : Hp} {p : Addr} {pr : List Blk} (h : PlAt K C Cw H p pr) : PlAt K C Cw (Gn.nt H) p pr := by
  obtain ⟨dx, ra, oa, la, wa, rs, h1, h2, h3, h4, ⟨qs, h5, h5'⟩, dx2, ss, ff, sl, pl, nsl, w1, w2, w3, w4⟩ := h
  have n : ∀ {a o}, H a = some o → (∀ ps, o ≠ .tbl ps) → Gn.nt H a = some o := fun a b => nt_at a b
  exact ⟨dx, ra, oa, la, wa, rs, n h1 (fun ps z => by cases z), n h2 (fun ps z => by cases z), pd_mono h3 fun _ _ z => row_tups z fun t => ntT' t, n h4 (fun ps z => by cases z), ⟨qs, ntL' h5, pd_mono h5' fun _ _ z => ntL' z⟩, dx2, ss, ff, sl, pl, nsl, n w1 (fun ps z => by cases z), n w2 (fun ps z => by cases z), n w3 (fun ps z => by cases z), w4⟩
section
variable {P0 : Program} {w : World} {K : PySem.W.Frag} {mg : Str → Option Value} {base : Heap} {Ts : List Addr} {Dd : Addr}
theorem ok_namesRight {f C Cw fI fH fR fA fT : Addr} {fd fdI fdH fdR fdA fdT : FuncData} {k : Nat} (D : Df K mg "are_names_right" sNamesRight ["program"] f fd) (B : Bi mg) (T : PTxt K mg C)
    (M : Mk K C fI) (bI : Binds K fdI ["self", "program"] []) (GI : FnOk P0 w K mg base CX0 k fI fdI ["self", "program"] (spPInit K C Cw))
    (DH : Df K mg "are_meets_ahead" sAhead ["rows"] fH fdH) (GH : FnOk P0 w K mg base CX0 (k + 1) fH fdH ["rows"] (spAhead K))
    (DR : Df K mg "are_rows_right" sRowsRight ["places", "block", "begin", "rows"] fR fdR) (GR : FnOk P0 w K mg base CX0 (k + 1) fR fdR ["places", "block", "begin", "rows"] (spRowsRight K C Cw Ts Dd))
    (mA : Meth K C "can_name_all" fA) (bA : Binds K fdA ["self", "names", "block", "place"] []) (GA : FnOk P0 w K mg base CX0 (k + 1) fA fdA ["self", "names", "block", "place"] (spCanAll K C Cw Ts Dd))
    (DT : Df K mg "rows_tested" sRowsTested ["end"] fT fdT) (GT : FnOk P0 w K mg base CX0 (k + 1) fT fdT ["end"] (spRowsTested K)) : FnOk P0 w K mg base CX0 (k + 1 + 1) f fd ["program"] (spNamesRight K Ts Dd) := by
  refine D.F.ok scNR (fun vs H Q E h => ?_) (fun cdv A outer s H vs Q E hr h => ?_)
  · obtain ⟨v, pr, rfl, _⟩ := h
    rfl
  · obtain ⟨v, pr, rfl, hPg, hB, hnl, hT, q⟩ := h
    refine ⟨_, (pss_cons (ps_set (i := 1) scNR.nd rfl (.inl rfl) (pe_make M GI hr (by rfl) T.mgC bI .nil pass0 (pa_cons (pv 0) pa_nil)))
      (pss_cons (ps_set (i := 2) scNR.nd rfl (.inl rfl) pe_int)
      (pss_cons (ps_for PassesOwn.never rfl (pi_enum (by rfl) B.enumerate (pa_cons (pv 0) pa_nil)) (pg_tup rfl (pgs_cons (pg_name (i := 3) scNR.nd rfl (.inl rfl)) (pgs_cons (pg_tup rfl (pgs_cons (pg_name (i := 4) scNR.nd rfl (.inl rfl)) (pgs_cons (pg_name (i := 5) scNR.nd rfl (.inl rfl)) pgs_nil))) pgs_nil))) (pss_cons (ps_if (pw_or (pt_not (pt_val (pe_call GH hr (by rfl) DH.g DH.F.kp DH.b .nil pass0 (pa_cons (pv 4) pa_nil)))) (pw_or1 (pt_not (pt_val (pe_call GR hr (by rfl) DR.g DR.F.kp DR.b .nil pass0 (pa_cons (pv 1) (pa_cons (pv 3) (pa_cons (pv 2) (pa_cons (pv 4) pa_nil))))))))).pt (pss_one (ps_ret pe_bl)) pss_nil)
      (pss_cons (ps_aug (i := 2) scNR.nd rfl (.inl rfl) (pe_callB call_len_seq (by rfl) B.len PySem.boot_len (pa_cons (pv 4) pa_nil)) ip_add)
      (pss_one (ps_if (pt_not (pt_val (pe_meth (pv 1) T.cl mA GA hr bA .nil pass0 (pa_cons (pe_call GT hr (by rfl) DT.g DT.F.kp DT.b .nil pass0 (pa_cons (pv 5) pa_nil)) (pa_cons (pv 3) (pa_cons (pv 2) pa_nil)))))) (pss_one (ps_ret pe_bl)) pss_nil)))))
      (pss_one (ps_ret pe_bl))))), ?_⟩
    have hPg0 := hPg
    obtain ⟨a, bs, rfl, ha, hbs⟩ := hPg0
    refine ⟨_, rfl, ?_⟩
    intro x dx nx ndx nex
    have s7 : Same H (upd (upd H dx (.own x)) x (.ins C dx [])) := fun b o e => by
      rw [upd_ne (ne_of_none e nx), upd_ne (ne_of_none e ndx)]
      exact e
    refine ⟨H, x, dx, .ref a, pr, rfl, s7, nx, upd_same, hPg.same (nt_same _), hB, fun H1 s1 hPl => ⟨rfl, ?_⟩⟩
    have hPl1 : PlAt K C Cw (nt H1) x pr := hPl.nt
    have hT1 := hT.same s1
    have e1 : LamX.ExtN H H1 := same_ext s1
    have at_ : ∀ {H' : Hp}, LamX.ExtN H H' → SqL K H' a bs := fun e => ntL ((ext_nt e).seq ha)
    have hbl : bs.length = pr.length := pd_len hbs
    refine ⟨.ref a, rfl, a, bs, rfl, at_ e1, ?_⟩
    refine for_it (walk_enum (K := K) (a := a) (xs := bs)) (fun i σ Hx => ∃ y3 y4 y5 : Option V, σ = [some (.ref a), some (.ref x), some (iv (bgnP pr i)), y3, y4, y5] ∧ LamX.ExtN H1 Hx ∧ Tbs Ts Dd Hx ∧ ∀ (j : Nat) (b : Blk), j < i → pr[j]? = some b → NmAt pr j b) ⟨none, none, none, rfl, LamX.ExtN.refl _, hT1, fun j b hj => absurd hj (Nat.not_lt_zero _)⟩ (fun i σ Hx _ hP => ?_) (fun i xv σ Hx Hy hi hP hY => ?_) (fun σ Hx hP => ?_)
    · obtain ⟨_, _, _, _, sx, _⟩ := hP
      exact at_ (e1.trans sx)
    · obtain ⟨y3, y4, y5, rfl, sx, tx, hU⟩ := hP
      obtain ⟨Tt, x1, x2, rfl, nT, rfl, e1', e2⟩ := hY
      cases e1'
      have e2 : bs[i]? = some x2 := e2
      obtain ⟨b, hb1, pb, ra, ea, us, rfl, g1, g2, g3, g4⟩ := pd_at2 hbs e2
      have sT := new_same (o := .tup [.int (i : Nat), .ref pb]) nT
      have sx2 := sx.trans (same_ext sT)
      have tx2 := tx.same sT
      have bad : ¬ NmAt pr i b → ∀ Hw, LamX.ExtN H Hw → Tbs Ts Dd Hw → Q (.bl false) Hw := fun n Hw a t => q Hw false a t ⟨fun z => (by cases z), fun z => absurd (z i b hb1) n⟩
      refine ⟨Tt, _, rfl, sqT upd_same, rfl, _, _, rfl, _, _, rfl, pb, _, rfl, ntT (Same.tup (ext_nt (e1.trans sx2)) g1), rfl, _, _, rfl, _, _, rfl, rfl, rfl, ?_⟩
      generalize upd Hx Tt (.tup [.int (i : Nat), .ref pb]) = Hz at sx2 tx2
      have eZ := e1.trans sx2
      have hra : ∀ {H' : Hp}, LamX.ExtN H H' → SqL K (nt H') ra us := fun e => (ext_nt e).seq g2
      have hul : us.length = b.1.length := pd_len g3
      have hbm := List.mem_of_getElem? hb1
      have hil : i < pr.length := (List.getElem?_eq_some_iff.mp hb1).1
      have hbz : bgnP pr i ≤ 200000 := by
        have h1 := take_rows_le (i := i) hB.rl (Nat.le_of_lt hil)
        have h2 := hB.l12
        show (rowsL (pr.take i)).length ≤ 200000
        have : pr.length * 1000 ≤ 100 * 1000 := Nat.mul_le_mul_right _ h2
        omega
      have eB : (bgnP pr i : Int) + (us.length : Int) = ((bgnP pr (i + 1) : Nat) : Int) := by
        have : bgnP pr (i + 1) = bgnP pr i + us.length := by
          unfold bgnP
          rw [rows_take hb1, List.length_append, hul]
        omega
      refine ⟨_, rfl, ra, us, b.1, rfl, ntL (hra eZ), pd_mono g3 fun _ _ z => (z.same (ext_nt eZ)).same (nt_same _), fun c hc => ⟨_, rfl, ite2 (fun e0 => bad (fun z => by have := hc.mpr z.1; rw [notT e0] at this; cases this) _ eZ tx2) (fun e0 => ?_)⟩⟩
      have hc1 := hc.mp (notF e0)
      refine ⟨_, rfl, _, rfl, _, rfl, _, rfl, x, ra, us, b.1, i, bgnP pr i, pr, rfl, hPl1.same (ext_nt sx2), hra eZ, pd_mono g3 fun _ _ z => z.same (ext_nt eZ), hbz, hil, hnl b hbm, tx2, fun H4 c2 e4 t4 hc2 => ⟨_, rfl, ite2 (fun e3 => bad (fun z => by have := hc2.mpr z.2.1; rw [notT e3] at this; cases this) _ (eZ.trans e4) t4) (fun e3 => ?_)⟩⟩
      have hc3 := hc2.mp (notF e3)
      have eV : (iv (bgnP pr (i + 1)) : V) = V.int ((bgnP pr i : Int) + (us.length : Int)) := by rw [eB]; rfl
      have eY := eZ.trans e4
      refine ⟨_, rfl, _, rfl, ra, _, rfl, .inl (ntL (hra eY)), _, _, rfl, rfl, ?_⟩
      obtain ⟨dx4, ra4, oa4, la4, wa4, rs4, k1, k2⟩ := id ((hPl1.same (ext_nt (sx2.trans e4))).same (nt_same _))
      refine ⟨_, rfl, x, dx4, _, rfl, k1, rfl, ea, rfl, ea, b.2, rfl, (g4.same (ext_nt eY)).same (nt_same _), fun na H5 nna s5 ena => ?_⟩
      have e5 := (sx2.trans e4).trans (same_ext s5)
      refine ⟨_, rfl, _, rfl, x, na, b.2.nms, i, (bgnP pr i : Int) + (us.length : Int), pr, rfl, hPl1.same (ext_nt e5), sqL (nt_at ena (fun ps z => by cases z)), hil, t4.same s5, fun H6 c4 e6 t6 hc4 => ⟨c4, rfl, ite2 (fun e7 => bad (fun z => by have := hc4.mpr (by rw [eB]; exact z.2.2); rw [notT e7] at this; cases this) _ ((e1.trans e5).trans e6) t6) (fun e7 => ⟨some (iv i), some (.ref ra), some ea, by rw [eV]; rfl, e5.trans e6, t6, fun j b' hj hb' => ?_⟩)⟩⟩
      by_cases hji : j < i
      · exact hU j b' hji hb'
      · have : j = i := by omega
        subst this
        rw [hb1] at hb'
        cases hb'
        refine ⟨hc1, hc3, ?_⟩
        have := hc4.mp (notF e7)
        rw [eB] at this
        exact this
    · obtain ⟨y3, y4, y5, rfl, sx, tx, hU⟩ := hP
      refine q _ true (e1.trans sx) tx ⟨fun _ i b hb => hU i b ?_ hb, fun _ => rfl⟩
      rw [hbl]
      exact (List.getElem?_eq_some_iff.mp hb).1
theorem ok_isProg {f fW fL fN cW cL : Addr} {fd fdW fdL fdN : FuncData} {k : Nat} (D : Df K mg "is_program" sIsProg ["thing"] f fd) (DW : DfC K mg "is_written" sIsWritten ["thing"] fW fdW cW) (GW : FnOk P0 w K mg base CX0 k fW fdW ["thing"] (spDT K Ts Dd isWrittenD))
    (DL : DfC K mg "is_led" sIsLed ["program"] fL fdL cL) (GL : FnOk P0 w K mg base CX0 k fL fdL ["program"] (spLed K Ts Dd)) (DN : Df K mg "are_names_right" sNamesRight ["program"] fN fdN) (GN : FnOk P0 w K mg base CX0 k fN fdN ["program"] (spNamesRight K Ts Dd)) :
    FnOk P0 w K mg base CX0 (k + 1) f fd ["thing"] (spIsProg K Ts Dd) := by
  refine D.F.ok scIP (fun vs H Q E h => ?_) (fun cdv A outer s H vs Q E hr h => ?_)
  · obtain ⟨v, d, rfl, _⟩ := h
    rfl
  · obtain ⟨v, d, rfl, hd, hz, hsz, hT, q⟩ := h
    refine ⟨_, (pss_one (ps_ret (pe_and (pe_call GW hr (by rfl) DW.g DW.F.kp DW.b .nil pass0 (pa_cons (pv 0) pa_nil)) (pe_and (pe_call GL hr (by rfl) DL.g DL.F.kp DL.b .nil pass0 (pa_cons (pv 0) pa_nil)) (pe_one (pe_call GN hr (by rfl) DN.g DN.F.kp DN.b .nil pass0 (pa_cons (pv 0) pa_nil))))))), ?_⟩
    refine ⟨v, rfl, v, d, rfl, hd, hz, hT, fun H1 e1 t1 => ⟨_, rfl, ite2 (fun e => ?_) (fun e => ?_)⟩⟩
    rotate_left
    · exact q H1 false e1 t1 ⟨fun z => (by cases z), fun z => absurd z.1 e⟩
    obtain ⟨pr, hpr, hne, hG⟩ := written_of e
    subst hpr
    have hPg : ProgAt K (nt H) v pr := prog_at hd
    obtain ⟨z1, z2⟩ := hsz pr rfl
    have h1 : 1 ≤ pr.length := by
      cases pr with
      | nil => exact absurd rfl hne
      | cons b bs => simp
    refine ⟨v, rfl, v, pr, rfl, hPg.same (ext_nt e1), h1, z1, t1, fun H2 e2 t2 => ⟨_, rfl, ite2 (fun e3 => ?_) (fun e3 => ?_)⟩⟩
    rotate_left
    · exact q H2 false (e1.trans e2) t2 ⟨fun z => (by cases z), fun z => absurd (by have := z.2.1; rwa [decP_dt] at this) e3⟩
    refine ⟨v, rfl, v, pr, rfl, hPg.same (ext_nt (e1.trans e2)), ⟨h1, z1, z2, e3⟩, szD_prog hz, t2, fun H3 c e4 t3 hc => q H3 c ((e1.trans e2).trans e4) t3 (hc.trans ⟨fun z => ⟨e, by rw [decP_dt]; exact e3, by rw [decP_dt]; exact z⟩, fun z => by have := z.2.2; rwa [decP_dt] at this⟩)⟩
end
end Gn
set_option Elab.async false
set_option linter.all false
set_option maxRecDepth 100000
set_option maxHeartbeats 4000000
namespace Gn
open PySem PySem.Spec PyProof.Rows L2
/-! ### lists of numbers, lists of these -/
/-! ### the text's comprehensions -/
/-! ### readings by name -/
/-! ### leads -/
def leadsL (nx : List (List Nat)) : List (List Nat) := (List.range nx.length).map fun b => (List.range nx.length).filter fun l => decide (b ∈ nx.getD l [])
def spLeads (K : PySem.W.Frag) : Sp := fun vs H Q _ => ∃ (a : Addr) (nx : List (List Nat)), vs = [.ref a] ∧ NL K H a nx ∧ nx.length ≤ 1000 ∧
  ∀ (p : Addr) (H' : Hp), Same H H' → NL K (newOf H H') p (leadsL nx) → Q (.ref p) H'
abbrev nLeads : List Str := ["_law_nexts", "_law_block_here", "_law_lead"]
theorem scLeads : FnScope nLeads ["_law_nexts"] (defScope sLLeads) := ⟨rfl, rfl, rfl, by decide +kernel, rfl, by decide +kernel, by decide +kernel⟩
abbrev cLeads : Scope := lcS (valE (nthS (defBody sLLeads) 0))
section
variable {P : Program} {w : World} {K : PySem.W.Frag} {mg : Str → Option Value} {base : Heap}
theorem ok_leads {f : Addr} {fd : FuncData} {k : Nat} (D : Df K mg "_law_leads" sLLeads ["_law_nexts"] f fd) (B : Bi mg) : FnOk P w K mg base CX0 (k + 1) f fd ["_law_nexts"] (spLeads K) := by
  refine D.F.ok scLeads (fun vs H Q E h => ?_) (fun cdv A outer s H vs Q E hr h => ?_)
  · obtain ⟨a, nx, rfl, _⟩ := h
    rfl
  · obtain ⟨a, nx, rfl, hN, hl, q⟩ := h
    refine ⟨_, pss_one (ps_ret (pe_lc (own := [("_law_block_here", 1)]) (g := gName 1) (tt := tYes) (te := tLc (iRange (tLen K (tVar 0))) (gName 2) (tIn K (tVar 1) (tIxL K (tVar 0) (tVar 2))) (tVar 2) [2]) rfl scLeads.nd (pi_range1 (by rfl) B.range (pa_cons (pe_callB call_len_seq (by rfl) B.len PySem.boot_len (pa_cons (pv 0) pa_nil)) pa_nil))
      (blkOk_by (own := [("_law_block_here", 1)]) (N := nLeads) (sc := defScope sLLeads) (by decide +kernel)) (fun _ _ _ _ _ => pg_name (i := 1) scLeads.nd rfl (.inr rfl)) (fun _ _ _ _ _ => pts_nil)
      (fun _ _ _ _ _ => pe_lc (own := [("_law_lead", 2)]) (g := gName 2) (tt := tIn K (tVar 1) (tIxL K (tVar 0) (tVar 2))) (te := tVar 2) rfl scLeads.nd (pi_range1 (by rfl) B.range (pa_cons (pe_callB call_len_seq (by rfl) B.len PySem.boot_len (pa_cons (pv 0) pa_nil)) pa_nil))
        (blkOk_by (own := [("_law_lead", 2)]) (N := nLeads) (sc := relS cLeads (defScope sLLeads)) (by decide +kernel)) (fun _ _ _ _ _ => pg_name (i := 2) scLeads.nd rfl (.inl rfl))
        (fun _ _ _ _ _ => pts_one (pt_cmpR op_in_seq (pv 1) (pe_ix ix_list (pv 0) (pv 2) (fun _ _ => rfl)) rfl)) (fun _ _ _ _ _ => pv 2)))), ?_⟩
    obtain ⟨ys, hy, hyl⟩ := hN.len
    have hyi : (ys.length : Int) = (nx.length : Int) := by rw [hyl]
    refine ⟨.ref a, rfl, a, ys, rfl, .inl hy, nx.length, by rw [hyi], by omega, by omega, fun L nL => ?_⟩
    let f : Nat → List Nat := fun b => (List.range nx.length).filter fun l => decide (b ∈ nx.getD l [])
    refine lc_range (lo := 0) (n := nx.length) (fun i H1 => Same H H1 ∧ ∃ ps : List Addr, H1 L = some (.lst (ps.map V.ref)) ∧ Paired (fun q xs => H1 q = some (.lst (xs.map iv)) ∧ q ≠ L ∧ H q = none) ps ((List.range i).map f)) ⟨new_same nL, [], upd_same, .nil⟩ (fun i H1 hi hP => ?_) (fun H1 hP => ?_)
    · obtain ⟨sm, ps, eL, pd⟩ := hP
      have hN1 := hN.same sm
      have hy1 := sm.seq hy
      refine ⟨rfl, .ref a, rfl, a, ys, rfl, .inl hy1, nx.length, by rw [hyi], by omega, by omega, fun L2 nL2 => ?_⟩
      have n2 : L ≠ L2 := ne_of_none eL nL2
      refine lc_range (lo := 0) (n := nx.length) (fun j H2 => Same H1 H2 ∧ H2 L2 = some (.lst (((List.range j).filter fun l => decide (i ∈ nx.getD l [])).map iv))) ⟨new_same nL2, upd_same⟩ (fun j H2 hj hP2 => ?_) (fun H2 hP2 => ?_)
      · obtain ⟨sm2, eL2⟩ := hP2
        have ej : nx[j]? = some (nx.getD j []) := by rw [List.getD_eq_getElem?_getD, List.getElem?_eq_getElem hj]; rfl
        obtain ⟨zs, qa, z1, z2, z3, z4⟩ := (hN1.same sm2).at ej
        refine ⟨rfl, _, rfl, .ref a, rfl, _, rfl, a, zs, _, _, rfl, rfl, z1, by rw [Int.zero_add]; exact z3, qa, _, rfl, .inl z4, rfl, flat_iv _, _, rfl, ?_⟩
        have ei : inV (.int (0 + (i : Int))) ((nx.getD j []).map iv) = decide (i ∈ nx.getD j []) := by
          rw [Int.zero_add]; exact inV_iv i _
        have er : (List.range (j + 1)).filter (fun l => decide (i ∈ nx.getD l [])) = (List.range j).filter (fun l => decide (i ∈ nx.getD l [])) ++ (if decide (i ∈ nx.getD j []) = true then [j] else []) := by
          exact filt_succ _ j
        show if inV (.int (0 + (i : Int))) ((nx.getD j []).map iv) = true then _ else _
        rw [ei]
        by_cases hb : decide (i ∈ nx.getD j []) = true
        · rw [if_pos hb]
          rw [if_pos hb] at er
          refine ⟨_, rfl, _, eL2, ?_, fun b o e => ?_, ?_⟩
          · rw [List.length_map]
            exact szt (Nat.lt_of_le_of_lt (List.length_filter_le _ _) (by rw [List.length_range]; omega))
          · rw [upd_ne (ne_of_none e nL2)]
            exact sm2 _ _ e
          · rw [upd_same, er, List.map_append, Int.zero_add]
            rfl
        · rw [if_neg hb]
          rw [if_neg hb, List.append_nil] at er
          exact ⟨sm2, by rw [er]; exact eL2⟩
      · obtain ⟨sm2, eL2⟩ := hP2
        refine ⟨_, sm2 _ _ eL, ?_, fun b o e => ?_, ps ++ [L2], ?_, ?_⟩
        · rw [List.length_map, pd_len pd, List.length_map, List.length_range]
          exact szt (by omega)
        · rw [upd_ne (ne_of_none e nL)]
          exact sm2 _ _ (sm _ _ e)
        · rw [upd_same, List.map_append]
          rfl
        · rw [List.range_succ, List.map_append]
          refine pd_snoc (pd_mono pd fun b xs z => ⟨?_, z.2⟩) ⟨?_, n2.symm, sm.free nL2⟩
          · rw [upd_ne z.2.1]; exact sm2 _ _ z.1
          · rw [upd_ne n2.symm]
            exact eL2
    · obtain ⟨sm, ps, eL, pd⟩ := hP
      exact q L H1 sm ⟨ps, sqL (new_at nL eL), pd_mono pd fun _ _ z => sqL (new_at z.2.2 z.1)⟩
end
end Gn
set_option Elab.async false
set_option linter.all false
set_option maxRecDepth 100000
set_option maxHeartbeats 4000000
namespace Gn
open PySem PySem.Spec PyProof.Rows L2
/-! ### reached -/
theorem ndn_le : ∀ {m : Nat} {l : List Nat}, l.Nodup → (∀ y ∈ l, y < m) → l.length ≤ m
  | 0, [], _, _ => Nat.le_refl _
  | 0, a :: l, _, h => absurd (h a List.mem_cons_self) (Nat.not_lt_zero _)
  | m + 1, l, hn, h => by
    by_cases hm : m ∈ l
    · have h1 := List.length_erase_of_mem hm
      have h2 := ndn_le (m := m) (hn.erase m) fun y hy => by
        have h3 := (hn.mem_erase_iff).mp hy
        have := h y h3.2
        omega
      omega
    · have := ndn_le (m := m) hn fun y hy => by
        have h1 := h y hy
        have h2 : y ≠ m := fun e => hm (e ▸ hy)
        omega
      omega
def ClsR (nx : List (List Nat)) (wo : Nat) (ns : List Nat) : Prop := ∀ a ∈ ns, ∀ b ∈ Ex nx a, b ≠ wo → b ∈ ns
theorem cls_rc {nx : List (List Nat)} {wo : Nat} {ns : List Nat} (h : ClsR nx wo ns) (h0 : wo ≠ 0 → 0 ∈ ns) {y : Nat} (r : Rc (Ex nx) wo y) : y ∈ ns := by
  induction r with
  | z hx => exact h0 hx
  | s _ hb hx ih => exact h _ ih _ hb hx
def spReached (K : PySem.W.Frag) : Sp := fun vs H Q _ => ∃ (a : Addr) (nx : List (List Nat)) (wo : Nat), vs = [.ref a, .int wo] ∧ NL K H a nx ∧ 0 < nx.length ∧ nx.length ≤ 12 ∧
  (∀ xs ∈ nx, xs.length ≤ 2 ∧ ∀ y ∈ xs, y < nx.length) ∧
  ∀ (p : Addr) (ns : List Nat) (H' : Hp), H p = none → Same H H' → H' p = some (.lst (ns.map iv)) → (∀ y ∈ ns, y < nx.length) → (∀ y, y ∈ ns ↔ Rc (Ex nx) wo y) → Q (.ref p) H'
abbrev nReached : List Str := ["_law_nexts", "_law_without", "_law_found", "_law_turn", "_law_block_here", "_law_one"]
theorem scReached : FnScope nReached ["_law_nexts", "_law_without"] (defScope sLReached) := ⟨rfl, rfl, rfl, by decide +kernel, rfl, by decide +kernel, by decide +kernel⟩
theorem pick2 {c : Bool} {σ : L2.St} {H : Hp} {Q : VK} (h : ∀ p (ns : List Nat), H p = none → (c = true → ns = []) → (c = false → ns = [0]) → (∀ y ∈ ns, y = 0) → ns.length ≤ 1 → Q (.ref p) (upd H p (.lst (ns.map iv)))) :
    if c = true then tLst tNil σ H Q else tLst (tCons (tC (.int 0)) tNil) σ H Q := by
  cases c with
  | true => exact ⟨Nat.zero_le _, fun p np => h p [] np (fun _ => rfl) (fun e => by cases e) (fun y hy => by cases hy) (Nat.zero_le _)⟩
  | false => exact ⟨szl (show 1 ≤ 1000000 by decide), fun p np => h p [0] np (fun e => by cases e) (fun _ => rfl) (fun y hy => by simpa using hy) (Nat.le_refl _)⟩
theorem ints_iv {os : List Int} (h : ∀ k ∈ os, 0 ≤ k) : os.map V.int = (os.map Int.toNat).map iv := by
  rw [List.map_map]
  refine List.map_congr_left fun k hk => ?_
  show V.int k = V.int ((k.toNat : Nat) : Int)
  rw [Int.toNat_of_nonneg (h k hk)]
theorem pow3 {i m : Nat} (h : i ≤ m) (hm : m ≤ 12) : 3 ^ i ≤ 531441 := Nat.le_trans (Nat.pow_le_pow_right (by decide) (Nat.le_trans h hm)) (by decide)
section
variable {P : Program} {w : World} {K : PySem.W.Frag} {mg : Str → Option Value} {base : Heap}
theorem ok_reached {f : Addr} {fd : FuncData} {k : Nat} (D : Df K mg "_law_reached" sLReached ["_law_nexts", "_law_without"] f fd) (B : Bi mg) : FnOk P w K mg base CX0 (k + 1) f fd ["_law_nexts", "_law_without"] (spReached K) := by
  refine D.F.ok scReached (fun vs H Q E h => ?_) (fun cdv A outer s H vs Q E hr h => ?_)
  · obtain ⟨a, nx, wo, rfl, _⟩ := h
    rfl
  · obtain ⟨a, nx, wo, rfl, hN, hl0, hl, hx, q⟩ := h
    refine ⟨_, pss_cons (ps_set (i := 2) scReached.nd rfl (.inr rfl) (pe_ifExp (pt_cmpR op_eq (pv 1) pe_int (nomark _)) (pe_lst pa_nil) (pe_lst (pa_cons pe_int pa_nil))))
      (pss_cons (ps_for PassesOwn.never rfl (pi_range1 (by rfl) B.range (pa_cons (pe_callB call_len_seq (by rfl) B.len PySem.boot_len (pa_cons (pv 0) pa_nil)) pa_nil)) (pg_name (i := 3) scReached.nd rfl (.inl rfl))
        (pss_one (ps_for PassesOwn.never rfl (pi_list (pe_callTy call_list_of (by rfl) B.list PyProof.Rows.boot_list (pa_cons (pv 2) pa_nil))) (pg_name (i := 4) scReached.nd rfl (.inl rfl))
          (pss_one (ps_set (i := 2) scReached.nd rfl (.inr rfl) (pe_op op_cat (pv 2) (pe_lc (own := [("_law_one", 5)]) (g := gName 5) (tt := tAnd (tTest (tOp rNe (tVar 5) (tVar 1))) (tNotIn K (tVar 5) (tVar 2))) (te := tVar 5) rfl scReached.nd
            (pi_list (pe_callB (cr_sortedSet rfl) (by rfl) B.sorted PyProof.Rows.boot_sorted (pa_cons (pe_callTy (cr_setL rfl) (by rfl) B.set PyProof.Rows.boot_set (pa_cons (pe_ix ix_list (pv 0) (pv 4) (fun _ _ => rfl)) pa_nil)) pa_nil)))
            (blkOk_by (own := [("_law_one", 5)]) (N := nReached) (sc := defScope sLReached) (by decide +kernel)) (fun _ _ _ _ _ => pg_name (i := 5) scReached.nd rfl (.inl rfl))
            (fun _ _ _ _ _ => pts_one (pw_and (pt_cmpR op_ne (pv 5) (pv 1) (nomark _)) (pw_and1 (pt_cmpR op_notIn_seq (pv 5) (pv 2) rfl))).pt) (fun _ _ _ _ _ => pv 5))))))))
      (pss_one (ps_ret (pv 2)))), ?_⟩
    obtain ⟨ys, hy, hyl⟩ := hN.len
    have hyi : (ys.length : Int) = (nx.length : Int) := by rw [hyl]
    refine ⟨_, rfl, rfl, _, rfl, pick2 fun p0 ns0 np0 e0 e00 e1 e2 => ?_⟩
    have s0 : Same H (upd H p0 (.lst (ns0.map iv))) := new_same np0
    have w0 : wo = 0 → ns0 = [] := fun e => e0 (decide_eq_true (by rw [e]; rfl))
    have w1 : wo ≠ 0 → ns0 = [0] := fun e => e00 (decide_eq_false fun z => e (by have := V.int.inj z; omega))
    have dS : ns0.Nodup ∧ (∀ y ∈ ns0, Rc (Ex nx) wo y) ∧ (wo ≠ 0 → 0 ∈ ns0) ∧ (ClsR nx wo ns0 ∨ 0 + 1 ≤ ns0.length) := by
      by_cases hw : wo = 0
      · rw [w0 hw]
        exact ⟨List.nodup_nil, fun y hy => (by cases hy), fun z => absurd hw z, .inl fun a ha => (by cases ha)⟩
      · rw [w1 hw]
        exact ⟨by simp, fun y hy => (by rw [List.mem_singleton.mp hy]; exact .z hw), fun _ => List.mem_cons_self, .inr (Nat.le_refl _)⟩
    obtain ⟨d1, d2, d3, d4⟩ := dS
    refine ⟨.ref a, rfl, a, ys, rfl, .inl (s0.seq hy), nx.length, by rw [hyi], by omega, by omega, ?_⟩
    refine for_range (lo := 0) (n := nx.length) (fun i σ H1 => ∃ (fa : Addr) (ns : List Nat) (y3 y4 y5 : Option V), σ = [some (.ref a), some (.int wo), some (.ref fa), y3, y4, y5] ∧ H fa = none ∧ Same H H1 ∧
      H1 fa = some (.lst (ns.map iv)) ∧ (∀ y ∈ ns, y < nx.length) ∧ (wo = 0 → ns = []) ∧ ns.Nodup ∧ (∀ y ∈ ns, Rc (Ex nx) wo y) ∧ (wo ≠ 0 → 0 ∈ ns) ∧ (ClsR nx wo ns ∨ i + 1 ≤ ns.length))
      ⟨p0, ns0, none, none, none, rfl, np0, s0, upd_same, fun y hy => (by rw [e1 y hy]; exact hl0), w0, d1, d2, d3, d4⟩ (fun i σ H1 hi hP => ?_) (fun σ H1 hP => ?_)
    · obtain ⟨fa, ns, y3, y4, y5, rfl, nfa, sm, efa, hns, hw, hnd, hrc, hze, hcl⟩ := hP
      refine ⟨.ref fa, rfl, fa, _, rfl, .inl (sqL efa), fun l nl => ⟨l, rfl, ⟨_, sqL upd_same⟩, ?_⟩⟩
      have nfl : fa ≠ l := ne_of_none efa nl
      refine for_list (K := K) (a := l) (xs := ns.map iv) (fun j σ H2 => ∃ (fb : Addr) (ms : List Nat) (y4 y5 : Option V), σ = [some (.ref a), some (.int wo), some (.ref fb), some (.int (0 + (i : Int))), y4, y5] ∧ H fb = none ∧ Same H H2 ∧
        H2 l = some (.lst (ns.map iv)) ∧ H2 fb = some (.lst (ms.map iv)) ∧ (∀ y ∈ ms, y < nx.length) ∧ (wo = 0 → ms = []) ∧ ms.Nodup ∧ (∀ y ∈ ms, Rc (Ex nx) wo y) ∧ (∃ more, ms = ns ++ more) ∧ (ClsR nx wo ns → ms = ns) ∧ ∀ a ∈ ns.take j, ∀ b ∈ Ex nx a, b ≠ wo → b ∈ ms)
        ⟨fa, ns, y4, y5, rfl, nfa, sm.trans (new_same nl), upd_same, (by rw [upd_ne nfl]; exact efa), hns, hw, hnd, hrc, ⟨[], (List.append_nil _).symm⟩, fun _ => rfl, fun a ha => (by cases ha)⟩ (fun j σ H2 _ hP2 => ?_) (fun j x σ H2 hx2 hP2 => ?_) (fun σ H2 hP2 => ?_)
      · obtain ⟨_, _, _, _, _, _, _, el, _⟩ := hP2
        exact sqL el
      · obtain ⟨fb, ms, z4, z5, rfl, nfb, sm2, el, efb, hms, hw2, hmd, hmr, hmp, hmc, hmj⟩ := hP2
        rw [List.getElem?_map] at hx2
        obtain ⟨b, hb, rfl⟩ := Option.map_eq_some_iff.mp hx2
        have hbm : b ∈ ns := List.mem_of_getElem? hb
        have hbn : b < nx.length := hns b hbm
        have hjn : j < ns.length := (List.getElem?_eq_some_iff.mp hb).1
        have wo1 : wo ≠ 0 := fun e => by rw [hw e] at hbm; cases hbm
        obtain ⟨us, qa, u1, u2, u3, u4⟩ := (hN.same sm2).at (List.getElem?_eq_getElem hbn)
        obtain ⟨hx1, hx3⟩ := hx nx[b] (List.getElem_mem hbn)
        have hEb := Ex.at hbn
        refine ⟨.ref fb, rfl, .ref a, rfl, _, rfl, a, us, _, _, rfl, rfl, u1, u3, qa, nx[b].map Int.ofNat, rfl, by rw [List.map_map]; exact u4, by rw [List.length_map]; omega, fun ps c nps hc => ?_⟩
        rw [List.length_map] at hc
        refine ⟨ps, _, c, rfl, upd_same, by omega, fun os p hpw hmem hol np => ⟨p, rfl, ⟨_, sqL upd_same⟩, fun L nL => ?_⟩⟩
        have hos : ∀ k ∈ os, ∃ n : Nat, k = (n : Int) ∧ n ∈ nx[b] := fun k hk => by
          have h1 := of_decide_eq_true ((hmem k).mp hk)
          obtain ⟨n, hn, rfl⟩ := List.mem_map.mp h1
          exact ⟨n, rfl, hn⟩
        have hos2 : ∀ n : Nat, n ∈ nx[b] → (n : Int) ∈ os := fun n hn => (hmem _).mpr (decide_eq_true (List.mem_map.mpr ⟨n, hn, rfl⟩))
        have sA : Same H2 (upd (upd H2 ps (SetO w ps (fun j => decide (j ∈ nx[b].map Int.ofNat)) c)) p (.lst (os.map V.int))) := (new_same nps).trans (new_same np)
        generalize hHs : upd (upd H2 ps (SetO w ps (fun j => decide (j ∈ nx[b].map Int.ofNat)) c)) p (.lst (os.map V.int)) = Hs at sA
        have nM : Hs L = none := by rw [← hHs]; exact nL
        have ep : Hs p = some (.lst (os.map V.int)) := by rw [← hHs]; exact upd_same
        show ∃ W : Nat → Nat → Hp → Prop, (∃ m, W 0 m (upd (upd (upd H2 ps (SetO w ps (fun j => decide (j ∈ nx[b].map Int.ofNat)) c)) p (.lst (os.map V.int))) L (.lst []))) ∧ _
        rw [hHs]
        have nLf : fb ≠ L := ne_of_none (sA _ _ efb) nM
        have hml := ndn_le hmd hms
        refine lc_list (K := K) (a := p) (xs := os.map V.int) (fun jj H3 => Same Hs H3 ∧ ∃ es : List Nat, H3 L = some (.lst (es.map iv)) ∧ es.length ≤ jj ∧ es.Nodup ∧ ∀ y : Nat, y ∈ es ↔ ((y : Int) ∈ os.take jj ∧ y ≠ wo ∧ y ∉ ms)) ⟨new_same nM, [], upd_same, Nat.le_refl _, List.nodup_nil, fun y => ⟨fun hy => (by cases hy), fun hy => (by cases hy.1)⟩⟩
          (fun jj H3 _ hP3 => sqL (hP3.1 _ _ ep)) (fun jj x H3 hx4 hP3 => ?_) (fun H3 hP3 => ?_)
        · obtain ⟨sm3, es, eL, hel, hed, hes⟩ := hP3
          rw [List.getElem?_map] at hx4
          obtain ⟨k, hk, rfl⟩ := Option.map_eq_some_iff.mp hx4
          obtain ⟨n, rfl, hn⟩ := hos k (List.mem_of_getElem? hk)
          have hkL := (List.getElem?_eq_some_iff.mp hk).1
          have hnt : (n : Int) ∉ os.take jj := fun z => by
            obtain ⟨i2, h21, h22⟩ := List.mem_iff_getElem.mp z
            rw [List.length_take] at h21
            rw [List.getElem_take] at h22
            have h23 := List.pairwise_iff_getElem.mp hpw i2 jj (by omega) hkL (by omega)
            rw [h22] at h23
            have h24 := (List.getElem?_eq_some_iff.mp hk).2
            omega
          have htk : os.take (jj + 1) = os.take jj ++ [(n : Int)] := by rw [List.take_add_one, hk]; rfl
          have stay : (n = wo ∨ n ∈ ms) → Same Hs H3 ∧ ∃ es : List Nat, H3 L = some (.lst (es.map iv)) ∧ es.length ≤ jj + 1 ∧ es.Nodup ∧ ∀ y : Nat, y ∈ es ↔ ((y : Int) ∈ os.take (jj + 1) ∧ y ≠ wo ∧ y ∉ ms) := fun hno => by
            refine ⟨sm3, es, eL, by omega, hed, fun y => ?_⟩
            rw [hes y, htk, List.mem_append, List.mem_singleton]
            refine ⟨fun z => ⟨.inl z.1, z.2⟩, fun z => ⟨?_, z.2⟩⟩
            rcases z.1 with q | q
            · exact q
            · have : y = n := by omega
              subst this
              rcases hno with q2 | q2
              · exact absurd q2 z.2.1
              · exact absurd q2 z.2.2
          refine ⟨rfl, _, rfl, _, rfl, rfl, _, rfl, ?_⟩
          have ew : decide (V.int (n : Int) = V.int (wo : Int)) = decide (n = wo) := decide_eq_decide.mpr ⟨fun e => by have := V.int.inj e; omega, fun e => by rw [e]⟩
          show if (!decide (V.int (n : Int) = V.int (wo : Int))) = true then _ else _
          rw [ew]
          by_cases hnw : n = wo
          · rw [if_neg (by rw [decide_eq_true hnw]; decide)]
            exact stay (.inl hnw)
          · rw [if_pos (by rw [decide_eq_false hnw]; rfl)]
            refine ⟨_, rfl, .ref fb, rfl, fb, _, rfl, .inl (sqL (sm3 _ _ (sA _ _ efb))), rfl, flat_iv _, _, rfl, ?_⟩
            show if (!inV (iv n) (ms.map iv)) = true then _ else _
            rw [inV_iv]
            by_cases hnm : n ∈ ms
            · rw [if_neg (by rw [decide_eq_true hnm]; decide)]
              exact stay (.inr hnm)
            · rw [if_pos (by rw [decide_eq_false hnm]; rfl)]
              refine ⟨_, rfl, _, eL, ?_, fun b o e => ?_, es ++ [n], ?_, ?_, ?_, ?_⟩
              · rw [List.length_map]
                exact szt (by omega)
              · rw [upd_ne (ne_of_none e nM)]
                exact sm3 _ _ e
              · rw [upd_same, List.map_append]
                rfl
              · rw [List.length_append, List.length_singleton]
                omega
              · rw [List.nodup_append]
                refine ⟨hed, by simp, fun y hy z hz e => ?_⟩
                rw [List.mem_singleton.mp hz] at e
                subst e
                exact hnt ((hes y).mp hy).1
              · intro y
                rw [List.mem_append, List.mem_singleton, hes y, htk, List.mem_append, List.mem_singleton]
                constructor
                · rintro (z | rfl)
                  · exact ⟨.inl z.1, z.2⟩
                  · exact ⟨.inr rfl, hnw, hnm⟩
                · rintro ⟨z | z, z2⟩
                  · exact .inl ⟨z, z2⟩
                  · exact .inr (by omega)
        · obtain ⟨sm3, es, eL, hel, hed, hes⟩ := hP3
          rw [List.length_map, List.take_length] at hes
          rw [List.length_map] at hel
          have hes1 : ∀ y ∈ es, y ∈ nx[b] ∧ y ≠ wo ∧ y ∉ ms := fun y hy => by
            obtain ⟨h1, h2⟩ := (hes y).mp hy
            obtain ⟨n, h3, h4⟩ := hos _ h1
            have : y = n := by omega
            subst this
            exact ⟨h4, h2⟩
          have hesl : es.length ≤ nx.length := ndn_le hed fun y hy => hx3 y (hes1 y hy).1
          refine ⟨fb, L, _, _, rfl, rfl, sm3 _ _ (sA _ _ efb), eL, ?_, fun r nr => ?_⟩
          · rw [List.length_map, List.length_map]
            exact szl (by omega)
          · have sB : Same H2 H3 := sA.trans sm3
            have sC : Same H2 (upd H3 r (.lst (ms.map iv ++ es.map iv))) := sB.trans (new_same nr)
            refine ⟨r, ms ++ es, _, _, rfl, ?_, sm2.trans sC, sC _ _ el, ?_, ?_, ?_, ?_, ?_, ?_, ?_, ?_⟩
            · exact (sm2.trans sB).free nr
            · rw [upd_same, List.map_append]
            · intro y hy
              rcases List.mem_append.mp hy with h1 | h1
              · exact hms y h1
              · exact hx3 y (hes1 y h1).1
            · exact fun e => absurd e wo1
            · rw [List.nodup_append]
              exact ⟨hmd, hed, fun y hy z hz e => (hes1 z hz).2.2 (e ▸ hy)⟩
            · intro y hy
              rcases List.mem_append.mp hy with h1 | h1
              · exact hmr y h1
              · exact .s (hrc b hbm) (by rw [hEb]; exact (hes1 y h1).1) (hes1 y h1).2.1
            · obtain ⟨more, rfl⟩ := hmp
              exact ⟨more ++ es, List.append_assoc _ _ _⟩
            · intro hc2
              have hmn := hmc hc2
              have hnil : es = [] := by
                cases hes0 : es with
                | nil => rfl
                | cons y r2 =>
                  have hy := hes1 y (by rw [hes0]; exact List.mem_cons_self)
                  exact absurd (by rw [hmn]; exact hc2 b hbm y (by rw [hEb]; exact hy.1) hy.2.1) hy.2.2
              rw [hnil, List.append_nil]
              exact hmn
            · intro a ha y hy hyw
              rw [List.take_add_one, hb] at ha
              rcases List.mem_append.mp ha with h1 | h1
              · exact List.mem_append_left _ (hmj a h1 y hy hyw)
              · have : a = b := List.mem_singleton.mp h1
                subst this
                rw [hEb] at hy
                by_cases hym : y ∈ ms
                · exact List.mem_append_left _ hym
                · exact List.mem_append_right _ ((hes y).mpr ⟨hos2 y hy, hyw, hym⟩)
      · obtain ⟨fb, ms, z4, z5, rfl, nfb, sm2, el, efb, hms, hw2, hmd, hmr, hmp, hmc, hmj⟩ := hP2
        rw [List.length_map, List.take_length] at hmj
        refine ⟨fb, ms, _, _, _, rfl, nfb, sm2, efb, hms, hw2, hmd, hmr, fun e => ?_, ?_⟩
        · obtain ⟨more, rfl⟩ := hmp
          exact List.mem_append_left _ (hze e)
        · by_cases hc2 : ClsR nx wo ns
          · exact .inl (by rw [hmc hc2]; exact hc2)
          · obtain ⟨more, rfl⟩ := hmp
            have hl1 : i + 1 ≤ ns.length := by
              rcases hcl with q | q
              · exact absurd q hc2
              · exact q
            cases more with
            | nil =>
              rw [List.append_nil] at hmj
              exact absurd hmj hc2
            | cons y r2 =>
              refine .inr ?_
              rw [List.length_append, List.length_cons]
              omega
    · obtain ⟨fa, ns, y3, y4, y5, rfl, nfa, sm, efa, hns, hw, hnd, hrc, hze, hcl⟩ := hP
      have hl2 := ndn_le hnd hns
      have hcl2 : ClsR nx wo ns := by
        rcases hcl with q | q
        · exact q
        · omega
      exact ⟨.ref fa, rfl, q fa ns H1 nfa sm efa hns fun y => ⟨hrc y, cls_rc hcl2 hze⟩⟩
end
end Gn
set_option Elab.async false
set_option linter.all false
set_option maxRecDepth 100000
set_option maxHeartbeats 4000000
namespace Gn
open PySem PySem.Spec PyProof.Rows L2
/-! ### above -/
/-- the blocks on all ways to each -/
noncomputable def dB (nx : List (List Nat)) (o b : Nat) : Bool := @decide (¬ Rc (Ex nx) o b) (Classical.propDecidable _)
theorem dB_iff {nx : List (List Nat)} {o b : Nat} : dB nx o b = true ↔ ¬ Rc (Ex nx) o b := @decide_eq_true_iff _ (Classical.propDecidable _)
noncomputable def abv (nx : List (List Nat)) : List (List Nat) := (List.range nx.length).map fun b => (List.range nx.length).filter fun o => dB nx o b
def spAbove (K : PySem.W.Frag) : Sp := fun vs H Q _ => ∃ (a : Addr) (nx : List (List Nat)), vs = [.ref a] ∧ NL K H a nx ∧ 0 < nx.length ∧ nx.length ≤ 12 ∧
  (∀ xs ∈ nx, xs.length ≤ 2 ∧ ∀ y ∈ xs, y < nx.length) ∧
  ∀ (p : Addr) (ab : List (List Nat)) (H' : Hp), Same H H' → NL K (newOf H H') p ab → ab.length = nx.length → (∀ xs ∈ ab, 0 ∈ xs ∧ ∀ y ∈ xs, y < nx.length) → ab = abv nx → Q (.ref p) H'
abbrev nAbove : List Str := ["_law_nexts", "_law_many", "_law_reached_here", "_law_block_here", "_law_one"]
theorem scAbove : FnScope nAbove ["_law_nexts"] (defScope sLAbove) := ⟨rfl, rfl, rfl, by decide +kernel, rfl, by decide +kernel, by decide +kernel⟩
abbrev cAbove : Scope := lcS (valE (nthS (defBody sLAbove) 2))
theorem rgV_iv (m : Nat) : rgV 0 (m : Int) = (List.range m).map iv := by
  unfold rgV
  rw [Int.sub_zero, Int.toNat_natCast]
  refine List.map_congr_left fun k _ => ?_
  show V.int (0 + (k : Int)) = V.int (k : Int)
  rw [Int.zero_add]
theorem rg_at {m i : Nat} {x : V} (h : ((List.range m).map iv)[i]? = some x) : i < m ∧ x = iv i := by
  rw [List.getElem?_map] at h
  obtain ⟨y, hy, rfl⟩ := Option.map_eq_some_iff.mp h
  have h1 := (List.getElem?_eq_some_iff.mp hy)
  obtain ⟨h2, h3⟩ := h1
  rw [List.length_range] at h2
  rw [List.getElem_range] at h3
  exact ⟨h2, by rw [h3]⟩
section
variable {P : Program} {w : World} {K : PySem.W.Frag} {mg : Str → Option Value} {base : Heap}
theorem ok_above {f fR : Addr} {fd fdR : FuncData} {k : Nat} (D : Df K mg "_law_above" sLAbove ["_law_nexts"] f fd) (B : Bi mg) (DR : Df K mg "_law_reached" sLReached ["_law_nexts", "_law_without"] fR fdR)
    (GR : FnOk P w K mg base CX0 k fR fdR ["_law_nexts", "_law_without"] (spReached K)) : FnOk P w K mg base CX0 (k + 1) f fd ["_law_nexts"] (spAbove K) := by
  refine D.F.ok scAbove (fun vs H Q E h => ?_) (fun cdv A outer s H vs Q E hr h => ?_)
  · obtain ⟨a, nx, rfl, _⟩ := h
    rfl
  · obtain ⟨a, nx, rfl, hN, hl0, hl, hx, q⟩ := h
    refine ⟨_, pss_cons (ps_set (i := 1) scAbove.nd rfl (.inr rfl) (pe_listRg rfl (by rfl) B.list (prg_1 (by rfl) B.range (pe_callB call_len_seq (by rfl) B.len PySem.boot_len (pa_cons (pv 0) pa_nil)))))
      (pss_cons (ps_set (i := 2) scAbove.nd rfl (.inr rfl) (pe_lc (own := [("_law_block_here", 3)]) (g := gName 3) (tt := tYes) (te := tCall (spReached K) [] E0 (tCons (tVar 0) (tCons (tVar 3) tNil))) rfl scAbove.nd (pi_list (pv 1))
        (blkOk_by (own := [("_law_block_here", 3)]) (N := nAbove) (sc := defScope sLAbove) (by decide +kernel)) (fun _ _ _ _ _ => pg_name (i := 3) scAbove.nd rfl (.inl rfl)) (fun _ _ _ _ _ => pts_nil)
        (fun _ _ _ _ _ => pe_call GR hr (by rfl) DR.g DR.F.kp DR.b .nil pass0 (pa_cons (pv 0) (pa_cons (pv 3) pa_nil)))))
      (pss_one (ps_ret (pe_lc (own := [("_law_block_here", 3)]) (g := gName 3) (tt := tYes) (te := tLc (iList K (tVar 1)) (gName 4) (tOr (tTest (tOp rEq (tVar 4) (tVar 3))) (tNotIn K (tVar 3) (tIxL K (tVar 2) (tVar 4)))) (tVar 4) [4]) rfl scAbove.nd (pi_list (pv 1))
        (blkOk_by (own := [("_law_block_here", 3)]) (N := nAbove) (sc := defScope sLAbove) (by decide +kernel)) (fun _ _ _ _ _ => pg_name (i := 3) scAbove.nd rfl (.inr rfl)) (fun _ _ _ _ _ => pts_nil)
        (fun _ _ _ _ _ => pe_lc (own := [("_law_one", 4)]) (g := gName 4) (tt := tOr (tTest (tOp rEq (tVar 4) (tVar 3))) (tNotIn K (tVar 3) (tIxL K (tVar 2) (tVar 4)))) (te := tVar 4) rfl scAbove.nd (pi_list (pv 1))
          (blkOk_by (own := [("_law_one", 4)]) (N := nAbove) (sc := relS cAbove (defScope sLAbove)) (by decide +kernel)) (fun _ _ _ _ _ => pg_name (i := 4) scAbove.nd rfl (.inl rfl))
          (fun _ _ _ _ _ => pts_one (pw_or (pt_cmpR op_eq (pv 4) (pv 3) (nomark _)) (pw_or1 (pt_cmpR op_notIn_seq (pv 3) (pe_ix ix_list (pv 2) (pv 4) (fun _ _ => rfl)) rfl))).pt) (fun _ _ _ _ _ => pv 4)))))), ?_⟩
    obtain ⟨ys, hy, hyl⟩ := hN.len
    have hyi : (ys.length : Int) = (nx.length : Int) := by rw [hyl]
    refine ⟨.ref a, rfl, a, ys, rfl, .inl hy, nx.length, by rw [hyi], ⟨by decide, by decide, by omega, by omega, by omega⟩, fun mp nmp => ?_⟩
    rw [rgV_iv]
    have s1 : Same H (upd H mp (.lst ((List.range nx.length).map iv))) := new_same nmp
    generalize hH1 : upd H mp (.lst ((List.range nx.length).map iv)) = H1 at s1
    have emp : H1 mp = some (.lst ((List.range nx.length).map iv)) := by rw [← hH1]; exact upd_same
    refine ⟨.ref mp, rfl, mp, rfl, ⟨_, sqL emp⟩, fun L nL => ?_⟩
    have hlr : ((List.range nx.length).map iv).length = nx.length := by rw [List.length_map, List.length_range]
    refine lc_list (K := K) (a := mp) (xs := (List.range nx.length).map iv) (fun i H2 => Same H1 H2 ∧ ∃ (ps : List Addr) (R : List (List Nat)), H2 L = some (.lst (ps.map V.ref)) ∧ Paired (fun q xs => SqL K H2 q (xs.map iv) ∧ q ≠ L) ps R ∧ R.length = i ∧ (∀ xs, R[0]? = some xs → xs = []) ∧ ∀ o y, o < i → (y ∈ R.getD o [] ↔ Rc (Ex nx) o y))
      ⟨new_same nL, [], [], upd_same, .nil, rfl, fun xs e => (by simp at e), fun o y h => (by omega)⟩ (fun i H2 _ hP => sqL (hP.1 _ _ emp)) (fun i x H2 hx2 hP => ?_) (fun H2 hP => ?_)
    · obtain ⟨sm, ps, R, eL, pd, hR, hR0, hRr⟩ := hP
      obtain ⟨hi, rfl⟩ := rg_at hx2
      refine ⟨rfl, .ref a, rfl, _, rfl, a, nx, i, rfl, hN.same (s1.trans sm), hl0, hl, hx, fun p ns H3 np sm3 ep hns hrc => ?_⟩
      have nLp : p ≠ L := (ne_of_none eL np).symm
      refine ⟨_, sm3 _ _ eL, ?_, fun b o e => ?_, ps ++ [p], R ++ [ns], ?_, ?_, ?_, ?_, fun o y ho => ?_⟩
      · rw [List.length_map, pd_len pd]
        exact szt (by omega)
      · rw [upd_ne (ne_of_none e nL)]
        exact sm3 _ _ (sm _ _ e)
      · rw [upd_same, List.map_append]
        rfl
      · refine pd_snoc (pd_mono pd fun b xs z => ⟨seq_upd (sm3.seq z.1) z.2, z.2⟩) ⟨sqL ?_, nLp⟩
        rw [upd_ne nLp]
        exact ep
      · rw [List.length_append, List.length_singleton, hR]
      · intro xs e
        cases R with
        | nil =>
          have e1 : ns = xs := Option.some.inj e
          rw [← e1]
          have hi0 : i = 0 := hR.symm
          cases hns0 : ns with
          | nil => rfl
          | cons y r =>
            have := (hrc y).mp (by rw [hns0]; exact List.mem_cons_self)
            rw [hi0] at this
            exact this.no0.elim
        | cons r R' => exact hR0 xs e
      · by_cases hoi : o < i
        · rw [List.getD_eq_getElem?_getD, List.getElem?_append_left (by omega), ← List.getD_eq_getElem?_getD]
          exact hRr o y hoi
        · have : o = i := by omega
          subst this
          rw [List.getD_eq_getElem?_getD, List.getElem?_append_right (by omega), hR, Nat.sub_self]
          exact hrc y
    · obtain ⟨sm, ps, R, eL, pd, hR, hR0, hRr⟩ := hP
      rw [hlr] at hR
      have hNR : NL K H2 L R := ⟨ps, sqL eL, pd_mono pd fun _ _ z => z.1⟩
      refine ⟨.ref mp, rfl, mp, rfl, ⟨_, sqL (sm _ _ emp)⟩, fun L2 nL2 => ?_⟩
      let g : Nat → List Nat := fun b => (List.range nx.length).filter fun o => decide (o = b) || !decide (b ∈ R.getD o [])
      refine lc_list (K := K) (a := mp) (xs := (List.range nx.length).map iv) (fun i H3 => Same H2 H3 ∧ ∃ ps : List Addr, H3 L2 = some (.lst (ps.map V.ref)) ∧ Paired (fun q xs => H3 q = some (.lst (xs.map iv)) ∧ q ≠ L2 ∧ H q = none) ps ((List.range i).map g))
        ⟨new_same nL2, [], upd_same, .nil⟩ (fun i H3 _ hP => sqL (hP.1 _ _ (sm _ _ emp))) (fun i x H3 hx3 hP => ?_) (fun H3 hP => ?_)
      · obtain ⟨sm3, ps3, eL3, pd3⟩ := hP
        obtain ⟨hi, rfl⟩ := rg_at hx3
        have emp3 := sm3 _ _ (sm _ _ emp)
        refine ⟨rfl, .ref mp, rfl, mp, rfl, ⟨_, sqL emp3⟩, fun L4 nL4 => ?_⟩
        have n24 : L2 ≠ L4 := ne_of_none eL3 nL4
        refine lc_list (K := K) (a := mp) (xs := (List.range nx.length).map iv) (fun j H4 => Same H3 H4 ∧ H4 L4 = some (.lst (((List.range j).filter fun o => decide (o = i) || !decide (i ∈ R.getD o [])).map iv)))
          ⟨new_same nL4, upd_same⟩ (fun j H4 _ hP => sqL (hP.1 _ _ emp3)) (fun j x H4 hx4 hP => ?_) (fun H4 hP => ?_)
        · obtain ⟨sm4, eL4⟩ := hP
          obtain ⟨hj, rfl⟩ := rg_at hx4
          refine ⟨rfl, _, rfl, _, rfl, rfl, _, rfl, ?_⟩
          have er := filt_succ (fun o => decide (o = i) || !decide (i ∈ R.getD o [])) j
          have yes : (decide (j = i) || !decide (i ∈ R.getD j [])) = true → ∃ acc, H4 L4 = some (.lst acc) ∧ acc.length < sizeLine ∧ Same H3 (upd H4 L4 (.lst (acc ++ [iv j]))) ∧ upd H4 L4 (.lst (acc ++ [iv j])) L4 = some (.lst (((List.range (j + 1)).filter fun o => decide (o = i) || !decide (i ∈ R.getD o [])).map iv)) := fun hb => by
            rw [if_pos hb] at er
            refine ⟨_, eL4, ?_, fun b o e => ?_, ?_⟩
            · rw [List.length_map]
              exact szt (Nat.lt_of_le_of_lt (List.length_filter_le _ _) (by rw [List.length_range]; omega))
            · rw [upd_ne (ne_of_none e nL4)]
              exact sm4 _ _ e
            · rw [upd_same, er, List.map_append]
              rfl
          have ej : decide (iv j = iv i) = decide (j = i) := by
            refine decide_eq_decide.mpr ⟨fun e => ?_, fun e => by rw [e]⟩
            have e2 : (j : Int) = (i : Int) := V.int.inj e
            omega
          show if decide (iv j = iv i) = true then _ else _
          rw [ej]
          by_cases hji : j = i
          · rw [if_pos (decide_eq_true hji)]
            exact ⟨_, rfl, yes (by rw [decide_eq_true hji]; rfl)⟩
          · rw [if_neg (by rw [decide_eq_false hji]; decide)]
            have eR : R[j]? = some (R.getD j []) := by rw [List.getD_eq_getElem?_getD, List.getElem?_eq_getElem (by omega)]; rfl
            obtain ⟨us, qa, u1, u2, u3, u4⟩ := ((hNR.same sm3).same sm4).at eR
            refine ⟨_, rfl, .ref L, rfl, _, rfl, L, us, _, _, rfl, rfl, u1, u3, qa, _, rfl, .inl u4, rfl, flat_iv _, _, rfl, ?_⟩
            show if (!inV (iv i) ((R.getD j []).map iv)) = true then _ else _
            rw [inV_iv]
            by_cases hb : (!decide (i ∈ R.getD j [])) = true
            · rw [if_pos hb]
              exact ⟨_, rfl, yes (by rw [hb, Bool.or_true])⟩
            · rw [if_neg hb]
              rw [if_neg (by rw [decide_eq_false hji, Bool.false_or]; exact hb), List.append_nil] at er
              exact ⟨sm4, by rw [er]; exact eL4⟩
        · obtain ⟨sm4, eL4⟩ := hP
          rw [hlr] at eL4
          refine ⟨_, sm4 _ _ eL3, ?_, fun b o e => ?_, ps3 ++ [L4], ?_, ?_⟩
          · rw [List.length_map, pd_len pd3, List.length_map, List.length_range]
            exact szt (by omega)
          · rw [upd_ne (ne_of_none e nL2)]
            exact sm4 _ _ (sm3 _ _ e)
          · rw [upd_same, List.map_append]
            rfl
          · rw [List.range_succ, List.map_append]
            refine pd_snoc (pd_mono pd3 fun b xs z => ⟨?_, z.2⟩) ⟨?_, n24.symm, ((s1.trans sm).trans sm3).free nL4⟩
            · rw [upd_ne z.2.1]; exact sm4 _ _ z.1
            · rw [upd_ne n24.symm]
              exact eL4
      · obtain ⟨sm3, ps3, eL3, pd3⟩ := hP
        rw [hlr] at pd3
        have hg : (List.range nx.length).map g = abv nx := by
          unfold abv
          refine List.map_congr_left fun b hb => ?_
          refine List.filter_congr fun o ho => ?_
          have ho2 := List.mem_range.mp ho
          have h1 := hRr o b (by rw [hlr]; exact ho2)
          rw [Bool.eq_iff_iff, dB_iff, Bool.or_eq_true, decide_eq_true_iff, Bool.not_eq_true', decide_eq_false_iff_not, h1]
          exact ⟨fun z hr => z.elim (fun e => hr.ne e.symm) (fun q => q hr), fun z => .inr z⟩
        refine q L2 ((List.range nx.length).map g) H3 ((s1.trans sm).trans sm3) ⟨ps3, sqL (new_at ((s1.trans sm).free nL2) eL3), pd_mono pd3 fun _ _ z => sqL (new_at z.2.2 z.1)⟩ (by rw [List.length_map, List.length_range]) (fun xs hxs => ?_) hg
        obtain ⟨b, hb, rfl⟩ := List.mem_map.mp hxs
        refine ⟨List.mem_filter.mpr ⟨List.mem_range.mpr hl0, ?_⟩, fun y hy => List.mem_range.mp (List.mem_filter.mp hy).1⟩
        have e0 : R.getD 0 [] = [] := by
          cases hRR : R with
          | nil => rfl
          | cons r R' => exact hR0 r (by rw [hRR]; rfl)
        rw [e0]
        simp
end
end Gn
set_option Elab.async false
set_option linter.all false
set_option maxRecDepth 100000
set_option maxHeartbeats 4000000
set_option pp.maxSteps 400
namespace Gn
open PySem PySem.Spec PyProof.Rows L2
/-! ### d.update(e), both dicts -/
def tDUpd (td ty : TE) : TE := fun σ H Q => td σ H fun x H1 => ∃ a, x = .ref a ∧ IsD H1 a ∧ ty σ H1 fun y H2 => ∃ (b : Addr) (kvs more : List (L2.Key × V)), y = .ref b ∧ a ≠ b ∧ H2 a = some (.dK kvs) ∧ H2 b = some (.dK more) ∧ kvs.length + more.length ≤ 1000 ∧ Q .non (upd H2 a (.dK (mergeK kvs more)))
theorem pe_dupd {X : Cx} {o e : Expr} {apos cpos : Pos} {td ty : TE} (ho : PE X o td) (he : PE X e ty) (m : M1 X o "update" apos e cpos) : PE X (.Call (.Attribute o "update" apos) [e] [] cpos) (tDUpd td ty) := by
  refine ⟨fun pins s σ H Q I h => ?_⟩
  refine wpAny_Call_method m.base m.few m.line PySem.F.plainAttrs_dict PySem.F.slot_dict_update PySem.F.type_dict_update (thn (ho.run pins s σ H _ I h) fun u s1 ⟨x, H1, I1, rx, a, ex, d, q1⟩ => ?_)
  subst ex
  obtain rfl : u = Value.ref a := rx
  obtain ⟨t1, t2, _⟩ := isD_at I1 d
  refine ⟨t1, t2, ?_⟩
  rw [m.trees]
  refine Calls.callWith_builtin rfl (Calls.evalArgs_plain (Calls.spliced_cons (thn (he.run pins s1 σ H1 _ I1 q1) fun iv s2 ⟨y, H2, I2, ry, b, kvs, more, ey, hab, ea, eb, hl, q2⟩ => Calls.spliced_nil ?_)))
  subst ey
  obtain rfl : iv = Value.ref b := ry
  obtain ⟨z, hd, vs, rel, dd⟩ := dk_of I2.hok ea
  obtain ⟨z', hd', vs', rel', dd'⟩ := dk_of I2.hok eb
  have hsz : (1000 : Nat) ≤ sizeLine := by decide
  have hsz2 : vs.length + vs'.length ≤ sizeLine := by rw [← rel.length, ← rel'.length]; omega
  have hl2 : (mergeK kvs more).length ≤ sizeLine := by have := length_mergeK more kvs; omega
  refine call_meetsIn PySem.F.slot_dict_update dd.typeIs PySem.F.entry_dict_update (PySem.F.args_dict_update_2 _ _) (meets_dict_update _ a b hab hd') ⟨vs, vs', dd, dd', hsz2, fun h' hm hm' hs => ?_⟩
  have he' : ∃ q, h'.get? a = some q := let ⟨q, _, _, hq, _⟩ := hm; ⟨q, hq⟩
  exact ⟨.non, _, d_write I2 (by rw [ea]; exact True.intro) hs he' (dk_new hl2 hd (KV.merge rel' rel) hm), rfl, q2⟩
/-! ### (..) == (), [..] == [] -/
def rEqE (K : PySem.W.Frag) : R2 := fun x y H Q => ∃ (a b : Addr) (xs : List V), x = .ref a ∧ y = .ref b ∧ ((SqT K H a xs ∧ SqT K H b []) ∨ (SqL K H a xs ∧ SqL K H b [])) ∧ Q (.bl xs.isEmpty) H
theorem op_eqE {X : Cx} (hu : X.A.units + 64 < cLine) : OpR X (compareOp .Eq) (rEqE X.K) := by
  intro pins s σ H x y v u Q I rx ry h
  obtain ⟨a, b, xs, rfl, rfl, h, q⟩ := h
  obtain rfl : v = Value.ref a := rx
  obtain rfl : u = Value.ref b := ry
  rcases h with ⟨h1, h2⟩ | ⟨h1, h2⟩
  · obtain ⟨its, r, pl, hz⟩ := I.tuple h1
    obtain ⟨its2, r2, pl2, hz2⟩ := I.tuple h2
    have l1 := r.length
    have l2 := r2.length
    have l3 : its2 = [] := List.eq_nil_of_length_eq_zero l2.symm
    subst l3
    refine SeqAt.eq_tupleAt (e := fun _ => true) pl pl2 (by omega) (fun j h1 h2 => absurd h2 (Nat.not_lt_zero _)) ⟨.bl xs.isEmpty, H, I, ?_, q⟩
    show Value.bool _ = Value.bool _
    congr 1
    cases xs with
    | nil =>
      have : its = [] := List.eq_nil_of_length_eq_zero l1.symm
      subst this
      rfl
    | cons x xs =>
      cases its with
      | nil => cases l1
      | cons y ys => simp
  · obtain ⟨its, r, pl, hz⟩ := I.list h1
    obtain ⟨its2, r2, pl2, hz2⟩ := I.list h2
    have l1 := r.length
    have l2 := r2.length
    have l3 : its2 = [] := List.eq_nil_of_length_eq_zero l2.symm
    subst l3
    cases xs with
    | nil =>
      have : its = [] := List.eq_nil_of_length_eq_zero l1.symm
      subst this
      exact SeqAt.eq_listAt (e := fun _ => true) pl.isList pl2.isList rfl (by omega) (fun j h1 h2 => absurd h2 (Nat.not_lt_zero _)) ⟨.bl true, H, I, rfl, q⟩
    | cons x xs =>
      cases its with
      | nil => cases l1
      | cons y ys => exact SeqAt.eq_list_lengthsAt pl.isList pl2.isList (by simp) (by omega) ⟨.bl false, H, I, rfl, q⟩
def rNeE (K : PySem.W.Frag) : R2 := fun x y H Q => ∃ (a b : Addr) (xs : List V), x = .ref a ∧ y = .ref b ∧ ((SqT K H a xs ∧ SqT K H b []) ∨ (SqL K H a xs ∧ SqL K H b [])) ∧ Q (.bl (!xs.isEmpty)) H
theorem op_neE {X : Cx} (hu : X.A.units + 64 < cLine) : OpR X (compareOp .NotEq) (rNeE X.K) := by
  intro pins s σ H x y v u Q I rx ry h
  obtain ⟨a, b, xs, rfl, rfl, h, q⟩ := h
  obtain rfl : v = Value.ref a := rx
  obtain rfl : u = Value.ref b := ry
  rcases h with ⟨h1, h2⟩ | ⟨h1, h2⟩
  · obtain ⟨its, r, pl, hz⟩ := I.tuple h1
    obtain ⟨its2, r2, pl2, hz2⟩ := I.tuple h2
    have l1 := r.length
    have l2 := r2.length
    have l3 : its2 = [] := List.eq_nil_of_length_eq_zero l2.symm
    subst l3
    refine SeqAt.RcNeAt.tuples (e := fun _ => true) pl pl2 (by omega) (fun j h1 h2 => absurd h2 (Nat.not_lt_zero _)) _ _ _ _ ⟨.bl (!xs.isEmpty), H, I, ?_, q⟩
    show Value.bool _ = Value.bool _
    congr 1
    cases xs with
    | nil =>
      have : its = [] := List.eq_nil_of_length_eq_zero l1.symm
      subst this
      rfl
    | cons x xs =>
      cases its with
      | nil => cases l1
      | cons y ys => simp
  · obtain ⟨its, r, pl, hz⟩ := I.list h1
    obtain ⟨its2, r2, pl2, hz2⟩ := I.list h2
    have l1 := r.length
    have l2 := r2.length
    have l3 : its2 = [] := List.eq_nil_of_length_eq_zero l2.symm
    subst l3
    cases xs with
    | nil =>
      have : its = [] := List.eq_nil_of_length_eq_zero l1.symm
      subst this
      exact SeqAt.RcNeAt.lists (e := fun _ => true) pl.isList pl2.isList rfl (by omega) (fun j h1 h2 => absurd h2 (Nat.not_lt_zero _)) _ _ _ _ ⟨.bl false, H, I, rfl, q⟩
    | cons x xs =>
      cases its with
      | nil => cases l1
      | cons y ys => exact SeqAt.RcNeAt.lists_lengths pl.isList pl2.isList (by simp) (by omega) _ _ _ _ ⟨.bl true, H, I, rfl, q⟩
/-! ### whole, within -/
def withinD (lo hi : Int) : Dt → Bool
  | .int n => decide (lo ≤ n) && decide (n ≤ hi) | _ => false
def spWithin (K : PySem.W.Frag) : Sp := fun vs H Q _ => ∃ (v : V) (d : Dt) (lo hi : Int), vs = [v, .int lo, .int hi] ∧ DtAt K H v d ∧ Q (.bl (withinD lo hi d)) H
abbrev nLW1 : List Str := ["_law_thing_here"]
theorem scLWhole : FnScope nLW1 ["_law_thing_here"] (defScope sLWhole) := ⟨rfl, rfl, rfl, by decide +kernel, rfl, by decide +kernel, by decide +kernel⟩
abbrev nLW3 : List Str := ["_law_thing_here", "_law_least", "_law_most"]
theorem scLWithin : FnScope nLW3 nLW3 (defScope sLWithin) := ⟨rfl, rfl, rfl, by decide +kernel, rfl, by decide +kernel, by decide +kernel⟩
/-- a thing that is no tuple, or a tuple of numbers alone -/
def numsLD (last : Int) : Dt → Bool
  | .tup ds => !ds.isEmpty && ds.all (withinD 0 last) | _ => false
def spNumsL (K : PySem.W.Frag) : Sp := fun vs H Q _ => ∃ (v : V) (d : Dt) (last : Int), vs = [v, .int last] ∧ DtAt K H v d ∧ szD d = true ∧ ∀ H', Same H H' → Q (.bl (numsLD last d)) H'
abbrev nLN : List Str := ["_law_thing_here", "_law_last", "_law_one"]
theorem scLNums : FnScope nLN ["_law_thing_here", "_law_last"] (defScope sLNums) := ⟨rfl, rfl, rfl, by decide +kernel, rfl, by decide +kernel, by decide +kernel⟩
def pdI (ns : List Int) : PyData := .tuple (ns.map PyData.int)
theorem dpI {K : PySem.W.Frag} {H : Hp} : ∀ ns : List Int, DpAll K H (ns.map V.int) (ns.map PyData.int)
  | [] => .nil
  | n :: ns => .cons (.int n) (dpI ns)
theorem pdI_lay : ∀ ns : List Int, PyData.canLayAll0 (ns.map PyData.int) = true
  | [] => by simp [PyData.canLayAll0]
  | n :: ns => by simp [PyData.canLayAll0, PyData.canLay0, pdI_lay ns]
theorem pdI_depth : ∀ ns : List Int, PyData.depthAll (ns.map PyData.int) ≤ 1
  | [] => by simp [PyData.depthAll]
  | n :: ns => by
    have := pdI_depth ns
    simp [PyData.depthAll, PyData.depth]
    omega
end Gn
set_option Elab.async false
set_option linter.all false
set_option maxRecDepth 100000
set_option maxHeartbeats 4000000
set_option pp.maxSteps 400
namespace Gn
open PySem PySem.Spec PyProof.Rows L2
theorem pdI_shaped (ns : List Int) : SeqAt.shaped (pdI ns) = true := by
  have h1 := pdI_lay ns
  have h2 := pdI_depth ns
  unfold SeqAt.shaped pdI
  rw [Bool.and_eq_true]
  refine ⟨by simpa [PyData.canLay0] using h1, decide_eq_true ?_⟩
  simp [PyData.depth]
  omega
theorem pdI_eqv (ns : List Int) : PyData.eqv (pdI ns) (pdI []) = ns.isEmpty := by
  unfold pdI
  cases ns <;> simp [PyData.eqv, PyData.eqvAll]
section
variable {P0 : Program} {w : World} {K : PySem.W.Frag} {mg : Str → Option Value} {base : Heap}
theorem ok_lwhole {f : Addr} {fd : FuncData} {k : Nat} (D : Df K mg "_law_whole" sLWhole ["_law_thing_here"] f fd) (B : Bi mg) : FnOk P0 w K mg base CX0 (k + 1) f fd ["_law_thing_here"] (spD1 K isNumD) := by
  refine D.F.ok scLWhole (fun vs H Q E h => ?_) (fun cdv A outer s H vs Q E hr h => ?_)
  · obtain ⟨v, d, rfl, _⟩ := h
    rfl
  · obtain ⟨v, d, rfl, hd, q⟩ := h
    refine ⟨_, (pss_one (ps_ret (pe_and (pe_callB call_isi (by rfl) B.isinstance PyProof.Rows.boot_isinstance (pa_cons (pv 0) (pa_cons (pe_bltn (v := .ty "int") (by rfl) B.int (show bootBuiltins "int" = some (.type "int") by rfl) rfl) pa_nil))) (pe_one (pe_not (pe_callB call_isi (by rfl) B.isinstance PyProof.Rows.boot_isinstance (pa_cons (pv 0) (pa_cons (pe_bltn (v := .ty "bool") (by rfl) B.bool (show bootBuiltins "bool" = some (.type "bool") by rfl) rfl) pa_nil)))))))), ?_⟩
    refine ⟨_, rfl, _, .ty "int", _, .type "int", _, rfl, .ty "int", tyD hd, kt_int d, _, rfl, ?_⟩
    refine ite2 (fun e => ?_) (fun e => ?_)
    · refine ⟨_, rfl, _, .ty "bool", _, .type "bool", _, rfl, .ty "bool", tyD hd, kt_bool d, _, rfl, ?_⟩
      have : (!d.isBl) = isNumD d := by cases d <;> first | rfl | cases e
      rw [this]
      exact q
    · have : isNumD d = false := by cases d <;> first | rfl | exact absurd rfl e
      rw [this] at q
      exact q
theorem ok_lwithin {f fN : Addr} {fd fdN : FuncData} {k : Nat} (D : Df K mg "_law_within" sLWithin nLW3 f fd) (B : Bi mg) (DN : Df K mg "_law_whole" sLWhole ["_law_thing_here"] fN fdN) (GN : FnOk P0 w K mg base CX0 k fN fdN ["_law_thing_here"] (spD1 K isNumD)) : FnOk P0 w K mg base CX0 (k + 1) f fd nLW3 (spWithin K) := by
  refine D.F.ok scLWithin (fun vs H Q E h => ?_) (fun cdv A outer s H vs Q E hr h => ?_)
  · obtain ⟨v, d, lo, hi, rfl, _⟩ := h
    rfl
  · obtain ⟨v, d, lo, hi, rfl, hd, q⟩ := h
    refine ⟨_, (pss_one (ps_ret (pe_and (pe_call GN hr (by rfl) DN.g DN.F.kp DN.b .nil pass0 (pa_cons (pv 0) pa_nil)) (pe_one (pe_chain op_le op_le (pv 1) (pv 0) (pv 2)))))), ?_⟩
    refine ⟨_, rfl, v, d, rfl, hd, _, rfl, ite2 (fun e => ?_) (fun e => ?_)⟩
    · cases hd with
      | int n =>
        refine ⟨_, rfl, _, rfl, _, _, rfl, rfl, _, rfl, ite2 (fun e1 => ?_) (fun e1 => ?_)⟩
        · refine ⟨_, rfl, _, _, rfl, rfl, ?_⟩
          have q' : Q (.bl (decide (lo ≤ n) && decide (n ≤ hi))) H := q
          rw [e1, Bool.true_and] at q'
          exact q'
        · have q' : Q (.bl (decide (lo ≤ n) && decide (n ≤ hi))) H := q
          rw [Bool.eq_false_iff.mpr e1, Bool.false_and] at q'
          exact q'
      | _ => cases e
    · have : withinD lo hi d = false := by cases d <;> first | rfl | exact absurd rfl e
      rw [this] at q
      exact q
theorem ok_lnums {f fW : Addr} {fd fdW : FuncData} {k : Nat} (D : Df K mg "_law_numbers_in" sLNums ["_law_thing_here", "_law_last"] f fd) (B : Bi mg) (DW : Df K mg "_law_within" sLWithin nLW3 fW fdW) (GW : FnOk P0 w K mg base CX0 k fW fdW nLW3 (spWithin K)) : FnOk P0 w K mg base CX0 (k + 1) f fd ["_law_thing_here", "_law_last"] (spNumsL K) := by
  refine D.F.ok scLNums (fun vs H Q E h => ?_) (fun cdv A outer s H vs Q E hr h => ?_)
  · obtain ⟨v, d, last, rfl, _⟩ := h
    rfl
  · obtain ⟨v, d, last, rfl, hd, hz, q⟩ := h
    refine ⟨_, (pss_one (ps_ret (pe_and (pe_callB call_isi (by rfl) B.isinstance PyProof.Rows.boot_isinstance (pa_cons (pv 0) (pa_cons (pe_bltn (v := .ty "tuple") (by rfl) B.tuple (show bootBuiltins "tuple" = some (.type "tuple") by rfl) rfl) pa_nil))) (pe_and (pe_cmpR (op_neE hr.units) (pv 0) (pe_tup pa_nil) (nomark _)) (pe_one (pe_callB (cr_all rfl) (by rfl) B.all PyProof.Rows.boot_all (pa_cons (pe_lc (own := [("_law_one", 2)]) (te := _) rfl scLNums.nd (pi_tup (pv 0)) (blkOk_by (own := [("_law_one", 2)]) (N := nLN) (sc := defScope sLNums) (by decide +kernel)) (fun _ _ _ _ _ => (pg_name (i := 2) scLNums.nd rfl (.inl rfl))) (fun _ _ _ _ _ => pts_nil) (fun _ _ _ _ _ => (pe_call GW hr (by rfl) DW.g DW.F.kp DW.b .nil pass0 (pa_cons (pv 2) (pa_cons pe_int (pa_cons (pv 1) pa_nil)))))) pa_nil))))))), ?_⟩
    refine ⟨_, rfl, _, .ty "tuple", _, .type "tuple", _, rfl, .ty "tuple", tyD hd, kt_tuple d, _, rfl, ite2 (fun e => ?_) (fun e => ?_)⟩
    · cases hd with
      | @tup p xs ds hp hds =>
        have hl4 := (sz_tup hz).1
        have hxl := hds.len
        have he : ds.isEmpty = xs.isEmpty := by
          cases hds <;> rfl
        have h9 : numsLD last (.tup ds) = (!xs.isEmpty && ds.all (withinD 0 last)) := by
          show (!ds.isEmpty && ds.all (withinD 0 last)) = _
          rw [he]
        rw [h9] at q
        refine ⟨_, rfl, Nat.zero_le _, fun e0 ne0 => ?_⟩
        have s0 := new_same (o := .tup []) ne0
        have hp0 := Same.tup s0 hp
        have hds0 : DtAll K (upd H e0 (.tup [])) xs ds := DtAll.same s0 ds hds
        refine ⟨p, e0, xs, rfl, rfl, .inl ⟨hp0, sqT upd_same⟩, _, rfl, ?_⟩
        generalize upd H e0 (.tup []) = H0 at s0 hp0 hds0
        refine ite2 (fun e1 => ?_) (fun e1 => ?_)
        · rw [e1, Bool.true_and] at q
          refine ⟨_, rfl, p, rfl, ⟨_, hp0⟩, fun L nL => ?_⟩
          refine lc_tup (K := K) (a := p) (xs := xs) (fun i H1 => Same H0 H1 ∧ H1 L = some (.lst (((ds.take i).map (withinD 0 last)).map V.bl))) ⟨new_same nL, upd_same⟩ (fun i H1 _ hP => Same.tup hP.1 hp0) (fun i x H1 hx hP => ?_) (fun H1 hP => ?_)
          · obtain ⟨s1, eL⟩ := hP
            obtain ⟨d, hn, hda⟩ := pd_at2 hds0.pd hx
            have hil := (List.getElem?_eq_some_iff.mp hn).1
            refine ⟨rfl, _, rfl, _, rfl, x, d, 0, last, rfl, DtAt.same s1 d hda, _, eL, ?_, fun a o z => ?_, ?_⟩
            · rw [List.length_map, List.length_map, List.length_take]
              exact szt (by omega)
            · rw [upd_ne (ne_of_none z nL)]; exact s1 _ _ z
            · rw [upd_same, List.take_add_one, hn, List.map_append, List.map_append]
              rfl
          · obtain ⟨s1, eL⟩ := hP
            rw [hxl, List.take_length] at eL
            refine ⟨_, _, rfl, sqL eL, ?_⟩
            have := q H1 (s0.trans s1)
            rw [List.all_map]
            exact this
        · have e2 := Bool.eq_false_iff.mpr e1
          rw [e2, Bool.false_and] at q
          exact q H0 s0
      | _ => cases e
    · have : numsLD last d = false := by cases d <;> first | rfl | exact absurd rfl e
      have q1 := q H (fun _ _ z => z)
      rw [this] at q1
      exact q1
end
end Gn
set_option Elab.async false
set_option linter.all false
set_option maxRecDepth 100000
set_option maxHeartbeats 4000000
set_option pp.maxSteps 400
namespace Gn
open PySem PySem.Spec PyProof.Rows L2
/-! ### a thing with a row's form, as the law reads it -/
def wantsL (w : Str) : Option Nat :=
  if w = "take" then some 1 else if w = "num" then some 1 else if w = "sum" then some 2 else if w = "less" then some 2 else if w = "times" then some 2 else if w = "same" then some 2 else if w = "below" then some 2 else
  if w = "pick" then some 2 else if w = "meet" then some 1 else if w = "look" then some 2 else if w = "lay" then some 3 else if w = "tell" then some 1 else none
def roomsL (d : Dt) : Bool := match d with
  | .tup ds => numsLD 5 (.tup ds) && decide (ds.length ≤ 4) && decide ((ds.map intD).Nodup)
  | _ => false
def shapedR (last : Int) (w : Str) (ds : List Dt) : Bool :=
  if w = "take" then withinD 0 5 (ds.getD 0 .non) else if w = "num" then isNumD (ds.getD 0 .non) else if w = "meet" then numsLD last (ds.getD 0 .non) else
  if w = "pick" then withinD 0 last (ds.getD 0 .non) && numsLD last (ds.getD 1 .non) else
  if w = "look" ∨ w = "lay" then roomsL (ds.getD 0 .non) && numsLD last (.tup (ds.drop 1)) else numsLD last (.tup ds)
def shapedL (last : Int) : Dt → Bool
  | .tup (.str w :: ds) => decide (wantsL w = some ds.length) && shapedR last w ds
  | _ => false
abbrev W9 : List (L2.Key × V) := [(.inr "take", .int 1), (.inr "num", .int 1), (.inr "sum", .int 2), (.inr "less", .int 2), (.inr "times", .int 2), (.inr "same", .int 2), (.inr "below", .int 2), (.inr "pick", .int 2), (.inr "meet", .int 1)]
abbrev W3 : List (L2.Key × V) := [(.inr "look", .int 2), (.inr "lay", .int 3), (.inr "tell", .int 1)]
abbrev W12 : List (L2.Key × V) := [(.inr "take", .int 1), (.inr "num", .int 1), (.inr "sum", .int 2), (.inr "less", .int 2), (.inr "times", .int 2), (.inr "same", .int 2), (.inr "below", .int 2), (.inr "pick", .int 2), (.inr "meet", .int 1), (.inr "look", .int 2), (.inr "lay", .int 3), (.inr "tell", .int 1)]
theorem w9_eq : mergeK [] W9 = W9 := by rfl
theorem w3_eq : mergeK [] W3 = W3 := by rfl
theorem w12_eq : mergeK W9 W3 = W12 := by rfl
theorem want_step {w a : Str} {n : Nat} {r : List (L2.Key × V)} {Y : Option Nat} (h : valV r (.inr w) = Y.map fun n : Nat => V.int (n : Int)) : valV ((.inr a, .int (n : Int)) :: r) (.inr w) = (if w = a then some n else Y).map fun n : Nat => V.int (n : Int) := by
  unfold valV at h ⊢
  by_cases e : w = a
  · subst e
    rw [if_pos rfl, List.find?_cons_of_pos (by exact decide_eq_true rfl)]
    rfl
  · rw [if_neg e, List.find?_cons_of_neg (by
      intro z
      have := of_decide_eq_true z
      cases this
      exact e rfl), h]
theorem want_eq (w : Str) : valV W12 (.inr w) = (wantsL w).map fun n : Nat => V.int (n : Int) := by
  unfold wantsL
  exact want_step (n := 1) (want_step (n := 1) (want_step (n := 2) (want_step (n := 2) (want_step (n := 2) (want_step (n := 2) (want_step (n := 2) (want_step (n := 2) (want_step (n := 1) (want_step (n := 2) (want_step (n := 3) (want_step (n := 1) rfl)))))))))))
def spShaped (K : PySem.W.Frag) : Sp := fun vs H Q _ => ∃ (v : V) (d : Dt) (last : Int), vs = [v, .int last] ∧ DtAt K H v d ∧ szD d = true ∧ ∀ H', Same H H' → Q (.bl (shapedL last d)) H'
theorem eqV_str (x y : Str) : eqV (.str x) (.str y) = decide (x = y) := by
  by_cases h : x = y
  · subst h
    rw [decide_eq_true rfl]
    simp [eqV]
  · rw [decide_eq_false h]
    simp [eqV, h]
theorem inV2 {w a b : Str} : inV (.str w) [.str a, .str b] = decide (w = a ∨ w = b) := by
  unfold inV
  rw [List.any_cons, List.any_cons, List.any_nil, eqV_str, eqV_str, Bool.or_false]
  by_cases h1 : w = a
  · subst h1
    simp
  · by_cases h2 : w = b
    · subst h2
      simp
    · simp [h1, h2, Ne.symm h1, Ne.symm h2]
abbrev nLS : List Str := ["_law_row_here", "_law_last", "_law_kind", "_law_rest", "_law_wants", "_law_rooms"]
theorem scLS : FnScope nLS ["_law_row_here", "_law_last"] (defScope sLShaped) := ⟨rfl, rfl, rfl, by decide +kernel, rfl, by decide +kernel, by decide +kernel⟩
section
variable {P0 : Program} {w : World} {K : PySem.W.Frag} {mg : Str → Option Value} {base : Heap}
theorem ok_lshaped {f fW fN fI : Addr} {fd fdW fdN fdI : FuncData} {k : Nat} (D : Df K mg "_law_shaped" sLShaped ["_law_row_here", "_law_last"] f fd) (B : Bi mg) (DW : Df K mg "_law_within" sLWithin nLW3 fW fdW) (GW : FnOk P0 w K mg base CX0 k fW fdW nLW3 (spWithin K))
    (DI : Df K mg "_law_whole" sLWhole ["_law_thing_here"] fI fdI) (GI : FnOk P0 w K mg base CX0 k fI fdI ["_law_thing_here"] (spD1 K isNumD))
    (DN : Df K mg "_law_numbers_in" sLNums ["_law_thing_here", "_law_last"] fN fdN) (GN : FnOk P0 w K mg base CX0 k fN fdN ["_law_thing_here", "_law_last"] (spNumsL K)) : FnOk P0 w K mg base CX0 (k + 1) f fd ["_law_row_here", "_law_last"] (spShaped K) := by
  refine D.F.ok scLS (fun vs H Q E h => ?_) (fun cdv A outer s H vs Q E hr h => ?_)
  · obtain ⟨v, d, last, rfl, _⟩ := h
    rfl
  · obtain ⟨v, d, last, rfl, hd, hz, q⟩ := h
    have hu1 : (A.deeper (envOfC "_law_shaped" (defScope sLShaped) s.heap.objs.size f cdv)).units + 1 < cLine := by have := hr.units; omega
    refine ⟨_, (pss_cons (ps_if (pw_or (pt_not (pt_val (pe_callB call_isi (by rfl) B.isinstance PyProof.Rows.boot_isinstance (pa_cons (pv 0) (pa_cons (pe_bltn (v := .ty "tuple") (by rfl) B.tuple (show bootBuiltins "tuple" = some (.type "tuple") by rfl) rfl) pa_nil))))) (pw_or (pt_cmpR (op_eqE hr.units) (pv 0) (pe_tup pa_nil) (nomark _)) (pw_or1 (pt_not (pt_val (pe_callB call_isi (by rfl) B.isinstance PyProof.Rows.boot_isinstance (pa_cons (pe_ix ix_tup (pv 0) pe_int (fun _ _ => rfl)) (pa_cons (pe_bltn (v := .ty "str") (by rfl) B.str (show bootBuiltins "str" = some (.type "str") by rfl) rfl) pa_nil)))))))).pt (pss_one (ps_ret pe_bl)) pss_nil)
      (pss_cons (ps_par (i := 2) (j := 3) rfl scLS.nd rfl rfl (by decide) rfl rfl (pa_cons (pe_ix ix_tup (pv 0) pe_int (fun _ _ => rfl)) (pa_cons (pe_slice sl_tup (pv 0) (po_some pe_int) po_none) pa_nil)) rfl)
      (pss_cons (ps_set (i := 4) scLS.nd rfl (.inl rfl) (pe_disp (pps_cons pe_str pe_int (pps_cons pe_str pe_int (pps_cons pe_str pe_int (pps_cons pe_str pe_int (pps_cons pe_str pe_int (pps_cons pe_str pe_int (pps_cons pe_str pe_int (pps_cons pe_str pe_int (pps_cons pe_str pe_int pps_nil))))))))) (by rfl) (by rfl) (fun z => by cases z) (by decide)))
      (pss_cons (ps_expr (pe_dupd (pv 4) (pe_disp (pps_cons pe_str pe_int (pps_cons pe_str pe_int (pps_cons pe_str pe_int pps_nil))) (by rfl) (by rfl) (fun z => by cases z) (by decide)) ⟨rfl, rfl, rfl, rfl⟩))
      (pss_cons (ps_if (pw_or (pt_cmp (pc_dnotin hu1 (pv 2) (pv 4))) (pw_or1 (pt_cmpR op_ne (pe_callB call_len_seq (by rfl) B.len PySem.boot_len (pa_cons (pv 3) pa_nil)) (pe_dget hu1 (pv 4) (pv 2) (fun _ _ => rfl)) (nomark _)))).pt (pss_one (ps_ret pe_bl)) pss_nil)
      (pss_cons (ps_if (pt_cmpR op_eq (pv 2) pe_str (nomark _)) (pss_one (ps_ret (pe_call GW hr (by rfl) DW.g DW.F.kp DW.b .nil pass0 (pa_cons (pe_ix ix_tup (pv 3) pe_int (fun _ _ => rfl)) (pa_cons pe_int (pa_cons pe_int pa_nil)))))) pss_nil)
      (pss_cons (ps_if (pt_cmpR op_eq (pv 2) pe_str (nomark _)) (pss_one (ps_ret (pe_call GI hr (by rfl) DI.g DI.F.kp DI.b .nil pass0 (pa_cons (pe_ix ix_tup (pv 3) pe_int (fun _ _ => rfl)) pa_nil)))) pss_nil)
      (pss_cons (ps_if (pt_cmpR op_eq (pv 2) pe_str (nomark _)) (pss_one (ps_ret (pe_call GN hr (by rfl) DN.g DN.F.kp DN.b .nil pass0 (pa_cons (pe_ix ix_tup (pv 3) pe_int (fun _ _ => rfl)) (pa_cons (pv 1) pa_nil))))) pss_nil)
      (pss_cons (ps_if (pt_cmpR op_eq (pv 2) pe_str (nomark _)) (pss_one (ps_ret (pe_and (pe_call GW hr (by rfl) DW.g DW.F.kp DW.b .nil pass0 (pa_cons (pe_ix ix_tup (pv 3) pe_int (fun _ _ => rfl)) (pa_cons pe_int (pa_cons (pv 1) pa_nil)))) (pe_one (pe_call GN hr (by rfl) DN.g DN.F.kp DN.b .nil pass0 (pa_cons (pe_ix ix_tup (pv 3) pe_int (fun _ _ => rfl)) (pa_cons (pv 1) pa_nil))))))) pss_nil)
      (pss_cons (ps_if (pt_cmpR op_in_seq (pv 2) (pe_tup (pa_cons pe_str (pa_cons pe_str pa_nil))) rfl) (pss_cons (ps_set (i := 5) scLS.nd rfl (.inl rfl) (pe_ix ix_tup (pv 3) pe_int (fun _ _ => rfl)))
      (pss_cons (ps_if (pw_or (pt_not (pt_val (pe_call GN hr (by rfl) DN.g DN.F.kp DN.b .nil pass0 (pa_cons (pv 5) (pa_cons pe_int pa_nil))))) (pw_or (pt_cmpR op_gt (pe_callB call_len_seq (by rfl) B.len PySem.boot_len (pa_cons (pv 5) pa_nil)) pe_int (nomark _)) (pw_or1 (pt_cmpR op_ne (pe_lenSetT (by rfl) B.len (by rfl) B.set (pv 5)) (pe_callB call_len_seq (by rfl) B.len PySem.boot_len (pa_cons (pv 5) pa_nil)) (nomark _))))).pt (pss_one (ps_ret pe_bl)) pss_nil)
      (pss_one (ps_set (i := 3) scLS.nd rfl (.inl rfl) (pe_slice sl_tup (pv 3) (po_some pe_int) po_none))))) pss_nil)
      (pss_one (ps_ret (pe_call GN hr (by rfl) DN.g DN.F.kp DN.b .nil pass0 (pa_cons (pv 3) (pa_cons (pv 1) pa_nil))))))))))))))), ?_⟩
    have no : shapedL last d = false → ∀ H', Same H H' → Q (.bl false) H' := fun e H' s' => by
      have := q H' s'
      rw [e] at this
      exact this
    refine ⟨_, rfl, _, .ty "tuple", _, .type "tuple", _, rfl, .ty "tuple", tyD hd, kt_tuple d, _, rfl, ite2 (fun e => ?_) (fun e => ?_)⟩
    · have := notT e
      exact no (by cases d <;> first | rfl | cases this) H (fun _ _ z => z)
    have e := notF e
    cases hd with
    | @tup p xs ds hp hds =>
      have hxl := hds.len
      refine ⟨_, rfl, Nat.zero_le _, fun e0 ne0 => ?_⟩
      have s0 := new_same (o := .tup []) ne0
      have hp0 := Same.tup s0 hp
      have hds0 : DtAll K (upd H e0 (.tup [])) xs ds := DtAll.same s0 ds hds
      refine ⟨p, e0, xs, rfl, rfl, .inl ⟨hp0, sqT upd_same⟩, _, rfl, ?_⟩
      generalize upd H e0 (.tup []) = H0 at s0 hp0 hds0
      refine ite2 (fun e1 => ?_) (fun e1 => ?_)
      · refine no ?_ H0 s0
        cases hds with
        | nil => rfl
        | cons h0 ht => cases e1
      cases hds0 with
      | nil => exact absurd rfl e1
      | @cons x xs d1 ds h0 ht =>
      refine ⟨_, rfl, p, _, _, _, rfl, rfl, hp0, atI_nat (j := 0) rfl, _, .ty "str", _, .type "str", _, rfl, .ty "str", tyD h0, kt_str d1, _, rfl, ite2 (fun e2 => ?_) (fun e2 => ?_)⟩
      · have := notT e2
        exact no (by cases d1 <;> first | rfl | cases this) H0 s0
      have e2 := notF e2
      cases h0 with
      | str wd =>
        have hxl2 := ht.len
        have hz4 := (sz_tup hz).1
        rw [List.length_cons] at hz4
        refine ⟨_, rfl, p, _, _, _, rfl, rfl, hp0, atI_nat (j := 0) rfl, .ref p, rfl, 1, rfl, p, _, rfl, hp0, cut_not _ _, fun R nR => ?_⟩
        rw [cut_one]
        have sR := new_same (o := .tup xs) nR
        have s1 := s0.trans sR
        have eR : upd H0 R (.tup xs) R = some (.tup xs) := upd_same
        have ht1 : DtAll K (upd H0 R (.tup xs)) xs ds := DtAll.same sR ds ht
        refine ⟨_, _, rfl, ?_⟩
        generalize upd H0 R (.tup xs) = H1 at s1 eR ht1
        intro dp ndp
        refine ⟨upd_same, W9, rfl, by decide, ?_⟩
        rw [w9_eq]
        have s2 : Same H1 (upd (upd H1 dp (.dK [])) dp (.dK W9)) := fun b o z => by rw [upd_ne (ne_of_none z ndp), upd_ne (ne_of_none z ndp)]; exact z
        have e2' : upd (upd H1 dp (.dK [])) dp (.dK W9) dp = some (.dK W9) := upd_same
        generalize upd (upd H1 dp (.dK [])) dp (.dK W9) = H2 at s2 e2'
        refine ⟨_, rfl, dp, rfl, .inl ⟨_, .inl e2'⟩, ?_⟩
        intro dq ndq
        have ndpq : dp ≠ dq := ne_of_none e2' ndq
        refine ⟨upd_same, W3, rfl, by decide, dq, W9, W3, rfl, ndpq, by rw [upd_ne ndpq, upd_ne ndpq]; exact e2', by rw [w3_eq]; exact upd_same, by decide, ?_⟩
        rw [w12_eq, w3_eq]
        have s3 : Same H1 (upd (upd (upd H2 dq (.dK [])) dq (.dK W3)) dp (.dK W12)) := fun b o z => by
          rw [upd_ne (ne_of_none z ndp), upd_ne (ne_of_none (s2 _ _ z) ndq), upd_ne (ne_of_none (s2 _ _ z) ndq)]
          exact s2 _ _ z
        have e3 : upd (upd (upd H2 dq (.dK [])) dq (.dK W3)) dp (.dK W12) dp = some (.dK W12) := upd_same
        generalize upd (upd (upd H2 dq (.dK [])) dq (.dK W3)) dp (.dK W12) = H3 at s3 e3
        have s4 := s1.trans s3
        have eR3 := s3 _ _ eR
        have ht3 : DtAll K H3 xs ds := DtAll.same s3 ds ht1
        have fin : ∀ (b : Bool), shapedL last (.tup (.str wd :: ds)) = b → ∀ H', Same H H' → Q (.bl b) H' := fun b e H' s' => by
          have := q H' s'
          rw [e] at this
          exact this
        cases hw : wantsL wd with
        | none =>
          refine ⟨_, rfl, _, rfl, dp, none, rfl, .inl ⟨W12, .inr wd, .inl e3, rfl, by rw [want_eq, hw]; rfl⟩, _, rfl, ifP rfl ?_⟩
          exact fin _ (by show (decide (wantsL wd = some ds.length) && _) = false; rw [hw]; rfl) H3 s4
        | some n =>
          have hg : DGet H3 dp (.str wd) (some (.int (n : Int))) := .inl ⟨W12, .inr wd, .inl e3, rfl, by rw [want_eq, hw]; rfl⟩
          refine ⟨_, rfl, _, rfl, dp, _, rfl, hg, _, rfl, ifN (by intro h; cases h) ?_⟩
          refine ⟨_, rfl, R, xs, rfl, .inr (sqT eR3), _, rfl, _, rfl, dp, _, rfl, hg, rfl, _, rfl, ite2 (fun e4 => ?_) (fun e4 => ?_)⟩
          · refine fin _ ?_ H3 s4
            show (decide (wantsL wd = some ds.length) && _) = false
            have : wantsL wd ≠ some ds.length := fun z => by
              rw [hw] at z
              have z := Option.some.inj z
              exact of_decide_eq_false (notT e4) (by rw [hxl2, z])
            rw [decide_eq_false this, Bool.false_and]
          have hn : ds.length = n := by
            have := V.int.inj (of_decide_eq_true (notF e4))
            omega
          have hsh : shapedL last (.tup (.str wd :: ds)) = shapedR last wd ds := by
            show (decide (wantsL wd = some ds.length) && _) = _
            rw [hw, hn, decide_eq_true rfl, Bool.true_and]
          rw [hsh] at fin
          have at0 : ∀ {j : Nat} {x : V}, xs[j]? = some x → ∃ d, ds[j]? = some d ∧ DtAt K H3 x d := fun h => pd_at2 ht3.pd h
          have get0 : 0 < n → ∃ x d, xs[0]? = some x ∧ ds.getD 0 .non = d ∧ DtAt K H3 x d ∧ szD d = true := fun h => by
            have hx0 := List.getElem?_eq_getElem (show 0 < xs.length by omega)
            obtain ⟨d, hd1, hd2⟩ := at0 hx0
            exact ⟨_, d, hx0, gd hd1, hd2, (sz_tup hz).2 d (List.mem_cons_of_mem _ (List.mem_of_getElem? hd1))⟩
          have szX : szD (.tup ds) = true := by
            have h1 := (sz_tup hz)
            show (decide (ds.length ≤ 4000) && szAll ds) = true
            rw [Bool.and_eq_true]
            refine ⟨decide_eq_true (by omega), ?_⟩
            have hz' : (decide ((Dt.str wd :: ds).length ≤ 4000) && (szD (.str wd) && szAll ds)) = true := hz
            rw [Bool.and_eq_true, Bool.and_eq_true] at hz'
            exact hz'.2.2
          refine ⟨_, rfl, rfl, _, rfl, ?_⟩
          by_cases w1 : wd = "take"
          · subst w1
            have hn1 : n = 1 := (Option.some.inj hw).symm
            obtain ⟨x, d, hx, hdd, hda, _⟩ := get0 (by omega)
            exact ifP (decide_eq_true rfl) ⟨_, rfl, R, _, _, x, rfl, rfl, sqT eR3, atI_nat (j := 0) hx, x, d, 0, 5, rfl, hda, by rw [← hdd]; exact fin _ rfl H3 s4⟩
          refine ifN (fun h => w1 (V.str.inj (of_decide_eq_true h))) ⟨_, rfl, rfl, _, rfl, ?_⟩
          by_cases w2 : wd = "num"
          · subst w2
            have hn1 : n = 1 := (Option.some.inj hw).symm
            obtain ⟨x, d, hx, hdd, hda, _⟩ := get0 (by omega)
            exact ifP (decide_eq_true rfl) ⟨_, rfl, R, _, _, x, rfl, rfl, sqT eR3, atI_nat (j := 0) hx, x, d, rfl, hda, by rw [← hdd]; exact fin _ rfl H3 s4⟩
          refine ifN (fun h => w2 (V.str.inj (of_decide_eq_true h))) ⟨_, rfl, rfl, _, rfl, ?_⟩
          by_cases w3 : wd = "meet"
          · subst w3
            have hn1 : n = 1 := (Option.some.inj hw).symm
            obtain ⟨x, d, hx, hdd, hda, hzd⟩ := get0 (by omega)
            exact ifP (decide_eq_true rfl) ⟨_, rfl, R, _, _, x, rfl, rfl, sqT eR3, atI_nat (j := 0) hx, _, rfl, x, d, last, rfl, hda, hzd, fun H4 s5 => by rw [← hdd]; exact fin _ rfl H4 (s4.trans s5)⟩
          refine ifN (fun h => w3 (V.str.inj (of_decide_eq_true h))) ⟨_, rfl, rfl, _, rfl, ?_⟩
          by_cases w4 : wd = "pick"
          · subst w4
            have hn1 : n = 2 := (Option.some.inj hw).symm
            obtain ⟨x, d, hx, hdd, hda, hzd⟩ := get0 (by omega)
            have hx1 := List.getElem?_eq_getElem (show 1 < xs.length by omega)
            obtain ⟨d2, hd1, hd2⟩ := at0 hx1
            have hdd2 : ds.getD 1 .non = d2 := gd hd1
            have hz2 := (sz_tup hz).2 d2 (List.mem_cons_of_mem _ (List.mem_of_getElem? hd1))
            have hR : shapedR last "pick" ds = (withinD 0 last d && numsLD last d2) := by rw [← hdd, ← hdd2]; rfl
            refine ifP (decide_eq_true rfl) ⟨_, rfl, R, _, _, x, rfl, rfl, sqT eR3, atI_nat (j := 0) hx, _, rfl, x, d, 0, last, rfl, hda, _, rfl, ite2 (fun e5 => ?_) (fun e5 => ?_)⟩
            · refine ⟨_, rfl, R, _, _, _, rfl, rfl, sqT eR3, atI_nat (j := 1) hx1, _, rfl, _, d2, last, rfl, hd2, hz2, fun H4 s5 => fin _ ?_ H4 (s4.trans s5)⟩
              rw [hR, e5, Bool.true_and]
            · exact fin _ (by rw [hR, Bool.eq_false_iff.mpr e5, Bool.false_and]) H3 s4
          refine ifN (fun h => w4 (V.str.inj (of_decide_eq_true h))) ?_
          refine ⟨_, rfl, by show 2 ≤ sizeLine; decide, fun tp ntp => ⟨tp, _, rfl, .inr (sqT upd_same), rfl, rfl, _, rfl, ?_⟩⟩
          have s5 := new_same (o := .tup [.str "look", .str "lay"]) ntp
          have eR5 := s5 _ _ eR3
          have ht5 : DtAll K (upd H3 tp (.tup [.str "look", .str "lay"])) xs ds := DtAll.same s5 ds ht3
          have s6 := s4.trans s5
          generalize upd H3 tp (.tup [.str "look", .str "lay"]) = H5 at s5 eR5 ht5 s6
          by_cases w5 : wd = "look" ∨ wd = "lay"
          · have hin : inV (.str wd) [.str "look", .str "lay"] = true := by rw [inV2, decide_eq_true w5]
            have hn2 : 2 ≤ n := by
              rcases w5 with rfl | rfl
              · have := Option.some.inj hw; omega
              · have := Option.some.inj hw; omega
            obtain ⟨x, d, hx, hdd, hda, hzd⟩ := get0 (by omega)
            have hda5 := DtAt.same s5 d hda
            have hR : shapedR last wd ds = (roomsL d && numsLD last (.tup (ds.drop 1))) := by
              unfold shapedR
              rw [if_neg w1, if_neg w2, if_neg w3, if_neg w4, if_pos w5, hdd]
            rw [hR] at fin
            refine ifP (by rw [hin]; rfl) ?_
            refine ⟨_, rfl, R, _, _, x, rfl, rfl, sqT eR5, atI_nat (j := 0) hx, ?_⟩
            refine ⟨_, rfl, x, d, 5, rfl, hda5, hzd, fun H6 s7 => ⟨_, rfl, ite2 (fun e6 => ?_) (fun e6 => ?_)⟩⟩
            · refine fin _ ?_ H6 (s6.trans s7)
              have : roomsL d = false := by
                cases d with
                | tup ds' =>
                  have h6 : numsLD 5 (.tup ds') = false := notT e6
                  show (numsLD 5 (.tup ds') && _ && _) = false
                  rw [h6]
                  rfl
                | _ => rfl
              rw [this, Bool.false_and]
            have e6 := notF e6
            cases hda5 with
            | @tup qa xs' ds' hq hqs =>
              have e6' : (!ds'.isEmpty && ds'.all (withinD 0 5)) = true := e6
              rw [Bool.and_eq_true] at e6'
              obtain ⟨ns, rfl⟩ := allNum_iff.mp (List.all_eq_true.mpr fun d hd => by
                have := List.all_eq_true.mp e6'.2 d hd
                cases d <;> first | rfl | cases this)
              have hxx := ints_at hqs
              subst hxx
              have hq6 := Same.tup s7 hq
              have hRm : roomsL (.tup (ns.map Dt.int)) = (decide (ns.length ≤ 4) && decide ns.Nodup) := by
                show (numsLD 5 (.tup (ns.map Dt.int)) && decide ((ns.map Dt.int).length ≤ 4) && decide (((ns.map Dt.int).map intD).Nodup)) = _
                rw [e6, intD_map, List.length_map, Bool.true_and]
              rw [hRm] at fin
              have hnl : ns.length ≤ 4000 := by have := (sz_tup hzd).1; rwa [List.length_map] at this
              refine ⟨_, rfl, qa, _, rfl, .inr hq6, _, _, rfl, rfl, _, rfl, ite2 (fun e7 => ?_) (fun e7 => ?_)⟩
              · refine fin _ ?_ H6 (s6.trans s7)
                have : ¬ ns.length ≤ 4 := by
                  have := of_decide_eq_true e7
                  rw [List.length_map] at this
                  omega
                rw [decide_eq_false this, Bool.false_and, Bool.false_and]
              have hl4 : ns.length ≤ 4 := by
                have : ¬ (4 : Int) < ((ns.map V.int).length : Int) := fun z => e7 (decide_eq_true z)
                rw [List.length_map] at this
                omega
              rw [decide_eq_true hl4, Bool.true_and] at fin
              refine ⟨_, rfl, qa, ns, rfl, hq6, hnl, fun c hc => ⟨_, rfl, qa, _, rfl, .inr hq6, rfl, _, rfl, ite2 (fun e8 => ?_) (fun e8 => ?_)⟩⟩
              · refine fin _ ?_ H6 (s6.trans s7)
                have : ¬ ns.Nodup := fun z => of_decide_eq_false (notT e8) (by rw [hc.iff.mpr z, List.length_map])
                rw [decide_eq_false this, Bool.false_and]
              have hnd : ns.Nodup := hc.iff.mp (by
                have := V.int.inj (of_decide_eq_true (notF e8))
                rw [List.length_map] at this
                omega)
              rw [decide_eq_true hnd, Bool.true_and] at fin
              cases xs with
              | nil => cases hx
              | cons x0 xs =>
              cases ht5 with
              | @cons _ _ d0 ds h0 ht5 =>
              have eR6 := s7 _ _ eR5
              refine ⟨.ref R, rfl, 1, rfl, R, _, rfl, sqT eR6, cut_not _ _, fun R2 nR2 => ?_⟩
              rw [cut_one]
              have s8 := new_same (o := .tup xs) nR2
              have ht8 := DtAll.same (s7.trans s8) ds ht5
              have szX2 : szD (.tup ds) = true := by
                have h1 : (decide ((d0 :: ds).length ≤ 4000) && (szD d0 && szAll ds)) = true := szX
                rw [Bool.and_eq_true, Bool.and_eq_true] at h1
                have h2 := of_decide_eq_true h1.1
                rw [List.length_cons] at h2
                show (decide (ds.length ≤ 4000) && szAll ds) = true
                rw [decide_eq_true (by omega), h1.2.2]
                rfl
              exact ⟨_, rfl, _, rfl, .ref R2, .tup ds, last, rfl, .tup (sqT upd_same) ht8, szX2, fun H9 s9 => fin _ rfl H9 (((s6.trans s7).trans s8).trans s9)⟩
            | _ => cases e6
          · have hni : inV (.str wd) [.str "look", .str "lay"] = false := by rw [inV2, decide_eq_false w5]
            refine ifN (by rw [hni]; intro h; cases h) ?_
            refine ⟨_, rfl, _, rfl, .ref R, .tup ds, last, rfl, .tup (sqT eR5) ht5, szX, fun H6 s7 => fin _ ?_ H6 (s6.trans s7)⟩
            unfold shapedR
            rw [if_neg w1, if_neg w2, if_neg w3, if_neg w4, if_neg w5]
      | _ => cases e2
    | _ => cases e
end
end Gn
set_option Elab.async false
set_option linter.all false
set_option maxRecDepth 100000
set_option maxHeartbeats 4000000
set_option pp.maxSteps 400
namespace Gn
open PySem PySem.Spec PyProof.Rows L2
/-! ### ends, as the law reads them -/
/-- what the law's ends are: behind a word numbers alone -/
def EndG (d : Dt) : Prop := ∀ w ds, d = .tup (.str w :: ds) → (w = "go" ∨ w = "if" ∨ w = "end") ∧ ∃ ns : List Int, ds = ns.map Dt.int
def endedL (last nb : Int) : Dt → Bool
  | .tup (.str w :: ds) => if w = "go" then decide (ds.length = 1) && withinD 1 (nb - 1) (ds.getD 0 .non) else
      if w = "if" then decide (ds.length = 3) && withinD 0 last (ds.getD 0 .non) && !decide (intD (ds.getD 1 .non) = intD (ds.getD 2 .non)) && withinD 1 (nb - 1) (ds.getD 1 .non) && withinD 1 (nb - 1) (ds.getD 2 .non)
      else decide (w = "end") && ds.isEmpty
  | _ => false
def spEnded (K : PySem.W.Frag) : Sp := fun vs H Q _ => ∃ (v : V) (d : Dt) (last nb : Int), vs = [v, .int last, .int nb] ∧ DtAt K H v d ∧ EndG d ∧ szD d = true ∧ ∀ H', Same H H' → Q (.bl (endedL last nb d)) H'
abbrev nLE : List Str := ["_law_end", "_law_last", "_law_blocks"]
theorem scLE : FnScope nLE nLE (defScope sLEnded) := ⟨rfl, rfl, rfl, by decide +kernel, rfl, by decide +kernel, by decide +kernel⟩
def pdE (w : Str) (ns : List Int) : PyData := .tuple (.str w :: ns.map PyData.int)
theorem pdE_shaped (ns : List Int) : SeqAt.shaped (pdE "end" ns) = true := by
  have h1 := pdI_lay ns
  have h2 := pdI_depth ns
  unfold SeqAt.shaped pdE
  rw [Bool.and_eq_true]
  have h3 : PyData.strOk "end" = true := by decide +kernel
  refine ⟨by simpa [PyData.canLay0, PyData.canLayAll0, h3] using h1, decide_eq_true ?_⟩
  simp [PyData.depth, PyData.depthAll]
  omega
theorem pdE_eqv (w : Str) (ns : List Int) : PyData.eqv (pdE w ns) (pdE "end" []) = (decide (w = "end") && ns.isEmpty) := by
  unfold pdE
  have e : (w == ("end" : Str)) = decide (w = "end") := by
    by_cases h : w = "end"
    · subst h; simp
    · rw [decide_eq_false h]; simpa using h
  cases ns <;> simp [PyData.eqv, PyData.eqvAll, e]
section
variable {P0 : Program} {w : World} {K : PySem.W.Frag} {mg : Str → Option Value} {base : Heap}
theorem ok_lended {f fW : Addr} {fd fdW : FuncData} {k : Nat} (D : Df K mg "_law_ended" sLEnded nLE f fd) (B : Bi mg) (DW : Df K mg "_law_within" sLWithin nLW3 fW fdW) (GW : FnOk P0 w K mg base CX0 k fW fdW nLW3 (spWithin K)) : FnOk P0 w K mg base CX0 (k + 1) f fd nLE (spEnded K) := by
  refine D.F.ok scLE (fun vs H Q E h => ?_) (fun cdv A outer s H vs Q E hr h => ?_)
  · obtain ⟨v, d, last, nb, rfl, _⟩ := h
    rfl
  · obtain ⟨v, d, last, nb, rfl, hd, hG, hz, q⟩ := h
    refine ⟨_, (pss_cons (ps_if (pw_or (pt_not (pt_val (pe_callB call_isi (by rfl) B.isinstance PyProof.Rows.boot_isinstance (pa_cons (pv 0) (pa_cons (pe_bltn (v := .ty "tuple") (by rfl) B.tuple (show bootBuiltins "tuple" = some (.type "tuple") by rfl) rfl) pa_nil))))) (pw_or (pt_cmpR (op_eqE hr.units) (pv 0) (pe_tup pa_nil) (nomark _)) (pw_or1 (pt_not (pt_val (pe_callB call_isi (by rfl) B.isinstance PyProof.Rows.boot_isinstance (pa_cons (pe_ix ix_tup (pv 0) pe_int (fun _ _ => rfl)) (pa_cons (pe_bltn (v := .ty "str") (by rfl) B.str (show bootBuiltins "str" = some (.type "str") by rfl) rfl) pa_nil)))))))).pt (pss_one (ps_ret pe_bl)) pss_nil)
      (pss_cons (ps_if (pt_cmpR op_eq (pe_ix ix_tup (pv 0) pe_int (fun _ _ => rfl)) pe_str (nomark _)) (pss_one (ps_ret (pe_and (pe_cmpR op_eq (pe_callB call_len_seq (by rfl) B.len PySem.boot_len (pa_cons (pv 0) pa_nil)) pe_int (nomark _)) (pe_one (pe_call GW hr (by rfl) DW.g DW.F.kp DW.b .nil pass0 (pa_cons (pe_ix ix_tup (pv 0) pe_int (fun _ _ => rfl)) (pa_cons pe_int (pa_cons (pe_op op_sub (pv 2) pe_int) pa_nil)))))))) pss_nil)
      (pss_cons (ps_if (pt_cmpR op_ne (pe_ix ix_tup (pv 0) pe_int (fun _ _ => rfl)) pe_str (nomark _)) (pss_one (ps_ret (pe_cmpR (op_eqD hr.units) (pv 0) (pe_tup (pa_cons pe_str pa_nil)) (nomark _)))) pss_nil)
      (pss_cons (ps_if (pw_or (pt_cmpR op_ne (pe_callB call_len_seq (by rfl) B.len PySem.boot_len (pa_cons (pv 0) pa_nil)) pe_int (nomark _)) (pw_or (pt_not (pt_val (pe_call GW hr (by rfl) DW.g DW.F.kp DW.b .nil pass0 (pa_cons (pe_ix ix_tup (pv 0) pe_int (fun _ _ => rfl)) (pa_cons pe_int (pa_cons (pv 1) pa_nil)))))) (pw_or1 (pt_cmpR op_eq (pe_ix ix_tup (pv 0) pe_int (fun _ _ => rfl)) (pe_ix ix_tup (pv 0) pe_int (fun _ _ => rfl)) (nomark _))))).pt (pss_one (ps_ret pe_bl)) pss_nil)
      (pss_one (ps_ret (pe_and (pe_call GW hr (by rfl) DW.g DW.F.kp DW.b .nil pass0 (pa_cons (pe_ix ix_tup (pv 0) pe_int (fun _ _ => rfl)) (pa_cons pe_int (pa_cons (pe_op op_sub (pv 2) pe_int) pa_nil)))) (pe_one (pe_call GW hr (by rfl) DW.g DW.F.kp DW.b .nil pass0 (pa_cons (pe_ix ix_tup (pv 0) pe_int (fun _ _ => rfl)) (pa_cons pe_int (pa_cons (pe_op op_sub (pv 2) pe_int) pa_nil)))))))))))), ?_⟩
    have no : endedL last nb d = false → ∀ H', Same H H' → Q (.bl false) H' := fun e H' s' => by
      have := q H' s'
      rw [e] at this
      exact this
    refine ⟨_, rfl, _, .ty "tuple", _, .type "tuple", _, rfl, .ty "tuple", tyD hd, kt_tuple d, _, rfl, ite2 (fun e => ?_) (fun e => ?_)⟩
    · have := notT e
      exact no (by cases d <;> first | rfl | cases this) H (fun _ _ z => z)
    have e := notF e
    cases hd with
    | @tup p xs ds hp hds =>
      have hxl := hds.len
      refine ⟨_, rfl, Nat.zero_le _, fun e0 ne0 => ?_⟩
      have s0 := new_same (o := .tup []) ne0
      have hp0 := Same.tup s0 hp
      have hds0 : DtAll K (upd H e0 (.tup [])) xs ds := DtAll.same s0 ds hds
      refine ⟨p, e0, xs, rfl, rfl, .inl ⟨hp0, sqT upd_same⟩, _, rfl, ?_⟩
      generalize upd H e0 (.tup []) = H0 at s0 hp0 hds0
      refine ite2 (fun e1 => ?_) (fun e1 => ?_)
      · refine no ?_ H0 s0
        cases hds with
        | nil => rfl
        | cons h0 ht => cases e1
      cases hds0 with
      | nil => exact absurd rfl e1
      | @cons x xs d1 ds h0 ht =>
      refine ⟨_, rfl, p, _, _, _, rfl, rfl, hp0, atI_nat (j := 0) rfl, _, .ty "str", _, .type "str", _, rfl, .ty "str", tyD h0, kt_str d1, _, rfl, ite2 (fun e2 => ?_) (fun e2 => ?_)⟩
      · have := notT e2
        exact no (by cases d1 <;> first | rfl | cases this) H0 s0
      have e2 := notF e2
      cases h0 with
      | str wd =>
        obtain ⟨hwd, ns, rfl⟩ := hG wd ds rfl
        have hx := ints_at ht
        subst hx
        have fin : ∀ (b : Bool), endedL last nb (.tup (.str wd :: ns.map Dt.int)) = b → ∀ H', Same H H' → Q (.bl b) H' := fun b e H' s' => by
          have := q H' s'
          rw [e] at this
          exact this
        have atp : ∀ {j : Nat} {n : Int}, ns[j]? = some n → (V.str wd :: ns.map V.int)[j + 1]? = some (.int n) := fun h => by rw [List.getElem?_cons_succ, List.getElem?_map, h]; rfl
        refine ⟨_, rfl, p, _, _, _, rfl, rfl, hp0, atI_nat (j := 0) rfl, rfl, _, rfl, ?_⟩
        by_cases w1 : wd = "go"
        · subst w1
          refine ifP (decide_eq_true rfl) ?_
          have hE : endedL last nb (.tup (.str "go" :: ns.map Dt.int)) = (decide ((ns.map Dt.int).length = 1) && withinD 1 (nb - 1) ((ns.map Dt.int).getD 0 .non)) := rfl
          rw [hE] at fin
          refine ⟨_, rfl, p, _, rfl, .inr hp0, rfl, _, rfl, ite2 (fun e3 => ?_) (fun e3 => ?_)⟩
          · have h2 := V.int.inj (of_decide_eq_true e3)
            match ns, h2 with
            | [b], _ => exact ⟨_, rfl, p, _, _, .int b, rfl, rfl, hp0, atI_nat (j := 1) rfl, _, rfl, _, _, rfl, rfl, .int b, .int b, 1, nb - 1, rfl, .int b, fin _ rfl H0 s0⟩
          · have : (ns.map Dt.int).length ≠ 1 := fun z => e3 (decide_eq_true (by rw [List.length_cons, List.length_map]; rw [List.length_map] at z; rw [z]; rfl))
            exact fin _ (by rw [decide_eq_false this, Bool.false_and]) H0 s0
        refine ifN (fun h => w1 (V.str.inj (of_decide_eq_true h))) ⟨_, rfl, p, _, _, _, rfl, rfl, hp0, atI_nat (j := 0) rfl, rfl, _, rfl, ?_⟩
        by_cases w2 : wd = "if"
        · subst w2
          refine ifN (by rw [decide_eq_true rfl]; intro h; cases h) ?_
          have hE : endedL last nb (.tup (.str "if" :: ns.map Dt.int)) = (decide ((ns.map Dt.int).length = 3) && withinD 0 last ((ns.map Dt.int).getD 0 .non) && !decide (intD ((ns.map Dt.int).getD 1 .non) = intD ((ns.map Dt.int).getD 2 .non)) && withinD 1 (nb - 1) ((ns.map Dt.int).getD 1 .non) && withinD 1 (nb - 1) ((ns.map Dt.int).getD 2 .non)) := rfl
          rw [hE] at fin
          refine ⟨_, rfl, p, _, rfl, .inr hp0, rfl, _, rfl, ite2 (fun e3 => ?_) (fun e3 => ?_)⟩
          · have : (ns.map Dt.int).length ≠ 3 := fun z => of_decide_eq_false (notT e3) (by rw [List.length_cons, List.length_map]; rw [List.length_map] at z; rw [z]; rfl)
            exact fin _ (by rw [decide_eq_false this]; rfl) H0 s0
          have h4 := V.int.inj (of_decide_eq_true (notF e3))
          match ns, h4 with
          | [r, b, c], _ =>
            have fin : ∀ (o : Bool), (withinD 0 last (.int r) && !decide (b = c) && withinD 1 (nb - 1) (.int b) && withinD 1 (nb - 1) (.int c)) = o → ∀ H', Same H H' → Q (.bl o) H' := fun o e => fin o (by rw [← e]; rfl)
            refine ⟨_, rfl, p, _, _, .int r, rfl, rfl, hp0, atI_nat (j := 1) rfl, _, rfl, .int r, .int r, 0, last, rfl, .int r, _, rfl, ite2 (fun e5 => ?_) (fun e5 => ?_)⟩
            · exact fin _ (by rw [notT e5]; rfl) H0 s0
            rw [notF e5, Bool.true_and] at fin
            refine ⟨_, rfl, p, _, _, .int b, rfl, rfl, hp0, atI_nat (j := 2) rfl, _, rfl, p, _, _, .int c, rfl, rfl, hp0, atI_nat (j := 3) rfl, rfl, _, rfl, ?_⟩
            have ebc : decide (V.int b = V.int c) = decide (b = c) := decide_eq_decide.mpr ⟨fun z => V.int.inj z, fun z => by rw [z]⟩
            rw [ebc]
            refine ite2 (fun e6 => ?_) (fun e6 => ?_)
            · exact fin _ (by rw [e6]; rfl) H0 s0
            have e6' : (!decide (b = c)) = true := by rw [Bool.eq_false_iff.mpr e6]; rfl
            rw [e6', Bool.true_and] at fin
            refine ⟨_, rfl, p, _, _, .int b, rfl, rfl, hp0, atI_nat (j := 2) rfl, _, rfl, _, _, rfl, rfl, .int b, .int b, 1, nb - 1, rfl, .int b, _, rfl, ite2 (fun e7 => ?_) (fun e7 => ?_)⟩
            · rw [e7, Bool.true_and] at fin
              exact ⟨_, rfl, p, _, _, .int c, rfl, rfl, hp0, atI_nat (j := 3) rfl, _, rfl, _, _, rfl, rfl, .int c, .int c, 1, nb - 1, rfl, .int c, fin _ rfl H0 s0⟩
            · exact fin _ (by rw [Bool.eq_false_iff.mpr e7]; rfl) H0 s0
        · refine ifP (by rw [decide_eq_false (fun h => w2 (V.str.inj h))]; rfl) ?_
          have w3 : wd = "end" := by
            rcases hwd with h | h | h
            · exact absurd h w1
            · exact absurd h w2
            · exact h
          subst w3
          refine ⟨_, rfl, by show 1 ≤ sizeLine; decide, fun tp ntp => ?_⟩
          have s1 := new_same (o := .tup [.str "end"]) ntp
          refine ⟨pdE "end" ns, pdE "end" [], .tup (Same.tup s1 hp0) (.cons (.str "end") (dpI ns)), .tup (sqT upd_same) (.cons (.str "end") .nil), pdE_shaped ns, pdE_shaped [], ?_⟩
          refine fin _ ?_ _ (s0.trans s1)
          rw [pdE_eqv]
          cases ns <;> rfl
      | _ => cases e2
    | _ => cases e
end
end Gn
set_option Elab.async false
set_option linter.all false
set_option maxRecDepth 100000
set_option maxHeartbeats 4000000
set_option pp.maxSteps 400
namespace Gn
open PySem PySem.Spec PyProof.Rows L2
def spFlat (K : PySem.W.Frag) : Sp := fun vs H Q _ => ∃ (v : V) (pr : List Blk), vs = [v] ∧ ProgH K H v pr ∧ pr.length ≤ 12 ∧ (∀ b ∈ pr, b.1.length ≤ 130) ∧
  ∀ (p ra ba : Addr) (H' : Hp) (us : List V), Same H H' → SqT K H' p [.ref ra, .ref ba] → H ra = none → H ba = none → ra ≠ ba → H' ra = some (.lst us) → Paired (RzAt K H') us (rowsL pr) → H' ba = some (.lst ((ownL pr pr.length).map iv)) → Q (.ref p) H'
abbrev nFlat : List Str := ["_law_program", "_law_rows", "_law_blocks", "_law_number", "_law_block_here"]
theorem scFlat : FnScope nFlat ["_law_program"] (defScope sLFlat) := ⟨rfl, rfl, rfl, by decide +kernel, rfl, by decide +kernel, by decide +kernel⟩
section
variable {P : Program} {w : World} {K : PySem.W.Frag} {mg : Str → Option Value} {base : Heap}
theorem ok_flat {f : Addr} {fd : FuncData} {k : Nat} (D : Df K mg "_law_flat" sLFlat ["_law_program"] f fd) (B : Bi mg) : FnOk P w K mg base CX0 (k + 1) f fd ["_law_program"] (spFlat K) := by
  refine D.F.ok scFlat (fun vs H Q E h => ?_) (fun cdv A outer s H vs Q E hr h => ?_)
  · obtain ⟨v, pr, rfl, _⟩ := h
    rfl
  · obtain ⟨v, pr, rfl, ⟨a, xs, rfl, ha, pd⟩, hl, hbl, q⟩ := h
    refine ⟨_, pss_cons (ps_par (i := 1) (j := 2) (by rfl) scFlat.nd rfl rfl (by decide) rfl rfl (pa_cons (pe_lst pa_nil) (pa_cons (pe_lst pa_nil) pa_nil)) (by rfl))
      (pss_cons (ps_for PassesOwn.never rfl (pi_enum (by rfl) B.enumerate (pa_cons (pv 0) pa_nil)) (pg_tup rfl (pgs_cons (pg_name (i := 3) scFlat.nd rfl (.inl rfl)) (pgs_cons (pg_name (i := 4) scFlat.nd rfl (.inl rfl)) pgs_nil)))
        (pss_cons (ps_expr (pe_bm PySem.F.plainAttrs_list PySem.F.slot_list_extend PySem.F.type_list_extend mt_extend (pv 1) (pa_cons (pe_ix ix_tup (pv 4) pe_int (fun _ _ => rfl)) pa_nil)))
        (pss_one (ps_expr (pe_bm PySem.F.plainAttrs_list PySem.F.slot_list_extend PySem.F.type_list_extend mt_extend (pv 2) (pa_cons (pe_op op_rep (pe_lst (pa_cons (pv 3) pa_nil)) (pe_callB call_len_seq (by rfl) B.len PySem.boot_len (pa_cons (pe_ix ix_tup (pv 4) pe_int (fun _ _ => rfl)) pa_nil))) pa_nil))))))
      (pss_one (ps_ret (pe_tup (pa_cons (pv 1) (pa_cons (pv 2) pa_nil)))))), ?_⟩
    have hxl : xs.length = pr.length := pd_len pd
    have h130 : pr.length * 130 ≤ 12 * 130 := Nat.mul_le_mul_right _ hl
    refine ⟨Nat.zero_le _, fun ra nra => ⟨Nat.zero_le _, fun ba nba => ⟨_, _, rfl, ?_⟩⟩⟩
    have nrb : ra ≠ ba := ne_of_none upd_same nba
    have s0 : Same H (upd (upd H ra (.lst [])) ba (.lst [])) := (new_same nra).trans (new_same nba)
    have hba : H ba = none := (new_same nra).free nba
    have er : upd (upd H ra (.lst [])) ba (.lst []) ra = some (.lst []) := by rw [upd_ne nrb]; exact upd_same
    have eb : upd (upd H ra (.lst [])) ba (.lst []) ba = some (.lst (([] : List Nat).map iv)) := upd_same
    generalize upd (upd H ra (.lst [])) ba (.lst []) = H0 at s0 er eb
    refine ⟨.ref a, rfl, a, _, rfl, s0.seq ha, ?_⟩
    refine for_it (walk_enum (K := K) (a := a) (xs := xs)) (fun i σ H1 => ∃ (y3 y4 : Option V) (us : List V), σ = [some (.ref a), some (.ref ra), some (.ref ba), y3, y4] ∧ Same H H1 ∧ H1 ra = some (.lst us) ∧ Paired (RzAt K H) us (rowsL (pr.take i)) ∧ H1 ba = some (.lst ((ownL pr i).map iv)))
      ⟨_, _, [], rfl, s0, er, .nil, eb⟩ (fun i σ H1 _ hP => ?_) (fun i x σ H1 H2 hi hP hY => ?_) (fun σ H1 hP => ?_)
    · obtain ⟨_, _, _, _, s1, _⟩ := hP
      exact s1.seq ha
    · obtain ⟨y3, y4, us, rfl, s1, er1, pu, eb1⟩ := hP
      obtain ⟨T, x1, x2, rfl, nT, rfl, e1, e2⟩ := hY
      cases e1
      have e2 : xs[i]? = some x2 := e2
      obtain ⟨bk, hbk, p, rl, ea, vs, rfl, hp, hrl, pv, _⟩ := pd_at2 pd e2
      have sT := new_same (o := .tup [.int (i : Nat), .ref p]) nT
      have s2 := s1.trans sT
      have er2 := sT _ _ er1
      have eb2 := sT _ _ eb1
      refine ⟨T, _, rfl, sqT upd_same, rfl, _, _, rfl, _, _, rfl, rfl, ?_⟩
      generalize upd H1 T (.tup [.int (i : Nat), .ref p]) = H3 at s2 er2 eb2
      have hvl : vs.length = bk.1.length := pd_len pv
      have hul := pd_len pu
      have h2 := take_rows_le hbl (show i ≤ pr.length by omega)
      have h3 := hbl bk (List.mem_of_getElem? hbk)
      have hol := ownL_len (pr := pr) i (by omega)
      refine ⟨.ref ra, rfl, .inl ⟨rfl, _, sqL er2⟩, .ref p, rfl, p, _, _, .ref rl, rfl, rfl, Same.tup s2 hp, atI_nat (j := 0) rfl, ra, rl, _, _, rfl, rfl, er2, s2 _ _ hrl, szl (by omega), ?_⟩
      have s4 := Same.upd (o := .lst (us ++ vs)) s2 nra
      have er4 : upd H3 ra (.lst (us ++ vs)) ra = some (.lst (us ++ vs)) := upd_same
      have eb4 : upd H3 ra (.lst (us ++ vs)) ba = some (.lst ((ownL pr i).map iv)) := by rw [upd_ne nrb.symm]; exact eb2
      generalize upd H3 ra (.lst (us ++ vs)) = H4 at s4 er4 eb4
      refine ⟨.ref ba, rfl, .inl ⟨rfl, _, sqL eb4⟩, _, rfl, szl (show 1 ≤ 1000000 by decide), fun l nl => ?_⟩
      have sl := new_same (o := .lst [.int (i : Nat)]) nl
      have el : upd H4 l (.lst [.int (i : Nat)]) l = some (.lst [iv i]) := upd_same
      have s5 := s4.trans sl
      have er5 := sl _ _ er4
      have eb5 := sl _ _ eb4
      generalize upd H4 l (.lst [.int (i : Nat)]) = H5 at el s5 er5 eb5
      refine ⟨.ref p, rfl, p, _, _, .ref rl, rfl, rfl, Same.tup s5 hp, atI_nat (j := 0) rfl, rl, _, rfl, .inl (sqL (s5 _ _ hrl)), l, _, _, rfl, rfl, el, by omega, by omega, ?_, fun r nr => ?_⟩
      · rw [Int.toNat_natCast]
        exact szl (by show 1 * vs.length ≤ 1000000; omega)
      rw [Int.toNat_natCast, rep_iv]
      have sr := new_same (o := .lst ((List.replicate vs.length i).map iv)) nr
      have nrr : r ≠ ba := (ne_of_none eb5 nr).symm
      have er6 := sr _ _ er5
      have eb6 := sr _ _ eb5
      have s6 := s5.trans sr
      refine ⟨ba, r, _, _, rfl, rfl, eb6, upd_same, ?_, ?_⟩
      · rw [List.length_map, List.length_map, List.length_replicate]
        exact szl (by omega)
      · refine ⟨_, _, us ++ vs, rfl, Same.upd s6 hba, ?_, ?_, ?_⟩
        · rw [upd_ne nrb]; exact er6
        · rw [rows_take hbk]
          exact pd_app pu pv
        · rw [upd_same, ownL_succ hbk, List.map_append, hvl]
    · obtain ⟨y3, y4, us, rfl, s1, er1, pu, eb1⟩ := hP
      rw [hxl] at pu eb1
      rw [List.take_length] at pu
      refine ⟨.ref ra, rfl, .ref ba, rfl, szl (show 2 ≤ 1000000 by decide), fun p np => ?_⟩
      have sp := new_same (o := .tup [.ref ra, .ref ba]) np
      have s2 := s1.trans sp
      exact q p ra ba _ us s2 (sqT upd_same) nra hba nrb (sp _ _ er1) (pd_mono pu fun _ _ z => z.same s2) (sp _ _ eb1)
end
/-! ### what a row names, as the law reads it -/
def Rz.used : Rz → List Int
  | .take _ => [] | .num _ => [] | .meet _ => []
  | .bin _ x y => [x, y] | .pick x ps => x :: ps | .tell x => [x] | .look _ x => [x] | .lay _ x y => [x, y]
theorem used_nms (r : Rz) (h : r.w ≠ "meet") : r.used = r.nms := by
  cases r with
  | meet ps => exact absurd rfl h
  | _ => rfl
theorem used_meet (r : Rz) (h : r.w = "meet") : r.used = [] := by
  cases r with
  | meet ps => rfl
  | bin b x y => cases b <;> cases h
  | _ => cases h
theorem cut_two (x y : V) (ys : List V) : cutV (x :: y :: ys) (some 2) none = ys := by
  unfold cutV
  rw [show HT.sIx (x :: y :: ys).length 0 (some 2) = min 2 (x :: y :: ys).length from HT.sIx_nat (x :: y :: ys).length 0 2, HT.sIx_none]
  rw [show min 2 (x :: y :: ys).length = 2 by simp only [List.length_cons]; omega]
  show (List.take ((x :: y :: ys).length - 2) ys) = ys
  rw [show (x :: y :: ys).length - 2 = ys.length by simp only [List.length_cons]; omega]
  exact List.take_length
def spUsed (K : PySem.W.Frag) : Sp := fun vs H Q _ => ∃ (v : V) (r : Rz), vs = [v] ∧ RzAt K H v r ∧ r.nms.length ≤ 10000 ∧ ∀ (a : Addr) (H' : Hp), H a = none → Same H H' → H' a = some (.lst (r.used.map V.int)) → Q (.ref a) H'
abbrev nLU : List Str := ["_law_row_here", "_law_kind"]
theorem scLU : FnScope nLU ["_law_row_here"] (defScope sLUsed) := ⟨rfl, rfl, rfl, by decide +kernel, rfl, by decide +kernel, by decide +kernel⟩
section
variable {P0 : Program} {w : World} {K : PySem.W.Frag} {mg : Str → Option Value} {base : Heap}
theorem ok_lused {f : Addr} {fd : FuncData} {k : Nat} (D : Df K mg "_law_used" sLUsed ["_law_row_here"] f fd) (B : Bi mg) : FnOk P0 w K mg base CX0 (k + 1) f fd ["_law_row_here"] (spUsed K) := by
  refine D.F.ok scLU (fun vs H Q E h => ?_) (fun cdv A outer s H vs Q E hr h => ?_)
  · obtain ⟨v, r, rfl, _⟩ := h
    rfl
  · obtain ⟨v, r, rfl, hv, hl, q⟩ := h
    have hu1 : (A.deeper (envOfC "_law_used" (defScope sLUsed) s.heap.objs.size f cdv)).units + 1 < cLine := by have := hr.units; omega
    refine ⟨_, (pss_cons (ps_set (i := 1) scLU.nd rfl (.inl rfl) (pe_ix ix_tup (pv 0) pe_int (fun _ _ => rfl)))
      (pss_cons (ps_if (pt_cmpR op_eq (pv 1) pe_str (nomark _)) (pss_one (ps_ret (pe_op op_cat (pe_lst (pa_cons (pe_ix ix_tup (pv 0) pe_int (fun _ _ => rfl)) pa_nil)) (pe_callTy call_list_of (by rfl) B.list PyProof.Rows.boot_list (pa_cons (pe_ix ix_tup (pv 0) pe_int (fun _ _ => rfl)) pa_nil))))) pss_nil)
      (pss_one (ps_ret (pe_dget2 hu1 (pe_disp (pps_cons pe_str (pe_lst pa_nil) (pps_cons pe_str (pe_lst pa_nil) (pps_cons pe_str (pe_lst pa_nil) (pps_cons pe_str (pe_callTy call_list_of (by rfl) B.list PyProof.Rows.boot_list (pa_cons (pe_slice sl_tup (pv 0) (po_some pe_int) po_none) pa_nil)) (pps_cons pe_str (pe_callTy call_list_of (by rfl) B.list PyProof.Rows.boot_list (pa_cons (pe_slice sl_tup (pv 0) (po_some pe_int) po_none) pa_nil)) pps_nil))))) (by rfl) (by rfl) (fun z => by cases z) (by decide)) (pv 1) (pe_callTy call_list_of (by rfl) B.list PyProof.Rows.boot_list (pa_cons (pe_slice sl_tup (pv 0) (po_some pe_int) po_none) pa_nil)) ⟨rfl, rfl, rfl, rfl⟩))))), ?_⟩
    obtain ⟨p, xs, rfl, hp, hxs⟩ := hv.at
    refine ⟨_, rfl, p, _, _, _, rfl, rfl, hp, atI_nat (j := 0) rfl, ?_⟩
    refine ⟨_, rfl, rfl, _, rfl, ?_⟩
    by_cases w1 : r.w = "pick"
    · refine ifP (decide_eq_true (by rw [w1])) ?_
      have : ∃ x ps, r = .pick x ps := by
        cases r with
        | pick x ps => exact ⟨x, ps, rfl⟩
        | bin b x y => cases b <;> cases w1
        | _ => cases w1
      obtain ⟨x, ps, rfl⟩ := this
      cases hxs with
      | cons h0 ht =>
      cases h0
      cases ht with
      | cons h1 ht =>
      cases ht
      obtain ⟨qa, rfl, hq⟩ := intsD_at h1
      have hl' : ps.length + 1 ≤ 10000 := hl
      refine ⟨_, rfl, p, _, _, .int x, rfl, rfl, hp, atI_nat (j := 1) rfl, szl (show 1 ≤ 1000000 by decide), fun l1 n1 => ?_⟩
      have s1 := new_same (o := .lst [.int x]) n1
      have e1 : upd H l1 (.lst [.int x]) l1 = some (.lst [.int x]) := upd_same
      generalize upd H l1 (.lst [.int x]) = H1 at s1 e1
      refine ⟨_, rfl, p, _, _, .ref qa, rfl, rfl, Same.tup s1 hp, atI_nat (j := 2) rfl, qa, _, rfl, .inr (Same.tup s1 hq), fun l2 n2 => ?_⟩
      have s2 := new_same (o := .lst (ps.map V.int)) n2
      have e2 : upd H1 l2 (.lst (ps.map V.int)) l2 = some (.lst (ps.map V.int)) := upd_same
      have e1' := s2 _ _ e1
      generalize upd H1 l2 (.lst (ps.map V.int)) = H2 at s2 e2 e1'
      refine ⟨l1, l2, _, _, rfl, rfl, e1', e2, ?_, fun l3 n3 => ?_⟩
      · rw [List.length_map]
        exact szl (by show 1 + ps.length ≤ 1000000; omega)
      have s3 := new_same (o := .lst ([.int x] ++ ps.map V.int)) n3
      exact q l3 _ (((s1.trans s2)).free n3) ((s1.trans s2).trans s3) upd_same
    refine ifN (fun h => w1 (V.str.inj (of_decide_eq_true h))) ?_
    obtain ⟨y, ys, rfl⟩ : ∃ y ys, xs = y :: ys := by
      have hl := hxs.len
      have h1 : 1 ≤ r.ps.length := by cases r <;> simp [Rz.ps]
      cases xs with
      | nil => rw [← hl] at h1; exact absurd h1 (by decide)
      | cons y ys => exact ⟨_, _, rfl⟩
    intro dp ndp
    have s0 : Same H (upd H dp (.dK [])) := new_same ndp
    have e0 : upd H dp (.dK []) dp = some (.dK []) := upd_same
    generalize upd H dp (.dK []) = H0 at s0 e0
    refine ⟨Nat.zero_le _, fun l1 n1 => ?_⟩
    have s1 := new_same (o := .lst []) n1
    have g1 : upd H0 l1 (.lst []) l1 = some (.lst []) := upd_same
    have f1 := s0.free n1
    replace s0 := s0.trans s1
    replace e0 := s1 _ _ e0
    generalize upd H0 l1 (.lst []) = H1 at s0 e0 g1
    refine ⟨Nat.zero_le _, fun l2 n2 => ?_⟩
    have s2 := new_same (o := .lst []) n2
    have g2 : upd H1 l2 (.lst []) l2 = some (.lst []) := upd_same
    have f2 := s0.free n2
    replace s0 := s0.trans s2
    replace e0 := s2 _ _ e0
    replace g1 := s2 _ _ g1
    generalize upd H1 l2 (.lst []) = H2 at s0 e0 g1 g2
    refine ⟨Nat.zero_le _, fun l3 n3 => ?_⟩
    have s3 := new_same (o := .lst []) n3
    have g3 : upd H2 l3 (.lst []) l3 = some (.lst []) := upd_same
    have f3 := s0.free n3
    replace s0 := s0.trans s3
    replace e0 := s3 _ _ e0
    replace g1 := s3 _ _ g1
    replace g2 := s3 _ _ g2
    generalize upd H2 l3 (.lst []) = H3 at s0 e0 g1 g2 g3
    refine ⟨.ref p, rfl, 2, rfl, p, _, rfl, Same.tup s0 hp, cut_not2 _ _, fun R4 m4 => ?_⟩
    rw [cut_two]
    have t4 := new_same (o := .tup ys) m4
    have r4 : SqT K (upd H3 R4 (.tup ys)) R4 ys := sqT upd_same
    replace s0 := s0.trans t4
    replace e0 := t4 _ _ e0
    replace g1 := t4 _ _ g1
    replace g2 := t4 _ _ g2
    replace g3 := t4 _ _ g3
    generalize upd H3 R4 (.tup ys) = H4 at s0 e0 g1 g2 g3 r4
    refine ⟨R4, _, rfl, .inr r4, fun l4 n4 => ?_⟩
    have s4 := new_same (o := .lst ys) n4
    have g4 : upd H4 l4 (.lst ys) l4 = some (.lst ys) := upd_same
    have f4 := s0.free n4
    replace s0 := s0.trans s4
    replace e0 := s4 _ _ e0
    replace g1 := s4 _ _ g1
    replace g2 := s4 _ _ g2
    replace g3 := s4 _ _ g3
    generalize upd H4 l4 (.lst ys) = H5 at s0 e0 g1 g2 g3 g4
    refine ⟨.ref p, rfl, 2, rfl, p, _, rfl, Same.tup s0 hp, cut_not2 _ _, fun R5 m5 => ?_⟩
    rw [cut_two]
    have t5 := new_same (o := .tup ys) m5
    have r5 : SqT K (upd H5 R5 (.tup ys)) R5 ys := sqT upd_same
    replace s0 := s0.trans t5
    replace e0 := t5 _ _ e0
    replace g1 := t5 _ _ g1
    replace g2 := t5 _ _ g2
    replace g3 := t5 _ _ g3
    replace g4 := t5 _ _ g4
    generalize upd H5 R5 (.tup ys) = H6 at s0 e0 g1 g2 g3 g4 r5
    refine ⟨R5, _, rfl, .inr r5, fun l5 n5 => ?_⟩
    have s5 := new_same (o := .lst ys) n5
    have g5 : upd H6 l5 (.lst ys) l5 = some (.lst ys) := upd_same
    have f5 := s0.free n5
    replace s0 := s0.trans s5
    replace e0 := s5 _ _ e0
    replace g1 := s5 _ _ g1
    replace g2 := s5 _ _ g2
    replace g3 := s5 _ _ g3
    replace g4 := s5 _ _ g4
    generalize upd H6 l5 (.lst ys) = H7 at s0 e0 g1 g2 g3 g4 g5
    refine ⟨e0, [(.inr "take", .ref l1), (.inr "num", .ref l2), (.inr "meet", .ref l3), (.inr "look", .ref l4), (.inr "lay", .ref l5)], rfl, by show 5 ≤ 15; decide, ?_⟩
    have hm : mergeK [] [(.inr "take", .ref l1), (.inr "num", .ref l2), (.inr "meet", .ref l3), (.inr "look", .ref l4), (.inr "lay", .ref l5)] = ([(.inr "take", .ref l1), (.inr "num", .ref l2), (.inr "meet", .ref l3), (.inr "look", .ref l4), (.inr "lay", .ref l5)] : List (L2.Key × V)) := rfl
    rw [hm]
    have nn : ∀ {a : Addr} {zs : List V}, H7 a = some (.lst zs) → a ≠ dp := fun h z => by rw [z, e0] at h; cases h
    replace s0 := Same.upd (o := .dK [(.inr "take", .ref l1), (.inr "num", .ref l2), (.inr "meet", .ref l3), (.inr "look", .ref l4), (.inr "lay", .ref l5)]) s0 ndp
    have d0 : upd H7 dp (.dK [(.inr "take", .ref l1), (.inr "num", .ref l2), (.inr "meet", .ref l3), (.inr "look", .ref l4), (.inr "lay", .ref l5)]) dp = some (.dK [(.inr "take", .ref l1), (.inr "num", .ref l2), (.inr "meet", .ref l3), (.inr "look", .ref l4), (.inr "lay", .ref l5)]) := upd_same
    have k1 : upd H7 dp (.dK [(.inr "take", .ref l1), (.inr "num", .ref l2), (.inr "meet", .ref l3), (.inr "look", .ref l4), (.inr "lay", .ref l5)]) l1 = some (.lst []) := by rw [upd_ne (nn g1)]; exact g1
    have k2 : upd H7 dp (.dK [(.inr "take", .ref l1), (.inr "num", .ref l2), (.inr "meet", .ref l3), (.inr "look", .ref l4), (.inr "lay", .ref l5)]) l2 = some (.lst []) := by rw [upd_ne (nn g2)]; exact g2
    have k3 : upd H7 dp (.dK [(.inr "take", .ref l1), (.inr "num", .ref l2), (.inr "meet", .ref l3), (.inr "look", .ref l4), (.inr "lay", .ref l5)]) l3 = some (.lst []) := by rw [upd_ne (nn g3)]; exact g3
    have k4 : upd H7 dp (.dK [(.inr "take", .ref l1), (.inr "num", .ref l2), (.inr "meet", .ref l3), (.inr "look", .ref l4), (.inr "lay", .ref l5)]) l4 = some (.lst ys) := by rw [upd_ne (nn g4)]; exact g4
    have k5 : upd H7 dp (.dK [(.inr "take", .ref l1), (.inr "num", .ref l2), (.inr "meet", .ref l3), (.inr "look", .ref l4), (.inr "lay", .ref l5)]) l5 = some (.lst ys) := by rw [upd_ne (nn g5)]; exact g5
    generalize upd H7 dp (.dK [(.inr "take", .ref l1), (.inr "num", .ref l2), (.inr "meet", .ref l3), (.inr "look", .ref l4), (.inr "lay", .ref l5)]) = H8 at s0 d0 k1 k2 k3 k4 k5
    refine ⟨dp, rfl, .inl ⟨_, .inl d0⟩, _, rfl, .ref p, rfl, 1, rfl, p, _, rfl, Same.tup s0 hp, cut_not _ _, fun R6 m6 => ?_⟩
    rw [cut_one]
    have t6 := new_same (o := .tup (y :: ys)) m6
    have r6 : SqT K (upd H8 R6 (.tup (y :: ys))) R6 (y :: ys) := sqT upd_same
    replace s0 := s0.trans t6
    replace d0 := t6 _ _ d0
    replace k1 := t6 _ _ k1
    replace k2 := t6 _ _ k2
    replace k3 := t6 _ _ k3
    replace k4 := t6 _ _ k4
    replace k5 := t6 _ _ k5
    generalize upd H8 R6 (.tup (y :: ys)) = H9 at s0 d0 k1 k2 k3 k4 k5 r6
    refine ⟨R6, _, rfl, .inr r6, fun l6 n6 => ?_⟩
    have s6 := new_same (o := .lst (y :: ys)) n6
    have k6 : upd H9 l6 (.lst (y :: ys)) l6 = some (.lst (y :: ys)) := upd_same
    have f6 := s0.free n6
    replace s0 := s0.trans s6
    replace d0 := s6 _ _ d0
    replace k1 := s6 _ _ k1
    replace k2 := s6 _ _ k2
    replace k3 := s6 _ _ k3
    replace k4 := s6 _ _ k4
    replace k5 := s6 _ _ k5
    generalize upd H9 l6 (.lst (y :: ys)) = H10 at s0 d0 k1 k2 k3 k4 k5 k6
    refine ⟨_, .inl ⟨_, .inr r.w, .inl d0, rfl, rfl⟩, ?_⟩
    cases r with
    | take i => exact q l1 H10 f1 s0 k1
    | num i => exact q l2 H10 f2 s0 k2
    | meet ps => exact q l3 H10 f3 s0 k3
    | pick x ps => exact absurd rfl w1
    | tell x =>
      have e := ints_at (ps := [x]) hxs
      rw [e] at k6
      exact q l6 H10 f6 s0 k6
    | bin b x z =>
      have e := ints_at (ps := [x, z]) hxs
      rw [e] at k6
      cases b <;> exact q l6 H10 f6 s0 k6
    | look rs x =>
      cases hxs with
      | cons h0 ht =>
        have e := ints_at (ps := [x]) ht
        rw [e] at k4
        exact q l4 H10 f4 s0 k4
    | lay rs x z =>
      cases hxs with
      | cons h0 ht =>
        have e := ints_at (ps := [x, z]) ht
        rw [e] at k5
        exact q l5 H10 f5 s0 k5
end
end Gn
set_option Elab.async false
set_option linter.all false
set_option maxRecDepth 100000
set_option maxHeartbeats 4000000
set_option pp.maxSteps 400
namespace Gn
open PySem PySem.Spec PyProof.Rows L2
/-! ### blocks, as the law reads them -/
def blkShape : Dt → Bool
  | .tup [.lst _, _] => true | _ => false
def nrows : Dt → Nat
  | .tup [.lst rs, _] => rs.length | _ => 0
def blkOkL (last n : Int) : Dt → Bool
  | .tup [.lst rs, e] => rs.all (shapedL last) && endedL last n e
  | _ => false
def lastL (bs : List Dt) : Int := ((bs.map fun b => (nrows b : Int)).sum) - 1
def formedL : Dt → Bool
  | .lst bs => !bs.isEmpty && bs.all blkShape && bs.all (blkOkL (lastL bs) bs.length)
  | _ => false
def EndsG (d : Dt) : Prop := ∀ bs, d = .lst bs → ∀ b ∈ bs, ∀ rs e, b = .tup [.lst rs, e] → EndG e
def spFormed (K : PySem.W.Frag) : Sp := fun vs H Q _ => ∃ (v : V) (d : Dt), vs = [v] ∧ DtAt K H v d ∧ szD d = true ∧ EndsG d ∧ ∀ H', Same H H' → Q (.bl (formedL d)) H'
abbrev nLF : List Str := ["_law_thing_here", "_law_block_here", "_law_last", "_law_rows", "_law_end", "_law_row_here"]
theorem scLF : FnScope nLF ["_law_thing_here"] (defScope sLFormed) := ⟨rfl, rfl, rfl, by decide +kernel, rfl, by decide +kernel, by decide +kernel⟩
theorem shape_tup {d : Dt} (h : blkShape d = true) : ∃ rs e, d = .tup [.lst rs, e] := by
  unfold blkShape at h
  split at h
  · exact ⟨_, _, rfl⟩
  · cases h
theorem shape_no {ds : List Dt} (h : ds.length ≠ 2) : blkShape (.tup ds) = false := by
  unfold blkShape
  split
  · exact absurd (by rename_i e; cases e; rfl) h
  · rfl
theorem shape_nl {d e : Dt} (h : d.isL = false) : blkShape (.tup [d, e]) = false := by
  cases d <;> first | rfl | cases h
section
variable {P0 : Program} {w : World} {K : PySem.W.Frag} {mg : Str → Option Value} {base : Heap}
theorem ok_lformed {f fS fE : Addr} {fd fdS fdE : FuncData} {k : Nat} (D : Df K mg "_law_formed_blocks" sLFormed ["_law_thing_here"] f fd) (B : Bi mg)
    (DS : Df K mg "_law_shaped" sLShaped ["_law_row_here", "_law_last"] fS fdS) (GS : FnOk P0 w K mg base CX0 k fS fdS ["_law_row_here", "_law_last"] (spShaped K))
    (DE : Df K mg "_law_ended" sLEnded nLE fE fdE) (GE : FnOk P0 w K mg base CX0 k fE fdE nLE (spEnded K)) : FnOk P0 w K mg base CX0 (k + 1) f fd ["_law_thing_here"] (spFormed K) := by
  refine D.F.ok scLF (fun vs H Q E h => ?_) (fun cdv A outer s H vs Q E hr h => ?_)
  · obtain ⟨v, d, rfl, _⟩ := h
    rfl
  · obtain ⟨v, d, rfl, hd, hz, hEg, q⟩ := h
    refine ⟨_, (pss_cons (ps_if (pw_or (pt_not (pt_val (pe_callB call_isi (by rfl) B.isinstance PyProof.Rows.boot_isinstance (pa_cons (pv 0) (pa_cons (pe_bltn (v := .ty "list") (by rfl) B.list (show bootBuiltins "list" = some (.type "list") by rfl) rfl) pa_nil))))) (pw_or1 (pt_cmpR (op_eqE hr.units) (pv 0) (pe_lst pa_nil) (nomark _)))).pt (pss_one (ps_ret pe_bl)) pss_nil)
      (pss_cons (ps_for PassesOwn.never rfl (pi_list (pv 0)) (pg_name (i := 1) scLF.nd rfl (.inl rfl)) (pss_one (ps_if (pw_or (pt_not (pt_val (pe_callB call_isi (by rfl) B.isinstance PyProof.Rows.boot_isinstance (pa_cons (pv 1) (pa_cons (pe_bltn (v := .ty "tuple") (by rfl) B.tuple (show bootBuiltins "tuple" = some (.type "tuple") by rfl) rfl) pa_nil))))) (pw_or (pt_cmpR op_ne (pe_callB call_len_seq (by rfl) B.len PySem.boot_len (pa_cons (pv 1) pa_nil)) pe_int (nomark _)) (pw_or1 (pt_not (pt_val (pe_callB call_isi (by rfl) B.isinstance PyProof.Rows.boot_isinstance (pa_cons (pe_ix ix_tup (pv 1) pe_int (fun _ _ => rfl)) (pa_cons (pe_bltn (v := .ty "list") (by rfl) B.list (show bootBuiltins "list" = some (.type "list") by rfl) rfl) pa_nil)))))))).pt (pss_one (ps_ret pe_bl)) pss_nil)))
      (pss_cons (ps_set (i := 2) scLF.nd rfl (.inr rfl) (pe_op op_sub (pe_callB (cr_sum rfl) (by rfl) B.sum PyProof.Rows.boot_sum (pa_cons (pe_lc (own := [("_law_rows", 3), ("_law_end", 4)]) (g := (gTup K 2 (gCons (gName 3) (gCons (gName 4) gNil)))) (tt := tYes) (te := (tCB (Evl.rLenS K) (tCons (tVar 3) tNil))) rfl scLF.nd (pi_list (pv 0)) (blkOk_by (own := [("_law_rows", 3), ("_law_end", 4)]) (N := nLF) (sc := defScope sLFormed) (by decide +kernel)) (fun _ _ _ _ _ => (pg_tup rfl (pgs_cons (pg_name (i := 3) scLF.nd rfl (.inl rfl)) (pgs_cons (pg_name (i := 4) scLF.nd rfl (.inl rfl)) pgs_nil)))) (fun _ _ _ _ _ => pts_nil) (fun _ _ _ _ _ => (pe_callB call_len_seq (by rfl) B.len PySem.boot_len (pa_cons (pv 3) pa_nil)))) pa_nil)) pe_int))
      (pss_cons (ps_for PassesOwn.never rfl (pi_list (pv 0)) (pg_tup rfl (pgs_cons (pg_name (i := 3) scLF.nd rfl (.inl rfl)) (pgs_cons (pg_name (i := 4) scLF.nd rfl (.inl rfl)) pgs_nil))) (pss_one (ps_if (pw_or (pt_not (pt_val (pe_callB (cr_all rfl) (by rfl) B.all PyProof.Rows.boot_all (pa_cons (pe_lc (own := [("_law_row_here", 5)]) (g := (gName 5)) (tt := tYes) (te := _) rfl scLF.nd (pi_list (pv 3)) (blkOk_by (own := [("_law_row_here", 5)]) (N := nLF) (sc := defScope sLFormed) (by decide +kernel)) (fun _ _ _ _ _ => (pg_name (i := 5) scLF.nd rfl (.inl rfl))) (fun _ _ _ _ _ => pts_nil) (fun _ _ _ _ _ => (pe_call GS hr (by rfl) DS.g DS.F.kp DS.b .nil pass0 (pa_cons (pv 5) (pa_cons (pv 2) pa_nil))))) pa_nil)))) (pw_or1 (pt_not (pt_val (pe_call GE hr (by rfl) DE.g DE.F.kp DE.b .nil pass0 (pa_cons (pv 4) (pa_cons (pv 2) (pa_cons (pe_callB call_len_seq (by rfl) B.len PySem.boot_len (pa_cons (pv 0) pa_nil)) pa_nil)))))))).pt (pss_one (ps_ret pe_bl)) pss_nil)))
      (pss_one (ps_ret pe_bl)))))), ?_⟩
    have no : formedL d = false → ∀ H', Same H H' → Q (.bl false) H' := fun e H' s' => by
      have := q H' s'
      rw [e] at this
      exact this
    refine ⟨_, rfl, _, .ty "list", _, .type "list", _, rfl, .ty "list", tyD hd, kt_list d, _, rfl, ite2 (fun e => ?_) (fun e => ?_)⟩
    · have := notT e
      exact no (by cases d <;> first | rfl | cases this) H (fun _ _ z => z)
    have e := notF e
    cases hd with
    | @lst p xs bs hp hds =>
      have hxl := hds.len
      have hpL : SqL K H p xs := sqL hp
      refine ⟨_, rfl, Nat.zero_le _, fun e0 ne0 => ?_⟩
      have s0 := new_same (o := .lst []) ne0
      refine ⟨p, e0, xs, rfl, rfl, .inr ⟨s0.seq hpL, sqL upd_same⟩, _, rfl, ?_⟩
      generalize upd H e0 (.lst []) = H0 at s0
      refine ite2 (fun e1 => ?_) (fun e1 => ?_)
      · refine no ?_ H0 s0
        cases hds with
        | nil => rfl
        | cons h0 ht => cases e1
      have hne : bs.isEmpty = false := by
        cases hds with
        | nil => exact absurd rfl e1
        | cons h0 ht => rfl
      have hl4 := (sz_lst hz).1
      refine ⟨_, rfl, p, rfl, ⟨_, s0.seq hpL⟩, ?_⟩
      refine for_list (K := K) (a := p) (xs := xs) (fun i σ Hx => ∃ y1 : Option V, σ = [some (.ref p), y1, none, none, none, none] ∧ Hx = H0 ∧ ((bs.take i).all blkShape) = true) ⟨none, rfl, rfl, rfl⟩ (fun i σ Hx _ hP => ?_) (fun i x σ Hx hx hP => ?_) (fun σ Hx hP => ?_)
      · obtain ⟨_, _, rfl, _⟩ := hP
        exact s0.seq hpL
      · obtain ⟨y1, rfl, rfl, hU⟩ := hP
        obtain ⟨b, hb, hba⟩ := pd_at2 hds.pd hx
        have hb0 := DtAt.same s0 b hba
        have bad : blkShape b = false → Q (.bl false) Hx := fun e => no (by
          show (!bs.isEmpty && bs.all blkShape && _) = false
          rw [all_no hb e, Bool.and_false, Bool.false_and]) Hx s0
        have good : blkShape b = true → ((bs.take (i + 1)).all blkShape) = true := fun e => by rw [all_take _ hb, hU, e]; rfl
        refine ⟨_, rfl, _, .ty "tuple", _, .type "tuple", _, rfl, .ty "tuple", tyD hb0, kt_tuple b, _, rfl, ite2 (fun e2 => ?_) (fun e2 => ?_)⟩
        · have := notT e2
          exact bad (by cases b <;> first | rfl | cases this)
        have e2 := notF e2
        cases hb0 with
        | @tup pb ys ds hpb hys =>
          have hyl := hys.len
          refine ⟨_, rfl, pb, _, rfl, .inr hpb, rfl, _, rfl, ite2 (fun e3 => ?_) (fun e3 => ?_)⟩
          · exact bad (shape_no fun z => of_decide_eq_false (notT e3) (by rw [hyl, z]; rfl))
          have h2 := V.int.inj (of_decide_eq_true (notF e3))
          cases hys with
          | nil => cases h2
          | @cons y1' ys d1 ds g1 hys =>
          cases hys with
          | nil => simp at h2
          | @cons y2' ys d2 ds g2 hys =>
          cases hys with
          | @cons y3' ys d3 ds g3 hys =>
            simp only [List.length_cons] at h2
            omega
          | nil =>
          refine ⟨_, rfl, pb, _, _, _, rfl, rfl, hpb, atI_nat (j := 0) rfl, _, .ty "list", _, .type "list", _, rfl, .ty "list", tyD g1, kt_list d1, _, rfl, ite2 (fun e4 => ?_) (fun e4 => ?_)⟩
          · exact bad (shape_nl (notT e4))
          · have e4 := notF e4
            refine ⟨_, rfl, rfl, good ?_⟩
            cases d1 <;> first | rfl | cases e4
        | _ => cases e2
      · obtain ⟨y1, rfl, rfl, hU⟩ := hP
        rw [hxl, List.take_length] at hU
        have hF : formedL (.lst bs) = bs.all (blkOkL (lastL bs) bs.length) := by
          show (!bs.isEmpty && bs.all blkShape && _) = _
          rw [hne, hU]
          rfl
        rw [hF] at q no
        have hsh : ∀ b ∈ bs, ∃ rs e, b = .tup [.lst rs, e] := fun b hb => shape_tup (List.all_eq_true.mp hU b hb)
        have blk : ∀ {b : Dt} {v : V}, b ∈ bs → DtAt K H v b → ∃ pb ra ea us rs e, b = .tup [.lst rs, e] ∧ v = .ref pb ∧ SqT K H pb [.ref ra, ea] ∧ H ra = some (.lst us) ∧ DtAll K H us rs ∧ DtAt K H ea e := fun {b v} hb hv => by
          obtain ⟨rs, e, rfl⟩ := hsh b hb
          cases hv with
          | @tup pb ys ds hpb hys =>
            cases hys with
            | cons g1 hys =>
              cases hys with
              | cons g2 hys =>
                cases hys
                cases g1 with
                | lst g3 g4 => exact ⟨_, _, _, _, rs, e, rfl, rfl, hpb, g3, g4, g2⟩
        refine ⟨_, rfl, p, rfl, ⟨_, s0.seq hpL⟩, fun L nL => ?_⟩
        refine lc_list (K := K) (a := p) (xs := xs) (fun i H1 => Same Hx H1 ∧ H1 L = some (.lst (((bs.take i).map fun b => (nrows b : Int)).map V.int))) ⟨new_same nL, upd_same⟩ (fun i H1 _ hP => hP.1.seq (s0.seq hpL)) (fun i x H1 hx hP => ?_) (fun H1 hP => ?_)
        · obtain ⟨s1, eL⟩ := hP
          obtain ⟨b, hb, hba⟩ := pd_at2 hds.pd hx
          have hil := (List.getElem?_eq_some_iff.mp hb).1
          obtain ⟨pb, ra, ea, us, rs, e', rfl, rfl, g1, g2, g3, g4⟩ := blk (List.mem_of_getElem? hb) hba
          have s2 := s0.trans s1
          refine ⟨pb, _, rfl, Same.tup s2 g1, rfl, _, _, rfl, _, _, rfl, rfl, rfl, _, rfl, ra, _, rfl, .inl (sqL (s2 _ _ g2)), _, eL, ?_, fun a o z => ?_, ?_⟩
          · rw [List.length_map, List.length_map, List.length_take]
            exact szt (by omega)
          · rw [upd_ne (ne_of_none z nL)]; exact s1 _ _ z
          · rw [upd_same, List.take_add_one, hb, List.map_append, List.map_append, g3.len]
            rfl
        · obtain ⟨s1, eL⟩ := hP
          rw [hxl, List.take_length] at eL
          have s2 := s0.trans s1
          refine ⟨_, _, rfl, sqL eL, _, _, rfl, rfl, ?_⟩
          refine ⟨_, rfl, p, rfl, ⟨_, s2.seq hpL⟩, ?_⟩
          refine for_list (K := K) (a := p) (xs := xs) (fun i σ Hx => ∃ y1 y3 y4 : Option V, σ = [some (.ref p), y1, some (.int (lastL bs)), y3, y4, none] ∧ Same H Hx ∧ ((bs.take i).all (blkOkL (lastL bs) bs.length)) = true) ⟨y1, none, none, rfl, s2, rfl⟩ (fun i σ Hx _ hP => ?_) (fun i x σ Hx hx hP => ?_) (fun σ Hx hP => ?_)
          · obtain ⟨_, _, _, _, sx, _⟩ := hP
            exact sx.seq hpL
          · obtain ⟨y1, y3, y4, rfl, sx, hV⟩ := hP
            obtain ⟨b, hb, hba⟩ := pd_at2 hds.pd hx
            have hbm := List.mem_of_getElem? hb
            have hzb := (sz_lst hz).2 b hbm
            have bad : blkOkL (lastL bs) bs.length b = false → ∀ H', Same H H' → Q (.bl false) H' := fun e => no (all_no hb e)
            have good : blkOkL (lastL bs) bs.length b = true → ((bs.take (i + 1)).all (blkOkL (lastL bs) bs.length)) = true := fun e => by rw [all_take _ hb, hV, e]; rfl
            have hEb := hEg bs rfl b hbm
            obtain ⟨pb, ra, ea, us, rs, e', rfl, rfl, g1, g2, g3, g4⟩ := blk hbm hba
            have hzr := (sz_tup hzb).2 (.lst rs) (by simp)
            have hze := (sz_tup hzb).2 e' (by simp)
            have hBk : blkOkL (lastL bs) bs.length (.tup [.lst rs, e']) = (rs.all (shapedL (lastL bs)) && endedL (lastL bs) bs.length e') := rfl
            rw [hBk] at bad good
            have hul := g3.len
            refine ⟨pb, _, rfl, Same.tup sx g1, rfl, _, _, rfl, _, _, rfl, rfl, ?_⟩
            refine ⟨_, rfl, ra, rfl, ⟨_, sqL (sx _ _ g2)⟩, fun L2 nL2 => ?_⟩
            refine lc_list (K := K) (a := ra) (xs := us) (fun j H1 => Same Hx H1 ∧ H1 L2 = some (.lst (((rs.take j).map (shapedL (lastL bs))).map V.bl))) ⟨new_same nL2, upd_same⟩ (fun j H1 _ hP => sqL (hP.1 _ _ (sx _ _ g2))) (fun j x H1 hx2 hP => ?_) (fun H1 hP => ?_)
            · obtain ⟨s3, eL2⟩ := hP
              obtain ⟨d, hd, hda⟩ := pd_at2 g3.pd hx2
              have hjl := (List.getElem?_eq_some_iff.mp hd).1
              have hrl := (sz_lst hzr).1
              refine ⟨rfl, _, rfl, _, rfl, x, d, lastL bs, rfl, DtAt.same (sx.trans s3) d hda, (sz_lst hzr).2 d (List.mem_of_getElem? hd), fun H4 s4 => ⟨_, s4 _ _ eL2, ?_, fun a o z => ?_, ?_⟩⟩
              · rw [List.length_map, List.length_map, List.length_take]
                exact szt (by omega)
              · rw [upd_ne (ne_of_none z nL2)]; exact s4 _ _ (s3 _ _ z)
              · rw [upd_same, List.take_add_one, hd, List.map_append, List.map_append]
                rfl
            · obtain ⟨s3, eL2⟩ := hP
              rw [hul, List.take_length] at eL2
              have s5 := sx.trans s3
              have hal : ((rs.map (shapedL (lastL bs))).all id) = rs.all (shapedL (lastL bs)) := by rw [List.all_map]; rfl
              refine ⟨_, _, rfl, sqL eL2, _, rfl, ?_⟩
              rw [hal]
              refine ite2 (fun e5 => ?_) (fun e5 => ?_)
              · exact bad (by rw [notT e5, Bool.false_and]) H1 s5
              rw [notF e5, Bool.true_and] at bad good
              refine ⟨_, rfl, _, rfl, _, rfl, p, _, rfl, .inl (s5.seq hpL), ea, e', lastL bs, bs.length, by rw [hxl]; rfl, DtAt.same s5 e' g4, hEb rs e' rfl, hze, fun H6 s6 => ⟨_, rfl, ite2 (fun e6 => ?_) (fun e6 => ?_)⟩⟩
              · exact bad (notT e6) H6 (s5.trans s6)
              · exact ⟨_, _, _, rfl, s5.trans s6, good (notF e6)⟩
          · obtain ⟨y1, y3, y4, rfl, sx, hV⟩ := hP
            rw [hxl, List.take_length] at hV
            have := q Hx sx
            rw [hV] at this
            exact this
    | _ => cases e
end
end Gn
set_option Elab.async false
set_option linter.all false
set_option maxRecDepth 100000
set_option maxHeartbeats 4000000
set_option pp.maxSteps 400
namespace Gn
open PySem PySem.Spec PyProof.Rows L2
/-! ### what the law's reading of rows, ends, blocks says -/
theorem within_iff {lo hi : Int} {d : Dt} : withinD lo hi d = true ↔ ∃ n, d = .int n ∧ lo ≤ n ∧ n ≤ hi := by
  constructor
  · intro h
    cases d with
    | int n =>
      have h : (decide (lo ≤ n) && decide (n ≤ hi)) = true := h
      rw [Bool.and_eq_true] at h
      exact ⟨n, rfl, of_decide_eq_true h.1, of_decide_eq_true h.2⟩
    | _ => cases h
  · rintro ⟨n, rfl, h1, h2⟩
    show (decide (lo ≤ n) && decide (n ≤ hi)) = true
    rw [decide_eq_true h1, decide_eq_true h2]; rfl
theorem allW_iff {lo hi : Int} : ∀ {ds : List Dt}, ds.all (withinD lo hi) = true ↔ ∃ ps : List Int, ds = ps.map Dt.int ∧ ∀ x ∈ ps, lo ≤ x ∧ x ≤ hi
  | [] => ⟨fun _ => ⟨[], rfl, by simp⟩, fun _ => rfl⟩
  | d :: ds => by
    rw [List.all_cons, Bool.and_eq_true, within_iff, allW_iff]
    constructor
    · rintro ⟨⟨n, rfl, h1, h2⟩, ps, rfl, h3⟩
      exact ⟨n :: ps, rfl, fun x hx => by
        rcases List.mem_cons.mp hx with rfl | hx
        · exact ⟨h1, h2⟩
        · exact h3 x hx⟩
    · rintro ⟨ps, h, h3⟩
      cases ps with
      | nil => cases h
      | cons p ps => cases h; exact ⟨⟨_, rfl, h3 p List.mem_cons_self⟩, _, rfl, fun x hx => h3 x (List.mem_cons_of_mem _ hx)⟩
theorem numsL_iff {last : Int} {d : Dt} : numsLD last d = true ↔ ∃ ps, d = intsD ps ∧ ps ≠ [] ∧ ∀ x ∈ ps, 0 ≤ x ∧ x ≤ last := by
  constructor
  · intro h
    cases d with
    | tup ds =>
      have h : (!ds.isEmpty && ds.all (withinD 0 last)) = true := h
      rw [Bool.and_eq_true] at h
      obtain ⟨ps, rfl, h3⟩ := allW_iff.mp h.2
      exact ⟨ps, rfl, fun z => (by subst z; cases h.1), h3⟩
    | _ => cases h
  · rintro ⟨ps, rfl, h1, h2⟩
    show (!(ps.map Dt.int).isEmpty && (ps.map Dt.int).all (withinD 0 last)) = true
    rw [allW_iff.mpr ⟨ps, rfl, h2⟩]
    cases ps with
    | nil => exact absurd rfl h1
    | cons p ps => rfl
theorem rooms_iff {d : Dt} : roomsL d = true ↔ ∃ ps, d = intsD ps ∧ RmG ps := by
  constructor
  · intro h
    cases d with
    | tup ds =>
      have h : (numsLD 5 (.tup ds) && decide (ds.length ≤ 4) && decide ((ds.map intD).Nodup)) = true := h
      rw [Bool.and_eq_true, Bool.and_eq_true] at h
      obtain ⟨ps, e, h1, h2⟩ := numsL_iff.mp h.1.1
      have e : ds = ps.map Dt.int := by unfold intsD at e; exact Dt.tup.inj e
      subst e
      have h3 := of_decide_eq_true h.1.2
      have h4 := of_decide_eq_true h.2
      rw [intD_map] at h4
      rw [List.length_map] at h3
      exact ⟨ps, rfl, List.length_pos_iff.mpr h1, h3, h2, h4⟩
    | _ => cases h
  · rintro ⟨ps, rfl, h1, h2, h3, h4⟩
    show (numsLD 5 (.tup (ps.map Dt.int)) && decide ((ps.map Dt.int).length ≤ 4) && decide (((ps.map Dt.int).map intD).Nodup)) = true
    have e : numsLD 5 (.tup (ps.map Dt.int)) = true := numsL_iff.mpr ⟨ps, rfl, List.length_pos_iff.mp h1, h3⟩
    rw [e, intD_map, List.length_map, decide_eq_true h2, decide_eq_true h4]
    rfl
/-- the row names within -/
def InB (last : Int) (r : Rz) : Prop := ∀ x ∈ r.nms, 0 ≤ x ∧ x ≤ last
theorem len1 {ds : List Dt} (h : ds.length = 1) : ∃ a, ds = [a] := by
  match ds, h with
  | [a], _ => exact ⟨a, rfl⟩
theorem len2 {ds : List Dt} (h : ds.length = 2) : ∃ a b, ds = [a, b] := by
  match ds, h with
  | [a, b], _ => exact ⟨a, b, rfl⟩
theorem len3 {ds : List Dt} (h : ds.length = 3) : ∃ a b c, ds = [a, b, c] := by
  match ds, h with
  | [a, b, c], _ => exact ⟨a, b, c, rfl⟩
theorem ints2 {last : Int} {a b : Dt} (h : numsLD last (.tup [a, b]) = true) : ∃ x y, a = .int x ∧ b = .int y ∧ (0 ≤ x ∧ x ≤ last) ∧ (0 ≤ y ∧ y ≤ last) := by
  obtain ⟨ps, e, _, h2⟩ := numsL_iff.mp h
  have e : [a, b] = ps.map Dt.int := Dt.tup.inj e
  match ps, e with
  | [x, y], e =>
    cases e
    exact ⟨x, y, rfl, rfl, h2 x (by simp), h2 y (by simp)⟩
theorem ints1 {last : Int} {a : Dt} (h : numsLD last (.tup [a]) = true) : ∃ x, a = .int x ∧ (0 ≤ x ∧ x ≤ last) := by
  obtain ⟨ps, e, _, h2⟩ := numsL_iff.mp h
  have e : [a] = ps.map Dt.int := Dt.tup.inj e
  match ps, e with
  | [x], e =>
    cases e
    exact ⟨x, rfl, h2 x (by simp)⟩
theorem shaped_of {last : Int} {d : Dt} (h : shapedL last d = true) : ∃ r : Rz, d = r.dt ∧ RwG r ∧ InB last r := by
  unfold shapedL at h
  split at h
  · rename_i w ds
    rw [Bool.and_eq_true] at h
    obtain ⟨h1, h2⟩ := h
    have h1 := of_decide_eq_true h1
    unfold shapedR at h2
    have bin : ∀ (b : Bn), w = b.w → ds.length = 2 → numsLD last (.tup ds) = true → ∃ r : Rz, Dt.tup (.str w :: ds) = r.dt ∧ RwG r ∧ InB last r := fun b e hl hn => by
      subst e
      obtain ⟨x, y, rfl⟩ := len2 hl
      obtain ⟨x, y, rfl, rfl, h3, h4⟩ := ints2 hn
      exact ⟨.bin b x y, rfl, trivial, fun z hz => by
        have hz : z ∈ [x, y] := hz
        simp only [List.mem_cons, List.not_mem_nil, or_false] at hz
        rcases hz with rfl | rfl
        · exact h3
        · exact h4⟩
    unfold wantsL at h1
    by_cases w1 : w = "take"
    · subst w1
      obtain ⟨a, rfl⟩ := len1 (Option.some.inj h1).symm
      obtain ⟨n, rfl, a1, a2⟩ := within_iff.mp (show withinD 0 5 a = true from h2)
      exact ⟨.take n, rfl, ⟨a1, a2⟩, fun x hx => by cases hx⟩
    rw [if_neg w1] at h1 h2
    by_cases w2 : w = "num"
    · subst w2
      obtain ⟨a, rfl⟩ := len1 (Option.some.inj h1).symm
      obtain ⟨n, rfl⟩ := isNum_iff.mp (show isNumD a = true from h2)
      exact ⟨.num n, rfl, trivial, fun x hx => by cases hx⟩
    rw [if_neg w2] at h1 h2
    by_cases w3 : w = "meet"
    · subst w3
      obtain ⟨a, rfl⟩ := len1 (Option.some.inj h1).symm
      obtain ⟨ps, rfl, a1, a2⟩ := numsL_iff.mp (show numsLD last a = true from h2)
      exact ⟨.meet ps, rfl, a1, a2⟩
    rw [if_neg w3] at h2
    by_cases w4 : w = "pick"
    · subst w4
      obtain ⟨a, b, rfl⟩ := len2 (Option.some.inj h1).symm
      have h2 : (withinD 0 last a && numsLD last b) = true := h2
      rw [Bool.and_eq_true] at h2
      obtain ⟨n, rfl, a1, a2⟩ := within_iff.mp h2.1
      obtain ⟨ps, rfl, b1, b2⟩ := numsL_iff.mp h2.2
      exact ⟨.pick n ps, rfl, b1, fun x hx => by
        rcases List.mem_cons.mp hx with rfl | hx
        · exact ⟨a1, a2⟩
        · exact b2 x hx⟩
    rw [if_neg w4] at h2
    by_cases w5 : w = "look"
    · subst w5
      obtain ⟨a, b, rfl⟩ := len2 (Option.some.inj h1).symm
      have h2 : (roomsL a && numsLD last (.tup [b])) = true := h2
      rw [Bool.and_eq_true] at h2
      obtain ⟨ps, rfl, a1⟩ := rooms_iff.mp h2.1
      obtain ⟨x, rfl, b1⟩ := ints1 h2.2
      exact ⟨.look ps x, rfl, a1, fun y hy => by rw [List.mem_singleton.mp hy]; exact b1⟩
    by_cases w6 : w = "lay"
    · subst w6
      obtain ⟨a, b, c, rfl⟩ := len3 (Option.some.inj h1).symm
      have h2 : (roomsL a && numsLD last (.tup [b, c])) = true := h2
      rw [Bool.and_eq_true] at h2
      obtain ⟨ps, rfl, a1⟩ := rooms_iff.mp h2.1
      obtain ⟨x, y, rfl, rfl, b1, b2⟩ := ints2 h2.2
      exact ⟨.lay ps x y, rfl, a1, fun z hz => by
        have hz : z ∈ [x, y] := hz
        simp only [List.mem_cons, List.not_mem_nil, or_false] at hz
        rcases hz with rfl | rfl
        · exact b1
        · exact b2⟩
    rw [if_neg (fun z => z.elim w5 w6)] at h2
    by_cases v1 : w = "sum"
    · subst v1; exact bin .sum rfl (Option.some.inj h1).symm h2
    rw [if_neg v1] at h1
    by_cases v2 : w = "less"
    · subst v2; exact bin .less rfl (Option.some.inj h1).symm h2
    rw [if_neg v2] at h1
    by_cases v3 : w = "times"
    · subst v3; exact bin .times rfl (Option.some.inj h1).symm h2
    rw [if_neg v3] at h1
    by_cases v4 : w = "same"
    · subst v4; exact bin .same rfl (Option.some.inj h1).symm h2
    rw [if_neg v4] at h1
    by_cases v5 : w = "below"
    · subst v5; exact bin .below rfl (Option.some.inj h1).symm h2
    rw [if_neg v5, if_neg w4, if_neg w3, if_neg w5, if_neg w6] at h1
    by_cases v6 : w = "tell"
    · subst v6
      obtain ⟨a, rfl⟩ := len1 (Option.some.inj h1).symm
      obtain ⟨x, rfl, b1⟩ := ints1 h2
      exact ⟨.tell x, rfl, trivial, fun y hy => by rw [List.mem_singleton.mp hy]; exact b1⟩
    rw [if_neg v6] at h1
    cases h1
  · cases h
theorem shaped_row {last : Int} {r : Rz} (g : RwG r) (b : InB last r) : shapedL last r.dt = true := by
  have n1 : ∀ {x : Int}, (0 ≤ x ∧ x ≤ last) → numsLD last (.tup [.int x]) = true := fun {x} h => numsL_iff.mpr ⟨[x], rfl, by simp, fun y hy => by rw [List.mem_singleton.mp hy]; exact h⟩
  have n2 : ∀ {x y : Int}, (0 ≤ x ∧ x ≤ last) → (0 ≤ y ∧ y ≤ last) → numsLD last (.tup [.int x, .int y]) = true := fun {x y} h h' => numsL_iff.mpr ⟨[x, y], rfl, by simp, fun z hz => by
    simp only [List.mem_cons, List.not_mem_nil, or_false] at hz
    rcases hz with rfl | rfl
    · exact h
    · exact h'⟩
  cases r with
  | take i => exact within_iff.mpr ⟨i, rfl, g.1, g.2⟩
  | num n => rfl
  | meet ps => exact numsL_iff.mpr ⟨ps, rfl, g, b⟩
  | tell x => exact n1 (b x (by simp [Rz.nms]))
  | bin k x y =>
    have := n2 (b x (by simp [Rz.nms])) (b y (by simp [Rz.nms]))
    cases k <;> exact this
  | pick x ps =>
    show (withinD 0 last (.int x) && numsLD last (intsD ps)) = true
    rw [within_iff.mpr ⟨x, rfl, b x (by simp [Rz.nms])⟩, numsL_iff.mpr ⟨ps, rfl, g, fun y hy => b y (List.mem_cons_of_mem _ hy)⟩]
    rfl
  | look ps x =>
    show (roomsL (intsD ps) && numsLD last (.tup [.int x])) = true
    rw [rooms_iff.mpr ⟨ps, rfl, g⟩, n1 (b x (by simp [Rz.nms]))]
    rfl
  | lay ps x y =>
    show (roomsL (intsD ps) && numsLD last (.tup [.int x, .int y])) = true
    rw [rooms_iff.mpr ⟨ps, rfl, g⟩, n2 (b x (by simp [Rz.nms])) (b y (by simp [Rz.nms]))]
    rfl
/-- what the law asks of an end -/
def EnB (last nb : Int) : En → Prop
  | .go b => 1 ≤ b ∧ b ≤ nb - 1
  | .iff r b c => (0 ≤ r ∧ r ≤ last) ∧ b ≠ c ∧ (1 ≤ b ∧ b ≤ nb - 1) ∧ (1 ≤ c ∧ c ≤ nb - 1)
  | .fin => True
theorem ended_of {last nb : Int} {d : Dt} (h : endedL last nb d = true) : ∃ e : En, d = e.dt ∧ EnB last nb e := by
  unfold endedL at h
  split at h
  · rename_i w ds
    by_cases w1 : w = "go"
    · subst w1
      have h : (decide (ds.length = 1) && withinD 1 (nb - 1) (ds.getD 0 .non)) = true := h
      rw [Bool.and_eq_true] at h
      obtain ⟨a, rfl⟩ := len1 (of_decide_eq_true h.1)
      obtain ⟨n, rfl, a1, a2⟩ := within_iff.mp (show withinD 1 (nb - 1) a = true from h.2)
      exact ⟨.go n, rfl, a1, a2⟩
    rw [if_neg w1] at h
    by_cases w2 : w = "if"
    · subst w2
      rw [if_pos rfl, Bool.and_eq_true, Bool.and_eq_true, Bool.and_eq_true, Bool.and_eq_true] at h
      obtain ⟨⟨⟨⟨h1, h2⟩, h3⟩, h4⟩, h5⟩ := h
      obtain ⟨a, b, c, rfl⟩ := len3 (of_decide_eq_true h1)
      obtain ⟨r, rfl, r1⟩ := within_iff.mp (show withinD 0 last a = true from h2)
      obtain ⟨x, rfl, x1⟩ := within_iff.mp (show withinD 1 (nb - 1) b = true from h4)
      obtain ⟨y, rfl, y1⟩ := within_iff.mp (show withinD 1 (nb - 1) c = true from h5)
      exact ⟨.iff r x y, rfl, r1, of_decide_eq_false (notT h3), x1, y1⟩
    rw [if_neg w2, Bool.and_eq_true] at h
    have h1 := of_decide_eq_true h.1
    subst h1
    cases ds with
    | nil => exact ⟨.fin, rfl, trivial⟩
    | cons d ds => cases h.2
  · cases h
theorem ended_en {last nb : Int} {e : En} (h : EnB last nb e) : endedL last nb e.dt = true := by
  cases e with
  | go b => exact within_iff.mpr ⟨b, rfl, h⟩
  | iff r b c =>
    obtain ⟨h1, h2, h3, h4⟩ := h
    show (true && withinD 0 last (.int r) && !decide (b = c) && withinD 1 (nb - 1) (.int b) && withinD 1 (nb - 1) (.int c)) = true
    rw [within_iff.mpr ⟨r, rfl, h1⟩, within_iff.mpr ⟨b, rfl, h3⟩, within_iff.mpr ⟨c, rfl, h4⟩, decide_eq_false h2]
    rfl
  | fin => rfl
end Gn
set_option Elab.async false
set_option linter.all false
set_option maxRecDepth 100000
set_option maxHeartbeats 4000000
set_option pp.maxSteps 400
namespace Gn
open PySem PySem.Spec PyProof.Rows L2
/-! ### where rows stand -/
theorem own_pre {pr : List Blk} {i : Nat} : ∀ n, ∃ t, ownL pr (i + n) = ownL pr i ++ t
  | 0 => ⟨[], by simp⟩
  | n + 1 => by
    obtain ⟨t, h⟩ := own_pre (pr := pr) (i := i) n
    refine ⟨t ++ List.replicate (pr.getD (i + n) ([], .fin)).1.length (i + n), ?_⟩
    rw [← List.append_assoc, ← h]
    unfold ownL
    rw [show i + (n + 1) = (i + n) + 1 by omega, List.range_succ, List.flatMap_append]
    simp
theorem rows_pre {pr : List Blk} (i : Nat) : ∃ t, rowsL pr = rowsL (pr.take i) ++ t := ⟨rowsL (pr.drop i), by
  unfold rowsL
  rw [← List.flatten_append, ← List.map_append, List.take_append_drop]⟩
theorem bgn_succ {pr : List Blk} {i : Nat} {b : Blk} (h : pr[i]? = some b) : bgnP pr (i + 1) = bgnP pr i + b.1.length := by
  unfold bgnP
  rw [rows_take h, List.length_append]
theorem pos_of {pr : List Blk} {i j : Nat} {b : Blk} {r : Rz} (h : pr[i]? = some b) (hj : b.1[j]? = some r) : (rowsL pr)[bgnP pr i + j]? = some r ∧ (ownL pr pr.length).getD (bgnP pr i + j) 0 = i := by
  have hil := (List.getElem?_eq_some_iff.mp h).1
  have hjl := (List.getElem?_eq_some_iff.mp hj).1
  constructor
  · obtain ⟨t, e⟩ := rows_pre (pr := pr) (i + 1)
    rw [e, rows_take h, List.append_assoc]
    unfold bgnP
    rw [List.getElem?_append_right (by omega), Nat.add_sub_cancel_left, List.getElem?_append_left hjl]
    exact hj
  · obtain ⟨t, e⟩ := own_pre (pr := pr) (i := i + 1) (pr.length - (i + 1))
    rw [show i + 1 + (pr.length - (i + 1)) = pr.length by omega] at e
    have hol := ownL_len (pr := pr) i (Nat.le_of_lt hil)
    rw [e, ownL_succ h, List.append_assoc, List.getD_eq_getElem?_getD, List.getElem?_append_right (by rw [hol]; unfold bgnP; omega), hol]
    unfold bgnP
    rw [Nat.add_sub_cancel_left, List.getElem?_append_left (by rw [List.length_replicate]; exact hjl), List.getElem?_replicate, if_pos hjl]
    rfl
theorem pos_ex : ∀ {pr : List Blk} {k : Nat} {r : Rz}, (rowsL pr)[k]? = some r → ∃ i b j, pr[i]? = some b ∧ b.1[j]? = some r ∧ k = bgnP pr i + j
  | [], k, r, h => by simp [rowsL] at h
  | b :: bs, k, r, h => by
    have e : rowsL (b :: bs) = b.1 ++ rowsL bs := by unfold rowsL; rw [List.map_cons, List.flatten_cons]
    rw [e] at h
    by_cases hk : k < b.1.length
    · rw [List.getElem?_append_left hk] at h
      exact ⟨0, b, k, rfl, h, by simp [bgnP, rowsL]⟩
    · rw [List.getElem?_append_right (by omega)] at h
      obtain ⟨i, c, j, h1, h2, h3⟩ := pos_ex h
      refine ⟨i + 1, c, j, h1, h2, ?_⟩
      have : bgnP (b :: bs) (i + 1) = b.1.length + bgnP bs i := by
        unfold bgnP
        rw [List.take_succ_cons]
        unfold rowsL
        rw [List.map_cons, List.flatten_cons, List.length_append]
      omega
/-! ### leads, both ways of telling them -/
theorem filt_flat {α : Type} (p : α → Bool) : ∀ l : List α, l.filter p = l.flatMap fun x => if p x = true then [x] else []
  | [] => rfl
  | x :: l => by
    rw [List.flatMap_cons, ← filt_flat p l]
    by_cases h : p x = true
    · rw [List.filter_cons_of_pos h, if_pos h]; rfl
    · rw [List.filter_cons_of_neg h, if_neg h]; rfl
abbrev LD (pr : List Blk) (k : Nat) : List Nat := (leadsL (nmL pr)).getD k []
theorem LD_eq {pr : List Blk} {k : Nat} (hk : k < pr.length) : LD pr k = (List.range pr.length).filter fun l => decide (k ∈ (pr.getD l ([], .fin)).2.names) := by
  show ((List.range (nmL pr).length).map fun b => (List.range (nmL pr).length).filter fun l => decide (b ∈ (nmL pr).getD l [])).getD k [] = _
  rw [List.getD_eq_getElem?_getD, List.getElem?_map, List.length_map, List.getElem?_range hk]
  show (List.range pr.length).filter _ = _
  refine List.filter_congr fun l _ => ?_
  show decide (k ∈ Ex (nmL pr) l) = _
  rw [Ex.names]
theorem flat_congr {α β : Type} {f g : α → List β} : ∀ {l : List α}, (∀ x ∈ l, f x = g x) → l.flatMap f = l.flatMap g
  | [], _ => rfl
  | x :: l, h => by rw [List.flatMap_cons, List.flatMap_cons, h x List.mem_cons_self, flat_congr fun y hy => h y (List.mem_cons_of_mem _ hy)]
theorem cnt1 {k : Nat} : ∀ {l : List Nat}, l.Nodup → k ∈ l → l.count k = 1
  | a :: l, h, hk => by
    have h2 := List.nodup_cons.mp h
    rw [List.count_cons]
    by_cases e : a = k
    · subst e
      rw [List.count_eq_zero_of_not_mem h2.1]
      simp
    · rcases List.mem_cons.mp hk with z | z
      · exact absurd z.symm e
      · rw [cnt1 h2.2 z]
        simp [e]
theorem spec_LD {pr : List Blk} {k : Nat} (hk : k < pr.length) (h : ∀ b ∈ pr, b.2.names.Nodup) : spec pr pr.length k = LD pr k := by
  rw [LD_eq hk, filt_flat]
  unfold spec
  refine flat_congr (fun j hj => ?_)
  have hjl := List.mem_range.mp hj
  have hm := h _ (List.mem_of_getElem? (gdl (d := ([], En.fin)) hjl))
  by_cases hin : k ∈ (pr.getD j ([], .fin)).2.names
  · rw [if_pos (decide_eq_true hin), cnt1 hm hin]
    rfl
  · rw [if_neg (by simpa using hin), List.count_eq_zero_of_not_mem hin]
    rfl
theorem LD_head {pr : List Blk} {k : Nat} (hk : k < pr.length) {j : Nat} (hj : j ∈ LD pr k) : ∃ j0 tl, LD pr k = j0 :: tl ∧ j0 ≤ j := by
  rw [LD_eq hk] at hj ⊢
  have hp : ((List.range pr.length).filter fun l => decide (k ∈ (pr.getD l ([], .fin)).2.names)).Pairwise (· < ·) := List.Pairwise.filter _ List.pairwise_lt_range
  generalize ((List.range pr.length).filter fun l => decide (k ∈ (pr.getD l ([], .fin)).2.names)) = l at hj hp
  cases l with
  | nil => cases hj
  | cons a t =>
    refine ⟨a, t, rfl, ?_⟩
    rcases List.mem_cons.mp hj with rfl | hj
    · exact Nat.le_refl _
    · exact Nat.le_of_lt ((List.pairwise_cons.mp hp).1 j hj)
end Gn
set_option Elab.async false
set_option linter.all false
set_option maxRecDepth 100000
set_option maxHeartbeats 4000000
set_option pp.maxSteps 400
namespace Gn
open PySem PySem.Spec PyProof.Rows L2
/-! ### right programs, as the law tells them -/
def NmL (pr : List Blk) (x : Int) (b : Nat) : Prop := ∃ r, (rowsL pr)[x.toNat]? = some r ∧ r.worthy = true ∧ ¬ Rc (Ex (nmL pr)) ((ownL pr pr.length).getD x.toNat 0) b
structure LawRow (pr : List Blk) (k : Nat) (r : Rz) (b : Nat) : Prop where
  meet : r.w = "meet" → 2 ≤ (LD pr b).length ∧ r.nms.length = (LD pr b).length ∧ (∀ (j : Nat) (r' : Rz), j < k → (rowsL pr)[j]? = some r' → (ownL pr pr.length).getD j 0 = b → r'.w = "meet") ∧
    ∀ (i : Nat) (x : Int) (l : Nat), r.nms[i]? = some x → (LD pr b)[i]? = some l → NmL pr x l
  used : ∀ x ∈ r.used, NmL pr x b ∧ x ≠ (k : Nat)
  ahead : ∀ x ∈ r.used, (ownL pr pr.length).getD x.toNat 0 ≠ b ∨ x < (k : Nat)
def LawLed (pr : List Blk) : Prop := ∀ k, 1 ≤ k → k < pr.length → ∃ j tl, LD pr k = j :: tl ∧ j < k
def LawRows (pr : List Blk) : Prop := ∀ (k : Nat) (r : Rz), (rowsL pr)[k]? = some r → LawRow pr k r ((ownL pr pr.length).getD k 0)
def LawEnds (pr : List Blk) : Prop := ∀ (i : Nat) (b : Blk), pr[i]? = some b → ∀ (r x y : Int), b.2 = .iff r x y → NmL pr r i
def FmL (pr : List Blk) : Prop := ∀ b ∈ pr, (∀ r ∈ b.1, RwG r ∧ InB (((rowsL pr).length : Nat) - 1) r) ∧ EnB (((rowsL pr).length : Nat) - 1) (pr.length : Nat) b.2
def RightL (d : Dt) : Prop := formedL d = true ∧ LawLed (decP d) ∧ LawRows (decP d) ∧ LawEnds (decP d)
theorem lastL_eq (pr : List Blk) : lastL (pr.map bdt) = ((rowsL pr).length : Nat) - 1 := by
  unfold lastL
  congr 1
  induction pr with
  | nil => rfl
  | cons b bs ih =>
    rw [List.map_cons, List.map_cons, List.sum_cons, ih]
    have e : rowsL (b :: bs) = b.1 ++ rowsL bs := by unfold rowsL; rw [List.map_cons, List.flatten_cons]
    rw [e, List.length_append]
    show (((b.1.map Rz.dt).length : Nat) : Int) + _ = _
    rw [List.length_map]
    omega
theorem formed_iff {d : Dt} : formedL d = true ↔ ∃ pr, d = pdt pr ∧ pr ≠ [] ∧ FmL pr := by
  constructor
  · intro h
    cases d with
    | lst bs =>
      have h : (!bs.isEmpty && bs.all blkShape && bs.all (blkOkL (lastL bs) bs.length)) = true := h
      rw [Bool.and_eq_true, Bool.and_eq_true] at h
      obtain ⟨⟨h1, h2⟩, h3⟩ := h
      obtain ⟨pr, e, g⟩ := all_of (p := blkOkL (lastL bs) bs.length) (f := bdt) (G := fun b : Blk => (∀ r ∈ b.1, RwG r ∧ InB (lastL bs) r) ∧ EnB (lastL bs) bs.length b.2) (fun d hd => by
        unfold blkOkL at hd
        split at hd
        · rw [Bool.and_eq_true] at hd
          obtain ⟨rs, rfl, gr⟩ := all_of (p := shapedL (lastL bs)) (f := Rz.dt) (G := fun r => RwG r ∧ InB (lastL bs) r) (fun d z => by obtain ⟨r, a, b, c⟩ := shaped_of z; exact ⟨r, a, b, c⟩) hd.1
          obtain ⟨e, rfl, ge⟩ := ended_of hd.2
          exact ⟨(rs, e), rfl, gr, ge⟩
        · cases hd) h3
      subst e
      refine ⟨pr, rfl, fun z => (by subst z; cases h1), fun b hb => ?_⟩
      have := g b hb
      rw [lastL_eq, List.length_map] at this
      exact this
    | _ => cases h
  · rintro ⟨pr, rfl, hne, g⟩
    show (!(pr.map bdt).isEmpty && (pr.map bdt).all blkShape && (pr.map bdt).all (blkOkL (lastL (pr.map bdt)) (pr.map bdt).length)) = true
    rw [Bool.and_eq_true, Bool.and_eq_true]
    refine ⟨⟨by cases pr with | nil => exact absurd rfl hne | cons b bs => rfl, List.all_eq_true.mpr fun d hd => ?_⟩, List.all_eq_true.mpr fun d hd => ?_⟩
    · obtain ⟨b, _, rfl⟩ := List.mem_map.mp hd
      rfl
    · obtain ⟨b, hb, rfl⟩ := List.mem_map.mp hd
      obtain ⟨g1, g2⟩ := g b hb
      rw [lastL_eq, List.length_map]
      show ((b.1.map Rz.dt).all (shapedL _) && endedL _ _ b.2.dt) = true
      rw [ended_en g2, Bool.and_true]
      refine List.all_eq_true.mpr fun d hd => ?_
      obtain ⟨r, hr, rfl⟩ := List.mem_map.mp hd
      exact shaped_row (g1 r hr).1 (g1 r hr).2
theorem row_back {r : Rz} (g : RwG r) : isRowD r.dt = true := by
  unfold isRowD
  rw [show wordD r.dt = r.w from rfl, rz_kds]
  cases r with
  | take i => show (true && (isPlaceD (.int i) && true)) = true; rw [isPlace_iff.mpr ⟨i, rfl, g⟩]; rfl
  | num n => rfl
  | bin b x y => rfl
  | tell x => rfl
  | meet ps => show (true && (isPartsD (intsD ps) && true)) = true; rw [isParts_iff.mpr ⟨ps, rfl, g⟩]; rfl
  | pick x ps => show (true && (true && (isPartsD (intsD ps) && true))) = true; rw [isParts_iff.mpr ⟨ps, rfl, g⟩]; rfl
  | look ps x => show (true && (isRoomsD (intsD ps) && (true && true))) = true; rw [isRooms_iff.mpr ⟨ps, rfl, g⟩]; rfl
  | lay ps x y => show (true && (isRoomsD (intsD ps) && (true && (true && true)))) = true; rw [isRooms_iff.mpr ⟨ps, rfl, g⟩]; rfl
theorem end_back (e : En) : isEndD e.dt = true := by
  unfold isEndD
  rw [show wordD e.dt = e.word from rfl, en_kds]
  cases e <;> rfl
theorem written_back {pr : List Blk} (hne : pr ≠ []) (g : ∀ b ∈ pr, BkG b) : isWrittenD (pdt pr) = true := by
  show (!(pr.map bdt).isEmpty && (pr.map bdt).all isBlockD) = true
  rw [Bool.and_eq_true]
  refine ⟨by cases pr with | nil => exact absurd rfl hne | cons b bs => rfl, List.all_eq_true.mpr fun d hd => ?_⟩
  obtain ⟨b, hb, rfl⟩ := List.mem_map.mp hd
  show ((b.1.map Rz.dt).all isRowD && isEndD b.2.dt) = true
  rw [end_back, Bool.and_true]
  refine List.all_eq_true.mpr fun d hd => ?_
  obtain ⟨r, hr, rfl⟩ := List.mem_map.mp hd
  exact row_back (g b hb r hr)
theorem canN_nm {pr : List Blk} {x : Int} {b : Nat} {pl : Int} (h : CanN pr x b pl) : NmL pr x b := by
  obtain ⟨h0, r, h1, h2, h3, h4⟩ := h
  refine ⟨r, h1, h2, fun z => ?_⟩
  exact h4 (fun e => z.ne e.symm) z
theorem canN_in {pr : List Blk} {x : Int} {b : Nat} {pl : Int} (h : CanN pr x b pl) : 0 ≤ x ∧ x ≤ ((rowsL pr).length : Nat) - 1 := by
  obtain ⟨h0, r, h1, _⟩ := h
  have := (List.getElem?_eq_some_iff.mp h1).1
  omega
theorem nm_canN {pr : List Blk} {x : Int} {b : Nat} {pl : Int} (h0 : 0 ≤ x) (h : NmL pr x b) (hp : (ownL pr pr.length).getD x.toNat 0 = b → x < pl) : CanN pr x b pl := by
  obtain ⟨r, h1, h2, h3⟩ := h
  exact ⟨h0, r, h1, h2, hp, fun _ => h3⟩
theorem mem_at {α : Type} {x : α} {l : List α} (h : x ∈ l) : ∃ i : Nat, l[i]? = some x := List.mem_iff_getElem?.mp h
/-- a row's place in its block -/
theorem pos_own {pr : List Blk} {k : Nat} {r : Rz} (h : (rowsL pr)[k]? = some r) : ∃ b j, pr[(ownL pr pr.length).getD k 0]? = some b ∧ b.1[j]? = some r ∧ k = bgnP pr ((ownL pr pr.length).getD k 0) + j := by
  obtain ⟨i, b, j, h1, h2, rfl⟩ := pos_ex h
  have := (pos_of h1 h2).2
  rw [this]
  exact ⟨b, j, h1, h2, rfl⟩
theorem ahead_all {rs : List Rz} (h : AheadOk rs) : ∀ {j : Nat} {r : Rz}, rs[j]? = some r → r.w = "meet" → ∀ i r', i < j → rs[i]? = some r' → r'.w = "meet"
  | 0, r, _, _, i, r', hi, _ => absurd hi (Nat.not_lt_zero _)
  | j + 1, r, hr, hm, i, r', hi, hr' => by
    have hjl := (List.getElem?_eq_some_iff.mp hr).1
    have hj := List.getElem?_eq_getElem (show j < rs.length by omega)
    have hm2 := h j _ r hj hr hm
    by_cases e : i = j
    · subst e
      rw [hj] at hr'
      cases hr'
      exact hm2
    · exact ahead_all h hj hm2 i r' (by omega) hr'
end Gn
set_option Elab.async false
set_option linter.all false
set_option maxRecDepth 100000
set_option maxHeartbeats 4000000
set_option pp.maxSteps 400
namespace Gn
open PySem PySem.Spec PyProof.Rows L2
theorem names_nd {pr : List Blk} (h : ledB pr = true) : ∀ b ∈ pr, b.2.names.Nodup := fun b hb => by
  obtain ⟨a1, a2⟩ := led_nm h b hb
  exact nd_toNat a1 fun x hx => by have := a2 x hx; omega
theorem en_canLead {last : Int} {n : Nat} {e : En} (h : EnB last n e) : canLead e.nmI n = true := by
  unfold canLead
  rw [Bool.and_eq_true, List.all_eq_true]
  have one : ∀ {b : Int}, (1 ≤ b ∧ b ≤ (n : Int) - 1) → (decide (0 < b) && decide (b < (n : Int))) = true := fun {b} h => by
    rw [decide_eq_true (by omega), decide_eq_true (by omega)]; rfl
  cases e with
  | go b => exact ⟨decide_eq_true (by simp [En.nmI]), fun y hy => by rw [List.mem_singleton.mp hy]; exact one h⟩
  | iff r b c =>
    obtain ⟨h1, h2, h3, h4⟩ := h
    refine ⟨decide_eq_true (by simp [En.nmI, h2]), fun y hy => ?_⟩
    have hy : y ∈ [b, c] := hy
    simp only [List.mem_cons, List.not_mem_nil, or_false] at hy
    rcases hy with rfl | rfl
    · exact one h3
    · exact one h4
  | fin => exact ⟨decide_eq_true (by simp [En.nmI]), fun y hy => by cases hy⟩
theorem lesser_iff {pr : List Blk} {k : Nat} (hk : k < pr.length) (hn : ∀ b ∈ pr, b.2.names.Nodup) : lesser pr k = true ↔ ∃ j tl, LD pr k = j :: tl ∧ j < k := by
  unfold lesser
  rw [spec_LD hk hn, List.any_eq_true]
  constructor
  · rintro ⟨j, hj, e⟩
    obtain ⟨j0, tl, h1, h2⟩ := LD_head hk hj
    have := of_decide_eq_true e
    exact ⟨j0, tl, h1, by omega⟩
  · rintro ⟨j, tl, h1, h2⟩
    exact ⟨j, by rw [h1]; exact List.mem_cons_self, decide_eq_true h2⟩
theorem led_iff {pr : List Blk} (hn : ∀ b ∈ pr, canLead b.2.nmI pr.length = true) : ledB pr = true ↔ LawLed pr := by
  have hn2 : ∀ b ∈ pr, b.2.names.Nodup := fun b hb => by
    have := hn b hb
    unfold canLead at this
    rw [Bool.and_eq_true, List.all_eq_true] at this
    refine nd_toNat (of_decide_eq_true this.1) fun x hx => ?_
    have := this.2 x hx
    rw [Bool.and_eq_true] at this
    have := of_decide_eq_true this.1
    omega
  unfold ledB
  rw [Bool.and_eq_true]
  constructor
  · rintro ⟨_, h⟩ k h1 h2
    have := List.all_eq_true.mp h (k - 1) (List.mem_range.mpr (by omega))
    rw [show k - 1 + 1 = k by omega] at this
    exact (lesser_iff h2 hn2).mp this
  · intro h
    refine ⟨List.all_eq_true.mpr hn, List.all_eq_true.mpr fun k hk => ?_⟩
    have := List.mem_range.mp hk
    exact (lesser_iff (by omega) hn2).mpr (h (k + 1) (by omega) (by omega))
theorem nms_end {e : En} {x : Int} : x ∈ e.nms ↔ ∃ y z, e = .iff x y z := by
  cases e with
  | go b => simp [En.nms]
  | iff r b c =>
    simp only [En.nms, List.mem_singleton]
    constructor
    · rintro rfl; exact ⟨b, c, rfl⟩
    · rintro ⟨y, z, h⟩; cases h; rfl
  | fin => simp [En.nms]
theorem right_iff (d : Dt) : RightP d ↔ RightL d := by
  constructor
  · rintro ⟨hw, hl, hN⟩
    obtain ⟨pr, rfl, hne, hG⟩ := written_of hw
    unfold RightL
    rw [decP_dt] at hl hN ⊢
    have hnm := led_nm hl
    have hnd := names_nd hl
    have hcl : ∀ b ∈ pr, canLead b.2.nmI pr.length = true := by
      unfold ledB at hl
      rw [Bool.and_eq_true] at hl
      exact List.all_eq_true.mp hl.1
    -- every name of a row is a row's number
    have hin : ∀ b ∈ pr, ∀ r ∈ b.1, InB (((rowsL pr).length : Nat) - 1) r := fun b hb r hr x hx => by
      obtain ⟨i, hi⟩ := mem_at hb
      obtain ⟨j, hj⟩ := mem_at hr
      obtain ⟨_, n2, _⟩ := hN i b hi
      obtain ⟨m1, m2⟩ := n2 j r hj
      by_cases hm : r.w = "meet"
      · obtain ⟨_, q2, q3⟩ := m1 hm
        obtain ⟨t, ht⟩ := mem_at hx
        have htl := (List.getElem?_eq_some_iff.mp ht).1
        exact canN_in (q3 t x _ ht (List.getElem?_eq_getElem (by omega)))
      · exact canN_in (m2 hm x hx)
    refine ⟨formed_iff.mpr ⟨pr, rfl, hne, fun b hb => ⟨fun r hr => ⟨hG b hb r hr, hin b hb r hr⟩, ?_⟩⟩, (led_iff hcl).mp hl, fun k r hk => ?_, fun i b hi r x y hb => ?_⟩
    · obtain ⟨i, hi⟩ := mem_at hb
      obtain ⟨_, _, n3⟩ := hN i b hi
      obtain ⟨a1, a2⟩ := hnm b hb
      cases he : b.2 with
      | go c =>
        rw [he] at a2
        have := a2 c (by simp [En.nmI])
        exact ⟨by omega, by omega⟩
      | iff r c e =>
        rw [he] at a1 a2 n3
        have h1 := a2 c (by simp [En.nmI])
        have h2 := a2 e (by simp [En.nmI])
        refine ⟨canN_in (n3 r (by simp [En.nms])), fun z => ?_, ⟨by omega, by omega⟩, ⟨by omega, by omega⟩⟩
        subst z
        simp [En.nmI] at a1
      | fin => trivial
    · obtain ⟨b, j, hb, hj, hkk⟩ := pos_own hk
      generalize hi : (ownL pr pr.length).getD k 0 = i at hb hkk
      have hil := (List.getElem?_eq_some_iff.mp hb).1
      obtain ⟨n1, n2, n3⟩ := hN i b hb
      obtain ⟨m1, m2⟩ := n2 j r hj
      have hsp := spec_LD hil hnd
      refine ⟨fun hm => ?_, fun x hx => ?_, fun x hx => ?_⟩
      · obtain ⟨q1, q2, q3⟩ := m1 hm
        rw [hsp] at q1 q2 q3
        refine ⟨q1, q2, fun j' r' hj' hr' ho => ?_, fun t x l ht hl => canN_nm (q3 t x l ht hl)⟩
        obtain ⟨b', jj, hb', hjj, hk'⟩ := pos_own hr'
        rw [ho] at hb' hk'
        rw [hb] at hb'
        cases hb'
        exact ahead_all n1 hj hm jj r' (by omega) hjj
      · by_cases hm : r.w = "meet"
        · rw [used_meet r hm] at hx; cases hx
        rw [used_nms r hm] at hx
        have := m2 hm x hx
        refine ⟨canN_nm this, fun z => ?_⟩
        obtain ⟨_, r', _, _, h4, _⟩ := this
        subst z
        rw [Int.toNat_natCast] at h4
        have := h4 hi
        omega
      · by_cases hm : r.w = "meet"
        · rw [used_meet r hm] at hx; cases hx
        rw [used_nms r hm] at hx
        obtain ⟨_, r', _, _, h4, _⟩ := m2 hm x hx
        by_cases e : (ownL pr pr.length).getD x.toNat 0 = i
        · right
          have := h4 e
          omega
        · exact .inl e
    · exact canN_nm ((hN i b hi).2.2 r (nms_end.mpr ⟨x, y, hb⟩))
  · rintro ⟨hf, hl, hr, he⟩
    obtain ⟨pr, rfl, hne, hF⟩ := formed_iff.mp hf
    unfold RightP
    rw [decP_dt] at hl hr he ⊢
    have hcl : ∀ b ∈ pr, canLead b.2.nmI pr.length = true := fun b hb => en_canLead (hF b hb).2
    have hl2 := (led_iff hcl).mpr hl
    have hnd := names_nd hl2
    refine ⟨written_back hne fun b hb r hr => ((hF b hb).1 r hr).1, hl2, fun i b hb => ?_⟩
    have hil := (List.getElem?_eq_some_iff.mp hb).1
    have hbm := List.mem_of_getElem? hb
    have hsp := spec_LD hil hnd
    have row : ∀ {j : Nat} {r : Rz}, b.1[j]? = some r → LawRow pr (bgnP pr i + j) r i := fun {j r} hj => by
      obtain ⟨h1, h2⟩ := pos_of hb hj
      have := hr _ r h1
      rw [h2] at this
      exact this
    refine ⟨fun j r r' hj hj' hm => ?_, fun j r hj => ⟨fun hm => ?_, fun hm x hx => ?_⟩, fun x hx => ?_⟩
    · have := ((row hj').meet hm).2.2.1 (bgnP pr i + j) r (by omega) (pos_of hb hj).1 (pos_of hb hj).2
      exact this
    · obtain ⟨q1, q2, _, q3⟩ := (row hj).meet hm
      unfold MeetOk
      rw [hsp]
      have hI := ((hF b hbm).1 r (List.mem_of_getElem? hj)).2
      refine ⟨q1, q2, fun t x l ht hl => nm_canN (hI x (List.mem_of_getElem? ht)).1 (q3 t x l ht hl) fun _ => ?_⟩
      have := (hI x (List.mem_of_getElem? ht)).2
      omega
    · have hI := ((hF b hbm).1 r (List.mem_of_getElem? hj)).2 x hx
      have hu : x ∈ r.used := by rw [used_nms r hm]; exact hx
      refine nm_canN hI.1 ((row hj).used x hu).1 fun e => ?_
      rcases (row hj).ahead x hu with h | h
      · exact absurd e h
      · exact h
    · obtain ⟨y, z, hb2⟩ := nms_end.mp hx
      have hE := (hF b hbm).2
      rw [hb2] at hE
      refine nm_canN hE.1.1 (he i b hb x y z hb2) fun e => ?_
      obtain ⟨r, h1, _⟩ := he i b hb x y z hb2
      obtain ⟨b', j', hb', hj', hk'⟩ := pos_own h1
      rw [e] at hb' hk'
      rw [hb] at hb'
      cases hb'
      have := bgn_succ hb
      have := (List.getElem?_eq_some_iff.mp hj').1
      have := hE.1.1
      omega
end Gn
set_option Elab.async false
set_option linter.all false
set_option maxRecDepth 100000
set_option maxHeartbeats 4000000
set_option pp.maxSteps 400
/-! ### zip(a tuple, a list) -/
namespace GnZ
open PySem PySem.Spec PyProof.Rows L2
/-- a zip's five objects while it stands at the i-th: the zip, its pair of iterators, the pair to fill, the tuple's iterator, the list's -/
structure At (z p o i1 i2 a b : Addr) (i : Nat) (h : Heap) : Prop where
  zip : IsZip h z p o .none
  its : IsTupOf2 h p (.ref i1) (.ref i2)
  out : ∃ x y, IsTupOf2 h o x y
  one : h.IsTupleIter i1 a i
  two : h.IsListIter i2 b i
variable {z p o i1 i2 a b : Addr} {i : Nat} {h h' : Heap}
theorem five {P : Addr → Prop} (h1 : P z) (h2 : P p) (h3 : P o) (h4 : P i1) (h5 : P i2) : ∀ c ∈ [z, p, o, i1, i2], P c := by
  intro c hc
  simp only [List.mem_cons, List.not_mem_nil, or_false] at hc
  rcases hc with rfl | rfl | rfl | rfl | rfl <;> assumption
theorem At.real (t : At z p o i1 i2 a b i h) : ∀ c ∈ [z, p, o, i1, i2], ∃ ob, h.get? c = some ob ∧ ∀ v, ob.data ≠ .cell v := by
  obtain ⟨t1, t2, ⟨x, y, t3⟩, ⟨o4, t4, _, d4⟩, ⟨o5, t5, _, d5⟩⟩ := t
  exact five ⟨_, t1, nofun⟩ ⟨_, t2, nofun⟩ ⟨_, t3, nofun⟩ ⟨o4, t4, by rw [d4]; nofun⟩ ⟨o5, t5, by rw [d5]; nofun⟩
theorem At.stay (t : At z p o i1 i2 a b i h) (k : ∀ c ∈ [z, p, o, i1, i2], ∀ ob, h.get? c = some ob → h'.get? c = some ob) : At z p o i1 i2 a b i h' :=
  ⟨k _ (by simp) _ t.zip, k _ (by simp) _ t.its, let ⟨x, y, e⟩ := t.out; ⟨x, y, k _ (by simp) _ e⟩, t.one.at (k _ (by simp)), t.two.at (k _ (by simp))⟩
theorem At.old (t : At z p o i1 i2 a b i h) : ∀ c ∈ [z, p, o, i1, i2], c < h.objs.size := fun c hc => let ⟨_, e, _⟩ := t.real c hc; Heap.lt_size e
end GnZ
namespace Gn
open PySem PySem.Spec PyProof.Rows L2
def ItzM (K : PySem.W.Frag) (a b : Addr) : It :=
  ⟨fun i H => ∃ (xs ys : List V) (x y : V), SqT K H a xs ∧ SqL K H b ys ∧ xs[i]? = some x ∧ ys[i]? = some y,
    fun i H v H' => ∃ T x y, v = .ref T ∧ H T = none ∧ H' = upd H T (.tup [x, y]) ∧ (∀ xs, SqT K H a xs → xs[i]? = some x) ∧ ∀ ys, SqL K H b ys → ys[i]? = some y,
    fun i H => ∃ xs ys : List V, SqT K H a xs ∧ SqL K H b ys ∧ xs.length = i ∧ ys.length = i⟩
theorem turn_zipM {P : Program} {w : World} {K : PySem.W.Frag} {elts : List Expr} {kk : Nat} {tpos : Pos} {a b z p o i1 i2 : Addr} (S : ZipSep2 z p o i1 i2 [i1, a] [i2, b]) (na : a ≠ i1) (nb : b ≠ i2) :
    Turn P w K (.Tuple elts kk tpos) (ItzM K a b) [z, p, o, i1, i2] z (GnZ.At z p o i1 i2 a b) where
  mem := by simp
  obj := fun i h t => t.real
  keep := fun i h h' t => t.stay
  self := fun A i s Q E t => wpAny_pyIter_zip t.zip
  item := by
    rintro X rfl rfl rfl hc i pins s σ H E I hf t ⟨xs, ys, x, y, hqx, hqy, hx, hy⟩
    obtain ⟨vs, rv, tv, _⟩ := I.tuple hqx
    obtain ⟨us, ru, lu, _⟩ := I.list hqy
    obtain ⟨v, hv, r1⟩ := rv.get hx
    obtain ⟨u, hu, r2⟩ := ru.get hy
    obtain ⟨x0, y0, hout⟩ := t.out
    have calm := I.ok.hd hc
    have lv : i < vs.toArray.size := by have := (List.getElem?_eq_some_iff.mp hv).1; simpa using this
    have ll : i < us.toArray.size := by have := (List.getElem?_eq_some_iff.mp hu).1; simpa using this
    apply wpAny_pyNext_zipD2_item S (Draws.tuple (A := X.A.in1) calm i1 a na vs.toArray) (Draws.list (A := X.A.in1) calm i2 b nb us.toArray) t.zip t.its hout ⟨t.one, tv⟩ ⟨t.two, lu.isList⟩ lv ll
    intro v' u' h' tk pv pu z1 out1 st1 st2 made sz stays
    have ev : v' = v := by
      rw [List.getElem?_toArray, hv] at pv
      exact (Option.some.inj pv).symm
    have eu : u' = u := by
      rw [List.getElem?_toArray, hu] at pu
      exact (Option.some.inj pu).symm
    subst ev eu
    refine ⟨_, rfl, wpAny_letOwnedTupleGo_zip (s := { s with heap := h', toks := tk }) z1 fun h2 z2 same => ?_⟩
    have low := t.old
    have made2 : IsTupOf2 h2 s.heap.objs.size v' u' := (same.2 _ (Nat.ne_of_gt (low z (by simp)))).trans made
    have I1 : Inv X pins σ (upd H s.heap.objs.size (.tup [x, y])) { s with heap := h2, toks := tk } := by
      refine I.turnedNew (ch := [z, p, o, i1, i2]) (fun c ob off e => ?_) hf (Nat.le_refl _) ⟨show 2 ≤ sizeLine by decide, _, .cons r1 (.cons r2 .nil), _, made2, rfl, _, rfl⟩
      simp only [List.mem_cons, List.not_mem_nil, or_false, not_or] at off
      rw [same.2 c off.1]
      exact stays c ob off.1 off.2.2.1 off.2.2.2.1 off.2.2.2.2 e
    have next : GnZ.At z p o i1 i2 a b (i + 1) h2 :=
      ⟨z2, (same.2 _ S.TIz).trans (stays _ _ S.TIz S.TITO S.TIi1 S.TIi2 t.its), ⟨v', u', (same.2 _ S.TOz).trans out1⟩, st1.1.at fun ob e => (same.2 _ S.zi1.symm).trans e, st2.1.at fun ob e => (same.2 _ S.zi2.symm).trans e⟩
    refine ⟨.ref s.heap.objs.size, _, I1, rfl, ⟨_, x, y, rfl, I.hok.fresh (Nat.le_refl _), rfl, fun l hl => ?_, fun l hl => ?_⟩, next, fun c hcm => ?_⟩
    · rw [I.tuple_inj hl hqx]; exact hx
    · rw [I.list_inj hl hqy]; exact hy
    · rw [upd_ne (Nat.ne_of_lt (low c hcm))]
      exact (hf c hcm).1
  done := by
    rintro X rfl rfl rfl hc i pins s σ H E I hf t ⟨xs, ys, hqx, hqy, ex, ey⟩
    obtain ⟨vs, rv, tv, _⟩ := I.tuple hqx
    obtain ⟨us, ru, lu, _⟩ := I.list hqy
    obtain ⟨x0, y0, hout⟩ := t.out
    have calm := I.ok.hd hc
    have lv : vs.toArray.size = i := by rw [List.size_toArray, ← rv.length]; exact ex
    have ll : us.toArray.size = i := by rw [List.size_toArray, ← ru.length]; exact ey
    apply wpAny_pyNext_zipD2_end S (Draws.tuple (A := X.A.in1) calm i1 a na vs.toArray) (Draws.list (A := X.A.in1) calm i2 b nb us.toArray) t.zip t.its hout ⟨t.one, tv⟩ ⟨t.two, lu.isList⟩ (by omega) (by omega) (.inl lv.symm)
    intro h' tk stays
    refine ⟨rfl, I.turnedL (ch := [z, p, o, i1, i2]) (fun c ob off e => ?_) hf⟩
    simp only [List.mem_cons, List.not_mem_nil, or_false, not_or] at off
    exact stays c ob off.1 off.2.2.1 off.2.2.2.1 off.2.2.2.2 e
def iZipM (K : PySem.W.Frag) (ta : TA) : TI := fun σ H R => ta σ H fun vs H1 => ∃ a b xs ys, vs = [.ref a, .ref b] ∧ SqT K H1 a xs ∧ SqL K H1 b ys ∧ R (ItzM K a b) H1
theorem pi_zipM {X : Cx} {e e2 : Expr} {ta : TA} {p pos tpos : Pos} {elts : List Expr} {kk : Nat} (hg : Gl X "zip") (hm : X.mg "zip" = none) (ha : PA X [e, e2] ta)
    (two : starEach [e, e2] X.env = (false, eval e X.env) :: starEach [e2] X.env := by rfl) (plain : (backTo pos (starEach [e2] X.env)).any (·.1) = false := by rfl) :
    PI X (.Tuple elts kk tpos) (.Call (.Name "zip" p) [e, e2] [] pos) (iZipM X.K ta) := by
  constructor
  intro pins s σ H R I h
  refine Call_ (ld_blt I hg hm PyProof.Rows.boot_zip ?_)
  refine PyProof.Rows.callWith_type1 ?_ two plain
  apply thn (ha.run pos pins s σ H _ I h)
  rintro us s1 ⟨_, H1, I1, r1, a, b, xs, ys, rfl, hqx, hqy, q⟩
  obtain ⟨v, u, rfl, rv, ru⟩ := r1.two
  cases rv
  cases ru
  obtain ⟨its, _, tv, _⟩ := I1.tuple hqx
  obtain ⟨its2, _, lu, _⟩ := I1.list hqy
  have la : a < s1.heap.objs.size := let ⟨_, e, _⟩ := tv; Heap.lt_size e
  refine zip_begins2 (begins_tuple a its.toArray) (begins_list b its2.toArray) tv lu.isList fun h' hz hp ho h1 h2 _ stays => wpAny_pyIter_zip hz ?_
  have sep := zip_sep2 (N := s1.heap.objs.size) (fp1 := [a]) (fp2 := [b]) (by simpa using la) (by simpa using lu.lt)
  exact ⟨_, [s1.heap.objs.size + 4, s1.heap.objs.size + 2, s1.heap.objs.size + 3, s1.heap.objs.size, s1.heap.objs.size + 1], _, _, H1, rfl, I1.kept (t' := s1.toks) stays,
    turn_zipM sep (Nat.ne_of_lt la) (Nat.ne_of_lt (Nat.lt_succ_of_lt lu.lt)), ⟨hz, hp, ⟨_, _, ho⟩, ⟨_, h1, rfl, rfl⟩, ⟨_, h2, rfl, rfl⟩⟩,
    GnZ.five (I1.fpOk (Nat.le_add_right ..) (I1.hok.fresh (Nat.le_add_right ..))) (I1.fpOk (Nat.le_add_right ..) (I1.hok.fresh (Nat.le_add_right ..))) (I1.fpOk (Nat.le_add_right ..) (I1.hok.fresh (Nat.le_add_right ..))) (I1.fpOk (Nat.le_refl _) (I1.hok.fresh (Nat.le_refl _))) (I1.fpOk (Nat.le_add_right ..) (I1.hok.fresh (Nat.le_add_right ..))), q⟩
theorem walk_zipM {K : PySem.W.Frag} {a b : Addr} {xs ys : List V} (hl : xs.length = ys.length) : Walk (ItzM K a b) xs.length (fun H => SqT K H a xs ∧ SqL K H b ys) (YPair (fun i => xs[i]?) (fun i => ys[i]?)) where
  goes := fun i H hi q => ⟨xs, ys, xs[i], ys[i], q.1, q.2, List.getElem?_eq_getElem hi, List.getElem?_eq_getElem (hl ▸ hi)⟩
  stops := fun H q => ⟨xs, ys, q.1, q.2, rfl, hl.symm⟩
  yields := fun i H v H' hi q ⟨T, x, y, e1, n, e2, h1, h2⟩ => ⟨T, x, y, e1, n, e2, h1 _ q.1, h2 _ q.2⟩
end Gn
set_option Elab.async false
set_option linter.all false
set_option maxRecDepth 100000
set_option maxHeartbeats 8000000
set_option pp.maxSteps 400
namespace Gn
open PySem PySem.Spec PyProof.Rows L2
theorem BlkH.same {K : PySem.W.Frag} {H H' : Hp} {v : V} {b : Blk} (h : BlkH K H v b) (e : Same H H') : BlkH K H' v b := by
  obtain ⟨p, ra, ea, vs, h1, h2, h3, h4, h5⟩ := h
  exact ⟨p, ra, ea, vs, h1, Same.tup e h2, e _ _ h3, pd_mono h4 fun _ _ y => y.same e, h5.same e⟩
theorem cut_two1 (x : V) : cutV [x] (some 2) none = [] := by
  unfold cutV
  rw [show HT.sIx [x].length 0 (some 2) = min 2 [x].length from HT.sIx_nat [x].length 0 2, HT.sIx_none]
  rfl
/-- whether the first lead of block k is a lesser one -/
def ledAt (pr : List Blk) (k : Nat) : Bool := match LD pr k with
  | [] => false
  | j :: _ => decide (j < k)
theorem ledAt_iff {pr : List Blk} : (List.range (pr.length - 1)).all (fun t => ledAt pr (t + 1)) = true ↔ LawLed pr := by
  rw [List.all_eq_true]
  constructor
  · intro h k h1 h2
    have := h (k - 1) (List.mem_range.mpr (by omega))
    rw [show k - 1 + 1 = k by omega] at this
    unfold ledAt at this
    cases e : LD pr k with
    | nil => rw [e] at this; cases this
    | cons j tl => rw [e] at this; exact ⟨j, tl, rfl, of_decide_eq_true this⟩
  · intro h k hk
    have := List.mem_range.mp hk
    obtain ⟨j, tl, e, hj⟩ := h (k + 1) (by omega) (by omega)
    unfold ledAt
    rw [e]
    exact decide_eq_true hj
/-- a row's worth, and what stands over a block -/
def Wt (pr : List Blk) (n : Nat) : Bool := ((rowsL pr).map Rz.worthy).getD n false
theorem Wt_at {pr : List Blk} {n : Nat} (h : n < (rowsL pr).length) : ((rowsL pr).map Rz.worthy)[n]? = some (Wt pr n) := by
  unfold Wt
  rw [List.getD_eq_getElem?_getD, List.getElem?_eq_getElem (by rw [List.length_map]; exact h)]
  rfl
noncomputable abbrev Ov (pr : List Blk) (b : Nat) : List Nat := (abv (nmL pr)).getD b []
theorem over_at {pr : List Blk} {b : Nat} (h : b < pr.length) : (abv (nmL pr))[b]? = some (Ov pr b) := by
  have hl : (abv (nmL pr)).length = pr.length := by unfold abv; rw [List.length_map, List.length_range, List.length_map]
  show _ = some ((abv (nmL pr)).getD b [])
  rw [List.getD_eq_getElem?_getD, List.getElem?_eq_getElem (by omega)]
  rfl
theorem over_mem {pr : List Blk} {b o : Nat} (h : b < pr.length) : o ∈ Ov pr b ↔ o < pr.length ∧ ¬ Rc (Ex (nmL pr)) o b := by
  have h2 : (abv (nmL pr))[b]? = some ((List.range (nmL pr).length).filter fun o => dB (nmL pr) o b) := by
    unfold abv
    rw [List.getElem?_map, List.getElem?_range (by rw [List.length_map]; exact h)]
    rfl
  rw [over_at h] at h2
  rw [Option.some.inj h2, List.mem_filter, List.mem_range, dB_iff, List.length_map]
theorem own_lt' {pr : List Blk} {n : Nat} (h : n < (rowsL pr).length) : (ownL pr pr.length).getD n 0 < pr.length := by
  have hol : n < (ownL pr pr.length).length := by rw [own_len]; exact h
  rw [List.getD_eq_getElem?_getD, List.getElem?_eq_getElem hol]
  exact ownL_lt (List.getElem_mem hol)
theorem own_at {pr : List Blk} {n : Nat} (h : n < (rowsL pr).length) : ((ownL pr pr.length).map iv)[n]? = some (iv ((ownL pr pr.length).getD n 0)) := by
  have hol : n < (ownL pr pr.length).length := by rw [own_len]; exact h
  rw [List.getElem?_map, List.getD_eq_getElem?_getD, List.getElem?_eq_getElem hol]
  rfl
theorem nmL_iff {pr : List Blk} {n b : Nat} (hn : n < (rowsL pr).length) (hb : b < pr.length) : NmL pr (n : Int) b ↔ (Wt pr n && decide ((ownL pr pr.length).getD n 0 ∈ Ov pr b)) = true := by
  rw [Bool.and_eq_true, decide_eq_true_iff, over_mem hb]
  have hr := List.getElem?_eq_getElem hn
  have hw : Wt pr n = (rowsL pr)[n].worthy := by
    have := Wt_at hn
    rw [List.getElem?_map, hr] at this
    exact (Option.some.inj this).symm
  unfold NmL
  rw [Int.toNat_natCast]
  constructor
  · rintro ⟨r, h1, h2, h3⟩
    rw [hr] at h1
    cases h1
    exact ⟨by rw [hw]; exact h2, own_lt' hn, h3⟩
  · rintro ⟨h1, _, h3⟩
    exact ⟨_, hr, by rw [← hw]; exact h1, h3⟩
/-! ### lists of words, compared -/
theorem dpS {K : PySem.W.Frag} {H : Hp} : ∀ ws : List Str, DpAll K H (ws.map V.str) (ws.map PyData.str)
  | [] => .nil
  | n :: ns => .cons (.str n) (dpS ns)
theorem pdS_lay : ∀ {ws : List Str}, (∀ w ∈ ws, PyData.strOk w = true) → PyData.canLayAll0 (ws.map PyData.str) = true
  | [], _ => by simp [PyData.canLayAll0]
  | n :: ns, h => by simp [PyData.canLayAll0, PyData.canLay0, pdS_lay fun w hw => h w (List.mem_cons_of_mem _ hw), h n List.mem_cons_self]
theorem pdS_depth : ∀ ws : List Str, PyData.depthAll (ws.map PyData.str) ≤ 1
  | [] => by simp [PyData.depthAll]
  | n :: ns => by
    have := pdS_depth ns
    simp [PyData.depthAll, PyData.depth]
    omega
theorem pdS_shaped {ws : List Str} (h : ∀ w ∈ ws, PyData.strOk w = true) : SeqAt.shaped (.list (ws.map PyData.str)) = true := by
  have h1 := pdS_lay h
  have h2 := pdS_depth ws
  unfold SeqAt.shaped
  rw [Bool.and_eq_true]
  refine ⟨by simpa [PyData.canLay0] using h1, decide_eq_true ?_⟩
  simp [PyData.depth]
  omega
theorem pdS_eqv : ∀ a b : List Str, PyData.eqvAll (a.map PyData.str) (b.map PyData.str) = decide (a = b)
  | [], [] => by simp [PyData.eqvAll]
  | [], y :: ys => by simp [PyData.eqvAll]
  | x :: xs, [] => by simp [PyData.eqvAll]
  | x :: xs, y :: ys => by
    rw [List.map_cons, List.map_cons]
    unfold PyData.eqvAll
    rw [pdS_eqv xs ys]
    have e : PyData.eqv (.str x) (.str y) = decide (x = y) := by
      unfold PyData.eqv
      by_cases h : x = y
      · subst h; simp
      · rw [decide_eq_false h]; simpa using h
    rw [e]
    by_cases h1 : x = y <;> by_cases h2 : xs = ys <;> simp [h1, h2]
theorem rz_strOk (r : Rz) : PyData.strOk r.w = true := by
  cases r with
  | bin b x y =>
    show PyData.strOk b.w = true
    revert b
    intro b
    cases b <;> decide +kernel
  | take i => show PyData.strOk "take" = true; decide +kernel
  | num i => show PyData.strOk "num" = true; decide +kernel
  | pick x ps => show PyData.strOk "pick" = true; decide +kernel
  | meet ps => show PyData.strOk "meet" = true; decide +kernel
  | tell x => show PyData.strOk "tell" = true; decide +kernel
  | look ps x => show PyData.strOk "look" = true; decide +kernel
  | lay ps x y => show PyData.strOk "lay" = true; decide +kernel
theorem rep_str (k : Nat) (s : Str) : (List.replicate k [V.str s]).flatten = (List.replicate k s).map V.str := by
  induction k with
  | zero => rfl
  | succ k ih => rw [List.replicate_succ, List.replicate_succ, List.flatten_cons, List.map_cons, ih]; rfl
/-- the words of the rows of a block ahead of row i -/
def AH (pr : List Blk) (b i : Nat) : List Str := ((List.range i).filter fun j => decide ((ownL pr pr.length).getD j 0 = b)).map fun j => ((rowsL pr).getD j (.take 0)).w
theorem AH_len (pr : List Blk) (b i : Nat) : (AH pr b i).length ≤ i := by
  unfold AH
  rw [List.length_map]
  refine Nat.le_trans (List.length_filter_le _ _) ?_
  rw [List.length_range]
  exact Nat.le_refl _
theorem AH_succ {pr : List Blk} {b t : Nat} {r : Rz} (h : (rowsL pr)[t]? = some r) : AH pr b (t + 1) = AH pr b t ++ (if (ownL pr pr.length).getD t 0 = b then [r.w] else []) := by
  unfold AH
  rw [filt_succ, List.map_append]
  congr 1
  by_cases e : (ownL pr pr.length).getD t 0 = b
  · rw [if_pos e, if_pos (decide_eq_true e), List.map_cons, List.map_nil, gd (d := Rz.take 0) h]
  · rw [if_neg e, if_neg (by simpa using e), List.map_nil]
theorem AH_iff {pr : List Blk} {b i : Nat} (hi : i ≤ (rowsL pr).length) : AH pr b i = List.replicate (AH pr b i).length ("meet" : Str) ↔ ∀ (j : Nat) (r' : Rz), j < i → (rowsL pr)[j]? = some r' → (ownL pr pr.length).getD j 0 = b → r'.w = "meet" := by
  rw [List.eq_replicate_iff]
  constructor
  · rintro ⟨_, h⟩ j r' hj hr ho
    refine h _ (List.mem_map.mpr ⟨j, List.mem_filter.mpr ⟨List.mem_range.mpr hj, decide_eq_true ho⟩, ?_⟩)
    rw [gd (d := Rz.take 0) hr]
  · intro h
    refine ⟨rfl, fun w hw => ?_⟩
    obtain ⟨j, hj, rfl⟩ := List.mem_map.mp hw
    obtain ⟨h1, h2⟩ := List.mem_filter.mp hj
    have h1 := List.mem_range.mp h1
    have hr := List.getElem?_eq_getElem (show j < (rowsL pr).length by omega)
    rw [gd (d := Rz.take 0) hr]
    exact h j _ h1 hr (of_decide_eq_true h2)
/-- a meet's t-th part at its lead -/
noncomputable def mtB (pr : List Blk) (b : Nat) (ps : List Int) (t : Nat) : Bool := Wt pr (ps.getD t 0).toNat && decide ((ownL pr pr.length).getD (ps.getD t 0).toNat 0 ∈ Ov pr ((LD pr b).getD t 0))
theorem LD_lt {pr : List Blk} {b l : Nat} (hb : b < pr.length) (h : l ∈ LD pr b) : l < pr.length := by
  rw [LD_eq hb] at h
  exact List.mem_range.mp (List.mem_filter.mp h).1
/-- the three tests of a row that is named -/
noncomputable def use1 (pr : List Blk) (b k n : Nat) : Bool := Wt pr n && (decide ((ownL pr pr.length).getD n 0 ∈ Ov pr b) && decide (n ≠ k))
def use2 (pr : List Blk) (b k n : Nat) : Bool := decide ((ownL pr pr.length).getD n 0 ≠ b) || decide (n < k)
theorem leads_at {pr : List Blk} {k : Nat} (h : k < pr.length) : (leadsL (nmL pr))[k]? = some (LD pr k) := by
  have hl : (leadsL (nmL pr)).length = pr.length := by unfold leadsL; rw [List.length_map, List.length_range, List.length_map]
  show _ = some ((leadsL (nmL pr)).getD k [])
  rw [List.getD_eq_getElem?_getD, List.getElem?_eq_getElem (by omega)]
  rfl
abbrev rLst (K : PySem.W.Frag) : List V → Hp → VK → Prop := fun xs H Q => ∃ p ys, xs = [.ref p] ∧ (SqL K H p ys ∨ SqT K H p ys) ∧ ∀ l, H l = none → Q (.ref l) (upd H l (.lst ys))
def spRight (K : PySem.W.Frag) : Sp := fun vs H Q _ => ∃ (v : V) (d : Dt), vs = [v] ∧ DtAt K H v d ∧ szD d = true ∧ EndsG d ∧ (∀ pr, d = pdt pr → pr.length ≤ 12 ∧ ∀ b ∈ pr, b.1.length ≤ 130 ∧ ∀ r ∈ b.1, r.nms.length ≤ 10000) ∧
  ∀ (H' : Hp) (c : Bool), Same H H' → (c = true ↔ RightL d) → Q (.bl c) H'
abbrev nLR : List Str := ["_law_thing_here", "_law_rows", "_law_blocks", "_law_end", "_law_nexts", "_law_leads_here", "_law_k", "_law_over", "_law_row_here", "_law_worthy", "_law_block_here", "_law_ahead", "_law_one", "_law_rest", "_law_x", "_law_lead", "_law_j"]
theorem scLR : FnScope nLR ["_law_thing_here"] (defScope sLRight) := ⟨rfl, rfl, rfl, by decide +kernel, rfl, by decide +kernel, by decide +kernel⟩
section
variable {P0 : Program} {w : World} {K : PySem.W.Frag} {mg : Str → Option Value} {base : Heap}
theorem ok_lright {f fF fL fG fA fU : Addr} {fd fdF fdL fdG fdA fdU : FuncData} {k : Nat} (D : Df K mg "_law_right" sLRight ["_law_thing_here"] f fd) (B : Bi mg)
    (DF : Df K mg "_law_formed_blocks" sLFormed ["_law_thing_here"] fF fdF) (GF : FnOk P0 w K mg base CX0 k fF fdF ["_law_thing_here"] (spFormed K))
    (DL : Df K mg "_law_flat" sLFlat ["_law_program"] fL fdL) (GL : FnOk P0 w K mg base CX0 k fL fdL ["_law_program"] (spFlat K))
    (DG : Df K mg "_law_leads" sLLeads ["_law_nexts"] fG fdG) (GG : FnOk P0 w K mg base CX0 k fG fdG ["_law_nexts"] (spLeads K))
    (DA : Df K mg "_law_above" sLAbove ["_law_nexts"] fA fdA) (GA : FnOk P0 w K mg base CX0 k fA fdA ["_law_nexts"] (spAbove K))
    (DU : Df K mg "_law_used" sLUsed ["_law_row_here"] fU fdU) (GU : FnOk P0 w K mg base CX0 k fU fdU ["_law_row_here"] (spUsed K)) : FnOk P0 w K mg base CX0 (k + 1) f fd ["_law_thing_here"] (spRight K) := by
  refine D.F.ok scLR (fun vs H Q E h => ?_) (fun cdv A outer s H vs Q E hr h => ?_)
  · obtain ⟨v, d, rfl, _⟩ := h
    rfl
  · obtain ⟨v, d, rfl, hd, hz, hEg, hB, q⟩ := h
    refine ⟨_, (pss_cons (ps_if (pt_not (pt_val (pe_call GF hr (by rfl) DF.g DF.F.kp DF.b .nil pass0 (pa_cons (pv 0) pa_nil)))) (pss_one (ps_ret pe_bl)) pss_nil)
      (pss_cons (ps_asg (pe_call GL hr (by rfl) DL.g DL.F.kp DL.b .nil pass0 (pa_cons (pv 0) pa_nil)) (pg_tup rfl (pgs_cons (pg_name (i := 1) scLR.nd rfl (.inr rfl)) (pgs_cons (pg_name (i := 2) scLR.nd rfl (.inr rfl)) pgs_nil))))
      (pss_cons (ps_setLc (i := 4) (own := [("_law_rest", 13), ("_law_end", 3)]) (g := (gTup K 2 (gCons (gName 13) (gCons (gName 3) gNil)))) (tt := tYes) (te := (tIf (tTest (tOp rEq (tOp (rIxT K) (tVar 3) (tC (.int 0))) (tC (.str "go")))) (tCB (rLst K) (tCons (tSl (rSlT K) (tVar 3) (tPart (tC (.int 1))) tNoPart) tNil)) (tCB (rLst K) (tCons (tSl (rSlT K) (tVar 3) (tPart (tC (.int 2))) tNoPart) tNil)))) (by rfl) scLR.nd rfl rfl (sw_true rfl rfl rfl (by decide +kernel)) (pi_list (pv 0)) (blkOk_by (own := [("_law_rest", 13), ("_law_end", 3)]) (N := nLR) (sc := defScope sLRight) (by decide +kernel)) (fun _ _ _ _ _ => (pg_tup rfl (pgs_cons (pg_name (i := 13) scLR.nd rfl (.inl rfl)) (pgs_cons (pg_name (i := 3) scLR.nd rfl (.inl rfl)) pgs_nil)))) (fun _ _ _ _ _ => pts_nil) (fun _ _ _ _ _ => (pe_ifExp (pt_cmpR op_eq (pe_ix ix_tup (pv 3) pe_int (fun _ _ => rfl)) pe_str (nomark _)) (pe_callTy call_list_of (by rfl) B.list PyProof.Rows.boot_list (pa_cons (pe_slice sl_tup (pv 3) (po_some pe_int) po_none) pa_nil)) (pe_callTy call_list_of (by rfl) B.list PyProof.Rows.boot_list (pa_cons (pe_slice sl_tup (pv 3) (po_some pe_int) po_none) pa_nil)))))
      (pss_cons (ps_set (i := 5) scLR.nd rfl (.inr rfl) (pe_call GG hr (by rfl) DG.g DG.F.kp DG.b .nil pass0 (pa_cons (pv 4) pa_nil)))
      (pss_cons (ps_if (pt_not (pt_val (pe_callB (cr_all rfl) (by rfl) B.all PyProof.Rows.boot_all (pa_cons (pe_lc (own := [("_law_k", 6)]) (g := (gName 6)) (tt := tYes) (te := (tAndV (tOp (rNeE K) (tIxL K (tVar 5) (tVar 6)) (tLst tNil)) (tOp (rI0 fun i j => .bl (decide (i < j))) (tIxL K (tIxL K (tVar 5) (tVar 6)) (tC (.int 0))) (tVar 6)))) rfl scLR.nd (pi_range2 (by rfl) B.range (pa_cons pe_int (pa_cons (pe_callB call_len_seq (by rfl) B.len PySem.boot_len (pa_cons (pv 0) pa_nil)) pa_nil))) (blkOk_by (own := [("_law_k", 6)]) (N := nLR) (sc := defScope sLRight) (by decide +kernel)) (fun _ _ _ _ _ => (pg_name (i := 6) scLR.nd rfl (.inl rfl))) (fun _ _ _ _ _ => pts_nil) (fun _ _ _ _ _ => (pe_and (pe_cmpR (op_neE hr.units) (pe_ix ix_list (pv 5) (pv 6) (fun _ _ => rfl)) (pe_lst pa_nil) (nomark _)) (pe_one (pe_cmpR op_lt (pe_ix ix_list (pe_ix ix_list (pv 5) (pv 6) (fun _ _ => rfl)) pe_int (fun _ _ => rfl)) (pv 6) (nomark _)))))) pa_nil)))) (pss_one (ps_ret pe_bl)) pss_nil)
      (pss_cons (ps_set (i := 7) scLR.nd rfl (.inr rfl) (pe_call GA hr (by rfl) DA.g DA.F.kp DA.b .nil pass0 (pa_cons (pv 4) pa_nil)))
      (pss_cons (ps_set (i := 9) scLR.nd rfl (.inr rfl) (pe_lc (own := [("_law_row_here", 8)]) (g := (gName 8)) (tt := tYes) (te := (tOp (rIn K true) (tOp (rIxT K) (tVar 8) (tC (.int 0))) (tTup (tCons (tC (.str "lay")) (tCons (tC (.str "tell")) tNil))))) rfl scLR.nd (pi_list (pv 1)) (blkOk_by (own := [("_law_row_here", 8)]) (N := nLR) (sc := defScope sLRight) (by decide +kernel)) (fun _ _ _ _ _ => (pg_name (i := 8) scLR.nd rfl (.inl rfl))) (fun _ _ _ _ _ => pts_nil) (fun _ _ _ _ _ => (pe_cmpR op_notIn_seq (pe_ix ix_tup (pv 8) pe_int (fun _ _ => rfl)) (pe_tup (pa_cons pe_str (pa_cons pe_str pa_nil))) rfl))))
      (pss_cons (ps_for PassesOwn.never rfl (pi_enum (by rfl) B.enumerate (pa_cons (pv 1) pa_nil)) (pg_tup rfl (pgs_cons (pg_name (i := 6) scLR.nd rfl (.inr rfl)) (pgs_cons (pg_name (i := 8) scLR.nd rfl (.inl rfl)) pgs_nil))) (pss_cons (ps_set (i := 10) scLR.nd rfl (.inr rfl) (pe_ix ix_list (pv 2) (pv 6) (fun _ _ => rfl)))
      (Evl.pss_cut (ps_if (pt_cmpR op_eq (pe_ix ix_tup (pv 8) pe_int (fun _ _ => rfl)) pe_str (nomark _)) (pss_cons (ps_setLc (i := 11) (own := [("_law_j", 16)]) (g := (gName 16)) (tt := (tTest (tOp rEq (tIxL K (tVar 2) (tVar 16)) (tVar 10)))) (te := (tOp (rIxT K) (tIxL K (tVar 1) (tVar 16)) (tC (.int 0)))) (by rfl) scLR.nd rfl rfl (sw_true rfl rfl rfl (by decide +kernel)) (pi_range1 (by rfl) B.range (pa_cons (pv 6) pa_nil)) (blkOk_by (own := [("_law_j", 16)]) (N := nLR) (sc := defScope sLRight) (by decide +kernel)) (fun _ _ _ _ _ => (pg_name (i := 16) scLR.nd rfl (.inl rfl))) (fun _ _ _ _ _ => (pts_one (pt_cmpR op_eq (pe_ix ix_list (pv 2) (pv 16) (fun _ _ => rfl)) (pv 10) (nomark _)))) (fun _ _ _ _ _ => (pe_ix ix_tup (pe_ix ix_list (pv 1) (pv 16) (fun _ _ => rfl)) pe_int (fun _ _ => rfl))))
      (pss_cons (ps_if (pw_or (pt_cmpR op_lt (pe_callB call_len_seq (by rfl) B.len PySem.boot_len (pa_cons (pe_ix ix_list (pv 5) (pv 10) (fun _ _ => rfl)) pa_nil)) pe_int (nomark _)) (pw_or (pt_cmpR op_ne (pe_callB call_len_seq (by rfl) B.len PySem.boot_len (pa_cons (pe_ix ix_tup (pv 8) pe_int (fun _ _ => rfl)) pa_nil)) (pe_callB call_len_seq (by rfl) B.len PySem.boot_len (pa_cons (pe_ix ix_list (pv 5) (pv 10) (fun _ _ => rfl)) pa_nil)) (nomark _)) (pw_or1 (pt_cmpR (op_neD hr.units) (pv 11) (pe_op op_rep (pe_lst (pa_cons pe_str pa_nil)) (pe_callB call_len_seq (by rfl) B.len PySem.boot_len (pa_cons (pv 11) pa_nil))) (nomark _))))).pt (pss_one (ps_ret pe_bl)) pss_nil)
      (pss_one (ps_if (pt_not (pt_val (pe_callB (cr_all rfl) (by rfl) B.all PyProof.Rows.boot_all (pa_cons (pe_lc (own := [("_law_x", 14), ("_law_lead", 15)]) (g := (gTup K 2 (gCons (gName 14) (gCons (gName 15) gNil)))) (tt := tYes) (te := (tAndV (tIxL K (tVar 9) (tVar 14)) (tOp (rIn K false) (tIxL K (tVar 2) (tVar 14)) (tIxL K (tVar 7) (tVar 15))))) rfl scLR.nd (pi_zipM (by rfl) B.zip (pa_cons (pe_ix ix_tup (pv 8) pe_int (fun _ _ => rfl)) (pa_cons (pe_ix ix_list (pv 5) (pv 10) (fun _ _ => rfl)) pa_nil))) (blkOk_by (own := [("_law_x", 14), ("_law_lead", 15)]) (N := nLR) (sc := defScope sLRight) (by decide +kernel)) (fun _ _ _ _ _ => (pg_tup rfl (pgs_cons (pg_name (i := 14) scLR.nd rfl (.inl rfl)) (pgs_cons (pg_name (i := 15) scLR.nd rfl (.inl rfl)) pgs_nil)))) (fun _ _ _ _ _ => pts_nil) (fun _ _ _ _ _ => (pe_and (pe_ix ix_list (pv 9) (pv 14) (fun _ _ => rfl)) (pe_one (pe_cmpR op_in_seq (pe_ix ix_list (pv 2) (pv 14) (fun _ _ => rfl)) (pe_ix ix_list (pv 7) (pv 15) (fun _ _ => rfl)) rfl))))) pa_nil)))) (pss_one (ps_ret pe_bl)) pss_nil)))) pss_nil)
      (pss_cons (ps_if (pt_not (pt_val (pe_callB (cr_all rfl) (by rfl) B.all PyProof.Rows.boot_all (pa_cons (pe_lc (own := [("_law_x", 14)]) (g := (gName 14)) (tt := tYes) (te := (tAndV (tIxL K (tVar 9) (tVar 14)) (tAndV (tOp (rIn K false) (tIxL K (tVar 2) (tVar 14)) (tIxL K (tVar 7) (tVar 10))) (tOp rNe (tVar 14) (tVar 6))))) rfl scLR.nd (pi_list (pe_call GU hr (by rfl) DU.g DU.F.kp DU.b .nil pass0 (pa_cons (pv 8) pa_nil))) (blkOk_by (own := [("_law_x", 14)]) (N := nLR) (sc := defScope sLRight) (by decide +kernel)) (fun _ _ _ _ _ => (pg_name (i := 14) scLR.nd rfl (.inl rfl))) (fun _ _ _ _ _ => pts_nil) (fun _ _ _ _ _ => (pe_and (pe_ix ix_list (pv 9) (pv 14) (fun _ _ => rfl)) (pe_and (pe_cmpR op_in_seq (pe_ix ix_list (pv 2) (pv 14) (fun _ _ => rfl)) (pe_ix ix_list (pv 7) (pv 10) (fun _ _ => rfl)) rfl) (pe_one (pe_cmpR op_ne (pv 14) (pv 6) (nomark _))))))) pa_nil)))) (pss_one (ps_ret pe_bl)) pss_nil)
      (pss_one (ps_if (pt_not (pt_val (pe_callB (cr_all rfl) (by rfl) B.all PyProof.Rows.boot_all (pa_cons (pe_lc (own := [("_law_x", 14)]) (g := (gName 14)) (tt := tYes) (te := (tOrV (tOp rNe (tIxL K (tVar 2) (tVar 14)) (tVar 10)) (tOp (rI0 fun i j => .bl (decide (i < j))) (tVar 14) (tVar 6)))) rfl scLR.nd (pi_list (pe_call GU hr (by rfl) DU.g DU.F.kp DU.b .nil pass0 (pa_cons (pv 8) pa_nil))) (blkOk_by (own := [("_law_x", 14)]) (N := nLR) (sc := defScope sLRight) (by decide +kernel)) (fun _ _ _ _ _ => (pg_name (i := 14) scLR.nd rfl (.inl rfl))) (fun _ _ _ _ _ => pts_nil) (fun _ _ _ _ _ => (pe_or (pe_cmpR op_ne (pe_ix ix_list (pv 2) (pv 14) (fun _ _ => rfl)) (pv 10) (nomark _)) (pe_one (pe_cmpR op_lt (pv 14) (pv 6) (nomark _)))))) pa_nil)))) (pss_one (ps_ret pe_bl)) pss_nil))))))
      (pss_cons (ps_for PassesOwn.never rfl (pi_enum (by rfl) B.enumerate (pa_cons (pv 0) pa_nil)) (pg_tup rfl (pgs_cons (pg_name (i := 10) scLR.nd rfl (.inr rfl)) (pgs_cons (pg_name (i := 12) scLR.nd rfl (.inl rfl)) pgs_nil))) (pss_cons (ps_set (i := 3) scLR.nd rfl (.inl rfl) (pe_ix ix_tup (pv 12) pe_int (fun _ _ => rfl)))
      (pss_one (ps_if (pw_and (pt_cmpR op_eq (pe_ix ix_tup (pv 3) pe_int (fun _ _ => rfl)) pe_str (nomark _)) (pw_and1 (pt_not (pw_and (pt_val (pe_ix ix_list (pv 9) (pe_ix ix_tup (pv 3) pe_int (fun _ _ => rfl)) (fun _ _ => rfl))) (pw_and1 (pt_cmpR op_in_seq (pe_ix ix_list (pv 2) (pe_ix ix_tup (pv 3) pe_int (fun _ _ => rfl)) (fun _ _ => rfl)) (pe_ix ix_list (pv 7) (pv 10) (fun _ _ => rfl)) rfl))).pt))).pt (pss_one (ps_ret pe_bl)) pss_nil))))
      (pss_one (ps_ret pe_bl))))))))))), ?_⟩
    refine ⟨_, rfl, v, d, rfl, hd, hz, hEg, fun H1 s1 => ⟨_, rfl, ite2 (fun e => ?_) (fun e => ?_)⟩⟩
    · refine q H1 false s1 ⟨fun z => (by cases z), fun z => ?_⟩
      have := z.1
      rw [notT e] at this
      cases this
    obtain ⟨pr, rfl, hne, hF⟩ := formed_iff.mp (notF e)
    obtain ⟨b12, bB⟩ := hB pr rfl
    have hn1 : 1 ≤ pr.length := by
      cases pr with
      | nil => exact absurd rfl hne
      | cons b bs => simp
    have q' : ∀ (H' : Hp) (c : Bool), Same H H' → (c = true ↔ LawLed pr ∧ LawRows pr ∧ LawEnds pr) → Q (.bl c) H' := fun H' c s' hc => q H' c s' (hc.trans ⟨fun z => ⟨notF e, by rw [decP_dt]; exact z⟩, fun z => by have := z.2; rwa [decP_dt] at this⟩)
    clear q
    obtain ⟨p, bs, rfl, hp, hbs⟩ := prog_atH hd
    have hbl : bs.length = pr.length := pd_len hbs
    have hin : ∀ b ∈ pr, ∀ y ∈ b.2.nmI, 1 ≤ y ∧ y < (pr.length : Int) := fun b hb y hy => by
      have := en_canLead (hF b hb).2
      unfold canLead at this
      rw [Bool.and_eq_true, List.all_eq_true] at this
      have := this.2 y hy
      rw [Bool.and_eq_true] at this
      have h1 := of_decide_eq_true this.1
      have h2 := of_decide_eq_true this.2
      exact ⟨by omega, h2⟩
    refine ⟨_, rfl, _, pr, rfl, ⟨p, bs, rfl, s1.seq hp, pd_mono hbs fun _ _ z => z.same s1⟩, b12, fun b hb => (bB b hb).1, fun tp ra ba H2 us s2 htp nra nba nrb era hus eba => ?_⟩
    refine ⟨tp, _, rfl, htp, rfl, _, _, rfl, _, _, rfl, rfl, ?_⟩
    have t2 := s1.trans s2
    refine ⟨_, rfl, p, rfl, ⟨_, t2.seq hp⟩, fun L nL => ?_⟩
    refine lc_list (K := K) (a := p) (xs := bs) (fun i H3 => Same H2 H3 ∧ ∃ qs : List Addr, H3 L = some (.lst (qs.map V.ref)) ∧ Paired (fun q xs => SqL K H3 q (xs.map iv) ∧ q ≠ L) qs ((nmL pr).take i)) ⟨new_same nL, [], upd_same, .nil⟩ (fun i H3 _ hP => hP.1.seq (t2.seq hp)) (fun i x H3 hx hP => ?_) (fun H3 hP => ?_)
    · obtain ⟨s3, qs, eL, pq⟩ := hP
      obtain ⟨b, hb, pb, rb, ea, vs', rfl, g1, g2, g3, g4⟩ := pd_at2 hbs hx
      have hbm := List.mem_of_getElem? hb
      have hil := (List.getElem?_eq_some_iff.mp hb).1
      have t3 := t2.trans s3
      obtain ⟨pe, xs', rfl, he, hxs⟩ := (g4.same t3).at
      have hxe := en_vs hxs
      subst hxe
      have hnm : (nmL pr)[i]? = some b.2.names := by rw [List.getElem?_map, hb]; rfl
      have fin : ∀ (R : Addr) (ys : List V), H3 R = none → ys = b.2.names.map iv → ∀ l, upd H3 R (.tup ys) l = none →
          ∃ acc, upd (upd H3 R (.tup ys)) l (.lst ys) L = some (.lst acc) ∧ acc.length < sizeLine ∧ Same H2 (upd (upd (upd H3 R (.tup ys)) l (.lst ys)) L (.lst (acc ++ [.ref l]))) ∧ ∃ qs : List Addr, upd (upd (upd H3 R (.tup ys)) l (.lst ys)) L (.lst (acc ++ [.ref l])) L = some (.lst (qs.map V.ref)) ∧
            Paired (fun q xs => SqL K (upd (upd (upd H3 R (.tup ys)) l (.lst ys)) L (.lst (acc ++ [.ref l]))) q (xs.map iv) ∧ q ≠ L) qs ((nmL pr).take (i + 1)) := fun R ys nR ey l nl => by
        subst ey
        have a1 := new_same (o := .tup (b.2.names.map iv)) nR
        have a2 := new_same (o := .lst (b.2.names.map iv)) nl
        have a3 := a1.trans a2
        have eL2 := a3 _ _ eL
        have nlL : l ≠ L := fun z => by
          rw [z] at nl
          have := a1 _ _ eL
          rw [nl] at this
          cases this
        refine ⟨_, eL2, ?_, fun c o z => ?_, qs ++ [l], by rw [upd_same, List.map_append]; rfl, ?_⟩
        · rw [List.length_map, pd_len pq, List.length_take]
          exact szt (by have : (nmL pr).length = pr.length := List.length_map _; omega)
        · rw [upd_ne (ne_of_none z nL)]
          exact a3 _ _ (s3 _ _ z)
        · rw [List.take_add_one, hnm]
          refine pd_snoc (pd_mono pq fun q xs z => ⟨seq_upd (a3.seq z.1) z.2, z.2⟩) ⟨sqL ?_, nlL⟩
          rw [upd_ne nlL]
          exact upd_same
      refine ⟨pb, _, rfl, Same.tup t3 g1, rfl, _, _, rfl, _, _, rfl, rfl, rfl, ?_⟩
      refine ⟨_, rfl, pe, _, _, _, rfl, rfl, he, atI_nat (j := 0) rfl, rfl, _, rfl, ?_⟩
      have hb2 := hin b hbm
      cases hbe : b.2 with
      | go c =>
        rw [hbe] at he hb2 fin
        refine ifP (decide_eq_true rfl) ?_
        refine ⟨_, rfl, 1, rfl, pe, _, rfl, he, cut_not _ _, fun R nR => ?_⟩
        rw [show (V.str (En.go c).word :: (En.go c).vs) = (V.str "go" :: [.int c]) from rfl, cut_one]
        refine ⟨R, _, rfl, .inr (sqT upd_same), fun l nl => fin R _ nR ?_ l nl⟩
        exact nm_iv (ns := [c]) fun y hy => by have := hb2 y hy; omega
      | iff r c e =>
        rw [hbe] at he hb2 fin
        refine ifN (fun h => absurd (V.str.inj (of_decide_eq_true h)) (show ¬ ("if" : Str) = "go" by decide)) ?_
        refine ⟨_, rfl, 2, rfl, pe, _, rfl, he, cut_not2 _ _, fun R nR => ?_⟩
        rw [show (V.str (En.iff r c e).word :: (En.iff r c e).vs) = (V.str "if" :: .int r :: [.int c, .int e]) from rfl, cut_two]
        refine ⟨R, _, rfl, .inr (sqT upd_same), fun l nl => fin R _ nR ?_ l nl⟩
        exact nm_iv (ns := [c, e]) fun y hy => by have := hb2 y hy; omega
      | fin =>
        rw [hbe] at he hb2 fin
        refine ifN (fun h => absurd (V.str.inj (of_decide_eq_true h)) (by decide)) ?_
        refine ⟨_, rfl, 2, rfl, pe, _, rfl, he, cut_not2 _ _, fun R nR => ?_⟩
        rw [show (V.str (En.fin).word :: (En.fin).vs) = [V.str "end"] from rfl, cut_two1]
        exact ⟨R, _, rfl, .inr (sqT upd_same), fun l nl => fin R _ nR rfl l nl⟩
    obtain ⟨s3, qs, eL, pq⟩ := hP
    rw [List.take_of_length_le (by rw [List.length_map]; omega)] at pq
    have hNx : NL K H3 L (nmL pr) := ⟨qs, sqL eL, pd_mono pq fun _ _ z => z.1⟩
    have hnx : (nmL pr).length = pr.length := List.length_map _
    have t3 := t2.trans s3
    refine ⟨_, rfl, L, nmL pr, rfl, hNx, by omega, fun lp H4 s4 hL4' => ?_⟩
    have hL4 := hL4'.same (new_sub H3 H4)
    have t4 := t3.trans s4
    have hlen : (leadsL (nmL pr)).length = pr.length := by unfold leadsL; rw [List.length_map, List.length_range, hnx]
    refine ⟨_, rfl, p, _, rfl, .inl (t4.seq hp), 1, bs.length, rfl, ⟨by decide, by decide, by omega, by omega⟩, fun L5 nL5 => ?_⟩
    have hm1 : ((bs.length : Int) - 1).toNat = pr.length - 1 := by omega
    refine lc_range (lo := 1) (n := ((bs.length : Int) - 1).toNat) (fun i H5 => Same H4 H5 ∧ H5 L5 = some (.lst (((List.range i).map fun t => ledAt pr (t + 1)).map V.bl))) ⟨new_same nL5, upd_same⟩ (fun i H5 hi hP => ?_) (fun H5 hP => ?_)
    · obtain ⟨s5, eL5⟩ := hP
      have e1 : (1 : Int) + (i : Nat) = ((i + 1 : Nat) : Int) := by omega
      have hk : i + 1 < pr.length := by omega
      obtain ⟨us', qa, u1, u2, u3, u4⟩ := (hL4.same s5).at (leads_at hk)
      rw [e1]
      refine ⟨rfl, .ref lp, rfl, iv (i + 1), rfl, lp, us', _, .ref qa, rfl, rfl, u1, u3, Nat.zero_le _, fun e0 ne0 => ?_⟩
      have s6 := new_same (o := .lst []) ne0
      have step : ∀ (b : Bool) (H6 : Hp), ledAt pr (i + 1) = b → Same H5 H6 → ∃ acc, H6 L5 = some (.lst acc) ∧ acc.length < sizeLine ∧ Same H4 (upd H6 L5 (.lst (acc ++ [.bl b]))) ∧ upd H6 L5 (.lst (acc ++ [.bl b])) L5 = some (.lst (((List.range (i + 1)).map fun t => ledAt pr (t + 1)).map V.bl)) := fun b H6 hb s' => by
        refine ⟨_, s' _ _ eL5, ?_, fun c o z => ?_, ?_⟩
        · rw [List.length_map, List.length_map, List.length_range]
          exact szt (by omega)
        · rw [upd_ne (ne_of_none z nL5)]
          exact s' _ _ (s5 _ _ z)
        · rw [upd_same, List.range_succ, List.map_append, List.map_append, ← hb]
          rfl
      refine ⟨qa, e0, (LD pr (i + 1)).map iv, rfl, rfl, .inr ⟨s6.seq u4, sqL upd_same⟩, _, rfl, ?_⟩
      generalize upd H5 e0 (.lst []) = H6 at s6
      cases hLD : LD pr (i + 1) with
      | nil => exact step false H6 (by unfold ledAt; rw [hLD]) s6
      | cons j tl =>
        rw [hLD] at u4
        refine ⟨.ref lp, rfl, iv (i + 1), rfl, lp, us', _, .ref qa, rfl, rfl, s6.seq u1, u3, qa, _, _, iv j, rfl, rfl, s6.seq u4, atI_nat (j := 0) rfl, _, rfl, _, _, rfl, rfl, ?_⟩
        have ej : decide ((j : Int) < ((i + 1 : Nat) : Int)) = decide (j < i + 1) := decide_eq_decide.mpr (by omega)
        have := step (decide (j < i + 1)) H6 (by unfold ledAt; rw [hLD]) s6
        rw [← ej] at this
        exact this
    obtain ⟨s5, eL5⟩ := hP
    have t5 := t4.trans s5
    rw [hm1] at eL5
    have hal : (((List.range (pr.length - 1)).map fun t => ledAt pr (t + 1)).all id) = (List.range (pr.length - 1)).all fun t => ledAt pr (t + 1) := by rw [List.all_map]; rfl
    refine ⟨_, _, rfl, sqL eL5, _, rfl, ?_⟩
    rw [hal]
    refine ite2 (fun e5 => ?_) (fun e5 => ?_)
    · refine q' H5 false t5 ⟨fun z => (by cases z), fun z => ?_⟩
      rw [ledAt_iff.mpr z.1] at e5
      cases e5
    have hLed : LawLed pr := ledAt_iff.mp (notF e5)
    refine ⟨_, rfl, L, nmL pr, rfl, hNx.same (s4.trans s5), by omega, by omega, fun xs hx => ?_, fun op ab H6 s6 hab' hablen _ habv => ?_⟩
    · obtain ⟨b, hb, rfl⟩ := List.mem_map.mp hx
      refine ⟨nm_len b.2, fun y hy => ?_⟩
      obtain ⟨z, hz', rfl⟩ := List.mem_map.mp hy
      have := hin b hb z hz'
      omega
    have hab := hab'.same (new_sub H5 H6)
    have t6 := t5.trans s6
    have era6 : H6 ra = some (.lst us) := s6 _ _ (s5 _ _ (s4 _ _ (s3 _ _ era)))
    have eba6 : H6 ba = some (.lst ((ownL pr pr.length).map iv)) := s6 _ _ (s5 _ _ (s4 _ _ (s3 _ _ eba)))
    have hus6 : Paired (RzAt K H6) us (rowsL pr) := pd_mono hus fun _ _ z => z.same (((s3.trans s4).trans s5).trans s6)
    have hL6 := hL4.same (s5.trans s6)
    have hul : us.length = (rowsL pr).length := pd_len hus
    refine ⟨_, rfl, ra, rfl, ⟨_, sqL era6⟩, fun L7 nL7 => ?_⟩
    refine lc_list (K := K) (a := ra) (xs := us) (fun i H7 => Same H6 H7 ∧ H7 L7 = some (.lst ((((rowsL pr).take i).map Rz.worthy).map V.bl))) ⟨new_same nL7, upd_same⟩ (fun i H7 _ hP => sqL (hP.1 _ _ era6)) (fun i x H7 hx hP => ?_) (fun H7 hP => ?_)
    · obtain ⟨s7, eL7⟩ := hP
      obtain ⟨r, hr1, hr2⟩ := pd_at2 hus6 hx
      obtain ⟨pe, xs', rfl, he, hxs⟩ := (hr2.same s7).at
      have hil := (List.getElem?_eq_some_iff.mp hr1).1
      have hwl : (rowsL pr).length ≤ 12 * 130 := Nat.le_trans (rowsL_len (n := 130) fun b hb => (bB b hb).1) (Nat.mul_le_mul_right _ b12)
      refine ⟨rfl, _, rfl, pe, _, _, _, rfl, rfl, he, atI_nat (j := 0) rfl, by show 2 ≤ sizeLine; decide, fun tp' ntp' => ⟨tp', _, rfl, .inr (sqT upd_same), rfl, rfl, _, new_same ntp' _ _ eL7, ?_, fun c o z => ?_, ?_⟩⟩
      · rw [List.length_map, List.length_map, List.length_take]
        exact szt (by omega)
      · rw [upd_ne (ne_of_none z nL7)]
        exact new_same ntp' _ _ (s7 _ _ z)
      · rw [upd_same, List.take_add_one, hr1, List.map_append, List.map_append]
        have e : (!inV (.str r.w) [.str "lay", .str "tell"]) = r.worthy := by
          rw [inV2]
          cases r with
          | bin b x y => cases b <;> rfl
          | _ => (first | rfl | decide)
        show some (HO.lst (_ ++ [V.bl (!inV (.str r.w) [.str "lay", .str "tell"])])) = _
        rw [e]
        rfl
    obtain ⟨s7, eL7⟩ := hP
    rw [hul, List.take_length] at eL7
    have t7 := t6.trans s7
    have era7 := s7 _ _ era6
    have eba7 := s7 _ _ eba6
    have hus7 : Paired (RzAt K H7) us (rowsL pr) := pd_mono hus6 fun _ _ z => z.same s7
    have hL7 := hL6.same s7
    have hab7 : NL K H7 op (abv (nmL pr)) := by rw [← habv]; exact hab.same s7
    have hwl : (rowsL pr).length ≤ 12 * 130 := Nat.le_trans (rowsL_len (n := 130) fun b hb => (bB b hb).1) (Nat.mul_le_mul_right _ b12)
    have rowIn : ∀ {k : Nat} {r : Rz}, (rowsL pr)[k]? = some r → RwG r ∧ InB (((rowsL pr).length : Nat) - 1) r ∧ r.nms.length ≤ 10000 := fun {k r} h => by
      obtain ⟨b, j, h1, h2, _⟩ := pos_own h
      have hbm := List.mem_of_getElem? h1
      have hrm := List.mem_of_getElem? h2
      exact ⟨((hF b hbm).1 r hrm).1, ((hF b hbm).1 r hrm).2, (bB b hbm).2 r hrm⟩
    clear hd hz hEg hB
    refine ⟨_, rfl, ra, _, rfl, sqL era7, ?_⟩
    refine for_it (walk_enum (K := K) (a := ra) (xs := us)) (fun i σ Hx => ∃ y6 y8 y10 y11 : Option V, σ = [some (.ref p), some (.ref ra), some (.ref ba), none, some (.ref L), some (.ref lp), y6, some (.ref op), y8, some (.ref L7), y10, y11, none, none, none, none, none] ∧ Same H7 Hx ∧
      ∀ (j : Nat) (r : Rz), j < i → (rowsL pr)[j]? = some r → LawRow pr j r ((ownL pr pr.length).getD j 0)) ⟨none, none, none, none, rfl, fun _ _ z => z, fun j r hj => absurd hj (Nat.not_lt_zero _)⟩ (fun i σ Hx _ hP => ?_) (fun i xv σ Hx Hy hi hP hY => ?_) (fun σ Hx hP => ?_)
    · obtain ⟨_, _, _, _, _, sx, _⟩ := hP
      exact sqL (sx _ _ era7)
    · obtain ⟨y6, y8, y10, y11, rfl, sx, hU⟩ := hP
      obtain ⟨T, x1, x2, rfl, nT, rfl, e1, e2⟩ := hY
      cases e1
      have e2 : us[i]? = some x2 := e2
      obtain ⟨r, hr1, hr2⟩ := pd_at2 hus7 e2
      obtain ⟨hrG, hrI, hrn⟩ := rowIn hr1
      have hiR := (List.getElem?_eq_some_iff.mp hr1).1
      have sT := new_same (o := .tup [.int (i : Nat), x2]) nT
      have sz := sx.trans sT
      refine ⟨T, _, rfl, sqT upd_same, rfl, _, _, rfl, _, _, rfl, rfl, ?_⟩
      generalize upd Hx T (.tup [.int (i : Nat), x2]) = Hz at sz
      have hbl2 := own_lt' hiR
      have hoa := own_at hiR
      generalize hbe : (ownL pr pr.length).getD i 0 = b at hbl2 hoa
      have bad : ¬ LawRow pr i r b → ∀ Hw, Same H7 Hw → Q (.bl false) Hw := fun n Hw s' => q' Hw false (t7.trans s') ⟨fun z => (by cases z), fun z => absurd (by have := z.2.1 i r hr1; rwa [hbe] at this) n⟩
      refine ⟨.ref ba, rfl, iv i, rfl, ba, _, _, iv b, rfl, rfl, sqL (sz _ _ eba7), atI_nat hoa, ?_⟩
      obtain ⟨pe, xs', rfl, he, hxs⟩ := (hr2.same sz).at
      refine ⟨fun σ' Hw => ∃ y11' : Option V, σ' = [some (.ref p), some (.ref ra), some (.ref ba), none, some (.ref L), some (.ref lp), some (iv i), some (.ref op), some (.ref pe), some (.ref L7), some (iv b), y11', none, none, none, none, none] ∧ Same H7 Hw ∧
        (r.w = "meet" → 2 ≤ (LD pr b).length ∧ r.nms.length = (LD pr b).length ∧ (∀ (j : Nat) (r' : Rz), j < i → (rowsL pr)[j]? = some r' → (ownL pr pr.length).getD j 0 = b → r'.w = "meet") ∧ ∀ (t : Nat) (x : Int) (l : Nat), r.nms[t]? = some x → (LD pr b)[t]? = some l → NmL pr x l), ?_, ?_⟩
      · refine ⟨_, rfl, pe, _, _, _, rfl, rfl, he, atI_nat (j := 0) rfl, rfl, _, rfl, ?_⟩
        by_cases hm : r.w = "meet"
        · refine ifP (decide_eq_true (by rw [hm])) ?_
          have hmp : ∃ ps, r = .meet ps := by
            cases r with
            | meet ps => exact ⟨ps, rfl⟩
            | bin b x y => cases b <;> cases hm
            | _ => cases hm
          obtain ⟨ps, rfl⟩ := hmp
          have hqx : ∃ qa, xs' = [.ref qa] ∧ SqT K Hz qa (ps.map V.int) := by
            cases hxs with
            | cons h0 ht =>
              cases ht
              obtain ⟨qa, rfl, hq⟩ := intsD_at h0
              exact ⟨qa, rfl, hq⟩
          obtain ⟨qa, rfl, hq⟩ := hqx
          have hps : ps.length ≤ 10000 := hrn
          have hpin : ∀ x ∈ ps, 0 ≤ x ∧ x ≤ ((rowsL pr).length : Nat) - 1 := hrI
          have hitn : ((i : Nat) : Int).toNat = i := Int.toNat_natCast i
          refine ⟨_, rfl, _, rfl, by omega, by omega, fun L8 nL8 => ?_⟩
          rw [hitn]
          refine lc_range (lo := 0) (n := i) (fun t H8 => Same Hz H8 ∧ H8 L8 = some (.lst ((AH pr b t).map V.str))) ⟨new_same nL8, upd_same⟩ (fun t H8 ht hP => ?_) (fun H8 hP => ?_)
          · obtain ⟨s8, eL8⟩ := hP
            have s78 := sz.trans s8
            have htR : t < (rowsL pr).length := by omega
            have htu : t < us.length := by omega
            obtain ⟨rt, hrt, hrt2⟩ := pd_at2 hus7 (List.getElem?_eq_getElem htu)
            obtain ⟨pt, xt, hpt, het, _⟩ := (hrt2.same s78).at
            have hs := AH_succ (b := b) hrt
            rw [show (0 : Int) + (t : Nat) = (t : Nat) by omega]
            refine ⟨rfl, .ref ba, rfl, iv t, rfl, ba, _, _, iv ((ownL pr pr.length).getD t 0), rfl, rfl, sqL (s78 _ _ eba7), atI_nat (own_at htR), _, rfl, rfl, _, rfl, ?_⟩
            have eb : decide (iv ((ownL pr pr.length).getD t 0) = iv b) = decide ((ownL pr pr.length).getD t 0 = b) := decide_eq_decide.mpr ⟨fun e => by have := V.int.inj e; omega, fun e => by rw [e]⟩
            rw [eb]
            refine ite2 (fun c => ?_) (fun c => ?_)
            · rw [if_pos (of_decide_eq_true c)] at hs
              refine ⟨.ref ra, rfl, iv t, rfl, ra, us, _, us[t], rfl, rfl, sqL (s78 _ _ era7), atI_nat (List.getElem?_eq_getElem htu), pt, _, _, .str rt.w, hpt, rfl, het, atI_nat (j := 0) rfl, _, eL8, ?_, fun c' o z => ?_, ?_⟩
              · rw [List.length_map]
                exact szt (by have := AH_len pr b t; omega)
              · rw [upd_ne (ne_of_none z nL8)]; exact s8 _ _ z
              · rw [upd_same, hs, List.map_append]; rfl
            · rw [if_neg (of_decide_eq_false (Bool.eq_false_iff.mpr c)), List.append_nil] at hs
              exact ⟨s8, by rw [hs]; exact eL8⟩
          obtain ⟨s8, eL8⟩ := hP
          have s78 := sz.trans s8
          have he8 := Same.tup s8 he
          have hq8 := Same.tup s8 hq
          obtain ⟨ys, ql, u1, u2, u3, u4⟩ := (hL7.same s78).at (leads_at hbl2)
          have hmk : ¬ (2 ≤ (LD pr b).length ∧ ps.length = (LD pr b).length ∧ (∀ (j : Nat) (r' : Rz), j < i → (rowsL pr)[j]? = some r' → (ownL pr pr.length).getD j 0 = b → r'.w = "meet") ∧ ∀ (t : Nat) (x : Int) (l : Nat), ps[t]? = some x → (LD pr b)[t]? = some l → NmL pr x l) → ∀ Hw, Same H7 Hw → Q (.bl false) Hw := fun n => bad fun z => n (z.meet rfl)
          refine ⟨.ref lp, rfl, iv b, rfl, lp, ys, _, .ref ql, rfl, rfl, u1, u3, ql, _, rfl, .inl u4, _, _, rfl, rfl, _, rfl, ite2 (fun c1 => ?_) (fun c1 => ?_)⟩
          · refine hmk (fun z => ?_) H8 s78
            have := of_decide_eq_true c1
            rw [List.length_map] at this
            have := z.1
            omega
          have l2 : 2 ≤ (LD pr b).length := by
            have : ¬ (((LD pr b).map iv).length : Int) < 2 := fun z => c1 (decide_eq_true z)
            rw [List.length_map] at this
            omega
          refine ⟨_, rfl, pe, _, _, .ref qa, rfl, rfl, he8, atI_nat (j := 1) rfl, qa, _, rfl, .inr hq8, .ref lp, rfl, iv b, rfl, lp, ys, _, .ref ql, rfl, rfl, u1, u3, ql, _, rfl, .inl u4, rfl, _, rfl, ite2 (fun c2 => ?_) (fun c2 => ?_)⟩
          · refine hmk (fun z => ?_) H8 s78
            exact of_decide_eq_false (notT c2) (by rw [List.length_map, List.length_map, z.2.1])
          have ln : ps.length = (LD pr b).length := by
            have := V.int.inj (of_decide_eq_true (notF c2))
            rw [List.length_map, List.length_map] at this
            omega
          have hahl := AH_len pr b i
          refine ⟨_, rfl, szl (show 1 ≤ 1000000 by decide), fun l1 n1 => ?_⟩
          have a1 := new_same (o := .lst [.str "meet"]) n1
          have k1 : upd H8 l1 (.lst [.str "meet"]) l1 = some (.lst [.str "meet"]) := upd_same
          generalize upd H8 l1 (.lst [.str "meet"]) = H9 at a1 k1
          refine ⟨_, rfl, L8, _, rfl, .inl (sqL (a1 _ _ eL8)), l1, _, _, rfl, rfl, k1, by rw [List.length_map]; omega, by rw [List.length_map]; omega, ?_, fun l2' n2 => ?_⟩
          · rw [Int.toNat_natCast, List.length_map]
            exact szl (by show 1 * (AH pr b i).length ≤ 1000000; omega)
          rw [Int.toNat_natCast, List.length_map, rep_str]
          have a2 := new_same (o := .lst ((List.replicate (AH pr b i).length ("meet" : Str)).map V.str)) n2
          have hok1 : ∀ w ∈ AH pr b i, PyData.strOk w = true := fun w hw => by
            unfold AH at hw
            obtain ⟨j, _, rfl⟩ := List.mem_map.mp hw
            exact rz_strOk _
          have hok2 : ∀ w ∈ List.replicate (AH pr b i).length ("meet" : Str), PyData.strOk w = true := fun w hw => by
            rw [List.eq_of_mem_replicate hw]
            exact rz_strOk (.meet [])
          refine ⟨.list ((AH pr b i).map PyData.str), .list ((List.replicate (AH pr b i).length ("meet" : Str)).map PyData.str), .lst (sqL (a2 _ _ (a1 _ _ eL8))) (dpS _), .lst (sqL upd_same) (dpS _), pdS_shaped hok1, pdS_shaped hok2, _, rfl, ?_⟩
          have s10 := s78.trans (a1.trans a2)
          have he10 := Same.tup (a1.trans a2) he8
          have hq10 := Same.tup (a1.trans a2) hq8
          have u110 := (a1.trans a2).seq u1
          have u410 := (a1.trans a2).seq u4
          generalize upd H9 l2' (.lst ((List.replicate (AH pr b i).length ("meet" : Str)).map V.str)) = H10 at s10 he10 hq10 u110 u410
          have eqe : PyData.eqv (.list ((AH pr b i).map PyData.str)) (.list ((List.replicate (AH pr b i).length ("meet" : Str)).map PyData.str)) = decide (AH pr b i = List.replicate (AH pr b i).length ("meet" : Str)) := by
            rw [← pdS_eqv]
            unfold PyData.eqv
            rfl
          rw [eqe]
          refine ite2 (fun c3 => ?_) (fun c3 => ?_)
          · exact hmk (fun z => of_decide_eq_false (notT c3) ((AH_iff (Nat.le_of_lt hiR)).mpr z.2.2.1)) H10 s10
          have hah := (AH_iff (Nat.le_of_lt hiR)).mp (of_decide_eq_true (notF c3))
          refine ⟨_, rfl, pe, _, _, .ref qa, rfl, rfl, he10, atI_nat (j := 1) rfl, .ref lp, rfl, iv b, rfl, lp, ys, _, .ref ql, rfl, rfl, u110, u3, qa, ql, _, _, rfl, hq10, u410, fun L11 nL11 => ?_⟩
          refine lc_it (walk_zipM (xs := ps.map V.int) (ys := (LD pr b).map iv) (by rw [List.length_map, List.length_map, ln])) (fun t H11 => Same H10 H11 ∧ H11 L11 = some (.lst (((List.range t).map (mtB pr b ps)).map V.bl))) ⟨new_same nL11, upd_same⟩ (fun t H11 _ hP => ⟨Same.tup hP.1 hq10, hP.1.seq u410⟩) (fun t x H11 H12 ht hP hY => ?_) (fun H11 hP => ?_)
          · obtain ⟨s11, eL11⟩ := hP
            obtain ⟨T, x1, x2, rfl, nT, rfl, f1, f2⟩ := hY
            have f1 : (ps.map V.int)[t]? = some x1 := f1
            have f2 : ((LD pr b).map iv)[t]? = some x2 := f2
            rw [List.getElem?_map] at f1 f2
            obtain ⟨x, hx, rfl⟩ := Option.map_eq_some_iff.mp f1
            obtain ⟨l, hl, rfl⟩ := Option.map_eq_some_iff.mp f2
            have hxb := hpin x (List.mem_of_getElem? hx)
            obtain ⟨n, rfl⟩ : ∃ n : Nat, x = (n : Int) := ⟨x.toNat, by omega⟩
            have hn : n < (rowsL pr).length := by omega
            have hlb := LD_lt hbl2 (List.mem_of_getElem? hl)
            have htl := (List.getElem?_eq_some_iff.mp hx).1
            have sT2 := new_same (o := .tup [.int (n : Nat), iv l]) nT
            have s12 := s10.trans (s11.trans sT2)
            have hmt : mtB pr b ps t = (Wt pr n && decide ((ownL pr pr.length).getD n 0 ∈ Ov pr l)) := by
              unfold mtB
              rw [gd (d := (0 : Int)) hx, gd (d := 0) hl, Int.toNat_natCast]
            have app : ∀ bv : Bool, mtB pr b ps t = bv → ∃ acc, upd H11 T (.tup [.int (n : Nat), iv l]) L11 = some (.lst acc) ∧ acc.length < sizeLine ∧ Same H10 (upd (upd H11 T (.tup [.int (n : Nat), iv l])) L11 (.lst (acc ++ [.bl bv]))) ∧ upd (upd H11 T (.tup [.int (n : Nat), iv l])) L11 (.lst (acc ++ [.bl bv])) L11 = some (.lst (((List.range (t + 1)).map (mtB pr b ps)).map V.bl)) := fun bv hbv => by
              refine ⟨_, sT2 _ _ eL11, ?_, fun c o z => ?_, ?_⟩
              · rw [List.length_map, List.length_map, List.length_range]
                exact szt (by omega)
              · rw [upd_ne (ne_of_none z nL11)]; exact sT2 _ _ (s11 _ _ z)
              · rw [upd_same, List.range_succ, List.map_append, List.map_append, ← hbv]
                rfl
            obtain ⟨zs, qo, v1, v2, v3, v4⟩ := (hab7.same s12).at (over_at hlb)
            refine ⟨T, _, rfl, sqT upd_same, rfl, _, _, rfl, _, _, rfl, rfl, rfl, ?_⟩
            refine ⟨.ref L7, rfl, iv n, rfl, L7, _, _, .bl (Wt pr n), rfl, rfl, sqL (s12 _ _ eL7), atI_nat (by rw [List.getElem?_map, Wt_at hn]; rfl), _, rfl, ite2 (fun c4 => ?_) (fun c4 => ?_)⟩
            · refine ⟨.ref ba, rfl, iv n, rfl, ba, _, _, iv ((ownL pr pr.length).getD n 0), rfl, rfl, sqL (s12 _ _ eba7), atI_nat (own_at hn), .ref op, rfl, iv l, rfl, op, zs, _, .ref qo, rfl, rfl, v1, v3, qo, _, rfl, .inl v4, rfl, flat_iv _, ?_⟩
              rw [show (if false = true then !inV (iv ((ownL pr pr.length).getD n 0)) ((Ov pr l).map iv) else inV (iv ((ownL pr pr.length).getD n 0)) ((Ov pr l).map iv)) = decide ((ownL pr pr.length).getD n 0 ∈ Ov pr l) from inV_iv _ _]
              exact app _ (by rw [hmt, c4, Bool.true_and])
            · exact app false (by rw [hmt, Bool.eq_false_iff.mpr c4, Bool.false_and])
          obtain ⟨s11, eL11⟩ := hP
          rw [List.length_map] at eL11
          have hal : (((List.range ps.length).map (mtB pr b ps)).all id) = (List.range ps.length).all (mtB pr b ps) := by rw [List.all_map]; rfl
          have hiff : (List.range ps.length).all (mtB pr b ps) = true ↔ ∀ (t : Nat) (x : Int) (l : Nat), ps[t]? = some x → (LD pr b)[t]? = some l → NmL pr x l := by
            rw [List.all_eq_true]
            constructor
            · intro h t x l hx hl
              have htl := (List.getElem?_eq_some_iff.mp hx).1
              have hxb := hpin x (List.mem_of_getElem? hx)
              have h1 := h t (List.mem_range.mpr htl)
              unfold mtB at h1
              rw [gd (d := (0 : Int)) hx, gd (d := 0) hl] at h1
              obtain ⟨n, rfl⟩ : ∃ n : Nat, x = (n : Int) := ⟨x.toNat, by omega⟩
              rw [Int.toNat_natCast] at h1
              exact (nmL_iff (by omega) (LD_lt hbl2 (List.mem_of_getElem? hl))).mpr h1
            · intro h t ht
              have htl := List.mem_range.mp ht
              have hx := List.getElem?_eq_getElem htl
              have hl := List.getElem?_eq_getElem (show t < (LD pr b).length by omega)
              have hxb := hpin _ (List.mem_of_getElem? hx)
              have h1 := h t _ _ hx hl
              unfold mtB
              rw [gd (d := (0 : Int)) hx, gd (d := 0) hl]
              generalize ps[t] = x at hx hxb h1
              obtain ⟨n, rfl⟩ : ∃ n : Nat, x = (n : Int) := ⟨x.toNat, by omega⟩
              rw [Int.toNat_natCast]
              exact (nmL_iff (by omega) (LD_lt hbl2 (List.mem_of_getElem? hl))).mp h1
          have s12 := s10.trans s11
          refine ⟨_, _, rfl, sqL eL11, _, rfl, ?_⟩
          rw [hal]
          refine ite2 (fun c5 => ?_) (fun c5 => ?_)
          · exact hmk (fun z => by rw [hiff.mpr z.2.2.2] at c5; cases c5) H11 s12
          · exact ⟨_, rfl, s12, fun _ => ⟨l2, ln, hah, hiff.mp (notF c5)⟩⟩
        · refine ifN (fun h => hm (V.str.inj (of_decide_eq_true h))) ?_
          exact ⟨_, rfl, sz, fun z => absurd z hm⟩
      · rintro σ' Hw ⟨y11', rfl, sw, hmt⟩
        have hrw := hr2.same sw
        refine ⟨_, rfl, .ref pe, r, rfl, hrw, hrn, fun ua Hu nua su eua => ⟨ua, rfl, ⟨_, sqL eua⟩, fun L8 nL8 => ?_⟩⟩
        have swu := sw.trans su
        have hui : ∀ {t : Nat} {x : Int}, r.used[t]? = some x → ∃ n : Nat, x = (n : Int) ∧ n < (rowsL pr).length := fun {t x} hx => by
          by_cases hm : r.w = "meet"
          · rw [used_meet r hm] at hx; simp at hx
          · rw [used_nms r hm] at hx
            have := hrI x (List.mem_of_getElem? hx)
            exact ⟨x.toNat, by omega, by omega⟩
        have hul2 : r.used.length ≤ 10000 := by
          by_cases hm : r.w = "meet"
          · rw [used_meet r hm]; exact Nat.zero_le _
          · rw [used_nms r hm]; exact hrn
        refine lc_list (K := K) (a := ua) (xs := r.used.map V.int) (fun t H8 => Same Hu H8 ∧ H8 L8 = some (.lst (((r.used.take t).map fun x => use1 pr b i x.toNat).map V.bl))) ⟨new_same nL8, upd_same⟩ (fun t H8 _ hP => sqL (hP.1 _ _ eua)) (fun t x H8 hx hP => ?_) (fun H8 hP => ?_)
        · obtain ⟨s8, eL8⟩ := hP
          rw [List.getElem?_map] at hx
          obtain ⟨x, hx0, rfl⟩ := Option.map_eq_some_iff.mp hx
          obtain ⟨n, rfl, hn⟩ := hui hx0
          have htl := (List.getElem?_eq_some_iff.mp hx0).1
          have s78 := swu.trans s8
          have app : ∀ bv : Bool, use1 pr b i n = bv → ∃ acc, H8 L8 = some (.lst acc) ∧ acc.length < sizeLine ∧ Same Hu (upd H8 L8 (.lst (acc ++ [.bl bv]))) ∧ upd H8 L8 (.lst (acc ++ [.bl bv])) L8 = some (.lst (((r.used.take (t + 1)).map fun x => use1 pr b i x.toNat).map V.bl)) := fun bv hbv => by
            refine ⟨_, eL8, ?_, fun c o z => ?_, ?_⟩
            · rw [List.length_map, List.length_map, List.length_take]
              exact szt (by omega)
            · rw [upd_ne (ne_of_none z nL8)]; exact s8 _ _ z
            · rw [upd_same, List.take_add_one, hx0, List.map_append, List.map_append, ← hbv]
              rfl
          obtain ⟨ys, qa, u1, u2, u3, u4⟩ := (hab7.same s78).at (over_at hbl2)
          refine ⟨rfl, .ref L7, rfl, iv n, rfl, L7, _, _, .bl (Wt pr n), rfl, rfl, sqL (s78 _ _ eL7), atI_nat (by rw [List.getElem?_map, Wt_at hn]; rfl), _, rfl, ite2 (fun c1 => ?_) (fun c1 => ?_)⟩
          · refine ⟨.ref ba, rfl, iv n, rfl, ba, _, _, iv ((ownL pr pr.length).getD n 0), rfl, rfl, sqL (s78 _ _ eba7), atI_nat (own_at hn), .ref op, rfl, iv b, rfl, op, ys, _, .ref qa, rfl, rfl, u1, u3, qa, _, rfl, .inl u4, rfl, flat_iv _, _, rfl, ?_⟩
            rw [show (if false = true then !inV (iv ((ownL pr pr.length).getD n 0)) ((Ov pr b).map iv) else inV (iv ((ownL pr pr.length).getD n 0)) ((Ov pr b).map iv)) = decide ((ownL pr pr.length).getD n 0 ∈ Ov pr b) from inV_iv _ _]
            refine ite2 (fun c2 => ?_) (fun c2 => ?_)
            · refine ⟨_, rfl, _, rfl, rfl, ?_⟩
              have ek : (!decide (iv n = iv i)) = decide (n ≠ i) := by rw [iv_ne]; by_cases h : n = i <;> simp [h]
              have := app (!decide (iv n = iv i)) (by unfold use1; rw [c1, c2, ek]; rfl)
              exact this
            · exact app false (by unfold use1; rw [c1, Bool.eq_false_iff.mpr c2]; rfl)
          · exact app false (by unfold use1; rw [Bool.eq_false_iff.mpr c1]; rfl)
        obtain ⟨s8, eL8⟩ := hP
        rw [List.length_map, List.take_length] at eL8
        have hal : ((r.used.map fun x => use1 pr b i x.toNat).all id) = r.used.all fun x => use1 pr b i x.toNat := by rw [List.all_map]; rfl
        refine ⟨_, _, rfl, sqL eL8, _, rfl, ?_⟩
        rw [hal]
        have hmem : ∀ {x : Int}, x ∈ r.used → ∃ n : Nat, x = (n : Int) ∧ n < (rowsL pr).length := fun h => by
          obtain ⟨t, ht⟩ := mem_at h
          exact hui ht
        have u1iff : (r.used.all fun x => use1 pr b i x.toNat) = true ↔ ∀ x ∈ r.used, NmL pr x b ∧ x ≠ (i : Nat) := by
          rw [List.all_eq_true]
          refine ⟨fun h x hx => ?_, fun h x hx => ?_⟩
          · obtain ⟨n, rfl, hn⟩ := hmem hx
            have := h _ hx
            rw [Int.toNat_natCast] at this
            unfold use1 at this
            rw [Bool.and_eq_true, Bool.and_eq_true] at this
            refine ⟨(nmL_iff hn hbl2).mpr (by rw [this.1, this.2.1]; rfl), fun z => ?_⟩
            have := of_decide_eq_true this.2.2
            omega
          · obtain ⟨n, rfl, hn⟩ := hmem hx
            obtain ⟨h1, h2⟩ := h _ hx
            have h1 := (nmL_iff hn hbl2).mp h1
            rw [Bool.and_eq_true] at h1
            rw [Int.toNat_natCast]
            unfold use1
            rw [h1.1, h1.2, decide_eq_true (show n ≠ i by omega)]
            rfl
        have s78 := swu.trans s8
        refine ite2 (fun c3 => ?_) (fun c3 => ?_)
        · exact bad (fun z => by rw [u1iff.mpr z.used] at c3; cases c3) H8 s78
        have c3 := u1iff.mp (notF c3)
        refine ⟨_, rfl, .ref pe, r, rfl, hr2.same s78, hrn, fun va Hv nva sv eva => ⟨va, rfl, ⟨_, sqL eva⟩, fun L9 nL9 => ?_⟩⟩
        have s7v := s78.trans sv
        refine lc_list (K := K) (a := va) (xs := r.used.map V.int) (fun t H9 => Same Hv H9 ∧ H9 L9 = some (.lst (((r.used.take t).map fun x => use2 pr b i x.toNat).map V.bl))) ⟨new_same nL9, upd_same⟩ (fun t H9 _ hP => sqL (hP.1 _ _ eva)) (fun t x H9 hx hP => ?_) (fun H9 hP => ?_)
        · obtain ⟨s9, eL9⟩ := hP
          rw [List.getElem?_map] at hx
          obtain ⟨x, hx0, rfl⟩ := Option.map_eq_some_iff.mp hx
          obtain ⟨n, rfl, hn⟩ := hui hx0
          have htl := (List.getElem?_eq_some_iff.mp hx0).1
          have s79 := s7v.trans s9
          have app : ∀ bv : Bool, use2 pr b i n = bv → ∃ acc, H9 L9 = some (.lst acc) ∧ acc.length < sizeLine ∧ Same Hv (upd H9 L9 (.lst (acc ++ [.bl bv]))) ∧ upd H9 L9 (.lst (acc ++ [.bl bv])) L9 = some (.lst (((r.used.take (t + 1)).map fun x => use2 pr b i x.toNat).map V.bl)) := fun bv hbv => by
            refine ⟨_, eL9, ?_, fun c o z => ?_, ?_⟩
            · rw [List.length_map, List.length_map, List.length_take]
              exact szt (by omega)
            · rw [upd_ne (ne_of_none z nL9)]; exact s9 _ _ z
            · rw [upd_same, List.take_add_one, hx0, List.map_append, List.map_append, ← hbv]
              rfl
          refine ⟨rfl, .ref ba, rfl, iv n, rfl, ba, _, _, iv ((ownL pr pr.length).getD n 0), rfl, rfl, sqL (s79 _ _ eba7), atI_nat (own_at hn), _, rfl, rfl, _, rfl, ?_⟩
          have eb : (!decide (iv ((ownL pr pr.length).getD n 0) = iv b)) = decide ((ownL pr pr.length).getD n 0 ≠ b) := by rw [iv_ne]; by_cases h : (ownL pr pr.length).getD n 0 = b <;> simp [h]
          rw [eb]
          refine ite2 (fun c4 => ?_) (fun c4 => ?_)
          · exact app true (by unfold use2; rw [c4]; rfl)
          · refine ⟨_, rfl, _, rfl, _, _, rfl, rfl, ?_⟩
            have ek : decide ((n : Int) < (i : Int)) = decide (n < i) := decide_eq_decide.mpr (by omega)
            have := app (decide (n < i)) (by unfold use2; rw [Bool.eq_false_iff.mpr c4]; rfl)
            rw [← ek] at this
            exact this
        obtain ⟨s9, eL9⟩ := hP
        rw [List.length_map, List.take_length] at eL9
        have hal2 : ((r.used.map fun x => use2 pr b i x.toNat).all id) = r.used.all fun x => use2 pr b i x.toNat := by rw [List.all_map]; rfl
        have u2iff : (r.used.all fun x => use2 pr b i x.toNat) = true ↔ ∀ x ∈ r.used, (ownL pr pr.length).getD x.toNat 0 ≠ b ∨ x < (i : Nat) := by
          rw [List.all_eq_true]
          refine ⟨fun h x hx => ?_, fun h x hx => ?_⟩
          · obtain ⟨n, rfl, hn⟩ := hmem hx
            have := h _ hx
            unfold use2 at this
            rw [Bool.or_eq_true, Int.toNat_natCast] at this
            rw [Int.toNat_natCast]
            rcases this with z | z
            · exact .inl (of_decide_eq_true z)
            · have := of_decide_eq_true z; exact .inr (by omega)
          · obtain ⟨n, rfl, hn⟩ := hmem hx
            have := h _ hx
            rw [Int.toNat_natCast] at this ⊢
            unfold use2
            rw [Bool.or_eq_true]
            rcases this with z | z
            · exact .inl (decide_eq_true z)
            · exact .inr (decide_eq_true (by omega))
        have s79 := s7v.trans s9
        refine ⟨_, _, rfl, sqL eL9, _, rfl, ?_⟩
        rw [hal2]
        refine ite2 (fun c5 => ?_) (fun c5 => ?_)
        · exact bad (fun z => by rw [u2iff.mpr z.ahead] at c5; cases c5) H9 s79
        refine ⟨_, _, _, _, rfl, s79, fun j r' hj hr' => ?_⟩
        by_cases hji : j < i
        · exact hU j r' hji hr'
        · have : j = i := by omega
          subst this
          rw [hr1] at hr'
          cases hr'
          rw [hbe]
          exact ⟨hmt, c3, u2iff.mp (notF c5)⟩
    obtain ⟨y6, y8, y10, y11, rfl, sx, hU⟩ := hP
    have hRows : LawRows pr := fun j r hr => hU j r (by rw [hul]; exact (List.getElem?_eq_some_iff.mp hr).1) hr
    have tx := t7.trans sx
    refine ⟨_, rfl, p, _, rfl, tx.seq hp, ?_⟩
    refine for_it (walk_enum (K := K) (a := p) (xs := bs)) (fun i σ Hw => ∃ y3 y6 y8 y10 y11 y12 : Option V, σ = [some (.ref p), some (.ref ra), some (.ref ba), y3, some (.ref L), some (.ref lp), y6, some (.ref op), y8, some (.ref L7), y10, y11, y12, none, none, none, none] ∧ Same H7 Hw ∧
      ∀ (j : Nat) (b : Blk), j < i → pr[j]? = some b → ∀ (r x y : Int), b.2 = .iff r x y → NmL pr r j) ⟨none, y6, y8, y10, y11, none, rfl, sx, fun j b hj => absurd hj (Nat.not_lt_zero _)⟩ (fun i σ Hw _ hP => ?_) (fun i xv σ Hw Hy hi hP hY => ?_) (fun σ Hw hP => ?_)
    · obtain ⟨_, _, _, _, _, _, _, sw, _⟩ := hP
      exact (t7.trans sw).seq hp
    · obtain ⟨y3, z6, z8, z10, z11, y12, rfl, sw, hV⟩ := hP
      obtain ⟨T, x1, x2, rfl, nT, rfl, e1, e2⟩ := hY
      cases e1
      have e2 : bs[i]? = some x2 := e2
      obtain ⟨b, hb1, pb, rb, ea, vs', rfl, g1, g2, g3, g4⟩ := pd_at2 hbs e2
      have hbm := List.mem_of_getElem? hb1
      have hil := (List.getElem?_eq_some_iff.mp hb1).1
      have sT := new_same (o := .tup [.int (i : Nat), .ref pb]) nT
      have sz := sw.trans sT
      refine ⟨T, _, rfl, sqT upd_same, rfl, _, _, rfl, _, _, rfl, rfl, ?_⟩
      generalize upd Hw T (.tup [.int (i : Nat), .ref pb]) = Hz at sz
      have tz := t7.trans sz
      refine ⟨_, rfl, pb, _, _, _, rfl, rfl, Same.tup tz g1, atI_nat (j := 1) rfl, ?_⟩
      obtain ⟨pe, xs', rfl, he, hxs⟩ := (g4.same tz).at
      have hxe := en_vs hxs
      subst hxe
      have go : (∀ (r x y : Int), b.2 = .iff r x y → NmL pr r i) → ∀ (j : Nat) (b' : Blk), j < i + 1 → pr[j]? = some b' → ∀ (r x y : Int), b'.2 = .iff r x y → NmL pr r j := fun h j b' hj hb' => by
        by_cases hji : j < i
        · exact hV j b' hji hb'
        · have : j = i := by omega
          subst this
          rw [hb1] at hb'
          cases hb'
          exact h
      refine ⟨_, rfl, pe, _, _, _, rfl, rfl, he, atI_nat (j := 0) rfl, rfl, _, rfl, ?_⟩
      cases hbe : b.2 with
      | go c =>
        refine ifN (fun h => absurd (V.str.inj (of_decide_eq_true h)) (show ¬ ("go" : Str) = "if" by decide)) ?_
        exact ifN (by intro h; cases h) ⟨_, _, _, _, _, _, rfl, sz, go fun r x y h => by rw [hbe] at h; cases h⟩
      | fin =>
        refine ifN (fun h => absurd (V.str.inj (of_decide_eq_true h)) (show ¬ ("end" : Str) = "if" by decide)) ?_
        exact ifN (by intro h; cases h) ⟨_, _, _, _, _, _, rfl, sz, go fun r x y h => by rw [hbe] at h; cases h⟩
      | iff r x y =>
        have hE := (hF b hbm).2
        rw [hbe] at hE he
        obtain ⟨n, rfl⟩ : ∃ n : Nat, r = (n : Int) := ⟨r.toNat, by have := hE.1.1; omega⟩
        have hn : n < (rowsL pr).length := by have := hE.1.2; omega
        have fin : ∀ c : Bool, ((Wt pr n && decide ((ownL pr pr.length).getD n 0 ∈ Ov pr i)) = c) → (c = true ↔ NmL pr (n : Int) i) := fun c hc => by rw [nmL_iff hn hil, hc]
        have bad : ¬ NmL pr (n : Int) i → Q (.bl false) Hz := fun h => q' Hz false tz ⟨fun z => (by cases z), fun z => absurd (z.2.2 i b hb1 n x y hbe) h⟩
        obtain ⟨ys, qa, u1, u2, u3, u4⟩ := (hab7.same sz).at (over_at hil)
        refine ifP (decide_eq_true rfl) ?_
        have he' : SqT K Hz pe [.str "if", iv n, .int x, .int y] := he
        refine ⟨.ref L7, rfl, _, rfl, pe, _, _, iv n, rfl, rfl, he', atI_nat (j := 1) rfl, L7, _, _, .bl (Wt pr n), rfl, rfl, sqL (sz _ _ eL7), atI_nat (by rw [List.getElem?_map, Wt_at hn]; rfl), _, rfl, ?_⟩
        refine ite2 (fun c1 => ?_) (fun c1 => ?_)
        · refine ⟨.ref ba, rfl, _, rfl, pe, _, _, iv n, rfl, rfl, he', atI_nat (j := 1) rfl, ba, _, _, iv ((ownL pr pr.length).getD n 0), rfl, rfl, sqL (sz _ _ eba7), atI_nat (own_at hn), .ref op, rfl, iv i, rfl, op, ys, _, .ref qa, rfl, rfl, u1, u3, qa, _, rfl, .inl u4, rfl, flat_iv _, _, rfl, ?_⟩
          rw [show (if false = true then !inV (iv ((ownL pr pr.length).getD n 0)) ((Ov pr i).map iv) else inV (iv ((ownL pr pr.length).getD n 0)) ((Ov pr i).map iv)) = decide ((ownL pr pr.length).getD n 0 ∈ Ov pr i) from inV_iv _ _]
          have f1 := fin (decide ((ownL pr pr.length).getD n 0 ∈ Ov pr i)) (by rw [c1, Bool.true_and])
          refine ite2 (fun c2 => ?_) (fun c2 => ?_)
          · exact bad fun z => by rw [f1.mpr z] at c2; cases c2
          · exact ⟨_, _, _, _, _, _, rfl, sz, go fun r' x' y' h => by rw [hbe] at h; cases h; exact f1.mp (notF c2)⟩
        · have f1 := fin false (by rw [Bool.eq_false_iff.mpr c1, Bool.false_and])
          refine ifP rfl (bad fun z => by have := f1.mpr z; cases this)
    · obtain ⟨y3, z6, z8, z10, z11, y12, rfl, sw, hV⟩ := hP
      exact q' Hw true (t7.trans sw) ⟨fun _ => ⟨hLed, hRows, fun i b hb => hV i b (by rw [hbl]; exact (List.getElem?_eq_some_iff.mp hb).1) hb⟩, fun _ => rfl⟩
end
end Gn
set_option Elab.async false
set_option linter.all false
set_option maxRecDepth 100000
set_option maxHeartbeats 4000000
set_option pp.maxSteps 400
namespace Gn
open PySem PySem.Spec PyProof.Rows L2
/-! ### the maker of things -/
/-- the heap without the tape -/
def wo (t : Addr) (H : Hp) : Hp := fun a => if a = t then none else H a
theorem wo_at {t a : Addr} {H : Hp} {o : HO} (h : H a = some o) (n : a ≠ t) : wo t H a = some o := by unfold wo; rw [if_neg n]; exact h
theorem wo_to {t a : Addr} {H : Hp} {o : HO} (h : wo t H a = some o) : a ≠ t ∧ H a = some o := by
  unfold wo at h
  by_cases e : a = t
  · rw [if_pos e] at h; cases h
  · rw [if_neg e] at h; exact ⟨e, h⟩
theorem wo_but {t : Addr} {H H' : Hp} (h : But t H H') : Same (wo t H) (wo t H') := fun a o e => by
  obtain ⟨n, e⟩ := wo_to e
  exact wo_at (h a o n e) n
theorem wo_same (t : Addr) (H : Hp) : Same (wo t H) H := fun a o e => (wo_to e).2
theorem but_free {t a : Addr} {G G' : Hp} (b : But t G G') (n : G' a = none) (h : a ≠ t) : G a = none := by
  cases e : G a with
  | none => rfl
  | some o => rw [b a o h e] at n; cases n
theorem new_but {t : Addr} {G H H' : Hp} (b : But t H H') (ht : ∃ o, G t = some o) : Same (newOf G H) (newOf G H') := fun a o e => by
  obtain ⟨n, e⟩ := new_of e
  obtain ⟨u, ht⟩ := ht
  exact new_at n (b a o (fun z => by rw [z, ht] at n; cases n) e)
theorem but_fr {t : Addr} {G G' : Hp} (b : But t G G') (ht : ∃ o, G' t = some o) : ∀ a, G' a = none → G a = none := fun a n => by
  obtain ⟨u, ht⟩ := ht
  exact but_free b n fun z => by rw [z, ht] at n; cases n
theorem new_back {G G' H : Hp} (b : ∀ a, G' a = none → G a = none) : Same (newOf G' H) (newOf G H) := fun a o e => by
  obtain ⟨n, e⟩ := new_of e
  exact new_at (b a n) e
def SmallD (d : Dt) : Prop := (∀ ds, d = .tup ds → ds = []) ∧ ∀ ds, d = .lst ds → ds = []
theorem small_sz {d : Dt} (h : SmallD d) : szD d = true := by
  cases d with
  | tup ds => rw [h.1 ds rfl]; rfl
  | lst ds => rw [h.2 ds rfl]; rfl
  | _ => rfl
def spSmall (K : PySem.W.Frag) : Sp := fun vs H Q _ => ∃ (t : Addr) (c : Nat), vs = [.ref t] ∧ Tape H t c ∧ c ≤ 1000000 ∧ ∀ (v : V) (d : Dt) (H' : Hp), DtAt K (newOf H H') v d → SmallD d → But t H H' → Tape H' t (c + 1) → Q v H'
abbrev nSm : List Str := ["_law_tape_here", "_law_some"]
theorem scSm : FnScope nSm ["_law_tape_here"] (defScope sLSmall) := ⟨rfl, rfl, rfl, by decide +kernel, rfl, by decide +kernel, by decide +kernel⟩
section
variable {P0 : Program} {w : World} {K : PySem.W.Frag} {mg : Str → Option Value} {base : Heap}
theorem ok_small {f fD : Addr} {fd fdD : FuncData} {k : Nat} (D : Df K mg "_law_small" sLSmall ["_law_tape_here"] f fd) (B : Bi mg) (DD : Df K mg "_law_draw" sDraw ["_law_tape_here", "_law_many"] fD fdD) (GD : FnOk P0 w K mg base CX0 k fD fdD ["_law_tape_here", "_law_many"] spDraw) : FnOk P0 w K mg base CX0 (k + 1) f fd ["_law_tape_here"] (spSmall K) := by
  refine D.F.ok scSm (fun vs H Q E h => ?_) (fun cdv A outer s H vs Q E hr h => ?_)
  · obtain ⟨t, c, rfl, _⟩ := h
    rfl
  · obtain ⟨t, c, rfl, hT, hc, q⟩ := h
    refine ⟨_, (pss_cons (ps_set (i := 1) scSm.nd rfl (.inl rfl) (pe_lst (pa_cons pe_non (pa_cons pe_bl (pa_cons pe_bl (pa_cons pe_int (pa_cons pe_int (pa_cons pe_int (pa_cons (pe_un un_neg pe_int) (pa_cons pe_int (pa_cons pe_int (pa_cons (pe_op op_pow pe_int pe_int) (pa_cons pe_str (pa_cons pe_str (pa_cons pe_str (pa_cons pe_str (pa_cons (pe_tup pa_nil) (pa_cons (pe_lst pa_nil) (pa_cons pe_dnewK (pa_cons (pe_disp (pps_cons pe_int pe_int pps_nil) (by rfl) (by rfl) (fun z => by cases z) (by decide)) pa_nil))))))))))))))))))))
      (pss_one (ps_ret (pe_ix ix_list (pv 1) (pe_call GD hr (by rfl) DD.g DD.F.kp DD.b .nil pass0 (pa_cons (pv 0) (pa_cons pe_int pa_nil))) (fun _ _ => rfl))))), ?_⟩
    refine ⟨1, rfl, _, _, rfl, rfl, ⟨by decide, by decide, by decide⟩, Nat.zero_le _, fun a1 n1 => ⟨Nat.zero_le _, fun a2 n2 => ?_⟩⟩
    intro a3 n3 a4 n4
    refine ⟨upd_same, [(.inl 0, .int 1)], rfl, by decide, by show 18 ≤ sizeLine; decide, fun L nL => ?_⟩
    obtain ⟨o, ht⟩ := hT.lst
    have s1 := new_same (o := .tup []) n1
    have k1 : upd H a1 (.tup []) a1 = some (.tup []) := upd_same
    generalize upd H a1 (.tup []) = H1 at s1 k1 n2 n3 n4 nL
    have s2 := new_same (o := .lst []) n2
    have k2 : upd H1 a2 (.lst []) a2 = some (.lst []) := upd_same
    generalize upd H1 a2 (.lst []) = H2 at s2 k2 n3 n4 nL
    have s3 := new_same (o := .dK []) n3
    have k3 : upd H2 a3 (.dK []) a3 = some (.dK []) := upd_same
    generalize upd H2 a3 (.dK []) = H3 at s3 k3 n4 nL
    have s4 : Same H3 (upd (upd H3 a4 (.dK [])) a4 (.dK (mergeK [] [(.inl 0, .int 1)]))) := fun b o z => by rw [upd_ne (ne_of_none z n4), upd_ne (ne_of_none z n4)]; exact z
    have k4 : upd (upd H3 a4 (.dK [])) a4 (.dK (mergeK [] [(.inl 0, .int 1)])) a4 = some (.dK (mergeK [] [(.inl 0, .int 1)])) := upd_same
    generalize upd (upd H3 a4 (.dK [])) a4 (.dK (mergeK [] [(.inl 0, .int 1)])) = H4 at s4 k4 nL
    have ne : ∀ {a : Addr} {G : Hp}, Same H G → G a = none → a ≠ t := fun s n z => by rw [z, s _ _ ht] at n; cases n
    have na1 : a1 ≠ t := ne (fun _ _ z => z) n1
    have na2 : a2 ≠ t := ne s1 n2
    have na3 : a3 ≠ t := ne (s1.trans s2) n3
    have na4 : a4 ≠ t := ne ((s1.trans s2).trans s3) n4
    have naL : L ≠ t := ne (((s1.trans s2).trans s3).trans s4) nL
    generalize hxs : ([.non, .bl true, .bl false, .int 0, .int 1, .int 2, .int (-1), .int 5, .int 6, .int (10 ^ (13 : Int).toNat), .str "", .str "end", .str "take", .str "x", .ref a1, .ref a2, .ref a3, .ref a4] : List V) = xs
    have s5 := new_same (o := .lst xs) nL
    have k5 : upd H4 L (.lst xs) L = some (.lst xs) := upd_same
    have sA := (((s1.trans s2).trans s3).trans s4).trans s5
    have hT5 := hT.same sA
    have j1 := s5 _ _ (s4 _ _ (s3 _ _ (s2 _ _ k1)))
    have j2 := s5 _ _ (s4 _ _ (s3 _ _ k2))
    have j3 := s5 _ _ (s4 _ _ k3)
    have j4 := s5 _ _ k4
    generalize upd H4 L (.lst xs) = H5 at sA k5 hT5 j1 j2 j3 j4
    refine ⟨.ref L, rfl, _, rfl, t, 18, c, rfl, hT5, by omega, by decide, by decide, fun r H7 hr7 b7 T7 => ?_⟩
    have f1 := n1
    have f2 := s1.free n2
    have f3 := (s1.trans s2).free n3
    have f4 := ((s1.trans s2).trans s3).free n4
    have hall : DtAll K (newOf H H7) xs [.non, .bl true, .bl false, .int 0, .int 1, .int 2, .int (-1), .int 5, .int 6, .int (10 ^ (13 : Int).toNat), .str "", .str "end", .str "take", .str "x", .tup [], .lst [], .dct, .dct] := by
      rw [← hxs]
      exact .cons .non (.cons (.bl _) (.cons (.bl _) (.cons (.int _) (.cons (.int _) (.cons (.int _) (.cons (.int _) (.cons (.int _) (.cons (.int _) (.cons (.int _) (.cons (.str _) (.cons (.str _) (.cons (.str _) (.cons (.str _) (.cons (.tup (sqT (new_at f1 (b7 _ _ na1 j1))) .nil) (.cons (.lst (new_at f2 (b7 _ _ na2 j2)) .nil) (.cons (.dct (new_at f3 (b7 _ _ na3 j3))) (.cons (.dct (new_at f4 (b7 _ _ na4 j4))) .nil)))))))))))))))))
    have hsm : ∀ d ∈ ([.non, .bl true, .bl false, .int 0, .int 1, .int 2, .int (-1), .int 5, .int 6, .int (10 ^ (13 : Int).toNat), .str "", .str "end", .str "take", .str "x", .tup [], .lst [], .dct, .dct] : List Dt), SmallD d := fun d hd => by
      simp only [List.mem_cons, List.not_mem_nil, or_false] at hd
      rcases hd with rfl | rfl | rfl | rfl | rfl | rfl | rfl | rfl | rfl | rfl | rfl | rfl | rfl | rfl | rfl | rfl | rfl | rfl <;> exact ⟨fun ds z => (by first | (cases z; rfl) | cases z), fun ds z => (by first | (cases z; rfl) | cases z)⟩
    have hxl : xs.length = 18 := by rw [← hxs]; rfl
    have hx := List.getElem?_eq_getElem (show r < xs.length by omega)
    obtain ⟨d, hd, hda⟩ := pd_at2 hall.pd hx
    exact ⟨L, xs, _, _, rfl, rfl, sqL (b7 _ _ naL k5), atI_nat hx, q _ d H7 hda (hsm d (List.mem_of_getElem? hd)) (fun a o n z => b7 a o n (sA _ _ z)) T7⟩
end
end Gn
set_option Elab.async false
set_option linter.all false
set_option maxRecDepth 100000
set_option maxHeartbeats 4000000
set_option pp.maxSteps 400
namespace Gn
open PySem PySem.Spec PyProof.Rows L2
/-! ### a row of any things -/
theorem pd_all {K : PySem.W.Frag} {H : Hp} : ∀ {vs us : List V} {ds es : List Dt}, DtAll K H vs ds → DtAll K H us es → DtAll K H (vs ++ us) (ds ++ es)
  | _, _, _, _, .nil, h => h
  | _, _, _, _, .cons h t, g => .cons h (pd_all t g)
theorem szAll_app : ∀ {ds es : List Dt}, szAll ds = true → szAll es = true → szAll (ds ++ es) = true
  | [], _, _, h => h
  | d :: ds, es, h, g => by
    have h : (szD d && szAll ds) = true := h
    rw [Bool.and_eq_true] at h
    show (szD d && szAll (ds ++ es)) = true
    rw [h.1, szAll_app h.2 g]
    rfl
def spRow (K : PySem.W.Frag) : Sp := fun vs H Q _ => ∃ (t : Addr) (c : Nat), vs = [.ref t] ∧ Tape H t c ∧ c ≤ 900000 ∧ ∀ (v : V) (d : Dt) (H' : Hp), DtAt K (newOf H H') v d → szD d = true → But t H H' → Tape H' t (c + 20) → Q v H'
abbrev nRw : List Str := ["_law_tape_here", "_law_words", "_law_row_here", "_law_turn", "_law_way", "_law_one", "_law_other"]
theorem scRw : FnScope nRw ["_law_tape_here"] (defScope sLRow) := ⟨rfl, rfl, rfl, by decide +kernel, rfl, by decide +kernel, by decide +kernel⟩
section
variable {P0 : Program} {w : World} {K : PySem.W.Frag} {mg : Str → Option Value} {base : Heap}
theorem ok_row {f fD fS : Addr} {fd fdD fdS : FuncData} {k : Nat} (D : Df K mg "_law_row" sLRow ["_law_tape_here"] f fd) (B : Bi mg) (DD : Df K mg "_law_draw" sDraw ["_law_tape_here", "_law_many"] fD fdD) (GD : FnOk P0 w K mg base CX0 k fD fdD ["_law_tape_here", "_law_many"] spDraw)
    (DS : Df K mg "_law_small" sLSmall ["_law_tape_here"] fS fdS) (GS : FnOk P0 w K mg base CX0 k fS fdS ["_law_tape_here"] (spSmall K)) : FnOk P0 w K mg base CX0 (k + 1) f fd ["_law_tape_here"] (spRow K) := by
  refine D.F.ok scRw (fun vs H Q E h => ?_) (fun cdv A outer s H vs Q E hr h => ?_)
  · obtain ⟨t, c, rfl, _⟩ := h
    rfl
  · obtain ⟨t, c, rfl, hT, hc, q⟩ := h
    refine ⟨_, (pss_cons (ps_set (i := 1) scRw.nd rfl (.inl rfl) (pe_lst (pa_cons pe_str (pa_cons pe_str (pa_cons pe_str (pa_cons pe_str (pa_cons pe_str (pa_cons pe_str (pa_cons pe_str (pa_cons pe_str (pa_cons pe_str (pa_cons pe_str (pa_cons pe_str (pa_cons pe_str (pa_cons pe_str pa_nil)))))))))))))))
      (pss_cons (ps_set (i := 2) scRw.nd rfl (.inl rfl) (pe_lst (pa_cons (pe_ix ix_list (pv 1) (pe_call GD hr (by rfl) DD.g DD.F.kp DD.b .nil pass0 (pa_cons (pv 0) (pa_cons pe_int pa_nil))) (fun _ _ => rfl)) pa_nil)))
      (pss_cons (ps_for PassesOwn.never rfl (pi_range1 (by rfl) B.range (pa_cons (pe_call GD hr (by rfl) DD.g DD.F.kp DD.b .nil pass0 (pa_cons (pv 0) (pa_cons pe_int pa_nil))) pa_nil)) (pg_name (i := 3) scRw.nd rfl (.inl rfl)) (pss_cons (ps_set (i := 4) scRw.nd rfl (.inl rfl) (pe_call GD hr (by rfl) DD.g DD.F.kp DD.b .nil pass0 (pa_cons (pv 0) (pa_cons pe_int pa_nil))))
      (pss_cons (ps_par (i := 5) (j := 6) rfl scRw.nd rfl rfl (by decide) rfl rfl (pa_cons (pe_call GS hr (by rfl) DS.g DS.F.kp DS.b .nil pass0 (pa_cons (pv 0) pa_nil)) (pa_cons (pe_call GD hr (by rfl) DD.g DD.F.kp DD.b .nil pass0 (pa_cons (pv 0) (pa_cons pe_int pa_nil))) pa_nil)) rfl)
      (pss_one (ps_expr (pe_bm PySem.F.plainAttrs_list PySem.F.slot_list_append PySem.F.type_list_append mt_append (pv 2) (pa_cons (pe_ix ix_list (pe_lst (pa_cons (pv 5) (pa_cons (pv 6) (pa_cons (pe_tup (pa_cons (pv 6) pa_nil)) (pa_cons (pe_tup (pa_cons (pv 6) (pa_cons (pe_op op_add (pv 6) pe_int) pa_nil))) pa_nil))))) (pv 4) (fun _ _ => rfl)) pa_nil)))))))
      (pss_one (ps_ret (pe_ix ix_list (pe_lst (pa_cons (pe_callTy call_tuple_of (by rfl) B.tuple PyProof.Rows.boot_tuple (pa_cons (pv 2) pa_nil)) (pa_cons (pv 2) pa_nil))) (pe_callTy call_int1 (by rfl) B.int PyProof.Rows.boot_int (pa_cons (pe_cmpR op_eq (pe_call GD hr (by rfl) DD.g DD.F.kp DD.b .nil pass0 (pa_cons (pv 0) (pa_cons pe_int pa_nil))) pe_int (nomark _)) pa_nil)) (fun _ _ => rfl))))))), ?_⟩
    have ne : ∀ {a : Addr} {G : Hp} {c' : Nat}, Tape G t c' → G a = none → a ≠ t := fun hG n z => by
      obtain ⟨o, ho⟩ := hG.lst
      rw [z, ho] at n
      cases n
    refine ⟨by show 13 ≤ sizeLine; decide, fun L nL => ?_⟩
    generalize hws : ([.str "take", .str "num", .str "sum", .str "less", .str "times", .str "same", .str "below", .str "pick", .str "meet", .str "look", .str "lay", .str "tell", .str "row"] : List V) = ws
    have naL := ne hT nL
    have s1 := new_same (o := .lst ws) nL
    have k1 : upd H L (.lst ws) L = some (.lst ws) := upd_same
    have T1 := hT.same s1
    generalize upd H L (.lst ws) = H1 at s1 k1 T1
    refine ⟨.ref L, rfl, _, rfl, t, 13, c, rfl, T1, by omega, by decide, by decide, fun r H2 hr2 b2 T2 => ?_⟩
    have hwl : ws.length = 13 := by rw [← hws]; rfl
    have hx := List.getElem?_eq_getElem (show r < ws.length by omega)
    have hst : ∃ wd : Str, ws[r] = .str wd := by
      have hm := List.mem_of_getElem? hx
      have : ∀ v ∈ ws, ∃ wd : Str, v = .str wd := by
        rw [← hws]
        intro v hv
        simp only [List.mem_cons, List.not_mem_nil, or_false] at hv
        rcases hv with rfl | rfl | rfl | rfl | rfl | rfl | rfl | rfl | rfl | rfl | rfl | rfl | rfl <;> exact ⟨_, rfl⟩
      exact this _ hm
    obtain ⟨wd, hwd⟩ := hst
    refine ⟨L, ws, _, .str wd, rfl, rfl, sqL (b2 _ _ naL k1), atI_nat (by rw [hx, hwd]), szl (show 1 ≤ 1000000 by decide), fun R nR => ?_⟩
    have naR := ne T2 nR
    have B0 : But t H H2 := fun a o n z => b2 a o n (s1 _ _ z)
    have nRH : H R = none := by
      cases e : H R with
      | none => rfl
      | some o => rw [B0 R o naR e] at nR; cases nR
    have s2 := new_same (o := .lst [.str wd]) nR
    have k2 : upd H2 R (.lst [.str wd]) R = some (.lst [.str wd]) := upd_same
    have T2' := T2.same s2
    have B2 : But t H (upd H2 R (.lst [.str wd])) := fun a o n z => s2 _ _ (B0 a o n z)
    generalize upd H2 R (.lst [.str wd]) = H3 at k2 T2' B2
    have kt3 := T2'.lst
    refine ⟨_, rfl, t, 4, c + 1, rfl, T2', by omega, by decide, by decide, fun m H4 hm4 b4 T4 => ⟨_, rfl, by omega, by omega, ?_⟩⟩
    refine for_range (lo := 0) (n := (m : Int).toNat) (fun i σ Hx => ∃ (y3 y4 y5 y6 : Option V) (us : List V) (ds : List Dt), σ = [some (.ref t), some (.ref L), some (.ref R), y3, y4, y5, y6] ∧ But t H Hx ∧ Tape Hx t (c + 2 + 4 * i) ∧ Hx R = some (.lst (.str wd :: us)) ∧ us.length = i ∧ DtAll K (newOf H3 Hx) us ds ∧ szAll ds = true ∧ ∀ a, Hx a = none → H3 a = none)
      ⟨none, none, none, none, [], [], rfl, fun a o n z => b4 a o n (B2 a o n z), T4, b4 _ _ naR k2, rfl, .nil, rfl, but_fr b4 T4.lst⟩ (fun i σ Hx hi hP => ?_) (fun σ Hx hP => ?_)
    · obtain ⟨y3, y4, y5, y6, us, ds, rfl, bx, Tx, ex, hul, hds, hsz, b3⟩ := hP
      have hi4 : i < 4 := by omega
      refine ⟨_, rfl, t, 4, c + 2 + 4 * i, rfl, Tx, by omega, by decide, by decide, fun wy H5 hwy b5 T5 => ?_⟩
      refine ⟨_, rfl, t, c + 2 + 4 * i + 1, rfl, T5, by omega, fun v d H6 hv hsm b6 T6 => ?_⟩
      refine ⟨_, rfl, t, 3, c + 2 + 4 * i + 1 + 1, rfl, T6, by omega, by decide, by decide, fun ot H7 hot b7 T7 => ?_⟩
      refine ⟨_, _, rfl, ?_⟩
      have ex5 := b5 _ _ naR ex
      have ex6 := b6 _ _ naR ex5
      have ex7 := b7 _ _ naR ex6
      have bx7 : But t Hx H7 := fun a o n z => b7 a o n (b6 a o n (b5 a o n z))
      refine ⟨.ref R, rfl, .inl ⟨rfl, _, sqL ex7⟩, v, rfl, .int ot, rfl, _, rfl, szl (show 1 ≤ 1000000 by decide), fun a1 n1 => ⟨_, rfl, _, rfl, _, _, rfl, rfl, szl (show 2 ≤ 1000000 by decide), fun a2 n2 => ⟨szl (show 4 ≤ 1000000 by decide), fun M nM => ?_⟩⟩⟩
      have na1 := ne T7 n1
      have g1 := new_same (o := .tup [.int (ot : Nat)]) n1
      have q1 : upd H7 a1 (.tup [.int (ot : Nat)]) a1 = some (.tup [.int (ot : Nat)]) := upd_same
      have T8 := T7.same g1
      have ex8 := g1 _ _ ex7
      have na1R : a1 ≠ R := fun z => by rw [z, ex7] at n1; cases n1
      generalize upd H7 a1 (.tup [.int (ot : Nat)]) = H8 at g1 q1 T8 ex8 n2 nM
      have na2 := ne T8 n2
      have na2R : a2 ≠ R := fun z => by rw [z, ex8] at n2; cases n2
      have g2 := new_same (o := .tup [.int (ot : Nat), .int ((ot : Nat) + 1)]) n2
      have q2 : upd H8 a2 (.tup [.int (ot : Nat), .int ((ot : Nat) + 1)]) a2 = some (.tup [.int (ot : Nat), .int ((ot : Nat) + 1)]) := upd_same
      have T9 := T8.same g2
      have ex9 := g2 _ _ ex8
      have q1' := g2 _ _ q1
      generalize upd H8 a2 (.tup [.int (ot : Nat), .int ((ot : Nat) + 1)]) = H9 at g2 q2 T9 ex9 q1' nM
      have g3 := new_same (o := .lst [v, .int (ot : Nat), .ref a1, .ref a2]) nM
      have q3 : upd H9 M (.lst [v, .int (ot : Nat), .ref a1, .ref a2]) M = some (.lst [v, .int (ot : Nat), .ref a1, .ref a2]) := upd_same
      have T10 := T9.same g3
      have ex10 := g3 _ _ ex9
      have q1'' := g3 _ _ q1'
      have q2' := g3 _ _ q2
      generalize upd H9 M (.lst [v, .int (ot : Nat), .ref a1, .ref a2]) = H10 at g3 q3 T10 ex10 q1'' q2'
      have b10 : But t H7 H10 := fun a o n z => g3 _ _ (g2 _ _ (g1 _ _ z))
      have bx10 : But t Hx H10 := fun a o n z => b10 a o n (bx7 a o n z)
      have b3x : ∀ a, H7 a = none → H3 a = none := fun a n => b3 a (but_fr bx7 T7.lst a n)
      have hv10 : DtAt K (newOf H3 H10) v d := by
        have h1 : DtAt K (newOf H3 H6) v d := DtAt.same (new_back fun a n => b3 a (but_fr b5 T5.lst a n)) d hv
        exact DtAt.same (new_but (t := t) (fun a o n z => b10 a o n (b7 a o n z)) kt3) d h1
      have f1 : H3 a1 = none := b3x _ n1
      have f2 : H3 a2 = none := b3x _ (g1.free n2)
      have hall : DtAll K (newOf H3 H10) [v, .int (ot : Nat), .ref a1, .ref a2] [d, .int (ot : Nat), .tup [.int (ot : Nat)], .tup [.int (ot : Nat), .int ((ot : Nat) + 1)]] :=
        .cons hv10 (.cons (.int _) (.cons (.tup (sqT (new_at f1 q1'')) (.cons (.int _) .nil)) (.cons (.tup (sqT (new_at f2 q2')) (.cons (.int _) (.cons (.int _) .nil))) .nil)))
      have hszs : ∀ e ∈ ([d, .int (ot : Nat), .tup [.int (ot : Nat)], .tup [.int (ot : Nat), .int ((ot : Nat) + 1)]] : List Dt), szD e = true := fun e he => by
        simp only [List.mem_cons, List.not_mem_nil, or_false] at he
        rcases he with rfl | rfl | rfl | rfl
        · exact small_sz hsm
        · rfl
        · rfl
        · rfl
      obtain ⟨pv, hxy⟩ : ∃ pv, ([v, .int (ot : Nat), .ref a1, .ref a2] : List V)[wy]? = some pv := ⟨_, List.getElem?_eq_getElem (show wy < ([v, .int (ot : Nat), .ref a1, .ref a2] : List V).length by show wy < 4; omega)⟩
      obtain ⟨dd, hdd, hdda⟩ := pd_at2 hall.pd hxy
      have hdz := hszs dd (List.mem_of_getElem? hdd)
      refine ⟨.int wy, rfl, M, _, wy, pv, rfl, rfl, sqL q3, atI_nat hxy, R, _, _, rfl, rfl, ex10, ?_, ?_⟩
      · rw [List.length_cons]
        exact szt (by omega)
      have keep : Same (newOf H3 H10) (newOf H3 (upd H10 R (.lst (.str wd :: us ++ [pv])))) := fun a o z => by
        obtain ⟨n', z'⟩ := new_of z
        exact new_at n' (by rw [upd_ne (fun z2 => by rw [z2, k2] at n'; cases n')]; exact z')
      refine ⟨_, _, _, _, us ++ [pv], ds ++ [dd], rfl, fun a o n z => ?_, ?_, upd_same, by rw [List.length_append, hul]; rfl, ?_, szAll_app hsz (by show (szD dd && true) = true; rw [hdz]; rfl), ?_⟩
      · rw [upd_ne (fun z' => by rw [z', nRH] at z; cases z)]
        exact bx10 a o n (bx a o n z)
      · obtain ⟨tx, ty, tn, h1, h2⟩ := T10
        exact ⟨tx, ty, tn, by rw [upd_ne naR.symm]; exact h1, h2.1, h2.2.1, h2.2.2.1, h2.2.2.2.1, by have := h2.2.2.2.2; omega⟩
      · exact DtAll.same keep _ (pd_all (DtAll.same (new_but (t := t) bx10 kt3) _ hds) (.cons hdda .nil))
      · intro a n
        have na : a ≠ R := fun z => by rw [z, upd_same] at n; cases n
        rw [upd_ne na] at n
        exact b3 a (but_fr bx10 T10.lst a n)
    · obtain ⟨y3, y4, y5, y6, us, ds, rfl, bx, Tx, ex, hul, hds, hsz, b3⟩ := hP
      have hm3 : (m : Int).toNat ≤ 3 := by omega
      generalize (m : Int).toNat = mm at hul Tx hm3
      refine ⟨_, rfl, R, _, rfl, .inl ⟨sqL ex, fun l nl => ⟨_, rfl, szl (show 2 ≤ 1000000 by decide), fun M nM => ?_⟩⟩⟩
      have nal := ne Tx nl
      have g1 := new_same (o := .tup (.str wd :: us)) nl
      have q1 : upd Hx l (.tup (.str wd :: us)) l = some (.tup (.str wd :: us)) := upd_same
      have T2x := Tx.same g1
      have ex2 := g1 _ _ ex
      have nlR : l ≠ R := fun z => by rw [z, ex] at nl; cases nl
      generalize upd Hx l (.tup (.str wd :: us)) = Ha at g1 q1 T2x ex2 nM
      have naM := ne T2x nM
      have g2 := new_same (o := .lst [.ref l, .ref R]) nM
      have q2 : upd Ha M (.lst [.ref l, .ref R]) M = some (.lst [.ref l, .ref R]) := upd_same
      have T3x := T2x.same g2
      have ex3 := g2 _ _ ex2
      have q1' := g2 _ _ q1
      generalize upd Ha M (.lst [.ref l, .ref R]) = Hb at g2 q2 T3x ex3 q1'
      refine ⟨_, rfl, t, 8, c + 2 + 4 * mm, rfl, T3x, by omega, by decide, by decide, fun e Hc hec bc Tc => ?_⟩
      have bxc : But t H Hc := fun a o n z => bc a o n (g2 _ _ (g1 _ _ (bx a o n z)))
      have hdc : DtAll K (newOf H Hc) us ds := by
        have h1 : DtAll K (newOf H3 Hc) us ds := DtAll.same (new_but (t := t) (fun a o n z => bc a o n (g2 _ _ (g1 _ _ z))) kt3) _ hds
        exact DtAll.same (new_back (but_fr B2 kt3)) _ h1
      have flH : H l = none := but_free bx nl nal
      have hzz : szD (.tup (.str wd :: ds)) = true ∧ szD (.lst (.str wd :: ds)) = true := by
        have hl : ds.length ≤ 3 := by rw [← hds.len]; omega
        have h : (decide ((Dt.str wd :: ds).length ≤ 4000) && (true && szAll ds)) = true := by
          rw [hsz, decide_eq_true (by rw [List.length_cons]; omega)]
          rfl
        exact ⟨h, h⟩
      have fin : ∀ {v : V} {d : Dt}, DtAt K (newOf H Hc) v d → szD d = true → Q v Hc := fun {v d} hv hz' => by
        refine q v d Hc hv hz' bxc ?_
        obtain ⟨tx, ty, tn, h1, h2⟩ := Tc
        exact ⟨tx, ty, tn, h1, h2.1, h2.2.1, h2.2.2.1, h2.2.2.2.1, by have := h2.2.2.2.2; omega⟩
      refine ⟨rfl, .inr ⟨_, rfl, ?_⟩⟩
      have hM : SqL K Hc M [.ref l, .ref R] := sqL (bc _ _ naM q2)
      generalize decide (V.int (e : Nat) = V.int 0) = be
      cases be with
      | true => exact ⟨M, _, _, .ref R, rfl, rfl, hM, atI_nat (j := 1) rfl, fin (.lst (new_at nRH (bc _ _ naR ex3)) (.cons (.str wd) hdc)) hzz.2⟩
      | false => exact ⟨M, _, _, .ref l, rfl, rfl, hM, atI_nat (j := 0) rfl, fin (.tup (sqT (new_at flH (bc _ _ nal q1'))) (.cons (.str wd) hdc)) hzz.1⟩
end
end Gn
set_option Elab.async false
set_option linter.all false
set_option maxRecDepth 100000
set_option maxHeartbeats 4000000
set_option pp.maxSteps 400
namespace Gn
open PySem PySem.Spec PyProof.Rows L2
/-! ### a block of any things -/
def BlkG (d : Dt) : Prop := ∀ rs e, d = .tup [.lst rs, e] → rs.length ≤ 2 ∧ EndG e
def spBlock (K : PySem.W.Frag) : Sp := fun vs H Q _ => ∃ (t : Addr) (c : Nat), vs = [.ref t] ∧ Tape H t c ∧ c ≤ 800000 ∧ ∀ (v : V) (d : Dt) (H' : Hp), DtAt K (newOf H H') v d → szD d = true → BlkG d → But t H H' → Tape H' t (c + 80) → Q v H'
abbrev nBk : List Str := ["_law_tape_here", "_law_rows", "_law_ends", "_law_end", "_law_turn"]
theorem scBk : FnScope nBk ["_law_tape_here"] (defScope sLBlock) := ⟨rfl, rfl, rfl, by decide +kernel, rfl, by decide +kernel, by decide +kernel⟩
theorem endG_of {w : Str} {ns : List Int} (h : w = "go" ∨ w = "if" ∨ w = "end") : EndG (.tup (.str w :: ns.map Dt.int)) := fun w' ds e => by
  cases e
  exact ⟨h, ns, rfl⟩
section
variable {P0 : Program} {w : World} {K : PySem.W.Frag} {mg : Str → Option Value} {base : Heap}
theorem ok_block {f fD fS fR : Addr} {fd fdD fdS fdR : FuncData} {k : Nat} (D : Df K mg "_law_block" sLBlock ["_law_tape_here"] f fd) (B : Bi mg) (DD : Df K mg "_law_draw" sDraw ["_law_tape_here", "_law_many"] fD fdD) (GD : FnOk P0 w K mg base CX0 k fD fdD ["_law_tape_here", "_law_many"] spDraw)
    (DS : Df K mg "_law_small" sLSmall ["_law_tape_here"] fS fdS) (GS : FnOk P0 w K mg base CX0 k fS fdS ["_law_tape_here"] (spSmall K))
    (DR : Df K mg "_law_row" sLRow ["_law_tape_here"] fR fdR) (GR : FnOk P0 w K mg base CX0 k fR fdR ["_law_tape_here"] (spRow K)) : FnOk P0 w K mg base CX0 (k + 1) f fd ["_law_tape_here"] (spBlock K) := by
  refine D.F.ok scBk (fun vs H Q E h => ?_) (fun cdv A outer s H vs Q E hr h => ?_)
  · obtain ⟨t, c, rfl, _⟩ := h
    rfl
  · obtain ⟨t, c, rfl, hT, hc, q⟩ := h
    refine ⟨_, (pss_cons (ps_setLc (i := 1) (own := [("_law_turn", 4)]) (g := (gName 4)) (tt := tYes) (te := (tCall (spRow K) [] E0 (tCons (tVar 0) tNil))) (by rfl) scBk.nd rfl rfl (sw_true rfl rfl rfl (by decide +kernel)) (pi_range1 (by rfl) B.range (pa_cons (pe_call GD hr (by rfl) DD.g DD.F.kp DD.b .nil pass0 (pa_cons (pv 0) (pa_cons pe_int pa_nil))) pa_nil)) (blkOk_by (own := [("_law_turn", 4)]) (N := nBk) (sc := defScope sLBlock) (by decide +kernel)) (fun _ _ _ _ _ => (pg_name (i := 4) scBk.nd rfl (.inl rfl))) (fun _ _ _ _ _ => pts_nil) (fun _ _ _ _ _ => (pe_call GR hr (by rfl) DR.g DR.F.kp DR.b .nil pass0 (pa_cons (pv 0) pa_nil))))
      (pss_cons (ps_set (i := 2) scBk.nd rfl (.inl rfl) (pe_lst (pa_cons (pe_tup (pa_cons pe_str pa_nil)) (pa_cons (pe_tup (pa_cons pe_str (pa_cons pe_int pa_nil))) (pa_cons (pe_tup (pa_cons pe_str (pa_cons pe_int (pa_cons pe_int (pa_cons pe_int pa_nil))))) (pa_cons (pe_lst (pa_cons pe_str pa_nil)) (pa_cons (pe_tup (pa_cons pe_str pa_nil)) (pa_cons (pe_tup (pa_cons pe_str (pa_cons pe_int pa_nil))) (pa_cons (pe_tup (pa_cons pe_str (pa_cons pe_int (pa_cons pe_int (pa_cons pe_int pa_nil))))) (pa_cons (pe_call GS hr (by rfl) DS.g DS.F.kp DS.b .nil pass0 (pa_cons (pv 0) pa_nil)) pa_nil))))))))))
      (pss_cons (ps_set (i := 3) scBk.nd rfl (.inl rfl) (pe_ix ix_list (pv 2) (pe_op op_mul (pe_call GD hr (by rfl) DD.g DD.F.kp DD.b .nil pass0 (pa_cons (pv 0) (pa_cons pe_int pa_nil))) (pe_callTy call_int1 (by rfl) B.int PyProof.Rows.boot_int (pa_cons (pe_cmpR op_eq (pe_call GD hr (by rfl) DD.g DD.F.kp DD.b .nil pass0 (pa_cons (pv 0) (pa_cons pe_int pa_nil))) pe_int (nomark _)) pa_nil))) (fun _ _ => rfl)))
      (pss_one (ps_ret (pe_ix ix_list (pe_lst (pa_cons (pe_tup (pa_cons (pv 1) (pa_cons (pv 3) pa_nil))) (pa_cons (pe_tup (pa_cons (pv 1) (pa_cons (pv 3) pa_nil))) (pa_cons (pe_lst (pa_cons (pv 1) (pa_cons (pv 3) pa_nil))) (pa_cons (pe_tup (pa_cons (pe_callTy call_tuple_of (by rfl) B.tuple PyProof.Rows.boot_tuple (pa_cons (pv 1) pa_nil)) (pa_cons (pv 3) pa_nil))) (pa_cons (pe_tup (pa_cons (pv 1) pa_nil)) (pa_cons (pe_tup (pa_cons (pv 1) (pa_cons (pv 3) (pa_cons (pv 3) pa_nil)))) pa_nil))))))) (pe_call GD hr (by rfl) DD.g DD.F.kp DD.b .nil pass0 (pa_cons (pv 0) (pa_cons pe_int pa_nil))) (fun _ _ => rfl))))))), ?_⟩
    have ne : ∀ {a : Addr} {G : Hp} {c' : Nat}, Tape G t c' → G a = none → a ≠ t := fun hG n z => by
      obtain ⟨o, ho⟩ := hG.lst
      rw [z, ho] at n
      cases n
    refine ⟨_, rfl, t, 3, c, rfl, hT, by omega, by decide, by decide, fun m H1 hm b1 T1 => ⟨_, rfl, by omega, by omega, fun R nR => ?_⟩⟩
    have naR := ne T1 nR
    have nRH : H R = none := but_fr b1 T1.lst R nR
    have hm2 : (m : Int).toNat ≤ 2 := by omega
    have kR := new_same (o := .lst []) nR
    have T1' := T1.same kR
    refine lc_range (lo := 0) (n := (m : Int).toNat) (fun i Hx => ∃ (us : List V) (ds : List Dt), But t H Hx ∧ Tape Hx t (c + 1 + 20 * i) ∧ Hx R = some (.lst us) ∧ us.length = i ∧ DtAll K (newOf (upd H1 R (.lst [])) Hx) us ds ∧ szAll ds = true ∧ ∀ a, Hx a = none → upd H1 R (.lst []) a = none)
      ⟨[], [], fun a o n z => kR _ _ (b1 a o n z), T1', upd_same, rfl, .nil, rfl, fun _ z => z⟩ (fun i Hx hi hP => ?_) (fun Hx hP => ?_)
    · obtain ⟨us, ds, bx, Tx, ex, hul, hds, hsz, fr⟩ := hP
      refine ⟨rfl, _, rfl, t, c + 1 + 20 * i, rfl, Tx, by omega, fun v d H2 hv hzv b2 T2 => ⟨us, b2 _ _ naR ex, szt (by omega), us ++ [v], ds ++ [d], fun a o n z => ?_, ?_, upd_same, by rw [List.length_append, hul]; rfl, ?_, szAll_app hsz (by show (szD d && true) = true; rw [hzv]; rfl), fun a n => ?_⟩⟩
      · rw [upd_ne (ne_of_none z nRH)]
        exact b2 a o n (bx a o n z)
      · obtain ⟨tx, ty, tn, h1, h2⟩ := T2
        exact ⟨tx, ty, tn, by rw [upd_ne naR.symm]; exact h1, h2.1, h2.2.1, h2.2.2.1, h2.2.2.2.1, by have := h2.2.2.2.2; omega⟩
      · have keep : Same (newOf (upd H1 R (.lst [])) H2) (newOf (upd H1 R (.lst [])) (upd H2 R (.lst (us ++ [v])))) := fun a o z => by
          obtain ⟨n', z'⟩ := new_of z
          exact new_at n' (by rw [upd_ne (fun z2 => by rw [z2, upd_same] at n'; cases n')]; exact z')
        refine DtAll.same keep _ (pd_all (DtAll.same (new_but (t := t) b2 T1'.lst) _ hds) (.cons (DtAt.same (new_back fr) d hv) .nil))
      · have na : a ≠ R := fun z => by rw [z, upd_same] at n; cases n
        rw [upd_ne na] at n
        exact fr a (but_fr b2 T2.lst a n)
    obtain ⟨us, rs, bx, Tx, ex, hul, hrs, hsz, fr⟩ := hP
    have hrl : rs.length ≤ 2 := by rw [← hrs.len, hul]; exact hm2
    generalize (m : Int).toNat = mm at hul Tx hm2
    have hrs' : DtAll K (newOf H Hx) us rs := DtAll.same (new_back fun a n => (but_fr b1 T1.lst a (kR.free n))) _ hrs
    have RD : DtAt K (newOf H Hx) (.ref R) (.lst rs) := .lst (new_at nRH ex) hrs'
    have kt : ∃ o, H t = some o := hT.lst
    clear hrs
    have b0 : But t Hx Hx := But.refl t Hx
    have bc : But t H Hx := bx
    have Tc := Tx
    have ex0 := ex
    refine ⟨szl (show 1 ≤ 1000000 by decide), fun e1 n_e1 => ?_⟩
    have f_e1 : H e1 = none := but_fr bc Tc.lst e1 n_e1
    have na_e1 := ne Tc n_e1
    have g_e1 := new_same (o := .tup [.str "end"]) n_e1
    have q_e1 : upd Hx e1 (.tup [.str "end"]) e1 = some (.tup [.str "end"]) := upd_same
    replace b0 : But t Hx (upd Hx e1 (.tup [.str "end"])) := fun b o' n z => g_e1 _ _ (b0 b o' n z)
    replace bc : But t H (upd Hx e1 (.tup [.str "end"])) := fun b o' n z => g_e1 _ _ (bc b o' n z)
    replace Tc := Tc.same g_e1
    replace ex := g_e1 _ _ ex
    generalize upd Hx e1 (.tup [.str "end"]) = G1 at b0 bc Tc q_e1 g_e1 ex
    refine ⟨szl (show 2 ≤ 1000000 by decide), fun e2 n_e2 => ?_⟩
    have f_e2 : H e2 = none := but_fr bc Tc.lst e2 n_e2
    have na_e2 := ne Tc n_e2
    have g_e2 := new_same (o := .tup [.str "go", .int 1]) n_e2
    have q_e2 : upd G1 e2 (.tup [.str "go", .int 1]) e2 = some (.tup [.str "go", .int 1]) := upd_same
    replace b0 : But t Hx (upd G1 e2 (.tup [.str "go", .int 1])) := fun b o' n z => g_e2 _ _ (b0 b o' n z)
    replace bc : But t H (upd G1 e2 (.tup [.str "go", .int 1])) := fun b o' n z => g_e2 _ _ (bc b o' n z)
    replace Tc := Tc.same g_e2
    replace ex := g_e2 _ _ ex
    replace q_e1 := g_e2 _ _ q_e1
    generalize upd G1 e2 (.tup [.str "go", .int 1]) = G2 at b0 bc Tc q_e2 g_e2 ex q_e1
    refine ⟨szl (show 4 ≤ 1000000 by decide), fun e3 n_e3 => ?_⟩
    have f_e3 : H e3 = none := but_fr bc Tc.lst e3 n_e3
    have na_e3 := ne Tc n_e3
    have g_e3 := new_same (o := .tup [.str "if", .int 0, .int 1, .int 2]) n_e3
    have q_e3 : upd G2 e3 (.tup [.str "if", .int 0, .int 1, .int 2]) e3 = some (.tup [.str "if", .int 0, .int 1, .int 2]) := upd_same
    replace b0 : But t Hx (upd G2 e3 (.tup [.str "if", .int 0, .int 1, .int 2])) := fun b o' n z => g_e3 _ _ (b0 b o' n z)
    replace bc : But t H (upd G2 e3 (.tup [.str "if", .int 0, .int 1, .int 2])) := fun b o' n z => g_e3 _ _ (bc b o' n z)
    replace Tc := Tc.same g_e3
    replace ex := g_e3 _ _ ex
    replace q_e1 := g_e3 _ _ q_e1
    replace q_e2 := g_e3 _ _ q_e2
    generalize upd G2 e3 (.tup [.str "if", .int 0, .int 1, .int 2]) = G3 at b0 bc Tc q_e3 g_e3 ex q_e1 q_e2
    refine ⟨szl (show 1 ≤ 1000000 by decide), fun e4 n_e4 => ?_⟩
    have f_e4 : H e4 = none := but_fr bc Tc.lst e4 n_e4
    have na_e4 := ne Tc n_e4
    have g_e4 := new_same (o := .lst [.str "end"]) n_e4
    have q_e4 : upd G3 e4 (.lst [.str "end"]) e4 = some (.lst [.str "end"]) := upd_same
    replace b0 : But t Hx (upd G3 e4 (.lst [.str "end"])) := fun b o' n z => g_e4 _ _ (b0 b o' n z)
    replace bc : But t H (upd G3 e4 (.lst [.str "end"])) := fun b o' n z => g_e4 _ _ (bc b o' n z)
    replace Tc := Tc.same g_e4
    replace ex := g_e4 _ _ ex
    replace q_e1 := g_e4 _ _ q_e1
    replace q_e2 := g_e4 _ _ q_e2
    replace q_e3 := g_e4 _ _ q_e3
    generalize upd G3 e4 (.lst [.str "end"]) = G4 at b0 bc Tc q_e4 g_e4 ex q_e1 q_e2 q_e3
    refine ⟨szl (show 1 ≤ 1000000 by decide), fun e5 n_e5 => ?_⟩
    have f_e5 : H e5 = none := but_fr bc Tc.lst e5 n_e5
    have na_e5 := ne Tc n_e5
    have g_e5 := new_same (o := .tup [.str "go"]) n_e5
    have q_e5 : upd G4 e5 (.tup [.str "go"]) e5 = some (.tup [.str "go"]) := upd_same
    replace b0 : But t Hx (upd G4 e5 (.tup [.str "go"])) := fun b o' n z => g_e5 _ _ (b0 b o' n z)
    replace bc : But t H (upd G4 e5 (.tup [.str "go"])) := fun b o' n z => g_e5 _ _ (bc b o' n z)
    replace Tc := Tc.same g_e5
    replace ex := g_e5 _ _ ex
    replace q_e1 := g_e5 _ _ q_e1
    replace q_e2 := g_e5 _ _ q_e2
    replace q_e3 := g_e5 _ _ q_e3
    replace q_e4 := g_e5 _ _ q_e4
    generalize upd G4 e5 (.tup [.str "go"]) = G5 at b0 bc Tc q_e5 g_e5 ex q_e1 q_e2 q_e3 q_e4
    refine ⟨szl (show 2 ≤ 1000000 by decide), fun e6 n_e6 => ?_⟩
    have f_e6 : H e6 = none := but_fr bc Tc.lst e6 n_e6
    have na_e6 := ne Tc n_e6
    have g_e6 := new_same (o := .tup [.str "end", .int 0]) n_e6
    have q_e6 : upd G5 e6 (.tup [.str "end", .int 0]) e6 = some (.tup [.str "end", .int 0]) := upd_same
    replace b0 : But t Hx (upd G5 e6 (.tup [.str "end", .int 0])) := fun b o' n z => g_e6 _ _ (b0 b o' n z)
    replace bc : But t H (upd G5 e6 (.tup [.str "end", .int 0])) := fun b o' n z => g_e6 _ _ (bc b o' n z)
    replace Tc := Tc.same g_e6
    replace ex := g_e6 _ _ ex
    replace q_e1 := g_e6 _ _ q_e1
    replace q_e2 := g_e6 _ _ q_e2
    replace q_e3 := g_e6 _ _ q_e3
    replace q_e4 := g_e6 _ _ q_e4
    replace q_e5 := g_e6 _ _ q_e5
    generalize upd G5 e6 (.tup [.str "end", .int 0]) = G6 at b0 bc Tc q_e6 g_e6 ex q_e1 q_e2 q_e3 q_e4 q_e5
    refine ⟨szl (show 4 ≤ 1000000 by decide), fun e7 n_e7 => ?_⟩
    have f_e7 : H e7 = none := but_fr bc Tc.lst e7 n_e7
    have na_e7 := ne Tc n_e7
    have g_e7 := new_same (o := .tup [.str "if", .int 0, .int 1, .int 1]) n_e7
    have q_e7 : upd G6 e7 (.tup [.str "if", .int 0, .int 1, .int 1]) e7 = some (.tup [.str "if", .int 0, .int 1, .int 1]) := upd_same
    replace b0 : But t Hx (upd G6 e7 (.tup [.str "if", .int 0, .int 1, .int 1])) := fun b o' n z => g_e7 _ _ (b0 b o' n z)
    replace bc : But t H (upd G6 e7 (.tup [.str "if", .int 0, .int 1, .int 1])) := fun b o' n z => g_e7 _ _ (bc b o' n z)
    replace Tc := Tc.same g_e7
    replace ex := g_e7 _ _ ex
    replace q_e1 := g_e7 _ _ q_e1
    replace q_e2 := g_e7 _ _ q_e2
    replace q_e3 := g_e7 _ _ q_e3
    replace q_e4 := g_e7 _ _ q_e4
    replace q_e5 := g_e7 _ _ q_e5
    replace q_e6 := g_e7 _ _ q_e6
    generalize upd G6 e7 (.tup [.str "if", .int 0, .int 1, .int 1]) = G7 at b0 bc Tc q_e7 g_e7 ex q_e1 q_e2 q_e3 q_e4 q_e5 q_e6
    refine ⟨_, rfl, t, c + 1 + 20 * mm, rfl, Tc, by omega, fun sv sd Gs hsv hsm bs Ts => ?_⟩
    replace ex := bs _ _ naR ex
    replace q_e1 := bs _ _ na_e1 q_e1
    replace q_e2 := bs _ _ na_e2 q_e2
    replace q_e3 := bs _ _ na_e3 q_e3
    replace q_e4 := bs _ _ na_e4 q_e4
    replace q_e5 := bs _ _ na_e5 q_e5
    replace q_e6 := bs _ _ na_e6 q_e6
    replace q_e7 := bs _ _ na_e7 q_e7
    have hsv' : DtAt K (newOf H Gs) sv sd := DtAt.same (new_back (but_fr bc Tc.lst)) sd hsv
    replace b0 : But t Hx Gs := fun b o' n z => bs b o' n (b0 b o' n z)
    replace bc : But t H Gs := fun b o' n z => bs b o' n (bc b o' n z)
    replace Tc := Ts
    refine ⟨szl (show 8 ≤ 1000000 by decide), fun M n_M => ?_⟩
    have f_M : H M = none := but_fr bc Tc.lst M n_M
    have na_M := ne Tc n_M
    have g_M := new_same (o := .lst [.ref e1, .ref e2, .ref e3, .ref e4, .ref e5, .ref e6, .ref e7, sv]) n_M
    have q_M : upd Gs M (.lst [.ref e1, .ref e2, .ref e3, .ref e4, .ref e5, .ref e6, .ref e7, sv]) M = some (.lst [.ref e1, .ref e2, .ref e3, .ref e4, .ref e5, .ref e6, .ref e7, sv]) := upd_same
    replace b0 : But t Hx (upd Gs M (.lst [.ref e1, .ref e2, .ref e3, .ref e4, .ref e5, .ref e6, .ref e7, sv])) := fun b o' n z => g_M _ _ (b0 b o' n z)
    replace bc : But t H (upd Gs M (.lst [.ref e1, .ref e2, .ref e3, .ref e4, .ref e5, .ref e6, .ref e7, sv])) := fun b o' n z => g_M _ _ (bc b o' n z)
    replace Tc := Tc.same g_M
    replace ex := g_M _ _ ex
    replace q_e1 := g_M _ _ q_e1
    replace q_e2 := g_M _ _ q_e2
    replace q_e3 := g_M _ _ q_e3
    replace q_e4 := g_M _ _ q_e4
    replace q_e5 := g_M _ _ q_e5
    replace q_e6 := g_M _ _ q_e6
    replace q_e7 := g_M _ _ q_e7
    generalize upd Gs M (.lst [.ref e1, .ref e2, .ref e3, .ref e4, .ref e5, .ref e6, .ref e7, sv]) = G8 at b0 bc Tc q_M g_M ex q_e1 q_e2 q_e3 q_e4 q_e5 q_e6 q_e7
    replace hsv' := DtAt.same (new_but (t := t) (fun b o' n z => g_M _ _ z) kt) sd hsv'
    refine ⟨.ref M, rfl, _, rfl, t, 8, _, rfl, Tc, by omega, by decide, by decide, fun r1 Ga hr1 ba Ta => ?_⟩
    refine ⟨_, rfl, t, 2, _, rfl, Ta, by omega, by decide, by decide, fun r2 Gb hr2 bb Tb => ?_⟩
    refine ⟨rfl, .inr ⟨_, rfl, _, _, rfl, rfl, .inr (b01 _), ?_⟩⟩
    have bab : But t G8 Gb := fun b o' n z => bb b o' n (ba b o' n z)
    replace ex := bab _ _ naR ex
    replace q_e1 := bab _ _ na_e1 q_e1
    replace q_e2 := bab _ _ na_e2 q_e2
    replace q_e3 := bab _ _ na_e3 q_e3
    replace q_e4 := bab _ _ na_e4 q_e4
    replace q_e5 := bab _ _ na_e5 q_e5
    replace q_e6 := bab _ _ na_e6 q_e6
    replace q_e7 := bab _ _ na_e7 q_e7
    replace q_M := bab _ _ na_M q_M
    replace b0 : But t Hx Gb := fun b o' n z => bab b o' n (b0 b o' n z)
    replace bc : But t H Gb := fun b o' n z => bab b o' n (bc b o' n z)
    replace hsv' := DtAt.same (new_but (t := t) bab kt) sd hsv'
    have hall : DtAll K (newOf H Gb) [.ref e1, .ref e2, .ref e3, .ref e4, .ref e5, .ref e6, .ref e7, sv] [.tup [.str "end"], .tup [.str "go", .int 1], .tup [.str "if", .int 0, .int 1, .int 2], .lst [.str "end"], .tup [.str "go"], .tup [.str "end", .int 0], .tup [.str "if", .int 0, .int 1, .int 1], sd] :=
      .cons (.tup (sqT (new_at f_e1 q_e1)) (.cons (.str _) .nil)) (.cons (.tup (sqT (new_at f_e2 q_e2)) (.cons (.str _) (.cons (.int _) .nil))) (.cons (.tup (sqT (new_at f_e3 q_e3)) (.cons (.str _) (.cons (.int _) (.cons (.int _) (.cons (.int _) .nil)))))
        (.cons (.lst (new_at f_e4 q_e4) (.cons (.str _) .nil)) (.cons (.tup (sqT (new_at f_e5 q_e5)) (.cons (.str _) .nil)) (.cons (.tup (sqT (new_at f_e6 q_e6)) (.cons (.str _) (.cons (.int _) .nil)))
        (.cons (.tup (sqT (new_at f_e7 q_e7)) (.cons (.str _) (.cons (.int _) (.cons (.int _) (.cons (.int _) .nil))))) (.cons hsv' .nil)))))))
    have hprop : ∀ d ∈ ([.tup [.str "end"], .tup [.str "go", .int 1], .tup [.str "if", .int 0, .int 1, .int 2], .lst [.str "end"], .tup [.str "go"], .tup [.str "end", .int 0], .tup [.str "if", .int 0, .int 1, .int 1], sd] : List Dt), szD d = true ∧ EndG d := fun d hd => by
      simp only [List.mem_cons, List.not_mem_nil, or_false] at hd
      rcases hd with rfl | rfl | rfl | rfl | rfl | rfl | rfl | rfl
      · exact ⟨rfl, endG_of (ns := []) (.inr (.inr rfl))⟩
      · exact ⟨rfl, endG_of (ns := [1]) (.inl rfl)⟩
      · exact ⟨rfl, endG_of (ns := [0, 1, 2]) (.inr (.inl rfl))⟩
      · exact ⟨rfl, fun w ds e => by cases e⟩
      · exact ⟨rfl, endG_of (ns := []) (.inl rfl)⟩
      · exact ⟨rfl, endG_of (ns := [0]) (.inr (.inr rfl))⟩
      · exact ⟨rfl, endG_of (ns := [0, 1, 1]) (.inr (.inl rfl))⟩
      · exact ⟨small_sz hsm, fun w ds e => by have := hsm.1 _ e; cases this⟩
    obtain ⟨ix, hix, hixe⟩ : ∃ ix : Nat, ix < 8 ∧ (r1 : Int) * (if decide (V.int (r2 : Nat) = V.int 0) = true then 1 else 0) = (ix : Int) := by
      generalize decide (V.int (r2 : Nat) = V.int 0) = bb
      cases bb
      · exact ⟨0, by decide, by simp⟩
      · exact ⟨r1, by omega, by simp⟩
    obtain ⟨ev, hev⟩ : ∃ ev, ([.ref e1, .ref e2, .ref e3, .ref e4, .ref e5, .ref e6, .ref e7, sv] : List V)[ix]? = some ev := ⟨_, List.getElem?_eq_getElem (show ix < ([.ref e1, .ref e2, .ref e3, .ref e4, .ref e5, .ref e6, .ref e7, sv] : List V).length from hix)⟩
    obtain ⟨ed, hed, heda⟩ := pd_at2 hall.pd hev
    obtain ⟨hez, heG⟩ := hprop ed (List.mem_of_getElem? hed)
    refine ⟨M, _, _, ev, rfl, congrArg V.int hixe, sqL q_M, atI_nat hev, ?_⟩
    have RD' : DtAt K (newOf H Gb) (.ref R) (.lst rs) := DtAt.same (new_but (t := t) b0 kt) _ RD
    have hus' : DtAll K (newOf H Gb) us rs := DtAll.same (new_but (t := t) b0 kt) _ hrs'
    have heda' := heda
    clear hall hprop hev hed q_M q_e1 q_e2 q_e3 q_e4 q_e5 q_e6 q_e7 hsv'
    replace Tc := Tb
    replace b0 : But t Gb Gb := But.refl t Gb
    refine ⟨_, rfl, _, rfl, szl (show 2 ≤ 1000000 by decide), fun t1 n_t1 => ?_⟩
    have f_t1 : H t1 = none := but_fr bc Tc.lst t1 n_t1
    have na_t1 := ne Tc n_t1
    have g_t1 := new_same (o := .tup [.ref R, ev]) n_t1
    have q_t1 : upd Gb t1 (.tup [.ref R, ev]) t1 = some (.tup [.ref R, ev]) := upd_same
    replace b0 : But t Gb (upd Gb t1 (.tup [.ref R, ev])) := fun b o' n z => g_t1 _ _ (b0 b o' n z)
    replace bc : But t H (upd Gb t1 (.tup [.ref R, ev])) := fun b o' n z => g_t1 _ _ (bc b o' n z)
    replace Tc := Tc.same g_t1
    replace ex := g_t1 _ _ ex
    generalize upd Gb t1 (.tup [.ref R, ev]) = J1 at b0 bc Tc q_t1 g_t1 ex
    refine ⟨_, rfl, _, rfl, szl (show 2 ≤ 1000000 by decide), fun t2 n_t2 => ?_⟩
    have f_t2 : H t2 = none := but_fr bc Tc.lst t2 n_t2
    have na_t2 := ne Tc n_t2
    have g_t2 := new_same (o := .tup [.ref R, ev]) n_t2
    have q_t2 : upd J1 t2 (.tup [.ref R, ev]) t2 = some (.tup [.ref R, ev]) := upd_same
    replace b0 : But t Gb (upd J1 t2 (.tup [.ref R, ev])) := fun b o' n z => g_t2 _ _ (b0 b o' n z)
    replace bc : But t H (upd J1 t2 (.tup [.ref R, ev])) := fun b o' n z => g_t2 _ _ (bc b o' n z)
    replace Tc := Tc.same g_t2
    replace ex := g_t2 _ _ ex
    replace q_t1 := g_t2 _ _ q_t1
    generalize upd J1 t2 (.tup [.ref R, ev]) = J2 at b0 bc Tc q_t2 g_t2 ex q_t1
    refine ⟨_, rfl, _, rfl, szl (show 2 ≤ 1000000 by decide), fun t3 n_t3 => ?_⟩
    have f_t3 : H t3 = none := but_fr bc Tc.lst t3 n_t3
    have na_t3 := ne Tc n_t3
    have g_t3 := new_same (o := .lst [.ref R, ev]) n_t3
    have q_t3 : upd J2 t3 (.lst [.ref R, ev]) t3 = some (.lst [.ref R, ev]) := upd_same
    replace b0 : But t Gb (upd J2 t3 (.lst [.ref R, ev])) := fun b o' n z => g_t3 _ _ (b0 b o' n z)
    replace bc : But t H (upd J2 t3 (.lst [.ref R, ev])) := fun b o' n z => g_t3 _ _ (bc b o' n z)
    replace Tc := Tc.same g_t3
    replace ex := g_t3 _ _ ex
    replace q_t1 := g_t3 _ _ q_t1
    replace q_t2 := g_t3 _ _ q_t2
    generalize upd J2 t3 (.lst [.ref R, ev]) = J3 at b0 bc Tc q_t3 g_t3 ex q_t1 q_t2
    refine ⟨_, rfl, R, _, rfl, .inl ⟨sqL ex, fun tu n_tu => ?_⟩⟩
    have f_tu : H tu = none := but_fr bc Tc.lst tu n_tu
    have na_tu := ne Tc n_tu
    have g_tu := new_same (o := .tup us) n_tu
    have q_tu : upd J3 tu (.tup us) tu = some (.tup us) := upd_same
    replace b0 : But t Gb (upd J3 tu (.tup us)) := fun b o' n z => g_tu _ _ (b0 b o' n z)
    replace bc : But t H (upd J3 tu (.tup us)) := fun b o' n z => g_tu _ _ (bc b o' n z)
    replace Tc := Tc.same g_tu
    replace ex := g_tu _ _ ex
    replace q_t1 := g_tu _ _ q_t1
    replace q_t2 := g_tu _ _ q_t2
    replace q_t3 := g_tu _ _ q_t3
    generalize upd J3 tu (.tup us) = J4 at b0 bc Tc q_tu g_tu ex q_t1 q_t2 q_t3
    refine ⟨_, rfl, szl (show 2 ≤ 1000000 by decide), fun t4 n_t4 => ?_⟩
    have f_t4 : H t4 = none := but_fr bc Tc.lst t4 n_t4
    have na_t4 := ne Tc n_t4
    have g_t4 := new_same (o := .tup [.ref tu, ev]) n_t4
    have q_t4 : upd J4 t4 (.tup [.ref tu, ev]) t4 = some (.tup [.ref tu, ev]) := upd_same
    replace b0 : But t Gb (upd J4 t4 (.tup [.ref tu, ev])) := fun b o' n z => g_t4 _ _ (b0 b o' n z)
    replace bc : But t H (upd J4 t4 (.tup [.ref tu, ev])) := fun b o' n z => g_t4 _ _ (bc b o' n z)
    replace Tc := Tc.same g_t4
    replace ex := g_t4 _ _ ex
    replace q_t1 := g_t4 _ _ q_t1
    replace q_t2 := g_t4 _ _ q_t2
    replace q_t3 := g_t4 _ _ q_t3
    replace q_tu := g_t4 _ _ q_tu
    generalize upd J4 t4 (.tup [.ref tu, ev]) = J5 at b0 bc Tc q_t4 g_t4 ex q_t1 q_t2 q_t3 q_tu
    refine ⟨_, rfl, szl (show 1 ≤ 1000000 by decide), fun t5 n_t5 => ?_⟩
    have f_t5 : H t5 = none := but_fr bc Tc.lst t5 n_t5
    have na_t5 := ne Tc n_t5
    have g_t5 := new_same (o := .tup [.ref R]) n_t5
    have q_t5 : upd J5 t5 (.tup [.ref R]) t5 = some (.tup [.ref R]) := upd_same
    replace b0 : But t Gb (upd J5 t5 (.tup [.ref R])) := fun b o' n z => g_t5 _ _ (b0 b o' n z)
    replace bc : But t H (upd J5 t5 (.tup [.ref R])) := fun b o' n z => g_t5 _ _ (bc b o' n z)
    replace Tc := Tc.same g_t5
    replace ex := g_t5 _ _ ex
    replace q_t1 := g_t5 _ _ q_t1
    replace q_t2 := g_t5 _ _ q_t2
    replace q_t3 := g_t5 _ _ q_t3
    replace q_tu := g_t5 _ _ q_tu
    replace q_t4 := g_t5 _ _ q_t4
    generalize upd J5 t5 (.tup [.ref R]) = J6 at b0 bc Tc q_t5 g_t5 ex q_t1 q_t2 q_t3 q_tu q_t4
    refine ⟨_, rfl, _, rfl, _, rfl, szl (show 3 ≤ 1000000 by decide), fun t6 n_t6 => ?_⟩
    have f_t6 : H t6 = none := but_fr bc Tc.lst t6 n_t6
    have na_t6 := ne Tc n_t6
    have g_t6 := new_same (o := .tup [.ref R, ev, ev]) n_t6
    have q_t6 : upd J6 t6 (.tup [.ref R, ev, ev]) t6 = some (.tup [.ref R, ev, ev]) := upd_same
    replace b0 : But t Gb (upd J6 t6 (.tup [.ref R, ev, ev])) := fun b o' n z => g_t6 _ _ (b0 b o' n z)
    replace bc : But t H (upd J6 t6 (.tup [.ref R, ev, ev])) := fun b o' n z => g_t6 _ _ (bc b o' n z)
    replace Tc := Tc.same g_t6
    replace ex := g_t6 _ _ ex
    replace q_t1 := g_t6 _ _ q_t1
    replace q_t2 := g_t6 _ _ q_t2
    replace q_t3 := g_t6 _ _ q_t3
    replace q_tu := g_t6 _ _ q_tu
    replace q_t4 := g_t6 _ _ q_t4
    replace q_t5 := g_t6 _ _ q_t5
    generalize upd J6 t6 (.tup [.ref R, ev, ev]) = J7 at b0 bc Tc q_t6 g_t6 ex q_t1 q_t2 q_t3 q_tu q_t4 q_t5
    refine ⟨szl (show 6 ≤ 1000000 by decide), fun N n_N => ?_⟩
    have f_N : H N = none := but_fr bc Tc.lst N n_N
    have na_N := ne Tc n_N
    have g_N := new_same (o := .lst [.ref t1, .ref t2, .ref t3, .ref t4, .ref t5, .ref t6]) n_N
    have q_N : upd J7 N (.lst [.ref t1, .ref t2, .ref t3, .ref t4, .ref t5, .ref t6]) N = some (.lst [.ref t1, .ref t2, .ref t3, .ref t4, .ref t5, .ref t6]) := upd_same
    replace b0 : But t Gb (upd J7 N (.lst [.ref t1, .ref t2, .ref t3, .ref t4, .ref t5, .ref t6])) := fun b o' n z => g_N _ _ (b0 b o' n z)
    replace bc : But t H (upd J7 N (.lst [.ref t1, .ref t2, .ref t3, .ref t4, .ref t5, .ref t6])) := fun b o' n z => g_N _ _ (bc b o' n z)
    replace Tc := Tc.same g_N
    replace ex := g_N _ _ ex
    replace q_t1 := g_N _ _ q_t1
    replace q_t2 := g_N _ _ q_t2
    replace q_t3 := g_N _ _ q_t3
    replace q_tu := g_N _ _ q_tu
    replace q_t4 := g_N _ _ q_t4
    replace q_t5 := g_N _ _ q_t5
    replace q_t6 := g_N _ _ q_t6
    generalize upd J7 N (.lst [.ref t1, .ref t2, .ref t3, .ref t4, .ref t5, .ref t6]) = J8 at b0 bc Tc q_N g_N ex q_t1 q_t2 q_t3 q_tu q_t4 q_t5 q_t6
    refine ⟨_, rfl, t, 6, _, rfl, Tc, by omega, by decide, by decide, fun r3 Z hr3 bz Tz => ?_⟩
    replace ex := bz _ _ naR ex
    replace q_t1 := bz _ _ na_t1 q_t1
    replace q_t2 := bz _ _ na_t2 q_t2
    replace q_t3 := bz _ _ na_t3 q_t3
    replace q_tu := bz _ _ na_tu q_tu
    replace q_t4 := bz _ _ na_t4 q_t4
    replace q_t5 := bz _ _ na_t5 q_t5
    replace q_t6 := bz _ _ na_t6 q_t6
    replace q_N := bz _ _ na_N q_N
    replace b0 : But t Gb Z := fun b o' n z => bz b o' n (b0 b o' n z)
    replace bc : But t H Z := fun b o' n z => bz b o' n (bc b o' n z)
    have RZ' : DtAt K (newOf H Z) (.ref R) (.lst rs) := DtAt.same (new_but (t := t) b0 kt) _ RD'
    have UZ' : DtAll K (newOf H Z) us rs := DtAll.same (new_but (t := t) b0 kt) _ hus'
    have EZ : DtAt K (newOf H Z) ev ed := DtAt.same (new_but (t := t) b0 kt) _ heda'
    have hall2 : DtAll K (newOf H Z) [.ref t1, .ref t2, .ref t3, .ref t4, .ref t5, .ref t6] [.tup [.lst rs, ed], .tup [.lst rs, ed], .lst [.lst rs, ed], .tup [.tup rs, ed], .tup [.lst rs], .tup [.lst rs, ed, ed]] :=
      .cons (.tup (sqT (new_at f_t1 q_t1)) (.cons RZ' (.cons EZ .nil))) (.cons (.tup (sqT (new_at f_t2 q_t2)) (.cons RZ' (.cons EZ .nil))) (.cons (.lst (new_at f_t3 q_t3) (.cons RZ' (.cons EZ .nil)))
        (.cons (.tup (sqT (new_at f_t4 q_t4)) (.cons (.tup (sqT (new_at f_tu q_tu)) UZ') (.cons EZ .nil))) (.cons (.tup (sqT (new_at f_t5 q_t5)) (.cons RZ' .nil)) (.cons (.tup (sqT (new_at f_t6 q_t6)) (.cons RZ' (.cons EZ (.cons EZ .nil)))) .nil)))))
    have zl : szD (.lst rs) = true := by
      show (decide (rs.length ≤ 4000) && szAll rs) = true
      rw [decide_eq_true (by omega), hsz]
      rfl
    have zt : szD (.tup rs) = true := zl
    have hprop2 : ∀ d ∈ ([.tup [.lst rs, ed], .tup [.lst rs, ed], .lst [.lst rs, ed], .tup [.tup rs, ed], .tup [.lst rs], .tup [.lst rs, ed, ed]] : List Dt), szD d = true ∧ BlkG d := fun d hd => by
      simp only [List.mem_cons, List.not_mem_nil, or_false] at hd
      rcases hd with rfl | rfl | rfl | rfl | rfl | rfl
      · exact ⟨by show (true && (szD (.lst rs) && (szD ed && true))) = true; rw [zl, hez]; rfl, fun rs' e' z => by cases z; exact ⟨hrl, heG⟩⟩
      · exact ⟨by show (true && (szD (.lst rs) && (szD ed && true))) = true; rw [zl, hez]; rfl, fun rs' e' z => by cases z; exact ⟨hrl, heG⟩⟩
      · exact ⟨by show (true && (szD (.lst rs) && (szD ed && true))) = true; rw [zl, hez]; rfl, fun rs' e' z => by cases z⟩
      · exact ⟨by show (true && (szD (.tup rs) && (szD ed && true))) = true; rw [zt, hez]; rfl, fun rs' e' z => by cases z⟩
      · exact ⟨by show (true && (szD (.lst rs) && true)) = true; rw [zl]; rfl, fun rs' e' z => by cases z⟩
      · exact ⟨by show (true && (szD (.lst rs) && (szD ed && (szD ed && true)))) = true; rw [zl, hez]; rfl, fun rs' e' z => by cases z⟩
    obtain ⟨fv, hfv⟩ : ∃ fv, ([.ref t1, .ref t2, .ref t3, .ref t4, .ref t5, .ref t6] : List V)[r3]? = some fv := ⟨_, List.getElem?_eq_getElem (show r3 < ([.ref t1, .ref t2, .ref t3, .ref t4, .ref t5, .ref t6] : List V).length by show r3 < 6; omega)⟩
    obtain ⟨fd', hfd, hfda⟩ := pd_at2 hall2.pd hfv
    obtain ⟨hz1, hz2⟩ := hprop2 fd' (List.mem_of_getElem? hfd)
    refine ⟨N, _, _, fv, rfl, rfl, sqL q_N, atI_nat hfv, q fv fd' Z hfda hz1 hz2 bc ?_⟩
    obtain ⟨tx, ty, tn, h1, h2⟩ := Tz
    exact ⟨tx, ty, tn, h1, h2.1, h2.2.1, h2.2.2.1, h2.2.2.2.1, by have := h2.2.2.2.2; omega⟩
end
end Gn
set_option Elab.async false
set_option linter.all false
set_option maxRecDepth 100000
set_option maxHeartbeats 4000000
set_option pp.maxSteps 400
namespace Gn
open PySem PySem.Spec PyProof.Rows L2
/-! ### a thing -/
def ThG (d : Dt) : Prop := ∀ bs, d = .lst bs → bs.length ≤ 3 ∧ ∀ b ∈ bs, BlkG b
def spThing (K : PySem.W.Frag) : Sp := fun vs H Q _ => ∃ (t : Addr) (c : Nat), vs = [.ref t] ∧ Tape H t c ∧ c ≤ 700000 ∧ ∀ (v : V) (d : Dt) (H' : Hp), DtAt K (newOf H H') v d → szD d = true → ThG d → But t H H' → Tape H' t (c + 300) → Q v H'
abbrev nTg : List Str := ["_law_tape_here", "_law_way", "_law_blocks", "_law_turn"]
theorem scTg : FnScope nTg ["_law_tape_here"] (defScope sLThing) := ⟨rfl, rfl, rfl, by decide +kernel, rfl, by decide +kernel, by decide +kernel⟩
section
variable {P0 : Program} {w : World} {K : PySem.W.Frag} {mg : Str → Option Value} {base : Heap}
theorem ok_thing {f fD fS fB : Addr} {fd fdD fdS fdB : FuncData} {k : Nat} (D : Df K mg "_law_thing" sLThing ["_law_tape_here"] f fd) (B : Bi mg) (DD : Df K mg "_law_draw" sDraw ["_law_tape_here", "_law_many"] fD fdD) (GD : FnOk P0 w K mg base CX0 k fD fdD ["_law_tape_here", "_law_many"] spDraw)
    (DS : Df K mg "_law_small" sLSmall ["_law_tape_here"] fS fdS) (GS : FnOk P0 w K mg base CX0 k fS fdS ["_law_tape_here"] (spSmall K))
    (DB : Df K mg "_law_block" sLBlock ["_law_tape_here"] fB fdB) (GB : FnOk P0 w K mg base CX0 k fB fdB ["_law_tape_here"] (spBlock K)) : FnOk P0 w K mg base CX0 (k + 1) f fd ["_law_tape_here"] (spThing K) := by
  refine D.F.ok scTg (fun vs H Q E h => ?_) (fun cdv A outer s H vs Q E hr h => ?_)
  · obtain ⟨t, c, rfl, _⟩ := h
    rfl
  · obtain ⟨t, c, rfl, hT, hc, q⟩ := h
    refine ⟨_, (pss_cons (ps_set (i := 1) scTg.nd rfl (.inl rfl) (pe_call GD hr (by rfl) DD.g DD.F.kp DD.b .nil pass0 (pa_cons (pv 0) (pa_cons pe_int pa_nil))))
      (pss_cons (ps_if (pt_cmpR op_eq (pv 1) pe_int (nomark _)) (pss_one (ps_ret (pe_call GS hr (by rfl) DS.g DS.F.kp DS.b .nil pass0 (pa_cons (pv 0) pa_nil)))) pss_nil)
      (pss_cons (ps_setLc (i := 2) (own := [("_law_turn", 3)]) (g := (gName 3)) (tt := tYes) (te := (tCall (spBlock K) [] E0 (tCons (tVar 0) tNil))) (by rfl) scTg.nd rfl rfl (sw_true rfl rfl rfl (by decide +kernel)) (pi_range1 (by rfl) B.range (pa_cons (pe_call GD hr (by rfl) DD.g DD.F.kp DD.b .nil pass0 (pa_cons (pv 0) (pa_cons pe_int pa_nil))) pa_nil)) (blkOk_by (own := [("_law_turn", 3)]) (N := nTg) (sc := defScope sLThing) (by decide +kernel)) (fun _ _ _ _ _ => (pg_name (i := 3) scTg.nd rfl (.inl rfl))) (fun _ _ _ _ _ => pts_nil) (fun _ _ _ _ _ => (pe_call GB hr (by rfl) DB.g DB.F.kp DB.b .nil pass0 (pa_cons (pv 0) pa_nil))))
      (pss_one (ps_ret (pe_ix ix_list (pe_lst (pa_cons (pv 2) (pa_cons (pv 2) (pa_cons (pe_callTy call_tuple_of (by rfl) B.tuple PyProof.Rows.boot_tuple (pa_cons (pv 2) pa_nil)) pa_nil)))) (pe_op op_sub (pv 1) pe_int) (fun _ _ => rfl))))))), ?_⟩
    have ne : ∀ {a : Addr} {G : Hp} {c' : Nat}, Tape G t c' → G a = none → a ≠ t := fun hG n z => by
      obtain ⟨o, ho⟩ := hG.lst
      rw [z, ho] at n
      cases n
    have kt : ∃ o, H t = some o := hT.lst
    refine ⟨_, rfl, t, 4, c, rfl, hT, by omega, by decide, by decide, fun wy H1 hwy b1 T1 => ⟨_, rfl, rfl, _, rfl, ite2 (fun e => ?_) (fun e => ?_)⟩⟩
    · refine ⟨_, rfl, t, c + 1, rfl, T1, by omega, fun v d H2 hv hsm b2 T2 => q v d H2 (DtAt.same (new_back (but_fr b1 T1.lst)) d hv) (small_sz hsm) (fun bs z => ?_) (fun a o n z => b2 a o n (b1 a o n z)) ?_⟩
      · rw [hsm.2 bs z]
        exact ⟨Nat.zero_le _, fun b hb => by cases hb⟩
      · obtain ⟨tx, ty, tn, h1, h2⟩ := T2
        exact ⟨tx, ty, tn, h1, h2.1, h2.2.1, h2.2.2.1, h2.2.2.2.1, by have := h2.2.2.2.2; omega⟩
    have hw1 : wy ≠ 0 := fun z => e (decide_eq_true (by rw [z]; rfl))
    refine ⟨_, rfl, t, 4, c + 1, rfl, T1, by omega, by decide, by decide, fun m H2 hm b2 T2 => ⟨_, rfl, by omega, by omega, fun R nR => ?_⟩⟩
    have b12 : But t H H2 := fun a o n z => b2 a o n (b1 a o n z)
    have naR := ne T2 nR
    have nRH : H R = none := but_fr b12 T2.lst R nR
    have hm2 : (m : Int).toNat ≤ 3 := by omega
    have kR := new_same (o := .lst []) nR
    have T2' := T2.same kR
    refine lc_range (lo := 0) (n := (m : Int).toNat) (fun i Hx => ∃ (us : List V) (ds : List Dt), But t H Hx ∧ Tape Hx t (c + 2 + 80 * i) ∧ Hx R = some (.lst us) ∧ us.length = i ∧ DtAll K (newOf (upd H2 R (.lst [])) Hx) us ds ∧ szAll ds = true ∧ (∀ a, Hx a = none → upd H2 R (.lst []) a = none) ∧ ∀ d ∈ ds, BlkG d)
      ⟨[], [], fun a o n z => kR _ _ (b12 a o n z), T2', upd_same, rfl, .nil, rfl, fun _ z => z, fun d hd => by cases hd⟩ (fun i Hx hi hP => ?_) (fun Hx hP => ?_)
    · obtain ⟨us, ds, bx, Tx, ex, hul, hds, hsz, fr, hbk⟩ := hP
      refine ⟨rfl, _, rfl, t, c + 2 + 80 * i, rfl, Tx, by omega, fun v d H3 hv hzv hvb b3 T3 => ⟨us, b3 _ _ naR ex, szt (by omega), us ++ [v], ds ++ [d], fun a o n z => ?_, ?_, upd_same, by rw [List.length_append, hul]; rfl, ?_, szAll_app hsz (by show (szD d && true) = true; rw [hzv]; rfl), fun a n => ?_, fun d' hd' => ?_⟩⟩
      · rw [upd_ne (ne_of_none z nRH)]
        exact b3 a o n (bx a o n z)
      · obtain ⟨tx, ty, tn, h1, h2⟩ := T3
        exact ⟨tx, ty, tn, by rw [upd_ne naR.symm]; exact h1, h2.1, h2.2.1, h2.2.2.1, h2.2.2.2.1, by have := h2.2.2.2.2; omega⟩
      · have keep : Same (newOf (upd H2 R (.lst [])) H3) (newOf (upd H2 R (.lst [])) (upd H3 R (.lst (us ++ [v])))) := fun a o z => by
          obtain ⟨n', z'⟩ := new_of z
          exact new_at n' (by rw [upd_ne (fun z2 => by rw [z2, upd_same] at n'; cases n')]; exact z')
        refine DtAll.same keep _ (pd_all (DtAll.same (new_but (t := t) b3 T2'.lst) _ hds) (.cons (DtAt.same (new_back fr) d hv) .nil))
      · have na : a ≠ R := fun z => by rw [z, upd_same] at n; cases n
        rw [upd_ne na] at n
        exact fr a (but_fr b3 T3.lst a n)
      · rcases List.mem_append.mp hd' with h | h
        · exact hbk d' h
        · rw [List.mem_singleton.mp h]; exact hvb
    obtain ⟨us, bs, bx, Tx, ex, hul, hbs, hsz, fr, hbk⟩ := hP
    have hbl : bs.length ≤ 3 := by rw [← hbs.len, hul]; exact hm2
    generalize (m : Int).toNat = mm at hul Tx hm2
    have hbs' : DtAll K (newOf H Hx) us bs := DtAll.same (new_back fun a n => (but_fr b12 T2.lst a (kR.free n))) _ hbs
    refine ⟨_, rfl, _, rfl, _, rfl, R, _, rfl, .inl ⟨sqL ex, fun l nl => ?_⟩⟩
    have nal := ne Tx nl
    have flH := but_fr bx Tx.lst l nl
    have g1 := new_same (o := .tup us) nl
    have q1 : upd Hx l (.tup us) l = some (.tup us) := upd_same
    have T3 := Tx.same g1
    have ex3 := g1 _ _ ex
    generalize upd Hx l (.tup us) = H3 at g1 q1 T3 ex3
    refine ⟨szl (show 3 ≤ 1000000 by decide), fun M nM => ?_⟩
    have naM := ne T3 nM
    have g2 := new_same (o := .lst [.ref R, .ref R, .ref l]) nM
    have q2 : upd H3 M (.lst [.ref R, .ref R, .ref l]) M = some (.lst [.ref R, .ref R, .ref l]) := upd_same
    have T4 := T3.same g2
    have ex4 := g2 _ _ ex3
    have q1' := g2 _ _ q1
    generalize upd H3 M (.lst [.ref R, .ref R, .ref l]) = H4 at g2 q2 T4 ex4 q1'
    have b4 : But t Hx H4 := fun a o n z => g2 _ _ (g1 _ _ z)
    have bx4 : But t H H4 := fun a o n z => b4 a o n (bx a o n z)
    have hb4 : DtAll K (newOf H H4) us bs := DtAll.same (new_but (t := t) b4 kt) _ hbs'
    have zl : szD (.lst bs) = true := by
      show (decide (bs.length ≤ 4000) && szAll bs) = true
      rw [decide_eq_true (by omega), hsz]
      rfl
    have fin : ∀ {v : V} {d : Dt}, DtAt K (newOf H H4) v d → szD d = true → ThG d → Q v H4 := fun {v d} hv hz' ht => by
      refine q v d H4 hv hz' ht bx4 ?_
      obtain ⟨tx, ty, tn, h1, h2⟩ := T4
      exact ⟨tx, ty, tn, h1, h2.1, h2.2.1, h2.2.2.1, h2.2.2.2.1, by have := h2.2.2.2.2; omega⟩
    have hR : Q (.ref R) H4 := fin (.lst (new_at nRH ex4) hb4) zl fun bs' z => by cases z; exact ⟨hbl, hbk⟩
    have hl : Q (.ref l) H4 := fin (.tup (sqT (new_at flH q1')) hb4) zl fun bs' z => by cases z
    have hM : SqL K H4 M [.ref R, .ref R, .ref l] := sqL q2
    have h3 : wy = 1 ∨ wy = 2 ∨ wy = 3 := by omega
    rcases h3 with rfl | rfl | rfl
    · exact ⟨_, rfl, _, _, rfl, rfl, M, _, _, .ref R, rfl, rfl, hM, atI_nat (j := 0) rfl, hR⟩
    · exact ⟨_, rfl, _, _, rfl, rfl, M, _, _, .ref R, rfl, rfl, hM, atI_nat (j := 1) rfl, hR⟩
    · exact ⟨_, rfl, _, _, rfl, rfl, M, _, _, .ref l, rfl, rfl, hM, atI_nat (j := 2) rfl, hl⟩
end
end Gn
set_option Elab.async false
set_option linter.all false
set_option maxRecDepth 100000
set_option maxHeartbeats 4000000
set_option pp.maxSteps 400
namespace Gn
open PySem PySem.Spec PyProof.Rows L2
/-! ### the rooms of looks and lays -/
def roomsI (sh m : Nat) : List Int := (List.range m).map fun i : Nat => ((sh : Int) + (i : Int)) % 6
def rmB (rs : List Int) : Bool := decide (1 ≤ rs.length) && decide (rs.length ≤ 4) && rs.all (fun x => decide (0 ≤ x) && decide (x ≤ 5)) && decide rs.Nodup
theorem rmB_iff {rs : List Int} : rmB rs = true ↔ RmG rs := by
  unfold rmB RmG
  simp only [Bool.and_eq_true, decide_eq_true_eq, List.all_eq_true, and_assoc]
theorem rm_allB : ((List.range 6).all fun sh => (List.range 7).all fun m => rmB (roomsI sh m) == (decide (1 ≤ m) && decide (m ≤ 4))) = true := by decide +kernel
theorem rm_iff {sh m : Nat} (hs : sh < 6) (hm : m < 7) : RmG (roomsI sh m) ↔ 1 ≤ m ∧ m ≤ 4 := by
  have h := List.all_eq_true.mp (List.all_eq_true.mp rm_allB sh (List.mem_range.mpr hs)) m (List.mem_range.mpr hm)
  have h := eq_of_beq h
  rw [← rmB_iff, h, Bool.and_eq_true, decide_eq_true_iff, decide_eq_true_iff]
/-- one block: take, then r -/
def oneB (r : Rz) : List Blk := [([.take 0, r], .fin)]
theorem one_right {r : Rz} (h1 : r.w ≠ "meet") (h2 : ∀ x ∈ r.nms, x = 0) : RightP (pdt (oneB r)) ↔ RwG r := by
  unfold RightP
  rw [decP_dt]
  constructor
  · rintro ⟨h, _⟩
    have h : (true && ((([([.take 0, r], .fin)] : List Blk).map bdt).all isBlockD)) = true := h
    have h : (((([Rz.take 0, r] : List Rz).map Rz.dt).all isRowD && isEndD En.fin.dt) && true) = true := h
    rw [Bool.and_eq_true, Bool.and_eq_true] at h
    obtain ⟨r', e, g⟩ := row_of (List.all_eq_true.mp h.1.1 r.dt (by simp))
    have : r = r' := by rw [← dec_dt r, e, dec_dt]
    rw [this]
    exact g
  · intro g
    refine ⟨written_back (by simp [oneB]) fun b hb x hx => ?_, rfl, fun i b hb => ?_⟩
    · have hb : b ∈ ([([.take 0, r], .fin)] : List Blk) := hb
      rw [List.mem_singleton.mp hb] at hx
      have hx : x ∈ [Rz.take 0, r] := hx
      simp only [List.mem_cons, List.not_mem_nil, or_false] at hx
      rcases hx with rfl | rfl
      · exact ⟨by decide, by decide⟩
      · exact g
    · have hi : i = 0 ∧ b = ([.take 0, r], .fin) := by
        cases i with
        | zero => exact ⟨rfl, (Option.some.inj hb).symm⟩
        | succ i => cases hb
      obtain ⟨rfl, rfl⟩ := hi
      refine ⟨fun j x y hx hy hm => ?_, fun j x hx => ⟨fun hm => ?_, fun _ n hn => ?_⟩, fun x hx => by cases hx⟩
      · cases j with
        | zero => cases hy; exact absurd hm h1
        | succ j => cases j <;> cases hy
      · cases j with
        | zero => cases hx; cases hm
        | succ j =>
          cases j with
          | zero => cases hx; exact absurd hm h1
          | succ j => cases hx
      · cases j with
        | zero => cases hx; cases hn
        | succ j =>
          cases j with
          | zero =>
            cases hx
            rw [h2 n hn]
            exact ⟨Int.le_refl _, .take 0, rfl, rfl, fun _ => by show (0 : Int) < ((bgnP (oneB r) 0 + (0 + 1) : Nat) : Int); omega, fun z => absurd rfl z⟩
          | succ j => cases hx
theorem one_sz {r : Rz} (h : szD r.dt = true) : szD (pdt (oneB r)) = true := by
  show (true && ((true && (((true && (szD (Rz.take 0).dt && (szD r.dt && true)))) && (szD En.fin.dt && true))) && true)) = true
  rw [h]
  rfl
def spRoomsR (K : PySem.W.Frag) (Ts : List Addr) (D : Addr) : Sp := fun vs H Q _ => ∃ sh : Nat, vs = [iv sh] ∧ sh < 6 ∧ Tbs Ts D H ∧ ∀ H', LamX.ExtN H H' → Tbs Ts D H' → Q (.bl true) H'
abbrev nRo : List Str := ["_law_shift", "_law_many", "_law_rooms", "_law_row_here", "_law_place"]
theorem scRo : FnScope nRo ["_law_shift"] (defScope sLRooms) := ⟨rfl, rfl, rfl, by decide +kernel, rfl, by decide +kernel, by decide +kernel⟩
section
variable {P0 : Program} {w : World} {K : PySem.W.Frag} {mg : Str → Option Value} {base : Heap} {Ts : List Addr} {Dd : Addr}
theorem ok_roomsR {f fP : Addr} {fd fdP : FuncData} {k : Nat} (D : Df K mg "_law_rooms_right" sLRooms ["_law_shift"] f fd) (B : Bi mg) (DP : Df K mg "is_program" sIsProg ["thing"] fP fdP) (GP : FnOk P0 w K mg base CX0 k fP fdP ["thing"] (spIsProg K Ts Dd)) : FnOk P0 w K mg base CX0 (k + 1) f fd ["_law_shift"] (spRoomsR K Ts Dd) := by
  refine D.F.ok scRo (fun vs H Q E h => ?_) (fun cdv A outer s H vs Q E hr h => ?_)
  · obtain ⟨sh, rfl, _⟩ := h
    rfl
  · obtain ⟨sh, rfl, hsh, hT, q⟩ := h
    refine ⟨_, (pss_cons (ps_for PassesOwn.never rfl (pi_range1 (by rfl) B.range (pa_cons pe_int pa_nil)) (pg_name (i := 1) scRo.nd rfl (.inl rfl)) (pss_cons (ps_set (i := 2) scRo.nd rfl (.inl rfl) (pe_callTy call_tuple_of (by rfl) B.tuple PyProof.Rows.boot_tuple (pa_cons (pe_lc (own := [("_law_place", 4)]) (g := (gName 4)) (tt := tYes) (te := _) rfl scRo.nd (pi_range1 (by rfl) B.range (pa_cons (pv 1) pa_nil)) (blkOk_by (own := [("_law_place", 4)]) (N := nRo) (sc := defScope sLRooms) (by decide +kernel)) (fun _ _ _ _ _ => (pg_name (i := 4) scRo.nd rfl (.inl rfl))) (fun _ _ _ _ _ => pts_nil) (fun _ _ _ _ _ => (pe_op op_mod (pe_op op_add (pv 0) (pv 4)) pe_int))) pa_nil)))
      (pss_one (ps_for PassesOwn.never rfl (pi_list (pe_lst (pa_cons (pe_tup (pa_cons pe_str (pa_cons (pv 2) (pa_cons pe_int pa_nil)))) (pa_cons (pe_tup (pa_cons pe_str (pa_cons (pv 2) (pa_cons pe_int (pa_cons pe_int pa_nil))))) pa_nil)))) (pg_name (i := 3) scRo.nd rfl (.inl rfl)) (pss_one (ps_if (pt_cmpR op_ne (pe_call GP hr (by rfl) DP.g DP.F.kp DP.b .nil pass0 (pa_cons (pe_lst (pa_cons (pe_tup (pa_cons (pe_lst (pa_cons (pe_tup (pa_cons pe_str (pa_cons pe_int pa_nil))) (pa_cons (pv 3) pa_nil))) (pa_cons (pe_tup (pa_cons pe_str pa_nil)) pa_nil))) pa_nil)) pa_nil)) (pe_chain op_le op_le pe_int (pv 1) pe_int) (nomark _)) (pss_one (ps_ret pe_bl)) pss_nil))))))
      (pss_one (ps_ret pe_bl))), ?_⟩
    refine ⟨_, rfl, by decide, by decide, ?_⟩
    refine for_range (lo := 0) (n := (7 : Int).toNat) (fun i σ Hx => ∃ y1 y2 y3 : Option V, σ = [some (iv sh), y1, y2, y3, none] ∧ LamX.ExtN H Hx ∧ Tbs Ts Dd Hx) ⟨none, none, none, rfl, LamX.ExtN.refl H, hT⟩ (fun i σ Hx hi hP => ?_) (fun σ Hx hP => ?_)
    · obtain ⟨y1, y2, y3, rfl, ex, tx⟩ := hP
      have hi7 : i < 7 := hi
      rw [show (0 : Int) + (i : Nat) = (i : Nat) by omega]
      refine ⟨_, rfl, _, rfl, by omega, by omega, fun L nL => ?_⟩
      rw [Int.toNat_natCast]
      refine lc_range (lo := 0) (n := i) (fun j H1 => Same Hx H1 ∧ H1 L = some (.lst ((roomsI sh j).map V.int))) ⟨new_same nL, upd_same⟩ (fun j H1 hj hP => ?_) (fun H1 hP => ?_)
      · obtain ⟨s1, eL⟩ := hP
        rw [show (0 : Int) + (j : Nat) = (j : Nat) by omega]
        refine ⟨rfl, _, rfl, _, rfl, _, _, rfl, rfl, _, _, rfl, rfl, (by decide : (0 : Int) < 6), _, eL, ?_, fun a o z => ?_, ?_⟩
        · rw [List.length_map, roomsI, List.length_map, List.length_range]
          exact szt (by omega)
        · rw [upd_ne (ne_of_none z nL)]; exact s1 _ _ z
        · rw [upd_same]
          unfold roomsI
          rw [List.range_succ, List.map_append, List.map_append]
          rfl
      obtain ⟨s1, eL⟩ := hP
      refine ⟨L, _, rfl, .inl ⟨sqL eL, fun rm nrm => ?_⟩⟩
      have g1 := new_same (o := .tup ((roomsI sh i).map V.int)) nrm
      have qr : upd H1 rm (.tup ((roomsI sh i).map V.int)) rm = some (.tup ((roomsI sh i).map V.int)) := upd_same
      have sa := s1.trans g1
      generalize upd H1 rm (.tup ((roomsI sh i).map V.int)) = H2 at g1 qr sa
      refine ⟨_, rfl, szl (show 3 ≤ 1000000 by decide), fun a1 n1 => ⟨_, rfl, szl (show 4 ≤ 1000000 by decide), fun a2 n2 => ⟨szl (show 2 ≤ 1000000 by decide), fun M nM => ⟨M, rfl, ⟨_, sqL upd_same⟩, ?_⟩⟩⟩⟩
      have g2 := new_same (o := .tup [.str "look", .ref rm, .int 0]) n1
      have q2 : upd H2 a1 (.tup [.str "look", .ref rm, .int 0]) a1 = some (.tup [.str "look", .ref rm, .int 0]) := upd_same
      replace sa := sa.trans g2
      replace qr := g2 _ _ qr
      generalize upd H2 a1 (.tup [.str "look", .ref rm, .int 0]) = H3 at g2 q2 sa qr n2 nM
      have g3 := new_same (o := .tup [.str "lay", .ref rm, .int 0, .int 0]) n2
      have q3 : upd H3 a2 (.tup [.str "lay", .ref rm, .int 0, .int 0]) a2 = some (.tup [.str "lay", .ref rm, .int 0, .int 0]) := upd_same
      replace sa := sa.trans g3
      replace qr := g3 _ _ qr
      replace q2 := g3 _ _ q2
      generalize upd H3 a2 (.tup [.str "lay", .ref rm, .int 0, .int 0]) = H4 at g3 q3 sa qr q2 nM
      have g4 := new_same (o := .lst [.ref a1, .ref a2]) nM
      have q4 : upd H4 M (.lst [.ref a1, .ref a2]) M = some (.lst [.ref a1, .ref a2]) := upd_same
      replace sa := sa.trans g4
      replace qr := g4 _ _ qr
      replace q2 := g4 _ _ q2
      replace q3 := g4 _ _ q3
      generalize upd H4 M (.lst [.ref a1, .ref a2]) = H5 at g4 q4 sa qr q2 q3
      have ex5 : LamX.ExtN H H5 := ex.trans (same_ext sa)
      have tx5 := tx.same sa
      have rmD : DtAt K (nt H5) (.ref rm) (intsD (roomsI sh i)) := by
        have ia : ∀ ps : List Int, DtAll K (nt H5) (ps.map V.int) (ps.map Dt.int) := fun ps => by
          induction ps with
          | nil => exact .nil
          | cons p ps ih => exact .cons (.int p) ih
        exact .tup (sqT (nt_at qr (fun ps z => by cases z))) (ia _)
      have rows : ∀ x ∈ ([.ref a1, .ref a2] : List V), ∃ r : Rz, DtAt K (nt H5) x r.dt ∧ r.w ≠ "meet" ∧ (∀ y ∈ r.nms, y = 0) ∧ szD r.dt = true ∧ (RwG r ↔ RmG (roomsI sh i)) := fun x hx => by
        have szr : szD (intsD (roomsI sh i)) = true := by
          have : ∀ ps : List Int, szAll (ps.map Dt.int) = true := fun ps => by
            induction ps with
            | nil => rfl
            | cons p ps ih => show (true && szAll (ps.map Dt.int)) = true; rw [ih]; rfl
          show (decide (((roomsI sh i).map Dt.int).length ≤ 4000) && szAll ((roomsI sh i).map Dt.int)) = true
          rw [this, decide_eq_true (by rw [List.length_map, roomsI, List.length_map, List.length_range]; omega)]
          rfl
        simp only [List.mem_cons, List.not_mem_nil, or_false] at hx
        rcases hx with rfl | rfl
        · refine ⟨.look (roomsI sh i) 0, .tup (sqT (nt_at q2 (fun ps z => by cases z))) (.cons (.str _) (.cons rmD (.cons (.int _) .nil))), show ("look" : Str) ≠ "meet" by decide, fun y hy => by simpa [Rz.nms] using hy, ?_, Iff.rfl⟩
          show (true && (true && (szD (intsD (roomsI sh i)) && true))) = true
          rw [szr]; rfl
        · refine ⟨.lay (roomsI sh i) 0 0, .tup (sqT (nt_at q3 (fun ps z => by cases z))) (.cons (.str _) (.cons rmD (.cons (.int _) (.cons (.int _) .nil)))), show ("lay" : Str) ≠ "meet" by decide, fun y hy => by simpa [Rz.nms] using hy, ?_, Iff.rfl⟩
          show (true && (true && (szD (intsD (roomsI sh i)) && (true && true)))) = true
          rw [szr]; rfl
      refine for_list (K := K) (a := M) (xs := [.ref a1, .ref a2]) (fun j σ Hw => ∃ y3 : Option V, σ = [some (iv sh), some (iv i), some (.ref rm), y3, none] ∧ LamX.ExtN H5 Hw ∧ Tbs Ts Dd Hw) ⟨y3, rfl, LamX.ExtN.refl _, tx5⟩ (fun j σ Hw _ hP => ?_) (fun j x σ Hw hx hP => ?_) (fun σ Hw hP => ?_)
      · obtain ⟨_, _, ew, _⟩ := hP
        exact sqL (ew _ _ q4 (fun ps z => by cases z))
      · obtain ⟨z3, rfl, ew, tw⟩ := hP
        obtain ⟨r, hrD, hr1, hr2, hr3, hr4⟩ := rows x (List.mem_of_getElem? hx)
        refine ⟨szl (show 2 ≤ 1000000 by decide), fun b1 m1 => ⟨_, rfl, szl (show 2 ≤ 1000000 by decide), fun b2 m2 => ⟨szl (show 1 ≤ 1000000 by decide), fun b3 m3 => ⟨szl (show 2 ≤ 1000000 by decide), fun b4 m4 => ⟨szl (show 1 ≤ 1000000 by decide), fun b5 m5 => ?_⟩⟩⟩⟩⟩
        have h1 := new_same (o := .tup [.str "take", .int 0]) m1
        have k1 : upd Hw b1 (.tup [.str "take", .int 0]) b1 = some (.tup [.str "take", .int 0]) := upd_same
        have sw := h1
        generalize upd Hw b1 (.tup [.str "take", .int 0]) = W1 at h1 k1 sw m2 m3 m4 m5
        have h2 := new_same (o := .lst [.ref b1, x]) m2
        have k2 : upd W1 b2 (.lst [.ref b1, x]) b2 = some (.lst [.ref b1, x]) := upd_same
        replace sw := sw.trans h2
        replace k1 := h2 _ _ k1
        generalize upd W1 b2 (.lst [.ref b1, x]) = W2 at h2 k1 k2 sw m3 m4 m5
        have h3 := new_same (o := .tup [.str "end"]) m3
        have k3 : upd W2 b3 (.tup [.str "end"]) b3 = some (.tup [.str "end"]) := upd_same
        replace sw := sw.trans h3
        replace k1 := h3 _ _ k1
        replace k2 := h3 _ _ k2
        generalize upd W2 b3 (.tup [.str "end"]) = W3 at h3 k1 k2 k3 sw m4 m5
        have h4 := new_same (o := .tup [.ref b2, .ref b3]) m4
        have k4 : upd W3 b4 (.tup [.ref b2, .ref b3]) b4 = some (.tup [.ref b2, .ref b3]) := upd_same
        replace sw := sw.trans h4
        replace k1 := h4 _ _ k1
        replace k2 := h4 _ _ k2
        replace k3 := h4 _ _ k3
        generalize upd W3 b4 (.tup [.ref b2, .ref b3]) = W4 at h4 k1 k2 k3 k4 sw m5
        have h5 := new_same (o := .lst [.ref b4]) m5
        have k5 : upd W4 b5 (.lst [.ref b4]) b5 = some (.lst [.ref b4]) := upd_same
        replace sw := sw.trans h5
        replace k1 := h5 _ _ k1
        replace k2 := h5 _ _ k2
        replace k3 := h5 _ _ k3
        replace k4 := h5 _ _ k4
        generalize upd W4 b5 (.lst [.ref b4]) = W5 at h5 k1 k2 k3 k4 k5 sw
        have ew5 : LamX.ExtN H5 W5 := ew.trans (same_ext sw)
        have xD : DtAt K (nt W5) x r.dt := DtAt.same (ext_nt ew5) _ hrD
        have pD : DtAt K (nt W5) (.ref b5) (pdt (oneB r)) :=
          .lst (nt_at k5 (fun ps z => by cases z)) (.cons (.tup (sqT (nt_at k4 (fun ps z => by cases z))) (.cons (.lst (nt_at k2 (fun ps z => by cases z)) (.cons (.tup (sqT (nt_at k1 (fun ps z => by cases z))) (.cons (.str _) (.cons (.int _) .nil))) (.cons xD .nil))) (.cons (.tup (sqT (nt_at k3 (fun ps z => by cases z))) (.cons (.str _) .nil)) .nil))) .nil)
        refine ⟨.ref b5, pdt (oneB r), rfl, pD, one_sz hr3, fun pr h => ?_, tw.same sw, fun W6 c e6 t6 hc => ?_⟩
        · have : pr = oneB r := by rw [← decP_dt pr, ← h, decP_dt]
          rw [this]
          exact ⟨by show 1 ≤ 100; decide, fun b hb => by
            have hb : b ∈ ([([.take 0, r], .fin)] : List Blk) := hb
            rw [List.mem_singleton.mp hb]
            show 2 ≤ 1000
            decide⟩
        have hc2 : c = true ↔ 1 ≤ i ∧ i ≤ 4 := hc.trans ((one_right hr1 hr2).trans (hr4.trans (rm_iff hsh hi7)))
        have ce : c = (decide ((1 : Int) ≤ (i : Nat)) && decide (((i : Nat) : Int) ≤ 4)) := by
          rw [Bool.eq_iff_iff, hc2, Bool.and_eq_true, decide_eq_true_iff, decide_eq_true_iff]
          omega
        have nx : ∀ {y3' : Option V}, ∃ y3 : Option V, [some (iv sh), some (iv i), some (.ref rm), y3', none] = [some (iv sh), some (iv i), some (.ref rm), y3, none] ∧ LamX.ExtN H5 W6 ∧ Tbs Ts Dd W6 := fun {y3'} => ⟨y3', rfl, ew5.trans e6, t6⟩
        refine ⟨_, rfl, _, _, rfl, rfl, _, rfl, ite2 (fun e1 => ⟨_, _, rfl, rfl, rfl, _, rfl, ?_⟩) (fun e1 => ⟨rfl, _, rfl, ?_⟩)⟩
        · rw [e1, Bool.true_and] at ce
          refine ifN (fun z => ?_) nx
          have z : (!decide (V.bl c = V.bl (decide (((i : Nat) : Int) ≤ 4)))) = true := z
          rw [← ce, decide_eq_true rfl] at z
          cases z
        · rw [Bool.eq_false_iff.mpr e1, Bool.false_and] at ce
          refine ifN (fun z => ?_) nx
          have z : (!decide (V.bl c = V.bl false)) = true := z
          rw [ce, decide_eq_true rfl] at z
          cases z
      · obtain ⟨z3, rfl, ew, tw⟩ := hP
        exact ⟨_, _, _, rfl, ex5.trans ew, tw⟩
    · obtain ⟨y1, y2, y3, rfl, ex, tx⟩ := hP
      exact q Hx ex tx
end
end Gn
set_option Elab.async false
set_option linter.all false
set_option maxRecDepth 100000
set_option maxHeartbeats 8000000
set_option pp.maxSteps 300
namespace Gn
open PySem PySem.Spec PyProof.Rows L2
theorem tabG_but {H H' : Hp} {P t : Addr} {xs : List V} (h : GxR.TabG H P) (e : H t = some (.lst xs)) (b : But t H H') : GxR.TabG H' P := by
  obtain ⟨ps, a, c⟩ := h
  exact ⟨ps, b _ _ (fun z => by rw [z, e] at a; cases a) a, c⟩
theorem Tbs.but {Ts : List Addr} {D t : Addr} {H H' : Hp} {xs : List V} (h : Tbs Ts D H) (e : H t = some (.lst xs)) (b : But t H H') : Tbs Ts D H' := by
  refine ⟨fun P hP => tabG_but (h.g P hP) e b, ?_⟩
  obtain ⟨ps, a, c, d⟩ := h.d
  refine ⟨ps, b _ _ (fun z => by rw [z, e] at a; cases a) a, c, fun pos cv hc => ?_⟩
  obtain ⟨c1, P1, z1, z2, z3, z4⟩ := d pos cv hc
  exact ⟨c1, P1, z1, z2, b _ _ (fun z => by rw [z, e] at z3; cases z3) z3, tabG_but z4 e b⟩
/-- what is new and no table -/
theorem ends_of {d : Dt} (h : ThG d) : EndsG d := fun bs e b hb rs x z => (((h bs e).2 b hb) rs x z).2
theorem bnd_of {d : Dt} (h : ThG d) : ∀ pr, d = pdt pr → pr.length ≤ 3 ∧ ∀ b ∈ pr, b.1.length ≤ 2 := fun pr e => by
  have h1 := h _ e
  rw [List.length_map] at h1
  refine ⟨h1.1, fun b hb => ?_⟩
  have := (h1.2 (bdt b) (List.mem_map.mpr ⟨b, hb, rfl⟩) _ _ rfl).1
  rwa [List.length_map] at this
mutual
/-- no table is data -/
theorem DtAt.nt {K : PySem.W.Frag} {H : Hp} : ∀ (d : Dt) {v : V}, DtAt K H v d → DtAt K (Gn.nt H) v d
  | .non, _, h => by cases h; exact .non
  | .bl b, _, h => by cases h; exact .bl b
  | .int n, _, h => by cases h; exact .int n
  | .str s, _, h => by cases h; exact .str s
  | .lst ds, _, h => by
    cases h with
    | lst h1 h2 => exact .lst (nt_at h1 (fun ps z => by cases z)) (DtAll.nt ds h2)
  | .tup ds, _, h => by
    cases h with
    | tup h1 h2 => exact .tup (ntT' h1) (DtAll.nt ds h2)
  | .dct, _, h => by
    cases h with
    | dct h1 => exact .dct (nt_at h1 (fun ps z => by cases z))
theorem DtAll.nt {K : PySem.W.Frag} {H : Hp} : ∀ (ds : List Dt) {vs : List V}, DtAll K H vs ds → DtAll K (Gn.nt H) vs ds
  | [], _, h => by cases h; exact .nil
  | d :: ds, _, h => by
    cases h with
    | cons h1 h2 => exact .cons (DtAt.nt d h1) (DtAll.nt ds h2)
end
end Gn
set_option Elab.async false
set_option linter.all false
set_option maxRecDepth 100000
set_option maxHeartbeats 8000000
set_option pp.maxSteps 300
namespace Gn
open PySem PySem.Spec PyProof.Rows L2
/-! ### the law's last programs -/
theorem rows_right {rs : List Rz} (h : ∀ r ∈ rs, r.nms = [] ∧ r.w ≠ "meet" ∧ RwG r) : RightP (pdt [(rs, .fin)]) := by
  unfold RightP
  rw [decP_dt]
  refine ⟨written_back (by simp) fun b hb x hx => ?_, rfl, fun i b hb => ?_⟩
  · rw [List.mem_singleton.mp hb] at hx
    exact (h x hx).2.2
  · have hi : i = 0 ∧ b = (rs, .fin) := by
      cases i with
      | zero => exact ⟨rfl, (Option.some.inj hb).symm⟩
      | succ i => cases hb
    obtain ⟨rfl, rfl⟩ := hi
    refine ⟨fun j x y hx hy hm => absurd hm (h y (List.mem_of_getElem? hy)).2.1, fun j x hx => ⟨fun hm => absurd hm (h x (List.mem_of_getElem? hx)).2.1, fun _ n hn => ?_⟩, fun x hx => by cases hx⟩
    rw [(h x (List.mem_of_getElem? hx)).1] at hn
    cases hn
def longP : List Blk := (List.range 40).map (fun k : Nat => (([] : List Rz), En.go ((k : Int) + 1))) ++ [([], .fin)]
theorem long_led : ledB longP = true := by decide +kernel
theorem long_right : RightP (pdt longP) := by
  unfold RightP
  rw [decP_dt]
  have hb : ∀ b ∈ longP, b.1 = [] ∧ b.2.nms = [] := fun b hb => by
    rcases List.mem_append.mp hb with hb | hb
    · obtain ⟨k, _, rfl⟩ := List.mem_map.mp hb
      exact ⟨rfl, rfl⟩
    · rw [List.mem_singleton.mp hb]
      exact ⟨rfl, rfl⟩
  refine ⟨written_back (by unfold longP; simp) fun b h x hx => ?_, long_led, fun i b h => ?_⟩
  · rw [(hb b h).1] at hx
    cases hx
  · obtain ⟨h1, h2⟩ := hb b (List.mem_of_getElem? h)
    refine ⟨fun j x y hx => ?_, fun j x hx => ?_, fun x hx => ?_⟩
    · rw [h1] at hx; simp at hx
    · rw [h1] at hx; simp at hx
    · rw [h2] at hx; cases hx
theorem none_right : ¬ RightP (.lst []) := fun h => by
  have := h.1
  cases this
end Gn
set_option Elab.async false
set_option linter.all false
set_option maxRecDepth 100000
set_option maxHeartbeats 4000000
namespace Gn
open PySem PySem.Spec PyProof.Rows L2
/-- a def that is called by the law's own caller alone (nothing is being printed around it) -/
structure FnG (P : Program) (w : World) (K : PySem.W.Frag) (mg : Str → Option Value) (base : Heap) (f : Addr) (fd : FuncData) (ps : List Str) (sp : Sp) : Prop where
  run : ∀ (outer : List Env) (s : Shared) (H : Hp) (args : Args) (us : List Value) (vs : List V) (Q : VK) (E : XK), Env0 P w K mg base callerA outer s H → BindsTo s fd args (ps.zip us) →
    Vals vs us → sp vs H Q E → codeAny (model P w) callerA (.call (.ref f) args) (CR CX0 outer P w H s Q E) s
theorem fnG_of {P : Program} {w : World} {K : PySem.W.Frag} {mg : Str → Option Value} {base : Heap} {x qual : Str} {st : Stmt} {f : Addr} {fd : FuncData} {N ps : List Str} {sp : Sp} {k : Nat} (F : Fun K x qual st f fd) (S : FnScope N ps (defScope st))
    (hr : Room (k + 1) callerA) (len : ∀ vs H Q E, sp vs H Q E → vs.length = ps.length)
    (body : ∀ (cdv : Value) (outer : List Env) (s : Shared) (H : Hp) (vs : List V) (Q : VK) (E : XK), Room k (callerA.deeper (envOfC qual (defScope st) s.heap.objs.size f cdv)) → sp vs H Q E →
      ∃ t, PSs (cxOf CX0 P w K mg base N qual (defScope st) f cdv callerA outer s H E).nox (defBody st) t ∧ t { nx := fun _ H' => Q .non H', rt := Q } (start N vs) H) : FnG P w K mg base f fd ps sp := by
  obtain ⟨oc, od, kV, doc, pm, an, cdv, ct, osl, rfl, lk, hcd⟩ := F.ex
  refine ⟨fun outer s H args us vs Q E e0 hb rv hsp => ?_⟩
  have hl := len _ _ _ _ hsp
  have inK : K.In s.heap := e0.mod.kin.keeps fun b o z => (e0.bs b o z).1
  have lim : s.heap.NoLimit := e0.mod.nolimit.keeps fun b o z => (e0.bs b o z).1
  have kinds : ∀ y ∈ ps.zip us, (defScope st).names.lookup y.1 = some .local ∨ ((defScope st).names.lookup y.1 = some .cell ∧ ((cellsFrom (s.heap.objs.size + 1) (defScope st).names []).lookup y.1).isSome = true) := by
    rintro ⟨n, v⟩ hy
    rcases S.par n (List.of_mem_zip hy).1 with z | z
    · exact .inl z
    · exact .inr ⟨z, PySem.W.cellsFrom_some _ _ _ (.inl z)⟩
  refine codeAny_call_function hr.depth (inK _ _ lk) rfl S.co S.gen rfl (PySem.W.codeRec_of inK hcd) (hb _ _ _ _ ?_)
  refine wpAny_newFunctionEnv_cells S.kind kinds fun env he t1 x1 => ?_
  subst he
  refine ⟨lim.keeps x1.toInCall.keep, codeAny_func ?_⟩
  obtain ⟨tt, h1, h2⟩ := body cdv outer s H vs Q E (hr.deeper _) hsp
  have J : Inv (cxOf CX0 P w K mg base N qual (defScope st) f cdv callerA outer s H E) [] (start N vs) H t1 := inv_start S hr.hd e0 hl rv x1
  refine wpAny_mono (h1.nox.run [] t1 (start N vs) H _ J h2) (fun fl t2 hs => ?_) fun e t2 hs => hs
  have fin : ∀ {σ' : L2.St} {H' : Hp} {v : V} {u : Value}, Inv (cxOf CX0 P w K mg base N qual (defScope st) f cdv callerA outer s H E) [] σ' H' t2 → RelV v u → Q v H' → CE outer P w H s Q u t2 :=
    fun {σ' H' v u} j ru qv => ⟨v, H', j.os, j.bare, j.base, j.hok, ru, qv⟩
  cases fl with
  | ret u =>
    obtain ⟨v, σ', H', j, ru, qv⟩ := hs
    exact fin j ru qv
  | next =>
    obtain ⟨σ', H', j, qv⟩ := hs
    exact fin (v := V.non) (u := Value.none) j rfl qv
  | brk =>
    obtain ⟨_, _, _, z⟩ := hs
    exact z.elim
  | cont =>
    obtain ⟨_, _, _, z⟩ := hs
    exact z.elim
theorem lawG {P : Program} {w : World} {K : PySem.W.Frag} {mg mb : Str → Option Value} {fa a : Addr} {fd : FuncData} {x : Str} {sp : Sp} {t1 : Shared} {vs : List Value} {ns : List Int} (inK : K.In t1.heap) (hns : t1.heap.Ns mainGlobals mg)
    (hb : t1.heap.Ns builtinsNs mb) (hbb : ∀ x : Str, x ≠ "__name__" → mb x = bootBuiltins x) (lim : t1.heap.NoLimit) (hg : t1.gens = #[]) (ha : t1.heap.get? a = some { cls := .type "list", data := .seq vs.toArray }) (hi : IntsAre vs ns) (hl : ns.length ≤ sizeLine)
    (F : ∀ base : Heap, K.In base → base.Ns mainGlobals mg → FnG P w K mg base fa fd [x] sp) (bind : ∀ (s : Shared) (u : Value), BindsTo s fd ⟨[u], []⟩ [(x, u)])
    (hsp : ∀ H : Hp, Only H → SqL K H a (ns.map V.int) → sp [.ref a] H (fun v _ => v = .bl true) fun _ _ _ => False) :
    codeAny (model P w) callerA (.call (.ref fa) ⟨[.ref a], []⟩) (fun r t => r = .ok (.ret (.bool true)) ∧ OldK t1.heap t.heap ∧ t.os = t1.os ∧ AllBare t.gens) t1 := by
  have rv := vals_ints hi
  have lenV := hi.length
  have core : ∀ H : Hp, Only H → SqL K H a (ns.map V.int) → HOk P w H t1.heap → (∀ b, H b ≠ none → b = a) → (H a ≠ none → K.lookup a = none) →
      codeAny (model P w) callerA (.call (.ref fa) ⟨[.ref a], []⟩) (fun r t => r = .ok (.ret (.bool true)) ∧ OldK t1.heap t.heap ∧ t.os = t1.os ∧ AllBare t.gens) t1 := by
    intro H hO hS hok hA hK
    have onlyA : ∀ {b : Addr} {u : HO}, H b = some u → b = a := fun {b u} q => hA b (by rw [q]; simp)
    have noA : ∀ {b : Addr} {o : Obj} {es : Array DictEntry} {ep : Nat}, t1.heap.get? b = some o → o.data = .dict es ep → H b = none := fun {b o es ep} e d => by
      cases q : H b with
      | none => rfl
      | some u =>
        have eb := onlyA q
        subst eb
        rw [ha] at e
        cases e
        cases (show Data.seq vs.toArray _ = Data.dict es ep from d)
    have nsK : ∀ {b : Addr} {m : Str → Option Value}, t1.heap.Ns b m → (hidT t1.heap H).Ns b m := fun {b m} ⟨o, es, ep, e, d, r⟩ => ⟨o, es, ep, hidT_get e (noA e d), d, r⟩
    have inKb : K.In (hidT t1.heap H) := fun b o e => by
      refine hidT_get (inK b o e) ?_
      cases q : H b with
      | none => rfl
      | some u =>
        have eb := onlyA q
        subst eb
        rw [hK (by rw [q]; simp)] at e
        cases e
    have hM : Mod K mg (hidT t1.heap H) := ⟨inKb, nsK hns, ⟨mb, nsK hb, hbb⟩, let ⟨mc, h1, h2⟩ := lim; ⟨mc, nsK h1, h2⟩⟩
    have e0 : Env0 P w K mg (hidT t1.heap H) callerA [] t1 H := ⟨rfl, hM, fun b o e => of_hidT e, Nat.le_of_eq (hidT_size _ _), trivial, (fun b hb => absurd (show b ∈ ([] : List Addr) from hb) (by simp)), hok, .of_eq hg⟩
    refine codeAny_mono ((F _ inKb (nsK hns)).run [] t1 H ⟨[.ref a], []⟩ [.ref a] [.ref a] _ _ e0 (bind t1 (.ref a)) (.cons rfl .nil) (hsp H hO hS)) fun r t h => ?_
    cases r with
    | error e => exact False.elim h
    | ok fl =>
      cases fl with
      | ret u =>
        obtain ⟨v, H', os, bare, un, hok', r', q⟩ := h
        have q' : v = .bl true := q
        subst q'
        obtain rfl : u = Value.bool true := r'
        refine ⟨rfl, (OldK.of_keep fun b o e => ?_), os, bare⟩
        cases q : H b with
        | none => exact un.keep b o e q ((by intro z; exact absurd (show b ∈ ([] : List Addr) from z) (by simp))) (by simp)
        | some u =>
          rcases hO b with z | ⟨ob, xs, z⟩
          · rw [q] at z
            cases z
          · have z2 := un.frzs b ob _ z
            obtain ⟨e1, _⟩ := hok b _ z
            obtain ⟨e2, _⟩ := hok' b _ z2
            rw [e] at e1
            cases e1
            exact e2
      | next => exact False.elim h
      | brk => exact False.elim h
      | cont => exact False.elim h
  cases hk : K.lookup a with
  | some o =>
    have e := inK a o hk
    rw [ha] at e
    cases e
    exact core (fun _ => none) (fun _ => .inl rfl) (.inr ⟨_, vs.toArray, _, hk, rfl, rfl, rfl, by rw [List.size_toArray, lenV]; exact hl, by simpa using rv⟩) (fun b u z => by cases (show (none : Option HO) = some u from z)) (fun b z => absurd rfl z) fun z => absurd rfl z
  | none =>
    let H0 : Hp := fun b => if b = a then some (.frz { cls := .type "list", data := .seq vs.toArray } (.lst (ns.map V.int))) else none
    have h1 : ∀ b, b = a → H0 b = some (.frz { cls := .type "list", data := .seq vs.toArray } (.lst (ns.map V.int))) := fun b e => if_pos e
    have h2 : ∀ b, b ≠ a → H0 b = none := fun b e => if_neg e
    refine core H0 (fun b => ?_) (.inl (.inr ⟨_, h1 a rfl⟩)) (fun b u z => ?_) (fun b z => ?_) fun _ => hk
    · by_cases eb : b = a
      · exact .inr ⟨_, _, h1 b eb⟩
      · exact .inl (h2 b eb)
    · by_cases eb : b = a
      · rw [h1 b eb] at z
        cases z
        subst eb
        exact ⟨ha, by rw [List.length_map]; exact hl, vs, _, rv, ha⟩
      · rw [h2 b eb] at z
        cases z
    · by_cases eb : b = a
      · exact eb
      · exact absurd (h2 b eb) z
theorem walkG {l : PySem.W.OpenLaw} {n : Nat} {q : Program} {loose : List Str} {XP : (Str → Option Value) → Heap → Prop} {YP : World → Heap → Prop} {d : DefRec} {K : Params → PySem.W.Frag} {sp : World → Sp} {x : Str} (hn : l.most = some n) (hn2 : n ≤ sizeLine) (hdf : d.params.defaults = [])
    (hY : ∀ (w : World) (h : Heap), YP w h → (K w.params).In h)
    (F : ∀ (w : World) (mg : Str → Option Value) (fa : Addr) (h : Heap), (K w.params).In h → h.Ns mainGlobals mg → mg d.name = some (.ref fa) →
      ∃ fd : FuncData, (∀ (s : Shared) (u : Value), BindsTo s fd ⟨[u], []⟩ [(x, u)]) ∧ ∀ base : Heap, (K w.params).In base → base.Ns mainGlobals mg → FnG l.prog w (K w.params) mg base fa fd [x] (sp w))
    (hsp : ∀ (w : World) (H : Hp) (a : Addr) (ns : List Int), ns.length ≤ n → Only H → SqL (K w.params) H a (ns.map V.int) → sp w [.ref a] H (fun v _ => v = .bl true) fun _ _ _ => False) :
    PySem.W.WalkO q loose XP YP l.row.toRowW d [] (fun f vs => PySem.call f vs) := by
  refine Att.attach_call hn hdf fun w t0 t1 mg mb fa o pm cd doc a vs ns G Y ho hd hcd hmg hobj hints hlen hg => ?_
  have KX := hY w _ Y
  obtain ⟨fd, hb, hF⟩ := F w mg fa _ KX G.T.g hmg
  exact lawG KX G.T.g G.T.b G.T.builtins G.T.nolimit hg hobj hints (Nat.le_trans hlen hn2) hF hb fun H hO hS => hsp w H a ns hlen hO hS
end Gn
set_option Elab.async false
set_option linter.all false
set_option maxRecDepth 100000
set_option maxHeartbeats 8000000
set_option pp.maxSteps 300
namespace Gn
open PySem PySem.Spec PyProof.Rows L2
theorem mm12 (n : Nat) : 1 ≤ (if (if (12 : Int) < (n : Int) then (12 : Int) else (n : Int)) > 1 then (if (12 : Int) < (n : Int) then (12 : Int) else (n : Int)) else 1) ∧ (if (if (12 : Int) < (n : Int) then (12 : Int) else (n : Int)) > 1 then (if (12 : Int) < (n : Int) then (12 : Int) else (n : Int)) else 1) ≤ 12 := by
  split
  · split <;> omega
  · omega
def spLaw (K : PySem.W.Frag) (Ts : List Addr) (D : Addr) : Sp := fun vs H Q _ => ∃ (a : Addr) (ns : List Int), vs = [.ref a] ∧ SqL K (nt H) a (ns.map V.int) ∧ ns.length ≤ 63 ∧ Tbs Ts D H ∧ ∀ H', Q (.bl true) H'
abbrev nLw : List Str := ["_law_script", "_law_k", "_law_tape_here", "_law_thing_here", "_law_found", "_law_takes", "_law_some", "_law_one"]
theorem scLw : FnScope nLw ["_law_script"] (defScope sLaw) := ⟨rfl, rfl, rfl, by decide +kernel, rfl, by decide +kernel, by decide +kernel⟩
section
variable {P0 : Program} {w : World} {K : PySem.W.Frag} {mg : Str → Option Value} {base : Heap} {Ts : List Addr} {Dd : Addr}
theorem ok_law {f fE fD fT fO fP fR : Addr} {fd fdE fdD fdT fdO fdP fdR : FuncData} {k : Nat} (F : Fun K "law" "law" sLaw f fd) (B : Bi mg) (hc : Room (k + 1) callerA)
    (DE : Df K mg "_law_tape" sTape ["_law_script", "_law_k"] fE fdE) (GE : FnOk P0 w K mg base CX0 k fE fdE ["_law_script", "_law_k"] (spTape K))
    (DD : Df K mg "_law_draw" sDraw ["_law_tape_here", "_law_many"] fD fdD) (GD : FnOk P0 w K mg base CX0 k fD fdD ["_law_tape_here", "_law_many"] spDraw)
    (DT : Df K mg "_law_thing" sLThing ["_law_tape_here"] fT fdT) (GT : FnOk P0 w K mg base CX0 k fT fdT ["_law_tape_here"] (spThing K))
    (DO : Df K mg "_law_rooms_right" sLRooms ["_law_shift"] fO fdO) (GO : FnOk P0 w K mg base CX0 k fO fdO ["_law_shift"] (spRoomsR K Ts Dd))
    (DP : Df K mg "is_program" sIsProg ["thing"] fP fdP) (GP : FnOk P0 w K mg base CX0 k fP fdP ["thing"] (spIsProg K Ts Dd))
    (DR : Df K mg "_law_right" sLRight ["_law_thing_here"] fR fdR) (GR : FnOk P0 w K mg base CX0 k fR fdR ["_law_thing_here"] (spRight K)) : FnG P0 w K mg base f fd ["_law_script"] (spLaw K Ts Dd) := by
  refine fnG_of F scLw hc (fun vs H Q E h => ?_) (fun cdv outer s H vs Q E hr h => ?_)
  · obtain ⟨a, ns, rfl, _⟩ := h
    rfl
  · obtain ⟨a, ns, rfl, hS, hlen, hT, q⟩ := h
    refine ⟨_, (pss_cons (ps_for PassesOwn.never rfl (pi_range1 (by rfl) B.range (pa_cons (pe_callB (call_max2 rfl) (by rfl) B.max PyProof.Rows.boot_max (pa_cons pe_int (pa_cons (pe_callB (call_min2 rfl) (by rfl) B.min PyProof.Rows.boot_min (pa_cons (pe_callB call_len_seq (by rfl) B.len PySem.boot_len (pa_cons (pv 0) pa_nil)) (pa_cons pe_int pa_nil))) pa_nil))) pa_nil)) (pg_name (i := 1) scLw.nd rfl (.inl rfl)) (pss_cons (ps_set (i := 2) scLw.nd rfl (.inl rfl) (pe_call GE hr (by rfl) DE.g DE.F.kp DE.b .nil pass0 (pa_cons (pv 0) (pa_cons (pv 1) pa_nil))))
      (pss_cons (ps_set (i := 3) scLw.nd rfl (.inl rfl) (pe_call GT hr (by rfl) DT.g DT.F.kp DT.b .nil pass0 (pa_cons (pv 2) pa_nil)))
      (pss_cons (ps_if (pt_not (pt_val (pe_call GO hr (by rfl) DO.g DO.F.kp DO.b .nil pass0 (pa_cons (pe_call GD hr (by rfl) DD.g DD.F.kp DD.b .nil pass0 (pa_cons (pv 2) (pa_cons pe_int pa_nil))) pa_nil)))) (pss_one (ps_ret pe_bl)) pss_nil)
      (pss_cons (ps_set (i := 4) scLw.nd rfl (.inl rfl) (pe_call GP hr (by rfl) DP.g DP.F.kp DP.b .nil pass0 (pa_cons (pv 3) pa_nil)))
      (pss_one (ps_if (pw_or (pt_not (pt_val (pe_callB call_isi (by rfl) B.isinstance PyProof.Rows.boot_isinstance (pa_cons (pv 4) (pa_cons (pe_bltn (v := .ty "bool") (by rfl) B.bool (show bootBuiltins "bool" = some (.type "bool") by rfl) rfl) pa_nil))))) (pw_or1 (pt_cmpR op_ne (pv 4) (pe_call GR hr (by rfl) DR.g DR.F.kp DR.b .nil pass0 (pa_cons (pv 3) pa_nil)) (nomark _)))).pt (pss_one (ps_ret pe_bl)) pss_nil)))))))
      (pss_cons (ps_set (i := 5) scLw.nd rfl (.inl rfl) (pe_lst (pa_cons (pe_tup (pa_cons pe_str (pa_cons pe_int pa_nil))) (pa_cons (pe_tup (pa_cons pe_str (pa_cons (pe_op op_pow pe_int pe_int) pa_nil))) pa_nil))))
      (pss_cons (ps_set (i := 6) scLw.nd rfl (.inl rfl) (pe_lst (pa_cons (pe_lst (pa_cons (pe_tup (pa_cons (pv 5) (pa_cons (pe_tup (pa_cons pe_str pa_nil)) pa_nil))) pa_nil)) (pa_cons (pe_lst (pa_cons (pe_tup (pa_cons (pe_lst pa_nil) (pa_cons (pe_tup (pa_cons pe_str pa_nil)) pa_nil))) pa_nil)) (pa_cons (pe_lst (pa_cons (pe_tup (pa_cons (pe_op op_rep (pe_lst (pa_cons (pe_tup (pa_cons pe_str (pa_cons pe_int pa_nil))) pa_nil)) pe_int) (pa_cons (pe_tup (pa_cons pe_str pa_nil)) pa_nil))) pa_nil)) pa_nil)))))
      (pss_cons (ps_expr (pe_bm PySem.F.plainAttrs_list PySem.F.slot_list_append PySem.F.type_list_append mt_append (pv 6) (pa_cons (pe_op op_cat (pe_lc (own := [("_law_k", 1)]) (g := (gName 1)) (tt := tYes) (te := _) rfl scLw.nd (pi_range1 (by rfl) B.range (pa_cons pe_int pa_nil)) (blkOk_by (own := [("_law_k", 1)]) (N := nLw) (sc := defScope sLaw) (by decide +kernel)) (fun _ _ _ _ _ => (pg_name (i := 1) scLw.nd rfl (.inl rfl))) (fun _ _ _ _ _ => pts_nil) (fun _ _ _ _ _ => (pe_tup (pa_cons (pe_lst pa_nil) (pa_cons (pe_tup (pa_cons pe_str (pa_cons (pe_op op_add (pv 1) pe_int) pa_nil))) pa_nil))))) (pe_lst (pa_cons (pe_tup (pa_cons (pe_lst pa_nil) (pa_cons (pe_tup (pa_cons pe_str pa_nil)) pa_nil))) pa_nil))) pa_nil)))
      (pss_one (ps_ret (pe_and (pe_callB (cr_all rfl) (by rfl) B.all PyProof.Rows.boot_all (pa_cons (pe_lc (own := [("_law_one", 7)]) (g := (gName 7)) (tt := tYes) (te := _) rfl scLw.nd (pi_list (pv 6)) (blkOk_by (own := [("_law_one", 7)]) (N := nLw) (sc := defScope sLaw) (by decide +kernel)) (fun _ _ _ _ _ => (pg_name (i := 7) scLw.nd rfl (.inl rfl))) (fun _ _ _ _ _ => pts_nil) (fun _ _ _ _ _ => (pe_cmpR op_is_bl (pe_call GP hr (by rfl) DP.g DP.F.kp DP.b .nil pass0 (pa_cons (pv 7) pa_nil)) pe_bl (nomark _)))) pa_nil)) (pe_one (pe_cmpR op_is_bl (pe_call GP hr (by rfl) DP.g DP.F.kp DP.b .nil pass0 (pa_cons (pe_lst pa_nil) pa_nil)) pe_bl (nomark _)))))))))), ?_⟩
    have hml := mm12 (ns.map V.int).length
    refine ⟨.ref a, rfl, a, _, rfl, .inl (ntL hS), _, _, rfl, _, _, rfl, _, rfl, by omega, by omega, ?_⟩
    generalize (if (if (12 : Int) < ((ns.map V.int).length : Int) then (12 : Int) else ((ns.map V.int).length : Int)) > 1 then (if (12 : Int) < ((ns.map V.int).length : Int) then (12 : Int) else ((ns.map V.int).length : Int)) else 1) = vv at hml
    refine for_range (lo := 0) (n := vv.toNat) (fun k σ H1 => ∃ (y1 y2 y3 y4 : Option V), σ = [some (.ref a), y1, y2, y3, y4, none, none, none] ∧ LamX.ExtN H H1 ∧ Tbs Ts Dd H1) ⟨_, _, _, _, rfl, LamX.ExtN.refl H, hT⟩ (fun k σ H1 hk hP => ?_) (fun σ H1 hP => ?_)
    · obtain ⟨y1, y2, y3, y4, rfl, e1, t1⟩ := hP
      have hi0 : V.int (0 + (k : Int)) = iv k := by rw [Int.zero_add]; rfl
      rw [hi0]
      refine ⟨.ref a, rfl, iv k, rfl, a, ns, k, rfl, ntL ((ext_nt e1).seq hS), by omega, fun t o nt0 hTp => ?_⟩
      have s2 := new_same (o := o) nt0
      have t2 := t1.same s2
      generalize upd H1 t o = H2 at hTp s2 t2
      refine ⟨.ref t, rfl, t, 0, rfl, hTp, by decide, fun v d H3 hv hz hG b3 T3 => ?_⟩
      have kt := hTp.lst
      refine ⟨_, rfl, t, 6, _, rfl, T3, by omega, by decide, by decide, fun sh H4 hsh b4 T4 => ?_⟩
      have b24 : But t H2 H4 := fun x u n z => b4 x u n (b3 x u n z)
      have s4 : Same H1 H4 := Same.bt s2 nt0 b24
      obtain ⟨xx, yy, zz, xt, _⟩ := id hTp
      have t4 : Tbs Ts Dd H4 := t2.but xt b24
      have e4 : LamX.ExtN H H4 := e1.trans (same_ext s4)
      have hv4 : DtAt K (nt H4) v d := by
        have h1 : DtAt K (newOf H2 H4) v d := DtAt.same (new_but (t := t) b4 kt) d hv
        refine DtAt.same (fun x u z => ?_) d (DtAt.nt d h1)
        obtain ⟨z1, z2⟩ := nt_to z
        exact nt_at (new_of z1).2 z2
      have tt : ¬ ((!true) = true) := by intro h; cases h
      refine ⟨sh, rfl, by omega, t4, fun H5 e5 t5 => ⟨_, rfl, ifN tt ?_⟩⟩
      have hv5 : DtAt K (nt H5) v d := DtAt.same (ext_nt e5) d hv4
      refine ⟨_, rfl, v, d, rfl, hv5, hz, fun pr h => ?_, t5, fun H6 c e6 t6 hc => ?_⟩
      · obtain ⟨h1, h2⟩ := bnd_of hG pr h
        exact ⟨by omega, fun b hb => by have := h2 b hb; omega⟩
      have hv6 : DtAt K H6 v d := (DtAt.same (ext_nt e6) d hv5).same (nt_same _)
      refine ⟨_, rfl, _, .ty "bool", _, .type "bool", _, rfl, .ty "bool", tyD (K := K) (H := H6) (.bl c), kt_bool (.bl c), _, rfl, ifN tt ?_⟩
      refine ⟨_, rfl, _, rfl, v, d, rfl, hv6, hz, ends_of hG, fun pr h => ?_, fun H7 c' s7 hc' => ⟨rfl, _, rfl, ?_⟩⟩
      · obtain ⟨h1, h2⟩ := bnd_of hG pr h
        subst h
        exact ⟨by omega, fun b hb => ⟨by have := h2 b hb; omega, szD_prog hz b hb⟩⟩
      have ecc : c = c' := by
        rw [Bool.eq_iff_iff, hc, hc']
        exact right_iff d
      subst ecc
      refine ifN (fun z => ?_) ⟨_, _, _, _, rfl, ((e4.trans e5).trans e6).trans (same_ext s7), t6.same s7⟩
      rw [decide_eq_true rfl] at z
      cases z
    · obtain ⟨y1, y2, y3, y4, rfl, e1, t1⟩ := hP
      have sA : Same H1 H1 := fun _ _ z => z
      refine ⟨szl (show 2 ≤ 1000000 by decide), fun ta n_ta => ?_⟩
      have g_ta := new_same (o := .tup [.str "take", .int 5]) n_ta
      have q_ta : upd H1 ta (.tup [.str "take", .int 5]) ta = some (.tup [.str "take", .int 5]) := upd_same
      have f_ta := sA.free n_ta
      replace sA := sA.trans g_ta
      generalize upd H1 ta (.tup [.str "take", .int 5]) = W1 at sA q_ta g_ta 
      refine ⟨_, _, rfl, rfl, ⟨by decide, by decide, by decide⟩, szl (show 2 ≤ 1000000 by decide), fun tb n_tb => ?_⟩
      have g_tb := new_same (o := .tup [.str "num", .int (10 ^ (30 : Int).toNat)]) n_tb
      have q_tb : upd W1 tb (.tup [.str "num", .int (10 ^ (30 : Int).toNat)]) tb = some (.tup [.str "num", .int (10 ^ (30 : Int).toNat)]) := upd_same
      have f_tb := sA.free n_tb
      replace sA := sA.trans g_tb
      replace q_ta := g_tb _ _ q_ta
      generalize upd W1 tb (.tup [.str "num", .int (10 ^ (30 : Int).toNat)]) = W2 at sA q_tb g_tb q_ta
      refine ⟨szl (show 2 ≤ 1000000 by decide), fun l5 n_l5 => ?_⟩
      have g_l5 := new_same (o := .lst [.ref ta, .ref tb]) n_l5
      have q_l5 : upd W2 l5 (.lst [.ref ta, .ref tb]) l5 = some (.lst [.ref ta, .ref tb]) := upd_same
      have f_l5 := sA.free n_l5
      replace sA := sA.trans g_l5
      replace q_ta := g_l5 _ _ q_ta
      replace q_tb := g_l5 _ _ q_tb
      generalize upd W2 l5 (.lst [.ref ta, .ref tb]) = W3 at sA q_l5 g_l5 q_ta q_tb
      refine ⟨_, rfl, szl (show 1 ≤ 1000000 by decide), fun x1 n_x1 => ?_⟩
      have g_x1 := new_same (o := .tup [.str "end"]) n_x1
      have q_x1 : upd W3 x1 (.tup [.str "end"]) x1 = some (.tup [.str "end"]) := upd_same
      have f_x1 := sA.free n_x1
      replace sA := sA.trans g_x1
      replace q_ta := g_x1 _ _ q_ta
      replace q_tb := g_x1 _ _ q_tb
      replace q_l5 := g_x1 _ _ q_l5
      generalize upd W3 x1 (.tup [.str "end"]) = W4 at sA q_x1 g_x1 q_ta q_tb q_l5
      refine ⟨szl (show 2 ≤ 1000000 by decide), fun x2 n_x2 => ?_⟩
      have g_x2 := new_same (o := .tup [.ref l5, .ref x1]) n_x2
      have q_x2 : upd W4 x2 (.tup [.ref l5, .ref x1]) x2 = some (.tup [.ref l5, .ref x1]) := upd_same
      have f_x2 := sA.free n_x2
      replace sA := sA.trans g_x2
      replace q_ta := g_x2 _ _ q_ta
      replace q_tb := g_x2 _ _ q_tb
      replace q_l5 := g_x2 _ _ q_l5
      replace q_x1 := g_x2 _ _ q_x1
      generalize upd W4 x2 (.tup [.ref l5, .ref x1]) = W5 at sA q_x2 g_x2 q_ta q_tb q_l5 q_x1
      refine ⟨szl (show 1 ≤ 1000000 by decide), fun x3 n_x3 => ?_⟩
      have g_x3 := new_same (o := .lst [.ref x2]) n_x3
      have q_x3 : upd W5 x3 (.lst [.ref x2]) x3 = some (.lst [.ref x2]) := upd_same
      have f_x3 := sA.free n_x3
      replace sA := sA.trans g_x3
      replace q_ta := g_x3 _ _ q_ta
      replace q_tb := g_x3 _ _ q_tb
      replace q_l5 := g_x3 _ _ q_l5
      replace q_x1 := g_x3 _ _ q_x1
      replace q_x2 := g_x3 _ _ q_x2
      generalize upd W5 x3 (.lst [.ref x2]) = W6 at sA q_x3 g_x3 q_ta q_tb q_l5 q_x1 q_x2
      refine ⟨Nat.zero_le _, fun y0 n_y0 => ?_⟩
      have g_y0 := new_same (o := .lst []) n_y0
      have q_y0 : upd W6 y0 (.lst []) y0 = some (.lst []) := upd_same
      have f_y0 := sA.free n_y0
      replace sA := sA.trans g_y0
      replace q_ta := g_y0 _ _ q_ta
      replace q_tb := g_y0 _ _ q_tb
      replace q_l5 := g_y0 _ _ q_l5
      replace q_x1 := g_y0 _ _ q_x1
      replace q_x2 := g_y0 _ _ q_x2
      replace q_x3 := g_y0 _ _ q_x3
      generalize upd W6 y0 (.lst []) = W7 at sA q_y0 g_y0 q_ta q_tb q_l5 q_x1 q_x2 q_x3
      refine ⟨szl (show 1 ≤ 1000000 by decide), fun y1 n_y1 => ?_⟩
      have g_y1 := new_same (o := .tup [.str "end"]) n_y1
      have q_y1 : upd W7 y1 (.tup [.str "end"]) y1 = some (.tup [.str "end"]) := upd_same
      have f_y1 := sA.free n_y1
      replace sA := sA.trans g_y1
      replace q_ta := g_y1 _ _ q_ta
      replace q_tb := g_y1 _ _ q_tb
      replace q_l5 := g_y1 _ _ q_l5
      replace q_x1 := g_y1 _ _ q_x1
      replace q_x2 := g_y1 _ _ q_x2
      replace q_x3 := g_y1 _ _ q_x3
      replace q_y0 := g_y1 _ _ q_y0
      generalize upd W7 y1 (.tup [.str "end"]) = W8 at sA q_y1 g_y1 q_ta q_tb q_l5 q_x1 q_x2 q_x3 q_y0
      refine ⟨szl (show 2 ≤ 1000000 by decide), fun y2 n_y2 => ?_⟩
      have g_y2 := new_same (o := .tup [.ref y0, .ref y1]) n_y2
      have q_y2 : upd W8 y2 (.tup [.ref y0, .ref y1]) y2 = some (.tup [.ref y0, .ref y1]) := upd_same
      have f_y2 := sA.free n_y2
      replace sA := sA.trans g_y2
      replace q_ta := g_y2 _ _ q_ta
      replace q_tb := g_y2 _ _ q_tb
      replace q_l5 := g_y2 _ _ q_l5
      replace q_x1 := g_y2 _ _ q_x1
      replace q_x2 := g_y2 _ _ q_x2
      replace q_x3 := g_y2 _ _ q_x3
      replace q_y0 := g_y2 _ _ q_y0
      replace q_y1 := g_y2 _ _ q_y1
      generalize upd W8 y2 (.tup [.ref y0, .ref y1]) = W9 at sA q_y2 g_y2 q_ta q_tb q_l5 q_x1 q_x2 q_x3 q_y0 q_y1
      refine ⟨szl (show 1 ≤ 1000000 by decide), fun y3 n_y3 => ?_⟩
      have g_y3 := new_same (o := .lst [.ref y2]) n_y3
      have q_y3 : upd W9 y3 (.lst [.ref y2]) y3 = some (.lst [.ref y2]) := upd_same
      have f_y3 := sA.free n_y3
      replace sA := sA.trans g_y3
      replace q_ta := g_y3 _ _ q_ta
      replace q_tb := g_y3 _ _ q_tb
      replace q_l5 := g_y3 _ _ q_l5
      replace q_x1 := g_y3 _ _ q_x1
      replace q_x2 := g_y3 _ _ q_x2
      replace q_x3 := g_y3 _ _ q_x3
      replace q_y0 := g_y3 _ _ q_y0
      replace q_y1 := g_y3 _ _ q_y1
      replace q_y2 := g_y3 _ _ q_y2
      generalize upd W9 y3 (.lst [.ref y2]) = W10 at sA q_y3 g_y3 q_ta q_tb q_l5 q_x1 q_x2 q_x3 q_y0 q_y1 q_y2
      refine ⟨szl (show 2 ≤ 1000000 by decide), fun z0 n_z0 => ?_⟩
      have g_z0 := new_same (o := .tup [.str "take", .int 0]) n_z0
      have q_z0 : upd W10 z0 (.tup [.str "take", .int 0]) z0 = some (.tup [.str "take", .int 0]) := upd_same
      have f_z0 := sA.free n_z0
      replace sA := sA.trans g_z0
      replace q_ta := g_z0 _ _ q_ta
      replace q_tb := g_z0 _ _ q_tb
      replace q_l5 := g_z0 _ _ q_l5
      replace q_x1 := g_z0 _ _ q_x1
      replace q_x2 := g_z0 _ _ q_x2
      replace q_x3 := g_z0 _ _ q_x3
      replace q_y0 := g_z0 _ _ q_y0
      replace q_y1 := g_z0 _ _ q_y1
      replace q_y2 := g_z0 _ _ q_y2
      replace q_y3 := g_z0 _ _ q_y3
      generalize upd W10 z0 (.tup [.str "take", .int 0]) = W11 at sA q_z0 g_z0 q_ta q_tb q_l5 q_x1 q_x2 q_x3 q_y0 q_y1 q_y2 q_y3
      refine ⟨szl (show 1 ≤ 1000000 by decide), fun z1 n_z1 => ?_⟩
      have g_z1 := new_same (o := .lst [.ref z0]) n_z1
      have q_z1 : upd W11 z1 (.lst [.ref z0]) z1 = some (.lst [.ref z0]) := upd_same
      have f_z1 := sA.free n_z1
      replace sA := sA.trans g_z1
      replace q_ta := g_z1 _ _ q_ta
      replace q_tb := g_z1 _ _ q_tb
      replace q_l5 := g_z1 _ _ q_l5
      replace q_x1 := g_z1 _ _ q_x1
      replace q_x2 := g_z1 _ _ q_x2
      replace q_x3 := g_z1 _ _ q_x3
      replace q_y0 := g_z1 _ _ q_y0
      replace q_y1 := g_z1 _ _ q_y1
      replace q_y2 := g_z1 _ _ q_y2
      replace q_y3 := g_z1 _ _ q_y3
      replace q_z0 := g_z1 _ _ q_z0
      generalize upd W11 z1 (.lst [.ref z0]) = W12 at sA q_z1 g_z1 q_ta q_tb q_l5 q_x1 q_x2 q_x3 q_y0 q_y1 q_y2 q_y3 q_z0
      refine ⟨z1, 300, _, rfl, rfl, q_z1, by decide, by decide, szl (show 1 * 300 ≤ 1000000 by decide), fun z2 n_z2 => ?_⟩
      have g_z2 := new_same (o := .lst (List.replicate ((300 : Int).toNat) [V.ref z0]).flatten) n_z2
      have q_z2 : upd W12 z2 (.lst (List.replicate ((300 : Int).toNat) [V.ref z0]).flatten) z2 = some (.lst (List.replicate ((300 : Int).toNat) [V.ref z0]).flatten) := upd_same
      have f_z2 := sA.free n_z2
      replace sA := sA.trans g_z2
      replace q_ta := g_z2 _ _ q_ta
      replace q_tb := g_z2 _ _ q_tb
      replace q_l5 := g_z2 _ _ q_l5
      replace q_x1 := g_z2 _ _ q_x1
      replace q_x2 := g_z2 _ _ q_x2
      replace q_x3 := g_z2 _ _ q_x3
      replace q_y0 := g_z2 _ _ q_y0
      replace q_y1 := g_z2 _ _ q_y1
      replace q_y2 := g_z2 _ _ q_y2
      replace q_y3 := g_z2 _ _ q_y3
      replace q_z0 := g_z2 _ _ q_z0
      replace q_z1 := g_z2 _ _ q_z1
      generalize upd W12 z2 (.lst (List.replicate ((300 : Int).toNat) [V.ref z0]).flatten) = W13 at sA q_z2 g_z2 q_ta q_tb q_l5 q_x1 q_x2 q_x3 q_y0 q_y1 q_y2 q_y3 q_z0 q_z1
      refine ⟨szl (show 1 ≤ 1000000 by decide), fun z3 n_z3 => ?_⟩
      have g_z3 := new_same (o := .tup [.str "end"]) n_z3
      have q_z3 : upd W13 z3 (.tup [.str "end"]) z3 = some (.tup [.str "end"]) := upd_same
      have f_z3 := sA.free n_z3
      replace sA := sA.trans g_z3
      replace q_ta := g_z3 _ _ q_ta
      replace q_tb := g_z3 _ _ q_tb
      replace q_l5 := g_z3 _ _ q_l5
      replace q_x1 := g_z3 _ _ q_x1
      replace q_x2 := g_z3 _ _ q_x2
      replace q_x3 := g_z3 _ _ q_x3
      replace q_y0 := g_z3 _ _ q_y0
      replace q_y1 := g_z3 _ _ q_y1
      replace q_y2 := g_z3 _ _ q_y2
      replace q_y3 := g_z3 _ _ q_y3
      replace q_z0 := g_z3 _ _ q_z0
      replace q_z1 := g_z3 _ _ q_z1
      replace q_z2 := g_z3 _ _ q_z2
      generalize upd W13 z3 (.tup [.str "end"]) = W14 at sA q_z3 g_z3 q_ta q_tb q_l5 q_x1 q_x2 q_x3 q_y0 q_y1 q_y2 q_y3 q_z0 q_z1 q_z2
      refine ⟨szl (show 2 ≤ 1000000 by decide), fun z4 n_z4 => ?_⟩
      have g_z4 := new_same (o := .tup [.ref z2, .ref z3]) n_z4
      have q_z4 : upd W14 z4 (.tup [.ref z2, .ref z3]) z4 = some (.tup [.ref z2, .ref z3]) := upd_same
      have f_z4 := sA.free n_z4
      replace sA := sA.trans g_z4
      replace q_ta := g_z4 _ _ q_ta
      replace q_tb := g_z4 _ _ q_tb
      replace q_l5 := g_z4 _ _ q_l5
      replace q_x1 := g_z4 _ _ q_x1
      replace q_x2 := g_z4 _ _ q_x2
      replace q_x3 := g_z4 _ _ q_x3
      replace q_y0 := g_z4 _ _ q_y0
      replace q_y1 := g_z4 _ _ q_y1
      replace q_y2 := g_z4 _ _ q_y2
      replace q_y3 := g_z4 _ _ q_y3
      replace q_z0 := g_z4 _ _ q_z0
      replace q_z1 := g_z4 _ _ q_z1
      replace q_z2 := g_z4 _ _ q_z2
      replace q_z3 := g_z4 _ _ q_z3
      generalize upd W14 z4 (.tup [.ref z2, .ref z3]) = W15 at sA q_z4 g_z4 q_ta q_tb q_l5 q_x1 q_x2 q_x3 q_y0 q_y1 q_y2 q_y3 q_z0 q_z1 q_z2 q_z3
      refine ⟨szl (show 1 ≤ 1000000 by decide), fun z5 n_z5 => ?_⟩
      have g_z5 := new_same (o := .lst [.ref z4]) n_z5
      have q_z5 : upd W15 z5 (.lst [.ref z4]) z5 = some (.lst [.ref z4]) := upd_same
      have f_z5 := sA.free n_z5
      replace sA := sA.trans g_z5
      replace q_ta := g_z5 _ _ q_ta
      replace q_tb := g_z5 _ _ q_tb
      replace q_l5 := g_z5 _ _ q_l5
      replace q_x1 := g_z5 _ _ q_x1
      replace q_x2 := g_z5 _ _ q_x2
      replace q_x3 := g_z5 _ _ q_x3
      replace q_y0 := g_z5 _ _ q_y0
      replace q_y1 := g_z5 _ _ q_y1
      replace q_y2 := g_z5 _ _ q_y2
      replace q_y3 := g_z5 _ _ q_y3
      replace q_z0 := g_z5 _ _ q_z0
      replace q_z1 := g_z5 _ _ q_z1
      replace q_z2 := g_z5 _ _ q_z2
      replace q_z3 := g_z5 _ _ q_z3
      replace q_z4 := g_z5 _ _ q_z4
      generalize upd W15 z5 (.lst [.ref z4]) = W16 at sA q_z5 g_z5 q_ta q_tb q_l5 q_x1 q_x2 q_x3 q_y0 q_y1 q_y2 q_y3 q_z0 q_z1 q_z2 q_z3 q_z4
      refine ⟨szl (show 3 ≤ 1000000 by decide), fun sm n_sm => ?_⟩
      have g_sm := new_same (o := .lst [.ref x3, .ref y3, .ref z5]) n_sm
      have q_sm : upd W16 sm (.lst [.ref x3, .ref y3, .ref z5]) sm = some (.lst [.ref x3, .ref y3, .ref z5]) := upd_same
      have f_sm := sA.free n_sm
      replace sA := sA.trans g_sm
      replace q_ta := g_sm _ _ q_ta
      replace q_tb := g_sm _ _ q_tb
      replace q_l5 := g_sm _ _ q_l5
      replace q_x1 := g_sm _ _ q_x1
      replace q_x2 := g_sm _ _ q_x2
      replace q_x3 := g_sm _ _ q_x3
      replace q_y0 := g_sm _ _ q_y0
      replace q_y1 := g_sm _ _ q_y1
      replace q_y2 := g_sm _ _ q_y2
      replace q_y3 := g_sm _ _ q_y3
      replace q_z0 := g_sm _ _ q_z0
      replace q_z1 := g_sm _ _ q_z1
      replace q_z2 := g_sm _ _ q_z2
      replace q_z3 := g_sm _ _ q_z3
      replace q_z4 := g_sm _ _ q_z4
      replace q_z5 := g_sm _ _ q_z5
      generalize upd W16 sm (.lst [.ref x3, .ref y3, .ref z5]) = W17 at sA q_sm g_sm q_ta q_tb q_l5 q_x1 q_x2 q_x3 q_y0 q_y1 q_y2 q_y3 q_z0 q_z1 q_z2 q_z3 q_z4 q_z5
      have q_smG := q_sm
      refine ⟨.ref sm, rfl, .inl ⟨rfl, _, sqL q_sm⟩, 40, rfl, by decide, by decide, fun C nC => ?_⟩
      have gC := new_same (o := .lst []) nC
      have fC0 := nC
      refine lc_range (lo := 0) (n := (40 : Int).toNat) (fun i Hx => Same W17 Hx ∧ ∃ vs, Hx C = some (.lst vs) ∧ vs.length = i ∧ DtAll K (newOf (upd W17 C (.lst [])) Hx) vs (((List.range i).map fun k : Nat => (([] : List Rz), En.go ((k : Int) + 1))).map bdt) ∧ ∀ b, Hx b = none → upd W17 C (.lst []) b = none)
        ⟨gC, [], upd_same, rfl, .nil, fun _ z => z⟩ (fun i Hx hi hP => ?_) (fun Hx hP => ?_)
      · obtain ⟨sx, vs, ex, hvl, hvs, fr⟩ := hP
        refine ⟨rfl, Nat.zero_le _, fun b0 m0 => ⟨_, rfl, _, _, rfl, rfl, szl (show 2 ≤ 1000000 by decide), fun b1 m1 => ⟨szl (show 2 ≤ 1000000 by decide), fun b2 m2 => ?_⟩⟩⟩
        have f0 := fr b0 m0
        have h0 := new_same (o := .lst []) m0
        have k0 : upd Hx b0 (.lst []) b0 = some (.lst []) := upd_same
        have sw := h0
        generalize upd Hx b0 (.lst []) = V1 at h0 k0 sw m1 m2
        have f1 := fr b1 (sw.free m1)
        have h1 := new_same (o := .tup [.str "go", .int (0 + (i : Int) + 1)]) m1
        have k1 : upd V1 b1 (.tup [.str "go", .int (0 + (i : Int) + 1)]) b1 = some (.tup [.str "go", .int (0 + (i : Int) + 1)]) := upd_same
        replace sw := sw.trans h1
        replace k0 := h1 _ _ k0
        generalize upd V1 b1 (.tup [.str "go", .int (0 + (i : Int) + 1)]) = V2 at h1 k0 k1 sw m2
        have f2 := fr b2 (sw.free m2)
        have h2 := new_same (o := .tup [.ref b0, .ref b1]) m2
        have k2 : upd V2 b2 (.tup [.ref b0, .ref b1]) b2 = some (.tup [.ref b0, .ref b1]) := upd_same
        replace sw := sw.trans h2
        replace k0 := h2 _ _ k0
        replace k1 := h2 _ _ k1
        generalize upd V2 b2 (.tup [.ref b0, .ref b1]) = V3 at h2 k0 k1 k2 sw
        have keep : Same (newOf (upd W17 C (.lst [])) V3) (newOf (upd W17 C (.lst [])) (upd V3 C (.lst (vs ++ [.ref b2])))) := fun a' o' z => by
          obtain ⟨n', z'⟩ := new_of z
          exact new_at n' (by rw [upd_ne (fun z2 => by rw [z2, upd_same] at n'; cases n')]; exact z')
        have e1 : (0 : Int) + (i : Int) + 1 = (i : Int) + 1 := by omega
        rw [e1] at k1
        refine ⟨vs, sw _ _ ex, szt (by have : i < 40 := hi; omega), fun a' o' z => ?_, vs ++ [.ref b2], upd_same, by rw [List.length_append, hvl]; rfl, ?_, fun a' n => ?_⟩
        · rw [upd_ne (ne_of_none z fC0)]
          exact sw _ _ (sx _ _ z)
        · rw [List.range_succ, List.map_append, List.map_append]
          refine DtAll.same keep _ (pd_all (DtAll.same (fun a' o' z => ?_) _ hvs) (.cons (.tup (sqT (new_at f2 k2)) (.cons (.lst (new_at f0 k0) .nil) (.cons (.tup (sqT (new_at f1 k1)) (.cons (.str _) (.cons (.int _) .nil))) .nil))) .nil))
          obtain ⟨n', z'⟩ := new_of z
          exact new_at n' (sw _ _ z')
        · have na : a' ≠ C := fun z => by rw [z, upd_same] at n; cases n
          rw [upd_ne na] at n
          exact fr a' (sw.free n)
      obtain ⟨sx, vs, ex, hvl, hvs, fr⟩ := hP
      replace sA := sA.trans sx
      replace q_ta := sx _ _ q_ta
      replace q_tb := sx _ _ q_tb
      replace q_l5 := sx _ _ q_l5
      replace q_x1 := sx _ _ q_x1
      replace q_x2 := sx _ _ q_x2
      replace q_x3 := sx _ _ q_x3
      replace q_y0 := sx _ _ q_y0
      replace q_y1 := sx _ _ q_y1
      replace q_y2 := sx _ _ q_y2
      replace q_y3 := sx _ _ q_y3
      replace q_z0 := sx _ _ q_z0
      replace q_z1 := sx _ _ q_z1
      replace q_z2 := sx _ _ q_z2
      replace q_z3 := sx _ _ q_z3
      replace q_z4 := sx _ _ q_z4
      replace q_z5 := sx _ _ q_z5
      replace q_sm := sx _ _ q_sm
      have hv0 := DtAll.same (new_sub _ _) _ hvs
      have sB : Same Hx Hx := fun _ _ z => z
      refine ⟨Nat.zero_le _, fun c0 n_c0 => ?_⟩
      have g_c0 := new_same (o := .lst []) n_c0
      have q_c0 : upd Hx c0 (.lst []) c0 = some (.lst []) := upd_same
      have f_c0 := sA.free n_c0
      replace sA := sA.trans g_c0
      replace q_ta := g_c0 _ _ q_ta
      replace q_tb := g_c0 _ _ q_tb
      replace q_l5 := g_c0 _ _ q_l5
      replace q_x1 := g_c0 _ _ q_x1
      replace q_x2 := g_c0 _ _ q_x2
      replace q_x3 := g_c0 _ _ q_x3
      replace q_y0 := g_c0 _ _ q_y0
      replace q_y1 := g_c0 _ _ q_y1
      replace q_y2 := g_c0 _ _ q_y2
      replace q_y3 := g_c0 _ _ q_y3
      replace q_z0 := g_c0 _ _ q_z0
      replace q_z1 := g_c0 _ _ q_z1
      replace q_z2 := g_c0 _ _ q_z2
      replace q_z3 := g_c0 _ _ q_z3
      replace q_z4 := g_c0 _ _ q_z4
      replace q_z5 := g_c0 _ _ q_z5
      replace q_sm := g_c0 _ _ q_sm
      replace ex := g_c0 _ _ ex
      generalize upd Hx c0 (.lst []) = W18 at sA q_c0 g_c0 q_ta q_tb q_l5 q_x1 q_x2 q_x3 q_y0 q_y1 q_y2 q_y3 q_z0 q_z1 q_z2 q_z3 q_z4 q_z5 q_sm ex
      replace hv0 := DtAll.same g_c0 _ hv0
      replace sB := sB.trans g_c0
      refine ⟨szl (show 1 ≤ 1000000 by decide), fun c1 n_c1 => ?_⟩
      have g_c1 := new_same (o := .tup [.str "end"]) n_c1
      have q_c1 : upd W18 c1 (.tup [.str "end"]) c1 = some (.tup [.str "end"]) := upd_same
      have f_c1 := sA.free n_c1
      replace sA := sA.trans g_c1
      replace q_ta := g_c1 _ _ q_ta
      replace q_tb := g_c1 _ _ q_tb
      replace q_l5 := g_c1 _ _ q_l5
      replace q_x1 := g_c1 _ _ q_x1
      replace q_x2 := g_c1 _ _ q_x2
      replace q_x3 := g_c1 _ _ q_x3
      replace q_y0 := g_c1 _ _ q_y0
      replace q_y1 := g_c1 _ _ q_y1
      replace q_y2 := g_c1 _ _ q_y2
      replace q_y3 := g_c1 _ _ q_y3
      replace q_z0 := g_c1 _ _ q_z0
      replace q_z1 := g_c1 _ _ q_z1
      replace q_z2 := g_c1 _ _ q_z2
      replace q_z3 := g_c1 _ _ q_z3
      replace q_z4 := g_c1 _ _ q_z4
      replace q_z5 := g_c1 _ _ q_z5
      replace q_sm := g_c1 _ _ q_sm
      replace ex := g_c1 _ _ ex
      replace q_c0 := g_c1 _ _ q_c0
      generalize upd W18 c1 (.tup [.str "end"]) = W19 at sA q_c1 g_c1 q_ta q_tb q_l5 q_x1 q_x2 q_x3 q_y0 q_y1 q_y2 q_y3 q_z0 q_z1 q_z2 q_z3 q_z4 q_z5 q_sm ex q_c0
      replace hv0 := DtAll.same g_c1 _ hv0
      replace sB := sB.trans g_c1
      refine ⟨szl (show 2 ≤ 1000000 by decide), fun c2 n_c2 => ?_⟩
      have g_c2 := new_same (o := .tup [.ref c0, .ref c1]) n_c2
      have q_c2 : upd W19 c2 (.tup [.ref c0, .ref c1]) c2 = some (.tup [.ref c0, .ref c1]) := upd_same
      have f_c2 := sA.free n_c2
      replace sA := sA.trans g_c2
      replace q_ta := g_c2 _ _ q_ta
      replace q_tb := g_c2 _ _ q_tb
      replace q_l5 := g_c2 _ _ q_l5
      replace q_x1 := g_c2 _ _ q_x1
      replace q_x2 := g_c2 _ _ q_x2
      replace q_x3 := g_c2 _ _ q_x3
      replace q_y0 := g_c2 _ _ q_y0
      replace q_y1 := g_c2 _ _ q_y1
      replace q_y2 := g_c2 _ _ q_y2
      replace q_y3 := g_c2 _ _ q_y3
      replace q_z0 := g_c2 _ _ q_z0
      replace q_z1 := g_c2 _ _ q_z1
      replace q_z2 := g_c2 _ _ q_z2
      replace q_z3 := g_c2 _ _ q_z3
      replace q_z4 := g_c2 _ _ q_z4
      replace q_z5 := g_c2 _ _ q_z5
      replace q_sm := g_c2 _ _ q_sm
      replace ex := g_c2 _ _ ex
      replace q_c0 := g_c2 _ _ q_c0
      replace q_c1 := g_c2 _ _ q_c1
      generalize upd W19 c2 (.tup [.ref c0, .ref c1]) = W20 at sA q_c2 g_c2 q_ta q_tb q_l5 q_x1 q_x2 q_x3 q_y0 q_y1 q_y2 q_y3 q_z0 q_z1 q_z2 q_z3 q_z4 q_z5 q_sm ex q_c0 q_c1
      replace hv0 := DtAll.same g_c2 _ hv0
      replace sB := sB.trans g_c2
      refine ⟨szl (show 1 ≤ 1000000 by decide), fun c3 n_c3 => ?_⟩
      have g_c3 := new_same (o := .lst [.ref c2]) n_c3
      have q_c3 : upd W20 c3 (.lst [.ref c2]) c3 = some (.lst [.ref c2]) := upd_same
      have f_c3 := sA.free n_c3
      replace sA := sA.trans g_c3
      replace q_ta := g_c3 _ _ q_ta
      replace q_tb := g_c3 _ _ q_tb
      replace q_l5 := g_c3 _ _ q_l5
      replace q_x1 := g_c3 _ _ q_x1
      replace q_x2 := g_c3 _ _ q_x2
      replace q_x3 := g_c3 _ _ q_x3
      replace q_y0 := g_c3 _ _ q_y0
      replace q_y1 := g_c3 _ _ q_y1
      replace q_y2 := g_c3 _ _ q_y2
      replace q_y3 := g_c3 _ _ q_y3
      replace q_z0 := g_c3 _ _ q_z0
      replace q_z1 := g_c3 _ _ q_z1
      replace q_z2 := g_c3 _ _ q_z2
      replace q_z3 := g_c3 _ _ q_z3
      replace q_z4 := g_c3 _ _ q_z4
      replace q_z5 := g_c3 _ _ q_z5
      replace q_sm := g_c3 _ _ q_sm
      replace ex := g_c3 _ _ ex
      replace q_c0 := g_c3 _ _ q_c0
      replace q_c1 := g_c3 _ _ q_c1
      replace q_c2 := g_c3 _ _ q_c2
      generalize upd W20 c3 (.lst [.ref c2]) = W21 at sA q_c3 g_c3 q_ta q_tb q_l5 q_x1 q_x2 q_x3 q_y0 q_y1 q_y2 q_y3 q_z0 q_z1 q_z2 q_z3 q_z4 q_z5 q_sm ex q_c0 q_c1 q_c2
      replace hv0 := DtAll.same g_c3 _ hv0
      replace sB := sB.trans g_c3
      have hv40 : vs.length = 40 := hvl
      refine ⟨C, c3, vs, _, rfl, rfl, ex, q_c3, szl (by rw [hv40]; show 40 + 1 ≤ 1000000; decide), fun cx n_cx => ?_⟩
      have g_cx := new_same (o := .lst (vs ++ [.ref c2])) n_cx
      have q_cx : upd W21 cx (.lst (vs ++ [.ref c2])) cx = some (.lst (vs ++ [.ref c2])) := upd_same
      have f_cx := sA.free n_cx
      replace sA := sA.trans g_cx
      replace q_ta := g_cx _ _ q_ta
      replace q_tb := g_cx _ _ q_tb
      replace q_l5 := g_cx _ _ q_l5
      replace q_x1 := g_cx _ _ q_x1
      replace q_x2 := g_cx _ _ q_x2
      replace q_x3 := g_cx _ _ q_x3
      replace q_y0 := g_cx _ _ q_y0
      replace q_y1 := g_cx _ _ q_y1
      replace q_y2 := g_cx _ _ q_y2
      replace q_y3 := g_cx _ _ q_y3
      replace q_z0 := g_cx _ _ q_z0
      replace q_z1 := g_cx _ _ q_z1
      replace q_z2 := g_cx _ _ q_z2
      replace q_z3 := g_cx _ _ q_z3
      replace q_z4 := g_cx _ _ q_z4
      replace q_z5 := g_cx _ _ q_z5
      replace q_sm := g_cx _ _ q_sm
      replace ex := g_cx _ _ ex
      replace q_c0 := g_cx _ _ q_c0
      replace q_c1 := g_cx _ _ q_c1
      replace q_c2 := g_cx _ _ q_c2
      replace q_c3 := g_cx _ _ q_c3
      generalize upd W21 cx (.lst (vs ++ [.ref c2])) = W22 at sA q_cx g_cx q_ta q_tb q_l5 q_x1 q_x2 q_x3 q_y0 q_y1 q_y2 q_y3 q_z0 q_z1 q_z2 q_z3 q_z4 q_z5 q_sm ex q_c0 q_c1 q_c2 q_c3
      replace hv0 := DtAll.same g_cx _ hv0
      replace sB := sB.trans g_cx
      refine ⟨sm, _, _, rfl, rfl, q_sm, szt (show 3 < 1000000 by decide), ?_⟩
      have d_ta : ta ≠ sm := fun z => by rw [z, q_sm] at q_ta; cases q_ta
      have d_tb : tb ≠ sm := fun z => by rw [z, q_sm] at q_tb; cases q_tb
      have d_l5 : l5 ≠ sm := fun z => by rw [z, q_sm] at q_l5; cases q_l5
      have d_x1 : x1 ≠ sm := fun z => by rw [z, q_sm] at q_x1; cases q_x1
      have d_x2 : x2 ≠ sm := fun z => by rw [z, q_sm] at q_x2; cases q_x2
      have d_x3 : x3 ≠ sm := fun z => by rw [z, q_sm] at q_x3; cases q_x3
      have d_y0 : y0 ≠ sm := fun z => by rw [z, q_sm] at q_y0; cases q_y0
      have d_y1 : y1 ≠ sm := fun z => by rw [z, q_sm] at q_y1; cases q_y1
      have d_y2 : y2 ≠ sm := fun z => by rw [z, q_sm] at q_y2; cases q_y2
      have d_y3 : y3 ≠ sm := fun z => by rw [z, q_sm] at q_y3; cases q_y3
      have d_z0 : z0 ≠ sm := fun z => by rw [z, q_sm] at q_z0; cases q_z0
      have d_z1 : z1 ≠ sm := fun z => by rw [z, q_sm] at q_z1; cases q_z1
      have d_z2 : z2 ≠ sm := fun z => by rw [z, q_sm] at q_z2; have := congrArg List.length (HO.lst.inj (Option.some.inj q_z2)); simp at this
      have d_z3 : z3 ≠ sm := fun z => by rw [z, q_sm] at q_z3; cases q_z3
      have d_z4 : z4 ≠ sm := fun z => by rw [z, q_sm] at q_z4; cases q_z4
      have d_z5 : z5 ≠ sm := fun z => by rw [z, q_sm] at q_z5; cases q_z5
      have d_C : C ≠ sm := fun z => by rw [z, q_sm] at ex; have := congrArg List.length (HO.lst.inj (Option.some.inj ex)); rw [hv40] at this; exact absurd this (show ¬ ((3 : Nat) = 40) by decide)
      have d_c0 : c0 ≠ sm := fun z => by rw [z, q_sm] at q_c0; cases q_c0
      have d_c1 : c1 ≠ sm := fun z => by rw [z, q_sm] at q_c1; cases q_c1
      have d_c2 : c2 ≠ sm := fun z => by rw [z, q_sm] at q_c2; cases q_c2
      have d_c3 : c3 ≠ sm := fun z => by rw [z, q_sm] at q_c3; cases q_c3
      have d_cx : cx ≠ sm := fun z => by rw [z, q_sm] at q_cx; have := congrArg List.length (HO.lst.inj (Option.some.inj q_cx)); rw [List.length_append, hv40] at this; exact absurd this (show ¬ (3 = 40 + 1) by decide)
      have sF : ∀ x u, x ≠ sm → W22 x = some u → upd W22 sm (.lst ([V.ref x3, V.ref y3, V.ref z5] ++ [V.ref cx])) x = some u := fun x u n z => by rw [upd_ne n]; exact z
      have r_ta := sF _ _ d_ta q_ta
      have r_tb := sF _ _ d_tb q_tb
      have r_l5 := sF _ _ d_l5 q_l5
      have r_x1 := sF _ _ d_x1 q_x1
      have r_x2 := sF _ _ d_x2 q_x2
      have r_x3 := sF _ _ d_x3 q_x3
      have r_y0 := sF _ _ d_y0 q_y0
      have r_y1 := sF _ _ d_y1 q_y1
      have r_y2 := sF _ _ d_y2 q_y2
      have r_y3 := sF _ _ d_y3 q_y3
      have r_z0 := sF _ _ d_z0 q_z0
      have r_z1 := sF _ _ d_z1 q_z1
      have r_z2 := sF _ _ d_z2 q_z2
      have r_z3 := sF _ _ d_z3 q_z3
      have r_z4 := sF _ _ d_z4 q_z4
      have r_z5 := sF _ _ d_z5 q_z5
      have r_C := sF _ _ d_C ex
      have r_c0 := sF _ _ d_c0 q_c0
      have r_c1 := sF _ _ d_c1 q_c1
      have r_c2 := sF _ _ d_c2 q_c2
      have r_c3 := sF _ _ d_c3 q_c3
      have r_cx := sF _ _ d_cx q_cx
      have r_sm : upd W22 sm (.lst ([V.ref x3, V.ref y3, V.ref z5] ++ [V.ref cx])) sm = some (.lst [.ref x3, .ref y3, .ref z5, .ref cx]) := upd_same
      have s1F : Same H1 (upd W22 sm (.lst ([V.ref x3, V.ref y3, V.ref z5] ++ [V.ref cx]))) := fun x u z => sF x u (ne_of_none z f_sm) (sA _ _ z)
      generalize upd W22 sm (.lst ([V.ref x3, V.ref y3, V.ref z5] ++ [V.ref cx])) = F at sF r_sm s1F r_ta r_tb r_l5 r_x1 r_x2 r_x3 r_y0 r_y1 r_y2 r_y3 r_z0 r_z1 r_z2 r_z3 r_z4 r_z5 r_C r_c0 r_c1 r_c2 r_c3 r_cx
      have p1 : DtAt K F (.ref x3) (pdt [([.take 5, .num (10 ^ (30 : Int).toNat)], .fin)]) :=
        .lst r_x3 (.cons (.tup (sqT r_x2) (.cons (.lst r_l5 (.cons (.tup (sqT r_ta) (.cons (.str _) (.cons (.int _) .nil))) (.cons (.tup (sqT r_tb) (.cons (.str _) (.cons (.int _) .nil))) .nil))) (.cons (.tup (sqT r_x1) (.cons (.str _) .nil)) .nil))) .nil)
      have p2 : DtAt K F (.ref y3) (pdt [([], .fin)]) := .lst r_y3 (.cons (.tup (sqT r_y2) (.cons (.lst r_y0 .nil) (.cons (.tup (sqT r_y1) (.cons (.str _) .nil)) .nil))) .nil)
      have t300 : ∀ n : Nat, DtAll K F (List.replicate n [V.ref z0]).flatten ((List.replicate n (Rz.take 0)).map Rz.dt) := fun n => by
        induction n with
        | zero => exact .nil
        | succ n ih =>
          rw [List.replicate_succ, List.replicate_succ, List.flatten_cons, List.map_cons]
          exact .cons (.tup (sqT r_z0) (.cons (.str _) (.cons (.int _) .nil))) ih
      have p3 : DtAt K F (.ref z5) (pdt [(List.replicate (300 : Int).toNat (.take 0), .fin)]) :=
        .lst r_z5 (.cons (.tup (sqT r_z4) (.cons (.lst r_z2 (t300 _)) (.cons (.tup (sqT r_z3) (.cons (.str _) .nil)) .nil))) .nil)
      have vF : DtAll K F vs (((List.range 40).map fun k : Nat => (([] : List Rz), En.go ((k : Int) + 1))).map bdt) := by
        refine DtAll.same (fun x u z => ?_) _ hvs
        obtain ⟨n', z'⟩ := new_of z
        refine sF x u (fun e => ?_) (sB _ _ z')
        have hs : sm ≠ C := d_C.symm
        rw [e, upd_ne hs, q_smG] at n'
        cases n'
      have p4 : DtAt K F (.ref cx) (pdt longP) := by
        refine .lst r_cx ?_
        rw [show longP.map bdt = ((List.range 40).map fun k : Nat => (([] : List Rz), En.go ((k : Int) + 1))).map bdt ++ [bdt ([], .fin)] by unfold longP; rw [List.map_append]; rfl]
        exact pd_all vF (.cons (.tup (sqT r_c2) (.cons (.lst r_c0 .nil) (.cons (.tup (sqT r_c1) (.cons (.str _) .nil)) .nil))) .nil)
      have eF : LamX.ExtN H F := e1.trans (same_ext s1F)
      have tF := t1.same s1F
      have all4 : ∀ x ∈ ([.ref x3, .ref y3, .ref z5, .ref cx] : List V), ∃ pr, DtAt K (nt F) x (pdt pr) ∧ szD (pdt pr) = true ∧ RightP (pdt pr) ∧ pr.length ≤ 100 ∧ ∀ b ∈ pr, b.1.length ≤ 1000 := fun x hx => by
        simp only [List.mem_cons, List.not_mem_nil, or_false] at hx
        rcases hx with rfl | rfl | rfl | rfl
        · exact ⟨_, DtAt.nt _ p1, by decide +kernel, rows_right (fun r hr => by
            simp only [List.mem_cons, List.not_mem_nil, or_false] at hr
            rcases hr with rfl | rfl
            · exact ⟨rfl, show ("take" : Str) ≠ "meet" by decide, by decide, by decide⟩
            · exact ⟨rfl, show ("num" : Str) ≠ "meet" by decide, trivial⟩), by decide, fun b hb => by rw [List.mem_singleton.mp hb]; decide⟩
        · exact ⟨_, DtAt.nt _ p2, by decide +kernel, rows_right (fun r hr => by cases hr), by decide, fun b hb => by rw [List.mem_singleton.mp hb]; decide⟩
        · exact ⟨_, DtAt.nt _ p3, by decide +kernel, rows_right (fun r hr => by
            rw [List.eq_of_mem_replicate hr]
            exact ⟨rfl, show ("take" : Str) ≠ "meet" by decide, by decide, by decide⟩), by decide, fun b hb => by rw [List.mem_singleton.mp hb]; show (List.replicate 300 (Rz.take 0)).length ≤ 1000; rw [List.length_replicate]; decide⟩
        · exact ⟨_, DtAt.nt _ p4, by decide +kernel, long_right, by decide +kernel, fun b hb => by
            have : b.1 = [] := by
              rcases List.mem_append.mp hb with hb | hb
              · obtain ⟨k, _, rfl⟩ := List.mem_map.mp hb; rfl
              · rw [List.mem_singleton.mp hb]
            rw [this]
            exact Nat.zero_le _⟩
      refine ⟨_, rfl, sm, rfl, ⟨_, sqL r_sm⟩, fun L9 nL9 => ?_⟩
      refine lc_list (K := K) (a := sm) (xs := [.ref x3, .ref y3, .ref z5, .ref cx]) (fun i Hx => LamX.ExtN F Hx ∧ Tbs Ts Dd Hx ∧ Hx L9 = some (.lst ((List.replicate i true).map V.bl))) ⟨same_ext (new_same nL9), tF.same (new_same nL9), upd_same⟩ (fun i Hx _ hP => sqL (hP.1 _ _ r_sm (fun ps z => by cases z))) (fun i x Hx hx hP => ?_) (fun Hx hP => ?_)
      · obtain ⟨ex', tx', eL9⟩ := hP
        obtain ⟨pr, hD, hz, hR, hb1, hb2⟩ := all4 x (List.mem_of_getElem? hx)
        have hi4 : i < 4 := (List.getElem?_eq_some_iff.mp hx).1
        refine ⟨rfl, _, rfl, x, pdt pr, rfl, DtAt.same (ext_nt ex') _ hD, hz, fun pr' h => ?_, tx', fun H' c e' t' hc => ?_⟩
        · have : pr' = pr := by rw [← decP_dt pr', ← h, decP_dt]
          rw [this]
          exact ⟨hb1, hb2⟩
        have hct : c = true := hc.mpr hR
        subst hct
        have eL9' := e' _ _ eL9 (fun ps z => by cases z)
        have sU : LamX.ExtN F (upd H' L9 (.lst ((List.replicate i true).map V.bl ++ [.bl true]))) := fun x' u n z => by
          rw [upd_ne (ne_of_none n nL9)]
          exact (ex'.trans e') x' u n z
        refine ⟨true, true, rfl, rfl, _, eL9', by rw [List.length_map, List.length_replicate]; exact szt (by omega), sU, t'.but eL9' (fun x' u n z => by rw [upd_ne n]; exact z), ?_⟩
        rw [upd_same, List.replicate_succ', List.map_append]
        rfl
      obtain ⟨ex', tx', eL9⟩ := hP
      refine ⟨_, List.replicate 4 true, rfl, sqL eL9, _, rfl, ifP (by decide) ⟨Nat.zero_le _, fun e0 ne0 => ?_⟩⟩
      have s0 := new_same (o := .lst []) ne0
      refine ⟨.ref e0, .lst [], rfl, .lst (nt_at upd_same (fun ps z => by cases z)) .nil, rfl, fun pr h => ?_, tx'.same s0, fun H' c e' t' hc => ?_⟩
      · have : pr = [] := by rw [← decP_dt pr, ← h]; rfl
        rw [this]
        exact ⟨Nat.zero_le _, fun b hb => by cases hb⟩
      have hcf : c = false := Bool.eq_false_iff.mpr fun z => none_right (hc.mp z)
      subst hcf
      exact ⟨false, false, rfl, rfl, q _⟩
end
end Gn
set_option Elab.async false
set_option linter.all false
set_option maxRecDepth 100000
set_option maxHeartbeats 4000000
namespace Gn
open PySem PySem.Spec PyProof.Rows L2
/-! ### the door of a law whose defs have tables, called by the law's own caller alone -/
abbrev Bare0 : Obj := { cls := .none, data := .fields #[] }
/-- what is tracked at the door: the tables, the script's list maybe -/
structure Door (P : Program) (w : World) (K : PySem.W.Frag) (cs : List (Addr × Addr)) (a : Addr) (vs : List Value) (t1 : Shared) (H : Hp) : Prop where
  tb : ∀ p ∈ cs, H p.2 = some (.tbl #[])
  kd : ∀ z, H z = none ∨ (∃ p ∈ cs, p.2 = z) ∨ ∃ ob us, H z = some (.frz ob (.lst us))
  ok : HOk P w H t1.heap
  few : ∀ z, H z ≠ none → z = a ∨ ∃ p ∈ cs, p.2 = z
  ka : H a ≠ none → K.lookup a = none
section
variable {P : Program} {w : World} {K : PySem.W.Frag} {cs : List (Addr × Addr)} {a : Addr} {vs : List Value} {t1 : Shared} {H : Hp}
theorem Door.none_of (d : Door P w K cs a vs t1 H) (ha : t1.heap.get? a = some { cls := .type "list", data := .seq vs.toArray }) (t0 : ∀ p ∈ cs, t1.heap.get? p.2 = some Bare0) {z : Addr} {o : Obj} (e : t1.heap.get? z = some o) (n1 : ∀ us k, o.data ≠ .seq us k) (n2 : o.data ≠ .fields #[]) : H z = none := by
  cases hz : H z with
  | none => rfl
  | some u =>
    rcases d.few z (by rw [hz]; exact fun y => by cases y) with rfl | ⟨p, hp, rfl⟩
    · rw [ha] at e
      cases e
      exact absurd rfl (n1 _ _)
    · rw [t0 p hp] at e
      cases e
      exact absurd rfl n2
theorem Door.ns (d : Door P w K cs a vs t1 H) (ha : t1.heap.get? a = some { cls := .type "list", data := .seq vs.toArray }) (t0 : ∀ p ∈ cs, t1.heap.get? p.2 = some Bare0) {z : Addr} {m : Str → Option Value} (n : t1.heap.Ns z m) : (hidT t1.heap H).Ns z m := by
  obtain ⟨o, es, ep, e, hd, r⟩ := n
  refine ⟨o, es, ep, hidT_get e (d.none_of ha t0 e (fun us k y => ?_) fun y => ?_), hd, r⟩ <;> (rw [hd] at y; cases y)
theorem Door.tabB {mg : Str → Option Value} (d : Door P w K cs a vs t1 H) (ha : t1.heap.get? a = some { cls := .type "list", data := .seq vs.toArray }) (t0 : ∀ p ∈ cs, t1.heap.get? p.2 = some Bare0) (cd : ∀ p ∈ cs, PySem.W.CodeHd t1.heap p.1 p.2) (nG : t1.heap.Ns mainGlobals mg)
    (bmod : ∃ (bm : Addr) (ob : Obj), mg "__builtins__" = some (.ref bm) ∧ bm ≠ builtinsNs ∧ t1.heap.get? bm = some ob ∧ ob.cls = .type "module" ∧ ob.dict = some builtinsNs ∧ ob.data = .plain) : ∀ p ∈ cs, GxR.TabB (hidT t1.heap H) mg p.1 p.2 := fun p hp => by
  have tp := t0 p hp
  obtain ⟨og, eg, pg, g1, g2, _⟩ := nG
  have gP : mainGlobals ≠ p.2 := fun y => by
    rw [y, tp] at g1
    cases g1
    cases g2
  obtain ⟨bm, ob, b1, b2, b3, b4, b5, b6⟩ := bmod
  have m1 : bm ≠ mainGlobals := fun y => by
    rw [y, g1] at b3
    cases b3
    rw [g2] at b6
    cases b6
  have m2 : bm ≠ p.2 := fun y => by
    rw [y, tp] at b3
    cases b3
    cases b6
  obtain ⟨o, us, file, tf, flags, tg, inF, text, tt, e1, r1, r2, r3, rest⟩ := cd p hp
  refine ⟨⟨o, us, file, tf, flags, tg, inF, text, tt, hidT_get e1 (d.none_of ha t0 e1 (fun ws k y => ?_) fun y => ?_), r1, r2, r3, rest⟩, ⟨bm, ob, b1, b2, m1, m2, hidT_get b3 (d.none_of ha t0 b3 (fun ws k y => ?_) fun y => ?_), b4, b5, b6⟩, gP⟩
  · rw [r2] at y; cases y
  · rw [r2] at y
    cases y
    simp at r3
  · rw [b6] at y; cases y
  · rw [b6] at y; cases y
end
theorem doorT {P : Program} {w : World} {K : PySem.W.Frag} {mg mb : Str → Option Value} {fa a : Addr} {cs : List (Addr × Addr)} {fd : FuncData} {x : Str} {sp : Sp} {t1 : Shared} {vs : List Value} {H : Hp} (inK : K.In t1.heap) (nG : t1.heap.Ns mainGlobals mg) (nB : t1.heap.Ns builtinsNs mb)
    (same : ∀ y : Str, y ≠ "__name__" → mb y = bootBuiltins y) (lim : t1.heap.NoLimit) (gens0 : t1.gens = #[]) (t0 : ∀ p ∈ cs, t1.heap.get? p.2 = some Bare0) (tk : ∀ p ∈ cs, K.lookup p.2 = none) (cd : ∀ p ∈ cs, PySem.W.CodeHd t1.heap p.1 p.2)
    (bmod : ∃ (bm : Addr) (ob : Obj), mg "__builtins__" = some (.ref bm) ∧ bm ≠ builtinsNs ∧ t1.heap.get? bm = some ob ∧ ob.cls = .type "module" ∧ ob.dict = some builtinsNs ∧ ob.data = .plain) (ha : t1.heap.get? a = some { cls := .type "list", data := .seq vs.toArray })
    (F : ∀ base : Heap, K.In base → base.Ns mainGlobals mg → (∀ p ∈ cs, GxR.TabB base mg p.1 p.2) → FnG P w K mg base fa fd [x] sp) (bind : ∀ (s : Shared) (u : Value), BindsTo s fd ⟨[u], []⟩ [(x, u)]) (d : Door P w K cs a vs t1 H)
    (hsp : sp [.ref a] H (fun v _ => v = .bl true) fun _ _ _ => False) : codeAny (model P w) callerA (.call (.ref fa) ⟨[.ref a], []⟩) (fun r t => r = .ok (.ret (.bool true)) ∧ OldK t1.heap t.heap ∧ t.os = t1.os ∧ AllBare t.gens) t1 := by
  have inKb : K.In (hidT t1.heap H) := fun z o e => by
    refine hidT_get (inK z o e) ?_
    cases hz : H z with
    | none => rfl
    | some u =>
      rcases d.few z (by rw [hz]; exact fun y => by cases y) with rfl | ⟨p, hp, rfl⟩
      · rw [d.ka (by rw [hz]; exact fun y => by cases y)] at e; cases e
      · rw [tk p hp] at e; cases e
  have hM : Mod K mg (hidT t1.heap H) := ⟨inKb, d.ns ha t0 nG, ⟨mb, d.ns ha t0 nB, same⟩, let ⟨mc, h1, h2⟩ := lim; ⟨mc, d.ns ha t0 h1, h2⟩⟩
  have e0 : Env0 P w K mg (hidT t1.heap H) callerA [] t1 H := ⟨rfl, hM, fun z o e => of_hidT e, Nat.le_of_eq (hidT_size _ _), trivial, (fun z hz => by cases hz), d.ok, .of_eq gens0⟩
  refine codeAny_mono ((F _ inKb (d.ns ha t0 nG) (d.tabB ha t0 cd nG bmod)).run [] t1 H ⟨[.ref a], []⟩ [.ref a] [.ref a] _ _ e0 (bind t1 (.ref a)) (.cons rfl .nil) hsp) fun r t h => ?_
  cases r with
  | error e => exact False.elim h
  | ok fl =>
    cases fl with
    | next => exact False.elim h
    | brk => exact False.elim h
    | cont => exact False.elim h
    | ret u =>
      obtain ⟨v, H', os, bare, un, hok', r', q⟩ := h
      have q' : v = .bl true := q
      subst q'
      obtain rfl : u = Value.bool true := r'
      have rest : ∀ z o, (¬ ∃ p ∈ cs, p.2 = z) → t1.heap.get? z = some o → t.heap.get? z = some o := fun z o nz e => by
        rcases d.kd z with hz | hz | ⟨ob, us, hz⟩
        · exact un.keep z o e hz (fun y => by cases y) (by simp)
        · exact absurd hz nz
        · obtain ⟨e1, _⟩ := d.ok z _ hz
          obtain ⟨e2, _⟩ := hok' z _ (un.frzs z ob _ hz)
          rw [e] at e1
          cases e1
          exact e2
      have tabs : ∀ p ∈ cs, ∃ more : Array Value, t.heap.get? p.2 = some { cls := .none, data := .fields more } := fun p hp => by
        obtain ⟨more, y⟩ := un.tbls p.2 #[] (d.tb p hp)
        exact ⟨_, hok' p.2 _ y⟩
      refine ⟨rfl, ⟨fun z o e => ?_, fun z o e => ?_⟩, os, bare⟩
      · by_cases hz : ∃ p ∈ cs, p.2 = z
        · obtain ⟨p, hp, rfl⟩ := hz
          obtain ⟨more, hm⟩ := tabs p hp
          rw [t0 p hp] at e
          cases e
          exact .inr (.inl ⟨((cd p hp).tab (t0 p hp)).isCodeTable, rfl, #[], more, rfl, by rw [Array.empty_append, hm]⟩)
        · exact .inl (rest z o hz e)
      · by_cases hz : ∃ p ∈ cs, p.2 = z
        · obtain ⟨p, hp, rfl⟩ := hz
          obtain ⟨more, hm⟩ := tabs p hp
          exact ⟨_, hm⟩
        · exact ⟨o, rest z o hz e⟩
open Classical in
theorem lawGT {P : Program} {w : World} {K : PySem.W.Frag} {mg mb : Str → Option Value} {fa a : Addr} {cs : List (Addr × Addr)} {fd : FuncData} {x : Str} {sp : Sp} {t1 : Shared} {vs : List Value} {ns : List Int} (inK : K.In t1.heap) (nG : t1.heap.Ns mainGlobals mg) (nB : t1.heap.Ns builtinsNs mb)
    (same : ∀ y : Str, y ≠ "__name__" → mb y = bootBuiltins y) (lim : t1.heap.NoLimit) (gens0 : t1.gens = #[]) (t0 : ∀ p ∈ cs, t1.heap.get? p.2 = some Bare0) (tk : ∀ p ∈ cs, K.lookup p.2 = none) (cd : ∀ p ∈ cs, PySem.W.CodeHd t1.heap p.1 p.2)
    (bmod : ∃ (bm : Addr) (ob : Obj), mg "__builtins__" = some (.ref bm) ∧ bm ≠ builtinsNs ∧ t1.heap.get? bm = some ob ∧ ob.cls = .type "module" ∧ ob.dict = some builtinsNs ∧ ob.data = .plain) (ha : t1.heap.get? a = some { cls := .type "list", data := .seq vs.toArray }) (hi : IntsAre vs ns) (hl : ns.length ≤ sizeLine)
    (F : ∀ base : Heap, K.In base → base.Ns mainGlobals mg → (∀ p ∈ cs, GxR.TabB base mg p.1 p.2) → FnG P w K mg base fa fd [x] sp) (bind : ∀ (s : Shared) (u : Value), BindsTo s fd ⟨[u], []⟩ [(x, u)])
    (hsp : ∀ H : Hp, (∀ p ∈ cs, H p.2 = some (.tbl #[])) → SqL K H a (ns.map V.int) → sp [.ref a] H (fun v _ => v = .bl true) fun _ _ _ => False) : codeAny (model P w) callerA (.call (.ref fa) ⟨[.ref a], []⟩) (fun r t => r = .ok (.ret (.bool true)) ∧ OldK t1.heap t.heap ∧ t.os = t1.os ∧ AllBare t.gens) t1 := by
  have rv := vals_ints hi
  have lenV := hi.length
  have na : ∀ p ∈ cs, p.2 ≠ a := fun p hp y => by
    have q := t0 p hp
    rw [y, ha] at q
    have q2 : Data.seq vs.toArray _ = Data.fields #[] := congrArg Obj.data (Option.some.inj q)
    cases q2
  -- the tables, and u at the script's place
  let Hu : Option HO → Hp := fun u z => if z = a then u else if (∃ p ∈ cs, p.2 = z) then some (.tbl #[]) else none
  have ha' : ∀ u, Hu u a = u := fun u => if_pos rfl
  have ht' : ∀ u z, (∃ p ∈ cs, p.2 = z) → Hu u z = some (.tbl #[]) := fun u z hz => by
    obtain ⟨p, hp, rfl⟩ := hz
    show (if p.2 = a then u else if (∃ p' ∈ cs, p'.2 = p.2) then some (HO.tbl #[]) else none) = _
    rw [if_neg (na p hp), if_pos ⟨p, hp, rfl⟩]
  have hn' : ∀ u z, z ≠ a → (¬ ∃ p ∈ cs, p.2 = z) → Hu u z = none := fun u z h1 h2 => by
    show (if z = a then u else if (∃ p' ∈ cs, p'.2 = z) then some (HO.tbl #[]) else none) = none
    rw [if_neg h1, if_neg h2]
  have mkD : ∀ u : Option HO, (u = none ∨ ∃ ob us, u = some (.frz ob (.lst us))) → (∀ o, u = some o → ObjOk P w (Hu u) t1.heap a o) → (u ≠ none → K.lookup a = none) → Door P w K cs a vs t1 (Hu u) := by
    intro u hu hok hk
    refine ⟨fun p hp => ht' u _ ⟨p, hp, rfl⟩, fun z => ?_, ?_, fun z hz => ?_, fun hz => hk (by rw [← ha' u]; exact hz)⟩
    · by_cases h1 : z = a
      · subst h1
        rcases hu with rfl | ⟨ob, us, rfl⟩
        · exact .inl (ha' _)
        · exact .inr (.inr ⟨ob, us, ha' _⟩)
      · by_cases h2 : ∃ p ∈ cs, p.2 = z
        · exact .inr (.inl h2)
        · exact .inl (hn' u z h1 h2)
    · intro z o hz
      by_cases h1 : z = a
      · subst h1
        rw [ha'] at hz
        exact hok o hz
      · by_cases h2 : ∃ p ∈ cs, p.2 = z
        · rw [ht' u z h2] at hz
          cases hz
          obtain ⟨p, hp, rfl⟩ := h2
          exact t0 p hp
        · rw [hn' u z h1 h2] at hz
          cases hz
    · by_cases h1 : z = a
      · exact .inl h1
      · by_cases h2 : ∃ p ∈ cs, p.2 = z
        · exact .inr h2
        · exact absurd (hn' u z h1 h2) hz
  cases hk : K.lookup a with
  | some o =>
    have e := inK a o hk
    rw [ha] at e
    cases e
    exact doorT inK nG nB same lim gens0 t0 tk cd bmod ha F bind (mkD none (.inl rfl) (fun o y => by cases y) fun y => absurd rfl y) (hsp _ (fun p hp => ht' none _ ⟨p, hp, rfl⟩) (.inr ⟨_, vs.toArray, _, hk, rfl, rfl, rfl, by rw [List.size_toArray, lenV]; exact hl, by simpa using rv⟩))
  | none =>
    refine doorT inK nG nB same lim gens0 t0 tk cd bmod ha F bind (mkD (some (.frz { cls := .type "list", data := .seq vs.toArray } (.lst (ns.map V.int)))) (.inr ⟨_, _, rfl⟩) (fun o y => ?_) fun _ => hk) (hsp _ (fun p hp => ht' _ _ ⟨p, hp, rfl⟩) (.inl (.inr ⟨_, ha' _⟩)))
    cases y
    exact ⟨ha, by rw [List.length_map]; exact hl, vs, _, rv, ha⟩
/-- a law's end with tables, for a law that shows its program -/
theorem walkGT {l : PySem.W.OpenLaw} {n : Nat} {q : Program} {loose : List Str} {XP : (Str → Option Value) → Heap → Prop} {YP : World → Heap → Prop} {d : DefRec} {K : Params → PySem.W.Frag} {x : Str} (hn : l.most = some n) (hn2 : n ≤ sizeLine) (hdf : d.params.defaults = [])
    (hY : ∀ (w : World) (h : Heap), YP w h → (K w.params).In h)
    (F : ∀ (w : World) (mg : Str → Option Value) (fa : Addr) (h : Heap), YP w h → (K w.params).In h → h.Ns mainGlobals mg → mg d.name = some (.ref fa) →
      ∃ (fd : FuncData) (cs : List (Addr × Addr)) (sp : Sp), (∀ p ∈ cs, h.get? p.2 = some Bare0 ∧ (K w.params).lookup p.2 = none ∧ PySem.W.CodeHd h p.1 p.2) ∧ (∀ (s : Shared) (u : Value), BindsTo s fd ⟨[u], []⟩ [(x, u)]) ∧
        (∀ (H : Hp) (a : Addr) (ns : List Int), ns.length ≤ n → (∀ p ∈ cs, H p.2 = some (.tbl #[])) → SqL (K w.params) H a (ns.map V.int) → sp [.ref a] H (fun v _ => v = .bl true) fun _ _ _ => False) ∧
        ∀ base : Heap, (K w.params).In base → base.Ns mainGlobals mg → (∀ p ∈ cs, GxR.TabB base mg p.1 p.2) → FnG l.prog w (K w.params) mg base fa fd [x] sp) :
    PySem.W.WalkO q loose XP YP l.row.toRowW d [] (fun f vs => PySem.call f vs) := by
  refine Att.attach_call hn hdf fun w t0 t1 mg mb fa o pm cd doc a vs ns G Y ho hd hcd hmg hobj hints hlen hg => ?_
  have KX := hY w _ Y
  obtain ⟨fd, cs, sp, hcs, hb, hsp, hF⟩ := F w mg fa _ Y KX G.T.g hmg
  exact lawGT KX G.T.g G.T.b G.T.builtins G.T.nolimit hg (fun p hp => (hcs p hp).1) (fun p hp => (hcs p hp).2.1) (fun p hp => (hcs p hp).2.2) G.T.bmain hobj hints (Nat.le_trans hlen hn2) hF hb fun H hH hS => hsp H a ns hlen hH hS
end Gn
set_option Elab.async false
set_option linter.all false
set_option maxRecDepth 100000
set_option maxHeartbeats 4000000
namespace Gn
open PySem PySem.Spec PyProof.Rows L2
theorem all_cons {α : Type} {P : α → Prop} {x : α} {xs : List α} (h : P x) (t : ∀ y ∈ xs, P y) : ∀ y ∈ x :: xs, P y := fun y hy => by
  rcases List.mem_cons.mp hy with rfl | hy
  · exact h
  · exact t y hy
theorem all_nil {α : Type} {P : α → Prop} : ∀ y ∈ ([] : List α), P y := fun y hy => (by cases hy)
/-- the keys of a dict of the module, as texts -/
def keysT (es : Array DictEntry) : List Str := es.toList.map fun e => match e.key with
  | .str x _ => x
  | _ => Str.empty
theorem kno_of {K : PySem.W.Frag} {w : World} {d : Addr} {es : Array DictEntry} {n : Nat} {ks : List Str} {z : Str} (hl : K.lookup d = some ⟨.type "dict", none, .dict es n, #[]⟩) (hk : PySem.W.KeysLit w.params es.toList) (hs : keysT es = ks) (nz : z ∉ ks) : KNo K w d z := by
  refine ⟨es, n, hl, hk, ?_⟩
  have ke : ∀ e ∈ es.toList, ∃ x t, e.key = .str x t ∧ x ∈ ks := fun e he => by
    obtain ⟨x, t, e1, _⟩ := hk.all e he
    refine ⟨x, t, e1, ?_⟩
    rw [← hs]
    exact List.mem_map.mpr ⟨e, he, by rw [e1]⟩
  unfold PySem.W.nsIn
  rw [hl]
  dsimp only
  have h1 : es.toList.find? (fun e => e.key.isStr z) = none := by
    rw [List.find?_eq_none]
    intro e he hz
    obtain ⟨x, t, e1, e2⟩ := ke e he
    rw [e1] at hz
    have hx : (x == z) = true := hz
    have : x = z := by simpa using hx
    exact nz (this ▸ e2)
  have h2 : es.toList.any (fun e => e.refKey) = false := by
    rw [List.any_eq_false]
    intro e he hz
    obtain ⟨x, t, e1, e2⟩ := ke e he
    unfold DictEntry.refKey at hz
    rw [e1] at hz
    cases hz
  rw [h1, h2]
  rfl
theorem rowKd_no {s : Str} (h : rowKd s = none) : s ∉ (["take", "num", "sum", "less", "times", "same", "below", "pick", "meet", "look", "lay", "tell"] : List Str) := fun hs => by
  unfold rowKd at h
  repeat' split at h
  all_goals first | (cases h; done) | skip
  rename_i n1 n2 n3 n4 n5 n6 n7 n8
  simp only [List.mem_cons, List.not_mem_nil, or_false] at hs
  rcases hs with e | e | e | e | e | e | e | e | e | e | e | e
  · exact n1 e
  · exact n2 e
  · exact n3 (.inl e)
  · exact n3 (.inr (.inl e))
  · exact n3 (.inr (.inr (.inl e)))
  · exact n3 (.inr (.inr (.inr (.inl e))))
  · exact n3 (.inr (.inr (.inr (.inr e))))
  · exact n4 e
  · exact n5 e
  · exact n6 e
  · exact n7 e
  · exact n8 e
theorem endKd_no {s : Str} (h : endKd s = none) : s ∉ (["go", "if", "end"] : List Str) := fun hs => by
  unfold endKd at h
  repeat' split at h
  all_goals first | (cases h; done) | skip
  rename_i n1 n2 n3
  simp only [List.mem_cons, List.not_mem_nil, or_false] at hs
  rcases hs with e | e | e
  · exact n1 e
  · exact n2 e
  · exact n3 e
/-- the table of the rows' kinds, word by word -/
def RowTb (K : PySem.W.Frag) (w : World) (d : Addr) : Prop := ∀ p ∈ ([("take", ["place"]), ("num", ["number"]), ("sum", ["row", "row"]), ("less", ["row", "row"]), ("times", ["row", "row"]), ("same", ["row", "row"]), ("below", ["row", "row"]), ("pick", ["row", "parts"]), ("meet", ["parts"]), ("look", ["rooms", "row"]), ("lay", ["rooms", "row", "row"]), ("tell", ["row"])] : List (Str × List Str)),
  ∃ g, KDct K w d p.1 (.ref g) ∧ ∀ H, SqT K H g (p.2.map V.str)
theorem rowKd_at {K : PySem.W.Frag} {w : World} {d : Addr} (h : RowTb K w d) {s : Str} {kds : List Str} (e : rowKd s = some kds) : ∃ g, KDct K w d s (.ref g) ∧ ∀ H, SqT K H g (kds.map V.str) := by
  have key : (s, kds) ∈ ([("take", ["place"]), ("num", ["number"]), ("sum", ["row", "row"]), ("less", ["row", "row"]), ("times", ["row", "row"]), ("same", ["row", "row"]), ("below", ["row", "row"]), ("pick", ["row", "parts"]), ("meet", ["parts"]), ("look", ["rooms", "row"]), ("lay", ["rooms", "row", "row"]), ("tell", ["row"])] : List (Str × List Str)) := by
    unfold rowKd at e
    repeat' split at e
    all_goals first | (cases e; done) | skip
    all_goals cases e
    all_goals rename_i z
    all_goals first | (subst z; simp; done) | (rcases z with z | z | z | z | z <;> subst z <;> simp)
  exact h _ key
def EndTb (K : PySem.W.Frag) (w : World) (d : Addr) : Prop := ∀ p ∈ ([("go", ["block"]), ("if", ["row", "block", "block"]), ("end", [])] : List (Str × List Str)), ∃ g, KDct K w d p.1 (.ref g) ∧ ∀ H, SqT K H g (p.2.map V.str)
theorem endKd_at {K : PySem.W.Frag} {w : World} {d : Addr} (h : EndTb K w d) {s : Str} {kds : List Str} (e : endKd s = some kds) : ∃ g, KDct K w d s (.ref g) ∧ ∀ H, SqT K H g (kds.map V.str) := by
  have key : (s, kds) ∈ ([("go", ["block"]), ("if", ["row", "block", "block"]), ("end", [])] : List (Str × List Str)) := by
    unfold endKd at e
    repeat' split at e
    all_goals first | (cases e; done) | skip
    all_goals cases e
    all_goals rename_i z
    all_goals (subst z; simp)
  exact h _ key
/-- the checks by kind, word by word -/
def CkTb (K : PySem.W.Frag) (w : World) (d : Addr) (fs : Ck → Addr) : Prop := ∀ p ∈ ([("number", .num), ("row", .num), ("block", .num), ("place", .place), ("parts", .parts), ("rooms", .rooms)] : List (Str × Ck)), KDct K w d p.1 (.ref (fs p.2))
theorem ck_at {K : PySem.W.Frag} {w : World} {d : Addr} {fs : Ck → Addr} (h : CkTb K w d fs) {s : Str} {c : Ck} (e : ckOf s = some c) : KDct K w d s (.ref (fs c)) := by
  have key : (s, c) ∈ ([("number", .num), ("row", .num), ("block", .num), ("place", .place), ("parts", .parts), ("rooms", .rooms)] : List (Str × Ck)) := by
    unfold ckOf at e
    repeat' split at e
    all_goals first | (cases e; done) | skip
    all_goals cases e
    all_goals rename_i z
    all_goals first | (subst z; simp; done) | (rcases z with z | z | z <;> subst z <;> simp)
  exact h _ key
end Gn
set_option Elab.async false
set_option linter.all false
set_option maxRecDepth 100000
namespace Gn
open PySem PySem.Spec PyProof.Rows L2
set_option maxHeartbeats 4000000
theorem all_mk {l : PySem.W.OpenLaw} {w : World} {K : PySem.W.Frag} {h : Heap} {mg : Str → Option Value} {fa fL1 fL2 fM1 fM2 fM3 fM4 fM5 fM6 fM7 fM8 fM9 fMA fMB fMC fQ1 fQ2 fQ3 fQ4 fQ5 fN1 fN2 fN3 fN4 fC1 fC2 fC3 fC4 fC5 fH1 fH2 fH3 xH3 TH3 fH4 xH4 TH4 fH5 fH6 fH7 fH8 fH9 xH9 TH9 fHA xHA THA fJ1 fJ2 fJ3 fJ4 fJ5 fK1 fK2 xK2 TK2 fK3 xK3 TK3 fK4 fK5 fK6 fZ CW fW1 fW2 CP fP1 fP2 fP3 xP3 TP3 fP4 xP4 TP4 dR rg0 rg1 rg2 rg3 rg4 rg5 rg6 rg7 rg8 rg9 rg10 rg11 dE eg0 eg1 eg2 yg dC : Addr} (X : K.In h) (G : h.Ns mainGlobals mg) (hfa : mg "law" = some (.ref fa))
    {odL1 anL1 odL2 anL2 odM1 anM1 odM2 anM2 odM3 anM3 odM4 anM4 odM5 anM5 odM6 anM6 odM7 anM7 odM8 anM8 odM9 anM9 odMA anMA odMB anMB odMC anMC odQ1 anQ1 odQ2 anQ2 odQ3 anQ3 odQ4 anQ4 odQ5 anQ5 odN1 anN1 odN2 anN2 odN3 anN3 odN4 anN4 odC1 anC1 odC2 anC2 odC3 anC3 odC4 anC4 odC5 anC5 odH1 anH1 odH2 anH2 odH3 anH3 odcH3 odH4 anH4 odcH4 odH5 anH5 odH6 anH6 odH7 anH7 odH8 anH8 odH9 anH9 odcH9 odHA anHA odcHA odJ1 anJ1 odJ2 anJ2 odJ3 anJ3 odJ4 anJ4 odJ5 anJ5 odK1 anK1 odK2 anK2 odcK2 odK3 anK3 odcK3 odK4 anK4 odK5 anK5 odK6 anK6 odZ anZ odW1 anW1 odW2 anW2 odP1 anP1 odP2 anP2 odP3 anP3 odcP3 odP4 anP4 odcP4 : Option Addr} {slL1 slL2 slM1 slM2 slM3 slM4 slM5 slM6 slM7 slM8 slM9 slMA slMB slMC slQ1 slQ2 slQ3 slQ4 slQ5 slN1 slN2 slN3 slN4 slC1 slC2 slC3 slC4 slC5 slH1 slH2 slH3 slcH3 slH4 slcH4 slH5 slH6 slH7 slH8 slH9 slcH9 slHA slcHA slJ1 slJ2 slJ3 slJ4 slJ5 slK1 slK2 slcK2 slK3 slcK3 slK4 slK5 slK6 slZ slW1 slW2 slP1 slP2 slP3 slcP3 slP4 slcP4 r0q r1q r2q r3q r4q r5q r6q r7q r8q r9q r10q r11q e0q e1q e2q yq : Array (Option Value)} {ocL1 kVL1 dcL1 pmL1 cdL1 ctL1 ocL2 kVL2 dcL2 pmL2 cdL2 ctL2 ocM1 kVM1 dcM1 pmM1 cdM1 ctM1 ocM2 kVM2 dcM2 pmM2 cdM2 ctM2 ocM3 kVM3 dcM3 pmM3 cdM3 ctM3 ocM4 kVM4 dcM4 pmM4 cdM4 ctM4 ocM5 kVM5 dcM5 pmM5 cdM5 ctM5 ocM6 kVM6 dcM6 pmM6 cdM6 ctM6 ocM7 kVM7 dcM7 pmM7 cdM7 ctM7 ocM8 kVM8 dcM8 pmM8 cdM8 ctM8 ocM9 kVM9 dcM9 pmM9 cdM9 ctM9 ocMA kVMA dcMA pmMA cdMA ctMA ocMB kVMB dcMB pmMB cdMB ctMB ocMC kVMC dcMC pmMC cdMC ctMC ocQ1 kVQ1 dcQ1 pmQ1 cdQ1 ctQ1 ocQ2 kVQ2 dcQ2 pmQ2 cdQ2 ctQ2 ocQ3 kVQ3 dcQ3 pmQ3 cdQ3 ctQ3 ocQ4 kVQ4 dcQ4 pmQ4 cdQ4 ctQ4 ocQ5 kVQ5 dcQ5 pmQ5 cdQ5 ctQ5 ocN1 kVN1 dcN1 pmN1 cdN1 ctN1 ocN2 kVN2 dcN2 pmN2 cdN2 ctN2 ocN3 kVN3 dcN3 pmN3 cdN3 ctN3 ocN4 kVN4 dcN4 pmN4 cdN4 ctN4 ocC1 kVC1 dcC1 pmC1 cdC1 ctC1 ocC2 kVC2 dcC2 pmC2 cdC2 ctC2 ocC3 kVC3 dcC3 pmC3 cdC3 ctC3 ocC4 kVC4 dcC4 pmC4 cdC4 ctC4 ocC5 kVC5 dcC5 pmC5 cdC5 ctC5 ocH1 kVH1 dcH1 pmH1 cdH1 ctH1 ocH2 kVH2 dcH2 pmH2 cdH2 ctH2 ocH3 kVH3 dcH3 pmH3 cdH3 ctH3 occH3 ocH4 kVH4 dcH4 pmH4 cdH4 ctH4 occH4 ocH5 kVH5 dcH5 pmH5 cdH5 ctH5 ocH6 kVH6 dcH6 pmH6 cdH6 ctH6 ocH7 kVH7 dcH7 pmH7 cdH7 ctH7 ocH8 kVH8 dcH8 pmH8 cdH8 ctH8 ocH9 kVH9 dcH9 pmH9 cdH9 ctH9 occH9 ocHA kVHA dcHA pmHA cdHA ctHA occHA ocJ1 kVJ1 dcJ1 pmJ1 cdJ1 ctJ1 ocJ2 kVJ2 dcJ2 pmJ2 cdJ2 ctJ2 ocJ3 kVJ3 dcJ3 pmJ3 cdJ3 ctJ3 ocJ4 kVJ4 dcJ4 pmJ4 cdJ4 ctJ4 ocJ5 kVJ5 dcJ5 pmJ5 cdJ5 ctJ5 ocK1 kVK1 dcK1 pmK1 cdK1 ctK1 ocK2 kVK2 dcK2 pmK2 cdK2 ctK2 occK2 ocK3 kVK3 dcK3 pmK3 cdK3 ctK3 occK3 ocK4 kVK4 dcK4 pmK4 cdK4 ctK4 ocK5 kVK5 dcK5 pmK5 cdK5 ctK5 ocK6 kVK6 dcK6 pmK6 cdK6 ctK6 ocZ kVZ dcZ pmZ cdZ ctZ ocW1 kVW1 dcW1 pmW1 cdW1 ctW1 ocW2 kVW2 dcW2 pmW2 cdW2 ctW2 ocP1 kVP1 dcP1 pmP1 cdP1 ctP1 ocP2 kVP2 dcP2 pmP2 cdP2 ctP2 ocP3 kVP3 dcP3 pmP3 cdP3 ctP3 occP3 ocP4 kVP4 dcP4 pmP4 cdP4 ctP4 occP4 : Value} {esR esE esC : Array DictEntry} {nesR r0j r1j r2j r3j r4j r5j r6j r7j r8j r9j r10j r11j nesE e0j e1j e2j yj nesC : Nat} {vscH3 vscH4 vscH9 vscHA vscK2 vscK3 vscP3 vscP4 r0i r1i r2i r3i r4i r5i r6i r7i r8i r9i r10i r11i e0i e1i e2i yi : Array Value}
    (aL1 : PySem.W.nsIn K mainGlobals "_law_tape" = some (some (.ref fL1)))
    (lL1 : K.lookup fL1 = some ⟨ocL1, odL1, .func (PySem.W.fnOf "_law_tape" "_law_tape" (defArgs sTape) (defBody sTape) (defScope sTape) .none kVL1 dcL1 pmL1 anL1 cdL1 ctL1), slL1⟩)
    (cL1 : PySem.W.codeIn K cdL1 "_law_tape" = true)
    (kL1 : PySem.W.keepIn K (.ref fL1) = true)
    (aL2 : PySem.W.nsIn K mainGlobals "_law_draw" = some (some (.ref fL2)))
    (lL2 : K.lookup fL2 = some ⟨ocL2, odL2, .func (PySem.W.fnOf "_law_draw" "_law_draw" (defArgs sDraw) (defBody sDraw) (defScope sDraw) .none kVL2 dcL2 pmL2 anL2 cdL2 ctL2), slL2⟩)
    (cL2 : PySem.W.codeIn K cdL2 "_law_draw" = true)
    (kL2 : PySem.W.keepIn K (.ref fL2) = true)
    (aM1 : PySem.W.nsIn K mainGlobals "_law_leads" = some (some (.ref fM1)))
    (lM1 : K.lookup fM1 = some ⟨ocM1, odM1, .func (PySem.W.fnOf "_law_leads" "_law_leads" (defArgs sLLeads) (defBody sLLeads) (defScope sLLeads) .none kVM1 dcM1 pmM1 anM1 cdM1 ctM1), slM1⟩)
    (cM1 : PySem.W.codeIn K cdM1 "_law_leads" = true)
    (kM1 : PySem.W.keepIn K (.ref fM1) = true)
    (aM2 : PySem.W.nsIn K mainGlobals "_law_reached" = some (some (.ref fM2)))
    (lM2 : K.lookup fM2 = some ⟨ocM2, odM2, .func (PySem.W.fnOf "_law_reached" "_law_reached" (defArgs sLReached) (defBody sLReached) (defScope sLReached) .none kVM2 dcM2 pmM2 anM2 cdM2 ctM2), slM2⟩)
    (cM2 : PySem.W.codeIn K cdM2 "_law_reached" = true)
    (kM2 : PySem.W.keepIn K (.ref fM2) = true)
    (aM3 : PySem.W.nsIn K mainGlobals "_law_above" = some (some (.ref fM3)))
    (lM3 : K.lookup fM3 = some ⟨ocM3, odM3, .func (PySem.W.fnOf "_law_above" "_law_above" (defArgs sLAbove) (defBody sLAbove) (defScope sLAbove) .none kVM3 dcM3 pmM3 anM3 cdM3 ctM3), slM3⟩)
    (cM3 : PySem.W.codeIn K cdM3 "_law_above" = true)
    (kM3 : PySem.W.keepIn K (.ref fM3) = true)
    (aM4 : PySem.W.nsIn K mainGlobals "_law_flat" = some (some (.ref fM4)))
    (lM4 : K.lookup fM4 = some ⟨ocM4, odM4, .func (PySem.W.fnOf "_law_flat" "_law_flat" (defArgs sLFlat) (defBody sLFlat) (defScope sLFlat) .none kVM4 dcM4 pmM4 anM4 cdM4 ctM4), slM4⟩)
    (cM4 : PySem.W.codeIn K cdM4 "_law_flat" = true)
    (kM4 : PySem.W.keepIn K (.ref fM4) = true)
    (aM5 : PySem.W.nsIn K mainGlobals "_law_whole" = some (some (.ref fM5)))
    (lM5 : K.lookup fM5 = some ⟨ocM5, odM5, .func (PySem.W.fnOf "_law_whole" "_law_whole" (defArgs sLWhole) (defBody sLWhole) (defScope sLWhole) .none kVM5 dcM5 pmM5 anM5 cdM5 ctM5), slM5⟩)
    (cM5 : PySem.W.codeIn K cdM5 "_law_whole" = true)
    (kM5 : PySem.W.keepIn K (.ref fM5) = true)
    (aM6 : PySem.W.nsIn K mainGlobals "_law_within" = some (some (.ref fM6)))
    (lM6 : K.lookup fM6 = some ⟨ocM6, odM6, .func (PySem.W.fnOf "_law_within" "_law_within" (defArgs sLWithin) (defBody sLWithin) (defScope sLWithin) .none kVM6 dcM6 pmM6 anM6 cdM6 ctM6), slM6⟩)
    (cM6 : PySem.W.codeIn K cdM6 "_law_within" = true)
    (kM6 : PySem.W.keepIn K (.ref fM6) = true)
    (aM7 : PySem.W.nsIn K mainGlobals "_law_numbers_in" = some (some (.ref fM7)))
    (lM7 : K.lookup fM7 = some ⟨ocM7, odM7, .func (PySem.W.fnOf "_law_numbers_in" "_law_numbers_in" (defArgs sLNums) (defBody sLNums) (defScope sLNums) .none kVM7 dcM7 pmM7 anM7 cdM7 ctM7), slM7⟩)
    (cM7 : PySem.W.codeIn K cdM7 "_law_numbers_in" = true)
    (kM7 : PySem.W.keepIn K (.ref fM7) = true)
    (aM8 : PySem.W.nsIn K mainGlobals "_law_shaped" = some (some (.ref fM8)))
    (lM8 : K.lookup fM8 = some ⟨ocM8, odM8, .func (PySem.W.fnOf "_law_shaped" "_law_shaped" (defArgs sLShaped) (defBody sLShaped) (defScope sLShaped) .none kVM8 dcM8 pmM8 anM8 cdM8 ctM8), slM8⟩)
    (cM8 : PySem.W.codeIn K cdM8 "_law_shaped" = true)
    (kM8 : PySem.W.keepIn K (.ref fM8) = true)
    (aM9 : PySem.W.nsIn K mainGlobals "_law_ended" = some (some (.ref fM9)))
    (lM9 : K.lookup fM9 = some ⟨ocM9, odM9, .func (PySem.W.fnOf "_law_ended" "_law_ended" (defArgs sLEnded) (defBody sLEnded) (defScope sLEnded) .none kVM9 dcM9 pmM9 anM9 cdM9 ctM9), slM9⟩)
    (cM9 : PySem.W.codeIn K cdM9 "_law_ended" = true)
    (kM9 : PySem.W.keepIn K (.ref fM9) = true)
    (aMA : PySem.W.nsIn K mainGlobals "_law_formed_blocks" = some (some (.ref fMA)))
    (lMA : K.lookup fMA = some ⟨ocMA, odMA, .func (PySem.W.fnOf "_law_formed_blocks" "_law_formed_blocks" (defArgs sLFormed) (defBody sLFormed) (defScope sLFormed) .none kVMA dcMA pmMA anMA cdMA ctMA), slMA⟩)
    (cMA : PySem.W.codeIn K cdMA "_law_formed_blocks" = true)
    (kMA : PySem.W.keepIn K (.ref fMA) = true)
    (aMB : PySem.W.nsIn K mainGlobals "_law_used" = some (some (.ref fMB)))
    (lMB : K.lookup fMB = some ⟨ocMB, odMB, .func (PySem.W.fnOf "_law_used" "_law_used" (defArgs sLUsed) (defBody sLUsed) (defScope sLUsed) .none kVMB dcMB pmMB anMB cdMB ctMB), slMB⟩)
    (cMB : PySem.W.codeIn K cdMB "_law_used" = true)
    (kMB : PySem.W.keepIn K (.ref fMB) = true)
    (aMC : PySem.W.nsIn K mainGlobals "_law_right" = some (some (.ref fMC)))
    (lMC : K.lookup fMC = some ⟨ocMC, odMC, .func (PySem.W.fnOf "_law_right" "_law_right" (defArgs sLRight) (defBody sLRight) (defScope sLRight) .none kVMC dcMC pmMC anMC cdMC ctMC), slMC⟩)
    (cMC : PySem.W.codeIn K cdMC "_law_right" = true)
    (kMC : PySem.W.keepIn K (.ref fMC) = true)
    (aQ1 : PySem.W.nsIn K mainGlobals "_law_small" = some (some (.ref fQ1)))
    (lQ1 : K.lookup fQ1 = some ⟨ocQ1, odQ1, .func (PySem.W.fnOf "_law_small" "_law_small" (defArgs sLSmall) (defBody sLSmall) (defScope sLSmall) .none kVQ1 dcQ1 pmQ1 anQ1 cdQ1 ctQ1), slQ1⟩)
    (cQ1 : PySem.W.codeIn K cdQ1 "_law_small" = true)
    (kQ1 : PySem.W.keepIn K (.ref fQ1) = true)
    (aQ2 : PySem.W.nsIn K mainGlobals "_law_row" = some (some (.ref fQ2)))
    (lQ2 : K.lookup fQ2 = some ⟨ocQ2, odQ2, .func (PySem.W.fnOf "_law_row" "_law_row" (defArgs sLRow) (defBody sLRow) (defScope sLRow) .none kVQ2 dcQ2 pmQ2 anQ2 cdQ2 ctQ2), slQ2⟩)
    (cQ2 : PySem.W.codeIn K cdQ2 "_law_row" = true)
    (kQ2 : PySem.W.keepIn K (.ref fQ2) = true)
    (aQ3 : PySem.W.nsIn K mainGlobals "_law_block" = some (some (.ref fQ3)))
    (lQ3 : K.lookup fQ3 = some ⟨ocQ3, odQ3, .func (PySem.W.fnOf "_law_block" "_law_block" (defArgs sLBlock) (defBody sLBlock) (defScope sLBlock) .none kVQ3 dcQ3 pmQ3 anQ3 cdQ3 ctQ3), slQ3⟩)
    (cQ3 : PySem.W.codeIn K cdQ3 "_law_block" = true)
    (kQ3 : PySem.W.keepIn K (.ref fQ3) = true)
    (aQ4 : PySem.W.nsIn K mainGlobals "_law_thing" = some (some (.ref fQ4)))
    (lQ4 : K.lookup fQ4 = some ⟨ocQ4, odQ4, .func (PySem.W.fnOf "_law_thing" "_law_thing" (defArgs sLThing) (defBody sLThing) (defScope sLThing) .none kVQ4 dcQ4 pmQ4 anQ4 cdQ4 ctQ4), slQ4⟩)
    (cQ4 : PySem.W.codeIn K cdQ4 "_law_thing" = true)
    (kQ4 : PySem.W.keepIn K (.ref fQ4) = true)
    (aQ5 : PySem.W.nsIn K mainGlobals "_law_rooms_right" = some (some (.ref fQ5)))
    (lQ5 : K.lookup fQ5 = some ⟨ocQ5, odQ5, .func (PySem.W.fnOf "_law_rooms_right" "_law_rooms_right" (defArgs sLRooms) (defBody sLRooms) (defScope sLRooms) .none kVQ5 dcQ5 pmQ5 anQ5 cdQ5 ctQ5), slQ5⟩)
    (cQ5 : PySem.W.codeIn K cdQ5 "_law_rooms_right" = true)
    (kQ5 : PySem.W.keepIn K (.ref fQ5) = true)
    (aN1 : PySem.W.nsIn K mainGlobals "blocks_named" = some (some (.ref fN1)))
    (lN1 : K.lookup fN1 = some ⟨ocN1, odN1, .func (PySem.W.fnOf "blocks_named" "blocks_named" (defArgs sNamed) (defBody sNamed) (defScope sNamed) .none kVN1 dcN1 pmN1 anN1 cdN1 ctN1), slN1⟩)
    (cN1 : PySem.W.codeIn K cdN1 "blocks_named" = true)
    (kN1 : PySem.W.keepIn K (.ref fN1) = true)
    (aN2 : PySem.W.nsIn K mainGlobals "leads_of" = some (some (.ref fN2)))
    (lN2 : K.lookup fN2 = some ⟨ocN2, odN2, .func (PySem.W.fnOf "leads_of" "leads_of" (defArgs sLeadsOf) (defBody sLeadsOf) (defScope sLeadsOf) .none kVN2 dcN2 pmN2 anN2 cdN2 ctN2), slN2⟩)
    (cN2 : PySem.W.codeIn K cdN2 "leads_of" = true)
    (kN2 : PySem.W.keepIn K (.ref fN2) = true)
    (aN3 : PySem.W.nsIn K mainGlobals "rows_of" = some (some (.ref fN3)))
    (lN3 : K.lookup fN3 = some ⟨ocN3, odN3, .func (PySem.W.fnOf "rows_of" "rows_of" (defArgs sRowsOf) (defBody sRowsOf) (defScope sRowsOf) .none kVN3 dcN3 pmN3 anN3 cdN3 ctN3), slN3⟩)
    (cN3 : PySem.W.codeIn K cdN3 "rows_of" = true)
    (kN3 : PySem.W.keepIn K (.ref fN3) = true)
    (aN4 : PySem.W.nsIn K mainGlobals "owners_of" = some (some (.ref fN4)))
    (lN4 : K.lookup fN4 = some ⟨ocN4, odN4, .func (PySem.W.fnOf "owners_of" "owners_of" (defArgs sOwners) (defBody sOwners) (defScope sOwners) .none kVN4 dcN4 pmN4 anN4 cdN4 ctN4), slN4⟩)
    (cN4 : PySem.W.codeIn K cdN4 "owners_of" = true)
    (kN4 : PySem.W.keepIn K (.ref fN4) = true)
    (aC1 : PySem.W.nsIn K mainGlobals "common_above" = some (some (.ref fC1)))
    (lC1 : K.lookup fC1 = some ⟨ocC1, odC1, .func (PySem.W.fnOf "common_above" "common_above" (defArgs sCommon) (defBody sCommon) (defScope sCommon) .none kVC1 dcC1 pmC1 anC1 cdC1 ctC1), slC1⟩)
    (cC1 : PySem.W.codeIn K cdC1 "common_above" = true)
    (kC1 : PySem.W.keepIn K (.ref fC1) = true)
    (aC2 : PySem.W.nsIn K mainGlobals "brought_nearer" = some (some (.ref fC2)))
    (lC2 : K.lookup fC2 = some ⟨ocC2, odC2, .func (PySem.W.fnOf "brought_nearer" "brought_nearer" (defArgs sBrought) (defBody sBrought) (defScope sBrought) .none kVC2 dcC2 pmC2 anC2 cdC2 ctC2), slC2⟩)
    (cC2 : PySem.W.codeIn K cdC2 "brought_nearer" = true)
    (kC2 : PySem.W.keepIn K (.ref fC2) = true)
    (aC3 : PySem.W.nsIn K mainGlobals "nearest_above" = some (some (.ref fC3)))
    (lC3 : K.lookup fC3 = some ⟨ocC3, odC3, .func (PySem.W.fnOf "nearest_above" "nearest_above" (defArgs sNearest) (defBody sNearest) (defScope sNearest) .none kVC3 dcC3 pmC3 anC3 cdC3 ctC3), slC3⟩)
    (cC3 : PySem.W.codeIn K cdC3 "nearest_above" = true)
    (kC3 : PySem.W.keepIn K (.ref fC3) = true)
    (aC4 : PySem.W.nsIn K mainGlobals "branch_sizes" = some (some (.ref fC4)))
    (lC4 : K.lookup fC4 = some ⟨ocC4, odC4, .func (PySem.W.fnOf "branch_sizes" "branch_sizes" (defArgs sSizes) (defBody sSizes) (defScope sSizes) .none kVC4 dcC4 pmC4 anC4 cdC4 ctC4), slC4⟩)
    (cC4 : PySem.W.codeIn K cdC4 "branch_sizes" = true)
    (kC4 : PySem.W.keepIn K (.ref fC4) = true)
    (aC5 : PySem.W.nsIn K mainGlobals "branch_places" = some (some (.ref fC5)))
    (lC5 : K.lookup fC5 = some ⟨ocC5, odC5, .func (PySem.W.fnOf "branch_places" "branch_places" (defArgs sPlaces) (defBody sPlaces) (defScope sPlaces) .none kVC5 dcC5 pmC5 anC5 cdC5 ctC5), slC5⟩)
    (cC5 : PySem.W.codeIn K cdC5 "branch_places" = true)
    (kC5 : PySem.W.keepIn K (.ref fC5) = true)
    (aH1 : PySem.W.nsIn K mainGlobals "is_number" = some (some (.ref fH1)))
    (lH1 : K.lookup fH1 = some ⟨ocH1, odH1, .func (PySem.W.fnOf "is_number" "is_number" (defArgs sIsNum) (defBody sIsNum) (defScope sIsNum) .none kVH1 dcH1 pmH1 anH1 cdH1 ctH1), slH1⟩)
    (cH1 : PySem.W.codeIn K cdH1 "is_number" = true)
    (kH1 : PySem.W.keepIn K (.ref fH1) = true)
    (aH2 : PySem.W.nsIn K mainGlobals "is_place" = some (some (.ref fH2)))
    (lH2 : K.lookup fH2 = some ⟨ocH2, odH2, .func (PySem.W.fnOf "is_place" "is_place" (defArgs sIsPlace) (defBody sIsPlace) (defScope sIsPlace) .none kVH2 dcH2 pmH2 anH2 cdH2 ctH2), slH2⟩)
    (cH2 : PySem.W.codeIn K cdH2 "is_place" = true)
    (kH2 : PySem.W.keepIn K (.ref fH2) = true)
    (aH3 : PySem.W.nsIn K mainGlobals "is_parts" = some (some (.ref fH3)))
    (lH3 : K.lookup fH3 = some ⟨ocH3, odH3, .func (PySem.W.fnOf "is_parts" "is_parts" (defArgs sIsParts) (defBody sIsParts) (defScope sIsParts) .none kVH3 dcH3 pmH3 anH3 cdH3 ctH3), slH3⟩)
    (cH3 : PySem.W.codeIn K cdH3 "is_parts" = true)
    (kH3 : PySem.W.keepIn K (.ref fH3) = true)
    (hH3 : cdH3 = .ref xH3)
    (mH3 : K.lookup xH3 = some ⟨occH3, odcH3, .fields vscH3, slcH3⟩)
    (eH3 : vscH3[11]? = some (.ref TH3))
    (nH3 : K.lookup TH3 = none)
    (bH3 : PySem.W.CodeHd h xH3 TH3 ∧ h.get? TH3 = some Bare0)
    (aH4 : PySem.W.nsIn K mainGlobals "is_rooms" = some (some (.ref fH4)))
    (lH4 : K.lookup fH4 = some ⟨ocH4, odH4, .func (PySem.W.fnOf "is_rooms" "is_rooms" (defArgs sIsRooms) (defBody sIsRooms) (defScope sIsRooms) .none kVH4 dcH4 pmH4 anH4 cdH4 ctH4), slH4⟩)
    (cH4 : PySem.W.codeIn K cdH4 "is_rooms" = true)
    (kH4 : PySem.W.keepIn K (.ref fH4) = true)
    (hH4 : cdH4 = .ref xH4)
    (mH4 : K.lookup xH4 = some ⟨occH4, odcH4, .fields vscH4, slcH4⟩)
    (eH4 : vscH4[11]? = some (.ref TH4))
    (nH4 : K.lookup TH4 = none)
    (bH4 : PySem.W.CodeHd h xH4 TH4 ∧ h.get? TH4 = some Bare0)
    (aH5 : PySem.W.nsIn K mainGlobals "word_of" = some (some (.ref fH5)))
    (lH5 : K.lookup fH5 = some ⟨ocH5, odH5, .func (PySem.W.fnOf "word_of" "word_of" (defArgs sWordOf) (defBody sWordOf) (defScope sWordOf) .none kVH5 dcH5 pmH5 anH5 cdH5 ctH5), slH5⟩)
    (cH5 : PySem.W.codeIn K cdH5 "word_of" = true)
    (kH5 : PySem.W.keepIn K (.ref fH5) = true)
    (aH6 : PySem.W.nsIn K mainGlobals "fits" = some (some (.ref fH6)))
    (lH6 : K.lookup fH6 = some ⟨ocH6, odH6, .func (PySem.W.fnOf "fits" "fits" (defArgs sFits) (defBody sFits) (defScope sFits) .none kVH6 dcH6 pmH6 anH6 cdH6 ctH6), slH6⟩)
    (cH6 : PySem.W.codeIn K cdH6 "fits" = true)
    (kH6 : PySem.W.keepIn K (.ref fH6) = true)
    (aH7 : PySem.W.nsIn K mainGlobals "is_row" = some (some (.ref fH7)))
    (lH7 : K.lookup fH7 = some ⟨ocH7, odH7, .func (PySem.W.fnOf "is_row" "is_row" (defArgs sIsRow) (defBody sIsRow) (defScope sIsRow) .none kVH7 dcH7 pmH7 anH7 cdH7 ctH7), slH7⟩)
    (cH7 : PySem.W.codeIn K cdH7 "is_row" = true)
    (kH7 : PySem.W.keepIn K (.ref fH7) = true)
    (aH8 : PySem.W.nsIn K mainGlobals "is_end" = some (some (.ref fH8)))
    (lH8 : K.lookup fH8 = some ⟨ocH8, odH8, .func (PySem.W.fnOf "is_end" "is_end" (defArgs sIsEnd) (defBody sIsEnd) (defScope sIsEnd) .none kVH8 dcH8 pmH8 anH8 cdH8 ctH8), slH8⟩)
    (cH8 : PySem.W.codeIn K cdH8 "is_end" = true)
    (kH8 : PySem.W.keepIn K (.ref fH8) = true)
    (aH9 : PySem.W.nsIn K mainGlobals "is_block" = some (some (.ref fH9)))
    (lH9 : K.lookup fH9 = some ⟨ocH9, odH9, .func (PySem.W.fnOf "is_block" "is_block" (defArgs sIsBlock) (defBody sIsBlock) (defScope sIsBlock) .none kVH9 dcH9 pmH9 anH9 cdH9 ctH9), slH9⟩)
    (cH9 : PySem.W.codeIn K cdH9 "is_block" = true)
    (kH9 : PySem.W.keepIn K (.ref fH9) = true)
    (hH9 : cdH9 = .ref xH9)
    (mH9 : K.lookup xH9 = some ⟨occH9, odcH9, .fields vscH9, slcH9⟩)
    (eH9 : vscH9[11]? = some (.ref TH9))
    (nH9 : K.lookup TH9 = none)
    (bH9 : PySem.W.CodeHd h xH9 TH9 ∧ h.get? TH9 = some Bare0)
    (aHA : PySem.W.nsIn K mainGlobals "is_written" = some (some (.ref fHA)))
    (lHA : K.lookup fHA = some ⟨ocHA, odHA, .func (PySem.W.fnOf "is_written" "is_written" (defArgs sIsWritten) (defBody sIsWritten) (defScope sIsWritten) .none kVHA dcHA pmHA anHA cdHA ctHA), slHA⟩)
    (cHA : PySem.W.codeIn K cdHA "is_written" = true)
    (kHA : PySem.W.keepIn K (.ref fHA) = true)
    (hHA : cdHA = .ref xHA)
    (mHA : K.lookup xHA = some ⟨occHA, odcHA, .fields vscHA, slcHA⟩)
    (eHA : vscHA[11]? = some (.ref THA))
    (nHA : K.lookup THA = none)
    (bHA : PySem.W.CodeHd h xHA THA ∧ h.get? THA = some Bare0)
    (aJ1 : PySem.W.nsIn K mainGlobals "has_worth" = some (some (.ref fJ1)))
    (lJ1 : K.lookup fJ1 = some ⟨ocJ1, odJ1, .func (PySem.W.fnOf "has_worth" "has_worth" (defArgs sHasWorth) (defBody sHasWorth) (defScope sHasWorth) .none kVJ1 dcJ1 pmJ1 anJ1 cdJ1 ctJ1), slJ1⟩)
    (cJ1 : PySem.W.codeIn K cdJ1 "has_worth" = true)
    (kJ1 : PySem.W.keepIn K (.ref fJ1) = true)
    (aJ2 : PySem.W.nsIn K mainGlobals "is_meet" = some (some (.ref fJ2)))
    (lJ2 : K.lookup fJ2 = some ⟨ocJ2, odJ2, .func (PySem.W.fnOf "is_meet" "is_meet" (defArgs sIsMeet) (defBody sIsMeet) (defScope sIsMeet) .none kVJ2 dcJ2 pmJ2 anJ2 cdJ2 ctJ2), slJ2⟩)
    (cJ2 : PySem.W.codeIn K cdJ2 "is_meet" = true)
    (kJ2 : PySem.W.keepIn K (.ref fJ2) = true)
    (aJ3 : PySem.W.nsIn K mainGlobals "rows_named" = some (some (.ref fJ3)))
    (lJ3 : K.lookup fJ3 = some ⟨ocJ3, odJ3, .func (PySem.W.fnOf "rows_named" "rows_named" (defArgs sRowsNamed) (defBody sRowsNamed) (defScope sRowsNamed) .none kVJ3 dcJ3 pmJ3 anJ3 cdJ3 ctJ3), slJ3⟩)
    (cJ3 : PySem.W.codeIn K cdJ3 "rows_named" = true)
    (kJ3 : PySem.W.keepIn K (.ref fJ3) = true)
    (aJ4 : PySem.W.nsIn K mainGlobals "rows_tested" = some (some (.ref fJ4)))
    (lJ4 : K.lookup fJ4 = some ⟨ocJ4, odJ4, .func (PySem.W.fnOf "rows_tested" "rows_tested" (defArgs sRowsTested) (defBody sRowsTested) (defScope sRowsTested) .none kVJ4 dcJ4 pmJ4 anJ4 cdJ4 ctJ4), slJ4⟩)
    (cJ4 : PySem.W.codeIn K cdJ4 "rows_tested" = true)
    (kJ4 : PySem.W.keepIn K (.ref fJ4) = true)
    (aJ5 : PySem.W.nsIn K mainGlobals "numbers_in" = some (some (.ref fJ5)))
    (lJ5 : K.lookup fJ5 = some ⟨ocJ5, odJ5, .func (PySem.W.fnOf "numbers_in" "numbers_in" (defArgs sNumbersIn) (defBody sNumbersIn) (defScope sNumbersIn) .none kVJ5 dcJ5 pmJ5 anJ5 cdJ5 ctJ5), slJ5⟩)
    (cJ5 : PySem.W.codeIn K cdJ5 "numbers_in" = true)
    (kJ5 : PySem.W.keepIn K (.ref fJ5) = true)
    (aK1 : PySem.W.nsIn K mainGlobals "is_program" = some (some (.ref fK1)))
    (lK1 : K.lookup fK1 = some ⟨ocK1, odK1, .func (PySem.W.fnOf "is_program" "is_program" (defArgs sIsProg) (defBody sIsProg) (defScope sIsProg) .none kVK1 dcK1 pmK1 anK1 cdK1 ctK1), slK1⟩)
    (cK1 : PySem.W.codeIn K cdK1 "is_program" = true)
    (kK1 : PySem.W.keepIn K (.ref fK1) = true)
    (aK2 : PySem.W.nsIn K mainGlobals "is_led" = some (some (.ref fK2)))
    (lK2 : K.lookup fK2 = some ⟨ocK2, odK2, .func (PySem.W.fnOf "is_led" "is_led" (defArgs sIsLed) (defBody sIsLed) (defScope sIsLed) .none kVK2 dcK2 pmK2 anK2 cdK2 ctK2), slK2⟩)
    (cK2 : PySem.W.codeIn K cdK2 "is_led" = true)
    (kK2 : PySem.W.keepIn K (.ref fK2) = true)
    (hK2 : cdK2 = .ref xK2)
    (mK2 : K.lookup xK2 = some ⟨occK2, odcK2, .fields vscK2, slcK2⟩)
    (eK2 : vscK2[11]? = some (.ref TK2))
    (nK2 : K.lookup TK2 = none)
    (bK2 : PySem.W.CodeHd h xK2 TK2 ∧ h.get? TK2 = some Bare0)
    (aK3 : PySem.W.nsIn K mainGlobals "can_lead_to" = some (some (.ref fK3)))
    (lK3 : K.lookup fK3 = some ⟨ocK3, odK3, .func (PySem.W.fnOf "can_lead_to" "can_lead_to" (defArgs sCanLead) (defBody sCanLead) (defScope sCanLead) .none kVK3 dcK3 pmK3 anK3 cdK3 ctK3), slK3⟩)
    (cK3 : PySem.W.codeIn K cdK3 "can_lead_to" = true)
    (kK3 : PySem.W.keepIn K (.ref fK3) = true)
    (hK3 : cdK3 = .ref xK3)
    (mK3 : K.lookup xK3 = some ⟨occK3, odcK3, .fields vscK3, slcK3⟩)
    (eK3 : vscK3[11]? = some (.ref TK3))
    (nK3 : K.lookup TK3 = none)
    (bK3 : PySem.W.CodeHd h xK3 TK3 ∧ h.get? TK3 = some Bare0)
    (aK4 : PySem.W.nsIn K mainGlobals "are_names_right" = some (some (.ref fK4)))
    (lK4 : K.lookup fK4 = some ⟨ocK4, odK4, .func (PySem.W.fnOf "are_names_right" "are_names_right" (defArgs sNamesRight) (defBody sNamesRight) (defScope sNamesRight) .none kVK4 dcK4 pmK4 anK4 cdK4 ctK4), slK4⟩)
    (cK4 : PySem.W.codeIn K cdK4 "are_names_right" = true)
    (kK4 : PySem.W.keepIn K (.ref fK4) = true)
    (aK5 : PySem.W.nsIn K mainGlobals "are_meets_ahead" = some (some (.ref fK5)))
    (lK5 : K.lookup fK5 = some ⟨ocK5, odK5, .func (PySem.W.fnOf "are_meets_ahead" "are_meets_ahead" (defArgs sAhead) (defBody sAhead) (defScope sAhead) .none kVK5 dcK5 pmK5 anK5 cdK5 ctK5), slK5⟩)
    (cK5 : PySem.W.codeIn K cdK5 "are_meets_ahead" = true)
    (kK5 : PySem.W.keepIn K (.ref fK5) = true)
    (aK6 : PySem.W.nsIn K mainGlobals "are_rows_right" = some (some (.ref fK6)))
    (lK6 : K.lookup fK6 = some ⟨ocK6, odK6, .func (PySem.W.fnOf "are_rows_right" "are_rows_right" (defArgs sRowsRight) (defBody sRowsRight) (defScope sRowsRight) .none kVK6 dcK6 pmK6 anK6 cdK6 ctK6), slK6⟩)
    (cK6 : PySem.W.codeIn K cdK6 "are_rows_right" = true)
    (kK6 : PySem.W.keepIn K (.ref fK6) = true)
    (aZ : PySem.W.nsIn K mainGlobals "law" = some (some (.ref fZ)))
    (lZ : K.lookup fZ = some ⟨ocZ, odZ, .func (PySem.W.fnOf "law" "law" (defArgs sLaw) (defBody sLaw) (defScope sLaw) .none kVZ dcZ pmZ anZ cdZ ctZ), slZ⟩)
    (cZ : PySem.W.codeIn K cdZ "law" = true)
    (kZ : PySem.W.keepIn K (.ref fZ) = true)
    (aCW : PySem.W.nsIn K mainGlobals "Ways" = some (some (.ref CW)))
    (aW1 : PySem.W.findIn K (.ref CW) "__init__" = some (some (.ref fW1)))
    (iW1 : PySem.W.isFn K (.ref fW1) = true)
    (lW1 : K.lookup fW1 = some ⟨ocW1, odW1, .func (PySem.W.fnOf "__init__" "Ways.__init__" (defArgs sWInit) (defBody sWInit) (defScope sWInit) .none kVW1 dcW1 pmW1 anW1 cdW1 ctW1), slW1⟩)
    (cW1 : PySem.W.codeIn K cdW1 "Ways.__init__" = true)
    (kW1 : PySem.W.keepIn K (.ref fW1) = true)
    (aW2 : PySem.W.findIn K (.ref CW) "lies" = some (some (.ref fW2)))
    (iW2 : PySem.W.isFn K (.ref fW2) = true)
    (lW2 : K.lookup fW2 = some ⟨ocW2, odW2, .func (PySem.W.fnOf "lies" "Ways.lies" (defArgs sLies) (defBody sLies) (defScope sLies) .none kVW2 dcW2 pmW2 anW2 cdW2 ctW2), slW2⟩)
    (cW2 : PySem.W.codeIn K cdW2 "Ways.lies" = true)
    (kW2 : PySem.W.keepIn K (.ref fW2) = true)
    (pgCW : PySem.W.plainGet K CW Str.empty = true)
    (hdCW : PySem.W.hasDictIn K CW = true)
    (poCW : PySem.W.plainOver K CW = true)
    (saCW : PySem.W.findIn K (.ref CW) "__setattr__" = some (some (.builtin "object.__setattr__")))
    (mkCW : PySem.W.makesIn K CW = true)
    (kcCW : PySem.W.keepIn K (.ref CW) = true)
    (naCW0 : PySem.W.findIn K (.ref CW) "span" = some none)
    (naCW1 : PySem.W.findIn K (.ref CW) "first" = some none)
    (aCP : PySem.W.nsIn K mainGlobals "Places" = some (some (.ref CP)))
    (aP1 : PySem.W.findIn K (.ref CP) "__init__" = some (some (.ref fP1)))
    (iP1 : PySem.W.isFn K (.ref fP1) = true)
    (lP1 : K.lookup fP1 = some ⟨ocP1, odP1, .func (PySem.W.fnOf "__init__" "Places.__init__" (defArgs sPInit) (defBody sPInit) (defScope sPInit) .none kVP1 dcP1 pmP1 anP1 cdP1 ctP1), slP1⟩)
    (cP1 : PySem.W.codeIn K cdP1 "Places.__init__" = true)
    (kP1 : PySem.W.keepIn K (.ref fP1) = true)
    (aP2 : PySem.W.findIn K (.ref CP) "can_name" = some (some (.ref fP2)))
    (iP2 : PySem.W.isFn K (.ref fP2) = true)
    (lP2 : K.lookup fP2 = some ⟨ocP2, odP2, .func (PySem.W.fnOf "can_name" "Places.can_name" (defArgs sCanName) (defBody sCanName) (defScope sCanName) .none kVP2 dcP2 pmP2 anP2 cdP2 ctP2), slP2⟩)
    (cP2 : PySem.W.codeIn K cdP2 "Places.can_name" = true)
    (kP2 : PySem.W.keepIn K (.ref fP2) = true)
    (aP3 : PySem.W.findIn K (.ref CP) "can_name_all" = some (some (.ref fP3)))
    (iP3 : PySem.W.isFn K (.ref fP3) = true)
    (lP3 : K.lookup fP3 = some ⟨ocP3, odP3, .func (PySem.W.fnOf "can_name_all" "Places.can_name_all" (defArgs sCanAll) (defBody sCanAll) (defScope sCanAll) .none kVP3 dcP3 pmP3 anP3 cdP3 ctP3), slP3⟩)
    (cP3 : PySem.W.codeIn K cdP3 "Places.can_name_all" = true)
    (kP3 : PySem.W.keepIn K (.ref fP3) = true)
    (hP3 : cdP3 = .ref xP3)
    (mP3 : K.lookup xP3 = some ⟨occP3, odcP3, .fields vscP3, slcP3⟩)
    (eP3 : vscP3[11]? = some (.ref TP3))
    (nP3 : K.lookup TP3 = none)
    (bP3 : PySem.W.CodeHd h xP3 TP3 ∧ h.get? TP3 = some Bare0)
    (aP4 : PySem.W.findIn K (.ref CP) "can_meet" = some (some (.ref fP4)))
    (iP4 : PySem.W.isFn K (.ref fP4) = true)
    (lP4 : K.lookup fP4 = some ⟨ocP4, odP4, .func (PySem.W.fnOf "can_meet" "Places.can_meet" (defArgs sCanMeet) (defBody sCanMeet) (defScope sCanMeet) .none kVP4 dcP4 pmP4 anP4 cdP4 ctP4), slP4⟩)
    (cP4 : PySem.W.codeIn K cdP4 "Places.can_meet" = true)
    (kP4 : PySem.W.keepIn K (.ref fP4) = true)
    (hP4 : cdP4 = .ref xP4)
    (mP4 : K.lookup xP4 = some ⟨occP4, odcP4, .fields vscP4, slcP4⟩)
    (eP4 : vscP4[11]? = some (.ref TP4))
    (nP4 : K.lookup TP4 = none)
    (bP4 : PySem.W.CodeHd h xP4 TP4 ∧ h.get? TP4 = some Bare0)
    (pgCP : PySem.W.plainGet K CP Str.empty = true)
    (hdCP : PySem.W.hasDictIn K CP = true)
    (poCP : PySem.W.plainOver K CP = true)
    (saCP : PySem.W.findIn K (.ref CP) "__setattr__" = some (some (.builtin "object.__setattr__")))
    (mkCP : PySem.W.makesIn K CP = true)
    (kcCP : PySem.W.keepIn K (.ref CP) = true)
    (naCP0 : PySem.W.findIn K (.ref CP) "rows" = some none)
    (naCP1 : PySem.W.findIn K (.ref CP) "owners" = some none)
    (naCP2 : PySem.W.findIn K (.ref CP) "leads" = some none)
    (naCP3 : PySem.W.findIn K (.ref CP) "ways" = some none)
    (z_len : PySem.W.nsIn K mainGlobals "len" = some none)
    (z_abs : PySem.W.nsIn K mainGlobals "abs" = some none)
    (z_int : PySem.W.nsIn K mainGlobals "int" = some none)
    (z_range : PySem.W.nsIn K mainGlobals "range" = some none)
    (z_max : PySem.W.nsIn K mainGlobals "max" = some none)
    (z_min : PySem.W.nsIn K mainGlobals "min" = some none)
    (z_list : PySem.W.nsIn K mainGlobals "list" = some none)
    (z_tuple : PySem.W.nsIn K mainGlobals "tuple" = some none)
    (z_sorted : PySem.W.nsIn K mainGlobals "sorted" = some none)
    (z_set : PySem.W.nsIn K mainGlobals "set" = some none)
    (z_enumerate : PySem.W.nsIn K mainGlobals "enumerate" = some none)
    (z_zip : PySem.W.nsIn K mainGlobals "zip" = some none)
    (z_sum : PySem.W.nsIn K mainGlobals "sum" = some none)
    (z_repr : PySem.W.nsIn K mainGlobals "repr" = some none)
    (z_any : PySem.W.nsIn K mainGlobals "any" = some none)
    (z_isinstance : PySem.W.nsIn K mainGlobals "isinstance" = some none)
    (z_bool : PySem.W.nsIn K mainGlobals "bool" = some none)
    (z_str : PySem.W.nsIn K mainGlobals "str" = some none)
    (z_all : PySem.W.nsIn K mainGlobals "all" = some none)
    (rE : PySem.W.nsIn K mainGlobals "ROW_PARTS" = some (some (.ref dR)))
    (rL : K.lookup dR = some ⟨.type "dict", none, .dict esR nesR, #[]⟩)
    (rK : PySem.W.KeysLit w.params esR.toList)
    (rw : (dR == sysModules) = false)
    (rky : keysT esR = (["take", "num", "sum", "less", "times", "same", "below", "pick", "meet", "look", "lay", "tell"] : List Str))
    (re0 : PySem.W.nsIn K dR "take" = some (some (.ref rg0)))
    (r0t : K.lookup rg0 = some ⟨.type "tuple", none, .seq r0i r0j, r0q⟩)
    (r0v : Vals [.str "place"] r0i.toList)
    (re1 : PySem.W.nsIn K dR "num" = some (some (.ref rg1)))
    (r1t : K.lookup rg1 = some ⟨.type "tuple", none, .seq r1i r1j, r1q⟩)
    (r1v : Vals [.str "number"] r1i.toList)
    (re2 : PySem.W.nsIn K dR "sum" = some (some (.ref rg2)))
    (r2t : K.lookup rg2 = some ⟨.type "tuple", none, .seq r2i r2j, r2q⟩)
    (r2v : Vals [.str "row", .str "row"] r2i.toList)
    (re3 : PySem.W.nsIn K dR "less" = some (some (.ref rg3)))
    (r3t : K.lookup rg3 = some ⟨.type "tuple", none, .seq r3i r3j, r3q⟩)
    (r3v : Vals [.str "row", .str "row"] r3i.toList)
    (re4 : PySem.W.nsIn K dR "times" = some (some (.ref rg4)))
    (r4t : K.lookup rg4 = some ⟨.type "tuple", none, .seq r4i r4j, r4q⟩)
    (r4v : Vals [.str "row", .str "row"] r4i.toList)
    (re5 : PySem.W.nsIn K dR "same" = some (some (.ref rg5)))
    (r5t : K.lookup rg5 = some ⟨.type "tuple", none, .seq r5i r5j, r5q⟩)
    (r5v : Vals [.str "row", .str "row"] r5i.toList)
    (re6 : PySem.W.nsIn K dR "below" = some (some (.ref rg6)))
    (r6t : K.lookup rg6 = some ⟨.type "tuple", none, .seq r6i r6j, r6q⟩)
    (r6v : Vals [.str "row", .str "row"] r6i.toList)
    (re7 : PySem.W.nsIn K dR "pick" = some (some (.ref rg7)))
    (r7t : K.lookup rg7 = some ⟨.type "tuple", none, .seq r7i r7j, r7q⟩)
    (r7v : Vals [.str "row", .str "parts"] r7i.toList)
    (re8 : PySem.W.nsIn K dR "meet" = some (some (.ref rg8)))
    (r8t : K.lookup rg8 = some ⟨.type "tuple", none, .seq r8i r8j, r8q⟩)
    (r8v : Vals [.str "parts"] r8i.toList)
    (re9 : PySem.W.nsIn K dR "look" = some (some (.ref rg9)))
    (r9t : K.lookup rg9 = some ⟨.type "tuple", none, .seq r9i r9j, r9q⟩)
    (r9v : Vals [.str "rooms", .str "row"] r9i.toList)
    (re10 : PySem.W.nsIn K dR "lay" = some (some (.ref rg10)))
    (r10t : K.lookup rg10 = some ⟨.type "tuple", none, .seq r10i r10j, r10q⟩)
    (r10v : Vals [.str "rooms", .str "row", .str "row"] r10i.toList)
    (re11 : PySem.W.nsIn K dR "tell" = some (some (.ref rg11)))
    (r11t : K.lookup rg11 = some ⟨.type "tuple", none, .seq r11i r11j, r11q⟩)
    (r11v : Vals [.str "row"] r11i.toList)
    (eE : PySem.W.nsIn K mainGlobals "END_PARTS" = some (some (.ref dE)))
    (eL : K.lookup dE = some ⟨.type "dict", none, .dict esE nesE, #[]⟩)
    (eK : PySem.W.KeysLit w.params esE.toList)
    (ew : (dE == sysModules) = false)
    (eky : keysT esE = (["go", "if", "end"] : List Str))
    (ee0 : PySem.W.nsIn K dE "go" = some (some (.ref eg0)))
    (e0t : K.lookup eg0 = some ⟨.type "tuple", none, .seq e0i e0j, e0q⟩)
    (e0v : Vals [.str "block"] e0i.toList)
    (ee1 : PySem.W.nsIn K dE "if" = some (some (.ref eg1)))
    (e1t : K.lookup eg1 = some ⟨.type "tuple", none, .seq e1i e1j, e1q⟩)
    (e1v : Vals [.str "row", .str "block", .str "block"] e1i.toList)
    (ee2 : PySem.W.nsIn K dE "end" = some (some (.ref eg2)))
    (e2t : K.lookup eg2 = some ⟨.type "tuple", none, .seq e2i e2j, e2q⟩)
    (e2v : Vals [] e2i.toList)
    (yE : PySem.W.nsIn K mainGlobals "WORTHLESS" = some (some (.ref yg)))
    (yt : K.lookup yg = some ⟨.type "tuple", none, .seq yi yj, yq⟩)
    (yv : Vals [.str "lay", .str "tell"] yi.toList)
    (cE : PySem.W.nsIn K mainGlobals "CHECKS" = some (some (.ref dC)))
    (cL : K.lookup dC = some ⟨.type "dict", none, .dict esC nesC, #[]⟩)
    (cK : PySem.W.KeysLit w.params esC.toList)
    (c_number : PySem.W.nsIn K dC "number" = some (some (.ref fH1)))
    (c_row : PySem.W.nsIn K dC "row" = some (some (.ref fH1)))
    (c_block : PySem.W.nsIn K dC "block" = some (some (.ref fH1)))
    (c_place : PySem.W.nsIn K dC "place" = some (some (.ref fH2)))
    (c_parts : PySem.W.nsIn K dC "parts" = some (some (.ref fH3)))
    (c_rooms : PySem.W.nsIn K dC "rooms" = some (some (.ref fH4)))
    (hTs : TsOk [TH3, TH4, TH9, THA, TK3, TP3, TP4] TK2) :
    ∃ (fd : FuncData) (cs : List (Addr × Addr)) (sp : Sp), (∀ p ∈ cs, h.get? p.2 = some Bare0 ∧ K.lookup p.2 = none ∧ PySem.W.CodeHd h p.1 p.2) ∧ (∀ (s : Shared) (u : Value), BindsTo s fd ⟨[u], []⟩ [("_law_script", u)]) ∧
      (∀ (H : Hp) (a : Addr) (ns : List Int), ns.length ≤ 63 → (∀ p ∈ cs, H p.2 = some (.tbl #[])) → SqL K H a (ns.map V.int) → sp [.ref a] H (fun v _ => v = .bl true) fun _ _ _ => False) ∧
      ∀ base : Heap, K.In base → base.Ns mainGlobals mg → (∀ p ∈ cs, GxR.TabB base mg p.1 p.2) → FnG l.prog w K mg base fa fd ["_law_script"] sp := by
  have ez := hfa.symm.trans (PySem.W.mg_of X G aZ)
  cases ez
  subst hH3
  subst hH4
  subst hH9
  subst hHA
  subst hK3
  subst hP3
  subst hP4
  subst hK2
  have FL1 := fun_mk (st := sTape) lL1 cL1 kL1
  have DL1 : Df K mg "_law_tape" sTape ["_law_script", "_law_k"] fL1 _ := ⟨FL1, FL1.binds (ps := ["_law_script", "_law_k"]) fun _ _ _ _ _ _ us hl => match us, hl with | [_, _], _ => rfl, PySem.W.mg_of X G aL1⟩
  have FL2 := fun_mk (st := sDraw) lL2 cL2 kL2
  have DL2 : Df K mg "_law_draw" sDraw ["_law_tape_here", "_law_many"] fL2 _ := ⟨FL2, FL2.binds (ps := ["_law_tape_here", "_law_many"]) fun _ _ _ _ _ _ us hl => match us, hl with | [_, _], _ => rfl, PySem.W.mg_of X G aL2⟩
  have FM1 := fun_mk (st := sLLeads) lM1 cM1 kM1
  have DM1 : Df K mg "_law_leads" sLLeads ["_law_nexts"] fM1 _ := ⟨FM1, FM1.binds (ps := ["_law_nexts"]) fun _ _ _ _ _ _ us hl => match us, hl with | [_], _ => rfl, PySem.W.mg_of X G aM1⟩
  have FM2 := fun_mk (st := sLReached) lM2 cM2 kM2
  have DM2 : Df K mg "_law_reached" sLReached ["_law_nexts", "_law_without"] fM2 _ := ⟨FM2, FM2.binds (ps := ["_law_nexts", "_law_without"]) fun _ _ _ _ _ _ us hl => match us, hl with | [_, _], _ => rfl, PySem.W.mg_of X G aM2⟩
  have FM3 := fun_mk (st := sLAbove) lM3 cM3 kM3
  have DM3 : Df K mg "_law_above" sLAbove ["_law_nexts"] fM3 _ := ⟨FM3, FM3.binds (ps := ["_law_nexts"]) fun _ _ _ _ _ _ us hl => match us, hl with | [_], _ => rfl, PySem.W.mg_of X G aM3⟩
  have FM4 := fun_mk (st := sLFlat) lM4 cM4 kM4
  have DM4 : Df K mg "_law_flat" sLFlat ["_law_program"] fM4 _ := ⟨FM4, FM4.binds (ps := ["_law_program"]) fun _ _ _ _ _ _ us hl => match us, hl with | [_], _ => rfl, PySem.W.mg_of X G aM4⟩
  have FM5 := fun_mk (st := sLWhole) lM5 cM5 kM5
  have DM5 : Df K mg "_law_whole" sLWhole ["_law_thing_here"] fM5 _ := ⟨FM5, FM5.binds (ps := ["_law_thing_here"]) fun _ _ _ _ _ _ us hl => match us, hl with | [_], _ => rfl, PySem.W.mg_of X G aM5⟩
  have FM6 := fun_mk (st := sLWithin) lM6 cM6 kM6
  have DM6 : Df K mg "_law_within" sLWithin ["_law_thing_here", "_law_least", "_law_most"] fM6 _ := ⟨FM6, FM6.binds (ps := ["_law_thing_here", "_law_least", "_law_most"]) fun _ _ _ _ _ _ us hl => match us, hl with | [_, _, _], _ => rfl, PySem.W.mg_of X G aM6⟩
  have FM7 := fun_mk (st := sLNums) lM7 cM7 kM7
  have DM7 : Df K mg "_law_numbers_in" sLNums ["_law_thing_here", "_law_last"] fM7 _ := ⟨FM7, FM7.binds (ps := ["_law_thing_here", "_law_last"]) fun _ _ _ _ _ _ us hl => match us, hl with | [_, _], _ => rfl, PySem.W.mg_of X G aM7⟩
  have FM8 := fun_mk (st := sLShaped) lM8 cM8 kM8
  have DM8 : Df K mg "_law_shaped" sLShaped ["_law_row_here", "_law_last"] fM8 _ := ⟨FM8, FM8.binds (ps := ["_law_row_here", "_law_last"]) fun _ _ _ _ _ _ us hl => match us, hl with | [_, _], _ => rfl, PySem.W.mg_of X G aM8⟩
  have FM9 := fun_mk (st := sLEnded) lM9 cM9 kM9
  have DM9 : Df K mg "_law_ended" sLEnded ["_law_end", "_law_last", "_law_blocks"] fM9 _ := ⟨FM9, FM9.binds (ps := ["_law_end", "_law_last", "_law_blocks"]) fun _ _ _ _ _ _ us hl => match us, hl with | [_, _, _], _ => rfl, PySem.W.mg_of X G aM9⟩
  have FMA := fun_mk (st := sLFormed) lMA cMA kMA
  have DMA : Df K mg "_law_formed_blocks" sLFormed ["_law_thing_here"] fMA _ := ⟨FMA, FMA.binds (ps := ["_law_thing_here"]) fun _ _ _ _ _ _ us hl => match us, hl with | [_], _ => rfl, PySem.W.mg_of X G aMA⟩
  have FMB := fun_mk (st := sLUsed) lMB cMB kMB
  have DMB : Df K mg "_law_used" sLUsed ["_law_row_here"] fMB _ := ⟨FMB, FMB.binds (ps := ["_law_row_here"]) fun _ _ _ _ _ _ us hl => match us, hl with | [_], _ => rfl, PySem.W.mg_of X G aMB⟩
  have FMC := fun_mk (st := sLRight) lMC cMC kMC
  have DMC : Df K mg "_law_right" sLRight ["_law_thing_here"] fMC _ := ⟨FMC, FMC.binds (ps := ["_law_thing_here"]) fun _ _ _ _ _ _ us hl => match us, hl with | [_], _ => rfl, PySem.W.mg_of X G aMC⟩
  have FQ1 := fun_mk (st := sLSmall) lQ1 cQ1 kQ1
  have DQ1 : Df K mg "_law_small" sLSmall ["_law_tape_here"] fQ1 _ := ⟨FQ1, FQ1.binds (ps := ["_law_tape_here"]) fun _ _ _ _ _ _ us hl => match us, hl with | [_], _ => rfl, PySem.W.mg_of X G aQ1⟩
  have FQ2 := fun_mk (st := sLRow) lQ2 cQ2 kQ2
  have DQ2 : Df K mg "_law_row" sLRow ["_law_tape_here"] fQ2 _ := ⟨FQ2, FQ2.binds (ps := ["_law_tape_here"]) fun _ _ _ _ _ _ us hl => match us, hl with | [_], _ => rfl, PySem.W.mg_of X G aQ2⟩
  have FQ3 := fun_mk (st := sLBlock) lQ3 cQ3 kQ3
  have DQ3 : Df K mg "_law_block" sLBlock ["_law_tape_here"] fQ3 _ := ⟨FQ3, FQ3.binds (ps := ["_law_tape_here"]) fun _ _ _ _ _ _ us hl => match us, hl with | [_], _ => rfl, PySem.W.mg_of X G aQ3⟩
  have FQ4 := fun_mk (st := sLThing) lQ4 cQ4 kQ4
  have DQ4 : Df K mg "_law_thing" sLThing ["_law_tape_here"] fQ4 _ := ⟨FQ4, FQ4.binds (ps := ["_law_tape_here"]) fun _ _ _ _ _ _ us hl => match us, hl with | [_], _ => rfl, PySem.W.mg_of X G aQ4⟩
  have FQ5 := fun_mk (st := sLRooms) lQ5 cQ5 kQ5
  have DQ5 : Df K mg "_law_rooms_right" sLRooms ["_law_shift"] fQ5 _ := ⟨FQ5, FQ5.binds (ps := ["_law_shift"]) fun _ _ _ _ _ _ us hl => match us, hl with | [_], _ => rfl, PySem.W.mg_of X G aQ5⟩
  have FN1 := fun_mk (st := sNamed) lN1 cN1 kN1
  have DN1 : Df K mg "blocks_named" sNamed ["end"] fN1 _ := ⟨FN1, FN1.binds (ps := ["end"]) fun _ _ _ _ _ _ us hl => match us, hl with | [_], _ => rfl, PySem.W.mg_of X G aN1⟩
  have FN2 := fun_mk (st := sLeadsOf) lN2 cN2 kN2
  have DN2 : Df K mg "leads_of" sLeadsOf ["program"] fN2 _ := ⟨FN2, FN2.binds (ps := ["program"]) fun _ _ _ _ _ _ us hl => match us, hl with | [_], _ => rfl, PySem.W.mg_of X G aN2⟩
  have FN3 := fun_mk (st := sRowsOf) lN3 cN3 kN3
  have DN3 : Df K mg "rows_of" sRowsOf ["program"] fN3 _ := ⟨FN3, FN3.binds (ps := ["program"]) fun _ _ _ _ _ _ us hl => match us, hl with | [_], _ => rfl, PySem.W.mg_of X G aN3⟩
  have FN4 := fun_mk (st := sOwners) lN4 cN4 kN4
  have DN4 : Df K mg "owners_of" sOwners ["program"] fN4 _ := ⟨FN4, FN4.binds (ps := ["program"]) fun _ _ _ _ _ _ us hl => match us, hl with | [_], _ => rfl, PySem.W.mg_of X G aN4⟩
  have FC1 := fun_mk (st := sCommon) lC1 cC1 kC1
  have DC1 : Df K mg "common_above" sCommon ["nearest", "blocks"] fC1 _ := ⟨FC1, FC1.binds (ps := ["nearest", "blocks"]) fun _ _ _ _ _ _ us hl => match us, hl with | [_, _], _ => rfl, PySem.W.mg_of X G aC1⟩
  have FC2 := fun_mk (st := sBrought) lC2 cC2 kC2
  have DC2 : Df K mg "brought_nearer" sBrought ["nearest", "leads"] fC2 _ := ⟨FC2, FC2.binds (ps := ["nearest", "leads"]) fun _ _ _ _ _ _ us hl => match us, hl with | [_, _], _ => rfl, PySem.W.mg_of X G aC2⟩
  have FC3 := fun_mk (st := sNearest) lC3 cC3 kC3
  have DC3 : Df K mg "nearest_above" sNearest ["leads"] fC3 _ := ⟨FC3, FC3.binds (ps := ["leads"]) fun _ _ _ _ _ _ us hl => match us, hl with | [_], _ => rfl, PySem.W.mg_of X G aC3⟩
  have FC4 := fun_mk (st := sSizes) lC4 cC4 kC4
  have DC4 : Df K mg "branch_sizes" sSizes ["nearest"] fC4 _ := ⟨FC4, FC4.binds (ps := ["nearest"]) fun _ _ _ _ _ _ us hl => match us, hl with | [_], _ => rfl, PySem.W.mg_of X G aC4⟩
  have FC5 := fun_mk (st := sPlaces) lC5 cC5 kC5
  have DC5 : Df K mg "branch_places" sPlaces ["nearest", "sizes"] fC5 _ := ⟨FC5, FC5.binds (ps := ["nearest", "sizes"]) fun _ _ _ _ _ _ us hl => match us, hl with | [_, _], _ => rfl, PySem.W.mg_of X G aC5⟩
  have FH1 := fun_mk (st := sIsNum) lH1 cH1 kH1
  have DH1 : Df K mg "is_number" sIsNum ["thing"] fH1 _ := ⟨FH1, FH1.binds (ps := ["thing"]) fun _ _ _ _ _ _ us hl => match us, hl with | [_], _ => rfl, PySem.W.mg_of X G aH1⟩
  have FH2 := fun_mk (st := sIsPlace) lH2 cH2 kH2
  have DH2 : Df K mg "is_place" sIsPlace ["thing"] fH2 _ := ⟨FH2, FH2.binds (ps := ["thing"]) fun _ _ _ _ _ _ us hl => match us, hl with | [_], _ => rfl, PySem.W.mg_of X G aH2⟩
  have FH3 := fun_mk (st := sIsParts) lH3 cH3 kH3
  have DH3 : DfC K mg "is_parts" sIsParts ["thing"] fH3 _ xH3 := ⟨⟨⟨_, _, _, _, _, _, _, _, rfl, lH3, cH3⟩, kH3⟩, FH3.binds (ps := ["thing"]) fun _ _ _ _ _ _ us hl => match us, hl with | [_], _ => rfl, PySem.W.mg_of X G aH3⟩
  have FH4 := fun_mk (st := sIsRooms) lH4 cH4 kH4
  have DH4 : DfC K mg "is_rooms" sIsRooms ["thing"] fH4 _ xH4 := ⟨⟨⟨_, _, _, _, _, _, _, _, rfl, lH4, cH4⟩, kH4⟩, FH4.binds (ps := ["thing"]) fun _ _ _ _ _ _ us hl => match us, hl with | [_], _ => rfl, PySem.W.mg_of X G aH4⟩
  have FH5 := fun_mk (st := sWordOf) lH5 cH5 kH5
  have DH5 : Df K mg "word_of" sWordOf ["thing"] fH5 _ := ⟨FH5, FH5.binds (ps := ["thing"]) fun _ _ _ _ _ _ us hl => match us, hl with | [_], _ => rfl, PySem.W.mg_of X G aH5⟩
  have FH6 := fun_mk (st := sFits) lH6 cH6 kH6
  have DH6 : Df K mg "fits" sFits ["thing", "kinds"] fH6 _ := ⟨FH6, FH6.binds (ps := ["thing", "kinds"]) fun _ _ _ _ _ _ us hl => match us, hl with | [_, _], _ => rfl, PySem.W.mg_of X G aH6⟩
  have FH7 := fun_mk (st := sIsRow) lH7 cH7 kH7
  have DH7 : Df K mg "is_row" sIsRow ["thing"] fH7 _ := ⟨FH7, FH7.binds (ps := ["thing"]) fun _ _ _ _ _ _ us hl => match us, hl with | [_], _ => rfl, PySem.W.mg_of X G aH7⟩
  have FH8 := fun_mk (st := sIsEnd) lH8 cH8 kH8
  have DH8 : Df K mg "is_end" sIsEnd ["thing"] fH8 _ := ⟨FH8, FH8.binds (ps := ["thing"]) fun _ _ _ _ _ _ us hl => match us, hl with | [_], _ => rfl, PySem.W.mg_of X G aH8⟩
  have FH9 := fun_mk (st := sIsBlock) lH9 cH9 kH9
  have DH9 : DfC K mg "is_block" sIsBlock ["thing"] fH9 _ xH9 := ⟨⟨⟨_, _, _, _, _, _, _, _, rfl, lH9, cH9⟩, kH9⟩, FH9.binds (ps := ["thing"]) fun _ _ _ _ _ _ us hl => match us, hl with | [_], _ => rfl, PySem.W.mg_of X G aH9⟩
  have FHA := fun_mk (st := sIsWritten) lHA cHA kHA
  have DHA : DfC K mg "is_written" sIsWritten ["thing"] fHA _ xHA := ⟨⟨⟨_, _, _, _, _, _, _, _, rfl, lHA, cHA⟩, kHA⟩, FHA.binds (ps := ["thing"]) fun _ _ _ _ _ _ us hl => match us, hl with | [_], _ => rfl, PySem.W.mg_of X G aHA⟩
  have FJ1 := fun_mk (st := sHasWorth) lJ1 cJ1 kJ1
  have DJ1 : Df K mg "has_worth" sHasWorth ["row"] fJ1 _ := ⟨FJ1, FJ1.binds (ps := ["row"]) fun _ _ _ _ _ _ us hl => match us, hl with | [_], _ => rfl, PySem.W.mg_of X G aJ1⟩
  have FJ2 := fun_mk (st := sIsMeet) lJ2 cJ2 kJ2
  have DJ2 : Df K mg "is_meet" sIsMeet ["row"] fJ2 _ := ⟨FJ2, FJ2.binds (ps := ["row"]) fun _ _ _ _ _ _ us hl => match us, hl with | [_], _ => rfl, PySem.W.mg_of X G aJ2⟩
  have FJ3 := fun_mk (st := sRowsNamed) lJ3 cJ3 kJ3
  have DJ3 : Df K mg "rows_named" sRowsNamed ["row"] fJ3 _ := ⟨FJ3, FJ3.binds (ps := ["row"]) fun _ _ _ _ _ _ us hl => match us, hl with | [_], _ => rfl, PySem.W.mg_of X G aJ3⟩
  have FJ4 := fun_mk (st := sRowsTested) lJ4 cJ4 kJ4
  have DJ4 : Df K mg "rows_tested" sRowsTested ["end"] fJ4 _ := ⟨FJ4, FJ4.binds (ps := ["end"]) fun _ _ _ _ _ _ us hl => match us, hl with | [_], _ => rfl, PySem.W.mg_of X G aJ4⟩
  have FJ5 := fun_mk (st := sNumbersIn) lJ5 cJ5 kJ5
  have DJ5 : Df K mg "numbers_in" sNumbersIn ["thing", "kinds"] fJ5 _ := ⟨FJ5, FJ5.binds (ps := ["thing", "kinds"]) fun _ _ _ _ _ _ us hl => match us, hl with | [_, _], _ => rfl, PySem.W.mg_of X G aJ5⟩
  have FK1 := fun_mk (st := sIsProg) lK1 cK1 kK1
  have DK1 : Df K mg "is_program" sIsProg ["thing"] fK1 _ := ⟨FK1, FK1.binds (ps := ["thing"]) fun _ _ _ _ _ _ us hl => match us, hl with | [_], _ => rfl, PySem.W.mg_of X G aK1⟩
  have FK2 := fun_mk (st := sIsLed) lK2 cK2 kK2
  have DK2 : DfC K mg "is_led" sIsLed ["program"] fK2 _ xK2 := ⟨⟨⟨_, _, _, _, _, _, _, _, rfl, lK2, cK2⟩, kK2⟩, FK2.binds (ps := ["program"]) fun _ _ _ _ _ _ us hl => match us, hl with | [_], _ => rfl, PySem.W.mg_of X G aK2⟩
  have FK3 := fun_mk (st := sCanLead) lK3 cK3 kK3
  have DK3 : DfC K mg "can_lead_to" sCanLead ["named", "many"] fK3 _ xK3 := ⟨⟨⟨_, _, _, _, _, _, _, _, rfl, lK3, cK3⟩, kK3⟩, FK3.binds (ps := ["named", "many"]) fun _ _ _ _ _ _ us hl => match us, hl with | [_, _], _ => rfl, PySem.W.mg_of X G aK3⟩
  have FK4 := fun_mk (st := sNamesRight) lK4 cK4 kK4
  have DK4 : Df K mg "are_names_right" sNamesRight ["program"] fK4 _ := ⟨FK4, FK4.binds (ps := ["program"]) fun _ _ _ _ _ _ us hl => match us, hl with | [_], _ => rfl, PySem.W.mg_of X G aK4⟩
  have FK5 := fun_mk (st := sAhead) lK5 cK5 kK5
  have DK5 : Df K mg "are_meets_ahead" sAhead ["rows"] fK5 _ := ⟨FK5, FK5.binds (ps := ["rows"]) fun _ _ _ _ _ _ us hl => match us, hl with | [_], _ => rfl, PySem.W.mg_of X G aK5⟩
  have FK6 := fun_mk (st := sRowsRight) lK6 cK6 kK6
  have DK6 : Df K mg "are_rows_right" sRowsRight ["places", "block", "begin", "rows"] fK6 _ := ⟨FK6, FK6.binds (ps := ["places", "block", "begin", "rows"]) fun _ _ _ _ _ _ us hl => match us, hl with | [_, _, _, _], _ => rfl, PySem.W.mg_of X G aK6⟩
  have FZ := fun_mk (st := sLaw) lZ cZ kZ
  have B : Bi mg := ⟨PySem.W.mg_none_of X G z_len, PySem.W.mg_none_of X G z_abs, PySem.W.mg_none_of X G z_int, PySem.W.mg_none_of X G z_range, PySem.W.mg_none_of X G z_max, PySem.W.mg_none_of X G z_min, PySem.W.mg_none_of X G z_list, PySem.W.mg_none_of X G z_tuple, PySem.W.mg_none_of X G z_sorted, PySem.W.mg_none_of X G z_set, PySem.W.mg_none_of X G z_enumerate, PySem.W.mg_none_of X G z_zip, PySem.W.mg_none_of X G z_sum, PySem.W.mg_none_of X G z_repr, PySem.W.mg_none_of X G z_any, PySem.W.mg_none_of X G z_isinstance, PySem.W.mg_none_of X G z_bool, PySem.W.mg_none_of X G z_str, PySem.W.mg_none_of X G z_all⟩
  have TCW : WTxt K mg CW := ⟨⟨pgCW, hdCW, poCW, saCW⟩, naCW0, naCW1, PySem.W.mg_of X G aCW⟩
  have FW1 := fun_mk (st := sWInit) lW1 cW1 kW1
  have b_W1 := FW1.binds (ps := ["self", "leads"]) fun _ _ _ _ _ _ us hl => match us, hl with | [_, _], _ => rfl
  have MW1 : Meth K CW "__init__" fW1 := ⟨aW1, iW1, kW1⟩
  have FW2 := fun_mk (st := sLies) lW2 cW2 kW2
  have b_W2 := FW2.binds (ps := ["self", "block", "other"]) fun _ _ _ _ _ _ us hl => match us, hl with | [_, _, _], _ => rfl
  have MW2 : Meth K CW "lies" fW2 := ⟨aW2, iW2, kW2⟩
  have MkCW : Mk K CW fW1 := ⟨mkCW, aW1, iW1, kcCW⟩
  have TCP : PTxt K mg CP := ⟨⟨pgCP, hdCP, poCP, saCP⟩, naCP0, naCP1, naCP2, naCP3, PySem.W.mg_of X G aCP⟩
  have FP1 := fun_mk (st := sPInit) lP1 cP1 kP1
  have b_P1 := FP1.binds (ps := ["self", "program"]) fun _ _ _ _ _ _ us hl => match us, hl with | [_, _], _ => rfl
  have MP1 : Meth K CP "__init__" fP1 := ⟨aP1, iP1, kP1⟩
  have FP2 := fun_mk (st := sCanName) lP2 cP2 kP2
  have b_P2 := FP2.binds (ps := ["self", "name", "block", "place"]) fun _ _ _ _ _ _ us hl => match us, hl with | [_, _, _, _], _ => rfl
  have MP2 : Meth K CP "can_name" fP2 := ⟨aP2, iP2, kP2⟩
  have FP3 := fun_mk (st := sCanAll) lP3 cP3 kP3
  have b_P3 := FP3.binds (ps := ["self", "names", "block", "place"]) fun _ _ _ _ _ _ us hl => match us, hl with | [_, _, _, _], _ => rfl
  have FCP3 : FunC K "can_name_all" "Places.can_name_all" sCanAll fP3 _ xP3 := ⟨⟨_, _, _, _, _, _, _, _, rfl, lP3, cP3⟩, kP3⟩
  have MP3 : Meth K CP "can_name_all" fP3 := ⟨aP3, iP3, kP3⟩
  have FP4 := fun_mk (st := sCanMeet) lP4 cP4 kP4
  have b_P4 := FP4.binds (ps := ["self", "parts", "block"]) fun _ _ _ _ _ _ us hl => match us, hl with | [_, _, _], _ => rfl
  have FCP4 : FunC K "can_meet" "Places.can_meet" sCanMeet fP4 _ xP4 := ⟨⟨_, _, _, _, _, _, _, _, rfl, lP4, cP4⟩, kP4⟩
  have MP4 : Meth K CP "can_meet" fP4 := ⟨aP4, iP4, kP4⟩
  have MkCP : Mk K CP fP1 := ⟨mkCP, aP1, iP1, kcCP⟩
  have sz : ∀ {xs : List V} {its : Array Value}, Vals xs its.toList → xs.length ≤ 9 → its.size ≤ sizeLine := fun {xs its} v h => by
    have e := v.length
    have e2 : its.toList.length = its.size := Array.length_toList
    exact szl (by omega)
  have RT : RowTb K w dR := all_cons ⟨_, ⟨esR, nesR, _, rL, rK, re0, rfl⟩, (fun H => .inr ⟨_, r0i, r0j, r0t, rfl, rfl, sz r0v (by decide), r0v⟩)⟩ (all_cons ⟨_, ⟨esR, nesR, _, rL, rK, re1, rfl⟩, (fun H => .inr ⟨_, r1i, r1j, r1t, rfl, rfl, sz r1v (by decide), r1v⟩)⟩ (all_cons ⟨_, ⟨esR, nesR, _, rL, rK, re2, rfl⟩, (fun H => .inr ⟨_, r2i, r2j, r2t, rfl, rfl, sz r2v (by decide), r2v⟩)⟩ (all_cons ⟨_, ⟨esR, nesR, _, rL, rK, re3, rfl⟩, (fun H => .inr ⟨_, r3i, r3j, r3t, rfl, rfl, sz r3v (by decide), r3v⟩)⟩ (all_cons ⟨_, ⟨esR, nesR, _, rL, rK, re4, rfl⟩, (fun H => .inr ⟨_, r4i, r4j, r4t, rfl, rfl, sz r4v (by decide), r4v⟩)⟩ (all_cons ⟨_, ⟨esR, nesR, _, rL, rK, re5, rfl⟩, (fun H => .inr ⟨_, r5i, r5j, r5t, rfl, rfl, sz r5v (by decide), r5v⟩)⟩ (all_cons ⟨_, ⟨esR, nesR, _, rL, rK, re6, rfl⟩, (fun H => .inr ⟨_, r6i, r6j, r6t, rfl, rfl, sz r6v (by decide), r6v⟩)⟩ (all_cons ⟨_, ⟨esR, nesR, _, rL, rK, re7, rfl⟩, (fun H => .inr ⟨_, r7i, r7j, r7t, rfl, rfl, sz r7v (by decide), r7v⟩)⟩ (all_cons ⟨_, ⟨esR, nesR, _, rL, rK, re8, rfl⟩, (fun H => .inr ⟨_, r8i, r8j, r8t, rfl, rfl, sz r8v (by decide), r8v⟩)⟩ (all_cons ⟨_, ⟨esR, nesR, _, rL, rK, re9, rfl⟩, (fun H => .inr ⟨_, r9i, r9j, r9t, rfl, rfl, sz r9v (by decide), r9v⟩)⟩ (all_cons ⟨_, ⟨esR, nesR, _, rL, rK, re10, rfl⟩, (fun H => .inr ⟨_, r10i, r10j, r10t, rfl, rfl, sz r10v (by decide), r10v⟩)⟩ (all_cons ⟨_, ⟨esR, nesR, _, rL, rK, re11, rfl⟩, (fun H => .inr ⟨_, r11i, r11j, r11t, rfl, rfl, sz r11v (by decide), r11v⟩)⟩ (all_nil))))))))))))
  have ET : EndTb K w dE := all_cons ⟨_, ⟨esE, nesE, _, eL, eK, ee0, rfl⟩, (fun H => .inr ⟨_, e0i, e0j, e0t, rfl, rfl, sz e0v (by decide), e0v⟩)⟩ (all_cons ⟨_, ⟨esE, nesE, _, eL, eK, ee1, rfl⟩, (fun H => .inr ⟨_, e1i, e1j, e1t, rfl, rfl, sz e1v (by decide), e1v⟩)⟩ (all_cons ⟨_, ⟨esE, nesE, _, eL, eK, ee2, rfl⟩, (fun H => .inr ⟨_, e2i, e2j, e2t, rfl, rfl, sz e2v (by decide), e2v⟩)⟩ (all_nil)))
  have TD : TbD K w mg dR dE := ⟨PySem.W.mg_of X G rE, PySem.W.mg_of X G eE, ⟨rw, esR, nesR, rL, rK⟩, ⟨ew, esE, nesE, eL, eK⟩, fun s kds h => rowKd_at RT h, fun s kds h => endKd_at ET h, fun s h => kno_of rL rK rky (rowKd_no h), fun s h => kno_of eL eK eky (endKd_no h)⟩
  refine ⟨PySem.W.fnOf "law" "law" (defArgs sLaw) (defBody sLaw) (defScope sLaw) .none kVZ dcZ pmZ anZ cdZ ctZ, [(xH3, TH3), (xH4, TH4), (xH9, TH9), (xHA, THA), (xK3, TK3), (xP3, TP3), (xP4, TP4), (xK2, TK2)], spLaw K [TH3, TH4, TH9, THA, TK3, TP3, TP4] TK2, ?_, fun s v => .of_eq rfl, fun H a ns hl hH hS => ⟨a, ns, rfl, ntL' hS, hl, ⟨fun P hP => ?_, Gx.TabD.nil (hH (xK2, TK2) (by simp))⟩, fun _ => rfl⟩, fun base hK hN hTB => ?_⟩
  · exact all_cons (P := fun p : Addr × Addr => h.get? p.2 = some Bare0 ∧ K.lookup p.2 = none ∧ PySem.W.CodeHd h p.1 p.2) ⟨bH3.2, nH3, bH3.1⟩ (all_cons (P := fun p : Addr × Addr => h.get? p.2 = some Bare0 ∧ K.lookup p.2 = none ∧ PySem.W.CodeHd h p.1 p.2) ⟨bH4.2, nH4, bH4.1⟩ (all_cons (P := fun p : Addr × Addr => h.get? p.2 = some Bare0 ∧ K.lookup p.2 = none ∧ PySem.W.CodeHd h p.1 p.2) ⟨bH9.2, nH9, bH9.1⟩ (all_cons (P := fun p : Addr × Addr => h.get? p.2 = some Bare0 ∧ K.lookup p.2 = none ∧ PySem.W.CodeHd h p.1 p.2) ⟨bHA.2, nHA, bHA.1⟩ (all_cons (P := fun p : Addr × Addr => h.get? p.2 = some Bare0 ∧ K.lookup p.2 = none ∧ PySem.W.CodeHd h p.1 p.2) ⟨bK3.2, nK3, bK3.1⟩ (all_cons (P := fun p : Addr × Addr => h.get? p.2 = some Bare0 ∧ K.lookup p.2 = none ∧ PySem.W.CodeHd h p.1 p.2) ⟨bP3.2, nP3, bP3.1⟩ (all_cons (P := fun p : Addr × Addr => h.get? p.2 = some Bare0 ∧ K.lookup p.2 = none ∧ PySem.W.CodeHd h p.1 p.2) ⟨bP4.2, nP4, bP4.1⟩ (all_cons (P := fun p : Addr × Addr => h.get? p.2 = some Bare0 ∧ K.lookup p.2 = none ∧ PySem.W.CodeHd h p.1 p.2) ⟨bK2.2, nK2, bK2.1⟩ (all_nil))))))))
  · have hq : ∃ x, (x, P) ∈ [(xH3, TH3), (xH4, TH4), (xH9, TH9), (xHA, THA), (xK3, TK3), (xP3, TP3), (xP4, TP4), (xK2, TK2)] := by
      simp only [List.mem_cons, List.not_mem_nil, or_false] at hP
      rcases hP with rfl | rfl | rfl | rfl | rfl | rfl | rfl
      · exact ⟨xH3, by simp⟩
      · exact ⟨xH4, by simp⟩
      · exact ⟨xH9, by simp⟩
      · exact ⟨xHA, by simp⟩
      · exact ⟨xK3, by simp⟩
      · exact ⟨xP3, by simp⟩
      · exact ⟨xP4, by simp⟩
    obtain ⟨x, hx⟩ := hq
    exact ⟨#[], hH (x, P) hx, trivial⟩
  have BH3 : GxR.TabB base mg xH3 TH3 := hTB (xH3, TH3) (by simp)
  have BH4 : GxR.TabB base mg xH4 TH4 := hTB (xH4, TH4) (by simp)
  have BH9 : GxR.TabB base mg xH9 TH9 := hTB (xH9, TH9) (by simp)
  have BHA : GxR.TabB base mg xHA THA := hTB (xHA, THA) (by simp)
  have BK3 : GxR.TabB base mg xK3 TK3 := hTB (xK3, TK3) (by simp)
  have BP3 : GxR.TabB base mg xP3 TP3 := hTB (xP3, TP3) (by simp)
  have BP4 : GxR.TabB base mg xP4 TP4 := hTB (xP4, TP4) (by simp)
  have BK2 : GxR.TabB base mg xK2 TK2 := hTB (xK2, TK2) (by simp)
  have IH3 : TH3 ∈ [TH3, TH4, TH9, THA, TK3, TP3, TP4] := by simp
  have IH4 : TH4 ∈ [TH3, TH4, TH9, THA, TK3, TP3, TP4] := by simp
  have IH9 : TH9 ∈ [TH3, TH4, TH9, THA, TK3, TP3, TP4] := by simp
  have IHA : THA ∈ [TH3, TH4, TH9, THA, TK3, TP3, TP4] := by simp
  have IK3 : TK3 ∈ [TH3, TH4, TH9, THA, TK3, TP3, TP4] := by simp
  have IP3 : TP3 ∈ [TH3, TH4, TH9, THA, TK3, TP3, TP4] := by simp
  have IP4 : TP4 ∈ [TH3, TH4, TH9, THA, TK3, TP3, TP4] := by simp
  have GL2 : FnOk l.prog w K mg base CX0 1 fL2 _ ["_law_tape_here", "_law_many"] spDraw := ok_draw DL2
  have GL1 : FnOk l.prog w K mg base CX0 1 fL1 _ ["_law_script", "_law_k"] (spTape K) := ok_tape DL1 B
  have GM1 : FnOk l.prog w K mg base CX0 1 fM1 _ ["_law_nexts"] (spLeads K) := ok_leads DM1 B
  have GM2 : FnOk l.prog w K mg base CX0 1 fM2 _ ["_law_nexts", "_law_without"] (spReached K) := ok_reached DM2 B
  have GM3 : FnOk l.prog w K mg base CX0 2 fM3 _ ["_law_nexts"] (spAbove K) := ok_above DM3 B DM2 (GM2.mono (by decide))
  have GM4 : FnOk l.prog w K mg base CX0 1 fM4 _ ["_law_program"] (spFlat K) := ok_flat DM4 B
  have GM5 : FnOk l.prog w K mg base CX0 1 fM5 _ ["_law_thing_here"] (spD1 K isNumD) := ok_lwhole DM5 B
  have GM6 : FnOk l.prog w K mg base CX0 2 fM6 _ ["_law_thing_here", "_law_least", "_law_most"] (spWithin K) := ok_lwithin DM6 B DM5 (GM5.mono (by decide))
  have GM7 : FnOk l.prog w K mg base CX0 3 fM7 _ ["_law_thing_here", "_law_last"] (spNumsL K) := ok_lnums DM7 B DM6 (GM6.mono (by decide))
  have GM8 : FnOk l.prog w K mg base CX0 4 fM8 _ ["_law_row_here", "_law_last"] (spShaped K) := ok_lshaped DM8 B DM6 (GM6.mono (by decide)) DM5 (GM5.mono (by decide)) DM7 (GM7.mono (by decide))
  have GM9 : FnOk l.prog w K mg base CX0 3 fM9 _ ["_law_end", "_law_last", "_law_blocks"] (spEnded K) := ok_lended DM9 B DM6 (GM6.mono (by decide))
  have GMA : FnOk l.prog w K mg base CX0 5 fMA _ ["_law_thing_here"] (spFormed K) := ok_lformed DMA B DM8 (GM8.mono (by decide)) DM9 (GM9.mono (by decide))
  have GMB : FnOk l.prog w K mg base CX0 1 fMB _ ["_law_row_here"] (spUsed K) := ok_lused DMB B
  have GMC : FnOk l.prog w K mg base CX0 6 fMC _ ["_law_thing_here"] (spRight K) := ok_lright DMC B DMA (GMA.mono (by decide)) DM4 (GM4.mono (by decide)) DM1 (GM1.mono (by decide)) DM3 (GM3.mono (by decide)) DMB (GMB.mono (by decide))
  have GQ1 : FnOk l.prog w K mg base CX0 2 fQ1 _ ["_law_tape_here"] (spSmall K) := ok_small DQ1 B DL2 (GL2.mono (by decide))
  have GQ2 : FnOk l.prog w K mg base CX0 3 fQ2 _ ["_law_tape_here"] (spRow K) := ok_row DQ2 B DL2 (GL2.mono (by decide)) DQ1 (GQ1.mono (by decide))
  have GQ3 : FnOk l.prog w K mg base CX0 4 fQ3 _ ["_law_tape_here"] (spBlock K) := ok_block DQ3 B DL2 (GL2.mono (by decide)) DQ1 (GQ1.mono (by decide)) DQ2 (GQ2.mono (by decide))
  have GQ4 : FnOk l.prog w K mg base CX0 5 fQ4 _ ["_law_tape_here"] (spThing K) := ok_thing DQ4 B DL2 (GL2.mono (by decide)) DQ1 (GQ1.mono (by decide)) DQ3 (GQ3.mono (by decide))
  have GN1 : FnOk l.prog w K mg base CX0 1 fN1 _ ["end"] (spNamed K) := ok_named DN1 B TD
  have GN2 : FnOk l.prog w K mg base CX0 2 fN2 _ ["program"] (spLeadsOf K) := ok_leadsOf DN2 B DN1 (GN1.mono (by decide))
  have GN3 : FnOk l.prog w K mg base CX0 1 fN3 _ ["program"] (spRowsOf K) := ok_rowsOf DN3 B
  have GN4 : FnOk l.prog w K mg base CX0 1 fN4 _ ["program"] (spOwners K) := ok_owners DN4 B
  have GC1 : FnOk l.prog w K mg base CX0 1 fC1 _ ["nearest", "blocks"] (spCommon K) := ok_common DC1 B
  have GC2 : FnOk l.prog w K mg base CX0 2 fC2 _ ["nearest", "leads"] (spBrought K) := ok_brought DC2 B DC1 (GC1.mono (by decide))
  have GC3 : FnOk l.prog w K mg base CX0 3 fC3 _ ["leads"] (spNearest K) := ok_nearest DC3 B DC1 (GC1.mono (by decide)) DC2 (GC2.mono (by decide))
  have GC4 : FnOk l.prog w K mg base CX0 1 fC4 _ ["nearest"] (spSizes K) := ok_sizes DC4 B
  have GC5 : FnOk l.prog w K mg base CX0 1 fC5 _ ["nearest", "sizes"] (spPlaces K) := ok_places DC5 B
  have GH1 : FnOk l.prog w K mg base CX0 1 fH1 _ ["thing"] (spD1 K isNumD) := ok_isNum DH1 B
  have GH2 : FnOk l.prog w K mg base CX0 2 fH2 _ ["thing"] (spD1 K isPlaceD) := ok_isPlace DH2 B DH1 (GH1.mono (by decide))
  have GH3 : FnOk l.prog w K mg base CX0 5 fH3 _ ["thing"] (spDT K [TH3, TH4, TH9, THA, TK3, TP3, TP4] TK2 isPartsD) := ok_isParts (k := 1) DH3 B BH3 IH3 hTs DH1 (GH1.mono (by decide))
  have GH4 : FnOk l.prog w K mg base CX0 6 fH4 _ ["thing"] (spDT K [TH3, TH4, TH9, THA, TK3, TP3, TP4] TK2 isRoomsD) := ok_isRooms (k := 2) DH4 B BH4 IH4 hTs DH2 (GH2.mono (by decide))
  have GH5 : FnOk l.prog w K mg base CX0 1 fH5 _ ["thing"] (spWordD K) := ok_wordOf DH5 B
  have CT : CkTb K w dC (fun b => match b with | .num => fH1 | .place => fH2 | .parts => fH3 | .rooms => fH4) := all_cons ⟨esC, nesC, _, cL, cK, c_number, rfl⟩ (all_cons ⟨esC, nesC, _, cL, cK, c_row, rfl⟩ (all_cons ⟨esC, nesC, _, cL, cK, c_block, rfl⟩ (all_cons ⟨esC, nesC, _, cL, cK, c_place, rfl⟩ (all_cons ⟨esC, nesC, _, cL, cK, c_parts, rfl⟩ (all_cons ⟨esC, nesC, _, cL, cK, c_rooms, rfl⟩ (all_nil))))))
  have CKS : Cks l.prog w K mg base 6 [TH3, TH4, TH9, THA, TK3, TP3, TP4] TK2 dC (fun b => match b with | .num => fH1 | .place => fH2 | .parts => fH3 | .rooms => fH4) :=
    ⟨PySem.W.mg_of X G cE, fun s c h => ck_at CT h,
      fun b => match b with | .num => (((GH1.mono (by decide)).raw DH1.b .nil).imp fun vs H Q E h => by rw [List.append_nil]; exact h) | .place => (((GH2.mono (by decide)).raw DH2.b .nil).imp fun vs H Q E h => by rw [List.append_nil]; exact h) | .parts => (((GH3.mono (by decide)).raw DH3.b .nil).imp fun vs H Q E h => by rw [List.append_nil]; exact h) | .rooms => (((GH4.mono (by decide)).raw DH4.b .nil).imp fun vs H Q E h => by rw [List.append_nil]; exact h), fun b => match b with | .num => kH1 | .place => kH2 | .parts => kH3 | .rooms => kH4⟩
  have GH6 : FnOk l.prog w K mg base CX0 7 fH6 _ ["thing", "kinds"] (spFits K [TH3, TH4, TH9, THA, TK3, TP3, TP4] TK2) := ok_fits (k := 6) DH6 B CKS
  have GH7 : FnOk l.prog w K mg base CX0 8 fH7 _ ["thing"] (spDT K [TH3, TH4, TH9, THA, TK3, TP3, TP4] TK2 isRowD) := ok_isRow (k := 7) DH7 TD DH6 (GH6.mono (by decide)) DH5 (GH5.mono (by decide))
  have GH8 : FnOk l.prog w K mg base CX0 8 fH8 _ ["thing"] (spDT K [TH3, TH4, TH9, THA, TK3, TP3, TP4] TK2 isEndD) := ok_isEnd (k := 7) DH8 TD DH6 (GH6.mono (by decide)) DH5 (GH5.mono (by decide))
  have GH9 : FnOk l.prog w K mg base CX0 12 fH9 _ ["thing"] (spDT K [TH3, TH4, TH9, THA, TK3, TP3, TP4] TK2 isBlockD) := ok_isBlock (k := 8) DH9 B BH9 IH9 hTs DH7 (GH7.mono (by decide)) DH8 (GH8.mono (by decide))
  have GHA : FnOk l.prog w K mg base CX0 16 fHA _ ["thing"] (spDT K [TH3, TH4, TH9, THA, TK3, TP3, TP4] TK2 isWrittenD) := ok_isWritten (k := 12) DHA B BHA IHA hTs DH9 (GH9.mono (by decide))
  have GJ1 : FnOk l.prog w K mg base CX0 1 fJ1 _ ["row"] (spHasWorth K) := ok_hasWorth DJ1 (PySem.W.mg_of X G yE) (fun H => .inr ⟨_, yi, yj, yt, rfl, rfl, sz yv (by decide), yv⟩)
  have GJ2 : FnOk l.prog w K mg base CX0 1 fJ2 _ ["row"] (spIsMeetR K) := ok_isMt DJ2
  have GJ5 : FnOk l.prog w K mg base CX0 1 fJ5 _ ["thing", "kinds"] (spNumsIn K) := ok_numsIn DJ5 B
  have GJ3 : FnOk l.prog w K mg base CX0 2 fJ3 _ ["row"] (spRowsNamed K) := ok_rowsNamed DJ3 TD DJ5 (GJ5.mono (by decide))
  have GJ4 : FnOk l.prog w K mg base CX0 2 fJ4 _ ["end"] (spRowsTested K) := ok_rowsTested DJ4 TD DJ5 (GJ5.mono (by decide))
  have GW1 : FnOk l.prog w K mg base CX0 4 fW1 _ ["self", "leads"] (spWInit K CW) := ok_winit FW1 TCW DC3 (GC3.mono (by decide)) DC4 (GC4.mono (by decide)) DC5 (GC5.mono (by decide))
  have GW2 : FnOk l.prog w K mg base CX0 1 fW2 _ ["self", "block", "other"] (spLies CW) := ok_lies FW2 TCW
  have GK3 : FnOk l.prog w K mg base CX0 4 fK3 _ ["named", "many"] (spCanLead K [TH3, TH4, TH9, THA, TK3, TP3, TP4] TK2) := ok_canLead (k := 0) DK3 B BK3 IK3 hTs
  have GK2 : FnOk l.prog w K mg base CX0 8 fK2 _ ["program"] (spLed K [TH3, TH4, TH9, THA, TK3, TP3, TP4] TK2) := ok_led (k := 1) DK2 B BK2 DK3 (GK3.mono (by decide)) DN1 (GN1.mono (by decide)) DN2 (GN2.mono (by decide))
  have GP1 : FnOk l.prog w K mg base CX0 6 fP1 _ ["self", "program"] (spPInit K CP CW) := ok_pinit (k := 4) FP1 TCP TCW DN3 (GN3.mono (by decide)) DN4 (GN4.mono (by decide)) DN2 (GN2.mono (by decide)) MkCW b_W1 (GW1.mono (by decide))
  have GP2 : FnOk l.prog w K mg base CX0 2 fP2 _ ["self", "name", "block", "place"] (spCanName K CP CW) := ok_canName (k := 1) FP2 B TCP TCW DJ1 (GJ1.mono (by decide)) MW2 b_W2 (GW2.mono (by decide))
  have GP3 : FnOk l.prog w K mg base CX0 6 fP3 _ ["self", "names", "block", "place"] (spCanAll K CP CW [TH3, TH4, TH9, THA, TK3, TP3, TP4] TK2) := ok_canAll (k := 2) FCP3 B TCP BP3 IP3 hTs MP2 b_P2 (GP2.mono (by decide))
  have GP4 : FnOk l.prog w K mg base CX0 6 fP4 _ ["self", "parts", "block"] (spCanMeet K CP CW [TH3, TH4, TH9, THA, TK3, TP3, TP4] TK2) := ok_canMeet (k := 2) FCP4 B TCP BP4 IP4 hTs MP2 b_P2 (GP2.mono (by decide))
  have GK5 : FnOk l.prog w K mg base CX0 2 fK5 _ ["rows"] (spAhead K) := ok_ahead DK5 DJ2 (GJ2.mono (by decide))
  have GK6 : FnOk l.prog w K mg base CX0 7 fK6 _ ["places", "block", "begin", "rows"] (spRowsRight K CP CW [TH3, TH4, TH9, THA, TK3, TP3, TP4] TK2) := ok_rowsRight (k := 6) DK6 B TCP DJ3 (GJ3.mono (by decide)) DJ2 (GJ2.mono (by decide)) MP4 b_P4 (GP4.mono (by decide)) MP3 b_P3 (GP3.mono (by decide))
  have GK4 : FnOk l.prog w K mg base CX0 8 fK4 _ ["program"] (spNamesRight K [TH3, TH4, TH9, THA, TK3, TP3, TP4] TK2) := ok_namesRight (k := 6) DK4 B TCP MkCP b_P1 (GP1.mono (by decide)) DK5 (GK5.mono (by decide)) DK6 (GK6.mono (by decide)) MP3 b_P3 (GP3.mono (by decide)) DJ4 (GJ4.mono (by decide))
  have GK1 : FnOk l.prog w K mg base CX0 17 fK1 _ ["thing"] (spIsProg K [TH3, TH4, TH9, THA, TK3, TP3, TP4] TK2) := ok_isProg (k := 16) DK1 DHA (GHA.mono (by decide)) DK2 (GK2.mono (by decide)) DK4 (GK4.mono (by decide))
  have GQ5 : FnOk l.prog w K mg base CX0 18 fQ5 _ ["_law_shift"] (spRoomsR K [TH3, TH4, TH9, THA, TK3, TP3, TP4] TK2) := ok_roomsR (k := 17) DQ5 B DK1 (GK1.mono (by decide))
  exact ok_law (k := 18) FZ B ⟨rfl, by decide, by decide⟩ DL1 (GL1.mono (by decide)) DL2 (GL2.mono (by decide)) DQ4 (GQ4.mono (by decide)) DQ5 (GQ5.mono (by decide)) DK1 (GK1.mono (by decide)) DMC (GMC.mono (by decide))
end Gn
set_option Elab.async false
set_option linter.all false
set_option maxRecDepth 100000
open PySem PySem.W PyProof.Rows
local macro_rules | `(tactic| o_head ($f $k $a $e)) => `(tactic| o_head (PySem.W.kmHook $k $a $e [164, 171, 207, 214, 277, 242, 249, 270]))
set_option maxHeartbeats 0 in
theorem PySem.Challenge.cw_sameworth_k05_programs_of_anything_holds : PySem.Challenge.rw_sameworth_k05_programs_of_anything.Holds := by
  w_on; o_law; k_head; (case hw => w_witness2)
  k_fill
  refine Gn.walkGT (l := PySem.Challenge.rw_sameworth_k05_programs_of_anything) (n := 63) (x := "_law_script") rfl (by decide) rfl (fun w h Y => PySem.W.km_in_of Y) ?F
  case F =>
    intro w mg fa h Y KX G hmg
    refine' Gn.all_mk KX G hmg ?aL1 ?lL1 ?cL1 ?kL1 ?aL2 ?lL2 ?cL2 ?kL2 ?aM1 ?lM1 ?cM1 ?kM1 ?aM2 ?lM2 ?cM2 ?kM2 ?aM3 ?lM3 ?cM3 ?kM3 ?aM4 ?lM4 ?cM4 ?kM4 ?aM5 ?lM5 ?cM5 ?kM5 ?aM6 ?lM6 ?cM6 ?kM6 ?aM7 ?lM7 ?cM7 ?kM7 ?aM8 ?lM8 ?cM8 ?kM8 ?aM9 ?lM9 ?cM9 ?kM9 ?aMA ?lMA ?cMA ?kMA ?aMB ?lMB ?cMB ?kMB ?aMC ?lMC ?cMC ?kMC ?aQ1 ?lQ1 ?cQ1 ?kQ1 ?aQ2 ?lQ2 ?cQ2 ?kQ2 ?aQ3 ?lQ3 ?cQ3 ?kQ3 ?aQ4 ?lQ4 ?cQ4 ?kQ4 ?aQ5 ?lQ5 ?cQ5 ?kQ5 ?aN1 ?lN1 ?cN1 ?kN1 ?aN2 ?lN2 ?cN2 ?kN2 ?aN3 ?lN3 ?cN3 ?kN3 ?aN4 ?lN4 ?cN4 ?kN4 ?aC1 ?lC1 ?cC1 ?kC1 ?aC2 ?lC2 ?cC2 ?kC2 ?aC3 ?lC3 ?cC3 ?kC3 ?aC4 ?lC4 ?cC4 ?kC4 ?aC5 ?lC5 ?cC5 ?kC5 ?aH1 ?lH1 ?cH1 ?kH1 ?aH2 ?lH2 ?cH2 ?kH2 ?aH3 ?lH3 ?cH3 ?kH3 ?hH3 ?mH3 ?eH3 ?nH3 ?bH3 ?aH4 ?lH4 ?cH4 ?kH4 ?hH4 ?mH4 ?eH4 ?nH4 ?bH4 ?aH5 ?lH5 ?cH5 ?kH5 ?aH6 ?lH6 ?cH6 ?kH6 ?aH7 ?lH7 ?cH7 ?kH7 ?aH8 ?lH8 ?cH8 ?kH8 ?aH9 ?lH9 ?cH9 ?kH9 ?hH9 ?mH9 ?eH9 ?nH9 ?bH9 ?aHA ?lHA ?cHA ?kHA ?hHA ?mHA ?eHA ?nHA ?bHA ?aJ1 ?lJ1 ?cJ1 ?kJ1 ?aJ2 ?lJ2 ?cJ2 ?kJ2 ?aJ3 ?lJ3 ?cJ3 ?kJ3 ?aJ4 ?lJ4 ?cJ4 ?kJ4 ?aJ5 ?lJ5 ?cJ5 ?kJ5 ?aK1 ?lK1 ?cK1 ?kK1 ?aK2 ?lK2 ?cK2 ?kK2 ?hK2 ?mK2 ?eK2 ?nK2 ?bK2 ?aK3 ?lK3 ?cK3 ?kK3 ?hK3 ?mK3 ?eK3 ?nK3 ?bK3 ?aK4 ?lK4 ?cK4 ?kK4 ?aK5 ?lK5 ?cK5 ?kK5 ?aK6 ?lK6 ?cK6 ?kK6 ?aZ ?lZ ?cZ ?kZ ?aCW ?aW1 ?iW1 ?lW1 ?cW1 ?kW1 ?aW2 ?iW2 ?lW2 ?cW2 ?kW2 ?pgCW ?hdCW ?poCW ?saCW ?mkCW ?kcCW ?naCW0 ?naCW1 ?aCP ?aP1 ?iP1 ?lP1 ?cP1 ?kP1 ?aP2 ?iP2 ?lP2 ?cP2 ?kP2 ?aP3 ?iP3 ?lP3 ?cP3 ?kP3 ?hP3 ?mP3 ?eP3 ?nP3 ?bP3 ?aP4 ?iP4 ?lP4 ?cP4 ?kP4 ?hP4 ?mP4 ?eP4 ?nP4 ?bP4 ?pgCP ?hdCP ?poCP ?saCP ?mkCP ?kcCP ?naCP0 ?naCP1 ?naCP2 ?naCP3 ?z_len ?z_abs ?z_int ?z_range ?z_max ?z_min ?z_list ?z_tuple ?z_sorted ?z_set ?z_enumerate ?z_zip ?z_sum ?z_repr ?z_any ?z_isinstance ?z_bool ?z_str ?z_all ?rE ?rL ?rK ?rw ?rky ?re0 ?r0t ?r0v ?re1 ?r1t ?r1v ?re2 ?r2t ?r2v ?re3 ?r3t ?r3v ?re4 ?r4t ?r4v ?re5 ?r5t ?r5v ?re6 ?r6t ?r6v ?re7 ?r7t ?r7v ?re8 ?r8t ?r8v ?re9 ?r9t ?r9v ?re10 ?r10t ?r10v ?re11 ?r11t ?r11v ?eE ?eL ?eK ?ew ?eky ?ee0 ?e0t ?e0v ?ee1 ?e1t ?e1v ?ee2 ?e2t ?e2v ?yE ?yt ?yv ?cE ?cL ?cK ?c_number ?c_row ?c_block ?c_place ?c_parts ?c_rooms ?hTs
    (case aL1 => k_is)
    (case lL1 => k_is)
    (case cL1 => k_is)
    (case kL1 => k_is)
    (case aL2 => k_is)
    (case lL2 => k_is)
    (case cL2 => k_is)
    (case kL2 => k_is)
    (case aM1 => k_is)
    (case lM1 => k_is)
    (case cM1 => k_is)
    (case kM1 => k_is)
    (case aM2 => k_is)
    (case lM2 => k_is)
    (case cM2 => k_is)
    (case kM2 => k_is)
    (case aM3 => k_is)
    (case lM3 => k_is)
    (case cM3 => k_is)
    (case kM3 => k_is)
    (case aM4 => k_is)
    (case lM4 => k_is)
    (case cM4 => k_is)
    (case kM4 => k_is)
    (case aM5 => k_is)
    (case lM5 => k_is)
    (case cM5 => k_is)
    (case kM5 => k_is)
    (case aM6 => k_is)
    (case lM6 => k_is)
    (case cM6 => k_is)
    (case kM6 => k_is)
    (case aM7 => k_is)
    (case lM7 => k_is)
    (case cM7 => k_is)
    (case kM7 => k_is)
    (case aM8 => k_is)
    (case lM8 => k_is)
    (case cM8 => k_is)
    (case kM8 => k_is)
    (case aM9 => k_is)
    (case lM9 => k_is)
    (case cM9 => k_is)
    (case kM9 => k_is)
    (case aMA => k_is)
    (case lMA => k_is)
    (case cMA => k_is)
    (case kMA => k_is)
    (case aMB => k_is)
    (case lMB => k_is)
    (case cMB => k_is)
    (case kMB => k_is)
    (case aMC => k_is)
    (case lMC => k_is)
    (case cMC => k_is)
    (case kMC => k_is)
    (case aQ1 => k_is)
    (case lQ1 => k_is)
    (case cQ1 => k_is)
    (case kQ1 => k_is)
    (case aQ2 => k_is)
    (case lQ2 => k_is)
    (case cQ2 => k_is)
    (case kQ2 => k_is)
    (case aQ3 => k_is)
    (case lQ3 => k_is)
    (case cQ3 => k_is)
    (case kQ3 => k_is)
    (case aQ4 => k_is)
    (case lQ4 => k_is)
    (case cQ4 => k_is)
    (case kQ4 => k_is)
    (case aQ5 => k_is)
    (case lQ5 => k_is)
    (case cQ5 => k_is)
    (case kQ5 => k_is)
    (case aN1 => k_is)
    (case lN1 => k_is)
    (case cN1 => k_is)
    (case kN1 => k_is)
    (case aN2 => k_is)
    (case lN2 => k_is)
    (case cN2 => k_is)
    (case kN2 => k_is)
    (case aN3 => k_is)
    (case lN3 => k_is)
    (case cN3 => k_is)
    (case kN3 => k_is)
    (case aN4 => k_is)
    (case lN4 => k_is)
    (case cN4 => k_is)
    (case kN4 => k_is)
    (case aC1 => k_is)
    (case lC1 => k_is)
    (case cC1 => k_is)
    (case kC1 => k_is)
    (case aC2 => k_is)
    (case lC2 => k_is)
    (case cC2 => k_is)
    (case kC2 => k_is)
    (case aC3 => k_is)
    (case lC3 => k_is)
    (case cC3 => k_is)
    (case kC3 => k_is)
    (case aC4 => k_is)
    (case lC4 => k_is)
    (case cC4 => k_is)
    (case kC4 => k_is)
    (case aC5 => k_is)
    (case lC5 => k_is)
    (case cC5 => k_is)
    (case kC5 => k_is)
    (case aH1 => k_is)
    (case lH1 => k_is)
    (case cH1 => k_is)
    (case kH1 => k_is)
    (case aH2 => k_is)
    (case lH2 => k_is)
    (case cH2 => k_is)
    (case kH2 => k_is)
    (case aH3 => k_is)
    (case lH3 => k_is)
    (case cH3 => k_is)
    (case kH3 => k_is)
    (case hH3 => exact rfl)
    (case mH3 => k_is)
    (case eH3 => exact rfl)
    (case nH3 => first | rfl | decide | kernel_rfl)
    (case bH3 => exact ⟨PySem.W.codeHd_of_K (c := 168) (P := 164) KX (by kernel_rfl), PySem.W.km_tabs_of Y 164 (by simp)⟩)
    (case aH4 => k_is)
    (case lH4 => k_is)
    (case cH4 => k_is)
    (case kH4 => k_is)
    (case hH4 => exact rfl)
    (case mH4 => k_is)
    (case eH4 => exact rfl)
    (case nH4 => first | rfl | decide | kernel_rfl)
    (case bH4 => exact ⟨PySem.W.codeHd_of_K (c := 175) (P := 171) KX (by kernel_rfl), PySem.W.km_tabs_of Y 171 (by simp)⟩)
    (case aH5 => k_is)
    (case lH5 => k_is)
    (case cH5 => k_is)
    (case kH5 => k_is)
    (case aH6 => k_is)
    (case lH6 => k_is)
    (case cH6 => k_is)
    (case kH6 => k_is)
    (case aH7 => k_is)
    (case lH7 => k_is)
    (case cH7 => k_is)
    (case kH7 => k_is)
    (case aH8 => k_is)
    (case lH8 => k_is)
    (case cH8 => k_is)
    (case kH8 => k_is)
    (case aH9 => k_is)
    (case lH9 => k_is)
    (case cH9 => k_is)
    (case kH9 => k_is)
    (case hH9 => exact rfl)
    (case mH9 => k_is)
    (case eH9 => exact rfl)
    (case nH9 => first | rfl | decide | kernel_rfl)
    (case bH9 => exact ⟨PySem.W.codeHd_of_K (c := 211) (P := 207) KX (by kernel_rfl), PySem.W.km_tabs_of Y 207 (by simp)⟩)
    (case aHA => k_is)
    (case lHA => k_is)
    (case cHA => k_is)
    (case kHA => k_is)
    (case hHA => exact rfl)
    (case mHA => k_is)
    (case eHA => exact rfl)
    (case nHA => first | rfl | decide | kernel_rfl)
    (case bHA => exact ⟨PySem.W.codeHd_of_K (c := 218) (P := 214) KX (by kernel_rfl), PySem.W.km_tabs_of Y 214 (by simp)⟩)
    (case aJ1 => k_is)
    (case lJ1 => k_is)
    (case cJ1 => k_is)
    (case kJ1 => k_is)
    (case aJ2 => k_is)
    (case lJ2 => k_is)
    (case cJ2 => k_is)
    (case kJ2 => k_is)
    (case aJ3 => k_is)
    (case lJ3 => k_is)
    (case cJ3 => k_is)
    (case kJ3 => k_is)
    (case aJ4 => k_is)
    (case lJ4 => k_is)
    (case cJ4 => k_is)
    (case kJ4 => k_is)
    (case aJ5 => k_is)
    (case lJ5 => k_is)
    (case cJ5 => k_is)
    (case kJ5 => k_is)
    (case aK1 => k_is)
    (case lK1 => k_is)
    (case cK1 => k_is)
    (case kK1 => k_is)
    (case aK2 => k_is)
    (case lK2 => k_is)
    (case cK2 => k_is)
    (case kK2 => k_is)
    (case hK2 => exact rfl)
    (case mK2 => k_is)
    (case eK2 => exact rfl)
    (case nK2 => first | rfl | decide | kernel_rfl)
    (case bK2 => exact ⟨PySem.W.codeHd_of_K (c := 274) (P := 270) KX (by kernel_rfl), PySem.W.km_tabs_of Y 270 (by simp)⟩)
    (case aK3 => k_is)
    (case lK3 => k_is)
    (case cK3 => k_is)
    (case kK3 => k_is)
    (case hK3 => exact rfl)
    (case mK3 => k_is)
    (case eK3 => exact rfl)
    (case nK3 => first | rfl | decide | kernel_rfl)
    (case bK3 => exact ⟨PySem.W.codeHd_of_K (c := 281) (P := 277) KX (by kernel_rfl), PySem.W.km_tabs_of Y 277 (by simp)⟩)
    (case aK4 => k_is)
    (case lK4 => k_is)
    (case cK4 => k_is)
    (case kK4 => k_is)
    (case aK5 => k_is)
    (case lK5 => k_is)
    (case cK5 => k_is)
    (case kK5 => k_is)
    (case aK6 => k_is)
    (case lK6 => k_is)
    (case cK6 => k_is)
    (case kK6 => k_is)
    (case aZ => k_is)
    (case lZ => k_is)
    (case cZ => k_is)
    (case kZ => k_is)
    (case aCW => k_is)
    (case aW1 => k_is)
    (case iW1 => k_is)
    (case lW1 => k_is)
    (case cW1 => k_is)
    (case kW1 => k_is)
    (case aW2 => k_is)
    (case iW2 => k_is)
    (case lW2 => k_is)
    (case cW2 => k_is)
    (case kW2 => k_is)
    (case pgCW => k_is)
    (case hdCW => k_is)
    (case poCW => k_is)
    (case saCW => k_is)
    (case mkCW => k_is)
    (case kcCW => k_is)
    (case naCW0 => k_is)
    (case naCW1 => k_is)
    (case aCP => k_is)
    (case aP1 => k_is)
    (case iP1 => k_is)
    (case lP1 => k_is)
    (case cP1 => k_is)
    (case kP1 => k_is)
    (case aP2 => k_is)
    (case iP2 => k_is)
    (case lP2 => k_is)
    (case cP2 => k_is)
    (case kP2 => k_is)
    (case aP3 => k_is)
    (case iP3 => k_is)
    (case lP3 => k_is)
    (case cP3 => k_is)
    (case kP3 => k_is)
    (case hP3 => exact rfl)
    (case mP3 => k_is)
    (case eP3 => exact rfl)
    (case nP3 => first | rfl | decide | kernel_rfl)
    (case bP3 => exact ⟨PySem.W.codeHd_of_K (c := 246) (P := 242) KX (by kernel_rfl), PySem.W.km_tabs_of Y 242 (by simp)⟩)
    (case aP4 => k_is)
    (case iP4 => k_is)
    (case lP4 => k_is)
    (case cP4 => k_is)
    (case kP4 => k_is)
    (case hP4 => exact rfl)
    (case mP4 => k_is)
    (case eP4 => exact rfl)
    (case nP4 => first | rfl | decide | kernel_rfl)
    (case bP4 => exact ⟨PySem.W.codeHd_of_K (c := 253) (P := 249) KX (by kernel_rfl), PySem.W.km_tabs_of Y 249 (by simp)⟩)
    (case pgCP => k_is)
    (case hdCP => k_is)
    (case poCP => k_is)
    (case saCP => k_is)
    (case mkCP => k_is)
    (case kcCP => k_is)
    (case naCP0 => k_is)
    (case naCP1 => k_is)
    (case naCP2 => k_is)
    (case naCP3 => k_is)
    (case z_len => k_is)
    (case z_abs => k_is)
    (case z_int => k_is)
    (case z_range => k_is)
    (case z_max => k_is)
    (case z_min => k_is)
    (case z_list => k_is)
    (case z_tuple => k_is)
    (case z_sorted => k_is)
    (case z_set => k_is)
    (case z_enumerate => k_is)
    (case z_zip => k_is)
    (case z_sum => k_is)
    (case z_repr => k_is)
    (case z_any => k_is)
    (case z_isinstance => k_is)
    (case z_bool => k_is)
    (case z_str => k_is)
    (case z_all => k_is)
    (case rE => k_is)
    (case rL => k_is)
    (case rK => k_keys)
    (case rw => first | rfl | decide)
    (case rky => first | rfl | decide)
    (case re0 => k_is)
    (case r0t => k_is)
    (case r0v => exact .cons ⟨_, rfl⟩ .nil)
    (case re1 => k_is)
    (case r1t => k_is)
    (case r1v => exact .cons ⟨_, rfl⟩ .nil)
    (case re2 => k_is)
    (case r2t => k_is)
    (case r2v => exact .cons ⟨_, rfl⟩ (.cons ⟨_, rfl⟩ .nil))
    (case re3 => k_is)
    (case r3t => k_is)
    (case r3v => exact .cons ⟨_, rfl⟩ (.cons ⟨_, rfl⟩ .nil))
    (case re4 => k_is)
    (case r4t => k_is)
    (case r4v => exact .cons ⟨_, rfl⟩ (.cons ⟨_, rfl⟩ .nil))
    (case re5 => k_is)
    (case r5t => k_is)
    (case r5v => exact .cons ⟨_, rfl⟩ (.cons ⟨_, rfl⟩ .nil))
    (case re6 => k_is)
    (case r6t => k_is)
    (case r6v => exact .cons ⟨_, rfl⟩ (.cons ⟨_, rfl⟩ .nil))
    (case re7 => k_is)
    (case r7t => k_is)
    (case r7v => exact .cons ⟨_, rfl⟩ (.cons ⟨_, rfl⟩ .nil))
    (case re8 => k_is)
    (case r8t => k_is)
    (case r8v => exact .cons ⟨_, rfl⟩ .nil)
    (case re9 => k_is)
    (case r9t => k_is)
    (case r9v => exact .cons ⟨_, rfl⟩ (.cons ⟨_, rfl⟩ .nil))
    (case re10 => k_is)
    (case r10t => k_is)
    (case r10v => exact .cons ⟨_, rfl⟩ (.cons ⟨_, rfl⟩ (.cons ⟨_, rfl⟩ .nil)))
    (case re11 => k_is)
    (case r11t => k_is)
    (case r11v => exact .cons ⟨_, rfl⟩ .nil)
    (case eE => k_is)
    (case eL => k_is)
    (case eK => k_keys)
    (case ew => first | rfl | decide)
    (case eky => first | rfl | decide)
    (case ee0 => k_is)
    (case e0t => k_is)
    (case e0v => exact .cons ⟨_, rfl⟩ .nil)
    (case ee1 => k_is)
    (case e1t => k_is)
    (case e1v => exact .cons ⟨_, rfl⟩ (.cons ⟨_, rfl⟩ (.cons ⟨_, rfl⟩ .nil)))
    (case ee2 => k_is)
    (case e2t => k_is)
    (case e2v => exact .nil)
    (case yE => k_is)
    (case yt => k_is)
    (case yv => exact .cons ⟨_, rfl⟩ (.cons ⟨_, rfl⟩ .nil))
    (case cE => k_is)
    (case cL => k_is)
    (case cK => k_keys)
    (case c_number => k_is)
    (case c_row => k_is)
    (case c_block => k_is)
    (case c_place => k_is)
    (case c_parts => k_is)
    (case c_rooms => k_is)
    (case hTs => unfold Gn.TsOk; decide)
