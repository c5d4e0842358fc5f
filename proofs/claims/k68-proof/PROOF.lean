import PyProof.Rows.All
import Wide.All
import OpenK.AllK
import Wide.FinOn
import HandS.ForMost
import HandS.Strs
import HandS.Flow
import HandS.Conv
import HandS.Deep
import KE.KDictPairs
import PyProof.P3In
import PyProof.ReprRoads
import HandS.SetFor
import HandS.Evl
import HandS.Style
import HandS.EndBits
import HandS.TupAny
import HandS.RaiseMore
import HandS.IsInst
import HandS.Zip
import HandS.More
import HandS.IterVal
import HandS.Wide
import HandS.Walk
import HandS.TupMul
import PyProof.AutoSeq1
import PyProof.FitsInt
import HandS.Text
import PyProof.ReprLen
import PySem.Challenge.RW_sameworth_k68_programs_written
set_option Elab.async false
set_option linter.all false
set_option maxRecDepth 100000
set_option maxHeartbeats 2000000
namespace Gn
open PySem PySem.Spec PyProof.Rows L2
section
variable {X : Cx}
/-- d.update(xs), xs a list of pairs -/
def rDUp (K : PySem.W.Frag) : V → List V → Hp → VK → Prop := fun x vs H Q =>
  ∃ (d a : Addr) (ps : List Addr) (acc kvs : List (Key × V)), x = .ref d ∧ vs = [.ref a] ∧ H d = some (.dK acc) ∧
    SqL K H a (ps.map V.ref) ∧ Paired (fun p kv => SqT K H p [kV kv.1, kv.2]) ps kvs ∧ (∀ p ∈ ps, p ≠ d) ∧ a ≠ d ∧
    acc.length + kvs.length ≤ sizeLine ∧ Q .non (upd H d (.dK (mergeK acc kvs)))
theorem pairs_vals : ∀ {prs : List (Key × Value)} {ps : List Addr} {h : Heap}, prs.length = ps.length →
    (∀ (j : Nat) (q : Key × Value), prs[j]? = some q → ∃ (b : Addr) (u : Value), ps[j]? = some b ∧ IsTup h b #[u, q.2] ∧ keyIs q.1 u = true) →
    ∃ vv : List (Value × Value), vv.length = ps.length ∧ ∀ (j : Nat) (k v : Value), vv[j]? = some (k, v) →
      ∃ (b : Addr) (q : Key × Value), ps[j]? = some b ∧ prs[j]? = some q ∧ q.2 = v ∧ keyIs q.1 k = true ∧ IsTup h b #[k, v]
  | [], [], h, _, _ => ⟨[], rfl, fun j k v e => by simp at e⟩
  | [], _ :: _, _, e, _ => by simp at e
  | _ :: _, [], _, e, _ => by simp at e
  | q :: prs, p :: ps, h, e, hp => by
    obtain ⟨vv, hl, hv⟩ := pairs_vals (prs := prs) (ps := ps) (h := h) (by simpa using e)
      (fun j q' e' => by
        obtain ⟨b, u, h1, h2, h3⟩ := hp (j + 1) q' (by simpa using e')
        exact ⟨b, u, by simpa using h1, h2, h3⟩)
    obtain ⟨b, u, h1, h2, h3⟩ := hp 0 q rfl
    refine ⟨(u, q.2) :: vv, by simp [hl], fun j k v e' => ?_⟩
    cases j with
    | zero =>
      have e2 : (u, q.2) = (k, v) := Option.some.inj e'
      cases e2
      exact ⟨b, q, h1, rfl, rfl, h3, h2⟩
    | succ j =>
      obtain ⟨b', q', z1, z2, z3, z4, z5⟩ := hv j k v (by simpa using e')
      exact ⟨b', q', by simpa using z1, by simpa using z2, z3, z4, z5⟩
theorem mt_dup (hcalm : X.calm = true) : MtR X "dict.update" (rDUp X.K) := by
  intro pins s σ H x xs v us Q I rx rxs h
  obtain ⟨d, a, ps, acc, kvs, rfl, rfl, hd, hq, hp, hpd, had, hz, q⟩ := h
  cases rx
  obtain ⟨u, rfl, ru⟩ := rxs.one
  cases ru
  obtain ⟨its, rv, pl, hz2⟩ := I.list hq
  have ei := refs_at rv
  subst ei
  obtain ⟨prs, rel, hl, hpr⟩ := pairs_of I hp
  obtain ⟨vv, hvl, hvv⟩ := pairs_vals hl hpr
  obtain ⟨z, hsm, vs, rel0, dd⟩ := dk_of I.hok hd
  obtain ⟨o, n, ho, hc, hdc, hdat⟩ := pl
  have hlen : prs.length = kvs.length := rel.length.symm
  have hTs : ∀ j : Nat, j < ps.length → ps[j]? = some (ps.getD j 0) := fun j hj => by
    rw [List.getD_eq_getElem?_getD, List.getElem?_eq_getElem hj]; rfl
  refine call_update_pairs (knd := mixKind X.prog X.w) (acc := vs) (kvs := prs) (PairArg.list a (ps.map Value.ref).toArray (fun j => ps.getD j 0) vv) (I.ok.hd hcalm) ⟨⟨o, n, ho, hc, hdc, hdat⟩, ?_, ?_⟩ ?_ ⟨?_, ?_⟩ dd ?_ fun h' tk dd' k => ?_
  · simp [hvl]
  · intro j k v e
    obtain ⟨b, q', z1, z2, z3, z4, z5⟩ := hvv j k v e
    have hj := (List.getElem?_eq_some_iff.mp z1).1
    have eb : ps.getD j 0 = b := Option.some.inj ((hTs j hj).symm.trans z1)
    refine ⟨?_, .inl ?_⟩
    · show (ps.map Value.ref).toArray[j]? = some (Value.ref (ps.getD j 0))
      rw [eb, List.getElem?_toArray, List.getElem?_map, z1]
      rfl
    · show s.heap.IsTuple (ps.getD j 0) _
      rw [eb]; exact z5
  · intro hm
    rcases List.mem_cons.mp hm with e | hm
    · exact had e.symm
    · obtain ⟨j, hj, e⟩ := List.mem_map.mp hm
      have hj := List.mem_range.mp hj
      rw [hvl] at hj
      exact hpd _ (List.mem_of_getElem? (hTs j hj)) e
  · rw [hl, hvl]
  · intro i key v e
    obtain ⟨b, q', z1, z2, z3, z4, z5⟩ := hvv i key v e
    refine ⟨q'.1, ?_, z4⟩
    rw [z2, ← z3]
  · rw [hvl, ← hl, hlen, ← rel0.length]
    exact hz
  · have he : ∃ q, h'.get? d = some q := let ⟨q, _, _, hq, _⟩ := dd'; ⟨q, hq⟩
    refine ⟨.non, upd H d (.dK (mergeK acc kvs)), ?_, rfl, q⟩
    refine I.write (x := d) (e := d) (by rw [hd]; exact True.intro) (.inl rfl) (fun b q hb z => k b q hb (by simp) z) he (dk_new ?_ hsm (KV.merge rel rel0) dd')
    refine Nat.le_trans (length_mergeK kvs acc) ?_
    omega
end
end Gn
set_option Elab.async false
set_option linter.all false
set_option maxRecDepth 100000
set_option maxHeartbeats 3200000
namespace Gn
open PySem PySem.Spec PyProof.Rows L2
/-- an empty set as it is laid -/
abbrev so (w : World) : Obj := { cls := .type "set", dict := none, data := .set #[] 0 (.fresh 0 0 (!w.params.followText "set-order")) }
section
variable {P : Program} {w : World} {A : Around} {E : Value → Shared → Prop} {s : Shared}
theorem set_of_list {l : Addr} {its : Array Value} (ns : List Int) {Q : Value → Shared → Prop} (hh : A.handled = none) (hl : s.heap.IsList l its)
    (hit : IntsAre its.toList ns) (hb : ns.length + 1 < scanBound)
    (h : ∀ (g : Heap) (tk c : Nat), SetR w g s.heap.objs.size (fun j => decide (j ∈ ns)) c → c ≤ ns.length →
      (∀ b o, s.heap.get? b = some o → g.get? b = some o) → Q (.ref s.heap.objs.size) { s with heap := g, toks := tk }) :
    wpAny (model P w) A (call (.type "set") [.ref l]) Q E s := by
  have hisz : its.size = ns.length := (Array.length_toList).symm.trans (IntsAre.length hit)
  obtain ⟨c, tl, hmro⟩ := F.called_set.mro
  have g0 := F.called_set.made
  have g1 := F.called_set.sub
  refine wpAny_call (codeAny_of_tree ?_)
  show wpAny (model P w) _ (callAny (.type "set") _) _ _ s
  refine wpAny_pure ⟨Code.quiet_builtin _ (by decide +kernel), (codeAny_builtin F.entry_type_call ?_)⟩
  rw [Around.under_plain ((weight_type_call_type "set" [.ref l] [])) rfl]
  have g2 := F.called_set.notType
  have g3 := F.called_set.canCreate
  have g4 := F.typeCall_set_1 (.ref l)
  (repeat (any_goals (first | assumption | wp_step)))
  refine codeAny_mono (code_set_led1 (.ref l) (E := E) (Q₁ := fun u t => u = .ref s.heap.objs.size ∧ t = { s with heap := s.heap.push (so w) }) ⟨rfl, rfl⟩) fun r t hr => ?_
  cases r with
  | error e => exact hr
  | ok fl =>
    cases fl with
    | ret obj =>
      obtain ⟨rfl, rfl⟩ := hr
      have hS : (s.heap.push (so w)).get? s.heap.objs.size = some (so w) := Heap.get?_push_size _ rfl
      have hT : Shared.TypeIs { s with heap := s.heap.push (so w) } (.ref s.heap.objs.size) "set" := ⟨_, hS, rfl⟩
      have g5 := F.called_set.init.lookup
      have g6 := F.called_set.init.bind (.ref s.heap.objs.size)
      (repeat (any_goals (first | assumption | wp_step)))
      refine codeAny_mono (codeAny_call_builtin (R := wants (fun r t => r = .none ∧ ∃ g tk c, t = { s with heap := g, toks := tk } ∧ SetR w g s.heap.objs.size (fun j => decide (j ∈ ns)) c ∧
        c ≤ ns.length ∧ (∀ b o, s.heap.get? b = some o → g.get? b = some o)) E) F.called_set.init.plain F.entry_set_init (check_set_init_1 hT ?_)) fun r2 t2 hr2 => ?_
      · obtain ⟨ol, hol, hcl, nl, hdl⟩ := hl
        obtain ⟨oc, od, oda, osl⟩ := ol
        simp only at hcl hdl
        subst hcl
        subst hdl
        have ho2 : (s.heap.push (so w)).get? l = some { cls := .type "list", dict := od, data := .seq its nl, slots := osl } := Heap.get?_push_of_some _ hol
        have g7 := F.sub_list_set
        have g8 := F.sub_list_frozenset
        have g9 : (Value.type "list" == Value.type "dict") = false := (by decide)
        have hl1 : (s.heap.push (so w)).IsList l its := ⟨_, ho2, rfl, nl, rfl⟩
        unfold Builtin.«set.__init__» noKeywords
        unfold Builtin.Frozenset.updateFrom
        generalize hPI : pyIter = PI
        wp_walk
        subst hPI
        refine wpAny_pyIter_list hl1 ?_
        refine wpAny_bind (wpAny_runValue ?_)
        have hlS : l < s.heap.objs.size := Heap.lt_size hol
        have hh3 : A.in1.in1.in1.handled = none := (by simp [hh])
        have hneI : l ≠ (s.heap.push (so w)).objs.size := (by rw [Heap.size_push]; exact Nat.ne_of_lt (Nat.lt_succ_of_lt hlS))
        have hSf : s.heap.objs.size ∉ [(s.heap.push (so w)).objs.size, l] := by
          rw [Heap.size_push]
          simp only [List.mem_cons, List.mem_singleton, List.not_mem_nil, or_false, not_or]
          exact ⟨Nat.ne_of_lt (Nat.lt_succ_self _), (Nat.ne_of_gt hlS)⟩
        have hval : ∀ (i : Nat) (v : Value), its[i]? = some v → ∃ k t, ns[i]? = some k ∧ v = .int k t := fun i v hv => by
          have hi : i < ns.length := (by rw [← hisz]; exact (Array.getElem?_eq_some_iff.mp hv).1)
          obtain ⟨t, e⟩ := PyProof.Rows.IntsAre.int_at hit i v ((by rw [Array.getElem?_toList]; exact hv))
          refine ⟨ns[i], t, List.getElem?_eq_getElem hi, ?_⟩
          (rw [e, List.getD_eq_getElem?_getD, List.getElem?_eq_getElem hi] <;> rfl)
        refine set_update_ints ((Walks.list hh3 _ l hneI its).toS) s.heap.objs.size hSf ns hisz hb hval (its.size - 0) 0 _ (by omega) (Nat.zero_le _)
          (⟨⟨_, Heap.get?_push_size _ rfl, rfl, rfl⟩, (hl1.push _)⟩) ?z0 ?zR
        case z0 =>
          exact ⟨0, Nat.le_refl 0, setR_new_at (Heap.get?_push_of_some _ hS)⟩
        case zR =>
          intro t' c' hm hc' hS'
          obtain ⟨g, g2, d2, tk2, os2⟩ := t'
          have eg : g2 = s.gens := hm.gens
          have ed : d2 = s.drawn := hm.drawn
          have eo : os2 = s.os := hm.os
          subst eg
          subst ed
          subst eo
          show wpAny _ _ _ _ _ _
          refine wpAny_pure ?_
          show wpAny _ _ (ret Value.none) _ _ _
          rw [hisz] at hc'
          refine wpAny_pure ⟨rfl, g, tk2, c', rfl, hS', hc', (fun b o e => ?_)⟩
          have hb0 : b < s.heap.objs.size := Heap.lt_size e
          have hb2 : b ≠ (s.heap.push (so w)).objs.size := (by rw [Heap.size_push]; exact Nat.ne_of_lt (Nat.lt_succ_of_lt hb0))
          refine hm.heap b o ?_ (Heap.get?_push_of_some _ (Heap.get?_push_of_some _ e))
          simp only [List.mem_cons, List.mem_singleton, List.not_mem_nil, or_false, not_or]
          exact ⟨Nat.ne_of_lt hb0, hb2⟩
      · cases r2 with
        | error e => exact hr2
        | ok fl2 =>
          cases fl2 with
          | ret r =>
            obtain ⟨rfl, g, tk, c', rfl, hS', hc', hk'⟩ := hr2
            (repeat (any_goals (first | assumption | wp_step)))
            exact h _ _ _ hS' hc' hk'
          | _ => exact hr2.elim
    | _ => exact hr.elim
end
section
variable {X : Cx}
def rSetL (X : Cx) : List V → Hp → VK → Prop := fun vs H Q => ∃ (a : Addr) (ns : List Int), vs = [.ref a] ∧ SqL X.K H a (ns.map V.int) ∧ ns.length < 60 ∧
  ∀ p c, H p = none → c ≤ ns.length → Q (.ref p) (upd H p (SetO X.w p (fun j => decide (j ∈ ns)) c))
theorem cr_setL (hc : X.calm = true) : CallR X (.type "set") (rSetL X) := by
  intro pins s σ H vs us Q I r h
  obtain ⟨a, ns, rfl, hq, hl, q⟩ := h
  rw [Vals.ref1 r]
  obtain ⟨its, rv, pl, hz⟩ := I.list hq
  refine set_of_list ns (I.ok.hd hc) pl.isList (by simpa using ints_of_vals rv) (by unfold scanBound; omega) fun g tk c R hcl k => ?_
  exact ⟨.ref _, upd H s.heap.objs.size (SetO X.w s.heap.objs.size (fun j => decide (j ∈ ns)) c), I.laid (t' := tk) k (Nat.le_refl _) (setO_new R), rfl, q _ c (I.hok.fresh (Nat.le_refl _)) hcl⟩
end
end Gn
set_option Elab.async false
set_option linter.all false
set_option maxRecDepth 100000
set_option maxHeartbeats 3200000
namespace Gn
open PySem PySem.Spec PyProof.Rows L2
section
variable {X : Cx}
/-- x in t, t a tuple of data -/
def rInT (K : PySem.W.Frag) : R2 := fun x y H Q =>
  ∃ d ds, Dp K H x d ∧ Dp K H y (.tuple ds) ∧ SeqAt.shaped d = true ∧ SeqAt.shaped (.tuple ds) = true ∧ Q (.bl (ds.any fun z => PyData.eqv z d)) H
theorem op_inT (hu : X.A.units + 65 < cLine) : OpR X (compareOp .In) (rInT X.K) := by
  intro pins s σ H x y v u Q I rx ry h
  obtain ⟨d, ds, hd, he, sd, se, q⟩ := h
  obtain ⟨as, r1⟩ := Dp.reads I d x v hd rx
  obtain ⟨bs, r2⟩ := Dp.reads I (.tuple ds) y u he ry
  have c1 := SeqAt.canLay_of_shaped se
  have c2 := SeqAt.canLay_of_shaped sd
  exact SeqAt.in_tuple_reads r2 r1 c1 c2 (room_in_shaped sd hu) ⟨.bl _, H, I, rfl, q⟩
/-- repr(x) of data -/
def rRepr (K : PySem.W.Frag) : List V → Hp → VK → Prop := fun vs H Q =>
  ∃ (a : Addr) (d : PyData), vs = [.ref a] ∧ Dp K H (.ref a) d ∧ d.showable = true ∧ d.hasDict = false ∧ d.depth ≤ 60 ∧ d.shown.length ≤ sizeLine ∧ Q (.str d.shown) H
theorem cr_repr (hg : X.A.guards = some []) (hu : X.A.units + 64 < cLine) : CallR X (.builtin "repr") (rRepr X.K) := by
  intro pins s σ H vs us Q I r h
  obtain ⟨a, d, rfl, hd, hs, hh, hdp, hz, q⟩ := h
  rw [Vals.ref1 r]
  obtain ⟨as, r1⟩ := Dp.reads I d (.ref a) (.ref a) hd rfl
  refine repr_of_reads' r1 hs (fun e => by rw [hh] at e; cases e) hg (by omega) (fun _ _ e => e) (fun g u tk k => ?_) hz
  exact ⟨.str d.shown, H, I.kept (t' := tk) k, ⟨u, rfl⟩, q⟩
end
end Gn
set_option Elab.async false
set_option linter.all false
set_option maxRecDepth 100000
set_option maxHeartbeats 4000000
namespace Gn
open PySem PySem.Spec PyProof.Rows L2
def topS (i : Nat) : Stmt := PySem.Challenge.pw_sameworth_k68_programs_written.main.body.getD i (.Pass ⟨0, 0, 0, 0⟩)
abbrev sTape : Stmt := topS 7
abbrev sDraw : Stmt := topS 8
abbrev sNexts : Stmt := topS 9
abbrev sReached : Stmt := topS 10
abbrev sDrawn : Stmt := topS 11
abbrev sStanding : Stmt := topS 12
abbrev sProgram : Stmt := topS 13
abbrev sRowText : Stmt := topS 15
abbrev sTextRows : Stmt := topS 16
abbrev sLaw : Stmt := topS 17
abbrev sPText : Stmt := topS 4
abbrev sTextOf : Stmt := topS 5
/-- built-in names that the module leaves alone -/
structure Bi (mg : Str → Option Value) : Prop where
  len : mg "len" = none
  abs : mg "abs" = none
  int : mg "int" = none
  range : mg "range" = none
  max : mg "max" = none
  min : mg "min" = none
  list : mg "list" = none
  tuple : mg "tuple" = none
  sorted : mg "sorted" = none
  set : mg "set" = none
  enumerate : mg "enumerate" = none
  zip : mg "zip" = none
  sum : mg "sum" = none
  repr : mg "repr" = none
  any : mg "any" = none
  isinstance : mg "isinstance" = none
  bool : mg "bool" = none
  str : mg "str" = none
  all : mg "all" = none
/-- a def as it stands behind the top -/
structure Df (K : PySem.W.Frag) (mg : Str → Option Value) (x : Str) (st : Stmt) (ps : List Str) (f : Addr) (fd : FuncData) : Prop where
  F : Fun K x x st f fd
  b : Binds K fd ps []
  g : mg x = some (.ref f)
/-- all that was tracked is as it was, but for t -/
def But (t : Addr) (H H' : Hp) : Prop := ∀ a o, a ≠ t → H a = some o → H' a = some o
theorem But.refl (t : Addr) (H : Hp) : But t H H := fun _ _ _ h => h
theorem But.trans {t : Addr} {H H1 H2 : Hp} (a : But t H H1) (b : But t H1 H2) : But t H H2 := fun x o n h => b x o n (a x o n h)
theorem But.upd {t : Addr} {H : Hp} {o : HO} : But t H (upd H t o) := fun a u n h => by rw [upd_ne n]; exact h
theorem Same.but {t : Addr} {H H' : Hp} (h : Same H H') : But t H H' := fun a o _ e => h a o e
theorem new_same {H : Hp} {p : Addr} {o : HO} (h : H p = none) : Same H (upd H p o) := fun a u e => by
  rw [upd_ne (ne_of_none e h)]
  exact e
theorem Same.bt {t : Addr} {I H H' : Hp} (a : Same I H) (n : I t = none) (b : But t H H') : Same I H' := fun x o e =>
  b x o (ne_of_none e n) (a x o e)
theorem Same.upd {I H : Hp} {t : Addr} {o : HO} (a : Same I H) (n : I t = none) : Same I (L2.upd H t o) := fun x u e => by
  rw [upd_ne (ne_of_none e n)]
  exact a x u e
theorem Same.tup {K : PySem.W.Frag} {H H' : Hp} {a : Addr} {xs : List V} (e : Same H H') (h : SqT K H a xs) : SqT K H' a xs := by
  rcases h with (h | ⟨o, h⟩) | h
  · exact .inl (.inl (e _ _ h))
  · exact .inl (.inr ⟨o, e _ _ h⟩)
  · exact .inr h
theorem sqL {K : PySem.W.Frag} {H : Hp} {a : Addr} {xs : List V} (h : H a = some (.lst xs)) : SqL K H a xs := .inl (.inl h)
theorem sqT {K : PySem.W.Frag} {H : Hp} {a : Addr} {xs : List V} (h : H a = some (.tup xs)) : SqT K H a xs := .inl (.inl h)
theorem szl {n : Nat} (h : n ≤ 1000000) : n ≤ sizeLine := Nat.le_trans h (by decide)
theorem szt {n : Nat} (h : n < 1000000) : n < sizeLine := Nat.lt_of_lt_of_le h (by decide)
/-- the tape at t: its third number is at most c -/
def Tape (H : Hp) (t : Addr) (c : Nat) : Prop := ∃ x y n : Int, H t = some (.lst [.int x, .int y, .int n]) ∧ 0 ≤ x ∧ 0 ≤ y ∧ y < 2 ^ 62 ∧ 0 ≤ n ∧ n ≤ c
theorem Tape.mono {H : Hp} {t : Addr} {c d : Nat} (h : Tape H t c) (hc : c ≤ d) : Tape H t d := by
  obtain ⟨x, y, n, a, b, e, f, g, i⟩ := h
  exact ⟨x, y, n, a, b, e, f, g, by omega⟩
theorem Tape.same {H H' : Hp} {t : Addr} {c : Nat} (h : Tape H t c) (e : Same H H') : Tape H' t c := by
  obtain ⟨x, y, n, a, r⟩ := h
  exact ⟨x, y, n, e _ _ a, r⟩
theorem Tape.lst {H : Hp} {t : Addr} {c : Nat} (h : Tape H t c) : ∃ o, H t = some o := by
  obtain ⟨x, y, n, a, r⟩ := h
  exact ⟨_, a⟩
/-! ### draw -/
def spDraw : Sp := fun vs H Q _ => ∃ (t : Addr) (m : Int) (c : Nat), vs = [.ref t, .int m] ∧ Tape H t c ∧ c ≤ 100000000 ∧ 0 < m ∧ m ≤ 1000000 ∧
  ∀ (r : Nat) (H' : Hp), (r : Int) < m → But t H H' → Tape H' t (c + 1) → Q (.int r) H'
theorem scDraw : FnScope ["_law_tape", "_law_many", "_law_found", "_law_once", "_law_twice"] ["_law_tape", "_law_many"] (defScope sDraw) := ⟨rfl, rfl, rfl, by decide +kernel, rfl, by decide +kernel, by decide +kernel⟩
section
variable {P : Program} {w : World} {K : PySem.W.Frag} {mg : Str → Option Value} {base : Heap}
theorem ok_draw {f : Addr} {fd : FuncData} {k : Nat} (D : Df K mg "_law_draw" sDraw ["_law_tape", "_law_many"] f fd) : FnOk P w K mg base CX0 (k + 1) f fd ["_law_tape", "_law_many"] spDraw := by
  refine D.F.ok scDraw (fun vs H Q E h => ?_) (fun cdv A outer s H vs Q E hr h => ?_)
  · obtain ⟨t, m, c, rfl, _⟩ := h
    rfl
  · obtain ⟨t, m, c, rfl, ⟨x, y, n, ht, hx, hy, hy2, hn, hn2⟩, hc, hm, hm2, q⟩ := h
    refine ⟨_, pss_cons (ps_if (pt_cmpR op_gt (pe_ix ix_list (pv 0) pe_int (fun _ _ => rfl)) pe_int (nomark _))
        (pss_cons (ps_set (i := 2) scDraw.nd rfl (.inl rfl) (pe_op op_mod (pe_ix ix_list (pv 0) pe_int (fun _ _ => rfl)) (pv 1)))
        (pss_cons (ps_asg (pe_op op_fdiv (pe_ix ix_list (pv 0) pe_int (fun _ _ => rfl)) (pv 1)) (pg_sub (pv 0) pe_int set_list))
        (pss_one (ps_ret (pv 2))))) pss_nil)
      (pss_cons (ps_asg (pe_op op_add (pe_ix ix_list (pv 0) pe_int (fun _ _ => rfl)) pe_int) (pg_sub (pv 0) pe_int set_list))
      (pss_cons (ps_set (i := 3) scDraw.nd rfl (.inl rfl) (pe_op op_mod (pe_op op_pow (pe_op op_add (pe_ix ix_list (pv 0) pe_int (fun _ _ => rfl)) (pe_op op_mul pe_int (pe_ix ix_list (pv 0) pe_int (fun _ _ => rfl)))) pe_int) pe_int))
      (pss_cons (ps_set (i := 4) scDraw.nd rfl (.inl rfl) (pe_op op_mod (pe_op op_mul (pe_op op_add (pv 3) (pe_ix ix_list (pv 0) pe_int (fun _ _ => rfl))) (pe_op op_add (pe_op op_add (pe_op op_mod (pv 3) pe_int) pe_int) (pe_ix ix_list (pv 0) pe_int (fun _ _ => rfl)))) pe_int))
      (pss_one (ps_ret (pe_op op_mod (pe_op op_fdiv (pe_op op_mod (pe_op op_add (pe_op op_mul (pv 4) pe_int) (pv 3)) pe_int) pe_int) (pv 1))))))), ?_⟩
    have hL : SqL K H t [.int x, .int y, .int n] := sqL ht
    refine ⟨_, rfl, t, _, _, _, rfl, rfl, hL, atI_nat (j := 0) rfl, _, _, rfl, rfl, _, rfl, ite2 (fun e => ?_) (fun e => ?_)⟩
    · have e0 : 0 < x := of_decide_eq_true e
      refine ⟨_, rfl, t, _, _, _, rfl, rfl, hL, atI_nat (j := 0) rfl, _, rfl, _, _, rfl, rfl, hm, ?_⟩
      refine ⟨_, rfl, t, _, _, _, rfl, rfl, hL, atI_nat (j := 0) rfl, _, rfl, _, _, rfl, rfl, ⟨hm, by omega⟩, _, rfl, t, _, _, 0, rfl, rfl, ht, rfl, ?_⟩
      refine ⟨_, rfl, ?_⟩
      have h1 : 0 ≤ x % m := Int.emod_nonneg _ (by omega)
      have h2 : x % m < m := Int.emod_lt_of_pos _ hm
      have h3 : ((x % m).toNat : Int) = x % m := Int.toNat_of_nonneg h1
      have := q (x % m).toNat (upd H t (.lst [.int (x / m), .int y, .int n])) (by omega) But.upd ⟨x / m, y, n, upd_same, Int.ediv_nonneg hx (by omega), hy, hy2, hn, by omega⟩
      rw [h3] at this
      exact this
    · refine ⟨_, rfl, t, _, _, _, rfl, rfl, hL, atI_nat (j := 2) rfl, _, _, rfl, rfl, _, rfl, t, _, _, 2, rfl, rfl, ht, rfl, ?_⟩
      show tSeq _ _ _ _ (upd H t (.lst [.int x, .int y, .int (n + 1)]))
      have hL2 : SqL K (upd H t (.lst [.int x, .int y, .int (n + 1)])) t [.int x, .int y, .int (n + 1)] := sqL upd_same
      have hp : (y + 39373 * (n + 1)).natAbs < 2 ^ 64 := by omega
      refine ⟨_, rfl, t, _, _, _, rfl, rfl, hL2, atI_nat (j := 1) rfl, _, rfl, t, _, _, _, rfl, rfl, hL2, atI_nat (j := 2) rfl, _, _, rfl, rfl, .inl ⟨by decide, by decide⟩, _, _, rfl, rfl,
        _, _, rfl, rfl, ⟨by decide, by decide, hp⟩, _, _, rfl, rfl, (by decide : (0 : Int) < 2147483647), ?_⟩
      generalize hA : (y + 39373 * (n + 1)) ^ (5 : Int).toNat % 2147483647 = once
      have o1 : 0 ≤ once := by rw [← hA]; exact Int.emod_nonneg _ (by decide)
      have o2 : once < 2147483647 := by rw [← hA]; exact Int.emod_lt_of_pos _ (by decide)
      refine ⟨_, rfl, _, rfl, t, _, _, _, rfl, rfl, hL2, atI_nat (j := 2) rfl, _, _, rfl, rfl, _, rfl, _, _, rfl, rfl, (by decide : (0 : Int) < 40009), _, _, rfl, rfl, _, rfl, t, _, _, _, rfl, rfl, hL2, atI_nat (j := 2) rfl, _, _, rfl, rfl,
        _, _, rfl, rfl, .inl ⟨by omega, by omega⟩, _, _, rfl, rfl, (by decide : (0 : Int) < 2147483629), ?_⟩
      generalize hB : (once + (n + 1)) * (once % 40009 + 7 + (n + 1)) % 2147483629 = twice
      have t1 : 0 ≤ twice := by rw [← hB]; exact Int.emod_nonneg _ (by decide)
      have t2 : twice < 2147483629 := by rw [← hB]; exact Int.emod_lt_of_pos _ (by decide)
      refine ⟨_, rfl, _, _, rfl, rfl, .inl ⟨by omega, by omega⟩, _, rfl, _, _, rfl, rfl, _, _, rfl, rfl, (by decide : (0 : Int) < 2147483587), _, _, rfl, rfl, ⟨by decide, by decide⟩, _, rfl, _, _, rfl, rfl, hm, ?_⟩
      generalize hC : (twice * 48271 + once) % 2147483587 / 64 = d
      have h1 : 0 ≤ d % m := Int.emod_nonneg _ (by omega)
      have h2 : d % m < m := Int.emod_lt_of_pos _ hm
      have h3 : ((d % m).toNat : Int) = d % m := Int.toNat_of_nonneg h1
      have := q (d % m).toNat (upd H t (.lst [.int x, .int y, .int (n + 1)])) (by omega) But.upd ⟨x, y, n + 1, upd_same, hx, hy, hy2, by omega, by omega⟩
      rw [h3] at this
      subst hC
      subst hB
      subst hA
      exact this
/-! ### tape -/
def spTape (K : PySem.W.Frag) : Sp := fun vs H Q _ => ∃ (a : Addr) (ns : List Int) (k : Nat), vs = [.ref a, .int k] ∧ SqL K H a (ns.map V.int) ∧ k ≤ 100 ∧
  ∀ (p : Addr) (o : HO), H p = none → Tape (upd H p o) p 0 → Q (.ref p) (upd H p o)
theorem tape_ok {H : Hp} {p : Addr} {k : Nat} (hk : k ≤ 100) (cell : Int) : Tape (upd H p (.lst [.int ((if cell < 0 then -cell else cell) * (if decide ((10 : Int) ^ (18 : Int).toNat ≤ (if cell < 0 then -cell else cell)) then 1 else 0)), .int (cell % 2305843009213693951 + 39373 * (k : Int) + 17), .int 0])) p 0 := by
  refine ⟨_, _, _, upd_same, ?_, ?_, ?_, ?_, ?_⟩
  · have : 0 ≤ (if cell < 0 then -cell else cell) := by split <;> omega
    have h01 : ∀ b : Bool, 0 ≤ (if b = true then (1 : Int) else 0) := by decide
    exact Int.mul_nonneg this (h01 _)
  · have := Int.emod_nonneg cell (b := 2305843009213693951) (by decide)
    omega
  · have := Int.emod_lt_of_pos cell (b := 2305843009213693951) (by decide)
    omega
  · decide
  · decide
theorem b01 : ∀ b : Bool, -(2 ^ 64) < (if b = true then (1 : Int) else 0) ∧ (if b = true then (1 : Int) else 0) < 2 ^ 64 := by decide
theorem scTape : FnScope ["_law_script", "_law_k", "_law_cell"] ["_law_script", "_law_k"] (defScope sTape) := ⟨rfl, rfl, rfl, by decide +kernel, rfl, by decide +kernel, by decide +kernel⟩
theorem ok_tape {f : Addr} {fd : FuncData} {k : Nat} (D : Df K mg "_law_begun" sTape ["_law_script", "_law_k"] f fd) (B : Bi mg) : FnOk P w K mg base CX0 (k + 1) f fd ["_law_script", "_law_k"] (spTape K) := by
  refine D.F.ok scTape (fun vs H Q E h => ?_) (fun cdv A outer s H vs Q E hr h => ?_)
  · obtain ⟨a, ns, k, rfl, _⟩ := h
    rfl
  · obtain ⟨a, ns, k, rfl, hS, hk, q⟩ := h
    refine ⟨_, pss_cons (ps_set (i := 2) scTape.nd rfl (.inl rfl) (pe_ifExp (pt_cmpR op_lt (pv 1) (pe_callB call_len_seq (by rfl) B.len PySem.boot_len (pa_cons (pv 0) pa_nil)) (nomark _)) (pe_ix ix_list (pv 0) (pv 1) (fun _ _ => rfl)) pe_int))
      (pss_one (ps_ret (pe_lst (pa_cons (pe_op op_mul (pe_callB call_abs (by rfl) B.abs (by decide +kernel) (pa_cons (pv 2) pa_nil)) (pe_callTy call_int1 (by rfl) B.int PyProof.Rows.boot_int (pa_cons (pe_cmpR op_ge (pe_callB call_abs (by rfl) B.abs (by decide +kernel) (pa_cons (pv 2) pa_nil)) (pe_op op_pow pe_int pe_int) (nomark _)) pa_nil)))
        (pa_cons (pe_op op_add (pe_op op_add (pe_op op_mod (pv 2) pe_int) (pe_op op_mul pe_int (pv 1))) pe_int) (pa_cons pe_int pa_nil)))))), ?_⟩
    refine ⟨_, rfl, _, rfl, a, _, rfl, .inl hS, _, _, rfl, rfl, _, rfl, ite2 (fun e => ?_) (fun e => ?_)⟩
    · have e0 : (k : Int) < ((ns.map V.int).length : Int) := of_decide_eq_true e
      have e1 : k < ns.length := by rw [List.length_map] at e0; omega
      refine ⟨_, rfl, _, rfl, a, _, _, .int ns[k], rfl, rfl, hS, atI_nat (by rw [List.getElem?_map, List.getElem?_eq_getElem e1]; rfl), ?_⟩
      generalize ns[k] = cell
      refine ⟨_, rfl, _, rfl, _, rfl, _, rfl, _, _, rfl, rfl, ⟨by decide, by decide, by decide⟩, _, _, rfl, rfl, .inr ⟨_, rfl, _, _, rfl, rfl, .inr (b01 _), _, rfl, _, _, rfl, rfl, (by decide : (0 : Int) < 2305843009213693951), _, rfl, _, _, rfl, rfl, .inl ⟨by decide, by decide⟩, _, _, rfl, rfl, _, _, rfl, rfl, ?_⟩⟩
      exact ⟨szl (show 3 ≤ 1000000 by decide), fun p np => q p _ np (tape_ok hk cell)⟩
    · refine ⟨_, rfl, _, rfl, _, rfl, _, rfl, _, _, rfl, rfl, ⟨by decide, by decide, by decide⟩, _, _, rfl, rfl, .inr ⟨_, rfl, _, _, rfl, rfl, .inr (b01 _), _, rfl, _, _, rfl, rfl, (by decide : (0 : Int) < 2305843009213693951), _, rfl, _, _, rfl, rfl, .inl ⟨by decide, by decide⟩, _, _, rfl, rfl, _, _, rfl, rfl, ?_⟩⟩
      exact ⟨szl (show 3 ≤ 1000000 by decide), fun p np => q p _ np (tape_ok hk 0)⟩
end
end Gn
set_option Elab.async false
set_option linter.all false
set_option maxRecDepth 100000
set_option maxHeartbeats 4000000
namespace Gn
open PySem PySem.Spec PyProof.Rows L2
theorem Tape.but {H H' : Hp} {t a : Addr} {c : Nat} (h : Tape H t c) (e : But a H H') (n : t ≠ a) : Tape H' t c := by
  obtain ⟨x, y, z, q, r⟩ := h
  exact ⟨x, y, z, e _ _ n q, r⟩
theorem Tape.upd {H : Hp} {t p : Addr} {c : Nat} {o : HO} (h : Tape H t c) (n : H p = none) : Tape (L2.upd H p o) t c := h.same (new_same n)
theorem Tape.ne {H : Hp} {t p : Addr} {c : Nat} (h : Tape H t c) (n : H p = none) : p ≠ t := fun e => by
  obtain ⟨x, y, z, q, r⟩ := h
  rw [e, q] at n
  cases n
theorem at_lt {α : Type} {xs : List α} {r : Nat} (h : r < xs.length) : atI xs (r : Int) = some xs[r] := atI_nat (List.getElem?_eq_getElem h)
/-! ### lists of numbers, lists of these -/
def iv (n : Nat) : V := .int (n : Int)
def NL (K : PySem.W.Frag) (H : Hp) (p : Addr) (xss : List (List Nat)) : Prop := ∃ ps : List Addr, SqL K H p (ps.map V.ref) ∧ Paired (fun q xs => SqL K H q (xs.map iv)) ps xss
theorem pd_mono {α β : Type} {F G : α → β → Prop} : ∀ {l : List α} {m : List β}, Paired F l m → (∀ a b, F a b → G a b) → Paired G l m
  | _, _, .nil, _ => .nil
  | _, _, .cons h t, g => .cons (g _ _ h) (pd_mono t g)
theorem pd_len {α β : Type} {F : α → β → Prop} : ∀ {l : List α} {m : List β}, Paired F l m → l.length = m.length
  | _, _, .nil => rfl
  | _, _, .cons h t => by rw [List.length_cons, List.length_cons, pd_len t]
theorem pd_at {α β : Type} {F : α → β → Prop} : ∀ {l : List α} {m : List β} {j : Nat} {b : β}, Paired F l m → m[j]? = some b → ∃ a, l[j]? = some a ∧ F a b
  | _, _, _, _, .nil, e => by simp at e
  | _, _, 0, b, .cons (a := a) h t, e => by
    have e' := Option.some.inj e
    subst e'
    exact ⟨a, rfl, h⟩
  | _, _, j + 1, b, .cons h t, e => by
    obtain ⟨a, h1, h2⟩ := pd_at (j := j) t (by simpa using e)
    exact ⟨a, by simpa using h1, h2⟩
theorem pd_snoc {α β : Type} {F : α → β → Prop} {a : α} {b : β} {l : List α} {m : List β} (h : Paired F l m) (g : F a b) : Paired F (l ++ [a]) (m ++ [b]) := Paired.snoc h g
theorem seq_upd {K : PySem.W.Frag} {H : Hp} {a b : Addr} {xs : List V} {o : HO} (h : SqL K H a xs) (n : a ≠ b) : SqL K (upd H b o) a xs := by
  rcases h with (h | ⟨u, h⟩) | h
  · exact .inl (.inl (by rw [upd_ne n]; exact h))
  · exact .inl (.inr ⟨u, by rw [upd_ne n]; exact h⟩)
  · exact .inr h
theorem NL.same {K : PySem.W.Frag} {H H' : Hp} {p : Addr} {xss : List (List Nat)} (h : NL K H p xss) (e : Same H H') : NL K H' p xss := by
  obtain ⟨ps, h1, h2⟩ := h
  exact ⟨ps, e.seq h1, pd_mono h2 fun a b q => e.seq q⟩
theorem NL.at {K : PySem.W.Frag} {H : Hp} {p : Addr} {xss : List (List Nat)} (h : NL K H p xss) {j : Nat} {xs : List Nat} (e : xss[j]? = some xs) :
    ∃ (ys : List V) (q : Addr), SqL K H p ys ∧ ys.length = xss.length ∧ atI ys (j : Int) = some (.ref q) ∧ SqL K H q (xs.map iv) := by
  obtain ⟨ps, h1, h2⟩ := h
  obtain ⟨q, h3, h4⟩ := pd_at h2 e
  exact ⟨_, q, h1, by rw [List.length_map, pd_len h2], atI_nat (by rw [List.getElem?_map, h3]; rfl), h4⟩
theorem NL.len {K : PySem.W.Frag} {H : Hp} {p : Addr} {xss : List (List Nat)} (h : NL K H p xss) : ∃ ys : List V, SqL K H p ys ∧ ys.length = xss.length := by
  obtain ⟨ps, h1, h2⟩ := h
  exact ⟨_, h1, by rw [List.length_map, pd_len h2]⟩
theorem filt_one {α : Type} (p : α → Bool) (x : α) : [x].filter p = if p x = true then [x] else [] := by
  cases h : p x <;> simp [h]
theorem filt_succ (p : Nat → Bool) (j : Nat) : (List.range (j + 1)).filter p = (List.range j).filter p ++ (if p j = true then [j] else []) := by
  rw [List.range_succ, List.filter_append, filt_one]
theorem flat_iv (xs : List Nat) : (xs.map iv).all flatV = true := by
  rw [List.all_map]
  exact List.all_eq_true.mpr fun _ _ => rfl
theorem inV_iv (b : Nat) (xs : List Nat) : inV (iv b) (xs.map iv) = decide (b ∈ xs) := by
  unfold inV
  rw [List.any_map, Bool.eq_iff_iff, List.any_eq_true, decide_eq_true_eq]
  constructor
  · rintro ⟨x, hx, e⟩
    have e2 : ((x : Int) == (b : Int)) = true := e
    have e3 : (x : Int) = (b : Int) := eq_of_beq e2
    have e4 : x = b := by omega
    rw [← e4]; exact hx
  · intro h
    exact ⟨b, h, (beq_self_eq_true (b : Int) : ((b : Int) == (b : Int)) = true)⟩
/-- what is new in H' -/
def newOf (H H' : Hp) : Hp := fun a => if (H a).isNone = true then H' a else none
theorem new_at {H H' : Hp} {a : Addr} {o : HO} (n : H a = none) (e : H' a = some o) : newOf H H' a = some o := by
  unfold newOf
  rw [n]
  exact e
theorem new_of {H H' : Hp} {a : Addr} {o : HO} (e : newOf H H' a = some o) : H a = none ∧ H' a = some o := by
  unfold newOf at e
  cases h : H a with
  | none => rw [h] at e; exact ⟨rfl, e⟩
  | some u => rw [h] at e; cases e
theorem new_sub (H H' : Hp) : Same (newOf H H') H' := fun _ _ e => (new_of e).2
/-! ### the text's comprehensions -/
def valE : Stmt → Expr
  | .Return (some e) _ => e
  | .Assign _ e _ => e
  | _ => .Constant .none 0 ⟨0, 0, 0, 0⟩
def lcS : Expr → Scope
  | .ListComp _ _ sc _ => sc
  | _ => { kind := .function, names := [], isGenerator := false, isCoroutine := false }
def nthS (l : List Stmt) (i : Nat) : Stmt := l.getD i (.Pass ⟨0, 0, 0, 0⟩)
/-! ### readings by name -/
abbrev rLen (K : PySem.W.Frag) : List V → Hp → VK → Prop := fun xs H Q => ∃ p ys, xs = [.ref p] ∧ (SqL K H p ys ∨ SqT K H p ys) ∧ Q (.int ys.length) H
abbrev tLen (K : PySem.W.Frag) (t : TE) : TE := tCB (rLen K) (tCons t tNil)
abbrev tIxL (K : PySem.W.Frag) (a b : TE) : TE := tOp (rIxL K) a b
abbrev tIxT (K : PySem.W.Frag) (a b : TE) : TE := tOp (rIxT K) a b
abbrev tIn (K : PySem.W.Frag) (a b : TE) : TT := tTest (tOp (rIn K false) a b)
abbrev tNotIn (K : PySem.W.Frag) (a b : TE) : TT := tTest (tOp (rIn K true) a b)
abbrev iRange (t : TE) : TI := iRng1 (tCons t tNil)
theorem pd_at2 {α β : Type} {F : α → β → Prop} : ∀ {l : List α} {m : List β} {j : Nat} {a : α}, Paired F l m → l[j]? = some a → ∃ b, m[j]? = some b ∧ F a b
  | _, _, _, _, .nil, e => by simp at e
  | _, _, 0, a, .cons (b := b) h t, e => by
    have e' := Option.some.inj e
    subst e'
    exact ⟨b, rfl, h⟩
  | _, _, j + 1, a, .cons h t, e => by
    obtain ⟨b, h1, h2⟩ := pd_at2 (j := j) t (by simpa using e)
    exact ⟨b, by simpa using h1, h2⟩
theorem gd {α : Type} {l : List α} {j : Nat} {d a : α} (h : l[j]? = some a) : l.getD j d = a := by
  rw [List.getD_eq_getElem?_getD, h]
  rfl
theorem gdl {α : Type} {l : List α} {j : Nat} {d : α} (h : j < l.length) : l[j]? = some (l.getD j d) := by
  rw [List.getD_eq_getElem?_getD, List.getElem?_eq_getElem h]
  rfl
/-! ### rows -/
inductive Bk | sum | less | times | same | below
  deriving DecidableEq
def Bk.w : Bk → Str
  | .sum => "sum" | .less => "less" | .times => "times" | .same => "same" | .below => "below"
inductive Rw
  | take (i : Nat) | num (n : Int) | bin (b : Bk) (x y : Nat) | pick (x : Nat) (ps : List Nat) | meet (ps : List Nat) | tell (x : Nat) | look (rs : List Nat) (x : Nat) | lay (rs : List Nat) (x y : Nat)
def Rw.w : Rw → Str
  | .take _ => "take" | .num _ => "num" | .bin b _ _ => b.w | .pick _ _ => "pick" | .meet _ => "meet" | .tell _ => "tell" | .look _ _ => "look" | .lay _ _ _ => "lay"
def Rw.worthy : Rw → Bool
  | .tell _ => false
  | .lay _ _ _ => false
  | _ => true
def Rest (K : PySem.W.Frag) (H : Hp) : Rw → List V → Prop
  | .take i, xs => xs = [iv i]
  | .num n, xs => xs = [.int n]
  | .bin _ x y, xs => xs = [iv x, iv y]
  | .pick x ps, xs => ∃ q, xs = [iv x, .ref q] ∧ SqT K H q (ps.map iv)
  | .meet ps, xs => ∃ q, xs = [.ref q] ∧ SqT K H q (ps.map iv)
  | .tell x, xs => xs = [iv x]
  | .look rs x, xs => ∃ q, xs = [.ref q, iv x] ∧ SqT K H q (rs.map iv)
  | .lay rs x y, xs => ∃ q, xs = [.ref q, iv x, iv y] ∧ SqT K H q (rs.map iv)
def RowAt (K : PySem.W.Frag) (H : Hp) (v : V) (r : Rw) : Prop := ∃ p xs, v = .ref p ∧ SqT K H p (.str r.w :: xs) ∧ Rest K H r xs
theorem Rest.same {K : PySem.W.Frag} {H H' : Hp} {r : Rw} {xs : List V} (h : Rest K H r xs) (e : Same H H') : Rest K H' r xs := by
  cases r with
  | pick x ps =>
    obtain ⟨q, h1, h2⟩ := h
    exact ⟨q, h1, Same.tup e h2⟩
  | meet ps =>
    obtain ⟨q, h1, h2⟩ := h
    exact ⟨q, h1, Same.tup e h2⟩
  | look rs x =>
    obtain ⟨q, h1, h2⟩ := h
    exact ⟨q, h1, Same.tup e h2⟩
  | lay rs x y =>
    obtain ⟨q, h1, h2⟩ := h
    exact ⟨q, h1, Same.tup e h2⟩
  | _ => exact h
theorem RowAt.same {K : PySem.W.Frag} {H H' : Hp} {r : Rw} {v : V} (h : RowAt K H v r) (e : Same H H') : RowAt K H' v r := by
  obtain ⟨p, xs, h1, h2, h3⟩ := h
  exact ⟨p, xs, h1, Same.tup e h2, h3.same e⟩
theorem worthy_in (r : Rw) : (!inV (.str r.w) [.str "tell", .str "lay"]) = r.worthy := by
  cases r with
  | bin b x y => cases b <;> rfl
  | _ => (first | rfl | decide)
/-! ### the state -/
def frz (M : List Addr) (H : Hp) : Hp := fun a => if a ∈ M then none else H a
theorem frz_same (M : List Addr) (H : Hp) : Same (frz M H) H := fun a o e => by
  unfold frz at e
  by_cases h : a ∈ M
  · rw [if_pos h] at e; cases e
  · rw [if_neg h] at e; exact e
theorem frz_at {M : List Addr} {H : Hp} {a : Addr} {o : HO} (h : H a = some o) (n : a ∉ M) : frz M H a = some o := by
  unfold frz
  rw [if_neg n]
  exact h
theorem frz_mem {M : List Addr} {H : Hp} {a : Addr} {o : HO} (h : frz M H a = some o) : a ∉ M := fun n => by
  unfold frz at h
  rw [if_pos n] at h
  cases h
/-- but for what is in M -/
def Bm (M : List Addr) (H H' : Hp) : Prop := ∀ a o, a ∉ M → H a = some o → H' a = some o
theorem Bm.refl (M : List Addr) (H : Hp) : Bm M H H := fun _ _ _ h => h
theorem Bm.trans {M : List Addr} {H H1 H2 : Hp} (a : Bm M H H1) (b : Bm M H1 H2) : Bm M H H2 := fun x o n h => b x o n (a x o n h)
theorem Bm.of_but {M : List Addr} {t : Addr} {H H1 : Hp} (a : But t H H1) (h : t ∈ M) : Bm M H H1 := fun x o n e => a x o (fun z => n (z ▸ h)) e
theorem Bm.of_same {M : List Addr} {H H1 : Hp} (a : Same H H1) : Bm M H H1 := fun x o n e => a x o e
theorem Bm.frz {M : List Addr} {H H' : Hp} (b : Bm M H H') : Same (frz M H) (frz M H') := fun a o e =>
  frz_at (b a o (frz_mem e) (frz_same M H a o e)) (frz_mem e)
theorem tup_frz {K : PySem.W.Frag} {H : Hp} {t a : Addr} {xs ys : List V} (h : SqT K H a xs) (e : H t = some (.lst ys)) : SqT K (frz [t] H) a xs := by
  rcases h with (h | ⟨u, h⟩) | h
  · exact .inl (.inl (frz_at h (by simpa using ne_of h e (by intro z; cases z))))
  · exact .inl (.inr ⟨u, frz_at h (by simpa using ne_of h e (by intro z; cases z))⟩)
  · exact .inr h
theorem pd_app {α β : Type} {F : α → β → Prop} : ∀ {l l' : List α} {m m' : List β}, Paired F l m → Paired F l' m' → Paired F (l ++ l') (m ++ m')
  | _, _, _, _, .nil, h => h
  | _, _, _, _, .cons h t, g => .cons h (pd_app t g)
theorem it_core {J : It} {n : Nat} {G : Hp → Prop} {Y : Nat → Hp → V → Hp → Prop} (w : Walk J n G Y) {Body : (Hp → Prop) → V → Hp → Prop} {H0 : Hp} {Qd : Hp → Prop} (Pv : Nat → Hp → Prop) (h0 : Pv 0 H0) (hG : ∀ i H, i ≤ n → Pv i H → G H)
    (hs : ∀ i x H H', i < n → Pv i H → Y i H x H' → Body (Pv (i + 1)) x H') (hd : ∀ H, Pv n H → Qd H) :
    ∃ W : Nat → Nat → Hp → Prop, (∃ m, W 0 m H0) ∧ ∀ i m H, W i m H → (J.stop i H ∧ Qd H) ∨ (J.go i H ∧ ∃ Nx : Hp → Prop, (∀ H', Nx H' → ∃ m', m' < m ∧ W (i + 1) m' H') ∧ ∀ x H', J.yld i H x H' → Body Nx x H') := by
  refine ⟨fun i m H => m = n - i ∧ i ≤ n ∧ Pv i H, ⟨n, by simp, Nat.zero_le _, h0⟩, ?_⟩
  rintro i m H ⟨rfl, hi, p⟩
  have q := hG i H hi p
  by_cases hlt : i < n
  · exact .inr ⟨w.goes i H hlt q, Pv (i + 1), fun H' p' => ⟨n - (i + 1), by omega, rfl, hlt, p'⟩, fun x H' y => hs i x H H' hlt p (w.yields i H x H' hlt q y)⟩
  · have e : i = n := by omega
    subst e
    exact .inl ⟨w.stops H q, hd H p⟩
end Gn
set_option Elab.async false
set_option linter.all false
set_option maxRecDepth 100000
set_option maxHeartbeats 4000000
namespace Gn
open PySem PySem.Spec PyProof.Rows L2
/-! ### the six shapes, and what is reached without one block -/
def NX : List (List (List Nat)) := [[[]], [[1, 2], [3], [3], []], [[1], [2, 3], [1], []], [[1, 2], [2], [1, 3], []], [[1], [2, 5], [3, 4], [4], [1], []], [[1], [2, 6], [3], [4, 5], [3], [1], []]]
def rst (nx : List (List Nat)) (w : Nat) (p : List Nat × List Nat) : List Nat × List Nat :=
  match p.2.getLast? with
  | none => p
  | some b => if b ≠ w ∧ b ∉ p.1 then (p.1 ++ [b], p.2.dropLast ++ nx.getD b []) else (p.1, p.2.dropLast)
def rit (nx : List (List Nat)) (w : Nat) : Nat → List Nat × List Nat
  | 0 => ([], [0])
  | n + 1 => rst nx w (rit nx w n)
def reachF (nx : List (List Nat)) (w : Nat) : List Nat := (rit nx w 20).1
theorem rit_end : ∀ nx ∈ NX, ∀ w, w < 7 → (rit nx w 20).2 = [] := by decide +kernel
theorem rit_bd : ∀ nx ∈ NX, ∀ w, w < 7 → ∀ i, i < 21 → (∀ y ∈ (rit nx w i).2, y < nx.length) ∧ (rit nx w i).2.length ≤ 20 ∧ (rit nx w i).1.length ≤ 20 := by decide +kernel
theorem nx_bd : ∀ nx ∈ NX, 1 ≤ nx.length ∧ nx.length ≤ 7 ∧ ∀ xs ∈ nx, xs.length ≤ 2 ∧ ∀ y ∈ xs, 1 ≤ y ∧ y < nx.length := by decide +kernel
theorem reach0 : ∀ nx ∈ NX, reachF nx 0 = [] := by decide +kernel
theorem rit_done {nx : List (List Nat)} {w i : Nat} (h : (rit nx w i).2 = []) : ∀ n, rit nx w (i + n) = rit nx w i
  | 0 => rfl
  | n + 1 => by
    show rst nx w (rit nx w (i + n)) = _
    rw [rit_done h n]
    unfold rst
    rw [h]
    rfl
theorem rit_reach {nx : List (List Nat)} {w i : Nat} (hi : i ≤ 20) (h : (rit nx w i).2 = []) : (rit nx w i).1 = reachF nx w := by
  have := rit_done h (20 - i)
  rw [show i + (20 - i) = 20 by omega] at this
  unfold reachF
  rw [this]
/-- the rows that stand at a block's end -/
def standL (nx : List (List Nat)) (blocks : List Nat) (rows : List Rw) (b : Nat) : List Nat :=
  ((List.range blocks.length).filter fun k => !decide (b ∈ reachF nx (blocks.getD k 0))).filter fun k => (rows.getD k (.take 0)).worthy
def leadsF (nx : List (List Nat)) (b : Nat) : List Nat := (List.range nx.length).filter fun l => decide (b ∈ nx.getD l [])
theorem stand_mem {nx : List (List Nat)} {blocks : List Nat} {rows : List Rw} {b k : Nat} : k ∈ standL nx blocks rows b ↔ k < blocks.length ∧ b ∉ reachF nx (blocks.getD k 0) ∧ (rows.getD k (.take 0)).worthy = true := by
  unfold standL
  rw [List.mem_filter, List.mem_filter, List.mem_range]
  simp only [Bool.not_eq_true', decide_eq_false_iff_not]
  exact ⟨fun ⟨⟨a, b⟩, c⟩ => ⟨a, b, c⟩, fun ⟨a, b, c⟩ => ⟨⟨a, b⟩, c⟩⟩
theorem stand_len {nx : List (List Nat)} {blocks : List Nat} {rows : List Rw} {b : Nat} : (standL nx blocks rows b).length ≤ blocks.length := by
  unfold standL
  refine Nat.le_trans (List.length_filter_le _ _) (Nat.le_trans (List.length_filter_le _ _) ?_)
  rw [List.length_range]
  exact Nat.le_refl _
/-- what a row names has P; its own numbers are within their bounds -/
def RwA (P : Nat → Prop) : Rw → Prop
  | .take i => i < 6
  | .num n => -10 ^ 12 ≤ n ∧ n ≤ 10 ^ 12
  | .bin _ x y => P x ∧ P y
  | .pick x ps => P x ∧ (∀ y ∈ ps, P y) ∧ ps ≠ [] ∧ ps.length ≤ 6
  | .meet ps => (∀ y ∈ ps, P y) ∧ ps ≠ [] ∧ ps.length ≤ 7
  | .tell x => P x
  | .look rs x => P x ∧ rs.Nodup ∧ (∀ y ∈ rs, y < 6) ∧ rs ≠ [] ∧ rs.length ≤ 4
  | .lay rs x y => P x ∧ P y ∧ rs.Nodup ∧ (∀ y ∈ rs, y < 6) ∧ rs ≠ [] ∧ rs.length ≤ 4
theorem RwA.mono {P Q : Nat → Prop} {r : Rw} (h : RwA P r) (e : ∀ y, P y → Q y) : RwA Q r := by
  cases r with
  | take i => exact h
  | num n => exact h
  | bin b x y => exact ⟨e _ h.1, e _ h.2⟩
  | pick x ps => exact ⟨e _ h.1, fun y hy => e _ (h.2.1 y hy), h.2.2⟩
  | meet ps => exact ⟨fun y hy => e _ (h.1 y hy), h.2⟩
  | tell x => exact e _ h
  | look rs x => exact ⟨e _ h.1, h.2⟩
  | lay rs x y => exact ⟨e _ h.1, e _ h.2.1, h.2.2⟩
end Gn
set_option Elab.async false
set_option linter.all false
set_option maxRecDepth 100000
set_option maxHeartbeats 4000000
namespace Gn
open PySem PySem.Spec PyProof.Rows L2
/-! ### rows as data -/
def nd (n : Nat) : PyData := .int (n : Int)
def Rw.data : Rw → PyData
  | .take i => .tuple [.str "take", nd i]
  | .num n => .tuple [.str "num", .int n]
  | .bin b x y => .tuple [.str b.w, nd x, nd y]
  | .pick x ps => .tuple [.str "pick", nd x, .tuple (ps.map nd)]
  | .meet ps => .tuple [.str "meet", .tuple (ps.map nd)]
  | .tell x => .tuple [.str "tell", nd x]
  | .look rs x => .tuple [.str "look", .tuple (rs.map nd), nd x]
  | .lay rs x y => .tuple [.str "lay", .tuple (rs.map nd), nd x, nd y]
theorem dp_nats {K : PySem.W.Frag} {H : Hp} : ∀ ns : List Nat, DpAll K H (ns.map iv) (ns.map nd)
  | [] => .nil
  | n :: ns => .cons (.int _) (dp_nats ns)
theorem RowAt.dp {K : PySem.W.Frag} {H : Hp} {v : V} {r : Rw} (h : RowAt K H v r) : Dp K H v r.data := by
  obtain ⟨p, xs, rfl, h1, h2⟩ := h
  cases r with
  | take i => cases h2; exact .tup h1 (.cons (.str _) (.cons (.int _) .nil))
  | num n => cases h2; exact .tup h1 (.cons (.str _) (.cons (.int _) .nil))
  | bin b x y => cases h2; exact .tup h1 (.cons (.str _) (.cons (.int _) (.cons (.int _) .nil)))
  | pick x ps =>
    obtain ⟨q, rfl, h3⟩ := h2
    exact .tup h1 (.cons (.str _) (.cons (.int _) (.cons (.tup h3 (dp_nats ps)) .nil)))
  | meet ps =>
    obtain ⟨q, rfl, h3⟩ := h2
    exact .tup h1 (.cons (.str _) (.cons (.tup h3 (dp_nats ps)) .nil))
  | tell x => cases h2; exact .tup h1 (.cons (.str _) (.cons (.int _) .nil))
  | look rs x =>
    obtain ⟨q, rfl, h3⟩ := h2
    exact .tup h1 (.cons (.str _) (.cons (.tup h3 (dp_nats rs)) (.cons (.int _) .nil)))
  | lay rs x y =>
    obtain ⟨q, rfl, h3⟩ := h2
    exact .tup h1 (.cons (.str _) (.cons (.tup h3 (dp_nats rs)) (.cons (.int _) (.cons (.int _) .nil))))
theorem rows_dp {K : PySem.W.Frag} {H : Hp} : ∀ {vs : List V} {rs : List Rw}, Paired (RowAt K H) vs rs → DpAll K H vs (rs.map Rw.data)
  | _, _, .nil => .nil
  | _, _, .cons h t => .cons h.dp (rows_dp t)
theorem lay_nats : ∀ ns : List Nat, PyData.canLayAll0 (ns.map nd) = true
  | [] => by simp only [List.map_nil, PyData.canLayAll0]
  | n :: ns => by
    rw [List.map_cons]
    simp only [PyData.canLayAll0, nd, PyData.canLay0, lay_nats ns, Bool.and_self]
theorem lay_row (r : Rw) : r.data.canLay0 = true := by
  cases r with
  | bin b x y => cases b <;> (simp only [Rw.data, Bk.w, nd, PyData.canLay0, PyData.canLayAll0, Bool.and_true, Bool.true_and]; decide +kernel)
  | pick x ps => simp only [Rw.data, nd, PyData.canLay0, PyData.canLayAll0, lay_nats, Bool.and_true, Bool.true_and]; decide +kernel
  | meet ps => simp only [Rw.data, nd, PyData.canLay0, PyData.canLayAll0, lay_nats, Bool.and_true, Bool.true_and]; decide +kernel
  | look rs x => simp only [Rw.data, nd, PyData.canLay0, PyData.canLayAll0, lay_nats, Bool.and_true, Bool.true_and]; decide +kernel
  | lay rs x y => simp only [Rw.data, nd, PyData.canLay0, PyData.canLayAll0, lay_nats, Bool.and_true, Bool.true_and]; decide +kernel
  | _ => simp only [Rw.data, nd, PyData.canLay0, PyData.canLayAll0, Bool.and_true, Bool.true_and]; decide +kernel
theorem lay_rows : ∀ rs : List Rw, PyData.canLayAll0 (rs.map Rw.data) = true
  | [] => by simp only [List.map_nil, PyData.canLayAll0]
  | r :: rs => by
    rw [List.map_cons]
    simp only [PyData.canLayAll0, lay_row r, lay_rows rs, Bool.and_self]
theorem dep_nats : ∀ ns : List Nat, PyData.depthAll (ns.map nd) ≤ 1
  | [] => by simp [PyData.depthAll]
  | n :: ns => by
    have := dep_nats ns
    rw [List.map_cons]
    simp only [PyData.depthAll, nd, PyData.depth]
    omega
theorem dep_row (r : Rw) : r.data.depth ≤ 4 := by
  cases r with
  | pick x ps =>
    have := dep_nats ps
    simp only [Rw.data, nd, PyData.depth, PyData.depthAll] at *
    omega
  | meet ps =>
    have := dep_nats ps
    simp only [Rw.data, nd, PyData.depth, PyData.depthAll] at *
    omega
  | look rs x =>
    have := dep_nats rs
    simp only [Rw.data, nd, PyData.depth, PyData.depthAll] at *
    omega
  | lay rs x y =>
    have := dep_nats rs
    simp only [Rw.data, nd, PyData.depth, PyData.depthAll] at *
    omega
  | _ => simp [Rw.data, nd, PyData.depth, PyData.depthAll]
theorem dep_rows : ∀ rs : List Rw, PyData.depthAll (rs.map Rw.data) ≤ 4
  | [] => by simp [PyData.depthAll]
  | r :: rs => by
    have := dep_rows rs
    have := dep_row r
    rw [List.map_cons]
    simp only [PyData.depthAll]
    omega
theorem sh_rows (rs : List Rw) : SeqAt.shaped (.list (rs.map Rw.data)) = true := by
  unfold SeqAt.shaped
  have h1 : (PyData.list (rs.map Rw.data)).canLay0 = true := by simp only [PyData.canLay0, lay_rows rs]
  have h2 : (PyData.list (rs.map Rw.data)).depth ≤ 64 := by
    have := dep_rows rs
    simp only [PyData.depth]
    omega
  rw [h1, decide_eq_true h2]
  rfl
theorem sh_nil : SeqAt.shaped (.list []) = true := sh_rows []
theorem sh_nats (ns : List Nat) : SeqAt.shaped (.list (ns.map nd)) = true := by
  unfold SeqAt.shaped
  have h1 : (PyData.list (ns.map nd)).canLay0 = true := by simp only [PyData.canLay0, lay_nats ns]
  have h2 : (PyData.list (ns.map nd)).depth ≤ 64 := by
    have := dep_nats ns
    simp only [PyData.depth]
    omega
  rw [h1, decide_eq_true h2]
  rfl
theorem eqv_nil {ds : List PyData} : PyData.eqv (.list ds) (.list []) = ds.isEmpty := by
  cases ds with
  | nil => simp only [PyData.eqv, PyData.eqvAll, List.isEmpty_nil]
  | cons d ds => simp only [PyData.eqv, PyData.eqvAll, List.isEmpty_cons]
end Gn
set_option Elab.async false
set_option linter.all false
set_option maxRecDepth 100000
set_option maxHeartbeats 4000000
namespace Gn
open PySem PySem.Spec PyProof.Rows L2
theorem shp_nats (ns : List Nat) : SeqAt.shaped (.list (ns.map nd)) = true := by
  have hd : PyData.depthAll (ns.map nd) ≤ 1 := by
    induction ns with
    | nil => simp [PyData.depthAll]
    | cons a ns ih =>
      rw [List.map_cons]
      simp only [PyData.depthAll, nd, PyData.depth] at *
      omega
  unfold SeqAt.shaped
  have h1 : PyData.canLay0 (.list (ns.map nd)) = true := by simp only [PyData.canLay0, lay_nats]
  have h2 : (PyData.list (ns.map nd)).depth ≤ 64 := by simp only [PyData.depth]; omega
  rw [h1, decide_eq_true h2]
  rfl
theorem neq_nil (ns : List Nat) : (!PyData.eqv (.list (ns.map nd)) (.list [])) = !ns.isEmpty := by
  cases ns with
  | nil => decide +kernel
  | cons a ns => rfl
/-! ### lists of lists of numbers, tracked -/
def NR (H : Hp) (p : Addr) (xss : List (List Nat)) : Prop := ∃ ps : List Addr, H p = some (.lst (ps.map V.ref)) ∧ Paired (fun q xs => H q = some (.lst (xs.map iv))) ps xss
theorem NR.same {H H' : Hp} {p : Addr} {xss : List (List Nat)} (h : NR H p xss) (e : Same H H') : NR H' p xss := by
  obtain ⟨ps, h1, h2⟩ := h
  exact ⟨ps, e _ _ h1, pd_mono h2 fun a b q => e _ _ q⟩
theorem NR.at {H : Hp} {p : Addr} {xss : List (List Nat)} (h : NR H p xss) {j : Nat} {xs : List Nat} (e : xss[j]? = some xs) :
    ∃ (ps : List Addr) (q : Addr), H p = some (.lst (ps.map V.ref)) ∧ ps.length = xss.length ∧ atI (ps.map V.ref) (j : Int) = some (.ref q) ∧ H q = some (.lst (xs.map iv)) := by
  obtain ⟨ps, h1, h2⟩ := h
  obtain ⟨q, h3, h4⟩ := pd_at h2 e
  exact ⟨_, q, h1, pd_len h2, atI_nat (by rw [List.getElem?_map, h3]; rfl), h4⟩
/-! ### reached -/
def kvOf (f : List Nat) : List (Key × V) := f.map fun b : Nat => (.inl (b : Int), .bl true)
theorem valV_kv (f : List Nat) (b : Nat) : (valV (kvOf f) (Sum.inl (b : Int))).isSome = decide (b ∈ f) := by
  induction f with
  | nil => rfl
  | cons a f ih =>
    have e : kvOf (a :: f) = (Sum.inl (a : Int), .bl true) :: kvOf f := rfl
    rw [e]
    by_cases h : a = b
    · subst h
      rw [valV_pos rfl]
      simp
    · rw [valV_neg (by intro z; have := Sum.inl.inj z; omega), ih]
      simp [List.mem_cons, Ne.symm h]
theorem put_kv {f : List Nat} {b : Nat} (h : b ∉ f) : putK (kvOf f) (Sum.inl (b : Int)) (.bl true) = kvOf (f ++ [b]) := by
  unfold putK
  have : (kvOf f).any (fun kv => decide (kv.1 = Sum.inl (b : Int))) = false := by
    rw [List.any_eq_false]
    intro x hx
    obtain ⟨y, hy, rfl⟩ := List.mem_map.mp hx
    simp only [decide_eq_true_eq]
    intro z
    have := Sum.inl.inj z
    exact h (by have e : y = b := by omega
                rw [← e]; exact hy)
  rw [this, if_neg (by simp)]
  unfold kvOf
  rw [List.map_append]
  rfl
def spReached (K : PySem.W.Frag) : Sp := fun vs H Q _ => ∃ (na : Addr) (nx : List (List Nat)) (w : Nat), vs = [.ref na, iv w] ∧ NR H na nx ∧ nx ∈ NX ∧ w < 7 ∧
  ∀ (D : Addr) (H' : Hp), H D = none → Same H H' → H' D = some (.dK (kvOf (reachF nx w))) → Q (.ref D) H'
abbrev nReached : List Str := ["_law_nexts_here", "_law_without", "_law_found", "_law_waiting", "_law_block"]
theorem scReached : FnScope nReached ["_law_nexts_here", "_law_without"] (defScope sReached) := ⟨rfl, rfl, rfl, by decide +kernel, rfl, by decide +kernel, by decide +kernel⟩
section
variable {P : Program} {w : World} {K : PySem.W.Frag} {mg : Str → Option Value} {base : Heap}
theorem ok_reached {f : Addr} {fd : FuncData} {k : Nat} (D : Df K mg "_law_reached" sReached ["_law_nexts_here", "_law_without"] f fd) : FnOk P w K mg base CX0 (k + 1) f fd ["_law_nexts_here", "_law_without"] (spReached K) := by
  refine D.F.ok scReached (fun vs H Q E h => ?_) (fun cdv A outer s H vs Q E hr h => ?_)
  · obtain ⟨na, nx, w, rfl, _⟩ := h
    rfl
  · obtain ⟨na, nx, wo, rfl, hN, hx, hw, q⟩ := h
    have hu := hu_of hr
    refine ⟨_, pss_cons (ps_par (i := 2) (j := 3) (by rfl) scReached.nd rfl rfl (by decide) rfl rfl (pa_cons pe_dnewK (pa_cons (pe_lst (pa_cons pe_int pa_nil)) pa_nil)) (by rfl))
      (pss_cons (ps_while PassesOwn.never (pt_cmpR (op_neD hr.units) (pv 3) (pe_lst pa_nil) (nomark _))
        (pss_cons (ps_set (i := 4) scReached.nd rfl (.inl rfl) (pe_bm0 PySem.F.plainAttrs_list PySem.F.slot_list_pop PySem.F.type_list_pop mt_pop (pv 3)))
        (pss_one (ps_if (pw_and (pt_cmpR op_ne (pv 4) (pv 1) (nomark _)) (pw_and1 (pt_cmp (pc_dnotin hu (pv 4) (pv 2)) rfl))).pt
          (pss_cons (ps_dput hu (pv 2) (pv 4) pe_bl (by rfl))
          (pss_one (ps_expr (pe_bm PySem.F.plainAttrs_list PySem.F.slot_list_extend PySem.F.type_list_extend mt_extend (pv 3) (pa_cons (pe_ix ix_list (pv 0) (pv 4) (fun _ _ => rfl)) pa_nil))))) pss_nil))))
      (pss_one (ps_ret (pv 2)))), ?_⟩
    intro Da nD
    refine ⟨szl (show 1 ≤ 1000000 by decide), fun W nW => ⟨_, _, rfl, ?_⟩⟩
    have nDW : Da ≠ W := ne_of_none upd_same nW
    have s0 : Same H (upd (upd H Da (.dK [])) W (.lst [.int 0])) := (new_same nD).trans (new_same nW)
    have hW0 : H W = none := (new_same nD).free nW
    have eD0 : upd (upd H Da (.dK [])) W (.lst [.int 0]) Da = some (.dK (kvOf (rit nx wo 0).1)) := by rw [upd_ne nDW]; exact upd_same
    have eW0 : upd (upd H Da (.dK [])) W (.lst [.int 0]) W = some (.lst ((rit nx wo 0).2.map iv)) := upd_same
    generalize upd (upd H Da (.dK [])) W (.lst [.int 0]) = H0 at s0 eD0 eW0
    refine ⟨fun m σ H1 => ∃ (i : Nat) (y4 : Option V), m = 20 - i ∧ i ≤ 20 ∧ σ = [some (.ref na), some (iv wo), some (.ref Da), some (.ref W), y4] ∧ Same H H1 ∧ H1 Da = some (.dK (kvOf (rit nx wo i).1)) ∧ H1 W = some (.lst ((rit nx wo i).2.map iv)), ⟨_, 0, _, rfl, by omega, rfl, s0, eD0, eW0⟩, ?_⟩
    rintro m σ H1 ⟨i, y4, rfl, hi, rfl, s1, eD, eW⟩
    obtain ⟨hb1, hb2, hb3⟩ := rit_bd nx hx wo hw i (by omega)
    refine ⟨.ref W, rfl, Nat.zero_le _, fun l nl => ?_⟩
    have sl := new_same (o := .lst []) nl
    have el : upd H1 l (.lst []) l = some (.lst []) := upd_same
    have s2 := s1.trans sl
    have eD2 := sl _ _ eD
    have eW2 := sl _ _ eW
    generalize upd H1 l (.lst []) = H2 at sl el s2 eD2 eW2
    refine ⟨_, .list [], .lst (sqL eW2) (dp_nats _), .lst (sqL el) .nil, shp_nats _, by decide +kernel, _, rfl, ?_⟩
    show if (!PyData.eqv (.list ((rit nx wo i).2.map nd)) (.list [])) = true then _ else _
    rw [neq_nil]
    refine ite2 (fun e => ?_) (fun e => ?_)
    · have hne : (rit nx wo i).2 ≠ [] := fun z => by rw [z] at e; cases e
      have hi20 : i < 20 := Nat.lt_of_le_of_ne hi fun z => hne (by rw [z]; exact rit_end nx hx wo hw)
      have hlast : (rit nx wo i).2.getLast? = some ((rit nx wo i).2.getLast hne) := List.getLast?_eq_some_getLast hne
      have hstep : rit nx wo (i + 1) = rst nx wo (rit nx wo i) := rfl
      unfold rst at hstep
      rw [hlast] at hstep
      have hlt := hb1 _ (List.getLast_mem hne)
      have hat : (rit nx wo i).2[(rit nx wo i).2.length - 1]? = some ((rit nx wo i).2.getLast hne) := by rw [← List.getLast?_eq_getElem?]; exact hlast
      generalize (rit nx wo i).2.getLast hne = b at hstep hlt hat hlast
      generalize rit nx wo i = p at *
      dsimp only at hstep
      refine ⟨fun σ' H' => ∃ y4 : Option V, σ' = [some (.ref na), some (iv wo), some (.ref Da), some (.ref W), y4] ∧ Same H H' ∧ H' Da = some (.dK (kvOf (rit nx wo (i + 1)).1)) ∧ H' W = some (.lst ((rit nx wo (i + 1)).2.map iv)), fun σ' H' ⟨y, a1, a2, a3, a4⟩ => ⟨20 - (i + 1), by omega, i + 1, y, rfl, by omega, a1, a2, a3, a4⟩, ?_⟩
      refine ⟨.ref W, rfl, .inl ⟨rfl, _, sqL eW2⟩, W, _, iv b, rfl, rfl, eW2, by rw [List.length_map, List.getElem?_map, hat]; rfl, ?_⟩
      have s3 := Same.upd (o := .lst (p.2.map iv).dropLast) s2 hW0
      have eD3 : upd H2 W (.lst (p.2.map iv).dropLast) Da = some (.dK (kvOf p.1)) := by rw [upd_ne nDW]; exact eD2
      have eW3 : upd H2 W (.lst (p.2.map iv).dropLast) W = some (.lst (p.2.dropLast.map iv)) := by rw [upd_same, List.map_dropLast]
      generalize upd H2 W (.lst (p.2.map iv).dropLast) = H3 at s3 eD3 eW3
      refine ⟨iv b, rfl, iv wo, rfl, rfl, _, rfl, ?_⟩
      refine ite2 (fun e1 => ?_) (fun e1 => ?_)
      · have hbw : b ≠ wo := fun z => by
          rw [z] at e1
          simp at e1
        refine ⟨iv b, rfl, .ref Da, rfl, Da, _, rfl, DGet.k eD3 (k := Sum.inl (b : Int)), _, rfl, ?_⟩
        rw [valV_kv]
        refine ite2 (fun e2 => ?_) (fun e2 => ?_)
        · have hnf : b ∉ p.1 := by simpa using e2
          rw [if_pos ⟨hbw, hnf⟩] at hstep
          refine ⟨.ref Da, rfl, iv b, rfl, Da, _, rfl, DPut.k (k := Sum.inl (b : Int)) eD3 (by unfold kvOf; rw [List.length_map]; exact szt (by omega)), ?_⟩
          rw [put_kv hnf]
          have s4 := Same.upd (o := .dK (kvOf (p.1 ++ [b]))) s3 nD
          have eD4 : upd H3 Da (.dK (kvOf (p.1 ++ [b]))) Da = some (.dK (kvOf (p.1 ++ [b]))) := upd_same
          have eW4 : upd H3 Da (.dK (kvOf (p.1 ++ [b]))) W = some (.lst (p.2.dropLast.map iv)) := by rw [upd_ne nDW.symm]; exact eW3
          generalize upd H3 Da (.dK (kvOf (p.1 ++ [b]))) = H4 at s4 eD4 eW4
          obtain ⟨ps, qa, n1, n2, n3, n4⟩ := hN.at (gdl (d := []) hlt)
          have hxl := (nx_bd nx hx).2.2 _ (List.mem_of_getElem? (gdl (d := []) hlt))
          refine ⟨.ref W, rfl, .inl ⟨rfl, _, sqL eW4⟩, .ref na, rfl, iv b, rfl, na, _, _, .ref qa, rfl, rfl, sqL (s4 _ _ n1), n3, W, qa, _, _, rfl, rfl, eW4, s4 _ _ n4, ?_, ?_⟩
          · rw [List.length_map, List.length_map, List.length_dropLast]
            exact szl (by omega)
          · refine ⟨_, rfl, Same.upd s4 hW0, ?_, ?_⟩
            · rw [upd_ne nDW, hstep]; exact eD4
            · rw [upd_same, hstep, ← List.map_append]
        · have hf : b ∈ p.1 := by simpa using e2
          rw [if_neg (fun z => z.2 hf)] at hstep
          exact ⟨_, rfl, s3, by rw [hstep]; exact eD3, by rw [hstep]; exact eW3⟩
      · have hbw : b = wo := by
          have e1 : ¬ (!decide (iv b = iv wo)) = true := e1
          simp only [Bool.not_eq_true', decide_eq_false_iff_not, Classical.not_not] at e1
          have := V.int.inj e1
          omega
        rw [if_neg (fun z => z.1 hbw)] at hstep
        exact ⟨_, rfl, s3, by rw [hstep]; exact eD3, by rw [hstep]; exact eW3⟩
    · have hemp : (rit nx wo i).2 = [] := by
        cases z : (rit nx wo i).2 with
        | nil => rfl
        | cons x xs => rw [z] at e; exact absurd rfl e
      rw [rit_reach hi hemp] at eD2
      exact ⟨.ref Da, rfl, q Da H2 nD s2 eD2⟩
end
end Gn
set_option Elab.async false
set_option linter.all false
set_option maxRecDepth 100000
set_option maxHeartbeats 4000000
namespace Gn
open PySem PySem.Spec PyProof.Rows L2
theorem worthy_in2 (r : Rw) : (!inV (.str r.w) [.str "lay", .str "tell"]) = r.worthy := by
  cases r with
  | bin b x y => cases b <;> rfl
  | _ => (first | rfl | decide)
def spStanding (K : PySem.W.Frag) : Sp := fun vs H Q _ => ∃ (na ba ra : Addr) (nx : List (List Nat)) (blocks : List Nat) (us : List V) (rows : List Rw) (b : Nat), vs = [.ref na, .ref ba, .ref ra, iv b] ∧ NR H na nx ∧ nx ∈ NX ∧ H ba = some (.lst (blocks.map iv)) ∧ H ra = some (.lst us) ∧ Paired (RowAt K H) us rows ∧ blocks.length = rows.length ∧ (∀ y ∈ blocks, y < 7) ∧ rows.length ≤ 1000 ∧
  ∀ (p : Addr) (H' : Hp), H p = none → Same H H' → H' p = some (.lst ((standL nx blocks rows b).map iv)) → Q (.ref p) H'
abbrev nStanding : List Str := ["_law_nexts_here", "_law_blocks", "_law_rows", "_law_block", "_law_some", "_law_k", "_law_own"]
theorem scStanding : FnScope nStanding ["_law_nexts_here", "_law_blocks", "_law_rows", "_law_block"] (defScope sStanding) := ⟨rfl, rfl, rfl, by decide +kernel, rfl, by decide +kernel, by decide +kernel⟩
section
variable {P : Program} {w : World} {K : PySem.W.Frag} {mg : Str → Option Value} {base : Heap}
theorem ok_standing {f fR : Addr} {fd fdR : FuncData} {k : Nat} (D : Df K mg "_law_standing" sStanding ["_law_nexts_here", "_law_blocks", "_law_rows", "_law_block"] f fd) (B : Bi mg) (DR : Df K mg "_law_reached" sReached ["_law_nexts_here", "_law_without"] fR fdR) (GR : FnOk P w K mg base CX0 k fR fdR ["_law_nexts_here", "_law_without"] (spReached K)) : FnOk P w K mg base CX0 (k + 1) f fd ["_law_nexts_here", "_law_blocks", "_law_rows", "_law_block"] (spStanding K) := by
  refine D.F.ok scStanding (fun vs H Q E h => ?_) (fun cdv A outer s H vs Q E hr h => ?_)
  · obtain ⟨na, ba, ra, nx, blocks, us, rows, b, rfl, _⟩ := h
    rfl
  · obtain ⟨na, ba, ra, nx, blocks, us, rows, b, rfl, hN, hx, hB, hR, hP, hl, hb7, hrl, q⟩ := h
    have hu := hu_of hr
    refine ⟨_, pss_cons (ps_setLc (i := 4) (own := [("_law_k", 5), ("_law_own", 6)]) (g := gTup K 2 (gCons (gName 5) (gCons (gName 6) gNil))) (tt := tTest (tDNotIn (tVar 3) (tCall (spReached K) [] E0 (tCons (tVar 0) (tCons (tVar 6) tNil))))) (te := tVar 5) (by rfl) scStanding.nd rfl rfl (sw_true rfl rfl rfl (by decide +kernel)) (pi_enum (by rfl) B.enumerate (pa_cons (pv 1) pa_nil))
        (blkOk_by (own := [("_law_k", 5), ("_law_own", 6)]) (N := nStanding) (sc := defScope sStanding) (by decide +kernel)) (fun _ _ _ _ _ => pg_tup rfl (pgs_cons (pg_name (i := 5) scStanding.nd rfl (.inl rfl)) (pgs_cons (pg_name (i := 6) scStanding.nd rfl (.inl rfl)) pgs_nil)))
        (fun _ _ _ _ _ => pts_one (pt_cmp (pc_dnotin hu (pv 3) (pe_call GR hr (by rfl) DR.g DR.F.kp DR.b .nil pass0 (pa_cons (pv 0) (pa_cons (pv 6) pa_nil)))) rfl)) (fun _ _ _ _ _ => pv 5))
      (pss_one (ps_ret (pe_lc (own := [("_law_k", 5)]) (g := gName 5) (tt := tNotIn K (tIxT K (tIxL K (tVar 2) (tVar 5)) (tC (.int 0))) (tTup (tCons (tC (.str "lay")) (tCons (tC (.str "tell")) tNil)))) (te := tVar 5) rfl scStanding.nd (pi_list (pv 4))
        (blkOk_by (own := [("_law_k", 5)]) (N := nStanding) (sc := defScope sStanding) (by decide +kernel)) (fun _ _ _ _ _ => pg_name (i := 5) scStanding.nd rfl (.inl rfl))
        (fun _ _ _ _ _ => pts_one (pt_cmpR op_notIn_seq (pe_ix ix_tup (pe_ix ix_list (pv 2) (pv 5) (fun _ _ => rfl)) pe_int (fun _ _ => rfl)) (pe_tup (pa_cons pe_str (pa_cons pe_str pa_nil))) rfl)) (fun _ _ _ _ _ => pv 5)))), ?_⟩
    have hbl : (blocks.map iv).length = blocks.length := List.length_map _
    refine ⟨.ref ba, rfl, ba, _, rfl, sqL hB, fun L nL => ?_⟩
    refine it_core (walk_enum (K := K) (a := ba) (xs := blocks.map iv)) (fun i H1 => Same H H1 ∧ H1 L = some (.lst (((List.range i).filter fun k => !decide (b ∈ reachF nx (blocks.getD k 0))).map iv))) ⟨new_same nL, upd_same⟩ (fun i H1 _ hP => sqL (hP.1 _ _ hB)) (fun i x H1 H2 hi hP hY => ?_) (fun H1 hP => ?_)
    · obtain ⟨s1, eL⟩ := hP
      obtain ⟨T, x1, x2, rfl, nT, rfl, e1, e2⟩ := hY
      cases e1
      have hib : i < blocks.length := by rw [hbl] at hi; exact hi
      have e2 : (blocks.map iv)[i]? = some x2 := e2
      rw [List.getElem?_map, gdl (d := 0) hib] at e2
      cases e2
      have h7 : blocks.getD i 0 < 7 := hb7 _ (List.mem_of_getElem? (gdl (d := 0) hib))
      have sT := new_same (o := .tup [.int (i : Nat), iv (blocks.getD i 0)]) nT
      have s2 := s1.trans sT
      have eL2 := sT _ _ eL
      refine ⟨T, _, rfl, sqT upd_same, rfl, _, _, rfl, _, _, rfl, rfl, rfl, ?_⟩
      generalize upd H1 T (.tup [.int (i : Nat), iv (blocks.getD i 0)]) = H3 at s2 eL2
      refine ⟨iv b, rfl, .ref na, rfl, iv (blocks.getD i 0), rfl, na, nx, blocks.getD i 0, rfl, hN.same s2, hx, h7, fun Da H4 nD s4 eD => ⟨Da, _, rfl, DGet.k eD (k := Sum.inl (b : Int)), _, rfl, ?_⟩⟩
      rw [valV_kv]
      have s5 := s2.trans s4
      have eL4 := s4 _ _ eL2
      have hfl : ((List.range i).filter fun k => !decide (b ∈ reachF nx (blocks.getD k 0))).length ≤ i := Nat.le_trans (List.length_filter_le _ _) (by rw [List.length_range]; exact Nat.le_refl _)
      refine ite2 (fun e => ?_) (fun e => ?_)
      · refine ⟨_, rfl, _, eL4, by rw [List.length_map]; exact szt (by omega), fun a o z => ?_, ?_⟩
        · rw [upd_ne (ne_of_none z nL)]
          exact s5 _ _ z
        · rw [upd_same, filt_succ, if_pos e, List.map_append]
          rfl
      · exact ⟨s5, by rw [filt_succ, if_neg e, List.append_nil]; exact eL4⟩
    · obtain ⟨s1, eL⟩ := hP
      rw [hbl] at eL
      have hfl : ((List.range blocks.length).filter fun k => !decide (b ∈ reachF nx (blocks.getD k 0))).length ≤ blocks.length := Nat.le_trans (List.length_filter_le _ _) (by rw [List.length_range]; exact Nat.le_refl _)
      have hms : ∀ y ∈ (List.range blocks.length).filter (fun k => !decide (b ∈ reachF nx (blocks.getD k 0))), y < rows.length := fun y hy => by
        have := List.mem_range.mp (List.mem_filter.mp hy).1
        omega
      have hst : standL nx blocks rows b = ((List.range blocks.length).filter fun k => !decide (b ∈ reachF nx (blocks.getD k 0))).filter fun k => (rows.getD k (.take 0)).worthy := rfl
      generalize (List.range blocks.length).filter (fun k => !decide (b ∈ reachF nx (blocks.getD k 0))) = ss at eL hfl hms hst
      refine ⟨.ref L, rfl, L, rfl, ⟨_, sqL eL⟩, fun M nM => ?_⟩
      refine lc_list (K := K) (a := L) (xs := ss.map iv) (fun i H2 => Same H H2 ∧ H2 L = some (.lst (ss.map iv)) ∧ H2 M = some (.lst (((ss.take i).filter fun k => (rows.getD k (.take 0)).worthy).map iv))) ⟨s1.trans (new_same nM), new_same nM _ _ eL, upd_same⟩ (fun i H2 _ hP => sqL hP.2.1) (fun i x H2 hx' hP => ?_) (fun H2 hP => ?_)
      · obtain ⟨s2, eL2, eM⟩ := hP
        rw [List.getElem?_map] at hx'
        obtain ⟨y, hy, rfl⟩ := Option.map_eq_some_iff.mp hx'
        have hil := (List.getElem?_eq_some_iff.mp hy).1
        have hyr := hms y (List.mem_of_getElem? hy)
        obtain ⟨u, hu1, z, zs, rfl, hz, _⟩ := pd_at hP (gdl (d := Rw.take 0) hyr)
        refine ⟨rfl, .ref ra, rfl, iv y, rfl, ra, us, _, .ref z, rfl, rfl, sqL (s2 _ _ hR), atI_nat hu1, z, _, _, _, rfl, rfl, Same.tup s2 hz, atI_nat (j := 0) rfl, szl (show 2 ≤ 1000000 by decide), fun T nT => ?_⟩
        have sT := new_same (o := .tup [.str "lay", .str "tell"]) nT
        have s3 := s2.trans sT
        have eL3 := sT _ _ eL2
        have eM3 := sT _ _ eM
        have eT : upd H2 T (.tup [.str "lay", .str "tell"]) T = some (.tup [.str "lay", .str "tell"]) := upd_same
        generalize upd H2 T (.tup [.str "lay", .str "tell"]) = H3 at sT s3 eL3 eM3 eT
        refine ⟨T, _, rfl, .inr (sqT eT), rfl, rfl, _, rfl, ?_⟩
        have hML : M ≠ L := (ne_of_none eL nM).symm
        have hn1 : H M = none := s1.free nM
        have htk : (ss.take (i + 1)).filter (fun k => (rows.getD k (.take 0)).worthy) = (ss.take i).filter (fun k => (rows.getD k (.take 0)).worthy) ++ (if (rows.getD y (.take 0)).worthy = true then [y] else []) := by
          rw [List.take_add_one, hy, List.filter_append]
          show _ ++ [y].filter _ = _
          rw [filt_one]
        show if (!inV (.str (rows.getD y (.take 0)).w) [.str "lay", .str "tell"]) = true then _ else _
        rw [worthy_in2]
        have hfl2 : ((ss.take i).filter fun k => (rows.getD k (.take 0)).worthy).length ≤ i := Nat.le_trans (List.length_filter_le _ _) (by rw [List.length_take]; omega)
        refine ite2 (fun e => ?_) (fun e => ?_)
        · refine ⟨_, rfl, _, eM3, by rw [List.length_map]; exact szt (by omega), Same.upd s3 hn1, by rw [upd_ne hML.symm]; exact eL3, ?_⟩
          rw [upd_same, htk, if_pos e, List.map_append]
          rfl
        · exact ⟨s3, eL3, by rw [htk, if_neg e, List.append_nil]; exact eM3⟩
      · obtain ⟨s2, eL2, eM⟩ := hP
        rw [List.length_map, List.take_length] at eM
        exact q M H2 (s1.free nM) s2 (by rw [hst]; exact eM)
end
end Gn
set_option Elab.async false
set_option linter.all false
set_option maxRecDepth 100000
set_option maxHeartbeats 4000000
namespace Gn
open PySem PySem.Spec PyProof.Rows L2
def spNexts : Sp := fun vs H Q _ => ∃ (t : Addr) (c : Nat), vs = [.ref t] ∧ Tape H t c ∧ c ≤ 100000000 ∧
  ∀ (p : Addr) (nx : List (List Nat)) (H' : Hp), nx ∈ NX → But t H H' → Tape H' t (c + 1) → NR (frz [t] H') p nx → Q (.ref p) H'
abbrev nNexts : List Str := ["_law_tape", "_law_some"]
theorem scNexts : FnScope nNexts ["_law_tape"] (defScope sNexts) := ⟨rfl, rfl, rfl, by decide +kernel, rfl, by decide +kernel, by decide +kernel⟩
section
variable {P : Program} {w : World} {K : PySem.W.Frag} {mg : Str → Option Value} {base : Heap}
theorem ok_nexts {f fD : Addr} {fd fdD : FuncData} {k : Nat} (D : Df K mg "_law_nexts" sNexts ["_law_tape"] f fd) (DD : Df K mg "_law_draw" sDraw ["_law_tape", "_law_many"] fD fdD) (GD : FnOk P w K mg base CX0 k fD fdD ["_law_tape", "_law_many"] spDraw) : FnOk P w K mg base CX0 (k + 1) f fd ["_law_tape"] spNexts := by
  refine D.F.ok scNexts (fun vs H Q E h => ?_) (fun cdv A outer s H vs Q E hr h => ?_)
  · obtain ⟨t, c, rfl, _⟩ := h
    rfl
  · obtain ⟨t, c, rfl, hT, hc, q⟩ := h
    refine ⟨_, (pss_cons (ps_set (i := 1) scNexts.nd rfl (.inl rfl) (pe_lst (pa_cons (pe_lst (pa_cons (pe_lst pa_nil) pa_nil)) (pa_cons (pe_lst (pa_cons (pe_lst (pa_cons pe_int (pa_cons pe_int pa_nil))) (pa_cons (pe_lst (pa_cons pe_int pa_nil)) (pa_cons (pe_lst (pa_cons pe_int pa_nil)) (pa_cons (pe_lst pa_nil) pa_nil))))) (pa_cons (pe_lst (pa_cons (pe_lst (pa_cons pe_int pa_nil)) (pa_cons (pe_lst (pa_cons pe_int (pa_cons pe_int pa_nil))) (pa_cons (pe_lst (pa_cons pe_int pa_nil)) (pa_cons (pe_lst pa_nil) pa_nil))))) (pa_cons (pe_lst (pa_cons (pe_lst (pa_cons pe_int (pa_cons pe_int pa_nil))) (pa_cons (pe_lst (pa_cons pe_int pa_nil)) (pa_cons (pe_lst (pa_cons pe_int (pa_cons pe_int pa_nil))) (pa_cons (pe_lst pa_nil) pa_nil))))) pa_nil))))))
      (pss_cons (ps_set (i := 1) scNexts.nd rfl (.inl rfl) (pe_op op_cat (pv 1) (pe_lst (pa_cons (pe_lst (pa_cons (pe_lst (pa_cons pe_int pa_nil)) (pa_cons (pe_lst (pa_cons pe_int (pa_cons pe_int pa_nil))) (pa_cons (pe_lst (pa_cons pe_int (pa_cons pe_int pa_nil))) (pa_cons (pe_lst (pa_cons pe_int pa_nil)) (pa_cons (pe_lst (pa_cons pe_int pa_nil)) (pa_cons (pe_lst pa_nil) pa_nil))))))) (pa_cons (pe_lst (pa_cons (pe_lst (pa_cons pe_int pa_nil)) (pa_cons (pe_lst (pa_cons pe_int (pa_cons pe_int pa_nil))) (pa_cons (pe_lst (pa_cons pe_int pa_nil)) (pa_cons (pe_lst (pa_cons pe_int (pa_cons pe_int pa_nil))) (pa_cons (pe_lst (pa_cons pe_int pa_nil)) (pa_cons (pe_lst (pa_cons pe_int pa_nil)) (pa_cons (pe_lst pa_nil) pa_nil)))))))) pa_nil)))))
      (pss_one (ps_ret (pe_ix ix_list (pv 1) (pe_call GD hr (by rfl) DD.g DD.F.kp DD.b .nil pass0 (pa_cons (pv 0) (pa_cons pe_int pa_nil))) (fun _ _ => rfl)))))), ?_⟩
    refine ⟨szl (show 0 ≤ 1000000 by decide), fun p1 m1 => ?_⟩
    have s1 := new_same (o := .lst []) m1
    have e1 : upd H p1 (.lst []) p1 = some (.lst (([] : List Nat).map iv)) := upd_same
    have T1 := hT.same s1
    have d1 : p1 ≠ t := hT.ne m1
    generalize upd H p1 (.lst []) = h1 at s1 e1 T1
    refine ⟨szl (show 1 ≤ 1000000 by decide), fun q2 m2 => ?_⟩
    have s2 := new_same (o := .lst [.ref p1]) m2
    have e2 : upd h1 q2 (.lst [.ref p1]) q2 = some (.lst (([p1] : List Addr).map V.ref)) := upd_same
    have T2 := T1.same s2
    have d2 : q2 ≠ t := T1.ne m2
    generalize upd h1 q2 (.lst [.ref p1]) = h2 at s2 e2 T2
    refine ⟨szl (show 2 ≤ 1000000 by decide), fun p3 m3 => ?_⟩
    have s3 := new_same (o := .lst [.int 1, .int 2]) m3
    have e3 : upd h2 p3 (.lst [.int 1, .int 2]) p3 = some (.lst (([1, 2] : List Nat).map iv)) := upd_same
    have T3 := T2.same s3
    have d3 : p3 ≠ t := T2.ne m3
    generalize upd h2 p3 (.lst [.int 1, .int 2]) = h3 at s3 e3 T3
    refine ⟨szl (show 1 ≤ 1000000 by decide), fun p4 m4 => ?_⟩
    have s4 := new_same (o := .lst [.int 3]) m4
    have e4 : upd h3 p4 (.lst [.int 3]) p4 = some (.lst (([3] : List Nat).map iv)) := upd_same
    have T4 := T3.same s4
    have d4 : p4 ≠ t := T3.ne m4
    generalize upd h3 p4 (.lst [.int 3]) = h4 at s4 e4 T4
    refine ⟨szl (show 1 ≤ 1000000 by decide), fun p5 m5 => ?_⟩
    have s5 := new_same (o := .lst [.int 3]) m5
    have e5 : upd h4 p5 (.lst [.int 3]) p5 = some (.lst (([3] : List Nat).map iv)) := upd_same
    have T5 := T4.same s5
    have d5 : p5 ≠ t := T4.ne m5
    generalize upd h4 p5 (.lst [.int 3]) = h5 at s5 e5 T5
    refine ⟨szl (show 0 ≤ 1000000 by decide), fun p6 m6 => ?_⟩
    have s6 := new_same (o := .lst []) m6
    have e6 : upd h5 p6 (.lst []) p6 = some (.lst (([] : List Nat).map iv)) := upd_same
    have T6 := T5.same s6
    have d6 : p6 ≠ t := T5.ne m6
    generalize upd h5 p6 (.lst []) = h6 at s6 e6 T6
    refine ⟨szl (show 4 ≤ 1000000 by decide), fun q7 m7 => ?_⟩
    have s7 := new_same (o := .lst [.ref p3, .ref p4, .ref p5, .ref p6]) m7
    have e7 : upd h6 q7 (.lst [.ref p3, .ref p4, .ref p5, .ref p6]) q7 = some (.lst (([p3, p4, p5, p6] : List Addr).map V.ref)) := upd_same
    have T7 := T6.same s7
    have d7 : q7 ≠ t := T6.ne m7
    generalize upd h6 q7 (.lst [.ref p3, .ref p4, .ref p5, .ref p6]) = h7 at s7 e7 T7
    refine ⟨szl (show 1 ≤ 1000000 by decide), fun p8 m8 => ?_⟩
    have s8 := new_same (o := .lst [.int 1]) m8
    have e8 : upd h7 p8 (.lst [.int 1]) p8 = some (.lst (([1] : List Nat).map iv)) := upd_same
    have T8 := T7.same s8
    have d8 : p8 ≠ t := T7.ne m8
    generalize upd h7 p8 (.lst [.int 1]) = h8 at s8 e8 T8
    refine ⟨szl (show 2 ≤ 1000000 by decide), fun p9 m9 => ?_⟩
    have s9 := new_same (o := .lst [.int 2, .int 3]) m9
    have e9 : upd h8 p9 (.lst [.int 2, .int 3]) p9 = some (.lst (([2, 3] : List Nat).map iv)) := upd_same
    have T9 := T8.same s9
    have d9 : p9 ≠ t := T8.ne m9
    generalize upd h8 p9 (.lst [.int 2, .int 3]) = h9 at s9 e9 T9
    refine ⟨szl (show 1 ≤ 1000000 by decide), fun p10 m10 => ?_⟩
    have s10 := new_same (o := .lst [.int 1]) m10
    have e10 : upd h9 p10 (.lst [.int 1]) p10 = some (.lst (([1] : List Nat).map iv)) := upd_same
    have T10 := T9.same s10
    have d10 : p10 ≠ t := T9.ne m10
    generalize upd h9 p10 (.lst [.int 1]) = h10 at s10 e10 T10
    refine ⟨szl (show 0 ≤ 1000000 by decide), fun p11 m11 => ?_⟩
    have s11 := new_same (o := .lst []) m11
    have e11 : upd h10 p11 (.lst []) p11 = some (.lst (([] : List Nat).map iv)) := upd_same
    have T11 := T10.same s11
    have d11 : p11 ≠ t := T10.ne m11
    generalize upd h10 p11 (.lst []) = h11 at s11 e11 T11
    refine ⟨szl (show 4 ≤ 1000000 by decide), fun q12 m12 => ?_⟩
    have s12 := new_same (o := .lst [.ref p8, .ref p9, .ref p10, .ref p11]) m12
    have e12 : upd h11 q12 (.lst [.ref p8, .ref p9, .ref p10, .ref p11]) q12 = some (.lst (([p8, p9, p10, p11] : List Addr).map V.ref)) := upd_same
    have T12 := T11.same s12
    have d12 : q12 ≠ t := T11.ne m12
    generalize upd h11 q12 (.lst [.ref p8, .ref p9, .ref p10, .ref p11]) = h12 at s12 e12 T12
    refine ⟨szl (show 2 ≤ 1000000 by decide), fun p13 m13 => ?_⟩
    have s13 := new_same (o := .lst [.int 1, .int 2]) m13
    have e13 : upd h12 p13 (.lst [.int 1, .int 2]) p13 = some (.lst (([1, 2] : List Nat).map iv)) := upd_same
    have T13 := T12.same s13
    have d13 : p13 ≠ t := T12.ne m13
    generalize upd h12 p13 (.lst [.int 1, .int 2]) = h13 at s13 e13 T13
    refine ⟨szl (show 1 ≤ 1000000 by decide), fun p14 m14 => ?_⟩
    have s14 := new_same (o := .lst [.int 2]) m14
    have e14 : upd h13 p14 (.lst [.int 2]) p14 = some (.lst (([2] : List Nat).map iv)) := upd_same
    have T14 := T13.same s14
    have d14 : p14 ≠ t := T13.ne m14
    generalize upd h13 p14 (.lst [.int 2]) = h14 at s14 e14 T14
    refine ⟨szl (show 2 ≤ 1000000 by decide), fun p15 m15 => ?_⟩
    have s15 := new_same (o := .lst [.int 1, .int 3]) m15
    have e15 : upd h14 p15 (.lst [.int 1, .int 3]) p15 = some (.lst (([1, 3] : List Nat).map iv)) := upd_same
    have T15 := T14.same s15
    have d15 : p15 ≠ t := T14.ne m15
    generalize upd h14 p15 (.lst [.int 1, .int 3]) = h15 at s15 e15 T15
    refine ⟨szl (show 0 ≤ 1000000 by decide), fun p16 m16 => ?_⟩
    have s16 := new_same (o := .lst []) m16
    have e16 : upd h15 p16 (.lst []) p16 = some (.lst (([] : List Nat).map iv)) := upd_same
    have T16 := T15.same s16
    have d16 : p16 ≠ t := T15.ne m16
    generalize upd h15 p16 (.lst []) = h16 at s16 e16 T16
    refine ⟨szl (show 4 ≤ 1000000 by decide), fun q17 m17 => ?_⟩
    have s17 := new_same (o := .lst [.ref p13, .ref p14, .ref p15, .ref p16]) m17
    have e17 : upd h16 q17 (.lst [.ref p13, .ref p14, .ref p15, .ref p16]) q17 = some (.lst (([p13, p14, p15, p16] : List Addr).map V.ref)) := upd_same
    have T17 := T16.same s17
    have d17 : q17 ≠ t := T16.ne m17
    generalize upd h16 q17 (.lst [.ref p13, .ref p14, .ref p15, .ref p16]) = h17 at s17 e17 T17
    refine ⟨szl (show 4 ≤ 1000000 by decide), fun A18 m18 => ?_⟩
    have s18 := new_same (o := .lst [.ref q2, .ref q7, .ref q12, .ref q17]) m18
    have e18 : upd h17 A18 (.lst [.ref q2, .ref q7, .ref q12, .ref q17]) A18 = some (.lst (([q2, q7, q12, q17] : List Addr).map V.ref)) := upd_same
    have T18 := T17.same s18
    have d18 : A18 ≠ t := T17.ne m18
    generalize upd h17 A18 (.lst [.ref q2, .ref q7, .ref q12, .ref q17]) = h18 at s18 e18 T18
    refine ⟨.ref A18, rfl, ?_⟩
    refine ⟨szl (show 1 ≤ 1000000 by decide), fun p19 m19 => ?_⟩
    have s19 := new_same (o := .lst [.int 1]) m19
    have e19 : upd h18 p19 (.lst [.int 1]) p19 = some (.lst (([1] : List Nat).map iv)) := upd_same
    have T19 := T18.same s19
    have d19 : p19 ≠ t := T18.ne m19
    generalize upd h18 p19 (.lst [.int 1]) = h19 at s19 e19 T19
    refine ⟨szl (show 2 ≤ 1000000 by decide), fun p20 m20 => ?_⟩
    have s20 := new_same (o := .lst [.int 2, .int 5]) m20
    have e20 : upd h19 p20 (.lst [.int 2, .int 5]) p20 = some (.lst (([2, 5] : List Nat).map iv)) := upd_same
    have T20 := T19.same s20
    have d20 : p20 ≠ t := T19.ne m20
    generalize upd h19 p20 (.lst [.int 2, .int 5]) = h20 at s20 e20 T20
    refine ⟨szl (show 2 ≤ 1000000 by decide), fun p21 m21 => ?_⟩
    have s21 := new_same (o := .lst [.int 3, .int 4]) m21
    have e21 : upd h20 p21 (.lst [.int 3, .int 4]) p21 = some (.lst (([3, 4] : List Nat).map iv)) := upd_same
    have T21 := T20.same s21
    have d21 : p21 ≠ t := T20.ne m21
    generalize upd h20 p21 (.lst [.int 3, .int 4]) = h21 at s21 e21 T21
    refine ⟨szl (show 1 ≤ 1000000 by decide), fun p22 m22 => ?_⟩
    have s22 := new_same (o := .lst [.int 4]) m22
    have e22 : upd h21 p22 (.lst [.int 4]) p22 = some (.lst (([4] : List Nat).map iv)) := upd_same
    have T22 := T21.same s22
    have d22 : p22 ≠ t := T21.ne m22
    generalize upd h21 p22 (.lst [.int 4]) = h22 at s22 e22 T22
    refine ⟨szl (show 1 ≤ 1000000 by decide), fun p23 m23 => ?_⟩
    have s23 := new_same (o := .lst [.int 1]) m23
    have e23 : upd h22 p23 (.lst [.int 1]) p23 = some (.lst (([1] : List Nat).map iv)) := upd_same
    have T23 := T22.same s23
    have d23 : p23 ≠ t := T22.ne m23
    generalize upd h22 p23 (.lst [.int 1]) = h23 at s23 e23 T23
    refine ⟨szl (show 0 ≤ 1000000 by decide), fun p24 m24 => ?_⟩
    have s24 := new_same (o := .lst []) m24
    have e24 : upd h23 p24 (.lst []) p24 = some (.lst (([] : List Nat).map iv)) := upd_same
    have T24 := T23.same s24
    have d24 : p24 ≠ t := T23.ne m24
    generalize upd h23 p24 (.lst []) = h24 at s24 e24 T24
    refine ⟨szl (show 6 ≤ 1000000 by decide), fun q25 m25 => ?_⟩
    have s25 := new_same (o := .lst [.ref p19, .ref p20, .ref p21, .ref p22, .ref p23, .ref p24]) m25
    have e25 : upd h24 q25 (.lst [.ref p19, .ref p20, .ref p21, .ref p22, .ref p23, .ref p24]) q25 = some (.lst (([p19, p20, p21, p22, p23, p24] : List Addr).map V.ref)) := upd_same
    have T25 := T24.same s25
    have d25 : q25 ≠ t := T24.ne m25
    generalize upd h24 q25 (.lst [.ref p19, .ref p20, .ref p21, .ref p22, .ref p23, .ref p24]) = h25 at s25 e25 T25
    refine ⟨szl (show 1 ≤ 1000000 by decide), fun p26 m26 => ?_⟩
    have s26 := new_same (o := .lst [.int 1]) m26
    have e26 : upd h25 p26 (.lst [.int 1]) p26 = some (.lst (([1] : List Nat).map iv)) := upd_same
    have T26 := T25.same s26
    have d26 : p26 ≠ t := T25.ne m26
    generalize upd h25 p26 (.lst [.int 1]) = h26 at s26 e26 T26
    refine ⟨szl (show 2 ≤ 1000000 by decide), fun p27 m27 => ?_⟩
    have s27 := new_same (o := .lst [.int 2, .int 6]) m27
    have e27 : upd h26 p27 (.lst [.int 2, .int 6]) p27 = some (.lst (([2, 6] : List Nat).map iv)) := upd_same
    have T27 := T26.same s27
    have d27 : p27 ≠ t := T26.ne m27
    generalize upd h26 p27 (.lst [.int 2, .int 6]) = h27 at s27 e27 T27
    refine ⟨szl (show 1 ≤ 1000000 by decide), fun p28 m28 => ?_⟩
    have s28 := new_same (o := .lst [.int 3]) m28
    have e28 : upd h27 p28 (.lst [.int 3]) p28 = some (.lst (([3] : List Nat).map iv)) := upd_same
    have T28 := T27.same s28
    have d28 : p28 ≠ t := T27.ne m28
    generalize upd h27 p28 (.lst [.int 3]) = h28 at s28 e28 T28
    refine ⟨szl (show 2 ≤ 1000000 by decide), fun p29 m29 => ?_⟩
    have s29 := new_same (o := .lst [.int 4, .int 5]) m29
    have e29 : upd h28 p29 (.lst [.int 4, .int 5]) p29 = some (.lst (([4, 5] : List Nat).map iv)) := upd_same
    have T29 := T28.same s29
    have d29 : p29 ≠ t := T28.ne m29
    generalize upd h28 p29 (.lst [.int 4, .int 5]) = h29 at s29 e29 T29
    refine ⟨szl (show 1 ≤ 1000000 by decide), fun p30 m30 => ?_⟩
    have s30 := new_same (o := .lst [.int 3]) m30
    have e30 : upd h29 p30 (.lst [.int 3]) p30 = some (.lst (([3] : List Nat).map iv)) := upd_same
    have T30 := T29.same s30
    have d30 : p30 ≠ t := T29.ne m30
    generalize upd h29 p30 (.lst [.int 3]) = h30 at s30 e30 T30
    refine ⟨szl (show 1 ≤ 1000000 by decide), fun p31 m31 => ?_⟩
    have s31 := new_same (o := .lst [.int 1]) m31
    have e31 : upd h30 p31 (.lst [.int 1]) p31 = some (.lst (([1] : List Nat).map iv)) := upd_same
    have T31 := T30.same s31
    have d31 : p31 ≠ t := T30.ne m31
    generalize upd h30 p31 (.lst [.int 1]) = h31 at s31 e31 T31
    refine ⟨szl (show 0 ≤ 1000000 by decide), fun p32 m32 => ?_⟩
    have s32 := new_same (o := .lst []) m32
    have e32 : upd h31 p32 (.lst []) p32 = some (.lst (([] : List Nat).map iv)) := upd_same
    have T32 := T31.same s32
    have d32 : p32 ≠ t := T31.ne m32
    generalize upd h31 p32 (.lst []) = h32 at s32 e32 T32
    refine ⟨szl (show 7 ≤ 1000000 by decide), fun q33 m33 => ?_⟩
    have s33 := new_same (o := .lst [.ref p26, .ref p27, .ref p28, .ref p29, .ref p30, .ref p31, .ref p32]) m33
    have e33 : upd h32 q33 (.lst [.ref p26, .ref p27, .ref p28, .ref p29, .ref p30, .ref p31, .ref p32]) q33 = some (.lst (([p26, p27, p28, p29, p30, p31, p32] : List Addr).map V.ref)) := upd_same
    have T33 := T32.same s33
    have d33 : q33 ≠ t := T32.ne m33
    generalize upd h32 q33 (.lst [.ref p26, .ref p27, .ref p28, .ref p29, .ref p30, .ref p31, .ref p32]) = h33 at s33 e33 T33
    refine ⟨szl (show 2 ≤ 1000000 by decide), fun B34 m34 => ?_⟩
    have s34 := new_same (o := .lst [.ref q25, .ref q33]) m34
    have e34 : upd h33 B34 (.lst [.ref q25, .ref q33]) B34 = some (.lst (([q25, q33] : List Addr).map V.ref)) := upd_same
    have T34 := T33.same s34
    have d34 : B34 ≠ t := T33.ne m34
    generalize upd h33 B34 (.lst [.ref q25, .ref q33]) = h34 at s34 e34 T34
    have u34 : Same h34 h34 := Same.refl _
    have u33 := s34.trans u34
    have u32 := s33.trans u33
    have u31 := s32.trans u32
    have u30 := s31.trans u31
    have u29 := s30.trans u30
    have u28 := s29.trans u29
    have u27 := s28.trans u28
    have u26 := s27.trans u27
    have u25 := s26.trans u26
    have u24 := s25.trans u25
    have u23 := s24.trans u24
    have u22 := s23.trans u23
    have u21 := s22.trans u22
    have u20 := s21.trans u21
    have u19 := s20.trans u20
    have u18 := s19.trans u19
    have u17 := s18.trans u18
    have u16 := s17.trans u17
    have u15 := s16.trans u16
    have u14 := s15.trans u15
    have u13 := s14.trans u14
    have u12 := s13.trans u13
    have u11 := s12.trans u12
    have u10 := s11.trans u11
    have u9 := s10.trans u10
    have u8 := s9.trans u9
    have u7 := s8.trans u8
    have u6 := s7.trans u7
    have u5 := s6.trans u6
    have u4 := s5.trans u5
    have u3 := s4.trans u4
    have u2 := s3.trans u3
    have u1 := s2.trans u2
    have u0 : Same H h34 := s1.trans u1
    refine ⟨A18, B34, _, _, rfl, rfl, u18 _ _ e18, e34, szl (show 6 ≤ 1000000 by decide), fun C nC => ?_⟩
    have sC := new_same (o := .lst (List.map V.ref [q2, q7, q12, q17] ++ List.map V.ref [q25, q33])) nC
    have eC : upd h34 C (.lst (List.map V.ref [q2, q7, q12, q17] ++ List.map V.ref [q25, q33])) C = some (.lst [.ref q2, .ref q7, .ref q12, .ref q17, .ref q25, .ref q33]) := upd_same
    have dC : C ≠ t := T34.ne nC
    have TC := T34.same sC
    generalize hg : upd h34 C (.lst (List.map V.ref [q2, q7, q12, q17] ++ List.map V.ref [q25, q33])) = hC at sC eC TC
    refine ⟨_, rfl, .ref t, rfl, t, 6, c, rfl, TC, by omega, by decide, by decide, fun r Hf hr6 bf Tf => ?_⟩
    have hr6 : r < 6 := by omega
    have bH : But t H Hf := (Same.but (u0.trans sC)).trans bf
    have fx : ∀ {a : Addr} {o : HO}, a ≠ t → h34 a = some o → frz [t] Hf a = some o := fun {a o} nt e => frz_at (bf _ _ nt (sC _ _ e)) (by simpa using nt)
    refine ⟨C, _, _, _, rfl, rfl, sqL (bf _ _ dC eC), at_lt (show r < 6 from hr6), ?_⟩
    match r, hr6 with
    | 0, _ => exact q q2 _ Hf (by decide +kernel : [[]] ∈ NX) bH Tf ⟨[p1], fx d2 (u2 _ _ e2), .cons (fx d1 (u1 _ _ e1)) .nil⟩
    | 1, _ => exact q q7 _ Hf (by decide +kernel : [[1, 2], [3], [3], []] ∈ NX) bH Tf ⟨[p3, p4, p5, p6], fx d7 (u7 _ _ e7), .cons (fx d3 (u3 _ _ e3)) (.cons (fx d4 (u4 _ _ e4)) (.cons (fx d5 (u5 _ _ e5)) (.cons (fx d6 (u6 _ _ e6)) .nil)))⟩
    | 2, _ => exact q q12 _ Hf (by decide +kernel : [[1], [2, 3], [1], []] ∈ NX) bH Tf ⟨[p8, p9, p10, p11], fx d12 (u12 _ _ e12), .cons (fx d8 (u8 _ _ e8)) (.cons (fx d9 (u9 _ _ e9)) (.cons (fx d10 (u10 _ _ e10)) (.cons (fx d11 (u11 _ _ e11)) .nil)))⟩
    | 3, _ => exact q q17 _ Hf (by decide +kernel : [[1, 2], [2], [1, 3], []] ∈ NX) bH Tf ⟨[p13, p14, p15, p16], fx d17 (u17 _ _ e17), .cons (fx d13 (u13 _ _ e13)) (.cons (fx d14 (u14 _ _ e14)) (.cons (fx d15 (u15 _ _ e15)) (.cons (fx d16 (u16 _ _ e16)) .nil)))⟩
    | 4, _ => exact q q25 _ Hf (by decide +kernel : [[1], [2, 5], [3, 4], [4], [1], []] ∈ NX) bH Tf ⟨[p19, p20, p21, p22, p23, p24], fx d25 (u25 _ _ e25), .cons (fx d19 (u19 _ _ e19)) (.cons (fx d20 (u20 _ _ e20)) (.cons (fx d21 (u21 _ _ e21)) (.cons (fx d22 (u22 _ _ e22)) (.cons (fx d23 (u23 _ _ e23)) (.cons (fx d24 (u24 _ _ e24)) .nil)))))⟩
    | 5, _ => exact q q33 _ Hf (by decide +kernel : [[1], [2, 6], [3], [4, 5], [3], [1], []] ∈ NX) bH Tf ⟨[p26, p27, p28, p29, p30, p31, p32], fx d33 (u33 _ _ e33), .cons (fx d26 (u26 _ _ e26)) (.cons (fx d27 (u27 _ _ e27)) (.cons (fx d28 (u28 _ _ e28)) (.cons (fx d29 (u29 _ _ e29)) (.cons (fx d30 (u30 _ _ e30)) (.cons (fx d31 (u31 _ _ e31)) (.cons (fx d32 (u32 _ _ e32)) .nil))))))⟩
end
end Gn
set_option Elab.async false
set_option linter.all false
set_option maxRecDepth 100000
set_option maxHeartbeats 8000000
set_option pp.maxSteps 300
namespace Gn
open PySem PySem.Spec PyProof.Rows L2
abbrev tDr (a b : TE) : TE := tCall spDraw [] E0 (tCons a (tCons b tNil))
theorem atI_neg {α : Type} {xs : List α} {r : Nat} (h : r < xs.length) : atI xs (-1 - (r : Int)) = some (xs[xs.length - 1 - r]'(by omega)) := by
  have e : ixN xs.length (-1 - (r : Int)) = some (xs.length - 1 - r) := by
    unfold ixN
    rw [if_neg (by omega), if_pos (by omega)]
    congr 1
    omega
  unfold atI
  rw [e]
  exact List.getElem?_eq_getElem _
def Rw.isB : Rw → Bool
  | .bin _ _ _ => true
  | _ => false
theorem isB_in (r : Rw) : inV (.str r.w) [.str "sum", .str "less", .str "times", .str "same", .str "below"] = r.isB := by
  cases r with
  | bin b x y => cases b <;> rfl
  | _ => (first | rfl | decide)
def Rw.isM : Rw → Bool
  | .meet _ => true
  | _ => false
theorem neq_rows (rs : List Rw) : (!PyData.eqv (.list (rs.map Rw.data)) (.list [])) = !rs.isEmpty := by
  cases rs with
  | nil => decide +kernel
  | cons a ns => rfl
def rmL (fi st n : Nat) : List Nat := (List.range n).map fun k => (fi + st * k) % 6
theorem rooms_nd1 : ∀ fi, fi < 6 → ∀ n, n < 5 → (rmL fi 1 n).Nodup := by decide +kernel
theorem rooms_nd5 : ∀ fi, fi < 6 → ∀ n, n < 5 → (rmL fi 5 n).Nodup := by decide +kernel
theorem rooms_ok {fi st n : Nat} (hf : fi < 6) (hs : st = 1 ∨ st = 5) (h1 : 1 ≤ n) (h2 : n ≤ 4) : (rmL fi st n).Nodup ∧ (∀ y ∈ rmL fi st n, y < 6) ∧ rmL fi st n ≠ [] ∧ (rmL fi st n).length ≤ 4 := by
  have hl : (rmL fi st n).length = n := by unfold rmL; rw [List.length_map, List.length_range]
  refine ⟨?_, fun y hy => ?_, fun z => ?_, by omega⟩
  · rcases hs with rfl | rfl
    · exact rooms_nd1 fi hf n (by omega)
    · exact rooms_nd5 fi hf n (by omega)
  · obtain ⟨k, _, rfl⟩ := List.mem_map.mp hy
    exact Nat.mod_lt _ (by decide)
  · rw [z] at hl
    have : 0 = n := hl
    omega
def KwOk (kw : Str) : Prop := (∃ b : Bk, kw = b.w) ∨ kw = "look" ∨ kw = "lay"
def spDrawn (K : PySem.W.Frag) : Sp := fun vs H Q _ => ∃ (t ra sa : Addr) (c : Nat) (us : List V) (rows : List Rw) (ss : List Nat) (P : Nat → Prop), vs = [.ref t, .ref ra, .ref sa] ∧ Tape H t c ∧ c + 30 ≤ 100000000 ∧ ra ≠ t ∧ sa ≠ t ∧ H ra = some (.lst us) ∧ H sa = some (.lst (ss.map iv)) ∧ Paired (RowAt K (frz [t] H)) us rows ∧ ss ≠ [] ∧ ss.length ≤ 1000 ∧ (∀ y ∈ ss, y < rows.length ∧ P y) ∧
  (∀ k ∈ ss, ∀ b x y, rows[k]? = some (.bin b x y) → P x ∧ P y) ∧
  ∀ (v : V) (r : Rw) (H' : Hp), But t H H' → Tape H' t (c + 30) → RowAt K (frz [t] H') v r → RwA P r → r.isM = false → Q v H'
abbrev nDrawn : List Str := ["_law_tape", "_law_rows", "_law_some", "_law_way", "_law_near", "_law_one", "_law_other", "_law_again", "_law_kind", "_law_parts", "_law_little", "_law_kinds", "_law_first", "_law_step", "_law_many", "_law_k", "_law_turn"]
theorem scDrawn : FnScope nDrawn ["_law_tape", "_law_rows", "_law_some"] (defScope sDrawn) := ⟨rfl, rfl, rfl, by decide +kernel, rfl, by decide +kernel, by decide +kernel⟩
section
variable {P : Program} {w : World} {K : PySem.W.Frag} {mg : Str → Option Value} {base : Heap}
theorem ok_drawn {f fD : Addr} {fd fdD : FuncData} {k : Nat} (D : Df K mg "_law_drawn_row" sDrawn ["_law_tape", "_law_rows", "_law_some"] f fd) (B : Bi mg) (DD : Df K mg "_law_draw" sDraw ["_law_tape", "_law_many"] fD fdD) (GD : FnOk P w K mg base CX0 k fD fdD ["_law_tape", "_law_many"] spDraw) : FnOk P w K mg base CX0 (k + 1) f fd ["_law_tape", "_law_rows", "_law_some"] (spDrawn K) := by
  refine D.F.ok scDrawn (fun vs H Q E h => ?_) (fun cdv A outer s H vs Q E hr h => ?_)
  · obtain ⟨t, ra, sa, c, us, rows, ss, P, rfl, _⟩ := h
    rfl
  · obtain ⟨t, ra, sa, c, us, rows, ss, PP, rfl, hT, hc, nrt, nst, hR, hS, hP0, hne, hsl, hss, hag, q⟩ := h
    refine ⟨_, (pss_cons (ps_par (i := 3) (j := 4) (by rfl) scDrawn.nd rfl rfl (by decide) rfl rfl (pa_cons (pe_call GD hr (by rfl) DD.g DD.F.kp DD.b .nil pass0 (pa_cons (pv 0) (pa_cons pe_int pa_nil))) (pa_cons (pe_ix ix_list (pv 2) (pe_op op_sub (pe_un un_neg pe_int) (pe_call GD hr (by rfl) DD.g DD.F.kp DD.b .nil pass0 (pa_cons (pv 0) (pa_cons (pe_callB (call_min2 rfl) (by rfl) B.min PyProof.Rows.boot_min (pa_cons pe_int (pa_cons (pe_callB call_len_seq (by rfl) B.len PySem.boot_len (pa_cons (pv 2) pa_nil)) pa_nil))) pa_nil)))) (fun _ _ => rfl)) pa_nil)) (by rfl))
      (pss_cons (ps_par (i := 5) (j := 6) (by rfl) scDrawn.nd rfl rfl (by decide) rfl rfl (pa_cons (pe_ix ix_list (pv 2) (pe_call GD hr (by rfl) DD.g DD.F.kp DD.b .nil pass0 (pa_cons (pv 0) (pa_cons (pe_callB call_len_seq (by rfl) B.len PySem.boot_len (pa_cons (pv 2) pa_nil)) pa_nil))) (fun _ _ => rfl)) (pa_cons (pe_ix ix_list (pe_lst (pa_cons (pv 4) (pa_cons (pe_ix ix_list (pv 2) (pe_call GD hr (by rfl) DD.g DD.F.kp DD.b .nil pass0 (pa_cons (pv 0) (pa_cons (pe_callB call_len_seq (by rfl) B.len PySem.boot_len (pa_cons (pv 2) pa_nil)) pa_nil))) (fun _ _ => rfl)) pa_nil))) (pe_call GD hr (by rfl) DD.g DD.F.kp DD.b .nil pass0 (pa_cons (pv 0) (pa_cons pe_int pa_nil))) (fun _ _ => rfl)) pa_nil)) (by rfl))
      (pss_cons (ps_setLc (i := 7) (own := [("_law_k", 15)]) (g := gName 15) (tt := tIn K (tIxT K (tIxL K (tVar 1) (tVar 15)) (tC (.int 0))) (tTup (tCons (tC (.str "sum")) (tCons (tC (.str "less")) (tCons (tC (.str "times")) (tCons (tC (.str "same")) (tCons (tC (.str "below")) tNil))))))) (te := tIxL K (tVar 1) (tVar 15)) (by rfl) scDrawn.nd rfl rfl (sw_true rfl rfl rfl (by decide +kernel)) (pi_list (pv 2)) (blkOk_by (own := [("_law_k", 15)]) (N := nDrawn) (sc := defScope sDrawn) (by decide +kernel)) (fun _ _ _ _ _ => (pg_name (i := 15) scDrawn.nd rfl (.inl rfl))) (fun _ _ _ _ _ => pts_one (pt_cmpR op_in_seq (pe_ix ix_tup (pe_ix ix_list (pv 1) (pv 15) (fun _ _ => rfl)) pe_int (fun _ _ => rfl)) (pe_tup (pa_cons pe_str (pa_cons pe_str (pa_cons pe_str (pa_cons pe_str (pa_cons pe_str pa_nil)))))) rfl)) (fun _ _ _ _ _ => (pe_ix ix_list (pv 1) (pv 15) (fun _ _ => rfl))))
      (Evl.pss_cut (ps_if (pw_and (pt_cmpR op_lt (pv 3) pe_int (nomark _)) (pw_and1 (pt_cmpR (op_neD hr.units) (pv 7) (pe_lst pa_nil) (nomark _)))).pt (pss_cons (ps_asg (pe_ix ix_list (pv 7) (pe_call GD hr (by rfl) DD.g DD.F.kp DD.b .nil pass0 (pa_cons (pv 0) (pa_cons (pe_callB call_len_seq (by rfl) B.len PySem.boot_len (pa_cons (pv 7) pa_nil)) pa_nil))) (fun _ _ => rfl)) (pg_tup rfl (pgs_cons (pg_name (i := 8) scDrawn.nd rfl (.inl rfl)) (pgs_cons (pg_name (i := 5) scDrawn.nd rfl (.inl rfl)) (pgs_cons (pg_name (i := 6) scDrawn.nd rfl (.inl rfl)) pgs_nil)))))
      (pss_one (ps_ret (pe_ifExp (pw_and (pt_cmpR op_in_seq (pv 8) (pe_tup (pa_cons pe_str (pa_cons pe_str (pa_cons pe_str pa_nil)))) rfl) (pw_and1 (pt_cmpR op_eq (pv 3) pe_int (nomark _)))).pt (pe_tup (pa_cons (pv 8) (pa_cons (pv 6) (pa_cons (pv 5) pa_nil)))) (pe_tup (pa_cons (pv 8) (pa_cons (pv 5) (pa_cons (pv 6) pa_nil)))))))) pss_nil)
      (pss_cons (ps_if (pt_cmpR op_eq (pv 3) pe_int (nomark _)) (pss_one (ps_ret (pe_tup (pa_cons pe_str (pa_cons (pe_call GD hr (by rfl) DD.g DD.F.kp DD.b .nil pass0 (pa_cons (pv 0) (pa_cons pe_int pa_nil))) pa_nil))))) pss_nil)
      (pss_cons (ps_if (pt_cmpR op_eq (pv 3) pe_int (nomark _)) (pss_one (ps_ret (pe_tup (pa_cons pe_str (pa_cons (pe_ix ix_list (pe_lst (pa_cons pe_int (pa_cons pe_int (pa_cons pe_int (pa_cons (pe_un un_neg pe_int) (pa_cons pe_int pa_nil)))))) (pe_call GD hr (by rfl) DD.g DD.F.kp DD.b .nil pass0 (pa_cons (pv 0) (pa_cons pe_int pa_nil))) (fun _ _ => rfl)) pa_nil))))) pss_nil)
      (pss_cons (ps_if (pt_cmpR op_eq (pv 3) pe_int (nomark _)) (pss_cons (ps_set (i := 9) scDrawn.nd rfl (.inl rfl) (pe_ix ix_list (pe_lst (pa_cons pe_int (pa_cons pe_int (pa_cons pe_int (pa_cons pe_int pa_nil))))) (pe_call GD hr (by rfl) DD.g DD.F.kp DD.b .nil pass0 (pa_cons (pv 0) (pa_cons pe_int pa_nil))) (fun _ _ => rfl)))
      (pss_one (ps_ret (pe_tup (pa_cons pe_str (pa_cons (pv 5) (pa_cons (pe_callTy call_tuple_of (by rfl) B.tuple PyProof.Rows.boot_tuple (pa_cons (pe_lc (own := [("_law_turn", 16)]) (g := gName 16) (tt := tYes) (te := tIxL K (tVar 2) (tDr (tVar 0) (tLen K (tVar 2)))) rfl scDrawn.nd (pi_range1 (by rfl) B.range (pa_cons (pv 9) pa_nil)) (blkOk_by (own := [("_law_turn", 16)]) (N := nDrawn) (sc := defScope sDrawn) (by decide +kernel)) (fun _ _ _ _ _ => (pg_name (i := 16) scDrawn.nd rfl (.inl rfl))) (fun _ _ _ _ _ => pts_nil) (fun _ _ _ _ _ => (pe_ix ix_list (pv 2) (pe_call GD hr (by rfl) DD.g DD.F.kp DD.b .nil pass0 (pa_cons (pv 0) (pa_cons (pe_callB call_len_seq (by rfl) B.len PySem.boot_len (pa_cons (pv 2) pa_nil)) pa_nil))) (fun _ _ => rfl)))) pa_nil)) pa_nil))))))) pss_nil)
      (Evl.pss_cut (ps_set (i := 10) scDrawn.nd rfl (.inl rfl) (pe_or (pe_callB (cr_all rfl) (by rfl) B.all (by decide +kernel) (pa_cons (pe_lc (own := [("_law_k", 15)]) (g := gName 15) (tt := tYes) (te := tOp (rIn K false) (tIxT K (tIxL K (tVar 1) (tVar 15)) (tC (.int 0))) (tTup (tCons (tC (.str "take")) (tCons (tC (.str "same")) (tCons (tC (.str "below")) tNil))))) rfl scDrawn.nd (pi_tup (pe_tup (pa_cons (pv 5) (pa_cons (pv 6) pa_nil)))) (blkOk_by (own := [("_law_k", 15)]) (N := nDrawn) (sc := defScope sDrawn) (by decide +kernel)) (fun _ _ _ _ _ => (pg_name (i := 15) scDrawn.nd rfl (.inl rfl))) (fun _ _ _ _ _ => pts_nil) (fun _ _ _ _ _ => (pe_cmpR op_in_seq (pe_ix ix_tup (pe_ix ix_list (pv 1) (pv 15) (fun _ _ => rfl)) pe_int (fun _ _ => rfl)) (pe_tup (pa_cons pe_str (pa_cons pe_str (pa_cons pe_str pa_nil)))) rfl))) pa_nil)) (pe_one (pe_cmpR op_eq (pe_ix ix_tup (pe_ix ix_list (pv 1) (pv 5) (fun _ _ => rfl)) pe_int (fun _ _ => rfl)) pe_str (nomark _)))))
      (Evl.pss_cut (ps_set (i := 11) scDrawn.nd rfl (.inl rfl) (pe_lst (pa_cons (pe_ifExp (pt_val (pv 10)) pe_str pe_str) (pa_cons pe_str (pa_cons pe_str (pa_cons pe_str (pa_cons pe_str (pa_cons pe_str pa_nil))))))))
      (Evl.pss_cut (ps_if (pw_and (pt_cmpR op_eq (pv 3) pe_int (nomark _)) (pw_and1 (pt_cmpR op_eq (pe_call GD hr (by rfl) DD.g DD.F.kp DD.b .nil pass0 (pa_cons (pv 0) (pa_cons pe_int pa_nil))) pe_int (nomark _)))).pt (pss_one (ps_ret (pe_tup (pa_cons pe_str (pa_cons (pv 5) pa_nil))))) pss_nil)
      (Evl.pss_cut (ps_asg (pe_tup (pa_cons (pe_ix ix_list (pv 11) (pe_ifExp (pt_cmpR op_gt (pv 3) pe_int (nomark _)) (pe_op op_sub (pv 3) pe_int) pe_int) (fun _ _ => rfl)) (pa_cons (pe_call GD hr (by rfl) DD.g DD.F.kp DD.b .nil pass0 (pa_cons (pv 0) (pa_cons pe_int pa_nil))) pa_nil))) (pg_tup rfl (pgs_cons (pg_name (i := 8) scDrawn.nd rfl (.inl rfl)) (pgs_cons (pg_name (i := 12) scDrawn.nd rfl (.inr rfl)) pgs_nil))))
      (pss_cons (ps_asg (pe_tup (pa_cons (pe_ix ix_list (pe_lst (pa_cons pe_int (pa_cons pe_int pa_nil))) (pe_call GD hr (by rfl) DD.g DD.F.kp DD.b .nil pass0 (pa_cons (pv 0) (pa_cons pe_int pa_nil))) (fun _ _ => rfl)) (pa_cons (pe_ix ix_list (pe_lst (pa_cons pe_int (pa_cons pe_int (pa_cons pe_int (pa_cons pe_int (pa_cons pe_int pa_nil)))))) (pe_call GD hr (by rfl) DD.g DD.F.kp DD.b .nil pass0 (pa_cons (pv 0) (pa_cons pe_int pa_nil))) (fun _ _ => rfl)) pa_nil))) (pg_tup rfl (pgs_cons (pg_name (i := 13) scDrawn.nd rfl (.inr rfl)) (pgs_cons (pg_name (i := 14) scDrawn.nd rfl (.inl rfl)) pgs_nil))))
      (pss_cons (ps_if (pt_cmpR op_notIn_seq (pv 8) (pe_tup (pa_cons pe_str (pa_cons pe_str pa_nil))) rfl) (pss_one (ps_ret (pe_tup (pa_cons (pv 8) (pa_cons (pv 5) (pa_cons (pv 6) pa_nil)))))) pss_nil)
      (pss_one (ps_ret (pe_slice sl_tupA (pe_tup (pa_cons (pv 8) (pa_cons (pe_callTy call_tuple_of (by rfl) B.tuple PyProof.Rows.boot_tuple (pa_cons (pe_lc (own := [("_law_k", 15)]) (g := gName 15) (tt := tYes) (te := tOp (rI (fun _ j => 0 < j) fun i j => .int (i % j)) (tOp (rI0 fun i j => .int (i + j)) (tVar 12) (tOp (rI CMul fun i j => .int (i * j)) (tVar 13) (tVar 15))) (tC (.int 6))) rfl scDrawn.nd (pi_range1 (by rfl) B.range (pa_cons (pv 14) pa_nil)) (blkOk_by (own := [("_law_k", 15)]) (N := nDrawn) (sc := defScope sDrawn) (by decide +kernel)) (fun _ _ _ _ _ => (pg_name (i := 15) scDrawn.nd rfl (.inl rfl))) (fun _ _ _ _ _ => pts_nil) (fun _ _ _ _ _ => pe_op op_mod (pe_op op_add (pv 12) (pe_op op_mul (pv 13) (pv 15))) pe_int)) pa_nil)) (pa_cons (pv 5) (pa_cons (pv 6) pa_nil))))) po_none (po_some (pe_op op_add pe_int (pe_callTy call_int1 (by rfl) B.int PyProof.Rows.boot_int (pa_cons (pe_cmpR op_eq (pv 8) pe_str (nomark _)) pa_nil)))))))))))))))))))), ?_⟩
    have G0t : frz [t] H t = none := by unfold frz; rw [if_pos (by simp)]
    have gof : ∀ {Hx : Hp}, But t H Hx → Same (frz [t] H) Hx := fun {Hx} b => Same.bt (frz_same _ _) G0t b
    have hlen : 0 < ss.length := List.length_pos_iff.mpr hne
    have hml : (ss.map iv).length = ss.length := List.length_map _
    -- a number out of the list, by a draw
    have pick1 : ∀ {r : Nat}, r < ss.length → ∃ y, y ∈ ss ∧ (ss.map iv)[r]? = some (iv y) := fun {r} h => ⟨ss[r], List.getElem_mem h, by rw [List.getElem?_map, List.getElem?_eq_getElem h]; rfl⟩
    have fin : ∀ (r : Rw) (xs : List V) (Hx : Hp) (cx : Nat), But t H Hx → Tape Hx t cx → cx ≤ c + 30 → xs.length ≤ 10 → RwA PP r → r.isM = false → Rest K (frz [t] Hx) r xs → (V.str r.w :: xs).length ≤ sizeLine ∧ ∀ p, Hx p = none → Q (.ref p) (upd Hx p (.tup (.str r.w :: xs))) := fun r xs Hx cx b T hcx hxl hA hm hrest => by
      refine ⟨szl (by rw [List.length_cons]; omega), fun p np => ?_⟩
      exact q (.ref p) r _ (b.trans (Same.but (new_same np))) ((T.same (new_same np)).mono hcx) ⟨p, xs, rfl, sqT (frz_at upd_same (by simpa using T.ne np)), hrest.same (Bm.frz (Bm.of_same (new_same np)))⟩ hA hm
    have hbS : ∀ {Hx : Hp}, But t H Hx → Hx sa = some (.lst (ss.map iv)) := fun {Hx} b => b _ _ nst hS
    have hbR : ∀ {Hx : Hp}, But t H Hx → Hx ra = some (.lst us) := fun {Hx} b => b _ _ nrt hR
    -- the first four
    refine ⟨.ref t, rfl, t, 12, c, rfl, hT, by omega, by decide, by decide, fun way H1 hw b1 T1 => ?_⟩
    have hmin : (if ((ss.map iv).length : Int) < 3 then ((ss.map iv).length : Int) else 3) ≤ ss.length ∧ 0 < (if ((ss.map iv).length : Int) < 3 then ((ss.map iv).length : Int) else 3) ∧ (if ((ss.map iv).length : Int) < 3 then ((ss.map iv).length : Int) else 3) ≤ 1000000 := by
      rw [hml]
      split <;> omega
    refine ⟨.ref sa, rfl, 1, rfl, .ref t, rfl, .ref sa, rfl, sa, _, rfl, .inl (sqL (hbS b1)), _, _, rfl, t, _, c + 1, rfl, T1, by omega, hmin.2.1, hmin.2.2, fun r2 H2 h2 b2 T2 => ?_⟩
    have hr2 : r2 < (ss.map iv).length := by rw [hml]; omega
    have b12 := b1.trans b2
    obtain ⟨near, hnear, ena⟩ : ∃ y, y ∈ ss ∧ atI (ss.map iv) (-1 - (r2 : Int)) = some (iv y) := by
      obtain ⟨y, h1, h2⟩ := pick1 (r := ss.length - 1 - r2) (by omega)
      refine ⟨y, h1, ?_⟩
      rw [atI_neg hr2, ← h2, ← hml, List.getElem?_eq_getElem]
    refine ⟨_, _, rfl, rfl, sa, _, _, _, rfl, rfl, sqL (hbS b12), ena, _, _, rfl, ?_⟩
    refine ⟨.ref sa, rfl, .ref t, rfl, .ref sa, rfl, sa, _, rfl, .inl (sqL (hbS b12)), t, _, c + 2, rfl, T2, by omega, by rw [hml]; omega, by rw [hml]; omega, fun r3 H3 h3 b3 T3 => ?_⟩
    have b13 := b12.trans b3
    obtain ⟨one, hone, eone⟩ := pick1 (r := r3) (by rw [hml] at h3; omega)
    refine ⟨sa, _, _, _, rfl, rfl, sqL (hbS b13), atI_nat eone, ?_⟩
    refine ⟨iv near, rfl, .ref sa, rfl, .ref t, rfl, .ref sa, rfl, sa, _, rfl, .inl (sqL (hbS b13)), t, _, c + 3, rfl, T3, by omega, by rw [hml]; omega, by rw [hml]; omega, fun r4 H4 h4 b4 T4 => ?_⟩
    have b14 := b13.trans b4
    obtain ⟨oth, hoth, eoth⟩ := pick1 (r := r4) (by rw [hml] at h4; omega)
    refine ⟨sa, _, _, _, rfl, rfl, sqL (hbS b14), atI_nat eoth, szl (show 2 ≤ 1000000 by decide), fun l5 n5 => ?_⟩
    have s5 := new_same (o := .lst [iv near, iv oth]) n5
    have nl5 : l5 ≠ t := T4.ne n5
    refine ⟨.ref t, rfl, t, 2, c + 4, rfl, T4.same s5, by omega, by decide, by decide, fun r6 H6 h6 b6 T6 => ?_⟩
    obtain ⟨other, hother, hat⟩ : ∃ y, y ∈ ss ∧ atI [iv near, iv oth] (r6 : Int) = some (iv y) := by
      have : r6 = 0 ∨ r6 = 1 := by omega
      rcases this with rfl | rfl
      · exact ⟨near, hnear, atI_nat (j := 0) rfl⟩
      · exact ⟨oth, hoth, atI_nat (j := 1) rfl⟩
    refine ⟨l5, _, _, _, rfl, rfl, sqL (b6 _ _ nl5 upd_same), hat, _, _, rfl, ?_⟩
    have b16 : But t H H6 := (b14.trans (Same.but s5)).trans b6
    clear hat b1 b2 b3 b4 b6 b12 b13 b14 T1 T2 T3 T4 s5 nl5 n5 eone eoth ena hmin
    have hw12 : way < 12 := by omega
    -- reckonings that are there
    refine ⟨.ref sa, rfl, sa, rfl, ⟨_, sqL (hbS b16)⟩, fun L nL => ?_⟩
    have nLt : L ≠ t := T6.ne nL
    refine lc_list (K := K) (a := sa) (xs := ss.map iv) (fun i Hx => Same H6 Hx ∧ ∃ (vs : List V) (rs : List Rw), Hx L = some (.lst vs) ∧ Paired (RowAt K (frz [t] H)) vs rs ∧ vs.length ≤ i ∧ ∀ r ∈ rs, ∃ b x y, r = .bin b x y ∧ PP x ∧ PP y) ⟨new_same nL, [], [], upd_same, .nil, Nat.le_refl _, fun r hr => (by cases hr)⟩ (fun i Hx _ hP => sqL (hP.1 _ _ (hbS b16))) (fun i x Hx hx hP => ?_) (fun Hx hP => ?_)
    · obtain ⟨s7, vs, rs, eL, pL, hvl, hrs⟩ := hP
      rw [List.getElem?_map] at hx
      obtain ⟨y, hy, rfl⟩ := Option.map_eq_some_iff.mp hx
      have hyl := (List.getElem?_eq_some_iff.mp hy).1
      have hys := List.mem_of_getElem? hy
      have hyr := (hss y hys).1
      obtain ⟨u, hu1, hu2⟩ := pd_at hP0 (gdl (d := Rw.take 0) hyr)
      obtain ⟨z, zs, rfl, hz, hz2⟩ := id hu2
      have b7 := b16.trans (Same.but (t := t) s7)
      refine ⟨rfl, .ref ra, rfl, iv y, rfl, ra, us, _, .ref z, rfl, rfl, sqL (hbR b7), atI_nat hu1, z, _, _, _, rfl, rfl, Same.tup (gof b7) hz, atI_nat (j := 0) rfl, szl (show 5 ≤ 1000000 by decide), fun T nT => ?_⟩
      have sT := new_same (o := .tup [.str "sum", .str "less", .str "times", .str "same", .str "below"]) nT
      have eT : upd Hx T (.tup [.str "sum", .str "less", .str "times", .str "same", .str "below"]) T = some (.tup [.str "sum", .str "less", .str "times", .str "same", .str "below"]) := upd_same
      have s8 := s7.trans sT
      have eL8 := sT _ _ eL
      generalize upd Hx T (.tup [.str "sum", .str "less", .str "times", .str "same", .str "below"]) = H8 at sT eT s8 eL8
      have b8 := b16.trans (Same.but (t := t) s8)
      refine ⟨T, _, rfl, .inr (sqT eT), rfl, rfl, _, rfl, ?_⟩
      show if inV (.str (rows.getD y (.take 0)).w) [.str "sum", .str "less", .str "times", .str "same", .str "below"] = true then _ else _
      rw [isB_in]
      refine ite2 (fun e => ?_) (fun e => ?_)
      · refine ⟨.ref ra, rfl, iv y, rfl, ra, us, _, .ref z, rfl, rfl, sqL (hbR b8), atI_nat hu1, vs, eL8, szt (by omega), fun b o e => ?_, vs ++ [.ref z], rs ++ [rows.getD y (.take 0)], upd_same, pd_app pL (.cons hu2 .nil), by rw [List.length_append]; exact Nat.add_le_add_right hvl 1, fun r hr => ?_⟩
        · rw [upd_ne (ne_of_none e nL)]
          exact s8 _ _ e
        · rcases List.mem_append.mp hr with w | w
          · exact hrs r w
          · rw [List.mem_singleton.mp w]
            have hg := gdl (d := Rw.take 0) hyr
            cases hq : rows.getD y (.take 0) with
            | bin b x1 x2 =>
              rw [hq] at hg
              obtain ⟨p1, p2⟩ := hag y hys b x1 x2 hg
              exact ⟨b, x1, x2, rfl, p1, p2⟩
            | _ => rw [hq] at e; cases e
      · exact ⟨s8, vs, rs, eL8, pL, Nat.le_succ_of_le hvl, hrs⟩
    obtain ⟨s7, vs, rs, eL, pL, hvl, hrs⟩ := hP
    have b7 := b16.trans (Same.but (t := t) s7)
    have T7 := T6.same s7
    rw [hml] at hvl
    have hvr : vs.length = rs.length := pd_len pL
    clear s7 T6 b16 nL
    generalize Hx = H7 at b7 T7 eL
    have hw0 : ∀ {j : Nat}, decide (V.int (way : Int) = V.int (j : Int)) = decide (way = j) := fun {j} => by
      by_cases z : way = j
      · rw [decide_eq_true z, z]; exact decide_eq_true rfl
      · rw [decide_eq_false z]
        exact decide_eq_false fun q => z (by have := V.int.inj q; omega)
    -- once more
    refine ⟨fun σ Hx => σ = [some (.ref t), some (.ref ra), some (.ref sa), some (iv way), some (iv near), some (iv one), some (iv other), some (.ref L), none, none, none, none, none, none, none, none, none] ∧ But t H Hx ∧ Tape Hx t (c + 6), ?_, fun σ Hx hM => ?_⟩
    · refine ⟨_, rfl, _, _, rfl, rfl, _, rfl, ite2 (fun e => ?_) (fun e => ⟨rfl, b7, T7.mono (by omega)⟩)⟩
      refine ⟨.ref L, rfl, Nat.zero_le _, fun l nl => ?_⟩
      have sl := new_same (o := .lst []) nl
      have el : upd H7 l (.lst []) l = some (.lst []) := upd_same
      have b8 := b7.trans (Same.but (t := t) sl)
      have T8 := T7.same sl
      have eL8 := sl _ _ eL
      generalize upd H7 l (.lst []) = H8 at sl el b8 T8 eL8
      refine ⟨_, .list [], .lst (sqL eL8) (rows_dp (pd_mono pL fun _ _ z => z.same (gof b8))), .lst (sqL el) .nil, sh_rows _, sh_nil, _, rfl, ?_⟩
      show if (!PyData.eqv (.list (rs.map Rw.data)) (.list [])) = true then _ else _
      rw [neq_rows]
      refine ite2 (fun e2 => ?_) (fun e2 => ⟨rfl, b8, T8.mono (by omega)⟩)
      have hrn : rs ≠ [] := fun z => by rw [z] at e2; cases e2
      have hrp : 0 < rs.length := List.length_pos_iff.mpr hrn
      refine ⟨.ref L, rfl, .ref t, rfl, .ref L, rfl, L, vs, rfl, .inl (sqL eL8), t, _, c + 5, rfl, T8, by omega, by omega, by omega, fun r9 H9 h9 b9 T9 => ?_⟩
      have hr9 : r9 < vs.length := by omega
      have b19 := b8.trans b9
      obtain ⟨rw_, hrw1, hrw2⟩ := pd_at2 pL (List.getElem?_eq_getElem hr9)
      obtain ⟨bk, x, y, rfl, px, py⟩ := hrs rw_ (List.mem_of_getElem? hrw1)
      obtain ⟨z, zs, ez, hz, hzs⟩ := hrw2
      have hzs : zs = [iv x, iv y] := hzs
      subst hzs
      refine ⟨L, _, _, vs[r9], rfl, rfl, sqL (b9 _ _ nLt eL8), atI_nat (List.getElem?_eq_getElem hr9), ?_⟩
      refine ⟨z, _, ez, Same.tup (gof b19) hz, rfl, _, _, rfl, _, _, rfl, _, _, rfl, rfl, ?_⟩
      refine ⟨.str bk.w, rfl, szl (show 3 ≤ 1000000 by decide), fun T nT => ?_⟩
      have sT := new_same (o := .tup [.str "sum", .str "times", .str "same"]) nT
      have eT : upd H9 T (.tup [.str "sum", .str "times", .str "same"]) T = some (.tup [.str "sum", .str "times", .str "same"]) := upd_same
      have bT := b19.trans (Same.but (t := t) sT)
      have TT := T9.same sT
      generalize upd H9 T (.tup [.str "sum", .str "times", .str "same"]) = HT' at sT eT bT TT
      have f1 := fin (.bin bk y x) [iv y, iv x] HT' _ bT TT (by omega) (by simp) ⟨py, px⟩ rfl rfl
      have f2 := fin (.bin bk x y) [iv x, iv y] HT' _ bT TT (by omega) (by simp) ⟨px, py⟩ rfl rfl
      refine ⟨T, _, rfl, .inr (sqT eT), rfl, rfl, _, rfl, ite2 (fun e3 => ?_) (fun e3 => ⟨_, rfl, _, rfl, _, rfl, f2⟩)⟩
      exact ⟨_, rfl, rfl, _, rfl, ite2 (fun e4 => ⟨_, rfl, _, rfl, _, rfl, f1⟩) (fun e4 => ⟨_, rfl, _, rfl, _, rfl, f2⟩)⟩
    obtain ⟨rfl, b9, T9⟩ := hM
    clear eL pL hrs hvr b7 T7
    -- take
    refine ⟨iv way, rfl, rfl, _, rfl, ite2 (fun e => ?_) (fun e5 => ?_)⟩
    · exact ⟨.ref t, rfl, t, 2, c + 6, rfl, T9, by omega, by decide, by decide, fun r Hy hr' by_ Ty => fin (.take r) [iv r] Hy _ (b9.trans by_) Ty (by omega) (by simp) (show r < 6 by omega) rfl rfl⟩
    -- num
    refine ⟨iv way, rfl, rfl, _, rfl, ite2 (fun e => ?_) (fun e6 => ?_)⟩
    · refine ⟨1, rfl, szl (show 5 ≤ 1000000 by decide), fun l nl => ?_⟩
      have sl := new_same (o := .lst [.int 0, .int 1, .int 2, .int (-1), .int 5]) nl
      have nlt : l ≠ t := T9.ne nl
      refine ⟨.ref t, rfl, t, 5, c + 6, rfl, T9.same sl, by omega, by decide, by decide, fun r Hy hr' by_ Ty => ?_⟩
      have hb := (b9.trans (Same.but (t := t) sl)).trans by_
      obtain ⟨n, hn, hat⟩ : ∃ n : Int, (-10 ^ 12 ≤ n ∧ n ≤ 10 ^ 12) ∧ atI [V.int 0, .int 1, .int 2, .int (-1), .int 5] (r : Int) = some (.int n) := by
        have hr5 : r < 5 := by omega
        match r, hr5 with
        | 0, _ => exact ⟨0, by decide, atI_nat (j := 0) rfl⟩
        | 1, _ => exact ⟨1, by decide, atI_nat (j := 1) rfl⟩
        | 2, _ => exact ⟨2, by decide, atI_nat (j := 2) rfl⟩
        | 3, _ => exact ⟨-1, by decide, atI_nat (j := 3) rfl⟩
        | 4, _ => exact ⟨5, by decide, atI_nat (j := 4) rfl⟩
      exact ⟨l, _, _, _, rfl, rfl, sqL (by_ _ _ nlt upd_same), hat, fin (.num n) [.int n] Hy _ hb Ty (by omega) (by simp) hn rfl rfl⟩
    -- pick
    refine ⟨iv way, rfl, rfl, _, rfl, ite2 (fun e => ?_) (fun e7 => ?_)⟩
    · refine ⟨szl (show 4 ≤ 1000000 by decide), fun l nl => ?_⟩
      have sl := new_same (o := .lst [.int 1, .int 2, .int 3, .int 6]) nl
      have nlt : l ≠ t := T9.ne nl
      refine ⟨.ref t, rfl, t, 4, c + 6, rfl, T9.same sl, by omega, by decide, by decide, fun r Hy hr' by_ Ty => ?_⟩
      have hb := (b9.trans (Same.but (t := t) sl)).trans by_
      obtain ⟨n, hn1, hn2, hat⟩ : ∃ n : Nat, 1 ≤ n ∧ n ≤ 6 ∧ atI [V.int 1, .int 2, .int 3, .int 6] (r : Int) = some (iv n) := by
        have hr5 : r < 4 := by omega
        match r, hr5 with
        | 0, _ => exact ⟨1, by decide, by decide, atI_nat (j := 0) rfl⟩
        | 1, _ => exact ⟨2, by decide, by decide, atI_nat (j := 1) rfl⟩
        | 2, _ => exact ⟨3, by decide, by decide, atI_nat (j := 2) rfl⟩
        | 3, _ => exact ⟨6, by decide, by decide, atI_nat (j := 3) rfl⟩
      refine ⟨l, _, _, _, rfl, rfl, sqL (by_ _ _ nlt upd_same), hat, ?_⟩
      refine ⟨iv one, rfl, iv n, rfl, (n : Int), rfl, by omega, by omega, fun M nM => ?_⟩
      have nMt : M ≠ t := Ty.ne nM
      refine lc_range (lo := 0) (n := (n : Int).toNat) (fun i Hz => But t H Hz ∧ Tape Hz t (c + 7 + i) ∧ ∃ ps : List Nat, Hz M = some (.lst (ps.map iv)) ∧ ps.length = i ∧ ∀ y ∈ ps, y ∈ ss) ⟨hb.trans (Same.but (new_same nM)), Ty.same (new_same nM), [], upd_same, rfl, fun y hy => (by cases hy)⟩ (fun i Hz hi hP => ?_) (fun Hz hP => ?_)
      · obtain ⟨bz, Tz, ps, eM, hpl, hps⟩ := hP
        refine ⟨rfl, .ref sa, rfl, .ref t, rfl, .ref sa, rfl, sa, _, rfl, .inl (sqL (hbS bz)), t, _, c + 7 + i, rfl, Tz, by omega, by rw [hml]; omega, by rw [hml]; omega, fun r2 Hw h2 b2 T2 => ?_⟩
        obtain ⟨y, hy, ey⟩ := pick1 (r := r2) (by rw [hml] at h2; omega)
        have bw := bz.trans b2
        refine ⟨sa, _, _, _, rfl, rfl, sqL (hbS bw), atI_nat ey, _, b2 _ _ nMt eM, by rw [List.length_map]; exact szt (by omega), fun a o na z => ?_, ?_, ps ++ [y], by rw [upd_same, List.map_append]; rfl, by rw [List.length_append, hpl]; rfl, fun u hu => ?_⟩
        · by_cases zz : a = M
          · subst zz
            exact absurd (hb _ _ na z) (by rw [nM]; intro w; cases w)
          · rw [upd_ne zz]
            exact bw _ _ na z
        · obtain ⟨x, y, z, q1, q2⟩ := T2
          exact ⟨x, y, z, by rw [upd_ne nMt.symm]; exact q1, q2.1, q2.2.1, q2.2.2.1, q2.2.2.2.1, by have := q2.2.2.2.2; omega⟩
        · rcases List.mem_append.mp hu with w | w
          · exact hps u w
          · rw [List.mem_singleton.mp w]; exact hy
      · obtain ⟨bz, Tz, ps, eM, hpl, hps⟩ := hP
        refine ⟨M, _, rfl, .inl ⟨sqL eM, fun R nR => ?_⟩⟩
        have sR := new_same (o := .tup (ps.map iv)) nR
        have nRt : R ≠ t := Tz.ne nR
        exact fin (.pick one ps) [iv one, .ref R] _ _ (bz.trans (Same.but (t := t) sR)) (Tz.same sR) (by omega) (by simp) ⟨(hss one hone).2, fun y hy => (hss y (hps y hy)).2, fun z => by rw [z] at hpl; simp at hpl; omega, by omega⟩ rfl ⟨R, rfl, sqT (frz_at upd_same (by simpa using nRt))⟩
    have hway : way ≠ 3 ∧ way ≠ 4 ∧ way ≠ 5 := by
      refine ⟨fun z => ?_, fun z => ?_, fun z => ?_⟩
      · rw [z] at e5; exact e5 rfl
      · rw [z] at e6; exact e6 rfl
      · rw [z] at e7; exact e7 rfl
    clear e5 e6 e7
    -- little
    refine ⟨fun σ Hx => ∃ lb : Bool, σ = [some (.ref t), some (.ref ra), some (.ref sa), some (iv way), some (iv near), some (iv one), some (iv other), some (.ref L), none, none, some (.bl lb), none, none, none, none, none, none] ∧ But t H Hx ∧ Tape Hx t (c + 6), ?_, fun σ Hx hM => ?_⟩
    · refine ⟨iv one, rfl, iv other, rfl, szl (show 2 ≤ 1000000 by decide), fun T nT => ?_⟩
      have sT := new_same (o := .tup [iv one, iv other]) nT
      have eT : upd Hx T (.tup [iv one, iv other]) T = some (.tup [iv one, iv other]) := upd_same
      have bT := b9.trans (Same.but (t := t) sT)
      have TT := T9.same sT
      generalize upd Hx T (.tup [iv one, iv other]) = Hy at sT eT bT TT
      refine ⟨T, rfl, ⟨_, sqT eT⟩, fun M nM => ?_⟩
      refine lc_tup (K := K) (a := T) (xs := [iv one, iv other]) (fun i Hz => Same Hy Hz ∧ ∃ bs : List Bool, Hz M = some (.lst (bs.map V.bl)) ∧ bs.length ≤ i) ⟨new_same nM, [], upd_same, Nat.le_refl _⟩ (fun i Hz _ hP => sqT (hP.1 _ _ eT)) (fun i x Hz hx hP => ?_) (fun Hz hP => ?_)
      · obtain ⟨sz, bs, eM, hbl⟩ := hP
        obtain ⟨y, hys, rfl⟩ : ∃ y, y ∈ ss ∧ x = iv y := by
          match i, hx with
          | 0, hx => exact ⟨one, hone, (Option.some.inj hx).symm⟩
          | 1, hx => exact ⟨other, hother, (Option.some.inj hx).symm⟩
        have hi2 : i < 2 := (List.getElem?_eq_some_iff.mp hx).1
        have hyr := (hss y hys).1
        obtain ⟨u, hu1, z, zs, rfl, hz, _⟩ := pd_at hP0 (gdl (d := Rw.take 0) hyr)
        have bz := bT.trans (Same.but (t := t) sz)
        refine ⟨rfl, .ref ra, rfl, iv y, rfl, ra, us, _, .ref z, rfl, rfl, sqL (hbR bz), atI_nat hu1, z, _, _, _, rfl, rfl, Same.tup (gof bz) hz, atI_nat (j := 0) rfl, szl (show 3 ≤ 1000000 by decide), fun T2 nT2 => ?_⟩
        have sT2 := new_same (o := .tup [.str "take", .str "same", .str "below"]) nT2
        have eT2 : upd Hz T2 (.tup [.str "take", .str "same", .str "below"]) T2 = some (.tup [.str "take", .str "same", .str "below"]) := upd_same
        have eM2 := sT2 _ _ eM
        have sz2 := sz.trans sT2
        generalize upd Hz T2 (.tup [.str "take", .str "same", .str "below"]) = Hw at sT2 eT2 eM2 sz2
        refine ⟨T2, _, rfl, .inr (sqT eT2), rfl, rfl, _, eM2, by rw [List.length_map]; exact szt (by omega), fun b o z => ?_, bs ++ [_], by rw [upd_same, List.map_append]; rfl, by rw [List.length_append]; exact Nat.add_le_add_right hbl 1⟩
        rw [upd_ne (ne_of_none z nM)]
        exact sz2 _ _ z
      obtain ⟨sz, bs, eM, hbl⟩ := hP
      have bz := bT.trans (Same.but (t := t) sz)
      have Tz := TT.same sz
      refine ⟨M, bs, rfl, sqL eM, _, rfl, ite2 (fun e => ⟨true, rfl, bz, Tz⟩) (fun e => ?_)⟩
      obtain ⟨u, hu1, z, zs, rfl, hz, _⟩ := pd_at hP0 (gdl (d := Rw.take 0) (hss one hone).1)
      exact ⟨.ref ra, rfl, iv one, rfl, ra, us, _, .ref z, rfl, rfl, sqL (hbR bz), atI_nat hu1, z, _, _, _, rfl, rfl, Same.tup (gof bz) hz, atI_nat (j := 0) rfl, rfl, _, rfl, bz, Tz⟩
    obtain ⟨lb, rfl, b9, T9⟩ := hM
    -- kinds
    refine ⟨fun σ Hx => ∃ (KL : Addr) (kb : Bk), σ = [some (.ref t), some (.ref ra), some (.ref sa), some (iv way), some (iv near), some (iv one), some (iv other), some (.ref L), none, none, some (.bl lb), some (.ref KL), none, none, none, none, none] ∧ But t H Hx ∧ Tape Hx t (c + 6) ∧ KL ≠ t ∧ Hx KL = some (.lst [V.str kb.w, .str "same", .str "below", .str "less", .str "look", .str "lay"]), ?_, fun σ Hx hM => ?_⟩
    · refine ⟨.bl lb, rfl, lb, rfl, ite2 (fun e => ?_) (fun e => ?_)⟩
      · exact ⟨szl (show 6 ≤ 1000000 by decide), fun KL nK => ⟨KL, .times, rfl, b9.trans (Same.but (new_same nK)), T9.same (new_same nK), T9.ne nK, upd_same⟩⟩
      · exact ⟨szl (show 6 ≤ 1000000 by decide), fun KL nK => ⟨KL, .sum, rfl, b9.trans (Same.but (new_same nK)), T9.same (new_same nK), T9.ne nK, upd_same⟩⟩
    obtain ⟨KL, kb, rfl, b9, T9, nK, eK⟩ := hM
    -- tell
    refine ⟨fun σ Hx => σ = [some (.ref t), some (.ref ra), some (.ref sa), some (iv way), some (iv near), some (iv one), some (iv other), some (.ref L), none, none, some (.bl lb), some (.ref KL), none, none, none, none, none] ∧ But t H Hx ∧ Tape Hx t (c + 7) ∧ Hx KL = some (.lst [V.str kb.w, .str "same", .str "below", .str "less", .str "look", .str "lay"]), ?_, fun σ Hx hM => ?_⟩
    · refine ⟨iv way, rfl, rfl, _, rfl, ite2 (fun e => ?_) (fun e => ⟨rfl, b9, T9.mono (by omega), eK⟩)⟩
      refine ⟨.ref t, rfl, t, 2, c + 6, rfl, T9, by omega, by decide, by decide, fun r Hy hr' by_ Ty => ⟨rfl, _, rfl, ite2 (fun e => ?_) (fun e => ⟨rfl, b9.trans by_, Ty, by_ _ _ nK eK⟩)⟩⟩
      exact ⟨iv one, rfl, fin (.tell one) [iv one] Hy _ (b9.trans by_) Ty (by omega) (by simp) (hss one hone).2 rfl rfl⟩
    obtain ⟨rfl, ba, Ta, eK⟩ := hM
    clear b9 T9
    -- the kind, the first room
    refine ⟨fun σ Hx => ∃ (kw : Str) (fi : Nat), KwOk kw ∧ fi < 6 ∧ σ = [some (.ref t), some (.ref ra), some (.ref sa), some (iv way), some (iv near), some (iv one), some (iv other), some (.ref L), some (.str kw), none, some (.bl lb), some (.ref KL), some (iv fi), none, none, none, none] ∧ But t H Hx ∧ Tape Hx t (c + 8), ?_, fun σ Hx hM => ?_⟩
    · refine ⟨.ref KL, rfl, iv way, rfl, _, _, rfl, rfl, _, rfl, ite2 (fun e => ?_) (fun e => ?_)⟩
      · have hw5 : 5 < way := by have := of_decide_eq_true e; omega
        obtain ⟨kw, hkw, hat⟩ : ∃ kw : Str, KwOk kw ∧ atI [V.str kb.w, .str "same", .str "below", .str "less", .str "look", .str "lay"] (((way - 6) : Nat) : Int) = some (.str kw) := by
          match hj : (way - 6), (show (way - 6) < 6 by omega) with
          | 0, _ => exact ⟨kb.w, .inl ⟨kb, rfl⟩, atI_nat (j := 0) rfl⟩
          | 1, _ => exact ⟨"same", .inl ⟨.same, rfl⟩, atI_nat (j := 1) rfl⟩
          | 2, _ => exact ⟨"below", .inl ⟨.below, rfl⟩, atI_nat (j := 2) rfl⟩
          | 3, _ => exact ⟨"less", .inl ⟨.less, rfl⟩, atI_nat (j := 3) rfl⟩
          | 4, _ => exact ⟨"look", .inr (.inl rfl), atI_nat (j := 4) rfl⟩
          | 5, _ => exact ⟨"lay", .inr (.inr rfl), atI_nat (j := 5) rfl⟩
        have hat2 : atI [V.str kb.w, .str "same", .str "below", .str "less", .str "look", .str "lay"] ((way : Int) - 6) = some (.str kw) := by rw [← hat]; congr 1; omega
        refine ⟨iv way, rfl, _, _, rfl, rfl, ?_⟩
        refine ⟨KL, _, _, .str kw, rfl, rfl, sqL eK, hat2, .ref t, rfl, t, 6, c + 7, rfl, Ta, by omega, by decide, by decide, fun fi Hc hfi bc Tc => ?_⟩
        refine ⟨szl (show 2 ≤ 1000000 by decide), fun T nT => ?_⟩
        have sT := new_same (o := .tup [.str kw, iv fi]) nT
        exact ⟨T, _, rfl, sqT upd_same, rfl, _, _, rfl, _, _, rfl, rfl, kw, fi, hkw, by omega, rfl, (ba.trans bc).trans (Same.but (t := t) sT), Tc.same sT⟩
      · have hat2 : atI [V.str kb.w, .str "same", .str "below", .str "less", .str "look", .str "lay"] (3 : Int) = some (.str "less") := atI_nat (j := 3) rfl
        have hkw : KwOk "less" := .inl ⟨.less, rfl⟩
        refine ⟨KL, _, _, .str "less", rfl, rfl, sqL eK, hat2, .ref t, rfl, t, 6, c + 7, rfl, Ta, by omega, by decide, by decide, fun fi Hc hfi bc Tc => ?_⟩
        refine ⟨szl (show 2 ≤ 1000000 by decide), fun T nT => ?_⟩
        have sT := new_same (o := .tup [.str "less", iv fi]) nT
        exact ⟨T, _, rfl, sqT upd_same, rfl, _, _, rfl, _, _, rfl, rfl, "less", fi, hkw, by omega, rfl, (ba.trans bc).trans (Same.but (t := t) sT), Tc.same sT⟩
    obtain ⟨kw, fi, hkw, hfi, rfl, ba, Ta⟩ := hM
    clear eK
    -- steps, how many
    refine ⟨szl (show 2 ≤ 1000000 by decide), fun l1 n1 => ?_⟩
    have s1 := new_same (o := .lst [.int 1, .int 5]) n1
    have nl1 : l1 ≠ t := Ta.ne n1
    refine ⟨.ref t, rfl, t, 2, c + 8, rfl, Ta.same s1, by omega, by decide, by decide, fun r2 H2 h2 b2 T2 => ?_⟩
    obtain ⟨st, hst, hat⟩ : ∃ st : Nat, (st = 1 ∨ st = 5) ∧ atI [V.int 1, .int 5] (r2 : Int) = some (iv st) := by
      have : r2 = 0 ∨ r2 = 1 := by omega
      rcases this with rfl | rfl
      · exact ⟨1, .inl rfl, atI_nat (j := 0) rfl⟩
      · exact ⟨5, .inr rfl, atI_nat (j := 1) rfl⟩
    refine ⟨l1, _, _, _, rfl, rfl, sqL (b2 _ _ nl1 upd_same), hat, szl (show 5 ≤ 1000000 by decide), fun l3 n3 => ?_⟩
    have s3 := new_same (o := .lst [.int 1, .int 1, .int 2, .int 3, .int 4]) n3
    have nl3 : l3 ≠ t := T2.ne n3
    refine ⟨.ref t, rfl, t, 5, c + 9, rfl, T2.same s3, by omega, by decide, by decide, fun r4 H4 h4 b4 T4 => ?_⟩
    obtain ⟨mn, hm1, hm2, hat3⟩ : ∃ mn : Nat, 1 ≤ mn ∧ mn ≤ 4 ∧ atI [V.int 1, .int 1, .int 2, .int 3, .int 4] (r4 : Int) = some (iv mn) := by
      have hr5 : r4 < 5 := by omega
      match r4, hr5 with
      | 0, _ => exact ⟨1, by decide, by decide, atI_nat (j := 0) rfl⟩
      | 1, _ => exact ⟨1, by decide, by decide, atI_nat (j := 1) rfl⟩
      | 2, _ => exact ⟨2, by decide, by decide, atI_nat (j := 2) rfl⟩
      | 3, _ => exact ⟨3, by decide, by decide, atI_nat (j := 3) rfl⟩
      | 4, _ => exact ⟨4, by decide, by decide, atI_nat (j := 4) rfl⟩
    refine ⟨l3, _, _, _, rfl, rfl, sqL (b4 _ _ nl3 upd_same), hat3, szl (show 2 ≤ 1000000 by decide), fun T5 n5 => ?_⟩
    have s5 := new_same (o := .tup [iv st, iv mn]) n5
    have e5 : upd H4 T5 (.tup [iv st, iv mn]) T5 = some (.tup [iv st, iv mn]) := upd_same
    have b5 : But t H (upd H4 T5 (.tup [iv st, iv mn])) := (((ba.trans (Same.but s1)).trans b2).trans (Same.but s3)).trans (b4.trans (Same.but s5))
    have T5' := T4.same s5
    generalize upd H4 T5 (.tup [iv st, iv mn]) = H5 at e5 b5 T5'
    refine ⟨T5, _, rfl, sqT e5, rfl, _, _, rfl, _, _, rfl, rfl, ?_⟩
    clear s1 s3 s5 b2 b4 T2 T4 ba Ta hat hat3 n1 n3 n5 nl1 nl3
    -- no rooms
    refine ⟨.str kw, rfl, szl (show 2 ≤ 1000000 by decide), fun T6 n6 => ?_⟩
    have s6 := new_same (o := .tup [.str "look", .str "lay"]) n6
    have e6 : upd H5 T6 (.tup [.str "look", .str "lay"]) T6 = some (.tup [.str "look", .str "lay"]) := upd_same
    have b6 := b5.trans (Same.but (t := t) s6)
    have T6' := T5'.same s6
    generalize upd H5 T6 (.tup [.str "look", .str "lay"]) = H6 at s6 e6 b6 T6'
    refine ⟨T6, _, rfl, .inr (sqT e6), rfl, rfl, _, rfl, ?_⟩
    show if (!inV (.str kw) [.str "look", .str "lay"]) = true then _ else _
    obtain ⟨r1, r2, r3, r4⟩ := rooms_ok hfi hst hm1 hm2
    rcases hkw with ⟨bk, rfl⟩ | hkw
    · have hin : (!inV (.str bk.w) [.str "look", .str "lay"]) = true := by cases bk <;> rfl
      rw [hin]
      exact ⟨_, rfl, _, rfl, _, rfl, fin (.bin bk one other) [iv one, iv other] H6 _ b6 T6' (by omega) (by simp) ⟨(hss one hone).2, (hss other hother).2⟩ rfl rfl⟩
    have hin : (!inV (.str kw) [.str "look", .str "lay"]) = false := by rcases hkw with rfl | rfl <;> decide +kernel
    rw [hin]
    refine ⟨.str kw, rfl, iv mn, rfl, (mn : Int), rfl, by omega, by omega, fun M nM => ?_⟩
    refine lc_range (lo := 0) (n := (mn : Int).toNat) (fun i Hz => Same H6 Hz ∧ Hz M = some (.lst (((List.range i).map fun k => (fi + st * k) % 6).map iv))) ⟨new_same nM, upd_same⟩ (fun i Hz hi hP => ?_) (fun Hz hP => ?_)
    · obtain ⟨sz, eM⟩ := hP
      have hst5 : st ≤ 5 := by omega
      refine ⟨rfl, iv fi, rfl, iv st, rfl, _, rfl, _, _, rfl, rfl, .inl ⟨by omega, by omega⟩, _, _, rfl, rfl, _, _, rfl, rfl, (by decide : (0 : Int) < 6), _, eM, by rw [List.length_map, List.length_map, List.length_range]; exact szt (by omega), fun b o z => ?_, ?_⟩
      · rw [upd_ne (ne_of_none z nM)]
        exact sz _ _ z
      · rw [upd_same, List.range_succ, List.map_append, List.map_append]
        have ev : V.int (((fi : Int) + (st : Int) * (0 + (i : Int))) % 6) = iv ((fi + st * i) % 6) := by
          rw [Int.zero_add]
          show V.int _ = V.int (((fi + st * i) % 6 : Nat) : Int)
          rw [Int.natCast_emod, Int.natCast_add, Int.natCast_mul]
          rfl
        show some (HO.lst (List.map iv (List.map (fun k => (fi + st * k) % 6) (List.range i)) ++ [V.int (((fi : Int) + (st : Int) * (0 + (i : Int))) % 6)])) = _
        rw [ev]
        rfl
    obtain ⟨sz, eM⟩ := hP
    rw [Int.toNat_natCast] at eM
    have eM : Hz M = some (.lst ((rmL fi st mn).map iv)) := eM
    have bz := b6.trans (Same.but (t := t) sz)
    have Tz := T6'.same sz
    refine ⟨M, _, rfl, .inl ⟨sqL eM, fun R nR => ?_⟩⟩
    have sR := new_same (o := .tup ((rmL fi st mn).map iv)) nR
    have nRt : R ≠ t := Tz.ne nR
    have bR := bz.trans (Same.but (t := t) sR)
    have TR := Tz.same sR
    have eR : frz [t] (upd Hz R (.tup ((rmL fi st mn).map iv))) R = some (.tup ((rmL fi st mn).map iv)) := frz_at upd_same (by simpa using nRt)
    generalize upd Hz R (.tup ((rmL fi st mn).map iv)) = H8 at sR bR TR eR
    have f2 := fin (.lay (rmL fi st mn) one other) [.ref R, iv one, iv other] H8 _ bR TR (by omega) (by simp) ⟨(hss one hone).2, (hss other hother).2, r1, r2, r3, r4⟩ rfl ⟨R, rfl, sqT eR⟩
    refine ⟨iv one, rfl, iv other, rfl, szl (show 4 ≤ 1000000 by decide), fun T9 n9 => ?_⟩
    rcases hkw with rfl | rfl
    · have s9 := new_same (o := .tup [.str "look", .ref R, iv one, iv other]) n9
      have f1 := fin (.look (rmL fi st mn) one) [.ref R, iv one] _ _ (bR.trans (Same.but (t := t) s9)) (TR.same s9) (by omega) (by simp) ⟨(hss one hone).2, r1, r2, r3, r4⟩ rfl ⟨R, rfl, sqT (Bm.frz (Bm.of_same s9) _ _ eR)⟩
      refine ⟨.str "look", rfl, rfl, .inr ⟨_, rfl, ?_⟩⟩
      rw [show decide (V.str "look" = V.str "lay") = false from by decide +kernel]
      refine ⟨_, _, rfl, rfl, _, rfl, T9, _, rfl, sqT upd_same, fun hwh => ?_, fun hnw p np => ?_⟩
      · exact absurd hwh (show ¬ (HT.sIx 4 0 none = 0 ∧ HT.sIx 4 4 (some 3) = 4) by decide)
      · exact f1.2 p np
    · refine ⟨.str "lay", rfl, rfl, .inr ⟨_, rfl, ?_⟩⟩
      rw [show decide (V.str "lay" = V.str "lay") = true from decide_eq_true rfl]
      refine ⟨_, _, rfl, rfl, _, rfl, T9, _, rfl, sqT upd_same, fun hwh => f2.2 T9 n9, fun hnw p np => ?_⟩
      exact absurd (show (HT.sIx 4 0 none = 0 ∧ HT.sIx 4 4 (some 4) = 4) by decide) hnw
end
end Gn
set_option Elab.async false
set_option linter.all false
set_option maxRecDepth 100000
set_option maxHeartbeats 8000000
set_option pp.maxSteps 300
namespace Gn
open PySem PySem.Spec PyProof.Rows L2
/-! ### programs -/
inductive En | go (b : Nat) | iff (r b c : Nat) | fin
def EnAt (K : PySem.W.Frag) (H : Hp) (v : V) : En → Prop
  | .go b => ∃ p, v = .ref p ∧ SqT K H p [.str "go", iv b]
  | .iff r b c => ∃ p, v = .ref p ∧ SqT K H p [.str "if", iv r, iv b, iv c]
  | .fin => ∃ p, v = .ref p ∧ SqT K H p [.str "end"]
abbrev Blk := List Rw × En
theorem EnAt.same {K : PySem.W.Frag} {H H' : Hp} {v : V} {e : En} (h : EnAt K H v e) (g : Same H H') : EnAt K H' v e := by
  cases e <;> (obtain ⟨p, h1, h2⟩ := h; exact ⟨p, h1, Same.tup g h2⟩)
def EnB (m n : Nat) : En → Prop
  | .go b => b < m
  | .iff r b c => r < n ∧ b < m ∧ c < m
  | .fin => True
def BlkB (m n : Nat) (b : Blk) : Prop := b.1.length ≤ n ∧ (∀ r ∈ b.1, RwA (· < n) r) ∧ EnB m n b.2
/-- a block, its rows in a list of its own -/
def BkM (K : PySem.W.Frag) (F H : Hp) (q : Addr × Addr) (b : Blk) : Prop := ∃ ea vs, SqT K F q.1 [.ref q.2, ea] ∧ H q.2 = some (.lst vs) ∧ Paired (RowAt K F) vs b.1 ∧ EnAt K F ea b.2
/-- a program whose lists may be changed -/
structure PgM (K : PySem.W.Frag) (t fo : Addr) (H : Hp) (qs : List (Addr × Addr)) (pr : List Blk) : Prop where
  top : H fo = some (.lst (qs.map fun q => V.ref q.1))
  nt : fo ≠ t
  nd : (qs.map (·.2)).Nodup
  nf : ∀ q ∈ qs, q.2 ≠ fo ∧ q.2 ≠ t
  bk : Paired (BkM K (frz [t] H) H) qs pr
/-! ### while rows grow -/
structure S1 (K : PySem.W.Frag) (G : Hp) (t bg ra ba : Addr) (H : Hp) (c : Nat) (rows : List Rw) (blocks begins : List Nat) : Prop where
  tape : Tape H t c
  g : Same G H
  bgd : H bg = some (.lst (begins.map iv))
  rw_ : ∃ us, frz [t, bg] H ra = some (.lst us) ∧ Paired (RowAt K (frz [t, bg] H)) us rows
  bl : frz [t, bg] H ba = some (.lst (blocks.map iv))
  gr : G ra = none
  nab : ra ≠ ba
/-- what stays as it is -/
structure S0 (G : Hp) (t bg na : Addr) (nx : List (List Nat)) : Prop where
  gt : G t = none
  gb : G bg = none
  ne : t ≠ bg
  nr : NR G na nx
  nx_ : nx ∈ NX
theorem S1.but {K : PySem.W.Frag} {G : Hp} {t bg ra ba na : Addr} {H H' : Hp} {c c' : Nat} {rows : List Rw} {blocks begins : List Nat} {nx : List (List Nat)} (s : S1 K G t bg ra ba H c rows blocks begins) (z : S0 G t bg na nx) (b : But t H H') (T : Tape H' t c') : S1 K G t bg ra ba H' c' rows blocks begins := by
  have f : Same (frz [t, bg] H) (frz [t, bg] H') := Bm.frz (Bm.of_but b (by simp))
  obtain ⟨us, h1, h2⟩ := s.rw_
  exact ⟨T, Same.bt s.g z.gt b, b _ _ z.ne.symm s.bgd, ⟨us, f _ _ h1, pd_mono h2 fun _ _ y => y.same f⟩, f _ _ s.bl, s.gr, s.nab⟩
theorem S1.same {K : PySem.W.Frag} {G : Hp} {t bg ra ba na : Addr} {H H' : Hp} {c : Nat} {rows : List Rw} {blocks begins : List Nat} {nx : List (List Nat)} (s : S1 K G t bg ra ba H c rows blocks begins) (z : S0 G t bg na nx) (e : Same H H') : S1 K G t bg ra ba H' c rows blocks begins :=
  s.but z (Same.but e) (s.tape.same e)
theorem S1.mono {K : PySem.W.Frag} {G : Hp} {t bg ra ba : Addr} {H : Hp} {c c' : Nat} {rows : List Rw} {blocks begins : List Nat} (s : S1 K G t bg ra ba H c rows blocks begins) (h : c ≤ c') : S1 K G t bg ra ba H c' rows blocks begins :=
  ⟨s.tape.mono h, s.g, s.bgd, s.rw_, s.bl, s.gr, s.nab⟩
theorem frz_le {t bg : Addr} {H : Hp} : Same (frz [t, bg] H) (frz [t] H) := fun a o e => by
  have h1 := frz_mem e
  simp only [List.mem_cons, List.not_mem_nil, or_false, not_or] at h1
  exact frz_at (frz_same _ _ _ _ e) (by simpa using h1.1)
theorem frz_ne2 {t bg a : Addr} {H : Hp} {o : HO} (e : frz [t, bg] H a = some o) : a ≠ t ∧ a ≠ bg := by
  have h1 := frz_mem e
  simp only [List.mem_cons, List.not_mem_nil, or_false, not_or] at h1
  exact h1
theorem frz2 {t bg a : Addr} {H : Hp} {o : HO} (h : H a = some o) (n1 : a ≠ t) (n2 : a ≠ bg) : frz [t, bg] H a = some o := frz_at h (by simp [n1, n2])
theorem Bm_upd {M : List Addr} {H : Hp} {a : Addr} {o : HO} (h : a ∈ M) : Bm M H (upd H a o) := fun x u n e => by
  rw [upd_ne (fun z : x = a => n (by rw [z]; exact h))]
  exact e
theorem S1.bgn {K : PySem.W.Frag} {G : Hp} {t bg ra ba na : Addr} {H : Hp} {c z : Nat} {rows : List Rw} {blocks begins : List Nat} {nx : List (List Nat)} (s : S1 K G t bg ra ba H c rows blocks begins) (w : S0 G t bg na nx) : S1 K G t bg ra ba (upd H bg (.lst (begins.map iv ++ [iv z]))) c rows blocks (begins ++ [z]) := by
  have f : Same (frz [t, bg] H) (frz [t, bg] (upd H bg (.lst (begins.map iv ++ [iv z])))) := Bm.frz (Bm_upd (by simp))
  obtain ⟨us, h1, h2⟩ := s.rw_
  refine ⟨?_, Same.upd s.g w.gb, by rw [upd_same, List.map_append]; rfl, ⟨us, f _ _ h1, pd_mono h2 fun _ _ y => y.same f⟩, f _ _ s.bl, s.gr, s.nab⟩
  obtain ⟨x, y, n, a, r⟩ := s.tape
  exact ⟨x, y, n, by rw [upd_ne w.ne]; exact a, r⟩
theorem tup_frz2 {K : PySem.W.Frag} {H : Hp} {t bg a : Addr} {xs ys : List V} (h : SqT K (frz [t] H) a xs) (e : H bg = some (.lst ys)) : SqT K (frz [t, bg] H) a xs := by
  rcases h with (h | ⟨u, h⟩) | h
  · refine .inl (.inl (frz2 (frz_same _ _ _ _ h) (by simpa using frz_mem h) fun z => ?_))
    have := frz_same _ _ _ _ h
    rw [z, e] at this
    cases this
  · refine .inl (.inr ⟨u, frz2 (frz_same _ _ _ _ h) (by simpa using frz_mem h) fun z => ?_⟩)
    have := frz_same _ _ _ _ h
    rw [z, e] at this
    cases this
  · exact .inr h
theorem row_tups {K : PySem.W.Frag} {H H' : Hp} {v : V} {r : Rw} (h : RowAt K H v r) (g : ∀ {a : Addr} {xs : List V}, SqT K H a xs → SqT K H' a xs) : RowAt K H' v r := by
  obtain ⟨p, xs, h1, h2, h3⟩ := h
  refine ⟨p, xs, h1, g h2, ?_⟩
  cases r with
  | pick x ps =>
    obtain ⟨q, h4, h5⟩ := h3
    exact ⟨q, h4, g h5⟩
  | meet ps =>
    obtain ⟨q, h4, h5⟩ := h3
    exact ⟨q, h4, g h5⟩
  | look rs x =>
    obtain ⟨q, h4, h5⟩ := h3
    exact ⟨q, h4, g h5⟩
  | lay rs x y =>
    obtain ⟨q, h4, h5⟩ := h3
    exact ⟨q, h4, g h5⟩
  | _ => exact h3
theorem row_frz2 {K : PySem.W.Frag} {H : Hp} {t bg : Addr} {v : V} {r : Rw} {ys : List V} (h : RowAt K (frz [t] H) v r) (e : H bg = some (.lst ys)) : RowAt K (frz [t, bg] H) v r := row_tups h fun z => tup_frz2 z e
theorem S1.grow {K : PySem.W.Frag} {G : Hp} {t bg ra ba na ra' ba' : Addr} {H Hf : Hp} {c c' b : Nat} {rows : List Rw} {blocks begins : List Nat} {nx : List (List Nat)} {us : List V} {v : V} {r : Rw} (s : S1 K G t bg ra ba H c rows blocks begins) (w : S0 G t bg na nx) (bt : But t H Hf) (T : Tape Hf t c')
    (hp : Paired (RowAt K (frz [t, bg] H)) us rows) (hv : RowAt K (frz [t, bg] Hf) v r) (er : Hf ra' = some (.lst (us ++ [v]))) (n1 : ra' ≠ t) (n2 : ra' ≠ bg) (eb : Hf ba' = some (.lst (blocks.map iv ++ [iv b]))) (n3 : ba' ≠ t) (n4 : ba' ≠ bg) (hgr : G ra' = none) (hnab : ra' ≠ ba') : S1 K G t bg ra' ba' Hf c' (rows ++ [r]) (blocks ++ [b]) begins := by
  have f : Same (frz [t, bg] H) (frz [t, bg] Hf) := Bm.frz (Bm.of_but bt (by simp))
  exact ⟨T, Same.bt s.g w.gt bt, bt _ _ w.ne.symm s.bgd, ⟨us ++ [v], frz2 er n1 n2, pd_app (pd_mono hp fun _ _ y => y.same f) (.cons hv .nil)⟩, frz2 (by rw [eb, List.map_append]; rfl) n3 n4, hgr, hnab⟩
theorem tup_frz_upd {K : PySem.W.Frag} {M : List Addr} {H : Hp} {ra a : Addr} {xs us : List V} {o : HO} (h : SqT K (frz M H) a xs) (e : H ra = some (.lst us)) : SqT K (frz M (upd H ra o)) a xs := by
  rcases h with (h | ⟨u, h⟩) | h
  · have h2 := frz_same _ _ _ _ h
    refine .inl (.inl (frz_at (by rw [upd_ne (fun z => by rw [z, e] at h2; cases h2)]; exact h2) (frz_mem h)))
  · have h2 := frz_same _ _ _ _ h
    refine .inl (.inr ⟨u, frz_at (by rw [upd_ne (fun z => by rw [z, e] at h2; cases h2)]; exact h2) (frz_mem h)⟩)
  · exact .inr h
theorem pd_set {α β : Type} {F : α → β → Prop} {a : α} {b : β} (hf : F a b) : ∀ {l : List α} {m : List β} (i : Nat), Paired F l m → Paired F (l.set i a) (m.set i b)
  | _, _, _, .nil => .nil
  | _, _, 0, .cons h t => .cons hf t
  | _, _, i + 1, .cons h t => .cons h (pd_set hf i t)
theorem S1.setrow {K : PySem.W.Frag} {G : Hp} {t bg ra ba na : Addr} {H : Hp} {c i : Nat} {rows : List Rw} {blocks begins : List Nat} {nx : List (List Nat)} {us : List V} {v : V} {r : Rw} (s : S1 K G t bg ra ba H c rows blocks begins) (w : S0 G t bg na nx)
    (er : H ra = some (.lst us)) (hp : Paired (RowAt K (frz [t, bg] H)) us rows) (hv : RowAt K (frz [t, bg] H) v r) : S1 K G t bg ra ba (upd H ra (.lst (us.set i v))) c (rows.set i r) blocks begins := by
  obtain ⟨us', h1, _⟩ := s.rw_
  obtain ⟨n1, n2⟩ := frz_ne2 h1
  obtain ⟨n3, n4⟩ := frz_ne2 s.bl
  have g : ∀ {a : Addr} {xs : List V}, SqT K (frz [t, bg] H) a xs → SqT K (frz [t, bg] (upd H ra (.lst (us.set i v)))) a xs := fun h => tup_frz_upd h er
  refine ⟨?_, Same.upd s.g s.gr, by rw [upd_ne n2.symm]; exact s.bgd, ⟨us.set i v, frz2 upd_same n1 n2, pd_mono (pd_set hv i hp) fun _ _ y => row_tups y g⟩, frz2 (by rw [upd_ne s.nab.symm]; exact frz_same _ _ _ _ s.bl) n3 n4, s.gr, s.nab⟩
  obtain ⟨x, y, n, a, q⟩ := s.tape
  exact ⟨x, y, n, by rw [upd_ne n1.symm]; exact a, q⟩
theorem isM_dec (r : Rw) : decide (V.str r.w = V.str "meet") = r.isM := by
  cases r with
  | bin b x y => cases b <;> rfl
  | meet ps => exact decide_eq_true rfl
  | take _ => rfl
  | num _ => rfl
  | pick _ _ => rfl
  | tell _ => rfl
  | look _ _ => rfl
  | lay _ _ _ => rfl
theorem en_tups {K : PySem.W.Frag} {H H' : Hp} {v : V} {e : En} (h : EnAt K H v e) (g : ∀ {a : Addr} {xs : List V}, SqT K H a xs → SqT K H' a xs) : EnAt K H' v e := by
  cases e <;> (obtain ⟨p, h1, h2⟩ := h; exact ⟨p, h1, g h2⟩)
theorem BkM.upd {K : PySem.W.Frag} {t a : Addr} {H : Hp} {q : Addr × Addr} {b : Blk} {us : List V} {o : HO} (h : BkM K (frz [t] H) H q b) (e : H a = some (.lst us)) (n : q.2 ≠ a) : BkM K (frz [t] (upd H a o)) (upd H a o) q b := by
  obtain ⟨ea, vs, h1, h2, h3, h4⟩ := h
  have g : ∀ {x : Addr} {xs : List V}, SqT K (frz [t] H) x xs → SqT K (frz [t] (L2.upd H a o)) x xs := fun z => tup_frz_upd z e
  exact ⟨ea, vs, g h1, by rw [upd_ne n]; exact h2, pd_mono h3 fun _ _ y => row_tups y g, en_tups h4 g⟩
theorem BkM.but {K : PySem.W.Frag} {t : Addr} {H H' : Hp} {q : Addr × Addr} {b : Blk} (h : BkM K (frz [t] H) H q b) (bt : But t H H') (n : q.2 ≠ t) : BkM K (frz [t] H') H' q b := by
  obtain ⟨ea, vs, h1, h2, h3, h4⟩ := h
  have f : Same (frz [t] H) (frz [t] H') := Bm.frz (Bm.of_but bt (by simp))
  exact ⟨ea, vs, Same.tup f h1, bt _ _ n h2, pd_mono h3 fun _ _ y => y.same f, h4.same f⟩
theorem pd_memmono {α β : Type} {F G : α → β → Prop} : ∀ {l : List α} {m : List β}, Paired F l m → (∀ a b, a ∈ l → F a b → G a b) → Paired G l m
  | _, _, .nil, _ => .nil
  | _, _, .cons h t, g => .cons (g _ _ List.mem_cons_self h) (pd_memmono t fun a b ha => g a b (List.mem_cons_of_mem _ ha))
theorem pd_mem {α β : Type} {F : α → β → Prop} {a : α} : ∀ {l : List α} {m : List β}, Paired F l m → a ∈ l → ∃ b, b ∈ m ∧ F a b
  | _, _, .nil, h => by cases h
  | _, _, .cons (b := b) h t, hm => by
    rcases List.mem_cons.mp hm with rfl | hm
    · exact ⟨b, List.mem_cons_self, h⟩
    · obtain ⟨b', h1, h2⟩ := pd_mem t hm
      exact ⟨b', List.mem_cons_of_mem _ h1, h2⟩
theorem PgM.but {K : PySem.W.Frag} {t fo : Addr} {H H' : Hp} {qs : List (Addr × Addr)} {pr : List Blk} (h : PgM K t fo H qs pr) (bt : But t H H') : PgM K t fo H' qs pr :=
  ⟨bt _ _ h.nt h.top, h.nt, h.nd, h.nf, pd_memmono h.bk fun a b ha z => z.but bt (h.nf a ha).2⟩
theorem pd_drop {α β : Type} {F : α → β → Prop} : ∀ {l : List α} {m : List β} (n : Nat), Paired F l m → Paired F (l.drop n) (m.drop n)
  | _, _, _, .nil => by simp; exact .nil
  | _, _, 0, .cons h t => .cons h t
  | _, _, n + 1, .cons h t => pd_drop n t
theorem pd_take {α β : Type} {F : α → β → Prop} : ∀ {l : List α} {m : List β} (n : Nat), Paired F l m → Paired F (l.take n) (m.take n)
  | _, _, _, .nil => by simp; exact .nil
  | _, _, 0, .cons h t => .nil
  | _, _, n + 1, .cons h t => .cons h (pd_take n t)
/-- a block more -/
theorem PgM.snoc {K : PySem.W.Frag} {t fo : Addr} {H : Hp} {qs : List (Addr × Addr)} {pr : List Blk} {q : Addr × Addr} {b : Blk} (h : PgM K t fo H qs pr) (hb : BkM K (frz [t] H) H q b) (n1 : q.2 ≠ fo) (n2 : q.2 ≠ t) (n3 : q.2 ∉ qs.map (·.2)) : PgM K t fo (L2.upd H fo (.lst ((qs.map fun q => V.ref q.1) ++ [.ref q.1]))) (qs ++ [q]) (pr ++ [b]) := by
  refine ⟨by rw [upd_same, List.map_append]; rfl, h.nt, ?_, fun x hx => ?_, ?_⟩
  · rw [List.map_append]
    refine List.nodup_append.mpr ⟨h.nd, by simp, fun a ha b hb' => ?_⟩
    have : b = q.2 := by simpa using hb'
    rw [this]
    exact fun z => n3 (z ▸ ha)
  · rcases List.mem_append.mp hx with w | w
    · exact h.nf x w
    · rw [List.mem_singleton.mp w]; exact ⟨n1, n2⟩
  · exact pd_app (pd_memmono h.bk fun a b ha z => z.upd h.top (h.nf a ha).1) (.cons (hb.upd h.top n1) .nil)
/-- rows more in the last block -/
theorem PgM.ext {K : PySem.W.Frag} {t fo : Addr} {H : Hp} {qs : List (Addr × Addr)} {pr : List Blk} {q : Addr × Addr} {rs rs2 : List Rw} {e : En} {ea : V} {vs ws : List V} (h : PgM K t fo H (qs ++ [q]) (pr ++ [(rs, e)])) (h1 : SqT K (frz [t] H) q.1 [.ref q.2, ea]) (h2 : H q.2 = some (.lst vs)) (h3 : Paired (RowAt K (frz [t] H)) vs rs) (h4 : EnAt K (frz [t] H) ea e)
    (hw : Paired (RowAt K (frz [t] H)) ws rs2) : PgM K t fo (L2.upd H q.2 (.lst (vs ++ ws))) (qs ++ [q]) (pr ++ [(rs ++ rs2, e)]) := by
  have hq := h.nf q (by simp)
  have g : ∀ {x : Addr} {xs : List V}, SqT K (frz [t] H) x xs → SqT K (frz [t] (L2.upd H q.2 (.lst (vs ++ ws)))) x xs := fun z => tup_frz_upd z h2
  have hnd := h.nd
  rw [List.map_append] at hnd
  have hnd2 := (List.nodup_append.mp hnd).2.2
  have hpd : Paired (BkM K (frz [t] H) H) qs pr := by
    have hbk := h.bk
    have hl := pd_len hbk
    have hl2 : qs.length = pr.length := by simpa using hl
    have := pd_take qs.length hbk
    rw [List.take_left' rfl, List.take_left' hl2.symm] at this
    exact this
  refine ⟨by rw [upd_ne hq.1.symm]; exact h.top, h.nt, h.nd, h.nf, pd_app (pd_memmono hpd fun a b ha z => z.upd h2 ?_) (.cons ⟨ea, vs ++ ws, g h1, upd_same, pd_mono (pd_app h3 hw) fun _ _ y => row_tups y g, en_tups h4 g⟩ .nil)⟩
  exact hnd2 a.2 (List.mem_map_of_mem ha) q.2 (by simp)
/-- the pure facts -/
structure P1 (nx : List (List Nat)) (rows : List Rw) (blocks : List Nat) (n : Nat) : Prop where
  len : blocks.length = rows.length
  le : rows.length ≤ n
  b7 : ∀ y ∈ blocks, y < nx.length
  r0 : rows[0]? = some (.take 0)
  b0 : blocks[0]? = some 0
  rb : ∀ r ∈ rows, RwA (· < rows.length) r
theorem P1.zero {nx : List (List Nat)} {rows : List Rw} {blocks : List Nat} {n b : Nat} (p : P1 nx rows blocks n) (h : nx ∈ NX) : 0 ∈ standL nx blocks rows b := by
  refine stand_mem.mpr ⟨(List.getElem?_eq_some_iff.mp p.b0).1, ?_, ?_⟩
  · rw [List.getD_eq_getElem?_getD, p.b0]
    show b ∉ reachF nx 0
    rw [reach0 nx h]
    simp
  · rw [List.getD_eq_getElem?_getD, p.r0]
    rfl
theorem P1.lt {nx : List (List Nat)} {rows : List Rw} {blocks : List Nat} {n b : Nat} (p : P1 nx rows blocks n) : ∀ y ∈ standL nx blocks rows b, y < rows.length := fun y hy => by
  have := (stand_mem.mp hy).1
  rw [p.len] at this
  exact this
theorem P1.snoc {nx : List (List Nat)} {rows : List Rw} {blocks : List Nat} {n b : Nat} {r : Rw} (p : P1 nx rows blocks n) (hb : b < nx.length) (hr : RwA (· < rows.length) r) : P1 nx (rows ++ [r]) (blocks ++ [b]) (n + 1) := by
  have hl : (rows ++ [r]).length = rows.length + 1 := by rw [List.length_append, List.length_singleton]
  refine ⟨?_, ?_, fun y hy => ?_, ?_, ?_, fun q hq => ?_⟩
  · rw [hl, List.length_append, List.length_singleton, p.len]
  · rw [hl]; exact Nat.add_le_add_right p.le 1
  · rcases List.mem_append.mp hy with w | w
    · exact p.b7 y w
    · rw [List.mem_singleton.mp w]; exact hb
  · rw [List.getElem?_append_left (List.getElem?_eq_some_iff.mp p.r0).1]; exact p.r0
  · rw [List.getElem?_append_left (List.getElem?_eq_some_iff.mp p.b0).1]; exact p.b0
  · rw [hl]
    rcases List.mem_append.mp hq with w | w
    · exact (p.rb q w).mono fun y hy => Nat.lt_succ_of_lt hy
    · rw [List.mem_singleton.mp w]; exact hr.mono fun y hy => Nat.lt_succ_of_lt hy
theorem P1.set {nx : List (List Nat)} {rows : List Rw} {blocks : List Nat} {n i : Nat} {r : Rw} (p : P1 nx rows blocks n) (hi : 0 < i) (hr : RwA (· < rows.length) r) : P1 nx (rows.set i r) blocks n := by
  have hl : (rows.set i r).length = rows.length := List.length_set
  refine ⟨by rw [hl]; exact p.len, by rw [hl]; exact p.le, p.b7, by rw [List.getElem?_set_ne (by omega)]; exact p.r0, p.b0, fun q hq => ?_⟩
  rw [hl]
  rcases List.mem_or_eq_of_mem_set hq with w | w
  · exact p.rb q w
  · rw [w]; exact hr
theorem P1.mono {nx : List (List Nat)} {rows : List Rw} {blocks : List Nat} {n n' : Nat} (p : P1 nx rows blocks n) (h : n ≤ n') : P1 nx rows blocks n' := ⟨p.len, Nat.le_trans p.le h, p.b7, p.r0, p.b0, p.rb⟩
theorem leads_bd : ∀ nx ∈ NX, ∀ b, b < 7 → (leadsF nx b).length ≤ 6 ∧ ∀ l ∈ leadsF nx b, l < 7 := by decide +kernel
def spProgram (K : PySem.W.Frag) : Sp := fun vs H Q _ => ∃ (t : Addr) (c : Nat), vs = [.ref t, iv 5] ∧ Tape H t c ∧ c + 10000 ≤ 100000000 ∧
  ∀ (fo : Addr) (qs : List (Addr × Addr)) (pr : List Blk) (H' : Hp), But t H H' → Tape H' t (c + 10000) → PgM K t fo H' qs pr → (∀ x ∈ qs, H x.2 = none) → pr ≠ [] → pr.length ≤ 7 → (∀ b ∈ pr, BlkB 7 100 b) → Q (.ref fo) H'
abbrev nPg : List Str := ["_law_tape", "_law_most", "_law_nexts_here", "_law_rows", "_law_blocks", "_law_begins", "_law_block", "_law_leads", "_law_turn", "_law_some", "_law_number", "_law_row", "_law_parts", "_law_lead", "_law_near", "_law_found", "_law_own", "_law_end", "_law_k"]
theorem scPg : FnScope nPg ["_law_tape", "_law_most"] (defScope sProgram) := ⟨rfl, rfl, rfl, by decide +kernel, rfl, by decide +kernel, by decide +kernel⟩
section
variable {P : Program} {w : World} {K : PySem.W.Frag} {mg : Str → Option Value} {base : Heap}
theorem ok_program {f fD fX fS fW : Addr} {fd fdD fdX fdS fdW : FuncData} {k : Nat} (D : Df K mg "_law_program" sProgram ["_law_tape", "_law_most"] f fd) (B : Bi mg) (DD : Df K mg "_law_draw" sDraw ["_law_tape", "_law_many"] fD fdD) (GD : FnOk P w K mg base CX0 k fD fdD ["_law_tape", "_law_many"] spDraw)
    (DX : Df K mg "_law_nexts" sNexts ["_law_tape"] fX fdX) (GX : FnOk P w K mg base CX0 k fX fdX ["_law_tape"] spNexts)
    (DS : Df K mg "_law_standing" sStanding ["_law_nexts_here", "_law_blocks", "_law_rows", "_law_block"] fS fdS) (GS : FnOk P w K mg base CX0 k fS fdS ["_law_nexts_here", "_law_blocks", "_law_rows", "_law_block"] (spStanding K))
    (DW : Df K mg "_law_drawn_row" sDrawn ["_law_tape", "_law_rows", "_law_some"] fW fdW) (GW : FnOk P w K mg base CX0 k fW fdW ["_law_tape", "_law_rows", "_law_some"] (spDrawn K)) : FnOk P w K mg base CX0 (k + 1) f fd ["_law_tape", "_law_most"] (spProgram K) := by
  refine D.F.ok scPg (fun vs H Q E h => ?_) (fun cdv A outer s H vs Q E hr h => ?_)
  · obtain ⟨t, c, rfl, _⟩ := h
    rfl
  · obtain ⟨t, c, rfl, hT, hc, q⟩ := h
    refine ⟨_, (pss_cons (ps_set (i := 2) scPg.nd rfl (.inr rfl) (pe_call GX hr (by rfl) DX.g DX.F.kp DX.b .nil pass0 (pa_cons (pv 0) pa_nil)))
      (pss_cons (ps_asg (pe_tup (pa_cons (pe_lst (pa_cons (pe_tup (pa_cons pe_str (pa_cons pe_int pa_nil))) pa_nil)) (pa_cons (pe_lst (pa_cons pe_int pa_nil)) (pa_cons (pe_lst pa_nil) pa_nil)))) (pg_tup rfl (pgs_cons (pg_name (i := 3) scPg.nd rfl (.inr rfl)) (pgs_cons (pg_name (i := 4) scPg.nd rfl (.inr rfl)) (pgs_cons (pg_name (i := 5) scPg.nd rfl (.inl rfl)) pgs_nil)))))
      (pss_cons (ps_for PassesOwn.never rfl (pi_range1 (by rfl) B.range (pa_cons (pe_callB call_len_seq (by rfl) B.len PySem.boot_len (pa_cons (pv 2) pa_nil)) pa_nil)) (pg_name (i := 6) scPg.nd rfl (.inr rfl)) (pss_cons (ps_expr (pe_bm PySem.F.plainAttrs_list PySem.F.slot_list_append PySem.F.type_list_append mt_append (pv 5) (pa_cons (pe_op op_mul (pe_callB call_len_seq (by rfl) B.len PySem.boot_len (pa_cons (pv 3) pa_nil)) (pe_callTy call_int1 (by rfl) B.int PyProof.Rows.boot_int (pa_cons (pe_cmpR op_gt (pv 6) pe_int (nomark _)) pa_nil))) pa_nil)))
      (pss_cons (ps_setLc (i := 7) (own := [("_law_lead", 13)]) (g := gName 13) (tt := tIn K (tVar 6) (tIxL K (tVar 2) (tVar 13))) (te := tVar 13) (by rfl) scPg.nd rfl rfl (sw_true rfl rfl rfl (by decide +kernel)) (pi_range1 (by rfl) B.range (pa_cons (pe_callB call_len_seq (by rfl) B.len PySem.boot_len (pa_cons (pv 2) pa_nil)) pa_nil)) (blkOk_by (own := [("_law_lead", 13)]) (N := nPg) (sc := defScope sProgram) (by decide +kernel)) (fun _ _ _ _ _ => (pg_name (i := 13) scPg.nd rfl (.inl rfl))) (fun _ _ _ _ _ => pts_one (pt_cmpR op_in_seq (pv 6) (pe_ix ix_list (pv 2) (pv 13) (fun _ _ => rfl)) rfl)) (fun _ _ _ _ _ => pv 13))
      (pss_cons (ps_for PassesOwn.never rfl (pi_range1 (by rfl) B.range (pa_cons (pe_op op_mul (pe_call GD hr (by rfl) DD.g DD.F.kp DD.b .nil pass0 (pa_cons (pv 0) (pa_cons pe_int pa_nil))) (pe_callTy call_int1 (by rfl) B.int PyProof.Rows.boot_int (pa_cons (pe_cmpR op_gt (pe_callB call_len_seq (by rfl) B.len PySem.boot_len (pa_cons (pv 7) pa_nil)) pe_int (nomark _)) pa_nil))) pa_nil)) (pg_name (i := 8) scPg.nd rfl (.inl rfl)) (pss_cons (ps_set (i := 9) scPg.nd rfl (.inl rfl) (pe_call GS hr (by rfl) DS.g DS.F.kp DS.b .nil pass0 (pa_cons (pv 2) (pa_cons (pv 4) (pa_cons (pv 3) (pa_cons (pe_ix ix_list (pv 7) pe_int (fun _ _ => rfl)) pa_nil))))))
      (pss_cons (ps_set (i := 3) scPg.nd rfl (.inr rfl) (pe_op op_cat (pv 3) (pe_lst (pa_cons (pe_tup (pa_cons pe_str (pa_cons (pe_op op_repT (pe_tup (pa_cons (pe_ix ix_list (pv 9) (pe_call GD hr (by rfl) DD.g DD.F.kp DD.b .nil pass0 (pa_cons (pv 0) (pa_cons (pe_callB call_len_seq (by rfl) B.len PySem.boot_len (pa_cons (pv 9) pa_nil)) pa_nil))) (fun _ _ => rfl)) pa_nil)) (pe_callB call_len_seq (by rfl) B.len PySem.boot_len (pa_cons (pv 7) pa_nil))) pa_nil))) pa_nil))))
      (pss_one (ps_set (i := 4) scPg.nd rfl (.inr rfl) (pe_op op_cat (pv 4) (pe_lst (pa_cons (pv 6) pa_nil))))))))
      (pss_one (ps_for PassesOwn.never rfl (pi_range1 (by rfl) B.range (pa_cons (pe_call GD hr (by rfl) DD.g DD.F.kp DD.b .nil pass0 (pa_cons (pv 0) (pa_cons (pe_op op_add (pv 1) pe_int) pa_nil))) pa_nil)) (pg_name (i := 8) scPg.nd rfl (.inl rfl)) (pss_cons (ps_set (i := 3) scPg.nd rfl (.inr rfl) (pe_op op_cat (pv 3) (pe_lst (pa_cons (pe_call GW hr (by rfl) DW.g DW.F.kp DW.b .nil pass0 (pa_cons (pv 0) (pa_cons (pv 3) (pa_cons (pe_call GS hr (by rfl) DS.g DS.F.kp DS.b .nil pass0 (pa_cons (pv 2) (pa_cons (pv 4) (pa_cons (pv 3) (pa_cons (pv 6) pa_nil))))) pa_nil)))) pa_nil))))
      (pss_one (ps_set (i := 4) scPg.nd rfl (.inr rfl) (pe_op op_cat (pv 4) (pe_lst (pa_cons (pv 6) pa_nil))))))))))))
      (pss_cons (ps_for PassesOwn.never rfl (pi_enum (by rfl) B.enumerate (pa_cons (pe_callTy call_list_of (by rfl) B.list PyProof.Rows.boot_list (pa_cons (pv 3) pa_nil)) pa_nil)) (pg_tup rfl (pgs_cons (pg_name (i := 10) scPg.nd rfl (.inr rfl)) (pgs_cons (pg_name (i := 11) scPg.nd rfl (.inl rfl)) pgs_nil))) (pss_one (ps_if (pt_cmpR op_eq (pe_ix ix_tup (pv 11) pe_int (fun _ _ => rfl)) pe_str (nomark _)) (pss_cons (ps_par (i := 7) (j := 12) (by rfl) scPg.nd rfl rfl (by decide) rfl rfl (pa_cons (pe_lc (own := [("_law_lead", 13)]) (g := gName 13) (tt := tIn K (tIxL K (tVar 4) (tVar 10)) (tIxL K (tVar 2) (tVar 13))) (te := tVar 13) rfl scPg.nd (pi_range1 (by rfl) B.range (pa_cons (pe_callB call_len_seq (by rfl) B.len PySem.boot_len (pa_cons (pv 2) pa_nil)) pa_nil)) (blkOk_by (own := [("_law_lead", 13)]) (N := nPg) (sc := defScope sProgram) (by decide +kernel)) (fun _ _ _ _ _ => (pg_name (i := 13) scPg.nd rfl (.inl rfl))) (fun _ _ _ _ _ => pts_one (pt_cmpR op_in_seq (pe_ix ix_list (pv 4) (pv 10) (fun _ _ => rfl)) (pe_ix ix_list (pv 2) (pv 13) (fun _ _ => rfl)) rfl)) (fun _ _ _ _ _ => pv 13)) (pa_cons (pe_lst (pa_cons (pe_ix ix_tup (pe_ix ix_tup (pv 11) pe_int (fun _ _ => rfl)) pe_int (fun _ _ => rfl)) pa_nil)) pa_nil)) (by rfl))
      (pss_cons (ps_for PassesOwn.never rfl (pi_list (pe_slice sl_list (pv 7) (po_some pe_int) po_none)) (pg_name (i := 13) scPg.nd rfl (.inl rfl)) (pss_cons (ps_set (i := 9) scPg.nd rfl (.inl rfl) (pe_call GS hr (by rfl) DS.g DS.F.kp DS.b .nil pass0 (pa_cons (pv 2) (pa_cons (pv 4) (pa_cons (pv 3) (pa_cons (pv 13) pa_nil))))))
      (pss_cons (ps_set (i := 14) scPg.nd rfl (.inl rfl) (pe_op op_cat (pe_lc (own := [("_law_k", 18)]) (g := gName 18) (tt := tOr (tTest (tOp rEq (tVar 18) (tVar 10))) (tIn K (tIxT K (tIxL K (tVar 3) (tVar 18)) (tC (.int 0))) (tTup (tCons (tC (.str "sum")) (tCons (tC (.str "less")) tNil))))) (te := tVar 18) rfl scPg.nd (pi_list (pv 9)) (blkOk_by (own := [("_law_k", 18)]) (N := nPg) (sc := defScope sProgram) (by decide +kernel)) (fun _ _ _ _ _ => (pg_name (i := 18) scPg.nd rfl (.inl rfl))) (fun _ _ _ _ _ => pts_one (pw_or (pt_cmpR op_eq (pv 18) (pv 10) (nomark _)) (pw_or1 (pt_cmpR op_in_seq (pe_ix ix_tup (pe_ix ix_list (pv 3) (pv 18) (fun _ _ => rfl)) pe_int (fun _ _ => rfl)) (pe_tup (pa_cons pe_str (pa_cons pe_str pa_nil))) rfl))).pt) (fun _ _ _ _ _ => pv 18)) (pe_lst (pa_cons (pe_ix ix_list (pv 9) (pe_un un_neg pe_int) (fun _ _ => rfl)) pa_nil))))
      (pss_one (ps_expr (pe_bm PySem.F.plainAttrs_list PySem.F.slot_list_append PySem.F.type_list_append mt_append (pv 12) (pa_cons (pe_ix ix_list (pe_lst (pa_cons (pe_ix ix_list (pv 14) (pe_call GD hr (by rfl) DD.g DD.F.kp DD.b .nil pass0 (pa_cons (pv 0) (pa_cons (pe_callB call_len_seq (by rfl) B.len PySem.boot_len (pa_cons (pv 14) pa_nil)) pa_nil))) (fun _ _ => rfl)) (pa_cons (pe_ix ix_list (pv 9) (pe_call GD hr (by rfl) DD.g DD.F.kp DD.b .nil pass0 (pa_cons (pv 0) (pa_cons (pe_callB call_len_seq (by rfl) B.len PySem.boot_len (pa_cons (pv 9) pa_nil)) pa_nil))) (fun _ _ => rfl)) pa_nil))) (pe_call GD hr (by rfl) DD.g DD.F.kp DD.b .nil pass0 (pa_cons (pv 0) (pa_cons pe_int pa_nil))) (fun _ _ => rfl)) pa_nil)))))))
      (pss_one (ps_asg (pe_tup (pa_cons pe_str (pa_cons (pe_callTy call_tuple_of (by rfl) B.tuple PyProof.Rows.boot_tuple (pa_cons (pv 12) pa_nil)) pa_nil))) (pg_sub (pv 3) (pv 10) set_list))))) pss_nil)))
      (pss_cons (ps_set (i := 15) scPg.nd rfl (.inl rfl) (pe_lst pa_nil))
      (pss_cons (ps_for PassesOwn.never rfl (pi_enum (by rfl) B.enumerate (pa_cons (pv 2) pa_nil)) (pg_tup rfl (pgs_cons (pg_name (i := 6) scPg.nd rfl (.inr rfl)) (pgs_cons (pg_name (i := 16) scPg.nd rfl (.inl rfl)) pgs_nil))) (pss_cons (ps_set (i := 9) scPg.nd rfl (.inl rfl) (pe_call GS hr (by rfl) DS.g DS.F.kp DS.b .nil pass0 (pa_cons (pv 2) (pa_cons (pv 4) (pa_cons (pv 3) (pa_cons (pv 6) pa_nil))))))
      (Evl.pss_cut (ps_set (i := 17) scPg.nd rfl (.inl rfl) (pe_op op_catA (pe_ix ix_list (pe_lst (pa_cons (pe_tup (pa_cons pe_str pa_nil)) (pa_cons (pe_tup (pa_cons pe_str pa_nil)) (pa_cons (pe_tup (pa_cons pe_str (pa_cons (pe_ix ix_list (pv 9) (pe_call GD hr (by rfl) DD.g DD.F.kp DD.b .nil pass0 (pa_cons (pv 0) (pa_cons (pe_callB call_len_seq (by rfl) B.len PySem.boot_len (pa_cons (pv 9) pa_nil)) pa_nil))) (fun _ _ => rfl)) pa_nil))) pa_nil)))) (pe_callB call_len_seq (by rfl) B.len PySem.boot_len (pa_cons (pv 16) pa_nil)) (fun _ _ => rfl)) (pe_callTy call_tuple_of (by rfl) B.tuple PyProof.Rows.boot_tuple (pa_cons (pv 16) pa_nil))))
      (pss_one (ps_expr (pe_bm PySem.F.plainAttrs_list PySem.F.slot_list_append PySem.F.type_list_append mt_append (pv 15) (pa_cons (pe_tup (pa_cons (pe_slice sl_list (pv 3) (po_some (pe_ix ix_list (pv 5) (pv 6) (fun _ _ => rfl))) (po_some (pe_ix ix_list (pe_op op_cat (pv 5) (pe_lst (pa_cons (pe_callB call_len_seq (by rfl) B.len PySem.boot_len (pa_cons (pv 3) pa_nil)) pa_nil))) (pe_op op_add (pv 6) pe_int) (fun _ _ => rfl)))) (pa_cons (pv 17) pa_nil))) pa_nil)))))))
      (pss_cons (ps_expr (pe_bm PySem.F.plainAttrs_list PySem.F.slot_list_extend PySem.F.type_list_extend mt_extend (pe_ix ix_tup (pe_ix ix_list (pv 15) (pe_un un_neg pe_int) (fun _ _ => rfl)) pe_int (fun _ _ => rfl)) (pa_cons (pe_op op_rep (pe_lst (pa_cons (pe_tup (pa_cons pe_str (pa_cons pe_int pa_nil))) pa_nil)) (pe_call GD hr (by rfl) DD.g DD.F.kp DD.b .nil pass0 (pa_cons (pv 0) (pa_cons pe_int pa_nil)))) pa_nil)))
      (pss_one (ps_ret (pv 15)))))))))), ?_⟩
    refine ⟨.ref t, rfl, t, c, rfl, hT, by omega, fun na nx H1 hx b1 T1 hN => ?_⟩
    refine ⟨szl (show 2 ≤ 1000000 by decide), fun p1 n1 => ⟨szl (show 1 ≤ 1000000 by decide), fun ra n2 => ⟨szl (show 1 ≤ 1000000 by decide), fun ba n3 => ⟨Nat.zero_le _, fun bg n4 => ⟨szl (show 3 ≤ 1000000 by decide), fun tp n5 => ?_⟩⟩⟩⟩⟩
    have G0t : frz [t] H1 t = none := by unfold frz; rw [if_pos (by simp)]
    have s1 := new_same (o := .tup [.str "take", .int 0]) n1
    have e1 : upd H1 p1 (.tup [.str "take", .int 0]) p1 = some (.tup [.str "take", .int 0]) := upd_same
    have d1 : p1 ≠ t := T1.ne n1
    have U1 := T1.same s1
    generalize upd H1 p1 (.tup [.str "take", .int 0]) = I1 at s1 e1 U1 n2 n3 n4 n5
    have s2 := new_same (o := .lst [.ref p1]) n2
    have e2 : upd I1 ra (.lst [.ref p1]) ra = some (.lst [.ref p1]) := upd_same
    have d2 : ra ≠ t := U1.ne n2
    have U2 := U1.same s2
    have n2' := n2
    generalize upd I1 ra (.lst [.ref p1]) = I2 at s2 e2 U2 n3 n4 n5
    have n3' := n3
    have e2'' := e2
    have s3 := new_same (o := .lst [.int 0]) n3
    have e3 : upd I2 ba (.lst [.int 0]) ba = some (.lst [.int 0]) := upd_same
    have d3 : ba ≠ t := U2.ne n3
    have U3 := U2.same s3
    generalize upd I2 ba (.lst [.int 0]) = I3 at s3 e3 U3 n4 n5
    have s4 := new_same (o := .lst []) n4
    have e4 : upd I3 bg (.lst []) bg = some (.lst []) := upd_same
    have d4 : bg ≠ t := U3.ne n4
    have U4 := U3.same s4
    have e1' := s3 _ _ (s2 _ _ e1)
    have e2' := s3 _ _ e2
    have f1 : p1 ≠ bg := ne_of_none e1' n4
    have f2 : ra ≠ bg := ne_of_none e2' n4
    have f3 : ba ≠ bg := ne_of_none e3 n4
    have hb1 : H1 bg = none := s1.free (s2.free (s3.free n4))
    generalize upd I3 bg (.lst []) = I4 at s4 e4 U4 n5
    have s5 := new_same (o := .tup [.ref ra, .ref ba, .ref bg]) n5
    have e5 : upd I4 tp (.tup [.ref ra, .ref ba, .ref bg]) tp = some (.tup [.ref ra, .ref ba, .ref bg]) := upd_same
    have U5 := U4.same s5
    generalize upd I4 tp (.tup [.ref ra, .ref ba, .ref bg]) = I5 at s5 e5 U5
    have s15 : Same H1 I5 := (((s1.trans s2).trans s3).trans s4).trans s5
    have z0 : S0 (frz [t] H1) t bg na nx := ⟨G0t, (frz_same _ _).free hb1, d4.symm, hN, hx⟩
    have x1 : frz [t, bg] I5 p1 = some (.tup [.str "take", .int 0]) := frz2 (s5 _ _ (s4 _ _ e1')) d1 f1
    have st0 : S1 K (frz [t] H1) t bg ra ba I5 (c + 1) [.take 0] [0] [] := ⟨U5, (frz_same _ _).trans s15, s5 _ _ e4, ⟨[.ref p1], frz2 (s5 _ _ (s4 _ _ e2')) d2 f2, .cons ⟨p1, [iv 0], rfl, sqT x1, rfl⟩ .nil⟩, frz2 (s5 _ _ (s4 _ _ e3)) d3 f3, (frz_same _ _).free (s1.free n2'), ne_of_none e2'' n3'⟩
    have p0 : P1 nx [.take 0] [0] 1 := ⟨rfl, Nat.le_refl _, fun y hy => by rw [List.mem_singleton.mp hy]; exact (nx_bd nx hx).1, rfl, rfl, fun r hr => by rw [List.mem_singleton.mp hr]; exact (show 0 < 6 by decide)⟩
    have bI : But t H I5 := b1.trans (Same.but s15)
    refine ⟨tp, _, rfl, sqT e5, rfl, _, _, rfl, _, _, rfl, _, _, rfl, rfl, ?_⟩
    clear e1 e2 e3 e4 e5 e1' e2' x1 s1 s2 s3 s4 s5 U1 U2 U3 U4 U5 n1 n2 n3 n4 n5 d1 d2 d3 f1 f2 f3
    have hGH : ∀ (a : Addr) (o : HO), a ≠ t → H a = some o → frz [t] H1 a = some o := fun a o n e => frz_at (b1 _ _ n e) (by simpa using n)
    generalize frz [t] H1 = G at G0t z0 st0 hGH
    have hm := nx_bd nx hx
    obtain ⟨ps, gna, gps⟩ := id z0.nr
    have hpl : ps.length = nx.length := pd_len gps
    have hpml : (ps.map V.ref).length = nx.length := by rw [List.length_map, hpl]
    refine ⟨.ref na, rfl, na, _, rfl, .inl (sqL (st0.g _ _ gna)), _, rfl, by omega, by omega, ?_⟩
    refine for_range (lo := 0) (n := ((ps.map V.ref).length : Int).toNat) (fun b σ Hx => ∃ (ra ba : Addr) (rows : List Rw) (blocks begins : List Nat) (y6 y7 y8 y9 y10 y11 y12 y13 y14 y15 y16 y17 y18 : Option V), σ = [some (.ref t), some (iv 5), some (.ref na), some (.ref ra), some (.ref ba), some (.ref bg), y6, y7, y8, y9, y10, y11, y12, y13, y14, y15, y16, y17, y18] ∧ But t H Hx ∧ S1 K G t bg ra ba Hx (c + 1 + 200 * b) rows blocks begins ∧ P1 nx rows blocks (1 + 8 * b) ∧ begins.length = b ∧ ∀ y ∈ begins, y ≤ 100) ⟨_, _, _, _, _, _, _, _, _, _, _, _, _, _, _, _, _, _, rfl, bI, st0, p0, rfl, fun y hy => (by cases hy)⟩ (fun b σ Hx hb hP => ?_) (fun σ Hx hP => ?_)
    · obtain ⟨ra, ba, rows, blocks, begins, y6, y7, y8, y9, y10, y11, y12, y13, y14, y15, y16, y17, y18, rfl, bx, st, pp, hbg, hbg2⟩ := hP
      have hbn : b < nx.length := by rw [hpml] at hb; omega
      have hi0 : V.int (0 + (b : Int)) = iv b := by rw [Int.zero_add]; rfl
      rw [hi0]
      obtain ⟨us, eR, pR⟩ := id st.rw_
      have hul : us.length = rows.length := pd_len pR
      have hrle := pp.le
      refine ⟨.ref bg, rfl, .inl ⟨rfl, _, sqL st.bgd⟩, .ref ra, rfl, ra, us, rfl, .inl (sqL (frz_same _ _ _ _ eR)), iv b, rfl, _, _, rfl, rfl, .inr ⟨_, rfl, _, _, rfl, rfl, ?_⟩⟩
      have hzz : ∃ z : Nat, z ≤ 100 ∧ V.int ((us.length : Int) * (if decide (0 < (b : Int)) = true then 1 else 0)) = iv z := by
        by_cases h0 : 0 < (b : Int)
        · rw [decide_eq_true h0, if_pos rfl, Int.mul_one]
          exact ⟨us.length, by omega, rfl⟩
        · rw [decide_eq_false h0, if_neg (by simp), Int.mul_zero]
          exact ⟨0, by omega, rfl⟩
      obtain ⟨z, hz, ez⟩ := hzz
      refine ⟨.inr (b01 _), bg, _, _, rfl, rfl, st.bgd, by rw [List.length_map]; exact szt (by omega), ?_⟩
      show tSeq _ _ _ _ (upd Hx bg (.lst (begins.map iv ++ [V.int ((us.length : Int) * (if decide (0 < (b : Int)) = true then 1 else 0))])))
      rw [ez]
      have hbgn : H bg = none := by
        cases e : H bg with
        | none => rfl
        | some o => exact absurd (b1 _ _ d4 e) (by rw [hb1]; intro w; cases w)
      have bx2 : But t H (upd Hx bg (.lst (begins.map iv ++ [iv z]))) := fun x o n e => by
        rw [upd_ne (ne_of_none e hbgn)]
        exact bx x o n e
      have st2 := st.bgn (z := z) z0
      have hbg3 : ∀ y ∈ begins ++ [z], y ≤ 100 := fun y hy => by
        rcases List.mem_append.mp hy with w | w
        · exact hbg2 y w
        · rw [List.mem_singleton.mp w]; exact hz
      have hbg4 : (begins ++ [z]).length = b + 1 := by rw [List.length_append, hbg]; rfl
      generalize begins ++ [z] = begins2 at st2 hbg3 hbg4
      generalize upd Hx bg (.lst (begins.map iv ++ [iv z])) = Hy at bx2 st2
      clear st eR pR hul bx hbg hbg2 ez hz
      -- leads
      refine ⟨.ref na, rfl, na, _, rfl, .inl (sqL (st2.g _ _ gna)), _, rfl, by omega, by omega, fun L nL => ?_⟩
      have nLt : L ≠ t := st2.tape.ne nL
      have nLb : L ≠ bg := (ne_of_none st2.bgd nL).symm
      refine lc_range (lo := 0) (n := ((ps.map V.ref).length : Int).toNat) (fun i Hz => Same Hy Hz ∧ Hz L = some (.lst (((List.range i).filter fun l => decide (b ∈ nx.getD l [])).map iv))) ⟨new_same nL, upd_same⟩ (fun i Hz hi hP => ?_) (fun Hz hP => ?_)
      · obtain ⟨sz, eL⟩ := hP
        have hin : i < nx.length := by rw [hpml] at hi; omega
        have hi1 : V.int (0 + (i : Int)) = iv i := by rw [Int.zero_add]; rfl
        rw [hi1]
        obtain ⟨ps2, qa, m1, m2, m3, m4⟩ := (z0.nr.same (st2.g.trans sz)).at (gdl (d := []) hin)
        refine ⟨rfl, iv b, rfl, .ref na, rfl, iv i, rfl, na, _, _, .ref qa, rfl, rfl, sqL m1, m3, qa, _, rfl, .inl (sqL m4), rfl, flat_iv _, _, rfl, ?_⟩
        show if inV (iv b) ((nx.getD i []).map iv) = true then _ else _
        rw [inV_iv]
        have hfl : ((List.range i).filter fun l => decide (b ∈ nx.getD l [])).length ≤ i := Nat.le_trans (List.length_filter_le _ _) (by rw [List.length_range]; exact Nat.le_refl _)
        refine ite2 (fun e => ?_) (fun e => ?_)
        · refine ⟨iv i, rfl, _, eL, by rw [List.length_map]; exact szt (by omega), fun x o w => ?_, ?_⟩
          · rw [upd_ne (ne_of_none w nL)]
            exact sz _ _ w
          · rw [upd_same, filt_succ, if_pos e, List.map_append]
            rfl
        · exact ⟨sz, by rw [filt_succ, if_neg e, List.append_nil]; exact eL⟩
      obtain ⟨sz, eL⟩ := hP
      have eL : Hz L = some (.lst ((leadsF nx b).map iv)) := by
        rw [eL, hpml, Int.toNat_natCast]
        rfl
      obtain ⟨hl6, hl7⟩ := leads_bd nx hx b (by omega)
      have st3 := st2.same z0 sz
      have bx3 := bx2.trans (Same.but (t := t) sz)
      clear st2 bx2 nL sz
      have hlm : ((leadsF nx b).map iv).length = (leadsF nx b).length := List.length_map _
      -- meets
      refine ⟨.ref t, rfl, t, 4, _, rfl, st3.tape, by omega, by decide, by decide, fun r1 Ha ha ba1 Ta => ?_⟩
      have st4 := st3.but z0 ba1 Ta
      have bx4 := bx3.trans ba1
      have eL4 := ba1 _ _ nLt eL
      have hnn : ∃ nn : Int, (r1 : Int) * (if decide (1 < (((leadsF nx b).map iv).length : Int)) = true then 1 else 0) = nn ∧ 0 ≤ nn ∧ nn ≤ 3 ∧ (0 < nn → 1 < (leadsF nx b).length) := by
        by_cases h0 : 1 < (((leadsF nx b).map iv).length : Int)
        · rw [decide_eq_true h0, if_pos rfl, Int.mul_one]
          exact ⟨_, rfl, by omega, by omega, fun _ => by rw [hlm] at h0; omega⟩
        · rw [decide_eq_false h0, if_neg (by simp), Int.mul_zero]
          exact ⟨0, rfl, by omega, by omega, fun w => by omega⟩
      obtain ⟨nn, enn, hn0, hn3, hnl⟩ := hnn
      refine ⟨.ref L, rfl, L, _, rfl, .inl (sqL eL4), _, _, rfl, rfl, .inr ⟨_, rfl, _, _, rfl, rfl, .inr (b01 _), nn, by rw [← enn], by omega, by omega, ?_⟩⟩
      clear st3 bx3 eL
      refine for_range (lo := 0) (n := nn.toNat) (fun j σ Hw => ∃ (ra ba : Addr) (rows : List Rw) (blocks : List Nat) (y8 y9 y10 y11 y12 y13 y14 y15 y16 y17 y18 : Option V), σ = [some (.ref t), some (iv 5), some (.ref na), some (.ref ra), some (.ref ba), some (.ref bg), some (iv b), some (.ref L), y8, y9, y10, y11, y12, y13, y14, y15, y16, y17, y18] ∧ But t H Hw ∧ S1 K G t bg ra ba Hw (c + 1 + 200 * b + 1 + j) rows blocks begins2 ∧ P1 nx rows blocks (1 + 8 * b + j) ∧ Hw L = some (.lst ((leadsF nx b).map iv))) ⟨_, _, _, _, _, _, _, _, _, _, _, _, _, _, _, rfl, bx4, st4, pp, eL4⟩ (fun j σ Hw hj hP => ?_) (fun σ Hw hP => ?_)
      · obtain ⟨ra, ba, rows, blocks, y8, y9, y10, y11, y12, y13, y14, y15, y16, y17, y18, rfl, bw, sw, pw, eLw⟩ := hP
        have hj3 : j < 3 := by omega
        have hlead : 1 < (leadsF nx b).length := hnl (by omega)
        obtain ⟨us, eR, pR⟩ := id sw.rw_
        have hul : us.length = rows.length := pd_len pR
        have hrle := pw.le
        have eR' := frz_same _ _ _ _ eR
        have eB' := frz_same _ _ _ _ sw.bl
        have hpR : Paired (RowAt K Hw) us rows := pd_mono pR fun _ _ y => y.same (frz_same _ _)
        have hb7 : ∀ y ∈ blocks, y < 7 := fun y hy => Nat.lt_of_lt_of_le (pw.b7 y hy) hm.2.1
        have e0 : (leadsF nx b)[0]? = some ((leadsF nx b).getD 0 0) := gdl (by omega)
        refine ⟨.ref na, rfl, .ref ba, rfl, .ref ra, rfl, .ref L, rfl, L, _, _, iv ((leadsF nx b).getD 0 0), rfl, rfl, sqL eLw, atI_nat (j := 0) (by rw [List.getElem?_map, e0]; rfl), na, ba, ra, nx, blocks, us, rows, _, rfl, z0.nr.same sw.g, hx, eB', eR', hpR, pw.len, hb7, by omega, fun so H2 nso s2 eso => ?_⟩
        have hz0 := pw.zero (b := (leadsF nx b).getD 0 0) hx
        have hslt := pw.lt (b := (leadsF nx b).getD 0 0)
        have hsl := stand_len (nx := nx) (blocks := blocks) (rows := rows) (b := (leadsF nx b).getD 0 0)
        generalize standL nx blocks rows ((leadsF nx b).getD 0 0) = ss at eso hz0 hslt hsl
        have hsm : (ss.map iv).length = ss.length := List.length_map _
        have hspos : 0 < ss.length := List.length_pos_iff.mpr fun w => by rw [w] at hz0; cases hz0
        have T2 := sw.tape.same s2
        refine ⟨.ref ra, rfl, .ref so, rfl, .ref t, rfl, .ref so, rfl, so, _, rfl, .inl (sqL eso), t, _, _, rfl, T2, by omega, by rw [hsm]; omega, by rw [hsm, pw.len] at *; omega, fun r2 H3 h3 b3 T3 => ?_⟩
        have nsot : so ≠ t := sw.tape.ne nso
        have hr2 : r2 < ss.length := by rw [hsm] at h3; omega
        have ey : (ss.map iv)[r2]? = some (iv ss[r2]) := by rw [List.getElem?_map, List.getElem?_eq_getElem hr2]; rfl
        have hy := hslt _ (List.getElem_mem hr2)
        generalize ss[r2] = y at ey hy
        have bw3 : But t Hw H3 := (Same.but s2).trans b3
        refine ⟨so, _, _, _, rfl, rfl, sqL (b3 _ _ nsot eso), atI_nat ey, szl (show 1 ≤ 1000000 by decide), fun T1 nT1 => ?_⟩
        have w1 := new_same (o := .tup [iv y]) nT1
        have u1 : upd H3 T1 (.tup [iv y]) T1 = some (.tup [iv y]) := upd_same
        have bw4 := bw3.trans (Same.but (t := t) w1)
        have T4 := T3.same w1
        generalize upd H3 T1 (.tup [iv y]) = H4 at w1 u1 bw4 T4
        refine ⟨.ref L, rfl, L, _, rfl, .inl (sqL (bw4 _ _ nLt eLw)), T1, _, _, rfl, rfl, sqT u1, (by simp), by rw [hlm]; omega, by rw [hlm]; omega, (by simp), fun R nR => ?_⟩
        have hrep : (List.replicate (((leadsF nx b).map iv).length : Int).toNat [iv y]).flatten = (List.replicate (leadsF nx b).length y).map iv := by
          rw [hlm, Int.toNat_natCast, List.map_replicate]
          generalize (leadsF nx b).length = n
          induction n with
          | zero => rfl
          | succ n ih => rw [List.replicate_succ, List.replicate_succ, List.flatten_cons, ih]; rfl
        rw [hrep]
        generalize hps : List.replicate (leadsF nx b).length y = parts
        have hpA : RwA (· < rows.length) (.meet parts) := by
          rw [← hps]
          refine ⟨fun u hu => by rw [List.eq_of_mem_replicate hu]; exact hy, fun w => ?_, by rw [List.length_replicate]; omega⟩
          have hw0 := congrArg List.length w
          rw [List.length_replicate] at hw0
          have hw0 : (leadsF nx b).length = 0 := hw0
          omega
        have w2 := new_same (o := .tup (parts.map iv)) nR
        have u2 : upd H4 R (.tup (parts.map iv)) R = some (.tup (parts.map iv)) := upd_same
        have nRt : R ≠ t := T4.ne nR
        have bw5 := bw4.trans (Same.but (t := t) w2)
        have T5 := T4.same w2
        have nRb : R ≠ bg := (ne_of_none (bw4 _ _ z0.ne.symm sw.bgd) nR).symm
        generalize upd H4 R (.tup (parts.map iv)) = H5 at w2 u2 bw5 T5
        refine ⟨szl (show 2 ≤ 1000000 by decide), fun M nM => ?_⟩
        have w3 := new_same (o := .tup [.str "meet", .ref R]) nM
        have u3 : upd H5 M (.tup [.str "meet", .ref R]) M = some (.tup [.str "meet", .ref R]) := upd_same
        have nMt : M ≠ t := T5.ne nM
        have bw6 := bw5.trans (Same.but (t := t) w3)
        have T6 := T5.same w3
        have nMb : M ≠ bg := (ne_of_none (bw5 _ _ z0.ne.symm sw.bgd) nM).symm
        have u2' := w3 _ _ u2
        generalize upd H5 M (.tup [.str "meet", .ref R]) = H6 at w3 u3 bw6 T6 u2'
        refine ⟨szl (show 1 ≤ 1000000 by decide), fun l nl => ?_⟩
        have w4 := new_same (o := .lst [.ref M]) nl
        have u4 : upd H6 l (.lst [.ref M]) l = some (.lst [.ref M]) := upd_same
        have bw7 := bw6.trans (Same.but (t := t) w4)
        have T7 := T6.same w4
        have u2'' := w4 _ _ u2'
        have u3' := w4 _ _ u3
        generalize upd H6 l (.lst [.ref M]) = H7 at w4 u4 bw7 T7 u2'' u3'
        obtain ⟨nrt, nrb⟩ := frz_ne2 eR
        obtain ⟨nbt, nbb⟩ := frz_ne2 sw.bl
        refine ⟨ra, l, _, _, rfl, rfl, bw7 _ _ nrt eR', u4, szl (by simp; omega), fun ra2 nra2 => ?_⟩
        have w5 := new_same (o := .lst (us ++ [.ref M])) nra2
        have u5 : upd H7 ra2 (.lst (us ++ [.ref M])) ra2 = some (.lst (us ++ [.ref M])) := upd_same
        have n1 : ra2 ≠ t := T7.ne nra2
        have n2 : ra2 ≠ bg := (ne_of_none (bw7 _ _ z0.ne.symm sw.bgd) nra2).symm
        have bw8 := bw7.trans (Same.but (t := t) w5)
        have T8 := T7.same w5
        have u2a := w5 _ _ u2''
        have u3a := w5 _ _ u3'
        generalize upd H7 ra2 (.lst (us ++ [.ref M])) = H8 at w5 u5 bw8 T8 u2a u3a
        refine ⟨.ref ba, rfl, iv b, rfl, szl (show 1 ≤ 1000000 by decide), fun l2 nl2 => ?_⟩
        have w6 := new_same (o := .lst [iv b]) nl2
        have u6 : upd H8 l2 (.lst [iv b]) l2 = some (.lst [iv b]) := upd_same
        have bw9 := bw8.trans (Same.but (t := t) w6)
        have T9 := T8.same w6
        have u2b := w6 _ _ u2a
        have u3b := w6 _ _ u3a
        have u5b := w6 _ _ u5
        generalize upd H8 l2 (.lst [iv b]) = H9 at w6 u6 bw9 T9 u2b u3b u5b
        refine ⟨ba, l2, _, _, rfl, rfl, bw9 _ _ nbt eB', u6, szl (by rw [List.length_map, pw.len]; simp; omega), fun ba2 nba2 => ?_⟩
        have w7 := new_same (o := .lst (blocks.map iv ++ [iv b])) nba2
        have n3 : ba2 ≠ t := T9.ne nba2
        have n4 : ba2 ≠ bg := (ne_of_none (bw9 _ _ z0.ne.symm sw.bgd) nba2).symm
        have bwA := bw9.trans (Same.but (t := t) w7)
        have TA := T9.same w7
        have hv : RowAt K (frz [t, bg] (upd H9 ba2 (.lst (blocks.map iv ++ [iv b])))) (.ref M) (.meet parts) := ⟨M, [.ref R], rfl, sqT (frz2 (w7 _ _ u3b) nMt nMb), R, rfl, sqT (frz2 (w7 _ _ u2b) nRt nRb)⟩
        exact ⟨_, _, _, _, _, _, _, _, _, _, _, _, _, _, _, rfl, bw.trans bwA, (sw.grow z0 bwA TA pR hv (w7 _ _ u5b) n1 n2 upd_same n3 n4 ((Same.bt sw.g z0.gt bw7).free nra2) (ne_of_none u5b nba2)).mono (by omega), (pw.snoc hbn hpA).mono (by omega), bwA _ _ nLt eLw⟩
      · obtain ⟨ra, ba, rows, blocks, y8, y9, y10, y11, y12, y13, y14, y15, y16, y17, y18, rfl, bw, sw, pw, eLw⟩ := hP
        have sw := sw.mono (show _ ≤ c + 1 + 200 * b + 10 by omega)
        have pw := pw.mono (show _ ≤ 1 + 8 * b + 3 by omega)
        -- rows
        refine ⟨.ref t, rfl, iv 5, rfl, _, _, rfl, rfl, t, _, _, rfl, sw.tape, by omega, by decide, by decide, fun r1 Ha ha ba1 Ta => ?_⟩
        have ha : (r1 : Int) < 6 := ha
        refine ⟨(r1 : Int), rfl, by omega, by omega, ?_⟩
        refine for_range (lo := 0) (n := (r1 : Int).toNat) (fun j σ Hw => ∃ (ra ba : Addr) (rows : List Rw) (blocks : List Nat) (y8 y9 y10 y11 y12 y13 y14 y15 y16 y17 y18 : Option V), σ = [some (.ref t), some (iv 5), some (.ref na), some (.ref ra), some (.ref ba), some (.ref bg), some (iv b), some (.ref L), y8, y9, y10, y11, y12, y13, y14, y15, y16, y17, y18] ∧ But t H Hw ∧ S1 K G t bg ra ba Hw (c + 1 + 200 * b + 11 + 30 * j) rows blocks begins2 ∧ P1 nx rows blocks (1 + 8 * b + 3 + j)) ⟨_, _, _, _, _, _, _, _, _, _, _, _, _, _, _, rfl, bw.trans ba1, sw.but z0 ba1 Ta, pw⟩ (fun j σ Hw hj hP => ?_) (fun σ Hw hP => ?_)
        · obtain ⟨ra, ba, rows, blocks, y8, y9, y10, y11, y12, y13, y14, y15, y16, y17, y18, rfl, bw, sw, pw⟩ := hP
          have hj5 : j < 5 := by omega
          obtain ⟨us, eR, pR⟩ := id sw.rw_
          have hul : us.length = rows.length := pd_len pR
          have hrle := pw.le
          have eR' := frz_same _ _ _ _ eR
          have eB' := frz_same _ _ _ _ sw.bl
          have hpR : Paired (RowAt K Hw) us rows := pd_mono pR fun _ _ y => y.same (frz_same _ _)
          have hb7 : ∀ y ∈ blocks, y < 7 := fun y hy => Nat.lt_of_lt_of_le (pw.b7 y hy) hm.2.1
          obtain ⟨nrt, nrb⟩ := frz_ne2 eR
          obtain ⟨nbt, nbb⟩ := frz_ne2 sw.bl
          refine ⟨.ref ra, rfl, .ref t, rfl, .ref ra, rfl, .ref na, rfl, .ref ba, rfl, .ref ra, rfl, iv b, rfl, na, ba, ra, nx, blocks, us, rows, b, rfl, z0.nr.same sw.g, hx, eB', eR', hpR, pw.len, hb7, by omega, fun so H2 nso s2 eso => ?_⟩
          have hz0 := pw.zero (b := b) hx
          have hslt := pw.lt (b := b)
          have hsl := stand_len (nx := nx) (blocks := blocks) (rows := rows) (b := b)
          generalize standL nx blocks rows b = ss at eso hz0 hslt hsl
          have hsne : ss ≠ [] := fun w => by rw [w] at hz0; cases hz0
          have T2 := sw.tape.same s2
          have nsot : so ≠ t := sw.tape.ne nso
          have hpF : Paired (RowAt K (frz [t] H2)) us rows := pd_mono pR fun _ _ y => (y.same (Bm.frz (Bm.of_same s2))).same frz_le
          refine ⟨t, ra, so, _, us, rows, ss, (· < rows.length), rfl, T2, by omega, nrt, nsot, s2 _ _ eR', eso, hpF, hsne, by rw [pw.len] at hsl; omega, fun y hy => ⟨hslt y hy, hslt y hy⟩, fun k hk b' x y e => pw.rb _ (List.mem_of_getElem? e), fun v rw1 H3 b3 T3 hrow hA hnm => ?_⟩
          have bw3 : But t Hw H3 := (Same.but s2).trans b3
          have hv3 := row_frz2 hrow (bw3 _ _ z0.ne.symm sw.bgd)
          refine ⟨szl (show 1 ≤ 1000000 by decide), fun l nl => ?_⟩
          have w4 := new_same (o := .lst [v]) nl
          have u4 : upd H3 l (.lst [v]) l = some (.lst [v]) := upd_same
          have bw7 := bw3.trans (Same.but (t := t) w4)
          have T7 := T3.same w4
          have hv4 := hv3.same (Bm.frz (Bm.of_same w4))
          generalize upd H3 l (.lst [v]) = H7 at w4 u4 bw7 T7 hv4
          refine ⟨ra, l, _, _, rfl, rfl, bw7 _ _ nrt eR', u4, szl (by simp; omega), fun ra2 nra2 => ?_⟩
          have w5 := new_same (o := .lst (us ++ [v])) nra2
          have u5 : upd H7 ra2 (.lst (us ++ [v])) ra2 = some (.lst (us ++ [v])) := upd_same
          have n1 : ra2 ≠ t := T7.ne nra2
          have n2 : ra2 ≠ bg := (ne_of_none (bw7 _ _ z0.ne.symm sw.bgd) nra2).symm
          have bw8 := bw7.trans (Same.but (t := t) w5)
          have T8 := T7.same w5
          have hv5 := hv4.same (Bm.frz (Bm.of_same w5))
          generalize upd H7 ra2 (.lst (us ++ [v])) = H8 at w5 u5 bw8 T8 hv5
          refine ⟨.ref ba, rfl, iv b, rfl, szl (show 1 ≤ 1000000 by decide), fun l2 nl2 => ?_⟩
          have w6 := new_same (o := .lst [iv b]) nl2
          have u6 : upd H8 l2 (.lst [iv b]) l2 = some (.lst [iv b]) := upd_same
          have bw9 := bw8.trans (Same.but (t := t) w6)
          have T9 := T8.same w6
          have u5b := w6 _ _ u5
          have hv6 := hv5.same (Bm.frz (Bm.of_same w6))
          generalize upd H8 l2 (.lst [iv b]) = H9 at w6 u6 bw9 T9 u5b hv6
          refine ⟨ba, l2, _, _, rfl, rfl, bw9 _ _ nbt eB', u6, szl (by rw [List.length_map, pw.len]; simp; omega), fun ba2 nba2 => ?_⟩
          have w7 := new_same (o := .lst (blocks.map iv ++ [iv b])) nba2
          have n3 : ba2 ≠ t := T9.ne nba2
          have n4 : ba2 ≠ bg := (ne_of_none (bw9 _ _ z0.ne.symm sw.bgd) nba2).symm
          have bwA := bw9.trans (Same.but (t := t) w7)
          have TA := T9.same w7
          exact ⟨_, _, _, _, _, _, _, _, _, _, _, _, _, _, _, rfl, bw.trans bwA, (sw.grow z0 bwA TA pR (hv6.same (Bm.frz (Bm.of_same w7))) (w7 _ _ u5b) n1 n2 upd_same n3 n4 ((Same.bt sw.g z0.gt bw7).free nra2) (ne_of_none u5b nba2)).mono (by omega), (pw.snoc hbn hA).mono (by omega)⟩
        · obtain ⟨ra, ba, rows, blocks, y8, y9, y10, y11, y12, y13, y14, y15, y16, y17, y18, rfl, bw, sw, pw⟩ := hP
          exact ⟨_, _, _, _, _, _, _, _, _, _, _, _, _, _, _, _, _, _, rfl, bw, sw.mono (by omega), pw.mono (by omega), hbg4, hbg3⟩
    · obtain ⟨ra, ba, rows, blocks, begins, y6, y7, y8, y9, y10, y11, y12, y13, y14, y15, y16, y17, y18, rfl, bx, st, pp, hbg, hbg2⟩ := hP
      rw [hpml, Int.toNat_natCast] at hbg st pp
      have st := st.mono (show _ ≤ c + 2000 by omega)
      have pp := pp.mono (show _ ≤ 57 by omega)
      clear bI st0 p0
      obtain ⟨us0, eR0, pR0⟩ := id st.rw_
      have hul0 : us0.length = rows.length := pd_len pR0
      refine ⟨.ref ra, rfl, ra, us0, rfl, .inl (sqL (frz_same _ _ _ _ eR0)), fun L nL => ⟨L, us0, rfl, sqL upd_same, ?_⟩⟩
      have sL := new_same (o := .lst us0) nL
      have eL : upd Hx L (.lst us0) L = some (.lst us0) := upd_same
      have nLt : L ≠ t := st.tape.ne nL
      have nLb : L ≠ bg := (ne_of_none st.bgd nL).symm
      have nLr : L ≠ ra := (ne_of_none (frz_same _ _ _ _ eR0) nL).symm
      have st1 := st.same z0 sL
      have bx1 := bx.trans (Same.but (t := t) sL)
      have pR1 : Paired (RowAt K (frz [t, bg] (upd Hx L (.lst us0)))) us0 rows := pd_mono pR0 fun _ _ y => y.same (Bm.frz (Bm.of_same sL))
      generalize upd Hx L (.lst us0) = H0 at eL st1 bx1 pR1
      have hr57 := pp.le
      refine for_it (walk_enum (K := K) (a := L) (xs := us0)) (fun i σ Hw => ∃ (rws : List Rw) (y6 y7 y8 y9 y10 y11 y12 y13 y14 y15 y16 y17 y18 : Option V), σ = [some (.ref t), some (iv 5), some (.ref na), some (.ref ra), some (.ref ba), some (.ref bg), y6, y7, y8, y9, y10, y11, y12, y13, y14, y15, y16, y17, y18] ∧ But t H Hw ∧ S1 K G t bg ra ba Hw (c + 2000 + 30 * i) rws blocks begins ∧ P1 nx rws blocks 57 ∧ rws.length = rows.length ∧ Hw L = some (.lst us0) ∧ Paired (RowAt K (frz [t, bg] Hw)) us0 rows) ⟨rows, _, _, _, _, _, _, _, _, _, _, _, _, _, rfl, bx1, st1, pp, rfl, eL, pR1⟩ (fun i σ Hw _ hP => ?_) (fun i x σ Hw Hw2 hi hP hY => ?_) (fun σ Hw hP => ?_)
      · obtain ⟨_, _, _, _, _, _, _, _, _, _, _, _, _, _, _, _, _, _, _, eLw, _⟩ := hP
        exact sqL eLw
      · obtain ⟨rws, y6, y7, y8, y9, y10, y11, y12, y13, y14, y15, y16, y17, y18, rfl, bw, sw, pw, hrwl, eLw, pL⟩ := hP
        obtain ⟨T, x1, x2, rfl, nT, rfl, e1, e2⟩ := hY
        cases e1
        have e2 : us0[i]? = some x2 := e2
        have hi57 : i < 57 := by omega
        obtain ⟨r0, hr0, hr0w⟩ := pd_at2 pL e2
        have sT := new_same (o := .tup [.int (i : Nat), x2]) nT
        have sw1 := sw.same z0 sT
        have bw1 := bw.trans (Same.but (t := t) sT)
        have eL1 := sT _ _ eLw
        have pL1 : Paired (RowAt K (frz [t, bg] (upd Hw T (.tup [.int (i : Nat), x2])))) us0 rows := pd_mono pL fun _ _ y => y.same (Bm.frz (Bm.of_same sT))
        have hr1w := hr0w.same (Bm.frz (M := [t, bg]) (Bm.of_same sT))
        refine ⟨T, _, rfl, sqT upd_same, rfl, _, _, rfl, _, _, rfl, rfl, ?_⟩
        generalize upd Hw T (.tup [.int (i : Nat), x2]) = Hv at sw1 bw1 eL1 pL1 hr1w
        clear sw bw eLw pL hr0w nT sT
        obtain ⟨z, zs, rfl, hz, hzr⟩ := hr1w
        refine ⟨.ref z, rfl, z, _, _, _, rfl, rfl, Same.tup (frz_same _ _) hz, atI_nat (j := 0) rfl, rfl, _, rfl, ?_⟩
        show if decide (V.str r0.w = V.str "meet") = true then _ else _
        rw [isM_dec]
        refine ite2 (fun em => ?_) (fun em => ⟨rws, _, _, _, _, _, _, _, _, _, _, _, _, _, rfl, bw1, sw1.mono (by omega), pw, hrwl, eL1, pL1⟩)
        obtain ⟨ps0, rfl⟩ : ∃ ps, r0 = .meet ps := by
          cases r0 with
          | meet ps => exact ⟨ps, rfl⟩
          | _ => cases em
        obtain ⟨qz, rfl, hqz⟩ := hzr
        have hpos : 0 < i := Nat.pos_of_ne_zero fun w => by
          rw [w, pp.r0] at hr0
          cases hr0
        have hil : i < rows.length := (List.getElem?_eq_some_iff.mp hr0).1
        have hmA := pp.rb _ (List.mem_of_getElem? hr0)
        obtain ⟨hm1, hm2, hm3⟩ := hmA
        have hp0 : ps0[0]? = some (ps0.getD 0 0) := gdl (List.length_pos_iff.mpr hm2)
        have hp0r : ps0.getD 0 0 < rws.length := by rw [hrwl]; exact hm1 _ (List.mem_of_getElem? hp0)
        have eB' := frz_same _ _ _ _ sw1.bl
        have hbi : blocks[i]? = some (blocks.getD i 0) := gdl (by rw [pw.len, hrwl]; exact hil)
        have hbi7 : blocks.getD i 0 < 7 := Nat.lt_of_lt_of_le (pw.b7 _ (List.mem_of_getElem? hbi)) hm.2.1
        -- leads
        refine ⟨.ref na, rfl, na, _, rfl, .inl (sqL (sw1.g _ _ gna)), _, rfl, by omega, by omega, fun L2 nL2 => ?_⟩
        have nL2t : L2 ≠ t := sw1.tape.ne nL2
        refine lc_range (lo := 0) (n := ((ps.map V.ref).length : Int).toNat) (fun j Hz => Same Hv Hz ∧ Hz L2 = some (.lst (((List.range j).filter fun l => decide (blocks.getD i 0 ∈ nx.getD l [])).map iv))) ⟨new_same nL2, upd_same⟩ (fun j Hz hj hP => ?_) (fun Hz hP => ?_)
        · obtain ⟨sz, eL2⟩ := hP
          have hin : j < nx.length := by rw [hpml] at hj; omega
          have hi1 : V.int (0 + (j : Int)) = iv j := by rw [Int.zero_add]; rfl
          rw [hi1]
          obtain ⟨ps2, qa, m1, m2, m3, m4⟩ := (z0.nr.same (sw1.g.trans sz)).at (gdl (d := []) hin)
          refine ⟨rfl, .ref ba, rfl, iv i, rfl, ba, _, _, iv (blocks.getD i 0), rfl, rfl, sqL (sz _ _ eB'), atI_nat (by rw [List.getElem?_map, hbi]; rfl), .ref na, rfl, iv j, rfl, na, _, _, .ref qa, rfl, rfl, sqL m1, m3, qa, _, rfl, .inl (sqL m4), rfl, flat_iv _, _, rfl, ?_⟩
          show if inV (iv (blocks.getD i 0)) ((nx.getD j []).map iv) = true then _ else _
          rw [inV_iv]
          have hfl : ((List.range j).filter fun l => decide (blocks.getD i 0 ∈ nx.getD l [])).length ≤ j := Nat.le_trans (List.length_filter_le _ _) (by rw [List.length_range]; exact Nat.le_refl _)
          refine ite2 (fun e => ?_) (fun e => ?_)
          · refine ⟨iv j, rfl, _, eL2, by rw [List.length_map]; exact szt (by omega), fun x o w => ?_, ?_⟩
            · rw [upd_ne (ne_of_none w nL2)]
              exact sz _ _ w
            · rw [upd_same, filt_succ, if_pos e, List.map_append]
              rfl
          · exact ⟨sz, by rw [filt_succ, if_neg e, List.append_nil]; exact eL2⟩
        obtain ⟨sz, eL2⟩ := hP
        have eL2 : Hz L2 = some (.lst ((leadsF nx (blocks.getD i 0)).map iv)) := by
          rw [eL2, hpml, Int.toNat_natCast]
          rfl
        obtain ⟨hl6, hl7⟩ := leads_bd nx hx _ hbi7
        generalize leadsF nx (blocks.getD i 0) = lds at eL2 hl6 hl7
        refine ⟨.ref z, rfl, z, _, _, .ref qz, rfl, rfl, Same.tup sz (Same.tup (frz_same _ _) hz), atI_nat (j := 1) rfl, qz, _, _, iv (ps0.getD 0 0), rfl, rfl, Same.tup sz (Same.tup (frz_same _ _) hqz), atI_nat (j := 0) (by rw [List.getElem?_map, hp0]; rfl), szl (show 1 ≤ 1000000 by decide), fun PL nPL => ⟨_, _, rfl, ?_⟩⟩
        have s3 := new_same (o := .lst [iv (ps0.getD 0 0)]) nPL
        have ePL : upd Hz PL (.lst [iv (ps0.getD 0 0)]) PL = some (.lst [iv (ps0.getD 0 0)]) := upd_same
        have sv3 := sz.trans s3
        have eL3 := s3 _ _ eL2
        have T3 := (sw1.tape.same sz).same s3
        have nPt : PL ≠ t := (sw1.tape.same sz).ne nPL
        have nPv : Hv PL = none := sz.free nPL
        generalize upd Hz PL (.lst [iv (ps0.getD 0 0)]) = H3 at s3 ePL sv3 eL3 T3
        refine ⟨.ref L2, rfl, 1, rfl, L2, _, rfl, sqL eL3, fun S nS => ⟨S, rfl, ⟨_, sqL upd_same⟩, ?_⟩⟩
        have hcut : ∀ x ∈ cutV (lds.map iv) (some 1) none, ∃ l ∈ lds, x = iv l := fun x hx' => by
          obtain ⟨l, hl, rfl⟩ := List.mem_map.mp (List.mem_of_mem_drop (List.mem_of_mem_take hx'))
          exact ⟨l, hl, rfl⟩
        have hcl : (cutV (lds.map iv) (some 1) none).length ≤ 6 := by
          unfold cutV
          rw [List.length_take, List.length_drop, List.length_map]
          omega
        have s4 := new_same (o := .lst (cutV (lds.map iv) (some 1) none)) nS
        have eS : upd H3 S (.lst (cutV (lds.map iv) (some 1) none)) S = some (.lst (cutV (lds.map iv) (some 1) none)) := upd_same
        have sv4 := sv3.trans s4
        have ePL4 := s4 _ _ ePL
        have T4 := T3.same s4
        have nSt : S ≠ t := T3.ne nS
        have nSP : S ≠ PL := (ne_of_none ePL nS).symm
        generalize upd H3 S (.lst (cutV (lds.map iv) (some 1) none)) = H4 at s4 eS sv4 ePL4 T4
        generalize cutV (lds.map iv) (some 1) none = cs at eS hcut hcl
        refine for_list (K := K) (a := S) (xs := cs) (fun j σ Hq => ∃ (parts : List Nat) (y6 y8 y9 y13 y14 y15 y16 y17 y18 : Option V), σ = [some (.ref t), some (iv 5), some (.ref na), some (.ref ra), some (.ref ba), some (.ref bg), y6, some (.ref L2), y8, y9, some (iv i), some (.ref z), some (.ref PL), y13, y14, y15, y16, y17, y18] ∧ But t Hv Hq ∧ Tape Hq t (c + 2000 + 30 * i + 4 * j) ∧ Hq S = some (.lst cs) ∧ Hq PL = some (.lst (parts.map iv)) ∧ parts.length = 1 + j ∧ ∀ y ∈ parts, y < rws.length) ⟨[ps0.getD 0 0], _, _, _, _, _, _, _, _, _, rfl, Same.but sv4, T4, eS, ePL4, rfl, fun y hy => by rw [List.mem_singleton.mp hy]; exact hp0r⟩ (fun j σ Hq _ hP => ?_) (fun j x σ Hq hx' hP => ?_) (fun σ Hq hP => ?_)
        · obtain ⟨_, _, _, _, _, _, _, _, _, _, _, _, _, eSq, _⟩ := hP
          exact sqL eSq
        · obtain ⟨parts, y6, y8, y9, y13, y14, y15, y16, y17, y18, rfl, bq, Tq, eSq, ePq, hpl', hpb⟩ := hP
          obtain ⟨l, hl, rfl⟩ := hcut x (List.mem_of_getElem? hx')
          have hj6 := (List.getElem?_eq_some_iff.mp hx').1
          have sq := sw1.but z0 bq Tq
          obtain ⟨us, eR, pR⟩ := id sq.rw_
          have eR' := frz_same _ _ _ _ eR
          have eB2 := frz_same _ _ _ _ sq.bl
          have hpR : Paired (RowAt K Hq) us rws := pd_mono pR fun _ _ y => y.same (frz_same _ _)
          have hb7 : ∀ y ∈ blocks, y < 7 := fun y hy => Nat.lt_of_lt_of_le (pw.b7 y hy) hm.2.1
          refine ⟨.ref na, rfl, .ref ba, rfl, .ref ra, rfl, iv l, rfl, na, ba, ra, nx, blocks, us, rws, l, rfl, z0.nr.same sq.g, hx, eB2, eR', hpR, pw.len, hb7, by omega, fun so H5 nso s5 eso => ?_⟩
          have hz0 := pw.zero (b := l) hx
          have hslt := pw.lt (b := l)
          have hsl := stand_len (nx := nx) (blocks := blocks) (rows := rws) (b := l)
          rw [pw.len] at hsl
          generalize standL nx blocks rws l = ss at eso hz0 hslt hsl
          have hsm : (ss.map iv).length = ss.length := List.length_map _
          have hspos : 0 < ss.length := List.length_pos_iff.mpr fun w => by rw [w] at hz0; cases hz0
          have nsot : so ≠ t := Tq.ne nso
          have T5 := Tq.same s5
          have eR5 := s5 _ _ eR'
          have hpR5 : Paired (RowAt K H5) us rws := pd_mono hpR fun _ _ y => y.same s5
          -- near
          refine ⟨.ref so, rfl, so, rfl, ⟨_, sqL eso⟩, fun N nN => ?_⟩
          refine lc_list (K := K) (a := so) (xs := ss.map iv) (fun m Hm => Same H5 Hm ∧ ∃ ns : List Nat, Hm N = some (.lst (ns.map iv)) ∧ ns.length ≤ m ∧ ∀ y ∈ ns, y ∈ ss) ⟨new_same nN, [], upd_same, Nat.le_refl _, fun y hy => (by cases hy)⟩ (fun m Hm _ hP => sqL (hP.1 _ _ eso)) (fun m x Hm hx2 hP => ?_) (fun Hm hP => ?_)
          · obtain ⟨sm, ns, eN, hnl, hns⟩ := hP
            rw [List.getElem?_map] at hx2
            obtain ⟨y, hy, rfl⟩ := Option.map_eq_some_iff.mp hx2
            have hys := List.mem_of_getElem? hy
            have hml' := (List.getElem?_eq_some_iff.mp hy).1
            have hyes : ∀ Hn : Hp, Same H5 Hn → Hn N = some (.lst (ns.map iv)) → ∃ v H4', v = iv y ∧ Hn = H4' ∧ ∃ acc, H4' N = some (.lst acc) ∧ acc.length < sizeLine ∧ (Same H5 (upd H4' N (.lst (acc ++ [v]))) ∧ ∃ ns : List Nat, (upd H4' N (.lst (acc ++ [v]))) N = some (.lst (ns.map iv)) ∧ ns.length ≤ m + 1 ∧ ∀ y ∈ ns, y ∈ ss) := fun Hn sn en => ⟨_, _, rfl, rfl, _, en, by rw [List.length_map]; exact szt (by omega), fun b o w => by rw [upd_ne (ne_of_none w nN)]; exact sn _ _ w, ns ++ [y], by rw [upd_same, List.map_append]; rfl, by rw [List.length_append]; exact Nat.add_le_add_right hnl 1, fun u hu => by
              rcases List.mem_append.mp hu with w | w
              · exact hns u w
              · rw [List.mem_singleton.mp w]; exact hys⟩
            refine ⟨rfl, iv y, rfl, iv i, rfl, rfl, _, rfl, ite2 (fun e => ?_) (fun e => ?_)⟩
            · obtain ⟨_, _, rfl, rfl, hh⟩ := hyes Hm sm eN
              exact ⟨iv y, rfl, hh⟩
            · obtain ⟨u, hu1, zz, zzs, rfl, hzz, _⟩ := pd_at hpR5 (gdl (d := Rw.take 0) (hslt y hys))
              refine ⟨.ref ra, rfl, iv y, rfl, ra, us, _, .ref zz, rfl, rfl, sqL (sm _ _ eR5), atI_nat hu1, zz, _, _, _, rfl, rfl, Same.tup sm hzz, atI_nat (j := 0) rfl, szl (show 2 ≤ 1000000 by decide), fun T2 nT2 => ?_⟩
              have sT2 := new_same (o := .tup [.str "sum", .str "less"]) nT2
              refine ⟨T2, _, rfl, .inr (sqT upd_same), rfl, rfl, _, rfl, ite2 (fun e => ?_) (fun e => ⟨sm.trans sT2, ns, sT2 _ _ eN, Nat.le_succ_of_le hnl, hns⟩)⟩
              obtain ⟨_, _, rfl, rfl, hh⟩ := hyes _ (sm.trans sT2) (sT2 _ _ eN)
              exact ⟨iv y, rfl, hh⟩
          obtain ⟨sm, ns, eN, hnl, hns⟩ := hP
          rw [hsm] at hnl
          have eso6 := sm _ _ eso
          have elast : atI (ss.map iv) (-1) = some (iv ss[ss.length - 1]) := by
            have := atI_neg (xs := ss.map iv) (r := 0) (by rw [hsm]; exact hspos)
            simpa using this
          have hlast : ss[ss.length - 1] ∈ ss := List.getElem_mem _
          refine ⟨.ref so, rfl, 1, rfl, so, _, _, _, rfl, rfl, sqL eso6, elast, szl (show 1 ≤ 1000000 by decide), fun l1 n1 => ?_⟩
          generalize ss[ss.length - 1] = la at elast hlast
          have w1 := new_same (o := .lst [iv la]) n1
          have u1 : upd Hm l1 (.lst [iv la]) l1 = some (.lst [iv la]) := upd_same
          have sm1 := sm.trans w1
          have eN1 := w1 _ _ eN
          generalize upd Hm l1 (.lst [iv la]) = H6 at w1 u1 sm1 eN1
          refine ⟨N, l1, _, _, rfl, rfl, eN1, u1, szl (by rw [List.length_map]; simp; omega), fun N2 nN2 => ?_⟩
          have w2 := new_same (o := .lst (ns.map iv ++ [iv la])) nN2
          have u2 : upd H6 N2 (.lst (ns.map iv ++ [iv la])) N2 = some (.lst ((ns ++ [la]).map iv)) := by rw [upd_same, List.map_append]; rfl
          have sm2 := sm1.trans w2
          have hnl2 : (ns ++ [la]).length ≤ 1000 := by rw [List.length_append]; simp; omega
          have hnp2 : 0 < (ns ++ [la]).length := by rw [List.length_append]; simp
          have hns2 : ∀ y ∈ ns ++ [la], y ∈ ss := fun y hy => by
            rcases List.mem_append.mp hy with w | w
            · exact hns y w
            · rw [List.mem_singleton.mp w]; exact hlast
          generalize upd H6 N2 (.lst (ns.map iv ++ [iv la])) = H7 at w2 u2 sm2
          generalize ns ++ [la] = ns2 at u2 hnl2 hnp2 hns2
          have hn2m : (ns2.map iv).length = ns2.length := List.length_map _
          have T7 := T5.same sm2
          have b7 : But t Hq H7 := Same.but (s5.trans sm2)
          have nN2t : N2 ≠ t := ((T5.same sm1)).ne nN2
          have eso7 := sm2 _ _ eso
          -- the part
          refine ⟨.ref PL, rfl, .inl ⟨rfl, _, sqL (b7 _ _ nPt ePq)⟩, .ref N2, rfl, .ref t, rfl, .ref N2, rfl, N2, _, rfl, .inl (sqL u2), t, _, _, rfl, T7, by omega, by rw [hn2m]; omega, by rw [hn2m]; omega, fun r8 H8 h8 b8 T8 => ?_⟩
          have hr8 : r8 < ns2.length := by rw [hn2m] at h8; omega
          refine ⟨N2, _, _, iv ns2[r8], rfl, rfl, sqL (b8 _ _ nN2t u2), atI_nat (by rw [List.getElem?_map, List.getElem?_eq_getElem hr8]; rfl), .ref so, rfl, .ref t, rfl, .ref so, rfl, so, _, rfl, .inl (sqL (b8 _ _ nsot eso7)), t, _, _, rfl, T8, by omega, by rw [hsm]; omega, by rw [hsm]; omega, fun r9 H9 h9 b9 T9 => ?_⟩
          have hr9 : r9 < ss.length := by rw [hsm] at h9; omega
          refine ⟨so, _, _, iv ss[r9], rfl, rfl, sqL (b9 _ _ nsot (b8 _ _ nsot eso7)), atI_nat (by rw [List.getElem?_map, List.getElem?_eq_getElem hr9]; rfl), szl (show 2 ≤ 1000000 by decide), fun l3 n3 => ?_⟩
          have w3 := new_same (o := .lst [iv ns2[r8], iv ss[r9]]) n3
          have nl3 : l3 ≠ t := T9.ne n3
          refine ⟨.ref t, rfl, t, 2, _, rfl, T9.same w3, by omega, by decide, by decide, fun rA HA hA bA TA => ?_⟩
          obtain ⟨y, hy, hat⟩ : ∃ y, y ∈ ss ∧ atI [iv ns2[r8], iv ss[r9]] (rA : Int) = some (iv y) := by
            have : rA = 0 ∨ rA = 1 := by omega
            rcases this with rfl | rfl
            · exact ⟨_, hns2 _ (List.getElem_mem hr8), atI_nat (j := 0) rfl⟩
            · exact ⟨_, List.getElem_mem hr9, atI_nat (j := 1) rfl⟩
          have bqA : But t Hq HA := ((b7.trans b8).trans b9).trans ((Same.but w3).trans bA)
          refine ⟨l3, _, _, iv y, rfl, rfl, sqL (bA _ _ nl3 upd_same), hat, PL, _, _, rfl, rfl, bqA _ _ nPt ePq, by rw [List.length_map]; exact szt (by omega), ?_⟩
          refine ⟨parts ++ [y], _, _, _, _, _, _, _, _, _, rfl, fun a o n e => ?_, ?_, by rw [upd_ne nSP]; exact bqA _ _ nSt eSq, by rw [upd_same, List.map_append]; rfl, by rw [List.length_append, hpl']; simp; omega, fun u hu => ?_⟩
          · rw [upd_ne (ne_of_none e nPv)]
            exact (bq.trans bqA) a o n e
          · obtain ⟨x, y, zz, q1, q2⟩ := TA
            exact ⟨x, y, zz, by rw [upd_ne nPt.symm]; exact q1, q2.1, q2.2.1, q2.2.2.1, q2.2.2.2.1, by have := q2.2.2.2.2; omega⟩
          · rcases List.mem_append.mp hu with w | w
            · exact hpb u w
            · rw [List.mem_singleton.mp w]; exact hslt y hy
        · obtain ⟨parts, y6, y8, y9, y13, y14, y15, y16, y17, y18, rfl, bq, Tq, eSq, ePq, hpl', hpb⟩ := hP
          have sq := (sw1.but z0 bq Tq).mono (show _ ≤ c + 2000 + 30 * (i + 1) by omega)
          obtain ⟨us, eR, pR⟩ := id sq.rw_
          have eR' := frz_same _ _ _ _ eR
          have hulw : us.length = rws.length := pd_len pR
          obtain ⟨nrt, nrb⟩ := frz_ne2 eR
          have nPb : PL ≠ bg := (ne_of_none sw1.bgd nPv).symm
          refine ⟨.ref PL, rfl, PL, _, rfl, .inl ⟨sqL ePq, fun R nR => ?_⟩⟩
          have w1 := new_same (o := .tup (parts.map iv)) nR
          have u1 : upd Hq R (.tup (parts.map iv)) R = some (.tup (parts.map iv)) := upd_same
          have nRt : R ≠ t := sq.tape.ne nR
          have nRb : R ≠ bg := (ne_of_none sq.bgd nR).symm
          have sq1 := sq.same z0 w1
          have bq1 := bq.trans (Same.but (t := t) w1)
          generalize upd Hq R (.tup (parts.map iv)) = H5 at w1 u1 sq1 bq1
          refine ⟨szl (show 2 ≤ 1000000 by decide), fun M nM => ?_⟩
          have w2 := new_same (o := .tup [.str "meet", .ref R]) nM
          have u2 : upd H5 M (.tup [.str "meet", .ref R]) M = some (.tup [.str "meet", .ref R]) := upd_same
          have nMt : M ≠ t := sq1.tape.ne nM
          have nMb : M ≠ bg := (ne_of_none sq1.bgd nM).symm
          have sq2 := sq1.same z0 w2
          have bq2 := bq1.trans (Same.but (t := t) w2)
          have u1' := w2 _ _ u1
          have eR2 := (w1.trans w2) _ _ eR'
          have pR2 : Paired (RowAt K (frz [t, bg] (upd H5 M (.tup [.str "meet", .ref R])))) us rws := pd_mono pR fun _ _ y => y.same (Bm.frz (Bm.of_same (w1.trans w2)))
          generalize upd H5 M (.tup [.str "meet", .ref R]) = H6 at w2 u2 sq2 bq2 u1' eR2 pR2
          have hv : RowAt K (frz [t, bg] H6) (.ref M) (.meet parts) := ⟨M, [.ref R], rfl, sqT (frz2 u2 nMt nMb), R, rfl, sqT (frz2 u1' nRt nRb)⟩
          have hpA : RwA (· < rws.length) (.meet parts) := ⟨hpb, fun w => by rw [w] at hpl'; simp at hpl'; omega, by omega⟩
          refine ⟨.ref ra, rfl, iv i, rfl, ra, us, _, i, rfl, rfl, eR2, Evl.ixN_nat (by omega), ?_⟩
          have hn0 : H ra = none := by
            cases e : H ra with
            | none => rfl
            | some o => exact absurd (hGH ra o nrt e) (by rw [sq.gr]; intro w; cases w)
          refine ⟨rws.set i (.meet parts), _, _, _, _, _, _, _, _, _, _, _, _, _, rfl, fun a o n e => ?_, sq2.setrow (i := i) z0 eR2 pR2 hv, pw.set hpos hpA, by rw [List.length_set]; exact hrwl, by rw [upd_ne nLr]; exact bq2 _ _ nLt eL1, ?_⟩
          · rw [upd_ne (ne_of_none e hn0)]
            exact (bw1.trans bq2) a o n e
          · exact pd_mono pL1 fun _ _ y => row_tups y fun hh => tup_frz_upd (Same.tup (Bm.frz (Bm.of_but bq2 (by simp))) hh) eR2
      · obtain ⟨rws, y6, y7, y8, y9, y10, y11, y12, y13, y14, y15, y16, y17, y18, rfl, bw, sw, pw, hrwl, eLw, pL⟩ := hP
        have sw := sw.mono (show _ ≤ c + 4000 by omega)
        clear pL eLw pR1 eL st1 bx1 pR0 eR0
        refine ⟨Nat.zero_le _, fun fo nfo => ?_⟩
        have s0 := new_same (o := .lst []) nfo
        have nft : fo ≠ t := sw.tape.ne nfo
        have nfG : G fo = none := sw.g.free nfo
        obtain ⟨us, eR, pR⟩ := id sw.rw_
        obtain ⟨nrt, nrb⟩ := frz_ne2 eR
        obtain ⟨nbt, nbb⟩ := frz_ne2 sw.bl
        have nfr : fo ≠ ra := (ne_of_none (frz_same _ _ _ _ eR) nfo).symm
        have nfb : fo ≠ bg := (ne_of_none sw.bgd nfo).symm
        have nfa : fo ≠ ba := (ne_of_none (frz_same _ _ _ _ sw.bl) nfo).symm
        have nfH : H fo = none := by
          cases e : H fo with
          | none => rfl
          | some o => exact absurd (hGH fo o nft e) (by rw [nfG]; intro w; cases w)
        have hul : us.length = rws.length := pd_len pR
        have hbgl : begins.length = nx.length := hbg
        have pm0 : PgM K t fo (upd Hw fo (.lst [])) [] [] := ⟨upd_same, nft, by simp, fun q hq => (by cases hq), .nil⟩
        have sw0 := sw.same z0 s0
        have bw0 := bw.trans (Same.but (t := t) s0)
        have eR0 := s0 _ _ (frz_same _ _ _ _ eR)
        have pR0 : Paired (RowAt K (frz [t, bg] (upd Hw fo (.lst [])))) us rws := pd_mono pR fun _ _ y => y.same (Bm.frz (Bm.of_same s0))
        generalize upd Hw fo (.lst []) = H0' at pm0 sw0 bw0 eR0 pR0
        clear sw bw eR pR s0
        refine ⟨.ref na, rfl, na, _, rfl, sqL (sw0.g _ _ gna), ?_⟩
        refine for_it (walk_enum (K := K) (a := na) (xs := ps.map V.ref)) (fun b σ Hw => ∃ (qs : List (Addr × Addr)) (pr : List Blk) (y6 y7 y8 y9 y10 y11 y12 y13 y14 y16 y17 y18 : Option V), σ = [some (.ref t), some (iv 5), some (.ref na), some (.ref ra), some (.ref ba), some (.ref bg), y6, y7, y8, y9, y10, y11, y12, y13, y14, some (.ref fo), y16, y17, y18] ∧ But t H Hw ∧ S1 K G t bg ra ba Hw (c + 4000 + 2 * b) rws blocks begins ∧ Hw ra = some (.lst us) ∧ Paired (RowAt K (frz [t, bg] Hw)) us rws ∧ PgM K t fo Hw qs pr ∧ pr.length = b ∧ (∀ x ∈ pr, BlkB 7 100 x ∧ x.1.length ≤ 57) ∧ ∀ q ∈ qs, G q.2 = none) ⟨[], [], _, _, _, _, _, _, _, _, _, _, _, _, rfl, bw0, sw0, eR0, pR0, pm0, rfl, fun x hx => (by cases hx), fun x hx => (by cases hx)⟩ (fun b σ Hw _ hP => ?_) (fun b x σ Hw Hw2 hi hP hY => ?_) (fun σ Hw hP => ?_)
        · obtain ⟨_, _, _, _, _, _, _, _, _, _, _, _, _, _, _, _, sw, _⟩ := hP
          exact sqL (sw.g _ _ gna)
        · obtain ⟨qs, pr, y6, y7, y8, y9, y10, y11, y12, y13, y14, y16, y17, y18, rfl, bw, sw, eR, pR, pm, hprl, hprb, hqG⟩ := hP
          obtain ⟨T, x1, x2, rfl, nT, rfl, e1, e2⟩ := hY
          cases e1
          have hbn : b < nx.length := by rw [hpml] at hi; exact hi
          have e2 : (ps.map V.ref)[b]? = some x2 := e2
          rw [List.getElem?_map] at e2
          obtain ⟨qa, hqa, rfl⟩ := Option.map_eq_some_iff.mp e2
          obtain ⟨own, hown, gqa⟩ := pd_at2 gps hqa
          obtain ⟨hol, hob⟩ := hm.2.2 own (List.mem_of_getElem? hown)
          have sT := new_same (o := .tup [.int (b : Nat), .ref qa]) nT
          have sw1 := sw.same z0 sT
          have bw1 := bw.trans (Same.but (t := t) sT)
          have eR1 := sT _ _ eR
          have pR1 : Paired (RowAt K (frz [t, bg] (upd Hw T (.tup [.int (b : Nat), .ref qa])))) us rws := pd_mono pR fun _ _ y => y.same (Bm.frz (Bm.of_same sT))
          have pm1 := pm.but (Same.but sT)
          refine ⟨T, _, rfl, sqT upd_same, rfl, _, _, rfl, _, _, rfl, rfl, ?_⟩
          generalize upd Hw T (.tup [.int (b : Nat), .ref qa]) = Hv at sw1 bw1 eR1 pR1 pm1
          clear sw bw eR pR pm nT sT
          have hpR : Paired (RowAt K Hv) us rws := pd_mono pR1 fun _ _ y => y.same (frz_same _ _)
          have hb7 : ∀ y ∈ blocks, y < 7 := fun y hy => Nat.lt_of_lt_of_le (pw.b7 y hy) hm.2.1
          refine ⟨.ref na, rfl, .ref ba, rfl, .ref ra, rfl, iv b, rfl, na, ba, ra, nx, blocks, us, rws, b, rfl, z0.nr.same sw1.g, hx, frz_same _ _ _ _ sw1.bl, eR1, hpR, pw.len, hb7, by omega, fun so H5 nso s5 eso => ?_⟩
          have hz0 := pw.zero (b := b) hx
          have hslt := pw.lt (b := b)
          have hsl := stand_len (nx := nx) (blocks := blocks) (rows := rws) (b := b)
          rw [pw.len] at hsl
          generalize standL nx blocks rws b = ss at eso hz0 hslt hsl
          have hsm : (ss.map iv).length = ss.length := List.length_map _
          have hspos : 0 < ss.length := List.length_pos_iff.mpr fun w => by rw [w] at hz0; cases hz0
          have nsot : so ≠ t := sw1.tape.ne nso
          have T5 := sw1.tape.same s5
          have b5 : But t Hv H5 := Same.but s5
          have eqa5 := (sw1.g.trans s5) _ _ gqa
          have nqt : qa ≠ t := ne_of_none gqa z0.gt
          have r57 := pw.le
          have b7' := hm.2.1
          -- the end
          refine ⟨fun σ Hq => ∃ (ea : V) (e : En), σ = [some (.ref t), some (iv 5), some (.ref na), some (.ref ra), some (.ref ba), some (.ref bg), some (iv b), y7, y8, some (.ref so), y10, y11, y12, y13, y14, some (.ref fo), some (.ref qa), some ea, y18] ∧ But t Hv Hq ∧ Tape Hq t (c + 4000 + 2 * b + 1) ∧ EnAt K (frz [t] Hq) ea e ∧ EnB 7 100 e, ?_, fun σ Hq hM => ?_⟩
          · refine ⟨szl (show 1 ≤ 1000000 by decide), fun t1 n1 => ?_⟩
            have w1 := new_same (o := .tup [.str "end"]) n1
            have u1 : upd H5 t1 (.tup [.str "end"]) t1 = some (.tup [.str "end"]) := upd_same
            have d1 : t1 ≠ t := T5.ne n1
            have b6 := b5.trans (Same.but (t := t) w1)
            have T6 := T5.same w1
            have eso6 := w1 _ _ eso
            have eqa6 := w1 _ _ eqa5
            generalize upd H5 t1 (.tup [.str "end"]) = H6 at w1 u1 b6 T6 eso6 eqa6
            refine ⟨szl (show 1 ≤ 1000000 by decide), fun t2 n2 => ?_⟩
            have w2 := new_same (o := .tup [.str "go"]) n2
            have u2 : upd H6 t2 (.tup [.str "go"]) t2 = some (.tup [.str "go"]) := upd_same
            have d2 : t2 ≠ t := T6.ne n2
            have b7 := b6.trans (Same.but (t := t) w2)
            have T7 := T6.same w2
            have eso7 := w2 _ _ eso6
            have eqa7 := w2 _ _ eqa6
            have u1a := w2 _ _ u1
            generalize upd H6 t2 (.tup [.str "go"]) = H7 at w2 u2 b7 T7 eso7 eqa7 u1a
            refine ⟨.ref so, rfl, .ref t, rfl, .ref so, rfl, so, _, rfl, .inl (sqL eso7), t, _, _, rfl, T7, by omega, by rw [hsm]; omega, by rw [hsm]; omega, fun r8 H8 h8 c8 T8 => ?_⟩
            have hr8 : r8 < ss.length := by rw [hsm] at h8; omega
            have hy := hslt _ (List.getElem_mem hr8)
            refine ⟨so, _, _, iv ss[r8], rfl, rfl, sqL (c8 _ _ nsot eso7), atI_nat (by rw [List.getElem?_map, List.getElem?_eq_getElem hr8]; rfl), szl (show 2 ≤ 1000000 by decide), fun t3 n3 => ?_⟩
            generalize ss[r8] = y at hy
            have b8 := b7.trans c8
            have w3 := new_same (o := .tup [.str "if", iv y]) n3
            have u3 : upd H8 t3 (.tup [.str "if", iv y]) t3 = some (.tup [.str "if", iv y]) := upd_same
            have d3 : t3 ≠ t := T8.ne n3
            have b9 := b8.trans (Same.but (t := t) w3)
            have T9 := T8.same w3
            have eqa9 := w3 _ _ (c8 _ _ nqt eqa7)
            have u1b := w3 _ _ (c8 _ _ d1 u1a)
            have u2b := w3 _ _ (c8 _ _ d2 u2)
            generalize upd H8 t3 (.tup [.str "if", iv y]) = H9 at w3 u3 b9 T9 eqa9 u1b u2b
            refine ⟨szl (show 3 ≤ 1000000 by decide), fun l4 n4 => ?_⟩
            have w4 := new_same (o := .lst [.ref t1, .ref t2, .ref t3]) n4
            have u4 : upd H9 l4 (.lst [.ref t1, .ref t2, .ref t3]) l4 = some (.lst [.ref t1, .ref t2, .ref t3]) := upd_same
            have bA := b9.trans (Same.but (t := t) w4)
            have TA := T9.same w4
            have eqaA := w4 _ _ eqa9
            have u1c := w4 _ _ u1b
            have u2c := w4 _ _ u2b
            have u3c := w4 _ _ u3
            generalize upd H9 l4 (.lst [.ref t1, .ref t2, .ref t3]) = HA at w4 u4 bA TA eqaA u1c u2c u3c
            match own, hol, hob, eqaA with
            | [], _, _, eqaA =>
              refine ⟨.ref qa, rfl, qa, _, rfl, .inl (sqL eqaA), l4, _, _, .ref t1, rfl, rfl, sqL u4, atI_nat (j := 0) rfl, .ref qa, rfl, qa, _, rfl, .inl ⟨sqL eqaA, fun tq ntq => ?_⟩⟩
              have w5 := new_same (o := .tup []) ntq
              refine ⟨t1, tq, _, _, rfl, rfl, sqT (w5 _ _ u1c), sqT upd_same, szl (by simp), fun w => (by cases w), fun _ _ => ?_, fun _ w => absurd rfl w⟩
              exact ⟨_, .fin, rfl, bA.trans (Same.but w5), TA.same w5, ⟨t1, rfl, sqT (frz_at (w5 _ _ u1c) (by simpa using d1))⟩, trivial⟩
            | [x], _, hob, eqaA =>
              refine ⟨.ref qa, rfl, qa, _, rfl, .inl (sqL eqaA), l4, _, _, .ref t2, rfl, rfl, sqL u4, atI_nat (j := 1) rfl, .ref qa, rfl, qa, _, rfl, .inl ⟨sqL eqaA, fun tq ntq => ?_⟩⟩
              have w5 := new_same (o := .tup [iv x]) ntq
              refine ⟨t2, tq, _, _, rfl, rfl, sqT (w5 _ _ u2c), sqT upd_same, szl (by simp), fun w => (by cases w), fun _ w => (by cases w), fun _ _ p np => ?_⟩
              have w6 := new_same (o := .tup [.str "go", iv x]) np
              exact ⟨_, .go x, rfl, (bA.trans (Same.but w5)).trans (Same.but w6), (TA.same w5).same w6, ⟨p, rfl, sqT (frz_at upd_same (by simpa using (TA.same w5).ne np))⟩, Nat.lt_of_lt_of_le (hob x (by simp)).2 b7'⟩
            | [x, x'], _, hob, eqaA =>
              refine ⟨.ref qa, rfl, qa, _, rfl, .inl (sqL eqaA), l4, _, _, .ref t3, rfl, rfl, sqL u4, atI_nat (j := 2) rfl, .ref qa, rfl, qa, _, rfl, .inl ⟨sqL eqaA, fun tq ntq => ?_⟩⟩
              have w5 := new_same (o := .tup [iv x, iv x']) ntq
              refine ⟨t3, tq, _, _, rfl, rfl, sqT (w5 _ _ u3c), sqT upd_same, szl (by simp), fun w => (by cases w), fun _ w => (by cases w), fun _ _ p np => ?_⟩
              have w6 := new_same (o := .tup [.str "if", iv y, iv x, iv x']) np
              exact ⟨_, .iff y x x', rfl, (bA.trans (Same.but w5)).trans (Same.but w6), (TA.same w5).same w6, ⟨p, rfl, sqT (frz_at upd_same (by simpa using (TA.same w5).ne np))⟩, by omega, Nat.lt_of_lt_of_le (hob x (by simp)).2 b7', Nat.lt_of_lt_of_le (hob x' (by simp)).2 b7'⟩
          obtain ⟨ea, e, rfl, bq, Tq, hea, heb⟩ := hM
          have sq := sw1.but z0 bq Tq
          have eRq := bq _ _ nrt eR1
          have pmq := pm1.but bq
          have pRq : Paired (RowAt K (frz [t, bg] Hq)) us rws := pd_mono pR1 fun _ _ y => y.same (Bm.frz (Bm.of_but bq (by simp)))
          have hb0 : begins[b]? = some (begins.getD b 0) := gdl (by omega)
          refine ⟨.ref fo, rfl, .inl ⟨rfl, _, sqL pmq.top⟩, .ref ra, rfl, .ref bg, rfl, iv b, rfl, bg, _, _, iv (begins.getD b 0), rfl, rfl, sqL sq.bgd, atI_nat (by rw [List.getElem?_map, hb0]; rfl), _, rfl, .ref bg, rfl, .ref ra, rfl, ra, us, rfl, .inl (sqL eRq), szl (show 1 ≤ 1000000 by decide), fun l1 n1 => ?_⟩
          have w1 := new_same (o := .lst [.int (us.length : Int)]) n1
          have u1 : upd Hq l1 (.lst [.int (us.length : Int)]) l1 = some (.lst [.int (us.length : Int)]) := upd_same
          have bq1 := bq.trans (Same.but (t := t) w1)
          have T1 := Tq.same w1
          generalize upd Hq l1 (.lst [.int (us.length : Int)]) = Ha at w1 u1 bq1 T1
          refine ⟨bg, l1, _, _, rfl, rfl, w1 _ _ sq.bgd, u1, szl (by rw [List.length_map]; simp; omega), fun l2 n2 => ?_⟩
          have w2 := new_same (o := .lst (begins.map iv ++ [.int (us.length : Int)])) n2
          have u2 : upd Ha l2 (.lst (begins.map iv ++ [.int (us.length : Int)])) l2 = some (.lst ((begins ++ [us.length]).map iv)) := by rw [upd_same, List.map_append]; rfl
          have bq2 := bq1.trans (Same.but (t := t) w2)
          have T2 := T1.same w2
          generalize upd Ha l2 (.lst (begins.map iv ++ [.int (us.length : Int)])) = Hb at w2 u2 bq2 T2
          have hb1' : (begins ++ [us.length])[b + 1]? = some ((begins ++ [us.length]).getD (b + 1) 0) := gdl (by rw [List.length_append]; simp; omega)
          generalize (begins ++ [us.length]).getD (b + 1) 0 = hi2 at hb1'
          refine ⟨iv b, rfl, _, _, rfl, rfl, l2, _, _, iv hi2, rfl, rfl, sqL u2, atI_nat (j := b + 1) (by rw [List.getElem?_map, hb1']; rfl), _, rfl, ra, us, rfl, sqL (bq2 _ _ nrt eR1), fun sl nsl => ?_⟩
          have w3 := new_same (o := .lst (cutV us (some ((begins.getD b 0 : Nat) : Int)) (some (hi2 : Int)))) nsl
          have u3 : upd Hb sl (.lst (cutV us (some ((begins.getD b 0 : Nat) : Int)) (some (hi2 : Int)))) sl = some (.lst (cutV us (some ((begins.getD b 0 : Nat) : Int)) (some (hi2 : Int)))) := upd_same
          have bq3 := bq2.trans (Same.but (t := t) w3)
          have T3 := T2.same w3
          have nslt : sl ≠ t := T2.ne nsl
          have pm2 := pm1.but bq2
          have nslf : sl ≠ fo := (ne_of_none pm2.top nsl).symm
          have nslq : sl ∉ qs.map (·.2) := fun w => by
            obtain ⟨q', hq', ew⟩ := List.mem_map.mp w
            obtain ⟨b', hb', ea', vs', _, hv', _⟩ := pd_mem pm2.bk hq'
            rw [ew, nsl] at hv'
            cases hv'
          have w34 : But t Hq (upd Hb sl (.lst (cutV us (some ((begins.getD b 0 : Nat) : Int)) (some (hi2 : Int))))) := (Same.but (w1.trans w2)).trans (Same.but w3)
          obtain ⟨rs, hrs1, hrs2, hrs3⟩ : ∃ rs : List Rw, Paired (RowAt K (frz [t, bg] Hq)) (cutV us (some ((begins.getD b 0 : Nat) : Int)) (some (hi2 : Int))) rs ∧ (∀ r ∈ rs, r ∈ rws) ∧ rs.length ≤ rws.length := by
            refine ⟨_, pd_take _ (pd_drop _ pRq), fun r hr => List.mem_of_mem_drop (List.mem_of_mem_take hr), ?_⟩
            rw [List.length_take, List.length_drop]
            omega
          have hrsF : Paired (RowAt K (frz [t] (upd Hb sl (.lst (cutV us (some ((begins.getD b 0 : Nat) : Int)) (some (hi2 : Int))))))) (cutV us (some ((begins.getD b 0 : Nat) : Int)) (some (hi2 : Int))) rs := pd_mono hrs1 fun _ _ y => (y.same frz_le).same (Bm.frz (Bm.of_but w34 (by simp)))
          have heaF := hea.same (Bm.frz (Bm.of_but w34 (by simp)))
          generalize upd Hb sl (.lst (cutV us (some ((begins.getD b 0 : Nat) : Int)) (some (hi2 : Int)))) = Hc at w3 u3 bq3 T3 w34 hrsF heaF
          refine ⟨ea, rfl, szl (show 2 ≤ 1000000 by decide), fun tq ntq => ?_⟩
          have w4 := new_same (o := .tup [.ref sl, ea]) ntq
          have u4 : upd Hc tq (.tup [.ref sl, ea]) tq = some (.tup [.ref sl, ea]) := upd_same
          have ntt : tq ≠ t := T3.ne ntq
          have bq4 := bq3.trans (Same.but (t := t) w4)
          have T4 := T3.same w4
          have pm4 := pm1.but bq4
          have hbk : BkM K (frz [t] (upd Hc tq (.tup [.ref sl, ea]))) (upd Hc tq (.tup [.ref sl, ea])) (tq, sl) (rs, e) := ⟨ea, _, sqT (frz_at u4 (by simpa using ntt)), w4 _ _ u3, pd_mono hrsF fun _ _ y => y.same (Bm.frz (Bm.of_same w4)), heaF.same (Bm.frz (Bm.of_same w4))⟩
          generalize upd Hc tq (.tup [.ref sl, ea]) = Hd at w4 u4 bq4 T4 pm4 hbk
          have pm5 := pm4.snoc hbk nslf nslt nslq
          have hqsl : qs.length = b := by have := pd_len pm4.bk; omega
          refine ⟨fo, _, _, rfl, rfl, pm4.top, by rw [List.length_map]; exact szt (by omega), ?_⟩
          have sd := sw1.but z0 bq4 T4
          have bfo : Bm [t, fo] Hd (upd Hd fo (.lst ((qs.map fun q => V.ref q.1) ++ [.ref tq]))) := Bm_upd (by simp)
          have gTp : ∀ {M : List Addr} {x : Addr} {xs : List V}, SqT K (frz M Hd) x xs → SqT K (frz M (upd Hd fo (.lst ((qs.map fun q => V.ref q.1) ++ [.ref tq])))) x xs := fun h => tup_frz_upd h pm4.top
          have pRd : Paired (RowAt K (frz [t, bg] Hd)) us rws := pd_mono pR1 fun _ _ y => y.same (Bm.frz (Bm.of_but bq4 (by simp)))
          obtain ⟨usd, eRd, pRd'⟩ := id sd.rw_
          have hud : usd = us := by
            have e1 := frz_same _ _ _ _ eRd
            rw [bq4 _ _ nrt eR1] at e1
            cases e1
            rfl
          subst hud
          refine ⟨qs ++ [(tq, sl)], pr ++ [(rs, e)], _, _, _, _, _, _, _, _, _, _, _, _, rfl, fun x o n ex => ?_, ⟨?_, Same.upd sd.g nfG, by rw [upd_ne nfb.symm]; exact sd.bgd, ⟨usd, frz2 (by rw [upd_ne nfr.symm]; exact frz_same _ _ _ _ eRd) nrt nrb, pd_mono pRd fun _ _ y => row_tups y gTp⟩, frz2 (by rw [upd_ne nfa.symm]; exact frz_same _ _ _ _ sd.bl) nbt nbb, sd.gr, sd.nab⟩, by rw [upd_ne nfr.symm]; exact bq4 _ _ nrt eR1, pd_mono pRd fun _ _ y => row_tups y gTp, pm5, by rw [List.length_append, hprl]; rfl, fun x hx' => ?_, fun x hx' => ?_⟩
          · rw [upd_ne (ne_of_none ex nfH)]
            exact (bw1.trans bq4) x o n ex
          · obtain ⟨x, y, n, a', q'⟩ := sd.tape
            exact ⟨x, y, n, by rw [upd_ne nft.symm]; exact a', q'.1, q'.2.1, q'.2.2.1, q'.2.2.2.1, by have := q'.2.2.2.2; omega⟩
          · rcases List.mem_append.mp hx' with w | w
            · exact hprb x w
            · rw [List.mem_singleton.mp w]
              exact ⟨⟨by show rs.length ≤ 100; omega, fun r hr => (pw.rb r (hrs2 r hr)).mono fun y hy => by have : y < rws.length := hy; show y < 100; omega, heb⟩, by show rs.length ≤ 57; omega⟩
          · rcases List.mem_append.mp hx' with w | w
            · exact hqG x w
            · rw [List.mem_singleton.mp w]
              exact (Same.bt sw1.g z0.gt bq2).free nsl
        · obtain ⟨qs, pr, y6, y7, y8, y9, y10, y11, y12, y13, y14, y16, y17, y18, rfl, bw, sw, eR, pR, pm, hprl, hprb, hqG⟩ := hP
          rw [hpml] at hprl
          have hqpl := pd_len pm.bk
          -- the last block
          obtain ⟨qs', q1, rfl⟩ : ∃ qs' q1, qs = qs' ++ [q1] := ⟨qs.dropLast, qs.getLast (fun w => by rw [w] at hqpl; simp at hqpl; omega), (List.dropLast_concat_getLast _).symm⟩
          obtain ⟨pr', b1', rfl⟩ : ∃ pr' b1', pr = pr' ++ [b1'] := ⟨pr.dropLast, pr.getLast (fun w => by rw [w] at hprl; simp at hprl; omega), (List.dropLast_concat_getLast _).symm⟩
          obtain ⟨rs, e⟩ := b1'
          have hq'l : qs'.length = pr'.length := by simpa using hqpl
          have hlast : BkM K (frz [t] Hw) Hw q1 (rs, e) := by
            have h := pd_drop qs'.length pm.bk
            rw [List.drop_left' rfl, List.drop_left' hq'l.symm] at h
            cases h with
            | cons h _ => exact h
          obtain ⟨ea, vs, l1, l2, l3, l4⟩ := id hlast
          have hvl : vs.length = rs.length := pd_len l3
          obtain ⟨⟨_, hbl2, hbl3⟩, hbl1⟩ := hprb (rs, e) (by simp)
          have hbl1 : rs.length ≤ 57 := hbl1
          obtain ⟨nq1, nq2⟩ := pm.nf q1 (by simp)
          have etop : atI ((qs' ++ [q1]).map fun q => V.ref q.1) (-1) = some (.ref q1.1) := by rw [List.map_append]; exact atI_last _ _
          refine ⟨.ref fo, rfl, 1, rfl, fo, _, _, .ref q1.1, rfl, rfl, sqL pm.top, etop, q1.1, _, _, .ref q1.2, rfl, rfl, Same.tup (frz_same _ _) l1, atI_nat (j := 0) rfl, .inl ⟨rfl, _, sqL l2⟩, szl (show 2 ≤ 1000000 by decide), fun T1 n1 => ?_⟩
          have w1 := new_same (o := .tup [.str "tell", .int 0]) n1
          have u1 : upd Hw T1 (.tup [.str "tell", .int 0]) T1 = some (.tup [.str "tell", .int 0]) := upd_same
          have d1 : T1 ≠ t := sw.tape.ne n1
          have b1x := bw.trans (Same.but (t := t) w1)
          have T1' := sw.tape.same w1
          have pmA := pm.but (Same.but w1)
          generalize upd Hw T1 (.tup [.str "tell", .int 0]) = Ha at w1 u1 b1x T1' pmA
          refine ⟨szl (show 1 ≤ 1000000 by decide), fun ll nll => ?_⟩
          have w2 := new_same (o := .lst [.ref T1]) nll
          have u2 : upd Ha ll (.lst [.ref T1]) ll = some (.lst [.ref T1]) := upd_same
          have d2 : ll ≠ t := T1'.ne nll
          have b2x := b1x.trans (Same.but (t := t) w2)
          have T2' := T1'.same w2
          have u1a := w2 _ _ u1
          generalize upd Ha ll (.lst [.ref T1]) = Hb at w2 u2 b2x T2' u1a
          refine ⟨.ref t, rfl, t, 2, _, rfl, T2', by omega, by decide, by decide, fun r3 Hc h3 b3 T3 => ?_⟩
          have b3x := b2x.trans b3
          have u1b := b3 _ _ d1 u1a
          have u2b := b3 _ _ d2 u2
          refine ⟨ll, _, _, rfl, rfl, u2b, by omega, by omega, szl (by simp; omega), fun l5 n5 => ?_⟩
          have w5 := new_same (o := .lst (List.replicate (r3 : Int).toNat [V.ref T1]).flatten) n5
          have u5 : upd Hc l5 (.lst (List.replicate (r3 : Int).toNat [V.ref T1]).flatten) l5 = some (.lst (List.replicate (r3 : Int).toNat [V.ref T1]).flatten) := upd_same
          have T5 := T3.same w5
          have b5x := b3x.trans (Same.but (t := t) w5)
          have bww : But t Hw (upd Hc l5 (.lst (List.replicate (r3 : Int).toNat [V.ref T1]).flatten)) := (Same.but (w1.trans w2)).trans (b3.trans (Same.but w5))
          have u1c := w5 _ _ u1b
          generalize upd Hc l5 (.lst (List.replicate (r3 : Int).toNat [V.ref T1]).flatten) = Hd at w5 u5 T5 b5x bww u1c
          obtain ⟨ws, rs2, ews, hws, hws2, hwl⟩ : ∃ (ws : List V) (rs2 : List Rw), (List.replicate (r3 : Int).toNat [V.ref T1]).flatten = ws ∧ Paired (RowAt K (frz [t] Hd)) ws rs2 ∧ (∀ r ∈ rs2, r = .tell 0) ∧ rs2.length ≤ 1 := by
            have hT1 : RowAt K (frz [t] Hd) (.ref T1) (.tell 0) := ⟨T1, [iv 0], rfl, sqT (frz_at u1c (by simpa using d1)), rfl⟩
            have : r3 = 0 ∨ r3 = 1 := by omega
            rcases this with rfl | rfl
            · exact ⟨[], [], rfl, .nil, fun r hr => (by cases hr), by decide⟩
            · exact ⟨[.ref T1], [.tell 0], rfl, .cons hT1 .nil, fun r hr => List.mem_singleton.mp hr, by decide⟩
          rw [ews] at u5
          have hwsl : ws.length = rs2.length := pd_len hws
          have pmD := pm.but bww
          have f := Bm.frz (M := [t]) (Bm.of_but bww (by simp))
          have pmE := pmD.ext (Same.tup f l1) (bww _ _ nq2 l2) (pd_mono l3 fun _ _ y => y.same f) (l4.same f) hws
          refine ⟨q1.2, l5, _, ws, rfl, rfl, bww _ _ nq2 l2, u5, szl (by omega), ?_⟩
          refine ⟨.ref fo, rfl, ?_⟩
          have nqA : ∀ x ∈ qs' ++ [q1], H x.2 = none := fun x hx' => by
            cases ee : H x.2 with
            | none => rfl
            | some o => exact absurd (hGH _ o (pm.nf x hx').2 ee) (by rw [hqG x hx']; intro w; cases w)
          have nqH : H q1.2 = none := nqA q1 (by simp)
          refine q fo (qs' ++ [q1]) _ _ (fun x o n ex => ?_) ?_ pmE nqA (by simp) (by rw [List.length_append]; rw [List.length_append] at hprl; simp at hprl ⊢; omega) (fun x hx' => ?_)
          · rw [upd_ne (ne_of_none ex nqH)]
            exact b5x x o n ex
          · obtain ⟨x, y, n, a', q'⟩ := T5
            exact ⟨x, y, n, by rw [upd_ne nq2.symm]; exact a', q'.1, q'.2.1, q'.2.2.1, q'.2.2.2.1, by have := q'.2.2.2.2; omega⟩
          · rcases List.mem_append.mp hx' with w | w
            · exact (hprb x (List.mem_append_left _ w)).1
            · rw [List.mem_singleton.mp w]
              refine ⟨?_, fun r hr => ?_, hbl3⟩
              · show (rs ++ rs2).length ≤ 100
                rw [List.length_append]
                omega
              · rcases List.mem_append.mp hr with w2 | w2
                · exact hbl2 r w2
                · rw [hws2 r w2]; exact (show 0 < 100 by decide)
end
end Gn
set_option Elab.async false
set_option linter.all false
namespace PySem.AutoSeq1
set_option maxRecDepth 8000 in
theorem own_extend (l b : Addr) (xs ys : Array Value) (n m : Nat) (dd : Option Addr) (sl : Array (Option Value)) (h0 : ¬(!xs.isEmpty && Builtin.List.listTooLong (xs.size + ys.size)) = true) (h1 : xs.size ≤ sizeLine) (h2 : xs.size + ys.size ≤ sizeLine + 1) :
    Meets (Builtin.«list.extend» ⟨[.ref l, .ref b], []⟩) (fun _ R s => s.heap.get? l = some { cls := .type "list", dict := none, data := .seq xs n, slots := #[] } ∧ s.heap.get? b = some { cls := .type "tuple", dict := dd, data := .seq ys m, slots := sl } ∧
      R (.ok (.ret Value.none)) { s with heap := s.heap.update l (Obj.mapSeq fun x => x ++ ys), toks := s.toks }) := by
  refine .of_wp fun prog w A R s h => ?_
  obtain ⟨hp, g, d, tk, os⟩ := s
  obtain ⟨hl, hb, h⟩ := h
  have f1 := idx_int
  have f2 := sub_tuple_tuple
  have f3 := sub_list_list
  have f4 := sub_tuple_list
  have f5 := sub_list_tuple
  have hz' : (xs ++ ys).size ≤ sizeLine + 1 := by rw [Array.size_append]; exact h2
  wp_walk using (wpAny_updateSeq hl rfl (hz := h1) (_hz' := hz')), wpAny_loadPart' hl, wpAny_loadPart' hb
  exact ⟨_, rfl, h⟩
end PySem.AutoSeq1
namespace Gn
open PySem PySem.Spec PyProof.Rows L2
/-! ### xs.extend(t), t a tuple -/
def rExtendT (K : PySem.W.Frag) : V → List V → Hp → VK → Prop := fun x vs H Q => ∃ l b xs zs, x = .ref l ∧ vs = [.ref b] ∧ H l = some (.lst xs) ∧ SqT K H b zs ∧ xs.length + zs.length ≤ sizeLine ∧ Q .non (upd H l (.lst (xs ++ zs)))
theorem mt_extendT {X : Cx} : MtM X "list.extend" (rExtendT X.K) := by
  intro pins s σ H x vs v us Q I rx rv h
  obtain ⟨l, b, as, bs, rfl, rfl, hl, hb, hle, q⟩ := h
  cases rx
  obtain ⟨u, rfl, ru⟩ := rv.one
  cases ru
  obtain ⟨zl, vl, nl, rl, ll, el⟩ := I.lstM hl
  obtain ⟨vb, rb, ⟨⟨cb, db, data, sb⟩, eb, kb, nb, hd⟩, zb⟩ := I.tuple hb
  simp only at kb hd
  subst kb hd
  have lb := rb.length
  have both : vl.toArray.size + vb.toArray.size ≤ sizeLine := by simp only [List.size_toArray]; omega
  have door : ¬ (!vl.toArray.isEmpty && Builtin.List.listTooLong (vl.toArray.size + vb.toArray.size)) = true := by
    rw [notLongL both, Bool.and_false]
    decide
  refine call_meets F.slot_list_extend ⟨_, el, rfl⟩ F.entry_list_extend (F.args_list_extend_2 _ _) (AutoSeq1.own_extend l b vl.toArray vb.toArray nl nb db sb door (by simp only [List.size_toArray]; omega) (by omega)) ⟨el, eb, ?_⟩
  refine ⟨.non, _, I.lset (its' := vl ++ vb) hl el (by simp) (rl.append rb) ?_, rfl, q⟩
  simp only [List.length_append]
  omega
/-! ### str(x) of a number or a text -/
theorem call_strAny {X : Cx} : CallR X (.type "str") (fun xs H Q => (∃ i : Int, xs = [.int i] ∧ i.natAbs.log2 < 1920 ∧ Q (.str (toString i)) H) ∨ ∃ a, xs = [.str a] ∧ Q (.str a) H) := by
  intro pins s σ H xs us Q I r h
  rcases h with h | h
  · exact call_str_int pins s σ H xs us Q I r h
  · exact SkE.call_str_str pins s σ H xs us Q I r h
end Gn
set_option Elab.async false
set_option linter.all false
set_option maxRecDepth 100000
set_option maxHeartbeats 8000000
set_option pp.maxSteps 300
namespace Gn
open PySem PySem.Spec PyProof.Rows L2
theorem cut_one (x : V) (xs : List V) : cutV (x :: xs) (some 1) none = xs := by
  unfold cutV
  rw [show HT.sIx (x :: xs).length 0 (some 1) = min 1 (x :: xs).length from HT.sIx_nat (x :: xs).length 0 1, HT.sIx_none]
  rw [show min 1 (x :: xs).length = 1 by rw [List.length_cons]; omega]
  show (List.take ((x :: xs).length - 1) xs) = xs
  rw [List.length_cons, Nat.add_sub_cancel]
  exact List.take_length
theorem cut_not (x : V) (xs : List V) : ¬ (HT.sIx (x :: xs).length 0 (some 1) = 0 ∧ HT.sIx (x :: xs).length (x :: xs).length none = (x :: xs).length) := by
  rw [show HT.sIx (x :: xs).length 0 (some 1) = min 1 (x :: xs).length from HT.sIx_nat (x :: xs).length 0 1]
  rw [List.length_cons]
  omega
theorem cut_not2 (x : V) (xs : List V) : ¬ (HT.sIx (x :: xs).length 0 (some 2) = 0 ∧ HT.sIx (x :: xs).length (x :: xs).length none = (x :: xs).length) := by
  rw [show HT.sIx (x :: xs).length 0 (some 2) = min 2 (x :: xs).length from HT.sIx_nat (x :: xs).length 0 2]
  rw [List.length_cons]
  omega
theorem walk_zt {K : PySem.W.Frag} {a b : Addr} {xs ys : List V} (hl : xs.length = ys.length) : Walk (RZ.ItzT K a b) xs.length (fun H => SqT K H a xs ∧ SqT K H b ys) (YPair (fun i => xs[i]?) (fun i => ys[i]?)) := by
  refine ⟨fun i H hi q => ?_, fun H q => ⟨xs, ys, q.1, q.2, .inl (Nat.le_refl _)⟩, fun i H v H' hi q y => ?_⟩
  · have h2 : i < ys.length := by omega
    exact ⟨xs, ys, xs[i], ys[i], q.1, q.2, by simp [hi], by simp [h2]⟩
  · obtain ⟨T, x, z, h1, h2, h3, h4, h5⟩ := y
    exact ⟨T, x, z, h1, h2, h3, h4 xs q.1, h5 ys q.2⟩
/-! ### texts -/
def nT (z : Int) : Str := toString z
def lineT (w : Str) (ns : List Int) : Str := Txt.join " " (w :: ns.map nT)
def nI (ns : List Nat) : List Int := ns.map fun n : Nat => (n : Int)
theorem nI_iv (ns : List Nat) : (nI ns).map V.int = ns.map iv := by
  unfold nI
  rw [List.map_map]
  rfl
def Rw.nums : Rw → List Int
  | .take i => [(i : Int)]
  | .num n => [n]
  | .bin _ x y => [(x : Int), (y : Int)]
  | .pick x ps => (x : Int) :: nI ps
  | .meet ps => nI ps
  | .tell x => [(x : Int)]
  | .look rs x => (x : Int) :: nI rs
  | .lay rs x y => (x : Int) :: (y : Int) :: nI rs
def En.nums : En → List Int
  | .go b => [(b : Int)]
  | .iff r b c => [(r : Int), (b : Int), (c : Int)]
  | .fin => []
def En.word : En → Str
  | .go _ => "go"
  | .iff _ _ _ => "if"
  | .fin => "end"
def Rw.text (r : Rw) : Str := lineT r.w r.nums
def En.text (e : En) : Str := lineT e.word e.nums
def blkLines (b : Blk) : List Str := "block" :: (b.1.map Rw.text ++ [b.2.text])
def lines (pr : List Blk) : List Str := (pr.map blkLines).flatten
/-- a number that may be written -/
def NumB (z : Int) : Prop := -10 ^ 12 ≤ z ∧ z ≤ 10 ^ 12
theorem nT_len {z : Int} (h : NumB z) : (nT z).length ≤ 14 := by
  have hb : z.natAbs < 10 ^ 13 := by
    have h1 := h.1
    have h2 := h.2
    omega
  have e := PySem.int_text_length_le10 (k := 13) (by decide) hb
  show (Str.ofString (toString z)).length ≤ 14
  rw [PySem.ofString_length]
  exact e
theorem num_log {z : Int} (h : NumB z) : z.natAbs.log2 < 1920 := by
  by_cases e : z.natAbs = 0
  · rw [e]; decide
  · refine (Nat.log2_lt e).mpr ?_
    have h1 := h.1
    have h2 := h.2
    have : z.natAbs < 2 ^ 64 := by omega
    exact Nat.lt_trans this (by decide)
theorem sum_le {xs : List Nat} {k : Nat} (h : ∀ x ∈ xs, x ≤ k) : xs.sum ≤ xs.length * k := by
  induction xs with
  | nil => simp
  | cons a xs ih =>
    have h1 := h a List.mem_cons_self
    have h2 := ih fun x hx => h x (List.mem_cons_of_mem _ hx)
    rw [List.sum_cons, List.length_cons, Nat.succ_mul]
    omega
/-- words that can be joined to a row -/
theorem join_ok {w : Str} {ns : List Int} (hw : w.length ≤ 8) (hn : ∀ z ∈ ns, NumB z) (hl : ns.length ≤ 10) : ((w :: ns.map nT).map (·.length)).sum + (w :: ns.map nT).length * (" " : Str).length ≤ 16777216 ∧ (lineT w ns).length ≤ 400 := by
  have h1 : ((ns.map nT).map (·.length)).sum ≤ (ns.map nT).length * 14 := by
    have := sum_le (xs := (ns.map nT).map (·.length)) (k := 14) fun x hx => by
      obtain ⟨y, hy, rfl⟩ := List.mem_map.mp hx
      obtain ⟨z, hz, rfl⟩ := List.mem_map.mp hy
      exact nT_len (hn z hz)
    rw [List.length_map] at this
    exact this
  have hs : (" " : Str).length = 1 := by decide +kernel
  have hl2 : (ns.map nT).length = ns.length := List.length_map _
  have hj := StrLaws.join_length_le " " (w :: ns.map nT)
  have h2 : ((w :: ns.map nT).map (·.length)).sum + (w :: ns.map nT).length * (" " : Str).length ≤ 200 := by
    rw [hs, List.map_cons, List.sum_cons, List.length_cons]
    omega
  refine ⟨by omega, ?_⟩
  unfold lineT
  rw [TL.join_eq]
  omega
theorem rw_wlen (r : Rw) : r.w.length ≤ 8 := by
  cases r with
  | bin b x y =>
    show b.w.length ≤ 8
    cases b <;> decide +kernel
  | take _ => exact (show ("take" : Str).length ≤ 8 by decide +kernel)
  | num _ => exact (show ("num" : Str).length ≤ 8 by decide +kernel)
  | pick _ _ => exact (show ("pick" : Str).length ≤ 8 by decide +kernel)
  | meet _ => exact (show ("meet" : Str).length ≤ 8 by decide +kernel)
  | tell _ => exact (show ("tell" : Str).length ≤ 8 by decide +kernel)
  | look _ _ => exact (show ("look" : Str).length ≤ 8 by decide +kernel)
  | lay _ _ _ => exact (show ("lay" : Str).length ≤ 8 by decide +kernel)
theorem en_wlen (e : En) : e.word.length ≤ 8 := by
  cases e with
  | go _ => exact (show ("go" : Str).length ≤ 8 by decide +kernel)
  | iff _ _ _ => exact (show ("if" : Str).length ≤ 8 by decide +kernel)
  | fin => exact (show ("end" : Str).length ≤ 8 by decide +kernel)
theorem nat_nb {n : Nat} (h : n < 1000) : NumB (n : Int) := ⟨by omega, by omega⟩
theorem nI_nb {ns : List Nat} (h : ∀ y ∈ ns, y < 1000) : ∀ z ∈ nI ns, NumB z := fun z hz => by
  obtain ⟨n, hn, rfl⟩ := List.mem_map.mp hz
  exact nat_nb (h n hn)
theorem rw_nums {r : Rw} (h : RwA (· < 1000) r) : (∀ z ∈ r.nums, NumB z) ∧ r.nums.length ≤ 10 := by
  have hI : ∀ ns : List Nat, (nI ns).length = ns.length := fun ns => List.length_map _
  cases r with
  | take i => exact ⟨fun z hz => by rw [List.mem_singleton.mp hz]; have h : i < 6 := h; exact nat_nb (by omega), (show 1 ≤ 10 by decide)⟩
  | num n => exact ⟨fun z hz => by rw [List.mem_singleton.mp hz]; exact h, (show 1 ≤ 10 by decide)⟩
  | bin b x y =>
    refine ⟨fun z hz => ?_, (show 2 ≤ 10 by decide)⟩
    have hz2 : z = (x : Int) ∨ z = (y : Int) := by simpa [Rw.nums] using hz
    rcases hz2 with rfl | rfl
    · exact nat_nb h.1
    · exact nat_nb h.2
  | pick x ps =>
    obtain ⟨h1, h2, h3, h4⟩ := h
    refine ⟨fun z hz => ?_, by show (nI ps).length + 1 ≤ 10; rw [hI]; omega⟩
    rcases List.mem_cons.mp hz with rfl | hz
    · exact nat_nb h1
    · exact nI_nb h2 z hz
  | meet ps =>
    obtain ⟨h1, h2, h3⟩ := h
    exact ⟨nI_nb h1, by show (nI ps).length ≤ 10; rw [hI]; omega⟩
  | tell x => exact ⟨fun z hz => by rw [List.mem_singleton.mp hz]; exact nat_nb h, (show 1 ≤ 10 by decide)⟩
  | look rs x =>
    obtain ⟨h1, h2, h3, h4, h5⟩ := h
    refine ⟨fun z hz => ?_, by show (nI rs).length + 1 ≤ 10; rw [hI]; omega⟩
    rcases List.mem_cons.mp hz with rfl | hz
    · exact nat_nb h1
    · exact nI_nb (fun y hy => Nat.lt_trans (h3 y hy) (by decide)) z hz
  | lay rs x y =>
    obtain ⟨h1, h1', h2, h3, h4, h5⟩ := h
    refine ⟨fun z hz => ?_, by show (nI rs).length + 1 + 1 ≤ 10; rw [hI]; omega⟩
    rcases List.mem_cons.mp hz with rfl | hz
    · exact nat_nb h1
    · rcases List.mem_cons.mp hz with rfl | hz
      · exact nat_nb h1'
      · exact nI_nb (fun y hy => Nat.lt_trans (h3 y hy) (by decide)) z hz
theorem en_nums {e : En} (h : EnB 7 1000 e) : (∀ z ∈ e.nums, NumB z) ∧ e.nums.length ≤ 10 := by
  cases e with
  | go b => exact ⟨fun z hz => by rw [List.mem_singleton.mp hz]; have h : b < 7 := h; exact nat_nb (by omega), (show 1 ≤ 10 by decide)⟩
  | iff r b c =>
    obtain ⟨h1, h2, h3⟩ := h
    refine ⟨fun z hz => ?_, (show 3 ≤ 10 by decide)⟩
    have hz2 : z = (r : Int) ∨ z = (b : Int) ∨ z = (c : Int) := by simpa [En.nums] using hz
    rcases hz2 with rfl | rfl | rfl
    · exact nat_nb h1
    · exact nat_nb (by omega)
    · exact nat_nb (by omega)
  | fin => exact ⟨fun z hz => (by cases hz), by decide⟩
/-! ### text_of -/
/-- a part of a row by its kind: what it brings to the single ones, what to the group -/
def PtAt (K : PySem.W.Frag) (H : Hp) (k x : V) (c : List Int × List Int) : Prop :=
  (∃ s z, k = .str s ∧ inV (.str s) [.str "parts", .str "rooms"] = false ∧ x = .int z ∧ c = ([z], [])) ∨ ∃ s q zs, k = .str s ∧ inV (.str s) [.str "parts", .str "rooms"] = true ∧ x = .ref q ∧ SqT K H q (zs.map V.int) ∧ c = ([], zs)
structure ThAt (K : PySem.W.Frag) (H : Hp) (ks ps : List V) (cs : List (List Int × List Int)) : Prop where
  l1 : ks.length = ps.length
  l2 : cs.length = ps.length
  l3 : ps.length ≤ 3
  at_ : ∀ (i : Nat) (k x : V), ks[i]? = some k → ps[i]? = some x → ∃ c, cs[i]? = some c ∧ PtAt K H k x c
  le : ∀ c ∈ cs, c.1.length ≤ 8 ∧ c.2.length ≤ 8
def sgl (cs : List (List Int × List Int)) : List Int := (cs.map (·.1)).flatten
def grp (cs : List (List Int × List Int)) : List Int := (cs.map (·.2)).flatten
theorem sgl_take {cs : List (List Int × List Int)} {i : Nat} {c : List Int × List Int} (h : cs[i]? = some c) : sgl (cs.take (i + 1)) = sgl (cs.take i) ++ c.1 := by
  unfold sgl
  rw [List.take_add_one, h, List.map_append, List.flatten_append]
  simp
theorem grp_take {cs : List (List Int × List Int)} {i : Nat} {c : List Int × List Int} (h : cs[i]? = some c) : grp (cs.take (i + 1)) = grp (cs.take i) ++ c.2 := by
  unfold grp
  rw [List.take_add_one, h, List.map_append, List.flatten_append]
  simp
def spTextOf (K : PySem.W.Frag) : Sp := fun vs H Q _ => ∃ (p kt : Addr) (wd : Str) (ks ps : List V) (cs : List (List Int × List Int)), vs = [.ref p, .ref kt] ∧ SqT K H p (.str wd :: ps) ∧ (∀ H', SqT K H' kt ks) ∧ ThAt K H ks ps cs ∧ wd.length ≤ 8 ∧ (∀ z ∈ sgl cs ++ grp cs, NumB z) ∧ (sgl cs ++ grp cs).length ≤ 10 ∧
  ∀ H', Same H H' → Q (.str (lineT wd (sgl cs ++ grp cs))) H'
abbrev nTO : List Str := ["thing", "kinds", "single", "group", "kind", "part", "number"]
theorem scTO : FnScope nTO ["thing", "kinds"] (defScope sTextOf) := ⟨rfl, rfl, rfl, by decide +kernel, rfl, by decide +kernel, by decide +kernel⟩
section
variable {P : Program} {w : World} {K : PySem.W.Frag} {mg : Str → Option Value} {base : Heap}
theorem ok_textOf {f gV : Addr} {fd : FuncData} {k : Nat} (D : Df K mg "text_of" sTextOf ["thing", "kinds"] f fd) (B : Bi mg) (hV : mg "SEVERAL" = some (.ref gV)) (tV : ∀ H, SqT K H gV [.str "parts", .str "rooms"]) : FnOk P w K mg base CX0 (k + 1) f fd ["thing", "kinds"] (spTextOf K) := by
  refine D.F.ok scTO (fun vs H Q E h => ?_) (fun cdv A outer s H vs Q E hr h => ?_)
  · obtain ⟨p, kt, wd, ks, ps, cs, rfl, _⟩ := h
    rfl
  · obtain ⟨p, kt, wd, ks, ps, cs, rfl, hp, hk, hT, hwl, hnb, hnl, q⟩ := h
    refine ⟨_, pss_cons (ps_set (i := 2) scTO.nd rfl (.inl rfl) (pe_lst pa_nil)) (pss_cons (ps_set (i := 3) scTO.nd rfl (.inl rfl) (pe_lst pa_nil))
      (pss_cons (ps_for PassesOwn.never rfl (RZ.pi_zipA (by rfl) B.zip (pa_cons (pv 1) (pa_cons (pe_slice sl_tup (pv 0) (po_some pe_int) po_none) pa_nil))) (pg_tup rfl (pgs_cons (pg_name (i := 4) scTO.nd rfl (.inl rfl)) (pgs_cons (pg_name (i := 5) scTO.nd rfl (.inl rfl)) pgs_nil)))
        (pss_one (ps_if (pt_cmpR op_in_seq (pv 4) (pe_glob (v := .ref gV) (by rfl) hV rfl) rfl)
          (pss_one (ps_expr (pe_bm PySem.F.plainAttrs_list PySem.F.slot_list_extend PySem.F.type_list_extend mt_extendT (pv 3) (pa_cons (pv 5) pa_nil))))
          (pss_one (ps_expr (pe_bm PySem.F.plainAttrs_list PySem.F.slot_list_append PySem.F.type_list_append mt_append (pv 2) (pa_cons (pv 5) pa_nil)))))))
      (pss_one (ps_ret (pe_join pe_str (pe_op op_cat (pe_lst (pa_cons (pe_ix ix_tup (pv 0) pe_int (fun _ _ => rfl)) pa_nil))
        (pe_lc (own := [("number", 6)]) (g := gName 6) (tt := tYes) (te := tCB (fun xs H Q => ∃ i : Int, xs = [.int i] ∧ i.natAbs.log2 < 1920 ∧ Q (.str (toString i)) H) (tCons (tVar 6) tNil)) rfl scTO.nd (pi_list (pe_op op_cat (pv 2) (pv 3)))
          (blkOk_by (own := [("number", 6)]) (N := nTO) (sc := defScope sTextOf) (by decide +kernel)) (fun _ _ _ _ _ => pg_name (i := 6) scTO.nd rfl (.inl rfl)) (fun _ _ _ _ _ => pts_nil)
          (fun _ _ _ _ _ => pe_callTy call_str_int (by rfl) B.str PyProof.Rows.boot_str (pa_cons (pv 6) pa_nil))))))))), ?_⟩
    refine ⟨Nat.zero_le _, fun S nS => ⟨Nat.zero_le _, fun G nG => ?_⟩⟩
    have s1 := new_same (o := .lst []) nS
    have nSG : S ≠ G := ne_of_none upd_same nG
    have s2 := s1.trans (new_same (o := .lst []) nG)
    have eS : upd (upd H S (.lst [])) G (.lst []) S = some (.lst []) := by rw [upd_ne nSG]; exact upd_same
    have eG : upd (upd H S (.lst [])) G (.lst []) G = some (.lst []) := upd_same
    have hG0 : H G = none := s1.free nG
    generalize upd (upd H S (.lst [])) G (.lst []) = H0 at s2 eS eG
    refine ⟨.ref kt, rfl, .ref p, rfl, 1, rfl, p, _, rfl, Same.tup s2 hp, cut_not _ _, fun R nR => ?_⟩
    rw [cut_one]
    have sR := new_same (o := .tup ps) nR
    have eR : upd H0 R (.tup ps) R = some (.tup ps) := upd_same
    have s3 := s2.trans sR
    have eS3 := sR _ _ eS
    have eG3 := sR _ _ eG
    generalize upd H0 R (.tup ps) = H1 at sR eR s3 eS3 eG3
    refine ⟨kt, R, ks, ps, rfl, .inr ⟨hk _, sqT eR, ?_⟩⟩
    have hl3 := hT.l3
    have hsl : ∀ i, i ≤ 3 → (sgl (cs.take i)).length ≤ 8 * i ∧ (grp (cs.take i)).length ≤ 8 * i := fun i hi => by
      induction i with
      | zero => simp [sgl, grp]
      | succ i ih =>
        have h0 := ih (by omega)
        by_cases hc : i < cs.length
        · have hc2 := List.getElem?_eq_getElem hc
          have h1 := hT.le _ (List.getElem_mem hc)
          rw [sgl_take hc2, grp_take hc2, List.length_append, List.length_append]
          omega
        · rw [List.take_of_length_le (by omega)]
          rw [List.take_of_length_le (show cs.length ≤ i by omega)] at h0
          omega
    refine for_it (walk_zt hT.l1) (fun i σ Hx => ∃ y4 y5 : Option V, σ = [some (.ref p), some (.ref kt), some (.ref S), some (.ref G), y4, y5, none] ∧ Same H Hx ∧ Hx R = some (.tup ps) ∧ Hx S = some (.lst ((sgl (cs.take i)).map V.int)) ∧ Hx G = some (.lst ((grp (cs.take i)).map V.int))) ⟨none, none, rfl, s3, eR, eS3, eG3⟩ (fun i σ Hx _ hP => ?_) (fun i x σ Hx Hy hi hP hY => ?_) (fun σ Hx hP => ?_)
    · obtain ⟨_, _, _, _, eRx, _⟩ := hP
      exact ⟨hk _, sqT eRx⟩
    · obtain ⟨y4, y5, rfl, sx, eRx, eSx, eGx⟩ := hP
      obtain ⟨T, x1, x2, rfl, nT', rfl, e1, e2⟩ := hY
      have e1 : ks[i]? = some x1 := e1
      have e2 : ps[i]? = some x2 := e2
      have hi3 : i < 3 := by have := hT.l1; omega
      obtain ⟨c, hc1, hc2⟩ := hT.at_ i x1 x2 e1 e2
      have hsg := sgl_take hc1
      have hgr := grp_take hc1
      have hb := hsl i (by omega)
      have hcl := hT.le c (List.mem_of_getElem? hc1)
      have sT := new_same (o := .tup [x1, x2]) nT'
      have sx2 := sx.trans sT
      have eR2 := sT _ _ eRx
      have eS2 := sT _ _ eSx
      have eG2 := sT _ _ eGx
      refine ⟨T, _, rfl, sqT upd_same, rfl, _, _, rfl, _, _, rfl, rfl, ?_⟩
      generalize upd Hx T (.tup [x1, x2]) = Hz at sx2 eR2 eS2 eG2
      have nRS : R ≠ S := fun z => by rw [z, eS2] at eR2; cases eR2
      have nRG : R ≠ G := fun z => by rw [z, eG2] at eR2; cases eR2
      rcases hc2 with ⟨sk, z, rfl, hin, rfl, rfl⟩ | ⟨sk, qa, zs, rfl, hin, rfl, hqa, rfl⟩
      · refine ⟨.str sk, rfl, gV, _, rfl, .inr (tV _), rfl, rfl, _, rfl, ?_⟩
        show if inV (.str sk) [.str "parts", .str "rooms"] = true then _ else _
        rw [hin]
        refine ⟨.ref S, rfl, .inl ⟨rfl, _, sqL eS2⟩, .int z, rfl, S, _, _, rfl, rfl, eS2, by rw [List.length_map]; exact szt (by omega), ?_⟩
        refine ⟨_, _, rfl, Same.upd sx2 nS, by rw [upd_ne nRS]; exact eR2, by rw [upd_same, hsg, List.map_append]; rfl, by rw [upd_ne nSG.symm, hgr, List.append_nil]; exact eG2⟩
      · refine ⟨.str sk, rfl, gV, _, rfl, .inr (tV _), rfl, rfl, _, rfl, ?_⟩
        show if inV (.str sk) [.str "parts", .str "rooms"] = true then _ else _
        rw [hin]
        refine ⟨.ref G, rfl, .inl ⟨rfl, _, sqL eG2⟩, .ref qa, rfl, G, qa, _, _, rfl, rfl, eG2, Same.tup sx2 hqa, by rw [List.length_map, List.length_map]; exact szl (by have := hcl.2; simp at this; omega), ?_⟩
        refine ⟨_, _, rfl, Same.upd sx2 hG0, by rw [upd_ne nRG]; exact eR2, by rw [upd_ne nSG, hsg, List.append_nil]; exact eS2, by rw [upd_same, hgr, List.map_append]⟩
    · obtain ⟨y4, y5, rfl, sx, eRx, eSx, eGx⟩ := hP
      have hfull : cs.take ks.length = cs := List.take_of_length_le (by have := hT.l1; have := hT.l2; omega)
      rw [hfull] at eSx eGx
      have hlen : (sgl cs).length + (grp cs).length ≤ 10 := by rw [← List.length_append]; exact hnl
      refine ⟨⟨_, rfl⟩, .ref p, rfl, p, _, _, _, rfl, rfl, Same.tup sx hp, atI_nat (j := 0) rfl, szl (show 1 ≤ 1000000 by decide), fun l1 n1 => ?_⟩
      have w1 := new_same (o := .lst [.str wd]) n1
      have u1 : upd Hx l1 (.lst [.str wd]) l1 = some (.lst [.str wd]) := upd_same
      have eS2 := w1 _ _ eSx
      have eG2 := w1 _ _ eGx
      have sx2 := sx.trans w1
      generalize upd Hx l1 (.lst [.str wd]) = Ha at w1 u1 eS2 eG2 sx2
      refine ⟨.ref S, rfl, .ref G, rfl, S, G, _, _, rfl, rfl, eS2, eG2, by rw [List.length_map, List.length_map]; exact szl (by omega), fun l2 n2 => ?_⟩
      have w2 := new_same (o := .lst ((sgl cs).map V.int ++ (grp cs).map V.int)) n2
      have u2 : upd Ha l2 (.lst ((sgl cs).map V.int ++ (grp cs).map V.int)) l2 = some (.lst ((sgl cs ++ grp cs).map V.int)) := by rw [upd_same, List.map_append]
      have u1a := w2 _ _ u1
      have sx3 := sx2.trans w2
      generalize upd Ha l2 (.lst ((sgl cs).map V.int ++ (grp cs).map V.int)) = Hb at w2 u2 u1a sx3
      generalize sgl cs ++ grp cs = ns at u2 hnb hnl q
      refine ⟨l2, rfl, ⟨_, sqL u2⟩, fun M nM => ?_⟩
      refine lc_list (K := K) (a := l2) (xs := ns.map V.int) (fun i Hz => Same Hb Hz ∧ Hz M = some (.lst (((ns.take i).map nT).map V.str))) ⟨new_same nM, upd_same⟩ (fun i Hz _ hP => sqL (hP.1 _ _ u2)) (fun i x Hz hx hP => ?_) (fun Hz hP => ?_)
      · obtain ⟨sz, eM⟩ := hP
        rw [List.getElem?_map] at hx
        obtain ⟨z, hz, rfl⟩ := Option.map_eq_some_iff.mp hx
        have hil := (List.getElem?_eq_some_iff.mp hz).1
        refine ⟨rfl, .int z, rfl, z, rfl, num_log (hnb z (List.mem_of_getElem? hz)), _, eM, by rw [List.length_map, List.length_map, List.length_take]; exact szt (by omega), fun b o w => ?_, ?_⟩
        · rw [upd_ne (ne_of_none w nM)]
          exact sz _ _ w
        · rw [upd_same, List.take_add_one, hz, List.map_append, List.map_append]
          rfl
      · obtain ⟨sz, eM⟩ := hP
        rw [List.length_map, List.take_length] at eM
        have hjo := join_ok hwl hnb hnl
        refine ⟨l1, M, _, _, rfl, rfl, sz _ _ u1a, eM, by rw [List.length_map, List.length_map]; exact szl (by simp; omega), fun J nJ => ?_⟩
        refine ⟨" ", J, wd :: ns.map nT, rfl, rfl, .inl (sqL ?_), hjo.1, ?_⟩
        · rw [upd_same]
          rfl
        · exact q _ ((sx3.trans sz).trans (new_same nJ))
end
end Gn
set_option Elab.async false
set_option linter.all false
set_option maxRecDepth 100000
set_option maxHeartbeats 8000000
set_option pp.maxSteps 300
namespace Gn
open PySem PySem.Spec PyProof.Rows L2
/-! ### programs, to be read -/
def BlkAt (K : PySem.W.Frag) (H : Hp) (v : V) (b : Blk) : Prop := ∃ p ra ea vs, v = .ref p ∧ SqT K H p [.ref ra, ea] ∧ H ra = some (.lst vs) ∧ Paired (RowAt K H) vs b.1 ∧ EnAt K H ea b.2
def ProgAt (K : PySem.W.Frag) (H : Hp) (v : V) (pr : List Blk) : Prop := ∃ p bs, v = .ref p ∧ SqL K H p bs ∧ Paired (BlkAt K H) bs pr
theorem BlkAt.same {K : PySem.W.Frag} {H H' : Hp} {v : V} {b : Blk} (h : BlkAt K H v b) (e : Same H H') : BlkAt K H' v b := by
  obtain ⟨p, ra, ea, vs, h1, h2, h3, h4, h5⟩ := h
  exact ⟨p, ra, ea, vs, h1, Same.tup e h2, e _ _ h3, pd_mono h4 fun _ _ y => y.same e, h5.same e⟩
theorem ProgAt.same {K : PySem.W.Frag} {H H' : Hp} {v : V} {pr : List Blk} (h : ProgAt K H v pr) (e : Same H H') : ProgAt K H' v pr := by
  obtain ⟨p, bs, rfl, h1, h2⟩ := h
  exact ⟨p, bs, rfl, e.seq h1, pd_mono h2 fun _ _ y => y.same e⟩
theorem BlkB.mono {m n n' : Nat} {b : Blk} (h : BlkB m n b) (e : n ≤ n') : BlkB m n' b := by
  obtain ⟨h1, h2, h3⟩ := h
  refine ⟨Nat.le_trans h1 e, fun r hr => (h2 r hr).mono fun y hy => Nat.lt_of_lt_of_le hy e, ?_⟩
  cases hb : b.2 with
  | go x => rw [hb] at h3; exact h3
  | iff r x y => rw [hb] at h3; exact ⟨Nat.lt_of_lt_of_le h3.1 e, h3.2⟩
  | fin => exact trivial
/-! ### the tables -/
def Rw.kinds : Rw → List V
  | .take _ => [.str "place"]
  | .num _ => [.str "number"]
  | .bin _ _ _ => [.str "row", .str "row"]
  | .pick _ _ => [.str "row", .str "parts"]
  | .meet _ => [.str "parts"]
  | .tell _ => [.str "row"]
  | .look _ _ => [.str "rooms", .str "row"]
  | .lay _ _ _ => [.str "rooms", .str "row", .str "row"]
def En.kinds : En → List V
  | .go _ => [.str "block"]
  | .iff _ _ _ => [.str "row", .str "block", .str "block"]
  | .fin => []
structure Tb (K : PySem.W.Frag) (w : World) (mg : Str → Option Value) (dR dE : Addr) : Prop where
  mgR : mg "ROW_PARTS" = some (.ref dR)
  mgE : mg "END_PARTS" = some (.ref dE)
  row : ∀ r : Rw, ∃ g, KDct K w dR r.w (.ref g) ∧ ∀ H, SqT K H g r.kinds
  end_ : ∀ e : En, ∃ g, KDct K w dE e.word (.ref g) ∧ ∀ H, SqT K H g e.kinds
def Rw.cs : Rw → List (List Int × List Int)
  | .take i => [([(i : Int)], [])]
  | .num n => [([n], [])]
  | .bin _ x y => [([(x : Int)], []), ([(y : Int)], [])]
  | .pick x ps => [([(x : Int)], []), ([], nI ps)]
  | .meet ps => [([], nI ps)]
  | .tell x => [([(x : Int)], [])]
  | .look rs x => [([], nI rs), ([(x : Int)], [])]
  | .lay rs x y => [([], nI rs), ([(x : Int)], []), ([(y : Int)], [])]
def En.cs : En → List (List Int × List Int)
  | .go b => [([(b : Int)], [])]
  | .iff r b c => [([(r : Int)], []), ([(b : Int)], []), ([(c : Int)], [])]
  | .fin => []
theorem rw_cs (r : Rw) : sgl r.cs ++ grp r.cs = r.nums := by
  cases r <;> simp [Rw.cs, Rw.nums, sgl, grp]
theorem en_cs (e : En) : sgl e.cs ++ grp e.cs = e.nums := by
  cases e <;> simp [En.cs, En.nums, sgl, grp]
theorem ThAt.nil {K : PySem.W.Frag} {H : Hp} : ThAt K H [] [] [] := ⟨rfl, rfl, by decide, fun i k x h => by simp at h, fun c h => by cases h⟩
theorem ThAt.cons {K : PySem.W.Frag} {H : Hp} {k x : V} {c : List Int × List Int} {ks ps : List V} {cs : List (List Int × List Int)} (h : PtAt K H k x c) (hl : c.1.length ≤ 8 ∧ c.2.length ≤ 8) (t : ThAt K H ks ps cs) (h3 : ps.length ≤ 2) : ThAt K H (k :: ks) (x :: ps) (c :: cs) := by
  refine ⟨by rw [List.length_cons, List.length_cons, t.l1], by rw [List.length_cons, List.length_cons, t.l2], by rw [List.length_cons]; omega, fun i k' x' h1 h2 => ?_, fun c' h' => ?_⟩
  · cases i with
    | zero =>
      cases h1
      cases h2
      exact ⟨c, rfl, h⟩
    | succ i => exact t.at_ i k' x' (by simpa using h1) (by simpa using h2)
  · rcases List.mem_cons.mp h' with rfl | h'
    · exact hl
    · exact t.le c' h'
theorem pt_one {K : PySem.W.Frag} {H : Hp} {s : Str} {z : Int} (h : inV (.str s) [.str "parts", .str "rooms"] = false) : PtAt K H (.str s) (.int z) ([z], []) := .inl ⟨s, z, rfl, h, rfl, rfl⟩
theorem pt_grp {K : PySem.W.Frag} {H : Hp} {s : Str} {q : Addr} {ns : List Nat} (h : inV (.str s) [.str "parts", .str "rooms"] = true) (hq : SqT K H q (ns.map iv)) : PtAt K H (.str s) (.ref q) ([], nI ns) := .inr ⟨s, q, nI ns, rfl, h, rfl, by rw [nI_iv]; exact hq, rfl⟩
theorem one_le : ∀ {z : Int}, (([z], []) : List Int × List Int).1.length ≤ 8 ∧ (([z], []) : List Int × List Int).2.length ≤ 8 := fun {z} => ⟨by simp, by simp⟩
theorem grp_le {ns : List Nat} (h : ns.length ≤ 8) : (([], nI ns) : List Int × List Int).1.length ≤ 8 ∧ (([], nI ns) : List Int × List Int).2.length ≤ 8 := ⟨by simp, by show (nI ns).length ≤ 8; unfold nI; rw [List.length_map]; exact h⟩
theorem row_th {K : PySem.W.Frag} {H : Hp} {r : Rw} {xs : List V} (h : Rest K H r xs) (hA : RwA (· < 1000) r) : ThAt K H r.kinds xs r.cs := by
  cases r with
  | take i => cases h; exact .cons (pt_one rfl) one_le .nil (by decide)
  | num n => cases h; exact .cons (pt_one rfl) one_le .nil (by decide)
  | bin b x y => cases h; exact .cons (pt_one rfl) one_le (.cons (pt_one rfl) one_le .nil (by decide)) (by simp)
  | pick x ps => obtain ⟨q, rfl, hq⟩ := h; exact .cons (pt_one rfl) one_le (.cons (pt_grp rfl hq) (grp_le (by have := hA.2.2.2; omega)) .nil (by decide)) (by simp)
  | meet ps => obtain ⟨q, rfl, hq⟩ := h; exact .cons (pt_grp rfl hq) (grp_le (by have := hA.2.2; omega)) .nil (by decide)
  | tell x => cases h; exact .cons (pt_one rfl) one_le .nil (by decide)
  | look rs x => obtain ⟨q, rfl, hq⟩ := h; exact .cons (pt_grp rfl hq) (grp_le (by have := hA.2.2.2.2; omega)) (.cons (pt_one rfl) one_le .nil (by decide)) (by simp)
  | lay rs x y => obtain ⟨q, rfl, hq⟩ := h; exact .cons (pt_grp rfl hq) (grp_le (by have := hA.2.2.2.2.2; omega)) (.cons (pt_one rfl) one_le (.cons (pt_one rfl) one_le .nil (by decide)) (by simp)) (by simp)
def En.parts : En → List V
  | .go b => [iv b]
  | .iff r b c => [iv r, iv b, iv c]
  | .fin => []
theorem EnAt.at {K : PySem.W.Frag} {H : Hp} {v : V} {e : En} (h : EnAt K H v e) : ∃ p, v = .ref p ∧ SqT K H p (.str e.word :: e.parts) := by
  cases e <;> exact h
theorem end_th {K : PySem.W.Frag} {H : Hp} {e : En} : ThAt K H e.kinds e.parts e.cs := by
  cases e with
  | go b => exact .cons (pt_one rfl) one_le .nil (by decide)
  | iff r b c => exact .cons (pt_one rfl) one_le (.cons (pt_one rfl) one_le (.cons (pt_one rfl) one_le .nil (by decide)) (by simp)) (by simp)
  | fin => exact .nil
/-! ### the lines' bounds -/
theorem line_len {pr : List Blk} (hb : ∀ b ∈ pr, BlkB 7 1000 b) : ∀ x ∈ lines pr, x.length ≤ 400 := fun x hx => by
  obtain ⟨l, hl, hx⟩ := List.mem_flatten.mp hx
  obtain ⟨b, hbm, rfl⟩ := List.mem_map.mp hl
  obtain ⟨h1, h2, h3⟩ := hb b hbm
  rcases List.mem_cons.mp hx with rfl | hx
  · decide +kernel
  · rcases List.mem_append.mp hx with w | w
    · obtain ⟨r, hr, rfl⟩ := List.mem_map.mp w
      have hn := rw_nums (h2 r hr)
      exact (join_ok (rw_wlen r) hn.1 hn.2).2
    · rw [List.mem_singleton.mp w]
      have hn := en_nums h3
      exact (join_ok (en_wlen _) hn.1 hn.2).2
theorem lines_len {pr : List Blk} (hb : ∀ b ∈ pr, BlkB 7 1000 b) : (lines pr).length ≤ pr.length * 1002 := by
  unfold lines
  induction pr with
  | nil => simp
  | cons b pr ih =>
    have h1 := ih fun x hx => hb x (List.mem_cons_of_mem _ hx)
    have h2 := (hb b List.mem_cons_self).1
    rw [List.map_cons, List.flatten_cons, List.length_append, List.length_cons, Nat.succ_mul]
    have : (blkLines b).length = b.1.length + 2 := by
      unfold blkLines
      rw [List.length_cons, List.length_append, List.length_map, List.length_singleton]
    omega
theorem lines_ok {pr : List Blk} (hl : pr.length ≤ 7) (hb : ∀ b ∈ pr, BlkB 7 1000 b) : ((lines pr).map (·.length)).sum + (lines pr).length * ("\n" : Str).length ≤ 16777216 := by
  have h1 := sum_le (xs := (lines pr).map (·.length)) (k := 400) fun x hx => by
    obtain ⟨y, hy, rfl⟩ := List.mem_map.mp hx
    exact line_len hb y hy
  have h2 := lines_len hb
  have h3 : pr.length * 1002 ≤ 7 * 1002 := Nat.mul_le_mul_right _ hl
  rw [List.length_map] at h1
  have hs : ("\n" : Str).length = 1 := by decide +kernel
  rw [hs]
  omega
theorem lines_take {pr : List Blk} {i : Nat} {b : Blk} (h : pr[i]? = some b) : lines (pr.take (i + 1)) = lines (pr.take i) ++ blkLines b := by
  unfold lines
  rw [List.take_add_one, h, List.map_append, List.flatten_append]
  simp
theorem lines_take_len {pr : List Blk} {i : Nat} (hl : pr.length ≤ 7) (hb : ∀ b ∈ pr, BlkB 7 1000 b) : (lines (pr.take i)).length ≤ 7 * 1002 := by
  have h1 := lines_len (pr := pr.take i) fun b h => hb b (List.mem_of_mem_take h)
  have h2 : (pr.take i).length ≤ 7 := by rw [List.length_take]; omega
  exact Nat.le_trans h1 (Nat.mul_le_mul_right _ h2)
/-! ### program_text -/
def spPText (K : PySem.W.Frag) : Sp := fun vs H Q _ => ∃ (v : V) (pr : List Blk), vs = [v] ∧ ProgAt K H v pr ∧ pr.length ≤ 7 ∧ (∀ b ∈ pr, BlkB 7 1000 b) ∧ ∀ H', Same H H' → Q (.str (Txt.join "\n" (lines pr))) H'
abbrev nPT : List Str := ["program", "written", "rows", "end", "row"]
theorem scPT : FnScope nPT ["program"] (defScope sPText) := ⟨rfl, rfl, rfl, by decide +kernel, rfl, by decide +kernel, by decide +kernel⟩
section
variable {P : Program} {w : World} {K : PySem.W.Frag} {mg : Str → Option Value} {base : Heap}
theorem ok_ptext {f fT dR dE : Addr} {fd fdT : FuncData} {k : Nat} (D : Df K mg "program_text" sPText ["program"] f fd) (B : Bi mg) (TB : Tb K w mg dR dE) (DT : Df K mg "text_of" sTextOf ["thing", "kinds"] fT fdT) (GT : FnOk P w K mg base CX0 k fT fdT ["thing", "kinds"] (spTextOf K)) : FnOk P w K mg base CX0 (k + 1) f fd ["program"] (spPText K) := by
  refine D.F.ok scPT (fun vs H Q E h => ?_) (fun cdv A outer s H vs Q E hr h => ?_)
  · obtain ⟨v, pr, rfl, _⟩ := h
    rfl
  · obtain ⟨v, pr, rfl, ⟨p, bs, rfl, hp, hbs⟩, hl, hb, q⟩ := h
    refine ⟨_, pss_cons (ps_set (i := 1) scPT.nd rfl (.inl rfl) (pe_lst pa_nil))
      (pss_cons (ps_for PassesOwn.never rfl (pi_list (pv 0)) (pg_tup rfl (pgs_cons (pg_name (i := 2) scPT.nd rfl (.inl rfl)) (pgs_cons (pg_name (i := 3) scPT.nd rfl (.inl rfl)) pgs_nil)))
        (pss_cons (ps_expr (pe_bm PySem.F.plainAttrs_list PySem.F.slot_list_append PySem.F.type_list_append mt_append (pv 1) (pa_cons pe_str pa_nil)))
        (pss_cons (ps_for PassesOwn.never rfl (pi_list (pv 2)) (pg_name (i := 4) scPT.nd rfl (.inl rfl))
          (pss_one (ps_expr (pe_bm PySem.F.plainAttrs_list PySem.F.slot_list_append PySem.F.type_list_append mt_append (pv 1) (pa_cons (pe_call GT hr (by rfl) DT.g DT.F.kp DT.b .nil pass0 (pa_cons (pv 4) (pa_cons (pe_ix ix_kdict (pe_glob (v := .ref dR) (by rfl) TB.mgR rfl) (pe_ix ix_tup (pv 4) pe_int (fun _ _ => rfl)) (fun _ _ => rfl)) pa_nil))) pa_nil)))))
        (pss_one (ps_expr (pe_bm PySem.F.plainAttrs_list PySem.F.slot_list_append PySem.F.type_list_append mt_append (pv 1) (pa_cons (pe_call GT hr (by rfl) DT.g DT.F.kp DT.b .nil pass0 (pa_cons (pv 3) (pa_cons (pe_ix ix_kdict (pe_glob (v := .ref dE) (by rfl) TB.mgE rfl) (pe_ix ix_tup (pv 3) pe_int (fun _ _ => rfl)) (fun _ _ => rfl)) pa_nil))) pa_nil)))))))
      (pss_one (ps_ret (pe_join pe_str (pv 1))))), ?_⟩
    refine ⟨Nat.zero_le _, fun W nW => ?_⟩
    have s0 := new_same (o := .lst []) nW
    have e0 : upd H W (.lst []) W = some (.lst (([] : List Str).map V.str)) := upd_same
    generalize upd H W (.lst []) = H0 at s0 e0
    have hbl : bs.length = pr.length := pd_len hbs
    refine ⟨.ref p, rfl, p, rfl, ⟨_, s0.seq hp⟩, ?_⟩
    refine for_list (K := K) (a := p) (xs := bs) (fun i σ H1 => ∃ y2 y3 y4 : Option V, σ = [some (.ref p), some (.ref W), y2, y3, y4] ∧ Same H H1 ∧ H1 W = some (.lst ((lines (pr.take i)).map V.str))) ⟨none, none, none, rfl, s0, e0⟩ (fun i σ H1 _ hP => ?_) (fun i x σ H1 hx hP => ?_) (fun σ H1 hP => ?_)
    · obtain ⟨_, _, _, _, s1, _⟩ := hP
      exact s1.seq hp
    · obtain ⟨y2, y3, y4, rfl, s1, eW⟩ := hP
      have hil := (List.getElem?_eq_some_iff.mp hx).1
      obtain ⟨b, hb1, pb, ra, ea, vs, rfl, k2, k3, k4, k5⟩ := pd_at2 hbs hx
      obtain ⟨hB1, hB2, hB3⟩ := hb b (List.mem_of_getElem? hb1)
      have hlt := lines_take_len (i := i) hl hb
      have hvl : vs.length = b.1.length := pd_len k4
      refine ⟨pb, _, rfl, Same.tup s1 k2, rfl, _, _, rfl, _, _, rfl, rfl, ?_⟩
      refine ⟨.ref W, rfl, .inl ⟨rfl, _, sqL eW⟩, W, _, _, rfl, rfl, eW, by rw [List.length_map]; exact szt (by omega), ?_⟩
      have s2 := Same.upd (o := .lst ((lines (pr.take i)).map V.str ++ [.str "block"])) s1 nW
      have e2 : upd H1 W (.lst ((lines (pr.take i)).map V.str ++ [.str "block"])) W = some (.lst ((lines (pr.take i) ++ ("block" : Str) :: (b.1.take 0).map Rw.text).map V.str)) := by rw [upd_same, List.map_append]; rfl
      generalize upd H1 W (.lst ((lines (pr.take i)).map V.str ++ [.str "block"])) = H2 at s2 e2
      refine ⟨.ref ra, rfl, ra, rfl, ⟨_, sqL (s2 _ _ k3)⟩, ?_⟩
      refine for_list (K := K) (a := ra) (xs := vs) (fun j σ H3 => ∃ y4 : Option V, σ = [some (.ref p), some (.ref W), some (.ref ra), some ea, y4] ∧ Same H H3 ∧ H3 W = some (.lst ((lines (pr.take i) ++ ("block" : Str) :: (b.1.take j).map Rw.text).map V.str))) ⟨_, rfl, s2, e2⟩ (fun j σ H3 _ hP => ?_) (fun j x σ H3 hx2 hP => ?_) (fun σ H3 hP => ?_)
      · obtain ⟨_, _, s3, _⟩ := hP
        exact sqL (s3 _ _ k3)
      · obtain ⟨y4, rfl, s3, e3⟩ := hP
        have hjl := (List.getElem?_eq_some_iff.mp hx2).1
        obtain ⟨r, hr1, hr2⟩ := pd_at2 k4 hx2
        obtain ⟨z, zs, rfl, hz, hzr⟩ := hr2.same s3
        obtain ⟨g, kd, kt⟩ := TB.row r
        have hA := hB2 r (List.mem_of_getElem? hr1)
        have hn := rw_nums hA
        refine ⟨.ref W, rfl, .inl ⟨rfl, _, sqL e3⟩, .ref z, rfl, .ref z, rfl, z, _, _, _, rfl, rfl, hz, atI_nat (j := 0) rfl, dR, r.w, .ref g, rfl, rfl, kd, z, g, r.w, r.kinds, zs, r.cs, rfl, hz, kt, row_th hzr hA, rw_wlen r, by rw [rw_cs]; exact hn.1, by rw [rw_cs]; exact hn.2, fun H4 s4 => ?_⟩
        rw [rw_cs]
        have e4 := s4 _ _ e3
        refine ⟨W, _, _, rfl, rfl, e4, by rw [List.length_map, List.length_append, List.length_cons, List.length_map, List.length_take]; exact szt (by omega), ?_⟩
        refine ⟨_, rfl, Same.upd (s3.trans s4) nW, ?_⟩
        rw [upd_same, List.take_add_one, hr1]
        simp only [List.map_append, List.map_cons, List.append_assoc, List.cons_append]
        rfl
      · obtain ⟨y4, rfl, s3, e3⟩ := hP
        rw [hvl, List.take_length] at e3
        obtain ⟨z, hze, hz⟩ := (k5.same s3).at
        subst hze
        obtain ⟨g, kd, kt⟩ := TB.end_ b.2
        have hn := en_nums hB3
        refine ⟨.ref W, rfl, .inl ⟨rfl, _, sqL e3⟩, .ref z, rfl, .ref z, rfl, z, _, _, _, rfl, rfl, hz, atI_nat (j := 0) rfl, dE, b.2.word, .ref g, rfl, rfl, kd, z, g, b.2.word, b.2.kinds, b.2.parts, b.2.cs, rfl, hz, kt, end_th, en_wlen b.2, by rw [en_cs]; exact hn.1, by rw [en_cs]; exact hn.2, fun H4 s4 => ?_⟩
        rw [en_cs]
        have e4 := s4 _ _ e3
        refine ⟨W, _, _, rfl, rfl, e4, by rw [List.length_map, List.length_append, List.length_cons, List.length_map]; exact szt (by omega), ?_⟩
        refine ⟨_, _, _, rfl, Same.upd (s3.trans s4) nW, ?_⟩
        rw [upd_same, lines_take hb1]
        unfold blkLines
        simp only [List.map_append, List.map_cons, List.append_assoc, List.cons_append]
        rfl
    · obtain ⟨y2, y3, y4, rfl, s1, eW⟩ := hP
      rw [hbl, List.take_length] at eW
      exact ⟨⟨_, rfl⟩, .ref W, rfl, "\n", W, lines pr, rfl, rfl, .inl (sqL eW), lines_ok hl hb, q _ s1⟩
end
end Gn
set_option Elab.async false
set_option linter.all false
set_option maxRecDepth 100000
set_option maxHeartbeats 8000000
set_option pp.maxSteps 300
namespace Gn
open PySem PySem.Spec PyProof.Rows L2
theorem cut_two (x y : V) (xs : List V) : cutV (x :: y :: xs) (some 2) none = xs := by
  unfold cutV
  rw [show HT.sIx (x :: y :: xs).length 0 (some 2) = min 2 (x :: y :: xs).length from HT.sIx_nat (x :: y :: xs).length 0 2, HT.sIx_none]
  rw [show min 2 (x :: y :: xs).length = 2 by rw [List.length_cons, List.length_cons]; omega]
  show xs.take ((x :: y :: xs).length - 2) = xs
  exact List.take_of_length_le (by simp)
abbrev isPk (wd : Str) : Bool := decide (V.str wd = V.str "pick")
abbrev isMt (wd : Str) : Bool := decide (V.str wd = V.str "meet")
abbrev isRm (wd : Str) : Bool := inV (.str wd) [.str "look", .str "lay"]
/-- a row or an end, as it is to be written -/
structure TxO (K : PySem.W.Frag) (H : Hp) (wd : Str) (pts : List V) (nums : List Int) : Prop where
  hP : isPk wd = true → ∃ x q ps, pts = [iv x, .ref q] ∧ SqT K H q (ps.map iv) ∧ ps.length ≤ 10 ∧ nums = (x : Int) :: nI ps
  hM : isMt wd = true → ∃ q ps, pts = [.ref q] ∧ SqT K H q (ps.map iv) ∧ ps.length ≤ 10 ∧ nums = nI ps
  hR : isRm wd = true → ∃ q rs rest, pts = .ref q :: rest.map iv ∧ SqT K H q (rs.map iv) ∧ rs.length ≤ 10 ∧ rest.length ≤ 10 ∧ nums = nI rest ++ nI rs
  hN : isPk wd = false → isMt wd = false → isRm wd = false → pts = nums.map V.int
  e1 : isPk wd = true → isMt wd = false
  e2 : isPk wd = true ∨ isMt wd = true → isRm wd = false
  wl : wd.length ≤ 8
  nb : ∀ z ∈ nums, NumB z
  nl : nums.length ≤ 10
  pl : pts.length ≤ 10
theorem row_tx {K : PySem.W.Frag} {H : Hp} {r : Rw} {xs : List V} (h : Rest K H r xs) (hA : RwA (· < 1000) r) : TxO K H r.w xs r.nums := by
  obtain ⟨hn1, hn2⟩ := rw_nums hA
  have hw := rw_wlen r
  cases r with
  | take i => cases h; exact ⟨fun z => (by cases z), fun z => (by cases z), fun z => (by cases z), fun _ _ _ => rfl, fun z => (by cases z), fun z => (by rcases z with z | z <;> cases z), hw, hn1, hn2, by simp⟩
  | num n => cases h; exact ⟨fun z => (by cases z), fun z => (by cases z), fun z => (by cases z), fun _ _ _ => rfl, fun z => (by cases z), fun z => (by rcases z with z | z <;> cases z), hw, hn1, hn2, by simp⟩
  | bin b x y =>
    cases h
    have k1 : isPk b.w = false := by cases b <;> rfl
    have k2 : isMt b.w = false := by cases b <;> rfl
    have k3 : isRm b.w = false := by cases b <;> rfl
    exact ⟨fun z => (by rw [show isPk (Rw.bin b x y).w = false from k1] at z; cases z), fun z => (by rw [show isMt (Rw.bin b x y).w = false from k2] at z; cases z), fun z => (by rw [show isRm (Rw.bin b x y).w = false from k3] at z; cases z), fun _ _ _ => rfl, fun z => k2, fun z => k3, hw, hn1, hn2, by simp⟩
  | pick x ps => obtain ⟨q, rfl, hq⟩ := h; exact ⟨fun _ => ⟨x, q, ps, rfl, hq, by have := hA.2.2.2; omega, rfl⟩, fun z => (by cases z), fun z => (by cases z), fun z => (by cases z), fun _ => rfl, fun _ => rfl, hw, hn1, hn2, by simp⟩
  | meet ps => obtain ⟨q, rfl, hq⟩ := h; exact ⟨fun z => (by cases z), fun _ => ⟨q, ps, rfl, hq, by have := hA.2.2; omega, rfl⟩, fun z => (by cases z), fun _ z => (by cases z), fun z => (by cases z), fun _ => rfl, hw, hn1, hn2, by simp⟩
  | tell x => cases h; exact ⟨fun z => (by cases z), fun z => (by cases z), fun z => (by cases z), fun _ _ _ => rfl, fun z => (by cases z), fun z => (by rcases z with z | z <;> cases z), hw, hn1, hn2, by simp⟩
  | look rs x => obtain ⟨q, rfl, hq⟩ := h; exact ⟨fun z => (by cases z), fun z => (by cases z), fun _ => ⟨q, rs, [x], rfl, hq, by have := hA.2.2.2.2; omega, by simp, rfl⟩, fun _ _ z => (by cases z), fun z => (by cases z), fun z => (by rcases z with z | z <;> cases z), hw, hn1, hn2, by simp⟩
  | lay rs x y => obtain ⟨q, rfl, hq⟩ := h; exact ⟨fun z => (by cases z), fun z => (by cases z), fun _ => ⟨q, rs, [x, y], rfl, hq, by have := hA.2.2.2.2.2; omega, by simp, rfl⟩, fun _ _ z => (by cases z), fun z => (by cases z), fun z => (by rcases z with z | z <;> cases z), hw, hn1, hn2, by simp⟩
theorem end_tx {K : PySem.W.Frag} {H : Hp} {e : En} (hB : EnB 7 1000 e) : TxO K H e.word e.parts e.nums := by
  obtain ⟨hn1, hn2⟩ := en_nums hB
  have hw := en_wlen e
  cases e with
  | go b => exact ⟨fun z => (by cases z), fun z => (by cases z), fun z => (by cases z), fun _ _ _ => rfl, fun z => (by cases z), fun z => (by rcases z with z | z <;> cases z), hw, hn1, hn2, by simp [En.parts]⟩
  | iff r b c => exact ⟨fun z => (by cases z), fun z => (by cases z), fun z => (by cases z), fun _ _ _ => rfl, fun z => (by cases z), fun z => (by rcases z with z | z <;> cases z), hw, hn1, hn2, by simp [En.parts]⟩
  | fin => exact ⟨fun z => (by cases z), fun z => (by cases z), fun z => (by cases z), fun _ _ _ => rfl, fun z => (by cases z), fun z => (by rcases z with z | z <;> cases z), hw, hn1, hn2, by simp [En.parts]⟩
def spRowText (K : PySem.W.Frag) : Sp := fun vs H Q _ => ∃ (p : Addr) (wd : Str) (pts : List V) (nums : List Int), vs = [.ref p] ∧ SqT K H p (.str wd :: pts) ∧ TxO K H wd pts nums ∧ ∀ H', Same H H' → Q (.str (lineT wd nums)) H'
abbrev nRT : List Str := ["_law_row", "_law_words", "_law_word"]
theorem scRT : FnScope nRT ["_law_row"] (defScope sRowText) := ⟨rfl, rfl, rfl, by decide +kernel, rfl, by decide +kernel, by decide +kernel⟩
section
variable {P : Program} {w : World} {K : PySem.W.Frag} {mg : Str → Option Value} {base : Heap}
theorem ok_rowText {f : Addr} {fd : FuncData} {k : Nat} (D : Df K mg "_law_row_text" sRowText ["_law_row"] f fd) (B : Bi mg) : FnOk P w K mg base CX0 (k + 1) f fd ["_law_row"] (spRowText K) := by
  refine D.F.ok scRT (fun vs H Q E h => ?_) (fun cdv A outer s H vs Q E hr h => ?_)
  · obtain ⟨p, wd, pts, nums, rfl, _⟩ := h
    rfl
  · obtain ⟨p, wd, pts, nums, rfl, hp, hT, q⟩ := h
    refine ⟨_, (pss_cons (ps_set (i := 1) scRT.nd rfl (.inl rfl) (pe_op op_cat (pe_lst (pa_cons (pe_ix ix_tup (pv 0) pe_int (fun _ _ => rfl)) pa_nil)) (pe_callTy call_list_of (by rfl) B.list PyProof.Rows.boot_list (pa_cons (pe_slice sl_tup (pv 0) (po_some pe_int) po_none) pa_nil))))
      (Evl.pss_cut (ps_if (pt_cmpR op_eq (pe_ix ix_tup (pv 0) pe_int (fun _ _ => rfl)) pe_str (nomark _)) (pss_one (ps_set (i := 1) scRT.nd rfl (.inl rfl) (pe_op op_cat (pe_lst (pa_cons (pe_ix ix_tup (pv 0) pe_int (fun _ _ => rfl)) (pa_cons (pe_ix ix_tup (pv 0) pe_int (fun _ _ => rfl)) pa_nil))) (pe_callTy call_list_of (by rfl) B.list PyProof.Rows.boot_list (pa_cons (pe_ix ix_tup (pv 0) pe_int (fun _ _ => rfl)) pa_nil))))) pss_nil)
      (Evl.pss_cut (ps_if (pt_cmpR op_eq (pe_ix ix_tup (pv 0) pe_int (fun _ _ => rfl)) pe_str (nomark _)) (pss_one (ps_set (i := 1) scRT.nd rfl (.inl rfl) (pe_op op_cat (pe_lst (pa_cons (pe_ix ix_tup (pv 0) pe_int (fun _ _ => rfl)) pa_nil)) (pe_callTy call_list_of (by rfl) B.list PyProof.Rows.boot_list (pa_cons (pe_ix ix_tup (pv 0) pe_int (fun _ _ => rfl)) pa_nil))))) pss_nil)
      (Evl.pss_cut (ps_if (pt_cmpR op_in_seq (pe_ix ix_tup (pv 0) pe_int (fun _ _ => rfl)) (pe_tup (pa_cons pe_str (pa_cons pe_str pa_nil))) rfl) (pss_one (ps_set (i := 1) scRT.nd rfl (.inl rfl) (pe_op op_cat (pe_op op_cat (pe_lst (pa_cons (pe_ix ix_tup (pv 0) pe_int (fun _ _ => rfl)) pa_nil)) (pe_callTy call_list_of (by rfl) B.list PyProof.Rows.boot_list (pa_cons (pe_slice sl_tup (pv 0) (po_some pe_int) po_none) pa_nil))) (pe_callTy call_list_of (by rfl) B.list PyProof.Rows.boot_list (pa_cons (pe_ix ix_tup (pv 0) pe_int (fun _ _ => rfl)) pa_nil))))) pss_nil)
      (pss_one (ps_ret (pe_join pe_str (pe_lc (own := [("_law_word", 2)]) (g := gName 2) (tt := tYes) (te := tCB (fun xs H Q => (∃ i : Int, xs = [.int i] ∧ i.natAbs.log2 < 1920 ∧ Q (.str (toString i)) H) ∨ ∃ a, xs = [.str a] ∧ Q (.str a) H) (tCons (tVar 2) tNil)) rfl scRT.nd (pi_list (pv 1)) (blkOk_by (own := [("_law_word", 2)]) (N := nRT) (sc := defScope sRowText) (by decide +kernel)) (fun _ _ _ _ _ => (pg_name (i := 2) scRT.nd rfl (.inl rfl))) (fun _ _ _ _ _ => pts_nil) (fun _ _ _ _ _ => pe_callTy call_strAny (by rfl) B.str PyProof.Rows.boot_str (pa_cons (pv 2) pa_nil)))))))))), ?_⟩
    have hpl := hT.pl
    have hI : ∀ ns : List Nat, (nI ns).length = ns.length := fun ns => List.length_map _
    -- two lists joined
    have cat2 : ∀ {Hx : Hp} {a b : Addr} {xs ys : List V} {R : V → Hp → Prop}, Hx a = some (.lst xs) → Hx b = some (.lst ys) → xs.length + ys.length ≤ 1000 → (∀ W, Hx W = none → R (.ref W) (upd Hx W (.lst (xs ++ ys)))) → rCat (.ref a) (.ref b) Hx R := fun {Hx a b xs ys R} ha hb hz h => ⟨a, b, xs, ys, rfl, rfl, ha, hb, szl (by omega), h⟩
    refine ⟨.ref p, rfl, p, _, _, _, rfl, rfl, hp, atI_nat (j := 0) rfl, szl (show 1 ≤ 1000000 by decide), fun l1 n1 => ?_⟩
    have w1 := new_same (o := .lst [.str wd]) n1
    have u1 : upd H l1 (.lst [.str wd]) l1 = some (.lst [.str wd]) := upd_same
    generalize upd H l1 (.lst [.str wd]) = H1 at w1 u1
    refine ⟨.ref p, rfl, 1, rfl, p, _, rfl, Same.tup w1 hp, cut_not _ _, fun R nR => ?_⟩
    rw [cut_one]
    have w2 := new_same (o := .tup pts) nR
    have u2 : upd H1 R (.tup pts) R = some (.tup pts) := upd_same
    have u1a := w2 _ _ u1
    have s2 := w1.trans w2
    generalize upd H1 R (.tup pts) = H2 at w2 u2 u1a s2
    refine ⟨R, _, rfl, .inr (sqT u2), fun l3 n3 => ?_⟩
    have w3 := new_same (o := .lst pts) n3
    have u3 : upd H2 l3 (.lst pts) l3 = some (.lst pts) := upd_same
    have u1b := w3 _ _ u1a
    have s3 := s2.trans w3
    generalize upd H2 l3 (.lst pts) = H3 at w3 u3 u1b s3
    refine cat2 u1b u3 (by simp; omega) fun W nW => ?_
    have w4 := new_same (o := .lst ([.str wd] ++ pts)) nW
    have s4 := s3.trans w4
    have u4 : upd H3 W (.lst ([.str wd] ++ pts)) W = some (.lst (.str wd :: pts)) := upd_same
    generalize upd H3 W (.lst ([.str wd] ++ pts)) = H4 at w4 s4 u4
    -- pick
    refine ⟨fun σ Hx => ∃ (W : Addr) (cur : List V), σ = [some (.ref p), some (.ref W), none] ∧ Same H Hx ∧ Hx W = some (.lst cur) ∧ (isPk wd = true → cur = .str wd :: nums.map V.int) ∧ (isPk wd = false → cur = .str wd :: pts), ?_, fun σ Hx hM => ?_⟩
    · refine ⟨.ref p, rfl, p, _, _, _, rfl, rfl, Same.tup s4 hp, atI_nat (j := 0) rfl, rfl, _, rfl, ?_⟩
      show if isPk wd = true then _ else _
      refine ite2 (fun e => ?_) (fun e => ⟨W, _, rfl, s4, u4, fun z => absurd z e, fun _ => rfl⟩)
      obtain ⟨x, qa, ps, rfl, hq, hps, hnu⟩ := hT.hP e
      refine ⟨.ref p, rfl, p, _, _, _, rfl, rfl, Same.tup s4 hp, atI_nat (j := 0) rfl, .ref p, rfl, p, _, _, _, rfl, rfl, Same.tup s4 hp, atI_nat (j := 1) rfl, szl (show 2 ≤ 1000000 by decide), fun a1 m1 => ?_⟩
      have v1 := new_same (o := .lst [.str wd, iv x]) m1
      have t1 : upd H4 a1 (.lst [.str wd, iv x]) a1 = some (.lst [.str wd, iv x]) := upd_same
      have s5 := s4.trans v1
      generalize upd H4 a1 (.lst [.str wd, iv x]) = H5 at v1 t1 s5
      refine ⟨.ref p, rfl, p, _, _, .ref qa, rfl, rfl, Same.tup s5 hp, atI_nat (j := 2) rfl, qa, _, rfl, .inr (Same.tup s5 hq), fun a2 m2 => ?_⟩
      have v2 := new_same (o := .lst (ps.map iv)) m2
      have t2 : upd H5 a2 (.lst (ps.map iv)) a2 = some (.lst (ps.map iv)) := upd_same
      have t1a := v2 _ _ t1
      have s6 := s5.trans v2
      generalize upd H5 a2 (.lst (ps.map iv)) = H6 at v2 t2 t1a s6
      refine cat2 t1a t2 (by simp; omega) fun W2 nW2 => ?_
      refine ⟨W2, _, rfl, s6.trans (new_same nW2), upd_same, fun _ => ?_, fun z => by rw [e] at z; cases z⟩
      rw [hnu, List.map_cons, nI_iv]
      rfl
    obtain ⟨W, cur, rfl, s5, u5, c1, c2⟩ := hM
    clear s4 u4 w4 nW s3 u3 u1b s2 u2 u1a
    -- meet
    refine ⟨fun σ Hx => ∃ (W : Addr) (cur : List V), σ = [some (.ref p), some (.ref W), none] ∧ Same H Hx ∧ Hx W = some (.lst cur) ∧ (isPk wd = true ∨ isMt wd = true → cur = .str wd :: nums.map V.int) ∧ (isPk wd = false → isMt wd = false → cur = .str wd :: pts), ?_, fun σ Hx hM => ?_⟩
    · refine ⟨.ref p, rfl, p, _, _, _, rfl, rfl, Same.tup s5 hp, atI_nat (j := 0) rfl, rfl, _, rfl, ?_⟩
      show if isMt wd = true then _ else _
      refine ite2 (fun e => ?_) (fun e => ⟨W, cur, rfl, s5, u5, fun z => z.elim c1 (fun z => absurd z e), fun z _ => c2 z⟩)
      obtain ⟨qa, ps, rfl, hq, hps, hnu⟩ := hT.hM e
      refine ⟨.ref p, rfl, p, _, _, _, rfl, rfl, Same.tup s5 hp, atI_nat (j := 0) rfl, szl (show 1 ≤ 1000000 by decide), fun a1 m1 => ?_⟩
      have v1 := new_same (o := .lst [.str wd]) m1
      have t1 : upd Hx a1 (.lst [.str wd]) a1 = some (.lst [.str wd]) := upd_same
      have s6 := s5.trans v1
      generalize upd Hx a1 (.lst [.str wd]) = H5 at v1 t1 s6
      refine ⟨.ref p, rfl, p, _, _, .ref qa, rfl, rfl, Same.tup s6 hp, atI_nat (j := 1) rfl, qa, _, rfl, .inr (Same.tup s6 hq), fun a2 m2 => ?_⟩
      have v2 := new_same (o := .lst (ps.map iv)) m2
      have t2 : upd H5 a2 (.lst (ps.map iv)) a2 = some (.lst (ps.map iv)) := upd_same
      have t1a := v2 _ _ t1
      have s7 := s6.trans v2
      generalize upd H5 a2 (.lst (ps.map iv)) = H6 at v2 t2 t1a s7
      refine cat2 t1a t2 (by simp; omega) fun W2 nW2 => ?_
      refine ⟨W2, _, rfl, s7.trans (new_same nW2), upd_same, fun _ => ?_, fun _ z => by rw [e] at z; cases z⟩
      rw [hnu, nI_iv]
      rfl
    obtain ⟨W, cur, rfl, s5, u5, c1, c2⟩ := hM
    -- look, lay
    refine ⟨fun σ Hx => ∃ W : Addr, σ = [some (.ref p), some (.ref W), none] ∧ Same H Hx ∧ Hx W = some (.lst (.str wd :: nums.map V.int)), ?_, fun σ Hx hM => ?_⟩
    · refine ⟨.ref p, rfl, p, _, _, _, rfl, rfl, Same.tup s5 hp, atI_nat (j := 0) rfl, szl (show 2 ≤ 1000000 by decide), fun T nT' => ?_⟩
      have v0 := new_same (o := .tup [.str "look", .str "lay"]) nT'
      have t0 : upd Hx T (.tup [.str "look", .str "lay"]) T = some (.tup [.str "look", .str "lay"]) := upd_same
      have s6 := s5.trans v0
      have u6 := v0 _ _ u5
      generalize upd Hx T (.tup [.str "look", .str "lay"]) = Ha at v0 t0 s6 u6
      refine ⟨T, _, rfl, .inr (sqT t0), rfl, rfl, _, rfl, ?_⟩
      show if isRm wd = true then _ else _
      refine ite2 (fun e => ?_) (fun e => ?_)
      · obtain ⟨qa, rs, rest, rfl, hq, hrs, hre, hnu⟩ := hT.hR e
        refine ⟨.ref p, rfl, p, _, _, _, rfl, rfl, Same.tup s6 hp, atI_nat (j := 0) rfl, szl (show 1 ≤ 1000000 by decide), fun a1 m1 => ?_⟩
        have v1 := new_same (o := .lst [.str wd]) m1
        have t1 : upd Ha a1 (.lst [.str wd]) a1 = some (.lst [.str wd]) := upd_same
        have s7 := s6.trans v1
        generalize upd Ha a1 (.lst [.str wd]) = H5 at v1 t1 s7
        refine ⟨.ref p, rfl, 2, rfl, p, _, rfl, Same.tup s7 hp, cut_not2 _ _, fun R2 nR2 => ?_⟩
        rw [cut_two]
        have v2 := new_same (o := .tup (rest.map iv)) nR2
        have t2 : upd H5 R2 (.tup (rest.map iv)) R2 = some (.tup (rest.map iv)) := upd_same
        have t1a := v2 _ _ t1
        have s8 := s7.trans v2
        generalize upd H5 R2 (.tup (rest.map iv)) = H6 at v2 t2 t1a s8
        refine ⟨R2, _, rfl, .inr (sqT t2), fun a3 m3 => ?_⟩
        have v3 := new_same (o := .lst (rest.map iv)) m3
        have t3 : upd H6 a3 (.lst (rest.map iv)) a3 = some (.lst (rest.map iv)) := upd_same
        have t1b := v3 _ _ t1a
        have s9 := s8.trans v3
        generalize upd H6 a3 (.lst (rest.map iv)) = H7 at v3 t3 t1b s9
        refine cat2 t1b t3 (by simp; omega) fun a4 m4 => ?_
        have v4 := new_same (o := .lst ([.str wd] ++ rest.map iv)) m4
        have t4 : upd H7 a4 (.lst ([.str wd] ++ rest.map iv)) a4 = some (.lst ([.str wd] ++ rest.map iv)) := upd_same
        have sA := s9.trans v4
        generalize upd H7 a4 (.lst ([.str wd] ++ rest.map iv)) = H8 at v4 t4 sA
        refine ⟨.ref p, rfl, p, _, _, .ref qa, rfl, rfl, Same.tup sA hp, atI_nat (j := 1) rfl, qa, _, rfl, .inr (Same.tup sA hq), fun a5 m5 => ?_⟩
        have v5 := new_same (o := .lst (rs.map iv)) m5
        have t5 : upd H8 a5 (.lst (rs.map iv)) a5 = some (.lst (rs.map iv)) := upd_same
        have t4a := v5 _ _ t4
        have sB := sA.trans v5
        generalize upd H8 a5 (.lst (rs.map iv)) = H9 at v5 t5 t4a sB
        refine cat2 t4a t5 (by simp; omega) fun W2 nW2 => ?_
        refine ⟨W2, rfl, sB.trans (new_same nW2), ?_⟩
        rw [upd_same, hnu, List.map_append, nI_iv, nI_iv]
        rfl
      · refine ⟨W, rfl, s6, ?_⟩
        have hcur : cur = .str wd :: nums.map V.int := by
          cases h1 : isPk wd with
          | true => exact c1 (.inl h1)
          | false =>
            cases h2 : isMt wd with
            | true => exact c1 (.inr h2)
            | false =>
              have h3 : isRm wd = false := by
                cases h3 : isRm wd with
                | true => exact absurd h3 e
                | false => rfl
              rw [c2 h1 h2, hT.hN h1 h2 h3]
        rw [← hcur]
        exact u6
    obtain ⟨W, rfl, s6, u6⟩ := hM
    refine ⟨⟨_, rfl⟩, .ref W, rfl, W, rfl, ⟨_, sqL u6⟩, fun M nM => ?_⟩
    have hnl := hT.nl
    refine lc_list (K := K) (a := W) (xs := .str wd :: nums.map V.int) (fun i Hz => Same Hx Hz ∧ Hz M = some (.lst (((wd :: nums.map nT).take i).map V.str))) ⟨new_same nM, upd_same⟩ (fun i Hz _ hP => sqL (hP.1 _ _ u6)) (fun i x Hz hx hP => ?_) (fun Hz hP => ?_)
    · obtain ⟨sz, eM⟩ := hP
      have hil := (List.getElem?_eq_some_iff.mp hx).1
      have hil : i < nums.length + 1 := by simpa using hil
      have fin : ∀ a : Str, (wd :: nums.map nT)[i]? = some a → ∃ acc, Hz M = some (.lst acc) ∧ acc.length < sizeLine ∧ (Same Hx (upd Hz M (.lst (acc ++ [.str a]))) ∧ upd Hz M (.lst (acc ++ [.str a])) M = some (.lst (((wd :: nums.map nT).take (i + 1)).map V.str))) := fun a ha => by
        refine ⟨_, eM, by rw [List.length_map, List.length_take]; exact szt (by omega), fun b o w => ?_, ?_⟩
        · rw [upd_ne (ne_of_none w nM)]
          exact sz _ _ w
        · rw [upd_same, List.take_add_one, ha, List.map_append]
          rfl
      cases i with
      | zero =>
        cases hx
        exact ⟨rfl, .str wd, rfl, .inr ⟨wd, rfl, fin wd rfl⟩⟩
      | succ j =>
        have hx : (nums.map V.int)[j]? = some x := by simpa using hx
        rw [List.getElem?_map] at hx
        obtain ⟨z, hz, rfl⟩ := Option.map_eq_some_iff.mp hx
        exact ⟨rfl, .int z, rfl, .inl ⟨z, rfl, num_log (hT.nb z (List.mem_of_getElem? hz)), fin (nT z) (by rw [List.getElem?_cons_succ, List.getElem?_map, hz]; rfl)⟩⟩
    · obtain ⟨sz, eM⟩ := hP
      rw [show (V.str wd :: nums.map V.int).length = (wd :: nums.map nT).length by simp, List.take_length] at eM
      exact ⟨" ", M, wd :: nums.map nT, rfl, rfl, .inl (sqL eM), (join_ok hT.wl hT.nb hnl).1, q _ (s6.trans sz)⟩
end
end Gn
set_option Elab.async false
set_option linter.all false
set_option maxRecDepth 100000
set_option maxHeartbeats 8000000
set_option pp.maxSteps 300
namespace Gn
open PySem PySem.Spec PyProof.Rows L2
def spTextRows (K : PySem.W.Frag) : Sp := fun vs H Q _ => ∃ (v : V) (pr : List Blk), vs = [v] ∧ ProgAt K H v pr ∧ pr.length ≤ 7 ∧ (∀ b ∈ pr, BlkB 7 1000 b) ∧ ∀ (F : Addr) (H' : Hp), Same H H' → H' F = some (.lst ((lines pr).map V.str)) → Q (.ref F) H'
abbrev nTR : List Str := ["_law_program_here", "_law_found", "_law_rows", "_law_end", "_law_row"]
theorem scTR : FnScope nTR ["_law_program_here"] (defScope sTextRows) := ⟨rfl, rfl, rfl, by decide +kernel, rfl, by decide +kernel, by decide +kernel⟩
section
variable {P : Program} {w : World} {K : PySem.W.Frag} {mg : Str → Option Value} {base : Heap}
theorem ok_textRows {f fR : Addr} {fd fdR : FuncData} {k : Nat} (D : Df K mg "_law_text_rows" sTextRows ["_law_program_here"] f fd) (B : Bi mg) (DR : Df K mg "_law_row_text" sRowText ["_law_row"] fR fdR) (GR : FnOk P w K mg base CX0 k fR fdR ["_law_row"] (spRowText K)) : FnOk P w K mg base CX0 (k + 1) f fd ["_law_program_here"] (spTextRows K) := by
  refine D.F.ok scTR (fun vs H Q E h => ?_) (fun cdv A outer s H vs Q E hr h => ?_)
  · obtain ⟨v, pr, rfl, _⟩ := h
    rfl
  · obtain ⟨v, pr, rfl, ⟨p, bs, rfl, hp, hbs⟩, hl, hb, q⟩ := h
    refine ⟨_, (pss_cons (ps_set (i := 1) scTR.nd rfl (.inl rfl) (pe_lst pa_nil))
      (pss_cons (ps_for PassesOwn.never rfl (pi_list (pv 0)) (pg_tup rfl (pgs_cons (pg_name (i := 2) scTR.nd rfl (.inl rfl)) (pgs_cons (pg_name (i := 3) scTR.nd rfl (.inl rfl)) pgs_nil))) (pss_one (ps_set (i := 1) scTR.nd rfl (.inl rfl) (pe_op op_cat (pe_op op_cat (pv 1) (pe_lst (pa_cons pe_str pa_nil))) (pe_lc (own := [("_law_row", 4)]) (g := gName 4) (tt := tYes) (te := tCall (spRowText K) [] E0 (tCons (tVar 4) tNil)) rfl scTR.nd (pi_list (pe_op op_cat (pv 2) (pe_lst (pa_cons (pv 3) pa_nil)))) (blkOk_by (own := [("_law_row", 4)]) (N := nTR) (sc := defScope sTextRows) (by decide +kernel)) (fun _ _ _ _ _ => (pg_name (i := 4) scTR.nd rfl (.inl rfl))) (fun _ _ _ _ _ => pts_nil) (fun _ _ _ _ _ => (pe_call GR hr (by rfl) DR.g DR.F.kp DR.b .nil pass0 (pa_cons (pv 4) pa_nil))))))))
      (pss_one (ps_ret (pv 1))))), ?_⟩
    refine ⟨Nat.zero_le _, fun F nF => ?_⟩
    have s0 := new_same (o := .lst []) nF
    have e0 : upd H F (.lst []) F = some (.lst (([] : List Str).map V.str)) := upd_same
    generalize upd H F (.lst []) = H0 at s0 e0
    have hbl : bs.length = pr.length := pd_len hbs
    refine ⟨.ref p, rfl, p, rfl, ⟨_, s0.seq hp⟩, ?_⟩
    refine for_list (K := K) (a := p) (xs := bs) (fun i σ H1 => ∃ (F : Addr) (y2 y3 : Option V), σ = [some (.ref p), some (.ref F), y2, y3, none] ∧ Same H H1 ∧ H1 F = some (.lst ((lines (pr.take i)).map V.str))) ⟨F, none, none, rfl, s0, e0⟩ (fun i σ H1 _ hP => ?_) (fun i x σ H1 hx hP => ?_) (fun σ H1 hP => ?_)
    · obtain ⟨_, _, _, _, s1, _⟩ := hP
      exact s1.seq hp
    · obtain ⟨F, y2, y3, rfl, s1, eF⟩ := hP
      have hil := (List.getElem?_eq_some_iff.mp hx).1
      obtain ⟨b, hb1, pb, ra, ea, vs, rfl, k2, k3, k4, k5⟩ := pd_at2 hbs hx
      obtain ⟨hB1, hB2, hB3⟩ := hb b (List.mem_of_getElem? hb1)
      have hlt := lines_take_len (i := i) hl hb
      have hvl : vs.length = b.1.length := pd_len k4
      refine ⟨pb, _, rfl, Same.tup s1 k2, rfl, _, _, rfl, _, _, rfl, rfl, ?_⟩
      refine ⟨.ref F, rfl, szl (show 1 ≤ 1000000 by decide), fun l1 n1 => ?_⟩
      have w1 := new_same (o := .lst [.str "block"]) n1
      have u1 : upd H1 l1 (.lst [.str "block"]) l1 = some (.lst [.str "block"]) := upd_same
      have s2 := s1.trans w1
      have eF2 := w1 _ _ eF
      generalize upd H1 l1 (.lst [.str "block"]) = H2 at w1 u1 s2 eF2
      refine ⟨F, l1, _, _, rfl, rfl, eF2, u1, by rw [List.length_map]; exact szl (by simp; omega), fun F2 nF2 => ?_⟩
      have w2 := new_same (o := .lst ((lines (pr.take i)).map V.str ++ [.str "block"])) nF2
      have u2 : upd H2 F2 (.lst ((lines (pr.take i)).map V.str ++ [.str "block"])) F2 = some (.lst ((lines (pr.take i)).map V.str ++ [.str "block"])) := upd_same
      have s3 := s2.trans w2
      generalize upd H2 F2 (.lst ((lines (pr.take i)).map V.str ++ [.str "block"])) = H3 at w2 u2 s3
      refine ⟨.ref ra, rfl, ea, rfl, szl (show 1 ≤ 1000000 by decide), fun l3 n3 => ?_⟩
      have w3 := new_same (o := .lst [ea]) n3
      have u3 : upd H3 l3 (.lst [ea]) l3 = some (.lst [ea]) := upd_same
      have s4 := s3.trans w3
      have u2a := w3 _ _ u2
      generalize upd H3 l3 (.lst [ea]) = H4 at w3 u3 s4 u2a
      refine ⟨ra, l3, _, _, rfl, rfl, s4 _ _ k3, u3, szl (by simp; omega), fun l4 n4 => ?_⟩
      have w4 := new_same (o := .lst (vs ++ [ea])) n4
      have u4 : upd H4 l4 (.lst (vs ++ [ea])) l4 = some (.lst (vs ++ [ea])) := upd_same
      have s5 := s4.trans w4
      have u2b := w4 _ _ u2a
      generalize upd H4 l4 (.lst (vs ++ [ea])) = H5 at w4 u4 s5 u2b
      refine ⟨l4, rfl, ⟨_, sqL u4⟩, fun M nM => ?_⟩
      have hll : (b.1.map Rw.text ++ [b.2.text]).length = b.1.length + 1 := by rw [List.length_append, List.length_map]; rfl
      refine lc_list (K := K) (a := l4) (xs := vs ++ [ea]) (fun j H6 => Same H5 H6 ∧ H6 M = some (.lst (((b.1.map Rw.text ++ [b.2.text]).take j).map V.str))) ⟨new_same nM, upd_same⟩ (fun j H6 _ hP => sqL (hP.1 _ _ u4)) (fun j x H6 hx2 hP => ?_) (fun H6 hP => ?_)
      · obtain ⟨s6, eM⟩ := hP
        have hjl := (List.getElem?_eq_some_iff.mp hx2).1
        have hjl : j < vs.length + 1 := by simpa using hjl
        have s56 := s5.trans s6
        have fin : ∀ (a : Str) (H7 : Hp), Same H6 H7 → (b.1.map Rw.text ++ [b.2.text])[j]? = some a → ∃ acc, H7 M = some (.lst acc) ∧ acc.length < sizeLine ∧ (Same H5 (upd H7 M (.lst (acc ++ [.str a]))) ∧ upd H7 M (.lst (acc ++ [.str a])) M = some (.lst (((b.1.map Rw.text ++ [b.2.text]).take (j + 1)).map V.str))) := fun a H7 s7 ha => by
          refine ⟨_, s7 _ _ eM, by rw [List.length_map, List.length_take]; exact szt (by omega), fun c o w => ?_, ?_⟩
          · rw [upd_ne (ne_of_none w nM)]
            exact s7 _ _ (s6 _ _ w)
          · rw [upd_same, List.take_add_one, ha, List.map_append]
            rfl
        by_cases hj : j < vs.length
        · rw [List.getElem?_append_left hj] at hx2
          obtain ⟨r, hr1, hr2⟩ := pd_at2 k4 hx2
          obtain ⟨z, zs, rfl, hz, hzr⟩ := hr2.same s56
          exact ⟨rfl, .ref z, rfl, z, r.w, zs, r.nums, rfl, hz, row_tx hzr (hB2 r (List.mem_of_getElem? hr1)), fun H7 s7 => fin r.text H7 s7 (by rw [List.getElem?_append_left (by rw [List.length_map]; omega), List.getElem?_map, hr1]; rfl)⟩
        · have hj : j = vs.length := by omega
          subst hj
          rw [List.getElem?_append_right (Nat.le_refl _), Nat.sub_self] at hx2
          have hx2 : some ea = some x := hx2
          cases hx2
          obtain ⟨z, hze, hz⟩ := (k5.same s56).at
          subst hze
          exact ⟨rfl, .ref z, rfl, z, b.2.word, b.2.parts, b.2.nums, rfl, hz, end_tx hB3, fun H7 s7 => fin b.2.text H7 s7 (by rw [List.getElem?_append_right (by rw [List.length_map]; omega), List.length_map, hvl, Nat.sub_self]; rfl)⟩
      · obtain ⟨s6, eM⟩ := hP
        have hfull : (b.1.map Rw.text ++ [b.2.text]).take (vs ++ [ea]).length = b.1.map Rw.text ++ [b.2.text] := List.take_of_length_le (by rw [hll, List.length_append]; simp; omega)
        rw [hfull] at eM
        refine ⟨F2, M, _, _, rfl, rfl, s6 _ _ u2b, eM, by rw [List.length_map, hll, List.length_append, List.length_map]; exact szl (by simp; omega), fun F3 nF3 => ?_⟩
        refine ⟨F3, _, _, rfl, (s5.trans s6).trans (new_same nF3), ?_⟩
        rw [upd_same, lines_take hb1]
        unfold blkLines
        simp only [List.map_append, List.map_cons, List.append_assoc]
        rfl
    · obtain ⟨F, y2, y3, rfl, s1, eF⟩ := hP
      rw [hbl, List.take_length] at eF
      exact ⟨.ref F, rfl, q F H1 s1 eF⟩
end
end Gn
set_option Elab.async false
set_option linter.all false
set_option maxRecDepth 100000
set_option maxHeartbeats 4000000
namespace Gn
open PySem PySem.Spec PyProof.Rows L2
def Rw.rdata : Rw → List PyData
  | .take i => [nd i]
  | .num n => [.int n]
  | .bin _ x y => [nd x, nd y]
  | .pick x ps => [nd x, .tuple (ps.map nd)]
  | .meet ps => [.tuple (ps.map nd)]
  | .tell x => [nd x]
  | .look rs x => [.tuple (rs.map nd), nd x]
  | .lay rs x y => [.tuple (rs.map nd), nd x, nd y]
theorem data_eq (r : Rw) : r.data = .tuple (.str r.w :: r.rdata) := by cases r <;> rfl
structure Nice (B : Nat) (d : PyData) (k W : Nat) : Prop where
  lay : d.canLay0 = true
  dep : d.depth ≤ k
  sho : d.showable = true
  sht : d.intsShort B = true
  wt : d.weight ≤ W
theorem Nice.mono {B : Nat} {d : PyData} {k W k' W' : Nat} (h : Nice B d k W) (a : k ≤ k') (b : W ≤ W') : Nice B d k' W' := ⟨h.lay, Nat.le_trans h.dep a, h.sho, h.sht, Nat.le_trans h.wt b⟩
theorem niceAll {B k W : Nat} : ∀ {ds : List PyData}, (∀ d ∈ ds, Nice B d k W) → PyData.canLayAll0 ds = true ∧ PyData.depthAll ds ≤ k ∧ PyData.showableAll ds = true ∧ PyData.intsShortAll B ds = true ∧ PyData.weightAll ds ≤ ds.length * (W + 1)
  | [], _ => by simp [PyData.canLayAll0, PyData.depthAll, PyData.showableAll, PyData.intsShortAll, PyData.weightAll]
  | d :: ds, h => by
    obtain ⟨h1, h2, h3, h4, h5⟩ := niceAll (ds := ds) fun x hx => h x (List.mem_cons_of_mem _ hx)
    have n := h d List.mem_cons_self
    refine ⟨?_, ?_, ?_, ?_, ?_⟩
    · simp only [PyData.canLayAll0, n.lay, h1, Bool.and_self]
    · simp only [PyData.depthAll]
      have := n.dep
      omega
    · simp only [PyData.showableAll, n.sho, h3, Bool.and_self]
    · simp only [PyData.intsShortAll, n.sht, h4, Bool.and_self]
    · simp only [PyData.weightAll, List.length_cons]
      have := n.wt
      rw [Nat.succ_mul]
      omega
theorem nice_list {B k W : Nat} {ds : List PyData} (h : ∀ d ∈ ds, Nice B d k W) : Nice B (.list ds) (k + 1) (ds.length * (W + 1)) := by
  obtain ⟨h1, h2, h3, h4, h5⟩ := niceAll h
  refine ⟨by simp only [PyData.canLay0, h1], by simp only [PyData.depth]; omega, by simp only [PyData.showable, h3], by simp only [PyData.intsShort, h4], by simp only [PyData.weight]; exact h5⟩
theorem nice_tup {B k W : Nat} {ds : List PyData} (h : ∀ d ∈ ds, Nice B d k W) : Nice B (.tuple ds) (k + 1) (ds.length * (W + 1)) := by
  obtain ⟨h1, h2, h3, h4, h5⟩ := niceAll h
  refine ⟨by simp only [PyData.canLay0, h1], by simp only [PyData.depth]; omega, by simp only [PyData.showable, h3], by simp only [PyData.intsShort, h4], by simp only [PyData.weight]; exact h5⟩
theorem nice_num {z : Int} (h : NumB z) : Nice 14 (.int z) 0 41 := by
  have h1 := h.1
  have h2 := h.2
  have hs : (PyData.shown (.int z)).length ≤ 14 := nT_len h
  have hl : z.natAbs.log2 < 41 := by
    by_cases e : z.natAbs = 0
    · rw [e]; decide
    · exact (Nat.log2_lt e).mpr (by omega)
  refine ⟨by simp only [PyData.canLay0], by simp only [PyData.depth]; omega, ?_, ?_, ?_⟩
  · simp only [PyData.showable, decide_eq_true_eq]; omega
  · simp only [PyData.intsShort, decide_eq_true_eq]; exact hs
  · simp only [PyData.weight]
    split <;> omega
theorem nice_nat {n : Nat} (h : n < 256) : Nice 14 (nd n) 0 8 := by
  have a := nice_num (z := (n : Int)) ⟨by omega, by omega⟩
  refine ⟨a.lay, a.dep, a.sho, a.sht, ?_⟩
  have hl : (n : Int).natAbs.log2 < 8 := by
    rw [Int.natAbs_natCast]
    by_cases e : n = 0
    · rw [e]; decide
    · exact (Nat.log2_lt e).mpr (by omega)
  simp only [nd, PyData.weight]
  split <;> omega
theorem nice_str {B : Nat} {s : Str} (h1 : PyData.strOk s = true) (h2 : s.cps.size ≤ 8) : Nice B (.str s) 0 8 :=
  ⟨by simp only [PyData.canLay0, h1], by simp only [PyData.depth]; omega, by simp only [PyData.showable], by simp only [PyData.intsShort], by simp only [PyData.weight]; exact h2⟩
theorem nice_nats {ns : List Nat} (h : ∀ n ∈ ns, n < 256) : ∀ d ∈ ns.map nd, Nice 14 d 0 8 := fun d hd => by
  obtain ⟨n, hn, rfl⟩ := List.mem_map.mp hd
  exact nice_nat (h n hn)
theorem bkw_nice (b : Bk) : Nice 14 (.str b.w) 0 8 := by
  cases b <;> exact nice_str (by decide +kernel) (by decide +kernel)
theorem word_nice (r : Rw) : Nice 14 (.str r.w) 0 8 := by
  cases r with
  | bin b x y => exact bkw_nice b
  | take _ => exact nice_str (s := "take") (by decide +kernel) (by decide +kernel)
  | num _ => exact nice_str (s := "num") (by decide +kernel) (by decide +kernel)
  | pick _ _ => exact nice_str (s := "pick") (by decide +kernel) (by decide +kernel)
  | meet _ => exact nice_str (s := "meet") (by decide +kernel) (by decide +kernel)
  | tell _ => exact nice_str (s := "tell") (by decide +kernel) (by decide +kernel)
  | look _ _ => exact nice_str (s := "look") (by decide +kernel) (by decide +kernel)
  | lay _ _ _ => exact nice_str (s := "lay") (by decide +kernel) (by decide +kernel)
theorem row_nice {r : Rw} (h : RwA (· < 100) r) : Nice 14 r.data 2 500 := by
  rw [data_eq]
  have hw := (word_nice r).mono (show 0 ≤ 1 by decide) (show 8 ≤ 108 by decide)
  have nn : ∀ {n : Nat}, n < 100 → Nice 14 (nd n) 1 108 := fun h => (nice_nat (Nat.lt_of_lt_of_le h (by decide))).mono (by decide) (by decide)
  have tt : ∀ {ps : List Nat}, (∀ y ∈ ps, y < 100) → ps.length ≤ 12 → Nice 14 (.tuple (ps.map nd)) 1 108 := fun {ps} h1 h2 => by
    have := nice_tup (nice_nats fun n hn => Nat.lt_of_lt_of_le (h1 n hn) (show 100 ≤ 256 by decide))
    rw [List.length_map] at this
    exact this.mono (Nat.le_refl _) (by omega)
  have key : (∀ d ∈ r.rdata, Nice 14 d 1 108) ∧ r.rdata.length ≤ 3 := by
    cases r with
    | take i =>
      refine ⟨fun d hd => ?_, show 1 ≤ 3 by decide⟩
      rw [List.mem_singleton.mp hd]
      have h : i < 6 := h
      exact nn (by omega)
    | num z =>
      refine ⟨fun d hd => ?_, show 1 ≤ 3 by decide⟩
      rw [List.mem_singleton.mp hd]
      exact (nice_num h).mono (by decide) (by decide)
    | bin b x y =>
      refine ⟨fun d hd => ?_, show 2 ≤ 3 by decide⟩
      have hd2 : d = nd x ∨ d = nd y := by simpa [Rw.rdata] using hd
      rcases hd2 with rfl | rfl
      · exact nn h.1
      · exact nn h.2
    | pick x ps =>
      refine ⟨fun d hd => ?_, show 2 ≤ 3 by decide⟩
      have hd2 : d = nd x ∨ d = .tuple (ps.map nd) := by simpa [Rw.rdata] using hd
      rcases hd2 with rfl | rfl
      · exact nn h.1
      · exact tt h.2.1 (Nat.le_trans h.2.2.2 (by decide))
    | meet ps =>
      refine ⟨fun d hd => ?_, show 1 ≤ 3 by decide⟩
      rw [List.mem_singleton.mp hd]
      exact tt h.1 (Nat.le_trans h.2.2 (by decide))
    | tell x =>
      refine ⟨fun d hd => ?_, show 1 ≤ 3 by decide⟩
      rw [List.mem_singleton.mp hd]
      exact nn h
    | look rs x =>
      refine ⟨fun d hd => ?_, show 2 ≤ 3 by decide⟩
      have hd2 : d = .tuple (rs.map nd) ∨ d = nd x := by simpa [Rw.rdata] using hd
      rcases hd2 with rfl | rfl
      · exact tt (fun y hy => Nat.lt_trans (h.2.2.1 y hy) (by decide)) (Nat.le_trans h.2.2.2.2 (by decide))
      · exact nn h.1
    | lay rs x y =>
      refine ⟨fun d hd => ?_, show 3 ≤ 3 by decide⟩
      have hd2 : d = .tuple (rs.map nd) ∨ d = nd x ∨ d = nd y := by simpa [Rw.rdata] using hd
      rcases hd2 with rfl | rfl | rfl
      · exact tt (fun y hy => Nat.lt_trans (h.2.2.2.1 y hy) (by decide)) (Nat.le_trans h.2.2.2.2.2 (by decide))
      · exact nn h.1
      · exact nn h.2.1
  have := nice_tup (ds := .str r.w :: r.rdata) (k := 1) (W := 108) fun d hd => by
    rcases List.mem_cons.mp hd with rfl | hd
    · exact hw
    · exact key.1 d hd
  refine this.mono (Nat.le_refl _) ?_
  rw [List.length_cons]
  have := key.2
  omega
def En.data : En → PyData
  | .go b => .tuple [.str "go", nd b]
  | .iff r b c => .tuple [.str "if", nd r, nd b, nd c]
  | .fin => .tuple [.str "end"]
theorem EnAt.dp {K : PySem.W.Frag} {H : Hp} {v : V} {e : En} (h : EnAt K H v e) : Dp K H v e.data := by
  cases e with
  | go b => obtain ⟨p, rfl, h⟩ := h; exact .tup h (.cons (.str _) (.cons (.int _) .nil))
  | iff r b c => obtain ⟨p, rfl, h⟩ := h; exact .tup h (.cons (.str _) (.cons (.int _) (.cons (.int _) (.cons (.int _) .nil))))
  | fin => obtain ⟨p, rfl, h⟩ := h; exact .tup h (.cons (.str _) .nil)
theorem end_nice {e : En} (h : EnB 7 100 e) : Nice 14 e.data 1 40 := by
  cases e with
  | go b =>
    refine (nice_tup (k := 0) (W := 8) fun d hd => ?_).mono (Nat.le_refl _) (show 2 * 9 ≤ 40 by decide)
    have hd2 : d = .str "go" ∨ d = nd b := by simpa using hd
    rcases hd2 with rfl | rfl
    · exact nice_str (by decide +kernel) (by decide +kernel)
    · have h : b < 7 := h
      exact nice_nat (by omega)
  | iff r b c =>
    refine (nice_tup (k := 0) (W := 8) fun d hd => ?_).mono (Nat.le_refl _) (show 4 * 9 ≤ 40 by decide)
    obtain ⟨h1, h2, h3⟩ := h
    have hd2 : d = .str "if" ∨ d = nd r ∨ d = nd b ∨ d = nd c := by simpa using hd
    rcases hd2 with rfl | rfl | rfl | rfl
    · exact nice_str (by decide +kernel) (by decide +kernel)
    · exact nice_nat (by omega)
    · exact nice_nat (by omega)
    · exact nice_nat (by omega)
  | fin =>
    refine (nice_tup (k := 0) (W := 8) fun d hd => ?_).mono (Nat.le_refl _) (show 1 * 9 ≤ 40 by decide)
    rw [List.mem_singleton.mp hd]
    exact nice_str (by decide +kernel) (by decide +kernel)
def bdata (b : Blk) : PyData := .tuple [.list (b.1.map Rw.data), b.2.data]
def pdata (pr : List Blk) : PyData := .list (pr.map bdata)
theorem BlkAt.dp {K : PySem.W.Frag} {H : Hp} {v : V} {b : Blk} (h : BlkAt K H v b) : Dp K H v (bdata b) := by
  obtain ⟨p, ra, ea, vs, rfl, h2, h3, h4, h5⟩ := h
  exact .tup h2 (.cons (.lst (sqL h3) (rows_dp h4)) (.cons h5.dp .nil))
theorem blks_dp {K : PySem.W.Frag} {H : Hp} : ∀ {vs : List V} {bs : List Blk}, Paired (BlkAt K H) vs bs → DpAll K H vs (bs.map bdata)
  | _, _, .nil => .nil
  | _, _, .cons h t => .cons h.dp (blks_dp t)
theorem ProgAt.dp {K : PySem.W.Frag} {H : Hp} {v : V} {pr : List Blk} (h : ProgAt K H v pr) : Dp K H v (pdata pr) := by
  obtain ⟨p, bs, rfl, h1, h2⟩ := h
  exact .lst h1 (blks_dp h2)
theorem prog_nice {pr : List Blk} (hl : pr.length ≤ 7) (h : ∀ b ∈ pr, BlkB 7 100 (([] : List Rw), b.2) ∧ b.1.length ≤ 110 ∧ ∀ r ∈ b.1, RwA (· < 100) r) : Nice 14 (pdata pr) 60 400000 := by
  have hb : ∀ d ∈ pr.map bdata, Nice 14 d 4 56000 := fun d hd => by
    obtain ⟨b, hb, rfl⟩ := List.mem_map.mp hd
    obtain ⟨h3, h1, h2⟩ := h b hb
    have r1 := nice_list (ds := b.1.map Rw.data) (k := 2) (W := 500) fun d hd => by
      obtain ⟨r, hr, rfl⟩ := List.mem_map.mp hd
      exact row_nice (h2 r hr)
    rw [List.length_map] at r1
    have e1 := end_nice h3.2.2
    refine ⟨?_, ?_, ?_, ?_, ?_⟩
    · have := r1.lay
      simp only [bdata, PyData.canLay0, PyData.canLayAll0] at this ⊢
      simp only [this, e1.lay, Bool.and_self]
    · have a1 := r1.dep
      have a2 := e1.dep
      simp only [bdata, PyData.depth, PyData.depthAll] at *
      omega
    · have := r1.sho
      simp only [bdata, PyData.showable, PyData.showableAll] at this ⊢
      simp only [this, e1.sho, Bool.and_self]
    · have := r1.sht
      simp only [bdata, PyData.intsShort, PyData.intsShortAll] at this ⊢
      simp only [this, e1.sht, Bool.and_self]
    · have a1 := r1.wt
      have a2 := e1.wt
      simp only [bdata, PyData.weight, PyData.weightAll] at *
      omega
  have := nice_list hb
  rw [List.length_map] at this
  refine this.mono (by decide) ?_
  have : pr.length * (56000 + 1) ≤ 7 * (56000 + 1) := Nat.mul_le_mul_right _ hl
  omega
theorem Nice.noDict {B : Nat} {d : PyData} {k W : Nat} (h : Nice B d k W) : d.hasDict = false := PyData.hasDict_of_canLay d h.lay
theorem Nice.eqv {B : Nat} {d : PyData} {k W : Nat} (h : Nice B d k W) : PyData.eqv d d = true := SeqAt.eqv_refl d h.lay
theorem Nice.shown14 {d : PyData} {W : Nat} (h : Nice 14 d 60 W) (hW : W ≤ 400000) : d.shown.length ≤ sizeLine := by
  have h1 := PyData.shown_le 14 (by decide) d (PyData.leavesShort_of_canLay0 14 d h.lay h.sht)
  have h2 := h.wt
  have h3 : (14 + 2) * d.weight + 14 ≤ (14 + 2) * 400000 + 14 := by omega
  exact Nat.le_trans h1 (Nat.le_trans h3 (by decide))
end Gn
set_option Elab.async false
set_option linter.all false
set_option maxRecDepth 100000
set_option maxHeartbeats 4000000
namespace Gn
open PySem PySem.Spec PyProof.Rows L2
/-- a def that is called by the law's own caller alone (nothing is being printed around it) -/
structure FnG (P : Program) (w : World) (K : PySem.W.Frag) (mg : Str → Option Value) (base : Heap) (f : Addr) (fd : FuncData) (ps : List Str) (sp : Sp) : Prop where
  run : ∀ (outer : List Env) (s : Shared) (H : Hp) (args : Args) (us : List Value) (vs : List V) (Q : VK) (E : XK), Env0 P w K mg base callerA outer s H → BindsTo s fd args (ps.zip us) →
    Vals vs us → sp vs H Q E → codeAny (model P w) callerA (.call (.ref f) args) (CR CX0 outer P w H s Q E) s
theorem fnG_of {P : Program} {w : World} {K : PySem.W.Frag} {mg : Str → Option Value} {base : Heap} {x qual : Str} {st : Stmt} {f : Addr} {fd : FuncData} {N ps : List Str} {sp : Sp} {k : Nat} (F : Fun K x qual st f fd) (S : FnScope N ps (defScope st))
    (hr : Room (k + 1) callerA) (len : ∀ vs H Q E, sp vs H Q E → vs.length = ps.length)
    (body : ∀ (cdv : Value) (outer : List Env) (s : Shared) (H : Hp) (vs : List V) (Q : VK) (E : XK), Room k (callerA.deeper (envOfC qual (defScope st) s.heap.objs.size f cdv)) → sp vs H Q E →
      ∃ t, PSs (cxOf CX0 P w K mg base N qual (defScope st) f cdv callerA outer s H E).nox (defBody st) t ∧ t { nx := fun _ H' => Q .non H', rt := Q } (start N vs) H) : FnG P w K mg base f fd ps sp := by
  obtain ⟨oc, od, kV, doc, pm, an, cdv, ct, osl, rfl, lk, hcd⟩ := F.ex
  refine ⟨fun outer s H args us vs Q E e0 hb rv hsp => ?_⟩
  have hl := len _ _ _ _ hsp
  have inK : K.In s.heap := e0.mod.kin.keeps fun b o z => (e0.bs b o z).1
  have lim : s.heap.NoLimit := e0.mod.nolimit.keeps fun b o z => (e0.bs b o z).1
  have kinds : ∀ y ∈ ps.zip us, (defScope st).names.lookup y.1 = some .local ∨ ((defScope st).names.lookup y.1 = some .cell ∧ ((cellsFrom (s.heap.objs.size + 1) (defScope st).names []).lookup y.1).isSome = true) := by
    rintro ⟨n, v⟩ hy
    rcases S.par n (List.of_mem_zip hy).1 with z | z
    · exact .inl z
    · exact .inr ⟨z, PySem.W.cellsFrom_some _ _ _ (.inl z)⟩
  refine codeAny_call_function hr.depth (inK _ _ lk) rfl S.co S.gen rfl (PySem.W.codeRec_of inK hcd) (hb _ _ _ _ ?_)
  refine wpAny_newFunctionEnv_cells S.kind kinds fun env he t1 x1 => ?_
  subst he
  refine ⟨lim.keeps x1.toInCall.keep, codeAny_func ?_⟩
  obtain ⟨tt, h1, h2⟩ := body cdv outer s H vs Q E (hr.deeper _) hsp
  have J : Inv (cxOf CX0 P w K mg base N qual (defScope st) f cdv callerA outer s H E) [] (start N vs) H t1 := inv_start S hr.hd e0 hl rv x1
  refine wpAny_mono (h1.nox.run [] t1 (start N vs) H _ J h2) (fun fl t2 hs => ?_) fun e t2 hs => hs
  have fin : ∀ {σ' : L2.St} {H' : Hp} {v : V} {u : Value}, Inv (cxOf CX0 P w K mg base N qual (defScope st) f cdv callerA outer s H E) [] σ' H' t2 → RelV v u → Q v H' → CE outer P w H s Q u t2 :=
    fun {σ' H' v u} j ru qv => ⟨v, H', j.os, j.bare, j.base, j.hok, ru, qv⟩
  cases fl with
  | ret u =>
    obtain ⟨v, σ', H', j, ru, qv⟩ := hs
    exact fin j ru qv
  | next =>
    obtain ⟨σ', H', j, qv⟩ := hs
    exact fin (v := V.non) (u := Value.none) j rfl qv
  | brk =>
    obtain ⟨_, _, _, z⟩ := hs
    exact z.elim
  | cont =>
    obtain ⟨_, _, _, z⟩ := hs
    exact z.elim
theorem lawG {P : Program} {w : World} {K : PySem.W.Frag} {mg mb : Str → Option Value} {fa a : Addr} {fd : FuncData} {x : Str} {sp : Sp} {t1 : Shared} {vs : List Value} {ns : List Int} (inK : K.In t1.heap) (hns : t1.heap.Ns mainGlobals mg)
    (hb : t1.heap.Ns builtinsNs mb) (hbb : ∀ x : Str, x ≠ "__name__" → mb x = bootBuiltins x) (lim : t1.heap.NoLimit) (hg : t1.gens = #[]) (ha : t1.heap.get? a = some { cls := .type "list", data := .seq vs.toArray }) (hi : IntsAre vs ns) (hl : ns.length ≤ sizeLine)
    (F : ∀ base : Heap, K.In base → base.Ns mainGlobals mg → FnG P w K mg base fa fd [x] sp) (bind : ∀ (s : Shared) (u : Value), BindsTo s fd ⟨[u], []⟩ [(x, u)])
    (hsp : ∀ H : Hp, Only H → SqL K H a (ns.map V.int) → sp [.ref a] H (fun v _ => v = .bl true) fun _ _ _ => False) :
    codeAny (model P w) callerA (.call (.ref fa) ⟨[.ref a], []⟩) (fun r t => r = .ok (.ret (.bool true)) ∧ OldK t1.heap t.heap ∧ t.os = t1.os ∧ AllBare t.gens) t1 := by
  have rv := vals_ints hi
  have lenV := hi.length
  have core : ∀ H : Hp, Only H → SqL K H a (ns.map V.int) → HOk P w H t1.heap → (∀ b, H b ≠ none → b = a) → (H a ≠ none → K.lookup a = none) →
      codeAny (model P w) callerA (.call (.ref fa) ⟨[.ref a], []⟩) (fun r t => r = .ok (.ret (.bool true)) ∧ OldK t1.heap t.heap ∧ t.os = t1.os ∧ AllBare t.gens) t1 := by
    intro H hO hS hok hA hK
    have onlyA : ∀ {b : Addr} {u : HO}, H b = some u → b = a := fun {b u} q => hA b (by rw [q]; simp)
    have noA : ∀ {b : Addr} {o : Obj} {es : Array DictEntry} {ep : Nat}, t1.heap.get? b = some o → o.data = .dict es ep → H b = none := fun {b o es ep} e d => by
      cases q : H b with
      | none => rfl
      | some u =>
        have eb := onlyA q
        subst eb
        rw [ha] at e
        cases e
        cases (show Data.seq vs.toArray _ = Data.dict es ep from d)
    have nsK : ∀ {b : Addr} {m : Str → Option Value}, t1.heap.Ns b m → (hidT t1.heap H).Ns b m := fun {b m} ⟨o, es, ep, e, d, r⟩ => ⟨o, es, ep, hidT_get e (noA e d), d, r⟩
    have inKb : K.In (hidT t1.heap H) := fun b o e => by
      refine hidT_get (inK b o e) ?_
      cases q : H b with
      | none => rfl
      | some u =>
        have eb := onlyA q
        subst eb
        rw [hK (by rw [q]; simp)] at e
        cases e
    have hM : Mod K mg (hidT t1.heap H) := ⟨inKb, nsK hns, ⟨mb, nsK hb, hbb⟩, let ⟨mc, h1, h2⟩ := lim; ⟨mc, nsK h1, h2⟩⟩
    have e0 : Env0 P w K mg (hidT t1.heap H) callerA [] t1 H := ⟨rfl, hM, fun b o e => of_hidT e, Nat.le_of_eq (hidT_size _ _), trivial, (fun b hb => absurd (show b ∈ ([] : List Addr) from hb) (by simp)), hok, .of_eq hg⟩
    refine codeAny_mono ((F _ inKb (nsK hns)).run [] t1 H ⟨[.ref a], []⟩ [.ref a] [.ref a] _ _ e0 (bind t1 (.ref a)) (.cons rfl .nil) (hsp H hO hS)) fun r t h => ?_
    cases r with
    | error e => exact False.elim h
    | ok fl =>
      cases fl with
      | ret u =>
        obtain ⟨v, H', os, bare, un, hok', r', q⟩ := h
        have q' : v = .bl true := q
        subst q'
        obtain rfl : u = Value.bool true := r'
        refine ⟨rfl, (OldK.of_keep fun b o e => ?_), os, bare⟩
        cases q : H b with
        | none => exact un.keep b o e q ((by intro z; exact absurd (show b ∈ ([] : List Addr) from z) (by simp))) (by simp)
        | some u =>
          rcases hO b with z | ⟨ob, xs, z⟩
          · rw [q] at z
            cases z
          · have z2 := un.frzs b ob _ z
            obtain ⟨e1, _⟩ := hok b _ z
            obtain ⟨e2, _⟩ := hok' b _ z2
            rw [e] at e1
            cases e1
            exact e2
      | next => exact False.elim h
      | brk => exact False.elim h
      | cont => exact False.elim h
  cases hk : K.lookup a with
  | some o =>
    have e := inK a o hk
    rw [ha] at e
    cases e
    exact core (fun _ => none) (fun _ => .inl rfl) (.inr ⟨_, vs.toArray, _, hk, rfl, rfl, rfl, by rw [List.size_toArray, lenV]; exact hl, by simpa using rv⟩) (fun b u z => by cases (show (none : Option HO) = some u from z)) (fun b z => absurd rfl z) fun z => absurd rfl z
  | none =>
    let H0 : Hp := fun b => if b = a then some (.frz { cls := .type "list", data := .seq vs.toArray } (.lst (ns.map V.int))) else none
    have h1 : ∀ b, b = a → H0 b = some (.frz { cls := .type "list", data := .seq vs.toArray } (.lst (ns.map V.int))) := fun b e => if_pos e
    have h2 : ∀ b, b ≠ a → H0 b = none := fun b e => if_neg e
    refine core H0 (fun b => ?_) (.inl (.inr ⟨_, h1 a rfl⟩)) (fun b u z => ?_) (fun b z => ?_) fun _ => hk
    · by_cases eb : b = a
      · exact .inr ⟨_, _, h1 b eb⟩
      · exact .inl (h2 b eb)
    · by_cases eb : b = a
      · rw [h1 b eb] at z
        cases z
        subst eb
        exact ⟨ha, by rw [List.length_map]; exact hl, vs, _, rv, ha⟩
      · rw [h2 b eb] at z
        cases z
    · by_cases eb : b = a
      · exact eb
      · exact absurd (h2 b eb) z
theorem walkG {l : PySem.W.OpenLaw} {n : Nat} {q : Program} {loose : List Str} {XP : (Str → Option Value) → Heap → Prop} {YP : World → Heap → Prop} {d : DefRec} {K : Params → PySem.W.Frag} {sp : World → Sp} {x : Str} (hn : l.most = some n) (hn2 : n ≤ sizeLine) (hdf : d.params.defaults = [])
    (hY : ∀ (w : World) (h : Heap), YP w h → (K w.params).In h)
    (F : ∀ (w : World) (mg : Str → Option Value) (fa : Addr) (h : Heap), (K w.params).In h → h.Ns mainGlobals mg → mg d.name = some (.ref fa) →
      ∃ fd : FuncData, (∀ (s : Shared) (u : Value), BindsTo s fd ⟨[u], []⟩ [(x, u)]) ∧ ∀ base : Heap, (K w.params).In base → base.Ns mainGlobals mg → FnG l.prog w (K w.params) mg base fa fd [x] (sp w))
    (hsp : ∀ (w : World) (H : Hp) (a : Addr) (ns : List Int), ns.length ≤ n → Only H → SqL (K w.params) H a (ns.map V.int) → sp w [.ref a] H (fun v _ => v = .bl true) fun _ _ _ => False) :
    PySem.W.WalkO q loose XP YP l.row.toRowW d [] (fun f vs => PySem.call f vs) := by
  refine Att.attach_call hn hdf fun w t0 t1 mg mb fa o pm cd doc a vs ns G Y ho hd hcd hmg hobj hints hlen hg => ?_
  have KX := hY w _ Y
  obtain ⟨fd, hb, hF⟩ := F w mg fa _ KX G.T.g hmg
  exact lawG KX G.T.g G.T.b G.T.builtins G.T.nolimit hg hobj hints (Nat.le_trans hlen hn2) hF hb fun H hO hS => hsp w H a ns hlen hO hS
end Gn
set_option Elab.async false
set_option linter.all false
set_option maxRecDepth 100000
set_option maxHeartbeats 8000000
set_option pp.maxSteps 300
namespace Gn
open PySem PySem.Spec PyProof.Rows L2
theorem PgM.prog {K : PySem.W.Frag} {t fo : Addr} {H : Hp} {qs : List (Addr × Addr)} {pr : List Blk} (h : PgM K t fo H qs pr) : ProgAt K H (.ref fo) pr := by
  refine ⟨fo, _, rfl, sqL h.top, ?_⟩
  have hb := h.bk
  clear h
  induction hb with
  | nil => exact .nil
  | cons h t ih =>
    obtain ⟨ea, vs, h1, h2, h3, h4⟩ := h
    exact .cons ⟨_, _, ea, vs, rfl, Same.tup (frz_same _ _) h1, h2, pd_mono h3 fun _ _ y => y.same (frz_same _ _), h4.same (frz_same _ _)⟩ ih
theorem last_text : decide (V.str (Txt.join "\n" (lines [([], .fin)])) = V.str "block\nend") = true := by decide +kernel
def spLaw (K : PySem.W.Frag) : Sp := fun vs H Q _ => ∃ (a : Addr) (ns : List Int), vs = [.ref a] ∧ SqL K H a (ns.map V.int) ∧ ns.length ≤ 63 ∧ ∀ H', Q (.bl true) H'
abbrev nLaw : List Str := ["_law_script", "_law_k", "_law_tape", "_law_program_here", "_law_n", "_law_kept", "_law_due", "_law_turn", "_law_found"]
theorem scLaw : FnScope nLaw ["_law_script"] (defScope sLaw) := ⟨rfl, rfl, rfl, by decide +kernel, rfl, by decide +kernel, by decide +kernel⟩
section
variable {P : Program} {w : World} {K : PySem.W.Frag} {mg : Str → Option Value} {base : Heap}
theorem ok_law {f fE fQ fD fR fP : Addr} {fd fdE fdQ fdD fdR fdP : FuncData} {k : Nat} (F : Fun K "law" "law" sLaw f fd) (B : Bi mg) (hc : Room (k + 1) callerA)
    (DE : Df K mg "_law_begun" sTape ["_law_script", "_law_k"] fE fdE) (GE : FnOk P w K mg base CX0 k fE fdE ["_law_script", "_law_k"] (spTape K))
    (DQ : Df K mg "_law_program" sProgram ["_law_tape", "_law_most"] fQ fdQ) (GQ : FnOk P w K mg base CX0 k fQ fdQ ["_law_tape", "_law_most"] (spProgram K))
    (DD : Df K mg "_law_draw" sDraw ["_law_tape", "_law_many"] fD fdD) (GD : FnOk P w K mg base CX0 k fD fdD ["_law_tape", "_law_many"] spDraw)
    (DR : Df K mg "_law_text_rows" sTextRows ["_law_program_here"] fR fdR) (GR : FnOk P w K mg base CX0 k fR fdR ["_law_program_here"] (spTextRows K))
    (DP : Df K mg "program_text" sPText ["program"] fP fdP) (GP : FnOk P w K mg base CX0 k fP fdP ["program"] (spPText K)) : FnG P w K mg base f fd ["_law_script"] (spLaw K) := by
  refine fnG_of F scLaw hc (fun vs H Q E h => ?_) (fun cdv outer s H vs Q E hr h => ?_)
  · obtain ⟨a, ns, rfl, _⟩ := h
    rfl
  · obtain ⟨a, ns, rfl, hS, hlen, q⟩ := h
    refine ⟨_, (pss_cons (ps_for PassesOwn.never rfl (pi_range1 (by rfl) B.range (pa_cons (pe_op op_add pe_int (pe_callB (call_min2 rfl) (by rfl) B.min PyProof.Rows.boot_min (pa_cons pe_int (pa_cons (pe_callB call_len_seq (by rfl) B.len PySem.boot_len (pa_cons (pv 0) pa_nil)) pa_nil)))) pa_nil)) (pg_name (i := 1) scLaw.nd rfl (.inl rfl)) (pss_cons (ps_set (i := 2) scLaw.nd rfl (.inl rfl) (pe_call GE hr (by rfl) DE.g DE.F.kp DE.b .nil pass0 (pa_cons (pv 0) (pa_cons (pv 1) pa_nil))))
      (pss_cons (ps_set (i := 3) scLaw.nd rfl (.inl rfl) (pe_call GQ hr (by rfl) DQ.g DQ.F.kp DQ.b .nil pass0 (pa_cons (pv 2) (pa_cons pe_int pa_nil))))
      (pss_cons (ps_set (i := 4) scLaw.nd rfl (.inl rfl) (pe_ix ix_list (pe_lst (pa_cons pe_int (pa_cons pe_int (pa_cons (pe_un un_neg pe_int) (pa_cons (pe_op op_pow pe_int pe_int) (pa_cons (pe_un un_neg (pe_op op_pow pe_int pe_int)) (pa_cons pe_int (pa_cons (pe_op op_sub pe_int (pe_call GD hr (by rfl) DD.g DD.F.kp DD.b .nil pass0 (pa_cons (pv 2) (pa_cons (pe_op op_pow pe_int pe_int) pa_nil)))) pa_nil)))))))) (pe_call GD hr (by rfl) DD.g DD.F.kp DD.b .nil pass0 (pa_cons (pv 2) (pa_cons pe_int pa_nil))) (fun _ _ => rfl)))
      (pss_cons (ps_expr (pe_bm PySem.F.plainAttrs_list PySem.F.slot_list_extend PySem.F.type_list_extend mt_extend (pe_ix ix_tup (pe_ix ix_list (pv 3) (pe_un un_neg pe_int) (fun _ _ => rfl)) pe_int (fun _ _ => rfl)) (pa_cons (pe_op op_rep (pe_lst (pa_cons (pe_tup (pa_cons pe_str (pa_cons (pv 4) pa_nil))) pa_nil)) (pe_call GD hr (by rfl) DD.g DD.F.kp DD.b .nil pass0 (pa_cons (pv 2) (pa_cons pe_int pa_nil)))) pa_nil)))
      (pss_cons (ps_set (i := 5) scLaw.nd rfl (.inl rfl) (pe_callB (cr_repr rfl hr.units) (by rfl) B.repr PyProof.Rows.boot_repr (pa_cons (pv 3) pa_nil)))
      (pss_cons (ps_set (i := 6) scLaw.nd rfl (.inl rfl) (pe_join pe_str (pe_call GR hr (by rfl) DR.g DR.F.kp DR.b .nil pass0 (pa_cons (pv 3) pa_nil))))
      (pss_one (ps_for PassesOwn.never rfl (pi_range1 (by rfl) B.range (pa_cons pe_int pa_nil)) (pg_name (i := 7) scLaw.nd rfl (.inl rfl)) (pss_cons (ps_set (i := 8) scLaw.nd rfl (.inl rfl) (pe_call GP hr (by rfl) DP.g DP.F.kp DP.b .nil pass0 (pa_cons (pv 3) pa_nil)))
      (pss_one (ps_if (pw_or (pt_not (pt_val (pe_callB call_isi (by rfl) B.isinstance PyProof.Rows.boot_isinstance (pa_cons (pv 8) (pa_cons (pe_bltn (v := .ty "str") (by rfl) B.str (show bootBuiltins "str" = some (.type "str") by rfl) rfl) pa_nil))))) (pw_or (pt_cmpR op_ne (pv 8) (pv 6) (nomark _)) (pw_or1 (pt_cmpR op_ne (pe_callB (cr_repr rfl hr.units) (by rfl) B.repr PyProof.Rows.boot_repr (pa_cons (pv 3) pa_nil)) (pv 5) (nomark _))))).pt (pss_one (ps_ret pe_bl)) pss_nil))))))))))))
      (pss_one (ps_ret (pe_cmpR op_eq (pe_call GP hr (by rfl) DP.g DP.F.kp DP.b .nil pass0 (pa_cons (pe_lst (pa_cons (pe_tup (pa_cons (pe_lst pa_nil) (pa_cons (pe_tup (pa_cons pe_str pa_nil)) pa_nil))) pa_nil)) pa_nil)) pe_str (nomark _))))), ?_⟩
    have hml : 1 ≤ 1 + (if ((ns.map V.int).length : Int) < 4 then ((ns.map V.int).length : Int) else 4) ∧ 1 + (if ((ns.map V.int).length : Int) < 4 then ((ns.map V.int).length : Int) else 4) ≤ 5 := by split <;> omega
    refine ⟨.ref a, rfl, a, _, rfl, .inl hS, _, _, rfl, _, _, rfl, rfl, _, rfl, by omega, by omega, ?_⟩
    generalize 1 + (if ((ns.map V.int).length : Int) < 4 then ((ns.map V.int).length : Int) else 4) = vv at hml
    refine for_range (lo := 0) (n := vv.toNat) (fun k σ H1 => ∃ (y1 y2 y3 y4 y5 y6 y7 y8 : Option V), σ = [some (.ref a), y1, y2, y3, y4, y5, y6, y7, y8] ∧ Same H H1) ⟨_, _, _, _, _, _, _, _, rfl, Same.refl H⟩ (fun k σ H1 hk hP => ?_) (fun σ H1 hP => ?_)
    · obtain ⟨y1, y2, y3, y4, y5, y6, y7, y8, rfl, s1⟩ := hP
      have hi0 : V.int (0 + (k : Int)) = iv k := by rw [Int.zero_add]; rfl
      rw [hi0]
      refine ⟨.ref a, rfl, iv k, rfl, a, ns, k, rfl, s1.seq hS, by omega, fun t o nt hT => ?_⟩
      have s2 := s1.trans (new_same (o := o) nt)
      have ht0 : H t = none := s1.free nt
      generalize upd H1 t o = H2 at hT s2
      refine ⟨.ref t, rfl, t, 0, rfl, hT, by decide, fun fo qs pr H3 b3 T3 pm hqn hne hl7 hB => ?_⟩
      have sH3 : Same H H3 := Same.bt s2 ht0 b3
      -- the number
      refine ⟨1, rfl, _, _, rfl, rfl, ⟨by decide, by decide, by decide⟩, _, _, rfl, rfl, ⟨by decide, by decide, by decide⟩, _, rfl, .ref t, rfl, _, _, rfl, rfl, ⟨by decide, by decide, by decide⟩, t, _, 0 + 10000, rfl, T3, by decide, by decide, by decide, fun r4 H4 h4 b4 T4 => ?_⟩
      have h4' : (r4 : Int) < 1000000 := h4
      refine ⟨_, _, rfl, rfl, szl (show 7 ≤ 1000000 by decide), fun l5 n5 => ?_⟩
      have s5 := new_same (o := .lst [.int 0, .int 1, .int (-1), .int (10 ^ (12 : Int).toNat), .int (-(10 ^ (12 : Int).toNat)), .int 10, .int (7 - (r4 : Int))]) n5
      have nl5 : l5 ≠ t := T4.ne n5
      refine ⟨.ref t, rfl, t, 7, 10001, rfl, T4.same s5, by omega, by decide, by decide, fun r6 H6 h6 b6 T6 => ?_⟩
      obtain ⟨n, hn, hat⟩ : ∃ n : Int, NumB n ∧ atI [V.int 0, .int 1, .int (-1), .int (10 ^ (12 : Int).toNat), .int (-(10 ^ (12 : Int).toNat)), .int 10, .int (7 - (r4 : Int))] (r6 : Int) = some (.int n) := by
        have hr6 : r6 < 7 := by omega
        match r6, hr6 with
        | 0, _ => exact ⟨0, ⟨by decide, by decide⟩, atI_nat (j := 0) rfl⟩
        | 1, _ => exact ⟨1, ⟨by decide, by decide⟩, atI_nat (j := 1) rfl⟩
        | 2, _ => exact ⟨-1, ⟨by decide, by decide⟩, atI_nat (j := 2) rfl⟩
        | 3, _ => exact ⟨10 ^ (12 : Int).toNat, ⟨by decide, by decide⟩, atI_nat (j := 3) rfl⟩
        | 4, _ => exact ⟨-(10 ^ (12 : Int).toNat), ⟨by decide, by decide⟩, atI_nat (j := 4) rfl⟩
        | 5, _ => exact ⟨10, ⟨by decide, by decide⟩, atI_nat (j := 5) rfl⟩
        | 6, _ => exact ⟨7 - (r4 : Int), ⟨by omega, by omega⟩, atI_nat (j := 6) rfl⟩
      refine ⟨l5, _, _, _, rfl, rfl, sqL (b6 _ _ nl5 upd_same), hat, ?_⟩
      have b36 : But t H3 H6 := (b4.trans (Same.but s5)).trans b6
      have sH6 : Same H H6 := Same.bt sH3 ht0 b36
      have pm6 := pm.but b36
      clear s5 nl5 n5 hat b4 b6 T4 b36 pm
      -- a number more
      have hqpl := pd_len pm6.bk
      have hprl : 0 < pr.length := List.length_pos_iff.mpr hne
      obtain ⟨qs', q1, rfl⟩ : ∃ qs' q1, qs = qs' ++ [q1] := ⟨qs.dropLast, qs.getLast (fun w => by rw [w] at hqpl; simp at hqpl; omega), (List.dropLast_concat_getLast _).symm⟩
      obtain ⟨pr', b1', rfl⟩ : ∃ pr' b1', pr = pr' ++ [b1'] := ⟨pr.dropLast, pr.getLast hne, (List.dropLast_concat_getLast _).symm⟩
      obtain ⟨rs, e⟩ := b1'
      have hq'l : qs'.length = pr'.length := by simpa using hqpl
      have hlast : BkM K (frz [t] H6) H6 q1 (rs, e) := by
        have h := pd_drop qs'.length pm6.bk
        rw [List.drop_left' rfl, List.drop_left' hq'l.symm] at h
        cases h with
        | cons h _ => exact h
      obtain ⟨ea, vs, l1, l2, l3, l4⟩ := id hlast
      have hvl : vs.length = rs.length := pd_len l3
      obtain ⟨hbl1, hbl2, hbl3⟩ := hB (rs, e) (by simp)
      have hbl1 : rs.length ≤ 100 := hbl1
      obtain ⟨nq1, nq2⟩ := pm6.nf q1 (by simp)
      have etop : atI ((qs' ++ [q1]).map fun q => V.ref q.1) (-1) = some (.ref q1.1) := by rw [List.map_append]; exact atI_last _ _
      refine ⟨.ref fo, rfl, 1, rfl, fo, _, _, .ref q1.1, rfl, rfl, sqL pm6.top, etop, q1.1, _, _, .ref q1.2, rfl, rfl, Same.tup (frz_same _ _) l1, atI_nat (j := 0) rfl, .inl ⟨rfl, _, sqL l2⟩, .int n, rfl, szl (show 2 ≤ 1000000 by decide), fun T1 n1 => ?_⟩
      have w1 := new_same (o := .tup [.str "num", .int n]) n1
      have u1 : upd H6 T1 (.tup [.str "num", .int n]) T1 = some (.tup [.str "num", .int n]) := upd_same
      have d1 : T1 ≠ t := T6.ne n1
      have T7 := T6.same w1
      generalize upd H6 T1 (.tup [.str "num", .int n]) = Ha at w1 u1 T7
      refine ⟨szl (show 1 ≤ 1000000 by decide), fun ll nll => ?_⟩
      have w2 := new_same (o := .lst [.ref T1]) nll
      have u2 : upd Ha ll (.lst [.ref T1]) ll = some (.lst [.ref T1]) := upd_same
      have d2 : ll ≠ t := T7.ne nll
      have T8 := T7.same w2
      have u1a := w2 _ _ u1
      generalize upd Ha ll (.lst [.ref T1]) = Hb at w2 u2 T8 u1a
      refine ⟨.ref t, rfl, t, 2, _, rfl, T8, by omega, by decide, by decide, fun r3 Hc h3 b3' T9 => ?_⟩
      have u1b := b3' _ _ d1 u1a
      have u2b := b3' _ _ d2 u2
      refine ⟨ll, _, _, rfl, rfl, u2b, by omega, by omega, szl (by simp; omega), fun l5 n5 => ?_⟩
      have w5 := new_same (o := .lst (List.replicate (r3 : Int).toNat [V.ref T1]).flatten) n5
      have u5 : upd Hc l5 (.lst (List.replicate (r3 : Int).toNat [V.ref T1]).flatten) l5 = some (.lst (List.replicate (r3 : Int).toNat [V.ref T1]).flatten) := upd_same
      have bww : But t H6 (upd Hc l5 (.lst (List.replicate (r3 : Int).toNat [V.ref T1]).flatten)) := (Same.but (w1.trans w2)).trans (b3'.trans (Same.but w5))
      have u1c := w5 _ _ u1b
      generalize upd Hc l5 (.lst (List.replicate (r3 : Int).toNat [V.ref T1]).flatten) = Hd at w5 u5 bww u1c
      obtain ⟨ws, rs2, ews, hws, hws2, hwl⟩ : ∃ (ws : List V) (rs2 : List Rw), (List.replicate (r3 : Int).toNat [V.ref T1]).flatten = ws ∧ Paired (RowAt K (frz [t] Hd)) ws rs2 ∧ (∀ r ∈ rs2, r = .num n) ∧ rs2.length ≤ 1 := by
        have hT1 : RowAt K (frz [t] Hd) (.ref T1) (.num n) := ⟨T1, [.int n], rfl, sqT (frz_at u1c (by simpa using d1)), rfl⟩
        have : r3 = 0 ∨ r3 = 1 := by omega
        rcases this with rfl | rfl
        · exact ⟨[], [], rfl, .nil, fun r hr => (by cases hr), by decide⟩
        · exact ⟨[.ref T1], [.num n], rfl, .cons hT1 .nil, fun r hr => List.mem_singleton.mp hr, by simp⟩
      rw [ews] at u5
      have hwsl : ws.length = rs2.length := pd_len hws
      have pmD := pm6.but bww
      have ff := Bm.frz (M := [t]) (Bm.of_but bww (by simp))
      have pmE := pmD.ext (Same.tup ff l1) (bww _ _ nq2 l2) (pd_mono l3 fun _ _ y => y.same ff) (l4.same ff) hws
      refine ⟨q1.2, l5, _, ws, rfl, rfl, bww _ _ nq2 l2, u5, szl (by omega), ?_⟩
      have nqH : H q1.2 = none := s2.free (hqn q1 (by simp))
      have sHd : Same H (upd Hd q1.2 (.lst (vs ++ ws))) := Same.upd (Same.bt sH6 ht0 bww) nqH
      have hPA := pmE.prog
      generalize upd Hd q1.2 (.lst (vs ++ ws)) = He at sHd hPA
      -- the program is done
      have hB2 : ∀ b ∈ pr' ++ [(rs ++ rs2, e)], BlkB 7 100 (([] : List Rw), b.2) ∧ b.1.length ≤ 110 ∧ ∀ r ∈ b.1, RwA (· < 100) r := fun b hb => by
        rcases List.mem_append.mp hb with w | w
        · obtain ⟨z1, z2, z3⟩ := hB b (List.mem_append_left _ w)
          exact ⟨⟨Nat.zero_le _, fun r hr => (by cases hr), z3⟩, by omega, z2⟩
        · rw [List.mem_singleton.mp w]
          refine ⟨⟨Nat.zero_le _, fun r hr => (by cases hr), hbl3⟩, ?_, fun r hr => ?_⟩
          · show (rs ++ rs2).length ≤ 110
            rw [List.length_append]
            omega
          · rcases List.mem_append.mp hr with w2 | w2
            · exact hbl2 r w2
            · rw [hws2 r w2]; exact hn
      have hl7' : (pr' ++ [(rs ++ rs2, e)]).length ≤ 7 := by rw [List.length_append] at hl7 ⊢; simpa using hl7
      generalize pr' ++ [(rs ++ rs2, e)] = pf at hPA hB2 hl7'
      have hBf : ∀ b ∈ pf, BlkB 7 1000 b := fun b hb => by
        obtain ⟨z1, z2, z3⟩ := hB2 b hb
        have : BlkB 7 1000 (([] : List Rw), b.2) := z1.mono (by decide)
        exact ⟨by omega, fun r hr => (z3 r hr).mono fun y hy => by have : y < 100 := hy; show y < 1000; omega, this.2.2⟩
      have np := prog_nice hl7' hB2
      clear pmE pmD hws hws2 l1 l2 l3 l4 hlast ff u1c u5 bww
      refine ⟨.ref fo, rfl, fo, pdata pf, rfl, hPA.dp, np.sho, np.noDict, Nat.le_trans np.dep (by decide), np.shown14 (by decide), ?_⟩
      refine ⟨⟨_, rfl⟩, .ref fo, rfl, .ref fo, pf, rfl, hPA, hl7', hBf, fun F Hg sg eF => ⟨"\n", F, lines pf, rfl, rfl, .inl (sqL eF), lines_ok hl7' hBf, ?_⟩⟩
      have hPg := hPA.same sg
      have sHg := sHd.trans sg
      refine ⟨2, rfl, by decide, by decide, ?_⟩
      refine for_range (lo := 0) (n := (2 : Int).toNat) (fun j σ Hw => ∃ (y7 y8 : Option V), σ = [some (.ref a), some (iv k), some (.ref t), some (.ref fo), some (.int n), some (.str (pdata pf).shown), some (.str (Txt.join "\n" (lines pf))), y7, y8] ∧ Same Hg Hw) ⟨_, _, rfl, Same.refl _⟩ (fun j σ Hw hj hP => ?_) (fun σ Hw hP => ?_)
      · obtain ⟨y7, y8, rfl, sw⟩ := hP
        refine ⟨.ref fo, rfl, .ref fo, pf, rfl, hPg.same sw, hl7', hBf, fun Hx sx => ?_⟩
        refine ⟨_, rfl, .str _, .ty "str", .type "str", .type "str", true, rfl, .ty "str", .base (.str _), kit_ty (by decide +kernel), true, rfl, ?_⟩
        refine ⟨_, rfl, _, rfl, rfl, _, rfl, ?_⟩
        show if (!decide (V.str (Txt.join "\n" (lines pf)) = V.str (Txt.join "\n" (lines pf)))) = true then _ else _
        rw [decide_eq_true rfl]
        refine ⟨.ref fo, rfl, fo, pdata pf, rfl, (hPg.same (sw.trans sx)).dp, np.sho, np.noDict, Nat.le_trans np.dep (by decide), np.shown14 (by decide), _, rfl, rfl, _, rfl, ?_⟩
        show if (!decide (V.str (pdata pf).shown = V.str (pdata pf).shown)) = true then _ else _
        rw [decide_eq_true rfl]
        exact ⟨_, _, rfl, sw.trans sx⟩
      · obtain ⟨y7, y8, rfl, sw⟩ := hP
        exact ⟨_, _, _, _, _, _, _, _, rfl, sHg.trans sw⟩
    · obtain ⟨y1, y2, y3, y4, y5, y6, y7, y8, rfl, s1⟩ := hP
      refine ⟨Nat.zero_le _, fun L1 n1 => ⟨szl (show 1 ≤ 1000000 by decide), fun T1 n2 => ⟨szl (show 2 ≤ 1000000 by decide), fun T2 n3 => ⟨szl (show 1 ≤ 1000000 by decide), fun L2 n4 => ?_⟩⟩⟩⟩
      have w1 := new_same (o := .lst []) n1
      have w2 := new_same (o := .tup [.str "end"]) n2
      have w3 := new_same (o := .tup [.ref L1, .ref T1]) n3
      have w4 := new_same (o := .lst [.ref T2]) n4
      have u1 := w4 _ _ (w3 _ _ (w2 _ _ (upd_same (H := H1) (a := L1) (o := .lst []))))
      have u2 := w4 _ _ (w3 _ _ (upd_same (a := T1) (o := .tup [.str "end"])))
      have u3 := w4 _ _ (upd_same (a := T2) (o := .tup [.ref L1, .ref T1]))
      refine ⟨.ref L2, [([], .fin)], rfl, ⟨L2, [.ref T2], rfl, sqL upd_same, .cons ⟨T2, L1, .ref T1, [], rfl, sqT u3, u1, .nil, T1, rfl, sqT u2⟩ .nil⟩, by decide, fun b hb => ?_, fun Hx sx => ?_⟩
      · rw [List.mem_singleton.mp hb]
        exact ⟨Nat.zero_le _, fun r hr => (by cases hr), trivial⟩
      · refine ⟨rfl, ?_⟩
        show Q (.bl (decide (V.str (Txt.join "\n" (lines [([], .fin)])) = V.str "block\nend"))) Hx
        rw [last_text]
        exact q Hx
end
end Gn
set_option Elab.async false
set_option linter.all false
set_option maxRecDepth 100000
namespace Gn
open PySem PySem.Spec PyProof.Rows L2
set_option maxHeartbeats 4000000
theorem all_mk {l : PySem.W.OpenLaw} {w : World} {K : PySem.W.Frag} {h : Heap} {mg : Str → Option Value} {fa fE fD fX fR fW fS fQ fT1 fT2 fP fO fZ dR dE gV rg0 rg1 rg2 rg3 rg4 rg5 rg6 rg7 rg8 rg9 rg10 rg11 eg0 eg1 eg2 : Addr} (X : K.In h) (G : h.Ns mainGlobals mg) (hfa : mg "law" = some (.ref fa))
    {odE anE odD anD odX anX odR anR odW anW odS anS odQ anQ odT1 anT1 odT2 anT2 odP anP odO anO odZ anZ hV rh0 rh1 rh2 rh3 rh4 rh5 rh6 rh7 rh8 rh9 rh10 rh11 eh0 eh1 eh2 : Option Addr} {slE slD slX slR slW slS slQ slT1 slT2 slP slO slZ qV rq0 rq1 rq2 rq3 rq4 rq5 rq6 rq7 rq8 rq9 rq10 rq11 eq0 eq1 eq2 : Array (Option Value)} {ocE kVE dcE pmE cdE ctE ocD kVD dcD pmD cdD ctD ocX kVX dcX pmX cdX ctX ocR kVR dcR pmR cdR ctR ocW kVW dcW pmW cdW ctW ocS kVS dcS pmS cdS ctS ocQ kVQ dcQ pmQ cdQ ctQ ocT1 kVT1 dcT1 pmT1 cdT1 ctT1 ocT2 kVT2 dcT2 pmT2 cdT2 ctT2 ocP kVP dcP pmP cdP ctP ocO kVO dcO pmO cdO ctO ocZ kVZ dcZ pmZ cdZ ctZ : Value} {esR esE : Array DictEntry} {nesR nesE jV rj0 rj1 rj2 rj3 rj4 rj5 rj6 rj7 rj8 rj9 rj10 rj11 ej0 ej1 ej2 : Nat} {iV ri0 ri1 ri2 ri3 ri4 ri5 ri6 ri7 ri8 ri9 ri10 ri11 ei0 ei1 ei2 : Array Value}
    (aE : PySem.W.nsIn K mainGlobals "_law_begun" = some (some (.ref fE))) (lE : K.lookup fE = some ⟨ocE, odE, .func (PySem.W.fnOf "_law_begun" "_law_begun" (defArgs sTape) (defBody sTape) (defScope sTape) .none kVE dcE pmE anE cdE ctE), slE⟩) (cE : PySem.W.codeIn K cdE "_law_begun" = true) (kE : PySem.W.keepIn K (.ref fE) = true)
    (aD : PySem.W.nsIn K mainGlobals "_law_draw" = some (some (.ref fD))) (lD : K.lookup fD = some ⟨ocD, odD, .func (PySem.W.fnOf "_law_draw" "_law_draw" (defArgs sDraw) (defBody sDraw) (defScope sDraw) .none kVD dcD pmD anD cdD ctD), slD⟩) (cD : PySem.W.codeIn K cdD "_law_draw" = true) (kD : PySem.W.keepIn K (.ref fD) = true)
    (aX : PySem.W.nsIn K mainGlobals "_law_nexts" = some (some (.ref fX))) (lX : K.lookup fX = some ⟨ocX, odX, .func (PySem.W.fnOf "_law_nexts" "_law_nexts" (defArgs sNexts) (defBody sNexts) (defScope sNexts) .none kVX dcX pmX anX cdX ctX), slX⟩) (cX : PySem.W.codeIn K cdX "_law_nexts" = true) (kX : PySem.W.keepIn K (.ref fX) = true)
    (aR : PySem.W.nsIn K mainGlobals "_law_reached" = some (some (.ref fR))) (lR : K.lookup fR = some ⟨ocR, odR, .func (PySem.W.fnOf "_law_reached" "_law_reached" (defArgs sReached) (defBody sReached) (defScope sReached) .none kVR dcR pmR anR cdR ctR), slR⟩) (cR : PySem.W.codeIn K cdR "_law_reached" = true) (kR : PySem.W.keepIn K (.ref fR) = true)
    (aW : PySem.W.nsIn K mainGlobals "_law_drawn_row" = some (some (.ref fW))) (lW : K.lookup fW = some ⟨ocW, odW, .func (PySem.W.fnOf "_law_drawn_row" "_law_drawn_row" (defArgs sDrawn) (defBody sDrawn) (defScope sDrawn) .none kVW dcW pmW anW cdW ctW), slW⟩) (cW : PySem.W.codeIn K cdW "_law_drawn_row" = true) (kW : PySem.W.keepIn K (.ref fW) = true)
    (aS : PySem.W.nsIn K mainGlobals "_law_standing" = some (some (.ref fS))) (lS : K.lookup fS = some ⟨ocS, odS, .func (PySem.W.fnOf "_law_standing" "_law_standing" (defArgs sStanding) (defBody sStanding) (defScope sStanding) .none kVS dcS pmS anS cdS ctS), slS⟩) (cS : PySem.W.codeIn K cdS "_law_standing" = true) (kS : PySem.W.keepIn K (.ref fS) = true)
    (aQ : PySem.W.nsIn K mainGlobals "_law_program" = some (some (.ref fQ))) (lQ : K.lookup fQ = some ⟨ocQ, odQ, .func (PySem.W.fnOf "_law_program" "_law_program" (defArgs sProgram) (defBody sProgram) (defScope sProgram) .none kVQ dcQ pmQ anQ cdQ ctQ), slQ⟩) (cQ : PySem.W.codeIn K cdQ "_law_program" = true) (kQ : PySem.W.keepIn K (.ref fQ) = true)
    (aT1 : PySem.W.nsIn K mainGlobals "_law_row_text" = some (some (.ref fT1))) (lT1 : K.lookup fT1 = some ⟨ocT1, odT1, .func (PySem.W.fnOf "_law_row_text" "_law_row_text" (defArgs sRowText) (defBody sRowText) (defScope sRowText) .none kVT1 dcT1 pmT1 anT1 cdT1 ctT1), slT1⟩) (cT1 : PySem.W.codeIn K cdT1 "_law_row_text" = true) (kT1 : PySem.W.keepIn K (.ref fT1) = true)
    (aT2 : PySem.W.nsIn K mainGlobals "_law_text_rows" = some (some (.ref fT2))) (lT2 : K.lookup fT2 = some ⟨ocT2, odT2, .func (PySem.W.fnOf "_law_text_rows" "_law_text_rows" (defArgs sTextRows) (defBody sTextRows) (defScope sTextRows) .none kVT2 dcT2 pmT2 anT2 cdT2 ctT2), slT2⟩) (cT2 : PySem.W.codeIn K cdT2 "_law_text_rows" = true) (kT2 : PySem.W.keepIn K (.ref fT2) = true)
    (aP : PySem.W.nsIn K mainGlobals "program_text" = some (some (.ref fP))) (lP : K.lookup fP = some ⟨ocP, odP, .func (PySem.W.fnOf "program_text" "program_text" (defArgs sPText) (defBody sPText) (defScope sPText) .none kVP dcP pmP anP cdP ctP), slP⟩) (cP : PySem.W.codeIn K cdP "program_text" = true) (kP : PySem.W.keepIn K (.ref fP) = true)
    (aO : PySem.W.nsIn K mainGlobals "text_of" = some (some (.ref fO))) (lO : K.lookup fO = some ⟨ocO, odO, .func (PySem.W.fnOf "text_of" "text_of" (defArgs sTextOf) (defBody sTextOf) (defScope sTextOf) .none kVO dcO pmO anO cdO ctO), slO⟩) (cO : PySem.W.codeIn K cdO "text_of" = true) (kO : PySem.W.keepIn K (.ref fO) = true)
    (aZ : PySem.W.nsIn K mainGlobals "law" = some (some (.ref fZ))) (lZ : K.lookup fZ = some ⟨ocZ, odZ, .func (PySem.W.fnOf "law" "law" (defArgs sLaw) (defBody sLaw) (defScope sLaw) .none kVZ dcZ pmZ anZ cdZ ctZ), slZ⟩) (cZ : PySem.W.codeIn K cdZ "law" = true) (kZ : PySem.W.keepIn K (.ref fZ) = true)
    (z_len : PySem.W.nsIn K mainGlobals "len" = some none)
    (z_abs : PySem.W.nsIn K mainGlobals "abs" = some none)
    (z_int : PySem.W.nsIn K mainGlobals "int" = some none)
    (z_range : PySem.W.nsIn K mainGlobals "range" = some none)
    (z_max : PySem.W.nsIn K mainGlobals "max" = some none)
    (z_min : PySem.W.nsIn K mainGlobals "min" = some none)
    (z_list : PySem.W.nsIn K mainGlobals "list" = some none)
    (z_tuple : PySem.W.nsIn K mainGlobals "tuple" = some none)
    (z_sorted : PySem.W.nsIn K mainGlobals "sorted" = some none)
    (z_set : PySem.W.nsIn K mainGlobals "set" = some none)
    (z_enumerate : PySem.W.nsIn K mainGlobals "enumerate" = some none)
    (z_zip : PySem.W.nsIn K mainGlobals "zip" = some none)
    (z_sum : PySem.W.nsIn K mainGlobals "sum" = some none)
    (z_repr : PySem.W.nsIn K mainGlobals "repr" = some none)
    (z_any : PySem.W.nsIn K mainGlobals "any" = some none)
    (z_isinstance : PySem.W.nsIn K mainGlobals "isinstance" = some none)
    (z_bool : PySem.W.nsIn K mainGlobals "bool" = some none)
    (z_str : PySem.W.nsIn K mainGlobals "str" = some none)
    (z_all : PySem.W.nsIn K mainGlobals "all" = some none)
    (rE : PySem.W.nsIn K mainGlobals "ROW_PARTS" = some (some (.ref dR))) (rL : K.lookup dR = some ⟨.type "dict", none, .dict esR nesR, #[]⟩) (rK : PySem.W.KeysLit w.params esR.toList)
    (re0 : PySem.W.nsIn K dR "take" = some (some (.ref rg0))) (rt0 : K.lookup rg0 = some ⟨.type "tuple", rh0, .seq ri0 rj0, rq0⟩) (rv0 : Vals [.str "place"] ri0.toList)
    (re1 : PySem.W.nsIn K dR "num" = some (some (.ref rg1))) (rt1 : K.lookup rg1 = some ⟨.type "tuple", rh1, .seq ri1 rj1, rq1⟩) (rv1 : Vals [.str "number"] ri1.toList)
    (re2 : PySem.W.nsIn K dR "sum" = some (some (.ref rg2))) (rt2 : K.lookup rg2 = some ⟨.type "tuple", rh2, .seq ri2 rj2, rq2⟩) (rv2 : Vals [.str "row", .str "row"] ri2.toList)
    (re3 : PySem.W.nsIn K dR "less" = some (some (.ref rg3))) (rt3 : K.lookup rg3 = some ⟨.type "tuple", rh3, .seq ri3 rj3, rq3⟩) (rv3 : Vals [.str "row", .str "row"] ri3.toList)
    (re4 : PySem.W.nsIn K dR "times" = some (some (.ref rg4))) (rt4 : K.lookup rg4 = some ⟨.type "tuple", rh4, .seq ri4 rj4, rq4⟩) (rv4 : Vals [.str "row", .str "row"] ri4.toList)
    (re5 : PySem.W.nsIn K dR "same" = some (some (.ref rg5))) (rt5 : K.lookup rg5 = some ⟨.type "tuple", rh5, .seq ri5 rj5, rq5⟩) (rv5 : Vals [.str "row", .str "row"] ri5.toList)
    (re6 : PySem.W.nsIn K dR "below" = some (some (.ref rg6))) (rt6 : K.lookup rg6 = some ⟨.type "tuple", rh6, .seq ri6 rj6, rq6⟩) (rv6 : Vals [.str "row", .str "row"] ri6.toList)
    (re7 : PySem.W.nsIn K dR "pick" = some (some (.ref rg7))) (rt7 : K.lookup rg7 = some ⟨.type "tuple", rh7, .seq ri7 rj7, rq7⟩) (rv7 : Vals [.str "row", .str "parts"] ri7.toList)
    (re8 : PySem.W.nsIn K dR "meet" = some (some (.ref rg8))) (rt8 : K.lookup rg8 = some ⟨.type "tuple", rh8, .seq ri8 rj8, rq8⟩) (rv8 : Vals [.str "parts"] ri8.toList)
    (re9 : PySem.W.nsIn K dR "look" = some (some (.ref rg9))) (rt9 : K.lookup rg9 = some ⟨.type "tuple", rh9, .seq ri9 rj9, rq9⟩) (rv9 : Vals [.str "rooms", .str "row"] ri9.toList)
    (re10 : PySem.W.nsIn K dR "lay" = some (some (.ref rg10))) (rt10 : K.lookup rg10 = some ⟨.type "tuple", rh10, .seq ri10 rj10, rq10⟩) (rv10 : Vals [.str "rooms", .str "row", .str "row"] ri10.toList)
    (re11 : PySem.W.nsIn K dR "tell" = some (some (.ref rg11))) (rt11 : K.lookup rg11 = some ⟨.type "tuple", rh11, .seq ri11 rj11, rq11⟩) (rv11 : Vals [.str "row"] ri11.toList)
    (eE : PySem.W.nsIn K mainGlobals "END_PARTS" = some (some (.ref dE))) (eL : K.lookup dE = some ⟨.type "dict", none, .dict esE nesE, #[]⟩) (eK : PySem.W.KeysLit w.params esE.toList)
    (ee0 : PySem.W.nsIn K dE "go" = some (some (.ref eg0))) (et0 : K.lookup eg0 = some ⟨.type "tuple", eh0, .seq ei0 ej0, eq0⟩) (ev0 : Vals [.str "block"] ei0.toList)
    (ee1 : PySem.W.nsIn K dE "if" = some (some (.ref eg1))) (et1 : K.lookup eg1 = some ⟨.type "tuple", eh1, .seq ei1 ej1, eq1⟩) (ev1 : Vals [.str "row", .str "block", .str "block"] ei1.toList)
    (ee2 : PySem.W.nsIn K dE "end" = some (some (.ref eg2))) (et2 : K.lookup eg2 = some ⟨.type "tuple", eh2, .seq ei2 ej2, eq2⟩) (ev2 : Vals [] ei2.toList)
    (sE : PySem.W.nsIn K mainGlobals "SEVERAL" = some (some (.ref gV))) (sT : K.lookup gV = some ⟨.type "tuple", hV, .seq iV jV, qV⟩) (sV : Vals [.str "parts", .str "rooms"] iV.toList) :
    ∃ fd : FuncData, (∀ (s : Shared) (v : Value), BindsTo s fd ⟨[v], []⟩ [("_law_script", v)]) ∧ ∀ base : Heap, K.In base → base.Ns mainGlobals mg → FnG l.prog w K mg base fa fd ["_law_script"] (spLaw K) := by
  have ez := hfa.symm.trans (PySem.W.mg_of X G aZ)
  cases ez
  have FE := fun_mk (st := sTape) lE cE kE
  have DE : Df K mg "_law_begun" sTape ["_law_script", "_law_k"] fE _ := ⟨FE, FE.binds (ps := ["_law_script", "_law_k"]) fun _ _ _ _ _ _ us hl => match us, hl with | [_, _], _ => rfl, PySem.W.mg_of X G aE⟩
  have FD := fun_mk (st := sDraw) lD cD kD
  have DD : Df K mg "_law_draw" sDraw ["_law_tape", "_law_many"] fD _ := ⟨FD, FD.binds (ps := ["_law_tape", "_law_many"]) fun _ _ _ _ _ _ us hl => match us, hl with | [_, _], _ => rfl, PySem.W.mg_of X G aD⟩
  have FX := fun_mk (st := sNexts) lX cX kX
  have DX : Df K mg "_law_nexts" sNexts ["_law_tape"] fX _ := ⟨FX, FX.binds (ps := ["_law_tape"]) fun _ _ _ _ _ _ us hl => match us, hl with | [_], _ => rfl, PySem.W.mg_of X G aX⟩
  have FR := fun_mk (st := sReached) lR cR kR
  have DR : Df K mg "_law_reached" sReached ["_law_nexts_here", "_law_without"] fR _ := ⟨FR, FR.binds (ps := ["_law_nexts_here", "_law_without"]) fun _ _ _ _ _ _ us hl => match us, hl with | [_, _], _ => rfl, PySem.W.mg_of X G aR⟩
  have FW := fun_mk (st := sDrawn) lW cW kW
  have DW : Df K mg "_law_drawn_row" sDrawn ["_law_tape", "_law_rows", "_law_some"] fW _ := ⟨FW, FW.binds (ps := ["_law_tape", "_law_rows", "_law_some"]) fun _ _ _ _ _ _ us hl => match us, hl with | [_, _, _], _ => rfl, PySem.W.mg_of X G aW⟩
  have FS := fun_mk (st := sStanding) lS cS kS
  have DS : Df K mg "_law_standing" sStanding ["_law_nexts_here", "_law_blocks", "_law_rows", "_law_block"] fS _ := ⟨FS, FS.binds (ps := ["_law_nexts_here", "_law_blocks", "_law_rows", "_law_block"]) fun _ _ _ _ _ _ us hl => match us, hl with | [_, _, _, _], _ => rfl, PySem.W.mg_of X G aS⟩
  have FQ := fun_mk (st := sProgram) lQ cQ kQ
  have DQ : Df K mg "_law_program" sProgram ["_law_tape", "_law_most"] fQ _ := ⟨FQ, FQ.binds (ps := ["_law_tape", "_law_most"]) fun _ _ _ _ _ _ us hl => match us, hl with | [_, _], _ => rfl, PySem.W.mg_of X G aQ⟩
  have FT1 := fun_mk (st := sRowText) lT1 cT1 kT1
  have DT1 : Df K mg "_law_row_text" sRowText ["_law_row"] fT1 _ := ⟨FT1, FT1.binds (ps := ["_law_row"]) fun _ _ _ _ _ _ us hl => match us, hl with | [_], _ => rfl, PySem.W.mg_of X G aT1⟩
  have FT2 := fun_mk (st := sTextRows) lT2 cT2 kT2
  have DT2 : Df K mg "_law_text_rows" sTextRows ["_law_program_here"] fT2 _ := ⟨FT2, FT2.binds (ps := ["_law_program_here"]) fun _ _ _ _ _ _ us hl => match us, hl with | [_], _ => rfl, PySem.W.mg_of X G aT2⟩
  have FP := fun_mk (st := sPText) lP cP kP
  have DP : Df K mg "program_text" sPText ["program"] fP _ := ⟨FP, FP.binds (ps := ["program"]) fun _ _ _ _ _ _ us hl => match us, hl with | [_], _ => rfl, PySem.W.mg_of X G aP⟩
  have FO := fun_mk (st := sTextOf) lO cO kO
  have DO : Df K mg "text_of" sTextOf ["thing", "kinds"] fO _ := ⟨FO, FO.binds (ps := ["thing", "kinds"]) fun _ _ _ _ _ _ us hl => match us, hl with | [_, _], _ => rfl, PySem.W.mg_of X G aO⟩
  have FZ := fun_mk (st := sLaw) lZ cZ kZ
  have B : Bi mg := ⟨PySem.W.mg_none_of X G z_len, PySem.W.mg_none_of X G z_abs, PySem.W.mg_none_of X G z_int, PySem.W.mg_none_of X G z_range, PySem.W.mg_none_of X G z_max, PySem.W.mg_none_of X G z_min, PySem.W.mg_none_of X G z_list, PySem.W.mg_none_of X G z_tuple, PySem.W.mg_none_of X G z_sorted, PySem.W.mg_none_of X G z_set, PySem.W.mg_none_of X G z_enumerate, PySem.W.mg_none_of X G z_zip, PySem.W.mg_none_of X G z_sum, PySem.W.mg_none_of X G z_repr, PySem.W.mg_none_of X G z_any, PySem.W.mg_none_of X G z_isinstance, PySem.W.mg_none_of X G z_bool, PySem.W.mg_none_of X G z_str, PySem.W.mg_none_of X G z_all⟩
  have sz : ∀ {xs : List V} {its : Array Value}, Vals xs its.toList → xs.length ≤ 9 → its.size ≤ sizeLine := fun {xs its} v h => by
    have e := v.length
    have e2 : its.toList.length = its.size := Array.length_toList
    exact szl (by omega)
  have TB : Tb K w mg dR dE := ⟨PySem.W.mg_of X G rE, PySem.W.mg_of X G eE, fun r => match r with | .take _ => ⟨_, ⟨esR, nesR, _, rL, rK, re0, rfl⟩, fun H => .inr ⟨_, ri0, rj0, rt0, rfl, rfl, sz rv0 (by decide), rv0⟩⟩ | .num _ => ⟨_, ⟨esR, nesR, _, rL, rK, re1, rfl⟩, fun H => .inr ⟨_, ri1, rj1, rt1, rfl, rfl, sz rv1 (by decide), rv1⟩⟩ | .bin .sum _ _ => ⟨_, ⟨esR, nesR, _, rL, rK, re2, rfl⟩, fun H => .inr ⟨_, ri2, rj2, rt2, rfl, rfl, sz rv2 (by decide), rv2⟩⟩ | .bin .less _ _ => ⟨_, ⟨esR, nesR, _, rL, rK, re3, rfl⟩, fun H => .inr ⟨_, ri3, rj3, rt3, rfl, rfl, sz rv3 (by decide), rv3⟩⟩ | .bin .times _ _ => ⟨_, ⟨esR, nesR, _, rL, rK, re4, rfl⟩, fun H => .inr ⟨_, ri4, rj4, rt4, rfl, rfl, sz rv4 (by decide), rv4⟩⟩ | .bin .same _ _ => ⟨_, ⟨esR, nesR, _, rL, rK, re5, rfl⟩, fun H => .inr ⟨_, ri5, rj5, rt5, rfl, rfl, sz rv5 (by decide), rv5⟩⟩ | .bin .below _ _ => ⟨_, ⟨esR, nesR, _, rL, rK, re6, rfl⟩, fun H => .inr ⟨_, ri6, rj6, rt6, rfl, rfl, sz rv6 (by decide), rv6⟩⟩ | .pick _ _ => ⟨_, ⟨esR, nesR, _, rL, rK, re7, rfl⟩, fun H => .inr ⟨_, ri7, rj7, rt7, rfl, rfl, sz rv7 (by decide), rv7⟩⟩ | .meet _ => ⟨_, ⟨esR, nesR, _, rL, rK, re8, rfl⟩, fun H => .inr ⟨_, ri8, rj8, rt8, rfl, rfl, sz rv8 (by decide), rv8⟩⟩ | .look _ _ => ⟨_, ⟨esR, nesR, _, rL, rK, re9, rfl⟩, fun H => .inr ⟨_, ri9, rj9, rt9, rfl, rfl, sz rv9 (by decide), rv9⟩⟩ | .lay _ _ _ => ⟨_, ⟨esR, nesR, _, rL, rK, re10, rfl⟩, fun H => .inr ⟨_, ri10, rj10, rt10, rfl, rfl, sz rv10 (by decide), rv10⟩⟩ | .tell _ => ⟨_, ⟨esR, nesR, _, rL, rK, re11, rfl⟩, fun H => .inr ⟨_, ri11, rj11, rt11, rfl, rfl, sz rv11 (by decide), rv11⟩⟩, fun e => match e with | .go _ => ⟨_, ⟨esE, nesE, _, eL, eK, ee0, rfl⟩, fun H => .inr ⟨_, ei0, ej0, et0, rfl, rfl, sz ev0 (by decide), ev0⟩⟩ | .iff _ _ _ => ⟨_, ⟨esE, nesE, _, eL, eK, ee1, rfl⟩, fun H => .inr ⟨_, ei1, ej1, et1, rfl, rfl, sz ev1 (by decide), ev1⟩⟩ | .fin => ⟨_, ⟨esE, nesE, _, eL, eK, ee2, rfl⟩, fun H => .inr ⟨_, ei2, ej2, et2, rfl, rfl, sz ev2 (by decide), ev2⟩⟩⟩
  refine ⟨PySem.W.fnOf "law" "law" (defArgs sLaw) (defBody sLaw) (defScope sLaw) .none kVZ dcZ pmZ anZ cdZ ctZ, fun s v => .of_eq rfl, fun base hK hN => ?_⟩
  have GD : FnOk l.prog w K mg base CX0 1 fD _ ["_law_tape", "_law_many"] spDraw := ok_draw DD
  have GE : FnOk l.prog w K mg base CX0 1 fE _ ["_law_script", "_law_k"] (spTape K) := ok_tape DE B
  have GR : FnOk l.prog w K mg base CX0 1 fR _ ["_law_nexts_here", "_law_without"] (spReached K) := ok_reached DR
  have GT1 : FnOk l.prog w K mg base CX0 1 fT1 _ ["_law_row"] (spRowText K) := ok_rowText DT1 B
  have GO : FnOk l.prog w K mg base CX0 1 fO _ ["thing", "kinds"] (spTextOf K) := ok_textOf DO B (PySem.W.mg_of X G sE) (fun H => .inr ⟨_, iV, jV, sT, rfl, rfl, sz sV (by decide), sV⟩)
  have GX : FnOk l.prog w K mg base CX0 2 fX _ ["_law_tape"] spNexts := ok_nexts DX DD (GD.mono (by decide))
  have GS : FnOk l.prog w K mg base CX0 2 fS _ ["_law_nexts_here", "_law_blocks", "_law_rows", "_law_block"] (spStanding K) := ok_standing DS B DR (GR.mono (by decide))
  have GW : FnOk l.prog w K mg base CX0 2 fW _ ["_law_tape", "_law_rows", "_law_some"] (spDrawn K) := ok_drawn DW B DD (GD.mono (by decide))
  have GT2 : FnOk l.prog w K mg base CX0 2 fT2 _ ["_law_program_here"] (spTextRows K) := ok_textRows DT2 B DT1 (GT1.mono (by decide))
  have GP : FnOk l.prog w K mg base CX0 2 fP _ ["program"] (spPText K) := ok_ptext DP B TB DO (GO.mono (by decide))
  have GQ : FnOk l.prog w K mg base CX0 3 fQ _ ["_law_tape", "_law_most"] (spProgram K) := ok_program DQ B DD (GD.mono (by decide)) DX (GX.mono (by decide)) DS (GS.mono (by decide)) DW (GW.mono (by decide))
  exact ok_law (k := 3) FZ B ⟨rfl, by decide, by decide⟩ DE (GE.mono (by decide)) DQ (GQ.mono (by decide)) DD (GD.mono (by decide)) DT2 (GT2.mono (by decide)) DP (GP.mono (by decide))
end Gn
set_option Elab.async false
set_option linter.all false
set_option maxRecDepth 100000
open PySem PySem.W PyProof.Rows
set_option maxHeartbeats 0 in
theorem PySem.Challenge.cw_sameworth_k68_programs_written_holds : PySem.Challenge.rw_sameworth_k68_programs_written.Holds := by
  w_on; o_law; k_head; (case hw => w_witness2)
  k_fill
  refine Gn.walkG (l := PySem.Challenge.rw_sameworth_k68_programs_written) (n := 63) (x := "_law_script") (sp := fun w => Gn.spLaw _) rfl (by decide) rfl (fun w h Y => PySem.W.kIn_of Y) ?F (fun _ _ a ns hl _ hS => ⟨a, ns, rfl, hS, hl, fun _ => rfl⟩)
  case F =>
    intro w mg fa h KX G hmg
    refine' Gn.all_mk KX G hmg ?aE ?lE ?cE ?kE ?aD ?lD ?cD ?kD ?aX ?lX ?cX ?kX ?aR ?lR ?cR ?kR ?aW ?lW ?cW ?kW ?aS ?lS ?cS ?kS ?aQ ?lQ ?cQ ?kQ ?aT1 ?lT1 ?cT1 ?kT1 ?aT2 ?lT2 ?cT2 ?kT2 ?aP ?lP ?cP ?kP ?aO ?lO ?cO ?kO ?aZ ?lZ ?cZ ?kZ ?z_len ?z_abs ?z_int ?z_range ?z_max ?z_min ?z_list ?z_tuple ?z_sorted ?z_set ?z_enumerate ?z_zip ?z_sum ?z_repr ?z_any ?z_isinstance ?z_bool ?z_str ?z_all ?rE ?rL ?rK ?re0 ?rt0 ?rv0 ?re1 ?rt1 ?rv1 ?re2 ?rt2 ?rv2 ?re3 ?rt3 ?rv3 ?re4 ?rt4 ?rv4 ?re5 ?rt5 ?rv5 ?re6 ?rt6 ?rv6 ?re7 ?rt7 ?rv7 ?re8 ?rt8 ?rv8 ?re9 ?rt9 ?rv9 ?re10 ?rt10 ?rv10 ?re11 ?rt11 ?rv11 ?eE ?eL ?eK ?ee0 ?et0 ?ev0 ?ee1 ?et1 ?ev1 ?ee2 ?et2 ?ev2 ?sE ?sT ?sV
    (case aE => k_is); (case lE => k_is); (case cE => k_is); (case kE => k_is); (case aD => k_is); (case lD => k_is); (case cD => k_is); (case kD => k_is); (case aX => k_is); (case lX => k_is); (case cX => k_is); (case kX => k_is); (case aR => k_is); (case lR => k_is); (case cR => k_is); (case kR => k_is); (case aW => k_is); (case lW => k_is); (case cW => k_is); (case kW => k_is); (case aS => k_is); (case lS => k_is); (case cS => k_is); (case kS => k_is); (case aQ => k_is); (case lQ => k_is); (case cQ => k_is); (case kQ => k_is); (case aT1 => k_is); (case lT1 => k_is); (case cT1 => k_is); (case kT1 => k_is); (case aT2 => k_is); (case lT2 => k_is); (case cT2 => k_is); (case kT2 => k_is); (case aP => k_is); (case lP => k_is); (case cP => k_is); (case kP => k_is); (case aO => k_is); (case lO => k_is); (case cO => k_is); (case kO => k_is); (case aZ => k_is); (case lZ => k_is); (case cZ => k_is); (case kZ => k_is); (case z_len => k_is); (case z_abs => k_is); (case z_int => k_is); (case z_range => k_is); (case z_max => k_is); (case z_min => k_is); (case z_list => k_is); (case z_tuple => k_is); (case z_sorted => k_is); (case z_set => k_is); (case z_enumerate => k_is); (case z_zip => k_is); (case z_sum => k_is); (case z_repr => k_is); (case z_any => k_is); (case z_isinstance => k_is); (case z_bool => k_is); (case z_str => k_is); (case z_all => k_is); (case rE => k_is); (case rL => k_is); (case re0 => k_is); (case rt0 => k_is); (case re1 => k_is); (case rt1 => k_is); (case re2 => k_is); (case rt2 => k_is); (case re3 => k_is); (case rt3 => k_is); (case re4 => k_is); (case rt4 => k_is); (case re5 => k_is); (case rt5 => k_is); (case re6 => k_is); (case rt6 => k_is); (case re7 => k_is); (case rt7 => k_is); (case re8 => k_is); (case rt8 => k_is); (case re9 => k_is); (case rt9 => k_is); (case re10 => k_is); (case rt10 => k_is); (case re11 => k_is); (case rt11 => k_is); (case eE => k_is); (case eL => k_is); (case ee0 => k_is); (case et0 => k_is); (case ee1 => k_is); (case et1 => k_is); (case ee2 => k_is); (case et2 => k_is); (case sE => k_is); (case sT => k_is)
    (case rK => k_keys)
    (case eK => k_keys)
    (case rv0 => exact .cons ⟨_, rfl⟩ .nil)
    (case rv1 => exact .cons ⟨_, rfl⟩ .nil)
    (case rv2 => exact .cons ⟨_, rfl⟩ (.cons ⟨_, rfl⟩ .nil))
    (case rv3 => exact .cons ⟨_, rfl⟩ (.cons ⟨_, rfl⟩ .nil))
    (case rv4 => exact .cons ⟨_, rfl⟩ (.cons ⟨_, rfl⟩ .nil))
    (case rv5 => exact .cons ⟨_, rfl⟩ (.cons ⟨_, rfl⟩ .nil))
    (case rv6 => exact .cons ⟨_, rfl⟩ (.cons ⟨_, rfl⟩ .nil))
    (case rv7 => exact .cons ⟨_, rfl⟩ (.cons ⟨_, rfl⟩ .nil))
    (case rv8 => exact .cons ⟨_, rfl⟩ .nil)
    (case rv9 => exact .cons ⟨_, rfl⟩ (.cons ⟨_, rfl⟩ .nil))
    (case rv10 => exact .cons ⟨_, rfl⟩ (.cons ⟨_, rfl⟩ (.cons ⟨_, rfl⟩ .nil)))
    (case rv11 => exact .cons ⟨_, rfl⟩ .nil)
    (case ev0 => exact .cons ⟨_, rfl⟩ .nil)
    (case ev1 => exact .cons ⟨_, rfl⟩ (.cons ⟨_, rfl⟩ (.cons ⟨_, rfl⟩ .nil)))
    (case ev2 => exact .nil)
    (case sV => exact .cons ⟨_, rfl⟩ (.cons ⟨_, rfl⟩ .nil))
