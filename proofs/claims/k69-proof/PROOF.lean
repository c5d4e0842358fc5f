import PyProof.Rows.All
import Wide.All
import OpenK.AllK
import Wide.FinOn
import HandS.ForMost
import HandS.Strs
import HandS.Flow
import HandS.Conv
import HandS.Deep
import KE.KDictPairs
import PyProof.P3In
import PyProof.ReprRoads
import HandS.SetFor
import HandS.Evl
import HandS.Style
import HandS.EndBits
import HandS.TupAny
import HandS.RaiseMore
import HandS.IsInst
import HandS.Zip
import HandS.More
import HandS.IterVal
import HandS.Wide
import HandS.Walk
import HandS.TupMul
import PyProof.AutoSeq1
import PyProof.FitsInt
import HandS.Text
import PyProof.ReprLen
import HandS.AnyAll
import HandS.GenList
import HandS.Lambda
import KE.KOwnCellsLaws
import KE.GoesEnumKw
import KE.GoesMore
import HandS.SortKw
import KE.KIntText
import HandS.Star
import HandS.TupLe
import HandS.EndTab
import KE.KNestM
import PySem.Challenge.RW_sameworth_k69_programs_read_back
set_option Elab.async false
set_option linter.all false
set_option maxRecDepth 100000
set_option maxHeartbeats 2000000
namespace Gn
open PySem PySem.Spec PyProof.Rows L2
section
variable {X : Cx}
/-- d.update(xs), xs a list of pairs -/
def rDUp (K : PySem.W.Frag) : V → List V → Hp → VK → Prop := fun x vs H Q =>
  ∃ (d a : Addr) (ps : List Addr) (acc kvs : List (Key × V)), x = .ref d ∧ vs = [.ref a] ∧ H d = some (.dK acc) ∧
    SqL K H a (ps.map V.ref) ∧ Paired (fun p kv => SqT K H p [kV kv.1, kv.2]) ps kvs ∧ (∀ p ∈ ps, p ≠ d) ∧ a ≠ d ∧
    acc.length + kvs.length ≤ sizeLine ∧ Q .non (upd H d (.dK (mergeK acc kvs)))
theorem pairs_vals : ∀ {prs : List (Key × Value)} {ps : List Addr} {h : Heap}, prs.length = ps.length →
    (∀ (j : Nat) (q : Key × Value), prs[j]? = some q → ∃ (b : Addr) (u : Value), ps[j]? = some b ∧ IsTup h b #[u, q.2] ∧ keyIs q.1 u = true) →
    ∃ vv : List (Value × Value), vv.length = ps.length ∧ ∀ (j : Nat) (k v : Value), vv[j]? = some (k, v) →
      ∃ (b : Addr) (q : Key × Value), ps[j]? = some b ∧ prs[j]? = some q ∧ q.2 = v ∧ keyIs q.1 k = true ∧ IsTup h b #[k, v]
  | [], [], h, _, _ => ⟨[], rfl, fun j k v e => by simp at e⟩
  | [], _ :: _, _, e, _ => by simp at e
  | _ :: _, [], _, e, _ => by simp at e
  | q :: prs, p :: ps, h, e, hp => by
    obtain ⟨vv, hl, hv⟩ := pairs_vals (prs := prs) (ps := ps) (h := h) (by simpa using e)
      (fun j q' e' => by
        obtain ⟨b, u, h1, h2, h3⟩ := hp (j + 1) q' (by simpa using e')
        exact ⟨b, u, by simpa using h1, h2, h3⟩)
    obtain ⟨b, u, h1, h2, h3⟩ := hp 0 q rfl
    refine ⟨(u, q.2) :: vv, by simp [hl], fun j k v e' => ?_⟩
    cases j with
    | zero =>
      have e2 : (u, q.2) = (k, v) := Option.some.inj e'
      cases e2
      exact ⟨b, q, h1, rfl, rfl, h3, h2⟩
    | succ j =>
      obtain ⟨b', q', z1, z2, z3, z4, z5⟩ := hv j k v (by simpa using e')
      exact ⟨b', q', by simpa using z1, by simpa using z2, z3, z4, z5⟩
theorem mt_dup (hcalm : X.calm = true) : MtR X "dict.update" (rDUp X.K) := by
  intro pins s σ H x xs v us Q I rx rxs h
  obtain ⟨d, a, ps, acc, kvs, rfl, rfl, hd, hq, hp, hpd, had, hz, q⟩ := h
  cases rx
  obtain ⟨u, rfl, ru⟩ := rxs.one
  cases ru
  obtain ⟨its, rv, pl, hz2⟩ := I.list hq
  have ei := refs_at rv
  subst ei
  obtain ⟨prs, rel, hl, hpr⟩ := pairs_of I hp
  obtain ⟨vv, hvl, hvv⟩ := pairs_vals hl hpr
  obtain ⟨z, hsm, vs, rel0, dd⟩ := dk_of I.hok hd
  obtain ⟨o, n, ho, hc, hdc, hdat⟩ := pl
  have hlen : prs.length = kvs.length := rel.length.symm
  have hTs : ∀ j : Nat, j < ps.length → ps[j]? = some (ps.getD j 0) := fun j hj => by
    rw [List.getD_eq_getElem?_getD, List.getElem?_eq_getElem hj]; rfl
  refine call_update_pairs (knd := mixKind X.prog X.w) (acc := vs) (kvs := prs) (PairArg.list a (ps.map Value.ref).toArray (fun j => ps.getD j 0) vv) (I.ok.hd hcalm) ⟨⟨o, n, ho, hc, hdc, hdat⟩, ?_, ?_⟩ ?_ ⟨?_, ?_⟩ dd ?_ fun h' tk dd' k => ?_
  · simp [hvl]
  · intro j k v e
    obtain ⟨b, q', z1, z2, z3, z4, z5⟩ := hvv j k v e
    have hj := (List.getElem?_eq_some_iff.mp z1).1
    have eb : ps.getD j 0 = b := Option.some.inj ((hTs j hj).symm.trans z1)
    refine ⟨?_, .inl ?_⟩
    · show (ps.map Value.ref).toArray[j]? = some (Value.ref (ps.getD j 0))
      rw [eb, List.getElem?_toArray, List.getElem?_map, z1]
      rfl
    · show s.heap.IsTuple (ps.getD j 0) _
      rw [eb]; exact z5
  · intro hm
    rcases List.mem_cons.mp hm with e | hm
    · exact had e.symm
    · obtain ⟨j, hj, e⟩ := List.mem_map.mp hm
      have hj := List.mem_range.mp hj
      rw [hvl] at hj
      exact hpd _ (List.mem_of_getElem? (hTs j hj)) e
  · rw [hl, hvl]
  · intro i key v e
    obtain ⟨b, q', z1, z2, z3, z4, z5⟩ := hvv i key v e
    refine ⟨q'.1, ?_, z4⟩
    rw [z2, ← z3]
  · rw [hvl, ← hl, hlen, ← rel0.length]
    exact hz
  · have he : ∃ q, h'.get? d = some q := let ⟨q, _, _, hq, _⟩ := dd'; ⟨q, hq⟩
    refine ⟨.non, upd H d (.dK (mergeK acc kvs)), ?_, rfl, q⟩
    refine I.write (x := d) (e := d) (by rw [hd]; exact True.intro) (.inl rfl) (fun b q hb z => k b q hb (by simp) z) he (dk_new ?_ hsm (KV.merge rel rel0) dd')
    refine Nat.le_trans (length_mergeK kvs acc) ?_
    omega
end
end Gn
set_option Elab.async false
set_option linter.all false
set_option maxRecDepth 100000
set_option maxHeartbeats 3200000
namespace Gn
open PySem PySem.Spec PyProof.Rows L2
/-- an empty set as it is laid -/
abbrev so (w : World) : Obj := { cls := .type "set", dict := none, data := .set #[] 0 (.fresh 0 0 (!w.params.followText "set-order")) }
section
variable {P : Program} {w : World} {A : Around} {E : Value → Shared → Prop} {s : Shared}
theorem set_of_list {l : Addr} {its : Array Value} (ns : List Int) {Q : Value → Shared → Prop} (hh : A.handled = none) (hl : s.heap.IsList l its)
    (hit : IntsAre its.toList ns) (hb : ns.length + 1 < scanBound)
    (h : ∀ (g : Heap) (tk c : Nat), SetR w g s.heap.objs.size (fun j => decide (j ∈ ns)) c → c ≤ ns.length →
      (∀ b o, s.heap.get? b = some o → g.get? b = some o) → Q (.ref s.heap.objs.size) { s with heap := g, toks := tk }) :
    wpAny (model P w) A (call (.type "set") [.ref l]) Q E s := by
  have hisz : its.size = ns.length := (Array.length_toList).symm.trans (IntsAre.length hit)
  obtain ⟨c, tl, hmro⟩ := F.called_set.mro
  have g0 := F.called_set.made
  have g1 := F.called_set.sub
  refine wpAny_call (codeAny_of_tree ?_)
  show wpAny (model P w) _ (callAny (.type "set") _) _ _ s
  refine wpAny_pure ⟨Code.quiet_builtin _ (by decide +kernel), (codeAny_builtin F.entry_type_call ?_)⟩
  rw [Around.under_plain ((weight_type_call_type "set" [.ref l] [])) rfl]
  have g2 := F.called_set.notType
  have g3 := F.called_set.canCreate
  have g4 := F.typeCall_set_1 (.ref l)
  (repeat (any_goals (first | assumption | wp_step)))
  refine codeAny_mono (code_set_led1 (.ref l) (E := E) (Q₁ := fun u t => u = .ref s.heap.objs.size ∧ t = { s with heap := s.heap.push (so w) }) ⟨rfl, rfl⟩) fun r t hr => ?_
  cases r with
  | error e => exact hr
  | ok fl =>
    cases fl with
    | ret obj =>
      obtain ⟨rfl, rfl⟩ := hr
      have hS : (s.heap.push (so w)).get? s.heap.objs.size = some (so w) := Heap.get?_push_size _ rfl
      have hT : Shared.TypeIs { s with heap := s.heap.push (so w) } (.ref s.heap.objs.size) "set" := ⟨_, hS, rfl⟩
      have g5 := F.called_set.init.lookup
      have g6 := F.called_set.init.bind (.ref s.heap.objs.size)
      (repeat (any_goals (first | assumption | wp_step)))
      refine codeAny_mono (codeAny_call_builtin (R := wants (fun r t => r = .none ∧ ∃ g tk c, t = { s with heap := g, toks := tk } ∧ SetR w g s.heap.objs.size (fun j => decide (j ∈ ns)) c ∧
        c ≤ ns.length ∧ (∀ b o, s.heap.get? b = some o → g.get? b = some o)) E) F.called_set.init.plain F.entry_set_init (check_set_init_1 hT ?_)) fun r2 t2 hr2 => ?_
      · obtain ⟨ol, hol, hcl, nl, hdl⟩ := hl
        obtain ⟨oc, od, oda, osl⟩ := ol
        simp only at hcl hdl
        subst hcl
        subst hdl
        have ho2 : (s.heap.push (so w)).get? l = some { cls := .type "list", dict := od, data := .seq its nl, slots := osl } := Heap.get?_push_of_some _ hol
        have g7 := F.sub_list_set
        have g8 := F.sub_list_frozenset
        have g9 : (Value.type "list" == Value.type "dict") = false := (by decide)
        have hl1 : (s.heap.push (so w)).IsList l its := ⟨_, ho2, rfl, nl, rfl⟩
        unfold Builtin.«set.__init__» noKeywords
        unfold Builtin.Frozenset.updateFrom
        generalize hPI : pyIter = PI
        wp_walk
        subst hPI
        refine wpAny_pyIter_list hl1 ?_
        refine wpAny_bind (wpAny_runValue ?_)
        have hlS : l < s.heap.objs.size := Heap.lt_size hol
        have hh3 : A.in1.in1.in1.handled = none := (by simp [hh])
        have hneI : l ≠ (s.heap.push (so w)).objs.size := (by rw [Heap.size_push]; exact Nat.ne_of_lt (Nat.lt_succ_of_lt hlS))
        have hSf : s.heap.objs.size ∉ [(s.heap.push (so w)).objs.size, l] := by
          rw [Heap.size_push]
          simp only [List.mem_cons, List.mem_singleton, List.not_mem_nil, or_false, not_or]
          exact ⟨Nat.ne_of_lt (Nat.lt_succ_self _), (Nat.ne_of_gt hlS)⟩
        have hval : ∀ (i : Nat) (v : Value), its[i]? = some v → ∃ k t, ns[i]? = some k ∧ v = .int k t := fun i v hv => by
          have hi : i < ns.length := (by rw [← hisz]; exact (Array.getElem?_eq_some_iff.mp hv).1)
          obtain ⟨t, e⟩ := PyProof.Rows.IntsAre.int_at hit i v ((by rw [Array.getElem?_toList]; exact hv))
          refine ⟨ns[i], t, List.getElem?_eq_getElem hi, ?_⟩
          (rw [e, List.getD_eq_getElem?_getD, List.getElem?_eq_getElem hi] <;> rfl)
        refine set_update_ints ((Walks.list hh3 _ l hneI its).toS) s.heap.objs.size hSf ns hisz hb hval (its.size - 0) 0 _ (by omega) (Nat.zero_le _)
          (⟨⟨_, Heap.get?_push_size _ rfl, rfl, rfl⟩, (hl1.push _)⟩) ?z0 ?zR
        case z0 =>
          exact ⟨0, Nat.le_refl 0, setR_new_at (Heap.get?_push_of_some _ hS)⟩
        case zR =>
          intro t' c' hm hc' hS'
          obtain ⟨g, g2, d2, tk2, os2⟩ := t'
          have eg : g2 = s.gens := hm.gens
          have ed : d2 = s.drawn := hm.drawn
          have eo : os2 = s.os := hm.os
          subst eg
          subst ed
          subst eo
          show wpAny _ _ _ _ _ _
          refine wpAny_pure ?_
          show wpAny _ _ (ret Value.none) _ _ _
          rw [hisz] at hc'
          refine wpAny_pure ⟨rfl, g, tk2, c', rfl, hS', hc', (fun b o e => ?_)⟩
          have hb0 : b < s.heap.objs.size := Heap.lt_size e
          have hb2 : b ≠ (s.heap.push (so w)).objs.size := (by rw [Heap.size_push]; exact Nat.ne_of_lt (Nat.lt_succ_of_lt hb0))
          refine hm.heap b o ?_ (Heap.get?_push_of_some _ (Heap.get?_push_of_some _ e))
          simp only [List.mem_cons, List.mem_singleton, List.not_mem_nil, or_false, not_or]
          exact ⟨Nat.ne_of_lt hb0, hb2⟩
      · cases r2 with
        | error e => exact hr2
        | ok fl2 =>
          cases fl2 with
          | ret r =>
            obtain ⟨rfl, g, tk, c', rfl, hS', hc', hk'⟩ := hr2
            (repeat (any_goals (first | assumption | wp_step)))
            exact h _ _ _ hS' hc' hk'
          | _ => exact hr2.elim
    | _ => exact hr.elim
end
section
variable {X : Cx}
def rSetL (X : Cx) : List V → Hp → VK → Prop := fun vs H Q => ∃ (a : Addr) (ns : List Int), vs = [.ref a] ∧ SqL X.K H a (ns.map V.int) ∧ ns.length < 60 ∧
  ∀ p c, H p = none → c ≤ ns.length → Q (.ref p) (upd H p (SetO X.w p (fun j => decide (j ∈ ns)) c))
theorem cr_setL (hc : X.calm = true) : CallR X (.type "set") (rSetL X) := by
  intro pins s σ H vs us Q I r h
  obtain ⟨a, ns, rfl, hq, hl, q⟩ := h
  rw [Vals.ref1 r]
  obtain ⟨its, rv, pl, hz⟩ := I.list hq
  refine set_of_list ns (I.ok.hd hc) pl.isList (by simpa using ints_of_vals rv) (by unfold scanBound; omega) fun g tk c R hcl k => ?_
  exact ⟨.ref _, upd H s.heap.objs.size (SetO X.w s.heap.objs.size (fun j => decide (j ∈ ns)) c), I.laid (t' := tk) k (Nat.le_refl _) (setO_new R), rfl, q _ c (I.hok.fresh (Nat.le_refl _)) hcl⟩
end
end Gn
set_option Elab.async false
set_option linter.all false
set_option maxRecDepth 100000
set_option maxHeartbeats 3200000
namespace Gn
open PySem PySem.Spec PyProof.Rows L2
section
variable {X : Cx}
/-- x in t, t a tuple of data -/
def rInT (K : PySem.W.Frag) : R2 := fun x y H Q =>
  ∃ d ds, Dp K H x d ∧ Dp K H y (.tuple ds) ∧ SeqAt.shaped d = true ∧ SeqAt.shaped (.tuple ds) = true ∧ Q (.bl (ds.any fun z => PyData.eqv z d)) H
theorem op_inT (hu : X.A.units + 65 < cLine) : OpR X (compareOp .In) (rInT X.K) := by
  intro pins s σ H x y v u Q I rx ry h
  obtain ⟨d, ds, hd, he, sd, se, q⟩ := h
  obtain ⟨as, r1⟩ := Dp.reads I d x v hd rx
  obtain ⟨bs, r2⟩ := Dp.reads I (.tuple ds) y u he ry
  have c1 := SeqAt.canLay_of_shaped se
  have c2 := SeqAt.canLay_of_shaped sd
  exact SeqAt.in_tuple_reads r2 r1 c1 c2 (room_in_shaped sd hu) ⟨.bl _, H, I, rfl, q⟩
/-- repr(x) of data -/
def rRepr (K : PySem.W.Frag) : List V → Hp → VK → Prop := fun vs H Q =>
  ∃ (a : Addr) (d : PyData), vs = [.ref a] ∧ Dp K H (.ref a) d ∧ d.showable = true ∧ d.hasDict = false ∧ d.depth ≤ 60 ∧ d.shown.length ≤ sizeLine ∧ Q (.str d.shown) H
theorem cr_repr (hg : X.A.guards = some []) (hu : X.A.units + 64 < cLine) : CallR X (.builtin "repr") (rRepr X.K) := by
  intro pins s σ H vs us Q I r h
  obtain ⟨a, d, rfl, hd, hs, hh, hdp, hz, q⟩ := h
  rw [Vals.ref1 r]
  obtain ⟨as, r1⟩ := Dp.reads I d (.ref a) (.ref a) hd rfl
  refine repr_of_reads' r1 hs (fun e => by rw [hh] at e; cases e) hg (by omega) (fun _ _ e => e) (fun g u tk k => ?_) hz
  exact ⟨.str d.shown, H, I.kept (t' := tk) k, ⟨u, rfl⟩, q⟩
end
end Gn
set_option Elab.async false
set_option linter.all false
set_option maxRecDepth 100000
set_option maxHeartbeats 4000000
namespace Gn
open PySem PySem.Spec PyProof.Rows L2
def topS (i : Nat) : Stmt := PySem.Challenge.pw_sameworth_k69_programs_read_back.main.body.getD i (.Pass ⟨0, 0, 0, 0⟩)
abbrev sTape : Stmt := topS 65
abbrev sDraw : Stmt := topS 66
abbrev sNexts : Stmt := topS 67
abbrev sReached : Stmt := topS 68
abbrev sDrawn : Stmt := topS 69
abbrev sStanding : Stmt := topS 70
abbrev sProgram : Stmt := topS 71
abbrev sRowText : Stmt := topS 73
abbrev sTextRows : Stmt := topS 74
abbrev sLaw : Stmt := topS 75
abbrev sPText : Stmt := topS 58
abbrev sTextOf : Stmt := topS 59
/-- built-in names that the module leaves alone -/
structure Bi (mg : Str → Option Value) : Prop where
  len : mg "len" = none
  abs : mg "abs" = none
  int : mg "int" = none
  range : mg "range" = none
  max : mg "max" = none
  min : mg "min" = none
  list : mg "list" = none
  tuple : mg "tuple" = none
  sorted : mg "sorted" = none
  set : mg "set" = none
  enumerate : mg "enumerate" = none
  zip : mg "zip" = none
  sum : mg "sum" = none
  repr : mg "repr" = none
  any : mg "any" = none
  isinstance : mg "isinstance" = none
  bool : mg "bool" = none
  str : mg "str" = none
  all : mg "all" = none
/-- a def as it stands behind the top -/
structure Df (K : PySem.W.Frag) (mg : Str → Option Value) (x : Str) (st : Stmt) (ps : List Str) (f : Addr) (fd : FuncData) : Prop where
  F : Fun K x x st f fd
  b : Binds K fd ps []
  g : mg x = some (.ref f)
/-- all that was tracked is as it was, but for t -/
def But (t : Addr) (H H' : Hp) : Prop := ∀ a o, a ≠ t → H a = some o → H' a = some o
theorem But.refl (t : Addr) (H : Hp) : But t H H := fun _ _ _ h => h
theorem But.trans {t : Addr} {H H1 H2 : Hp} (a : But t H H1) (b : But t H1 H2) : But t H H2 := fun x o n h => b x o n (a x o n h)
theorem But.upd {t : Addr} {H : Hp} {o : HO} : But t H (upd H t o) := fun a u n h => by rw [upd_ne n]; exact h
theorem Same.but {t : Addr} {H H' : Hp} (h : Same H H') : But t H H' := fun a o _ e => h a o e
theorem new_same {H : Hp} {p : Addr} {o : HO} (h : H p = none) : Same H (upd H p o) := fun a u e => by
  rw [upd_ne (ne_of_none e h)]
  exact e
theorem Same.bt {t : Addr} {I H H' : Hp} (a : Same I H) (n : I t = none) (b : But t H H') : Same I H' := fun x o e =>
  b x o (ne_of_none e n) (a x o e)
theorem Same.upd {I H : Hp} {t : Addr} {o : HO} (a : Same I H) (n : I t = none) : Same I (L2.upd H t o) := fun x u e => by
  rw [upd_ne (ne_of_none e n)]
  exact a x u e
theorem Same.tup {K : PySem.W.Frag} {H H' : Hp} {a : Addr} {xs : List V} (e : Same H H') (h : SqT K H a xs) : SqT K H' a xs := by
  rcases h with (h | ⟨o, h⟩) | h
  · exact .inl (.inl (e _ _ h))
  · exact .inl (.inr ⟨o, e _ _ h⟩)
  · exact .inr h
theorem sqL {K : PySem.W.Frag} {H : Hp} {a : Addr} {xs : List V} (h : H a = some (.lst xs)) : SqL K H a xs := .inl (.inl h)
theorem sqT {K : PySem.W.Frag} {H : Hp} {a : Addr} {xs : List V} (h : H a = some (.tup xs)) : SqT K H a xs := .inl (.inl h)
theorem szl {n : Nat} (h : n ≤ 1000000) : n ≤ sizeLine := Nat.le_trans h (by decide)
theorem szt {n : Nat} (h : n < 1000000) : n < sizeLine := Nat.lt_of_lt_of_le h (by decide)
/-- the tape at t: its third number is at most c -/
def Tape (H : Hp) (t : Addr) (c : Nat) : Prop := ∃ x y n : Int, H t = some (.lst [.int x, .int y, .int n]) ∧ 0 ≤ x ∧ 0 ≤ y ∧ y < 2 ^ 62 ∧ 0 ≤ n ∧ n ≤ c
theorem Tape.mono {H : Hp} {t : Addr} {c d : Nat} (h : Tape H t c) (hc : c ≤ d) : Tape H t d := by
  obtain ⟨x, y, n, a, b, e, f, g, i⟩ := h
  exact ⟨x, y, n, a, b, e, f, g, by omega⟩
theorem Tape.same {H H' : Hp} {t : Addr} {c : Nat} (h : Tape H t c) (e : Same H H') : Tape H' t c := by
  obtain ⟨x, y, n, a, r⟩ := h
  exact ⟨x, y, n, e _ _ a, r⟩
theorem Tape.lst {H : Hp} {t : Addr} {c : Nat} (h : Tape H t c) : ∃ o, H t = some o := by
  obtain ⟨x, y, n, a, r⟩ := h
  exact ⟨_, a⟩
/-! ### draw -/
def spDraw : Sp := fun vs H Q _ => ∃ (t : Addr) (m : Int) (c : Nat), vs = [.ref t, .int m] ∧ Tape H t c ∧ c ≤ 100000000 ∧ 0 < m ∧ m ≤ 1000000 ∧
  ∀ (r : Nat) (H' : Hp), (r : Int) < m → But t H H' → Tape H' t (c + 1) → Q (.int r) H'
theorem scDraw : FnScope ["_law_tape", "_law_many", "_law_found", "_law_once", "_law_twice"] ["_law_tape", "_law_many"] (defScope sDraw) := ⟨rfl, rfl, rfl, by decide +kernel, rfl, by decide +kernel, by decide +kernel⟩
section
variable {P : Program} {w : World} {K : PySem.W.Frag} {mg : Str → Option Value} {base : Heap}
theorem ok_draw {f : Addr} {fd : FuncData} {k : Nat} (D : Df K mg "_law_draw" sDraw ["_law_tape", "_law_many"] f fd) : FnOk P w K mg base CX0 (k + 1) f fd ["_law_tape", "_law_many"] spDraw := by
  refine D.F.ok scDraw (fun vs H Q E h => ?_) (fun cdv A outer s H vs Q E hr h => ?_)
  · obtain ⟨t, m, c, rfl, _⟩ := h
    rfl
  · obtain ⟨t, m, c, rfl, ⟨x, y, n, ht, hx, hy, hy2, hn, hn2⟩, hc, hm, hm2, q⟩ := h
    refine ⟨_, pss_cons (ps_if (pt_cmpR op_gt (pe_ix ix_list (pv 0) pe_int (fun _ _ => rfl)) pe_int (nomark _))
        (pss_cons (ps_set (i := 2) scDraw.nd rfl (.inl rfl) (pe_op op_mod (pe_ix ix_list (pv 0) pe_int (fun _ _ => rfl)) (pv 1)))
        (pss_cons (ps_asg (pe_op op_fdiv (pe_ix ix_list (pv 0) pe_int (fun _ _ => rfl)) (pv 1)) (pg_sub (pv 0) pe_int set_list))
        (pss_one (ps_ret (pv 2))))) pss_nil)
      (pss_cons (ps_asg (pe_op op_add (pe_ix ix_list (pv 0) pe_int (fun _ _ => rfl)) pe_int) (pg_sub (pv 0) pe_int set_list))
      (pss_cons (ps_set (i := 3) scDraw.nd rfl (.inl rfl) (pe_op op_mod (pe_op op_pow (pe_op op_add (pe_ix ix_list (pv 0) pe_int (fun _ _ => rfl)) (pe_op op_mul pe_int (pe_ix ix_list (pv 0) pe_int (fun _ _ => rfl)))) pe_int) pe_int))
      (pss_cons (ps_set (i := 4) scDraw.nd rfl (.inl rfl) (pe_op op_mod (pe_op op_mul (pe_op op_add (pv 3) (pe_ix ix_list (pv 0) pe_int (fun _ _ => rfl))) (pe_op op_add (pe_op op_add (pe_op op_mod (pv 3) pe_int) pe_int) (pe_ix ix_list (pv 0) pe_int (fun _ _ => rfl)))) pe_int))
      (pss_one (ps_ret (pe_op op_mod (pe_op op_fdiv (pe_op op_mod (pe_op op_add (pe_op op_mul (pv 4) pe_int) (pv 3)) pe_int) pe_int) (pv 1))))))), ?_⟩
    have hL : SqL K H t [.int x, .int y, .int n] := sqL ht
    refine ⟨_, rfl, t, _, _, _, rfl, rfl, hL, atI_nat (j := 0) rfl, _, _, rfl, rfl, _, rfl, ite2 (fun e => ?_) (fun e => ?_)⟩
    · have e0 : 0 < x := of_decide_eq_true e
      refine ⟨_, rfl, t, _, _, _, rfl, rfl, hL, atI_nat (j := 0) rfl, _, rfl, _, _, rfl, rfl, hm, ?_⟩
      refine ⟨_, rfl, t, _, _, _, rfl, rfl, hL, atI_nat (j := 0) rfl, _, rfl, _, _, rfl, rfl, ⟨hm, by omega⟩, _, rfl, t, _, _, 0, rfl, rfl, ht, rfl, ?_⟩
      refine ⟨_, rfl, ?_⟩
      have h1 : 0 ≤ x % m := Int.emod_nonneg _ (by omega)
      have h2 : x % m < m := Int.emod_lt_of_pos _ hm
      have h3 : ((x % m).toNat : Int) = x % m := Int.toNat_of_nonneg h1
      have := q (x % m).toNat (upd H t (.lst [.int (x / m), .int y, .int n])) (by omega) But.upd ⟨x / m, y, n, upd_same, Int.ediv_nonneg hx (by omega), hy, hy2, hn, by omega⟩
      rw [h3] at this
      exact this
    · refine ⟨_, rfl, t, _, _, _, rfl, rfl, hL, atI_nat (j := 2) rfl, _, _, rfl, rfl, _, rfl, t, _, _, 2, rfl, rfl, ht, rfl, ?_⟩
      show tSeq _ _ _ _ (upd H t (.lst [.int x, .int y, .int (n + 1)]))
      have hL2 : SqL K (upd H t (.lst [.int x, .int y, .int (n + 1)])) t [.int x, .int y, .int (n + 1)] := sqL upd_same
      have hp : (y + 39373 * (n + 1)).natAbs < 2 ^ 64 := by omega
      refine ⟨_, rfl, t, _, _, _, rfl, rfl, hL2, atI_nat (j := 1) rfl, _, rfl, t, _, _, _, rfl, rfl, hL2, atI_nat (j := 2) rfl, _, _, rfl, rfl, .inl ⟨by decide, by decide⟩, _, _, rfl, rfl,
        _, _, rfl, rfl, ⟨by decide, by decide, hp⟩, _, _, rfl, rfl, (by decide : (0 : Int) < 2147483647), ?_⟩
      generalize hA : (y + 39373 * (n + 1)) ^ (5 : Int).toNat % 2147483647 = once
      have o1 : 0 ≤ once := by rw [← hA]; exact Int.emod_nonneg _ (by decide)
      have o2 : once < 2147483647 := by rw [← hA]; exact Int.emod_lt_of_pos _ (by decide)
      refine ⟨_, rfl, _, rfl, t, _, _, _, rfl, rfl, hL2, atI_nat (j := 2) rfl, _, _, rfl, rfl, _, rfl, _, _, rfl, rfl, (by decide : (0 : Int) < 40009), _, _, rfl, rfl, _, rfl, t, _, _, _, rfl, rfl, hL2, atI_nat (j := 2) rfl, _, _, rfl, rfl,
        _, _, rfl, rfl, .inl ⟨by omega, by omega⟩, _, _, rfl, rfl, (by decide : (0 : Int) < 2147483629), ?_⟩
      generalize hB : (once + (n + 1)) * (once % 40009 + 7 + (n + 1)) % 2147483629 = twice
      have t1 : 0 ≤ twice := by rw [← hB]; exact Int.emod_nonneg _ (by decide)
      have t2 : twice < 2147483629 := by rw [← hB]; exact Int.emod_lt_of_pos _ (by decide)
      refine ⟨_, rfl, _, _, rfl, rfl, .inl ⟨by omega, by omega⟩, _, rfl, _, _, rfl, rfl, _, _, rfl, rfl, (by decide : (0 : Int) < 2147483587), _, _, rfl, rfl, ⟨by decide, by decide⟩, _, rfl, _, _, rfl, rfl, hm, ?_⟩
      generalize hC : (twice * 48271 + once) % 2147483587 / 64 = d
      have h1 : 0 ≤ d % m := Int.emod_nonneg _ (by omega)
      have h2 : d % m < m := Int.emod_lt_of_pos _ hm
      have h3 : ((d % m).toNat : Int) = d % m := Int.toNat_of_nonneg h1
      have := q (d % m).toNat (upd H t (.lst [.int x, .int y, .int (n + 1)])) (by omega) But.upd ⟨x, y, n + 1, upd_same, hx, hy, hy2, by omega, by omega⟩
      rw [h3] at this
      subst hC
      subst hB
      subst hA
      exact this
/-! ### tape -/
def spTape (K : PySem.W.Frag) : Sp := fun vs H Q _ => ∃ (a : Addr) (ns : List Int) (k : Nat), vs = [.ref a, .int k] ∧ SqL K H a (ns.map V.int) ∧ k ≤ 100 ∧
  ∀ (p : Addr) (o : HO), H p = none → Tape (upd H p o) p 0 → Q (.ref p) (upd H p o)
theorem tape_ok {H : Hp} {p : Addr} {k : Nat} (hk : k ≤ 100) (cell : Int) : Tape (upd H p (.lst [.int ((if cell < 0 then -cell else cell) * (if decide ((10 : Int) ^ (18 : Int).toNat ≤ (if cell < 0 then -cell else cell)) then 1 else 0)), .int (cell % 2305843009213693951 + 39373 * (k : Int) + 17), .int 0])) p 0 := by
  refine ⟨_, _, _, upd_same, ?_, ?_, ?_, ?_, ?_⟩
  · have : 0 ≤ (if cell < 0 then -cell else cell) := by split <;> omega
    have h01 : ∀ b : Bool, 0 ≤ (if b = true then (1 : Int) else 0) := by decide
    exact Int.mul_nonneg this (h01 _)
  · have := Int.emod_nonneg cell (b := 2305843009213693951) (by decide)
    omega
  · have := Int.emod_lt_of_pos cell (b := 2305843009213693951) (by decide)
    omega
  · decide
  · decide
theorem b01 : ∀ b : Bool, -(2 ^ 64) < (if b = true then (1 : Int) else 0) ∧ (if b = true then (1 : Int) else 0) < 2 ^ 64 := by decide
theorem scTape : FnScope ["_law_script", "_law_k", "_law_cell"] ["_law_script", "_law_k"] (defScope sTape) := ⟨rfl, rfl, rfl, by decide +kernel, rfl, by decide +kernel, by decide +kernel⟩
theorem ok_tape {f : Addr} {fd : FuncData} {k : Nat} (D : Df K mg "_law_begun" sTape ["_law_script", "_law_k"] f fd) (B : Bi mg) : FnOk P w K mg base CX0 (k + 1) f fd ["_law_script", "_law_k"] (spTape K) := by
  refine D.F.ok scTape (fun vs H Q E h => ?_) (fun cdv A outer s H vs Q E hr h => ?_)
  · obtain ⟨a, ns, k, rfl, _⟩ := h
    rfl
  · obtain ⟨a, ns, k, rfl, hS, hk, q⟩ := h
    refine ⟨_, pss_cons (ps_set (i := 2) scTape.nd rfl (.inl rfl) (pe_ifExp (pt_cmpR op_lt (pv 1) (pe_callB call_len_seq (by rfl) B.len PySem.boot_len (pa_cons (pv 0) pa_nil)) (nomark _)) (pe_ix ix_list (pv 0) (pv 1) (fun _ _ => rfl)) pe_int))
      (pss_one (ps_ret (pe_lst (pa_cons (pe_op op_mul (pe_callB call_abs (by rfl) B.abs (by decide +kernel) (pa_cons (pv 2) pa_nil)) (pe_callTy call_int1 (by rfl) B.int PyProof.Rows.boot_int (pa_cons (pe_cmpR op_ge (pe_callB call_abs (by rfl) B.abs (by decide +kernel) (pa_cons (pv 2) pa_nil)) (pe_op op_pow pe_int pe_int) (nomark _)) pa_nil)))
        (pa_cons (pe_op op_add (pe_op op_add (pe_op op_mod (pv 2) pe_int) (pe_op op_mul pe_int (pv 1))) pe_int) (pa_cons pe_int pa_nil)))))), ?_⟩
    refine ⟨_, rfl, _, rfl, a, _, rfl, .inl hS, _, _, rfl, rfl, _, rfl, ite2 (fun e => ?_) (fun e => ?_)⟩
    · have e0 : (k : Int) < ((ns.map V.int).length : Int) := of_decide_eq_true e
      have e1 : k < ns.length := by rw [List.length_map] at e0; omega
      refine ⟨_, rfl, _, rfl, a, _, _, .int ns[k], rfl, rfl, hS, atI_nat (by rw [List.getElem?_map, List.getElem?_eq_getElem e1]; rfl), ?_⟩
      generalize ns[k] = cell
      refine ⟨_, rfl, _, rfl, _, rfl, _, rfl, _, _, rfl, rfl, ⟨by decide, by decide, by decide⟩, _, _, rfl, rfl, .inr ⟨_, rfl, _, _, rfl, rfl, .inr (b01 _), _, rfl, _, _, rfl, rfl, (by decide : (0 : Int) < 2305843009213693951), _, rfl, _, _, rfl, rfl, .inl ⟨by decide, by decide⟩, _, _, rfl, rfl, _, _, rfl, rfl, ?_⟩⟩
      exact ⟨szl (show 3 ≤ 1000000 by decide), fun p np => q p _ np (tape_ok hk cell)⟩
    · refine ⟨_, rfl, _, rfl, _, rfl, _, rfl, _, _, rfl, rfl, ⟨by decide, by decide, by decide⟩, _, _, rfl, rfl, .inr ⟨_, rfl, _, _, rfl, rfl, .inr (b01 _), _, rfl, _, _, rfl, rfl, (by decide : (0 : Int) < 2305843009213693951), _, rfl, _, _, rfl, rfl, .inl ⟨by decide, by decide⟩, _, _, rfl, rfl, _, _, rfl, rfl, ?_⟩⟩
      exact ⟨szl (show 3 ≤ 1000000 by decide), fun p np => q p _ np (tape_ok hk 0)⟩
end
end Gn
set_option Elab.async false
set_option linter.all false
set_option maxRecDepth 100000
set_option maxHeartbeats 4000000
namespace Gn
open PySem PySem.Spec PyProof.Rows L2
theorem Tape.but {H H' : Hp} {t a : Addr} {c : Nat} (h : Tape H t c) (e : But a H H') (n : t ≠ a) : Tape H' t c := by
  obtain ⟨x, y, z, q, r⟩ := h
  exact ⟨x, y, z, e _ _ n q, r⟩
theorem Tape.upd {H : Hp} {t p : Addr} {c : Nat} {o : HO} (h : Tape H t c) (n : H p = none) : Tape (L2.upd H p o) t c := h.same (new_same n)
theorem Tape.ne {H : Hp} {t p : Addr} {c : Nat} (h : Tape H t c) (n : H p = none) : p ≠ t := fun e => by
  obtain ⟨x, y, z, q, r⟩ := h
  rw [e, q] at n
  cases n
theorem at_lt {α : Type} {xs : List α} {r : Nat} (h : r < xs.length) : atI xs (r : Int) = some xs[r] := atI_nat (List.getElem?_eq_getElem h)
/-! ### lists of numbers, lists of these -/
def iv (n : Nat) : V := .int (n : Int)
def NL (K : PySem.W.Frag) (H : Hp) (p : Addr) (xss : List (List Nat)) : Prop := ∃ ps : List Addr, SqL K H p (ps.map V.ref) ∧ Paired (fun q xs => SqL K H q (xs.map iv)) ps xss
theorem pd_mono {α β : Type} {F G : α → β → Prop} : ∀ {l : List α} {m : List β}, Paired F l m → (∀ a b, F a b → G a b) → Paired G l m
  | _, _, .nil, _ => .nil
  | _, _, .cons h t, g => .cons (g _ _ h) (pd_mono t g)
theorem pd_len {α β : Type} {F : α → β → Prop} : ∀ {l : List α} {m : List β}, Paired F l m → l.length = m.length
  | _, _, .nil => rfl
  | _, _, .cons h t => by rw [List.length_cons, List.length_cons, pd_len t]
theorem pd_at {α β : Type} {F : α → β → Prop} : ∀ {l : List α} {m : List β} {j : Nat} {b : β}, Paired F l m → m[j]? = some b → ∃ a, l[j]? = some a ∧ F a b
  | _, _, _, _, .nil, e => by simp at e
  | _, _, 0, b, .cons (a := a) h t, e => by
    have e' := Option.some.inj e
    subst e'
    exact ⟨a, rfl, h⟩
  | _, _, j + 1, b, .cons h t, e => by
    obtain ⟨a, h1, h2⟩ := pd_at (j := j) t (by simpa using e)
    exact ⟨a, by simpa using h1, h2⟩
theorem pd_snoc {α β : Type} {F : α → β → Prop} {a : α} {b : β} {l : List α} {m : List β} (h : Paired F l m) (g : F a b) : Paired F (l ++ [a]) (m ++ [b]) := Paired.snoc h g
theorem seq_upd {K : PySem.W.Frag} {H : Hp} {a b : Addr} {xs : List V} {o : HO} (h : SqL K H a xs) (n : a ≠ b) : SqL K (upd H b o) a xs := by
  rcases h with (h | ⟨u, h⟩) | h
  · exact .inl (.inl (by rw [upd_ne n]; exact h))
  · exact .inl (.inr ⟨u, by rw [upd_ne n]; exact h⟩)
  · exact .inr h
theorem NL.same {K : PySem.W.Frag} {H H' : Hp} {p : Addr} {xss : List (List Nat)} (h : NL K H p xss) (e : Same H H') : NL K H' p xss := by
  obtain ⟨ps, h1, h2⟩ := h
  exact ⟨ps, e.seq h1, pd_mono h2 fun a b q => e.seq q⟩
theorem NL.at {K : PySem.W.Frag} {H : Hp} {p : Addr} {xss : List (List Nat)} (h : NL K H p xss) {j : Nat} {xs : List Nat} (e : xss[j]? = some xs) :
    ∃ (ys : List V) (q : Addr), SqL K H p ys ∧ ys.length = xss.length ∧ atI ys (j : Int) = some (.ref q) ∧ SqL K H q (xs.map iv) := by
  obtain ⟨ps, h1, h2⟩ := h
  obtain ⟨q, h3, h4⟩ := pd_at h2 e
  exact ⟨_, q, h1, by rw [List.length_map, pd_len h2], atI_nat (by rw [List.getElem?_map, h3]; rfl), h4⟩
theorem NL.len {K : PySem.W.Frag} {H : Hp} {p : Addr} {xss : List (List Nat)} (h : NL K H p xss) : ∃ ys : List V, SqL K H p ys ∧ ys.length = xss.length := by
  obtain ⟨ps, h1, h2⟩ := h
  exact ⟨_, h1, by rw [List.length_map, pd_len h2]⟩
theorem filt_one {α : Type} (p : α → Bool) (x : α) : [x].filter p = if p x = true then [x] else [] := by
  cases h : p x <;> simp [h]
theorem filt_succ (p : Nat → Bool) (j : Nat) : (List.range (j + 1)).filter p = (List.range j).filter p ++ (if p j = true then [j] else []) := by
  rw [List.range_succ, List.filter_append, filt_one]
theorem flat_iv (xs : List Nat) : (xs.map iv).all flatV = true := by
  rw [List.all_map]
  exact List.all_eq_true.mpr fun _ _ => rfl
theorem inV_iv (b : Nat) (xs : List Nat) : inV (iv b) (xs.map iv) = decide (b ∈ xs) := by
  unfold inV
  rw [List.any_map, Bool.eq_iff_iff, List.any_eq_true, decide_eq_true_eq]
  constructor
  · rintro ⟨x, hx, e⟩
    have e2 : ((x : Int) == (b : Int)) = true := e
    have e3 : (x : Int) = (b : Int) := eq_of_beq e2
    have e4 : x = b := by omega
    rw [← e4]; exact hx
  · intro h
    exact ⟨b, h, (beq_self_eq_true (b : Int) : ((b : Int) == (b : Int)) = true)⟩
/-- what is new in H' -/
def newOf (H H' : Hp) : Hp := fun a => if (H a).isNone = true then H' a else none
theorem new_at {H H' : Hp} {a : Addr} {o : HO} (n : H a = none) (e : H' a = some o) : newOf H H' a = some o := by
  unfold newOf
  rw [n]
  exact e
theorem new_of {H H' : Hp} {a : Addr} {o : HO} (e : newOf H H' a = some o) : H a = none ∧ H' a = some o := by
  unfold newOf at e
  cases h : H a with
  | none => rw [h] at e; exact ⟨rfl, e⟩
  | some u => rw [h] at e; cases e
theorem new_sub (H H' : Hp) : Same (newOf H H') H' := fun _ _ e => (new_of e).2
/-! ### the text's comprehensions -/
def valE : Stmt → Expr
  | .Return (some e) _ => e
  | .Assign _ e _ => e
  | _ => .Constant .none 0 ⟨0, 0, 0, 0⟩
def lcS : Expr → Scope
  | .ListComp _ _ sc _ => sc
  | _ => { kind := .function, names := [], isGenerator := false, isCoroutine := false }
def nthS (l : List Stmt) (i : Nat) : Stmt := l.getD i (.Pass ⟨0, 0, 0, 0⟩)
/-! ### readings by name -/
abbrev rLen (K : PySem.W.Frag) : List V → Hp → VK → Prop := fun xs H Q => ∃ p ys, xs = [.ref p] ∧ (SqL K H p ys ∨ SqT K H p ys) ∧ Q (.int ys.length) H
abbrev tLen (K : PySem.W.Frag) (t : TE) : TE := tCB (rLen K) (tCons t tNil)
abbrev tIxL (K : PySem.W.Frag) (a b : TE) : TE := tOp (rIxL K) a b
abbrev tIxT (K : PySem.W.Frag) (a b : TE) : TE := tOp (rIxT K) a b
abbrev tIn (K : PySem.W.Frag) (a b : TE) : TT := tTest (tOp (rIn K false) a b)
abbrev tNotIn (K : PySem.W.Frag) (a b : TE) : TT := tTest (tOp (rIn K true) a b)
abbrev iRange (t : TE) : TI := iRng1 (tCons t tNil)
theorem pd_at2 {α β : Type} {F : α → β → Prop} : ∀ {l : List α} {m : List β} {j : Nat} {a : α}, Paired F l m → l[j]? = some a → ∃ b, m[j]? = some b ∧ F a b
  | _, _, _, _, .nil, e => by simp at e
  | _, _, 0, a, .cons (b := b) h t, e => by
    have e' := Option.some.inj e
    subst e'
    exact ⟨b, rfl, h⟩
  | _, _, j + 1, a, .cons h t, e => by
    obtain ⟨b, h1, h2⟩ := pd_at2 (j := j) t (by simpa using e)
    exact ⟨b, by simpa using h1, h2⟩
theorem gd {α : Type} {l : List α} {j : Nat} {d a : α} (h : l[j]? = some a) : l.getD j d = a := by
  rw [List.getD_eq_getElem?_getD, h]
  rfl
theorem gdl {α : Type} {l : List α} {j : Nat} {d : α} (h : j < l.length) : l[j]? = some (l.getD j d) := by
  rw [List.getD_eq_getElem?_getD, List.getElem?_eq_getElem h]
  rfl
/-! ### rows -/
inductive Bk | sum | less | times | same | below
  deriving DecidableEq
def Bk.w : Bk → Str
  | .sum => "sum" | .less => "less" | .times => "times" | .same => "same" | .below => "below"
inductive Rw
  | take (i : Nat) | num (n : Int) | bin (b : Bk) (x y : Nat) | pick (x : Nat) (ps : List Nat) | meet (ps : List Nat) | tell (x : Nat) | look (rs : List Nat) (x : Nat) | lay (rs : List Nat) (x y : Nat)
def Rw.w : Rw → Str
  | .take _ => "take" | .num _ => "num" | .bin b _ _ => b.w | .pick _ _ => "pick" | .meet _ => "meet" | .tell _ => "tell" | .look _ _ => "look" | .lay _ _ _ => "lay"
def Rw.worthy : Rw → Bool
  | .tell _ => false
  | .lay _ _ _ => false
  | _ => true
def Rest (K : PySem.W.Frag) (H : Hp) : Rw → List V → Prop
  | .take i, xs => xs = [iv i]
  | .num n, xs => xs = [.int n]
  | .bin _ x y, xs => xs = [iv x, iv y]
  | .pick x ps, xs => ∃ q, xs = [iv x, .ref q] ∧ SqT K H q (ps.map iv)
  | .meet ps, xs => ∃ q, xs = [.ref q] ∧ SqT K H q (ps.map iv)
  | .tell x, xs => xs = [iv x]
  | .look rs x, xs => ∃ q, xs = [.ref q, iv x] ∧ SqT K H q (rs.map iv)
  | .lay rs x y, xs => ∃ q, xs = [.ref q, iv x, iv y] ∧ SqT K H q (rs.map iv)
def RowAt (K : PySem.W.Frag) (H : Hp) (v : V) (r : Rw) : Prop := ∃ p xs, v = .ref p ∧ SqT K H p (.str r.w :: xs) ∧ Rest K H r xs
theorem Rest.same {K : PySem.W.Frag} {H H' : Hp} {r : Rw} {xs : List V} (h : Rest K H r xs) (e : Same H H') : Rest K H' r xs := by
  cases r with
  | pick x ps =>
    obtain ⟨q, h1, h2⟩ := h
    exact ⟨q, h1, Same.tup e h2⟩
  | meet ps =>
    obtain ⟨q, h1, h2⟩ := h
    exact ⟨q, h1, Same.tup e h2⟩
  | look rs x =>
    obtain ⟨q, h1, h2⟩ := h
    exact ⟨q, h1, Same.tup e h2⟩
  | lay rs x y =>
    obtain ⟨q, h1, h2⟩ := h
    exact ⟨q, h1, Same.tup e h2⟩
  | _ => exact h
theorem RowAt.same {K : PySem.W.Frag} {H H' : Hp} {r : Rw} {v : V} (h : RowAt K H v r) (e : Same H H') : RowAt K H' v r := by
  obtain ⟨p, xs, h1, h2, h3⟩ := h
  exact ⟨p, xs, h1, Same.tup e h2, h3.same e⟩
theorem worthy_in (r : Rw) : (!inV (.str r.w) [.str "tell", .str "lay"]) = r.worthy := by
  cases r with
  | bin b x y => cases b <;> rfl
  | _ => (first | rfl | decide)
/-! ### the state -/
def frz (M : List Addr) (H : Hp) : Hp := fun a => if a ∈ M then none else H a
theorem frz_same (M : List Addr) (H : Hp) : Same (frz M H) H := fun a o e => by
  unfold frz at e
  by_cases h : a ∈ M
  · rw [if_pos h] at e; cases e
  · rw [if_neg h] at e; exact e
theorem frz_at {M : List Addr} {H : Hp} {a : Addr} {o : HO} (h : H a = some o) (n : a ∉ M) : frz M H a = some o := by
  unfold frz
  rw [if_neg n]
  exact h
theorem frz_mem {M : List Addr} {H : Hp} {a : Addr} {o : HO} (h : frz M H a = some o) : a ∉ M := fun n => by
  unfold frz at h
  rw [if_pos n] at h
  cases h
/-- but for what is in M -/
def Bm (M : List Addr) (H H' : Hp) : Prop := ∀ a o, a ∉ M → H a = some o → H' a = some o
theorem Bm.refl (M : List Addr) (H : Hp) : Bm M H H := fun _ _ _ h => h
theorem Bm.trans {M : List Addr} {H H1 H2 : Hp} (a : Bm M H H1) (b : Bm M H1 H2) : Bm M H H2 := fun x o n h => b x o n (a x o n h)
theorem Bm.of_but {M : List Addr} {t : Addr} {H H1 : Hp} (a : But t H H1) (h : t ∈ M) : Bm M H H1 := fun x o n e => a x o (fun z => n (z ▸ h)) e
theorem Bm.of_same {M : List Addr} {H H1 : Hp} (a : Same H H1) : Bm M H H1 := fun x o n e => a x o e
theorem Bm.frz {M : List Addr} {H H' : Hp} (b : Bm M H H') : Same (frz M H) (frz M H') := fun a o e =>
  frz_at (b a o (frz_mem e) (frz_same M H a o e)) (frz_mem e)
theorem tup_frz {K : PySem.W.Frag} {H : Hp} {t a : Addr} {xs ys : List V} (h : SqT K H a xs) (e : H t = some (.lst ys)) : SqT K (frz [t] H) a xs := by
  rcases h with (h | ⟨u, h⟩) | h
  · exact .inl (.inl (frz_at h (by simpa using ne_of h e (by intro z; cases z))))
  · exact .inl (.inr ⟨u, frz_at h (by simpa using ne_of h e (by intro z; cases z))⟩)
  · exact .inr h
theorem pd_app {α β : Type} {F : α → β → Prop} : ∀ {l l' : List α} {m m' : List β}, Paired F l m → Paired F l' m' → Paired F (l ++ l') (m ++ m')
  | _, _, _, _, .nil, h => h
  | _, _, _, _, .cons h t, g => .cons h (pd_app t g)
theorem it_core {J : It} {n : Nat} {G : Hp → Prop} {Y : Nat → Hp → V → Hp → Prop} (w : Walk J n G Y) {Body : (Hp → Prop) → V → Hp → Prop} {H0 : Hp} {Qd : Hp → Prop} (Pv : Nat → Hp → Prop) (h0 : Pv 0 H0) (hG : ∀ i H, i ≤ n → Pv i H → G H)
    (hs : ∀ i x H H', i < n → Pv i H → Y i H x H' → Body (Pv (i + 1)) x H') (hd : ∀ H, Pv n H → Qd H) :
    ∃ W : Nat → Nat → Hp → Prop, (∃ m, W 0 m H0) ∧ ∀ i m H, W i m H → (J.stop i H ∧ Qd H) ∨ (J.go i H ∧ ∃ Nx : Hp → Prop, (∀ H', Nx H' → ∃ m', m' < m ∧ W (i + 1) m' H') ∧ ∀ x H', J.yld i H x H' → Body Nx x H') := by
  refine ⟨fun i m H => m = n - i ∧ i ≤ n ∧ Pv i H, ⟨n, by simp, Nat.zero_le _, h0⟩, ?_⟩
  rintro i m H ⟨rfl, hi, p⟩
  have q := hG i H hi p
  by_cases hlt : i < n
  · exact .inr ⟨w.goes i H hlt q, Pv (i + 1), fun H' p' => ⟨n - (i + 1), by omega, rfl, hlt, p'⟩, fun x H' y => hs i x H H' hlt p (w.yields i H x H' hlt q y)⟩
  · have e : i = n := by omega
    subst e
    exact .inl ⟨w.stops H q, hd H p⟩
end Gn
set_option linter.all false
namespace Gn
/-! ### reached blocks, chains of nearest ones -/
inductive Rc (E : Nat → List Nat) (x : Nat) : Nat → Prop
  | z : x ≠ 0 → Rc E x 0
  | s {a b : Nat} : Rc E x a → b ∈ E a → b ≠ x → Rc E x b
inductive Rn (E : Nat → List Nat) (x : Nat) : Nat → Nat → Prop
  | z {n : Nat} : x ≠ 0 → Rn E x n 0
  | s {n a b : Nat} : Rn E x n a → b ∈ E a → b ≠ x → Rn E x (n + 1) b
variable {E : Nat → List Nat} {x y m n : Nat}
theorem Rn.mono {k b : Nat} (h : Rn E x n b) : n ≤ k → Rn E x k b := by
  induction h generalizing k with
  | z h => exact fun _ => .z h
  | s h hb hx ih =>
    intro hk
    obtain ⟨j, rfl⟩ : ∃ j, k = j + 1 := ⟨k - 1, by omega⟩
    exact .s (ih (by omega)) hb hx
theorem Rn.rc {b : Nat} (h : Rn E x n b) : Rc E x b := by
  induction h with
  | z h => exact .z h
  | s h hb hx ih => exact .s ih hb hx
theorem Rc.rn {b : Nat} (h : Rc E x b) : ∃ n, Rn E x n b := by
  induction h with
  | z h => exact ⟨0, .z h⟩
  | s h hb hx ih =>
    obtain ⟨n, hn⟩ := ih
    exact ⟨n + 1, .s hn hb hx⟩
theorem Rc.ne {b : Nat} (h : Rc E x b) : b ≠ x := by
  cases h with
  | z h => exact fun e => h e.symm
  | s _ _ hx => exact hx
theorem Rc.lt {b : Nat} (hm : 0 < m) (hE : ∀ a, ∀ b ∈ E a, b < m) (h : Rc E x b) : b < m := by
  cases h with
  | z h => exact hm
  | s _ hb _ => exact hE _ _ hb
theorem Rc.no0 {b : Nat} (h : Rc E 0 b) : False := by
  induction h with
  | z h => exact h rfl
  | s _ _ _ ih => exact ih
theorem Rn.stab (h : ∀ b, Rn E x (n + 1) b → Rn E x n b) {k b : Nat} (r : Rn E x k b) : Rn E x n b := by
  induction r with
  | z h0 => exact .z h0
  | s _ hb hx ih => exact h _ (.s ih hb hx)
theorem cnt_lt {p q : Nat → Bool} (h : ∀ y, p y = true → q y = true) {b : Nat} (hq : q b = true) (hp : p b = false) : ∀ {l : List Nat}, b ∈ l → l.countP p < l.countP q
  | c :: l, hb => by
    have hle : l.countP p ≤ l.countP q := List.countP_mono_left fun y _ e => h y e
    rw [List.countP_cons, List.countP_cons]
    rcases List.mem_cons.mp hb with rfl | hb
    · rw [hq, hp]
      simp
      omega
    · have := cnt_lt h hq hp hb
      by_cases e : p c = true
      · rw [e, h c e]; simp; omega
      · have : (if p c = true then 1 else 0) = 0 := if_neg e
        omega
open Classical in
noncomputable def cntR (E : Nat → List Nat) (x m n : Nat) : Nat := (List.range m).countP fun b => decide (Rn E x n b)
open Classical in
theorem grow (hm : 0 < m) (hE : ∀ a, ∀ b ∈ E a, b < m) (hx : x ≠ 0) : ∀ n, (∃ j, j ≤ n ∧ ∀ b, Rn E x (j + 1) b → Rn E x j b) ∨ n + 1 ≤ cntR E x m n
  | 0 => .inr (List.countP_pos_iff.mpr ⟨0, List.mem_range.mpr hm, decide_eq_true (.z hx)⟩)
  | n + 1 => by
    rcases grow hm hE hx n with ⟨j, hj, h⟩ | h
    · exact .inl ⟨j, by omega, h⟩
    · by_cases hs : ∀ b, Rn E x (n + 1) b → Rn E x n b
      · exact .inl ⟨n, by omega, hs⟩
      · obtain ⟨b, hb⟩ := Classical.not_forall.mp hs
        obtain ⟨h1, h2⟩ := Classical.not_imp.mp hb
        refine .inr ?_
        have : cntR E x m n < cntR E x m (n + 1) := cnt_lt (b := b) (fun y e => decide_eq_true ((of_decide_eq_true e : Rn E x n y).mono (Nat.le_succ n))) (decide_eq_true h1) (decide_eq_false h2) (List.mem_range.mpr (h1.rc.lt hm hE))
        omega
open Classical in
theorem Rc.rm (hm : 0 < m) (hE : ∀ a, ∀ b ∈ E a, b < m) {b : Nat} (h : Rc E x b) : Rn E x m b := by
  by_cases hx : x = 0
  · subst hx; exact h.no0.elim
  · have hc : cntR E x m m ≤ m := Nat.le_trans (List.countP_le_length (p := _)) (by rw [List.length_range]; exact Nat.le_refl _)
    rcases grow hm hE hx m with ⟨j, hj, hs⟩ | h2
    · obtain ⟨k, hk⟩ := h.rn
      exact (hk.stab hs).mono hj
    · omega
theorem Rn.split {b : Nat} (y : Nat) (h : Rn E x n b) : Rn E y n b ∨ Rn E x n y := by
  induction h with
  | z h =>
    by_cases e : y = 0
    · subst e; exact .inr (.z h)
    · exact .inl (.z e)
  | s h hb hx ih =>
    rename_i n a b
    rcases ih with ih | ih
    · by_cases e : b = y
      · subst e; exact .inr (.s h hb hx)
      · exact .inl (.s ih hb e)
    · exact .inr (ih.mono (Nat.le_succ _))
/-- each block but the first has a lesser lead -/
def Led (m : Nat) (E : Nat → List Nat) : Prop := ∀ b, 0 < b → b < m → ∃ j, j < b ∧ b ∈ E j
theorem rc_gt (hl : Led m E) : ∀ b, b < m → b < x → Rc E x b := by
  intro b
  induction b using Nat.strongRecOn with
  | ind b ih =>
    intro hb hx
    by_cases h0 : b = 0
    · subst h0; exact .z (by omega)
    · obtain ⟨j, hj, hbj⟩ := hl b (by omega) hb
      exact .s (ih j hj (by omega) (by omega)) hbj (by omega)
theorem dom_le (hl : Led m E) {b : Nat} (hb : b < m) (h : ¬ Rc E x b) : x ≤ b := Nat.le_of_not_lt fun z => h (rc_gt hl b hb z)
inductive Ch (N : Nat → Nat) : Nat → Nat → Prop
  | r {b : Nat} : Ch N b b
  | u {x b : Nat} : 0 < b → Ch N x (N b) → Ch N x b
variable {N : Nat → Nat}
/-- nearest ones are lesser -/
def Dn (m : Nat) (N : Nat → Nat) : Prop := ∀ b, 0 < b → b < m → N b < b
theorem Ch.inv {b : Nat} (h : Ch N x b) : x = b ∨ (0 < b ∧ Ch N x (N b)) := by
  cases h with
  | r => exact .inl rfl
  | u h0 h => exact .inr ⟨h0, h⟩
theorem Ch.le (hN : Dn m N) {b : Nat} (h : Ch N x b) : b < m → x ≤ b := by
  induction h with
  | r => exact fun _ => Nat.le_refl _
  | u h0 h ih => exact fun hb => by have := hN _ h0 hb; have := ih (by omega); omega
inductive Lca (N : Nat → Nat) : Nat → Nat → Nat → Prop
  | e {a : Nat} : Lca N a a a
  | l {a b c : Nat} : b < a → Lca N (N a) b c → Lca N a b c
  | r {a b c : Nat} : a < b → Lca N a (N b) c → Lca N a b c
theorem Lca.ch (hN : Dn m N) {a b c : Nat} (h : Lca N a b c) : a < m → b < m → ∀ x, Ch N x c ↔ Ch N x a ∧ Ch N x b := by
  induction h with
  | e => exact fun _ _ x => ⟨fun h => ⟨h, h⟩, fun h => h.1⟩
  | l hba h ih =>
    intro ha hb x
    have h1 := hN _ (by omega) ha
    rw [ih (by omega) hb x]
    refine ⟨fun q => ⟨.u (by omega) q.1, q.2⟩, fun q => ⟨?_, q.2⟩⟩
    rcases q.1.inv with rfl | z
    · have := q.2.le hN hb; omega
    · exact z.2
  | r hab h ih =>
    intro ha hb x
    have h1 := hN _ (by omega) hb
    rw [ih ha (by omega) x]
    refine ⟨fun q => ⟨q.1, .u (by omega) q.2⟩, fun q => ⟨q.1, ?_⟩⟩
    rcases q.2.inv with rfl | z
    · have := q.1.le hN ha; omega
    · exact z.2
/-- what lies on all ways to a block lies so to its nearest one -/
def Bet (m : Nat) (E : Nat → List Nat) (N : Nat → Nat) : Prop := ∀ b x, 0 < b → b < m → ¬ Rc E x b → x ≠ b → ¬ Rc E x (N b)
theorem Lca.dom (hN : Dn m N) (hl : Led m E) (hB : Bet m E N) {a b c : Nat} (h : Lca N a b c) : a < m → b < m → ¬ Rc E x a → ¬ Rc E x b → ¬ Rc E x c := by
  induction h with
  | e => exact fun _ _ h _ => h
  | l hba h ih =>
    intro ha hb h1 h2
    have h3 := hN _ (by omega) ha
    have h4 := dom_le hl hb h2
    exact ih (by omega) hb (hB _ _ (by omega) ha h1 (by omega)) h2
  | r hab h ih =>
    intro ha hb h1 h2
    have h3 := hN _ (by omega) hb
    have h4 := dom_le hl ha h1
    exact ih ha (by omega) h1 (hB _ _ (by omega) hb h2 (by omega))
theorem Lca.lt (hN : Dn m N) {a b c : Nat} (h : Lca N a b c) (ha : a < m) (hb : b < m) : c ≤ a := ((h.ch hN ha hb c).mp .r).1.le hN ha
inductive LcaL (N : Nat → Nat) : Nat → List Nat → Nat → Prop
  | n {c : Nat} : LcaL N c [] c
  | c {a b d e : Nat} {bs : List Nat} : Lca N a b d → LcaL N d bs e → LcaL N a (b :: bs) e
theorem LcaL.ch (hN : Dn m N) {a e : Nat} {bs : List Nat} (h : LcaL N a bs e) : a < m → (∀ b ∈ bs, b < m) → ∀ x, Ch N x e → ∀ b ∈ a :: bs, Ch N x b := by
  induction h with
  | n => exact fun _ _ x h b hb => by rw [List.mem_singleton.mp hb]; exact h
  | c h1 h2 ih =>
    intro ha hbs x hx b hb
    rename_i a b0 d e bs
    have hb0 := hbs b0 List.mem_cons_self
    have hd := h1.lt hN ha hb0
    have h4 := ih (by omega) (fun y hy => hbs y (List.mem_cons_of_mem _ hy)) x hx
    have h5 := (h1.ch hN ha hb0 x).mp (h4 d List.mem_cons_self)
    rcases List.mem_cons.mp hb with rfl | hb
    · exact h5.1
    · rcases List.mem_cons.mp hb with rfl | hb
      · exact h5.2
      · exact h4 b (List.mem_cons_of_mem _ hb)
theorem LcaL.dom (hN : Dn m N) (hl : Led m E) (hB : Bet m E N) {a e : Nat} {bs : List Nat} (h : LcaL N a bs e) : a < m → (∀ b ∈ bs, b < m) → (∀ b ∈ a :: bs, ¬ Rc E x b) → ¬ Rc E x e := by
  induction h with
  | n => exact fun _ _ h => h _ List.mem_cons_self
  | c h1 h2 ih =>
    intro ha hbs h
    rename_i a b0 d e bs
    have hb0 := hbs b0 List.mem_cons_self
    have hd := h1.lt hN ha hb0
    refine ih (by omega) (fun y hy => hbs y (List.mem_cons_of_mem _ hy)) fun b hb => ?_
    rcases List.mem_cons.mp hb with rfl | hb
    · exact h1.dom hN hl hB ha hb0 (h _ List.mem_cons_self) (h _ (List.mem_cons_of_mem _ List.mem_cons_self))
    · exact h b (List.mem_cons_of_mem _ (List.mem_cons_of_mem _ hb))
/-- the nearest common one of a list that isn't empty -/
def LcaB (N : Nat → Nat) (ld : List Nat) (e : Nat) : Prop := ∃ a bs, ld = a :: bs ∧ LcaL N a bs e
theorem LcaB.ch (hN : Dn m N) {ld : List Nat} {e : Nat} (h : LcaB N ld e) (hl : ∀ b ∈ ld, b < m) {x : Nat} (hx : Ch N x e) : ∀ b ∈ ld, Ch N x b := by
  obtain ⟨a, bs, rfl, h⟩ := h
  exact h.ch hN (hl a List.mem_cons_self) (fun b hb => hl b (List.mem_cons_of_mem _ hb)) x hx
theorem LcaB.dom (hN : Dn m N) (hl : Led m E) (hB : Bet m E N) {ld : List Nat} {e : Nat} (h : LcaB N ld e) (hm : ∀ b ∈ ld, b < m) (hd : ∀ b ∈ ld, ¬ Rc E x b) : ¬ Rc E x e := by
  obtain ⟨a, bs, rfl, h⟩ := h
  exact h.dom hN hl hB (hm a List.mem_cons_self) (fun b hb => hm b (List.mem_cons_of_mem _ hb)) hd
theorem LcaB.le (hN : Dn m N) {ld : List Nat} {e b : Nat} (h : LcaB N ld e) (hl : ∀ b ∈ ld, b < m) (hb : b ∈ ld) : e ≤ b := (h.ch hN hl .r b hb).le hN (hl b hb)
/-- nearest ones are on all ways of so many steps -/
def Kd (m : Nat) (E : Nat → List Nat) (N : Nat → Nat) (n : Nat) : Prop := ∀ b, 0 < b → b < m → ¬ Rn E (N b) n b
theorem Ch.kd (hN : Dn m N) (hK : Kd m E N n) {a : Nat} (h : Ch N x a) : a < m → ¬ Rn E x n a := by
  induction h with
  | r => exact fun _ h => h.rc.ne rfl
  | u h0 h ih =>
    intro ha hr
    have h1 := hN _ h0 ha
    rcases hr.split (N _) with q | q
    · exact hK _ h0 ha q
    · exact ih (by omega) q
/-- the leads of a block -/
def IsLd (m : Nat) (E : Nat → List Nat) (b : Nat) (ld : List Nat) : Prop := ∀ a, a ∈ ld ↔ a < m ∧ b ∈ E a
theorem IsLd.lt {b : Nat} {ld : List Nat} (h : IsLd m E b ld) : ∀ a ∈ ld, a < m := fun a ha => ((h a).mp ha).1
theorem lead_dom {b : Nat} {ld : List Nat} (h : IsLd m E b ld) (hd : ¬ Rc E x b) (hx : x ≠ b) : ∀ a ∈ ld, ¬ Rc E x a := fun a ha z => hd (.s z ((h a).mp ha).2 (Ne.symm hx))
theorem step_bet (hN : Dn m N) (hl : Led m E) (hB : Bet m E N) {b e : Nat} {ld : List Nat} (hld : IsLd m E b ld) (h : LcaB N ld e) (hd : ¬ Rc E x b) (hx : x ≠ b) : ¬ Rc E x e :=
  h.dom hN hl hB hld.lt (lead_dom hld hd hx)
theorem step_lt (hN : Dn m N) (hl : Led m E) {b e : Nat} {ld : List Nat} (h0 : 0 < b) (hb : b < m) (hld : IsLd m E b ld) (h : LcaB N ld e) : e < b := by
  obtain ⟨j, hj, hbj⟩ := hl b h0 hb
  have := h.le hN hld.lt ((hld j).mpr ⟨by omega, hbj⟩)
  omega
theorem step_kd (hE : ∀ a, E a ≠ [] → a < m) (hN : Dn m N) (hK : Kd m E N n) {b e : Nat} {ld : List Nat} (h0 : 0 < b) (hld : IsLd m E b ld) (h : LcaB N ld e) : ¬ Rn E e (n + 1) b := by
  intro z
  cases z with
  | z _ => omega
  | s hr hb hx =>
    rename_i a
    have ha : a ∈ ld := (hld a).mpr ⟨hE a (fun q => by rw [q] at hb; cases hb), hb⟩
    exact (h.ch hN hld.lt .r a ha).kd hN hK (hld.lt a ha) hr
theorem ch_of_dom (hl : Led m E) (hN : Dn m N) (hB : Bet m E N) : ∀ b, b < m → ¬ Rc E x b → Ch N x b := by
  intro b
  induction b using Nat.strongRecOn with
  | ind b ih =>
    intro hb hd
    by_cases e : x = b
    · subst e; exact .r
    · have h0 : 0 < b := by
        have := dom_le hl hb hd
        omega
      have := hN b h0 hb
      exact .u h0 (ih _ this (by omega) (hB b x h0 hb hd e))
/-- by so many steps as there are blocks nothing changes any more -/
theorem step_end (hm : 0 < m) (hE : ∀ a, ∀ b ∈ E a, b < m) (hE2 : ∀ a, E a ≠ [] → a < m) (hl : Led m E) (hN : Dn m N) (hB : Bet m E N) (hK : Kd m E N m) {b e : Nat} {ld : List Nat} (h0 : 0 < b) (hb : b < m) (hld : IsLd m E b ld) (h : LcaB N ld e) : e = N b := by
  have h1 := hN b h0 hb
  have h2 := step_lt hN hl h0 hb hld h
  have hD : ∀ {x a : Nat}, Ch N x a → a < m → ¬ Rc E x a := fun hc ha z => hc.kd hN hK ha (z.rm hm hE)
  have h3 : ¬ Rc E (N b) b := hD (.u h0 .r) hb
  have h4 : ¬ Rc E (N b) e := step_bet hN hl hB hld h h3 (by omega)
  have h5 := dom_le hl (by omega) h4
  have h6 : ¬ Rc E e b := fun z => by
    cases z with
    | z _ => omega
    | s hr hb' hx =>
      rename_i a
      have ha : a ∈ ld := (hld a).mpr ⟨hE2 a (fun q => by rw [q] at hb'; cases hb'), hb'⟩
      exact hD (h.ch hN hld.lt .r a ha) (hld.lt a ha) hr
  rcases (ch_of_dom hl hN hB b hb h6).inv with q | q
  · omega
  · have := q.2.le hN (by omega)
    omega
/-- where nothing changes, chains are what lies on all ways -/
theorem ch_dom (hm : 0 < m) (hE : ∀ a, ∀ b ∈ E a, b < m) (hE2 : ∀ a, E a ≠ [] → a < m) (hE0 : ∀ a, 0 ∉ E a) (hl : Led m E) (hN : Dn m N) (hB : Bet m E N) (hF : ∀ b, 0 < b → b < m → ∃ ld, IsLd m E b ld ∧ LcaB N ld (N b)) {b : Nat} (hb : b < m) : Ch N x b ↔ ¬ Rc E x b := by
  refine ⟨fun hc hr => ?_, ch_of_dom hl hN hB b hb⟩
  revert hc
  induction hr with
  | z hx =>
    intro hc
    rcases hc.inv with q | q
    · exact hx q
    · exact Nat.lt_irrefl _ q.1
  | s hr hba hx ih =>
    intro hc
    rename_i a b
    have ha : a < m := hE2 a (fun q => by rw [q] at hba; cases hba)
    rcases hc.inv with q | q
    · exact hx q.symm
    · obtain ⟨ld, h1, h2⟩ := hF b q.1 (hE a b hba)
      exact ih ha (h2.ch hN h1.lt q.2 a ((h1 a).mpr ⟨ha, hba⟩))
theorem asc_eq : ∀ {l k : List Nat}, l.Pairwise (· < ·) → k.Pairwise (· < ·) → (∀ x, x ∈ l ↔ x ∈ k) → l = k
  | [], [], _, _, _ => rfl
  | [], b :: k, _, _, h => by have := (h b).mpr List.mem_cons_self; cases this
  | a :: l, [], _, _, h => by have := (h a).mp List.mem_cons_self; cases this
  | a :: l, b :: k, hl, hk, h => by
    have hl' := List.pairwise_cons.mp hl
    have hk' := List.pairwise_cons.mp hk
    have e : a = b := by
      rcases List.mem_cons.mp ((h a).mp List.mem_cons_self) with q | q
      · exact q
      · rcases List.mem_cons.mp ((h b).mpr List.mem_cons_self) with z | z
        · exact z.symm
        · have := hk'.1 a q; have := hl'.1 b z; omega
    subst e
    rw [asc_eq hl'.2 hk'.2 fun x => ⟨fun hx => ?_, fun hx => ?_⟩]
    · rcases List.mem_cons.mp ((h x).mp (List.mem_cons_of_mem _ hx)) with q | q
      · have := hl'.1 x hx; omega
      · exact q
    · rcases List.mem_cons.mp ((h x).mpr (List.mem_cons_of_mem _ hx)) with q | q
      · have := hk'.1 x hx; omega
      · exact q
end Gn
set_option Elab.async false
set_option linter.all false
set_option maxRecDepth 100000
set_option maxHeartbeats 4000000
namespace Gn
open PySem PySem.Spec PyProof.Rows L2
/-! ### the six shapes, and what is reached without one block -/
def NX : List (List (List Nat)) := [[[]], [[1, 2], [3], [3], []], [[1], [2, 3], [1], []], [[1, 2], [2], [1, 3], []], [[1], [2, 5], [3, 4], [4], [1], []], [[1], [2, 6], [3], [4, 5], [3], [1], []]]
def rst (nx : List (List Nat)) (w : Nat) (p : List Nat × List Nat) : List Nat × List Nat :=
  match p.2.getLast? with
  | none => p
  | some b => if b ≠ w ∧ b ∉ p.1 then (p.1 ++ [b], p.2.dropLast ++ nx.getD b []) else (p.1, p.2.dropLast)
def rit (nx : List (List Nat)) (w : Nat) : Nat → List Nat × List Nat
  | 0 => ([], [0])
  | n + 1 => rst nx w (rit nx w n)
def reachF (nx : List (List Nat)) (w : Nat) : List Nat := (rit nx w 20).1
theorem rit_end : ∀ nx ∈ NX, ∀ w, w < 7 → (rit nx w 20).2 = [] := by decide +kernel
theorem rit_bd : ∀ nx ∈ NX, ∀ w, w < 7 → ∀ i, i < 21 → (∀ y ∈ (rit nx w i).2, y < nx.length) ∧ (rit nx w i).2.length ≤ 20 ∧ (rit nx w i).1.length ≤ 20 := by decide +kernel
theorem nx_bd : ∀ nx ∈ NX, 1 ≤ nx.length ∧ nx.length ≤ 7 ∧ ∀ xs ∈ nx, xs.length ≤ 2 ∧ ∀ y ∈ xs, 1 ≤ y ∧ y < nx.length := by decide +kernel
theorem reach0 : ∀ nx ∈ NX, reachF nx 0 = [] := by decide +kernel
theorem rit_done {nx : List (List Nat)} {w i : Nat} (h : (rit nx w i).2 = []) : ∀ n, rit nx w (i + n) = rit nx w i
  | 0 => rfl
  | n + 1 => by
    show rst nx w (rit nx w (i + n)) = _
    rw [rit_done h n]
    unfold rst
    rw [h]
    rfl
theorem rit_reach {nx : List (List Nat)} {w i : Nat} (hi : i ≤ 20) (h : (rit nx w i).2 = []) : (rit nx w i).1 = reachF nx w := by
  have := rit_done h (20 - i)
  rw [show i + (20 - i) = 20 by omega] at this
  unfold reachF
  rw [this]
/-- the rows that stand at a block's end -/
def standL (nx : List (List Nat)) (blocks : List Nat) (rows : List Rw) (b : Nat) : List Nat :=
  ((List.range blocks.length).filter fun k => !decide (b ∈ reachF nx (blocks.getD k 0))).filter fun k => (rows.getD k (.take 0)).worthy
def leadsF (nx : List (List Nat)) (b : Nat) : List Nat := (List.range nx.length).filter fun l => decide (b ∈ nx.getD l [])
theorem stand_mem {nx : List (List Nat)} {blocks : List Nat} {rows : List Rw} {b k : Nat} : k ∈ standL nx blocks rows b ↔ k < blocks.length ∧ b ∉ reachF nx (blocks.getD k 0) ∧ (rows.getD k (.take 0)).worthy = true := by
  unfold standL
  rw [List.mem_filter, List.mem_filter, List.mem_range]
  simp only [Bool.not_eq_true', decide_eq_false_iff_not]
  exact ⟨fun ⟨⟨a, b⟩, c⟩ => ⟨a, b, c⟩, fun ⟨a, b, c⟩ => ⟨⟨a, b⟩, c⟩⟩
theorem stand_len {nx : List (List Nat)} {blocks : List Nat} {rows : List Rw} {b : Nat} : (standL nx blocks rows b).length ≤ blocks.length := by
  unfold standL
  refine Nat.le_trans (List.length_filter_le _ _) (Nat.le_trans (List.length_filter_le _ _) ?_)
  rw [List.length_range]
  exact Nat.le_refl _
/-- what a row names has P; its own numbers are within their bounds -/
def RwA (P : Nat → Prop) : Rw → Prop
  | .take i => i < 6
  | .num n => -10 ^ 12 ≤ n ∧ n ≤ 10 ^ 12
  | .bin _ x y => P x ∧ P y
  | .pick x ps => P x ∧ (∀ y ∈ ps, P y) ∧ ps ≠ [] ∧ ps.length ≤ 6
  | .meet ps => (∀ y ∈ ps, P y) ∧ ps ≠ [] ∧ ps.length ≤ 7
  | .tell x => P x
  | .look rs x => P x ∧ rs.Nodup ∧ (∀ y ∈ rs, y < 6) ∧ rs ≠ [] ∧ rs.length ≤ 4
  | .lay rs x y => P x ∧ P y ∧ rs.Nodup ∧ (∀ y ∈ rs, y < 6) ∧ rs ≠ [] ∧ rs.length ≤ 4
theorem RwA.mono {P Q : Nat → Prop} {r : Rw} (h : RwA P r) (e : ∀ y, P y → Q y) : RwA Q r := by
  cases r with
  | take i => exact h
  | num n => exact h
  | bin b x y => exact ⟨e _ h.1, e _ h.2⟩
  | pick x ps => exact ⟨e _ h.1, fun y hy => e _ (h.2.1 y hy), h.2.2⟩
  | meet ps => exact ⟨fun y hy => e _ (h.1 y hy), h.2⟩
  | tell x => exact e _ h
  | look rs x => exact ⟨e _ h.1, h.2⟩
  | lay rs x y => exact ⟨e _ h.1, e _ h.2.1, h.2.2⟩
/-! ### what stands -/
theorem reach_transB : (NX.all fun nx => (List.range 7).all fun u => (List.range 7).all fun v => (List.range 7).all fun b => (reachF nx u).contains v || (reachF nx v).contains b || !(reachF nx u).contains b) = true := by decide +kernel
theorem reach_trans {nx : List (List Nat)} (hx : nx ∈ NX) {u v b : Nat} (hu : u < 7) (hv : v < 7) (hb : b < 7) (h1 : v ∉ reachF nx u) (h2 : b ∉ reachF nx v) : b ∉ reachF nx u := fun z => by
  have k1 := List.all_eq_true.mp reach_transB nx hx
  have k2 := List.all_eq_true.mp k1 u (List.mem_range.mpr hu)
  have k3 := List.all_eq_true.mp k2 v (List.mem_range.mpr hv)
  have k4 := List.all_eq_true.mp k3 b (List.mem_range.mpr hb)
  have e1 : (reachF nx u).contains v = false := by simpa using h1
  have e2 : (reachF nx v).contains b = false := by simpa using h2
  have e3 : (reachF nx u).contains b = true := by simpa using z
  rw [e1, e2, e3] at k4
  cases k4
theorem getD_app {α : Type} {xs : List α} {y d : α} {k : Nat} (h : k < xs.length) : (xs ++ [y]).getD k d = xs.getD k d := by
  rw [List.getD_eq_getElem?_getD, List.getD_eq_getElem?_getD, List.getElem?_append_left h]
theorem stand_app {nx : List (List Nat)} {blocks : List Nat} {rows : List Rw} {b c k : Nat} {r : Rw} (hl : blocks.length = rows.length) (h : k ∈ standL nx blocks rows b) : k ∈ standL nx (blocks ++ [c]) (rows ++ [r]) b := by
  obtain ⟨h1, h2, h3⟩ := stand_mem.mp h
  refine stand_mem.mpr ⟨by rw [List.length_append]; omega, ?_, ?_⟩
  · rw [getD_app h1]; exact h2
  · rw [getD_app (by omega)]; exact h3
theorem stand_set {nx : List (List Nat)} {blocks : List Nat} {rows : List Rw} {b i : Nat} {ps qs : List Nat} (h : rows[i]? = some (.meet ps)) : standL nx blocks (rows.set i (.meet qs)) b = standL nx blocks rows b := by
  unfold standL
  refine List.filter_congr fun k _ => ?_
  by_cases e : k = i
  · subst e
    have hk := (List.getElem?_eq_some_iff.mp h).1
    rw [List.getD_eq_getElem?_getD, List.getD_eq_getElem?_getD, List.getElem?_set_self hk, h]
    rfl
  · rw [List.getD_eq_getElem?_getD, List.getD_eq_getElem?_getD, List.getElem?_set_ne (Ne.symm e)]
theorem stand_trans {nx : List (List Nat)} {blocks : List Nat} {rows : List Rw} {b x k : Nat} (hx : nx ∈ NX) (h7 : ∀ y ∈ blocks, y < 7) (hb : b < 7) (h1 : x ∈ standL nx blocks rows (blocks.getD k 0)) (h2 : k ∈ standL nx blocks rows b) : x ∈ standL nx blocks rows b := by
  obtain ⟨a1, a2, a3⟩ := stand_mem.mp h1
  obtain ⟨b1, b2, b3⟩ := stand_mem.mp h2
  have g : ∀ {j : Nat}, j < blocks.length → blocks.getD j 0 < 7 := fun {j} hj => h7 _ (List.mem_of_getElem? (gdl hj))
  exact stand_mem.mpr ⟨a1, reach_trans hx (g a1) (g b1) hb a2 b2, a3⟩
end Gn
set_option Elab.async false
set_option linter.all false
set_option maxRecDepth 100000
set_option maxHeartbeats 4000000
namespace Gn
open PySem PySem.Spec PyProof.Rows L2
/-! ### rows as data -/
def nd (n : Nat) : PyData := .int (n : Int)
def Rw.data : Rw → PyData
  | .take i => .tuple [.str "take", nd i]
  | .num n => .tuple [.str "num", .int n]
  | .bin b x y => .tuple [.str b.w, nd x, nd y]
  | .pick x ps => .tuple [.str "pick", nd x, .tuple (ps.map nd)]
  | .meet ps => .tuple [.str "meet", .tuple (ps.map nd)]
  | .tell x => .tuple [.str "tell", nd x]
  | .look rs x => .tuple [.str "look", .tuple (rs.map nd), nd x]
  | .lay rs x y => .tuple [.str "lay", .tuple (rs.map nd), nd x, nd y]
theorem dp_nats {K : PySem.W.Frag} {H : Hp} : ∀ ns : List Nat, DpAll K H (ns.map iv) (ns.map nd)
  | [] => .nil
  | n :: ns => .cons (.int _) (dp_nats ns)
theorem RowAt.dp {K : PySem.W.Frag} {H : Hp} {v : V} {r : Rw} (h : RowAt K H v r) : Dp K H v r.data := by
  obtain ⟨p, xs, rfl, h1, h2⟩ := h
  cases r with
  | take i => cases h2; exact .tup h1 (.cons (.str _) (.cons (.int _) .nil))
  | num n => cases h2; exact .tup h1 (.cons (.str _) (.cons (.int _) .nil))
  | bin b x y => cases h2; exact .tup h1 (.cons (.str _) (.cons (.int _) (.cons (.int _) .nil)))
  | pick x ps =>
    obtain ⟨q, rfl, h3⟩ := h2
    exact .tup h1 (.cons (.str _) (.cons (.int _) (.cons (.tup h3 (dp_nats ps)) .nil)))
  | meet ps =>
    obtain ⟨q, rfl, h3⟩ := h2
    exact .tup h1 (.cons (.str _) (.cons (.tup h3 (dp_nats ps)) .nil))
  | tell x => cases h2; exact .tup h1 (.cons (.str _) (.cons (.int _) .nil))
  | look rs x =>
    obtain ⟨q, rfl, h3⟩ := h2
    exact .tup h1 (.cons (.str _) (.cons (.tup h3 (dp_nats rs)) (.cons (.int _) .nil)))
  | lay rs x y =>
    obtain ⟨q, rfl, h3⟩ := h2
    exact .tup h1 (.cons (.str _) (.cons (.tup h3 (dp_nats rs)) (.cons (.int _) (.cons (.int _) .nil))))
theorem rows_dp {K : PySem.W.Frag} {H : Hp} : ∀ {vs : List V} {rs : List Rw}, Paired (RowAt K H) vs rs → DpAll K H vs (rs.map Rw.data)
  | _, _, .nil => .nil
  | _, _, .cons h t => .cons h.dp (rows_dp t)
theorem lay_nats : ∀ ns : List Nat, PyData.canLayAll0 (ns.map nd) = true
  | [] => by simp only [List.map_nil, PyData.canLayAll0]
  | n :: ns => by
    rw [List.map_cons]
    simp only [PyData.canLayAll0, nd, PyData.canLay0, lay_nats ns, Bool.and_self]
theorem lay_row (r : Rw) : r.data.canLay0 = true := by
  cases r with
  | bin b x y => cases b <;> (simp only [Rw.data, Bk.w, nd, PyData.canLay0, PyData.canLayAll0, Bool.and_true, Bool.true_and]; decide +kernel)
  | pick x ps => simp only [Rw.data, nd, PyData.canLay0, PyData.canLayAll0, lay_nats, Bool.and_true, Bool.true_and]; decide +kernel
  | meet ps => simp only [Rw.data, nd, PyData.canLay0, PyData.canLayAll0, lay_nats, Bool.and_true, Bool.true_and]; decide +kernel
  | look rs x => simp only [Rw.data, nd, PyData.canLay0, PyData.canLayAll0, lay_nats, Bool.and_true, Bool.true_and]; decide +kernel
  | lay rs x y => simp only [Rw.data, nd, PyData.canLay0, PyData.canLayAll0, lay_nats, Bool.and_true, Bool.true_and]; decide +kernel
  | _ => simp only [Rw.data, nd, PyData.canLay0, PyData.canLayAll0, Bool.and_true, Bool.true_and]; decide +kernel
theorem lay_rows : ∀ rs : List Rw, PyData.canLayAll0 (rs.map Rw.data) = true
  | [] => by simp only [List.map_nil, PyData.canLayAll0]
  | r :: rs => by
    rw [List.map_cons]
    simp only [PyData.canLayAll0, lay_row r, lay_rows rs, Bool.and_self]
theorem dep_nats : ∀ ns : List Nat, PyData.depthAll (ns.map nd) ≤ 1
  | [] => by simp [PyData.depthAll]
  | n :: ns => by
    have := dep_nats ns
    rw [List.map_cons]
    simp only [PyData.depthAll, nd, PyData.depth]
    omega
theorem dep_row (r : Rw) : r.data.depth ≤ 4 := by
  cases r with
  | pick x ps =>
    have := dep_nats ps
    simp only [Rw.data, nd, PyData.depth, PyData.depthAll] at *
    omega
  | meet ps =>
    have := dep_nats ps
    simp only [Rw.data, nd, PyData.depth, PyData.depthAll] at *
    omega
  | look rs x =>
    have := dep_nats rs
    simp only [Rw.data, nd, PyData.depth, PyData.depthAll] at *
    omega
  | lay rs x y =>
    have := dep_nats rs
    simp only [Rw.data, nd, PyData.depth, PyData.depthAll] at *
    omega
  | _ => simp [Rw.data, nd, PyData.depth, PyData.depthAll]
theorem dep_rows : ∀ rs : List Rw, PyData.depthAll (rs.map Rw.data) ≤ 4
  | [] => by simp [PyData.depthAll]
  | r :: rs => by
    have := dep_rows rs
    have := dep_row r
    rw [List.map_cons]
    simp only [PyData.depthAll]
    omega
theorem sh_rows (rs : List Rw) : SeqAt.shaped (.list (rs.map Rw.data)) = true := by
  unfold SeqAt.shaped
  have h1 : (PyData.list (rs.map Rw.data)).canLay0 = true := by simp only [PyData.canLay0, lay_rows rs]
  have h2 : (PyData.list (rs.map Rw.data)).depth ≤ 64 := by
    have := dep_rows rs
    simp only [PyData.depth]
    omega
  rw [h1, decide_eq_true h2]
  rfl
theorem sh_nil : SeqAt.shaped (.list []) = true := sh_rows []
theorem sh_nats (ns : List Nat) : SeqAt.shaped (.list (ns.map nd)) = true := by
  unfold SeqAt.shaped
  have h1 : (PyData.list (ns.map nd)).canLay0 = true := by simp only [PyData.canLay0, lay_nats ns]
  have h2 : (PyData.list (ns.map nd)).depth ≤ 64 := by
    have := dep_nats ns
    simp only [PyData.depth]
    omega
  rw [h1, decide_eq_true h2]
  rfl
theorem eqv_nil {ds : List PyData} : PyData.eqv (.list ds) (.list []) = ds.isEmpty := by
  cases ds with
  | nil => simp only [PyData.eqv, PyData.eqvAll, List.isEmpty_nil]
  | cons d ds => simp only [PyData.eqv, PyData.eqvAll, List.isEmpty_cons]
end Gn
set_option Elab.async false
set_option linter.all false
set_option maxRecDepth 100000
set_option maxHeartbeats 4000000
namespace Gn
open PySem PySem.Spec PyProof.Rows L2
theorem shp_nats (ns : List Nat) : SeqAt.shaped (.list (ns.map nd)) = true := by
  have hd : PyData.depthAll (ns.map nd) ≤ 1 := by
    induction ns with
    | nil => simp [PyData.depthAll]
    | cons a ns ih =>
      rw [List.map_cons]
      simp only [PyData.depthAll, nd, PyData.depth] at *
      omega
  unfold SeqAt.shaped
  have h1 : PyData.canLay0 (.list (ns.map nd)) = true := by simp only [PyData.canLay0, lay_nats]
  have h2 : (PyData.list (ns.map nd)).depth ≤ 64 := by simp only [PyData.depth]; omega
  rw [h1, decide_eq_true h2]
  rfl
theorem neq_nil (ns : List Nat) : (!PyData.eqv (.list (ns.map nd)) (.list [])) = !ns.isEmpty := by
  cases ns with
  | nil => decide +kernel
  | cons a ns => rfl
/-! ### lists of lists of numbers, tracked -/
def NR (H : Hp) (p : Addr) (xss : List (List Nat)) : Prop := ∃ ps : List Addr, H p = some (.lst (ps.map V.ref)) ∧ Paired (fun q xs => H q = some (.lst (xs.map iv))) ps xss
theorem NR.same {H H' : Hp} {p : Addr} {xss : List (List Nat)} (h : NR H p xss) (e : Same H H') : NR H' p xss := by
  obtain ⟨ps, h1, h2⟩ := h
  exact ⟨ps, e _ _ h1, pd_mono h2 fun a b q => e _ _ q⟩
theorem NR.at {H : Hp} {p : Addr} {xss : List (List Nat)} (h : NR H p xss) {j : Nat} {xs : List Nat} (e : xss[j]? = some xs) :
    ∃ (ps : List Addr) (q : Addr), H p = some (.lst (ps.map V.ref)) ∧ ps.length = xss.length ∧ atI (ps.map V.ref) (j : Int) = some (.ref q) ∧ H q = some (.lst (xs.map iv)) := by
  obtain ⟨ps, h1, h2⟩ := h
  obtain ⟨q, h3, h4⟩ := pd_at h2 e
  exact ⟨_, q, h1, pd_len h2, atI_nat (by rw [List.getElem?_map, h3]; rfl), h4⟩
/-! ### reached -/
def kvOf (f : List Nat) : List (Key × V) := f.map fun b : Nat => (.inl (b : Int), .bl true)
theorem valV_kv (f : List Nat) (b : Nat) : (valV (kvOf f) (Sum.inl (b : Int))).isSome = decide (b ∈ f) := by
  induction f with
  | nil => rfl
  | cons a f ih =>
    have e : kvOf (a :: f) = (Sum.inl (a : Int), .bl true) :: kvOf f := rfl
    rw [e]
    by_cases h : a = b
    · subst h
      rw [valV_pos rfl]
      simp
    · rw [valV_neg (by intro z; have := Sum.inl.inj z; omega), ih]
      simp [List.mem_cons, Ne.symm h]
theorem put_kv {f : List Nat} {b : Nat} (h : b ∉ f) : putK (kvOf f) (Sum.inl (b : Int)) (.bl true) = kvOf (f ++ [b]) := by
  unfold putK
  have : (kvOf f).any (fun kv => decide (kv.1 = Sum.inl (b : Int))) = false := by
    rw [List.any_eq_false]
    intro x hx
    obtain ⟨y, hy, rfl⟩ := List.mem_map.mp hx
    simp only [decide_eq_true_eq]
    intro z
    have := Sum.inl.inj z
    exact h (by have e : y = b := by omega
                rw [← e]; exact hy)
  rw [this, if_neg (by simp)]
  unfold kvOf
  rw [List.map_append]
  rfl
def spReached (K : PySem.W.Frag) : Sp := fun vs H Q _ => ∃ (na : Addr) (nx : List (List Nat)) (w : Nat), vs = [.ref na, iv w] ∧ NR H na nx ∧ nx ∈ NX ∧ w < 7 ∧
  ∀ (D : Addr) (H' : Hp), H D = none → Same H H' → H' D = some (.dK (kvOf (reachF nx w))) → Q (.ref D) H'
abbrev nReached : List Str := ["_law_nexts_here", "_law_without", "_law_found", "_law_waiting", "_law_block"]
theorem scReached : FnScope nReached ["_law_nexts_here", "_law_without"] (defScope sReached) := ⟨rfl, rfl, rfl, by decide +kernel, rfl, by decide +kernel, by decide +kernel⟩
section
variable {P : Program} {w : World} {K : PySem.W.Frag} {mg : Str → Option Value} {base : Heap}
theorem ok_reached {f : Addr} {fd : FuncData} {k : Nat} (D : Df K mg "_law_reached" sReached ["_law_nexts_here", "_law_without"] f fd) : FnOk P w K mg base CX0 (k + 1) f fd ["_law_nexts_here", "_law_without"] (spReached K) := by
  refine D.F.ok scReached (fun vs H Q E h => ?_) (fun cdv A outer s H vs Q E hr h => ?_)
  · obtain ⟨na, nx, w, rfl, _⟩ := h
    rfl
  · obtain ⟨na, nx, wo, rfl, hN, hx, hw, q⟩ := h
    have hu := hu_of hr
    refine ⟨_, pss_cons (ps_par (i := 2) (j := 3) (by rfl) scReached.nd rfl rfl (by decide) rfl rfl (pa_cons pe_dnewK (pa_cons (pe_lst (pa_cons pe_int pa_nil)) pa_nil)) (by rfl))
      (pss_cons (ps_while PassesOwn.never (pt_cmpR (op_neD hr.units) (pv 3) (pe_lst pa_nil) (nomark _))
        (pss_cons (ps_set (i := 4) scReached.nd rfl (.inl rfl) (pe_bm0 PySem.F.plainAttrs_list PySem.F.slot_list_pop PySem.F.type_list_pop mt_pop (pv 3)))
        (pss_one (ps_if (pw_and (pt_cmpR op_ne (pv 4) (pv 1) (nomark _)) (pw_and1 (pt_cmp (pc_dnotin hu (pv 4) (pv 2)) rfl))).pt
          (pss_cons (ps_dput hu (pv 2) (pv 4) pe_bl (by rfl))
          (pss_one (ps_expr (pe_bm PySem.F.plainAttrs_list PySem.F.slot_list_extend PySem.F.type_list_extend mt_extend (pv 3) (pa_cons (pe_ix ix_list (pv 0) (pv 4) (fun _ _ => rfl)) pa_nil))))) pss_nil))))
      (pss_one (ps_ret (pv 2)))), ?_⟩
    intro Da nD
    refine ⟨szl (show 1 ≤ 1000000 by decide), fun W nW => ⟨_, _, rfl, ?_⟩⟩
    have nDW : Da ≠ W := ne_of_none upd_same nW
    have s0 : Same H (upd (upd H Da (.dK [])) W (.lst [.int 0])) := (new_same nD).trans (new_same nW)
    have hW0 : H W = none := (new_same nD).free nW
    have eD0 : upd (upd H Da (.dK [])) W (.lst [.int 0]) Da = some (.dK (kvOf (rit nx wo 0).1)) := by rw [upd_ne nDW]; exact upd_same
    have eW0 : upd (upd H Da (.dK [])) W (.lst [.int 0]) W = some (.lst ((rit nx wo 0).2.map iv)) := upd_same
    generalize upd (upd H Da (.dK [])) W (.lst [.int 0]) = H0 at s0 eD0 eW0
    refine ⟨fun m σ H1 => ∃ (i : Nat) (y4 : Option V), m = 20 - i ∧ i ≤ 20 ∧ σ = [some (.ref na), some (iv wo), some (.ref Da), some (.ref W), y4] ∧ Same H H1 ∧ H1 Da = some (.dK (kvOf (rit nx wo i).1)) ∧ H1 W = some (.lst ((rit nx wo i).2.map iv)), ⟨_, 0, _, rfl, by omega, rfl, s0, eD0, eW0⟩, ?_⟩
    rintro m σ H1 ⟨i, y4, rfl, hi, rfl, s1, eD, eW⟩
    obtain ⟨hb1, hb2, hb3⟩ := rit_bd nx hx wo hw i (by omega)
    refine ⟨.ref W, rfl, Nat.zero_le _, fun l nl => ?_⟩
    have sl := new_same (o := .lst []) nl
    have el : upd H1 l (.lst []) l = some (.lst []) := upd_same
    have s2 := s1.trans sl
    have eD2 := sl _ _ eD
    have eW2 := sl _ _ eW
    generalize upd H1 l (.lst []) = H2 at sl el s2 eD2 eW2
    refine ⟨_, .list [], .lst (sqL eW2) (dp_nats _), .lst (sqL el) .nil, shp_nats _, by decide +kernel, _, rfl, ?_⟩
    show if (!PyData.eqv (.list ((rit nx wo i).2.map nd)) (.list [])) = true then _ else _
    rw [neq_nil]
    refine ite2 (fun e => ?_) (fun e => ?_)
    · have hne : (rit nx wo i).2 ≠ [] := fun z => by rw [z] at e; cases e
      have hi20 : i < 20 := Nat.lt_of_le_of_ne hi fun z => hne (by rw [z]; exact rit_end nx hx wo hw)
      have hlast : (rit nx wo i).2.getLast? = some ((rit nx wo i).2.getLast hne) := List.getLast?_eq_some_getLast hne
      have hstep : rit nx wo (i + 1) = rst nx wo (rit nx wo i) := rfl
      unfold rst at hstep
      rw [hlast] at hstep
      have hlt := hb1 _ (List.getLast_mem hne)
      have hat : (rit nx wo i).2[(rit nx wo i).2.length - 1]? = some ((rit nx wo i).2.getLast hne) := by rw [← List.getLast?_eq_getElem?]; exact hlast
      generalize (rit nx wo i).2.getLast hne = b at hstep hlt hat hlast
      generalize rit nx wo i = p at *
      dsimp only at hstep
      refine ⟨fun σ' H' => ∃ y4 : Option V, σ' = [some (.ref na), some (iv wo), some (.ref Da), some (.ref W), y4] ∧ Same H H' ∧ H' Da = some (.dK (kvOf (rit nx wo (i + 1)).1)) ∧ H' W = some (.lst ((rit nx wo (i + 1)).2.map iv)), fun σ' H' ⟨y, a1, a2, a3, a4⟩ => ⟨20 - (i + 1), by omega, i + 1, y, rfl, by omega, a1, a2, a3, a4⟩, ?_⟩
      refine ⟨.ref W, rfl, .inl ⟨rfl, _, sqL eW2⟩, W, _, iv b, rfl, rfl, eW2, by rw [List.length_map, List.getElem?_map, hat]; rfl, ?_⟩
      have s3 := Same.upd (o := .lst (p.2.map iv).dropLast) s2 hW0
      have eD3 : upd H2 W (.lst (p.2.map iv).dropLast) Da = some (.dK (kvOf p.1)) := by rw [upd_ne nDW]; exact eD2
      have eW3 : upd H2 W (.lst (p.2.map iv).dropLast) W = some (.lst (p.2.dropLast.map iv)) := by rw [upd_same, List.map_dropLast]
      generalize upd H2 W (.lst (p.2.map iv).dropLast) = H3 at s3 eD3 eW3
      refine ⟨iv b, rfl, iv wo, rfl, rfl, _, rfl, ?_⟩
      refine ite2 (fun e1 => ?_) (fun e1 => ?_)
      · have hbw : b ≠ wo := fun z => by
          rw [z] at e1
          simp at e1
        refine ⟨iv b, rfl, .ref Da, rfl, Da, _, rfl, DGet.k eD3 (k := Sum.inl (b : Int)), _, rfl, ?_⟩
        rw [valV_kv]
        refine ite2 (fun e2 => ?_) (fun e2 => ?_)
        · have hnf : b ∉ p.1 := by simpa using e2
          rw [if_pos ⟨hbw, hnf⟩] at hstep
          refine ⟨.ref Da, rfl, iv b, rfl, Da, _, rfl, DPut.k (k := Sum.inl (b : Int)) eD3 (by unfold kvOf; rw [List.length_map]; exact szt (by omega)), ?_⟩
          rw [put_kv hnf]
          have s4 := Same.upd (o := .dK (kvOf (p.1 ++ [b]))) s3 nD
          have eD4 : upd H3 Da (.dK (kvOf (p.1 ++ [b]))) Da = some (.dK (kvOf (p.1 ++ [b]))) := upd_same
          have eW4 : upd H3 Da (.dK (kvOf (p.1 ++ [b]))) W = some (.lst (p.2.dropLast.map iv)) := by rw [upd_ne nDW.symm]; exact eW3
          generalize upd H3 Da (.dK (kvOf (p.1 ++ [b]))) = H4 at s4 eD4 eW4
          obtain ⟨ps, qa, n1, n2, n3, n4⟩ := hN.at (gdl (d := []) hlt)
          have hxl := (nx_bd nx hx).2.2 _ (List.mem_of_getElem? (gdl (d := []) hlt))
          refine ⟨.ref W, rfl, .inl ⟨rfl, _, sqL eW4⟩, .ref na, rfl, iv b, rfl, na, _, _, .ref qa, rfl, rfl, sqL (s4 _ _ n1), n3, W, qa, _, _, rfl, rfl, eW4, s4 _ _ n4, ?_, ?_⟩
          · rw [List.length_map, List.length_map, List.length_dropLast]
            exact szl (by omega)
          · refine ⟨_, rfl, Same.upd s4 hW0, ?_, ?_⟩
            · rw [upd_ne nDW, hstep]; exact eD4
            · rw [upd_same, hstep, ← List.map_append]
        · have hf : b ∈ p.1 := by simpa using e2
          rw [if_neg (fun z => z.2 hf)] at hstep
          exact ⟨_, rfl, s3, by rw [hstep]; exact eD3, by rw [hstep]; exact eW3⟩
      · have hbw : b = wo := by
          have e1 : ¬ (!decide (iv b = iv wo)) = true := e1
          simp only [Bool.not_eq_true', decide_eq_false_iff_not, Classical.not_not] at e1
          have := V.int.inj e1
          omega
        rw [if_neg (fun z => z.1 hbw)] at hstep
        exact ⟨_, rfl, s3, by rw [hstep]; exact eD3, by rw [hstep]; exact eW3⟩
    · have hemp : (rit nx wo i).2 = [] := by
        cases z : (rit nx wo i).2 with
        | nil => rfl
        | cons x xs => rw [z] at e; exact absurd rfl e
      rw [rit_reach hi hemp] at eD2
      exact ⟨.ref Da, rfl, q Da H2 nD s2 eD2⟩
end
end Gn
set_option Elab.async false
set_option linter.all false
set_option maxRecDepth 100000
set_option maxHeartbeats 4000000
namespace Gn
open PySem PySem.Spec PyProof.Rows L2
theorem worthy_in2 (r : Rw) : (!inV (.str r.w) [.str "lay", .str "tell"]) = r.worthy := by
  cases r with
  | bin b x y => cases b <;> rfl
  | _ => (first | rfl | decide)
def spStanding (K : PySem.W.Frag) : Sp := fun vs H Q _ => ∃ (na ba ra : Addr) (nx : List (List Nat)) (blocks : List Nat) (us : List V) (rows : List Rw) (b : Nat), vs = [.ref na, .ref ba, .ref ra, iv b] ∧ NR H na nx ∧ nx ∈ NX ∧ H ba = some (.lst (blocks.map iv)) ∧ H ra = some (.lst us) ∧ Paired (RowAt K H) us rows ∧ blocks.length = rows.length ∧ (∀ y ∈ blocks, y < 7) ∧ rows.length ≤ 1000 ∧
  ∀ (p : Addr) (H' : Hp), H p = none → Same H H' → H' p = some (.lst ((standL nx blocks rows b).map iv)) → Q (.ref p) H'
abbrev nStanding : List Str := ["_law_nexts_here", "_law_blocks", "_law_rows", "_law_block", "_law_some", "_law_k", "_law_own"]
theorem scStanding : FnScope nStanding ["_law_nexts_here", "_law_blocks", "_law_rows", "_law_block"] (defScope sStanding) := ⟨rfl, rfl, rfl, by decide +kernel, rfl, by decide +kernel, by decide +kernel⟩
section
variable {P : Program} {w : World} {K : PySem.W.Frag} {mg : Str → Option Value} {base : Heap}
theorem ok_standing {f fR : Addr} {fd fdR : FuncData} {k : Nat} (D : Df K mg "_law_standing" sStanding ["_law_nexts_here", "_law_blocks", "_law_rows", "_law_block"] f fd) (B : Bi mg) (DR : Df K mg "_law_reached" sReached ["_law_nexts_here", "_law_without"] fR fdR) (GR : FnOk P w K mg base CX0 k fR fdR ["_law_nexts_here", "_law_without"] (spReached K)) : FnOk P w K mg base CX0 (k + 1) f fd ["_law_nexts_here", "_law_blocks", "_law_rows", "_law_block"] (spStanding K) := by
  refine D.F.ok scStanding (fun vs H Q E h => ?_) (fun cdv A outer s H vs Q E hr h => ?_)
  · obtain ⟨na, ba, ra, nx, blocks, us, rows, b, rfl, _⟩ := h
    rfl
  · obtain ⟨na, ba, ra, nx, blocks, us, rows, b, rfl, hN, hx, hB, hR, hP, hl, hb7, hrl, q⟩ := h
    have hu := hu_of hr
    refine ⟨_, pss_cons (ps_setLc (i := 4) (own := [("_law_k", 5), ("_law_own", 6)]) (g := gTup K 2 (gCons (gName 5) (gCons (gName 6) gNil))) (tt := tTest (tDNotIn (tVar 3) (tCall (spReached K) [] E0 (tCons (tVar 0) (tCons (tVar 6) tNil))))) (te := tVar 5) (by rfl) scStanding.nd rfl rfl (sw_true rfl rfl rfl (by decide +kernel)) (pi_enum (by rfl) B.enumerate (pa_cons (pv 1) pa_nil))
        (blkOk_by (own := [("_law_k", 5), ("_law_own", 6)]) (N := nStanding) (sc := defScope sStanding) (by decide +kernel)) (fun _ _ _ _ _ => pg_tup rfl (pgs_cons (pg_name (i := 5) scStanding.nd rfl (.inl rfl)) (pgs_cons (pg_name (i := 6) scStanding.nd rfl (.inl rfl)) pgs_nil)))
        (fun _ _ _ _ _ => pts_one (pt_cmp (pc_dnotin hu (pv 3) (pe_call GR hr (by rfl) DR.g DR.F.kp DR.b .nil pass0 (pa_cons (pv 0) (pa_cons (pv 6) pa_nil)))) rfl)) (fun _ _ _ _ _ => pv 5))
      (pss_one (ps_ret (pe_lc (own := [("_law_k", 5)]) (g := gName 5) (tt := tNotIn K (tIxT K (tIxL K (tVar 2) (tVar 5)) (tC (.int 0))) (tTup (tCons (tC (.str "lay")) (tCons (tC (.str "tell")) tNil)))) (te := tVar 5) rfl scStanding.nd (pi_list (pv 4))
        (blkOk_by (own := [("_law_k", 5)]) (N := nStanding) (sc := defScope sStanding) (by decide +kernel)) (fun _ _ _ _ _ => pg_name (i := 5) scStanding.nd rfl (.inl rfl))
        (fun _ _ _ _ _ => pts_one (pt_cmpR op_notIn_seq (pe_ix ix_tup (pe_ix ix_list (pv 2) (pv 5) (fun _ _ => rfl)) pe_int (fun _ _ => rfl)) (pe_tup (pa_cons pe_str (pa_cons pe_str pa_nil))) rfl)) (fun _ _ _ _ _ => pv 5)))), ?_⟩
    have hbl : (blocks.map iv).length = blocks.length := List.length_map _
    refine ⟨.ref ba, rfl, ba, _, rfl, sqL hB, fun L nL => ?_⟩
    refine it_core (walk_enum (K := K) (a := ba) (xs := blocks.map iv)) (fun i H1 => Same H H1 ∧ H1 L = some (.lst (((List.range i).filter fun k => !decide (b ∈ reachF nx (blocks.getD k 0))).map iv))) ⟨new_same nL, upd_same⟩ (fun i H1 _ hP => sqL (hP.1 _ _ hB)) (fun i x H1 H2 hi hP hY => ?_) (fun H1 hP => ?_)
    · obtain ⟨s1, eL⟩ := hP
      obtain ⟨T, x1, x2, rfl, nT, rfl, e1, e2⟩ := hY
      cases e1
      have hib : i < blocks.length := by rw [hbl] at hi; exact hi
      have e2 : (blocks.map iv)[i]? = some x2 := e2
      rw [List.getElem?_map, gdl (d := 0) hib] at e2
      cases e2
      have h7 : blocks.getD i 0 < 7 := hb7 _ (List.mem_of_getElem? (gdl (d := 0) hib))
      have sT := new_same (o := .tup [.int (i : Nat), iv (blocks.getD i 0)]) nT
      have s2 := s1.trans sT
      have eL2 := sT _ _ eL
      refine ⟨T, _, rfl, sqT upd_same, rfl, _, _, rfl, _, _, rfl, rfl, rfl, ?_⟩
      generalize upd H1 T (.tup [.int (i : Nat), iv (blocks.getD i 0)]) = H3 at s2 eL2
      refine ⟨iv b, rfl, .ref na, rfl, iv (blocks.getD i 0), rfl, na, nx, blocks.getD i 0, rfl, hN.same s2, hx, h7, fun Da H4 nD s4 eD => ⟨Da, _, rfl, DGet.k eD (k := Sum.inl (b : Int)), _, rfl, ?_⟩⟩
      rw [valV_kv]
      have s5 := s2.trans s4
      have eL4 := s4 _ _ eL2
      have hfl : ((List.range i).filter fun k => !decide (b ∈ reachF nx (blocks.getD k 0))).length ≤ i := Nat.le_trans (List.length_filter_le _ _) (by rw [List.length_range]; exact Nat.le_refl _)
      refine ite2 (fun e => ?_) (fun e => ?_)
      · refine ⟨_, rfl, _, eL4, by rw [List.length_map]; exact szt (by omega), fun a o z => ?_, ?_⟩
        · rw [upd_ne (ne_of_none z nL)]
          exact s5 _ _ z
        · rw [upd_same, filt_succ, if_pos e, List.map_append]
          rfl
      · exact ⟨s5, by rw [filt_succ, if_neg e, List.append_nil]; exact eL4⟩
    · obtain ⟨s1, eL⟩ := hP
      rw [hbl] at eL
      have hfl : ((List.range blocks.length).filter fun k => !decide (b ∈ reachF nx (blocks.getD k 0))).length ≤ blocks.length := Nat.le_trans (List.length_filter_le _ _) (by rw [List.length_range]; exact Nat.le_refl _)
      have hms : ∀ y ∈ (List.range blocks.length).filter (fun k => !decide (b ∈ reachF nx (blocks.getD k 0))), y < rows.length := fun y hy => by
        have := List.mem_range.mp (List.mem_filter.mp hy).1
        omega
      have hst : standL nx blocks rows b = ((List.range blocks.length).filter fun k => !decide (b ∈ reachF nx (blocks.getD k 0))).filter fun k => (rows.getD k (.take 0)).worthy := rfl
      generalize (List.range blocks.length).filter (fun k => !decide (b ∈ reachF nx (blocks.getD k 0))) = ss at eL hfl hms hst
      refine ⟨.ref L, rfl, L, rfl, ⟨_, sqL eL⟩, fun M nM => ?_⟩
      refine lc_list (K := K) (a := L) (xs := ss.map iv) (fun i H2 => Same H H2 ∧ H2 L = some (.lst (ss.map iv)) ∧ H2 M = some (.lst (((ss.take i).filter fun k => (rows.getD k (.take 0)).worthy).map iv))) ⟨s1.trans (new_same nM), new_same nM _ _ eL, upd_same⟩ (fun i H2 _ hP => sqL hP.2.1) (fun i x H2 hx' hP => ?_) (fun H2 hP => ?_)
      · obtain ⟨s2, eL2, eM⟩ := hP
        rw [List.getElem?_map] at hx'
        obtain ⟨y, hy, rfl⟩ := Option.map_eq_some_iff.mp hx'
        have hil := (List.getElem?_eq_some_iff.mp hy).1
        have hyr := hms y (List.mem_of_getElem? hy)
        obtain ⟨u, hu1, z, zs, rfl, hz, _⟩ := pd_at hP (gdl (d := Rw.take 0) hyr)
        refine ⟨rfl, .ref ra, rfl, iv y, rfl, ra, us, _, .ref z, rfl, rfl, sqL (s2 _ _ hR), atI_nat hu1, z, _, _, _, rfl, rfl, Same.tup s2 hz, atI_nat (j := 0) rfl, szl (show 2 ≤ 1000000 by decide), fun T nT => ?_⟩
        have sT := new_same (o := .tup [.str "lay", .str "tell"]) nT
        have s3 := s2.trans sT
        have eL3 := sT _ _ eL2
        have eM3 := sT _ _ eM
        have eT : upd H2 T (.tup [.str "lay", .str "tell"]) T = some (.tup [.str "lay", .str "tell"]) := upd_same
        generalize upd H2 T (.tup [.str "lay", .str "tell"]) = H3 at sT s3 eL3 eM3 eT
        refine ⟨T, _, rfl, .inr (sqT eT), rfl, rfl, _, rfl, ?_⟩
        have hML : M ≠ L := (ne_of_none eL nM).symm
        have hn1 : H M = none := s1.free nM
        have htk : (ss.take (i + 1)).filter (fun k => (rows.getD k (.take 0)).worthy) = (ss.take i).filter (fun k => (rows.getD k (.take 0)).worthy) ++ (if (rows.getD y (.take 0)).worthy = true then [y] else []) := by
          rw [List.take_add_one, hy, List.filter_append]
          show _ ++ [y].filter _ = _
          rw [filt_one]
        show if (!inV (.str (rows.getD y (.take 0)).w) [.str "lay", .str "tell"]) = true then _ else _
        rw [worthy_in2]
        have hfl2 : ((ss.take i).filter fun k => (rows.getD k (.take 0)).worthy).length ≤ i := Nat.le_trans (List.length_filter_le _ _) (by rw [List.length_take]; omega)
        refine ite2 (fun e => ?_) (fun e => ?_)
        · refine ⟨_, rfl, _, eM3, by rw [List.length_map]; exact szt (by omega), Same.upd s3 hn1, by rw [upd_ne hML.symm]; exact eL3, ?_⟩
          rw [upd_same, htk, if_pos e, List.map_append]
          rfl
        · exact ⟨s3, eL3, by rw [htk, if_neg e, List.append_nil]; exact eM3⟩
      · obtain ⟨s2, eL2, eM⟩ := hP
        rw [List.length_map, List.take_length] at eM
        exact q M H2 (s1.free nM) s2 (by rw [hst]; exact eM)
end
end Gn
set_option Elab.async false
set_option linter.all false
set_option maxRecDepth 100000
set_option maxHeartbeats 4000000
namespace Gn
open PySem PySem.Spec PyProof.Rows L2
def spNexts : Sp := fun vs H Q _ => ∃ (t : Addr) (c : Nat), vs = [.ref t] ∧ Tape H t c ∧ c ≤ 100000000 ∧
  ∀ (p : Addr) (nx : List (List Nat)) (H' : Hp), nx ∈ NX → But t H H' → Tape H' t (c + 1) → NR (frz [t] H') p nx → Q (.ref p) H'
abbrev nNexts : List Str := ["_law_tape", "_law_some"]
theorem scNexts : FnScope nNexts ["_law_tape"] (defScope sNexts) := ⟨rfl, rfl, rfl, by decide +kernel, rfl, by decide +kernel, by decide +kernel⟩
section
variable {P : Program} {w : World} {K : PySem.W.Frag} {mg : Str → Option Value} {base : Heap}
theorem ok_nexts {f fD : Addr} {fd fdD : FuncData} {k : Nat} (D : Df K mg "_law_nexts" sNexts ["_law_tape"] f fd) (DD : Df K mg "_law_draw" sDraw ["_law_tape", "_law_many"] fD fdD) (GD : FnOk P w K mg base CX0 k fD fdD ["_law_tape", "_law_many"] spDraw) : FnOk P w K mg base CX0 (k + 1) f fd ["_law_tape"] spNexts := by
  refine D.F.ok scNexts (fun vs H Q E h => ?_) (fun cdv A outer s H vs Q E hr h => ?_)
  · obtain ⟨t, c, rfl, _⟩ := h
    rfl
  · obtain ⟨t, c, rfl, hT, hc, q⟩ := h
    refine ⟨_, (pss_cons (ps_set (i := 1) scNexts.nd rfl (.inl rfl) (pe_lst (pa_cons (pe_lst (pa_cons (pe_lst pa_nil) pa_nil)) (pa_cons (pe_lst (pa_cons (pe_lst (pa_cons pe_int (pa_cons pe_int pa_nil))) (pa_cons (pe_lst (pa_cons pe_int pa_nil)) (pa_cons (pe_lst (pa_cons pe_int pa_nil)) (pa_cons (pe_lst pa_nil) pa_nil))))) (pa_cons (pe_lst (pa_cons (pe_lst (pa_cons pe_int pa_nil)) (pa_cons (pe_lst (pa_cons pe_int (pa_cons pe_int pa_nil))) (pa_cons (pe_lst (pa_cons pe_int pa_nil)) (pa_cons (pe_lst pa_nil) pa_nil))))) (pa_cons (pe_lst (pa_cons (pe_lst (pa_cons pe_int (pa_cons pe_int pa_nil))) (pa_cons (pe_lst (pa_cons pe_int pa_nil)) (pa_cons (pe_lst (pa_cons pe_int (pa_cons pe_int pa_nil))) (pa_cons (pe_lst pa_nil) pa_nil))))) pa_nil))))))
      (pss_cons (ps_set (i := 1) scNexts.nd rfl (.inl rfl) (pe_op op_cat (pv 1) (pe_lst (pa_cons (pe_lst (pa_cons (pe_lst (pa_cons pe_int pa_nil)) (pa_cons (pe_lst (pa_cons pe_int (pa_cons pe_int pa_nil))) (pa_cons (pe_lst (pa_cons pe_int (pa_cons pe_int pa_nil))) (pa_cons (pe_lst (pa_cons pe_int pa_nil)) (pa_cons (pe_lst (pa_cons pe_int pa_nil)) (pa_cons (pe_lst pa_nil) pa_nil))))))) (pa_cons (pe_lst (pa_cons (pe_lst (pa_cons pe_int pa_nil)) (pa_cons (pe_lst (pa_cons pe_int (pa_cons pe_int pa_nil))) (pa_cons (pe_lst (pa_cons pe_int pa_nil)) (pa_cons (pe_lst (pa_cons pe_int (pa_cons pe_int pa_nil))) (pa_cons (pe_lst (pa_cons pe_int pa_nil)) (pa_cons (pe_lst (pa_cons pe_int pa_nil)) (pa_cons (pe_lst pa_nil) pa_nil)))))))) pa_nil)))))
      (pss_one (ps_ret (pe_ix ix_list (pv 1) (pe_call GD hr (by rfl) DD.g DD.F.kp DD.b .nil pass0 (pa_cons (pv 0) (pa_cons pe_int pa_nil))) (fun _ _ => rfl)))))), ?_⟩
    refine ⟨szl (show 0 ≤ 1000000 by decide), fun p1 m1 => ?_⟩
    have s1 := new_same (o := .lst []) m1
    have e1 : upd H p1 (.lst []) p1 = some (.lst (([] : List Nat).map iv)) := upd_same
    have T1 := hT.same s1
    have d1 : p1 ≠ t := hT.ne m1
    generalize upd H p1 (.lst []) = h1 at s1 e1 T1
    refine ⟨szl (show 1 ≤ 1000000 by decide), fun q2 m2 => ?_⟩
    have s2 := new_same (o := .lst [.ref p1]) m2
    have e2 : upd h1 q2 (.lst [.ref p1]) q2 = some (.lst (([p1] : List Addr).map V.ref)) := upd_same
    have T2 := T1.same s2
    have d2 : q2 ≠ t := T1.ne m2
    generalize upd h1 q2 (.lst [.ref p1]) = h2 at s2 e2 T2
    refine ⟨szl (show 2 ≤ 1000000 by decide), fun p3 m3 => ?_⟩
    have s3 := new_same (o := .lst [.int 1, .int 2]) m3
    have e3 : upd h2 p3 (.lst [.int 1, .int 2]) p3 = some (.lst (([1, 2] : List Nat).map iv)) := upd_same
    have T3 := T2.same s3
    have d3 : p3 ≠ t := T2.ne m3
    generalize upd h2 p3 (.lst [.int 1, .int 2]) = h3 at s3 e3 T3
    refine ⟨szl (show 1 ≤ 1000000 by decide), fun p4 m4 => ?_⟩
    have s4 := new_same (o := .lst [.int 3]) m4
    have e4 : upd h3 p4 (.lst [.int 3]) p4 = some (.lst (([3] : List Nat).map iv)) := upd_same
    have T4 := T3.same s4
    have d4 : p4 ≠ t := T3.ne m4
    generalize upd h3 p4 (.lst [.int 3]) = h4 at s4 e4 T4
    refine ⟨szl (show 1 ≤ 1000000 by decide), fun p5 m5 => ?_⟩
    have s5 := new_same (o := .lst [.int 3]) m5
    have e5 : upd h4 p5 (.lst [.int 3]) p5 = some (.lst (([3] : List Nat).map iv)) := upd_same
    have T5 := T4.same s5
    have d5 : p5 ≠ t := T4.ne m5
    generalize upd h4 p5 (.lst [.int 3]) = h5 at s5 e5 T5
    refine ⟨szl (show 0 ≤ 1000000 by decide), fun p6 m6 => ?_⟩
    have s6 := new_same (o := .lst []) m6
    have e6 : upd h5 p6 (.lst []) p6 = some (.lst (([] : List Nat).map iv)) := upd_same
    have T6 := T5.same s6
    have d6 : p6 ≠ t := T5.ne m6
    generalize upd h5 p6 (.lst []) = h6 at s6 e6 T6
    refine ⟨szl (show 4 ≤ 1000000 by decide), fun q7 m7 => ?_⟩
    have s7 := new_same (o := .lst [.ref p3, .ref p4, .ref p5, .ref p6]) m7
    have e7 : upd h6 q7 (.lst [.ref p3, .ref p4, .ref p5, .ref p6]) q7 = some (.lst (([p3, p4, p5, p6] : List Addr).map V.ref)) := upd_same
    have T7 := T6.same s7
    have d7 : q7 ≠ t := T6.ne m7
    generalize upd h6 q7 (.lst [.ref p3, .ref p4, .ref p5, .ref p6]) = h7 at s7 e7 T7
    refine ⟨szl (show 1 ≤ 1000000 by decide), fun p8 m8 => ?_⟩
    have s8 := new_same (o := .lst [.int 1]) m8
    have e8 : upd h7 p8 (.lst [.int 1]) p8 = some (.lst (([1] : List Nat).map iv)) := upd_same
    have T8 := T7.same s8
    have d8 : p8 ≠ t := T7.ne m8
    generalize upd h7 p8 (.lst [.int 1]) = h8 at s8 e8 T8
    refine ⟨szl (show 2 ≤ 1000000 by decide), fun p9 m9 => ?_⟩
    have s9 := new_same (o := .lst [.int 2, .int 3]) m9
    have e9 : upd h8 p9 (.lst [.int 2, .int 3]) p9 = some (.lst (([2, 3] : List Nat).map iv)) := upd_same
    have T9 := T8.same s9
    have d9 : p9 ≠ t := T8.ne m9
    generalize upd h8 p9 (.lst [.int 2, .int 3]) = h9 at s9 e9 T9
    refine ⟨szl (show 1 ≤ 1000000 by decide), fun p10 m10 => ?_⟩
    have s10 := new_same (o := .lst [.int 1]) m10
    have e10 : upd h9 p10 (.lst [.int 1]) p10 = some (.lst (([1] : List Nat).map iv)) := upd_same
    have T10 := T9.same s10
    have d10 : p10 ≠ t := T9.ne m10
    generalize upd h9 p10 (.lst [.int 1]) = h10 at s10 e10 T10
    refine ⟨szl (show 0 ≤ 1000000 by decide), fun p11 m11 => ?_⟩
    have s11 := new_same (o := .lst []) m11
    have e11 : upd h10 p11 (.lst []) p11 = some (.lst (([] : List Nat).map iv)) := upd_same
    have T11 := T10.same s11
    have d11 : p11 ≠ t := T10.ne m11
    generalize upd h10 p11 (.lst []) = h11 at s11 e11 T11
    refine ⟨szl (show 4 ≤ 1000000 by decide), fun q12 m12 => ?_⟩
    have s12 := new_same (o := .lst [.ref p8, .ref p9, .ref p10, .ref p11]) m12
    have e12 : upd h11 q12 (.lst [.ref p8, .ref p9, .ref p10, .ref p11]) q12 = some (.lst (([p8, p9, p10, p11] : List Addr).map V.ref)) := upd_same
    have T12 := T11.same s12
    have d12 : q12 ≠ t := T11.ne m12
    generalize upd h11 q12 (.lst [.ref p8, .ref p9, .ref p10, .ref p11]) = h12 at s12 e12 T12
    refine ⟨szl (show 2 ≤ 1000000 by decide), fun p13 m13 => ?_⟩
    have s13 := new_same (o := .lst [.int 1, .int 2]) m13
    have e13 : upd h12 p13 (.lst [.int 1, .int 2]) p13 = some (.lst (([1, 2] : List Nat).map iv)) := upd_same
    have T13 := T12.same s13
    have d13 : p13 ≠ t := T12.ne m13
    generalize upd h12 p13 (.lst [.int 1, .int 2]) = h13 at s13 e13 T13
    refine ⟨szl (show 1 ≤ 1000000 by decide), fun p14 m14 => ?_⟩
    have s14 := new_same (o := .lst [.int 2]) m14
    have e14 : upd h13 p14 (.lst [.int 2]) p14 = some (.lst (([2] : List Nat).map iv)) := upd_same
    have T14 := T13.same s14
    have d14 : p14 ≠ t := T13.ne m14
    generalize upd h13 p14 (.lst [.int 2]) = h14 at s14 e14 T14
    refine ⟨szl (show 2 ≤ 1000000 by decide), fun p15 m15 => ?_⟩
    have s15 := new_same (o := .lst [.int 1, .int 3]) m15
    have e15 : upd h14 p15 (.lst [.int 1, .int 3]) p15 = some (.lst (([1, 3] : List Nat).map iv)) := upd_same
    have T15 := T14.same s15
    have d15 : p15 ≠ t := T14.ne m15
    generalize upd h14 p15 (.lst [.int 1, .int 3]) = h15 at s15 e15 T15
    refine ⟨szl (show 0 ≤ 1000000 by decide), fun p16 m16 => ?_⟩
    have s16 := new_same (o := .lst []) m16
    have e16 : upd h15 p16 (.lst []) p16 = some (.lst (([] : List Nat).map iv)) := upd_same
    have T16 := T15.same s16
    have d16 : p16 ≠ t := T15.ne m16
    generalize upd h15 p16 (.lst []) = h16 at s16 e16 T16
    refine ⟨szl (show 4 ≤ 1000000 by decide), fun q17 m17 => ?_⟩
    have s17 := new_same (o := .lst [.ref p13, .ref p14, .ref p15, .ref p16]) m17
    have e17 : upd h16 q17 (.lst [.ref p13, .ref p14, .ref p15, .ref p16]) q17 = some (.lst (([p13, p14, p15, p16] : List Addr).map V.ref)) := upd_same
    have T17 := T16.same s17
    have d17 : q17 ≠ t := T16.ne m17
    generalize upd h16 q17 (.lst [.ref p13, .ref p14, .ref p15, .ref p16]) = h17 at s17 e17 T17
    refine ⟨szl (show 4 ≤ 1000000 by decide), fun A18 m18 => ?_⟩
    have s18 := new_same (o := .lst [.ref q2, .ref q7, .ref q12, .ref q17]) m18
    have e18 : upd h17 A18 (.lst [.ref q2, .ref q7, .ref q12, .ref q17]) A18 = some (.lst (([q2, q7, q12, q17] : List Addr).map V.ref)) := upd_same
    have T18 := T17.same s18
    have d18 : A18 ≠ t := T17.ne m18
    generalize upd h17 A18 (.lst [.ref q2, .ref q7, .ref q12, .ref q17]) = h18 at s18 e18 T18
    refine ⟨.ref A18, rfl, ?_⟩
    refine ⟨szl (show 1 ≤ 1000000 by decide), fun p19 m19 => ?_⟩
    have s19 := new_same (o := .lst [.int 1]) m19
    have e19 : upd h18 p19 (.lst [.int 1]) p19 = some (.lst (([1] : List Nat).map iv)) := upd_same
    have T19 := T18.same s19
    have d19 : p19 ≠ t := T18.ne m19
    generalize upd h18 p19 (.lst [.int 1]) = h19 at s19 e19 T19
    refine ⟨szl (show 2 ≤ 1000000 by decide), fun p20 m20 => ?_⟩
    have s20 := new_same (o := .lst [.int 2, .int 5]) m20
    have e20 : upd h19 p20 (.lst [.int 2, .int 5]) p20 = some (.lst (([2, 5] : List Nat).map iv)) := upd_same
    have T20 := T19.same s20
    have d20 : p20 ≠ t := T19.ne m20
    generalize upd h19 p20 (.lst [.int 2, .int 5]) = h20 at s20 e20 T20
    refine ⟨szl (show 2 ≤ 1000000 by decide), fun p21 m21 => ?_⟩
    have s21 := new_same (o := .lst [.int 3, .int 4]) m21
    have e21 : upd h20 p21 (.lst [.int 3, .int 4]) p21 = some (.lst (([3, 4] : List Nat).map iv)) := upd_same
    have T21 := T20.same s21
    have d21 : p21 ≠ t := T20.ne m21
    generalize upd h20 p21 (.lst [.int 3, .int 4]) = h21 at s21 e21 T21
    refine ⟨szl (show 1 ≤ 1000000 by decide), fun p22 m22 => ?_⟩
    have s22 := new_same (o := .lst [.int 4]) m22
    have e22 : upd h21 p22 (.lst [.int 4]) p22 = some (.lst (([4] : List Nat).map iv)) := upd_same
    have T22 := T21.same s22
    have d22 : p22 ≠ t := T21.ne m22
    generalize upd h21 p22 (.lst [.int 4]) = h22 at s22 e22 T22
    refine ⟨szl (show 1 ≤ 1000000 by decide), fun p23 m23 => ?_⟩
    have s23 := new_same (o := .lst [.int 1]) m23
    have e23 : upd h22 p23 (.lst [.int 1]) p23 = some (.lst (([1] : List Nat).map iv)) := upd_same
    have T23 := T22.same s23
    have d23 : p23 ≠ t := T22.ne m23
    generalize upd h22 p23 (.lst [.int 1]) = h23 at s23 e23 T23
    refine ⟨szl (show 0 ≤ 1000000 by decide), fun p24 m24 => ?_⟩
    have s24 := new_same (o := .lst []) m24
    have e24 : upd h23 p24 (.lst []) p24 = some (.lst (([] : List Nat).map iv)) := upd_same
    have T24 := T23.same s24
    have d24 : p24 ≠ t := T23.ne m24
    generalize upd h23 p24 (.lst []) = h24 at s24 e24 T24
    refine ⟨szl (show 6 ≤ 1000000 by decide), fun q25 m25 => ?_⟩
    have s25 := new_same (o := .lst [.ref p19, .ref p20, .ref p21, .ref p22, .ref p23, .ref p24]) m25
    have e25 : upd h24 q25 (.lst [.ref p19, .ref p20, .ref p21, .ref p22, .ref p23, .ref p24]) q25 = some (.lst (([p19, p20, p21, p22, p23, p24] : List Addr).map V.ref)) := upd_same
    have T25 := T24.same s25
    have d25 : q25 ≠ t := T24.ne m25
    generalize upd h24 q25 (.lst [.ref p19, .ref p20, .ref p21, .ref p22, .ref p23, .ref p24]) = h25 at s25 e25 T25
    refine ⟨szl (show 1 ≤ 1000000 by decide), fun p26 m26 => ?_⟩
    have s26 := new_same (o := .lst [.int 1]) m26
    have e26 : upd h25 p26 (.lst [.int 1]) p26 = some (.lst (([1] : List Nat).map iv)) := upd_same
    have T26 := T25.same s26
    have d26 : p26 ≠ t := T25.ne m26
    generalize upd h25 p26 (.lst [.int 1]) = h26 at s26 e26 T26
    refine ⟨szl (show 2 ≤ 1000000 by decide), fun p27 m27 => ?_⟩
    have s27 := new_same (o := .lst [.int 2, .int 6]) m27
    have e27 : upd h26 p27 (.lst [.int 2, .int 6]) p27 = some (.lst (([2, 6] : List Nat).map iv)) := upd_same
    have T27 := T26.same s27
    have d27 : p27 ≠ t := T26.ne m27
    generalize upd h26 p27 (.lst [.int 2, .int 6]) = h27 at s27 e27 T27
    refine ⟨szl (show 1 ≤ 1000000 by decide), fun p28 m28 => ?_⟩
    have s28 := new_same (o := .lst [.int 3]) m28
    have e28 : upd h27 p28 (.lst [.int 3]) p28 = some (.lst (([3] : List Nat).map iv)) := upd_same
    have T28 := T27.same s28
    have d28 : p28 ≠ t := T27.ne m28
    generalize upd h27 p28 (.lst [.int 3]) = h28 at s28 e28 T28
    refine ⟨szl (show 2 ≤ 1000000 by decide), fun p29 m29 => ?_⟩
    have s29 := new_same (o := .lst [.int 4, .int 5]) m29
    have e29 : upd h28 p29 (.lst [.int 4, .int 5]) p29 = some (.lst (([4, 5] : List Nat).map iv)) := upd_same
    have T29 := T28.same s29
    have d29 : p29 ≠ t := T28.ne m29
    generalize upd h28 p29 (.lst [.int 4, .int 5]) = h29 at s29 e29 T29
    refine ⟨szl (show 1 ≤ 1000000 by decide), fun p30 m30 => ?_⟩
    have s30 := new_same (o := .lst [.int 3]) m30
    have e30 : upd h29 p30 (.lst [.int 3]) p30 = some (.lst (([3] : List Nat).map iv)) := upd_same
    have T30 := T29.same s30
    have d30 : p30 ≠ t := T29.ne m30
    generalize upd h29 p30 (.lst [.int 3]) = h30 at s30 e30 T30
    refine ⟨szl (show 1 ≤ 1000000 by decide), fun p31 m31 => ?_⟩
    have s31 := new_same (o := .lst [.int 1]) m31
    have e31 : upd h30 p31 (.lst [.int 1]) p31 = some (.lst (([1] : List Nat).map iv)) := upd_same
    have T31 := T30.same s31
    have d31 : p31 ≠ t := T30.ne m31
    generalize upd h30 p31 (.lst [.int 1]) = h31 at s31 e31 T31
    refine ⟨szl (show 0 ≤ 1000000 by decide), fun p32 m32 => ?_⟩
    have s32 := new_same (o := .lst []) m32
    have e32 : upd h31 p32 (.lst []) p32 = some (.lst (([] : List Nat).map iv)) := upd_same
    have T32 := T31.same s32
    have d32 : p32 ≠ t := T31.ne m32
    generalize upd h31 p32 (.lst []) = h32 at s32 e32 T32
    refine ⟨szl (show 7 ≤ 1000000 by decide), fun q33 m33 => ?_⟩
    have s33 := new_same (o := .lst [.ref p26, .ref p27, .ref p28, .ref p29, .ref p30, .ref p31, .ref p32]) m33
    have e33 : upd h32 q33 (.lst [.ref p26, .ref p27, .ref p28, .ref p29, .ref p30, .ref p31, .ref p32]) q33 = some (.lst (([p26, p27, p28, p29, p30, p31, p32] : List Addr).map V.ref)) := upd_same
    have T33 := T32.same s33
    have d33 : q33 ≠ t := T32.ne m33
    generalize upd h32 q33 (.lst [.ref p26, .ref p27, .ref p28, .ref p29, .ref p30, .ref p31, .ref p32]) = h33 at s33 e33 T33
    refine ⟨szl (show 2 ≤ 1000000 by decide), fun B34 m34 => ?_⟩
    have s34 := new_same (o := .lst [.ref q25, .ref q33]) m34
    have e34 : upd h33 B34 (.lst [.ref q25, .ref q33]) B34 = some (.lst (([q25, q33] : List Addr).map V.ref)) := upd_same
    have T34 := T33.same s34
    have d34 : B34 ≠ t := T33.ne m34
    generalize upd h33 B34 (.lst [.ref q25, .ref q33]) = h34 at s34 e34 T34
    have u34 : Same h34 h34 := Same.refl _
    have u33 := s34.trans u34
    have u32 := s33.trans u33
    have u31 := s32.trans u32
    have u30 := s31.trans u31
    have u29 := s30.trans u30
    have u28 := s29.trans u29
    have u27 := s28.trans u28
    have u26 := s27.trans u27
    have u25 := s26.trans u26
    have u24 := s25.trans u25
    have u23 := s24.trans u24
    have u22 := s23.trans u23
    have u21 := s22.trans u22
    have u20 := s21.trans u21
    have u19 := s20.trans u20
    have u18 := s19.trans u19
    have u17 := s18.trans u18
    have u16 := s17.trans u17
    have u15 := s16.trans u16
    have u14 := s15.trans u15
    have u13 := s14.trans u14
    have u12 := s13.trans u13
    have u11 := s12.trans u12
    have u10 := s11.trans u11
    have u9 := s10.trans u10
    have u8 := s9.trans u9
    have u7 := s8.trans u8
    have u6 := s7.trans u7
    have u5 := s6.trans u6
    have u4 := s5.trans u5
    have u3 := s4.trans u4
    have u2 := s3.trans u3
    have u1 := s2.trans u2
    have u0 : Same H h34 := s1.trans u1
    refine ⟨A18, B34, _, _, rfl, rfl, u18 _ _ e18, e34, szl (show 6 ≤ 1000000 by decide), fun C nC => ?_⟩
    have sC := new_same (o := .lst (List.map V.ref [q2, q7, q12, q17] ++ List.map V.ref [q25, q33])) nC
    have eC : upd h34 C (.lst (List.map V.ref [q2, q7, q12, q17] ++ List.map V.ref [q25, q33])) C = some (.lst [.ref q2, .ref q7, .ref q12, .ref q17, .ref q25, .ref q33]) := upd_same
    have dC : C ≠ t := T34.ne nC
    have TC := T34.same sC
    generalize hg : upd h34 C (.lst (List.map V.ref [q2, q7, q12, q17] ++ List.map V.ref [q25, q33])) = hC at sC eC TC
    refine ⟨_, rfl, .ref t, rfl, t, 6, c, rfl, TC, by omega, by decide, by decide, fun r Hf hr6 bf Tf => ?_⟩
    have hr6 : r < 6 := by omega
    have bH : But t H Hf := (Same.but (u0.trans sC)).trans bf
    have fx : ∀ {a : Addr} {o : HO}, a ≠ t → h34 a = some o → frz [t] Hf a = some o := fun {a o} nt e => frz_at (bf _ _ nt (sC _ _ e)) (by simpa using nt)
    refine ⟨C, _, _, _, rfl, rfl, sqL (bf _ _ dC eC), at_lt (show r < 6 from hr6), ?_⟩
    match r, hr6 with
    | 0, _ => exact q q2 _ Hf (by decide +kernel : [[]] ∈ NX) bH Tf ⟨[p1], fx d2 (u2 _ _ e2), .cons (fx d1 (u1 _ _ e1)) .nil⟩
    | 1, _ => exact q q7 _ Hf (by decide +kernel : [[1, 2], [3], [3], []] ∈ NX) bH Tf ⟨[p3, p4, p5, p6], fx d7 (u7 _ _ e7), .cons (fx d3 (u3 _ _ e3)) (.cons (fx d4 (u4 _ _ e4)) (.cons (fx d5 (u5 _ _ e5)) (.cons (fx d6 (u6 _ _ e6)) .nil)))⟩
    | 2, _ => exact q q12 _ Hf (by decide +kernel : [[1], [2, 3], [1], []] ∈ NX) bH Tf ⟨[p8, p9, p10, p11], fx d12 (u12 _ _ e12), .cons (fx d8 (u8 _ _ e8)) (.cons (fx d9 (u9 _ _ e9)) (.cons (fx d10 (u10 _ _ e10)) (.cons (fx d11 (u11 _ _ e11)) .nil)))⟩
    | 3, _ => exact q q17 _ Hf (by decide +kernel : [[1, 2], [2], [1, 3], []] ∈ NX) bH Tf ⟨[p13, p14, p15, p16], fx d17 (u17 _ _ e17), .cons (fx d13 (u13 _ _ e13)) (.cons (fx d14 (u14 _ _ e14)) (.cons (fx d15 (u15 _ _ e15)) (.cons (fx d16 (u16 _ _ e16)) .nil)))⟩
    | 4, _ => exact q q25 _ Hf (by decide +kernel : [[1], [2, 5], [3, 4], [4], [1], []] ∈ NX) bH Tf ⟨[p19, p20, p21, p22, p23, p24], fx d25 (u25 _ _ e25), .cons (fx d19 (u19 _ _ e19)) (.cons (fx d20 (u20 _ _ e20)) (.cons (fx d21 (u21 _ _ e21)) (.cons (fx d22 (u22 _ _ e22)) (.cons (fx d23 (u23 _ _ e23)) (.cons (fx d24 (u24 _ _ e24)) .nil)))))⟩
    | 5, _ => exact q q33 _ Hf (by decide +kernel : [[1], [2, 6], [3], [4, 5], [3], [1], []] ∈ NX) bH Tf ⟨[p26, p27, p28, p29, p30, p31, p32], fx d33 (u33 _ _ e33), .cons (fx d26 (u26 _ _ e26)) (.cons (fx d27 (u27 _ _ e27)) (.cons (fx d28 (u28 _ _ e28)) (.cons (fx d29 (u29 _ _ e29)) (.cons (fx d30 (u30 _ _ e30)) (.cons (fx d31 (u31 _ _ e31)) (.cons (fx d32 (u32 _ _ e32)) .nil))))))⟩
end
end Gn
set_option Elab.async false
set_option linter.all false
set_option maxRecDepth 100000
set_option maxHeartbeats 8000000
set_option pp.maxSteps 300
namespace Gn
open PySem PySem.Spec PyProof.Rows L2
abbrev tDr (a b : TE) : TE := tCall spDraw [] E0 (tCons a (tCons b tNil))
theorem atI_neg {α : Type} {xs : List α} {r : Nat} (h : r < xs.length) : atI xs (-1 - (r : Int)) = some (xs[xs.length - 1 - r]'(by omega)) := by
  have e : ixN xs.length (-1 - (r : Int)) = some (xs.length - 1 - r) := by
    unfold ixN
    rw [if_neg (by omega), if_pos (by omega)]
    congr 1
    omega
  unfold atI
  rw [e]
  exact List.getElem?_eq_getElem _
def Rw.isB : Rw → Bool
  | .bin _ _ _ => true
  | _ => false
theorem isB_in (r : Rw) : inV (.str r.w) [.str "sum", .str "less", .str "times", .str "same", .str "below"] = r.isB := by
  cases r with
  | bin b x y => cases b <;> rfl
  | _ => (first | rfl | decide)
def Rw.isM : Rw → Bool
  | .meet _ => true
  | _ => false
theorem neq_rows (rs : List Rw) : (!PyData.eqv (.list (rs.map Rw.data)) (.list [])) = !rs.isEmpty := by
  cases rs with
  | nil => decide +kernel
  | cons a ns => rfl
def rmL (fi st n : Nat) : List Nat := (List.range n).map fun k => (fi + st * k) % 6
theorem rooms_nd1 : ∀ fi, fi < 6 → ∀ n, n < 5 → (rmL fi 1 n).Nodup := by decide +kernel
theorem rooms_nd5 : ∀ fi, fi < 6 → ∀ n, n < 5 → (rmL fi 5 n).Nodup := by decide +kernel
theorem rooms_ok {fi st n : Nat} (hf : fi < 6) (hs : st = 1 ∨ st = 5) (h1 : 1 ≤ n) (h2 : n ≤ 4) : (rmL fi st n).Nodup ∧ (∀ y ∈ rmL fi st n, y < 6) ∧ rmL fi st n ≠ [] ∧ (rmL fi st n).length ≤ 4 := by
  have hl : (rmL fi st n).length = n := by unfold rmL; rw [List.length_map, List.length_range]
  refine ⟨?_, fun y hy => ?_, fun z => ?_, by omega⟩
  · rcases hs with rfl | rfl
    · exact rooms_nd1 fi hf n (by omega)
    · exact rooms_nd5 fi hf n (by omega)
  · obtain ⟨k, _, rfl⟩ := List.mem_map.mp hy
    exact Nat.mod_lt _ (by decide)
  · rw [z] at hl
    have : 0 = n := hl
    omega
def KwOk (kw : Str) : Prop := (∃ b : Bk, kw = b.w) ∨ kw = "look" ∨ kw = "lay"
def spDrawn (K : PySem.W.Frag) : Sp := fun vs H Q _ => ∃ (t ra sa : Addr) (c : Nat) (us : List V) (rows : List Rw) (ss : List Nat) (P : Nat → Prop), vs = [.ref t, .ref ra, .ref sa] ∧ Tape H t c ∧ c + 30 ≤ 100000000 ∧ ra ≠ t ∧ sa ≠ t ∧ H ra = some (.lst us) ∧ H sa = some (.lst (ss.map iv)) ∧ Paired (RowAt K (frz [t] H)) us rows ∧ ss ≠ [] ∧ ss.length ≤ 1000 ∧ (∀ y ∈ ss, y < rows.length ∧ P y) ∧
  (∀ k ∈ ss, ∀ b x y, rows[k]? = some (.bin b x y) → P x ∧ P y) ∧
  ∀ (v : V) (r : Rw) (H' : Hp), But t H H' → Tape H' t (c + 30) → RowAt K (frz [t] H') v r → RwA P r → r.isM = false → Q v H'
abbrev nDrawn : List Str := ["_law_tape", "_law_rows", "_law_some", "_law_way", "_law_near", "_law_one", "_law_other", "_law_again", "_law_kind", "_law_parts", "_law_little", "_law_kinds", "_law_first", "_law_step", "_law_many", "_law_k", "_law_turn"]
theorem scDrawn : FnScope nDrawn ["_law_tape", "_law_rows", "_law_some"] (defScope sDrawn) := ⟨rfl, rfl, rfl, by decide +kernel, rfl, by decide +kernel, by decide +kernel⟩
section
variable {P : Program} {w : World} {K : PySem.W.Frag} {mg : Str → Option Value} {base : Heap}
theorem ok_drawn {f fD : Addr} {fd fdD : FuncData} {k : Nat} (D : Df K mg "_law_drawn_row" sDrawn ["_law_tape", "_law_rows", "_law_some"] f fd) (B : Bi mg) (DD : Df K mg "_law_draw" sDraw ["_law_tape", "_law_many"] fD fdD) (GD : FnOk P w K mg base CX0 k fD fdD ["_law_tape", "_law_many"] spDraw) : FnOk P w K mg base CX0 (k + 1) f fd ["_law_tape", "_law_rows", "_law_some"] (spDrawn K) := by
  refine D.F.ok scDrawn (fun vs H Q E h => ?_) (fun cdv A outer s H vs Q E hr h => ?_)
  · obtain ⟨t, ra, sa, c, us, rows, ss, P, rfl, _⟩ := h
    rfl
  · obtain ⟨t, ra, sa, c, us, rows, ss, PP, rfl, hT, hc, nrt, nst, hR, hS, hP0, hne, hsl, hss, hag, q⟩ := h
    refine ⟨_, (pss_cons (ps_par (i := 3) (j := 4) (by rfl) scDrawn.nd rfl rfl (by decide) rfl rfl (pa_cons (pe_call GD hr (by rfl) DD.g DD.F.kp DD.b .nil pass0 (pa_cons (pv 0) (pa_cons pe_int pa_nil))) (pa_cons (pe_ix ix_list (pv 2) (pe_op op_sub (pe_un un_neg pe_int) (pe_call GD hr (by rfl) DD.g DD.F.kp DD.b .nil pass0 (pa_cons (pv 0) (pa_cons (pe_callB (call_min2 rfl) (by rfl) B.min PyProof.Rows.boot_min (pa_cons pe_int (pa_cons (pe_callB call_len_seq (by rfl) B.len PySem.boot_len (pa_cons (pv 2) pa_nil)) pa_nil))) pa_nil)))) (fun _ _ => rfl)) pa_nil)) (by rfl))
      (pss_cons (ps_par (i := 5) (j := 6) (by rfl) scDrawn.nd rfl rfl (by decide) rfl rfl (pa_cons (pe_ix ix_list (pv 2) (pe_call GD hr (by rfl) DD.g DD.F.kp DD.b .nil pass0 (pa_cons (pv 0) (pa_cons (pe_callB call_len_seq (by rfl) B.len PySem.boot_len (pa_cons (pv 2) pa_nil)) pa_nil))) (fun _ _ => rfl)) (pa_cons (pe_ix ix_list (pe_lst (pa_cons (pv 4) (pa_cons (pe_ix ix_list (pv 2) (pe_call GD hr (by rfl) DD.g DD.F.kp DD.b .nil pass0 (pa_cons (pv 0) (pa_cons (pe_callB call_len_seq (by rfl) B.len PySem.boot_len (pa_cons (pv 2) pa_nil)) pa_nil))) (fun _ _ => rfl)) pa_nil))) (pe_call GD hr (by rfl) DD.g DD.F.kp DD.b .nil pass0 (pa_cons (pv 0) (pa_cons pe_int pa_nil))) (fun _ _ => rfl)) pa_nil)) (by rfl))
      (pss_cons (ps_setLc (i := 7) (own := [("_law_k", 15)]) (g := gName 15) (tt := tIn K (tIxT K (tIxL K (tVar 1) (tVar 15)) (tC (.int 0))) (tTup (tCons (tC (.str "sum")) (tCons (tC (.str "less")) (tCons (tC (.str "times")) (tCons (tC (.str "same")) (tCons (tC (.str "below")) tNil))))))) (te := tIxL K (tVar 1) (tVar 15)) (by rfl) scDrawn.nd rfl rfl (sw_true rfl rfl rfl (by decide +kernel)) (pi_list (pv 2)) (blkOk_by (own := [("_law_k", 15)]) (N := nDrawn) (sc := defScope sDrawn) (by decide +kernel)) (fun _ _ _ _ _ => (pg_name (i := 15) scDrawn.nd rfl (.inl rfl))) (fun _ _ _ _ _ => pts_one (pt_cmpR op_in_seq (pe_ix ix_tup (pe_ix ix_list (pv 1) (pv 15) (fun _ _ => rfl)) pe_int (fun _ _ => rfl)) (pe_tup (pa_cons pe_str (pa_cons pe_str (pa_cons pe_str (pa_cons pe_str (pa_cons pe_str pa_nil)))))) rfl)) (fun _ _ _ _ _ => (pe_ix ix_list (pv 1) (pv 15) (fun _ _ => rfl))))
      (Evl.pss_cut (ps_if (pw_and (pt_cmpR op_lt (pv 3) pe_int (nomark _)) (pw_and1 (pt_cmpR (op_neD hr.units) (pv 7) (pe_lst pa_nil) (nomark _)))).pt (pss_cons (ps_asg (pe_ix ix_list (pv 7) (pe_call GD hr (by rfl) DD.g DD.F.kp DD.b .nil pass0 (pa_cons (pv 0) (pa_cons (pe_callB call_len_seq (by rfl) B.len PySem.boot_len (pa_cons (pv 7) pa_nil)) pa_nil))) (fun _ _ => rfl)) (pg_tup rfl (pgs_cons (pg_name (i := 8) scDrawn.nd rfl (.inl rfl)) (pgs_cons (pg_name (i := 5) scDrawn.nd rfl (.inl rfl)) (pgs_cons (pg_name (i := 6) scDrawn.nd rfl (.inl rfl)) pgs_nil)))))
      (pss_one (ps_ret (pe_ifExp (pw_and (pt_cmpR op_in_seq (pv 8) (pe_tup (pa_cons pe_str (pa_cons pe_str (pa_cons pe_str pa_nil)))) rfl) (pw_and1 (pt_cmpR op_eq (pv 3) pe_int (nomark _)))).pt (pe_tup (pa_cons (pv 8) (pa_cons (pv 6) (pa_cons (pv 5) pa_nil)))) (pe_tup (pa_cons (pv 8) (pa_cons (pv 5) (pa_cons (pv 6) pa_nil)))))))) pss_nil)
      (pss_cons (ps_if (pt_cmpR op_eq (pv 3) pe_int (nomark _)) (pss_one (ps_ret (pe_tup (pa_cons pe_str (pa_cons (pe_call GD hr (by rfl) DD.g DD.F.kp DD.b .nil pass0 (pa_cons (pv 0) (pa_cons pe_int pa_nil))) pa_nil))))) pss_nil)
      (pss_cons (ps_if (pt_cmpR op_eq (pv 3) pe_int (nomark _)) (pss_one (ps_ret (pe_tup (pa_cons pe_str (pa_cons (pe_ix ix_list (pe_lst (pa_cons pe_int (pa_cons pe_int (pa_cons pe_int (pa_cons (pe_un un_neg pe_int) (pa_cons pe_int pa_nil)))))) (pe_call GD hr (by rfl) DD.g DD.F.kp DD.b .nil pass0 (pa_cons (pv 0) (pa_cons pe_int pa_nil))) (fun _ _ => rfl)) pa_nil))))) pss_nil)
      (pss_cons (ps_if (pt_cmpR op_eq (pv 3) pe_int (nomark _)) (pss_cons (ps_set (i := 9) scDrawn.nd rfl (.inl rfl) (pe_ix ix_list (pe_lst (pa_cons pe_int (pa_cons pe_int (pa_cons pe_int (pa_cons pe_int pa_nil))))) (pe_call GD hr (by rfl) DD.g DD.F.kp DD.b .nil pass0 (pa_cons (pv 0) (pa_cons pe_int pa_nil))) (fun _ _ => rfl)))
      (pss_one (ps_ret (pe_tup (pa_cons pe_str (pa_cons (pv 5) (pa_cons (pe_callTy call_tuple_of (by rfl) B.tuple PyProof.Rows.boot_tuple (pa_cons (pe_lc (own := [("_law_turn", 16)]) (g := gName 16) (tt := tYes) (te := tIxL K (tVar 2) (tDr (tVar 0) (tLen K (tVar 2)))) rfl scDrawn.nd (pi_range1 (by rfl) B.range (pa_cons (pv 9) pa_nil)) (blkOk_by (own := [("_law_turn", 16)]) (N := nDrawn) (sc := defScope sDrawn) (by decide +kernel)) (fun _ _ _ _ _ => (pg_name (i := 16) scDrawn.nd rfl (.inl rfl))) (fun _ _ _ _ _ => pts_nil) (fun _ _ _ _ _ => (pe_ix ix_list (pv 2) (pe_call GD hr (by rfl) DD.g DD.F.kp DD.b .nil pass0 (pa_cons (pv 0) (pa_cons (pe_callB call_len_seq (by rfl) B.len PySem.boot_len (pa_cons (pv 2) pa_nil)) pa_nil))) (fun _ _ => rfl)))) pa_nil)) pa_nil))))))) pss_nil)
      (Evl.pss_cut (ps_set (i := 10) scDrawn.nd rfl (.inl rfl) (pe_or (pe_callB (cr_all rfl) (by rfl) B.all (by decide +kernel) (pa_cons (pe_lc (own := [("_law_k", 15)]) (g := gName 15) (tt := tYes) (te := tOp (rIn K false) (tIxT K (tIxL K (tVar 1) (tVar 15)) (tC (.int 0))) (tTup (tCons (tC (.str "take")) (tCons (tC (.str "same")) (tCons (tC (.str "below")) tNil))))) rfl scDrawn.nd (pi_tup (pe_tup (pa_cons (pv 5) (pa_cons (pv 6) pa_nil)))) (blkOk_by (own := [("_law_k", 15)]) (N := nDrawn) (sc := defScope sDrawn) (by decide +kernel)) (fun _ _ _ _ _ => (pg_name (i := 15) scDrawn.nd rfl (.inl rfl))) (fun _ _ _ _ _ => pts_nil) (fun _ _ _ _ _ => (pe_cmpR op_in_seq (pe_ix ix_tup (pe_ix ix_list (pv 1) (pv 15) (fun _ _ => rfl)) pe_int (fun _ _ => rfl)) (pe_tup (pa_cons pe_str (pa_cons pe_str (pa_cons pe_str pa_nil)))) rfl))) pa_nil)) (pe_one (pe_cmpR op_eq (pe_ix ix_tup (pe_ix ix_list (pv 1) (pv 5) (fun _ _ => rfl)) pe_int (fun _ _ => rfl)) pe_str (nomark _)))))
      (Evl.pss_cut (ps_set (i := 11) scDrawn.nd rfl (.inl rfl) (pe_lst (pa_cons (pe_ifExp (pt_val (pv 10)) pe_str pe_str) (pa_cons pe_str (pa_cons pe_str (pa_cons pe_str (pa_cons pe_str (pa_cons pe_str pa_nil))))))))
      (Evl.pss_cut (ps_if (pw_and (pt_cmpR op_eq (pv 3) pe_int (nomark _)) (pw_and1 (pt_cmpR op_eq (pe_call GD hr (by rfl) DD.g DD.F.kp DD.b .nil pass0 (pa_cons (pv 0) (pa_cons pe_int pa_nil))) pe_int (nomark _)))).pt (pss_one (ps_ret (pe_tup (pa_cons pe_str (pa_cons (pv 5) pa_nil))))) pss_nil)
      (Evl.pss_cut (ps_asg (pe_tup (pa_cons (pe_ix ix_list (pv 11) (pe_ifExp (pt_cmpR op_gt (pv 3) pe_int (nomark _)) (pe_op op_sub (pv 3) pe_int) pe_int) (fun _ _ => rfl)) (pa_cons (pe_call GD hr (by rfl) DD.g DD.F.kp DD.b .nil pass0 (pa_cons (pv 0) (pa_cons pe_int pa_nil))) pa_nil))) (pg_tup rfl (pgs_cons (pg_name (i := 8) scDrawn.nd rfl (.inl rfl)) (pgs_cons (pg_name (i := 12) scDrawn.nd rfl (.inr rfl)) pgs_nil))))
      (pss_cons (ps_asg (pe_tup (pa_cons (pe_ix ix_list (pe_lst (pa_cons pe_int (pa_cons pe_int pa_nil))) (pe_call GD hr (by rfl) DD.g DD.F.kp DD.b .nil pass0 (pa_cons (pv 0) (pa_cons pe_int pa_nil))) (fun _ _ => rfl)) (pa_cons (pe_ix ix_list (pe_lst (pa_cons pe_int (pa_cons pe_int (pa_cons pe_int (pa_cons pe_int (pa_cons pe_int pa_nil)))))) (pe_call GD hr (by rfl) DD.g DD.F.kp DD.b .nil pass0 (pa_cons (pv 0) (pa_cons pe_int pa_nil))) (fun _ _ => rfl)) pa_nil))) (pg_tup rfl (pgs_cons (pg_name (i := 13) scDrawn.nd rfl (.inr rfl)) (pgs_cons (pg_name (i := 14) scDrawn.nd rfl (.inl rfl)) pgs_nil))))
      (pss_cons (ps_if (pt_cmpR op_notIn_seq (pv 8) (pe_tup (pa_cons pe_str (pa_cons pe_str pa_nil))) rfl) (pss_one (ps_ret (pe_tup (pa_cons (pv 8) (pa_cons (pv 5) (pa_cons (pv 6) pa_nil)))))) pss_nil)
      (pss_one (ps_ret (pe_slice sl_tupA (pe_tup (pa_cons (pv 8) (pa_cons (pe_callTy call_tuple_of (by rfl) B.tuple PyProof.Rows.boot_tuple (pa_cons (pe_lc (own := [("_law_k", 15)]) (g := gName 15) (tt := tYes) (te := tOp (rI (fun _ j => 0 < j) fun i j => .int (i % j)) (tOp (rI0 fun i j => .int (i + j)) (tVar 12) (tOp (rI CMul fun i j => .int (i * j)) (tVar 13) (tVar 15))) (tC (.int 6))) rfl scDrawn.nd (pi_range1 (by rfl) B.range (pa_cons (pv 14) pa_nil)) (blkOk_by (own := [("_law_k", 15)]) (N := nDrawn) (sc := defScope sDrawn) (by decide +kernel)) (fun _ _ _ _ _ => (pg_name (i := 15) scDrawn.nd rfl (.inl rfl))) (fun _ _ _ _ _ => pts_nil) (fun _ _ _ _ _ => pe_op op_mod (pe_op op_add (pv 12) (pe_op op_mul (pv 13) (pv 15))) pe_int)) pa_nil)) (pa_cons (pv 5) (pa_cons (pv 6) pa_nil))))) po_none (po_some (pe_op op_add pe_int (pe_callTy call_int1 (by rfl) B.int PyProof.Rows.boot_int (pa_cons (pe_cmpR op_eq (pv 8) pe_str (nomark _)) pa_nil)))))))))))))))))))), ?_⟩
    have G0t : frz [t] H t = none := by unfold frz; rw [if_pos (by simp)]
    have gof : ∀ {Hx : Hp}, But t H Hx → Same (frz [t] H) Hx := fun {Hx} b => Same.bt (frz_same _ _) G0t b
    have hlen : 0 < ss.length := List.length_pos_iff.mpr hne
    have hml : (ss.map iv).length = ss.length := List.length_map _
    -- a number out of the list, by a draw
    have pick1 : ∀ {r : Nat}, r < ss.length → ∃ y, y ∈ ss ∧ (ss.map iv)[r]? = some (iv y) := fun {r} h => ⟨ss[r], List.getElem_mem h, by rw [List.getElem?_map, List.getElem?_eq_getElem h]; rfl⟩
    have fin : ∀ (r : Rw) (xs : List V) (Hx : Hp) (cx : Nat), But t H Hx → Tape Hx t cx → cx ≤ c + 30 → xs.length ≤ 10 → RwA PP r → r.isM = false → Rest K (frz [t] Hx) r xs → (V.str r.w :: xs).length ≤ sizeLine ∧ ∀ p, Hx p = none → Q (.ref p) (upd Hx p (.tup (.str r.w :: xs))) := fun r xs Hx cx b T hcx hxl hA hm hrest => by
      refine ⟨szl (by rw [List.length_cons]; omega), fun p np => ?_⟩
      exact q (.ref p) r _ (b.trans (Same.but (new_same np))) ((T.same (new_same np)).mono hcx) ⟨p, xs, rfl, sqT (frz_at upd_same (by simpa using T.ne np)), hrest.same (Bm.frz (Bm.of_same (new_same np)))⟩ hA hm
    have hbS : ∀ {Hx : Hp}, But t H Hx → Hx sa = some (.lst (ss.map iv)) := fun {Hx} b => b _ _ nst hS
    have hbR : ∀ {Hx : Hp}, But t H Hx → Hx ra = some (.lst us) := fun {Hx} b => b _ _ nrt hR
    -- the first four
    refine ⟨.ref t, rfl, t, 12, c, rfl, hT, by omega, by decide, by decide, fun way H1 hw b1 T1 => ?_⟩
    have hmin : (if ((ss.map iv).length : Int) < 3 then ((ss.map iv).length : Int) else 3) ≤ ss.length ∧ 0 < (if ((ss.map iv).length : Int) < 3 then ((ss.map iv).length : Int) else 3) ∧ (if ((ss.map iv).length : Int) < 3 then ((ss.map iv).length : Int) else 3) ≤ 1000000 := by
      rw [hml]
      split <;> omega
    refine ⟨.ref sa, rfl, 1, rfl, .ref t, rfl, .ref sa, rfl, sa, _, rfl, .inl (sqL (hbS b1)), _, _, rfl, t, _, c + 1, rfl, T1, by omega, hmin.2.1, hmin.2.2, fun r2 H2 h2 b2 T2 => ?_⟩
    have hr2 : r2 < (ss.map iv).length := by rw [hml]; omega
    have b12 := b1.trans b2
    obtain ⟨near, hnear, ena⟩ : ∃ y, y ∈ ss ∧ atI (ss.map iv) (-1 - (r2 : Int)) = some (iv y) := by
      obtain ⟨y, h1, h2⟩ := pick1 (r := ss.length - 1 - r2) (by omega)
      refine ⟨y, h1, ?_⟩
      rw [atI_neg hr2, ← h2, ← hml, List.getElem?_eq_getElem]
    refine ⟨_, _, rfl, rfl, sa, _, _, _, rfl, rfl, sqL (hbS b12), ena, _, _, rfl, ?_⟩
    refine ⟨.ref sa, rfl, .ref t, rfl, .ref sa, rfl, sa, _, rfl, .inl (sqL (hbS b12)), t, _, c + 2, rfl, T2, by omega, by rw [hml]; omega, by rw [hml]; omega, fun r3 H3 h3 b3 T3 => ?_⟩
    have b13 := b12.trans b3
    obtain ⟨one, hone, eone⟩ := pick1 (r := r3) (by rw [hml] at h3; omega)
    refine ⟨sa, _, _, _, rfl, rfl, sqL (hbS b13), atI_nat eone, ?_⟩
    refine ⟨iv near, rfl, .ref sa, rfl, .ref t, rfl, .ref sa, rfl, sa, _, rfl, .inl (sqL (hbS b13)), t, _, c + 3, rfl, T3, by omega, by rw [hml]; omega, by rw [hml]; omega, fun r4 H4 h4 b4 T4 => ?_⟩
    have b14 := b13.trans b4
    obtain ⟨oth, hoth, eoth⟩ := pick1 (r := r4) (by rw [hml] at h4; omega)
    refine ⟨sa, _, _, _, rfl, rfl, sqL (hbS b14), atI_nat eoth, szl (show 2 ≤ 1000000 by decide), fun l5 n5 => ?_⟩
    have s5 := new_same (o := .lst [iv near, iv oth]) n5
    have nl5 : l5 ≠ t := T4.ne n5
    refine ⟨.ref t, rfl, t, 2, c + 4, rfl, T4.same s5, by omega, by decide, by decide, fun r6 H6 h6 b6 T6 => ?_⟩
    obtain ⟨other, hother, hat⟩ : ∃ y, y ∈ ss ∧ atI [iv near, iv oth] (r6 : Int) = some (iv y) := by
      have : r6 = 0 ∨ r6 = 1 := by omega
      rcases this with rfl | rfl
      · exact ⟨near, hnear, atI_nat (j := 0) rfl⟩
      · exact ⟨oth, hoth, atI_nat (j := 1) rfl⟩
    refine ⟨l5, _, _, _, rfl, rfl, sqL (b6 _ _ nl5 upd_same), hat, _, _, rfl, ?_⟩
    have b16 : But t H H6 := (b14.trans (Same.but s5)).trans b6
    clear hat b1 b2 b3 b4 b6 b12 b13 b14 T1 T2 T3 T4 s5 nl5 n5 eone eoth ena hmin
    have hw12 : way < 12 := by omega
    -- reckonings that are there
    refine ⟨.ref sa, rfl, sa, rfl, ⟨_, sqL (hbS b16)⟩, fun L nL => ?_⟩
    have nLt : L ≠ t := T6.ne nL
    refine lc_list (K := K) (a := sa) (xs := ss.map iv) (fun i Hx => Same H6 Hx ∧ ∃ (vs : List V) (rs : List Rw), Hx L = some (.lst vs) ∧ Paired (RowAt K (frz [t] H)) vs rs ∧ vs.length ≤ i ∧ ∀ r ∈ rs, ∃ b x y, r = .bin b x y ∧ PP x ∧ PP y) ⟨new_same nL, [], [], upd_same, .nil, Nat.le_refl _, fun r hr => (by cases hr)⟩ (fun i Hx _ hP => sqL (hP.1 _ _ (hbS b16))) (fun i x Hx hx hP => ?_) (fun Hx hP => ?_)
    · obtain ⟨s7, vs, rs, eL, pL, hvl, hrs⟩ := hP
      rw [List.getElem?_map] at hx
      obtain ⟨y, hy, rfl⟩ := Option.map_eq_some_iff.mp hx
      have hyl := (List.getElem?_eq_some_iff.mp hy).1
      have hys := List.mem_of_getElem? hy
      have hyr := (hss y hys).1
      obtain ⟨u, hu1, hu2⟩ := pd_at hP0 (gdl (d := Rw.take 0) hyr)
      obtain ⟨z, zs, rfl, hz, hz2⟩ := id hu2
      have b7 := b16.trans (Same.but (t := t) s7)
      refine ⟨rfl, .ref ra, rfl, iv y, rfl, ra, us, _, .ref z, rfl, rfl, sqL (hbR b7), atI_nat hu1, z, _, _, _, rfl, rfl, Same.tup (gof b7) hz, atI_nat (j := 0) rfl, szl (show 5 ≤ 1000000 by decide), fun T nT => ?_⟩
      have sT := new_same (o := .tup [.str "sum", .str "less", .str "times", .str "same", .str "below"]) nT
      have eT : upd Hx T (.tup [.str "sum", .str "less", .str "times", .str "same", .str "below"]) T = some (.tup [.str "sum", .str "less", .str "times", .str "same", .str "below"]) := upd_same
      have s8 := s7.trans sT
      have eL8 := sT _ _ eL
      generalize upd Hx T (.tup [.str "sum", .str "less", .str "times", .str "same", .str "below"]) = H8 at sT eT s8 eL8
      have b8 := b16.trans (Same.but (t := t) s8)
      refine ⟨T, _, rfl, .inr (sqT eT), rfl, rfl, _, rfl, ?_⟩
      show if inV (.str (rows.getD y (.take 0)).w) [.str "sum", .str "less", .str "times", .str "same", .str "below"] = true then _ else _
      rw [isB_in]
      refine ite2 (fun e => ?_) (fun e => ?_)
      · refine ⟨.ref ra, rfl, iv y, rfl, ra, us, _, .ref z, rfl, rfl, sqL (hbR b8), atI_nat hu1, vs, eL8, szt (by omega), fun b o e => ?_, vs ++ [.ref z], rs ++ [rows.getD y (.take 0)], upd_same, pd_app pL (.cons hu2 .nil), by rw [List.length_append]; exact Nat.add_le_add_right hvl 1, fun r hr => ?_⟩
        · rw [upd_ne (ne_of_none e nL)]
          exact s8 _ _ e
        · rcases List.mem_append.mp hr with w | w
          · exact hrs r w
          · rw [List.mem_singleton.mp w]
            have hg := gdl (d := Rw.take 0) hyr
            cases hq : rows.getD y (.take 0) with
            | bin b x1 x2 =>
              rw [hq] at hg
              obtain ⟨p1, p2⟩ := hag y hys b x1 x2 hg
              exact ⟨b, x1, x2, rfl, p1, p2⟩
            | _ => rw [hq] at e; cases e
      · exact ⟨s8, vs, rs, eL8, pL, Nat.le_succ_of_le hvl, hrs⟩
    obtain ⟨s7, vs, rs, eL, pL, hvl, hrs⟩ := hP
    have b7 := b16.trans (Same.but (t := t) s7)
    have T7 := T6.same s7
    rw [hml] at hvl
    have hvr : vs.length = rs.length := pd_len pL
    clear s7 T6 b16 nL
    generalize Hx = H7 at b7 T7 eL
    have hw0 : ∀ {j : Nat}, decide (V.int (way : Int) = V.int (j : Int)) = decide (way = j) := fun {j} => by
      by_cases z : way = j
      · rw [decide_eq_true z, z]; exact decide_eq_true rfl
      · rw [decide_eq_false z]
        exact decide_eq_false fun q => z (by have := V.int.inj q; omega)
    -- once more
    refine ⟨fun σ Hx => σ = [some (.ref t), some (.ref ra), some (.ref sa), some (iv way), some (iv near), some (iv one), some (iv other), some (.ref L), none, none, none, none, none, none, none, none, none] ∧ But t H Hx ∧ Tape Hx t (c + 6), ?_, fun σ Hx hM => ?_⟩
    · refine ⟨_, rfl, _, _, rfl, rfl, _, rfl, ite2 (fun e => ?_) (fun e => ⟨rfl, b7, T7.mono (by omega)⟩)⟩
      refine ⟨.ref L, rfl, Nat.zero_le _, fun l nl => ?_⟩
      have sl := new_same (o := .lst []) nl
      have el : upd H7 l (.lst []) l = some (.lst []) := upd_same
      have b8 := b7.trans (Same.but (t := t) sl)
      have T8 := T7.same sl
      have eL8 := sl _ _ eL
      generalize upd H7 l (.lst []) = H8 at sl el b8 T8 eL8
      refine ⟨_, .list [], .lst (sqL eL8) (rows_dp (pd_mono pL fun _ _ z => z.same (gof b8))), .lst (sqL el) .nil, sh_rows _, sh_nil, _, rfl, ?_⟩
      show if (!PyData.eqv (.list (rs.map Rw.data)) (.list [])) = true then _ else _
      rw [neq_rows]
      refine ite2 (fun e2 => ?_) (fun e2 => ⟨rfl, b8, T8.mono (by omega)⟩)
      have hrn : rs ≠ [] := fun z => by rw [z] at e2; cases e2
      have hrp : 0 < rs.length := List.length_pos_iff.mpr hrn
      refine ⟨.ref L, rfl, .ref t, rfl, .ref L, rfl, L, vs, rfl, .inl (sqL eL8), t, _, c + 5, rfl, T8, by omega, by omega, by omega, fun r9 H9 h9 b9 T9 => ?_⟩
      have hr9 : r9 < vs.length := by omega
      have b19 := b8.trans b9
      obtain ⟨rw_, hrw1, hrw2⟩ := pd_at2 pL (List.getElem?_eq_getElem hr9)
      obtain ⟨bk, x, y, rfl, px, py⟩ := hrs rw_ (List.mem_of_getElem? hrw1)
      obtain ⟨z, zs, ez, hz, hzs⟩ := hrw2
      have hzs : zs = [iv x, iv y] := hzs
      subst hzs
      refine ⟨L, _, _, vs[r9], rfl, rfl, sqL (b9 _ _ nLt eL8), atI_nat (List.getElem?_eq_getElem hr9), ?_⟩
      refine ⟨z, _, ez, Same.tup (gof b19) hz, rfl, _, _, rfl, _, _, rfl, _, _, rfl, rfl, ?_⟩
      refine ⟨.str bk.w, rfl, szl (show 3 ≤ 1000000 by decide), fun T nT => ?_⟩
      have sT := new_same (o := .tup [.str "sum", .str "times", .str "same"]) nT
      have eT : upd H9 T (.tup [.str "sum", .str "times", .str "same"]) T = some (.tup [.str "sum", .str "times", .str "same"]) := upd_same
      have bT := b19.trans (Same.but (t := t) sT)
      have TT := T9.same sT
      generalize upd H9 T (.tup [.str "sum", .str "times", .str "same"]) = HT' at sT eT bT TT
      have f1 := fin (.bin bk y x) [iv y, iv x] HT' _ bT TT (by omega) (by simp) ⟨py, px⟩ rfl rfl
      have f2 := fin (.bin bk x y) [iv x, iv y] HT' _ bT TT (by omega) (by simp) ⟨px, py⟩ rfl rfl
      refine ⟨T, _, rfl, .inr (sqT eT), rfl, rfl, _, rfl, ite2 (fun e3 => ?_) (fun e3 => ⟨_, rfl, _, rfl, _, rfl, f2⟩)⟩
      exact ⟨_, rfl, rfl, _, rfl, ite2 (fun e4 => ⟨_, rfl, _, rfl, _, rfl, f1⟩) (fun e4 => ⟨_, rfl, _, rfl, _, rfl, f2⟩)⟩
    obtain ⟨rfl, b9, T9⟩ := hM
    clear eL pL hrs hvr b7 T7
    -- take
    refine ⟨iv way, rfl, rfl, _, rfl, ite2 (fun e => ?_) (fun e5 => ?_)⟩
    · exact ⟨.ref t, rfl, t, 2, c + 6, rfl, T9, by omega, by decide, by decide, fun r Hy hr' by_ Ty => fin (.take r) [iv r] Hy _ (b9.trans by_) Ty (by omega) (by simp) (show r < 6 by omega) rfl rfl⟩
    -- num
    refine ⟨iv way, rfl, rfl, _, rfl, ite2 (fun e => ?_) (fun e6 => ?_)⟩
    · refine ⟨1, rfl, szl (show 5 ≤ 1000000 by decide), fun l nl => ?_⟩
      have sl := new_same (o := .lst [.int 0, .int 1, .int 2, .int (-1), .int 5]) nl
      have nlt : l ≠ t := T9.ne nl
      refine ⟨.ref t, rfl, t, 5, c + 6, rfl, T9.same sl, by omega, by decide, by decide, fun r Hy hr' by_ Ty => ?_⟩
      have hb := (b9.trans (Same.but (t := t) sl)).trans by_
      obtain ⟨n, hn, hat⟩ : ∃ n : Int, (-10 ^ 12 ≤ n ∧ n ≤ 10 ^ 12) ∧ atI [V.int 0, .int 1, .int 2, .int (-1), .int 5] (r : Int) = some (.int n) := by
        have hr5 : r < 5 := by omega
        match r, hr5 with
        | 0, _ => exact ⟨0, by decide, atI_nat (j := 0) rfl⟩
        | 1, _ => exact ⟨1, by decide, atI_nat (j := 1) rfl⟩
        | 2, _ => exact ⟨2, by decide, atI_nat (j := 2) rfl⟩
        | 3, _ => exact ⟨-1, by decide, atI_nat (j := 3) rfl⟩
        | 4, _ => exact ⟨5, by decide, atI_nat (j := 4) rfl⟩
      exact ⟨l, _, _, _, rfl, rfl, sqL (by_ _ _ nlt upd_same), hat, fin (.num n) [.int n] Hy _ hb Ty (by omega) (by simp) hn rfl rfl⟩
    -- pick
    refine ⟨iv way, rfl, rfl, _, rfl, ite2 (fun e => ?_) (fun e7 => ?_)⟩
    · refine ⟨szl (show 4 ≤ 1000000 by decide), fun l nl => ?_⟩
      have sl := new_same (o := .lst [.int 1, .int 2, .int 3, .int 6]) nl
      have nlt : l ≠ t := T9.ne nl
      refine ⟨.ref t, rfl, t, 4, c + 6, rfl, T9.same sl, by omega, by decide, by decide, fun r Hy hr' by_ Ty => ?_⟩
      have hb := (b9.trans (Same.but (t := t) sl)).trans by_
      obtain ⟨n, hn1, hn2, hat⟩ : ∃ n : Nat, 1 ≤ n ∧ n ≤ 6 ∧ atI [V.int 1, .int 2, .int 3, .int 6] (r : Int) = some (iv n) := by
        have hr5 : r < 4 := by omega
        match r, hr5 with
        | 0, _ => exact ⟨1, by decide, by decide, atI_nat (j := 0) rfl⟩
        | 1, _ => exact ⟨2, by decide, by decide, atI_nat (j := 1) rfl⟩
        | 2, _ => exact ⟨3, by decide, by decide, atI_nat (j := 2) rfl⟩
        | 3, _ => exact ⟨6, by decide, by decide, atI_nat (j := 3) rfl⟩
      refine ⟨l, _, _, _, rfl, rfl, sqL (by_ _ _ nlt upd_same), hat, ?_⟩
      refine ⟨iv one, rfl, iv n, rfl, (n : Int), rfl, by omega, by omega, fun M nM => ?_⟩
      have nMt : M ≠ t := Ty.ne nM
      refine lc_range (lo := 0) (n := (n : Int).toNat) (fun i Hz => But t H Hz ∧ Tape Hz t (c + 7 + i) ∧ ∃ ps : List Nat, Hz M = some (.lst (ps.map iv)) ∧ ps.length = i ∧ ∀ y ∈ ps, y ∈ ss) ⟨hb.trans (Same.but (new_same nM)), Ty.same (new_same nM), [], upd_same, rfl, fun y hy => (by cases hy)⟩ (fun i Hz hi hP => ?_) (fun Hz hP => ?_)
      · obtain ⟨bz, Tz, ps, eM, hpl, hps⟩ := hP
        refine ⟨rfl, .ref sa, rfl, .ref t, rfl, .ref sa, rfl, sa, _, rfl, .inl (sqL (hbS bz)), t, _, c + 7 + i, rfl, Tz, by omega, by rw [hml]; omega, by rw [hml]; omega, fun r2 Hw h2 b2 T2 => ?_⟩
        obtain ⟨y, hy, ey⟩ := pick1 (r := r2) (by rw [hml] at h2; omega)
        have bw := bz.trans b2
        refine ⟨sa, _, _, _, rfl, rfl, sqL (hbS bw), atI_nat ey, _, b2 _ _ nMt eM, by rw [List.length_map]; exact szt (by omega), fun a o na z => ?_, ?_, ps ++ [y], by rw [upd_same, List.map_append]; rfl, by rw [List.length_append, hpl]; rfl, fun u hu => ?_⟩
        · by_cases zz : a = M
          · subst zz
            exact absurd (hb _ _ na z) (by rw [nM]; intro w; cases w)
          · rw [upd_ne zz]
            exact bw _ _ na z
        · obtain ⟨x, y, z, q1, q2⟩ := T2
          exact ⟨x, y, z, by rw [upd_ne nMt.symm]; exact q1, q2.1, q2.2.1, q2.2.2.1, q2.2.2.2.1, by have := q2.2.2.2.2; omega⟩
        · rcases List.mem_append.mp hu with w | w
          · exact hps u w
          · rw [List.mem_singleton.mp w]; exact hy
      · obtain ⟨bz, Tz, ps, eM, hpl, hps⟩ := hP
        refine ⟨M, _, rfl, .inl ⟨sqL eM, fun R nR => ?_⟩⟩
        have sR := new_same (o := .tup (ps.map iv)) nR
        have nRt : R ≠ t := Tz.ne nR
        exact fin (.pick one ps) [iv one, .ref R] _ _ (bz.trans (Same.but (t := t) sR)) (Tz.same sR) (by omega) (by simp) ⟨(hss one hone).2, fun y hy => (hss y (hps y hy)).2, fun z => by rw [z] at hpl; simp at hpl; omega, by omega⟩ rfl ⟨R, rfl, sqT (frz_at upd_same (by simpa using nRt))⟩
    have hway : way ≠ 3 ∧ way ≠ 4 ∧ way ≠ 5 := by
      refine ⟨fun z => ?_, fun z => ?_, fun z => ?_⟩
      · rw [z] at e5; exact e5 rfl
      · rw [z] at e6; exact e6 rfl
      · rw [z] at e7; exact e7 rfl
    clear e5 e6 e7
    -- little
    refine ⟨fun σ Hx => ∃ lb : Bool, σ = [some (.ref t), some (.ref ra), some (.ref sa), some (iv way), some (iv near), some (iv one), some (iv other), some (.ref L), none, none, some (.bl lb), none, none, none, none, none, none] ∧ But t H Hx ∧ Tape Hx t (c + 6), ?_, fun σ Hx hM => ?_⟩
    · refine ⟨iv one, rfl, iv other, rfl, szl (show 2 ≤ 1000000 by decide), fun T nT => ?_⟩
      have sT := new_same (o := .tup [iv one, iv other]) nT
      have eT : upd Hx T (.tup [iv one, iv other]) T = some (.tup [iv one, iv other]) := upd_same
      have bT := b9.trans (Same.but (t := t) sT)
      have TT := T9.same sT
      generalize upd Hx T (.tup [iv one, iv other]) = Hy at sT eT bT TT
      refine ⟨T, rfl, ⟨_, sqT eT⟩, fun M nM => ?_⟩
      refine lc_tup (K := K) (a := T) (xs := [iv one, iv other]) (fun i Hz => Same Hy Hz ∧ ∃ bs : List Bool, Hz M = some (.lst (bs.map V.bl)) ∧ bs.length ≤ i) ⟨new_same nM, [], upd_same, Nat.le_refl _⟩ (fun i Hz _ hP => sqT (hP.1 _ _ eT)) (fun i x Hz hx hP => ?_) (fun Hz hP => ?_)
      · obtain ⟨sz, bs, eM, hbl⟩ := hP
        obtain ⟨y, hys, rfl⟩ : ∃ y, y ∈ ss ∧ x = iv y := by
          match i, hx with
          | 0, hx => exact ⟨one, hone, (Option.some.inj hx).symm⟩
          | 1, hx => exact ⟨other, hother, (Option.some.inj hx).symm⟩
        have hi2 : i < 2 := (List.getElem?_eq_some_iff.mp hx).1
        have hyr := (hss y hys).1
        obtain ⟨u, hu1, z, zs, rfl, hz, _⟩ := pd_at hP0 (gdl (d := Rw.take 0) hyr)
        have bz := bT.trans (Same.but (t := t) sz)
        refine ⟨rfl, .ref ra, rfl, iv y, rfl, ra, us, _, .ref z, rfl, rfl, sqL (hbR bz), atI_nat hu1, z, _, _, _, rfl, rfl, Same.tup (gof bz) hz, atI_nat (j := 0) rfl, szl (show 3 ≤ 1000000 by decide), fun T2 nT2 => ?_⟩
        have sT2 := new_same (o := .tup [.str "take", .str "same", .str "below"]) nT2
        have eT2 : upd Hz T2 (.tup [.str "take", .str "same", .str "below"]) T2 = some (.tup [.str "take", .str "same", .str "below"]) := upd_same
        have eM2 := sT2 _ _ eM
        have sz2 := sz.trans sT2
        generalize upd Hz T2 (.tup [.str "take", .str "same", .str "below"]) = Hw at sT2 eT2 eM2 sz2
        refine ⟨T2, _, rfl, .inr (sqT eT2), rfl, rfl, _, eM2, by rw [List.length_map]; exact szt (by omega), fun b o z => ?_, bs ++ [_], by rw [upd_same, List.map_append]; rfl, by rw [List.length_append]; exact Nat.add_le_add_right hbl 1⟩
        rw [upd_ne (ne_of_none z nM)]
        exact sz2 _ _ z
      obtain ⟨sz, bs, eM, hbl⟩ := hP
      have bz := bT.trans (Same.but (t := t) sz)
      have Tz := TT.same sz
      refine ⟨M, bs, rfl, sqL eM, _, rfl, ite2 (fun e => ⟨true, rfl, bz, Tz⟩) (fun e => ?_)⟩
      obtain ⟨u, hu1, z, zs, rfl, hz, _⟩ := pd_at hP0 (gdl (d := Rw.take 0) (hss one hone).1)
      exact ⟨.ref ra, rfl, iv one, rfl, ra, us, _, .ref z, rfl, rfl, sqL (hbR bz), atI_nat hu1, z, _, _, _, rfl, rfl, Same.tup (gof bz) hz, atI_nat (j := 0) rfl, rfl, _, rfl, bz, Tz⟩
    obtain ⟨lb, rfl, b9, T9⟩ := hM
    -- kinds
    refine ⟨fun σ Hx => ∃ (KL : Addr) (kb : Bk), σ = [some (.ref t), some (.ref ra), some (.ref sa), some (iv way), some (iv near), some (iv one), some (iv other), some (.ref L), none, none, some (.bl lb), some (.ref KL), none, none, none, none, none] ∧ But t H Hx ∧ Tape Hx t (c + 6) ∧ KL ≠ t ∧ Hx KL = some (.lst [V.str kb.w, .str "same", .str "below", .str "less", .str "look", .str "lay"]), ?_, fun σ Hx hM => ?_⟩
    · refine ⟨.bl lb, rfl, lb, rfl, ite2 (fun e => ?_) (fun e => ?_)⟩
      · exact ⟨szl (show 6 ≤ 1000000 by decide), fun KL nK => ⟨KL, .times, rfl, b9.trans (Same.but (new_same nK)), T9.same (new_same nK), T9.ne nK, upd_same⟩⟩
      · exact ⟨szl (show 6 ≤ 1000000 by decide), fun KL nK => ⟨KL, .sum, rfl, b9.trans (Same.but (new_same nK)), T9.same (new_same nK), T9.ne nK, upd_same⟩⟩
    obtain ⟨KL, kb, rfl, b9, T9, nK, eK⟩ := hM
    -- tell
    refine ⟨fun σ Hx => σ = [some (.ref t), some (.ref ra), some (.ref sa), some (iv way), some (iv near), some (iv one), some (iv other), some (.ref L), none, none, some (.bl lb), some (.ref KL), none, none, none, none, none] ∧ But t H Hx ∧ Tape Hx t (c + 7) ∧ Hx KL = some (.lst [V.str kb.w, .str "same", .str "below", .str "less", .str "look", .str "lay"]), ?_, fun σ Hx hM => ?_⟩
    · refine ⟨iv way, rfl, rfl, _, rfl, ite2 (fun e => ?_) (fun e => ⟨rfl, b9, T9.mono (by omega), eK⟩)⟩
      refine ⟨.ref t, rfl, t, 2, c + 6, rfl, T9, by omega, by decide, by decide, fun r Hy hr' by_ Ty => ⟨rfl, _, rfl, ite2 (fun e => ?_) (fun e => ⟨rfl, b9.trans by_, Ty, by_ _ _ nK eK⟩)⟩⟩
      exact ⟨iv one, rfl, fin (.tell one) [iv one] Hy _ (b9.trans by_) Ty (by omega) (by simp) (hss one hone).2 rfl rfl⟩
    obtain ⟨rfl, ba, Ta, eK⟩ := hM
    clear b9 T9
    -- the kind, the first room
    refine ⟨fun σ Hx => ∃ (kw : Str) (fi : Nat), KwOk kw ∧ fi < 6 ∧ σ = [some (.ref t), some (.ref ra), some (.ref sa), some (iv way), some (iv near), some (iv one), some (iv other), some (.ref L), some (.str kw), none, some (.bl lb), some (.ref KL), some (iv fi), none, none, none, none] ∧ But t H Hx ∧ Tape Hx t (c + 8), ?_, fun σ Hx hM => ?_⟩
    · refine ⟨.ref KL, rfl, iv way, rfl, _, _, rfl, rfl, _, rfl, ite2 (fun e => ?_) (fun e => ?_)⟩
      · have hw5 : 5 < way := by have := of_decide_eq_true e; omega
        obtain ⟨kw, hkw, hat⟩ : ∃ kw : Str, KwOk kw ∧ atI [V.str kb.w, .str "same", .str "below", .str "less", .str "look", .str "lay"] (((way - 6) : Nat) : Int) = some (.str kw) := by
          match hj : (way - 6), (show (way - 6) < 6 by omega) with
          | 0, _ => exact ⟨kb.w, .inl ⟨kb, rfl⟩, atI_nat (j := 0) rfl⟩
          | 1, _ => exact ⟨"same", .inl ⟨.same, rfl⟩, atI_nat (j := 1) rfl⟩
          | 2, _ => exact ⟨"below", .inl ⟨.below, rfl⟩, atI_nat (j := 2) rfl⟩
          | 3, _ => exact ⟨"less", .inl ⟨.less, rfl⟩, atI_nat (j := 3) rfl⟩
          | 4, _ => exact ⟨"look", .inr (.inl rfl), atI_nat (j := 4) rfl⟩
          | 5, _ => exact ⟨"lay", .inr (.inr rfl), atI_nat (j := 5) rfl⟩
        have hat2 : atI [V.str kb.w, .str "same", .str "below", .str "less", .str "look", .str "lay"] ((way : Int) - 6) = some (.str kw) := by rw [← hat]; congr 1; omega
        refine ⟨iv way, rfl, _, _, rfl, rfl, ?_⟩
        refine ⟨KL, _, _, .str kw, rfl, rfl, sqL eK, hat2, .ref t, rfl, t, 6, c + 7, rfl, Ta, by omega, by decide, by decide, fun fi Hc hfi bc Tc => ?_⟩
        refine ⟨szl (show 2 ≤ 1000000 by decide), fun T nT => ?_⟩
        have sT := new_same (o := .tup [.str kw, iv fi]) nT
        exact ⟨T, _, rfl, sqT upd_same, rfl, _, _, rfl, _, _, rfl, rfl, kw, fi, hkw, by omega, rfl, (ba.trans bc).trans (Same.but (t := t) sT), Tc.same sT⟩
      · have hat2 : atI [V.str kb.w, .str "same", .str "below", .str "less", .str "look", .str "lay"] (3 : Int) = some (.str "less") := atI_nat (j := 3) rfl
        have hkw : KwOk "less" := .inl ⟨.less, rfl⟩
        refine ⟨KL, _, _, .str "less", rfl, rfl, sqL eK, hat2, .ref t, rfl, t, 6, c + 7, rfl, Ta, by omega, by decide, by decide, fun fi Hc hfi bc Tc => ?_⟩
        refine ⟨szl (show 2 ≤ 1000000 by decide), fun T nT => ?_⟩
        have sT := new_same (o := .tup [.str "less", iv fi]) nT
        exact ⟨T, _, rfl, sqT upd_same, rfl, _, _, rfl, _, _, rfl, rfl, "less", fi, hkw, by omega, rfl, (ba.trans bc).trans (Same.but (t := t) sT), Tc.same sT⟩
    obtain ⟨kw, fi, hkw, hfi, rfl, ba, Ta⟩ := hM
    clear eK
    -- steps, how many
    refine ⟨szl (show 2 ≤ 1000000 by decide), fun l1 n1 => ?_⟩
    have s1 := new_same (o := .lst [.int 1, .int 5]) n1
    have nl1 : l1 ≠ t := Ta.ne n1
    refine ⟨.ref t, rfl, t, 2, c + 8, rfl, Ta.same s1, by omega, by decide, by decide, fun r2 H2 h2 b2 T2 => ?_⟩
    obtain ⟨st, hst, hat⟩ : ∃ st : Nat, (st = 1 ∨ st = 5) ∧ atI [V.int 1, .int 5] (r2 : Int) = some (iv st) := by
      have : r2 = 0 ∨ r2 = 1 := by omega
      rcases this with rfl | rfl
      · exact ⟨1, .inl rfl, atI_nat (j := 0) rfl⟩
      · exact ⟨5, .inr rfl, atI_nat (j := 1) rfl⟩
    refine ⟨l1, _, _, _, rfl, rfl, sqL (b2 _ _ nl1 upd_same), hat, szl (show 5 ≤ 1000000 by decide), fun l3 n3 => ?_⟩
    have s3 := new_same (o := .lst [.int 1, .int 1, .int 2, .int 3, .int 4]) n3
    have nl3 : l3 ≠ t := T2.ne n3
    refine ⟨.ref t, rfl, t, 5, c + 9, rfl, T2.same s3, by omega, by decide, by decide, fun r4 H4 h4 b4 T4 => ?_⟩
    obtain ⟨mn, hm1, hm2, hat3⟩ : ∃ mn : Nat, 1 ≤ mn ∧ mn ≤ 4 ∧ atI [V.int 1, .int 1, .int 2, .int 3, .int 4] (r4 : Int) = some (iv mn) := by
      have hr5 : r4 < 5 := by omega
      match r4, hr5 with
      | 0, _ => exact ⟨1, by decide, by decide, atI_nat (j := 0) rfl⟩
      | 1, _ => exact ⟨1, by decide, by decide, atI_nat (j := 1) rfl⟩
      | 2, _ => exact ⟨2, by decide, by decide, atI_nat (j := 2) rfl⟩
      | 3, _ => exact ⟨3, by decide, by decide, atI_nat (j := 3) rfl⟩
      | 4, _ => exact ⟨4, by decide, by decide, atI_nat (j := 4) rfl⟩
    refine ⟨l3, _, _, _, rfl, rfl, sqL (b4 _ _ nl3 upd_same), hat3, szl (show 2 ≤ 1000000 by decide), fun T5 n5 => ?_⟩
    have s5 := new_same (o := .tup [iv st, iv mn]) n5
    have e5 : upd H4 T5 (.tup [iv st, iv mn]) T5 = some (.tup [iv st, iv mn]) := upd_same
    have b5 : But t H (upd H4 T5 (.tup [iv st, iv mn])) := (((ba.trans (Same.but s1)).trans b2).trans (Same.but s3)).trans (b4.trans (Same.but s5))
    have T5' := T4.same s5
    generalize upd H4 T5 (.tup [iv st, iv mn]) = H5 at e5 b5 T5'
    refine ⟨T5, _, rfl, sqT e5, rfl, _, _, rfl, _, _, rfl, rfl, ?_⟩
    clear s1 s3 s5 b2 b4 T2 T4 ba Ta hat hat3 n1 n3 n5 nl1 nl3
    -- no rooms
    refine ⟨.str kw, rfl, szl (show 2 ≤ 1000000 by decide), fun T6 n6 => ?_⟩
    have s6 := new_same (o := .tup [.str "look", .str "lay"]) n6
    have e6 : upd H5 T6 (.tup [.str "look", .str "lay"]) T6 = some (.tup [.str "look", .str "lay"]) := upd_same
    have b6 := b5.trans (Same.but (t := t) s6)
    have T6' := T5'.same s6
    generalize upd H5 T6 (.tup [.str "look", .str "lay"]) = H6 at s6 e6 b6 T6'
    refine ⟨T6, _, rfl, .inr (sqT e6), rfl, rfl, _, rfl, ?_⟩
    show if (!inV (.str kw) [.str "look", .str "lay"]) = true then _ else _
    obtain ⟨r1, r2, r3, r4⟩ := rooms_ok hfi hst hm1 hm2
    rcases hkw with ⟨bk, rfl⟩ | hkw
    · have hin : (!inV (.str bk.w) [.str "look", .str "lay"]) = true := by cases bk <;> rfl
      rw [hin]
      exact ⟨_, rfl, _, rfl, _, rfl, fin (.bin bk one other) [iv one, iv other] H6 _ b6 T6' (by omega) (by simp) ⟨(hss one hone).2, (hss other hother).2⟩ rfl rfl⟩
    have hin : (!inV (.str kw) [.str "look", .str "lay"]) = false := by rcases hkw with rfl | rfl <;> decide +kernel
    rw [hin]
    refine ⟨.str kw, rfl, iv mn, rfl, (mn : Int), rfl, by omega, by omega, fun M nM => ?_⟩
    refine lc_range (lo := 0) (n := (mn : Int).toNat) (fun i Hz => Same H6 Hz ∧ Hz M = some (.lst (((List.range i).map fun k => (fi + st * k) % 6).map iv))) ⟨new_same nM, upd_same⟩ (fun i Hz hi hP => ?_) (fun Hz hP => ?_)
    · obtain ⟨sz, eM⟩ := hP
      have hst5 : st ≤ 5 := by omega
      refine ⟨rfl, iv fi, rfl, iv st, rfl, _, rfl, _, _, rfl, rfl, .inl ⟨by omega, by omega⟩, _, _, rfl, rfl, _, _, rfl, rfl, (by decide : (0 : Int) < 6), _, eM, by rw [List.length_map, List.length_map, List.length_range]; exact szt (by omega), fun b o z => ?_, ?_⟩
      · rw [upd_ne (ne_of_none z nM)]
        exact sz _ _ z
      · rw [upd_same, List.range_succ, List.map_append, List.map_append]
        have ev : V.int (((fi : Int) + (st : Int) * (0 + (i : Int))) % 6) = iv ((fi + st * i) % 6) := by
          rw [Int.zero_add]
          show V.int _ = V.int (((fi + st * i) % 6 : Nat) : Int)
          rw [Int.natCast_emod, Int.natCast_add, Int.natCast_mul]
          rfl
        show some (HO.lst (List.map iv (List.map (fun k => (fi + st * k) % 6) (List.range i)) ++ [V.int (((fi : Int) + (st : Int) * (0 + (i : Int))) % 6)])) = _
        rw [ev]
        rfl
    obtain ⟨sz, eM⟩ := hP
    rw [Int.toNat_natCast] at eM
    have eM : Hz M = some (.lst ((rmL fi st mn).map iv)) := eM
    have bz := b6.trans (Same.but (t := t) sz)
    have Tz := T6'.same sz
    refine ⟨M, _, rfl, .inl ⟨sqL eM, fun R nR => ?_⟩⟩
    have sR := new_same (o := .tup ((rmL fi st mn).map iv)) nR
    have nRt : R ≠ t := Tz.ne nR
    have bR := bz.trans (Same.but (t := t) sR)
    have TR := Tz.same sR
    have eR : frz [t] (upd Hz R (.tup ((rmL fi st mn).map iv))) R = some (.tup ((rmL fi st mn).map iv)) := frz_at upd_same (by simpa using nRt)
    generalize upd Hz R (.tup ((rmL fi st mn).map iv)) = H8 at sR bR TR eR
    have f2 := fin (.lay (rmL fi st mn) one other) [.ref R, iv one, iv other] H8 _ bR TR (by omega) (by simp) ⟨(hss one hone).2, (hss other hother).2, r1, r2, r3, r4⟩ rfl ⟨R, rfl, sqT eR⟩
    refine ⟨iv one, rfl, iv other, rfl, szl (show 4 ≤ 1000000 by decide), fun T9 n9 => ?_⟩
    rcases hkw with rfl | rfl
    · have s9 := new_same (o := .tup [.str "look", .ref R, iv one, iv other]) n9
      have f1 := fin (.look (rmL fi st mn) one) [.ref R, iv one] _ _ (bR.trans (Same.but (t := t) s9)) (TR.same s9) (by omega) (by simp) ⟨(hss one hone).2, r1, r2, r3, r4⟩ rfl ⟨R, rfl, sqT (Bm.frz (Bm.of_same s9) _ _ eR)⟩
      refine ⟨.str "look", rfl, rfl, .inr ⟨_, rfl, ?_⟩⟩
      rw [show decide (V.str "look" = V.str "lay") = false from by decide +kernel]
      refine ⟨_, _, rfl, rfl, _, rfl, T9, _, rfl, sqT upd_same, fun hwh => ?_, fun hnw p np => ?_⟩
      · exact absurd hwh (show ¬ (HT.sIx 4 0 none = 0 ∧ HT.sIx 4 4 (some 3) = 4) by decide)
      · exact f1.2 p np
    · refine ⟨.str "lay", rfl, rfl, .inr ⟨_, rfl, ?_⟩⟩
      rw [show decide (V.str "lay" = V.str "lay") = true from decide_eq_true rfl]
      refine ⟨_, _, rfl, rfl, _, rfl, T9, _, rfl, sqT upd_same, fun hwh => f2.2 T9 n9, fun hnw p np => ?_⟩
      exact absurd (show (HT.sIx 4 0 none = 0 ∧ HT.sIx 4 4 (some 4) = 4) by decide) hnw
end
end Gn
set_option Elab.async false
set_option linter.all false
set_option maxRecDepth 100000
set_option maxHeartbeats 8000000
set_option pp.maxSteps 300
namespace Gn
open PySem PySem.Spec PyProof.Rows L2
/-! ### programs -/
inductive En | go (b : Nat) | iff (r b c : Nat) | fin
def EnAt (K : PySem.W.Frag) (H : Hp) (v : V) : En → Prop
  | .go b => ∃ p, v = .ref p ∧ SqT K H p [.str "go", iv b]
  | .iff r b c => ∃ p, v = .ref p ∧ SqT K H p [.str "if", iv r, iv b, iv c]
  | .fin => ∃ p, v = .ref p ∧ SqT K H p [.str "end"]
abbrev Blk := List Rw × En
theorem EnAt.same {K : PySem.W.Frag} {H H' : Hp} {v : V} {e : En} (h : EnAt K H v e) (g : Same H H') : EnAt K H' v e := by
  cases e <;> (obtain ⟨p, h1, h2⟩ := h; exact ⟨p, h1, Same.tup g h2⟩)
def EnB (m n : Nat) : En → Prop
  | .go b => b < m
  | .iff r b c => r < n ∧ b < m ∧ c < m
  | .fin => True
def BlkB (m n : Nat) (b : Blk) : Prop := b.1.length ≤ n ∧ (∀ r ∈ b.1, RwA (· < n) r) ∧ EnB m n b.2
/-- a block, its rows in a list of its own -/
def BkM (K : PySem.W.Frag) (F H : Hp) (q : Addr × Addr) (b : Blk) : Prop := ∃ ea vs, SqT K F q.1 [.ref q.2, ea] ∧ H q.2 = some (.lst vs) ∧ Paired (RowAt K F) vs b.1 ∧ EnAt K F ea b.2
/-- a program whose lists may be changed -/
structure PgM (K : PySem.W.Frag) (t fo : Addr) (H : Hp) (qs : List (Addr × Addr)) (pr : List Blk) : Prop where
  top : H fo = some (.lst (qs.map fun q => V.ref q.1))
  nt : fo ≠ t
  nd : (qs.map (·.2)).Nodup
  nf : ∀ q ∈ qs, q.2 ≠ fo ∧ q.2 ≠ t
  bk : Paired (BkM K (frz [t] H) H) qs pr
/-! ### while rows grow -/
structure S1 (K : PySem.W.Frag) (G : Hp) (t bg ra ba : Addr) (H : Hp) (c : Nat) (rows : List Rw) (blocks begins : List Nat) : Prop where
  tape : Tape H t c
  g : Same G H
  bgd : H bg = some (.lst (begins.map iv))
  rw_ : ∃ us, frz [t, bg] H ra = some (.lst us) ∧ Paired (RowAt K (frz [t, bg] H)) us rows
  bl : frz [t, bg] H ba = some (.lst (blocks.map iv))
  gr : G ra = none
  nab : ra ≠ ba
/-- what stays as it is -/
structure S0 (G : Hp) (t bg na : Addr) (nx : List (List Nat)) : Prop where
  gt : G t = none
  gb : G bg = none
  ne : t ≠ bg
  nr : NR G na nx
  nx_ : nx ∈ NX
theorem S1.but {K : PySem.W.Frag} {G : Hp} {t bg ra ba na : Addr} {H H' : Hp} {c c' : Nat} {rows : List Rw} {blocks begins : List Nat} {nx : List (List Nat)} (s : S1 K G t bg ra ba H c rows blocks begins) (z : S0 G t bg na nx) (b : But t H H') (T : Tape H' t c') : S1 K G t bg ra ba H' c' rows blocks begins := by
  have f : Same (frz [t, bg] H) (frz [t, bg] H') := Bm.frz (Bm.of_but b (by simp))
  obtain ⟨us, h1, h2⟩ := s.rw_
  exact ⟨T, Same.bt s.g z.gt b, b _ _ z.ne.symm s.bgd, ⟨us, f _ _ h1, pd_mono h2 fun _ _ y => y.same f⟩, f _ _ s.bl, s.gr, s.nab⟩
theorem S1.same {K : PySem.W.Frag} {G : Hp} {t bg ra ba na : Addr} {H H' : Hp} {c : Nat} {rows : List Rw} {blocks begins : List Nat} {nx : List (List Nat)} (s : S1 K G t bg ra ba H c rows blocks begins) (z : S0 G t bg na nx) (e : Same H H') : S1 K G t bg ra ba H' c rows blocks begins :=
  s.but z (Same.but e) (s.tape.same e)
theorem S1.mono {K : PySem.W.Frag} {G : Hp} {t bg ra ba : Addr} {H : Hp} {c c' : Nat} {rows : List Rw} {blocks begins : List Nat} (s : S1 K G t bg ra ba H c rows blocks begins) (h : c ≤ c') : S1 K G t bg ra ba H c' rows blocks begins :=
  ⟨s.tape.mono h, s.g, s.bgd, s.rw_, s.bl, s.gr, s.nab⟩
theorem frz_le {t bg : Addr} {H : Hp} : Same (frz [t, bg] H) (frz [t] H) := fun a o e => by
  have h1 := frz_mem e
  simp only [List.mem_cons, List.not_mem_nil, or_false, not_or] at h1
  exact frz_at (frz_same _ _ _ _ e) (by simpa using h1.1)
theorem frz_ne2 {t bg a : Addr} {H : Hp} {o : HO} (e : frz [t, bg] H a = some o) : a ≠ t ∧ a ≠ bg := by
  have h1 := frz_mem e
  simp only [List.mem_cons, List.not_mem_nil, or_false, not_or] at h1
  exact h1
theorem frz2 {t bg a : Addr} {H : Hp} {o : HO} (h : H a = some o) (n1 : a ≠ t) (n2 : a ≠ bg) : frz [t, bg] H a = some o := frz_at h (by simp [n1, n2])
theorem Bm_upd {M : List Addr} {H : Hp} {a : Addr} {o : HO} (h : a ∈ M) : Bm M H (upd H a o) := fun x u n e => by
  rw [upd_ne (fun z : x = a => n (by rw [z]; exact h))]
  exact e
theorem S1.bgn {K : PySem.W.Frag} {G : Hp} {t bg ra ba na : Addr} {H : Hp} {c z : Nat} {rows : List Rw} {blocks begins : List Nat} {nx : List (List Nat)} (s : S1 K G t bg ra ba H c rows blocks begins) (w : S0 G t bg na nx) : S1 K G t bg ra ba (upd H bg (.lst (begins.map iv ++ [iv z]))) c rows blocks (begins ++ [z]) := by
  have f : Same (frz [t, bg] H) (frz [t, bg] (upd H bg (.lst (begins.map iv ++ [iv z])))) := Bm.frz (Bm_upd (by simp))
  obtain ⟨us, h1, h2⟩ := s.rw_
  refine ⟨?_, Same.upd s.g w.gb, by rw [upd_same, List.map_append]; rfl, ⟨us, f _ _ h1, pd_mono h2 fun _ _ y => y.same f⟩, f _ _ s.bl, s.gr, s.nab⟩
  obtain ⟨x, y, n, a, r⟩ := s.tape
  exact ⟨x, y, n, by rw [upd_ne w.ne]; exact a, r⟩
theorem tup_frz2 {K : PySem.W.Frag} {H : Hp} {t bg a : Addr} {xs ys : List V} (h : SqT K (frz [t] H) a xs) (e : H bg = some (.lst ys)) : SqT K (frz [t, bg] H) a xs := by
  rcases h with (h | ⟨u, h⟩) | h
  · refine .inl (.inl (frz2 (frz_same _ _ _ _ h) (by simpa using frz_mem h) fun z => ?_))
    have := frz_same _ _ _ _ h
    rw [z, e] at this
    cases this
  · refine .inl (.inr ⟨u, frz2 (frz_same _ _ _ _ h) (by simpa using frz_mem h) fun z => ?_⟩)
    have := frz_same _ _ _ _ h
    rw [z, e] at this
    cases this
  · exact .inr h
theorem row_tups {K : PySem.W.Frag} {H H' : Hp} {v : V} {r : Rw} (h : RowAt K H v r) (g : ∀ {a : Addr} {xs : List V}, SqT K H a xs → SqT K H' a xs) : RowAt K H' v r := by
  obtain ⟨p, xs, h1, h2, h3⟩ := h
  refine ⟨p, xs, h1, g h2, ?_⟩
  cases r with
  | pick x ps =>
    obtain ⟨q, h4, h5⟩ := h3
    exact ⟨q, h4, g h5⟩
  | meet ps =>
    obtain ⟨q, h4, h5⟩ := h3
    exact ⟨q, h4, g h5⟩
  | look rs x =>
    obtain ⟨q, h4, h5⟩ := h3
    exact ⟨q, h4, g h5⟩
  | lay rs x y =>
    obtain ⟨q, h4, h5⟩ := h3
    exact ⟨q, h4, g h5⟩
  | _ => exact h3
theorem row_frz2 {K : PySem.W.Frag} {H : Hp} {t bg : Addr} {v : V} {r : Rw} {ys : List V} (h : RowAt K (frz [t] H) v r) (e : H bg = some (.lst ys)) : RowAt K (frz [t, bg] H) v r := row_tups h fun z => tup_frz2 z e
theorem S1.grow {K : PySem.W.Frag} {G : Hp} {t bg ra ba na ra' ba' : Addr} {H Hf : Hp} {c c' b : Nat} {rows : List Rw} {blocks begins : List Nat} {nx : List (List Nat)} {us : List V} {v : V} {r : Rw} (s : S1 K G t bg ra ba H c rows blocks begins) (w : S0 G t bg na nx) (bt : But t H Hf) (T : Tape Hf t c')
    (hp : Paired (RowAt K (frz [t, bg] H)) us rows) (hv : RowAt K (frz [t, bg] Hf) v r) (er : Hf ra' = some (.lst (us ++ [v]))) (n1 : ra' ≠ t) (n2 : ra' ≠ bg) (eb : Hf ba' = some (.lst (blocks.map iv ++ [iv b]))) (n3 : ba' ≠ t) (n4 : ba' ≠ bg) (hgr : G ra' = none) (hnab : ra' ≠ ba') : S1 K G t bg ra' ba' Hf c' (rows ++ [r]) (blocks ++ [b]) begins := by
  have f : Same (frz [t, bg] H) (frz [t, bg] Hf) := Bm.frz (Bm.of_but bt (by simp))
  exact ⟨T, Same.bt s.g w.gt bt, bt _ _ w.ne.symm s.bgd, ⟨us ++ [v], frz2 er n1 n2, pd_app (pd_mono hp fun _ _ y => y.same f) (.cons hv .nil)⟩, frz2 (by rw [eb, List.map_append]; rfl) n3 n4, hgr, hnab⟩
theorem tup_frz_upd {K : PySem.W.Frag} {M : List Addr} {H : Hp} {ra a : Addr} {xs us : List V} {o : HO} (h : SqT K (frz M H) a xs) (e : H ra = some (.lst us)) : SqT K (frz M (upd H ra o)) a xs := by
  rcases h with (h | ⟨u, h⟩) | h
  · have h2 := frz_same _ _ _ _ h
    refine .inl (.inl (frz_at (by rw [upd_ne (fun z => by rw [z, e] at h2; cases h2)]; exact h2) (frz_mem h)))
  · have h2 := frz_same _ _ _ _ h
    refine .inl (.inr ⟨u, frz_at (by rw [upd_ne (fun z => by rw [z, e] at h2; cases h2)]; exact h2) (frz_mem h)⟩)
  · exact .inr h
theorem pd_set {α β : Type} {F : α → β → Prop} {a : α} {b : β} (hf : F a b) : ∀ {l : List α} {m : List β} (i : Nat), Paired F l m → Paired F (l.set i a) (m.set i b)
  | _, _, _, .nil => .nil
  | _, _, 0, .cons h t => .cons hf t
  | _, _, i + 1, .cons h t => .cons h (pd_set hf i t)
theorem S1.setrow {K : PySem.W.Frag} {G : Hp} {t bg ra ba na : Addr} {H : Hp} {c i : Nat} {rows : List Rw} {blocks begins : List Nat} {nx : List (List Nat)} {us : List V} {v : V} {r : Rw} (s : S1 K G t bg ra ba H c rows blocks begins) (w : S0 G t bg na nx)
    (er : H ra = some (.lst us)) (hp : Paired (RowAt K (frz [t, bg] H)) us rows) (hv : RowAt K (frz [t, bg] H) v r) : S1 K G t bg ra ba (upd H ra (.lst (us.set i v))) c (rows.set i r) blocks begins := by
  obtain ⟨us', h1, _⟩ := s.rw_
  obtain ⟨n1, n2⟩ := frz_ne2 h1
  obtain ⟨n3, n4⟩ := frz_ne2 s.bl
  have g : ∀ {a : Addr} {xs : List V}, SqT K (frz [t, bg] H) a xs → SqT K (frz [t, bg] (upd H ra (.lst (us.set i v)))) a xs := fun h => tup_frz_upd h er
  refine ⟨?_, Same.upd s.g s.gr, by rw [upd_ne n2.symm]; exact s.bgd, ⟨us.set i v, frz2 upd_same n1 n2, pd_mono (pd_set hv i hp) fun _ _ y => row_tups y g⟩, frz2 (by rw [upd_ne s.nab.symm]; exact frz_same _ _ _ _ s.bl) n3 n4, s.gr, s.nab⟩
  obtain ⟨x, y, n, a, q⟩ := s.tape
  exact ⟨x, y, n, by rw [upd_ne n1.symm]; exact a, q⟩
theorem isM_dec (r : Rw) : decide (V.str r.w = V.str "meet") = r.isM := by
  cases r with
  | bin b x y => cases b <;> rfl
  | meet ps => exact decide_eq_true rfl
  | take _ => rfl
  | num _ => rfl
  | pick _ _ => rfl
  | tell _ => rfl
  | look _ _ => rfl
  | lay _ _ _ => rfl
theorem en_tups {K : PySem.W.Frag} {H H' : Hp} {v : V} {e : En} (h : EnAt K H v e) (g : ∀ {a : Addr} {xs : List V}, SqT K H a xs → SqT K H' a xs) : EnAt K H' v e := by
  cases e <;> (obtain ⟨p, h1, h2⟩ := h; exact ⟨p, h1, g h2⟩)
theorem BkM.upd {K : PySem.W.Frag} {t a : Addr} {H : Hp} {q : Addr × Addr} {b : Blk} {us : List V} {o : HO} (h : BkM K (frz [t] H) H q b) (e : H a = some (.lst us)) (n : q.2 ≠ a) : BkM K (frz [t] (upd H a o)) (upd H a o) q b := by
  obtain ⟨ea, vs, h1, h2, h3, h4⟩ := h
  have g : ∀ {x : Addr} {xs : List V}, SqT K (frz [t] H) x xs → SqT K (frz [t] (L2.upd H a o)) x xs := fun z => tup_frz_upd z e
  exact ⟨ea, vs, g h1, by rw [upd_ne n]; exact h2, pd_mono h3 fun _ _ y => row_tups y g, en_tups h4 g⟩
theorem BkM.but {K : PySem.W.Frag} {t : Addr} {H H' : Hp} {q : Addr × Addr} {b : Blk} (h : BkM K (frz [t] H) H q b) (bt : But t H H') (n : q.2 ≠ t) : BkM K (frz [t] H') H' q b := by
  obtain ⟨ea, vs, h1, h2, h3, h4⟩ := h
  have f : Same (frz [t] H) (frz [t] H') := Bm.frz (Bm.of_but bt (by simp))
  exact ⟨ea, vs, Same.tup f h1, bt _ _ n h2, pd_mono h3 fun _ _ y => y.same f, h4.same f⟩
theorem pd_memmono {α β : Type} {F G : α → β → Prop} : ∀ {l : List α} {m : List β}, Paired F l m → (∀ a b, a ∈ l → F a b → G a b) → Paired G l m
  | _, _, .nil, _ => .nil
  | _, _, .cons h t, g => .cons (g _ _ List.mem_cons_self h) (pd_memmono t fun a b ha => g a b (List.mem_cons_of_mem _ ha))
theorem pd_mem {α β : Type} {F : α → β → Prop} {a : α} : ∀ {l : List α} {m : List β}, Paired F l m → a ∈ l → ∃ b, b ∈ m ∧ F a b
  | _, _, .nil, h => by cases h
  | _, _, .cons (b := b) h t, hm => by
    rcases List.mem_cons.mp hm with rfl | hm
    · exact ⟨b, List.mem_cons_self, h⟩
    · obtain ⟨b', h1, h2⟩ := pd_mem t hm
      exact ⟨b', List.mem_cons_of_mem _ h1, h2⟩
theorem PgM.but {K : PySem.W.Frag} {t fo : Addr} {H H' : Hp} {qs : List (Addr × Addr)} {pr : List Blk} (h : PgM K t fo H qs pr) (bt : But t H H') : PgM K t fo H' qs pr :=
  ⟨bt _ _ h.nt h.top, h.nt, h.nd, h.nf, pd_memmono h.bk fun a b ha z => z.but bt (h.nf a ha).2⟩
theorem pd_drop {α β : Type} {F : α → β → Prop} : ∀ {l : List α} {m : List β} (n : Nat), Paired F l m → Paired F (l.drop n) (m.drop n)
  | _, _, _, .nil => by simp; exact .nil
  | _, _, 0, .cons h t => .cons h t
  | _, _, n + 1, .cons h t => pd_drop n t
theorem pd_take {α β : Type} {F : α → β → Prop} : ∀ {l : List α} {m : List β} (n : Nat), Paired F l m → Paired F (l.take n) (m.take n)
  | _, _, _, .nil => by simp; exact .nil
  | _, _, 0, .cons h t => .nil
  | _, _, n + 1, .cons h t => .cons h (pd_take n t)
/-- a block more -/
theorem PgM.snoc {K : PySem.W.Frag} {t fo : Addr} {H : Hp} {qs : List (Addr × Addr)} {pr : List Blk} {q : Addr × Addr} {b : Blk} (h : PgM K t fo H qs pr) (hb : BkM K (frz [t] H) H q b) (n1 : q.2 ≠ fo) (n2 : q.2 ≠ t) (n3 : q.2 ∉ qs.map (·.2)) : PgM K t fo (L2.upd H fo (.lst ((qs.map fun q => V.ref q.1) ++ [.ref q.1]))) (qs ++ [q]) (pr ++ [b]) := by
  refine ⟨by rw [upd_same, List.map_append]; rfl, h.nt, ?_, fun x hx => ?_, ?_⟩
  · rw [List.map_append]
    refine List.nodup_append.mpr ⟨h.nd, by simp, fun a ha b hb' => ?_⟩
    have : b = q.2 := by simpa using hb'
    rw [this]
    exact fun z => n3 (z ▸ ha)
  · rcases List.mem_append.mp hx with w | w
    · exact h.nf x w
    · rw [List.mem_singleton.mp w]; exact ⟨n1, n2⟩
  · exact pd_app (pd_memmono h.bk fun a b ha z => z.upd h.top (h.nf a ha).1) (.cons (hb.upd h.top n1) .nil)
/-- rows more in the last block -/
theorem PgM.ext {K : PySem.W.Frag} {t fo : Addr} {H : Hp} {qs : List (Addr × Addr)} {pr : List Blk} {q : Addr × Addr} {rs rs2 : List Rw} {e : En} {ea : V} {vs ws : List V} (h : PgM K t fo H (qs ++ [q]) (pr ++ [(rs, e)])) (h1 : SqT K (frz [t] H) q.1 [.ref q.2, ea]) (h2 : H q.2 = some (.lst vs)) (h3 : Paired (RowAt K (frz [t] H)) vs rs) (h4 : EnAt K (frz [t] H) ea e)
    (hw : Paired (RowAt K (frz [t] H)) ws rs2) : PgM K t fo (L2.upd H q.2 (.lst (vs ++ ws))) (qs ++ [q]) (pr ++ [(rs ++ rs2, e)]) := by
  have hq := h.nf q (by simp)
  have g : ∀ {x : Addr} {xs : List V}, SqT K (frz [t] H) x xs → SqT K (frz [t] (L2.upd H q.2 (.lst (vs ++ ws)))) x xs := fun z => tup_frz_upd z h2
  have hnd := h.nd
  rw [List.map_append] at hnd
  have hnd2 := (List.nodup_append.mp hnd).2.2
  have hpd : Paired (BkM K (frz [t] H) H) qs pr := by
    have hbk := h.bk
    have hl := pd_len hbk
    have hl2 : qs.length = pr.length := by simpa using hl
    have := pd_take qs.length hbk
    rw [List.take_left' rfl, List.take_left' hl2.symm] at this
    exact this
  refine ⟨by rw [upd_ne hq.1.symm]; exact h.top, h.nt, h.nd, h.nf, pd_app (pd_memmono hpd fun a b ha z => z.upd h2 ?_) (.cons ⟨ea, vs ++ ws, g h1, upd_same, pd_mono (pd_app h3 hw) fun _ _ y => row_tups y g, en_tups h4 g⟩ .nil)⟩
  exact hnd2 a.2 (List.mem_map_of_mem ha) q.2 (by simp)
/-- the pure facts -/
structure P1 (nx : List (List Nat)) (rows : List Rw) (blocks : List Nat) (n : Nat) : Prop where
  len : blocks.length = rows.length
  le : rows.length ≤ n
  b7 : ∀ y ∈ blocks, y < nx.length
  r0 : rows[0]? = some (.take 0)
  b0 : blocks[0]? = some 0
  rb : ∀ r ∈ rows, RwA (· < rows.length) r
  nm : ∀ k r, rows[k]? = some r → r.isM = false → RwA (fun y => y < k ∧ y ∈ standL nx blocks rows (blocks.getD k 0)) r
  mt : ∀ (k : Nat) ps, rows[k]? = some (.meet ps) → 2 ≤ (leadsF nx (blocks.getD k 0)).length ∧ ps.length = (leadsF nx (blocks.getD k 0)).length ∧ ps.getD 0 0 ∈ standL nx blocks rows ((leadsF nx (blocks.getD k 0)).getD 0 0)
  up : ∀ i j, i ≤ j → j < blocks.length → blocks.getD i 0 ≤ blocks.getD j 0
  ma : ∀ k, k + 1 < rows.length → blocks.getD k 0 = blocks.getD (k + 1) 0 → (rows.getD (k + 1) (.take 0)).isM = true → (rows.getD k (.take 0)).isM = true
theorem P1.zero {nx : List (List Nat)} {rows : List Rw} {blocks : List Nat} {n b : Nat} (p : P1 nx rows blocks n) (h : nx ∈ NX) : 0 ∈ standL nx blocks rows b := by
  refine stand_mem.mpr ⟨(List.getElem?_eq_some_iff.mp p.b0).1, ?_, ?_⟩
  · rw [List.getD_eq_getElem?_getD, p.b0]
    show b ∉ reachF nx 0
    rw [reach0 nx h]
    simp
  · rw [List.getD_eq_getElem?_getD, p.r0]
    rfl
theorem P1.lt {nx : List (List Nat)} {rows : List Rw} {blocks : List Nat} {n b : Nat} (p : P1 nx rows blocks n) : ∀ y ∈ standL nx blocks rows b, y < rows.length := fun y hy => by
  have := (stand_mem.mp hy).1
  rw [p.len] at this
  exact this
theorem P1.pos {nx : List (List Nat)} {rows : List Rw} {blocks : List Nat} {n : Nat} (p : P1 nx rows blocks n) : 0 < rows.length := (List.getElem?_eq_some_iff.mp p.r0).1
/-- a row of its own block and those that it names: what P1 asks of one more -/
def NewOk (nx : List (List Nat)) (rows : List Rw) (blocks : List Nat) (b : Nat) (r : Rw) : Prop :=
  (r.isM = false → RwA (fun y => y ∈ standL nx blocks rows b) r) ∧ (∀ ps, r = .meet ps → RwA (· < rows.length) r ∧ 2 ≤ (leadsF nx b).length ∧ ps.length = (leadsF nx b).length ∧ ps.getD 0 0 ∈ standL nx blocks rows ((leadsF nx b).getD 0 0)) ∧
  (r.isM = true → blocks.getD (rows.length - 1) 0 = b → (rows.getD (rows.length - 1) (.take 0)).isM = true)
theorem at_snoc {α : Type} {xs : List α} {y x : α} {k : Nat} (h : (xs ++ [y])[k]? = some x) : (k < xs.length ∧ xs[k]? = some x) ∨ (k = xs.length ∧ x = y) := by
  by_cases hk : k < xs.length
  · rw [List.getElem?_append_left hk] at h
    exact .inl ⟨hk, h⟩
  · have hl := (List.getElem?_eq_some_iff.mp h).1
    rw [List.length_append, List.length_singleton] at hl
    have e : k = xs.length := by omega
    subst e
    rw [List.getElem?_append_right (Nat.le_refl _), Nat.sub_self] at h
    have h : some y = some x := h
    exact .inr ⟨rfl, (Option.some.inj h).symm⟩
theorem getD_last {α : Type} {xs : List α} {y d : α} : (xs ++ [y]).getD xs.length d = y := by
  rw [List.getD_eq_getElem?_getD, List.getElem?_append_right (Nat.le_refl _), Nat.sub_self]
  rfl
theorem P1.snoc {nx : List (List Nat)} {rows : List Rw} {blocks : List Nat} {n b : Nat} {r : Rw} (p : P1 nx rows blocks n) (hb : b < nx.length) (hr : NewOk nx rows blocks b r) (hup : ∀ y ∈ blocks, y ≤ b) : P1 nx (rows ++ [r]) (blocks ++ [b]) (n + 1) := by
  have hl : (rows ++ [r]).length = rows.length + 1 := by rw [List.length_append, List.length_singleton]
  have hlb := p.len
  have hpos := p.pos
  have hA : RwA (· < rows.length) r := by
    cases hm : r.isM with
    | false => exact (hr.1 hm).mono fun y hy => p.lt y hy
    | true =>
      cases r with
      | meet ps => exact (hr.2.1 ps rfl).1
      | _ => cases hm
  have gb : ∀ {k : Nat}, k < rows.length → (blocks ++ [b]).getD k 0 = blocks.getD k 0 := fun h => getD_app (by omega)
  have gl : (blocks ++ [b]).getD rows.length 0 = b := by rw [← hlb]; exact getD_last
  refine ⟨?_, ?_, fun y hy => ?_, ?_, ?_, fun q hq => ?_, fun k q hk hm => ?_, fun k ps hk => ?_, fun i j hij hj => ?_, fun k hk he hm => ?_⟩
  · rw [hl, List.length_append, List.length_singleton, p.len]
  · rw [hl]; exact Nat.add_le_add_right p.le 1
  · rcases List.mem_append.mp hy with w | w
    · exact p.b7 y w
    · rw [List.mem_singleton.mp w]; exact hb
  · rw [List.getElem?_append_left hpos]; exact p.r0
  · rw [List.getElem?_append_left (by omega)]; exact p.b0
  · rw [hl]
    rcases List.mem_append.mp hq with w | w
    · exact (p.rb q w).mono fun y hy => Nat.lt_succ_of_lt hy
    · rw [List.mem_singleton.mp w]; exact hA.mono fun y hy => Nat.lt_succ_of_lt hy
  · rcases at_snoc hk with ⟨h1, h2⟩ | ⟨rfl, rfl⟩
    · rw [gb h1]
      exact (p.nm k q h2 hm).mono fun y hy => ⟨hy.1, stand_app hlb hy.2⟩
    · rw [gl]
      exact (hr.1 hm).mono fun y hy => ⟨p.lt y hy, stand_app hlb hy⟩
  · rcases at_snoc hk with ⟨h1, h2⟩ | ⟨rfl, h2⟩
    · rw [gb h1]
      obtain ⟨a1, a2, a3⟩ := p.mt k ps h2
      exact ⟨a1, a2, stand_app hlb a3⟩
    · rw [gl]
      obtain ⟨_, a1, a2, a3⟩ := hr.2.1 ps h2.symm
      exact ⟨a1, a2, stand_app hlb a3⟩
  · rw [List.length_append, List.length_singleton] at hj
    by_cases h1 : j < rows.length
    · rw [gb h1, gb (by omega)]
      exact p.up i j hij (by omega)
    · have hj2 : j = rows.length := by omega
      subst hj2
      rw [gl]
      by_cases h2 : i < rows.length
      · rw [gb h2]
        exact hup _ (List.mem_of_getElem? (gdl (by omega)))
      · have hi2 : i = rows.length := by omega
        subst hi2
        rw [gl]
        exact Nat.le_refl _
  · rw [hl] at hk
    by_cases h1 : k + 1 < rows.length
    · rw [gb h1, gb (by omega)] at he
      rw [getD_app h1] at hm
      rw [getD_app (by omega)]
      exact p.ma k h1 he hm
    · have hk2 : k + 1 = rows.length := by omega
      have hk3 : k = rows.length - 1 := by omega
      rw [hk2, gl, gb (by omega)] at he
      rw [hk2, getD_last] at hm
      rw [getD_app (by omega), hk3]
      rw [hk3] at he
      exact hr.2.2 hm he
theorem P1.set {nx : List (List Nat)} {rows : List Rw} {blocks : List Nat} {n i : Nat} {ps qs : List Nat} (p : P1 nx rows blocks n) (hi : rows[i]? = some (.meet ps)) (hr : RwA (· < rows.length) (.meet qs)) (hq : qs.length = ps.length) (hq0 : qs.getD 0 0 = ps.getD 0 0) : P1 nx (rows.set i (.meet qs)) blocks n := by
  have hl : (rows.set i (.meet qs)).length = rows.length := List.length_set
  have hil := (List.getElem?_eq_some_iff.mp hi).1
  have hi0 : i ≠ 0 := fun z => by rw [z, p.r0] at hi; cases hi
  have gm : ∀ k, ((rows.set i (.meet qs)).getD k (.take 0)).isM = (rows.getD k (.take 0)).isM := fun k => by
    rw [List.getD_eq_getElem?_getD, List.getD_eq_getElem?_getD]
    by_cases e : k = i
    · subst e
      rw [List.getElem?_set_self hil, hi]
      rfl
    · rw [List.getElem?_set_ne (Ne.symm e)]
  refine ⟨by rw [hl]; exact p.len, by rw [hl]; exact p.le, p.b7, by rw [List.getElem?_set_ne hi0]; exact p.r0, p.b0, fun q hq => ?_, fun k q hk hm => ?_, fun k ps' hk => ?_, p.up, fun k hk he hm => ?_⟩
  · rw [hl]
    rcases List.mem_or_eq_of_mem_set hq with w | w
    · exact p.rb q w
    · rw [w]; exact hr
  · by_cases e : k = i
    · subst e
      rw [List.getElem?_set_self hil] at hk
      cases hk
      cases hm
    · rw [List.getElem?_set_ne (Ne.symm e)] at hk
      rw [stand_set hi]
      exact p.nm k q hk hm
  · rw [stand_set hi]
    by_cases e : k = i
    · subst e
      rw [List.getElem?_set_self hil] at hk
      cases hk
      obtain ⟨a1, a2, a3⟩ := p.mt k ps hi
      exact ⟨a1, by rw [hq]; exact a2, by rw [hq0]; exact a3⟩
    · rw [List.getElem?_set_ne (Ne.symm e)] at hk
      exact p.mt k ps' hk
  · rw [gm] at hm ⊢
    exact p.ma k (by rw [hl] at hk; exact hk) he hm
theorem P1.mono {nx : List (List Nat)} {rows : List Rw} {blocks : List Nat} {n n' : Nat} (p : P1 nx rows blocks n) (h : n ≤ n') : P1 nx rows blocks n' := ⟨p.len, Nat.le_trans p.le h, p.b7, p.r0, p.b0, p.rb, p.nm, p.mt, p.up, p.ma⟩
theorem leads_no : ∀ nx ∈ NX, leadsF nx 0 = [] := by decide +kernel
theorem leads_bd : ∀ nx ∈ NX, ∀ b, b < 7 → (leadsF nx b).length ≤ 6 ∧ ∀ l ∈ leadsF nx b, l < 7 := by decide +kernel
theorem cut_one (x : V) (xs : List V) : cutV (x :: xs) (some 1) none = xs := by
  unfold cutV
  rw [show HT.sIx (x :: xs).length 0 (some 1) = min 1 (x :: xs).length from HT.sIx_nat (x :: xs).length 0 1, HT.sIx_none]
  rw [show min 1 (x :: xs).length = 1 by rw [List.length_cons]; omega]
  show (List.take ((x :: xs).length - 1) xs) = xs
  rw [List.length_cons, Nat.add_sub_cancel]
  exact List.take_length
theorem cut_not (x : V) (xs : List V) : ¬ (HT.sIx (x :: xs).length 0 (some 1) = 0 ∧ HT.sIx (x :: xs).length (x :: xs).length none = (x :: xs).length) := by
  rw [show HT.sIx (x :: xs).length 0 (some 1) = min 1 (x :: xs).length from HT.sIx_nat (x :: xs).length 0 1]
  rw [List.length_cons]
  omega
/-! ### where blocks begin -/
def cntB (blocks : List Nat) (j : Nat) : Nat := (blocks.filter fun y => decide (y < j)).length
theorem cnt_app {blocks : List Nat} {c j : Nat} (h : j ≤ c) : cntB (blocks ++ [c]) j = cntB blocks j := by
  unfold cntB
  rw [List.filter_append, List.length_append, filt_one, if_neg (by simp; omega)]
  rfl
theorem cnt_all {blocks : List Nat} {j : Nat} (h : ∀ y ∈ blocks, y < j) : cntB blocks j = blocks.length := by
  unfold cntB
  rw [List.filter_eq_self.mpr fun y hy => decide_eq_true (h y hy)]
theorem cnt_zero (blocks : List Nat) : cntB blocks 0 = 0 := by
  unfold cntB
  rw [List.filter_eq_nil_iff.mpr fun y hy => by simp]
  rfl
theorem cnt_le (blocks : List Nat) (j : Nat) : cntB blocks j ≤ blocks.length := List.length_filter_le _ _
theorem cnts_app {blocks : List Nat} {c n : Nat} (h : n ≤ c + 1) : (List.range n).map (cntB (blocks ++ [c])) = (List.range n).map (cntB blocks) := by
  refine List.map_congr_left fun j hj => cnt_app ?_
  have := List.mem_range.mp hj
  omega
/-- a block's end by what it names -/
def EnOf (own : List Nat) (Pn : Nat → Prop) (e : En) : Prop := (own = [] ∧ e = .fin) ∨ (∃ x, own = [x] ∧ e = .go x) ∨ ∃ x y r, own = [x, y] ∧ Pn r ∧ e = .iff r x y
def seg (rows : List Rw) (blocks : List Nat) (j : Nat) : List Rw := (rows.drop (cntB blocks j)).take (cntB blocks (j + 1) - cntB blocks j)
/-- all meets' parts stand at their leads' ends -/
def MtAll (nx : List (List Nat)) (blocks : List Nat) (rows : List Rw) (k : Nat) : Prop := ∀ ps, rows[k]? = some (.meet ps) → ∀ j, j < ps.length → ps.getD j 0 ∈ standL nx blocks rows ((leadsF nx (blocks.getD k 0)).getD j 0)
end Gn
set_option Elab.async false
set_option linter.all false
set_option maxRecDepth 100000
set_option maxHeartbeats 8000000
set_option pp.maxSteps 300
namespace Gn
open PySem PySem.Spec PyProof.Rows L2
/-- the program by rows and their blocks: what stands, the ends, the tells behind -/
def RightP (pr : List Blk) : Prop := ∃ (nx : List (List Nat)) (rows : List Rw) (blocks : List Nat) (tl : List Rw), nx ∈ NX ∧ P1 nx rows blocks 57 ∧ (∀ k, MtAll nx blocks rows k) ∧ pr.length = nx.length ∧ (∀ r ∈ tl, r = .tell 0) ∧
  ∀ j, j < nx.length → ∃ e, pr[j]? = some (seg rows blocks j ++ (if j + 1 = nx.length then tl else []), e) ∧ EnOf (nx.getD j []) (fun r => r ∈ standL nx blocks rows j) e
def spProgram (K : PySem.W.Frag) : Sp := fun vs H Q _ => ∃ (t : Addr) (c : Nat), vs = [.ref t, iv 5] ∧ Tape H t c ∧ c + 10000 ≤ 100000000 ∧
  ∀ (fo : Addr) (qs : List (Addr × Addr)) (pr : List Blk) (H' : Hp), But t H H' → Tape H' t (c + 10000) → PgM K t fo H' qs pr → (∀ x ∈ qs, H x.2 = none) → RightP pr → pr ≠ [] → pr.length ≤ 7 → (∀ b ∈ pr, BlkB 7 100 b) → Q (.ref fo) H'
abbrev nPg : List Str := ["_law_tape", "_law_most", "_law_nexts_here", "_law_rows", "_law_blocks", "_law_begins", "_law_block", "_law_leads", "_law_turn", "_law_some", "_law_number", "_law_row", "_law_parts", "_law_lead", "_law_near", "_law_found", "_law_own", "_law_end", "_law_k"]
theorem scPg : FnScope nPg ["_law_tape", "_law_most"] (defScope sProgram) := ⟨rfl, rfl, rfl, by decide +kernel, rfl, by decide +kernel, by decide +kernel⟩
section
variable {P : Program} {w : World} {K : PySem.W.Frag} {mg : Str → Option Value} {base : Heap}
theorem ok_program {f fD fX fS fW : Addr} {fd fdD fdX fdS fdW : FuncData} {k : Nat} (D : Df K mg "_law_program" sProgram ["_law_tape", "_law_most"] f fd) (B : Bi mg) (DD : Df K mg "_law_draw" sDraw ["_law_tape", "_law_many"] fD fdD) (GD : FnOk P w K mg base CX0 k fD fdD ["_law_tape", "_law_many"] spDraw)
    (DX : Df K mg "_law_nexts" sNexts ["_law_tape"] fX fdX) (GX : FnOk P w K mg base CX0 k fX fdX ["_law_tape"] spNexts)
    (DS : Df K mg "_law_standing" sStanding ["_law_nexts_here", "_law_blocks", "_law_rows", "_law_block"] fS fdS) (GS : FnOk P w K mg base CX0 k fS fdS ["_law_nexts_here", "_law_blocks", "_law_rows", "_law_block"] (spStanding K))
    (DW : Df K mg "_law_drawn_row" sDrawn ["_law_tape", "_law_rows", "_law_some"] fW fdW) (GW : FnOk P w K mg base CX0 k fW fdW ["_law_tape", "_law_rows", "_law_some"] (spDrawn K)) : FnOk P w K mg base CX0 (k + 1) f fd ["_law_tape", "_law_most"] (spProgram K) := by
  refine D.F.ok scPg (fun vs H Q E h => ?_) (fun cdv A outer s H vs Q E hr h => ?_)
  · obtain ⟨t, c, rfl, _⟩ := h
    rfl
  · obtain ⟨t, c, rfl, hT, hc, q⟩ := h
    refine ⟨_, (pss_cons (ps_set (i := 2) scPg.nd rfl (.inr rfl) (pe_call GX hr (by rfl) DX.g DX.F.kp DX.b .nil pass0 (pa_cons (pv 0) pa_nil)))
      (pss_cons (ps_asg (pe_tup (pa_cons (pe_lst (pa_cons (pe_tup (pa_cons pe_str (pa_cons pe_int pa_nil))) pa_nil)) (pa_cons (pe_lst (pa_cons pe_int pa_nil)) (pa_cons (pe_lst pa_nil) pa_nil)))) (pg_tup rfl (pgs_cons (pg_name (i := 3) scPg.nd rfl (.inr rfl)) (pgs_cons (pg_name (i := 4) scPg.nd rfl (.inr rfl)) (pgs_cons (pg_name (i := 5) scPg.nd rfl (.inl rfl)) pgs_nil)))))
      (pss_cons (ps_for PassesOwn.never rfl (pi_range1 (by rfl) B.range (pa_cons (pe_callB call_len_seq (by rfl) B.len PySem.boot_len (pa_cons (pv 2) pa_nil)) pa_nil)) (pg_name (i := 6) scPg.nd rfl (.inr rfl)) (pss_cons (ps_expr (pe_bm PySem.F.plainAttrs_list PySem.F.slot_list_append PySem.F.type_list_append mt_append (pv 5) (pa_cons (pe_op op_mul (pe_callB call_len_seq (by rfl) B.len PySem.boot_len (pa_cons (pv 3) pa_nil)) (pe_callTy call_int1 (by rfl) B.int PyProof.Rows.boot_int (pa_cons (pe_cmpR op_gt (pv 6) pe_int (nomark _)) pa_nil))) pa_nil)))
      (pss_cons (ps_setLc (i := 7) (own := [("_law_lead", 13)]) (g := gName 13) (tt := tIn K (tVar 6) (tIxL K (tVar 2) (tVar 13))) (te := tVar 13) (by rfl) scPg.nd rfl rfl (sw_true rfl rfl rfl (by decide +kernel)) (pi_range1 (by rfl) B.range (pa_cons (pe_callB call_len_seq (by rfl) B.len PySem.boot_len (pa_cons (pv 2) pa_nil)) pa_nil)) (blkOk_by (own := [("_law_lead", 13)]) (N := nPg) (sc := defScope sProgram) (by decide +kernel)) (fun _ _ _ _ _ => (pg_name (i := 13) scPg.nd rfl (.inl rfl))) (fun _ _ _ _ _ => pts_one (pt_cmpR op_in_seq (pv 6) (pe_ix ix_list (pv 2) (pv 13) (fun _ _ => rfl)) rfl)) (fun _ _ _ _ _ => pv 13))
      (pss_cons (ps_for PassesOwn.never rfl (pi_range1 (by rfl) B.range (pa_cons (pe_op op_mul (pe_call GD hr (by rfl) DD.g DD.F.kp DD.b .nil pass0 (pa_cons (pv 0) (pa_cons pe_int pa_nil))) (pe_callTy call_int1 (by rfl) B.int PyProof.Rows.boot_int (pa_cons (pe_cmpR op_gt (pe_callB call_len_seq (by rfl) B.len PySem.boot_len (pa_cons (pv 7) pa_nil)) pe_int (nomark _)) pa_nil))) pa_nil)) (pg_name (i := 8) scPg.nd rfl (.inl rfl)) (pss_cons (ps_set (i := 9) scPg.nd rfl (.inl rfl) (pe_call GS hr (by rfl) DS.g DS.F.kp DS.b .nil pass0 (pa_cons (pv 2) (pa_cons (pv 4) (pa_cons (pv 3) (pa_cons (pe_ix ix_list (pv 7) pe_int (fun _ _ => rfl)) pa_nil))))))
      (pss_cons (ps_set (i := 3) scPg.nd rfl (.inr rfl) (pe_op op_cat (pv 3) (pe_lst (pa_cons (pe_tup (pa_cons pe_str (pa_cons (pe_op op_repT (pe_tup (pa_cons (pe_ix ix_list (pv 9) (pe_call GD hr (by rfl) DD.g DD.F.kp DD.b .nil pass0 (pa_cons (pv 0) (pa_cons (pe_callB call_len_seq (by rfl) B.len PySem.boot_len (pa_cons (pv 9) pa_nil)) pa_nil))) (fun _ _ => rfl)) pa_nil)) (pe_callB call_len_seq (by rfl) B.len PySem.boot_len (pa_cons (pv 7) pa_nil))) pa_nil))) pa_nil))))
      (pss_one (ps_set (i := 4) scPg.nd rfl (.inr rfl) (pe_op op_cat (pv 4) (pe_lst (pa_cons (pv 6) pa_nil))))))))
      (pss_one (ps_for PassesOwn.never rfl (pi_range1 (by rfl) B.range (pa_cons (pe_call GD hr (by rfl) DD.g DD.F.kp DD.b .nil pass0 (pa_cons (pv 0) (pa_cons (pe_op op_add (pv 1) pe_int) pa_nil))) pa_nil)) (pg_name (i := 8) scPg.nd rfl (.inl rfl)) (pss_cons (ps_set (i := 3) scPg.nd rfl (.inr rfl) (pe_op op_cat (pv 3) (pe_lst (pa_cons (pe_call GW hr (by rfl) DW.g DW.F.kp DW.b .nil pass0 (pa_cons (pv 0) (pa_cons (pv 3) (pa_cons (pe_call GS hr (by rfl) DS.g DS.F.kp DS.b .nil pass0 (pa_cons (pv 2) (pa_cons (pv 4) (pa_cons (pv 3) (pa_cons (pv 6) pa_nil))))) pa_nil)))) pa_nil))))
      (pss_one (ps_set (i := 4) scPg.nd rfl (.inr rfl) (pe_op op_cat (pv 4) (pe_lst (pa_cons (pv 6) pa_nil))))))))))))
      (pss_cons (ps_for PassesOwn.never rfl (pi_enum (by rfl) B.enumerate (pa_cons (pe_callTy call_list_of (by rfl) B.list PyProof.Rows.boot_list (pa_cons (pv 3) pa_nil)) pa_nil)) (pg_tup rfl (pgs_cons (pg_name (i := 10) scPg.nd rfl (.inr rfl)) (pgs_cons (pg_name (i := 11) scPg.nd rfl (.inl rfl)) pgs_nil))) (pss_one (ps_if (pt_cmpR op_eq (pe_ix ix_tup (pv 11) pe_int (fun _ _ => rfl)) pe_str (nomark _)) (pss_cons (ps_par (i := 7) (j := 12) (by rfl) scPg.nd rfl rfl (by decide) rfl rfl (pa_cons (pe_lc (own := [("_law_lead", 13)]) (g := gName 13) (tt := tIn K (tIxL K (tVar 4) (tVar 10)) (tIxL K (tVar 2) (tVar 13))) (te := tVar 13) rfl scPg.nd (pi_range1 (by rfl) B.range (pa_cons (pe_callB call_len_seq (by rfl) B.len PySem.boot_len (pa_cons (pv 2) pa_nil)) pa_nil)) (blkOk_by (own := [("_law_lead", 13)]) (N := nPg) (sc := defScope sProgram) (by decide +kernel)) (fun _ _ _ _ _ => (pg_name (i := 13) scPg.nd rfl (.inl rfl))) (fun _ _ _ _ _ => pts_one (pt_cmpR op_in_seq (pe_ix ix_list (pv 4) (pv 10) (fun _ _ => rfl)) (pe_ix ix_list (pv 2) (pv 13) (fun _ _ => rfl)) rfl)) (fun _ _ _ _ _ => pv 13)) (pa_cons (pe_lst (pa_cons (pe_ix ix_tup (pe_ix ix_tup (pv 11) pe_int (fun _ _ => rfl)) pe_int (fun _ _ => rfl)) pa_nil)) pa_nil)) (by rfl))
      (pss_cons (ps_for PassesOwn.never rfl (pi_list (pe_slice sl_list (pv 7) (po_some pe_int) po_none)) (pg_name (i := 13) scPg.nd rfl (.inl rfl)) (pss_cons (ps_set (i := 9) scPg.nd rfl (.inl rfl) (pe_call GS hr (by rfl) DS.g DS.F.kp DS.b .nil pass0 (pa_cons (pv 2) (pa_cons (pv 4) (pa_cons (pv 3) (pa_cons (pv 13) pa_nil))))))
      (pss_cons (ps_set (i := 14) scPg.nd rfl (.inl rfl) (pe_op op_cat (pe_lc (own := [("_law_k", 18)]) (g := gName 18) (tt := tOr (tTest (tOp rEq (tVar 18) (tVar 10))) (tIn K (tIxT K (tIxL K (tVar 3) (tVar 18)) (tC (.int 0))) (tTup (tCons (tC (.str "sum")) (tCons (tC (.str "less")) tNil))))) (te := tVar 18) rfl scPg.nd (pi_list (pv 9)) (blkOk_by (own := [("_law_k", 18)]) (N := nPg) (sc := defScope sProgram) (by decide +kernel)) (fun _ _ _ _ _ => (pg_name (i := 18) scPg.nd rfl (.inl rfl))) (fun _ _ _ _ _ => pts_one (pw_or (pt_cmpR op_eq (pv 18) (pv 10) (nomark _)) (pw_or1 (pt_cmpR op_in_seq (pe_ix ix_tup (pe_ix ix_list (pv 3) (pv 18) (fun _ _ => rfl)) pe_int (fun _ _ => rfl)) (pe_tup (pa_cons pe_str (pa_cons pe_str pa_nil))) rfl))).pt) (fun _ _ _ _ _ => pv 18)) (pe_lst (pa_cons (pe_ix ix_list (pv 9) (pe_un un_neg pe_int) (fun _ _ => rfl)) pa_nil))))
      (pss_one (ps_expr (pe_bm PySem.F.plainAttrs_list PySem.F.slot_list_append PySem.F.type_list_append mt_append (pv 12) (pa_cons (pe_ix ix_list (pe_lst (pa_cons (pe_ix ix_list (pv 14) (pe_call GD hr (by rfl) DD.g DD.F.kp DD.b .nil pass0 (pa_cons (pv 0) (pa_cons (pe_callB call_len_seq (by rfl) B.len PySem.boot_len (pa_cons (pv 14) pa_nil)) pa_nil))) (fun _ _ => rfl)) (pa_cons (pe_ix ix_list (pv 9) (pe_call GD hr (by rfl) DD.g DD.F.kp DD.b .nil pass0 (pa_cons (pv 0) (pa_cons (pe_callB call_len_seq (by rfl) B.len PySem.boot_len (pa_cons (pv 9) pa_nil)) pa_nil))) (fun _ _ => rfl)) pa_nil))) (pe_call GD hr (by rfl) DD.g DD.F.kp DD.b .nil pass0 (pa_cons (pv 0) (pa_cons pe_int pa_nil))) (fun _ _ => rfl)) pa_nil)))))))
      (pss_one (ps_asg (pe_tup (pa_cons pe_str (pa_cons (pe_callTy call_tuple_of (by rfl) B.tuple PyProof.Rows.boot_tuple (pa_cons (pv 12) pa_nil)) pa_nil))) (pg_sub (pv 3) (pv 10) set_list))))) pss_nil)))
      (pss_cons (ps_set (i := 15) scPg.nd rfl (.inl rfl) (pe_lst pa_nil))
      (pss_cons (ps_for PassesOwn.never rfl (pi_enum (by rfl) B.enumerate (pa_cons (pv 2) pa_nil)) (pg_tup rfl (pgs_cons (pg_name (i := 6) scPg.nd rfl (.inr rfl)) (pgs_cons (pg_name (i := 16) scPg.nd rfl (.inl rfl)) pgs_nil))) (pss_cons (ps_set (i := 9) scPg.nd rfl (.inl rfl) (pe_call GS hr (by rfl) DS.g DS.F.kp DS.b .nil pass0 (pa_cons (pv 2) (pa_cons (pv 4) (pa_cons (pv 3) (pa_cons (pv 6) pa_nil))))))
      (Evl.pss_cut (ps_set (i := 17) scPg.nd rfl (.inl rfl) (pe_op op_catA (pe_ix ix_list (pe_lst (pa_cons (pe_tup (pa_cons pe_str pa_nil)) (pa_cons (pe_tup (pa_cons pe_str pa_nil)) (pa_cons (pe_tup (pa_cons pe_str (pa_cons (pe_ix ix_list (pv 9) (pe_call GD hr (by rfl) DD.g DD.F.kp DD.b .nil pass0 (pa_cons (pv 0) (pa_cons (pe_callB call_len_seq (by rfl) B.len PySem.boot_len (pa_cons (pv 9) pa_nil)) pa_nil))) (fun _ _ => rfl)) pa_nil))) pa_nil)))) (pe_callB call_len_seq (by rfl) B.len PySem.boot_len (pa_cons (pv 16) pa_nil)) (fun _ _ => rfl)) (pe_callTy call_tuple_of (by rfl) B.tuple PyProof.Rows.boot_tuple (pa_cons (pv 16) pa_nil))))
      (pss_one (ps_expr (pe_bm PySem.F.plainAttrs_list PySem.F.slot_list_append PySem.F.type_list_append mt_append (pv 15) (pa_cons (pe_tup (pa_cons (pe_slice sl_list (pv 3) (po_some (pe_ix ix_list (pv 5) (pv 6) (fun _ _ => rfl))) (po_some (pe_ix ix_list (pe_op op_cat (pv 5) (pe_lst (pa_cons (pe_callB call_len_seq (by rfl) B.len PySem.boot_len (pa_cons (pv 3) pa_nil)) pa_nil))) (pe_op op_add (pv 6) pe_int) (fun _ _ => rfl)))) (pa_cons (pv 17) pa_nil))) pa_nil)))))))
      (pss_cons (ps_expr (pe_bm PySem.F.plainAttrs_list PySem.F.slot_list_extend PySem.F.type_list_extend mt_extend (pe_ix ix_tup (pe_ix ix_list (pv 15) (pe_un un_neg pe_int) (fun _ _ => rfl)) pe_int (fun _ _ => rfl)) (pa_cons (pe_op op_rep (pe_lst (pa_cons (pe_tup (pa_cons pe_str (pa_cons pe_int pa_nil))) pa_nil)) (pe_call GD hr (by rfl) DD.g DD.F.kp DD.b .nil pass0 (pa_cons (pv 0) (pa_cons pe_int pa_nil)))) pa_nil)))
      (pss_one (ps_ret (pv 15)))))))))), ?_⟩
    refine ⟨.ref t, rfl, t, c, rfl, hT, by omega, fun na nx H1 hx b1 T1 hN => ?_⟩
    refine ⟨szl (show 2 ≤ 1000000 by decide), fun p1 n1 => ⟨szl (show 1 ≤ 1000000 by decide), fun ra n2 => ⟨szl (show 1 ≤ 1000000 by decide), fun ba n3 => ⟨Nat.zero_le _, fun bg n4 => ⟨szl (show 3 ≤ 1000000 by decide), fun tp n5 => ?_⟩⟩⟩⟩⟩
    have G0t : frz [t] H1 t = none := by unfold frz; rw [if_pos (by simp)]
    have s1 := new_same (o := .tup [.str "take", .int 0]) n1
    have e1 : upd H1 p1 (.tup [.str "take", .int 0]) p1 = some (.tup [.str "take", .int 0]) := upd_same
    have d1 : p1 ≠ t := T1.ne n1
    have U1 := T1.same s1
    generalize upd H1 p1 (.tup [.str "take", .int 0]) = I1 at s1 e1 U1 n2 n3 n4 n5
    have s2 := new_same (o := .lst [.ref p1]) n2
    have e2 : upd I1 ra (.lst [.ref p1]) ra = some (.lst [.ref p1]) := upd_same
    have d2 : ra ≠ t := U1.ne n2
    have U2 := U1.same s2
    have n2' := n2
    generalize upd I1 ra (.lst [.ref p1]) = I2 at s2 e2 U2 n3 n4 n5
    have n3' := n3
    have e2'' := e2
    have s3 := new_same (o := .lst [.int 0]) n3
    have e3 : upd I2 ba (.lst [.int 0]) ba = some (.lst [.int 0]) := upd_same
    have d3 : ba ≠ t := U2.ne n3
    have U3 := U2.same s3
    generalize upd I2 ba (.lst [.int 0]) = I3 at s3 e3 U3 n4 n5
    have s4 := new_same (o := .lst []) n4
    have e4 : upd I3 bg (.lst []) bg = some (.lst []) := upd_same
    have d4 : bg ≠ t := U3.ne n4
    have U4 := U3.same s4
    have e1' := s3 _ _ (s2 _ _ e1)
    have e2' := s3 _ _ e2
    have f1 : p1 ≠ bg := ne_of_none e1' n4
    have f2 : ra ≠ bg := ne_of_none e2' n4
    have f3 : ba ≠ bg := ne_of_none e3 n4
    have hb1 : H1 bg = none := s1.free (s2.free (s3.free n4))
    generalize upd I3 bg (.lst []) = I4 at s4 e4 U4 n5
    have s5 := new_same (o := .tup [.ref ra, .ref ba, .ref bg]) n5
    have e5 : upd I4 tp (.tup [.ref ra, .ref ba, .ref bg]) tp = some (.tup [.ref ra, .ref ba, .ref bg]) := upd_same
    have U5 := U4.same s5
    generalize upd I4 tp (.tup [.ref ra, .ref ba, .ref bg]) = I5 at s5 e5 U5
    have s15 : Same H1 I5 := (((s1.trans s2).trans s3).trans s4).trans s5
    have z0 : S0 (frz [t] H1) t bg na nx := ⟨G0t, (frz_same _ _).free hb1, d4.symm, hN, hx⟩
    have x1 : frz [t, bg] I5 p1 = some (.tup [.str "take", .int 0]) := frz2 (s5 _ _ (s4 _ _ e1')) d1 f1
    have st0 : S1 K (frz [t] H1) t bg ra ba I5 (c + 1) [.take 0] [0] [] := ⟨U5, (frz_same _ _).trans s15, s5 _ _ e4, ⟨[.ref p1], frz2 (s5 _ _ (s4 _ _ e2')) d2 f2, .cons ⟨p1, [iv 0], rfl, sqT x1, rfl⟩ .nil⟩, frz2 (s5 _ _ (s4 _ _ e3)) d3 f3, (frz_same _ _).free (s1.free n2'), ne_of_none e2'' n3'⟩
    have p0 : P1 nx [.take 0] [0] 1 := by
      refine ⟨rfl, Nat.le_refl _, fun y hy => by rw [List.mem_singleton.mp hy]; exact (nx_bd nx hx).1, rfl, rfl, fun r hr => by rw [List.mem_singleton.mp hr]; exact (show 0 < 6 by decide), fun k r hk hm => ?_, fun k ps hk => ?_, fun i j hij hj => ?_, fun k hk => ?_⟩
      · rcases at_snoc (xs := ([] : List Rw)) hk with ⟨h1, _⟩ | ⟨_, h2⟩
        · exact absurd h1 (Nat.not_lt_zero k)
        · rw [h2]; exact (show 0 < 6 by decide)
      · rcases at_snoc (xs := ([] : List Rw)) hk with ⟨h1, _⟩ | ⟨_, h2⟩
        · exact absurd h1 (Nat.not_lt_zero k)
        · cases h2
      · have hj : j < 1 := hj
        have e1 : i = 0 := by omega
        have e2 : j = 0 := by omega
        rw [e1, e2]
        exact Nat.le_refl _
      · have hk : k + 1 < 1 := hk
        omega
    have bI : But t H I5 := b1.trans (Same.but s15)
    refine ⟨tp, _, rfl, sqT e5, rfl, _, _, rfl, _, _, rfl, _, _, rfl, rfl, ?_⟩
    clear e1 e2 e3 e4 e5 e1' e2' x1 s1 s2 s3 s4 s5 U1 U2 U3 U4 U5 n1 n2 n3 n4 n5 d1 d2 d3 f1 f2 f3
    have hGH : ∀ (a : Addr) (o : HO), a ≠ t → H a = some o → frz [t] H1 a = some o := fun a o n e => frz_at (b1 _ _ n e) (by simpa using n)
    generalize frz [t] H1 = G at G0t z0 st0 hGH
    have hm := nx_bd nx hx
    obtain ⟨ps, gna, gps⟩ := id z0.nr
    have hpl : ps.length = nx.length := pd_len gps
    have hpml : (ps.map V.ref).length = nx.length := by rw [List.length_map, hpl]
    refine ⟨.ref na, rfl, na, _, rfl, .inl (sqL (st0.g _ _ gna)), _, rfl, by omega, by omega, ?_⟩
    refine for_range (lo := 0) (n := ((ps.map V.ref).length : Int).toNat) (fun b σ Hx => ∃ (ra ba : Addr) (rows : List Rw) (blocks begins : List Nat) (y6 y7 y8 y9 y10 y11 y12 y13 y14 y15 y16 y17 y18 : Option V), σ = [some (.ref t), some (iv 5), some (.ref na), some (.ref ra), some (.ref ba), some (.ref bg), y6, y7, y8, y9, y10, y11, y12, y13, y14, y15, y16, y17, y18] ∧ But t H Hx ∧ S1 K G t bg ra ba Hx (c + 1 + 200 * b) rows blocks begins ∧ P1 nx rows blocks (1 + 8 * b) ∧ begins = (List.range b).map (cntB blocks) ∧ ∀ y ∈ blocks, y ≤ b - 1) ⟨_, _, _, _, _, _, _, _, _, _, _, _, _, _, _, _, _, _, rfl, bI, st0, p0, rfl, fun y hy => by rw [List.mem_singleton.mp hy]; exact Nat.zero_le _⟩ (fun b σ Hx hb hP => ?_) (fun σ Hx hP => ?_)
    · obtain ⟨ra, ba, rows, blocks, begins, y6, y7, y8, y9, y10, y11, y12, y13, y14, y15, y16, y17, y18, rfl, bx, st, pp, hbg, hbg2⟩ := hP
      have hbn : b < nx.length := by rw [hpml] at hb; omega
      have hi0 : V.int (0 + (b : Int)) = iv b := by rw [Int.zero_add]; rfl
      rw [hi0]
      obtain ⟨us, eR, pR⟩ := id st.rw_
      have hul : us.length = rows.length := pd_len pR
      have hrle := pp.le
      refine ⟨.ref bg, rfl, .inl ⟨rfl, _, sqL st.bgd⟩, .ref ra, rfl, ra, us, rfl, .inl (sqL (frz_same _ _ _ _ eR)), iv b, rfl, _, _, rfl, rfl, .inr ⟨_, rfl, _, _, rfl, rfl, ?_⟩⟩
      have ez : V.int ((us.length : Int) * (if decide (0 < (b : Int)) = true then 1 else 0)) = iv (cntB blocks b) := by
        by_cases h0 : 0 < (b : Int)
        · rw [decide_eq_true h0, if_pos rfl, Int.mul_one, cnt_all fun y hy => by have := hbg2 y hy; omega, pp.len, ← hul]
          rfl
        · rw [decide_eq_false h0, if_neg (by simp), Int.mul_zero, show b = 0 by omega, cnt_zero]
          rfl
      have hbgl0 : begins.length = b := by rw [hbg, List.length_map, List.length_range]
      obtain ⟨z, hz⟩ : ∃ z, z = cntB blocks b := ⟨_, rfl⟩
      rw [← hz] at ez
      refine ⟨.inr (b01 _), bg, _, _, rfl, rfl, st.bgd, by rw [List.length_map]; exact szt (by omega), ?_⟩
      show tSeq _ _ _ _ (upd Hx bg (.lst (begins.map iv ++ [V.int ((us.length : Int) * (if decide (0 < (b : Int)) = true then 1 else 0))])))
      rw [ez]
      have hbgn : H bg = none := by
        cases e : H bg with
        | none => rfl
        | some o => exact absurd (b1 _ _ d4 e) (by rw [hb1]; intro w; cases w)
      have bx2 : But t H (upd Hx bg (.lst (begins.map iv ++ [iv z]))) := fun x o n e => by
        rw [upd_ne (ne_of_none e hbgn)]
        exact bx x o n e
      have st2 := st.bgn (z := z) z0
      have hbg4 : begins ++ [z] = (List.range (b + 1)).map (cntB blocks) := by rw [List.range_succ, List.map_append, ← hbg, hz]; rfl
      have hup0 : ∀ y ∈ blocks, y ≤ b := fun y hy => Nat.le_trans (hbg2 y hy) (Nat.sub_le _ _)
      have hmb0 : 1 < (leadsF nx b).length → ∀ k, k < rows.length → blocks.getD k 0 = b → (rows.getD k (.take 0)).isM = true := fun h1 k hk he => by
        have h2 := hbg2 _ (List.mem_of_getElem? (gdl (d := 0) (show k < blocks.length by rw [pp.len]; exact hk)))
        have hb0 : b ≠ 0 := fun w => by rw [w, leads_no nx hx] at h1; exact absurd h1 (by decide)
        omega
      generalize begins ++ [z] = begins2 at st2 hbg4
      generalize upd Hx bg (.lst (begins.map iv ++ [iv z])) = Hy at bx2 st2
      clear st eR pR hul bx hbg hbg2 ez hz hbgl0
      -- leads
      refine ⟨.ref na, rfl, na, _, rfl, .inl (sqL (st2.g _ _ gna)), _, rfl, by omega, by omega, fun L nL => ?_⟩
      have nLt : L ≠ t := st2.tape.ne nL
      have nLb : L ≠ bg := (ne_of_none st2.bgd nL).symm
      refine lc_range (lo := 0) (n := ((ps.map V.ref).length : Int).toNat) (fun i Hz => Same Hy Hz ∧ Hz L = some (.lst (((List.range i).filter fun l => decide (b ∈ nx.getD l [])).map iv))) ⟨new_same nL, upd_same⟩ (fun i Hz hi hP => ?_) (fun Hz hP => ?_)
      · obtain ⟨sz, eL⟩ := hP
        have hin : i < nx.length := by rw [hpml] at hi; omega
        have hi1 : V.int (0 + (i : Int)) = iv i := by rw [Int.zero_add]; rfl
        rw [hi1]
        obtain ⟨ps2, qa, m1, m2, m3, m4⟩ := (z0.nr.same (st2.g.trans sz)).at (gdl (d := []) hin)
        refine ⟨rfl, iv b, rfl, .ref na, rfl, iv i, rfl, na, _, _, .ref qa, rfl, rfl, sqL m1, m3, qa, _, rfl, .inl (sqL m4), rfl, flat_iv _, _, rfl, ?_⟩
        show if inV (iv b) ((nx.getD i []).map iv) = true then _ else _
        rw [inV_iv]
        have hfl : ((List.range i).filter fun l => decide (b ∈ nx.getD l [])).length ≤ i := Nat.le_trans (List.length_filter_le _ _) (by rw [List.length_range]; exact Nat.le_refl _)
        refine ite2 (fun e => ?_) (fun e => ?_)
        · refine ⟨iv i, rfl, _, eL, by rw [List.length_map]; exact szt (by omega), fun x o w => ?_, ?_⟩
          · rw [upd_ne (ne_of_none w nL)]
            exact sz _ _ w
          · rw [upd_same, filt_succ, if_pos e, List.map_append]
            rfl
        · exact ⟨sz, by rw [filt_succ, if_neg e, List.append_nil]; exact eL⟩
      obtain ⟨sz, eL⟩ := hP
      have eL : Hz L = some (.lst ((leadsF nx b).map iv)) := by
        rw [eL, hpml, Int.toNat_natCast]
        rfl
      obtain ⟨hl6, hl7⟩ := leads_bd nx hx b (by omega)
      have st3 := st2.same z0 sz
      have bx3 := bx2.trans (Same.but (t := t) sz)
      clear st2 bx2 nL sz
      have hlm : ((leadsF nx b).map iv).length = (leadsF nx b).length := List.length_map _
      -- meets
      refine ⟨.ref t, rfl, t, 4, _, rfl, st3.tape, by omega, by decide, by decide, fun r1 Ha ha ba1 Ta => ?_⟩
      have st4 := st3.but z0 ba1 Ta
      have bx4 := bx3.trans ba1
      have eL4 := ba1 _ _ nLt eL
      have hnn : ∃ nn : Int, (r1 : Int) * (if decide (1 < (((leadsF nx b).map iv).length : Int)) = true then 1 else 0) = nn ∧ 0 ≤ nn ∧ nn ≤ 3 ∧ (0 < nn → 1 < (leadsF nx b).length) := by
        by_cases h0 : 1 < (((leadsF nx b).map iv).length : Int)
        · rw [decide_eq_true h0, if_pos rfl, Int.mul_one]
          exact ⟨_, rfl, by omega, by omega, fun _ => by rw [hlm] at h0; omega⟩
        · rw [decide_eq_false h0, if_neg (by simp), Int.mul_zero]
          exact ⟨0, rfl, by omega, by omega, fun w => by omega⟩
      obtain ⟨nn, enn, hn0, hn3, hnl⟩ := hnn
      refine ⟨.ref L, rfl, L, _, rfl, .inl (sqL eL4), _, _, rfl, rfl, .inr ⟨_, rfl, _, _, rfl, rfl, .inr (b01 _), nn, by rw [← enn], by omega, by omega, ?_⟩⟩
      clear st3 bx3 eL
      refine for_range (lo := 0) (n := nn.toNat) (fun j σ Hw => ∃ (ra ba : Addr) (rows : List Rw) (blocks : List Nat) (y8 y9 y10 y11 y12 y13 y14 y15 y16 y17 y18 : Option V), σ = [some (.ref t), some (iv 5), some (.ref na), some (.ref ra), some (.ref ba), some (.ref bg), some (iv b), some (.ref L), y8, y9, y10, y11, y12, y13, y14, y15, y16, y17, y18] ∧ But t H Hw ∧ S1 K G t bg ra ba Hw (c + 1 + 200 * b + 1 + j) rows blocks begins2 ∧ P1 nx rows blocks (1 + 8 * b + j) ∧ Hw L = some (.lst ((leadsF nx b).map iv)) ∧ begins2 = (List.range (b + 1)).map (cntB blocks) ∧ (∀ y ∈ blocks, y ≤ b) ∧ (1 < (leadsF nx b).length → ∀ k, k < rows.length → blocks.getD k 0 = b → (rows.getD k (.take 0)).isM = true)) ⟨_, _, _, _, _, _, _, _, _, _, _, _, _, _, _, rfl, bx4, st4, pp, eL4, hbg4, hup0, hmb0⟩ (fun j σ Hw hj hP => ?_) (fun σ Hw hP => ?_)
      · obtain ⟨ra, ba, rows, blocks, y8, y9, y10, y11, y12, y13, y14, y15, y16, y17, y18, rfl, bw, sw, pw, eLw, hbgw, hupw, hmbw⟩ := hP
        have hj3 : j < 3 := by omega
        have hlead : 1 < (leadsF nx b).length := hnl (by omega)
        obtain ⟨us, eR, pR⟩ := id sw.rw_
        have hul : us.length = rows.length := pd_len pR
        have hrle := pw.le
        have eR' := frz_same _ _ _ _ eR
        have eB' := frz_same _ _ _ _ sw.bl
        have hpR : Paired (RowAt K Hw) us rows := pd_mono pR fun _ _ y => y.same (frz_same _ _)
        have hb7 : ∀ y ∈ blocks, y < 7 := fun y hy => Nat.lt_of_lt_of_le (pw.b7 y hy) hm.2.1
        have e0 : (leadsF nx b)[0]? = some ((leadsF nx b).getD 0 0) := gdl (by omega)
        refine ⟨.ref na, rfl, .ref ba, rfl, .ref ra, rfl, .ref L, rfl, L, _, _, iv ((leadsF nx b).getD 0 0), rfl, rfl, sqL eLw, atI_nat (j := 0) (by rw [List.getElem?_map, e0]; rfl), na, ba, ra, nx, blocks, us, rows, _, rfl, z0.nr.same sw.g, hx, eB', eR', hpR, pw.len, hb7, by omega, fun so H2 nso s2 eso => ?_⟩
        have hz0 := pw.zero (b := (leadsF nx b).getD 0 0) hx
        have hslt := pw.lt (b := (leadsF nx b).getD 0 0)
        have hsl := stand_len (nx := nx) (blocks := blocks) (rows := rows) (b := (leadsF nx b).getD 0 0)
        generalize hssE : standL nx blocks rows ((leadsF nx b).getD 0 0) = ss at eso hz0 hslt hsl
        have hsm : (ss.map iv).length = ss.length := List.length_map _
        have hspos : 0 < ss.length := List.length_pos_iff.mpr fun w => by rw [w] at hz0; cases hz0
        have T2 := sw.tape.same s2
        refine ⟨.ref ra, rfl, .ref so, rfl, .ref t, rfl, .ref so, rfl, so, _, rfl, .inl (sqL eso), t, _, _, rfl, T2, by omega, by rw [hsm]; omega, by rw [hsm, pw.len] at *; omega, fun r2 H3 h3 b3 T3 => ?_⟩
        have nsot : so ≠ t := sw.tape.ne nso
        have hr2 : r2 < ss.length := by rw [hsm] at h3; omega
        have ey : (ss.map iv)[r2]? = some (iv ss[r2]) := by rw [List.getElem?_map, List.getElem?_eq_getElem hr2]; rfl
        have hy := hslt _ (List.getElem_mem hr2)
        have hyS : ss[r2] ∈ standL nx blocks rows ((leadsF nx b).getD 0 0) := by rw [hssE]; exact List.getElem_mem hr2
        generalize ss[r2] = y at ey hy hyS
        have bw3 : But t Hw H3 := (Same.but s2).trans b3
        refine ⟨so, _, _, _, rfl, rfl, sqL (b3 _ _ nsot eso), atI_nat ey, szl (show 1 ≤ 1000000 by decide), fun T1 nT1 => ?_⟩
        have w1 := new_same (o := .tup [iv y]) nT1
        have u1 : upd H3 T1 (.tup [iv y]) T1 = some (.tup [iv y]) := upd_same
        have bw4 := bw3.trans (Same.but (t := t) w1)
        have T4 := T3.same w1
        generalize upd H3 T1 (.tup [iv y]) = H4 at w1 u1 bw4 T4
        refine ⟨.ref L, rfl, L, _, rfl, .inl (sqL (bw4 _ _ nLt eLw)), T1, _, _, rfl, rfl, sqT u1, (by simp), by rw [hlm]; omega, by rw [hlm]; omega, (by simp), fun R nR => ?_⟩
        have hrep : (List.replicate (((leadsF nx b).map iv).length : Int).toNat [iv y]).flatten = (List.replicate (leadsF nx b).length y).map iv := by
          rw [hlm, Int.toNat_natCast, List.map_replicate]
          generalize (leadsF nx b).length = n
          induction n with
          | zero => rfl
          | succ n ih => rw [List.replicate_succ, List.replicate_succ, List.flatten_cons, ih]; rfl
        rw [hrep]
        have hp0S : (List.replicate (leadsF nx b).length y).getD 0 0 ∈ standL nx blocks rows ((leadsF nx b).getD 0 0) := by
          have hg0 : (List.replicate (leadsF nx b).length y).getD 0 0 = y := by
            rw [List.getD_eq_getElem?_getD, List.getElem?_replicate, if_pos (by omega)]
            rfl
          rw [hg0]
          exact hyS
        have hplen : (List.replicate (leadsF nx b).length y).length = (leadsF nx b).length := List.length_replicate
        generalize hps : List.replicate (leadsF nx b).length y = parts at hp0S hplen
        have hpA : RwA (· < rows.length) (.meet parts) := by
          rw [← hps]
          refine ⟨fun u hu => by rw [List.eq_of_mem_replicate hu]; exact hy, fun w => ?_, by rw [List.length_replicate]; omega⟩
          have hw0 := congrArg List.length w
          rw [List.length_replicate] at hw0
          have hw0 : (leadsF nx b).length = 0 := hw0
          omega
        have hnew : NewOk nx rows blocks b (.meet parts) := ⟨fun w => (by cases w), fun ps' w => by cases w; exact ⟨hpA, hlead, hplen, hp0S⟩, fun _ he => hmbw hlead _ (by have := pw.pos; omega) he⟩
        have hupN : ∀ y ∈ blocks ++ [b], y ≤ b := fun y hy => by
          rcases List.mem_append.mp hy with w | w
          · exact hupw y w
          · rw [List.mem_singleton.mp w]; exact Nat.le_refl _
        have hmbN : 1 < (leadsF nx b).length → ∀ k, k < (rows ++ [Rw.meet parts]).length → (blocks ++ [b]).getD k 0 = b → ((rows ++ [Rw.meet parts]).getD k (.take 0)).isM = true := fun h1 k hk he => by
          rw [List.length_append, List.length_singleton] at hk
          by_cases hk2 : k < rows.length
          · rw [getD_app (by rw [pw.len]; exact hk2)] at he
            rw [getD_app hk2]
            exact hmbw h1 k hk2 he
          · rw [show k = rows.length by omega, getD_last]
            rfl
        have w2 := new_same (o := .tup (parts.map iv)) nR
        have u2 : upd H4 R (.tup (parts.map iv)) R = some (.tup (parts.map iv)) := upd_same
        have nRt : R ≠ t := T4.ne nR
        have bw5 := bw4.trans (Same.but (t := t) w2)
        have T5 := T4.same w2
        have nRb : R ≠ bg := (ne_of_none (bw4 _ _ z0.ne.symm sw.bgd) nR).symm
        generalize upd H4 R (.tup (parts.map iv)) = H5 at w2 u2 bw5 T5
        refine ⟨szl (show 2 ≤ 1000000 by decide), fun M nM => ?_⟩
        have w3 := new_same (o := .tup [.str "meet", .ref R]) nM
        have u3 : upd H5 M (.tup [.str "meet", .ref R]) M = some (.tup [.str "meet", .ref R]) := upd_same
        have nMt : M ≠ t := T5.ne nM
        have bw6 := bw5.trans (Same.but (t := t) w3)
        have T6 := T5.same w3
        have nMb : M ≠ bg := (ne_of_none (bw5 _ _ z0.ne.symm sw.bgd) nM).symm
        have u2' := w3 _ _ u2
        generalize upd H5 M (.tup [.str "meet", .ref R]) = H6 at w3 u3 bw6 T6 u2'
        refine ⟨szl (show 1 ≤ 1000000 by decide), fun l nl => ?_⟩
        have w4 := new_same (o := .lst [.ref M]) nl
        have u4 : upd H6 l (.lst [.ref M]) l = some (.lst [.ref M]) := upd_same
        have bw7 := bw6.trans (Same.but (t := t) w4)
        have T7 := T6.same w4
        have u2'' := w4 _ _ u2'
        have u3' := w4 _ _ u3
        generalize upd H6 l (.lst [.ref M]) = H7 at w4 u4 bw7 T7 u2'' u3'
        obtain ⟨nrt, nrb⟩ := frz_ne2 eR
        obtain ⟨nbt, nbb⟩ := frz_ne2 sw.bl
        refine ⟨ra, l, _, _, rfl, rfl, bw7 _ _ nrt eR', u4, szl (by simp; omega), fun ra2 nra2 => ?_⟩
        have w5 := new_same (o := .lst (us ++ [.ref M])) nra2
        have u5 : upd H7 ra2 (.lst (us ++ [.ref M])) ra2 = some (.lst (us ++ [.ref M])) := upd_same
        have n1 : ra2 ≠ t := T7.ne nra2
        have n2 : ra2 ≠ bg := (ne_of_none (bw7 _ _ z0.ne.symm sw.bgd) nra2).symm
        have bw8 := bw7.trans (Same.but (t := t) w5)
        have T8 := T7.same w5
        have u2a := w5 _ _ u2''
        have u3a := w5 _ _ u3'
        generalize upd H7 ra2 (.lst (us ++ [.ref M])) = H8 at w5 u5 bw8 T8 u2a u3a
        refine ⟨.ref ba, rfl, iv b, rfl, szl (show 1 ≤ 1000000 by decide), fun l2 nl2 => ?_⟩
        have w6 := new_same (o := .lst [iv b]) nl2
        have u6 : upd H8 l2 (.lst [iv b]) l2 = some (.lst [iv b]) := upd_same
        have bw9 := bw8.trans (Same.but (t := t) w6)
        have T9 := T8.same w6
        have u2b := w6 _ _ u2a
        have u3b := w6 _ _ u3a
        have u5b := w6 _ _ u5
        generalize upd H8 l2 (.lst [iv b]) = H9 at w6 u6 bw9 T9 u2b u3b u5b
        refine ⟨ba, l2, _, _, rfl, rfl, bw9 _ _ nbt eB', u6, szl (by rw [List.length_map, pw.len]; simp; omega), fun ba2 nba2 => ?_⟩
        have w7 := new_same (o := .lst (blocks.map iv ++ [iv b])) nba2
        have n3 : ba2 ≠ t := T9.ne nba2
        have n4 : ba2 ≠ bg := (ne_of_none (bw9 _ _ z0.ne.symm sw.bgd) nba2).symm
        have bwA := bw9.trans (Same.but (t := t) w7)
        have TA := T9.same w7
        have hv : RowAt K (frz [t, bg] (upd H9 ba2 (.lst (blocks.map iv ++ [iv b])))) (.ref M) (.meet parts) := ⟨M, [.ref R], rfl, sqT (frz2 (w7 _ _ u3b) nMt nMb), R, rfl, sqT (frz2 (w7 _ _ u2b) nRt nRb)⟩
        exact ⟨_, _, _, _, _, _, _, _, _, _, _, _, _, _, _, rfl, bw.trans bwA, (sw.grow z0 bwA TA pR hv (w7 _ _ u5b) n1 n2 upd_same n3 n4 ((Same.bt sw.g z0.gt bw7).free nra2) (ne_of_none u5b nba2)).mono (by omega), (pw.snoc hbn hnew hupw).mono (by omega), bwA _ _ nLt eLw, by rw [cnts_app (by omega)]; exact hbgw, hupN, hmbN⟩
      · obtain ⟨ra, ba, rows, blocks, y8, y9, y10, y11, y12, y13, y14, y15, y16, y17, y18, rfl, bw, sw, pw, eLw, hbgw, hupw, hmbw⟩ := hP
        have sw := sw.mono (show _ ≤ c + 1 + 200 * b + 10 by omega)
        have pw := pw.mono (show _ ≤ 1 + 8 * b + 3 by omega)
        -- rows
        refine ⟨.ref t, rfl, iv 5, rfl, _, _, rfl, rfl, t, _, _, rfl, sw.tape, by omega, by decide, by decide, fun r1 Ha ha ba1 Ta => ?_⟩
        have ha : (r1 : Int) < 6 := ha
        refine ⟨(r1 : Int), rfl, by omega, by omega, ?_⟩
        refine for_range (lo := 0) (n := (r1 : Int).toNat) (fun j σ Hw => ∃ (ra ba : Addr) (rows : List Rw) (blocks : List Nat) (y8 y9 y10 y11 y12 y13 y14 y15 y16 y17 y18 : Option V), σ = [some (.ref t), some (iv 5), some (.ref na), some (.ref ra), some (.ref ba), some (.ref bg), some (iv b), some (.ref L), y8, y9, y10, y11, y12, y13, y14, y15, y16, y17, y18] ∧ But t H Hw ∧ S1 K G t bg ra ba Hw (c + 1 + 200 * b + 11 + 30 * j) rows blocks begins2 ∧ P1 nx rows blocks (1 + 8 * b + 3 + j) ∧ begins2 = (List.range (b + 1)).map (cntB blocks) ∧ ∀ y ∈ blocks, y ≤ b) ⟨_, _, _, _, _, _, _, _, _, _, _, _, _, _, _, rfl, bw.trans ba1, sw.but z0 ba1 Ta, pw, hbgw, hupw⟩ (fun j σ Hw hj hP => ?_) (fun σ Hw hP => ?_)
        · obtain ⟨ra, ba, rows, blocks, y8, y9, y10, y11, y12, y13, y14, y15, y16, y17, y18, rfl, bw, sw, pw, hbgw, hupw⟩ := hP
          have hj5 : j < 5 := by omega
          obtain ⟨us, eR, pR⟩ := id sw.rw_
          have hul : us.length = rows.length := pd_len pR
          have hrle := pw.le
          have eR' := frz_same _ _ _ _ eR
          have eB' := frz_same _ _ _ _ sw.bl
          have hpR : Paired (RowAt K Hw) us rows := pd_mono pR fun _ _ y => y.same (frz_same _ _)
          have hb7 : ∀ y ∈ blocks, y < 7 := fun y hy => Nat.lt_of_lt_of_le (pw.b7 y hy) hm.2.1
          obtain ⟨nrt, nrb⟩ := frz_ne2 eR
          obtain ⟨nbt, nbb⟩ := frz_ne2 sw.bl
          refine ⟨.ref ra, rfl, .ref t, rfl, .ref ra, rfl, .ref na, rfl, .ref ba, rfl, .ref ra, rfl, iv b, rfl, na, ba, ra, nx, blocks, us, rows, b, rfl, z0.nr.same sw.g, hx, eB', eR', hpR, pw.len, hb7, by omega, fun so H2 nso s2 eso => ?_⟩
          have hz0 := pw.zero (b := b) hx
          have hslt := pw.lt (b := b)
          have hsl := stand_len (nx := nx) (blocks := blocks) (rows := rows) (b := b)
          generalize hssE : standL nx blocks rows b = ss at eso hz0 hslt hsl
          have hsne : ss ≠ [] := fun w => by rw [w] at hz0; cases hz0
          have T2 := sw.tape.same s2
          have nsot : so ≠ t := sw.tape.ne nso
          have hpF : Paired (RowAt K (frz [t] H2)) us rows := pd_mono pR fun _ _ y => (y.same (Bm.frz (Bm.of_same s2))).same frz_le
          refine ⟨t, ra, so, _, us, rows, ss, (fun y => y ∈ standL nx blocks rows b), rfl, T2, by omega, nrt, nsot, s2 _ _ eR', eso, hpF, hsne, by rw [pw.len] at hsl; omega, fun y hy => ⟨hslt y hy, by rw [hssE]; exact hy⟩, fun k hk b' x y e => ?_, fun v rw1 H3 b3 T3 hrow hA hnm => ?_⟩
          · have hk' : k ∈ standL nx blocks rows b := by rw [hssE]; exact hk
            have hnm' := pw.nm k _ e rfl
            exact ⟨stand_trans hx hb7 (by omega) hnm'.1.2 hk', stand_trans hx hb7 (by omega) hnm'.2.2 hk'⟩
          have bw3 : But t Hw H3 := (Same.but s2).trans b3
          have hnew : NewOk nx rows blocks b rw1 := ⟨fun _ => hA, fun ps' w => (by rw [w] at hnm; cases hnm), fun w => (by rw [hnm] at w; cases w)⟩
          have hupN : ∀ y ∈ blocks ++ [b], y ≤ b := fun y hy => by
            rcases List.mem_append.mp hy with w | w
            · exact hupw y w
            · rw [List.mem_singleton.mp w]; exact Nat.le_refl _
          have hv3 := row_frz2 hrow (bw3 _ _ z0.ne.symm sw.bgd)
          refine ⟨szl (show 1 ≤ 1000000 by decide), fun l nl => ?_⟩
          have w4 := new_same (o := .lst [v]) nl
          have u4 : upd H3 l (.lst [v]) l = some (.lst [v]) := upd_same
          have bw7 := bw3.trans (Same.but (t := t) w4)
          have T7 := T3.same w4
          have hv4 := hv3.same (Bm.frz (Bm.of_same w4))
          generalize upd H3 l (.lst [v]) = H7 at w4 u4 bw7 T7 hv4
          refine ⟨ra, l, _, _, rfl, rfl, bw7 _ _ nrt eR', u4, szl (by simp; omega), fun ra2 nra2 => ?_⟩
          have w5 := new_same (o := .lst (us ++ [v])) nra2
          have u5 : upd H7 ra2 (.lst (us ++ [v])) ra2 = some (.lst (us ++ [v])) := upd_same
          have n1 : ra2 ≠ t := T7.ne nra2
          have n2 : ra2 ≠ bg := (ne_of_none (bw7 _ _ z0.ne.symm sw.bgd) nra2).symm
          have bw8 := bw7.trans (Same.but (t := t) w5)
          have T8 := T7.same w5
          have hv5 := hv4.same (Bm.frz (Bm.of_same w5))
          generalize upd H7 ra2 (.lst (us ++ [v])) = H8 at w5 u5 bw8 T8 hv5
          refine ⟨.ref ba, rfl, iv b, rfl, szl (show 1 ≤ 1000000 by decide), fun l2 nl2 => ?_⟩
          have w6 := new_same (o := .lst [iv b]) nl2
          have u6 : upd H8 l2 (.lst [iv b]) l2 = some (.lst [iv b]) := upd_same
          have bw9 := bw8.trans (Same.but (t := t) w6)
          have T9 := T8.same w6
          have u5b := w6 _ _ u5
          have hv6 := hv5.same (Bm.frz (Bm.of_same w6))
          generalize upd H8 l2 (.lst [iv b]) = H9 at w6 u6 bw9 T9 u5b hv6
          refine ⟨ba, l2, _, _, rfl, rfl, bw9 _ _ nbt eB', u6, szl (by rw [List.length_map, pw.len]; simp; omega), fun ba2 nba2 => ?_⟩
          have w7 := new_same (o := .lst (blocks.map iv ++ [iv b])) nba2
          have n3 : ba2 ≠ t := T9.ne nba2
          have n4 : ba2 ≠ bg := (ne_of_none (bw9 _ _ z0.ne.symm sw.bgd) nba2).symm
          have bwA := bw9.trans (Same.but (t := t) w7)
          have TA := T9.same w7
          exact ⟨_, _, _, _, _, _, _, _, _, _, _, _, _, _, _, rfl, bw.trans bwA, (sw.grow z0 bwA TA pR (hv6.same (Bm.frz (Bm.of_same w7))) (w7 _ _ u5b) n1 n2 upd_same n3 n4 ((Same.bt sw.g z0.gt bw7).free nra2) (ne_of_none u5b nba2)).mono (by omega), (pw.snoc hbn hnew hupw).mono (by omega), by rw [cnts_app (by omega)]; exact hbgw, hupN⟩
        · obtain ⟨ra, ba, rows, blocks, y8, y9, y10, y11, y12, y13, y14, y15, y16, y17, y18, rfl, bw, sw, pw, hbgw, hupw⟩ := hP
          exact ⟨_, _, _, _, _, _, _, _, _, _, _, _, _, _, _, _, _, _, rfl, bw, sw.mono (by omega), pw.mono (by omega), hbgw, hupw⟩
    · obtain ⟨ra, ba, rows, blocks, begins, y6, y7, y8, y9, y10, y11, y12, y13, y14, y15, y16, y17, y18, rfl, bx, st, pp, hbg, hbg2⟩ := hP
      rw [hpml, Int.toNat_natCast] at hbg st pp
      have st := st.mono (show _ ≤ c + 2000 by omega)
      have pp := pp.mono (show _ ≤ 57 by omega)
      clear bI st0 p0
      obtain ⟨us0, eR0, pR0⟩ := id st.rw_
      have hul0 : us0.length = rows.length := pd_len pR0
      refine ⟨.ref ra, rfl, ra, us0, rfl, .inl (sqL (frz_same _ _ _ _ eR0)), fun L nL => ⟨L, us0, rfl, sqL upd_same, ?_⟩⟩
      have sL := new_same (o := .lst us0) nL
      have eL : upd Hx L (.lst us0) L = some (.lst us0) := upd_same
      have nLt : L ≠ t := st.tape.ne nL
      have nLb : L ≠ bg := (ne_of_none st.bgd nL).symm
      have nLr : L ≠ ra := (ne_of_none (frz_same _ _ _ _ eR0) nL).symm
      have st1 := st.same z0 sL
      have bx1 := bx.trans (Same.but (t := t) sL)
      have pR1 : Paired (RowAt K (frz [t, bg] (upd Hx L (.lst us0)))) us0 rows := pd_mono pR0 fun _ _ y => y.same (Bm.frz (Bm.of_same sL))
      generalize upd Hx L (.lst us0) = H0 at eL st1 bx1 pR1
      have hr57 := pp.le
      refine for_it (walk_enum (K := K) (a := L) (xs := us0)) (fun i σ Hw => ∃ (rws : List Rw) (y6 y7 y8 y9 y10 y11 y12 y13 y14 y15 y16 y17 y18 : Option V), σ = [some (.ref t), some (iv 5), some (.ref na), some (.ref ra), some (.ref ba), some (.ref bg), y6, y7, y8, y9, y10, y11, y12, y13, y14, y15, y16, y17, y18] ∧ But t H Hw ∧ S1 K G t bg ra ba Hw (c + 2000 + 30 * i) rws blocks begins ∧ P1 nx rws blocks 57 ∧ rws.length = rows.length ∧ Hw L = some (.lst us0) ∧ Paired (RowAt K (frz [t, bg] Hw)) us0 rows ∧ (∀ k, k < i → MtAll nx blocks rws k) ∧ ∀ k, i ≤ k → rws[k]? = rows[k]?) ⟨rows, _, _, _, _, _, _, _, _, _, _, _, _, _, rfl, bx1, st1, pp, rfl, eL, pR1, fun k hk => absurd hk (Nat.not_lt_zero k), fun k _ => rfl⟩ (fun i σ Hw _ hP => ?_) (fun i x σ Hw Hw2 hi hP hY => ?_) (fun σ Hw hP => ?_)
      · obtain ⟨_, _, _, _, _, _, _, _, _, _, _, _, _, _, _, _, _, _, _, eLw, _, _⟩ := hP
        exact sqL eLw
      · obtain ⟨rws, y6, y7, y8, y9, y10, y11, y12, y13, y14, y15, y16, y17, y18, rfl, bw, sw, pw, hrwl, eLw, pL, hmA0, hmB0⟩ := hP
        obtain ⟨T, x1, x2, rfl, nT, rfl, e1, e2⟩ := hY
        cases e1
        have e2 : us0[i]? = some x2 := e2
        have hi57 : i < 57 := by omega
        obtain ⟨r0, hr0, hr0w⟩ := pd_at2 pL e2
        have sT := new_same (o := .tup [.int (i : Nat), x2]) nT
        have sw1 := sw.same z0 sT
        have bw1 := bw.trans (Same.but (t := t) sT)
        have eL1 := sT _ _ eLw
        have pL1 : Paired (RowAt K (frz [t, bg] (upd Hw T (.tup [.int (i : Nat), x2])))) us0 rows := pd_mono pL fun _ _ y => y.same (Bm.frz (Bm.of_same sT))
        have hr1w := hr0w.same (Bm.frz (M := [t, bg]) (Bm.of_same sT))
        refine ⟨T, _, rfl, sqT upd_same, rfl, _, _, rfl, _, _, rfl, rfl, ?_⟩
        generalize upd Hw T (.tup [.int (i : Nat), x2]) = Hv at sw1 bw1 eL1 pL1 hr1w
        clear sw bw eLw pL hr0w nT sT
        obtain ⟨z, zs, rfl, hz, hzr⟩ := hr1w
        refine ⟨.ref z, rfl, z, _, _, _, rfl, rfl, Same.tup (frz_same _ _) hz, atI_nat (j := 0) rfl, rfl, _, rfl, ?_⟩
        show if decide (V.str r0.w = V.str "meet") = true then _ else _
        rw [isM_dec]
        refine ite2 (fun em => ?_) (fun em => ?_)
        rotate_left
        · refine ⟨rws, _, _, _, _, _, _, _, _, _, _, _, _, _, rfl, bw1, sw1.mono (by omega), pw, hrwl, eL1, pL1, fun k hk => ?_, fun k hk => hmB0 k (by omega)⟩
          · by_cases hki : k < i
            · exact hmA0 k hki
            · have hki : k = i := by omega
              subst hki
              intro ps' hps'
              rw [hmB0 k (Nat.le_refl _), hr0] at hps'
              cases hps'
              exact absurd rfl em
        obtain ⟨ps0, rfl⟩ : ∃ ps, r0 = .meet ps := by
          cases r0 with
          | meet ps => exact ⟨ps, rfl⟩
          | _ => cases em
        obtain ⟨qz, rfl, hqz⟩ := hzr
        have hpos : 0 < i := Nat.pos_of_ne_zero fun w => by
          rw [w, pp.r0] at hr0
          cases hr0
        have hil : i < rows.length := (List.getElem?_eq_some_iff.mp hr0).1
        have hmA := pp.rb _ (List.mem_of_getElem? hr0)
        obtain ⟨hm1, hm2, hm3⟩ := hmA
        have hp0 : ps0[0]? = some (ps0.getD 0 0) := gdl (List.length_pos_iff.mpr hm2)
        have hp0r : ps0.getD 0 0 < rws.length := by rw [hrwl]; exact hm1 _ (List.mem_of_getElem? hp0)
        have eB' := frz_same _ _ _ _ sw1.bl
        have hrwi : rws[i]? = some (.meet ps0) := by rw [hmB0 i (Nat.le_refl _)]; exact hr0
        have hmt := pw.mt i ps0 hrwi
        have hbi : blocks[i]? = some (blocks.getD i 0) := gdl (by rw [pw.len, hrwl]; exact hil)
        have hbi7 : blocks.getD i 0 < 7 := Nat.lt_of_lt_of_le (pw.b7 _ (List.mem_of_getElem? hbi)) hm.2.1
        -- leads
        refine ⟨.ref na, rfl, na, _, rfl, .inl (sqL (sw1.g _ _ gna)), _, rfl, by omega, by omega, fun L2 nL2 => ?_⟩
        have nL2t : L2 ≠ t := sw1.tape.ne nL2
        refine lc_range (lo := 0) (n := ((ps.map V.ref).length : Int).toNat) (fun j Hz => Same Hv Hz ∧ Hz L2 = some (.lst (((List.range j).filter fun l => decide (blocks.getD i 0 ∈ nx.getD l [])).map iv))) ⟨new_same nL2, upd_same⟩ (fun j Hz hj hP => ?_) (fun Hz hP => ?_)
        · obtain ⟨sz, eL2⟩ := hP
          have hin : j < nx.length := by rw [hpml] at hj; omega
          have hi1 : V.int (0 + (j : Int)) = iv j := by rw [Int.zero_add]; rfl
          rw [hi1]
          obtain ⟨ps2, qa, m1, m2, m3, m4⟩ := (z0.nr.same (sw1.g.trans sz)).at (gdl (d := []) hin)
          refine ⟨rfl, .ref ba, rfl, iv i, rfl, ba, _, _, iv (blocks.getD i 0), rfl, rfl, sqL (sz _ _ eB'), atI_nat (by rw [List.getElem?_map, hbi]; rfl), .ref na, rfl, iv j, rfl, na, _, _, .ref qa, rfl, rfl, sqL m1, m3, qa, _, rfl, .inl (sqL m4), rfl, flat_iv _, _, rfl, ?_⟩
          show if inV (iv (blocks.getD i 0)) ((nx.getD j []).map iv) = true then _ else _
          rw [inV_iv]
          have hfl : ((List.range j).filter fun l => decide (blocks.getD i 0 ∈ nx.getD l [])).length ≤ j := Nat.le_trans (List.length_filter_le _ _) (by rw [List.length_range]; exact Nat.le_refl _)
          refine ite2 (fun e => ?_) (fun e => ?_)
          · refine ⟨iv j, rfl, _, eL2, by rw [List.length_map]; exact szt (by omega), fun x o w => ?_, ?_⟩
            · rw [upd_ne (ne_of_none w nL2)]
              exact sz _ _ w
            · rw [upd_same, filt_succ, if_pos e, List.map_append]
              rfl
          · exact ⟨sz, by rw [filt_succ, if_neg e, List.append_nil]; exact eL2⟩
        obtain ⟨sz, eL2⟩ := hP
        have eL2 : Hz L2 = some (.lst ((leadsF nx (blocks.getD i 0)).map iv)) := by
          rw [eL2, hpml, Int.toNat_natCast]
          rfl
        obtain ⟨hl6, hl7⟩ := leads_bd nx hx _ hbi7
        generalize hldsE : leadsF nx (blocks.getD i 0) = lds at eL2 hl6 hl7 hmt
        obtain ⟨l0, lr, rfl⟩ : ∃ l0 lr, lds = l0 :: lr := by
          cases lds with
          | nil => exact absurd hmt.1 (by decide)
          | cons l0 lr => exact ⟨l0, lr, rfl⟩
        obtain ⟨hmt1, hmt2, hmt3⟩ := hmt
        refine ⟨.ref z, rfl, z, _, _, .ref qz, rfl, rfl, Same.tup sz (Same.tup (frz_same _ _) hz), atI_nat (j := 1) rfl, qz, _, _, iv (ps0.getD 0 0), rfl, rfl, Same.tup sz (Same.tup (frz_same _ _) hqz), atI_nat (j := 0) (by rw [List.getElem?_map, hp0]; rfl), szl (show 1 ≤ 1000000 by decide), fun PL nPL => ⟨_, _, rfl, ?_⟩⟩
        have s3 := new_same (o := .lst [iv (ps0.getD 0 0)]) nPL
        have ePL : upd Hz PL (.lst [iv (ps0.getD 0 0)]) PL = some (.lst [iv (ps0.getD 0 0)]) := upd_same
        have sv3 := sz.trans s3
        have eL3 := s3 _ _ eL2
        have T3 := (sw1.tape.same sz).same s3
        have nPt : PL ≠ t := (sw1.tape.same sz).ne nPL
        have nPv : Hv PL = none := sz.free nPL
        generalize upd Hz PL (.lst [iv (ps0.getD 0 0)]) = H3 at s3 ePL sv3 eL3 T3
        refine ⟨.ref L2, rfl, 1, rfl, L2, _, rfl, sqL eL3, fun S nS => ⟨S, rfl, ⟨_, sqL upd_same⟩, ?_⟩⟩
        have hcut : cutV ((l0 :: lr).map iv) (some 1) none = lr.map iv := cut_one _ _
        rw [hcut]
        have hcl : (lr.map iv).length ≤ 6 := by rw [List.length_map]; simp at hl6; omega
        have s4 := new_same (o := .lst (lr.map iv)) nS
        have eS : upd H3 S (.lst (lr.map iv)) S = some (.lst (lr.map iv)) := upd_same
        have sv4 := sv3.trans s4
        have ePL4 := s4 _ _ ePL
        have T4 := T3.same s4
        have nSt : S ≠ t := T3.ne nS
        have nSP : S ≠ PL := (ne_of_none ePL nS).symm
        generalize upd H3 S (.lst (lr.map iv)) = H4 at s4 eS sv4 ePL4 T4
        refine for_list (K := K) (a := S) (xs := lr.map iv) (fun j σ Hq => ∃ (parts : List Nat) (y6 y8 y9 y13 y14 y15 y16 y17 y18 : Option V), σ = [some (.ref t), some (iv 5), some (.ref na), some (.ref ra), some (.ref ba), some (.ref bg), y6, some (.ref L2), y8, y9, some (iv i), some (.ref z), some (.ref PL), y13, y14, y15, y16, y17, y18] ∧ But t Hv Hq ∧ Tape Hq t (c + 2000 + 30 * i + 4 * j) ∧ Hq S = some (.lst (lr.map iv)) ∧ Hq PL = some (.lst (parts.map iv)) ∧ parts.length = 1 + j ∧ (∀ y ∈ parts, y < rws.length) ∧ (∀ m, m < parts.length → parts.getD m 0 ∈ standL nx blocks rws ((l0 :: lr).getD m 0)) ∧ parts.getD 0 0 = ps0.getD 0 0) ⟨[ps0.getD 0 0], _, _, _, _, _, _, _, _, _, rfl, Same.but sv4, T4, eS, ePL4, rfl, fun y hy => by rw [List.mem_singleton.mp hy]; exact hp0r, fun m hm' => by have hm' : m < 1 := hm'; rw [show m = 0 by omega]; exact hmt3, rfl⟩ (fun j σ Hq _ hP => ?_) (fun j x σ Hq hx' hP => ?_) (fun σ Hq hP => ?_)
        · obtain ⟨_, _, _, _, _, _, _, _, _, _, _, _, _, eSq, _⟩ := hP
          exact sqL eSq
        · obtain ⟨parts, y6, y8, y9, y13, y14, y15, y16, y17, y18, rfl, bq, Tq, eSq, ePq, hpl', hpb, hpS, hpZ⟩ := hP
          have hj6 := (List.getElem?_eq_some_iff.mp hx').1
          rw [List.getElem?_map] at hx'
          obtain ⟨l, hl, rfl⟩ := Option.map_eq_some_iff.mp hx'
          have hlD : (l0 :: lr).getD (j + 1) 0 = l := by rw [List.getD_eq_getElem?_getD, List.getElem?_cons_succ, hl]; rfl
          have sq := sw1.but z0 bq Tq
          obtain ⟨us, eR, pR⟩ := id sq.rw_
          have eR' := frz_same _ _ _ _ eR
          have eB2 := frz_same _ _ _ _ sq.bl
          have hpR : Paired (RowAt K Hq) us rws := pd_mono pR fun _ _ y => y.same (frz_same _ _)
          have hb7 : ∀ y ∈ blocks, y < 7 := fun y hy => Nat.lt_of_lt_of_le (pw.b7 y hy) hm.2.1
          refine ⟨.ref na, rfl, .ref ba, rfl, .ref ra, rfl, iv l, rfl, na, ba, ra, nx, blocks, us, rws, l, rfl, z0.nr.same sq.g, hx, eB2, eR', hpR, pw.len, hb7, by omega, fun so H5 nso s5 eso => ?_⟩
          have hz0 := pw.zero (b := l) hx
          have hslt := pw.lt (b := l)
          have hsl := stand_len (nx := nx) (blocks := blocks) (rows := rws) (b := l)
          rw [pw.len] at hsl
          generalize hssE : standL nx blocks rws l = ss at eso hz0 hslt hsl
          have hsm : (ss.map iv).length = ss.length := List.length_map _
          have hspos : 0 < ss.length := List.length_pos_iff.mpr fun w => by rw [w] at hz0; cases hz0
          have nsot : so ≠ t := Tq.ne nso
          have T5 := Tq.same s5
          have eR5 := s5 _ _ eR'
          have hpR5 : Paired (RowAt K H5) us rws := pd_mono hpR fun _ _ y => y.same s5
          -- near
          refine ⟨.ref so, rfl, so, rfl, ⟨_, sqL eso⟩, fun N nN => ?_⟩
          refine lc_list (K := K) (a := so) (xs := ss.map iv) (fun m Hm => Same H5 Hm ∧ ∃ ns : List Nat, Hm N = some (.lst (ns.map iv)) ∧ ns.length ≤ m ∧ ∀ y ∈ ns, y ∈ ss) ⟨new_same nN, [], upd_same, Nat.le_refl _, fun y hy => (by cases hy)⟩ (fun m Hm _ hP => sqL (hP.1 _ _ eso)) (fun m x Hm hx2 hP => ?_) (fun Hm hP => ?_)
          · obtain ⟨sm, ns, eN, hnl, hns⟩ := hP
            rw [List.getElem?_map] at hx2
            obtain ⟨y, hy, rfl⟩ := Option.map_eq_some_iff.mp hx2
            have hys := List.mem_of_getElem? hy
            have hml' := (List.getElem?_eq_some_iff.mp hy).1
            have hyes : ∀ Hn : Hp, Same H5 Hn → Hn N = some (.lst (ns.map iv)) → ∃ v H4', v = iv y ∧ Hn = H4' ∧ ∃ acc, H4' N = some (.lst acc) ∧ acc.length < sizeLine ∧ (Same H5 (upd H4' N (.lst (acc ++ [v]))) ∧ ∃ ns : List Nat, (upd H4' N (.lst (acc ++ [v]))) N = some (.lst (ns.map iv)) ∧ ns.length ≤ m + 1 ∧ ∀ y ∈ ns, y ∈ ss) := fun Hn sn en => ⟨_, _, rfl, rfl, _, en, by rw [List.length_map]; exact szt (by omega), fun b o w => by rw [upd_ne (ne_of_none w nN)]; exact sn _ _ w, ns ++ [y], by rw [upd_same, List.map_append]; rfl, by rw [List.length_append]; exact Nat.add_le_add_right hnl 1, fun u hu => by
              rcases List.mem_append.mp hu with w | w
              · exact hns u w
              · rw [List.mem_singleton.mp w]; exact hys⟩
            refine ⟨rfl, iv y, rfl, iv i, rfl, rfl, _, rfl, ite2 (fun e => ?_) (fun e => ?_)⟩
            · obtain ⟨_, _, rfl, rfl, hh⟩ := hyes Hm sm eN
              exact ⟨iv y, rfl, hh⟩
            · obtain ⟨u, hu1, zz, zzs, rfl, hzz, _⟩ := pd_at hpR5 (gdl (d := Rw.take 0) (hslt y hys))
              refine ⟨.ref ra, rfl, iv y, rfl, ra, us, _, .ref zz, rfl, rfl, sqL (sm _ _ eR5), atI_nat hu1, zz, _, _, _, rfl, rfl, Same.tup sm hzz, atI_nat (j := 0) rfl, szl (show 2 ≤ 1000000 by decide), fun T2 nT2 => ?_⟩
              have sT2 := new_same (o := .tup [.str "sum", .str "less"]) nT2
              refine ⟨T2, _, rfl, .inr (sqT upd_same), rfl, rfl, _, rfl, ite2 (fun e => ?_) (fun e => ⟨sm.trans sT2, ns, sT2 _ _ eN, Nat.le_succ_of_le hnl, hns⟩)⟩
              obtain ⟨_, _, rfl, rfl, hh⟩ := hyes _ (sm.trans sT2) (sT2 _ _ eN)
              exact ⟨iv y, rfl, hh⟩
          obtain ⟨sm, ns, eN, hnl, hns⟩ := hP
          rw [hsm] at hnl
          have eso6 := sm _ _ eso
          have elast : atI (ss.map iv) (-1) = some (iv ss[ss.length - 1]) := by
            have := atI_neg (xs := ss.map iv) (r := 0) (by rw [hsm]; exact hspos)
            simpa using this
          have hlast : ss[ss.length - 1] ∈ ss := List.getElem_mem _
          refine ⟨.ref so, rfl, 1, rfl, so, _, _, _, rfl, rfl, sqL eso6, elast, szl (show 1 ≤ 1000000 by decide), fun l1 n1 => ?_⟩
          generalize ss[ss.length - 1] = la at elast hlast
          have w1 := new_same (o := .lst [iv la]) n1
          have u1 : upd Hm l1 (.lst [iv la]) l1 = some (.lst [iv la]) := upd_same
          have sm1 := sm.trans w1
          have eN1 := w1 _ _ eN
          generalize upd Hm l1 (.lst [iv la]) = H6 at w1 u1 sm1 eN1
          refine ⟨N, l1, _, _, rfl, rfl, eN1, u1, szl (by rw [List.length_map]; simp; omega), fun N2 nN2 => ?_⟩
          have w2 := new_same (o := .lst (ns.map iv ++ [iv la])) nN2
          have u2 : upd H6 N2 (.lst (ns.map iv ++ [iv la])) N2 = some (.lst ((ns ++ [la]).map iv)) := by rw [upd_same, List.map_append]; rfl
          have sm2 := sm1.trans w2
          have hnl2 : (ns ++ [la]).length ≤ 1000 := by rw [List.length_append]; simp; omega
          have hnp2 : 0 < (ns ++ [la]).length := by rw [List.length_append]; simp
          have hns2 : ∀ y ∈ ns ++ [la], y ∈ ss := fun y hy => by
            rcases List.mem_append.mp hy with w | w
            · exact hns y w
            · rw [List.mem_singleton.mp w]; exact hlast
          generalize upd H6 N2 (.lst (ns.map iv ++ [iv la])) = H7 at w2 u2 sm2
          generalize ns ++ [la] = ns2 at u2 hnl2 hnp2 hns2
          have hn2m : (ns2.map iv).length = ns2.length := List.length_map _
          have T7 := T5.same sm2
          have b7 : But t Hq H7 := Same.but (s5.trans sm2)
          have nN2t : N2 ≠ t := ((T5.same sm1)).ne nN2
          have eso7 := sm2 _ _ eso
          -- the part
          refine ⟨.ref PL, rfl, .inl ⟨rfl, _, sqL (b7 _ _ nPt ePq)⟩, .ref N2, rfl, .ref t, rfl, .ref N2, rfl, N2, _, rfl, .inl (sqL u2), t, _, _, rfl, T7, by omega, by rw [hn2m]; omega, by rw [hn2m]; omega, fun r8 H8 h8 b8 T8 => ?_⟩
          have hr8 : r8 < ns2.length := by rw [hn2m] at h8; omega
          refine ⟨N2, _, _, iv ns2[r8], rfl, rfl, sqL (b8 _ _ nN2t u2), atI_nat (by rw [List.getElem?_map, List.getElem?_eq_getElem hr8]; rfl), .ref so, rfl, .ref t, rfl, .ref so, rfl, so, _, rfl, .inl (sqL (b8 _ _ nsot eso7)), t, _, _, rfl, T8, by omega, by rw [hsm]; omega, by rw [hsm]; omega, fun r9 H9 h9 b9 T9 => ?_⟩
          have hr9 : r9 < ss.length := by rw [hsm] at h9; omega
          refine ⟨so, _, _, iv ss[r9], rfl, rfl, sqL (b9 _ _ nsot (b8 _ _ nsot eso7)), atI_nat (by rw [List.getElem?_map, List.getElem?_eq_getElem hr9]; rfl), szl (show 2 ≤ 1000000 by decide), fun l3 n3 => ?_⟩
          have w3 := new_same (o := .lst [iv ns2[r8], iv ss[r9]]) n3
          have nl3 : l3 ≠ t := T9.ne n3
          refine ⟨.ref t, rfl, t, 2, _, rfl, T9.same w3, by omega, by decide, by decide, fun rA HA hA bA TA => ?_⟩
          obtain ⟨y, hy, hat⟩ : ∃ y, y ∈ ss ∧ atI [iv ns2[r8], iv ss[r9]] (rA : Int) = some (iv y) := by
            have : rA = 0 ∨ rA = 1 := by omega
            rcases this with rfl | rfl
            · exact ⟨_, hns2 _ (List.getElem_mem hr8), atI_nat (j := 0) rfl⟩
            · exact ⟨_, List.getElem_mem hr9, atI_nat (j := 1) rfl⟩
          have bqA : But t Hq HA := ((b7.trans b8).trans b9).trans ((Same.but w3).trans bA)
          refine ⟨l3, _, _, iv y, rfl, rfl, sqL (bA _ _ nl3 upd_same), hat, PL, _, _, rfl, rfl, bqA _ _ nPt ePq, by rw [List.length_map]; exact szt (by omega), ?_⟩
          refine ⟨parts ++ [y], _, _, _, _, _, _, _, _, _, rfl, fun a o n e => ?_, ?_, by rw [upd_ne nSP]; exact bqA _ _ nSt eSq, by rw [upd_same, List.map_append]; rfl, by rw [List.length_append, hpl']; simp; omega, fun u hu => ?_, fun m hm' => ?_, by rw [getD_app (by omega)]; exact hpZ⟩
          · rw [upd_ne (ne_of_none e nPv)]
            exact (bq.trans bqA) a o n e
          · obtain ⟨x, y, zz, q1, q2⟩ := TA
            exact ⟨x, y, zz, by rw [upd_ne nPt.symm]; exact q1, q2.1, q2.2.1, q2.2.2.1, q2.2.2.2.1, by have := q2.2.2.2.2; omega⟩
          · rcases List.mem_append.mp hu with w | w
            · exact hpb u w
            · rw [List.mem_singleton.mp w]; exact hslt y hy
          · rw [List.length_append, List.length_singleton] at hm'
            by_cases hm2 : m < parts.length
            · rw [getD_app hm2]; exact hpS m hm2
            · rw [show m = parts.length by omega, getD_last, hpl', show 1 + j = j + 1 by omega, hlD, hssE]
              exact hy
        · obtain ⟨parts, y6, y8, y9, y13, y14, y15, y16, y17, y18, rfl, bq, Tq, eSq, ePq, hpl', hpb, hpS, hpZ⟩ := hP
          have sq := (sw1.but z0 bq Tq).mono (show _ ≤ c + 2000 + 30 * (i + 1) by omega)
          obtain ⟨us, eR, pR⟩ := id sq.rw_
          have eR' := frz_same _ _ _ _ eR
          have hulw : us.length = rws.length := pd_len pR
          obtain ⟨nrt, nrb⟩ := frz_ne2 eR
          have nPb : PL ≠ bg := (ne_of_none sw1.bgd nPv).symm
          refine ⟨.ref PL, rfl, PL, _, rfl, .inl ⟨sqL ePq, fun R nR => ?_⟩⟩
          have w1 := new_same (o := .tup (parts.map iv)) nR
          have u1 : upd Hq R (.tup (parts.map iv)) R = some (.tup (parts.map iv)) := upd_same
          have nRt : R ≠ t := sq.tape.ne nR
          have nRb : R ≠ bg := (ne_of_none sq.bgd nR).symm
          have sq1 := sq.same z0 w1
          have bq1 := bq.trans (Same.but (t := t) w1)
          generalize upd Hq R (.tup (parts.map iv)) = H5 at w1 u1 sq1 bq1
          refine ⟨szl (show 2 ≤ 1000000 by decide), fun M nM => ?_⟩
          have w2 := new_same (o := .tup [.str "meet", .ref R]) nM
          have u2 : upd H5 M (.tup [.str "meet", .ref R]) M = some (.tup [.str "meet", .ref R]) := upd_same
          have nMt : M ≠ t := sq1.tape.ne nM
          have nMb : M ≠ bg := (ne_of_none sq1.bgd nM).symm
          have sq2 := sq1.same z0 w2
          have bq2 := bq1.trans (Same.but (t := t) w2)
          have u1' := w2 _ _ u1
          have eR2 := (w1.trans w2) _ _ eR'
          have pR2 : Paired (RowAt K (frz [t, bg] (upd H5 M (.tup [.str "meet", .ref R])))) us rws := pd_mono pR fun _ _ y => y.same (Bm.frz (Bm.of_same (w1.trans w2)))
          generalize upd H5 M (.tup [.str "meet", .ref R]) = H6 at w2 u2 sq2 bq2 u1' eR2 pR2
          have hv : RowAt K (frz [t, bg] H6) (.ref M) (.meet parts) := ⟨M, [.ref R], rfl, sqT (frz2 u2 nMt nMb), R, rfl, sqT (frz2 u1' nRt nRb)⟩
          rw [List.length_map] at hpl'
          have hpA : RwA (· < rws.length) (.meet parts) := ⟨hpb, fun w => by rw [w] at hpl'; simp at hpl'; omega, by simp at hl6; omega⟩
          have hplen : parts.length = ps0.length := by rw [hpl', hmt2]; simp; omega
          refine ⟨.ref ra, rfl, iv i, rfl, ra, us, _, i, rfl, rfl, eR2, Evl.ixN_nat (by omega), ?_⟩
          have hn0 : H ra = none := by
            cases e : H ra with
            | none => rfl
            | some o => exact absurd (hGH ra o nrt e) (by rw [sq.gr]; intro w; cases w)
          refine ⟨rws.set i (.meet parts), _, _, _, _, _, _, _, _, _, _, _, _, _, rfl, fun a o n e => ?_, sq2.setrow (i := i) z0 eR2 pR2 hv, pw.set hrwi hpA hplen hpZ, by rw [List.length_set]; exact hrwl, by rw [upd_ne nLr]; exact bq2 _ _ nLt eL1, ?_, fun k hk => ?_, fun k hk => by rw [List.getElem?_set_ne (by omega)]; exact hmB0 k (by omega)⟩
          · rw [upd_ne (ne_of_none e hn0)]
            exact (bw1.trans bq2) a o n e
          · exact pd_mono pL1 fun _ _ y => row_tups y fun hh => tup_frz_upd (Same.tup (Bm.frz (Bm.of_but bq2 (by simp))) hh) eR2
          · intro ps' hps' j hj
            rw [stand_set hrwi]
            by_cases hki : k = i
            · subst hki
              rw [List.getElem?_set_self (by rw [hrwl]; exact hil)] at hps'
              cases hps'
              rw [hldsE]
              exact hpS j hj
            · rw [List.getElem?_set_ne (Ne.symm hki)] at hps'
              exact hmA0 k (by omega) ps' hps' j hj
      · obtain ⟨rws, y6, y7, y8, y9, y10, y11, y12, y13, y14, y15, y16, y17, y18, rfl, bw, sw, pw, hrwl, eLw, pL, hmA0, hmB0⟩ := hP
        have sw := sw.mono (show _ ≤ c + 4000 by omega)
        clear pL eLw pR1 eL st1 bx1 pR0 eR0
        refine ⟨Nat.zero_le _, fun fo nfo => ?_⟩
        have s0 := new_same (o := .lst []) nfo
        have nft : fo ≠ t := sw.tape.ne nfo
        have nfG : G fo = none := sw.g.free nfo
        obtain ⟨us, eR, pR⟩ := id sw.rw_
        obtain ⟨nrt, nrb⟩ := frz_ne2 eR
        obtain ⟨nbt, nbb⟩ := frz_ne2 sw.bl
        have nfr : fo ≠ ra := (ne_of_none (frz_same _ _ _ _ eR) nfo).symm
        have nfb : fo ≠ bg := (ne_of_none sw.bgd nfo).symm
        have nfa : fo ≠ ba := (ne_of_none (frz_same _ _ _ _ sw.bl) nfo).symm
        have nfH : H fo = none := by
          cases e : H fo with
          | none => rfl
          | some o => exact absurd (hGH fo o nft e) (by rw [nfG]; intro w; cases w)
        have hul : us.length = rws.length := pd_len pR
        have hbgl : begins.length = nx.length := by rw [hbg, List.length_map, List.length_range]
        have hmtA : ∀ k, MtAll nx blocks rws k := fun k => by
          by_cases hk : k < us0.length
          · exact hmA0 k hk
          · intro ps' hps'
            have := (List.getElem?_eq_some_iff.mp hps').1
            omega
        have pm0 : PgM K t fo (upd Hw fo (.lst [])) [] [] := ⟨upd_same, nft, by simp, fun q hq => (by cases hq), .nil⟩
        have sw0 := sw.same z0 s0
        have bw0 := bw.trans (Same.but (t := t) s0)
        have eR0 := s0 _ _ (frz_same _ _ _ _ eR)
        have pR0 : Paired (RowAt K (frz [t, bg] (upd Hw fo (.lst [])))) us rws := pd_mono pR fun _ _ y => y.same (Bm.frz (Bm.of_same s0))
        generalize upd Hw fo (.lst []) = H0' at pm0 sw0 bw0 eR0 pR0
        clear sw bw eR pR s0
        refine ⟨.ref na, rfl, na, _, rfl, sqL (sw0.g _ _ gna), ?_⟩
        refine for_it (walk_enum (K := K) (a := na) (xs := ps.map V.ref)) (fun b σ Hw => ∃ (qs : List (Addr × Addr)) (pr : List Blk) (y6 y7 y8 y9 y10 y11 y12 y13 y14 y16 y17 y18 : Option V), σ = [some (.ref t), some (iv 5), some (.ref na), some (.ref ra), some (.ref ba), some (.ref bg), y6, y7, y8, y9, y10, y11, y12, y13, y14, some (.ref fo), y16, y17, y18] ∧ But t H Hw ∧ S1 K G t bg ra ba Hw (c + 4000 + 2 * b) rws blocks begins ∧ Hw ra = some (.lst us) ∧ Paired (RowAt K (frz [t, bg] Hw)) us rws ∧ PgM K t fo Hw qs pr ∧ pr.length = b ∧ (∀ x ∈ pr, BlkB 7 100 x ∧ x.1.length ≤ 57) ∧ (∀ q ∈ qs, G q.2 = none) ∧ ∀ j, j < b → ∃ e, pr[j]? = some (seg rws blocks j, e) ∧ EnOf (nx.getD j []) (fun r => r ∈ standL nx blocks rws j) e) ⟨[], [], _, _, _, _, _, _, _, _, _, _, _, _, rfl, bw0, sw0, eR0, pR0, pm0, rfl, fun x hx => (by cases hx), fun x hx => (by cases hx), fun j hj => absurd hj (Nat.not_lt_zero j)⟩ (fun b σ Hw _ hP => ?_) (fun b x σ Hw Hw2 hi hP hY => ?_) (fun σ Hw hP => ?_)
        · obtain ⟨_, _, _, _, _, _, _, _, _, _, _, _, _, _, _, _, sw, _⟩ := hP
          exact sqL (sw.g _ _ gna)
        · obtain ⟨qs, pr, y6, y7, y8, y9, y10, y11, y12, y13, y14, y16, y17, y18, rfl, bw, sw, eR, pR, pm, hprl, hprb, hqG, hsg⟩ := hP
          obtain ⟨T, x1, x2, rfl, nT, rfl, e1, e2⟩ := hY
          cases e1
          have hbn : b < nx.length := by rw [hpml] at hi; exact hi
          have e2 : (ps.map V.ref)[b]? = some x2 := e2
          rw [List.getElem?_map] at e2
          obtain ⟨qa, hqa, rfl⟩ := Option.map_eq_some_iff.mp e2
          obtain ⟨own, hown, gqa⟩ := pd_at2 gps hqa
          obtain ⟨hol, hob⟩ := hm.2.2 own (List.mem_of_getElem? hown)
          have sT := new_same (o := .tup [.int (b : Nat), .ref qa]) nT
          have sw1 := sw.same z0 sT
          have bw1 := bw.trans (Same.but (t := t) sT)
          have eR1 := sT _ _ eR
          have pR1 : Paired (RowAt K (frz [t, bg] (upd Hw T (.tup [.int (b : Nat), .ref qa])))) us rws := pd_mono pR fun _ _ y => y.same (Bm.frz (Bm.of_same sT))
          have pm1 := pm.but (Same.but sT)
          refine ⟨T, _, rfl, sqT upd_same, rfl, _, _, rfl, _, _, rfl, rfl, ?_⟩
          generalize upd Hw T (.tup [.int (b : Nat), .ref qa]) = Hv at sw1 bw1 eR1 pR1 pm1
          clear sw bw eR pR pm nT sT
          have hpR : Paired (RowAt K Hv) us rws := pd_mono pR1 fun _ _ y => y.same (frz_same _ _)
          have hb7 : ∀ y ∈ blocks, y < 7 := fun y hy => Nat.lt_of_lt_of_le (pw.b7 y hy) hm.2.1
          refine ⟨.ref na, rfl, .ref ba, rfl, .ref ra, rfl, iv b, rfl, na, ba, ra, nx, blocks, us, rws, b, rfl, z0.nr.same sw1.g, hx, frz_same _ _ _ _ sw1.bl, eR1, hpR, pw.len, hb7, by omega, fun so H5 nso s5 eso => ?_⟩
          have hz0 := pw.zero (b := b) hx
          have hslt := pw.lt (b := b)
          have hsl := stand_len (nx := nx) (blocks := blocks) (rows := rws) (b := b)
          rw [pw.len] at hsl
          generalize hssE : standL nx blocks rws b = ss at eso hz0 hslt hsl
          have hsm : (ss.map iv).length = ss.length := List.length_map _
          have hspos : 0 < ss.length := List.length_pos_iff.mpr fun w => by rw [w] at hz0; cases hz0
          have nsot : so ≠ t := sw1.tape.ne nso
          have T5 := sw1.tape.same s5
          have b5 : But t Hv H5 := Same.but s5
          have eqa5 := (sw1.g.trans s5) _ _ gqa
          have nqt : qa ≠ t := ne_of_none gqa z0.gt
          have r57 := pw.le
          have b7' := hm.2.1
          -- the end
          refine ⟨fun σ Hq => ∃ (ea : V) (e : En), σ = [some (.ref t), some (iv 5), some (.ref na), some (.ref ra), some (.ref ba), some (.ref bg), some (iv b), y7, y8, some (.ref so), y10, y11, y12, y13, y14, some (.ref fo), some (.ref qa), some ea, y18] ∧ But t Hv Hq ∧ Tape Hq t (c + 4000 + 2 * b + 1) ∧ EnAt K (frz [t] Hq) ea e ∧ EnB 7 100 e ∧ EnOf own (fun r => r ∈ standL nx blocks rws b) e, ?_, fun σ Hq hM => ?_⟩
          · refine ⟨szl (show 1 ≤ 1000000 by decide), fun t1 n1 => ?_⟩
            have w1 := new_same (o := .tup [.str "end"]) n1
            have u1 : upd H5 t1 (.tup [.str "end"]) t1 = some (.tup [.str "end"]) := upd_same
            have d1 : t1 ≠ t := T5.ne n1
            have b6 := b5.trans (Same.but (t := t) w1)
            have T6 := T5.same w1
            have eso6 := w1 _ _ eso
            have eqa6 := w1 _ _ eqa5
            generalize upd H5 t1 (.tup [.str "end"]) = H6 at w1 u1 b6 T6 eso6 eqa6
            refine ⟨szl (show 1 ≤ 1000000 by decide), fun t2 n2 => ?_⟩
            have w2 := new_same (o := .tup [.str "go"]) n2
            have u2 : upd H6 t2 (.tup [.str "go"]) t2 = some (.tup [.str "go"]) := upd_same
            have d2 : t2 ≠ t := T6.ne n2
            have b7 := b6.trans (Same.but (t := t) w2)
            have T7 := T6.same w2
            have eso7 := w2 _ _ eso6
            have eqa7 := w2 _ _ eqa6
            have u1a := w2 _ _ u1
            generalize upd H6 t2 (.tup [.str "go"]) = H7 at w2 u2 b7 T7 eso7 eqa7 u1a
            refine ⟨.ref so, rfl, .ref t, rfl, .ref so, rfl, so, _, rfl, .inl (sqL eso7), t, _, _, rfl, T7, by omega, by rw [hsm]; omega, by rw [hsm]; omega, fun r8 H8 h8 c8 T8 => ?_⟩
            have hr8 : r8 < ss.length := by rw [hsm] at h8; omega
            have hy := hslt _ (List.getElem_mem hr8)
            refine ⟨so, _, _, iv ss[r8], rfl, rfl, sqL (c8 _ _ nsot eso7), atI_nat (by rw [List.getElem?_map, List.getElem?_eq_getElem hr8]; rfl), szl (show 2 ≤ 1000000 by decide), fun t3 n3 => ?_⟩
            have hyS : ss[r8] ∈ standL nx blocks rws b := by rw [hssE]; exact List.getElem_mem hr8
            generalize ss[r8] = y at hy hyS
            have b8 := b7.trans c8
            have w3 := new_same (o := .tup [.str "if", iv y]) n3
            have u3 : upd H8 t3 (.tup [.str "if", iv y]) t3 = some (.tup [.str "if", iv y]) := upd_same
            have d3 : t3 ≠ t := T8.ne n3
            have b9 := b8.trans (Same.but (t := t) w3)
            have T9 := T8.same w3
            have eqa9 := w3 _ _ (c8 _ _ nqt eqa7)
            have u1b := w3 _ _ (c8 _ _ d1 u1a)
            have u2b := w3 _ _ (c8 _ _ d2 u2)
            generalize upd H8 t3 (.tup [.str "if", iv y]) = H9 at w3 u3 b9 T9 eqa9 u1b u2b
            refine ⟨szl (show 3 ≤ 1000000 by decide), fun l4 n4 => ?_⟩
            have w4 := new_same (o := .lst [.ref t1, .ref t2, .ref t3]) n4
            have u4 : upd H9 l4 (.lst [.ref t1, .ref t2, .ref t3]) l4 = some (.lst [.ref t1, .ref t2, .ref t3]) := upd_same
            have bA := b9.trans (Same.but (t := t) w4)
            have TA := T9.same w4
            have eqaA := w4 _ _ eqa9
            have u1c := w4 _ _ u1b
            have u2c := w4 _ _ u2b
            have u3c := w4 _ _ u3
            generalize upd H9 l4 (.lst [.ref t1, .ref t2, .ref t3]) = HA at w4 u4 bA TA eqaA u1c u2c u3c
            match own, hol, hob, eqaA with
            | [], _, _, eqaA =>
              refine ⟨.ref qa, rfl, qa, _, rfl, .inl (sqL eqaA), l4, _, _, .ref t1, rfl, rfl, sqL u4, atI_nat (j := 0) rfl, .ref qa, rfl, qa, _, rfl, .inl ⟨sqL eqaA, fun tq ntq => ?_⟩⟩
              have w5 := new_same (o := .tup []) ntq
              refine ⟨t1, tq, _, _, rfl, rfl, sqT (w5 _ _ u1c), sqT upd_same, szl (by simp), fun w => (by cases w), fun _ _ => ?_, fun _ w => absurd rfl w⟩
              exact ⟨_, .fin, rfl, bA.trans (Same.but w5), TA.same w5, ⟨t1, rfl, sqT (frz_at (w5 _ _ u1c) (by simpa using d1))⟩, trivial, .inl ⟨rfl, rfl⟩⟩
            | [x], _, hob, eqaA =>
              refine ⟨.ref qa, rfl, qa, _, rfl, .inl (sqL eqaA), l4, _, _, .ref t2, rfl, rfl, sqL u4, atI_nat (j := 1) rfl, .ref qa, rfl, qa, _, rfl, .inl ⟨sqL eqaA, fun tq ntq => ?_⟩⟩
              have w5 := new_same (o := .tup [iv x]) ntq
              refine ⟨t2, tq, _, _, rfl, rfl, sqT (w5 _ _ u2c), sqT upd_same, szl (by simp), fun w => (by cases w), fun _ w => (by cases w), fun _ _ p np => ?_⟩
              have w6 := new_same (o := .tup [.str "go", iv x]) np
              exact ⟨_, .go x, rfl, (bA.trans (Same.but w5)).trans (Same.but w6), (TA.same w5).same w6, ⟨p, rfl, sqT (frz_at upd_same (by simpa using (TA.same w5).ne np))⟩, Nat.lt_of_lt_of_le (hob x (by simp)).2 b7', .inr (.inl ⟨x, rfl, rfl⟩)⟩
            | [x, x'], _, hob, eqaA =>
              refine ⟨.ref qa, rfl, qa, _, rfl, .inl (sqL eqaA), l4, _, _, .ref t3, rfl, rfl, sqL u4, atI_nat (j := 2) rfl, .ref qa, rfl, qa, _, rfl, .inl ⟨sqL eqaA, fun tq ntq => ?_⟩⟩
              have w5 := new_same (o := .tup [iv x, iv x']) ntq
              refine ⟨t3, tq, _, _, rfl, rfl, sqT (w5 _ _ u3c), sqT upd_same, szl (by simp), fun w => (by cases w), fun _ w => (by cases w), fun _ _ p np => ?_⟩
              have w6 := new_same (o := .tup [.str "if", iv y, iv x, iv x']) np
              exact ⟨_, .iff y x x', rfl, (bA.trans (Same.but w5)).trans (Same.but w6), (TA.same w5).same w6, ⟨p, rfl, sqT (frz_at upd_same (by simpa using (TA.same w5).ne np))⟩, ⟨by omega, Nat.lt_of_lt_of_le (hob x (by simp)).2 b7', Nat.lt_of_lt_of_le (hob x' (by simp)).2 b7'⟩, .inr (.inr ⟨x, x', y, rfl, hyS, rfl⟩)⟩
          obtain ⟨ea, e, rfl, bq, Tq, hea, heb, heO⟩ := hM
          have sq := sw1.but z0 bq Tq
          have eRq := bq _ _ nrt eR1
          have pmq := pm1.but bq
          have pRq : Paired (RowAt K (frz [t, bg] Hq)) us rws := pd_mono pR1 fun _ _ y => y.same (Bm.frz (Bm.of_but bq (by simp)))
          have hb0 : begins[b]? = some (begins.getD b 0) := gdl (by omega)
          refine ⟨.ref fo, rfl, .inl ⟨rfl, _, sqL pmq.top⟩, .ref ra, rfl, .ref bg, rfl, iv b, rfl, bg, _, _, iv (begins.getD b 0), rfl, rfl, sqL sq.bgd, atI_nat (by rw [List.getElem?_map, hb0]; rfl), _, rfl, .ref bg, rfl, .ref ra, rfl, ra, us, rfl, .inl (sqL eRq), szl (show 1 ≤ 1000000 by decide), fun l1 n1 => ?_⟩
          have w1 := new_same (o := .lst [.int (us.length : Int)]) n1
          have u1 : upd Hq l1 (.lst [.int (us.length : Int)]) l1 = some (.lst [.int (us.length : Int)]) := upd_same
          have bq1 := bq.trans (Same.but (t := t) w1)
          have T1 := Tq.same w1
          generalize upd Hq l1 (.lst [.int (us.length : Int)]) = Ha at w1 u1 bq1 T1
          refine ⟨bg, l1, _, _, rfl, rfl, w1 _ _ sq.bgd, u1, szl (by rw [List.length_map]; simp; omega), fun l2 n2 => ?_⟩
          have w2 := new_same (o := .lst (begins.map iv ++ [.int (us.length : Int)])) n2
          have u2 : upd Ha l2 (.lst (begins.map iv ++ [.int (us.length : Int)])) l2 = some (.lst ((begins ++ [us.length]).map iv)) := by rw [upd_same, List.map_append]; rfl
          have bq2 := bq1.trans (Same.but (t := t) w2)
          have T2 := T1.same w2
          generalize upd Ha l2 (.lst (begins.map iv ++ [.int (us.length : Int)])) = Hb at w2 u2 bq2 T2
          have hb1' : (begins ++ [us.length])[b + 1]? = some ((begins ++ [us.length]).getD (b + 1) 0) := gdl (by rw [List.length_append]; simp; omega)
          have hlo : begins.getD b 0 = cntB blocks b := by
            rw [hbg, List.getD_eq_getElem?_getD, List.getElem?_map, List.getElem?_range hbn]
            rfl
          have hhi : (begins ++ [us.length]).getD (b + 1) 0 = cntB blocks (b + 1) := by
            by_cases hbb : b + 1 < nx.length
            · rw [getD_app (by omega), hbg, List.getD_eq_getElem?_getD, List.getElem?_map, List.getElem?_range hbb]
              rfl
            · rw [show b + 1 = begins.length by omega, getD_last, hbgl, cnt_all pw.b7, pw.len, ← hul]
          generalize (begins ++ [us.length]).getD (b + 1) 0 = hi2 at hb1' hhi
          refine ⟨iv b, rfl, _, _, rfl, rfl, l2, _, _, iv hi2, rfl, rfl, sqL u2, atI_nat (j := b + 1) (by rw [List.getElem?_map, hb1']; rfl), _, rfl, ra, us, rfl, sqL (bq2 _ _ nrt eR1), fun sl nsl => ?_⟩
          have w3 := new_same (o := .lst (cutV us (some ((begins.getD b 0 : Nat) : Int)) (some (hi2 : Int)))) nsl
          have u3 : upd Hb sl (.lst (cutV us (some ((begins.getD b 0 : Nat) : Int)) (some (hi2 : Int)))) sl = some (.lst (cutV us (some ((begins.getD b 0 : Nat) : Int)) (some (hi2 : Int)))) := upd_same
          have bq3 := bq2.trans (Same.but (t := t) w3)
          have T3 := T2.same w3
          have nslt : sl ≠ t := T2.ne nsl
          have pm2 := pm1.but bq2
          have nslf : sl ≠ fo := (ne_of_none pm2.top nsl).symm
          have nslq : sl ∉ qs.map (·.2) := fun w => by
            obtain ⟨q', hq', ew⟩ := List.mem_map.mp w
            obtain ⟨b', hb', ea', vs', _, hv', _⟩ := pd_mem pm2.bk hq'
            rw [ew, nsl] at hv'
            cases hv'
          have w34 : But t Hq (upd Hb sl (.lst (cutV us (some ((begins.getD b 0 : Nat) : Int)) (some (hi2 : Int))))) := (Same.but (w1.trans w2)).trans (Same.but w3)
          have hc1 := cnt_le blocks b
          have hc2 := cnt_le blocks (b + 1)
          rw [pw.len, ← hul] at hc1 hc2
          obtain ⟨rs, hrsE, hrs1, hrs2, hrs3⟩ : ∃ rs : List Rw, rs = seg rws blocks b ∧ Paired (RowAt K (frz [t, bg] Hq)) (cutV us (some ((begins.getD b 0 : Nat) : Int)) (some (hi2 : Int))) rs ∧ (∀ r ∈ rs, r ∈ rws) ∧ rs.length ≤ rws.length := by
            have ecut : cutV us (some ((begins.getD b 0 : Nat) : Int)) (some (hi2 : Int)) = (us.drop (cntB blocks b)).take (cntB blocks (b + 1) - cntB blocks b) := by
              unfold cutV
              rw [HT.sIx_nat us.length 0 (begins.getD b 0), HT.sIx_nat us.length us.length hi2, hlo, hhi, Nat.min_eq_left hc1, Nat.min_eq_left hc2]
            rw [ecut]
            refine ⟨_, rfl, pd_take _ (pd_drop _ pRq), fun r hr => List.mem_of_mem_drop (List.mem_of_mem_take hr), ?_⟩
            unfold seg
            rw [List.length_take, List.length_drop]
            omega
          have hrsF : Paired (RowAt K (frz [t] (upd Hb sl (.lst (cutV us (some ((begins.getD b 0 : Nat) : Int)) (some (hi2 : Int))))))) (cutV us (some ((begins.getD b 0 : Nat) : Int)) (some (hi2 : Int))) rs := pd_mono hrs1 fun _ _ y => (y.same frz_le).same (Bm.frz (Bm.of_but w34 (by simp)))
          have heaF := hea.same (Bm.frz (Bm.of_but w34 (by simp)))
          generalize upd Hb sl (.lst (cutV us (some ((begins.getD b 0 : Nat) : Int)) (some (hi2 : Int)))) = Hc at w3 u3 bq3 T3 w34 hrsF heaF
          refine ⟨ea, rfl, szl (show 2 ≤ 1000000 by decide), fun tq ntq => ?_⟩
          have w4 := new_same (o := .tup [.ref sl, ea]) ntq
          have u4 : upd Hc tq (.tup [.ref sl, ea]) tq = some (.tup [.ref sl, ea]) := upd_same
          have ntt : tq ≠ t := T3.ne ntq
          have bq4 := bq3.trans (Same.but (t := t) w4)
          have T4 := T3.same w4
          have pm4 := pm1.but bq4
          have hbk : BkM K (frz [t] (upd Hc tq (.tup [.ref sl, ea]))) (upd Hc tq (.tup [.ref sl, ea])) (tq, sl) (rs, e) := ⟨ea, _, sqT (frz_at u4 (by simpa using ntt)), w4 _ _ u3, pd_mono hrsF fun _ _ y => y.same (Bm.frz (Bm.of_same w4)), heaF.same (Bm.frz (Bm.of_same w4))⟩
          generalize upd Hc tq (.tup [.ref sl, ea]) = Hd at w4 u4 bq4 T4 pm4 hbk
          have pm5 := pm4.snoc hbk nslf nslt nslq
          have hqsl : qs.length = b := by have := pd_len pm4.bk; omega
          refine ⟨fo, _, _, rfl, rfl, pm4.top, by rw [List.length_map]; exact szt (by omega), ?_⟩
          have sd := sw1.but z0 bq4 T4
          have bfo : Bm [t, fo] Hd (upd Hd fo (.lst ((qs.map fun q => V.ref q.1) ++ [.ref tq]))) := Bm_upd (by simp)
          have gTp : ∀ {M : List Addr} {x : Addr} {xs : List V}, SqT K (frz M Hd) x xs → SqT K (frz M (upd Hd fo (.lst ((qs.map fun q => V.ref q.1) ++ [.ref tq])))) x xs := fun h => tup_frz_upd h pm4.top
          have pRd : Paired (RowAt K (frz [t, bg] Hd)) us rws := pd_mono pR1 fun _ _ y => y.same (Bm.frz (Bm.of_but bq4 (by simp)))
          obtain ⟨usd, eRd, pRd'⟩ := id sd.rw_
          have hud : usd = us := by
            have e1 := frz_same _ _ _ _ eRd
            rw [bq4 _ _ nrt eR1] at e1
            cases e1
            rfl
          subst hud
          refine ⟨qs ++ [(tq, sl)], pr ++ [(rs, e)], _, _, _, _, _, _, _, _, _, _, _, _, rfl, fun x o n ex => ?_, ⟨?_, Same.upd sd.g nfG, by rw [upd_ne nfb.symm]; exact sd.bgd, ⟨usd, frz2 (by rw [upd_ne nfr.symm]; exact frz_same _ _ _ _ eRd) nrt nrb, pd_mono pRd fun _ _ y => row_tups y gTp⟩, frz2 (by rw [upd_ne nfa.symm]; exact frz_same _ _ _ _ sd.bl) nbt nbb, sd.gr, sd.nab⟩, by rw [upd_ne nfr.symm]; exact bq4 _ _ nrt eR1, pd_mono pRd fun _ _ y => row_tups y gTp, pm5, by rw [List.length_append, hprl]; rfl, fun x hx' => ?_, fun x hx' => ?_, fun j hj => ?_⟩
          · rw [upd_ne (ne_of_none ex nfH)]
            exact (bw1.trans bq4) x o n ex
          · obtain ⟨x, y, n, a', q'⟩ := sd.tape
            exact ⟨x, y, n, by rw [upd_ne nft.symm]; exact a', q'.1, q'.2.1, q'.2.2.1, q'.2.2.2.1, by have := q'.2.2.2.2; omega⟩
          · rcases List.mem_append.mp hx' with w | w
            · exact hprb x w
            · rw [List.mem_singleton.mp w]
              exact ⟨⟨by show rs.length ≤ 100; omega, fun r hr => (pw.rb r (hrs2 r hr)).mono fun y hy => by have : y < rws.length := hy; show y < 100; omega, heb⟩, by show rs.length ≤ 57; omega⟩
          · rcases List.mem_append.mp hx' with w | w
            · exact hqG x w
            · rw [List.mem_singleton.mp w]
              exact (Same.bt sw1.g z0.gt bq2).free nsl
          · by_cases hj2 : j < b
            · obtain ⟨e', g1, g2⟩ := hsg j hj2
              exact ⟨e', by rw [List.getElem?_append_left (by omega)]; exact g1, g2⟩
            · have hj3 : j = b := by omega
              subst hj3
              refine ⟨e, by rw [List.getElem?_append_right (by omega), hprl, Nat.sub_self, ← hrsE]; rfl, ?_⟩
              rw [gd hown]
              exact heO
        · obtain ⟨qs, pr, y6, y7, y8, y9, y10, y11, y12, y13, y14, y16, y17, y18, rfl, bw, sw, eR, pR, pm, hprl, hprb, hqG, hsg⟩ := hP
          rw [hpml] at hprl
          have hqpl := pd_len pm.bk
          -- the last block
          obtain ⟨qs', q1, rfl⟩ : ∃ qs' q1, qs = qs' ++ [q1] := ⟨qs.dropLast, qs.getLast (fun w => by rw [w] at hqpl; simp at hqpl; omega), (List.dropLast_concat_getLast _).symm⟩
          obtain ⟨pr', b1', rfl⟩ : ∃ pr' b1', pr = pr' ++ [b1'] := ⟨pr.dropLast, pr.getLast (fun w => by rw [w] at hprl; simp at hprl; omega), (List.dropLast_concat_getLast _).symm⟩
          obtain ⟨rs, e⟩ := b1'
          have hq'l : qs'.length = pr'.length := by simpa using hqpl
          have hlast : BkM K (frz [t] Hw) Hw q1 (rs, e) := by
            have h := pd_drop qs'.length pm.bk
            rw [List.drop_left' rfl, List.drop_left' hq'l.symm] at h
            cases h with
            | cons h _ => exact h
          obtain ⟨ea, vs, l1, l2, l3, l4⟩ := id hlast
          have hvl : vs.length = rs.length := pd_len l3
          obtain ⟨⟨_, hbl2, hbl3⟩, hbl1⟩ := hprb (rs, e) (by simp)
          have hbl1 : rs.length ≤ 57 := hbl1
          obtain ⟨nq1, nq2⟩ := pm.nf q1 (by simp)
          have etop : atI ((qs' ++ [q1]).map fun q => V.ref q.1) (-1) = some (.ref q1.1) := by rw [List.map_append]; exact atI_last _ _
          refine ⟨.ref fo, rfl, 1, rfl, fo, _, _, .ref q1.1, rfl, rfl, sqL pm.top, etop, q1.1, _, _, .ref q1.2, rfl, rfl, Same.tup (frz_same _ _) l1, atI_nat (j := 0) rfl, .inl ⟨rfl, _, sqL l2⟩, szl (show 2 ≤ 1000000 by decide), fun T1 n1 => ?_⟩
          have w1 := new_same (o := .tup [.str "tell", .int 0]) n1
          have u1 : upd Hw T1 (.tup [.str "tell", .int 0]) T1 = some (.tup [.str "tell", .int 0]) := upd_same
          have d1 : T1 ≠ t := sw.tape.ne n1
          have b1x := bw.trans (Same.but (t := t) w1)
          have T1' := sw.tape.same w1
          have pmA := pm.but (Same.but w1)
          generalize upd Hw T1 (.tup [.str "tell", .int 0]) = Ha at w1 u1 b1x T1' pmA
          refine ⟨szl (show 1 ≤ 1000000 by decide), fun ll nll => ?_⟩
          have w2 := new_same (o := .lst [.ref T1]) nll
          have u2 : upd Ha ll (.lst [.ref T1]) ll = some (.lst [.ref T1]) := upd_same
          have d2 : ll ≠ t := T1'.ne nll
          have b2x := b1x.trans (Same.but (t := t) w2)
          have T2' := T1'.same w2
          have u1a := w2 _ _ u1
          generalize upd Ha ll (.lst [.ref T1]) = Hb at w2 u2 b2x T2' u1a
          refine ⟨.ref t, rfl, t, 2, _, rfl, T2', by omega, by decide, by decide, fun r3 Hc h3 b3 T3 => ?_⟩
          have b3x := b2x.trans b3
          have u1b := b3 _ _ d1 u1a
          have u2b := b3 _ _ d2 u2
          refine ⟨ll, _, _, rfl, rfl, u2b, by omega, by omega, szl (by simp; omega), fun l5 n5 => ?_⟩
          have w5 := new_same (o := .lst (List.replicate (r3 : Int).toNat [V.ref T1]).flatten) n5
          have u5 : upd Hc l5 (.lst (List.replicate (r3 : Int).toNat [V.ref T1]).flatten) l5 = some (.lst (List.replicate (r3 : Int).toNat [V.ref T1]).flatten) := upd_same
          have T5 := T3.same w5
          have b5x := b3x.trans (Same.but (t := t) w5)
          have bww : But t Hw (upd Hc l5 (.lst (List.replicate (r3 : Int).toNat [V.ref T1]).flatten)) := (Same.but (w1.trans w2)).trans (b3.trans (Same.but w5))
          have u1c := w5 _ _ u1b
          generalize upd Hc l5 (.lst (List.replicate (r3 : Int).toNat [V.ref T1]).flatten) = Hd at w5 u5 T5 b5x bww u1c
          obtain ⟨ws, rs2, ews, hws, hws2, hwl⟩ : ∃ (ws : List V) (rs2 : List Rw), (List.replicate (r3 : Int).toNat [V.ref T1]).flatten = ws ∧ Paired (RowAt K (frz [t] Hd)) ws rs2 ∧ (∀ r ∈ rs2, r = .tell 0) ∧ rs2.length ≤ 1 := by
            have hT1 : RowAt K (frz [t] Hd) (.ref T1) (.tell 0) := ⟨T1, [iv 0], rfl, sqT (frz_at u1c (by simpa using d1)), rfl⟩
            have : r3 = 0 ∨ r3 = 1 := by omega
            rcases this with rfl | rfl
            · exact ⟨[], [], rfl, .nil, fun r hr => (by cases hr), by decide⟩
            · exact ⟨[.ref T1], [.tell 0], rfl, .cons hT1 .nil, fun r hr => List.mem_singleton.mp hr, by decide⟩
          rw [ews] at u5
          have hwsl : ws.length = rs2.length := pd_len hws
          have pmD := pm.but bww
          have f := Bm.frz (M := [t]) (Bm.of_but bww (by simp))
          have pmE := pmD.ext (Same.tup f l1) (bww _ _ nq2 l2) (pd_mono l3 fun _ _ y => y.same f) (l4.same f) hws
          refine ⟨q1.2, l5, _, ws, rfl, rfl, bww _ _ nq2 l2, u5, szl (by omega), ?_⟩
          refine ⟨.ref fo, rfl, ?_⟩
          have nqA : ∀ x ∈ qs' ++ [q1], H x.2 = none := fun x hx' => by
            cases ee : H x.2 with
            | none => rfl
            | some o => exact absurd (hGH _ o (pm.nf x hx').2 ee) (by rw [hqG x hx']; intro w; cases w)
          have nqH : H q1.2 = none := nqA q1 (by simp)
          have hprl2 : pr'.length + 1 = nx.length := by rw [← hprl, List.length_append]; rfl
          have hRight : RightP (pr' ++ [(rs ++ rs2, e)]) := by
            refine ⟨nx, rws, blocks, rs2, hx, pw, hmtA, by rw [List.length_append]; exact hprl2, hws2, fun j hj => ?_⟩
            obtain ⟨e', g1, g2⟩ := hsg j (by rw [hpml]; exact hj)
            by_cases hj2 : j < pr'.length
            · rw [List.getElem?_append_left hj2] at g1
              rw [if_neg (by omega), List.append_nil]
              exact ⟨e', by rw [List.getElem?_append_left hj2]; exact g1, g2⟩
            · have hj3 : j = pr'.length := by omega
              subst hj3
              rw [List.getElem?_append_right (Nat.le_refl _), Nat.sub_self] at g1
              have g1 : some (rs, e) = some (seg rws blocks pr'.length, e') := g1
              cases g1
              rw [if_pos hprl2]
              exact ⟨e, by rw [List.getElem?_append_right (Nat.le_refl _), Nat.sub_self]; rfl, g2⟩
          refine q fo (qs' ++ [q1]) _ _ (fun x o n ex => ?_) ?_ pmE nqA hRight (by simp) (by rw [List.length_append]; rw [List.length_append] at hprl; simp at hprl ⊢; omega) (fun x hx' => ?_)
          · rw [upd_ne (ne_of_none ex nqH)]
            exact b5x x o n ex
          · obtain ⟨x, y, n, a', q'⟩ := T5
            exact ⟨x, y, n, by rw [upd_ne nq2.symm]; exact a', q'.1, q'.2.1, q'.2.2.1, q'.2.2.2.1, by have := q'.2.2.2.2; omega⟩
          · rcases List.mem_append.mp hx' with w | w
            · exact (hprb x (List.mem_append_left _ w)).1
            · rw [List.mem_singleton.mp w]
              refine ⟨?_, fun r hr => ?_, hbl3⟩
              · show (rs ++ rs2).length ≤ 100
                rw [List.length_append]
                omega
              · rcases List.mem_append.mp hr with w2 | w2
                · exact hbl2 r w2
                · rw [hws2 r w2]; exact (show 0 < 100 by decide)
end
end Gn
set_option Elab.async false
set_option linter.all false
namespace PySem.AutoSeq1
set_option maxRecDepth 8000 in
theorem own_extend (l b : Addr) (xs ys : Array Value) (n m : Nat) (dd : Option Addr) (sl : Array (Option Value)) (h0 : ¬(!xs.isEmpty && Builtin.List.listTooLong (xs.size + ys.size)) = true) (h1 : xs.size ≤ sizeLine) (h2 : xs.size + ys.size ≤ sizeLine + 1) :
    Meets (Builtin.«list.extend» ⟨[.ref l, .ref b], []⟩) (fun _ R s => s.heap.get? l = some { cls := .type "list", dict := none, data := .seq xs n, slots := #[] } ∧ s.heap.get? b = some { cls := .type "tuple", dict := dd, data := .seq ys m, slots := sl } ∧
      R (.ok (.ret Value.none)) { s with heap := s.heap.update l (Obj.mapSeq fun x => x ++ ys), toks := s.toks }) := by
  refine .of_wp fun prog w A R s h => ?_
  obtain ⟨hp, g, d, tk, os⟩ := s
  obtain ⟨hl, hb, h⟩ := h
  have f1 := idx_int
  have f2 := sub_tuple_tuple
  have f3 := sub_list_list
  have f4 := sub_tuple_list
  have f5 := sub_list_tuple
  have hz' : (xs ++ ys).size ≤ sizeLine + 1 := by rw [Array.size_append]; exact h2
  wp_walk using (wpAny_updateSeq hl rfl (hz := h1) (_hz' := hz')), wpAny_loadPart' hl, wpAny_loadPart' hb
  exact ⟨_, rfl, h⟩
end PySem.AutoSeq1
namespace Gn
open PySem PySem.Spec PyProof.Rows L2
/-! ### xs.extend(t), t a tuple -/
def rExtendT (K : PySem.W.Frag) : V → List V → Hp → VK → Prop := fun x vs H Q => ∃ l b xs zs, x = .ref l ∧ vs = [.ref b] ∧ H l = some (.lst xs) ∧ SqT K H b zs ∧ xs.length + zs.length ≤ sizeLine ∧ Q .non (upd H l (.lst (xs ++ zs)))
theorem mt_extendT {X : Cx} : MtM X "list.extend" (rExtendT X.K) := by
  intro pins s σ H x vs v us Q I rx rv h
  obtain ⟨l, b, as, bs, rfl, rfl, hl, hb, hle, q⟩ := h
  cases rx
  obtain ⟨u, rfl, ru⟩ := rv.one
  cases ru
  obtain ⟨zl, vl, nl, rl, ll, el⟩ := I.lstM hl
  obtain ⟨vb, rb, ⟨⟨cb, db, data, sb⟩, eb, kb, nb, hd⟩, zb⟩ := I.tuple hb
  simp only at kb hd
  subst kb hd
  have lb := rb.length
  have both : vl.toArray.size + vb.toArray.size ≤ sizeLine := by simp only [List.size_toArray]; omega
  have door : ¬ (!vl.toArray.isEmpty && Builtin.List.listTooLong (vl.toArray.size + vb.toArray.size)) = true := by
    rw [notLongL both, Bool.and_false]
    decide
  refine call_meets F.slot_list_extend ⟨_, el, rfl⟩ F.entry_list_extend (F.args_list_extend_2 _ _) (AutoSeq1.own_extend l b vl.toArray vb.toArray nl nb db sb door (by simp only [List.size_toArray]; omega) (by omega)) ⟨el, eb, ?_⟩
  refine ⟨.non, _, I.lset (its' := vl ++ vb) hl el (by simp) (rl.append rb) ?_, rfl, q⟩
  simp only [List.length_append]
  omega
/-! ### str(x) of a number or a text -/
theorem call_strAny {X : Cx} : CallR X (.type "str") (fun xs H Q => (∃ i : Int, xs = [.int i] ∧ i.natAbs.log2 < 1920 ∧ Q (.str (toString i)) H) ∨ ∃ a, xs = [.str a] ∧ Q (.str a) H) := by
  intro pins s σ H xs us Q I r h
  rcases h with h | h
  · exact call_str_int pins s σ H xs us Q I r h
  · exact SkE.call_str_str pins s σ H xs us Q I r h
end Gn
set_option Elab.async false
set_option linter.all false
set_option maxRecDepth 100000
set_option maxHeartbeats 8000000
set_option pp.maxSteps 300
namespace Gn
open PySem PySem.Spec PyProof.Rows L2
theorem cut_not2 (x : V) (xs : List V) : ¬ (HT.sIx (x :: xs).length 0 (some 2) = 0 ∧ HT.sIx (x :: xs).length (x :: xs).length none = (x :: xs).length) := by
  rw [show HT.sIx (x :: xs).length 0 (some 2) = min 2 (x :: xs).length from HT.sIx_nat (x :: xs).length 0 2]
  rw [List.length_cons]
  omega
theorem walk_zt {K : PySem.W.Frag} {a b : Addr} {xs ys : List V} (hl : xs.length = ys.length) : Walk (RZ.ItzT K a b) xs.length (fun H => SqT K H a xs ∧ SqT K H b ys) (YPair (fun i => xs[i]?) (fun i => ys[i]?)) := by
  refine ⟨fun i H hi q => ?_, fun H q => ⟨xs, ys, q.1, q.2, .inl (Nat.le_refl _)⟩, fun i H v H' hi q y => ?_⟩
  · have h2 : i < ys.length := by omega
    exact ⟨xs, ys, xs[i], ys[i], q.1, q.2, by simp [hi], by simp [h2]⟩
  · obtain ⟨T, x, z, h1, h2, h3, h4, h5⟩ := y
    exact ⟨T, x, z, h1, h2, h3, h4 xs q.1, h5 ys q.2⟩
/-! ### texts -/
def nT (z : Int) : Str := toString z
def lineT (w : Str) (ns : List Int) : Str := Txt.join " " (w :: ns.map nT)
def nI (ns : List Nat) : List Int := ns.map fun n : Nat => (n : Int)
theorem nI_iv (ns : List Nat) : (nI ns).map V.int = ns.map iv := by
  unfold nI
  rw [List.map_map]
  rfl
def Rw.nums : Rw → List Int
  | .take i => [(i : Int)]
  | .num n => [n]
  | .bin _ x y => [(x : Int), (y : Int)]
  | .pick x ps => (x : Int) :: nI ps
  | .meet ps => nI ps
  | .tell x => [(x : Int)]
  | .look rs x => (x : Int) :: nI rs
  | .lay rs x y => (x : Int) :: (y : Int) :: nI rs
def En.nums : En → List Int
  | .go b => [(b : Int)]
  | .iff r b c => [(r : Int), (b : Int), (c : Int)]
  | .fin => []
def En.word : En → Str
  | .go _ => "go"
  | .iff _ _ _ => "if"
  | .fin => "end"
def Rw.text (r : Rw) : Str := lineT r.w r.nums
def En.text (e : En) : Str := lineT e.word e.nums
def blkLines (b : Blk) : List Str := "block" :: (b.1.map Rw.text ++ [b.2.text])
def lines (pr : List Blk) : List Str := (pr.map blkLines).flatten
/-- a number that may be written -/
def NumB (z : Int) : Prop := -10 ^ 12 ≤ z ∧ z ≤ 10 ^ 12
theorem nT_len {z : Int} (h : NumB z) : (nT z).length ≤ 14 := by
  have hb : z.natAbs < 10 ^ 13 := by
    have h1 := h.1
    have h2 := h.2
    omega
  have e := PySem.int_text_length_le10 (k := 13) (by decide) hb
  show (Str.ofString (toString z)).length ≤ 14
  rw [PySem.ofString_length]
  exact e
theorem num_log {z : Int} (h : NumB z) : z.natAbs.log2 < 1920 := by
  by_cases e : z.natAbs = 0
  · rw [e]; decide
  · refine (Nat.log2_lt e).mpr ?_
    have h1 := h.1
    have h2 := h.2
    have : z.natAbs < 2 ^ 64 := by omega
    exact Nat.lt_trans this (by decide)
theorem sum_le {xs : List Nat} {k : Nat} (h : ∀ x ∈ xs, x ≤ k) : xs.sum ≤ xs.length * k := by
  induction xs with
  | nil => simp
  | cons a xs ih =>
    have h1 := h a List.mem_cons_self
    have h2 := ih fun x hx => h x (List.mem_cons_of_mem _ hx)
    rw [List.sum_cons, List.length_cons, Nat.succ_mul]
    omega
/-- words that can be joined to a row -/
theorem join_ok {w : Str} {ns : List Int} (hw : w.length ≤ 8) (hn : ∀ z ∈ ns, NumB z) (hl : ns.length ≤ 10) : ((w :: ns.map nT).map (·.length)).sum + (w :: ns.map nT).length * (" " : Str).length ≤ 16777216 ∧ (lineT w ns).length ≤ 400 := by
  have h1 : ((ns.map nT).map (·.length)).sum ≤ (ns.map nT).length * 14 := by
    have := sum_le (xs := (ns.map nT).map (·.length)) (k := 14) fun x hx => by
      obtain ⟨y, hy, rfl⟩ := List.mem_map.mp hx
      obtain ⟨z, hz, rfl⟩ := List.mem_map.mp hy
      exact nT_len (hn z hz)
    rw [List.length_map] at this
    exact this
  have hs : (" " : Str).length = 1 := by decide +kernel
  have hl2 : (ns.map nT).length = ns.length := List.length_map _
  have hj := StrLaws.join_length_le " " (w :: ns.map nT)
  have h2 : ((w :: ns.map nT).map (·.length)).sum + (w :: ns.map nT).length * (" " : Str).length ≤ 200 := by
    rw [hs, List.map_cons, List.sum_cons, List.length_cons]
    omega
  refine ⟨by omega, ?_⟩
  unfold lineT
  rw [TL.join_eq]
  omega
theorem rw_wlen (r : Rw) : r.w.length ≤ 8 := by
  cases r with
  | bin b x y =>
    show b.w.length ≤ 8
    cases b <;> decide +kernel
  | take _ => exact (show ("take" : Str).length ≤ 8 by decide +kernel)
  | num _ => exact (show ("num" : Str).length ≤ 8 by decide +kernel)
  | pick _ _ => exact (show ("pick" : Str).length ≤ 8 by decide +kernel)
  | meet _ => exact (show ("meet" : Str).length ≤ 8 by decide +kernel)
  | tell _ => exact (show ("tell" : Str).length ≤ 8 by decide +kernel)
  | look _ _ => exact (show ("look" : Str).length ≤ 8 by decide +kernel)
  | lay _ _ _ => exact (show ("lay" : Str).length ≤ 8 by decide +kernel)
theorem en_wlen (e : En) : e.word.length ≤ 8 := by
  cases e with
  | go _ => exact (show ("go" : Str).length ≤ 8 by decide +kernel)
  | iff _ _ _ => exact (show ("if" : Str).length ≤ 8 by decide +kernel)
  | fin => exact (show ("end" : Str).length ≤ 8 by decide +kernel)
theorem nat_nb {n : Nat} (h : n < 1000) : NumB (n : Int) := ⟨by omega, by omega⟩
theorem nI_nb {ns : List Nat} (h : ∀ y ∈ ns, y < 1000) : ∀ z ∈ nI ns, NumB z := fun z hz => by
  obtain ⟨n, hn, rfl⟩ := List.mem_map.mp hz
  exact nat_nb (h n hn)
theorem rw_nums {r : Rw} (h : RwA (· < 1000) r) : (∀ z ∈ r.nums, NumB z) ∧ r.nums.length ≤ 10 := by
  have hI : ∀ ns : List Nat, (nI ns).length = ns.length := fun ns => List.length_map _
  cases r with
  | take i => exact ⟨fun z hz => by rw [List.mem_singleton.mp hz]; have h : i < 6 := h; exact nat_nb (by omega), (show 1 ≤ 10 by decide)⟩
  | num n => exact ⟨fun z hz => by rw [List.mem_singleton.mp hz]; exact h, (show 1 ≤ 10 by decide)⟩
  | bin b x y =>
    refine ⟨fun z hz => ?_, (show 2 ≤ 10 by decide)⟩
    have hz2 : z = (x : Int) ∨ z = (y : Int) := by simpa [Rw.nums] using hz
    rcases hz2 with rfl | rfl
    · exact nat_nb h.1
    · exact nat_nb h.2
  | pick x ps =>
    obtain ⟨h1, h2, h3, h4⟩ := h
    refine ⟨fun z hz => ?_, by show (nI ps).length + 1 ≤ 10; rw [hI]; omega⟩
    rcases List.mem_cons.mp hz with rfl | hz
    · exact nat_nb h1
    · exact nI_nb h2 z hz
  | meet ps =>
    obtain ⟨h1, h2, h3⟩ := h
    exact ⟨nI_nb h1, by show (nI ps).length ≤ 10; rw [hI]; omega⟩
  | tell x => exact ⟨fun z hz => by rw [List.mem_singleton.mp hz]; exact nat_nb h, (show 1 ≤ 10 by decide)⟩
  | look rs x =>
    obtain ⟨h1, h2, h3, h4, h5⟩ := h
    refine ⟨fun z hz => ?_, by show (nI rs).length + 1 ≤ 10; rw [hI]; omega⟩
    rcases List.mem_cons.mp hz with rfl | hz
    · exact nat_nb h1
    · exact nI_nb (fun y hy => Nat.lt_trans (h3 y hy) (by decide)) z hz
  | lay rs x y =>
    obtain ⟨h1, h1', h2, h3, h4, h5⟩ := h
    refine ⟨fun z hz => ?_, by show (nI rs).length + 1 + 1 ≤ 10; rw [hI]; omega⟩
    rcases List.mem_cons.mp hz with rfl | hz
    · exact nat_nb h1
    · rcases List.mem_cons.mp hz with rfl | hz
      · exact nat_nb h1'
      · exact nI_nb (fun y hy => Nat.lt_trans (h3 y hy) (by decide)) z hz
theorem en_nums {e : En} (h : EnB 7 1000 e) : (∀ z ∈ e.nums, NumB z) ∧ e.nums.length ≤ 10 := by
  cases e with
  | go b => exact ⟨fun z hz => by rw [List.mem_singleton.mp hz]; have h : b < 7 := h; exact nat_nb (by omega), (show 1 ≤ 10 by decide)⟩
  | iff r b c =>
    obtain ⟨h1, h2, h3⟩ := h
    refine ⟨fun z hz => ?_, (show 3 ≤ 10 by decide)⟩
    have hz2 : z = (r : Int) ∨ z = (b : Int) ∨ z = (c : Int) := by simpa [En.nums] using hz
    rcases hz2 with rfl | rfl | rfl
    · exact nat_nb h1
    · exact nat_nb (by omega)
    · exact nat_nb (by omega)
  | fin => exact ⟨fun z hz => (by cases hz), by decide⟩
/-! ### text_of -/
/-- a part of a row by its kind: what it brings to the single ones, what to the group -/
def PtAt (K : PySem.W.Frag) (H : Hp) (k x : V) (c : List Int × List Int) : Prop :=
  (∃ s z, k = .str s ∧ inV (.str s) [.str "parts", .str "rooms"] = false ∧ x = .int z ∧ c = ([z], [])) ∨ ∃ s q zs, k = .str s ∧ inV (.str s) [.str "parts", .str "rooms"] = true ∧ x = .ref q ∧ SqT K H q (zs.map V.int) ∧ c = ([], zs)
structure ThAt (K : PySem.W.Frag) (H : Hp) (ks ps : List V) (cs : List (List Int × List Int)) : Prop where
  l1 : ks.length = ps.length
  l2 : cs.length = ps.length
  l3 : ps.length ≤ 3
  at_ : ∀ (i : Nat) (k x : V), ks[i]? = some k → ps[i]? = some x → ∃ c, cs[i]? = some c ∧ PtAt K H k x c
  le : ∀ c ∈ cs, c.1.length ≤ 8 ∧ c.2.length ≤ 8
def sgl (cs : List (List Int × List Int)) : List Int := (cs.map (·.1)).flatten
def grp (cs : List (List Int × List Int)) : List Int := (cs.map (·.2)).flatten
theorem sgl_take {cs : List (List Int × List Int)} {i : Nat} {c : List Int × List Int} (h : cs[i]? = some c) : sgl (cs.take (i + 1)) = sgl (cs.take i) ++ c.1 := by
  unfold sgl
  rw [List.take_add_one, h, List.map_append, List.flatten_append]
  simp
theorem grp_take {cs : List (List Int × List Int)} {i : Nat} {c : List Int × List Int} (h : cs[i]? = some c) : grp (cs.take (i + 1)) = grp (cs.take i) ++ c.2 := by
  unfold grp
  rw [List.take_add_one, h, List.map_append, List.flatten_append]
  simp
def spTextOf (K : PySem.W.Frag) : Sp := fun vs H Q _ => ∃ (p kt : Addr) (wd : Str) (ks ps : List V) (cs : List (List Int × List Int)), vs = [.ref p, .ref kt] ∧ SqT K H p (.str wd :: ps) ∧ (∀ H', SqT K H' kt ks) ∧ ThAt K H ks ps cs ∧ wd.length ≤ 8 ∧ (∀ z ∈ sgl cs ++ grp cs, NumB z) ∧ (sgl cs ++ grp cs).length ≤ 10 ∧
  ∀ H', Same H H' → Q (.str (lineT wd (sgl cs ++ grp cs))) H'
abbrev nTO : List Str := ["thing", "kinds", "single", "group", "kind", "part", "number"]
theorem scTO : FnScope nTO ["thing", "kinds"] (defScope sTextOf) := ⟨rfl, rfl, rfl, by decide +kernel, rfl, by decide +kernel, by decide +kernel⟩
section
variable {P : Program} {w : World} {K : PySem.W.Frag} {mg : Str → Option Value} {base : Heap}
theorem ok_textOf {f gV : Addr} {fd : FuncData} {k : Nat} (D : Df K mg "text_of" sTextOf ["thing", "kinds"] f fd) (B : Bi mg) (hV : mg "SEVERAL" = some (.ref gV)) (tV : ∀ H, SqT K H gV [.str "parts", .str "rooms"]) : FnOk P w K mg base CX0 (k + 1) f fd ["thing", "kinds"] (spTextOf K) := by
  refine D.F.ok scTO (fun vs H Q E h => ?_) (fun cdv A outer s H vs Q E hr h => ?_)
  · obtain ⟨p, kt, wd, ks, ps, cs, rfl, _⟩ := h
    rfl
  · obtain ⟨p, kt, wd, ks, ps, cs, rfl, hp, hk, hT, hwl, hnb, hnl, q⟩ := h
    refine ⟨_, pss_cons (ps_set (i := 2) scTO.nd rfl (.inl rfl) (pe_lst pa_nil)) (pss_cons (ps_set (i := 3) scTO.nd rfl (.inl rfl) (pe_lst pa_nil))
      (pss_cons (ps_for PassesOwn.never rfl (RZ.pi_zipA (by rfl) B.zip (pa_cons (pv 1) (pa_cons (pe_slice sl_tup (pv 0) (po_some pe_int) po_none) pa_nil))) (pg_tup rfl (pgs_cons (pg_name (i := 4) scTO.nd rfl (.inl rfl)) (pgs_cons (pg_name (i := 5) scTO.nd rfl (.inl rfl)) pgs_nil)))
        (pss_one (ps_if (pt_cmpR op_in_seq (pv 4) (pe_glob (v := .ref gV) (by rfl) hV rfl) rfl)
          (pss_one (ps_expr (pe_bm PySem.F.plainAttrs_list PySem.F.slot_list_extend PySem.F.type_list_extend mt_extendT (pv 3) (pa_cons (pv 5) pa_nil))))
          (pss_one (ps_expr (pe_bm PySem.F.plainAttrs_list PySem.F.slot_list_append PySem.F.type_list_append mt_append (pv 2) (pa_cons (pv 5) pa_nil)))))))
      (pss_one (ps_ret (pe_join pe_str (pe_op op_cat (pe_lst (pa_cons (pe_ix ix_tup (pv 0) pe_int (fun _ _ => rfl)) pa_nil))
        (pe_lc (own := [("number", 6)]) (g := gName 6) (tt := tYes) (te := tCB (fun xs H Q => ∃ i : Int, xs = [.int i] ∧ i.natAbs.log2 < 1920 ∧ Q (.str (toString i)) H) (tCons (tVar 6) tNil)) rfl scTO.nd (pi_list (pe_op op_cat (pv 2) (pv 3)))
          (blkOk_by (own := [("number", 6)]) (N := nTO) (sc := defScope sTextOf) (by decide +kernel)) (fun _ _ _ _ _ => pg_name (i := 6) scTO.nd rfl (.inl rfl)) (fun _ _ _ _ _ => pts_nil)
          (fun _ _ _ _ _ => pe_callTy call_str_int (by rfl) B.str PyProof.Rows.boot_str (pa_cons (pv 6) pa_nil))))))))), ?_⟩
    refine ⟨Nat.zero_le _, fun S nS => ⟨Nat.zero_le _, fun G nG => ?_⟩⟩
    have s1 := new_same (o := .lst []) nS
    have nSG : S ≠ G := ne_of_none upd_same nG
    have s2 := s1.trans (new_same (o := .lst []) nG)
    have eS : upd (upd H S (.lst [])) G (.lst []) S = some (.lst []) := by rw [upd_ne nSG]; exact upd_same
    have eG : upd (upd H S (.lst [])) G (.lst []) G = some (.lst []) := upd_same
    have hG0 : H G = none := s1.free nG
    generalize upd (upd H S (.lst [])) G (.lst []) = H0 at s2 eS eG
    refine ⟨.ref kt, rfl, .ref p, rfl, 1, rfl, p, _, rfl, Same.tup s2 hp, cut_not _ _, fun R nR => ?_⟩
    rw [cut_one]
    have sR := new_same (o := .tup ps) nR
    have eR : upd H0 R (.tup ps) R = some (.tup ps) := upd_same
    have s3 := s2.trans sR
    have eS3 := sR _ _ eS
    have eG3 := sR _ _ eG
    generalize upd H0 R (.tup ps) = H1 at sR eR s3 eS3 eG3
    refine ⟨kt, R, ks, ps, rfl, .inr ⟨hk _, sqT eR, ?_⟩⟩
    have hl3 := hT.l3
    have hsl : ∀ i, i ≤ 3 → (sgl (cs.take i)).length ≤ 8 * i ∧ (grp (cs.take i)).length ≤ 8 * i := fun i hi => by
      induction i with
      | zero => simp [sgl, grp]
      | succ i ih =>
        have h0 := ih (by omega)
        by_cases hc : i < cs.length
        · have hc2 := List.getElem?_eq_getElem hc
          have h1 := hT.le _ (List.getElem_mem hc)
          rw [sgl_take hc2, grp_take hc2, List.length_append, List.length_append]
          omega
        · rw [List.take_of_length_le (by omega)]
          rw [List.take_of_length_le (show cs.length ≤ i by omega)] at h0
          omega
    refine for_it (walk_zt hT.l1) (fun i σ Hx => ∃ y4 y5 : Option V, σ = [some (.ref p), some (.ref kt), some (.ref S), some (.ref G), y4, y5, none] ∧ Same H Hx ∧ Hx R = some (.tup ps) ∧ Hx S = some (.lst ((sgl (cs.take i)).map V.int)) ∧ Hx G = some (.lst ((grp (cs.take i)).map V.int))) ⟨none, none, rfl, s3, eR, eS3, eG3⟩ (fun i σ Hx _ hP => ?_) (fun i x σ Hx Hy hi hP hY => ?_) (fun σ Hx hP => ?_)
    · obtain ⟨_, _, _, _, eRx, _⟩ := hP
      exact ⟨hk _, sqT eRx⟩
    · obtain ⟨y4, y5, rfl, sx, eRx, eSx, eGx⟩ := hP
      obtain ⟨T, x1, x2, rfl, nT', rfl, e1, e2⟩ := hY
      have e1 : ks[i]? = some x1 := e1
      have e2 : ps[i]? = some x2 := e2
      have hi3 : i < 3 := by have := hT.l1; omega
      obtain ⟨c, hc1, hc2⟩ := hT.at_ i x1 x2 e1 e2
      have hsg := sgl_take hc1
      have hgr := grp_take hc1
      have hb := hsl i (by omega)
      have hcl := hT.le c (List.mem_of_getElem? hc1)
      have sT := new_same (o := .tup [x1, x2]) nT'
      have sx2 := sx.trans sT
      have eR2 := sT _ _ eRx
      have eS2 := sT _ _ eSx
      have eG2 := sT _ _ eGx
      refine ⟨T, _, rfl, sqT upd_same, rfl, _, _, rfl, _, _, rfl, rfl, ?_⟩
      generalize upd Hx T (.tup [x1, x2]) = Hz at sx2 eR2 eS2 eG2
      have nRS : R ≠ S := fun z => by rw [z, eS2] at eR2; cases eR2
      have nRG : R ≠ G := fun z => by rw [z, eG2] at eR2; cases eR2
      rcases hc2 with ⟨sk, z, rfl, hin, rfl, rfl⟩ | ⟨sk, qa, zs, rfl, hin, rfl, hqa, rfl⟩
      · refine ⟨.str sk, rfl, gV, _, rfl, .inr (tV _), rfl, rfl, _, rfl, ?_⟩
        show if inV (.str sk) [.str "parts", .str "rooms"] = true then _ else _
        rw [hin]
        refine ⟨.ref S, rfl, .inl ⟨rfl, _, sqL eS2⟩, .int z, rfl, S, _, _, rfl, rfl, eS2, by rw [List.length_map]; exact szt (by omega), ?_⟩
        refine ⟨_, _, rfl, Same.upd sx2 nS, by rw [upd_ne nRS]; exact eR2, by rw [upd_same, hsg, List.map_append]; rfl, by rw [upd_ne nSG.symm, hgr, List.append_nil]; exact eG2⟩
      · refine ⟨.str sk, rfl, gV, _, rfl, .inr (tV _), rfl, rfl, _, rfl, ?_⟩
        show if inV (.str sk) [.str "parts", .str "rooms"] = true then _ else _
        rw [hin]
        refine ⟨.ref G, rfl, .inl ⟨rfl, _, sqL eG2⟩, .ref qa, rfl, G, qa, _, _, rfl, rfl, eG2, Same.tup sx2 hqa, by rw [List.length_map, List.length_map]; exact szl (by have := hcl.2; simp at this; omega), ?_⟩
        refine ⟨_, _, rfl, Same.upd sx2 hG0, by rw [upd_ne nRG]; exact eR2, by rw [upd_ne nSG, hsg, List.append_nil]; exact eS2, by rw [upd_same, hgr, List.map_append]⟩
    · obtain ⟨y4, y5, rfl, sx, eRx, eSx, eGx⟩ := hP
      have hfull : cs.take ks.length = cs := List.take_of_length_le (by have := hT.l1; have := hT.l2; omega)
      rw [hfull] at eSx eGx
      have hlen : (sgl cs).length + (grp cs).length ≤ 10 := by rw [← List.length_append]; exact hnl
      refine ⟨⟨_, rfl⟩, .ref p, rfl, p, _, _, _, rfl, rfl, Same.tup sx hp, atI_nat (j := 0) rfl, szl (show 1 ≤ 1000000 by decide), fun l1 n1 => ?_⟩
      have w1 := new_same (o := .lst [.str wd]) n1
      have u1 : upd Hx l1 (.lst [.str wd]) l1 = some (.lst [.str wd]) := upd_same
      have eS2 := w1 _ _ eSx
      have eG2 := w1 _ _ eGx
      have sx2 := sx.trans w1
      generalize upd Hx l1 (.lst [.str wd]) = Ha at w1 u1 eS2 eG2 sx2
      refine ⟨.ref S, rfl, .ref G, rfl, S, G, _, _, rfl, rfl, eS2, eG2, by rw [List.length_map, List.length_map]; exact szl (by omega), fun l2 n2 => ?_⟩
      have w2 := new_same (o := .lst ((sgl cs).map V.int ++ (grp cs).map V.int)) n2
      have u2 : upd Ha l2 (.lst ((sgl cs).map V.int ++ (grp cs).map V.int)) l2 = some (.lst ((sgl cs ++ grp cs).map V.int)) := by rw [upd_same, List.map_append]
      have u1a := w2 _ _ u1
      have sx3 := sx2.trans w2
      generalize upd Ha l2 (.lst ((sgl cs).map V.int ++ (grp cs).map V.int)) = Hb at w2 u2 u1a sx3
      generalize sgl cs ++ grp cs = ns at u2 hnb hnl q
      refine ⟨l2, rfl, ⟨_, sqL u2⟩, fun M nM => ?_⟩
      refine lc_list (K := K) (a := l2) (xs := ns.map V.int) (fun i Hz => Same Hb Hz ∧ Hz M = some (.lst (((ns.take i).map nT).map V.str))) ⟨new_same nM, upd_same⟩ (fun i Hz _ hP => sqL (hP.1 _ _ u2)) (fun i x Hz hx hP => ?_) (fun Hz hP => ?_)
      · obtain ⟨sz, eM⟩ := hP
        rw [List.getElem?_map] at hx
        obtain ⟨z, hz, rfl⟩ := Option.map_eq_some_iff.mp hx
        have hil := (List.getElem?_eq_some_iff.mp hz).1
        refine ⟨rfl, .int z, rfl, z, rfl, num_log (hnb z (List.mem_of_getElem? hz)), _, eM, by rw [List.length_map, List.length_map, List.length_take]; exact szt (by omega), fun b o w => ?_, ?_⟩
        · rw [upd_ne (ne_of_none w nM)]
          exact sz _ _ w
        · rw [upd_same, List.take_add_one, hz, List.map_append, List.map_append]
          rfl
      · obtain ⟨sz, eM⟩ := hP
        rw [List.length_map, List.take_length] at eM
        have hjo := join_ok hwl hnb hnl
        refine ⟨l1, M, _, _, rfl, rfl, sz _ _ u1a, eM, by rw [List.length_map, List.length_map]; exact szl (by simp; omega), fun J nJ => ?_⟩
        refine ⟨" ", J, wd :: ns.map nT, rfl, rfl, .inl (sqL ?_), hjo.1, ?_⟩
        · rw [upd_same]
          rfl
        · exact q _ ((sx3.trans sz).trans (new_same nJ))
end
end Gn
set_option Elab.async false
set_option linter.all false
set_option maxRecDepth 100000
set_option maxHeartbeats 8000000
set_option pp.maxSteps 300
namespace Gn
open PySem PySem.Spec PyProof.Rows L2
/-! ### programs, to be read -/
def BlkAt (K : PySem.W.Frag) (H : Hp) (v : V) (b : Blk) : Prop := ∃ p ra ea vs, v = .ref p ∧ SqT K H p [.ref ra, ea] ∧ H ra = some (.lst vs) ∧ Paired (RowAt K H) vs b.1 ∧ EnAt K H ea b.2
def ProgAt (K : PySem.W.Frag) (H : Hp) (v : V) (pr : List Blk) : Prop := ∃ p bs, v = .ref p ∧ SqL K H p bs ∧ Paired (BlkAt K H) bs pr
theorem BlkAt.same {K : PySem.W.Frag} {H H' : Hp} {v : V} {b : Blk} (h : BlkAt K H v b) (e : Same H H') : BlkAt K H' v b := by
  obtain ⟨p, ra, ea, vs, h1, h2, h3, h4, h5⟩ := h
  exact ⟨p, ra, ea, vs, h1, Same.tup e h2, e _ _ h3, pd_mono h4 fun _ _ y => y.same e, h5.same e⟩
theorem ProgAt.same {K : PySem.W.Frag} {H H' : Hp} {v : V} {pr : List Blk} (h : ProgAt K H v pr) (e : Same H H') : ProgAt K H' v pr := by
  obtain ⟨p, bs, rfl, h1, h2⟩ := h
  exact ⟨p, bs, rfl, e.seq h1, pd_mono h2 fun _ _ y => y.same e⟩
theorem BlkB.mono {m n n' : Nat} {b : Blk} (h : BlkB m n b) (e : n ≤ n') : BlkB m n' b := by
  obtain ⟨h1, h2, h3⟩ := h
  refine ⟨Nat.le_trans h1 e, fun r hr => (h2 r hr).mono fun y hy => Nat.lt_of_lt_of_le hy e, ?_⟩
  cases hb : b.2 with
  | go x => rw [hb] at h3; exact h3
  | iff r x y => rw [hb] at h3; exact ⟨Nat.lt_of_lt_of_le h3.1 e, h3.2⟩
  | fin => exact trivial
/-! ### the tables -/
def Rw.kinds : Rw → List V
  | .take _ => [.str "place"]
  | .num _ => [.str "number"]
  | .bin _ _ _ => [.str "row", .str "row"]
  | .pick _ _ => [.str "row", .str "parts"]
  | .meet _ => [.str "parts"]
  | .tell _ => [.str "row"]
  | .look _ _ => [.str "rooms", .str "row"]
  | .lay _ _ _ => [.str "rooms", .str "row", .str "row"]
def En.kinds : En → List V
  | .go _ => [.str "block"]
  | .iff _ _ _ => [.str "row", .str "block", .str "block"]
  | .fin => []
structure Tb (K : PySem.W.Frag) (w : World) (mg : Str → Option Value) (dR dE : Addr) : Prop where
  mgR : mg "ROW_PARTS" = some (.ref dR)
  mgE : mg "END_PARTS" = some (.ref dE)
  row : ∀ r : Rw, ∃ g, KDct K w dR r.w (.ref g) ∧ ∀ H, SqT K H g r.kinds
  end_ : ∀ e : En, ∃ g, KDct K w dE e.word (.ref g) ∧ ∀ H, SqT K H g e.kinds
def Rw.cs : Rw → List (List Int × List Int)
  | .take i => [([(i : Int)], [])]
  | .num n => [([n], [])]
  | .bin _ x y => [([(x : Int)], []), ([(y : Int)], [])]
  | .pick x ps => [([(x : Int)], []), ([], nI ps)]
  | .meet ps => [([], nI ps)]
  | .tell x => [([(x : Int)], [])]
  | .look rs x => [([], nI rs), ([(x : Int)], [])]
  | .lay rs x y => [([], nI rs), ([(x : Int)], []), ([(y : Int)], [])]
def En.cs : En → List (List Int × List Int)
  | .go b => [([(b : Int)], [])]
  | .iff r b c => [([(r : Int)], []), ([(b : Int)], []), ([(c : Int)], [])]
  | .fin => []
theorem rw_cs (r : Rw) : sgl r.cs ++ grp r.cs = r.nums := by
  cases r <;> simp [Rw.cs, Rw.nums, sgl, grp]
theorem en_cs (e : En) : sgl e.cs ++ grp e.cs = e.nums := by
  cases e <;> simp [En.cs, En.nums, sgl, grp]
theorem ThAt.nil {K : PySem.W.Frag} {H : Hp} : ThAt K H [] [] [] := ⟨rfl, rfl, by decide, fun i k x h => by simp at h, fun c h => by cases h⟩
theorem ThAt.cons {K : PySem.W.Frag} {H : Hp} {k x : V} {c : List Int × List Int} {ks ps : List V} {cs : List (List Int × List Int)} (h : PtAt K H k x c) (hl : c.1.length ≤ 8 ∧ c.2.length ≤ 8) (t : ThAt K H ks ps cs) (h3 : ps.length ≤ 2) : ThAt K H (k :: ks) (x :: ps) (c :: cs) := by
  refine ⟨by rw [List.length_cons, List.length_cons, t.l1], by rw [List.length_cons, List.length_cons, t.l2], by rw [List.length_cons]; omega, fun i k' x' h1 h2 => ?_, fun c' h' => ?_⟩
  · cases i with
    | zero =>
      cases h1
      cases h2
      exact ⟨c, rfl, h⟩
    | succ i => exact t.at_ i k' x' (by simpa using h1) (by simpa using h2)
  · rcases List.mem_cons.mp h' with rfl | h'
    · exact hl
    · exact t.le c' h'
theorem pt_one {K : PySem.W.Frag} {H : Hp} {s : Str} {z : Int} (h : inV (.str s) [.str "parts", .str "rooms"] = false) : PtAt K H (.str s) (.int z) ([z], []) := .inl ⟨s, z, rfl, h, rfl, rfl⟩
theorem pt_grp {K : PySem.W.Frag} {H : Hp} {s : Str} {q : Addr} {ns : List Nat} (h : inV (.str s) [.str "parts", .str "rooms"] = true) (hq : SqT K H q (ns.map iv)) : PtAt K H (.str s) (.ref q) ([], nI ns) := .inr ⟨s, q, nI ns, rfl, h, rfl, by rw [nI_iv]; exact hq, rfl⟩
theorem one_le : ∀ {z : Int}, (([z], []) : List Int × List Int).1.length ≤ 8 ∧ (([z], []) : List Int × List Int).2.length ≤ 8 := fun {z} => ⟨by simp, by simp⟩
theorem grp_le {ns : List Nat} (h : ns.length ≤ 8) : (([], nI ns) : List Int × List Int).1.length ≤ 8 ∧ (([], nI ns) : List Int × List Int).2.length ≤ 8 := ⟨by simp, by show (nI ns).length ≤ 8; unfold nI; rw [List.length_map]; exact h⟩
theorem row_th {K : PySem.W.Frag} {H : Hp} {r : Rw} {xs : List V} (h : Rest K H r xs) (hA : RwA (· < 1000) r) : ThAt K H r.kinds xs r.cs := by
  cases r with
  | take i => cases h; exact .cons (pt_one rfl) one_le .nil (by decide)
  | num n => cases h; exact .cons (pt_one rfl) one_le .nil (by decide)
  | bin b x y => cases h; exact .cons (pt_one rfl) one_le (.cons (pt_one rfl) one_le .nil (by decide)) (by simp)
  | pick x ps => obtain ⟨q, rfl, hq⟩ := h; exact .cons (pt_one rfl) one_le (.cons (pt_grp rfl hq) (grp_le (by have := hA.2.2.2; omega)) .nil (by decide)) (by simp)
  | meet ps => obtain ⟨q, rfl, hq⟩ := h; exact .cons (pt_grp rfl hq) (grp_le (by have := hA.2.2; omega)) .nil (by decide)
  | tell x => cases h; exact .cons (pt_one rfl) one_le .nil (by decide)
  | look rs x => obtain ⟨q, rfl, hq⟩ := h; exact .cons (pt_grp rfl hq) (grp_le (by have := hA.2.2.2.2; omega)) (.cons (pt_one rfl) one_le .nil (by decide)) (by simp)
  | lay rs x y => obtain ⟨q, rfl, hq⟩ := h; exact .cons (pt_grp rfl hq) (grp_le (by have := hA.2.2.2.2.2; omega)) (.cons (pt_one rfl) one_le (.cons (pt_one rfl) one_le .nil (by decide)) (by simp)) (by simp)
def En.parts : En → List V
  | .go b => [iv b]
  | .iff r b c => [iv r, iv b, iv c]
  | .fin => []
theorem EnAt.at {K : PySem.W.Frag} {H : Hp} {v : V} {e : En} (h : EnAt K H v e) : ∃ p, v = .ref p ∧ SqT K H p (.str e.word :: e.parts) := by
  cases e <;> exact h
theorem end_th {K : PySem.W.Frag} {H : Hp} {e : En} : ThAt K H e.kinds e.parts e.cs := by
  cases e with
  | go b => exact .cons (pt_one rfl) one_le .nil (by decide)
  | iff r b c => exact .cons (pt_one rfl) one_le (.cons (pt_one rfl) one_le (.cons (pt_one rfl) one_le .nil (by decide)) (by simp)) (by simp)
  | fin => exact .nil
/-! ### the lines' bounds -/
theorem line_len {pr : List Blk} (hb : ∀ b ∈ pr, BlkB 7 1000 b) : ∀ x ∈ lines pr, x.length ≤ 400 := fun x hx => by
  obtain ⟨l, hl, hx⟩ := List.mem_flatten.mp hx
  obtain ⟨b, hbm, rfl⟩ := List.mem_map.mp hl
  obtain ⟨h1, h2, h3⟩ := hb b hbm
  rcases List.mem_cons.mp hx with rfl | hx
  · decide +kernel
  · rcases List.mem_append.mp hx with w | w
    · obtain ⟨r, hr, rfl⟩ := List.mem_map.mp w
      have hn := rw_nums (h2 r hr)
      exact (join_ok (rw_wlen r) hn.1 hn.2).2
    · rw [List.mem_singleton.mp w]
      have hn := en_nums h3
      exact (join_ok (en_wlen _) hn.1 hn.2).2
theorem lines_len {pr : List Blk} (hb : ∀ b ∈ pr, BlkB 7 1000 b) : (lines pr).length ≤ pr.length * 1002 := by
  unfold lines
  induction pr with
  | nil => simp
  | cons b pr ih =>
    have h1 := ih fun x hx => hb x (List.mem_cons_of_mem _ hx)
    have h2 := (hb b List.mem_cons_self).1
    rw [List.map_cons, List.flatten_cons, List.length_append, List.length_cons, Nat.succ_mul]
    have : (blkLines b).length = b.1.length + 2 := by
      unfold blkLines
      rw [List.length_cons, List.length_append, List.length_map, List.length_singleton]
    omega
theorem lines_ok {pr : List Blk} (hl : pr.length ≤ 7) (hb : ∀ b ∈ pr, BlkB 7 1000 b) : ((lines pr).map (·.length)).sum + (lines pr).length * ("\n" : Str).length ≤ 16777216 := by
  have h1 := sum_le (xs := (lines pr).map (·.length)) (k := 400) fun x hx => by
    obtain ⟨y, hy, rfl⟩ := List.mem_map.mp hx
    exact line_len hb y hy
  have h2 := lines_len hb
  have h3 : pr.length * 1002 ≤ 7 * 1002 := Nat.mul_le_mul_right _ hl
  rw [List.length_map] at h1
  have hs : ("\n" : Str).length = 1 := by decide +kernel
  rw [hs]
  omega
theorem lines_take {pr : List Blk} {i : Nat} {b : Blk} (h : pr[i]? = some b) : lines (pr.take (i + 1)) = lines (pr.take i) ++ blkLines b := by
  unfold lines
  rw [List.take_add_one, h, List.map_append, List.flatten_append]
  simp
theorem lines_take_len {pr : List Blk} {i : Nat} (hl : pr.length ≤ 7) (hb : ∀ b ∈ pr, BlkB 7 1000 b) : (lines (pr.take i)).length ≤ 7 * 1002 := by
  have h1 := lines_len (pr := pr.take i) fun b h => hb b (List.mem_of_mem_take h)
  have h2 : (pr.take i).length ≤ 7 := by rw [List.length_take]; omega
  exact Nat.le_trans h1 (Nat.mul_le_mul_right _ h2)
/-! ### program_text -/
def spPText (K : PySem.W.Frag) : Sp := fun vs H Q _ => ∃ (v : V) (pr : List Blk), vs = [v] ∧ ProgAt K H v pr ∧ pr.length ≤ 7 ∧ (∀ b ∈ pr, BlkB 7 1000 b) ∧ ∀ H', Same H H' → Q (.str (Txt.join "\n" (lines pr))) H'
abbrev nPT : List Str := ["program", "written", "rows", "end", "row"]
theorem scPT : FnScope nPT ["program"] (defScope sPText) := ⟨rfl, rfl, rfl, by decide +kernel, rfl, by decide +kernel, by decide +kernel⟩
section
variable {P : Program} {w : World} {K : PySem.W.Frag} {mg : Str → Option Value} {base : Heap}
theorem ok_ptext {f fT dR dE : Addr} {fd fdT : FuncData} {k : Nat} (D : Df K mg "program_text" sPText ["program"] f fd) (B : Bi mg) (TB : Tb K w mg dR dE) (DT : Df K mg "text_of" sTextOf ["thing", "kinds"] fT fdT) (GT : FnOk P w K mg base CX0 k fT fdT ["thing", "kinds"] (spTextOf K)) : FnOk P w K mg base CX0 (k + 1) f fd ["program"] (spPText K) := by
  refine D.F.ok scPT (fun vs H Q E h => ?_) (fun cdv A outer s H vs Q E hr h => ?_)
  · obtain ⟨v, pr, rfl, _⟩ := h
    rfl
  · obtain ⟨v, pr, rfl, ⟨p, bs, rfl, hp, hbs⟩, hl, hb, q⟩ := h
    refine ⟨_, pss_cons (ps_set (i := 1) scPT.nd rfl (.inl rfl) (pe_lst pa_nil))
      (pss_cons (ps_for PassesOwn.never rfl (pi_list (pv 0)) (pg_tup rfl (pgs_cons (pg_name (i := 2) scPT.nd rfl (.inl rfl)) (pgs_cons (pg_name (i := 3) scPT.nd rfl (.inl rfl)) pgs_nil)))
        (pss_cons (ps_expr (pe_bm PySem.F.plainAttrs_list PySem.F.slot_list_append PySem.F.type_list_append mt_append (pv 1) (pa_cons pe_str pa_nil)))
        (pss_cons (ps_for PassesOwn.never rfl (pi_list (pv 2)) (pg_name (i := 4) scPT.nd rfl (.inl rfl))
          (pss_one (ps_expr (pe_bm PySem.F.plainAttrs_list PySem.F.slot_list_append PySem.F.type_list_append mt_append (pv 1) (pa_cons (pe_call GT hr (by rfl) DT.g DT.F.kp DT.b .nil pass0 (pa_cons (pv 4) (pa_cons (pe_ix ix_kdict (pe_glob (v := .ref dR) (by rfl) TB.mgR rfl) (pe_ix ix_tup (pv 4) pe_int (fun _ _ => rfl)) (fun _ _ => rfl)) pa_nil))) pa_nil)))))
        (pss_one (ps_expr (pe_bm PySem.F.plainAttrs_list PySem.F.slot_list_append PySem.F.type_list_append mt_append (pv 1) (pa_cons (pe_call GT hr (by rfl) DT.g DT.F.kp DT.b .nil pass0 (pa_cons (pv 3) (pa_cons (pe_ix ix_kdict (pe_glob (v := .ref dE) (by rfl) TB.mgE rfl) (pe_ix ix_tup (pv 3) pe_int (fun _ _ => rfl)) (fun _ _ => rfl)) pa_nil))) pa_nil)))))))
      (pss_one (ps_ret (pe_join pe_str (pv 1))))), ?_⟩
    refine ⟨Nat.zero_le _, fun W nW => ?_⟩
    have s0 := new_same (o := .lst []) nW
    have e0 : upd H W (.lst []) W = some (.lst (([] : List Str).map V.str)) := upd_same
    generalize upd H W (.lst []) = H0 at s0 e0
    have hbl : bs.length = pr.length := pd_len hbs
    refine ⟨.ref p, rfl, p, rfl, ⟨_, s0.seq hp⟩, ?_⟩
    refine for_list (K := K) (a := p) (xs := bs) (fun i σ H1 => ∃ y2 y3 y4 : Option V, σ = [some (.ref p), some (.ref W), y2, y3, y4] ∧ Same H H1 ∧ H1 W = some (.lst ((lines (pr.take i)).map V.str))) ⟨none, none, none, rfl, s0, e0⟩ (fun i σ H1 _ hP => ?_) (fun i x σ H1 hx hP => ?_) (fun σ H1 hP => ?_)
    · obtain ⟨_, _, _, _, s1, _⟩ := hP
      exact s1.seq hp
    · obtain ⟨y2, y3, y4, rfl, s1, eW⟩ := hP
      have hil := (List.getElem?_eq_some_iff.mp hx).1
      obtain ⟨b, hb1, pb, ra, ea, vs, rfl, k2, k3, k4, k5⟩ := pd_at2 hbs hx
      obtain ⟨hB1, hB2, hB3⟩ := hb b (List.mem_of_getElem? hb1)
      have hlt := lines_take_len (i := i) hl hb
      have hvl : vs.length = b.1.length := pd_len k4
      refine ⟨pb, _, rfl, Same.tup s1 k2, rfl, _, _, rfl, _, _, rfl, rfl, ?_⟩
      refine ⟨.ref W, rfl, .inl ⟨rfl, _, sqL eW⟩, W, _, _, rfl, rfl, eW, by rw [List.length_map]; exact szt (by omega), ?_⟩
      have s2 := Same.upd (o := .lst ((lines (pr.take i)).map V.str ++ [.str "block"])) s1 nW
      have e2 : upd H1 W (.lst ((lines (pr.take i)).map V.str ++ [.str "block"])) W = some (.lst ((lines (pr.take i) ++ ("block" : Str) :: (b.1.take 0).map Rw.text).map V.str)) := by rw [upd_same, List.map_append]; rfl
      generalize upd H1 W (.lst ((lines (pr.take i)).map V.str ++ [.str "block"])) = H2 at s2 e2
      refine ⟨.ref ra, rfl, ra, rfl, ⟨_, sqL (s2 _ _ k3)⟩, ?_⟩
      refine for_list (K := K) (a := ra) (xs := vs) (fun j σ H3 => ∃ y4 : Option V, σ = [some (.ref p), some (.ref W), some (.ref ra), some ea, y4] ∧ Same H H3 ∧ H3 W = some (.lst ((lines (pr.take i) ++ ("block" : Str) :: (b.1.take j).map Rw.text).map V.str))) ⟨_, rfl, s2, e2⟩ (fun j σ H3 _ hP => ?_) (fun j x σ H3 hx2 hP => ?_) (fun σ H3 hP => ?_)
      · obtain ⟨_, _, s3, _⟩ := hP
        exact sqL (s3 _ _ k3)
      · obtain ⟨y4, rfl, s3, e3⟩ := hP
        have hjl := (List.getElem?_eq_some_iff.mp hx2).1
        obtain ⟨r, hr1, hr2⟩ := pd_at2 k4 hx2
        obtain ⟨z, zs, rfl, hz, hzr⟩ := hr2.same s3
        obtain ⟨g, kd, kt⟩ := TB.row r
        have hA := hB2 r (List.mem_of_getElem? hr1)
        have hn := rw_nums hA
        refine ⟨.ref W, rfl, .inl ⟨rfl, _, sqL e3⟩, .ref z, rfl, .ref z, rfl, z, _, _, _, rfl, rfl, hz, atI_nat (j := 0) rfl, dR, r.w, .ref g, rfl, rfl, kd, z, g, r.w, r.kinds, zs, r.cs, rfl, hz, kt, row_th hzr hA, rw_wlen r, by rw [rw_cs]; exact hn.1, by rw [rw_cs]; exact hn.2, fun H4 s4 => ?_⟩
        rw [rw_cs]
        have e4 := s4 _ _ e3
        refine ⟨W, _, _, rfl, rfl, e4, by rw [List.length_map, List.length_append, List.length_cons, List.length_map, List.length_take]; exact szt (by omega), ?_⟩
        refine ⟨_, rfl, Same.upd (s3.trans s4) nW, ?_⟩
        rw [upd_same, List.take_add_one, hr1]
        simp only [List.map_append, List.map_cons, List.append_assoc, List.cons_append]
        rfl
      · obtain ⟨y4, rfl, s3, e3⟩ := hP
        rw [hvl, List.take_length] at e3
        obtain ⟨z, hze, hz⟩ := (k5.same s3).at
        subst hze
        obtain ⟨g, kd, kt⟩ := TB.end_ b.2
        have hn := en_nums hB3
        refine ⟨.ref W, rfl, .inl ⟨rfl, _, sqL e3⟩, .ref z, rfl, .ref z, rfl, z, _, _, _, rfl, rfl, hz, atI_nat (j := 0) rfl, dE, b.2.word, .ref g, rfl, rfl, kd, z, g, b.2.word, b.2.kinds, b.2.parts, b.2.cs, rfl, hz, kt, end_th, en_wlen b.2, by rw [en_cs]; exact hn.1, by rw [en_cs]; exact hn.2, fun H4 s4 => ?_⟩
        rw [en_cs]
        have e4 := s4 _ _ e3
        refine ⟨W, _, _, rfl, rfl, e4, by rw [List.length_map, List.length_append, List.length_cons, List.length_map]; exact szt (by omega), ?_⟩
        refine ⟨_, _, _, rfl, Same.upd (s3.trans s4) nW, ?_⟩
        rw [upd_same, lines_take hb1]
        unfold blkLines
        simp only [List.map_append, List.map_cons, List.append_assoc, List.cons_append]
        rfl
    · obtain ⟨y2, y3, y4, rfl, s1, eW⟩ := hP
      rw [hbl, List.take_length] at eW
      exact ⟨⟨_, rfl⟩, .ref W, rfl, "\n", W, lines pr, rfl, rfl, .inl (sqL eW), lines_ok hl hb, q _ s1⟩
end
end Gn
set_option Elab.async false
set_option linter.all false
set_option maxRecDepth 100000
set_option maxHeartbeats 8000000
set_option pp.maxSteps 300
namespace Gn
open PySem PySem.Spec PyProof.Rows L2
theorem cut_two (x y : V) (xs : List V) : cutV (x :: y :: xs) (some 2) none = xs := by
  unfold cutV
  rw [show HT.sIx (x :: y :: xs).length 0 (some 2) = min 2 (x :: y :: xs).length from HT.sIx_nat (x :: y :: xs).length 0 2, HT.sIx_none]
  rw [show min 2 (x :: y :: xs).length = 2 by rw [List.length_cons, List.length_cons]; omega]
  show xs.take ((x :: y :: xs).length - 2) = xs
  exact List.take_of_length_le (by simp)
abbrev isPk (wd : Str) : Bool := decide (V.str wd = V.str "pick")
abbrev isMt (wd : Str) : Bool := decide (V.str wd = V.str "meet")
abbrev isRm (wd : Str) : Bool := inV (.str wd) [.str "look", .str "lay"]
/-- a row or an end, as it is to be written -/
structure TxO (K : PySem.W.Frag) (H : Hp) (wd : Str) (pts : List V) (nums : List Int) : Prop where
  hP : isPk wd = true → ∃ x q ps, pts = [iv x, .ref q] ∧ SqT K H q (ps.map iv) ∧ ps.length ≤ 10 ∧ nums = (x : Int) :: nI ps
  hM : isMt wd = true → ∃ q ps, pts = [.ref q] ∧ SqT K H q (ps.map iv) ∧ ps.length ≤ 10 ∧ nums = nI ps
  hR : isRm wd = true → ∃ q rs rest, pts = .ref q :: rest.map iv ∧ SqT K H q (rs.map iv) ∧ rs.length ≤ 10 ∧ rest.length ≤ 10 ∧ nums = nI rest ++ nI rs
  hN : isPk wd = false → isMt wd = false → isRm wd = false → pts = nums.map V.int
  e1 : isPk wd = true → isMt wd = false
  e2 : isPk wd = true ∨ isMt wd = true → isRm wd = false
  wl : wd.length ≤ 8
  nb : ∀ z ∈ nums, NumB z
  nl : nums.length ≤ 10
  pl : pts.length ≤ 10
theorem row_tx {K : PySem.W.Frag} {H : Hp} {r : Rw} {xs : List V} (h : Rest K H r xs) (hA : RwA (· < 1000) r) : TxO K H r.w xs r.nums := by
  obtain ⟨hn1, hn2⟩ := rw_nums hA
  have hw := rw_wlen r
  cases r with
  | take i => cases h; exact ⟨fun z => (by cases z), fun z => (by cases z), fun z => (by cases z), fun _ _ _ => rfl, fun z => (by cases z), fun z => (by rcases z with z | z <;> cases z), hw, hn1, hn2, by simp⟩
  | num n => cases h; exact ⟨fun z => (by cases z), fun z => (by cases z), fun z => (by cases z), fun _ _ _ => rfl, fun z => (by cases z), fun z => (by rcases z with z | z <;> cases z), hw, hn1, hn2, by simp⟩
  | bin b x y =>
    cases h
    have k1 : isPk b.w = false := by cases b <;> rfl
    have k2 : isMt b.w = false := by cases b <;> rfl
    have k3 : isRm b.w = false := by cases b <;> rfl
    exact ⟨fun z => (by rw [show isPk (Rw.bin b x y).w = false from k1] at z; cases z), fun z => (by rw [show isMt (Rw.bin b x y).w = false from k2] at z; cases z), fun z => (by rw [show isRm (Rw.bin b x y).w = false from k3] at z; cases z), fun _ _ _ => rfl, fun z => k2, fun z => k3, hw, hn1, hn2, by simp⟩
  | pick x ps => obtain ⟨q, rfl, hq⟩ := h; exact ⟨fun _ => ⟨x, q, ps, rfl, hq, by have := hA.2.2.2; omega, rfl⟩, fun z => (by cases z), fun z => (by cases z), fun z => (by cases z), fun _ => rfl, fun _ => rfl, hw, hn1, hn2, by simp⟩
  | meet ps => obtain ⟨q, rfl, hq⟩ := h; exact ⟨fun z => (by cases z), fun _ => ⟨q, ps, rfl, hq, by have := hA.2.2; omega, rfl⟩, fun z => (by cases z), fun _ z => (by cases z), fun z => (by cases z), fun _ => rfl, hw, hn1, hn2, by simp⟩
  | tell x => cases h; exact ⟨fun z => (by cases z), fun z => (by cases z), fun z => (by cases z), fun _ _ _ => rfl, fun z => (by cases z), fun z => (by rcases z with z | z <;> cases z), hw, hn1, hn2, by simp⟩
  | look rs x => obtain ⟨q, rfl, hq⟩ := h; exact ⟨fun z => (by cases z), fun z => (by cases z), fun _ => ⟨q, rs, [x], rfl, hq, by have := hA.2.2.2.2; omega, by simp, rfl⟩, fun _ _ z => (by cases z), fun z => (by cases z), fun z => (by rcases z with z | z <;> cases z), hw, hn1, hn2, by simp⟩
  | lay rs x y => obtain ⟨q, rfl, hq⟩ := h; exact ⟨fun z => (by cases z), fun z => (by cases z), fun _ => ⟨q, rs, [x, y], rfl, hq, by have := hA.2.2.2.2.2; omega, by simp, rfl⟩, fun _ _ z => (by cases z), fun z => (by cases z), fun z => (by rcases z with z | z <;> cases z), hw, hn1, hn2, by simp⟩
theorem end_tx {K : PySem.W.Frag} {H : Hp} {e : En} (hB : EnB 7 1000 e) : TxO K H e.word e.parts e.nums := by
  obtain ⟨hn1, hn2⟩ := en_nums hB
  have hw := en_wlen e
  cases e with
  | go b => exact ⟨fun z => (by cases z), fun z => (by cases z), fun z => (by cases z), fun _ _ _ => rfl, fun z => (by cases z), fun z => (by rcases z with z | z <;> cases z), hw, hn1, hn2, by simp [En.parts]⟩
  | iff r b c => exact ⟨fun z => (by cases z), fun z => (by cases z), fun z => (by cases z), fun _ _ _ => rfl, fun z => (by cases z), fun z => (by rcases z with z | z <;> cases z), hw, hn1, hn2, by simp [En.parts]⟩
  | fin => exact ⟨fun z => (by cases z), fun z => (by cases z), fun z => (by cases z), fun _ _ _ => rfl, fun z => (by cases z), fun z => (by rcases z with z | z <;> cases z), hw, hn1, hn2, by simp [En.parts]⟩
def spRowText (K : PySem.W.Frag) : Sp := fun vs H Q _ => ∃ (p : Addr) (wd : Str) (pts : List V) (nums : List Int), vs = [.ref p] ∧ SqT K H p (.str wd :: pts) ∧ TxO K H wd pts nums ∧ ∀ H', Same H H' → Q (.str (lineT wd nums)) H'
abbrev nRT : List Str := ["_law_row", "_law_words", "_law_word"]
theorem scRT : FnScope nRT ["_law_row"] (defScope sRowText) := ⟨rfl, rfl, rfl, by decide +kernel, rfl, by decide +kernel, by decide +kernel⟩
section
variable {P : Program} {w : World} {K : PySem.W.Frag} {mg : Str → Option Value} {base : Heap}
theorem ok_rowText {f : Addr} {fd : FuncData} {k : Nat} (D : Df K mg "_law_row_text" sRowText ["_law_row"] f fd) (B : Bi mg) : FnOk P w K mg base CX0 (k + 1) f fd ["_law_row"] (spRowText K) := by
  refine D.F.ok scRT (fun vs H Q E h => ?_) (fun cdv A outer s H vs Q E hr h => ?_)
  · obtain ⟨p, wd, pts, nums, rfl, _⟩ := h
    rfl
  · obtain ⟨p, wd, pts, nums, rfl, hp, hT, q⟩ := h
    refine ⟨_, (pss_cons (ps_set (i := 1) scRT.nd rfl (.inl rfl) (pe_op op_cat (pe_lst (pa_cons (pe_ix ix_tup (pv 0) pe_int (fun _ _ => rfl)) pa_nil)) (pe_callTy call_list_of (by rfl) B.list PyProof.Rows.boot_list (pa_cons (pe_slice sl_tup (pv 0) (po_some pe_int) po_none) pa_nil))))
      (Evl.pss_cut (ps_if (pt_cmpR op_eq (pe_ix ix_tup (pv 0) pe_int (fun _ _ => rfl)) pe_str (nomark _)) (pss_one (ps_set (i := 1) scRT.nd rfl (.inl rfl) (pe_op op_cat (pe_lst (pa_cons (pe_ix ix_tup (pv 0) pe_int (fun _ _ => rfl)) (pa_cons (pe_ix ix_tup (pv 0) pe_int (fun _ _ => rfl)) pa_nil))) (pe_callTy call_list_of (by rfl) B.list PyProof.Rows.boot_list (pa_cons (pe_ix ix_tup (pv 0) pe_int (fun _ _ => rfl)) pa_nil))))) pss_nil)
      (Evl.pss_cut (ps_if (pt_cmpR op_eq (pe_ix ix_tup (pv 0) pe_int (fun _ _ => rfl)) pe_str (nomark _)) (pss_one (ps_set (i := 1) scRT.nd rfl (.inl rfl) (pe_op op_cat (pe_lst (pa_cons (pe_ix ix_tup (pv 0) pe_int (fun _ _ => rfl)) pa_nil)) (pe_callTy call_list_of (by rfl) B.list PyProof.Rows.boot_list (pa_cons (pe_ix ix_tup (pv 0) pe_int (fun _ _ => rfl)) pa_nil))))) pss_nil)
      (Evl.pss_cut (ps_if (pt_cmpR op_in_seq (pe_ix ix_tup (pv 0) pe_int (fun _ _ => rfl)) (pe_tup (pa_cons pe_str (pa_cons pe_str pa_nil))) rfl) (pss_one (ps_set (i := 1) scRT.nd rfl (.inl rfl) (pe_op op_cat (pe_op op_cat (pe_lst (pa_cons (pe_ix ix_tup (pv 0) pe_int (fun _ _ => rfl)) pa_nil)) (pe_callTy call_list_of (by rfl) B.list PyProof.Rows.boot_list (pa_cons (pe_slice sl_tup (pv 0) (po_some pe_int) po_none) pa_nil))) (pe_callTy call_list_of (by rfl) B.list PyProof.Rows.boot_list (pa_cons (pe_ix ix_tup (pv 0) pe_int (fun _ _ => rfl)) pa_nil))))) pss_nil)
      (pss_one (ps_ret (pe_join pe_str (pe_lc (own := [("_law_word", 2)]) (g := gName 2) (tt := tYes) (te := tCB (fun xs H Q => (∃ i : Int, xs = [.int i] ∧ i.natAbs.log2 < 1920 ∧ Q (.str (toString i)) H) ∨ ∃ a, xs = [.str a] ∧ Q (.str a) H) (tCons (tVar 2) tNil)) rfl scRT.nd (pi_list (pv 1)) (blkOk_by (own := [("_law_word", 2)]) (N := nRT) (sc := defScope sRowText) (by decide +kernel)) (fun _ _ _ _ _ => (pg_name (i := 2) scRT.nd rfl (.inl rfl))) (fun _ _ _ _ _ => pts_nil) (fun _ _ _ _ _ => pe_callTy call_strAny (by rfl) B.str PyProof.Rows.boot_str (pa_cons (pv 2) pa_nil)))))))))), ?_⟩
    have hpl := hT.pl
    have hI : ∀ ns : List Nat, (nI ns).length = ns.length := fun ns => List.length_map _
    -- two lists joined
    have cat2 : ∀ {Hx : Hp} {a b : Addr} {xs ys : List V} {R : V → Hp → Prop}, Hx a = some (.lst xs) → Hx b = some (.lst ys) → xs.length + ys.length ≤ 1000 → (∀ W, Hx W = none → R (.ref W) (upd Hx W (.lst (xs ++ ys)))) → rCat (.ref a) (.ref b) Hx R := fun {Hx a b xs ys R} ha hb hz h => ⟨a, b, xs, ys, rfl, rfl, ha, hb, szl (by omega), h⟩
    refine ⟨.ref p, rfl, p, _, _, _, rfl, rfl, hp, atI_nat (j := 0) rfl, szl (show 1 ≤ 1000000 by decide), fun l1 n1 => ?_⟩
    have w1 := new_same (o := .lst [.str wd]) n1
    have u1 : upd H l1 (.lst [.str wd]) l1 = some (.lst [.str wd]) := upd_same
    generalize upd H l1 (.lst [.str wd]) = H1 at w1 u1
    refine ⟨.ref p, rfl, 1, rfl, p, _, rfl, Same.tup w1 hp, cut_not _ _, fun R nR => ?_⟩
    rw [cut_one]
    have w2 := new_same (o := .tup pts) nR
    have u2 : upd H1 R (.tup pts) R = some (.tup pts) := upd_same
    have u1a := w2 _ _ u1
    have s2 := w1.trans w2
    generalize upd H1 R (.tup pts) = H2 at w2 u2 u1a s2
    refine ⟨R, _, rfl, .inr (sqT u2), fun l3 n3 => ?_⟩
    have w3 := new_same (o := .lst pts) n3
    have u3 : upd H2 l3 (.lst pts) l3 = some (.lst pts) := upd_same
    have u1b := w3 _ _ u1a
    have s3 := s2.trans w3
    generalize upd H2 l3 (.lst pts) = H3 at w3 u3 u1b s3
    refine cat2 u1b u3 (by simp; omega) fun W nW => ?_
    have w4 := new_same (o := .lst ([.str wd] ++ pts)) nW
    have s4 := s3.trans w4
    have u4 : upd H3 W (.lst ([.str wd] ++ pts)) W = some (.lst (.str wd :: pts)) := upd_same
    generalize upd H3 W (.lst ([.str wd] ++ pts)) = H4 at w4 s4 u4
    -- pick
    refine ⟨fun σ Hx => ∃ (W : Addr) (cur : List V), σ = [some (.ref p), some (.ref W), none] ∧ Same H Hx ∧ Hx W = some (.lst cur) ∧ (isPk wd = true → cur = .str wd :: nums.map V.int) ∧ (isPk wd = false → cur = .str wd :: pts), ?_, fun σ Hx hM => ?_⟩
    · refine ⟨.ref p, rfl, p, _, _, _, rfl, rfl, Same.tup s4 hp, atI_nat (j := 0) rfl, rfl, _, rfl, ?_⟩
      show if isPk wd = true then _ else _
      refine ite2 (fun e => ?_) (fun e => ⟨W, _, rfl, s4, u4, fun z => absurd z e, fun _ => rfl⟩)
      obtain ⟨x, qa, ps, rfl, hq, hps, hnu⟩ := hT.hP e
      refine ⟨.ref p, rfl, p, _, _, _, rfl, rfl, Same.tup s4 hp, atI_nat (j := 0) rfl, .ref p, rfl, p, _, _, _, rfl, rfl, Same.tup s4 hp, atI_nat (j := 1) rfl, szl (show 2 ≤ 1000000 by decide), fun a1 m1 => ?_⟩
      have v1 := new_same (o := .lst [.str wd, iv x]) m1
      have t1 : upd H4 a1 (.lst [.str wd, iv x]) a1 = some (.lst [.str wd, iv x]) := upd_same
      have s5 := s4.trans v1
      generalize upd H4 a1 (.lst [.str wd, iv x]) = H5 at v1 t1 s5
      refine ⟨.ref p, rfl, p, _, _, .ref qa, rfl, rfl, Same.tup s5 hp, atI_nat (j := 2) rfl, qa, _, rfl, .inr (Same.tup s5 hq), fun a2 m2 => ?_⟩
      have v2 := new_same (o := .lst (ps.map iv)) m2
      have t2 : upd H5 a2 (.lst (ps.map iv)) a2 = some (.lst (ps.map iv)) := upd_same
      have t1a := v2 _ _ t1
      have s6 := s5.trans v2
      generalize upd H5 a2 (.lst (ps.map iv)) = H6 at v2 t2 t1a s6
      refine cat2 t1a t2 (by simp; omega) fun W2 nW2 => ?_
      refine ⟨W2, _, rfl, s6.trans (new_same nW2), upd_same, fun _ => ?_, fun z => by rw [e] at z; cases z⟩
      rw [hnu, List.map_cons, nI_iv]
      rfl
    obtain ⟨W, cur, rfl, s5, u5, c1, c2⟩ := hM
    clear s4 u4 w4 nW s3 u3 u1b s2 u2 u1a
    -- meet
    refine ⟨fun σ Hx => ∃ (W : Addr) (cur : List V), σ = [some (.ref p), some (.ref W), none] ∧ Same H Hx ∧ Hx W = some (.lst cur) ∧ (isPk wd = true ∨ isMt wd = true → cur = .str wd :: nums.map V.int) ∧ (isPk wd = false → isMt wd = false → cur = .str wd :: pts), ?_, fun σ Hx hM => ?_⟩
    · refine ⟨.ref p, rfl, p, _, _, _, rfl, rfl, Same.tup s5 hp, atI_nat (j := 0) rfl, rfl, _, rfl, ?_⟩
      show if isMt wd = true then _ else _
      refine ite2 (fun e => ?_) (fun e => ⟨W, cur, rfl, s5, u5, fun z => z.elim c1 (fun z => absurd z e), fun z _ => c2 z⟩)
      obtain ⟨qa, ps, rfl, hq, hps, hnu⟩ := hT.hM e
      refine ⟨.ref p, rfl, p, _, _, _, rfl, rfl, Same.tup s5 hp, atI_nat (j := 0) rfl, szl (show 1 ≤ 1000000 by decide), fun a1 m1 => ?_⟩
      have v1 := new_same (o := .lst [.str wd]) m1
      have t1 : upd Hx a1 (.lst [.str wd]) a1 = some (.lst [.str wd]) := upd_same
      have s6 := s5.trans v1
      generalize upd Hx a1 (.lst [.str wd]) = H5 at v1 t1 s6
      refine ⟨.ref p, rfl, p, _, _, .ref qa, rfl, rfl, Same.tup s6 hp, atI_nat (j := 1) rfl, qa, _, rfl, .inr (Same.tup s6 hq), fun a2 m2 => ?_⟩
      have v2 := new_same (o := .lst (ps.map iv)) m2
      have t2 : upd H5 a2 (.lst (ps.map iv)) a2 = some (.lst (ps.map iv)) := upd_same
      have t1a := v2 _ _ t1
      have s7 := s6.trans v2
      generalize upd H5 a2 (.lst (ps.map iv)) = H6 at v2 t2 t1a s7
      refine cat2 t1a t2 (by simp; omega) fun W2 nW2 => ?_
      refine ⟨W2, _, rfl, s7.trans (new_same nW2), upd_same, fun _ => ?_, fun _ z => by rw [e] at z; cases z⟩
      rw [hnu, nI_iv]
      rfl
    obtain ⟨W, cur, rfl, s5, u5, c1, c2⟩ := hM
    -- look, lay
    refine ⟨fun σ Hx => ∃ W : Addr, σ = [some (.ref p), some (.ref W), none] ∧ Same H Hx ∧ Hx W = some (.lst (.str wd :: nums.map V.int)), ?_, fun σ Hx hM => ?_⟩
    · refine ⟨.ref p, rfl, p, _, _, _, rfl, rfl, Same.tup s5 hp, atI_nat (j := 0) rfl, szl (show 2 ≤ 1000000 by decide), fun T nT' => ?_⟩
      have v0 := new_same (o := .tup [.str "look", .str "lay"]) nT'
      have t0 : upd Hx T (.tup [.str "look", .str "lay"]) T = some (.tup [.str "look", .str "lay"]) := upd_same
      have s6 := s5.trans v0
      have u6 := v0 _ _ u5
      generalize upd Hx T (.tup [.str "look", .str "lay"]) = Ha at v0 t0 s6 u6
      refine ⟨T, _, rfl, .inr (sqT t0), rfl, rfl, _, rfl, ?_⟩
      show if isRm wd = true then _ else _
      refine ite2 (fun e => ?_) (fun e => ?_)
      · obtain ⟨qa, rs, rest, rfl, hq, hrs, hre, hnu⟩ := hT.hR e
        refine ⟨.ref p, rfl, p, _, _, _, rfl, rfl, Same.tup s6 hp, atI_nat (j := 0) rfl, szl (show 1 ≤ 1000000 by decide), fun a1 m1 => ?_⟩
        have v1 := new_same (o := .lst [.str wd]) m1
        have t1 : upd Ha a1 (.lst [.str wd]) a1 = some (.lst [.str wd]) := upd_same
        have s7 := s6.trans v1
        generalize upd Ha a1 (.lst [.str wd]) = H5 at v1 t1 s7
        refine ⟨.ref p, rfl, 2, rfl, p, _, rfl, Same.tup s7 hp, cut_not2 _ _, fun R2 nR2 => ?_⟩
        rw [cut_two]
        have v2 := new_same (o := .tup (rest.map iv)) nR2
        have t2 : upd H5 R2 (.tup (rest.map iv)) R2 = some (.tup (rest.map iv)) := upd_same
        have t1a := v2 _ _ t1
        have s8 := s7.trans v2
        generalize upd H5 R2 (.tup (rest.map iv)) = H6 at v2 t2 t1a s8
        refine ⟨R2, _, rfl, .inr (sqT t2), fun a3 m3 => ?_⟩
        have v3 := new_same (o := .lst (rest.map iv)) m3
        have t3 : upd H6 a3 (.lst (rest.map iv)) a3 = some (.lst (rest.map iv)) := upd_same
        have t1b := v3 _ _ t1a
        have s9 := s8.trans v3
        generalize upd H6 a3 (.lst (rest.map iv)) = H7 at v3 t3 t1b s9
        refine cat2 t1b t3 (by simp; omega) fun a4 m4 => ?_
        have v4 := new_same (o := .lst ([.str wd] ++ rest.map iv)) m4
        have t4 : upd H7 a4 (.lst ([.str wd] ++ rest.map iv)) a4 = some (.lst ([.str wd] ++ rest.map iv)) := upd_same
        have sA := s9.trans v4
        generalize upd H7 a4 (.lst ([.str wd] ++ rest.map iv)) = H8 at v4 t4 sA
        refine ⟨.ref p, rfl, p, _, _, .ref qa, rfl, rfl, Same.tup sA hp, atI_nat (j := 1) rfl, qa, _, rfl, .inr (Same.tup sA hq), fun a5 m5 => ?_⟩
        have v5 := new_same (o := .lst (rs.map iv)) m5
        have t5 : upd H8 a5 (.lst (rs.map iv)) a5 = some (.lst (rs.map iv)) := upd_same
        have t4a := v5 _ _ t4
        have sB := sA.trans v5
        generalize upd H8 a5 (.lst (rs.map iv)) = H9 at v5 t5 t4a sB
        refine cat2 t4a t5 (by simp; omega) fun W2 nW2 => ?_
        refine ⟨W2, rfl, sB.trans (new_same nW2), ?_⟩
        rw [upd_same, hnu, List.map_append, nI_iv, nI_iv]
        rfl
      · refine ⟨W, rfl, s6, ?_⟩
        have hcur : cur = .str wd :: nums.map V.int := by
          cases h1 : isPk wd with
          | true => exact c1 (.inl h1)
          | false =>
            cases h2 : isMt wd with
            | true => exact c1 (.inr h2)
            | false =>
              have h3 : isRm wd = false := by
                cases h3 : isRm wd with
                | true => exact absurd h3 e
                | false => rfl
              rw [c2 h1 h2, hT.hN h1 h2 h3]
        rw [← hcur]
        exact u6
    obtain ⟨W, rfl, s6, u6⟩ := hM
    refine ⟨⟨_, rfl⟩, .ref W, rfl, W, rfl, ⟨_, sqL u6⟩, fun M nM => ?_⟩
    have hnl := hT.nl
    refine lc_list (K := K) (a := W) (xs := .str wd :: nums.map V.int) (fun i Hz => Same Hx Hz ∧ Hz M = some (.lst (((wd :: nums.map nT).take i).map V.str))) ⟨new_same nM, upd_same⟩ (fun i Hz _ hP => sqL (hP.1 _ _ u6)) (fun i x Hz hx hP => ?_) (fun Hz hP => ?_)
    · obtain ⟨sz, eM⟩ := hP
      have hil := (List.getElem?_eq_some_iff.mp hx).1
      have hil : i < nums.length + 1 := by simpa using hil
      have fin : ∀ a : Str, (wd :: nums.map nT)[i]? = some a → ∃ acc, Hz M = some (.lst acc) ∧ acc.length < sizeLine ∧ (Same Hx (upd Hz M (.lst (acc ++ [.str a]))) ∧ upd Hz M (.lst (acc ++ [.str a])) M = some (.lst (((wd :: nums.map nT).take (i + 1)).map V.str))) := fun a ha => by
        refine ⟨_, eM, by rw [List.length_map, List.length_take]; exact szt (by omega), fun b o w => ?_, ?_⟩
        · rw [upd_ne (ne_of_none w nM)]
          exact sz _ _ w
        · rw [upd_same, List.take_add_one, ha, List.map_append]
          rfl
      cases i with
      | zero =>
        cases hx
        exact ⟨rfl, .str wd, rfl, .inr ⟨wd, rfl, fin wd rfl⟩⟩
      | succ j =>
        have hx : (nums.map V.int)[j]? = some x := by simpa using hx
        rw [List.getElem?_map] at hx
        obtain ⟨z, hz, rfl⟩ := Option.map_eq_some_iff.mp hx
        exact ⟨rfl, .int z, rfl, .inl ⟨z, rfl, num_log (hT.nb z (List.mem_of_getElem? hz)), fin (nT z) (by rw [List.getElem?_cons_succ, List.getElem?_map, hz]; rfl)⟩⟩
    · obtain ⟨sz, eM⟩ := hP
      rw [show (V.str wd :: nums.map V.int).length = (wd :: nums.map nT).length by simp, List.take_length] at eM
      exact ⟨" ", M, wd :: nums.map nT, rfl, rfl, .inl (sqL eM), (join_ok hT.wl hT.nb hnl).1, q _ (s6.trans sz)⟩
end
end Gn
set_option Elab.async false
set_option linter.all false
set_option maxRecDepth 100000
set_option maxHeartbeats 8000000
set_option pp.maxSteps 300
namespace Gn
open PySem PySem.Spec PyProof.Rows L2
def spTextRows (K : PySem.W.Frag) : Sp := fun vs H Q _ => ∃ (v : V) (pr : List Blk), vs = [v] ∧ ProgAt K H v pr ∧ pr.length ≤ 7 ∧ (∀ b ∈ pr, BlkB 7 1000 b) ∧ ∀ (F : Addr) (H' : Hp), Same H H' → H' F = some (.lst ((lines pr).map V.str)) → Q (.ref F) H'
abbrev nTR : List Str := ["_law_program_here", "_law_found", "_law_rows", "_law_end", "_law_row"]
theorem scTR : FnScope nTR ["_law_program_here"] (defScope sTextRows) := ⟨rfl, rfl, rfl, by decide +kernel, rfl, by decide +kernel, by decide +kernel⟩
section
variable {P : Program} {w : World} {K : PySem.W.Frag} {mg : Str → Option Value} {base : Heap}
theorem ok_textRows {f fR : Addr} {fd fdR : FuncData} {k : Nat} (D : Df K mg "_law_text_rows" sTextRows ["_law_program_here"] f fd) (B : Bi mg) (DR : Df K mg "_law_row_text" sRowText ["_law_row"] fR fdR) (GR : FnOk P w K mg base CX0 k fR fdR ["_law_row"] (spRowText K)) : FnOk P w K mg base CX0 (k + 1) f fd ["_law_program_here"] (spTextRows K) := by
  refine D.F.ok scTR (fun vs H Q E h => ?_) (fun cdv A outer s H vs Q E hr h => ?_)
  · obtain ⟨v, pr, rfl, _⟩ := h
    rfl
  · obtain ⟨v, pr, rfl, ⟨p, bs, rfl, hp, hbs⟩, hl, hb, q⟩ := h
    refine ⟨_, (pss_cons (ps_set (i := 1) scTR.nd rfl (.inl rfl) (pe_lst pa_nil))
      (pss_cons (ps_for PassesOwn.never rfl (pi_list (pv 0)) (pg_tup rfl (pgs_cons (pg_name (i := 2) scTR.nd rfl (.inl rfl)) (pgs_cons (pg_name (i := 3) scTR.nd rfl (.inl rfl)) pgs_nil))) (pss_one (ps_set (i := 1) scTR.nd rfl (.inl rfl) (pe_op op_cat (pe_op op_cat (pv 1) (pe_lst (pa_cons pe_str pa_nil))) (pe_lc (own := [("_law_row", 4)]) (g := gName 4) (tt := tYes) (te := tCall (spRowText K) [] E0 (tCons (tVar 4) tNil)) rfl scTR.nd (pi_list (pe_op op_cat (pv 2) (pe_lst (pa_cons (pv 3) pa_nil)))) (blkOk_by (own := [("_law_row", 4)]) (N := nTR) (sc := defScope sTextRows) (by decide +kernel)) (fun _ _ _ _ _ => (pg_name (i := 4) scTR.nd rfl (.inl rfl))) (fun _ _ _ _ _ => pts_nil) (fun _ _ _ _ _ => (pe_call GR hr (by rfl) DR.g DR.F.kp DR.b .nil pass0 (pa_cons (pv 4) pa_nil))))))))
      (pss_one (ps_ret (pv 1))))), ?_⟩
    refine ⟨Nat.zero_le _, fun F nF => ?_⟩
    have s0 := new_same (o := .lst []) nF
    have e0 : upd H F (.lst []) F = some (.lst (([] : List Str).map V.str)) := upd_same
    generalize upd H F (.lst []) = H0 at s0 e0
    have hbl : bs.length = pr.length := pd_len hbs
    refine ⟨.ref p, rfl, p, rfl, ⟨_, s0.seq hp⟩, ?_⟩
    refine for_list (K := K) (a := p) (xs := bs) (fun i σ H1 => ∃ (F : Addr) (y2 y3 : Option V), σ = [some (.ref p), some (.ref F), y2, y3, none] ∧ Same H H1 ∧ H1 F = some (.lst ((lines (pr.take i)).map V.str))) ⟨F, none, none, rfl, s0, e0⟩ (fun i σ H1 _ hP => ?_) (fun i x σ H1 hx hP => ?_) (fun σ H1 hP => ?_)
    · obtain ⟨_, _, _, _, s1, _⟩ := hP
      exact s1.seq hp
    · obtain ⟨F, y2, y3, rfl, s1, eF⟩ := hP
      have hil := (List.getElem?_eq_some_iff.mp hx).1
      obtain ⟨b, hb1, pb, ra, ea, vs, rfl, k2, k3, k4, k5⟩ := pd_at2 hbs hx
      obtain ⟨hB1, hB2, hB3⟩ := hb b (List.mem_of_getElem? hb1)
      have hlt := lines_take_len (i := i) hl hb
      have hvl : vs.length = b.1.length := pd_len k4
      refine ⟨pb, _, rfl, Same.tup s1 k2, rfl, _, _, rfl, _, _, rfl, rfl, ?_⟩
      refine ⟨.ref F, rfl, szl (show 1 ≤ 1000000 by decide), fun l1 n1 => ?_⟩
      have w1 := new_same (o := .lst [.str "block"]) n1
      have u1 : upd H1 l1 (.lst [.str "block"]) l1 = some (.lst [.str "block"]) := upd_same
      have s2 := s1.trans w1
      have eF2 := w1 _ _ eF
      generalize upd H1 l1 (.lst [.str "block"]) = H2 at w1 u1 s2 eF2
      refine ⟨F, l1, _, _, rfl, rfl, eF2, u1, by rw [List.length_map]; exact szl (by simp; omega), fun F2 nF2 => ?_⟩
      have w2 := new_same (o := .lst ((lines (pr.take i)).map V.str ++ [.str "block"])) nF2
      have u2 : upd H2 F2 (.lst ((lines (pr.take i)).map V.str ++ [.str "block"])) F2 = some (.lst ((lines (pr.take i)).map V.str ++ [.str "block"])) := upd_same
      have s3 := s2.trans w2
      generalize upd H2 F2 (.lst ((lines (pr.take i)).map V.str ++ [.str "block"])) = H3 at w2 u2 s3
      refine ⟨.ref ra, rfl, ea, rfl, szl (show 1 ≤ 1000000 by decide), fun l3 n3 => ?_⟩
      have w3 := new_same (o := .lst [ea]) n3
      have u3 : upd H3 l3 (.lst [ea]) l3 = some (.lst [ea]) := upd_same
      have s4 := s3.trans w3
      have u2a := w3 _ _ u2
      generalize upd H3 l3 (.lst [ea]) = H4 at w3 u3 s4 u2a
      refine ⟨ra, l3, _, _, rfl, rfl, s4 _ _ k3, u3, szl (by simp; omega), fun l4 n4 => ?_⟩
      have w4 := new_same (o := .lst (vs ++ [ea])) n4
      have u4 : upd H4 l4 (.lst (vs ++ [ea])) l4 = some (.lst (vs ++ [ea])) := upd_same
      have s5 := s4.trans w4
      have u2b := w4 _ _ u2a
      generalize upd H4 l4 (.lst (vs ++ [ea])) = H5 at w4 u4 s5 u2b
      refine ⟨l4, rfl, ⟨_, sqL u4⟩, fun M nM => ?_⟩
      have hll : (b.1.map Rw.text ++ [b.2.text]).length = b.1.length + 1 := by rw [List.length_append, List.length_map]; rfl
      refine lc_list (K := K) (a := l4) (xs := vs ++ [ea]) (fun j H6 => Same H5 H6 ∧ H6 M = some (.lst (((b.1.map Rw.text ++ [b.2.text]).take j).map V.str))) ⟨new_same nM, upd_same⟩ (fun j H6 _ hP => sqL (hP.1 _ _ u4)) (fun j x H6 hx2 hP => ?_) (fun H6 hP => ?_)
      · obtain ⟨s6, eM⟩ := hP
        have hjl := (List.getElem?_eq_some_iff.mp hx2).1
        have hjl : j < vs.length + 1 := by simpa using hjl
        have s56 := s5.trans s6
        have fin : ∀ (a : Str) (H7 : Hp), Same H6 H7 → (b.1.map Rw.text ++ [b.2.text])[j]? = some a → ∃ acc, H7 M = some (.lst acc) ∧ acc.length < sizeLine ∧ (Same H5 (upd H7 M (.lst (acc ++ [.str a]))) ∧ upd H7 M (.lst (acc ++ [.str a])) M = some (.lst (((b.1.map Rw.text ++ [b.2.text]).take (j + 1)).map V.str))) := fun a H7 s7 ha => by
          refine ⟨_, s7 _ _ eM, by rw [List.length_map, List.length_take]; exact szt (by omega), fun c o w => ?_, ?_⟩
          · rw [upd_ne (ne_of_none w nM)]
            exact s7 _ _ (s6 _ _ w)
          · rw [upd_same, List.take_add_one, ha, List.map_append]
            rfl
        by_cases hj : j < vs.length
        · rw [List.getElem?_append_left hj] at hx2
          obtain ⟨r, hr1, hr2⟩ := pd_at2 k4 hx2
          obtain ⟨z, zs, rfl, hz, hzr⟩ := hr2.same s56
          exact ⟨rfl, .ref z, rfl, z, r.w, zs, r.nums, rfl, hz, row_tx hzr (hB2 r (List.mem_of_getElem? hr1)), fun H7 s7 => fin r.text H7 s7 (by rw [List.getElem?_append_left (by rw [List.length_map]; omega), List.getElem?_map, hr1]; rfl)⟩
        · have hj : j = vs.length := by omega
          subst hj
          rw [List.getElem?_append_right (Nat.le_refl _), Nat.sub_self] at hx2
          have hx2 : some ea = some x := hx2
          cases hx2
          obtain ⟨z, hze, hz⟩ := (k5.same s56).at
          subst hze
          exact ⟨rfl, .ref z, rfl, z, b.2.word, b.2.parts, b.2.nums, rfl, hz, end_tx hB3, fun H7 s7 => fin b.2.text H7 s7 (by rw [List.getElem?_append_right (by rw [List.length_map]; omega), List.length_map, hvl, Nat.sub_self]; rfl)⟩
      · obtain ⟨s6, eM⟩ := hP
        have hfull : (b.1.map Rw.text ++ [b.2.text]).take (vs ++ [ea]).length = b.1.map Rw.text ++ [b.2.text] := List.take_of_length_le (by rw [hll, List.length_append]; simp; omega)
        rw [hfull] at eM
        refine ⟨F2, M, _, _, rfl, rfl, s6 _ _ u2b, eM, by rw [List.length_map, hll, List.length_append, List.length_map]; exact szl (by simp; omega), fun F3 nF3 => ?_⟩
        refine ⟨F3, _, _, rfl, (s5.trans s6).trans (new_same nF3), ?_⟩
        rw [upd_same, lines_take hb1]
        unfold blkLines
        simp only [List.map_append, List.map_cons, List.append_assoc]
        rfl
    · obtain ⟨F, y2, y3, rfl, s1, eF⟩ := hP
      rw [hbl, List.take_length] at eF
      exact ⟨.ref F, rfl, q F H1 s1 eF⟩
end
end Gn
set_option Elab.async false
set_option linter.all false
set_option maxRecDepth 100000
set_option maxHeartbeats 4000000
namespace Gn
open PySem PySem.Spec PyProof.Rows L2
def Rw.rdata : Rw → List PyData
  | .take i => [nd i]
  | .num n => [.int n]
  | .bin _ x y => [nd x, nd y]
  | .pick x ps => [nd x, .tuple (ps.map nd)]
  | .meet ps => [.tuple (ps.map nd)]
  | .tell x => [nd x]
  | .look rs x => [.tuple (rs.map nd), nd x]
  | .lay rs x y => [.tuple (rs.map nd), nd x, nd y]
theorem data_eq (r : Rw) : r.data = .tuple (.str r.w :: r.rdata) := by cases r <;> rfl
structure Nice (B : Nat) (d : PyData) (k W : Nat) : Prop where
  lay : d.canLay0 = true
  dep : d.depth ≤ k
  sho : d.showable = true
  sht : d.intsShort B = true
  wt : d.weight ≤ W
theorem Nice.mono {B : Nat} {d : PyData} {k W k' W' : Nat} (h : Nice B d k W) (a : k ≤ k') (b : W ≤ W') : Nice B d k' W' := ⟨h.lay, Nat.le_trans h.dep a, h.sho, h.sht, Nat.le_trans h.wt b⟩
theorem niceAll {B k W : Nat} : ∀ {ds : List PyData}, (∀ d ∈ ds, Nice B d k W) → PyData.canLayAll0 ds = true ∧ PyData.depthAll ds ≤ k ∧ PyData.showableAll ds = true ∧ PyData.intsShortAll B ds = true ∧ PyData.weightAll ds ≤ ds.length * (W + 1)
  | [], _ => by simp [PyData.canLayAll0, PyData.depthAll, PyData.showableAll, PyData.intsShortAll, PyData.weightAll]
  | d :: ds, h => by
    obtain ⟨h1, h2, h3, h4, h5⟩ := niceAll (ds := ds) fun x hx => h x (List.mem_cons_of_mem _ hx)
    have n := h d List.mem_cons_self
    refine ⟨?_, ?_, ?_, ?_, ?_⟩
    · simp only [PyData.canLayAll0, n.lay, h1, Bool.and_self]
    · simp only [PyData.depthAll]
      have := n.dep
      omega
    · simp only [PyData.showableAll, n.sho, h3, Bool.and_self]
    · simp only [PyData.intsShortAll, n.sht, h4, Bool.and_self]
    · simp only [PyData.weightAll, List.length_cons]
      have := n.wt
      rw [Nat.succ_mul]
      omega
theorem nice_list {B k W : Nat} {ds : List PyData} (h : ∀ d ∈ ds, Nice B d k W) : Nice B (.list ds) (k + 1) (ds.length * (W + 1)) := by
  obtain ⟨h1, h2, h3, h4, h5⟩ := niceAll h
  refine ⟨by simp only [PyData.canLay0, h1], by simp only [PyData.depth]; omega, by simp only [PyData.showable, h3], by simp only [PyData.intsShort, h4], by simp only [PyData.weight]; exact h5⟩
theorem nice_tup {B k W : Nat} {ds : List PyData} (h : ∀ d ∈ ds, Nice B d k W) : Nice B (.tuple ds) (k + 1) (ds.length * (W + 1)) := by
  obtain ⟨h1, h2, h3, h4, h5⟩ := niceAll h
  refine ⟨by simp only [PyData.canLay0, h1], by simp only [PyData.depth]; omega, by simp only [PyData.showable, h3], by simp only [PyData.intsShort, h4], by simp only [PyData.weight]; exact h5⟩
theorem nice_num {z : Int} (h : NumB z) : Nice 14 (.int z) 0 41 := by
  have h1 := h.1
  have h2 := h.2
  have hs : (PyData.shown (.int z)).length ≤ 14 := nT_len h
  have hl : z.natAbs.log2 < 41 := by
    by_cases e : z.natAbs = 0
    · rw [e]; decide
    · exact (Nat.log2_lt e).mpr (by omega)
  refine ⟨by simp only [PyData.canLay0], by simp only [PyData.depth]; omega, ?_, ?_, ?_⟩
  · simp only [PyData.showable, decide_eq_true_eq]; omega
  · simp only [PyData.intsShort, decide_eq_true_eq]; exact hs
  · simp only [PyData.weight]
    split <;> omega
theorem nice_nat {n : Nat} (h : n < 256) : Nice 14 (nd n) 0 8 := by
  have a := nice_num (z := (n : Int)) ⟨by omega, by omega⟩
  refine ⟨a.lay, a.dep, a.sho, a.sht, ?_⟩
  have hl : (n : Int).natAbs.log2 < 8 := by
    rw [Int.natAbs_natCast]
    by_cases e : n = 0
    · rw [e]; decide
    · exact (Nat.log2_lt e).mpr (by omega)
  simp only [nd, PyData.weight]
  split <;> omega
theorem nice_str {B : Nat} {s : Str} (h1 : PyData.strOk s = true) (h2 : s.cps.size ≤ 8) : Nice B (.str s) 0 8 :=
  ⟨by simp only [PyData.canLay0, h1], by simp only [PyData.depth]; omega, by simp only [PyData.showable], by simp only [PyData.intsShort], by simp only [PyData.weight]; exact h2⟩
theorem nice_nats {ns : List Nat} (h : ∀ n ∈ ns, n < 256) : ∀ d ∈ ns.map nd, Nice 14 d 0 8 := fun d hd => by
  obtain ⟨n, hn, rfl⟩ := List.mem_map.mp hd
  exact nice_nat (h n hn)
theorem bkw_nice (b : Bk) : Nice 14 (.str b.w) 0 8 := by
  cases b <;> exact nice_str (by decide +kernel) (by decide +kernel)
theorem word_nice (r : Rw) : Nice 14 (.str r.w) 0 8 := by
  cases r with
  | bin b x y => exact bkw_nice b
  | take _ => exact nice_str (s := "take") (by decide +kernel) (by decide +kernel)
  | num _ => exact nice_str (s := "num") (by decide +kernel) (by decide +kernel)
  | pick _ _ => exact nice_str (s := "pick") (by decide +kernel) (by decide +kernel)
  | meet _ => exact nice_str (s := "meet") (by decide +kernel) (by decide +kernel)
  | tell _ => exact nice_str (s := "tell") (by decide +kernel) (by decide +kernel)
  | look _ _ => exact nice_str (s := "look") (by decide +kernel) (by decide +kernel)
  | lay _ _ _ => exact nice_str (s := "lay") (by decide +kernel) (by decide +kernel)
theorem row_nice {r : Rw} (h : RwA (· < 100) r) : Nice 14 r.data 2 500 := by
  rw [data_eq]
  have hw := (word_nice r).mono (show 0 ≤ 1 by decide) (show 8 ≤ 108 by decide)
  have nn : ∀ {n : Nat}, n < 100 → Nice 14 (nd n) 1 108 := fun h => (nice_nat (Nat.lt_of_lt_of_le h (by decide))).mono (by decide) (by decide)
  have tt : ∀ {ps : List Nat}, (∀ y ∈ ps, y < 100) → ps.length ≤ 12 → Nice 14 (.tuple (ps.map nd)) 1 108 := fun {ps} h1 h2 => by
    have := nice_tup (nice_nats fun n hn => Nat.lt_of_lt_of_le (h1 n hn) (show 100 ≤ 256 by decide))
    rw [List.length_map] at this
    exact this.mono (Nat.le_refl _) (by omega)
  have key : (∀ d ∈ r.rdata, Nice 14 d 1 108) ∧ r.rdata.length ≤ 3 := by
    cases r with
    | take i =>
      refine ⟨fun d hd => ?_, show 1 ≤ 3 by decide⟩
      rw [List.mem_singleton.mp hd]
      have h : i < 6 := h
      exact nn (by omega)
    | num z =>
      refine ⟨fun d hd => ?_, show 1 ≤ 3 by decide⟩
      rw [List.mem_singleton.mp hd]
      exact (nice_num h).mono (by decide) (by decide)
    | bin b x y =>
      refine ⟨fun d hd => ?_, show 2 ≤ 3 by decide⟩
      have hd2 : d = nd x ∨ d = nd y := by simpa [Rw.rdata] using hd
      rcases hd2 with rfl | rfl
      · exact nn h.1
      · exact nn h.2
    | pick x ps =>
      refine ⟨fun d hd => ?_, show 2 ≤ 3 by decide⟩
      have hd2 : d = nd x ∨ d = .tuple (ps.map nd) := by simpa [Rw.rdata] using hd
      rcases hd2 with rfl | rfl
      · exact nn h.1
      · exact tt h.2.1 (Nat.le_trans h.2.2.2 (by decide))
    | meet ps =>
      refine ⟨fun d hd => ?_, show 1 ≤ 3 by decide⟩
      rw [List.mem_singleton.mp hd]
      exact tt h.1 (Nat.le_trans h.2.2 (by decide))
    | tell x =>
      refine ⟨fun d hd => ?_, show 1 ≤ 3 by decide⟩
      rw [List.mem_singleton.mp hd]
      exact nn h
    | look rs x =>
      refine ⟨fun d hd => ?_, show 2 ≤ 3 by decide⟩
      have hd2 : d = .tuple (rs.map nd) ∨ d = nd x := by simpa [Rw.rdata] using hd
      rcases hd2 with rfl | rfl
      · exact tt (fun y hy => Nat.lt_trans (h.2.2.1 y hy) (by decide)) (Nat.le_trans h.2.2.2.2 (by decide))
      · exact nn h.1
    | lay rs x y =>
      refine ⟨fun d hd => ?_, show 3 ≤ 3 by decide⟩
      have hd2 : d = .tuple (rs.map nd) ∨ d = nd x ∨ d = nd y := by simpa [Rw.rdata] using hd
      rcases hd2 with rfl | rfl | rfl
      · exact tt (fun y hy => Nat.lt_trans (h.2.2.2.1 y hy) (by decide)) (Nat.le_trans h.2.2.2.2.2 (by decide))
      · exact nn h.1
      · exact nn h.2.1
  have := nice_tup (ds := .str r.w :: r.rdata) (k := 1) (W := 108) fun d hd => by
    rcases List.mem_cons.mp hd with rfl | hd
    · exact hw
    · exact key.1 d hd
  refine this.mono (Nat.le_refl _) ?_
  rw [List.length_cons]
  have := key.2
  omega
def En.data : En → PyData
  | .go b => .tuple [.str "go", nd b]
  | .iff r b c => .tuple [.str "if", nd r, nd b, nd c]
  | .fin => .tuple [.str "end"]
theorem EnAt.dp {K : PySem.W.Frag} {H : Hp} {v : V} {e : En} (h : EnAt K H v e) : Dp K H v e.data := by
  cases e with
  | go b => obtain ⟨p, rfl, h⟩ := h; exact .tup h (.cons (.str _) (.cons (.int _) .nil))
  | iff r b c => obtain ⟨p, rfl, h⟩ := h; exact .tup h (.cons (.str _) (.cons (.int _) (.cons (.int _) (.cons (.int _) .nil))))
  | fin => obtain ⟨p, rfl, h⟩ := h; exact .tup h (.cons (.str _) .nil)
theorem end_nice {e : En} (h : EnB 7 100 e) : Nice 14 e.data 1 40 := by
  cases e with
  | go b =>
    refine (nice_tup (k := 0) (W := 8) fun d hd => ?_).mono (Nat.le_refl _) (show 2 * 9 ≤ 40 by decide)
    have hd2 : d = .str "go" ∨ d = nd b := by simpa using hd
    rcases hd2 with rfl | rfl
    · exact nice_str (by decide +kernel) (by decide +kernel)
    · have h : b < 7 := h
      exact nice_nat (by omega)
  | iff r b c =>
    refine (nice_tup (k := 0) (W := 8) fun d hd => ?_).mono (Nat.le_refl _) (show 4 * 9 ≤ 40 by decide)
    obtain ⟨h1, h2, h3⟩ := h
    have hd2 : d = .str "if" ∨ d = nd r ∨ d = nd b ∨ d = nd c := by simpa using hd
    rcases hd2 with rfl | rfl | rfl | rfl
    · exact nice_str (by decide +kernel) (by decide +kernel)
    · exact nice_nat (by omega)
    · exact nice_nat (by omega)
    · exact nice_nat (by omega)
  | fin =>
    refine (nice_tup (k := 0) (W := 8) fun d hd => ?_).mono (Nat.le_refl _) (show 1 * 9 ≤ 40 by decide)
    rw [List.mem_singleton.mp hd]
    exact nice_str (by decide +kernel) (by decide +kernel)
def bdata (b : Blk) : PyData := .tuple [.list (b.1.map Rw.data), b.2.data]
def pdata (pr : List Blk) : PyData := .list (pr.map bdata)
theorem BlkAt.dp {K : PySem.W.Frag} {H : Hp} {v : V} {b : Blk} (h : BlkAt K H v b) : Dp K H v (bdata b) := by
  obtain ⟨p, ra, ea, vs, rfl, h2, h3, h4, h5⟩ := h
  exact .tup h2 (.cons (.lst (sqL h3) (rows_dp h4)) (.cons h5.dp .nil))
theorem blks_dp {K : PySem.W.Frag} {H : Hp} : ∀ {vs : List V} {bs : List Blk}, Paired (BlkAt K H) vs bs → DpAll K H vs (bs.map bdata)
  | _, _, .nil => .nil
  | _, _, .cons h t => .cons h.dp (blks_dp t)
theorem ProgAt.dp {K : PySem.W.Frag} {H : Hp} {v : V} {pr : List Blk} (h : ProgAt K H v pr) : Dp K H v (pdata pr) := by
  obtain ⟨p, bs, rfl, h1, h2⟩ := h
  exact .lst h1 (blks_dp h2)
theorem prog_nice {pr : List Blk} (hl : pr.length ≤ 7) (h : ∀ b ∈ pr, BlkB 7 100 (([] : List Rw), b.2) ∧ b.1.length ≤ 110 ∧ ∀ r ∈ b.1, RwA (· < 100) r) : Nice 14 (pdata pr) 60 400000 := by
  have hb : ∀ d ∈ pr.map bdata, Nice 14 d 4 56000 := fun d hd => by
    obtain ⟨b, hb, rfl⟩ := List.mem_map.mp hd
    obtain ⟨h3, h1, h2⟩ := h b hb
    have r1 := nice_list (ds := b.1.map Rw.data) (k := 2) (W := 500) fun d hd => by
      obtain ⟨r, hr, rfl⟩ := List.mem_map.mp hd
      exact row_nice (h2 r hr)
    rw [List.length_map] at r1
    have e1 := end_nice h3.2.2
    refine ⟨?_, ?_, ?_, ?_, ?_⟩
    · have := r1.lay
      simp only [bdata, PyData.canLay0, PyData.canLayAll0] at this ⊢
      simp only [this, e1.lay, Bool.and_self]
    · have a1 := r1.dep
      have a2 := e1.dep
      simp only [bdata, PyData.depth, PyData.depthAll] at *
      omega
    · have := r1.sho
      simp only [bdata, PyData.showable, PyData.showableAll] at this ⊢
      simp only [this, e1.sho, Bool.and_self]
    · have := r1.sht
      simp only [bdata, PyData.intsShort, PyData.intsShortAll] at this ⊢
      simp only [this, e1.sht, Bool.and_self]
    · have a1 := r1.wt
      have a2 := e1.wt
      simp only [bdata, PyData.weight, PyData.weightAll] at *
      omega
  have := nice_list hb
  rw [List.length_map] at this
  refine this.mono (by decide) ?_
  have : pr.length * (56000 + 1) ≤ 7 * (56000 + 1) := Nat.mul_le_mul_right _ hl
  omega
theorem Nice.noDict {B : Nat} {d : PyData} {k W : Nat} (h : Nice B d k W) : d.hasDict = false := PyData.hasDict_of_canLay d h.lay
theorem Nice.eqv {B : Nat} {d : PyData} {k W : Nat} (h : Nice B d k W) : PyData.eqv d d = true := SeqAt.eqv_refl d h.lay
theorem Nice.shown14 {d : PyData} {W : Nat} (h : Nice 14 d 60 W) (hW : W ≤ 400000) : d.shown.length ≤ sizeLine := by
  have h1 := PyData.shown_le 14 (by decide) d (PyData.leavesShort_of_canLay0 14 d h.lay h.sht)
  have h2 := h.wt
  have h3 : (14 + 2) * d.weight + 14 ≤ (14 + 2) * 400000 + 14 := by omega
  exact Nat.le_trans h1 (Nat.le_trans h3 (by decide))
end Gn
set_option Elab.async false
set_option linter.all false
set_option maxRecDepth 100000
set_option maxHeartbeats 4000000
namespace Gn
open PySem PySem.Spec PyProof.Rows L2
/-- a def that is called by the law's own caller alone (nothing is being printed around it) -/
structure FnG (P : Program) (w : World) (K : PySem.W.Frag) (mg : Str → Option Value) (base : Heap) (f : Addr) (fd : FuncData) (ps : List Str) (sp : Sp) : Prop where
  run : ∀ (outer : List Env) (s : Shared) (H : Hp) (args : Args) (us : List Value) (vs : List V) (Q : VK) (E : XK), Env0 P w K mg base callerA outer s H → BindsTo s fd args (ps.zip us) →
    Vals vs us → sp vs H Q E → codeAny (model P w) callerA (.call (.ref f) args) (CR CX0 outer P w H s Q E) s
theorem fnG_of {P : Program} {w : World} {K : PySem.W.Frag} {mg : Str → Option Value} {base : Heap} {x qual : Str} {st : Stmt} {f : Addr} {fd : FuncData} {N ps : List Str} {sp : Sp} {k : Nat} (F : Fun K x qual st f fd) (S : FnScope N ps (defScope st))
    (hr : Room (k + 1) callerA) (len : ∀ vs H Q E, sp vs H Q E → vs.length = ps.length)
    (body : ∀ (cdv : Value) (outer : List Env) (s : Shared) (H : Hp) (vs : List V) (Q : VK) (E : XK), Room k (callerA.deeper (envOfC qual (defScope st) s.heap.objs.size f cdv)) → sp vs H Q E →
      ∃ t, PSs (cxOf CX0 P w K mg base N qual (defScope st) f cdv callerA outer s H E).nox (defBody st) t ∧ t { nx := fun _ H' => Q .non H', rt := Q } (start N vs) H) : FnG P w K mg base f fd ps sp := by
  obtain ⟨oc, od, kV, doc, pm, an, cdv, ct, osl, rfl, lk, hcd⟩ := F.ex
  refine ⟨fun outer s H args us vs Q E e0 hb rv hsp => ?_⟩
  have hl := len _ _ _ _ hsp
  have inK : K.In s.heap := e0.mod.kin.keeps fun b o z => (e0.bs b o z).1
  have lim : s.heap.NoLimit := e0.mod.nolimit.keeps fun b o z => (e0.bs b o z).1
  have kinds : ∀ y ∈ ps.zip us, (defScope st).names.lookup y.1 = some .local ∨ ((defScope st).names.lookup y.1 = some .cell ∧ ((cellsFrom (s.heap.objs.size + 1) (defScope st).names []).lookup y.1).isSome = true) := by
    rintro ⟨n, v⟩ hy
    rcases S.par n (List.of_mem_zip hy).1 with z | z
    · exact .inl z
    · exact .inr ⟨z, PySem.W.cellsFrom_some _ _ _ (.inl z)⟩
  refine codeAny_call_function hr.depth (inK _ _ lk) rfl S.co S.gen rfl (PySem.W.codeRec_of inK hcd) (hb _ _ _ _ ?_)
  refine wpAny_newFunctionEnv_cells S.kind kinds fun env he t1 x1 => ?_
  subst he
  refine ⟨lim.keeps x1.toInCall.keep, codeAny_func ?_⟩
  obtain ⟨tt, h1, h2⟩ := body cdv outer s H vs Q E (hr.deeper _) hsp
  have J : Inv (cxOf CX0 P w K mg base N qual (defScope st) f cdv callerA outer s H E) [] (start N vs) H t1 := inv_start S hr.hd e0 hl rv x1
  refine wpAny_mono (h1.nox.run [] t1 (start N vs) H _ J h2) (fun fl t2 hs => ?_) fun e t2 hs => hs
  have fin : ∀ {σ' : L2.St} {H' : Hp} {v : V} {u : Value}, Inv (cxOf CX0 P w K mg base N qual (defScope st) f cdv callerA outer s H E) [] σ' H' t2 → RelV v u → Q v H' → CE outer P w H s Q u t2 :=
    fun {σ' H' v u} j ru qv => ⟨v, H', j.os, j.bare, j.base, j.hok, ru, qv⟩
  cases fl with
  | ret u =>
    obtain ⟨v, σ', H', j, ru, qv⟩ := hs
    exact fin j ru qv
  | next =>
    obtain ⟨σ', H', j, qv⟩ := hs
    exact fin (v := V.non) (u := Value.none) j rfl qv
  | brk =>
    obtain ⟨_, _, _, z⟩ := hs
    exact z.elim
  | cont =>
    obtain ⟨_, _, _, z⟩ := hs
    exact z.elim
theorem lawG {P : Program} {w : World} {K : PySem.W.Frag} {mg mb : Str → Option Value} {fa a : Addr} {fd : FuncData} {x : Str} {sp : Sp} {t1 : Shared} {vs : List Value} {ns : List Int} (inK : K.In t1.heap) (hns : t1.heap.Ns mainGlobals mg)
    (hb : t1.heap.Ns builtinsNs mb) (hbb : ∀ x : Str, x ≠ "__name__" → mb x = bootBuiltins x) (lim : t1.heap.NoLimit) (hg : t1.gens = #[]) (ha : t1.heap.get? a = some { cls := .type "list", data := .seq vs.toArray }) (hi : IntsAre vs ns) (hl : ns.length ≤ sizeLine)
    (F : ∀ base : Heap, K.In base → base.Ns mainGlobals mg → FnG P w K mg base fa fd [x] sp) (bind : ∀ (s : Shared) (u : Value), BindsTo s fd ⟨[u], []⟩ [(x, u)])
    (hsp : ∀ H : Hp, Only H → SqL K H a (ns.map V.int) → sp [.ref a] H (fun v _ => v = .bl true) fun _ _ _ => False) :
    codeAny (model P w) callerA (.call (.ref fa) ⟨[.ref a], []⟩) (fun r t => r = .ok (.ret (.bool true)) ∧ OldK t1.heap t.heap ∧ t.os = t1.os ∧ AllBare t.gens) t1 := by
  have rv := vals_ints hi
  have lenV := hi.length
  have core : ∀ H : Hp, Only H → SqL K H a (ns.map V.int) → HOk P w H t1.heap → (∀ b, H b ≠ none → b = a) → (H a ≠ none → K.lookup a = none) →
      codeAny (model P w) callerA (.call (.ref fa) ⟨[.ref a], []⟩) (fun r t => r = .ok (.ret (.bool true)) ∧ OldK t1.heap t.heap ∧ t.os = t1.os ∧ AllBare t.gens) t1 := by
    intro H hO hS hok hA hK
    have onlyA : ∀ {b : Addr} {u : HO}, H b = some u → b = a := fun {b u} q => hA b (by rw [q]; simp)
    have noA : ∀ {b : Addr} {o : Obj} {es : Array DictEntry} {ep : Nat}, t1.heap.get? b = some o → o.data = .dict es ep → H b = none := fun {b o es ep} e d => by
      cases q : H b with
      | none => rfl
      | some u =>
        have eb := onlyA q
        subst eb
        rw [ha] at e
        cases e
        cases (show Data.seq vs.toArray _ = Data.dict es ep from d)
    have nsK : ∀ {b : Addr} {m : Str → Option Value}, t1.heap.Ns b m → (hidT t1.heap H).Ns b m := fun {b m} ⟨o, es, ep, e, d, r⟩ => ⟨o, es, ep, hidT_get e (noA e d), d, r⟩
    have inKb : K.In (hidT t1.heap H) := fun b o e => by
      refine hidT_get (inK b o e) ?_
      cases q : H b with
      | none => rfl
      | some u =>
        have eb := onlyA q
        subst eb
        rw [hK (by rw [q]; simp)] at e
        cases e
    have hM : Mod K mg (hidT t1.heap H) := ⟨inKb, nsK hns, ⟨mb, nsK hb, hbb⟩, let ⟨mc, h1, h2⟩ := lim; ⟨mc, nsK h1, h2⟩⟩
    have e0 : Env0 P w K mg (hidT t1.heap H) callerA [] t1 H := ⟨rfl, hM, fun b o e => of_hidT e, Nat.le_of_eq (hidT_size _ _), trivial, (fun b hb => absurd (show b ∈ ([] : List Addr) from hb) (by simp)), hok, .of_eq hg⟩
    refine codeAny_mono ((F _ inKb (nsK hns)).run [] t1 H ⟨[.ref a], []⟩ [.ref a] [.ref a] _ _ e0 (bind t1 (.ref a)) (.cons rfl .nil) (hsp H hO hS)) fun r t h => ?_
    cases r with
    | error e => exact False.elim h
    | ok fl =>
      cases fl with
      | ret u =>
        obtain ⟨v, H', os, bare, un, hok', r', q⟩ := h
        have q' : v = .bl true := q
        subst q'
        obtain rfl : u = Value.bool true := r'
        refine ⟨rfl, (OldK.of_keep fun b o e => ?_), os, bare⟩
        cases q : H b with
        | none => exact un.keep b o e q ((by intro z; exact absurd (show b ∈ ([] : List Addr) from z) (by simp))) (by simp)
        | some u =>
          rcases hO b with z | ⟨ob, xs, z⟩
          · rw [q] at z
            cases z
          · have z2 := un.frzs b ob _ z
            obtain ⟨e1, _⟩ := hok b _ z
            obtain ⟨e2, _⟩ := hok' b _ z2
            rw [e] at e1
            cases e1
            exact e2
      | next => exact False.elim h
      | brk => exact False.elim h
      | cont => exact False.elim h
  cases hk : K.lookup a with
  | some o =>
    have e := inK a o hk
    rw [ha] at e
    cases e
    exact core (fun _ => none) (fun _ => .inl rfl) (.inr ⟨_, vs.toArray, _, hk, rfl, rfl, rfl, by rw [List.size_toArray, lenV]; exact hl, by simpa using rv⟩) (fun b u z => by cases (show (none : Option HO) = some u from z)) (fun b z => absurd rfl z) fun z => absurd rfl z
  | none =>
    let H0 : Hp := fun b => if b = a then some (.frz { cls := .type "list", data := .seq vs.toArray } (.lst (ns.map V.int))) else none
    have h1 : ∀ b, b = a → H0 b = some (.frz { cls := .type "list", data := .seq vs.toArray } (.lst (ns.map V.int))) := fun b e => if_pos e
    have h2 : ∀ b, b ≠ a → H0 b = none := fun b e => if_neg e
    refine core H0 (fun b => ?_) (.inl (.inr ⟨_, h1 a rfl⟩)) (fun b u z => ?_) (fun b z => ?_) fun _ => hk
    · by_cases eb : b = a
      · exact .inr ⟨_, _, h1 b eb⟩
      · exact .inl (h2 b eb)
    · by_cases eb : b = a
      · rw [h1 b eb] at z
        cases z
        subst eb
        exact ⟨ha, by rw [List.length_map]; exact hl, vs, _, rv, ha⟩
      · rw [h2 b eb] at z
        cases z
    · by_cases eb : b = a
      · exact eb
      · exact absurd (h2 b eb) z
theorem walkG {l : PySem.W.OpenLaw} {n : Nat} {q : Program} {loose : List Str} {XP : (Str → Option Value) → Heap → Prop} {YP : World → Heap → Prop} {d : DefRec} {K : Params → PySem.W.Frag} {sp : World → Sp} {x : Str} (hn : l.most = some n) (hn2 : n ≤ sizeLine) (hdf : d.params.defaults = [])
    (hY : ∀ (w : World) (h : Heap), YP w h → (K w.params).In h)
    (F : ∀ (w : World) (mg : Str → Option Value) (fa : Addr) (h : Heap), (K w.params).In h → h.Ns mainGlobals mg → mg d.name = some (.ref fa) →
      ∃ fd : FuncData, (∀ (s : Shared) (u : Value), BindsTo s fd ⟨[u], []⟩ [(x, u)]) ∧ ∀ base : Heap, (K w.params).In base → base.Ns mainGlobals mg → FnG l.prog w (K w.params) mg base fa fd [x] (sp w))
    (hsp : ∀ (w : World) (H : Hp) (a : Addr) (ns : List Int), ns.length ≤ n → Only H → SqL (K w.params) H a (ns.map V.int) → sp w [.ref a] H (fun v _ => v = .bl true) fun _ _ _ => False) :
    PySem.W.WalkO q loose XP YP l.row.toRowW d [] (fun f vs => PySem.call f vs) := by
  refine Att.attach_call hn hdf fun w t0 t1 mg mb fa o pm cd doc a vs ns G Y ho hd hcd hmg hobj hints hlen hg => ?_
  have KX := hY w _ Y
  obtain ⟨fd, hb, hF⟩ := F w mg fa _ KX G.T.g hmg
  exact lawG KX G.T.g G.T.b G.T.builtins G.T.nolimit hg hobj hints (Nat.le_trans hlen hn2) hF hb fun H hO hS => hsp w H a ns hlen hO hS
end Gn
set_option Elab.async false
set_option linter.all false
set_option maxRecDepth 100000
set_option maxHeartbeats 4000000
namespace Gn
open PySem PySem.Spec PyProof.Rows L2
/-! ### rows and blocks of a program that is right by RightP -/
def Rising (xs : List Nat) : Prop := ∀ i j, i ≤ j → j < xs.length → xs.getD i 0 ≤ xs.getD j 0
theorem Rising.tail {x : Nat} {xs : List Nat} (h : Rising (x :: xs)) : Rising xs := fun i j hij hj => by
  have := h (i + 1) (j + 1) (by omega) (by rw [List.length_cons]; omega)
  simpa [List.getD_cons_succ] using this
theorem cnt_iff {j : Nat} : ∀ {xs : List Nat}, Rising xs → ∀ k, k < xs.length → (k < cntB xs j ↔ xs.getD k 0 < j)
  | [], _, k, hk => absurd hk (Nat.not_lt_zero k)
  | x :: xs, h, k, hk => by
    by_cases hx : x < j
    · have e : cntB (x :: xs) j = cntB xs j + 1 := by
        unfold cntB
        rw [List.filter_cons, if_pos (decide_eq_true hx), List.length_cons]
      rw [e]
      cases k with
      | zero => exact ⟨fun _ => hx, fun _ => Nat.succ_pos _⟩
      | succ k =>
        have ih := cnt_iff (j := j) h.tail k (by rw [List.length_cons] at hk; omega)
        rw [List.getD_cons_succ, ← ih]
        omega
    · have all : ∀ y ∈ x :: xs, ¬ y < j := fun y hy => by
        obtain ⟨i, hi, rfl⟩ := List.mem_iff_getElem.mp hy
        have h1 := h 0 i (Nat.zero_le _) hi
        rw [List.getD_eq_getElem?_getD (i := i), List.getElem?_eq_getElem hi] at h1
        have h1 : x ≤ (x :: xs)[i] := h1
        omega
      have e : cntB (x :: xs) j = 0 := by
        unfold cntB
        rw [List.filter_eq_nil_iff.mpr fun y hy => by simpa using all y hy]
        rfl
      rw [e]
      refine ⟨fun w => absurd w (Nat.not_lt_zero k), fun w => ?_⟩
      exact absurd w (all _ (List.mem_of_getElem? (gdl hk)))
theorem cnt_mono {xs : List Nat} {i j : Nat} (h : i ≤ j) : cntB xs i ≤ cntB xs j := by
  unfold cntB
  induction xs with
  | nil => exact Nat.le_refl _
  | cons x xs ih =>
    rw [List.filter_cons, List.filter_cons]
    by_cases h1 : x < i
    · rw [if_pos (decide_eq_true h1), if_pos (decide_eq_true (by omega)), List.length_cons, List.length_cons]
      omega
    · rw [if_neg (by simpa using h1)]
      by_cases h2 : x < j
      · rw [if_pos (decide_eq_true h2), List.length_cons]; omega
      · rw [if_neg (by simpa using h2)]; exact ih
theorem seg_take (rows : List Rw) (blocks : List Nat) (j : Nat) : rows.take (cntB blocks (j + 1)) = rows.take (cntB blocks j) ++ seg rows blocks j := by
  have h := cnt_mono (xs := blocks) (show j ≤ j + 1 by omega)
  have e : cntB blocks (j + 1) = cntB blocks j + (cntB blocks (j + 1) - cntB blocks j) := by omega
  unfold seg
  rw [e, List.take_add, Nat.add_sub_cancel_left]
theorem segs_flat (rows : List Rw) (blocks : List Nat) : ∀ n, ((List.range n).map (seg rows blocks)).flatten = rows.take (cntB blocks n)
  | 0 => by rw [cnt_zero]; simp
  | n + 1 => by
    rw [List.range_succ, List.map_append, List.flatten_append, segs_flat rows blocks n, seg_take]
    simp
theorem seg_len {rows : List Rw} {blocks : List Nat} (hl : blocks.length = rows.length) (j : Nat) : (seg rows blocks j).length = cntB blocks (j + 1) - cntB blocks j := by
  have h1 := cnt_le blocks (j + 1)
  unfold seg
  rw [List.length_take, List.length_drop]
  omega
/-- a row of a block's segment has that block -/
theorem seg_blk {rows : List Rw} {blocks : List Nat} (hr : Rising blocks) {j k : Nat} (hk : k < blocks.length) (h1 : cntB blocks j ≤ k) (h2 : k < cntB blocks (j + 1)) : blocks.getD k 0 = j := by
  have a1 := (cnt_iff (j := j + 1) hr k hk).mp h2
  have a2 : ¬ blocks.getD k 0 < j := fun w => by
    have := (cnt_iff (j := j) hr k hk).mpr w
    omega
  omega
end Gn
set_option Elab.async false
set_option linter.all false
set_option maxRecDepth 100000
set_option maxHeartbeats 4000000
namespace Gn
open PySem PySem.Spec PyProof.Rows L2
/-! ### what the search finds is what can be come to without one block -/
def nE (nx : List (List Nat)) (a : Nat) : List Nat := nx.getD a []
theorem reach_closB : (NX.all fun nx => (List.range 7).all fun u => ((u == 0) || (reachF nx u).contains 0) && (reachF nx u).all fun a => (nx.getD a []).all fun y => (y == u) || (reachF nx u).contains y) = true := by decide +kernel
theorem rc_reach {nx : List (List Nat)} (hx : nx ∈ NX) {u b : Nat} (hu : u < 7) (h : Rc (nE nx) u b) : b ∈ reachF nx u := by
  have k1 := List.all_eq_true.mp (List.all_eq_true.mp reach_closB nx hx) u (List.mem_range.mpr hu)
  rw [Bool.and_eq_true] at k1
  obtain ⟨k0, k2⟩ := k1
  induction h with
  | z hz =>
    rw [Bool.or_eq_true] at k0
    rcases k0 with w | w
    · exact absurd (by simpa using w) hz
    · simpa using w
  | s ha hy hn ih =>
    have k3 := List.all_eq_true.mp (List.all_eq_true.mp k2 _ ih) _ hy
    rw [Bool.or_eq_true] at k3
    rcases k3 with w | w
    · exact absurd (by simpa using w) hn
    · simpa using w
theorem rit_rc (nx : List (List Nat)) (u : Nat) : ∀ n, (∀ y ∈ (rit nx u n).1, Rc (nE nx) u y) ∧ ∀ y ∈ (rit nx u n).2, y ≠ u → Rc (nE nx) u y
  | 0 => ⟨fun y hy => (by cases hy), fun y hy hn => by
      rw [List.mem_singleton.mp hy] at hn ⊢
      exact .z (Ne.symm hn)⟩
  | n + 1 => by
    obtain ⟨h1, h2⟩ := rit_rc nx u n
    show (∀ y ∈ (rst nx u (rit nx u n)).1, _) ∧ ∀ y ∈ (rst nx u (rit nx u n)).2, _
    unfold rst
    cases hl : (rit nx u n).2.getLast? with
    | none => exact ⟨h1, h2⟩
    | some b =>
      have hb : b ∈ (rit nx u n).2 := List.mem_of_getLast? hl
      dsimp only
      by_cases hc : b ≠ u ∧ b ∉ (rit nx u n).1
      · rw [if_pos hc]
        have hbR := h2 b hb hc.1
        refine ⟨fun y hy => ?_, fun y hy hn => ?_⟩
        · rcases List.mem_append.mp hy with w | w
          · exact h1 y w
          · rw [List.mem_singleton.mp w]; exact hbR
        · rcases List.mem_append.mp hy with w | w
          · exact h2 y ((List.dropLast_subset _) w) hn
          · exact .s hbR w hn
      · rw [if_neg hc]
        exact ⟨h1, fun y hy hn => h2 y ((List.dropLast_subset _) hy) hn⟩
theorem reach_rc {nx : List (List Nat)} {u b : Nat} (h : b ∈ reachF nx u) : Rc (nE nx) u b := (rit_rc nx u 20).1 b h
theorem reach_iff {nx : List (List Nat)} (hx : nx ∈ NX) {u b : Nat} (hu : u < 7) : b ∈ reachF nx u ↔ Rc (nE nx) u b := ⟨reach_rc, rc_reach hx hu⟩
end Gn
set_option Elab.async false
set_option linter.all false
set_option maxRecDepth 100000
set_option maxHeartbeats 2000000
namespace Gx
open PySem PySem.Spec PyProof.Rows L2 GxR GenW
section
variable {X : Cx} {pins : List (Addr × Obj)} {σ : L2.St} {H : Hp} {s : Shared}
/-- the frame of a generator expression that we began: s, H as its frame was made; fp its iterator's objects -/
abbrev genX (X : Cx) (A : Around) (s : Shared) (H : Hp) (ce : Env) (fp : List Addr) (pn : List (Addr × Obj)) : Cx :=
  { X with A := A, s_0 := s, H_0 := H, env := ce, outer := X.stack, stack := ce :: X.stack, ex := fp, fn := fun x => ce.scope.names.lookup x == some NameKind.cell, pn := pn, xe := fun _ _ => False }
theorem inv_sleep {s' : Shared} (I : Inv X pins σ H s) (e : s'.heap = s.heap) (eo : s'.os = s.os) (hb : AllBare s'.gens) : Inv X pins σ H s' := by
  obtain ⟨h', g', d', t', o'⟩ := s'
  obtain rfl : h' = s.heap := e
  obtain rfl : o' = s.os := eo
  exact ⟨I.ok, I.os, hb, I.base, I.loc, I.cell, I.free, I.freeC, I.pin, I.hok, I.len⟩
theorem gen_start {scope : Scope} {own : List (Str × Nat)} {fp : List Addr} {A : Around} {code : Value} {pn : List (Addr × Obj)} {s' : Shared} {m : Str → Option Value} {ce : Env} (I : Inv X pins σ H s) (ok : BlkOk X.N X.env.scope scope own)
    (hcell : ∀ y ∈ scope.names, y.2 ≠ .cell) (hN : X.N.Nodup) (hfp : ∀ b ∈ fp, FpOk X pins H b ∧ b < s.heap.objs.size)
    (hce : ce = genEnv scope (cloFrom X.env.cells scope.names []) s.heap.objs.size code builtinsNs X.env) (hA : A.frames = some (ce :: X.stack)) (hh : A.handled = none)
    (hos : s'.os = s.os) (hb : AllBare s'.gens) (kp : ∀ b o, s.heap.get? b = some o → s'.heap.get? b = some o) (hn : s'.heap.Ns s.heap.objs.size m)
    (hpn : ∀ p ∈ pn, s.heap.objs.size < p.1 ∧ s'.heap.get? p.1 = some p.2 ∧ ∀ v, p.2.data ≠ .cell v) :
    Inv (genX X A s H ce fp pn) [] (wipe σ (own.map (·.2))) H s' := by
  have hfree : ∀ y ∈ scope.names, y.2 = .free → ∃ c, X.env.cells.lookup y.1 = some c := fun y hy e => by
    rcases ok.free y hy e with k | k
    · exact I.ok.has _ (.inl k)
    · exact I.ok.has _ (.inr k)
  have hL : ce.locals = s.heap.objs.size := by rw [hce]; rfl
  have hcl : ce.cells = cloFrom X.env.cells scope.names [] := by rw [hce]; rfl
  have hsc : ce.scope = scope := by rw [hce]; rfl
  have cm : ∀ {y c}, (y, c) ∈ cloFrom X.env.cells scope.names [] → X.env.cells.lookup y = some c ∧ c < s.heap.objs.size := fun {y c} hm => by
    rcases cloFrom_mem hm with h1 | ⟨h1, h2⟩
    · cases h1
    · obtain ⟨c', hc'⟩ := hfree _ h1 rfl
      have hc2 : X.env.cells.lookup y = some c' := hc'
      rw [hc2] at h2
      have h3 : c = c' := h2
      subst h3
      obtain ⟨w, z⟩ := I.cell _ _ hc2
      exact ⟨hc2, z.lt⟩
  have mem : ∀ {y c}, ce.cells.lookup y = some c → X.env.cells.lookup y = some c ∧ c < s.heap.objs.size := fun {y c} e => by
    rw [hcl] at e
    exact cm (PySem.mem_of_lookup e)
  have look : ∀ {y}, scope.names.lookup y = some .free → ∃ c, ce.cells.lookup y = some c ∧ X.env.cells.lookup y = some c := fun {y} hl => by
    have hy : (y, NameKind.free) ∈ scope.names := PySem.mem_of_lookup hl
    obtain ⟨c', e'⟩ := mem_lookup (cloFrom_has (cells := X.env.cells) (acc := []) hy)
    rw [← hcl] at e'
    exact ⟨c', e', (mem e').1⟩
  have okB : (genX X A s H ce fp pn).Ok := by
    refine ⟨I.ok.mod, by show ce.scope.kind = _; rw [hsc]; exact ok.kind, by show ce.globals = _; rw [hce]; exact I.ok.glob, by show ce.builtins = _; rw [hce]; rfl, by show s.heap.objs.size ≤ ce.locals; rw [hL]; exact Nat.le_refl _,
      fun y z c e1 e2 => ?_, fun y hy => ?_, fun y c z e => ?_, fun _ => hh, hA, .inr ⟨rfl, ?_⟩, fun b hb => ⟨?_, fun y c e z => ?_⟩, I.bs, Nat.le_trans I.ok.bsz I.sz, fun b o e hb => ?_, fun b hb z => ?_, I.stack, I.stkFree⟩
    · exact I.ok.inj y z c (mem e1).1 (mem e2).1
    · show ∃ c, ce.cells.lookup y = some c
      rcases hy with hy | hy
      · have hy : ce.scope.names.lookup y = some .cell := hy
        rw [hsc] at hy
        exact absurd rfl (hcell _ (PySem.mem_of_lookup hy))
      · have hy : ce.scope.names.lookup y = some .free := hy
        rw [hsc] at hy
        obtain ⟨c, h1, _⟩ := look hy
        exact ⟨c, h1⟩
    · have z : (ce.scope.names.lookup y == some NameKind.cell) = true := z
      rw [hsc] at z
      exact absurd rfl (hcell _ (PySem.mem_of_lookup (eq_of_beq z)))
    · show ce.frame = some ce.locals
      rw [hce]; rfl
    · show b ≠ ce.locals
      rw [hL]; exact Nat.ne_of_lt (hfp b hb).2
    · exact (hfp b hb).1.2.2.2.2.1 y c (mem e).1 z
    · rcases (hfp b hb).1.2.2.2.1 with z | z
      · exact I.ok.noex b o e z
      · exact absurd (Nat.lt_of_lt_of_le (Heap.lt_size e) (Nat.le_trans I.ok.bsz z)) (Nat.lt_irrefl _)
    · rcases List.mem_cons.mp (I.stkSub b z) with z | z
      · exact (hfp b hb).1.2.1 z
      · exact (hfp b hb).1.2.2.1 z
  refine ⟨okB, hos, hb, Un.kept kp, ⟨m, ?_, fun i y av e1 e2 e3 => ?_⟩, fun y c e => ?_, ?_, fun y c e => ?_, fun p hp => ?_, I.hok.kept kp, by rw [wipe_length]; exact I.len⟩
  · show Heap.Ns _ ce.locals _
    rw [hL]
    exact hn
  · obtain ⟨e2, hne⟩ := wipe_some e2
    have hfr : scope.names.lookup y = some .free := by
      have key : ∀ k, ce.scope.names.lookup y = some k → k = .local ∨ k = .cell ∨ k = .free → scope.names.lookup y = some .free := fun k hk hk' => by
        rw [hsc] at hk
        have no : ¬ (k = .local ∨ k = .cell) := fun hh => by
          rcases ok.own _ (PySem.mem_of_lookup hk) hh with e' | e'
          · obtain ⟨p, hp, hpy⟩ := List.mem_map.mp e'
            have e3 := ok.ix p hp
            have : p.1 = y := hpy
            rw [this] at e3
            exact hne (List.mem_map.mpr ⟨p, hp, nodup_ix hN e3 e1⟩)
          · exact e' (List.mem_of_getElem? e1)
        rcases hk' with rfl | rfl | rfl
        · exact absurd (.inl rfl) no
        · exact absurd (.inr rfl) no
        · exact hk
      have e3 : Vis ce.scope y := e3
      rcases e3 with e3 | e3 | e3
      · exact key _ e3 (.inl rfl)
      · exact key _ e3 (.inr (.inl rfl))
      · exact key _ e3 (.inr (.inr rfl))
    obtain ⟨m0, hn0, hl⟩ := I.loc
    have hvis : Vis X.env.scope y := (ok.free _ (PySem.mem_of_lookup hfr) rfl).elim (fun k => .inr (.inl k)) (fun k => .inr (.inr k))
    obtain ⟨w, r, q⟩ := hl i y av e1 e2 hvis
    refine ⟨w, r, .inr ⟨.inr ?_, ?_⟩⟩
    · show ce.scope.names.lookup y = _
      rw [hsc]; exact hfr
    obtain ⟨c, h1, h2⟩ := look hfr
    rcases q with ⟨k, _⟩ | ⟨_, c', e', z⟩
    · have k : X.env.scope.names.lookup y = some .local := k
      rcases ok.free _ (PySem.mem_of_lookup hfr) rfl with k' | k' <;> rw [show X.env.scope.names.lookup y = _ from k'] at k <;> cases k
    · rw [h2] at e'; cases e'
      exact ⟨c, h1, z.keeps kp⟩
  · obtain ⟨w, z⟩ := I.cell y c (mem e).1
    exact ⟨w, z.keeps kp⟩
  · show H ce.locals = none
    rw [hL]; exact I.hok.fresh (Nat.le_refl _)
  · exact I.freeC y c (mem e).1
  · rcases List.mem_append.mp hp with hp | hp
    · obtain ⟨h1, h2, h3⟩ := hpn p hp
      refine ⟨h2, I.hok.fresh (Nat.le_of_lt h1), ?_, fun z => ?_, h3⟩
      · show p.1 ≠ ce.locals
        rw [hL]; exact Nat.ne_of_gt h1
      · have z : p.1 ∈ frs X.stack := z
        rcases List.mem_cons.mp (I.stkSub _ z) with z | z
        · have := I.lt
          rw [← z] at this
          exact absurd (Nat.lt_trans this h1) (Nat.lt_irrefl _)
        · exact I.nofs (Nat.le_of_lt h1) z
    · cases hp
end
theorem over_loop {A : Around} {elt : Expr} {cs : List Comprehension} {scope : Scope} {pos : Pos} {it acc : Value} {ce : Env} : A.over (.compLoop (.GeneratorExp elt cs scope pos) 0 it acc ce) [] = A.deeper ce := by
  first
    | rfl
    | (simp [Around.over, Around.deeper, Code.envs, Code.isFrame, Code.env?, pushEnvs])
/-- the end: the heap as it is then, c told -/
def Fin (X : Cx) (fp : List Addr) (H : Hp) (s : Shared) (Q : VK) (c : Bool) (s1 : Shared) : Prop :=
  ∃ H', s1.os = s.os ∧ AllBare s1.gens ∧ Un (frs X.stack) fp H H' s.heap s1.heap ∧ HOk X.prog X.w H' s1.heap ∧ Q (.bl c) H'
def EndB (X : Cx) (fp : List Addr) (H : Hp) (s : Shared) (Q : VK) (b : Bool) : Nat → Shared → Shared → Prop := fun _ _ s1 => Fin X fp H s Q (!b) s1
def RB (X : Cx) (fp : List Addr) (H : Hp) (s : Shared) (Q : VK) (b : Bool) : GenEnd := fun n s₀ r s1 => r = .ok .next ∧ EndB X fp H s Q b n s₀ s1
def YB (X : Cx) (fp : List Addr) (H : Hp) (s : Shared) (Q : VK) (b : Bool) (a : Addr) (g : Nat) : Protocol := fun _ _ v s1 kap =>
  AllBare s1.gens ∧ s1.heap.NoLimit ∧ s1.heap.IsGen a g ∧ ∃ c : Bool, v = .bool c ∧ (c = b → Fin X fp H s Q b s1) ∧
    (c ≠ b → ∀ s' : Shared, s'.heap = s1.heap → s'.os = s1.os → AllBare s'.gens → kap (.send .none) s')
/-- a turn's test: b ends it -/
def tTurn (b : Bool) (J : It) (σ : L2.St) (g : TG) (tt : TT) (te : TE) (vs : List Nat) (Q : VK) (W : Nat → Nat → Hp → Prop) (i m : Nat) (H : Hp) : Prop :=
  (J.stop i H ∧ Q (.bl (!b)) H) ∨ (J.go i H ∧ ∃ Nx : Hp → Prop, (∀ H', Nx H' → ∃ m', m' < m ∧ W (i + 1) m' H') ∧ ∀ x H', J.yld i H x H' → g x (wipe σ vs) H' fun σ2 H2 => wipe σ2 vs = wipe σ vs ∧ tt σ2 H2 fun ok H3 =>
    if ok = true then te σ2 H3 fun y H4 => ∃ c : Bool, y = .bl c ∧ (c = b → Q (.bl b) H4) ∧ (c ≠ b → Nx H4) else Nx H3)
section
variable {X : Cx} {σ : L2.St} {H₀ : Hp} {s₄ : Shared}
theorem seg_loop {k : Nat} {A : Around} {b : Bool} {elt tg iter : Expr} {ifs : List Expr} {scope : Scope} {pos : Pos} {ce : Env} {fp : List Addr} {a : Addr} {gn : Nat} {go : Obj} {it : Addr} {tn : Nat → Heap → Prop} {J : It} {g : TG} {tt : TT} {te : TE} {vs : List Nat} {Q : VK} {W : Nat → Nat → Hp → Prop}
    (hc : X.calm = true) (hr : Room k (A.deeper ce)) (hco : ce.scope.isCoroutine = false) (hgo : ∀ h : Heap, h.get? a = some go → h.IsGen a gn) (haf : ∀ b ∈ fp, a ≠ b)
    (T : Turn X.prog X.w X.K tg J fp it tn)
    (hg : PG (genX X (A.deeper ce) s₄ H₀ ce fp [(a, go)]) tg g) (ht : PTs (genX X (A.deeper ce) s₄ H₀ ce fp [(a, go)]) ifs tt) (he : PE (genX X (A.deeper ce) s₄ H₀ ce fp [(a, go)]) elt te)
    (turn : ∀ i m H, W i m H → tTurn b J σ g tt te vs Q W i m H) :
    ∀ (m n i : Nat) (H : Hp) (s s₀ : Shared), m < n → W i m H → Inv (genX X (A.deeper ce) s₄ H₀ ce fp [(a, go)]) [] (wipe σ vs) H s → tn i s.heap → (∀ b ∈ fp, H b = none) →
      Seg (model X.prog X.w) A (RB X fp H₀ s₄ Q b) (YB X fp H₀ s₄ Q b a gn) n s₀ (.compLoop (.GeneratorExp elt [⟨tg, iter, ifs, 0⟩] scope pos) 0 (.ref it) .none ce)
        ((model X.prog X.w).den (.compLoop (.GeneratorExp elt [⟨tg, iter, ifs, 0⟩] scope pos) 0 (.ref it) .none ce)) [] s := by
  have stat : ∀ {σ' : L2.St} {H' : Hp} {s' : Shared}, Inv (genX X (A.deeper ce) s₄ H₀ ce fp [(a, go)]) [] σ' H' s' → (∀ b ∈ fp, H' b = none) → ∀ b ∈ fp, FpOk (genX X (A.deeper ce) s₄ H₀ ce fp [(a, go)]) [] H' b := fun {σ' H' s'} I' hn b hb =>
    ⟨hn b hb, (I'.ok.exf b hb).1, I'.ok.exfs b hb, .inl hb, fun x c e => (I'.ok.exf b hb).2 x c e, fun p hp => by
      have hp : p ∈ [(a, go)] ++ ([] : List (Addr × Obj)) := hp
      rw [List.append_nil] at hp
      rw [List.mem_singleton.mp hp]
      exact haf b hb⟩
  intro m
  induction m using Nat.strongRecOn with
  | ind m ih =>
    intro n i H s s₀ hmn w I st nf
    show Seg _ A _ _ _ s₀ _ ((compTurn (.GeneratorExp elt [⟨tg, iter, ifs, 0⟩] scope pos) 0 (.ref it) .none ce).onRaise (leaving ce)) [] s
    rw [compTurn_gen, Sem.onRaise_eq_wrap]
    refine seg_bind_wrap (wpAny_standAt ?_)
    rcases turn i m H w with ⟨stop, qq⟩ | ⟨go', Nx, hNx, step⟩
    · refine seg_bind_wrap ?_
      rw [over_loop]
      refine thnF (T.done (genX X (A.deeper ce) s₄ H₀ ce fp [(a, go)]) rfl rfl rfl hc i [] s _ H (fun _ _ => False) I (stat I nf) st stop) fun r s6 ⟨hr, I6⟩ => ?_
      subst hr
      exact seg_end (.ok .next) ⟨rfl, H, I6.os, I6.bare, I6.base, I6.hok, qq⟩
    · refine seg_bind_wrap ?_
      rw [over_loop]
      refine thnF (T.item (genX X (A.deeper ce) s₄ H₀ ce fp [(a, go)]) rfl rfl rfl hc i [] s _ H (fun _ _ => False) I (stat I nf) st go') fun r s6 ⟨u, hr, h6⟩ => ?_
      subst hr
      refine seg_bind_wrap ?_
      rw [over_loop]
      refine thnF h6 fun _ s7 ⟨x, H7, I7, r7, y7, st7, n7⟩ => ?_
      have I7' := I7.pinned (stat I7 n7) (T.obj _ _ st7)
      refine seg_bind_wrap ?_
      rw [over_loop]
      refine thnF (hg.run _ s7 _ H7 x u _ I7' r7 (step x H7 y7)) fun _ s8 ⟨σ8, H8, I8, hw8, q8⟩ => ?_
      refine seg_bind_wrap ?_
      rw [over_loop]
      refine thnF (ht.run _ s8 σ8 H8 _ I8 q8) fun ok s9 ⟨H9, I9, q9⟩ => ?_
      have fin : ∀ {s' : Shared} {H' : Hp} (n' : Nat) (s₀' : Shared), Inv (genX X (A.deeper ce) s₄ H₀ ce fp [(a, go)]) ([] ++ pinsAt fp s7.heap) σ8 H' s' → Nx H' → m < n' + 1 →
          Seg (model X.prog X.w) A (RB X fp H₀ s₄ Q b) (YB X fp H₀ s₄ Q b a gn) n' s₀' (.compLoop (.GeneratorExp elt [⟨tg, iter, ifs, 0⟩] scope pos) 0 (.ref it) .none ce)
            ((model X.prog X.w).den (.compLoop (.GeneratorExp elt [⟨tg, iter, ifs, 0⟩] scope pos) 0 (.ref it) .none ce)) [] s' := fun {s' H'} n' s₀' I' nx hmn' => by
        obtain ⟨m', hm, w'⟩ := hNx H' nx
        have pin' : ∀ b ∈ fp, ∀ o, s7.heap.get? b = some o → s'.heap.get? b = some o ∧ H' b = none := fun b hb o e =>
          let z := I'.pin (b, o) (List.mem_append_right _ (List.mem_append_right _ (mem_pinsAt hb e)))
          ⟨z.1, z.2.1⟩
        have hl : (wipe σ vs).length = σ8.length := by rw [← hw8, wipe_length]
        refine ih m' hm n' (i + 1) H' s' s₀' (by omega) w' ((I'.unpinned (pins := [])).weak hl (fun j v e => ?_)) (T.keep _ _ _ st7 fun b hb o e => (pin' b hb o e).1) fun b hb => ?_
        · rw [← hw8] at e
          exact (wipe_some e).1
        · obtain ⟨o, e, _⟩ := T.obj _ _ st7 b hb
          exact (pin' b hb o e).2
      cases ok with
      | false =>
        simp only [Bool.false_eq_true, if_false] at q9 ⊢
        exact seg_again rfl (fin n s₀ I9 q9 (by omega))
      | true =>
        simp only [if_true] at q9 ⊢
        have hy : ∀ v, yieldOut ce v = yieldValue v := fun v => by simp only [yieldOut, hco, Bool.false_eq_true, if_false]
        simp only [hy]
        rw [Sem.bind_eq_wrap', Sem.bind_eq_wrap', Sem.wrap_wrap, Sem.wrap_wrap]
        refine seg_wrap ?_
        rw [over_loop]
        refine thnF (he.run _ s9 σ8 H9 _ I9 q9) fun z s10 ⟨yv, H10, I10, r10, c, ec, qe, qn⟩ => ?_
        subst ec
        have rz : z = .bool c := r10
        subst rz
        obtain ⟨n', hn'⟩ : ∃ n', n = n' + 1 := by
          cases n with
          | zero => exact absurd hmn (Nat.not_lt_zero _)
          | succ n' => exact ⟨n', rfl⟩
        subst hn'
        have ga : s10.heap.get? a = some go := (I10.pin (a, go) (List.mem_append_left _ (List.mem_singleton.mpr rfl))).1
        refine seg_at (seg_yield rfl rfl rfl ⟨I10.bare, I10.nolimit, hgo _ ga, c, rfl, fun e => ⟨H10, I10.os, I10.bare, I10.base, I10.hok, qe e⟩, fun e s'' e1 e2 e3 => ?_⟩)
        exact seg_again rfl (fin n' s'' (inv_sleep I10 e1 e2 e3) (qn e) hmn)
end
end Gx
set_option Elab.async false
set_option linter.all false
set_option maxRecDepth 100000
set_option maxHeartbeats 2000000
namespace Gx
open PySem PySem.Spec PyProof.Rows L2 GxR GenW
theorem over_start {A : Around} {elt : Expr} {cs : List Comprehension} {scope : Scope} {pos : Pos} {it acc : Value} {ce : Env} : A.over (.compStart (.GeneratorExp elt cs scope pos) 0 it acc ce) [] = A.deeper ce := by
  first
    | rfl
    | (simp [Around.over, Around.deeper, Code.envs, Code.isFrame, Code.env?, pushEnvs])
theorem seg_start {M : Model} {prog : Program} {w : World} (hM : M = model prog w) {A : Around} {R : GenEnd} {Y : Protocol} {n : Nat} {s₀ s : Shared} {elt tg iter : Expr} {ifs : List Expr} {scope : Scope} {pos : Pos} {ce : Env} {it : Addr}
    (self : ∀ (A' : Around) (Q : Value → Shared → Prop) (E : Value → Shared → Prop), Q (.ref it) s → wpAny M A' (pyIter (.ref it)) Q E s)
    (loop : Seg M A R Y n s₀ (.compLoop (.GeneratorExp elt [⟨tg, iter, ifs, 0⟩] scope pos) 0 (.ref it) .none ce) (M.den (.compLoop (.GeneratorExp elt [⟨tg, iter, ifs, 0⟩] scope pos) 0 (.ref it) .none ce)) [] s) :
    Seg M A R Y n s₀ (.compStart (.GeneratorExp elt [⟨tg, iter, ifs, 0⟩] scope pos) 0 (.ref it) .none ce) (M.den (.compStart (.GeneratorExp elt [⟨tg, iter, ifs, 0⟩] scope pos) 0 (.ref it) .none ce)) [] s := by
  subst hM
  show Seg _ A _ _ _ s₀ _ ((compStart (.GeneratorExp elt [⟨tg, iter, ifs, 0⟩] scope pos) 0 (.ref it) .none ce).onRaise (leaving ce)) [] s
  unfold compStart
  rw [Sem.onRaise_eq_wrap]
  show Seg _ A _ _ _ s₀ _ ((ask >>= _).wrap _ _ _ _) [] s
  refine seg_bind_wrap (wpAny_askSetting ?_)
  split
  · exact seg_again rfl loop
  · first
      | exact seg_bind_wrap (wpAny_rule (seg_bind_wrap (wpAny_standAt (seg_bind_wrap (self _ _ _ (seg_again rfl loop))))))
      | (refine seg_bind_wrap (wpAny_rule ?_); show Seg _ A _ _ _ s₀ _ ((standAt iter.pos >>= _).wrap _ _ _ _) [] s; exact seg_bind_wrap (wpAny_standAt (seg_bind_wrap (self _ _ _ (seg_again rfl loop)))))
section
variable {X : Cx} {H₀ : Hp} {s₄ : Shared} {fp : List Addr} {Q : VK} {a : Addr} {g : Nat} {A : Around} {RR : Result → Shared → Prop}
theorem fin_after {c : Bool} {s1 : Shared} {gs : GenState} {h' : Heap} (hf : Fin X fp H₀ s₄ Q c s1) (hb : gs.bare = true) (hk : ∀ b o, s1.heap.get? b = some o → h'.get? b = some o) : Fin X fp H₀ s₄ Q c { s1.setGen g gs with heap := h' } := by
  obtain ⟨H', h1, h2, h3, h4, h5⟩ := hf
  exact ⟨H', h1, allBare_setGen h2 hb, h3.trans (Un.kept hk), h4.kept hk, h5⟩
theorem any_gen (hh : A.handled = none) (hd : A.depth < recursionLimit) (hfin : ∀ c s', Fin X fp H₀ s₄ Q c s' → RR (.ok (.ret (.bool c))) s') : ∀ (n : Nat) (s : Shared), s.heap.IsGen a g → s.heap.NoLimit →
      (∃ gs, s.gens[g]? = some gs ∧ gs.Goes (model X.prog X.w) A.in1.in1 (RB X fp H₀ s₄ Q true) (YB X fp H₀ s₄ Q true a g) n (.send .none) (s.setGen g .running)) →
      codeAny (model X.prog X.w) A (.builtin "any.loop" ⟨[.ref a], []⟩) RR s := by
  intro n
  induction n with
  | zero =>
    intro s hg hl ⟨gs, hgs, hgo⟩
    refine codeAny_builtin F.entry_any_loop ?_
    rw [Around.under_plainId F.plain_any_loop _]
    show wpAny _ A.in1 (pyNext (.ref a) >>= _) _ _ s
    refine wpAny_bind (wpAny_pyNext_genexpQ (P := EndB X fp H₀ s₄ Q true) hh hl hd hg hgs hgo (fun v s₁ gs' hb hv => ?_) (fun s₁ hp h' hk => ?_))
    · obtain ⟨hb1, hl1, hg1, c, rfl, hf, hn⟩ := hv
      refine wpAny_bind (wpAny_holding (wpAny_truthy_bool ?_))
      refine wpAny_bind (wpAny_letGo ?_)
      cases c with
      | false => exact False.elim (hn (by decide) _ rfl rfl hb1)
      | true =>
        simp only [if_true]
        refine wpAny_bind (wpAny_rule (wpAny_pure ?_))
        exact hfin true _ (fin_after (h' := s₁.heap) (hf rfl) hb fun _ _ e => e)
    · refine wpAny_bind (wpAny_rule (wpAny_pure ?_))
      exact hfin false _ (fin_after hp rfl hk)
  | succ n ih =>
    intro s hg hl ⟨gs, hgs, hgo⟩
    have hgl : g < s.gens.size := (Array.getElem?_eq_some_iff.mp hgs).1
    refine codeAny_builtin F.entry_any_loop ?_
    rw [Around.under_plainId F.plain_any_loop _]
    show wpAny _ A.in1 (pyNext (.ref a) >>= _) _ _ s
    refine wpAny_bind (wpAny_gsz (n := g + 1) hgl (wpAny_pyNext_genexpQ (P := EndB X fp H₀ s₄ Q true) hh hl hd hg hgs hgo (fun v s₁ gs' hb hv => ?_) (fun s₁ hp h' hk => ?_)))
    · intro hsz
      obtain ⟨hb1, hl1, hg1, c, rfl, hf, hn⟩ := hv
      have hsz1 : g < s₁.gens.size := by
        have q : (s₁.setGen g gs').gens.size = s₁.gens.size := setGen_size _ _ _
        have hsz' : g + 1 ≤ (s₁.setGen g gs').gens.size := hsz
        omega
      refine wpAny_bind (wpAny_holding (wpAny_truthy_bool ?_))
      refine wpAny_bind (wpAny_letGo ?_)
      cases c with
      | false =>
        simp only [Bool.false_eq_true, if_false]
        refine wpAny_pure ⟨plainId_quiet F.plain_any_loop _, ih (s₁.setGen g gs') hg1 hl1 ⟨gs', setGen_at hsz1, ?_⟩⟩
        exact hn (by decide) _ rfl rfl (allBare_setGen (s := s₁.setGen g gs') (allBare_setGen hb1 hb) rfl)
      | true =>
        simp only [if_true]
        refine wpAny_bind (wpAny_rule (wpAny_pure ?_))
        exact hfin true _ (fin_after (h' := s₁.heap) (hf rfl) hb fun _ _ e => e)
    · intro _
      refine wpAny_bind (wpAny_rule (wpAny_pure ?_))
      exact hfin false _ (fin_after hp rfl hk)
theorem all_gen (hh : A.handled = none) (hd : A.depth < recursionLimit) (hfin : ∀ c s', Fin X fp H₀ s₄ Q c s' → RR (.ok (.ret (.bool c))) s') : ∀ (n : Nat) (s : Shared), s.heap.IsGen a g → s.heap.NoLimit →
      (∃ gs, s.gens[g]? = some gs ∧ gs.Goes (model X.prog X.w) A.in1.in1 (RB X fp H₀ s₄ Q false) (YB X fp H₀ s₄ Q false a g) n (.send .none) (s.setGen g .running)) →
      codeAny (model X.prog X.w) A (.builtin "all.loop" ⟨[.ref a], []⟩) RR s := by
  intro n
  induction n with
  | zero =>
    intro s hg hl ⟨gs, hgs, hgo⟩
    refine codeAny_builtin F.entry_all_loop ?_
    rw [Around.under_plainId F.plain_all_loop _]
    show wpAny _ A.in1 (pyNext (.ref a) >>= _) _ _ s
    refine wpAny_bind (wpAny_pyNext_genexpQ (P := EndB X fp H₀ s₄ Q false) hh hl hd hg hgs hgo (fun v s₁ gs' hb hv => ?_) (fun s₁ hp h' hk => ?_))
    · obtain ⟨hb1, hl1, hg1, c, rfl, hf, hn⟩ := hv
      refine wpAny_bind (wpAny_holding (wpAny_truthy_bool ?_))
      refine wpAny_bind (wpAny_letGo ?_)
      cases c with
      | true => exact False.elim (hn (by decide) _ rfl rfl hb1)
      | false =>
        simp only [Bool.false_eq_true, if_false]
        refine wpAny_bind (wpAny_rule (wpAny_pure ?_))
        exact hfin false _ (fin_after (h' := s₁.heap) (hf rfl) hb fun _ _ e => e)
    · refine wpAny_bind (wpAny_rule (wpAny_pure ?_))
      exact hfin true _ (fin_after hp rfl hk)
  | succ n ih =>
    intro s hg hl ⟨gs, hgs, hgo⟩
    have hgl : g < s.gens.size := (Array.getElem?_eq_some_iff.mp hgs).1
    refine codeAny_builtin F.entry_all_loop ?_
    rw [Around.under_plainId F.plain_all_loop _]
    show wpAny _ A.in1 (pyNext (.ref a) >>= _) _ _ s
    refine wpAny_bind (wpAny_gsz (n := g + 1) hgl (wpAny_pyNext_genexpQ (P := EndB X fp H₀ s₄ Q false) hh hl hd hg hgs hgo (fun v s₁ gs' hb hv => ?_) (fun s₁ hp h' hk => ?_)))
    · intro hsz
      obtain ⟨hb1, hl1, hg1, c, rfl, hf, hn⟩ := hv
      have hsz1 : g < s₁.gens.size := by
        have q : (s₁.setGen g gs').gens.size = s₁.gens.size := setGen_size _ _ _
        have hsz' : g + 1 ≤ (s₁.setGen g gs').gens.size := hsz
        omega
      refine wpAny_bind (wpAny_holding (wpAny_truthy_bool ?_))
      refine wpAny_bind (wpAny_letGo ?_)
      cases c with
      | true =>
        simp only [if_true]
        refine wpAny_pure ⟨plainId_quiet F.plain_all_loop _, ih (s₁.setGen g gs') hg1 hl1 ⟨gs', setGen_at hsz1, ?_⟩⟩
        exact hn (by decide) _ rfl rfl (allBare_setGen (s := s₁.setGen g gs') (allBare_setGen hb1 hb) rfl)
      | false =>
        simp only [Bool.false_eq_true, if_false]
        refine wpAny_bind (wpAny_rule (wpAny_pure ?_))
        exact hfin false _ (fin_after (h' := s₁.heap) (hf rfl) hb fun _ _ e => e)
    · intro _
      refine wpAny_bind (wpAny_rule (wpAny_pure ?_))
      exact hfin true _ (fin_after hp rfl hk)
end
end Gx
set_option Elab.async false
set_option linter.all false
set_option maxRecDepth 100000
set_option maxHeartbeats 2000000
namespace Gx
open PySem PySem.Spec PyProof.Rows L2 GxR GenW
/-- any (b), all (not b) of (elt for tg in iter if ..): W by the turn and a measure; the def's table at P may have grown -/
def tGx (b : Bool) (P : Addr) (wi : TI) (g : TG) (tt : TT) (te : TE) (vs : List Nat) : TE := fun σ H Q => wi σ H fun J H1 => TabG H1 P ∧ ∀ H2, Tabbed P H1 H2 →
  ∃ W : Nat → Nat → Hp → Prop, (∃ m, W 0 m H2) ∧ ∀ i m H, W i m H → tTurn b J σ g tt te vs Q W i m H
/-- what the frame's rules are asked for -/
abbrev InGen (X : Cx) (k : Nat) (scope : Scope) (φ : Cx → Prop) : Prop :=
  ∀ (A : Around) (s : Shared) (H : Hp) (C : Addr) (cl : List (Str × Addr)) (code : Value) (fp : List Addr) (pn : List (Addr × Obj)), Room k A → φ (genX X A s H (genEnv scope cl C code builtinsNs X.env) fp pn)
/-- a generator that has not begun, to be drained at X.A.in1.in1 -/
def Fresh (X : Cx) (pins : List (Addr × Obj)) (σ : L2.St) (Q : VK) (b : Bool) (a : Addr) (s5 : Shared) : Prop :=
  ∃ (g n : Nat) (fp : List Addr) (H₀ : Hp) (s₄ : Shared) (cde : Code), s5.heap.IsGen a g ∧ s5.heap.NoLimit ∧ AllBare s5.gens ∧ s5.gens[g]? = some (.fresh cde) ∧
    (∀ s6 : Shared, s6.heap = s5.heap → s6.os = s5.os → AllBare s6.gens → Seg (model X.prog X.w) X.A.in1.in1 (RB X fp H₀ s₄ Q b) (YB X fp H₀ s₄ Q b a g) n s6 cde ((model X.prog X.w).den cde) [] s6) ∧
    ∀ c s', Fin X fp H₀ s₄ Q c s' → ∃ H', Inv X pins σ H' s' ∧ Q (.bl c) H'
section
variable {X : Cx} {pins : List (Addr × Obj)} {σ : L2.St} {H : Hp} {s : Shared}
theorem gen_make {k : Nat} {c P : Addr} {b : Bool} {elt tg iter : Expr} {ifs : List Expr} {scope : Scope} {own : List (Str × Nat)} {gpos : Pos} {wi : TI} {g : TG} {tt : TT} {te : TE} {Q : VK} {Q' : Value → Shared → Prop}
    (hc : X.calm = true) (hr : Room (k + 3) X.A) (hN : X.N.Nodup) (TB : TabB X.base X.mg c P) (hcode : X.env.code = .ref c) (ok : BlkOk X.N X.env.scope scope own) (hcell : ∀ y ∈ scope.names, y.2 ≠ .cell) (hdot : scope.names.lookup (".0" : Str) = some NameKind.local)
    (hco : scope.isCoroutine = false) (hi : PI X tg iter wi) (hg : InGen X k scope fun Y => PG Y tg g) (ht : InGen X k scope fun Y => PTs Y ifs tt) (he : InGen X k scope fun Y => PE Y elt te)
    (hs : ∀ v, genFold iter X.env v = pure v) (I : Inv X pins σ H s) (h : tGx b P wi g tt te (own.map (·.2)) σ H Q) (hQ : ∀ a s5, Fresh X pins σ Q b a s5 → Q' (.ref a) s5) :
    wpAny (model X.prog X.w) X.A (eval (.GeneratorExp elt [⟨tg, iter, ifs, 0⟩] scope gpos) X.env) Q' X.xe s := by
  have hfree : ∀ y ∈ scope.names, y.2 = .free → ∃ c, X.env.cells.lookup y.1 = some c := fun y hy e => by
    rcases ok.free y hy e with k | k
    · exact I.ok.has _ (.inl k)
    · exact I.ok.has _ (.inr k)
  refine wpAny_GeneratorExp_make hco (closure_ok hfree) hcell hdot ok.kind (by have := hr.dp; omega) ?_ hs
  refine thn (hi.run pins s σ H _ I h) fun xv s1 hx => thn hx fun itv s2 h2 => ?_
  obtain ⟨it, fp, tn, J, H2, e, I2, T, st2, f2, ⟨ps, hP, htr⟩, q⟩ := h2
  subst e
  refine ⟨I2.nolimit, ?_⟩
  have hPs : s2.heap.get? P = some { cls := .none, data := .fields ps } := I2.hok P _ hP
  have cd : PySem.W.CodeHd s2.heap c P := TB.code.keeps fun b u e => I2.bk b u e
  have sz : ∀ b ∈ fp, b < s2.heap.objs.size := fun b hb => by
    obtain ⟨o, e, _⟩ := T.obj _ _ st2 b hb
    exact Heap.lt_size e
  have nP : ∀ b ∈ fp, b ≠ P := fun b hb z => by
    have := (f2 b hb).1
    rw [z, hP] at this
    cases this
  have cont : ∀ (code : Value) (h3 : Heap) (tk : Nat) (ps' : Array Value), Heap.ExtBut P s2.heap h3 → s2.heap.objs.size ≤ h3.objs.size → h3.get? P = some { cls := .none, data := .fields ps' } → (∃ more, ps' = ps ++ more) → TriplesOk ps'.toList →
      wpAny (model X.prog X.w) X.A (builtinsFor X.env.globals X.env.builtins) (fun bi s₄ =>
        ∀ h', h'.Ns s₄.heap.objs.size (fun y => if y = ".0" then some (Value.ref it) else none) → Heap.SameBut s₄.heap.objs.size (s₄.heap.push { cls := .type "frame", data := .dict #[] }) h' →
          Q' (.ref h'.objs.size) { s₄ with
            gens := s₄.gens.push (.fresh (.compStart (.GeneratorExp elt [⟨tg, iter, ifs, 0⟩] scope gpos) 0 (.ref it) .none (genEnv scope (cloFrom X.env.cells scope.names []) s₄.heap.objs.size code bi X.env))),
            toks := s₄.toks + 1 + 1 + 1,
            heap := h'.push { cls := .type "generator", data := .fields #[.int s₄.gens.size 0, .str "<genexpr>" (s₄.toks + 1), .str (X.env.qual ++ "<genexpr>") (s₄.toks + 1 + 1)] } }) X.xe { s2 with heap := h3, toks := tk } := by
    intro code h3 tk ps' hx hsz hP3 hmore ht3
    obtain ⟨more, em⟩ := hmore
    subst em
    have I3 : Inv X pins σ (upd H2 P (.tbl (ps ++ more))) ({ s2 with heap := h3, toks := tk } : Shared) := inv_tab (more := more) (h' := h3) (g' := s2.gens) (d' := s2.drawn) (t' := tk) I2 hP (fun b o hb e => hx b o hb e) hP3 I2.bare
    obtain ⟨bm, ob, e1, e2, e3, e4, e5, e6, e7, e8⟩ := TB.bm
    refine wpAny_builtinsFor (m := X.mg) (by rw [I3.ok.glob]; exact I3.mod.glob.keeps I3.bk) e1 e2 (I3.bk _ _ e5) e6 e7 e8 ?_
    obtain ⟨W, ⟨m0, w0⟩, turn⟩ := q (upd H2 P (.tbl (ps ++ more))) ⟨⟨ps ++ more, upd_same, ht3⟩, fun b hb => upd_ne hb⟩
    have f3 : ∀ b ∈ fp, FpOk X pins (upd H2 P (.tbl (ps ++ more))) b ∧ b < h3.objs.size := fun b hb =>
      ⟨⟨by rw [upd_ne (nP b hb)]; exact (f2 b hb).1, (f2 b hb).2⟩, Nat.lt_of_lt_of_le (sz b hb) hsz⟩
    have st3 : tn 0 h3 := T.keep _ _ _ st2 fun b hb o e => hx b o (nP b hb) e
    generalize hH3 : upd H2 P (.tbl (ps ++ more)) = H3 at I3 w0 f3
    generalize hs3 : ({ s2 with heap := h3, toks := tk } : Shared) = s3 at I3
    have hh3 : h3 = s3.heap := by rw [← hs3]
    rw [hh3] at f3 st3
    clear hh3
    intro h' hn' hs'
    have hn' : h'.Ns s3.heap.objs.size (fun y => if y = ".0" then some (Value.ref it) else none) := hn'
    have hs' : Heap.SameBut s3.heap.objs.size (s3.heap.push { cls := .type "frame", data := .dict #[] }) h' := hs'
    have hszz : h'.objs.size = s3.heap.objs.size + 1 := by rw [hs'.1, Heap.size_push]
    have keep' : ∀ b o, s3.heap.get? b = some o → h'.get? b = some o := fun b o e => hs'.extBut b o (Nat.ne_of_lt (Heap.lt_size e)) (Heap.get?_push_of_some _ e)
    refine hQ _ _ ?_
    generalize hgo : ({ cls := .type "generator", data := .fields #[.int s3.gens.size 0, .str "<genexpr>" (s3.toks + 1), .str (X.env.qual ++ "<genexpr>") (s3.toks + 1 + 1)] } : Obj) = go
    have hgen : ∀ h : Heap, h.get? h'.objs.size = some go → h.IsGen h'.objs.size s3.gens.size := fun h e => by
      subst hgo
      exact ⟨_, _, _, e, rfl, rfl, rfl⟩
    have keep5 : ∀ b o, s3.heap.get? b = some o → (h'.push go).get? b = some o := fun b o e => Heap.get?_push_of_some _ (keep' b o e)
    have hpushed : (h'.push go).get? h'.objs.size = some go := by
      subst hgo
      exact Heap.get?_push_size _ rfl
    have hgd : ∀ v, go.data ≠ .cell v := fun v z => by
      subst hgo
      cases z
    generalize hce : genEnv scope (cloFrom X.env.cells scope.names []) s3.heap.objs.size code builtinsNs X.env = ce
    have bare5 : AllBare (s3.gens.push (.fresh (.compStart (.GeneratorExp elt [⟨tg, iter, ifs, 0⟩] scope gpos) 0 (.ref it) .none ce))) := AllBare.push I3.bare rfl
    have hsc : ce.scope = scope := by rw [← hce]; rfl
    have hr2 : Room (k + 1) X.A.in1.in1 := hr.in1.in1
    refine ⟨s3.gens.size, m0 + 1, fp, H3, s3, .compStart (.GeneratorExp elt [⟨tg, iter, ifs, 0⟩] scope gpos) 0 (.ref it) .none ce, ?_, ?_, ?_, ?_, fun s6 eh eo hb6 => ?_, fun c s' hf => ?_⟩
    · subst hgo hce hs3
      exact hgen _ hpushed
    · subst hgo hce hs3
      exact I3.nolimit.keeps keep5
    · subst hgo hce hs3
      exact bare5
    · subst hgo hce hs3
      exact Array.getElem?_push_size ..
    · have eh : s6.heap = h'.push go := by subst hgo hce hs3; exact eh
      have eo : s6.os = s3.os := by subst hgo hce hs3; exact eo
      have I6 : Inv (genX X (X.A.in1.in1.deeper ce) s3 H3 ce fp [(h'.objs.size, go)]) [] (wipe σ (own.map (·.2))) H3 s6 := by
        refine gen_start (code := code) I3 ok hcell hN f3 hce.symm ?_ (hr2.deeper ce).hd eo hb6 (fun b o e => by rw [eh]; exact keep5 b o e) (by rw [eh]; exact hn'.keeps fun b o e => Heap.get?_push_of_some _ e) fun p hp => ?_
        · show pushEnvs [ce] X.A.frames = _
          rw [I3.ok.frames]
          rfl
        · rw [List.mem_singleton.mp hp]
          refine ⟨?_, by rw [eh]; exact hpushed, hgd⟩
          show s3.heap.objs.size < h'.objs.size
          omega
      have st6 : tn 0 s6.heap := T.keep _ _ _ st3 fun b _ o e => by rw [eh]; exact keep5 b o e
      refine seg_start rfl (fun A' Q E hq => T.self A' 0 s6 Q E st6 hq) ?_
      refine seg_loop (k := k) hc (hr2.deeper ce) (by rw [hsc]; exact hco) hgen (fun b hb => ?_) T ?_ ?_ ?_ turn m0 (m0 + 1) 0 H3 s6 s6 (Nat.lt_succ_self _) w0 I6 st6 fun b hb => (f3 b hb).1.1
      · intro z
        have h11 := Nat.lt_trans (f3 b hb).2 (show s3.heap.objs.size < h'.objs.size by omega)
        rw [← z] at h11
        exact Nat.lt_irrefl _ h11
      · rw [← hce]; exact hg _ _ _ _ _ _ _ _ (hr2.deeper _)
      · rw [← hce]; exact ht _ _ _ _ _ _ _ _ (hr2.deeper _)
      · rw [← hce]; exact he _ _ _ _ _ _ _ _ (hr2.deeper _)
    · obtain ⟨H', h1, h2, h3, h4, h5⟩ := hf
      exact ⟨H', I3.call' (ch := fp) h1 h3 h4 h2 fun b hb => ⟨(f3 b hb).1.2.2.2.1, (f3 b hb).1.2.1, (f3 b hb).1.2.2.2.2.1, (f3 b hb).1.2.2.2.2.2⟩, h5⟩
  cases hf : codeAmong gpos ps.toList with
  | none =>
    refine wpAny_genexprCodeX hcode (cd.code hPs htr) (cd.tab hPs) hf fun c' h' tk hx hge hlt hco' _ htab' _ => ?_
    obtain ⟨o1, vs, f1, tf, fl, tg, inF, tx, tt, op, _, _, _, _, _, _, _, _, _, htr', _⟩ := hco'
    exact cont _ h' tk _ hx (Nat.le_trans hge (Nat.le_of_lt hlt)) htab'.2 ⟨_, rfl⟩ htr'
  | some cv =>
    refine wpAny_genexprCode_hit hcode (cd.code hPs htr) hf ?_
    exact cont cv s2.heap s2.toks ps (Heap.ExtBut.refl _ _) (Nat.le_refl _) hPs ⟨#[], by simp⟩ htr
theorem call_any_new {b : Bool} {a : Addr} {Q : VK} (hb : b = true) (hh : X.A.handled = none) (hd : X.A.depth < recursionLimit) (h : Fresh X pins σ Q b a s) : wpAny (model X.prog X.w) X.A (call (.builtin "any") [.ref a]) (EP X pins σ Q) X.xe s := by
  subst hb
  obtain ⟨g, n, fp, H₀, s₄, cde, hg, hl, hba, hgs, wake, hfin⟩ := h
  refine call_function_tree F.kind_any F.plain_any F.entry_any (F.args_any1 _) ?_
  unfold Builtin.«any»
  refine wpAny_bind (m := oneArg "any" _) (wpAny_pure ?_)
  refine wpAny_bind (wpAny_pyIter_gen hg ?_)
  refine wpAny_pure ⟨plainId_quiet F.plain_any_loop _, any_gen (X := X) (fp := fp) (H₀ := H₀) (s₄ := s₄) (Q := Q) hh hd (fun c s' hf => ?_) n s hg hl ⟨_, hgs, rfl, wake _ rfl rfl (allBare_setGen hba rfl)⟩⟩
  obtain ⟨H', I', q⟩ := hfin c s' hf
  exact ⟨.bl c, H', I', rfl, q⟩
theorem call_all_new {b : Bool} {a : Addr} {Q : VK} (hb : b = false) (hh : X.A.handled = none) (hd : X.A.depth < recursionLimit) (h : Fresh X pins σ Q b a s) : wpAny (model X.prog X.w) X.A (call (.builtin "all") [.ref a]) (EP X pins σ Q) X.xe s := by
  subst hb
  obtain ⟨g, n, fp, H₀, s₄, cde, hg, hl, hba, hgs, wake, hfin⟩ := h
  refine call_function_tree F.kind_all F.plain_all F.entry_all (F.args_all1 _) ?_
  unfold Builtin.«all»
  refine wpAny_bind (m := oneArg "all" _) (wpAny_pure ?_)
  refine wpAny_bind (wpAny_pyIter_gen hg ?_)
  refine wpAny_pure ⟨plainId_quiet F.plain_all_loop _, all_gen (X := X) (fp := fp) (H₀ := H₀) (s₄ := s₄) (Q := Q) hh hd (fun c s' hf => ?_) n s hg hl ⟨_, hgs, rfl, wake _ rfl rfl (allBare_setGen hba rfl)⟩⟩
  obtain ⟨H', I', q⟩ := hfin c s' hf
  exact ⟨.bl c, H', I', rfl, q⟩
/-- any(elt for tg in iter if ..) -/
theorem pe_anyG {k : Nat} {c P : Addr} {elt tg iter : Expr} {ifs : List Expr} {scope : Scope} {own : List (Str × Nat)} {p pos gpos : Pos} {wi : TI} {g : TG} {tt : TT} {te : TE}
    (hc : X.calm = true) (hr : Room (k + 3) X.A) (hN : X.N.Nodup) (hgl : Gl X "any") (hm : X.mg "any" = none) (TB : TabB X.base X.mg c P) (hcode : X.env.code = .ref c) (ok : BlkOk X.N X.env.scope scope own) (hcell : ∀ y ∈ scope.names, y.2 ≠ .cell) (hdot : scope.names.lookup (".0" : Str) = some NameKind.local)
    (hco : scope.isCoroutine = false) (hi : PI X tg iter wi) (hg : InGen X k scope fun Y => PG Y tg g) (ht : InGen X k scope fun Y => PTs Y ifs tt) (he : InGen X k scope fun Y => PE Y elt te)
    (hs : ∀ v, genFold iter X.env v = pure v)
    (hst : starEach [.GeneratorExp elt [⟨tg, iter, ifs, 0⟩] scope gpos] X.env = (false, eval (.GeneratorExp elt [⟨tg, iter, ifs, 0⟩] scope gpos) X.env) :: starEach [] X.env := by rfl) :
    PE X (.Call (.Name "any" p) [.GeneratorExp elt [⟨tg, iter, ifs, 0⟩] scope gpos] [] pos) (tGx true P wi g tt te (own.map (·.2))) := by
  refine ⟨fun pins s σ H Q I h => ?_⟩
  refine wpAny_Call_Name_kw (ld_blt I hgl hm boot_any ?_)
  refine PyProof.Rows.callWith_builtin1 ?_ hst (by rfl)
  rw [hst]
  show wpAny _ _ (spliced ((false, eval (.GeneratorExp elt [⟨tg, iter, ifs, 0⟩] scope gpos) X.env) :: backTo pos (starEach [] X.env))) _ _ s
  refine Calls.spliced_cons (gen_make hc hr hN TB hcode ok hcell hdot hco hi hg ht he hs I h fun a s5 hF => ?_)
  refine Calls.spliced_nil ?_
  exact call_any_new rfl hr.hd (by have := hr.dp; omega) hF
/-- all(elt for tg in iter if ..) -/
theorem pe_allG {k : Nat} {c P : Addr} {elt tg iter : Expr} {ifs : List Expr} {scope : Scope} {own : List (Str × Nat)} {p pos gpos : Pos} {wi : TI} {g : TG} {tt : TT} {te : TE}
    (hc : X.calm = true) (hr : Room (k + 3) X.A) (hN : X.N.Nodup) (hgl : Gl X "all") (hm : X.mg "all" = none) (hbo : bootBuiltins "all" = some (.builtin "all")) (TB : TabB X.base X.mg c P) (hcode : X.env.code = .ref c) (ok : BlkOk X.N X.env.scope scope own) (hcell : ∀ y ∈ scope.names, y.2 ≠ .cell) (hdot : scope.names.lookup (".0" : Str) = some NameKind.local)
    (hco : scope.isCoroutine = false) (hi : PI X tg iter wi) (hg : InGen X k scope fun Y => PG Y tg g) (ht : InGen X k scope fun Y => PTs Y ifs tt) (he : InGen X k scope fun Y => PE Y elt te)
    (hs : ∀ v, genFold iter X.env v = pure v)
    (hst : starEach [.GeneratorExp elt [⟨tg, iter, ifs, 0⟩] scope gpos] X.env = (false, eval (.GeneratorExp elt [⟨tg, iter, ifs, 0⟩] scope gpos) X.env) :: starEach [] X.env := by rfl) :
    PE X (.Call (.Name "all" p) [.GeneratorExp elt [⟨tg, iter, ifs, 0⟩] scope gpos] [] pos) (tGx false P wi g tt te (own.map (·.2))) := by
  refine ⟨fun pins s σ H Q I h => ?_⟩
  refine wpAny_Call_Name_kw (ld_blt I hgl hm hbo ?_)
  refine PyProof.Rows.callWith_builtin1 ?_ hst (by rfl)
  rw [hst]
  show wpAny _ _ (spliced ((false, eval (.GeneratorExp elt [⟨tg, iter, ifs, 0⟩] scope gpos) X.env) :: backTo pos (starEach [] X.env))) _ _ s
  refine Calls.spliced_cons (gen_make hc hr hN TB hcode ok hcell hdot hco hi hg ht he hs I h fun a s5 hF => ?_)
  refine Calls.spliced_nil ?_
  exact call_all_new rfl hr.hd (by have := hr.dp; omega) hF
end
end Gx
set_option Elab.async false
set_option linter.all false
set_option maxRecDepth 100000
set_option maxHeartbeats 2000000
/-! ### a generator expression within a generator expression: the outer one's code object is made while the def runs, and has a table of its own -/
namespace Gx
open PySem PySem.Spec PyProof.Rows L2 GxR GenW
/-- the object at c is a code object whose table is at P -/
def CodeH (c P : Addr) : HO := .ext fun h => PySem.W.CodeHd h c P
theorem codeH_ne {c P : Addr} (ps : Array Value) : CodeH c P ≠ .tbl ps := fun z => by
  unfold CodeH at z
  cases z
theorem codeH_at {P : Program} {w : World} {H : Hp} {h : Heap} {c P1 : Addr} (hok : HOk P w H h) (e : H c = some (CodeH c P1)) : PySem.W.CodeHd h c P1 := (hok c _ e).1
/-- a table each of whose code objects has a table of its own -/
def TabD (H : Hp) (P : Addr) : Prop := ∃ ps : Array Value, H P = some (.tbl ps) ∧ TriplesOk ps.toList ∧ ∀ (pos : Pos) (cv : Value), codeAmong pos ps.toList = some cv →
  ∃ c1 P1, cv = .ref c1 ∧ P1 ≠ P ∧ H c1 = some (CodeH c1 P1) ∧ TabG H P1
theorem TabD.g {H : Hp} {P : Addr} (h : TabD H P) : TabG H P := let ⟨ps, a, b, _⟩ := h; ⟨ps, a, b⟩
theorem TabD.nil {H : Hp} {P : Addr} (h : H P = some (.tbl #[])) : TabD H P := ⟨#[], h, True.intro, fun pos cv hc => by
  have z : codeAmong pos [] = some cv := hc
  simp [codeAmong] at z⟩
/-- all but the tables stays, the tables stay tables -/
def Kt (H H' : Hp) : Prop := LamX.ExtN H H' ∧ ∀ P, TabG H P → TabG H' P
theorem Kt.refl (H : Hp) : Kt H H := ⟨LamX.ExtN.refl H, fun _ h => h⟩
theorem Kt.trans {H H1 H2 : Hp} (a : Kt H H1) (b : Kt H1 H2) : Kt H H2 := ⟨a.1.trans b.1, fun P h => b.2 P (a.2 P h)⟩
/-- the code object stands in the table at P -/
def InTab (H : Hp) (P : Addr) (cv : Value) : Prop := ∃ (pos : Pos) (ps : Array Value), H P = some (.tbl ps) ∧ TriplesOk ps.toList ∧ codeAmong pos ps.toList = some cv
theorem among_pre {pos : Pos} {cv : Value} (l l' : List Value) (h : TriplesOk l) (e : codeAmong pos l = some cv) : codeAmong pos (l ++ l') = some cv := by
  fun_induction TriplesOk l with
  | case1 => simp [codeAmong] at e
  | case2 a t b u x rest ih =>
    simp only [List.cons_append, codeAmong] at e ⊢
    split at e
    · rename_i q
      rw [if_pos q]
      exact e
    · rename_i q
      rw [if_neg q]
      exact ih h e
  | case3 l h1 h2 => exact h.elim
theorem InTab.un {fs ex : List Addr} {H H' : Hp} {h h' : Heap} {P : Addr} {cv : Value} (i : InTab H P cv) (u : Un fs ex H H' h h') (t : TabG H' P) : InTab H' P cv := by
  obtain ⟨pos, ps, e1, e2, e3⟩ := i
  obtain ⟨more, e4⟩ := u.tbls P ps e1
  obtain ⟨ps', e5, e6⟩ := t
  rw [e4] at e5
  cases e5
  refine ⟨pos, _, e4, e6, ?_⟩
  rw [Array.toList_append]
  exact among_pre _ _ e2 e3
section
variable {X : Cx} {pins : List (Addr × Obj)} {σ : L2.St} {H : Hp} {s : Shared}
theorem off_tbl {H : Hp} {P : Addr} {ps : Array Value} (hP : H P = some (.tbl ps)) : (∀ b u, H b = some u → (∀ q, u ≠ .tbl q) → b ≠ P) ∧ ∀ b, H b = none → b ≠ P := by
  constructor
  · rintro b u e q rfl
    rw [hP] at e
    exact q ps (Option.some.inj e).symm
  · rintro b e rfl
    rw [hP] at e
    cases e
theorem has_free {scope : Scope} {own : List (Str × Nat)} (I : Inv X pins σ H s) (ok : BlkOk X.N X.env.scope scope own) (y : Str × NameKind) (hy : y ∈ scope.names) (e : y.2 = .free) : ∃ c, X.env.cells.lookup y.1 = some c :=
  (ok.free y hy e).elim (fun k => I.ok.has _ (.inl k)) fun k => I.ok.has _ (.inr k)
theorem turn_old {tg : Expr} {J : It} {fp : List Addr} {it : Addr} {tn : Nat → Heap → Prop} {i : Nat} {h : Heap} {P : Program} {w : World} {K : PySem.W.Frag} (T : Turn P w K tg J fp it tn) (st : tn i h) (b : Addr) (hb : b ∈ fp) : b < h.objs.size :=
  let ⟨_, e, _⟩ := T.obj _ _ st b hb
  Heap.lt_size e
/-- the table has grown by a new code object at c with its empty table at P1 -/
theorem inv_tabD {P c P1 : Addr} {ps more : Array Value} {h' : Heap} {g' : Array GenState} {d' : Drawn} {t' : Nat} (I : Inv X pins σ H s) (hP : H P = some (.tbl ps)) (k : ∀ b o, b ≠ P → s.heap.get? b = some o → h'.get? b = some o)
    (hm : h'.get? P = some { cls := .none, data := .fields (ps ++ more) }) (hc : s.heap.objs.size ≤ c) (hp1 : s.heap.objs.size ≤ P1) (ne : c ≠ P1) (ho : PySem.W.CodeHd h' c P1) (h1 : h'.get? P1 = some { cls := .none, data := .fields #[] }) (hg : AllBare g') :
    Inv X pins σ (upd (upd (upd H P (.tbl (ps ++ more))) c (CodeH c P1)) P1 (.tbl #[])) { s with heap := h', gens := g', drawn := d', toks := t' } := by
  have nC : H c = none := I.hok.fresh hc
  have n1 : H P1 = none := I.hok.fresh hp1
  have nPc : P ≠ c := ne_of_none hP nC
  have nP1 : P ≠ P1 := ne_of_none hP n1
  have at_ : ∀ b, b ≠ P → b ≠ c → b ≠ P1 → upd (upd (upd H P (.tbl (ps ++ more))) c (CodeH c P1)) P1 (.tbl #[]) b = H b := fun b h1 h2 h3 => by rw [upd_ne h3, upd_ne h2, upd_ne h1]
  have atP : upd (upd (upd H P (.tbl (ps ++ more))) c (CodeH c P1)) P1 (.tbl #[]) P = some (.tbl (ps ++ more)) := by rw [upd_ne nP1, upd_ne nPc, upd_same]
  have atc : upd (upd (upd H P (.tbl (ps ++ more))) c (CodeH c P1)) P1 (.tbl #[]) c = some (CodeH c P1) := by rw [upd_ne ne, upd_same]
  have nP := (off_tbl hP).1
  have nN := (off_tbl hP).2
  have lt' : ∀ {d}, s.heap.objs.size ≤ d → ∀ b o, s.heap.get? b = some o → b ≠ d := fun {d} hd b o e z => by
    rw [z] at e
    exact Nat.lt_irrefl _ (Nat.lt_of_lt_of_le (Heap.lt_size e) hd)
  have sm : ∀ b u, H b = some u → b ≠ c ∧ b ≠ P1 := fun b u e => ⟨ne_of_none e nC, ne_of_none e n1⟩
  have grown : ∀ b o, s.heap.get? b = some o → H b = none → h'.get? b = some o := fun b o e n => k b o (nN b n) e
  refine I.step (ch := []) nofun (fun b o _ _ _ e n => grown b o e n) (fun b o _ _ _ e n => ⟨o.slots, grown b o e n⟩)
    (fun b o _ e n => by rw [at_ b (nN b n) (lt' hc b o e) (lt' hp1 b o e)]; exact n) (fun b o _ e => ?_) (fun b xs e => by rw [at_ b (nP b _ e (fun q z => by cases z)) (sm b _ e).1 (sm b _ e).2]; exact e) (fun b o u e => by rw [at_ b (nP b _ e (fun q z => by cases z)) (sm b _ e).1 (sm b _ e).2]; exact e) (fun b qs e => ?_) (fun m hn => ?_) (fun b u e => ?_) hg
  · by_cases hb : b = P
    · rw [hb]
      exact ⟨_, hm⟩
    · exact ⟨o, k b o hb e⟩
  · by_cases hb : b = P
    · rw [hb, hP] at e
      cases e
      rw [hb, atP]
      exact ⟨more, rfl⟩
    · rw [at_ b hb (sm b _ e).1 (sm b _ e).2, e]
      exact ⟨#[], by simp⟩
  · obtain ⟨ob, es, ep, ho, r⟩ := hn
    exact ⟨ob, es, ep, k _ ob (nN _ I.free) ho, r⟩
  · by_cases hb1 : b = P1
    · rw [hb1, upd_same] at e
      cases e
      rw [hb1]
      exact h1
    · by_cases hb : b = c
      · rw [hb, atc] at e
        cases e
        rw [hb]
        refine ⟨ho, ?_, fun h1 h2 a st => ?_⟩
        · obtain ⟨oc, _, _, _, _, _, _, _, _, e1, _⟩ := ho
          exact ⟨oc, e1⟩
        · obtain ⟨o, vs, file, tf, flags, tg, inF, text, tt, e, r⟩ := a
          exact ⟨o, vs, file, tf, flags, tg, inF, text, tt, st _ e, r⟩
      · by_cases hb2 : b = P
        · rw [hb2, atP] at e
          cases e
          rw [hb2]
          exact hm
        · rw [at_ b hb2 hb hb1] at e
          refine (I.hok b u e).stay (fun d v hd q => k d v ?_ q) (fun d q => by rw [at_ d (nP d _ q (fun q z => by cases z)) (sm d _ q).1 (sm d _ q).2]; exact q) fun d xs q => by rw [at_ d (nP d _ q (fun q z => by cases z)) (sm d _ q).1 (sm d _ q).2]; exact q
          rcases hd with z | z
          · rw [z]
            exact hb2
          · exact nP d _ z (fun q z => by cases z)
theorem tabD_new {H : Hp} {P c P1 : Addr} {ps : Array Value} {pos : Pos} (h : TabD H P) (hP : H P = some (.tbl ps)) (nC : H c = none) (n1 : H P1 = none) (ne : c ≠ P1) (ht : TriplesOk (ps ++ #[rawInt pos.line, rawInt pos.col, Value.ref c]).toList) :
    TabD (upd (upd (upd H P (.tbl (ps ++ #[rawInt pos.line, rawInt pos.col, Value.ref c]))) c (CodeH c P1)) P1 (.tbl #[])) P ∧ Kt H (upd (upd (upd H P (.tbl (ps ++ #[rawInt pos.line, rawInt pos.col, Value.ref c]))) c (CodeH c P1)) P1 (.tbl #[])) := by
  have nPc : P ≠ c := ne_of_none hP nC
  have nP1 : P ≠ P1 := ne_of_none hP n1
  have at_ : ∀ b, b ≠ P → b ≠ c → b ≠ P1 → upd (upd (upd H P (.tbl (ps ++ #[rawInt pos.line, rawInt pos.col, Value.ref c]))) c (CodeH c P1)) P1 (.tbl #[]) b = H b := fun b h1 h2 h3 => by rw [upd_ne h3, upd_ne h2, upd_ne h1]
  have nP := (off_tbl hP).1
  obtain ⟨ps', e1, e2, e3⟩ := h
  rw [hP] at e1
  cases e1
  refine ⟨⟨_, by rw [upd_ne nP1, upd_ne nPc, upd_same], ht, fun p' cv hcv => ?_⟩, fun b o e n => ?_, fun P' t => ?_⟩
  · have hl : (ps ++ #[rawInt pos.line, rawInt pos.col, Value.ref c]).toList = ps.toList ++ [rawInt pos.line, rawInt pos.col, .ref c] := by simp
    rw [hl] at hcv
    rcases LamX.among_app _ e2 hcv with z | z
    · obtain ⟨c1, Q1, z1, z2, z3, ps1, z4, z5⟩ := e3 p' cv z
      exact ⟨c1, Q1, z1, z2, by rw [at_ c1 (nP c1 _ z3 codeH_ne) (ne_of_none z3 nC) (ne_of_none z3 n1)]; exact z3, ps1, by rw [at_ Q1 z2 (ne_of_none z4 nC) (ne_of_none z4 n1)]; exact z4, z5⟩
    · exact ⟨c, P1, z, Ne.symm nP1, by rw [upd_ne ne, upd_same], #[], by rw [upd_same], True.intro⟩
  · rw [at_ b (nP b _ e n) (ne_of_none e nC) (ne_of_none e n1)]
    exact e
  · obtain ⟨qs, z4, z5⟩ := t
    by_cases hq : P' = P
    · rw [hq]
      exact ⟨_, by rw [upd_ne nP1, upd_ne nPc, upd_same], ht⟩
    · exact ⟨qs, by rw [at_ P' hq (ne_of_none z4 nC) (ne_of_none z4 n1)]; exact z4, z5⟩
theorem tabD_grow {H : Hp} {P P1 : Addr} {ps ps' : Array Value} (h : TabD H P) (n : P1 ≠ P) (hP : H P1 = some (.tbl ps)) (ht : TriplesOk ps'.toList) : TabD (upd H P1 (.tbl ps')) P ∧ Kt H (upd H P1 (.tbl ps')) := by
  have nP : ∀ b u, H b = some u → (∀ q, u ≠ .tbl q) → b ≠ P1 := fun b u e q z => by
    rw [z, hP] at e
    exact q ps (Option.some.inj e).symm
  obtain ⟨qs, e1, e2, e3⟩ := h
  refine ⟨⟨qs, by rw [upd_ne (Ne.symm n)]; exact e1, e2, fun p' cv hcv => ?_⟩, fun b o e n => ?_, fun P' t => ?_⟩
  · obtain ⟨c1, Q1, z1, z2, z3, z4⟩ := e3 p' cv hcv
    refine ⟨c1, Q1, z1, z2, by rw [upd_ne (nP c1 _ z3 codeH_ne)]; exact z3, ?_⟩
    by_cases hq : Q1 = P1
    · rw [hq]
      exact ⟨ps', upd_same, ht⟩
    · obtain ⟨ps1, z5, z6⟩ := z4
      exact ⟨ps1, by rw [upd_ne hq]; exact z5, z6⟩
  · rw [upd_ne (nP b _ e n)]
    exact e
  · by_cases hq : P' = P1
    · rw [hq]
      exact ⟨ps', upd_same, ht⟩
    · obtain ⟨ps1, z5, z6⟩ := t
      exact ⟨ps1, by rw [upd_ne hq]; exact z5, z6⟩
/-- any (b), all (not b) of (elt for tg in iter if ..), the def's table at P one with tables of its own -/
def tGd (b : Bool) (P : Addr) (wi : TI) (g : TG) (tt : TT) (te : TE) (vs : List Nat) : TE := fun σ H Q => wi σ H fun J H1 => TabD H1 P ∧ ∀ H2, Kt H1 H2 → TabD H2 P →
  ∃ W : Nat → Nat → Hp → Prop, (∃ m, W 0 m H2) ∧ ∀ i m H, W i m H → tTurn b J σ g tt te vs Q W i m H
/-- what the frame's rules are asked for, the code object one of the table at P -/
abbrev InGenD (X : Cx) (k : Nat) (P : Addr) (scope : Scope) (φ : Cx → Prop) : Prop :=
  ∀ (A : Around) (s : Shared) (H : Hp) (C : Addr) (cl : List (Str × Addr)) (code : Value) (fp : List Addr) (pn : List (Addr × Obj)), Room k A → InTab H P code → φ (genX X A s H (genEnv scope cl C code builtinsNs X.env) fp pn)
theorem cells_inj : ∀ (names : List (Str × NameKind)) (n : Nat) (acc : List (Str × Addr)), (∀ x ∈ acc, ∀ y ∈ acc, x.2 = y.2 → x.1 = y.1) → (∀ x ∈ acc, x.2 < n) → ∀ x ∈ cellsFrom n names acc, ∀ y ∈ cellsFrom n names acc, x.2 = y.2 → x.1 = y.1
  | [], _, _, h, _ => h
  | (nm, kd) :: r, n, acc, h, hl => by
    unfold cellsFrom
    split
    · refine cells_inj r (n + 1) _ (fun x hx y hy e => ?_) fun x hx => ?_
      · rcases List.mem_cons.mp hx with rfl | hx <;> rcases List.mem_cons.mp hy with rfl | hy
        · rfl
        · have h1 := hl y hy
          have e : n = y.2 := e
          exact absurd h1 (by rw [e]; exact Nat.lt_irrefl _)
        · have h1 := hl x hx
          have e : x.2 = n := e
          exact absurd h1 (by rw [e]; exact Nat.lt_irrefl _)
        · exact h x hx y hy e
      · rcases List.mem_cons.mp hx with rfl | hx
        · exact Nat.lt_succ_self _
        · exact Nat.lt_succ_of_lt (hl x hx)
    · exact cells_inj r n acc h hl
theorem cells_skip : ∀ (names : List (Str × NameKind)) (n : Nat) (acc : List (Str × Addr)) {y : Str}, (y, NameKind.cell) ∉ names → (cellsFrom n names acc).lookup y = acc.lookup y
  | [], _, _, _, _ => rfl
  | (nm, kd) :: r, n, acc, y, h => by
    unfold cellsFrom
    have hr : (y, NameKind.cell) ∉ r := fun z => h (List.mem_cons_of_mem _ z)
    split
    · rename_i hk
      have ek : kd = .cell := by cases kd <;> first | rfl | cases hk
      subst ek
      rw [cells_skip r _ _ hr, List.lookup_cons]
      have : (y == nm) = false := by
        rw [beq_eq_false_iff_ne]
        exact fun e => h (by rw [e]; exact List.mem_cons_self)
      rw [this]
    · exact cells_skip r _ _ hr
theorem pushC_le : ∀ (names : List (Str × NameKind)) (h : Heap), h.objs.size ≤ (pushCells h names).objs.size
  | [], _ => Nat.le_refl _
  | (nm, kd) :: r, h => by
    unfold pushCells
    split
    · refine Nat.le_trans ?_ (pushC_le r _)
      rw [Heap.size_push]
      exact Nat.le_succ _
    · exact pushC_le r h
/-- the generator object of the n-th generator, its two names of the texts ahead of t -/
abbrev genObj (n t : Nat) (q : Str) : Obj := { cls := .type "generator", data := .fields #[.int n 0, .str "<genexpr>" (t + 1), .str (q ++ "<genexpr>") (t + 1 + 1)] }
/-- what is asked when the generator stands: its frame at the heap's end has the one name and room for its cells, its object lies behind -/
def Born (ge : Expr) (scope : Scope) (cl : List (Str × Addr)) (it code : Value) (env : Env) (Q : Value → Shared → Prop) (bi : Addr) (s : Shared) : Prop :=
  ∀ h', h'.Ns s.heap.objs.size (fun y => if y = ".0" then some it else none) → Heap.SameBut s.heap.objs.size (pushCells (s.heap.push { cls := .type "frame", data := .dict #[] }) scope.names) h' →
    Q (.ref h'.objs.size) ⟨h'.push (genObj s.gens.size s.toks env.qual), s.gens.push (.fresh (.compStart ge 0 it .none (genEnv scope (cellsFrom (s.heap.objs.size + 1) scope.names cl) s.heap.objs.size code bi env))), s.drawn, s.toks + 1 + 1 + 1, s.os⟩
theorem gen_born {M : Model} {A : Around} {E : Value → Shared → Prop} {s : Shared} {env : Env} {elt target iter : Expr} {ifs : List Expr} {scope : Scope} {cl : List (Str × Addr)} {pos : Pos} {Q : Value → Shared → Prop}
    (hco : scope.isCoroutine = false) (hclos : closureFor scope env = pure cl) (dot : scope.names.lookup (".0" : Str) = some NameKind.local) (fn : scope.kind = .function) (deep : A.depth < recursionLimit) (hs : ∀ x, genFold iter env x = pure x)
    (h : wpAny M A (eval iter env) (fun xv => wpAny M A (pyIter xv) (fun it s₂ => s₂.heap.NoLimit ∧ wpAny M A (genexprCode env pos (env.qual ++ "<genexpr>") scope)
      (fun code => wpAny M A (builtinsFor env.globals env.builtins) (Born (.GeneratorExp elt [⟨target, iter, ifs, 0⟩] scope pos) scope cl it code env Q) E) E s₂) E) E s) :
    wpAny M A (eval (.GeneratorExp elt [⟨target, iter, ifs, 0⟩] scope pos) env) Q E s := by
  rw [eval_GeneratorExp1 (hco := hco), hclos]
  apply wpAny_bind
  apply thn h
  intro xv s1 h1
  apply wpAny_bind
  apply wpAny_standAt
  apply wpAny_bind
  apply wpAny_of_eq (hs xv)
  apply wpAny_bind
  apply wpAny_holding
  apply thn h1
  rintro it s2 ⟨free, h2⟩
  apply wpAny_bind
  apply wpAny_enterFrame free deep
  apply wpAny_bind
  apply wpAny_pure
  apply wpAny_bind
  apply thn h2
  intro code s3 h3
  apply wpAny_bind
  apply thn h3
  intro bi s4 born
  have fit : A.depth < recursionLimit := deep
  have named := (Heap.Ns.new s4.heap (.type "frame")).keeps (pushCells_keeps scope.names (s4.heap.push { cls := .type "frame", data := .dict #[] }))
  simp only [newFunctionEnv, Option.isSome, Bool.false_eq_true, ↓reduceIte]
  apply wpAny_bind
  apply wpAny_bind
  apply wpAny_alloc
  apply wpAny_bind
  apply wpAny_layCells
  · intro y k cs
    cases k <;> rfl
  rw [List.forIn_cons, show (Shared.heap { s4 with heap := s4.heap.push { cls := .type "frame", data := .dict #[] } }).objs.size = s4.heap.objs.size + 1 from Heap.size_push ..]
  apply wpAny_bind
  apply wpAny_bind
  apply wpAny_bind
  refine wpAny_storeName_local (by exact dot) named ?_ (by simp only [fn]; rfl)
  · intro g hg same
    apply wpAny_pure
    apply wpAny_pure
    apply wpAny_pure
    simp only [newGenerator, newFields]
    apply wpAny_bind
    apply wpAny_newGen
    apply wpAny_bind
    apply wpAny_mkText
    apply wpAny_bind
    apply wpAny_mkText
    apply wpAny_newObj_type
    · exact born g hg same
    · size_fits
theorem gen_startC {scope : Scope} {own : List (Str × Nat)} {fp : List Addr} {A : Around} {code : Value} {pn : List (Addr × Obj)} {s' : Shared} {m : Str → Option Value} {ce : Env} (I : Inv X pins σ H s) (ok : BlkOk X.N X.env.scope scope own)
    (hN : X.N.Nodup) (hfp : ∀ b ∈ fp, FpOk X pins H b ∧ b < s.heap.objs.size)
    (hce : ce = genEnv scope (cellsFrom (s.heap.objs.size + 1) scope.names (cloFrom X.env.cells scope.names [])) s.heap.objs.size code builtinsNs X.env) (hA : A.frames = some (ce :: X.stack)) (hh : A.handled = none)
    (hos : s'.os = s.os) (hb : AllBare s'.gens) (kp : ∀ b o, s.heap.get? b = some o → s'.heap.get? b = some o) (hn : s'.heap.Ns s.heap.objs.size m)
    (hnew : ∀ c, (pushCells (s.heap.push { cls := .type "frame", data := .dict #[] }) scope.names).IsCell c none → s.heap.objs.size < c → s'.heap.IsCell c none)
    (hpn : ∀ p ∈ pn, s.heap.objs.size < p.1 ∧ s'.heap.get? p.1 = some p.2 ∧ ∀ v, p.2.data ≠ .cell v) :
    Inv (genX X A s H ce fp pn) [] (wipe σ (own.map (·.2))) H s' := by
  have hfree := has_free I ok
  have hL : ce.locals = s.heap.objs.size := by rw [hce]; rfl
  have hcl : ce.cells = cellsFrom (s.heap.objs.size + 1) scope.names (cloFrom X.env.cells scope.names []) := by rw [hce]; rfl
  have hsc : ce.scope = scope := by rw [hce]; rfl
  have cm : ∀ {y c}, (y, c) ∈ cloFrom X.env.cells scope.names [] → X.env.cells.lookup y = some c ∧ c < s.heap.objs.size := fun {y c} hm => by
    rcases cloFrom_mem hm with h1 | ⟨h1, h2⟩
    · cases h1
    · obtain ⟨c', hc'⟩ := hfree _ h1 rfl
      have hc2 : X.env.cells.lookup y = some c' := hc'
      rw [hc2] at h2
      have h3 : c = c' := h2
      subst h3
      obtain ⟨w, z⟩ := I.cell _ _ hc2
      exact ⟨hc2, z.lt⟩
  have mem : ∀ {y c}, ce.cells.lookup y = some c → (X.env.cells.lookup y = some c ∧ c < s.heap.objs.size) ∨ (s.heap.objs.size < c ∧ s'.heap.IsCell c none) := fun {y c} e => by
    rw [hcl] at e
    have hm := PySem.mem_of_lookup e
    rw [← Heap.size_push s.heap { cls := .type "frame", data := .dict #[] }] at hm
    rcases oc_cells_mem hm with h | ⟨h1, h2⟩
    · exact .inl (cm h)
    · rw [Heap.size_push] at h1
      exact .inr ⟨h1, hnew c h2 h1⟩
  have inj : ∀ {y z c}, ce.cells.lookup y = some c → ce.cells.lookup z = some c → y = z := fun {y z c} e1 e2 => by
    rw [hcl] at e1 e2
    refine cells_inj scope.names (s.heap.objs.size + 1) _ (fun p hp q hq e => ?_) (fun p hp => ?_) _ (PySem.mem_of_lookup e1) _ (PySem.mem_of_lookup e2) rfl
    · obtain ⟨p1, p2⟩ := p
      obtain ⟨q1, q2⟩ := q
      have e : p2 = q2 := e
      subst e
      exact I.ok.inj _ _ _ (cm hp).1 (cm hq).1
    · obtain ⟨p1, p2⟩ := p
      exact Nat.lt_succ_of_lt (cm hp).2
  have look : ∀ {y}, scope.names.lookup y = some .free → ∃ c, ce.cells.lookup y = some c ∧ X.env.cells.lookup y = some c := fun {y} hl => by
    have hy : (y, NameKind.free) ∈ scope.names := PySem.mem_of_lookup hl
    obtain ⟨c', e'⟩ := mem_lookup (cloFrom_has (cells := X.env.cells) (acc := []) hy)
    have nc : (y, NameKind.cell) ∉ scope.names := fun hm => by
      have := ok.uniq _ hm
      rw [show scope.names.lookup y = _ from hl] at this
      cases this
    refine ⟨c', ?_, (cm (PySem.mem_of_lookup e')).1⟩
    rw [hcl, cells_skip scope.names _ _ nc]
    exact e'
  have okB : (genX X A s H ce fp pn).Ok := by
    refine ⟨I.ok.mod, by show ce.scope.kind = _; rw [hsc]; exact ok.kind, by show ce.globals = _; rw [hce]; exact I.ok.glob, by show ce.builtins = _; rw [hce]; rfl, by show s.heap.objs.size ≤ ce.locals; rw [hL]; exact Nat.le_refl _,
      fun y z c e1 e2 => ?_, fun y hy => ?_, fun y c z e => ?_, fun _ => hh, hA, .inr ⟨rfl, ?_⟩, fun b hb => ⟨?_, fun y c e z => ?_⟩, I.bs, Nat.le_trans I.ok.bsz I.sz, fun b o e hb => ?_, fun b hb z => ?_, I.stack, I.stkFree⟩
    · exact inj e1 e2
    · show ∃ c, ce.cells.lookup y = some c
      rcases hy with hy | hy
      · have hy : ce.scope.names.lookup y = some .cell := hy
        rw [hsc] at hy
        rw [hcl]
        exact Option.isSome_iff_exists.mp (oc_cell_some _ _ _ _ hy)
      · have hy : ce.scope.names.lookup y = some .free := hy
        rw [hsc] at hy
        obtain ⟨c, h1, _⟩ := look hy
        exact ⟨c, h1⟩
    · have z : (ce.scope.names.lookup y == some NameKind.cell) = true := z
      rw [hsc] at z
      have z : scope.names.lookup y = some NameKind.cell := eq_of_beq z
      rw [hcl] at e
      have hm := PySem.mem_of_lookup e
      rw [← Heap.size_push s.heap { cls := .type "frame", data := .dict #[] }] at hm
      rcases oc_cells_mem hm with h | ⟨h1, h2⟩
      · exfalso
        rcases cloFrom_mem h with k | ⟨k, _⟩
        · cases k
        · have := ok.uniq _ k
          rw [show scope.names.lookup y = _ from z] at this
          cases this
      · rw [Heap.size_push] at h1
        exact Nat.le_of_lt h1
    · show ce.frame = some ce.locals
      rw [hce]; rfl
    · show b ≠ ce.locals
      rw [hL]; exact Nat.ne_of_lt (hfp b hb).2
    · rcases mem e with h | h
      · exact (hfp b hb).1.2.2.2.2.1 y c h.1 z
      · have h1 := h.1
        rw [z] at h1
        exact Nat.lt_irrefl _ (Nat.lt_trans h1 (hfp b hb).2)
    · rcases (hfp b hb).1.2.2.2.1 with z | z
      · exact I.ok.noex b o e z
      · exact (Nat.lt_irrefl _ (Nat.lt_of_lt_of_le (Nat.lt_of_lt_of_le (Heap.lt_size e) I.ok.bsz) z)).elim
    · rcases List.mem_cons.mp (I.stkSub b z) with z | z
      · exact (hfp b hb).1.2.1 z
      · exact (hfp b hb).1.2.2.1 z
  refine ⟨okB, hos, hb, Un.kept kp, ⟨m, ?_, fun i y av e1 e2 e3 => ?_⟩, fun y c e => ?_, ?_, fun y c e => ?_, fun p hp => ?_, I.hok.kept kp, by rw [wipe_length]; exact I.len⟩
  · show Heap.Ns _ ce.locals _
    rw [hL]
    exact hn
  · obtain ⟨e2, hne⟩ := wipe_some e2
    have hfr : scope.names.lookup y = some .free := by
      have key : ∀ k, ce.scope.names.lookup y = some k → k = .local ∨ k = .cell ∨ k = .free → scope.names.lookup y = some .free := fun k hk hk' => by
        rw [hsc] at hk
        have no : ¬ (k = .local ∨ k = .cell) := fun hh => by
          rcases ok.own _ (PySem.mem_of_lookup hk) hh with e' | e'
          · obtain ⟨p, hp, hpy⟩ := List.mem_map.mp e'
            have e3 := ok.ix p hp
            have : p.1 = y := hpy
            rw [this] at e3
            exact hne (List.mem_map.mpr ⟨p, hp, nodup_ix hN e3 e1⟩)
          · exact e' (List.mem_of_getElem? e1)
        rcases hk' with rfl | rfl | rfl
        · exact absurd (.inl rfl) no
        · exact absurd (.inr rfl) no
        · exact hk
      have e3 : Vis ce.scope y := e3
      rcases e3 with e3 | e3 | e3
      · exact key _ e3 (.inl rfl)
      · exact key _ e3 (.inr (.inl rfl))
      · exact key _ e3 (.inr (.inr rfl))
    obtain ⟨m0, hn0, hl⟩ := I.loc
    have hvis : Vis X.env.scope y := (ok.free _ (PySem.mem_of_lookup hfr) rfl).elim (fun k => .inr (.inl k)) (fun k => .inr (.inr k))
    obtain ⟨w, r, q⟩ := hl i y av e1 e2 hvis
    refine ⟨w, r, .inr ⟨.inr ?_, ?_⟩⟩
    · show ce.scope.names.lookup y = _
      rw [hsc]; exact hfr
    obtain ⟨c, h1, h2⟩ := look hfr
    rcases q with ⟨k, _⟩ | ⟨_, c', e', z⟩
    · have k : X.env.scope.names.lookup y = some .local := k
      rcases ok.free _ (PySem.mem_of_lookup hfr) rfl with k' | k' <;> rw [show X.env.scope.names.lookup y = _ from k'] at k <;> cases k
    · rw [h2] at e'; cases e'
      exact ⟨c, h1, z.keeps kp⟩
  · rcases mem e with h | h
    · obtain ⟨w, z⟩ := I.cell y c h.1
      exact ⟨w, z.keeps kp⟩
    · exact ⟨none, h.2⟩
  · show H ce.locals = none
    rw [hL]; exact I.hok.fresh (Nat.le_refl _)
  · rcases mem e with h | h
    · exact I.freeC y c h.1
    · exact I.hok.fresh (Nat.le_of_lt h.1)
  · rcases List.mem_append.mp hp with hp | hp
    · obtain ⟨h1, h2, h3⟩ := hpn p hp
      refine ⟨h2, I.hok.fresh (Nat.le_of_lt h1), ?_, fun z => ?_, h3⟩
      · show p.1 ≠ ce.locals
        rw [hL]; exact Nat.ne_of_gt h1
      · have z : p.1 ∈ frs X.stack := z
        rcases List.mem_cons.mp (I.stkSub _ z) with z | z
        · have := I.lt
          rw [← z] at this
          exact absurd (Nat.lt_trans this h1) (Nat.lt_irrefl _)
        · exact I.nofs (Nat.le_of_lt h1) z
    · cases hp
/-- what is left once the code object is there -/
theorem gen_cont {k : Nat} {b : Bool} {P0 : Addr} {elt tg iter : Expr} {ifs : List Expr} {scope : Scope} {own : List (Str × Nat)} {gpos : Pos} {g : TG} {tt : TT} {te : TE} {Q : VK} {Q' : Value → Shared → Prop} {code : Value} {it : Addr} {fp : List Addr} {tn : Nat → Heap → Prop} {J : It}
    (hc : X.calm = true) (hr : Room (k + 3) X.A) (hN : X.N.Nodup) (hbm : X.base.BuiltinsAt X.mg P0) (ok : BlkOk X.N X.env.scope scope own) (hco : scope.isCoroutine = false)
    (hg : ∀ (A : Around) (C : Addr) (cl : List (Str × Addr)) (fp : List Addr) (pn : List (Addr × Obj)), Room k A → PG (genX X A s H (genEnv scope cl C code builtinsNs X.env) fp pn) tg g)
    (ht : ∀ (A : Around) (C : Addr) (cl : List (Str × Addr)) (fp : List Addr) (pn : List (Addr × Obj)), Room k A → PTs (genX X A s H (genEnv scope cl C code builtinsNs X.env) fp pn) ifs tt)
    (he : ∀ (A : Around) (C : Addr) (cl : List (Str × Addr)) (fp : List Addr) (pn : List (Addr × Obj)), Room k A → PE (genX X A s H (genEnv scope cl C code builtinsNs X.env) fp pn) elt te)
    (I3 : Inv X pins σ H s) (T : Turn X.prog X.w X.K tg J fp it tn) (st3 : tn 0 s.heap) (f3 : ∀ b ∈ fp, FpOk X pins H b ∧ b < s.heap.objs.size)
    (hW : ∃ W : Nat → Nat → Hp → Prop, (∃ m, W 0 m H) ∧ ∀ i m H, W i m H → tTurn b J σ g tt te (own.map (·.2)) Q W i m H) (hQ : ∀ a s5, Fresh X pins σ Q b a s5 → Q' (.ref a) s5) :
    wpAny (model X.prog X.w) X.A (builtinsFor X.env.globals X.env.builtins) (Born (.GeneratorExp elt [⟨tg, iter, ifs, 0⟩] scope gpos) scope (cloFrom X.env.cells scope.names []) (.ref it) code X.env Q') X.xe s := by
  obtain ⟨bm, ob, e1, e2, e3, e4, e5, e6, e7, e8⟩ := hbm
  refine wpAny_builtinsFor (m := X.mg) (by rw [I3.ok.glob]; exact I3.mod.glob.keeps I3.bk) e1 e2 (I3.bk _ _ e5) e6 e7 e8 ?_
  obtain ⟨W, ⟨m0, w0⟩, turn⟩ := hW
  intro h' hn' hs'
  have hn' : h'.Ns s.heap.objs.size (fun y => if y = ".0" then some (Value.ref it) else none) := hn'
  have hs' : Heap.SameBut s.heap.objs.size (pushCells (s.heap.push { cls := .type "frame", data := .dict #[] }) scope.names) h' := hs'
  have hszz : s.heap.objs.size + 1 ≤ h'.objs.size := by
    have := pushC_le scope.names (s.heap.push { cls := .type "frame", data := .dict #[] })
    rw [Heap.size_push] at this
    rw [hs'.1]
    exact this
  have keep' : ∀ b o, s.heap.get? b = some o → h'.get? b = some o := fun b o e => hs'.extBut b o (Nat.ne_of_lt (Heap.lt_size e)) (pushCells_keeps _ _ b o (Heap.get?_push_of_some _ e))
  refine hQ _ _ ?_
  generalize hgo : genObj s.gens.size s.toks X.env.qual = go
  have hgen : ∀ h : Heap, h.get? h'.objs.size = some go → h.IsGen h'.objs.size s.gens.size := fun h e => by
    subst hgo
    exact ⟨_, _, _, e, rfl, rfl, rfl⟩
  have keep5 : ∀ b o, s.heap.get? b = some o → (h'.push go).get? b = some o := fun b o e => Heap.get?_push_of_some _ (keep' b o e)
  have hpushed : (h'.push go).get? h'.objs.size = some go := by
    subst hgo
    exact Heap.get?_push_size _ rfl
  have hgd : ∀ v, go.data ≠ .cell v := fun v z => by
    subst hgo
    cases z
  generalize hce : genEnv scope (cellsFrom (s.heap.objs.size + 1) scope.names (cloFrom X.env.cells scope.names [])) s.heap.objs.size code builtinsNs X.env = ce
  have bare5 : AllBare (s.gens.push (.fresh (.compStart (.GeneratorExp elt [⟨tg, iter, ifs, 0⟩] scope gpos) 0 (.ref it) .none ce))) := AllBare.push I3.bare rfl
  have hsc : ce.scope = scope := by rw [← hce]; rfl
  have hr2 : Room (k + 1) X.A.in1.in1 := hr.in1.in1
  refine ⟨s.gens.size, m0 + 1, fp, H, s, .compStart (.GeneratorExp elt [⟨tg, iter, ifs, 0⟩] scope gpos) 0 (.ref it) .none ce, ?_, ?_, ?_, ?_, fun s6 eh eo hb6 => ?_, fun c s' hf => ?_⟩
  · subst hgo hce
    exact hgen _ hpushed
  · subst hgo hce
    exact I3.nolimit.keeps keep5
  · subst hgo hce
    exact bare5
  · subst hgo hce
    exact Array.getElem?_push_size ..
  · have eh : s6.heap = h'.push go := by subst hgo hce; exact eh
    have eo : s6.os = s.os := by subst hgo hce; exact eo
    have I6 : Inv (genX X (X.A.in1.in1.deeper ce) s H ce fp [(h'.objs.size, go)]) [] (wipe σ (own.map (·.2))) H s6 := by
      refine gen_startC (code := code) I3 ok hN f3 hce.symm ?_ (hr2.deeper ce).hd eo hb6 (fun b o e => by rw [eh]; exact keep5 b o e) (by rw [eh]; exact hn'.keeps fun b o e => Heap.get?_push_of_some _ e) (fun c hc hlt => by rw [eh]; exact (hc.sameBut hs' (Nat.ne_of_gt hlt)).keeps fun b o e => Heap.get?_push_of_some _ e) fun p hp => ?_
      · show pushEnvs [ce] X.A.frames = _
        rw [I3.ok.frames]
        rfl
      · rw [List.mem_singleton.mp hp]
        refine ⟨?_, by rw [eh]; exact hpushed, hgd⟩
        show s.heap.objs.size < h'.objs.size
        omega
    have st6 : tn 0 s6.heap := T.keep _ _ _ st3 fun b _ o e => by rw [eh]; exact keep5 b o e
    refine seg_start rfl (fun A' Q E hq => T.self A' 0 s6 Q E st6 hq) ?_
    refine seg_loop (k := k) hc (hr2.deeper ce) (by rw [hsc]; exact hco) hgen (fun b hb => ?_) T ?_ ?_ ?_ turn m0 (m0 + 1) 0 H s6 s6 (Nat.lt_succ_self _) w0 I6 st6 fun b hb => (f3 b hb).1.1
    · intro z
      have h11 := Nat.lt_trans (f3 b hb).2 (show s.heap.objs.size < h'.objs.size by omega)
      rw [← z] at h11
      exact Nat.lt_irrefl _ h11
    · rw [← hce]; exact hg _ _ _ _ _ (hr2.deeper _)
    · rw [← hce]; exact ht _ _ _ _ _ (hr2.deeper _)
    · rw [← hce]; exact he _ _ _ _ _ (hr2.deeper _)
  · obtain ⟨H', h1, h2, h3, h4, h5⟩ := hf
    exact ⟨H', I3.call' (ch := fp) h1 h3 h4 h2 fun b hb => ⟨(f3 b hb).1.2.2.2.1, (f3 b hb).1.2.1, (f3 b hb).1.2.2.2.2.1, (f3 b hb).1.2.2.2.2.2⟩, h5⟩
/-- the outer one: the def's own code object at c, its table at P -/
theorem gen_makeD {k : Nat} {c P : Addr} {b : Bool} {elt tg iter : Expr} {ifs : List Expr} {scope : Scope} {own : List (Str × Nat)} {gpos : Pos} {wi : TI} {g : TG} {tt : TT} {te : TE} {Q : VK} {Q' : Value → Shared → Prop}
    (hc : X.calm = true) (hr : Room (k + 3) X.A) (hN : X.N.Nodup) (TB : TabB X.base X.mg c P) (hcode : X.env.code = .ref c) (ok : BlkOk X.N X.env.scope scope own) (hdot : scope.names.lookup (".0" : Str) = some NameKind.local)
    (hco : scope.isCoroutine = false) (hi : PI X tg iter wi) (hg : InGenD X k P scope fun Y => PG Y tg g) (ht : InGenD X k P scope fun Y => PTs Y ifs tt) (he : InGenD X k P scope fun Y => PE Y elt te)
    (hs : ∀ v, genFold iter X.env v = pure v) (I : Inv X pins σ H s) (h : tGd b P wi g tt te (own.map (·.2)) σ H Q) (hQ : ∀ a s5, Fresh X pins σ Q b a s5 → Q' (.ref a) s5) :
    wpAny (model X.prog X.w) X.A (eval (.GeneratorExp elt [⟨tg, iter, ifs, 0⟩] scope gpos) X.env) Q' X.xe s := by
  have hfree := has_free I ok
  refine gen_born hco (closure_ok hfree) hdot ok.kind (by have := hr.dp; omega) hs ?_
  refine thn (hi.run pins s σ H _ I h) fun xv s1 hx => thn hx fun itv s2 h2 => ?_
  obtain ⟨it, fp, tn, J, H2, e, I2, T, st2, f2, hD, q⟩ := h2
  subst e
  refine ⟨I2.nolimit, ?_⟩
  obtain ⟨ps, hP, htr, ent⟩ := id hD
  have hPs : s2.heap.get? P = some { cls := .none, data := .fields ps } := I2.hok P _ hP
  have cd : PySem.W.CodeHd s2.heap c P := TB.code.keeps fun b u e => I2.bk b u e
  have sz := turn_old T st2
  have nP : ∀ b ∈ fp, b ≠ P := fun b hb z => by
    have := (f2 b hb).1
    rw [z, hP] at this
    cases this
  cases hf : codeAmong gpos ps.toList with
  | none =>
    refine wpAny_genexprCodeX hcode (cd.code hPs htr) (cd.tab hPs) hf fun c' h' tk hx hge hlt hco' _ htab' ⟨P', hP', hic, hta⟩ => ?_
    have cdN : PySem.W.CodeHd h' c' P' := .of hic hta
    obtain ⟨o1, vs, f1, tf, fl, tg', inF, tx, tt', op, _, _, _, _, _, _, _, _, _, htr', _⟩ := hco'
    have nc : c' ≠ P' := let ⟨_, _, _, _, _, _, _, _, _, _, _, _, _, _, _, _, _, _, z⟩ := cdN; z
    have hnC : H2 c' = none := I2.hok.fresh hge
    have hnP : H2 P' = none := I2.hok.fresh hP'
    have I3 := inv_tabD (more := #[rawInt gpos.line, rawInt gpos.col, Value.ref c']) (h' := h') (g' := s2.gens) (d' := s2.drawn) (t' := tk) I2 hP (fun b o hb e => hx b o hb e) htab'.2 hge hP' nc cdN hta.2 I2.bare
    obtain ⟨d3, x3⟩ := tabD_new (pos := gpos) hD hP hnC hnP nc htr'
    have nPc : P ≠ c' := ne_of_none hP hnC
    have nP1 : P ≠ P' := ne_of_none hP hnP
    have hin : InTab (upd (upd (upd H2 P (.tbl (ps ++ #[rawInt gpos.line, rawInt gpos.col, Value.ref c']))) c' (CodeH c' P')) P' (.tbl #[])) P (.ref c') := ⟨gpos, _, by rw [upd_ne nP1, upd_ne nPc, upd_same], htr', by
      rw [show (ps ++ #[rawInt gpos.line, rawInt gpos.col, Value.ref c']).toList = ps.toList ++ [rawInt gpos.line, rawInt gpos.col, .ref c'] by simp]
      exact codeAmong_snoc _ htr hf⟩
    refine gen_cont (k := k) (own := own) (g := g) (tt := tt) (te := te) hc hr hN TB.bm ok hco (fun A C cl fp pn hA => hg A _ _ C cl _ fp pn hA hin) (fun A C cl fp pn hA => ht A _ _ C cl _ fp pn hA hin) (fun A C cl fp pn hA => he A _ _ C cl _ fp pn hA hin) I3 T
      (T.keep _ _ _ st2 fun b hb o e => hx b o (nP b hb) e) (fun b hb => ⟨⟨?_, (f2 b hb).2⟩, Nat.lt_of_lt_of_le (sz b hb) (Nat.le_trans hge (Nat.le_of_lt hlt))⟩) (q _ x3 d3) hQ
    rw [upd_ne (Nat.ne_of_lt (Nat.lt_of_lt_of_le (sz b hb) hP')), upd_ne (Nat.ne_of_lt (Nat.lt_of_lt_of_le (sz b hb) hge)), upd_ne (nP b hb)]
    exact (f2 b hb).1
  | some cv =>
    refine wpAny_genexprCode_hit hcode (cd.code hPs htr) hf ?_
    have hin : InTab H2 P cv := ⟨gpos, ps, hP, htr, hf⟩
    exact gen_cont (k := k) (own := own) (g := g) (tt := tt) (te := te) hc hr hN TB.bm ok hco (fun A C cl fp pn hA => hg A _ _ C cl _ fp pn hA hin) (fun A C cl fp pn hA => ht A _ _ C cl _ fp pn hA hin) (fun A C cl fp pn hA => he A _ _ C cl _ fp pn hA hin) I2 T
      st2 (fun b hb => ⟨f2 b hb, sz b hb⟩) (q _ (Kt.refl _) hD) hQ
/-- the inner one: the frame's code object is one of the table at P -/
theorem gen_makeN {k : Nat} {P P0 : Addr} {b : Bool} {elt tg iter : Expr} {ifs : List Expr} {scope : Scope} {own : List (Str × Nat)} {gpos : Pos} {wi : TI} {g : TG} {tt : TT} {te : TE} {Q : VK} {Q' : Value → Shared → Prop}
    (hc : X.calm = true) (hr : Room (k + 3) X.A) (hN : X.N.Nodup) (hbm : X.base.BuiltinsAt X.mg P0) (hcode : InTab X.H_0 P X.env.code) (ok : BlkOk X.N X.env.scope scope own) (hdot : scope.names.lookup (".0" : Str) = some NameKind.local)
    (hco : scope.isCoroutine = false) (hi : PI X tg iter wi) (hg : InGen X k scope fun Y => PG Y tg g) (ht : InGen X k scope fun Y => PTs Y ifs tt) (he : InGen X k scope fun Y => PE Y elt te)
    (hs : ∀ v, genFold iter X.env v = pure v) (I : Inv X pins σ H s) (h : tGd b P wi g tt te (own.map (·.2)) σ H Q) (hQ : ∀ a s5, Fresh X pins σ Q b a s5 → Q' (.ref a) s5) :
    wpAny (model X.prog X.w) X.A (eval (.GeneratorExp elt [⟨tg, iter, ifs, 0⟩] scope gpos) X.env) Q' X.xe s := by
  have hfree := has_free I ok
  refine gen_born hco (closure_ok hfree) hdot ok.kind (by have := hr.dp; omega) hs ?_
  refine thn (hi.run pins s σ H _ I h) fun xv s1 hx => thn hx fun itv s2 h2 => ?_
  obtain ⟨it, fp, tn, J, H2, e, I2, T, st2, f2, hD, q⟩ := h2
  subst e
  refine ⟨I2.nolimit, ?_⟩
  obtain ⟨pos0, qs, hq0, hq1, hq2⟩ := hcode.un I2.base hD.g
  obtain ⟨qs', hq3, hq4, ent⟩ := id hD
  rw [hq0] at hq3
  cases hq3
  obtain ⟨c, P1, hcv, n1, hH, ps, hP, htr⟩ := ent pos0 _ hq2
  have hPs : s2.heap.get? P1 = some { cls := .none, data := .fields ps } := I2.hok P1 _ hP
  have cd : PySem.W.CodeHd s2.heap c P1 := codeH_at I2.hok hH
  have sz := turn_old T st2
  have nP : ∀ b ∈ fp, b ≠ P1 := fun b hb z => by
    have := (f2 b hb).1
    rw [z, hP] at this
    cases this
  cases hf : codeAmong gpos ps.toList with
  | none =>
    refine wpAny_genexprCodeX hcv (cd.code hPs htr) (cd.tab hPs) hf fun c' h' tk hx hge hlt hco' _ htab' _ => ?_
    obtain ⟨o1, vs, f1, tf, fl, tg', inF, tx, tt', op, _, _, _, _, _, _, _, _, _, htr', _⟩ := hco'
    have I3 := inv_tab (more := #[rawInt gpos.line, rawInt gpos.col, Value.ref c']) (h' := h') (g' := s2.gens) (d' := s2.drawn) (t' := tk) I2 hP (fun b o hb e => hx b o hb e) htab'.2 I2.bare
    obtain ⟨d3, x3⟩ := tabD_grow hD n1 hP htr'
    refine gen_cont (k := k) (own := own) (g := g) (tt := tt) (te := te) hc hr hN hbm ok hco (fun A C cl fp pn hA => hg A _ _ C cl _ fp pn hA) (fun A C cl fp pn hA => ht A _ _ C cl _ fp pn hA) (fun A C cl fp pn hA => he A _ _ C cl _ fp pn hA) I3 T
      (T.keep _ _ _ st2 fun b hb o e => hx b o (nP b hb) e) (fun b hb => ⟨⟨?_, (f2 b hb).2⟩, Nat.lt_of_lt_of_le (sz b hb) (Nat.le_trans hge (Nat.le_of_lt hlt))⟩) (q _ x3 d3) hQ
    rw [upd_ne (nP b hb)]
    exact (f2 b hb).1
  | some cv =>
    refine wpAny_genexprCode_hit hcv (cd.code hPs htr) hf ?_
    exact gen_cont (k := k) (own := own) (g := g) (tt := tt) (te := te) hc hr hN hbm ok hco (fun A C cl fp pn hA => hg A _ _ C cl _ fp pn hA) (fun A C cl fp pn hA => ht A _ _ C cl _ fp pn hA) (fun A C cl fp pn hA => he A _ _ C cl _ fp pn hA) I2 T
      st2 (fun b hb => ⟨f2 b hb, sz b hb⟩) (q _ (Kt.refl _) hD) hQ
/-- any(elt for tg in iter if ..) -/
theorem pe_anyD {k : Nat} {c P : Addr} {elt tg iter : Expr} {ifs : List Expr} {scope : Scope} {own : List (Str × Nat)} {p pos gpos : Pos} {wi : TI} {g : TG} {tt : TT} {te : TE}
    (hc : X.calm = true) (hr : Room (k + 3) X.A) (hN : X.N.Nodup) (hgl : Gl X "any") (hm : X.mg "any" = none) (TB : TabB X.base X.mg c P) (hcode : X.env.code = .ref c) (ok : BlkOk X.N X.env.scope scope own) (hdot : scope.names.lookup (".0" : Str) = some NameKind.local)
    (hco : scope.isCoroutine = false) (hi : PI X tg iter wi) (hg : InGenD X k P scope fun Y => PG Y tg g) (ht : InGenD X k P scope fun Y => PTs Y ifs tt) (he : InGenD X k P scope fun Y => PE Y elt te)
    (hs : ∀ v, genFold iter X.env v = pure v)
    (hst : starEach [.GeneratorExp elt [⟨tg, iter, ifs, 0⟩] scope gpos] X.env = (false, eval (.GeneratorExp elt [⟨tg, iter, ifs, 0⟩] scope gpos) X.env) :: starEach [] X.env := by rfl) :
    PE X (.Call (.Name "any" p) [.GeneratorExp elt [⟨tg, iter, ifs, 0⟩] scope gpos] [] pos) (tGd true P wi g tt te (own.map (·.2))) := by
  refine ⟨fun pins s σ H Q I h => ?_⟩
  refine wpAny_Call_Name_kw (ld_blt I hgl hm boot_any ?_)
  refine PyProof.Rows.callWith_builtin1 ?_ hst (by rfl)
  rw [hst]
  show wpAny _ _ (spliced ((false, eval (.GeneratorExp elt [⟨tg, iter, ifs, 0⟩] scope gpos) X.env) :: backTo pos (starEach [] X.env))) _ _ s
  refine Calls.spliced_cons (gen_makeD hc hr hN TB hcode ok hdot hco hi hg ht he hs I h fun a s5 hF => ?_)
  refine Calls.spliced_nil ?_
  exact call_any_new rfl hr.hd (by have := hr.dp; omega) hF
/-- all(elt for tg in iter if ..) -/
theorem pe_allD {k : Nat} {c P : Addr} {elt tg iter : Expr} {ifs : List Expr} {scope : Scope} {own : List (Str × Nat)} {p pos gpos : Pos} {wi : TI} {g : TG} {tt : TT} {te : TE}
    (hc : X.calm = true) (hr : Room (k + 3) X.A) (hN : X.N.Nodup) (hgl : Gl X "all") (hm : X.mg "all" = none) (hbo : bootBuiltins "all" = some (.builtin "all")) (TB : TabB X.base X.mg c P) (hcode : X.env.code = .ref c) (ok : BlkOk X.N X.env.scope scope own) (hdot : scope.names.lookup (".0" : Str) = some NameKind.local)
    (hco : scope.isCoroutine = false) (hi : PI X tg iter wi) (hg : InGenD X k P scope fun Y => PG Y tg g) (ht : InGenD X k P scope fun Y => PTs Y ifs tt) (he : InGenD X k P scope fun Y => PE Y elt te)
    (hs : ∀ v, genFold iter X.env v = pure v)
    (hst : starEach [.GeneratorExp elt [⟨tg, iter, ifs, 0⟩] scope gpos] X.env = (false, eval (.GeneratorExp elt [⟨tg, iter, ifs, 0⟩] scope gpos) X.env) :: starEach [] X.env := by rfl) :
    PE X (.Call (.Name "all" p) [.GeneratorExp elt [⟨tg, iter, ifs, 0⟩] scope gpos] [] pos) (tGd false P wi g tt te (own.map (·.2))) := by
  refine ⟨fun pins s σ H Q I h => ?_⟩
  refine wpAny_Call_Name_kw (ld_blt I hgl hm hbo ?_)
  refine PyProof.Rows.callWith_builtin1 ?_ hst (by rfl)
  rw [hst]
  show wpAny _ _ (spliced ((false, eval (.GeneratorExp elt [⟨tg, iter, ifs, 0⟩] scope gpos) X.env) :: backTo pos (starEach [] X.env))) _ _ s
  refine Calls.spliced_cons (gen_makeD hc hr hN TB hcode ok hdot hco hi hg ht he hs I h fun a s5 hF => ?_)
  refine Calls.spliced_nil ?_
  exact call_all_new rfl hr.hd (by have := hr.dp; omega) hF
/-- .. within: any(elt for tg in iter if ..) -/
theorem pe_anyN {k : Nat} {P P0 : Addr} {elt tg iter : Expr} {ifs : List Expr} {scope : Scope} {own : List (Str × Nat)} {p pos gpos : Pos} {wi : TI} {g : TG} {tt : TT} {te : TE}
    (hc : X.calm = true) (hr : Room (k + 3) X.A) (hN : X.N.Nodup) (hgl : Gl X "any") (hm : X.mg "any" = none) (hbm : X.base.BuiltinsAt X.mg P0) (hcode : InTab X.H_0 P X.env.code) (ok : BlkOk X.N X.env.scope scope own) (hdot : scope.names.lookup (".0" : Str) = some NameKind.local)
    (hco : scope.isCoroutine = false) (hi : PI X tg iter wi) (hg : InGen X k scope fun Y => PG Y tg g) (ht : InGen X k scope fun Y => PTs Y ifs tt) (he : InGen X k scope fun Y => PE Y elt te)
    (hs : ∀ v, genFold iter X.env v = pure v)
    (hst : starEach [.GeneratorExp elt [⟨tg, iter, ifs, 0⟩] scope gpos] X.env = (false, eval (.GeneratorExp elt [⟨tg, iter, ifs, 0⟩] scope gpos) X.env) :: starEach [] X.env := by rfl) :
    PE X (.Call (.Name "any" p) [.GeneratorExp elt [⟨tg, iter, ifs, 0⟩] scope gpos] [] pos) (tGd true P wi g tt te (own.map (·.2))) := by
  refine ⟨fun pins s σ H Q I h => ?_⟩
  refine wpAny_Call_Name_kw (ld_blt I hgl hm boot_any ?_)
  refine PyProof.Rows.callWith_builtin1 ?_ hst (by rfl)
  rw [hst]
  show wpAny _ _ (spliced ((false, eval (.GeneratorExp elt [⟨tg, iter, ifs, 0⟩] scope gpos) X.env) :: backTo pos (starEach [] X.env))) _ _ s
  refine Calls.spliced_cons (gen_makeN hc hr hN hbm hcode ok hdot hco hi hg ht he hs I h fun a s5 hF => ?_)
  refine Calls.spliced_nil ?_
  exact call_any_new rfl hr.hd (by have := hr.dp; omega) hF
/-- .. within: all(elt for tg in iter if ..) -/
theorem pe_allN {k : Nat} {P P0 : Addr} {elt tg iter : Expr} {ifs : List Expr} {scope : Scope} {own : List (Str × Nat)} {p pos gpos : Pos} {wi : TI} {g : TG} {tt : TT} {te : TE}
    (hc : X.calm = true) (hr : Room (k + 3) X.A) (hN : X.N.Nodup) (hgl : Gl X "all") (hm : X.mg "all" = none) (hbo : bootBuiltins "all" = some (.builtin "all")) (hbm : X.base.BuiltinsAt X.mg P0) (hcode : InTab X.H_0 P X.env.code) (ok : BlkOk X.N X.env.scope scope own) (hdot : scope.names.lookup (".0" : Str) = some NameKind.local)
    (hco : scope.isCoroutine = false) (hi : PI X tg iter wi) (hg : InGen X k scope fun Y => PG Y tg g) (ht : InGen X k scope fun Y => PTs Y ifs tt) (he : InGen X k scope fun Y => PE Y elt te)
    (hs : ∀ v, genFold iter X.env v = pure v)
    (hst : starEach [.GeneratorExp elt [⟨tg, iter, ifs, 0⟩] scope gpos] X.env = (false, eval (.GeneratorExp elt [⟨tg, iter, ifs, 0⟩] scope gpos) X.env) :: starEach [] X.env := by rfl) :
    PE X (.Call (.Name "all" p) [.GeneratorExp elt [⟨tg, iter, ifs, 0⟩] scope gpos] [] pos) (tGd false P wi g tt te (own.map (·.2))) := by
  refine ⟨fun pins s σ H Q I h => ?_⟩
  refine wpAny_Call_Name_kw (ld_blt I hgl hm hbo ?_)
  refine PyProof.Rows.callWith_builtin1 ?_ hst (by rfl)
  rw [hst]
  show wpAny _ _ (spliced ((false, eval (.GeneratorExp elt [⟨tg, iter, ifs, 0⟩] scope gpos) X.env) :: backTo pos (starEach [] X.env))) _ _ s
  refine Calls.spliced_cons (gen_makeN hc hr hN hbm hcode ok hdot hco hi hg ht he hs I h fun a s5 hF => ?_)
  refine Calls.spliced_nil ?_
  exact call_all_new rfl hr.hd (by have := hr.dp; omega) hF
end
end Gx
set_option Elab.async false
set_option linter.all false
set_option maxRecDepth 100000
set_option maxHeartbeats 4000000
namespace Gn
open PySem PySem.Spec PyProof.Rows L2
/-! ### many tables: all else stays -/
/-- H without the tables -/
def nt (H : Hp) : Hp := fun a => match H a with
  | some (.tbl _) => none
  | o => o
theorem nt_at {H : Hp} {a : Addr} {o : HO} (h : H a = some o) (n : ∀ ps, o ≠ .tbl ps) : nt H a = some o := by
  unfold nt
  rw [h]
  cases o <;> first | rfl | exact absurd rfl (n _)
theorem nt_to {H : Hp} {a : Addr} {o : HO} (h : nt H a = some o) : H a = some o ∧ ∀ ps, o ≠ .tbl ps := by
  unfold nt at h
  cases e : H a with
  | none => rw [e] at h; cases h
  | some u =>
    rw [e] at h
    cases u with
    | tbl ps => cases h
    | _ => cases h; exact ⟨rfl, fun ps z => by cases z⟩
theorem nt_same (H : Hp) : Same (nt H) H := fun a o h => (nt_to h).1
theorem nt_none {H : Hp} {a : Addr} (h : H a = none) : nt H a = none := by
  unfold nt
  rw [h]
theorem ext_nt {H H' : Hp} (e : LamX.ExtN H H') : Same (nt H) (nt H') := fun a o h => by
  obtain ⟨h1, h2⟩ := nt_to h
  exact nt_at (e a o h1 h2) h2
theorem same_ext {H H' : Hp} (e : Same H H') : LamX.ExtN H H' := fun a o h _ => e a o h
theorem same_nt {H H' : Hp} (e : Same H H') : Same (nt H) (nt H') := ext_nt (same_ext e)
theorem same_kt {H H' : Hp} (e : Same H H') : Gx.Kt H H' := ⟨same_ext e, fun P ⟨ps, a, b⟩ => ⟨ps, e _ _ a, b⟩⟩
theorem tabD_same {H H' : Hp} {P : Addr} (h : Gx.TabD H P) (e : Same H H') : Gx.TabD H' P := by
  obtain ⟨ps, a, b, c⟩ := h
  refine ⟨ps, e _ _ a, b, fun pos cv hc => ?_⟩
  obtain ⟨c1, P1, z1, z2, z3, qs, z4, z5⟩ := c pos cv hc
  exact ⟨c1, P1, z1, z2, e _ _ z3, qs, e _ _ z4, z5⟩
/-- the defs' tables: flat ones at Ts, one of tables at D -/
structure Tbs (Ts : List Addr) (D : Addr) (H : Hp) : Prop where
  g : ∀ P ∈ Ts, GxR.TabG H P
  d : Gx.TabD H D
theorem Tbs.kt {Ts : List Addr} {D : Addr} {H H' : Hp} (h : Tbs Ts D H) (k : Gx.Kt H H') (d : Gx.TabD H' D) : Tbs Ts D H' := ⟨fun P hP => k.2 P (h.g P hP), d⟩
theorem Tbs.same {Ts : List Addr} {D : Addr} {H H' : Hp} (h : Tbs Ts D H) (e : Same H H') : Tbs Ts D H' := h.kt (same_kt e) (tabD_same h.d e)
theorem tabbed_kt {P : Addr} {H H' : Hp} (h : GxR.TabG H P) (t : GxR.Tabbed P H H') : Gx.Kt H H' := by
  obtain ⟨ps, e, _⟩ := h
  refine ⟨fun b o hb n => ?_, fun Q hQ => ?_⟩
  · rw [t.2 b fun z => by rw [z, e] at hb; cases hb; exact n ps rfl]
    exact hb
  · by_cases z : Q = P
    · rw [z]; exact t.1
    · obtain ⟨qs, e1, e2⟩ := hQ
      exact ⟨qs, by rw [t.2 Q z]; exact e1, e2⟩
theorem tabbed_d {P D : Addr} {H H' : Hp} (h : GxR.TabG H P) (n : P ≠ D) (d : Gx.TabD H D) (t : GxR.Tabbed P H H') : Gx.TabD H' D := by
  obtain ⟨ps, e, _⟩ := h
  obtain ⟨qs, e1, e2, e3⟩ := d
  refine ⟨qs, by rw [t.2 D (Ne.symm n)]; exact e1, e2, fun pos cv hc => ?_⟩
  obtain ⟨c1, P1, z1, z2, z3, z4⟩ := e3 pos cv hc
  refine ⟨c1, P1, z1, z2, ?_, (tabbed_kt ⟨ps, e, ‹_›⟩ t).2 P1 z4⟩
  rw [t.2 c1 fun z => by rw [z, e] at z3; exact Gx.codeH_ne _ (Option.some.inj z3).symm]
  exact z3
theorem Tbs.tabbed {Ts : List Addr} {D P : Addr} {H H' : Hp} (h : Tbs Ts D H) (hP : P ∈ Ts) (n : P ≠ D) (t : GxR.Tabbed P H H') : Tbs Ts D H' ∧ LamX.ExtN H H' :=
  have k := tabbed_kt (h.g P hP) t
  ⟨h.kt k (tabbed_d (h.g P hP) n h.d t), k.1⟩
/-- what the tables are to the defs: each flat one is apart from the deep one -/
def TsOk (Ts : List Addr) (D : Addr) : Prop := D ∉ Ts
theorem TsOk.ne {Ts : List Addr} {D P : Addr} (h : TsOk Ts D) (hP : P ∈ Ts) : P ≠ D := fun z => h (z ▸ hP)
theorem ntT {K : PySem.W.Frag} {H : Hp} {a : Addr} {xs : List V} (h : SqT K (nt H) a xs) : SqT K H a xs := Same.tup (nt_same H) h
theorem ntL {K : PySem.W.Frag} {H : Hp} {a : Addr} {xs : List V} (h : SqL K (nt H) a xs) : SqL K H a xs := (nt_same H).seq h
/-- a def whose code object is c -/
structure FunC (K : PySem.W.Frag) (x q : Str) (st : Stmt) (f : Addr) (fd : FuncData) (c : Addr) : Prop where
  ex : ∃ (oc : Value) (od : Option Addr) (kV doc pm : Value) (an : Option Addr) (ct : Value) (osl : Array (Option Value)),
    fd = PySem.W.fnOf x q (defArgs st) (defBody st) (defScope st) .none kV doc pm an (.ref c) ct ∧ K.lookup f = some ⟨oc, od, .func fd, osl⟩ ∧ PySem.W.codeIn K (.ref c) q = true
  kp : PySem.W.keepIn K (.ref f) = true
theorem FunC.ok {P : Program} {w : World} {K : PySem.W.Frag} {mg : Str → Option Value} {base : Heap} {x q : Str} {st : Stmt} {f c : Addr} {fd : FuncData} {N ps : List Str} {k : Nat} {sp : Sp} (F : FunC K x q st f fd c) (S : FnScope N ps (defScope st)) (len : ∀ vs H Q E, sp vs H Q E → vs.length = ps.length)
    (hbody : ∀ (A : Around) (outer : List Env) (s : Shared) (H : Hp) (vs : List V) (Q : VK) (E : XK), Room k (A.deeper (envOfC q (defScope st) s.heap.objs.size f (.ref c))) → sp vs H Q E →
      ∃ t, PSs (cxOf CX0 P w K mg base N q (defScope st) f (.ref c) A outer s H E).nox (defBody st) t ∧ t { nx := fun _ H' => Q .non H', rt := Q } (L2.start N vs) H) : FnOk P w K mg base CX0 (k + 1) f fd ps sp := by
  obtain ⟨oc, od, kV, doc, pm, an, ct, osl, rfl, lk, hcd⟩ := F.ex
  refine fn_of lk hcd S len fun A outer s H vs Q E hr hsp => ?_
  obtain ⟨t, h, q⟩ := hbody A outer s H vs Q E hr hsp
  exact ⟨t, h.nox, q⟩
/-- a def whose code object is c, as it stands behind the top -/
structure DfC (K : PySem.W.Frag) (mg : Str → Option Value) (x : Str) (st : Stmt) (ps : List Str) (f : Addr) (fd : FuncData) (c : Addr) : Prop where
  F : FunC K x x st f fd c
  b : Binds K fd ps []
  g : mg x = some (.ref f)
end Gn
set_option Elab.async false
set_option linter.all false
set_option maxRecDepth 100000
set_option maxHeartbeats 4000000
set_option pp.maxSteps 300
namespace Gn
open PySem PySem.Spec PyProof.Rows L2
abbrev sIsNum : Stmt := topS 26
abbrev sIsPlace : Stmt := topS 27
abbrev sIsParts : Stmt := topS 28
abbrev sIsRooms : Stmt := topS 29
abbrev sWordOf : Stmt := topS 31
theorem ifP {c p q : Prop} [Decidable c] (h : c) (x : p) : if c then p else q := by
  rw [if_pos h]
  exact x
theorem ifN {c p q : Prop} [Decidable c] (h : ¬ c) (x : q) : if c then p else q := by
  rw [if_neg h]
  exact x
/-! ### an all whose tests are all true -/
theorem all_w {J : It} {σ : L2.St} {g : TG} {tt : TT} {te : TE} {vs : List Nat} {Q : VK} (n : Nat) (Φ : Hp → Prop) {H2 : Hp} (h0 : Φ H2)
    (go : ∀ i H, i < n → Φ H → J.go i H ∧ ∀ x H', J.yld i H x H' → g x (wipe σ vs) H' fun σ2 H2 => wipe σ2 vs = wipe σ vs ∧ tt σ2 H2 fun ok H3 =>
      if ok = true then te σ2 H3 fun y H4 => ∃ c : Bool, y = .bl c ∧ (c = false → Q (.bl false) H4) ∧ (c ≠ false → Φ H4) else Φ H3)
    (stop : ∀ H, Φ H → J.stop n H ∧ Q (.bl true) H) : ∃ W : Nat → Nat → Hp → Prop, (∃ m, W 0 m H2) ∧ ∀ i m H, W i m H → Gx.tTurn false J σ g tt te vs Q W i m H := by
  refine ⟨fun i m H => m = n - i ∧ i ≤ n ∧ Φ H, ⟨n, by simp, Nat.zero_le _, h0⟩, ?_⟩
  rintro i m H ⟨rfl, hi, hΦ⟩
  by_cases hlt : i < n
  · obtain ⟨a, b⟩ := go i H hlt hΦ
    exact .inr ⟨a, Φ, fun H' h' => ⟨n - (i + 1), by omega, rfl, hlt, h'⟩, b⟩
  · have e : i = n := by omega
    subst e
    exact .inl (stop H hΦ)
/-! ### len(set(..)) of a tuple of unlike numbers -/
theorem nd_le : ∀ {xs ys : List Int}, xs.Nodup → (∀ x ∈ xs, x ∈ ys) → xs.length ≤ ys.length
  | [], _, _, _ => Nat.zero_le _
  | x :: xs, ys, h, s => by
    have hx : x ∈ ys := s x List.mem_cons_self
    have h2 := List.nodup_cons.mp h
    have ih := nd_le (ys := ys.erase x) h2.2 fun y hy => (List.mem_erase_of_ne (fun e => h2.1 (by rw [← e]; exact hy))).mpr (s y (List.mem_cons_of_mem _ hy))
    rw [List.length_erase_of_mem hx] at ih
    have : 0 < ys.length := List.length_pos_of_mem hx
    rw [List.length_cons]
    omega
def tLenSetT (K : PySem.W.Frag) (ta : TE) : TE := fun σ H Q => ta σ H fun x H1 => ∃ (l : Addr) (ns : List Int), x = .ref l ∧ SqT K H1 l (ns.map V.int) ∧ ns.Nodup ∧ ns.length ≤ 4000 ∧ Q (.int (ns.length : Nat)) H1
theorem pe_lenSetT {X : Cx} {a : Expr} {ta : TE} {p p2 q pos : Pos} (hg : Gl X "len") (hm : X.mg "len" = none) (hg2 : Gl X "set") (hm2 : X.mg "set" = none) (ha : PE X a ta) (hc : X.calm = true := by rfl)
    (na : starEach [a] X.env = (false, eval a X.env) :: starEach [] X.env := by rfl) : PE X (.Call (.Name "len" p) [.Call (.Name "set" p2) [a] [] q] [] pos) (tLenSetT X.K ta) := by
  refine ⟨fun pins s σ H Q I h => ?_⟩
  refine Call_ (ld_blt I hg hm boot_len ?_)
  refine PyProof.Rows.callWith_builtin1 (PyProof.Rows.args_cons ?_ rfl) rfl rfl
  refine Call_ (ld_blt I hg2 hm2 boot_set ?_)
  refine PyProof.Rows.callWith_type1 (PyProof.Rows.args_cons (thn (ha.run pins s σ H _ I h) fun v s1 ⟨x, H1, I1, r1, q1⟩ => PyProof.Rows.args_nil ?_) na) na rfl
  obtain ⟨l, ns, rfl, hq, hnd, hl, q1⟩ := q1
  cases r1
  obtain ⟨its, r, pl, hz⟩ := I1.tuple hq
  refine call_set_tupI ns (I1.ok.hd hc) pl (by simpa using RZ.intsAre_vals r) (by unfold scanBound; omega) fun h' tk c R hcl hk => ?_
  refine PyProof.Rows.args_nil ?_
  obtain ⟨o, es, ep, t, ho, hex, hd, hgood, hnd', hS, hlt, hf, hn, _⟩ := R
  have I2 : Inv X pins σ H1 { s1 with heap := h', toks := tk } := I1.kept fun b o e => hk b o e
  have hcn : es.size = ns.length := by
    have e1 : es.size = (es.toList.map keyOf).length := by rw [List.length_map, Array.length_toList]
    have e2 : (es.toList.map keyOf).length ≤ ns.length := nd_le hnd' fun x hx => by simpa using (hS x).mpr hx
    have e3 : ns.length ≤ (es.toList.map keyOf).length := nd_le hnd fun x hx => (hS x).mp (by simpa using hx)
    omega
  exact call_len_set ho hex hd hf (by unfold scanBound at hlt; omega) ⟨.int ns.length, H1, I2.tok _, ⟨_, by rw [hcn]⟩, q1⟩
/-! ### the checks -/
def spIsNum : Sp := fun vs H Q _ => ∃ n : Int, vs = [.int n] ∧ Q (.bl true) H
abbrev nIsNum : List Str := ["thing"]
theorem scIsNum : FnScope nIsNum ["thing"] (defScope sIsNum) := ⟨rfl, rfl, rfl, by decide +kernel, rfl, by decide +kernel, by decide +kernel⟩
def spIsPlace : Sp := fun vs H Q _ => ∃ n : Nat, vs = [iv n] ∧ n < 6 ∧ Q (.bl true) H
theorem scIsPlace : FnScope nIsNum ["thing"] (defScope sIsPlace) := ⟨rfl, rfl, rfl, by decide +kernel, rfl, by decide +kernel, by decide +kernel⟩
def spIsParts (K : PySem.W.Frag) (Ts : List Addr) (D : Addr) : Sp := fun vs H Q _ => ∃ (p : Addr) (ns : List Nat), vs = [.ref p] ∧ SqT K (nt H) p (ns.map iv) ∧ ns ≠ [] ∧ Tbs Ts D H ∧ ∀ H', LamX.ExtN H H' → Tbs Ts D H' → Q (.bl true) H'
abbrev nParts : List Str := ["thing", "part"]
theorem scParts : FnScope nParts ["thing"] (defScope sIsParts) := ⟨rfl, rfl, rfl, by decide +kernel, rfl, by decide +kernel, by decide +kernel⟩
def spIsRooms (K : PySem.W.Frag) (Ts : List Addr) (D : Addr) : Sp := fun vs H Q _ => ∃ (p : Addr) (ns : List Nat), vs = [.ref p] ∧ SqT K (nt H) p (ns.map iv) ∧ ns ≠ [] ∧ ns.length ≤ 4 ∧ ns.Nodup ∧ (∀ n ∈ ns, n < 6) ∧ Tbs Ts D H ∧ ∀ H', LamX.ExtN H H' → Tbs Ts D H' → Q (.bl true) H'
abbrev nRoomsI : List Str := ["thing", "room"]
theorem scRoomsI : FnScope nRoomsI ["thing"] (defScope sIsRooms) := ⟨rfl, rfl, rfl, by decide +kernel, rfl, by decide +kernel, by decide +kernel⟩
def spWordOf (K : PySem.W.Frag) : Sp := fun vs H Q _ => ∃ (p : Addr) (wd : Str) (xs : List V), vs = [.ref p] ∧ SqT K H p (.str wd :: xs) ∧ Q (.str wd) H
theorem scWordOf : FnScope nIsNum ["thing"] (defScope sWordOf) := ⟨rfl, rfl, rfl, by decide +kernel, rfl, by decide +kernel, by decide +kernel⟩
theorem tyT {K : PySem.W.Frag} {H : Hp} {p : Addr} {xs : List V} (h : SqT K H p xs) : TyX K H (.ref p) (.type "tuple") := by
  rcases h with (h | ⟨u, h⟩) | ⟨o, its, n, h1, h2, _⟩
  · exact .base (.tup h)
  · exact .fTuple h
  · exact .kTuple h1 h2
section
variable {P0 : Program} {w : World} {K : PySem.W.Frag} {mg : Str → Option Value} {base : Heap} {Ts : List Addr} {Dd : Addr}
theorem ok_isNum {f : Addr} {fd : FuncData} {k : Nat} (D : Df K mg "is_number" sIsNum ["thing"] f fd) (B : Bi mg) : FnOk P0 w K mg base CX0 (k + 1) f fd ["thing"] spIsNum := by
  refine D.F.ok scIsNum (fun vs H Q E h => ?_) (fun cdv A outer s H vs Q E hr h => ?_)
  · obtain ⟨n, rfl, _⟩ := h
    rfl
  · obtain ⟨n, rfl, q⟩ := h
    refine ⟨_, (pss_one (ps_ret (pe_and (pe_callB call_isi (by rfl) B.isinstance PyProof.Rows.boot_isinstance (pa_cons (pv 0) (pa_cons (pe_bltn (v := .ty "int") (by rfl) B.int (show bootBuiltins "int" = some (.type "int") by rfl) rfl) pa_nil))) (pe_one (pe_not (pe_callB call_isi (by rfl) B.isinstance PyProof.Rows.boot_isinstance (pa_cons (pv 0) (pa_cons (pe_bltn (v := .ty "bool") (by rfl) B.bool (show bootBuiltins "bool" = some (.type "bool") by rfl) rfl) pa_nil)))))))), ?_⟩
    refine ⟨_, rfl, _, .ty "int", .type "int", .type "int", true, rfl, .ty "int", .base (.int _), kit_ty (by decide +kernel), _, rfl, ?_⟩
    exact ⟨_, rfl, _, .ty "bool", .type "int", .type "bool", false, rfl, .ty "bool", .base (.int _), kit_ty (by decide +kernel), _, rfl, q⟩
theorem ok_isPlace {f fN : Addr} {fd fdN : FuncData} {k : Nat} (D : Df K mg "is_place" sIsPlace ["thing"] f fd) (B : Bi mg) (DN : Df K mg "is_number" sIsNum ["thing"] fN fdN) (GN : FnOk P0 w K mg base CX0 k fN fdN ["thing"] spIsNum) : FnOk P0 w K mg base CX0 (k + 1) f fd ["thing"] spIsPlace := by
  refine D.F.ok scIsPlace (fun vs H Q E h => ?_) (fun cdv A outer s H vs Q E hr h => ?_)
  · obtain ⟨n, rfl, _⟩ := h
    rfl
  · obtain ⟨n, rfl, hn, q⟩ := h
    refine ⟨_, (pss_one (ps_ret (pe_and (pe_call GN hr (by rfl) DN.g DN.F.kp DN.b .nil pass0 (pa_cons (pv 0) pa_nil)) (pe_one (pe_chain op_le op_le pe_int (pv 0) pe_int))))), ?_⟩
    refine ⟨_, rfl, n, rfl, _, rfl, _, rfl, _, _, rfl, rfl, _, rfl, ?_⟩
    refine ifP (decide_eq_true (by omega)) ⟨_, _, rfl, rfl, ?_⟩
    show Q (.bl (decide ((n : Int) ≤ 5))) H
    rw [decide_eq_true (by omega)]
    exact q
theorem ok_isParts {f fN c P : Addr} {fd fdN : FuncData} {k : Nat} (D : DfC K mg "is_parts" sIsParts ["thing"] f fd c) (B : Bi mg) (TB : GxR.TabB base mg c P) (hP : P ∈ Ts) (hTs : TsOk Ts Dd) (DN : Df K mg "is_number" sIsNum ["thing"] fN fdN) (GN : FnOk P0 w K mg base CX0 k fN fdN ["thing"] spIsNum) :
    FnOk P0 w K mg base CX0 (k + 3 + 1) f fd ["thing"] (spIsParts K Ts Dd) := by
  refine D.F.ok scParts (fun vs H Q E h => ?_) (fun A outer s H vs Q E hr h => ?_)
  · obtain ⟨p, ns, rfl, _⟩ := h
    rfl
  · obtain ⟨p, ns, rfl, hp, hne, hT, q⟩ := h
    refine ⟨_, (pss_one (ps_ret (pe_and (pe_callB call_isi (by rfl) B.isinstance PyProof.Rows.boot_isinstance (pa_cons (pv 0) (pa_cons (pe_bltn (v := .ty "tuple") (by rfl) B.tuple (show bootBuiltins "tuple" = some (.type "tuple") by rfl) rfl) pa_nil))) (pe_and (pe_cmpR op_gt (pe_callB call_len_seq (by rfl) B.len PySem.boot_len (pa_cons (pv 0) pa_nil)) pe_int (nomark _)) (pe_one (Gx.pe_allG (k := k) (own := [("part", 1)]) (g := gName 1) (tt := tYes) (te := tCall spIsNum [] E0 (tCons (tVar 1) tNil)) rfl hr scParts.nd (by rfl) B.all (by decide +kernel) TB rfl
      (blkOk_by (own := [("part", 1)]) (N := nParts) (sc := defScope sIsParts) (by decide +kernel)) (by decide +kernel) (by rfl) (by rfl)
      (pi_tup (pv 0)) (fun _ _ _ _ _ _ _ _ _ => pg_name (i := 1) scParts.nd rfl (.inl rfl)) (fun _ _ _ _ _ _ _ _ _ => pts_nil)
      (fun A' _ _ _ _ _ _ _ hr' => pe_call GN hr' (by rfl) DN.g DN.F.kp DN.b .nil pass0 (pa_cons (pv 1) pa_nil)) (fun _ => rfl))))))), ?_⟩
    refine ⟨_, rfl, _, .ty "tuple", .type "tuple", .type "tuple", true, rfl, .ty "tuple", tyT (ntT hp), kit_ty (by decide +kernel), _, rfl, ?_⟩
    refine ifP rfl ⟨_, rfl, p, _, rfl, .inr (ntT hp), _, _, rfl, rfl, _, rfl, ?_⟩
    refine ifP (decide_eq_true (by
      have := List.length_pos_iff.mpr hne
      rw [List.length_map]
      omega)) ?_
    refine ⟨_, rfl, p, rfl, ⟨_, ntT hp⟩, hT.g P hP, fun H2 hTb => ?_⟩
    obtain ⟨hT2, e2⟩ := hT.tabbed hP (hTs.ne hP) hTb
    refine all_w ns.length (fun H' => LamX.ExtN H H' ∧ Tbs Ts Dd H') ⟨e2, hT2⟩ (fun i H3 hi hΦ => ?_) (fun H3 hΦ => ⟨⟨_, ntT (Same.tup (ext_nt hΦ.1) hp), by rw [List.length_map]; exact Nat.le_refl _⟩, q _ hΦ.1 hΦ.2⟩)
    have hp3 := ntT (Same.tup (ext_nt hΦ.1) hp)
    refine ⟨⟨_, _, hp3, by rw [List.getElem?_map, List.getElem?_eq_getElem hi]; rfl⟩, fun x H' y => ?_⟩
    obtain ⟨e1, y⟩ := y
    subst e1
    have ex := y _ hp3
    rw [List.getElem?_map, List.getElem?_eq_getElem hi] at ex
    cases ex
    exact ⟨rfl, iv ns[i], rfl, (ns[i] : Int), rfl, true, rfl, fun e => (by cases e), fun _ => hΦ⟩
theorem ok_isRooms {f fN c P : Addr} {fd fdN : FuncData} {k : Nat} (D : DfC K mg "is_rooms" sIsRooms ["thing"] f fd c) (B : Bi mg) (TB : GxR.TabB base mg c P) (hP : P ∈ Ts) (hTs : TsOk Ts Dd) (DN : Df K mg "is_place" sIsPlace ["thing"] fN fdN) (GN : FnOk P0 w K mg base CX0 k fN fdN ["thing"] spIsPlace) :
    FnOk P0 w K mg base CX0 (k + 3 + 1) f fd ["thing"] (spIsRooms K Ts Dd) := by
  refine D.F.ok scRoomsI (fun vs H Q E h => ?_) (fun A outer s H vs Q E hr h => ?_)
  · obtain ⟨p, ns, rfl, _⟩ := h
    rfl
  · obtain ⟨p, ns, rfl, hp, hne, hl, hnd, h6, hT, q⟩ := h
    refine ⟨_, (pss_cons (ps_if (pw_or (pt_not (pt_val (pe_callB call_isi (by rfl) B.isinstance PyProof.Rows.boot_isinstance (pa_cons (pv 0) (pa_cons (pe_bltn (v := .ty "tuple") (by rfl) B.tuple (show bootBuiltins "tuple" = some (.type "tuple") by rfl) rfl) pa_nil))))) (pw_or1 (pt_not (pt_chain op_le op_le pe_int (pe_callB call_len_seq (by rfl) B.len PySem.boot_len (pa_cons (pv 0) pa_nil)) pe_int)))).pt (pss_one (ps_ret pe_bl)) pss_nil)
      (pss_one (ps_ret (pe_and (Gx.pe_allG (k := k) (own := [("room", 1)]) (g := gName 1) (tt := tYes) (te := tCall spIsPlace [] E0 (tCons (tVar 1) tNil)) rfl hr scRoomsI.nd (by rfl) B.all (by decide +kernel) TB rfl
      (blkOk_by (own := [("room", 1)]) (N := nRoomsI) (sc := defScope sIsRooms) (by decide +kernel)) (by decide +kernel) (by rfl) (by rfl)
      (pi_tup (pv 0)) (fun _ _ _ _ _ _ _ _ _ => pg_name (i := 1) scRoomsI.nd rfl (.inl rfl)) (fun _ _ _ _ _ _ _ _ _ => pts_nil)
      (fun A' _ _ _ _ _ _ _ hr' => pe_call GN hr' (by rfl) DN.g DN.F.kp DN.b .nil pass0 (pa_cons (pv 1) pa_nil)) (fun _ => rfl)) (pe_one (pe_cmpR op_eq (pe_lenSetT (by rfl) B.len (by rfl) B.set (pv 0)) (pe_callB call_len_seq (by rfl) B.len PySem.boot_len (pa_cons (pv 0) pa_nil)) (nomark _))))))), ?_⟩
    have hpos := List.length_pos_iff.mpr hne
    refine ⟨_, rfl, _, .ty "tuple", .type "tuple", .type "tuple", true, rfl, .ty "tuple", tyT (ntT hp), kit_ty (by decide +kernel), _, rfl, ?_⟩
    refine ifN (by intro h; cases h) ⟨_, rfl, p, _, rfl, .inr (ntT hp), _, _, rfl, rfl, _, rfl, ?_⟩
    refine ifP (decide_eq_true (by rw [List.length_map]; omega)) ⟨_, _, rfl, rfl, _, rfl, ?_⟩
    refine ifN (by rw [decide_eq_true (by rw [List.length_map]; omega)]; intro h; cases h) ?_
    refine ⟨_, rfl, p, rfl, ⟨_, ntT hp⟩, hT.g P hP, fun H2 hTb => ?_⟩
    obtain ⟨hT2, e2⟩ := hT.tabbed hP (hTs.ne hP) hTb
    refine all_w ns.length (fun H' => LamX.ExtN H H' ∧ Tbs Ts Dd H') ⟨e2, hT2⟩ (fun i H3 hi hΦ => ?_) (fun H3 hΦ => ⟨⟨_, ntT (Same.tup (ext_nt hΦ.1) hp), by rw [List.length_map]; exact Nat.le_refl _⟩, _, rfl, ifP rfl ?_⟩)
    · have hp3 := ntT (Same.tup (ext_nt hΦ.1) hp)
      refine ⟨⟨_, _, hp3, by rw [List.getElem?_map, List.getElem?_eq_getElem hi]; rfl⟩, fun x H' y => ?_⟩
      obtain ⟨e1, y⟩ := y
      subst e1
      have ex := y _ hp3
      rw [List.getElem?_map, List.getElem?_eq_getElem hi] at ex
      cases ex
      exact ⟨rfl, iv ns[i], rfl, ns[i], rfl, h6 _ (List.getElem_mem hi), true, rfl, fun e => (by cases e), fun _ => hΦ⟩
    · have hp3 := ntT (Same.tup (ext_nt hΦ.1) hp)
      refine ⟨_, rfl, p, ns.map fun n : Nat => (n : Int), rfl, by rw [List.map_map]; exact hp3, ?_, by rw [List.length_map]; omega, _, rfl, p, _, rfl, .inr hp3, ?_⟩
      · exact List.Pairwise.map (fun n : Nat => (n : Int)) (fun a b (hab : a ≠ b) (e : (a : Int) = (b : Int)) => hab (Int.ofNat.inj e)) hnd
      · refine ⟨rfl, ?_⟩
        show Q (.bl (decide (V.int ((ns.map fun n : Nat => (n : Int)).length : Nat) = V.int ((ns.map iv).length : Nat)))) H3
        rw [decide_eq_true (by rw [List.length_map, List.length_map])]
        exact q _ hΦ.1 hΦ.2
theorem ok_wordOf {f : Addr} {fd : FuncData} {k : Nat} (D : Df K mg "word_of" sWordOf ["thing"] f fd) (B : Bi mg) : FnOk P0 w K mg base CX0 (k + 1) f fd ["thing"] (spWordOf K) := by
  refine D.F.ok scWordOf (fun vs H Q E h => ?_) (fun cdv A outer s H vs Q E hr h => ?_)
  · obtain ⟨p, wd, xs, rfl, _⟩ := h
    rfl
  · obtain ⟨p, wd, xs, rfl, hp, q⟩ := h
    refine ⟨_, (pss_cons (ps_if (pw_and (pt_val (pe_callB call_isi (by rfl) B.isinstance PyProof.Rows.boot_isinstance (pa_cons (pv 0) (pa_cons (pe_bltn (v := .ty "tuple") (by rfl) B.tuple (show bootBuiltins "tuple" = some (.type "tuple") by rfl) rfl) pa_nil)))) (pw_and (pt_truth (pv 0) (by intro _; rfl)) (pw_and1 (pt_val (pe_callB call_isi (by rfl) B.isinstance PyProof.Rows.boot_isinstance (pa_cons (pe_ix ix_tup (pv 0) pe_int (fun _ _ => rfl)) (pa_cons (pe_bltn (v := .ty "str") (by rfl) B.str (show bootBuiltins "str" = some (.type "str") by rfl) rfl) pa_nil))))))).pt (pss_one (ps_ret (pe_ix ix_tup (pv 0) pe_int (fun _ _ => rfl)))) pss_nil)
      (pss_one (ps_ret pe_str))), ?_⟩
    refine ⟨_, rfl, _, .ty "tuple", .type "tuple", .type "tuple", true, rfl, .ty "tuple", tyT hp, kit_ty (by decide +kernel), _, rfl, ?_⟩
    refine ifP rfl ⟨_, rfl, _, .inr (.inl ⟨_, hp, rfl⟩), ifP rfl ?_⟩
    refine ⟨.ref p, rfl, p, _, _, _, rfl, rfl, hp, atI_nat (j := 0) rfl, _, .ty "str", .type "str", .type "str", true, rfl, .ty "str", .base (.str _), kit_ty (by decide +kernel), _, rfl, ?_⟩
    refine ifP rfl ?_
    exact ⟨.ref p, rfl, p, _, _, _, rfl, rfl, hp, atI_nat (j := 0) rfl, q⟩
end
end Gn
set_option Elab.async false
set_option linter.all false
set_option maxRecDepth 100000
set_option maxHeartbeats 4000000
set_option pp.maxSteps 300
namespace Gn
open PySem PySem.Spec PyProof.Rows L2
abbrev sFits : Stmt := topS 32
abbrev sIsRow : Stmt := topS 33
abbrev sIsEnd : Stmt := topS 34
abbrev sIsBlock : Stmt := topS 35
abbrev sIsWritten : Stmt := topS 36
/-! ### get of a dict of the module -/
def rKGet (K : PySem.W.Frag) (w : World) : V → List V → Hp → VK → Prop := fun x vs H Q => ∃ (d : Addr) (z : Str), x = .ref d ∧ vs = [.str z] ∧ (d == sysModules) = false ∧
  ((∃ v, KDct K w d z v ∧ Q v H) ∨ ∃ es n, K.lookup d = some ⟨.type "dict", none, .dict es n, #[]⟩ ∧ PySem.W.KeysLit w.params es.toList ∧ PySem.W.nsIn K d z = some none ∧ Q .non H)
theorem mt_kget {X : Cx} : MtR X "dict.get" (rKGet X.K X.w) := by
  intro pins s σ H x xs v us Q I rx rxs h
  obtain ⟨d, z, rfl, rfl, low, h⟩ := h
  cases rx
  obtain ⟨u, rfl, ru⟩ := rxs.one
  obtain ⟨t, rfl⟩ := ru
  rcases h with ⟨v, ⟨es, n, u, hl, hk, e, rv⟩, q⟩ | ⟨es, n, hl, hk, e, q⟩
  · have hm := PySem.W.mapOf_K (prog := X.prog) (w := X.w) I.kIn hl hk
    refine call_meetsIn PySem.F.slot_dict_get hm.typeIs PySem.F.entry_dict_get (PySem.F.args_dict_get_2 _ _) (meets_dict_get (strKind X.prog X.w) d (strKind_is X.prog X.w z t) low) ⟨_, hm, ?_⟩
    rw [PySem.W.find_K hl e]
    exact ⟨v, H, I.tok _, rv, q⟩
  · have hm := PySem.W.mapOf_K (prog := X.prog) (w := X.w) I.kIn hl hk
    refine call_meetsIn PySem.F.slot_dict_get hm.typeIs PySem.F.entry_dict_get (PySem.F.args_dict_get_2 _ _) (meets_dict_get (strKind X.prog X.w) d (strKind_is X.prog X.w z t) low) ⟨_, hm, ?_⟩
    rw [PySem.W.find_K hl e]
    exact ⟨.non, H, I.tok _, rfl, q⟩
def KNo (K : PySem.W.Frag) (w : World) (d : Addr) (z : Str) : Prop := ∃ es n, K.lookup d = some ⟨.type "dict", none, .dict es n, #[]⟩ ∧ PySem.W.KeysLit w.params es.toList ∧ PySem.W.nsIn K d z = some none
def IsKD (K : PySem.W.Frag) (w : World) (d : Addr) : Prop := (d == sysModules) = false ∧ ∃ es n, K.lookup d = some ⟨.type "dict", none, .dict es n, #[]⟩ ∧ PySem.W.KeysLit w.params es.toList
def tKGet (K : PySem.W.Frag) (w : World) (td ty : TE) : TE := fun σ H Q => td σ H fun x H1 => ∃ d, x = .ref d ∧ IsKD K w d ∧ ty σ H1 fun y H2 => ∃ z, y = .str z ∧ ((∃ v, KDct K w d z v ∧ Q v H2) ∨ (KNo K w d z ∧ Q .non H2))
theorem pe_kget {X : Cx} {o e : Expr} {apos cpos : Pos} {td ty : TE} (ho : PE X o td) (he : PE X e ty) (m : M1 X o "get" apos e cpos) : PE X (.Call (.Attribute o "get" apos) [e] [] cpos) (tKGet X.K X.w td ty) := by
  refine ⟨fun pins s σ H Q I h => ?_⟩
  refine wpAny_Call_method m.base m.few m.line PySem.F.plainAttrs_dict PySem.F.slot_dict_get PySem.F.type_dict_get (thn (ho.run pins s σ H _ I h) fun u s1 ⟨x, H1, I1, rx, d, ex, ⟨low, es, n, hl, hk⟩, q1⟩ => ?_)
  subst ex
  obtain rfl : u = Value.ref d := rx
  have hm1 := PySem.W.mapOf_K (prog := X.prog) (w := X.w) I1.kIn hl hk
  refine ⟨hm1.typeIs, fun a e2 => ?_, ?_⟩
  · cases e2
    exact ⟨_, I1.kIn _ _ hl, rfl⟩
  rw [m.trees]
  refine Calls.callWith_builtin rfl (Calls.evalArgs_plain (Calls.spliced_cons (thn (he.run pins s1 σ H1 _ I1 q1) fun iv s2 ⟨y, H2, I2, ry, z, ez, g⟩ => Calls.spliced_nil ?_)))
  subst ez
  obtain ⟨t, rfl⟩ := ry
  have hm := PySem.W.mapOf_K (prog := X.prog) (w := X.w) I2.kIn hl hk
  refine call_meetsIn PySem.F.slot_dict_get hm.typeIs PySem.F.entry_dict_get (PySem.F.args_dict_get_2 _ _) (meets_dict_get (strKind X.prog X.w) d (strKind_is X.prog X.w z t) low) ⟨_, hm, ?_⟩
  rcases g with ⟨v, ⟨es', n', u, hl', hk', e', rv⟩, q⟩ | ⟨⟨es', n', hl', hk', e'⟩, q⟩
  · rw [PySem.W.find_K hl e']
    exact ⟨v, H2, I2.tok _, rv, q⟩
  · rw [PySem.W.find_K hl e']
    exact ⟨.non, H2, I2.tok _, rfl, q⟩
/-! ### the checks by their kinds -/
inductive Ck
  | num | place | parts | rooms
def spC (K : PySem.W.Frag) (Ts : List Addr) (D : Addr) : Ck → Sp
  | .num => spIsNum
  | .place => spIsPlace
  | .parts => spIsParts K Ts D
  | .rooms => spIsRooms K Ts D
structure Cks (P : Program) (w : World) (K : PySem.W.Frag) (mg : Str → Option Value) (base : Heap) (k : Nat) (Ts : List Addr) (D : Addr) (d : Addr) (fs : Ck → Addr) : Prop where
  mgC : mg "CHECKS" = some (.ref d)
  n1 : KDct K w d "number" (.ref (fs .num))
  n2 : KDct K w d "row" (.ref (fs .num))
  n3 : KDct K w d "block" (.ref (fs .num))
  n4 : KDct K w d "place" (.ref (fs .place))
  n5 : KDct K w d "parts" (.ref (fs .parts))
  n6 : KDct K w d "rooms" (.ref (fs .rooms))
  fn : ∀ b, FnR P w K mg base CX0 k (fs b) (spC K Ts D b)
  kp : ∀ b, PySem.W.keepIn K (.ref (fs b)) = true
def KdOk (K : PySem.W.Frag) (I : Hp) (kd : Str) (x : V) : Prop := ((kd = "number" ∨ kd = "row" ∨ kd = "block") ∧ ∃ n : Int, x = .int n) ∨ (kd = "place" ∧ ∃ n : Nat, x = iv n ∧ n < 6) ∨
  (kd = "parts" ∧ ∃ (p : Addr) (ns : List Nat), x = .ref p ∧ SqT K I p (ns.map iv) ∧ ns ≠ []) ∨ (kd = "rooms" ∧ ∃ (p : Addr) (ns : List Nat), x = .ref p ∧ SqT K I p (ns.map iv) ∧ ns ≠ [] ∧ ns.length ≤ 4 ∧ ns.Nodup ∧ ∀ n ∈ ns, n < 6)
theorem KdOk.same {K : PySem.W.Frag} {I J : Hp} {kd : Str} {x : V} (h : KdOk K I kd x) (e : Same I J) : KdOk K J kd x := by
  rcases h with h | h | ⟨h, p, ns, a, b, c⟩ | ⟨h, p, ns, a, b, c⟩
  · exact .inl h
  · exact .inr (.inl h)
  · exact .inr (.inr (.inl ⟨h, p, ns, a, Same.tup e b, c⟩))
  · exact .inr (.inr (.inr ⟨h, p, ns, a, Same.tup e b, c⟩))
theorem pe_callI {ι : Type} {X : Cx} {fs : ι → Addr} {sp : ι → Sp} {x : Str} {i k : Nat} {e : Expr} {es : List Expr} {t : TA} {q pos : Pos} {E : XK} (F : ∀ b, FnR X.prog X.w X.K X.mg X.base CX0 k (fs b) (sp b)) (hr : Room k X.A) (hk : ∀ b, PySem.W.keepIn X.K (.ref (fs b)) = true) (hx : Passes CX0 X E) (hN : X.N[i]? = some x) (hv : Vis X.env.scope x) (ha : PA X (e :: es) t)
    (hd : (x == ("__debug__" : Str)) = false := by decide) (hcd : (x == ("__classdict__" : Str)) = false := by decide)
    (he : starEach (e :: es) X.env = (false, eval e X.env) :: starEach es X.env := by rfl) (hpl : (backTo pos (starEach es X.env)).any (·.1) = false := by rfl) : PE X (.Call (.Name x q) (e :: es) [] pos) (fun σ H Q => ∃ b : ι, ItX.tCallV i (fs b) (sp b) E t σ H Q) :=
  ⟨fun pins s σ H Q I ⟨b, h⟩ => (ItX.pe_callV (F b) hr (hk b) hx hN hv ha hd hcd he hpl).run pins s σ H Q I h⟩
def spFits (K : PySem.W.Frag) (Ts : List Addr) (D : Addr) : Sp := fun vs H Q _ => ∃ (p kt : Addr) (wd : Str) (ps : List V) (kds : List Str), vs = [.ref p, .ref kt] ∧ SqT K (nt H) p (.str wd :: ps) ∧ (∀ H', SqT K H' kt (kds.map V.str)) ∧ kds.length ≤ 3 ∧
  Paired (fun x kd => KdOk K (nt H) kd x) ps kds ∧ Tbs Ts D H ∧ ∀ H', LamX.ExtN H H' → Tbs Ts D H' → Q (.bl true) H'
abbrev nFits : List Str := ["thing", "kinds", "kind", "part", "check"]
theorem scFits : FnScope nFits ["thing", "kinds"] (defScope sFits) := ⟨rfl, rfl, rfl, by decide +kernel, rfl, by decide +kernel, by decide +kernel⟩
section
variable {P0 : Program} {w : World} {K : PySem.W.Frag} {mg : Str → Option Value} {base : Heap} {Ts : List Addr} {Dd : Addr}
theorem ok_fitsS {f dC : Addr} {fs : Ck → Addr} {fd : FuncData} {k : Nat} (D : Df K mg "fits" sFits ["thing", "kinds"] f fd) (B : Bi mg) (C : Cks P0 w K mg base k Ts Dd dC fs) : FnOk P0 w K mg base CX0 (k + 1) f fd ["thing", "kinds"] (spFits K Ts Dd) := by
  refine D.F.ok scFits (fun vs H Q E h => ?_) (fun cdv A outer s H vs Q E hr h => ?_)
  · obtain ⟨p, kt, wd, ps, kds, rfl, _⟩ := h
    rfl
  · obtain ⟨p, kt, wd, ps, kds, rfl, hp, hk, hkl, hpd, hT, q⟩ := h
    refine ⟨_, (pss_cons (ps_if (pw_or (pt_cmp (pc_isN (pv 1))) (pw_or1 (pt_cmpR op_ne (pe_callB call_len_seq (by rfl) B.len PySem.boot_len (pa_cons (pv 0) pa_nil)) (pe_op op_add (pe_callB call_len_seq (by rfl) B.len PySem.boot_len (pa_cons (pv 1) pa_nil)) pe_int) (nomark _)))).pt (pss_one (ps_ret pe_bl)) pss_nil)
      (pss_cons (ps_for PassesOwn.never rfl (RZ.pi_zipA (by rfl) B.zip (pa_cons (pv 1) (pa_cons (pe_slice sl_tup (pv 0) (po_some pe_int) po_none) pa_nil))) (pg_tup rfl (pgs_cons (pg_name (i := 2) scFits.nd rfl (.inl rfl)) (pgs_cons (pg_name (i := 3) scFits.nd rfl (.inl rfl)) pgs_nil))) (pss_cons (ps_set (i := 4) scFits.nd rfl (.inl rfl) (pe_ix ix_kdict (pe_glob (v := .ref dC) (by rfl) C.mgC rfl) (pv 2) (fun _ _ => rfl)))
      (pss_one (ps_if (pt_not (pt_val (pe_callI (i := 4) (x := "check") C.fn hr C.kp pass0 rfl (.inl rfl) (pa_cons (pv 3) pa_nil)))) (pss_one (ps_ret pe_bl)) pss_nil))))
      (pss_one (ps_ret pe_bl)))), ?_⟩
    have hl : ps.length = kds.length := pd_len hpd
    refine ⟨_, rfl, _, rfl, ifN (by intro h; cases of_decide_eq_true h) ?_⟩
    refine ⟨_, rfl, p, _, rfl, .inr (ntT hp), _, rfl, kt, _, rfl, .inr (hk _), _, _, rfl, rfl, rfl, _, rfl, ?_⟩
    refine ifN (by
      rw [decide_eq_true (by rw [List.length_cons, List.length_map, hl]; rfl)]
      intro h
      cases h) ?_
    refine ⟨.ref kt, rfl, .ref p, rfl, 1, rfl, p, _, rfl, ntT hp, cut_not _ _, fun R nR => ?_⟩
    rw [cut_one]
    have sR := new_same (o := .tup ps) nR
    have eR : upd H R (.tup ps) R = some (.tup ps) := upd_same
    have hT1 := hT.same sR
    generalize upd H R (.tup ps) = H1 at sR eR hT1
    refine ⟨kt, R, kds.map V.str, ps, rfl, .inr ⟨hk _, sqT eR, ?_⟩⟩
    refine for_it (walk_zt (xs := kds.map V.str) (ys := ps) (by rw [List.length_map]; exact hl.symm)) (fun i σ Hx => ∃ y2 y3 y4 : Option V, σ = [some (.ref p), some (.ref kt), y2, y3, y4] ∧ LamX.ExtN H Hx ∧ Tbs Ts Dd Hx ∧ Hx R = some (.tup ps)) ⟨none, none, none, rfl, same_ext sR, hT1, eR⟩ (fun i σ Hx _ hP => ?_) (fun i x σ Hx Hy hi hP hY => ?_) (fun σ Hx hP => ?_)
    · obtain ⟨_, _, _, _, _, _, eRx⟩ := hP
      exact ⟨hk _, sqT eRx⟩
    · obtain ⟨y2, y3, y4, rfl, sx, tx, eRx⟩ := hP
      obtain ⟨T, x1, x2, rfl, nT', rfl, e1, e2⟩ := hY
      have e2 : ps[i]? = some x2 := e2
      have e1 : (kds.map V.str)[i]? = some x1 := e1
      obtain ⟨kd, hkd, hok⟩ := pd_at2 hpd e2
      rw [List.getElem?_map, hkd] at e1
      cases e1
      have sT := new_same (o := .tup [.str kd, x2]) nT'
      have sx2 : LamX.ExtN H (upd Hx T (.tup [.str kd, x2])) := sx.trans (same_ext sT)
      have tx2 := tx.same sT
      have eR2 := sT _ _ eRx
      refine ⟨T, _, rfl, sqT upd_same, rfl, _, _, rfl, _, _, rfl, rfl, ?_⟩
      generalize upd Hx T (.tup [.str kd, x2]) = Hz at sx2 tx2 eR2
      have hok2 : KdOk K (nt Hz) kd x2 := hok.same (ext_nt sx2)
      have nf : ¬ ((!true) = true) := by intro h; cases h
      rcases hok2 with ⟨hk3, n, rfl⟩ | ⟨rfl, n, rfl, hn6⟩ | ⟨rfl, pp, ns, rfl, hns, hne⟩ | ⟨rfl, pp, ns, rfl, hns, hne, hl4, hnd, h6⟩
      · rcases hk3 with rfl | rfl | rfl
        · exact ⟨_, rfl, dC, _, _, rfl, rfl, C.n1, .num, rfl, _, rfl, n, rfl, _, rfl, ifN nf ⟨_, _, _, rfl, sx2, tx2, eR2⟩⟩
        · exact ⟨_, rfl, dC, _, _, rfl, rfl, C.n2, .num, rfl, _, rfl, n, rfl, _, rfl, ifN nf ⟨_, _, _, rfl, sx2, tx2, eR2⟩⟩
        · exact ⟨_, rfl, dC, _, _, rfl, rfl, C.n3, .num, rfl, _, rfl, n, rfl, _, rfl, ifN nf ⟨_, _, _, rfl, sx2, tx2, eR2⟩⟩
      · exact ⟨_, rfl, dC, _, _, rfl, rfl, C.n4, .place, rfl, _, rfl, n, rfl, hn6, _, rfl, ifN nf ⟨_, _, _, rfl, sx2, tx2, eR2⟩⟩
      · exact ⟨_, rfl, dC, _, _, rfl, rfl, C.n5, .parts, rfl, _, rfl, pp, ns, rfl, hns, hne, tx2, fun H' ex tx' => ⟨_, rfl, ifN nf ⟨_, _, _, rfl, sx2.trans ex, tx', ex _ _ eR2 (fun ps z => by cases z)⟩⟩⟩
      · exact ⟨_, rfl, dC, _, _, rfl, rfl, C.n6, .rooms, rfl, _, rfl, pp, ns, rfl, hns, hne, hl4, hnd, h6, tx2, fun H' ex tx' => ⟨_, rfl, ifN nf ⟨_, _, _, rfl, sx2.trans ex, tx', ex _ _ eR2 (fun ps z => by cases z)⟩⟩⟩
    · obtain ⟨y2, y3, y4, rfl, sx, tx, eRx⟩ := hP
      exact q _ sx tx
end
end Gn
set_option Elab.async false
set_option linter.all false
set_option maxRecDepth 100000
set_option maxHeartbeats 4000000
set_option pp.maxSteps 300
namespace Gn
open PySem PySem.Spec PyProof.Rows L2
/-! ### rows, ends, blocks, programs -/
def Rw.kdS : Rw → List Str
  | .take _ => ["place"]
  | .num _ => ["number"]
  | .bin _ _ _ => ["row", "row"]
  | .pick _ _ => ["row", "parts"]
  | .meet _ => ["parts"]
  | .tell _ => ["row"]
  | .look _ _ => ["rooms", "row"]
  | .lay _ _ _ => ["rooms", "row", "row"]
def En.kdS : En → List Str
  | .go _ => ["block"]
  | .iff _ _ _ => ["row", "block", "block"]
  | .fin => []
theorem kdS_rw (r : Rw) : r.kinds = r.kdS.map V.str := by cases r <;> rfl
theorem kdS_en (e : En) : e.kinds = e.kdS.map V.str := by cases e <;> rfl
theorem kdS_len (r : Rw) : r.kdS.length ≤ 3 := by cases r <;> simp [Rw.kdS]
theorem row_kd {K : PySem.W.Frag} {I : Hp} {v : V} {r : Rw} {P : Nat → Prop} (hA : RwA P r) (h : RowAt K I v r) : ∃ p ps, v = .ref p ∧ SqT K I p (.str r.w :: ps) ∧ Paired (fun x kd => KdOk K I kd x) ps r.kdS := by
  obtain ⟨p, xs, h1, h2, h3⟩ := h
  refine ⟨p, xs, h1, h2, ?_⟩
  cases r with
  | take i => cases h3; exact .cons (.inr (.inl ⟨rfl, i, rfl, hA⟩)) .nil
  | num n => cases h3; exact .cons (.inl ⟨.inl rfl, n, rfl⟩) .nil
  | bin b x y => cases h3; exact .cons (.inl ⟨.inr (.inl rfl), x, rfl⟩) (.cons (.inl ⟨.inr (.inl rfl), y, rfl⟩) .nil)
  | pick x qs =>
    obtain ⟨q, e, hq⟩ := h3
    cases e
    exact .cons (.inl ⟨.inr (.inl rfl), x, rfl⟩) (.cons (.inr (.inr (.inl ⟨rfl, q, qs, rfl, hq, hA.2.2.1⟩))) .nil)
  | meet qs =>
    obtain ⟨q, e, hq⟩ := h3
    cases e
    exact .cons (.inr (.inr (.inl ⟨rfl, q, qs, rfl, hq, hA.2.1⟩))) .nil
  | tell x => cases h3; exact .cons (.inl ⟨.inr (.inl rfl), x, rfl⟩) .nil
  | look rs x =>
    obtain ⟨q, e, hq⟩ := h3
    cases e
    obtain ⟨a1, a2, a3, a4, a5⟩ := hA
    exact .cons (.inr (.inr (.inr ⟨rfl, q, rs, rfl, hq, a4, a5, a2, a3⟩))) (.cons (.inl ⟨.inr (.inl rfl), x, rfl⟩) .nil)
  | lay rs x y =>
    obtain ⟨q, e, hq⟩ := h3
    cases e
    obtain ⟨a1, a0, a2, a3, a4, a5⟩ := hA
    exact .cons (.inr (.inr (.inr ⟨rfl, q, rs, rfl, hq, a4, a5, a2, a3⟩))) (.cons (.inl ⟨.inr (.inl rfl), x, rfl⟩) (.cons (.inl ⟨.inr (.inl rfl), y, rfl⟩) .nil))
theorem en_kd {K : PySem.W.Frag} {I : Hp} {v : V} {e : En} (h : EnAt K I v e) : ∃ p ps, v = .ref p ∧ SqT K I p (.str e.word :: ps) ∧ Paired (fun x kd => KdOk K I kd x) ps e.kdS := by
  cases e with
  | go b => obtain ⟨p, h1, h2⟩ := h; exact ⟨p, _, h1, h2, .cons (.inl ⟨.inr (.inr rfl), b, rfl⟩) .nil⟩
  | iff r b c => obtain ⟨p, h1, h2⟩ := h; exact ⟨p, _, h1, h2, .cons (.inl ⟨.inr (.inl rfl), r, rfl⟩) (.cons (.inl ⟨.inr (.inr rfl), b, rfl⟩) (.cons (.inl ⟨.inr (.inr rfl), c, rfl⟩) .nil))⟩
  | fin => obtain ⟨p, h1, h2⟩ := h; exact ⟨p, _, h1, h2, .nil⟩
def spIsRow (K : PySem.W.Frag) (Ts : List Addr) (D : Addr) : Sp := fun vs H Q _ => ∃ (v : V) (r : Rw), vs = [v] ∧ RowAt K (nt H) v r ∧ RwA (fun _ => True) r ∧ Tbs Ts D H ∧ ∀ H', LamX.ExtN H H' → Tbs Ts D H' → Q (.bl true) H'
def spIsEnd (K : PySem.W.Frag) (Ts : List Addr) (D : Addr) : Sp := fun vs H Q _ => ∃ (v : V) (e : En), vs = [v] ∧ EnAt K (nt H) v e ∧ Tbs Ts D H ∧ ∀ H', LamX.ExtN H H' → Tbs Ts D H' → Q (.bl true) H'
def spIsBlock (K : PySem.W.Frag) (Ts : List Addr) (D : Addr) : Sp := fun vs H Q _ => ∃ (v : V) (b : Blk), vs = [v] ∧ BlkAt K (nt H) v b ∧ (∀ r ∈ b.1, RwA (fun _ => True) r) ∧ Tbs Ts D H ∧ ∀ H', LamX.ExtN H H' → Tbs Ts D H' → Q (.bl true) H'
def spIsWritten (K : PySem.W.Frag) (Ts : List Addr) (D : Addr) : Sp := fun vs H Q _ => ∃ (v : V) (pr : List Blk), vs = [v] ∧ ProgAt K (nt H) v pr ∧ pr ≠ [] ∧ (∀ b ∈ pr, ∀ r ∈ b.1, RwA (fun _ => True) r) ∧ Tbs Ts D H ∧ ∀ H', LamX.ExtN H H' → Tbs Ts D H' → Q (.bl true) H'
theorem scIsRow : FnScope nIsNum ["thing"] (defScope sIsRow) := ⟨rfl, rfl, rfl, by decide +kernel, rfl, by decide +kernel, by decide +kernel⟩
theorem scIsEnd : FnScope nIsNum ["thing"] (defScope sIsEnd) := ⟨rfl, rfl, rfl, by decide +kernel, rfl, by decide +kernel, by decide +kernel⟩
abbrev nIsBlock : List Str := ["thing", "rows", "end", "row"]
theorem scIsBlock : FnScope nIsBlock ["thing"] (defScope sIsBlock) := ⟨rfl, rfl, rfl, by decide +kernel, rfl, by decide +kernel, by decide +kernel⟩
abbrev nIsWritten : List Str := ["thing", "block"]
theorem scIsWritten : FnScope nIsWritten ["thing"] (defScope sIsWritten) := ⟨rfl, rfl, rfl, by decide +kernel, rfl, by decide +kernel, by decide +kernel⟩
section
variable {P0 : Program} {w : World} {K : PySem.W.Frag} {mg : Str → Option Value} {base : Heap} {Ts : List Addr} {Dd : Addr}
theorem ok_isRow {f fF fW dR dE : Addr} {fd fdF fdW : FuncData} {k : Nat} (D : Df K mg "is_row" sIsRow ["thing"] f fd) (T : Tb K w mg dR dE) (low : (dR == sysModules) = false)
    (DF : Df K mg "fits" sFits ["thing", "kinds"] fF fdF) (GF : FnOk P0 w K mg base CX0 k fF fdF ["thing", "kinds"] (spFits K Ts Dd)) (DW : Df K mg "word_of" sWordOf ["thing"] fW fdW) (GW : FnOk P0 w K mg base CX0 k fW fdW ["thing"] (spWordOf K)) :
    FnOk P0 w K mg base CX0 (k + 1) f fd ["thing"] (spIsRow K Ts Dd) := by
  refine D.F.ok scIsRow (fun vs H Q E h => ?_) (fun cdv A outer s H vs Q E hr h => ?_)
  · obtain ⟨v, r, rfl, _⟩ := h
    rfl
  · obtain ⟨v, r, rfl, hv, hA, hT, q⟩ := h
    obtain ⟨p, ps, rfl, hp, hpd⟩ := row_kd hA hv
    refine ⟨_, (pss_one (ps_ret (pe_call GF hr (by rfl) DF.g DF.F.kp DF.b .nil pass0 (pa_cons (pv 0) (pa_cons (pe_kget (pe_glob (v := .ref dR) (by rfl) T.mgR rfl) (pe_call GW hr (by rfl) DW.g DW.F.kp DW.b .nil pass0 (pa_cons (pv 0) pa_nil)) ⟨rfl, rfl, rfl, rfl⟩) pa_nil))))), ?_⟩
    obtain ⟨g, hg, hgT⟩ := T.row r
    have hg' := hg
    obtain ⟨es, n, u, z1, z2, _⟩ := hg'
    exact ⟨_, rfl, dR, rfl, ⟨low, es, n, z1, z2⟩, _, rfl, p, r.w, ps, rfl, ntT hp, r.w, rfl, .inl ⟨.ref g, hg, p, g, r.w, ps, r.kdS, rfl, hp, fun H' => by rw [← kdS_rw]; exact hgT H', kdS_len r, hpd, hT, q⟩⟩
theorem ok_isEnd {f fF fW dR dE : Addr} {fd fdF fdW : FuncData} {k : Nat} (D : Df K mg "is_end" sIsEnd ["thing"] f fd) (T : Tb K w mg dR dE) (low : (dE == sysModules) = false)
    (DF : Df K mg "fits" sFits ["thing", "kinds"] fF fdF) (GF : FnOk P0 w K mg base CX0 k fF fdF ["thing", "kinds"] (spFits K Ts Dd)) (DW : Df K mg "word_of" sWordOf ["thing"] fW fdW) (GW : FnOk P0 w K mg base CX0 k fW fdW ["thing"] (spWordOf K)) :
    FnOk P0 w K mg base CX0 (k + 1) f fd ["thing"] (spIsEnd K Ts Dd) := by
  refine D.F.ok scIsEnd (fun vs H Q E h => ?_) (fun cdv A outer s H vs Q E hr h => ?_)
  · obtain ⟨v, r, rfl, _⟩ := h
    rfl
  · obtain ⟨v, e, rfl, hv, hT, q⟩ := h
    obtain ⟨p, ps, rfl, hp, hpd⟩ := en_kd hv
    refine ⟨_, (pss_one (ps_ret (pe_call GF hr (by rfl) DF.g DF.F.kp DF.b .nil pass0 (pa_cons (pv 0) (pa_cons (pe_kget (pe_glob (v := .ref dE) (by rfl) T.mgE rfl) (pe_call GW hr (by rfl) DW.g DW.F.kp DW.b .nil pass0 (pa_cons (pv 0) pa_nil)) ⟨rfl, rfl, rfl, rfl⟩) pa_nil))))), ?_⟩
    obtain ⟨g, hg, hgT⟩ := T.end_ e
    have hg' := hg
    obtain ⟨es, n, u, z1, z2, _⟩ := hg'
    exact ⟨_, rfl, dE, rfl, ⟨low, es, n, z1, z2⟩, _, rfl, p, e.word, ps, rfl, ntT hp, e.word, rfl, .inl ⟨.ref g, hg, p, g, e.word, ps, e.kdS, rfl, hp, fun H' => by rw [← kdS_en]; exact hgT H', by cases e <;> simp [En.kdS], hpd, hT, q⟩⟩
theorem ok_isBlock {f fR fE c P : Addr} {fd fdR fdE : FuncData} {k : Nat} (D : DfC K mg "is_block" sIsBlock ["thing"] f fd c) (B : Bi mg) (TB : GxR.TabB base mg c P) (hP : P ∈ Ts) (hTs : TsOk Ts Dd)
    (DR : Df K mg "is_row" sIsRow ["thing"] fR fdR) (GR : FnOk P0 w K mg base CX0 k fR fdR ["thing"] (spIsRow K Ts Dd)) (DE : Df K mg "is_end" sIsEnd ["thing"] fE fdE) (GE : FnOk P0 w K mg base CX0 (k + 3) fE fdE ["thing"] (spIsEnd K Ts Dd)) :
    FnOk P0 w K mg base CX0 (k + 3 + 1) f fd ["thing"] (spIsBlock K Ts Dd) := by
  refine D.F.ok scIsBlock (fun vs H Q E h => ?_) (fun A outer s H vs Q E hr h => ?_)
  · obtain ⟨v, b, rfl, _⟩ := h
    rfl
  · obtain ⟨v, b, rfl, ⟨p, ra, ea, us, rfl, hp, hra, hrs, hen⟩, hA, hT, q⟩ := h
    refine ⟨_, (pss_cons (ps_if (pw_or (pt_not (pt_val (pe_callB call_isi (by rfl) B.isinstance PyProof.Rows.boot_isinstance (pa_cons (pv 0) (pa_cons (pe_bltn (v := .ty "tuple") (by rfl) B.tuple (show bootBuiltins "tuple" = some (.type "tuple") by rfl) rfl) pa_nil))))) (pw_or1 (pt_cmpR op_ne (pe_callB call_len_seq (by rfl) B.len PySem.boot_len (pa_cons (pv 0) pa_nil)) pe_int (nomark _)))).pt (pss_one (ps_ret pe_bl)) pss_nil)
      (pss_cons (ps_asg (pv 0) (pg_tup rfl (pgs_cons (pg_name (i := 1) scIsBlock.nd rfl (.inl rfl)) (pgs_cons (pg_name (i := 2) scIsBlock.nd rfl (.inl rfl)) pgs_nil))))
      (pss_one (ps_ret (pe_and (pe_callB call_isi (by rfl) B.isinstance PyProof.Rows.boot_isinstance (pa_cons (pv 1) (pa_cons (pe_bltn (v := .ty "list") (by rfl) B.list (show bootBuiltins "list" = some (.type "list") by rfl) rfl) pa_nil))) (pe_and (Gx.pe_allG (k := k) (own := [("row", 3)]) (g := gName 3) (tt := tYes) (te := tCall (spIsRow K Ts Dd) [] E0 (tCons (tVar 3) tNil)) rfl hr scIsBlock.nd (by rfl) B.all (by decide +kernel) TB rfl
      (blkOk_by (own := [("row", 3)]) (N := nIsBlock) (sc := defScope sIsBlock) (by decide +kernel)) (by decide +kernel) (by rfl) (by rfl)
      (pi_list (pv 1)) (fun _ _ _ _ _ _ _ _ _ => pg_name (i := 3) scIsBlock.nd rfl (.inl rfl)) (fun _ _ _ _ _ _ _ _ _ => pts_nil)
      (fun A' _ _ _ _ _ _ _ hr' => pe_call GR hr' (by rfl) DR.g DR.F.kp DR.b .nil pass0 (pa_cons (pv 3) pa_nil)) (fun _ => rfl)) (pe_one (pe_call GE hr (by rfl) DE.g DE.F.kp DE.b .nil pass0 (pa_cons (pv 2) pa_nil))))))))), ?_⟩
    have hl : us.length = b.1.length := pd_len hrs
    refine ⟨_, rfl, _, .ty "tuple", .type "tuple", .type "tuple", true, rfl, .ty "tuple", tyT (ntT hp), kit_ty (by decide +kernel), _, rfl, ?_⟩
    refine ifN (by intro h; cases h) ⟨_, rfl, p, _, rfl, .inr (ntT hp), rfl, _, rfl, ?_⟩
    refine ifN (by intro h; cases h) ⟨_, rfl, p, _, rfl, ntT hp, rfl, _, _, rfl, _, _, rfl, rfl, ?_⟩
    refine ⟨_, rfl, _, .ty "list", .type "list", .type "list", true, rfl, .ty "list", .base (.lst ((nt_same H) _ _ hra)), kit_ty (by decide +kernel), _, rfl, ?_⟩
    refine ifP rfl ?_
    have at_ : ∀ {H' : Hp}, LamX.ExtN H H' → nt H' ra = some (.lst us) := fun e => ext_nt e _ _ hra
    refine ⟨_, rfl, ra, rfl, ⟨_, sqL ((nt_same H) _ _ hra)⟩, hT.g P hP, fun H2 hTb => ?_⟩
    obtain ⟨hT2, e2⟩ := hT.tabbed hP (hTs.ne hP) hTb
    refine all_w us.length (fun H' => LamX.ExtN H H' ∧ Tbs Ts Dd H') ⟨e2, hT2⟩ (fun i H3 hi hΦ => ?_) (fun H3 hΦ => ⟨⟨_, sqL ((nt_same H3) _ _ (at_ hΦ.1)), Nat.le_refl _⟩, _, rfl, ifP rfl ?_⟩)
    · have h3 := sqL (K := K) ((nt_same H3) _ _ (at_ hΦ.1))
      refine ⟨⟨_, _, h3, List.getElem?_eq_getElem hi⟩, fun x H' y => ?_⟩
      obtain ⟨e1, y⟩ := y
      subst e1
      have ex := y _ h3
      obtain ⟨r, hr1, hr2⟩ := pd_at2 hrs ex
      exact ⟨rfl, _, rfl, x, r, rfl, hr2.same (ext_nt hΦ.1), hA r (List.mem_of_getElem? hr1), hΦ.2, fun H4 e4 t4 => ⟨true, rfl, fun e => (by cases e), fun _ => ⟨hΦ.1.trans e4, t4⟩⟩⟩
    · exact ⟨_, rfl, ea, b.2, rfl, hen.same (ext_nt hΦ.1), hΦ.2, fun H4 e4 t4 => q _ (hΦ.1.trans e4) t4⟩
theorem ok_isWritten {f fR c P : Addr} {fd fdR : FuncData} {k : Nat} (D : DfC K mg "is_written" sIsWritten ["thing"] f fd c) (B : Bi mg) (TB : GxR.TabB base mg c P) (hP : P ∈ Ts) (hTs : TsOk Ts Dd) {cR : Addr}
    (DR : DfC K mg "is_block" sIsBlock ["thing"] fR fdR cR) (GR : FnOk P0 w K mg base CX0 k fR fdR ["thing"] (spIsBlock K Ts Dd)) :
    FnOk P0 w K mg base CX0 (k + 3 + 1) f fd ["thing"] (spIsWritten K Ts Dd) := by
  refine D.F.ok scIsWritten (fun vs H Q E h => ?_) (fun A outer s H vs Q E hr h => ?_)
  · obtain ⟨v, b, rfl, _⟩ := h
    rfl
  · obtain ⟨v, pr, rfl, ⟨p, bs, rfl, hp, hbs⟩, hne, hA, hT, q⟩ := h
    refine ⟨_, (pss_one (ps_ret (pe_and (pe_callB call_isi (by rfl) B.isinstance PyProof.Rows.boot_isinstance (pa_cons (pv 0) (pa_cons (pe_bltn (v := .ty "list") (by rfl) B.list (show bootBuiltins "list" = some (.type "list") by rfl) rfl) pa_nil))) (pe_and (pe_cmpR op_gt (pe_callB call_len_seq (by rfl) B.len PySem.boot_len (pa_cons (pv 0) pa_nil)) pe_int (nomark _)) (pe_one (Gx.pe_allG (k := k) (own := [("block", 1)]) (g := gName 1) (tt := tYes) (te := tCall (spIsBlock K Ts Dd) [] E0 (tCons (tVar 1) tNil)) rfl hr scIsWritten.nd (by rfl) B.all (by decide +kernel) TB rfl
      (blkOk_by (own := [("block", 1)]) (N := nIsWritten) (sc := defScope sIsWritten) (by decide +kernel)) (by decide +kernel) (by rfl) (by rfl)
      (pi_list (pv 0)) (fun _ _ _ _ _ _ _ _ _ => pg_name (i := 1) scIsWritten.nd rfl (.inl rfl)) (fun _ _ _ _ _ _ _ _ _ => pts_nil)
      (fun A' _ _ _ _ _ _ _ hr' => pe_call GR hr' (by rfl) DR.g DR.F.kp DR.b .nil pass0 (pa_cons (pv 1) pa_nil)) (fun _ => rfl))))))), ?_⟩
    have hl : bs.length = pr.length := pd_len hbs
    have tyL : TyX K H (.ref p) (.type "list") := by
      rcases ntL hp with (h | ⟨u, h⟩) | ⟨o, its, n, h1, h2, _⟩
      · exact .base (.lst h)
      · exact .base (.frz h)
      · exact .kList h1 h2
    refine ⟨_, rfl, _, .ty "list", .type "list", .type "list", true, rfl, .ty "list", tyL, kit_ty (by decide +kernel), _, rfl, ?_⟩
    refine ifP rfl ⟨_, rfl, p, _, rfl, .inl (ntL hp), _, _, rfl, rfl, _, rfl, ?_⟩
    refine ifP (decide_eq_true (by
      have := List.length_pos_iff.mpr hne
      omega)) ?_
    have at_ : ∀ {H' : Hp}, LamX.ExtN H H' → SqL K H' p bs := fun e => ntL ((ext_nt e).seq hp)
    refine ⟨_, rfl, p, rfl, ⟨_, ntL hp⟩, hT.g P hP, fun H2 hTb => ?_⟩
    obtain ⟨hT2, e2⟩ := hT.tabbed hP (hTs.ne hP) hTb
    refine all_w bs.length (fun H' => LamX.ExtN H H' ∧ Tbs Ts Dd H') ⟨e2, hT2⟩ (fun i H3 hi hΦ => ?_) (fun H3 hΦ => ⟨⟨_, at_ hΦ.1, Nat.le_refl _⟩, q _ hΦ.1 hΦ.2⟩)
    have h3 := at_ hΦ.1
    refine ⟨⟨_, _, h3, List.getElem?_eq_getElem hi⟩, fun x H' y => ?_⟩
    obtain ⟨e1, y⟩ := y
    subst e1
    have ex := y _ h3
    obtain ⟨b, hb1, hb2⟩ := pd_at2 hbs ex
    exact ⟨rfl, _, rfl, x, b, rfl, hb2.same (ext_nt hΦ.1), hA b (List.mem_of_getElem? hb1), hΦ.2, fun H4 e4 t4 => ⟨true, rfl, fun e => (by cases e), fun _ => ⟨hΦ.1.trans e4, t4⟩⟩⟩
end
end Gn
set_option Elab.async false
set_option linter.all false
set_option maxRecDepth 100000
set_option maxHeartbeats 4000000
namespace Gn
open PySem PySem.Spec PyProof.Rows L2
abbrev sNamed : Stmt := topS 13
abbrev sLeadsOf : Stmt := topS 22
/-- the table of ends' parts, as the top has written it -/
structure Ep (K : PySem.W.Frag) (w : World) (mg : Str → Option Value) (dE g1 g2 g3 : Addr) : Prop where
  mgE : mg "END_PARTS" = some (.ref dE)
  k1 : KDct K w dE "go" (.ref g1)
  k2 : KDct K w dE "if" (.ref g2)
  k3 : KDct K w dE "end" (.ref g3)
  t1 : ∀ H, SqT K H g1 [.str "block"]
  t2 : ∀ H, SqT K H g2 [.str "row", .str "block", .str "block"]
  t3 : ∀ H, SqT K H g3 []
def En.names : En → List Nat
  | .go b => [b]
  | .iff _ b c => [b, c]
  | .fin => []
def spNamed (K : PySem.W.Frag) : Sp := fun vs H Q _ => ∃ (v : V) (e : En), vs = [v] ∧ EnAt K H v e ∧
  ∀ (p : Addr) (H' : Hp), H p = none → Same H H' → H' p = some (.lst (e.names.map iv)) → Q (.ref p) H'
abbrev nNamed : List Str := ["end", "kind", "part"]
theorem scNamed : FnScope nNamed ["end"] (defScope sNamed) := ⟨rfl, rfl, rfl, by decide +kernel, rfl, by decide +kernel, by decide +kernel⟩
def sel : List V → List V → Nat → List V
  | _, _, 0 => []
  | ks, ps, i + 1 => sel ks ps i ++ (if ks.getD i .non = .str "block" then [ps.getD i .non] else [])
section
variable {P : Program} {w : World} {K : PySem.W.Frag} {mg : Str → Option Value} {base : Heap}
theorem ok_named {f dE g1 g2 g3 : Addr} {fd : FuncData} {k : Nat} (D : Df K mg "blocks_named" sNamed ["end"] f fd) (B : Bi mg) (EP : Ep K w mg dE g1 g2 g3) : FnOk P w K mg base CX0 (k + 1) f fd ["end"] (spNamed K) := by
  refine D.F.ok scNamed (fun vs H Q E h => ?_) (fun cdv A outer s H vs Q E hr h => ?_)
  · obtain ⟨v, e, rfl, _⟩ := h
    rfl
  · obtain ⟨v, e, rfl, he, q⟩ := h
    refine ⟨_, pss_one (ps_ret (pe_lc (own := [("kind", 1), ("part", 2)]) (g := gTup K 2 (gCons (gName 1) (gCons (gName 2) gNil))) (tt := tTest (tOp rEq (tVar 1) (tC (.str "block")))) (te := tVar 2) rfl scNamed.nd
      (RZ.pi_zipA (by rfl) B.zip (pa_cons (pe_ix ix_kdict (pe_glob (v := .ref dE) (by rfl) EP.mgE rfl) (pe_ix ix_tup (pv 0) pe_int (fun _ _ => rfl)) (fun _ _ => rfl)) (pa_cons (pe_slice sl_tup (pv 0) (po_some pe_int) po_none) pa_nil)))
      (blkOk_by (own := [("kind", 1), ("part", 2)]) (N := nNamed) (sc := defScope sNamed) (by decide +kernel))
      (fun _ _ _ _ _ => pg_tup rfl (pgs_cons (pg_name (i := 1) scNamed.nd rfl (.inl rfl)) (pgs_cons (pg_name (i := 2) scNamed.nd rfl (.inl rfl)) pgs_nil)))
      (fun _ _ _ _ _ => pts_one (pt_cmpR op_eq (pv 1) pe_str (nomark _))) (fun _ _ _ _ _ => pv 2))), ?_⟩
    obtain ⟨p, rfl, hp⟩ := he.at
    have kd : ∃ gg, KDct K w dE e.word (.ref gg) ∧ ∀ H, SqT K H gg e.kinds := by
      cases e with
      | go b => exact ⟨g1, EP.k1, EP.t1⟩
      | iff r b c => exact ⟨g2, EP.k2, EP.t2⟩
      | fin => exact ⟨g3, EP.k3, EP.t3⟩
    obtain ⟨gg, kd1, kd2⟩ := kd
    have hll : e.kinds.length = e.parts.length := by cases e <;> rfl
    refine ⟨_, rfl, p, _, _, _, rfl, rfl, hp, atI_nat (j := 0) rfl, dE, e.word, .ref gg, rfl, rfl, kd1, .ref p, rfl, 1, rfl, p, _, rfl, hp, cut_not _ _, fun S nS => ?_⟩
    rw [cut_one]
    refine ⟨gg, S, e.kinds, e.parts, rfl, .inr ⟨kd2 _, sqT upd_same, fun L nL => ?_⟩⟩
    have sS := new_same (o := .tup e.parts) nS
    have eS : upd H S (.tup e.parts) S = some (.tup e.parts) := upd_same
    generalize hH1 : upd H S (.tup e.parts) = H1 at sS eS nL
    have hk3 : e.parts.length ≤ 3 := by cases e <;> simp [En.parts]
    refine lc_it (walk_zt hll) (fun i H2 => Same H1 H2 ∧ ∃ zs, H2 L = some (.lst zs) ∧ zs = sel e.kinds e.parts i ∧ zs.length ≤ i) ⟨new_same nL, [], upd_same, rfl, Nat.le_refl _⟩ (fun i H2 _ hP => ⟨kd2 _, sqT (hP.1 _ _ eS)⟩) (fun i x H2 H3 hi hP hY => ?_) (fun H2 hP => ?_)
    · obtain ⟨s2, zs, eL, hz, hzl⟩ := hP
      obtain ⟨T, x1, x2, rfl, nT, rfl, e1, e2⟩ := hY
      have e1 : e.kinds[i]? = some x1 := e1
      have e2 : e.parts[i]? = some x2 := e2
      have sT := new_same (o := .tup [x1, x2]) nT
      have sc : scal x1 (.str "block") = true := by
        have hm := List.mem_of_getElem? e1
        cases e with
        | go b => rw [List.mem_singleton.mp hm]; rfl
        | iff r b c =>
          have hm2 : x1 = .str "row" ∨ x1 = .str "block" ∨ x1 = .str "block" := by simpa [En.kinds] using hm
          rcases hm2 with rfl | rfl | rfl <;> rfl
        | fin => cases hm
      have es : sel e.kinds e.parts (i + 1) = zs ++ (if x1 = .str "block" then [x2] else []) := by
        show sel e.kinds e.parts i ++ _ = _
        rw [gd e1, gd e2, ← hz]
      refine ⟨T, _, rfl, sqT upd_same, rfl, _, _, rfl, _, _, rfl, rfl, rfl, _, rfl, sc, _, rfl, ite2 (fun h => ?_) (fun h => ?_)⟩
      · have h1 : x1 = .str "block" := of_decide_eq_true h
        rw [if_pos h1] at es
        refine ⟨_, rfl, zs, sT _ _ eL, szt (by omega), fun a o z => ?_, _, upd_same, es.symm, ?_⟩
        · rw [upd_ne (ne_of_none z nL)]; exact sT _ _ (s2 _ _ z)
        · rw [List.length_append, List.length_singleton]; omega
      · have h1 : ¬ x1 = .str "block" := fun z => h (decide_eq_true z)
        rw [if_neg h1, List.append_nil] at es
        exact ⟨s2.trans sT, zs, sT _ _ eL, es.symm, by omega⟩
    · obtain ⟨s2, zs, eL, hz, hzl⟩ := hP
      have ez : zs = e.names.map iv := by
        rw [hz]
        cases e <;> rfl
      rw [ez] at eL
      exact q L H2 (sS.free nL) (sS.trans s2) eL
end
end Gn
set_option Elab.async false
set_option linter.all false
set_option maxRecDepth 100000
set_option maxHeartbeats 4000000
namespace Gn
open PySem PySem.Spec PyProof.Rows L2
/-! ### a list of lists that grow -/
/-- at lp: m lists, unlike ones, the n-th holds f n; all new -/
structure LL (H H1 : Hp) (lp : Addr) (m : Nat) (qs : List Addr) (f : Nat → List Nat) : Prop where
  top : H1 lp = some (.lst (qs.map V.ref))
  nd : (lp :: qs).Nodup
  len : qs.length = m
  new : ∀ q ∈ lp :: qs, H q = none
  at_ : ∀ n q, qs[n]? = some q → H1 q = some (.lst ((f n).map iv))
theorem LL.same {H H1 H2 : Hp} {lp : Addr} {m : Nat} {qs : List Addr} {f : Nat → List Nat} (h : LL H H1 lp m qs f) (e : Same H1 H2) : LL H H2 lp m qs f :=
  ⟨e _ _ h.top, h.nd, h.len, h.new, fun n q z => e _ _ (h.at_ n q z)⟩
theorem LL.ext {H H1 : Hp} {lp : Addr} {m : Nat} {qs : List Addr} {f g : Nat → List Nat} (h : LL H H1 lp m qs f) (e : ∀ n, n < m → f n = g n) : LL H H1 lp m qs g :=
  ⟨h.top, h.nd, h.len, h.new, fun n q z => by
    have := (List.getElem?_eq_some_iff.mp z).1
    rw [← e n (by rw [← h.len]; exact this)]
    exact h.at_ n q z⟩
theorem LL.app {H H1 : Hp} {lp : Addr} {m : Nat} {qs : List Addr} {f : Nat → List Nat} {n i : Nat} {q : Addr} (h : LL H H1 lp m qs f) (hq : qs[n]? = some q) :
    LL H (upd H1 q (.lst ((f n).map iv ++ [iv i]))) lp m qs (fun k => if k = n then f n ++ [i] else f k) := by
  have hn := h.nd
  rw [List.nodup_cons] at hn
  have hqm := List.mem_of_getElem? hq
  refine ⟨?_, h.nd, h.len, h.new, fun k q' hk => ?_⟩
  · rw [upd_ne (fun z : lp = q => hn.1 (z ▸ hqm))]
    exact h.top
  · by_cases hkn : k = n
    · subst hkn
      have : q' = q := Option.some.inj (hk.symm.trans hq)
      subst this
      rw [upd_same, if_pos rfl, List.map_append]
      rfl
    · rw [if_neg hkn, upd_ne (fun z : q' = q => hkn (nd_ix hn.2 hk (z.symm ▸ hq)))]
      exact h.at_ k q' hk
theorem LL.frame {H H1 : Hp} {lp : Addr} {m : Nat} {qs : List Addr} {f : Nat → List Nat} {n : Nat} {q : Addr} {o : HO} (h : LL H H1 lp m qs f) (hq : qs[n]? = some q) (s : Same H H1) : Same H (upd H1 q o) := fun a u e => by
  rw [upd_ne (ne_of_none e (h.new q (List.mem_cons_of_mem _ (List.mem_of_getElem? hq))))]
  exact s a u e
/-- how often a number is among a block's names, in order -/
def spec (pr : List Blk) (i n : Nat) : List Nat := (List.range i).flatMap fun j => List.replicate (((pr.getD j ([], .fin)).2.names).count n) j
theorem spec_succ (pr : List Blk) (i n : Nat) : spec pr (i + 1) n = spec pr i n ++ List.replicate (((pr.getD i ([], .fin)).2.names).count n) i := by
  unfold spec
  rw [List.range_succ, List.flatMap_append]
  simp
theorem spec_len {pr : List Blk} (h : ∀ b ∈ pr, b.2.names.length ≤ 2) (n : Nat) : ∀ i, (spec pr i n).length ≤ 2 * i
  | 0 => Nat.le_refl _
  | i + 1 => by
    rw [spec_succ, List.length_append, List.length_replicate]
    have h1 := spec_len h n i
    have h2 : ((pr.getD i ([], .fin)).2.names).count n ≤ 2 := by
      refine Nat.le_trans List.count_le_length ?_
      by_cases hi : i < pr.length
      · exact h _ (List.mem_of_getElem? (gdl (d := ([], En.fin)) hi))
      · rw [List.getD_eq_getElem?_getD, List.getElem?_eq_none (by omega)]
        exact Nat.zero_le _
    omega
theorem rep_snoc (k i : Nat) : List.replicate k i ++ [i] = List.replicate (k + 1) i := by
  rw [List.replicate_succ']
theorem count_step {xs : List Nat} {j b n : Nat} (h : xs[j]? = some b) : (xs.take (j + 1)).count n = (xs.take j).count n + (if n = b then 1 else 0) := by
  rw [List.take_add_one, h, List.count_append]
  show _ + List.count n [b] = _
  rw [List.count_singleton]
  by_cases e : n = b
  · subst e; simp
  · rw [if_neg e]
    have : (b == n) = false := by simp; exact fun z => e z.symm
    rw [this]
    rfl
/-! ### leads_of -/
def namesOk (m : Nat) (pr : List Blk) : Prop := ∀ b ∈ pr, ∀ y ∈ b.2.names, y < m
def spLeadsOf (K : PySem.W.Frag) : Sp := fun vs H Q _ => ∃ (v : V) (pr : List Blk), vs = [v] ∧ ProgAt K H v pr ∧ pr.length ≤ 1000 ∧ namesOk pr.length pr ∧ (∀ b ∈ pr, b.2.names.length ≤ 2) ∧
  ∀ (lp : Addr) (qs : List Addr) (H' : Hp), Same H H' → LL H H' lp pr.length qs (spec pr pr.length) → Q (.ref lp) H'
abbrev nLeadsOf : List Str := ["program", "leads", "block", "rows", "end", "named"]
theorem scLeadsOf : FnScope nLeadsOf ["program"] (defScope sLeadsOf) := ⟨rfl, rfl, rfl, by decide +kernel, rfl, by decide +kernel, by decide +kernel⟩
theorem nd_snoc {α : Type} {l : List α} {a : α} (h : l.Nodup) (n : a ∉ l) : (l ++ [a]).Nodup := by
  rw [List.nodup_append]
  exact ⟨h, by simp, fun x hx y hy z => by rw [List.mem_singleton.mp hy] at z; exact n (z ▸ hx)⟩
section
variable {P : Program} {w : World} {K : PySem.W.Frag} {mg : Str → Option Value} {base : Heap}
theorem ok_leadsOf {f fN : Addr} {fd fdN : FuncData} {k : Nat} (D : Df K mg "leads_of" sLeadsOf ["program"] f fd) (B : Bi mg) (DN : Df K mg "blocks_named" sNamed ["end"] fN fdN) (GN : FnOk P w K mg base CX0 k fN fdN ["end"] (spNamed K)) :
    FnOk P w K mg base CX0 (k + 1) f fd ["program"] (spLeadsOf K) := by
  refine D.F.ok scLeadsOf (fun vs H Q E h => ?_) (fun cdv A outer s H vs Q E hr h => ?_)
  · obtain ⟨v, pr, rfl, _⟩ := h
    rfl
  · obtain ⟨v, pr, rfl, ⟨p, bs, rfl, hp, hbs⟩, hl, hno, hn2, q⟩ := h
    have hbl : bs.length = pr.length := pd_len hbs
    refine ⟨_, pss_cons (ps_setLc (i := 1) (own := [("block", 2)]) (g := gName 2) (tt := tYes) (te := tLst tNil) (by rfl) scLeadsOf.nd rfl rfl (sw_true rfl rfl rfl (by decide +kernel)) (pi_list (pv 0)) (blkOk_by (own := [("block", 2)]) (N := nLeadsOf) (sc := defScope sLeadsOf) (by decide +kernel))
        (fun _ _ _ _ _ => pg_name (i := 2) scLeadsOf.nd rfl (.inl rfl)) (fun _ _ _ _ _ => pts_nil) (fun _ _ _ _ _ => pe_lst pa_nil))
      (pss_cons (ps_for PassesOwn.never rfl (pi_enum (by rfl) B.enumerate (pa_cons (pv 0) pa_nil)) (pg_tup rfl (pgs_cons (pg_name (i := 2) scLeadsOf.nd rfl (.inl rfl)) (pgs_cons (pg_tup rfl (pgs_cons (pg_name (i := 3) scLeadsOf.nd rfl (.inl rfl)) (pgs_cons (pg_name (i := 4) scLeadsOf.nd rfl (.inl rfl)) pgs_nil))) pgs_nil)))
        (pss_one (ps_for PassesOwn.never rfl (pi_list (pe_call GN hr (by rfl) DN.g DN.F.kp DN.b .nil pass0 (pa_cons (pv 4) pa_nil))) (pg_name (i := 5) scLeadsOf.nd rfl (.inl rfl))
          (pss_one (ps_expr (pe_bm PySem.F.plainAttrs_list PySem.F.slot_list_append PySem.F.type_list_append mt_append (pe_ix ix_list (pv 1) (pv 5) (fun _ _ => rfl)) (pa_cons (pv 2) pa_nil)))))))
      (pss_one (ps_ret (pv 1)))), ?_⟩
    refine ⟨.ref p, rfl, p, rfl, ⟨_, hp⟩, fun lp nlp => ?_⟩
    refine lc_list (K := K) (a := p) (xs := bs) (fun i H1 => Same H H1 ∧ ∃ qs, LL H H1 lp i qs (fun _ => [])) ⟨new_same nlp, [], ⟨upd_same, by simp, rfl, fun q hq => by rw [List.mem_singleton.mp hq]; exact nlp, fun n q e => by simp at e⟩⟩ (fun i H1 _ hP => hP.1.seq hp) (fun i x H1 hx hP => ?_) (fun H1 hP => ?_)
    · obtain ⟨s1, qs, L1⟩ := hP
      have hil := (List.getElem?_eq_some_iff.mp hx).1
      refine ⟨rfl, Nat.zero_le _, fun b nb => ?_⟩
      have sB := new_same (o := .lst []) nb
      have L2' := L1.same sB
      have nbl : ∀ q ∈ lp :: qs, q ≠ b := fun q hq z => by
        rcases List.mem_cons.mp hq with rfl | hq
        · have := L1.top
          rw [z, nb] at this
          cases this
        · obtain ⟨n, hn⟩ := List.mem_iff_getElem?.mp hq
          have := L1.at_ n q hn
          rw [z, nb] at this
          cases this
      have hb0 : H b = none := s1.free nb
      refine ⟨_, L2'.top, by rw [List.length_map, L1.len]; exact szt (by omega), fun a o e => ?_, qs ++ [b], ?_⟩
      · rw [upd_ne (ne_of_none e nlp)]
        exact sB _ _ (s1 _ _ e)
      · refine ⟨by rw [upd_same, List.map_append]; rfl, ?_, by rw [List.length_append, List.length_singleton, L1.len], fun q hq => ?_, fun n q hn => ?_⟩
        · show ((lp :: qs) ++ [b]).Nodup
          exact nd_snoc L1.nd fun hm => nbl b hm rfl
        · have hq' : q ∈ (lp :: qs) ++ [b] := hq
          rcases List.mem_append.mp hq' with h | h
          · exact L1.new q h
          · rw [List.mem_singleton.mp h]; exact hb0
        · have nlb : b ≠ lp := (nbl lp List.mem_cons_self).symm
          by_cases hn2' : n < qs.length
          · rw [List.getElem?_append_left hn2'] at hn
            have hqm := List.mem_of_getElem? hn
            have hnd := L1.nd
            rw [List.nodup_cons] at hnd
            rw [upd_ne (fun z : q = lp => hnd.1 (z ▸ hqm))]
            exact L2'.at_ n q hn
          · rw [List.getElem?_append_right (by omega)] at hn
            have hm := List.mem_singleton.mp (List.mem_of_getElem? hn)
            subst hm
            rw [upd_ne nlb, upd_same]
            rfl
    · obtain ⟨s1, qs, L1⟩ := hP
      rw [hbl] at L1
      refine ⟨.ref p, rfl, p, bs, rfl, s1.seq hp, ?_⟩
      refine for_it (walk_enum (xs := bs)) (fun i σ H2 => ∃ (y2 y3 y4 y5 : Option V), σ = [some (.ref p), some (.ref lp), y2, y3, y4, y5] ∧ Same H H2 ∧ LL H H2 lp pr.length qs (spec pr i)) ⟨_, _, _, _, rfl, s1, L1⟩ (fun i σ H2 _ hP => ?_) (fun i x σ H2 H3 hi hP hY => ?_) (fun σ H2 hP => ?_)
      · obtain ⟨_, _, _, _, _, s2, _⟩ := hP
        exact s2.seq hp
      · obtain ⟨y2, y3, y4, y5, rfl, s2, L2'⟩ := hP
        obtain ⟨T, x1, x2, rfl, nT, rfl, e1, e2⟩ := hY
        cases e1
        have e2 : bs[i]? = some x2 := e2
        obtain ⟨bk, hb1, hb2⟩ := pd_at2 hbs e2
        have sT := new_same (o := .tup [.int (i : Nat), x2]) nT
        have s3 := s2.trans sT
        obtain ⟨pb, ra, ea, vs, rfl, h2, h3, h4, h5⟩ := hb2.same s3
        refine ⟨T, _, rfl, sqT upd_same, rfl, _, _, rfl, _, _, rfl, pb, _, rfl, h2, rfl, _, _, rfl, _, _, rfl, rfl, rfl, ?_⟩
        have L3 := L2'.same sT
        generalize upd H2 T (.tup [.int (i : Nat), .ref pb]) = H3 at s3 L3 h5
        refine ⟨ea, rfl, ea, bk.2, rfl, h5, fun np H4 nnp s4 enp => ⟨np, rfl, ⟨_, sqL enp⟩, ?_⟩⟩
        have L4 := L3.same s4
        have s5 := s3.trans s4
        have hnp : ∀ q ∈ lp :: qs, q ≠ np := fun q hq z => by
          rcases List.mem_cons.mp hq with rfl | hq
          · have := L3.top
            rw [z, nnp] at this; cases this
          · obtain ⟨n, hn⟩ := List.mem_iff_getElem?.mp hq
            have := L3.at_ n q hn
            rw [z, nnp] at this
            cases this
        have hbm := List.mem_of_getElem? hb1
        have hnm := hno bk hbm
        have hn2' := hn2 bk hbm
        have hpd : pr.getD i ([], .fin) = bk := gd hb1
        refine for_list (K := K) (a := np) (xs := bk.2.names.map iv) (fun j σ H5 => ∃ (y3 y4 y5 : Option V), σ = [some (.ref p), some (.ref lp), some (iv i), y3, y4, y5] ∧ Same H H5 ∧ H5 np = some (.lst (bk.2.names.map iv)) ∧ LL H H5 lp pr.length qs (fun n => spec pr i n ++ List.replicate ((bk.2.names.take j).count n) i))
          ⟨_, _, _, rfl, s5, enp, L4.ext fun n _ => by simp⟩ (fun j σ H5 _ hP => ?_) (fun j x σ H5 hx hP => ?_) (fun σ H5 hP => ?_)
        · obtain ⟨_, _, _, _, _, h, _⟩ := hP
          exact sqL h
        · obtain ⟨z3, z4, z5, rfl, s6, enp6, L5⟩ := hP
          rw [List.getElem?_map] at hx
          obtain ⟨b, hb, rfl⟩ := Option.map_eq_some_iff.mp hx
          have hbm2 := hnm b (List.mem_of_getElem? hb)
          have hbq : b < qs.length := by rw [L5.len]; exact hbm2
          have hq := List.getElem?_eq_getElem hbq
          have eq5 := L5.at_ b _ hq
          have hjl := (List.getElem?_eq_some_iff.mp hb).1
          have hsz : (spec pr i b ++ List.replicate ((bk.2.names.take j).count b) i).length ≤ 100000 := by
            rw [List.length_append, List.length_replicate]
            have h1 := spec_len hn2 b i
            have h2 : (bk.2.names.take j).count b ≤ 2 := Nat.le_trans List.count_le_length (Nat.le_trans (List.length_take_le _ _) (by omega))
            omega
          refine ⟨.ref lp, rfl, _, rfl, lp, _, _, .ref qs[b], rfl, rfl, sqL L5.top, atI_nat (by rw [List.getElem?_map, hq]; rfl), .inl ⟨rfl, _, sqL eq5⟩, _, rfl, qs[b], _, _, rfl, rfl, eq5, by rw [List.length_map]; exact szt (by omega), ?_⟩
          refine ⟨_, _, _, rfl, L5.frame hq s6, ?_, (L5.app (i := i) hq).ext fun n _ => ?_⟩
          · rw [upd_ne (hnp _ (List.mem_cons_of_mem _ (List.getElem_mem hbq))).symm]
            exact enp6
          · rw [count_step hb]
            by_cases e : n = b
            · subst e
              rw [if_pos rfl, if_pos rfl, List.append_assoc, rep_snoc]
            · rw [if_neg e, if_neg e, Nat.add_zero]
        · obtain ⟨z3, z4, z5, rfl, s6, enp6, L5⟩ := hP
          refine ⟨_, _, _, _, rfl, s6, L5.ext fun n _ => ?_⟩
          rw [spec_succ, hpd, List.length_map, List.take_length]
      · obtain ⟨y2, y3, y4, y5, rfl, s2, L2'⟩ := hP
        rw [hbl] at L2'
        exact ⟨.ref lp, rfl, q lp qs H2 s2 L2'⟩
end
end Gn
set_option Elab.async false
set_option linter.all false
set_option maxRecDepth 100000
set_option maxHeartbeats 4000000
namespace Gn
open PySem PySem.Spec PyProof.Rows L2
abbrev sCommon : Stmt := topS 18
abbrev sBrought : Stmt := topS 17
abbrev sNearest : Stmt := topS 16
abbrev sSizes : Stmt := topS 19
abbrev sPlaces : Stmt := topS 20
abbrev sRowsOf : Stmt := topS 23
abbrev sOwners : Stmt := topS 24
abbrev sWInit : Stmt := inClass (topS 15) 0
abbrev sLies : Stmt := inClass (topS 15) 1
theorem ixN_nat {n j : Nat} (h : j < n) : ixN n (j : Int) = some j := by
  unfold ixN
  rw [if_pos (by omega), if_pos (by omega), Int.toNat_natCast]
def Ex (nx : List (List Nat)) (a : Nat) : List Nat := nx.getD a []
theorem Ex.at {nx : List (List Nat)} {a : Nat} (h : a < nx.length) : Ex nx a = nx[a] := by
  unfold Ex
  rw [List.getD_eq_getElem?_getD, List.getElem?_eq_getElem h]
  rfl
def NxE (m : Nat) (xs : List Nat) : Prop := xs.length ≤ 2 ∧ xs.Nodup ∧ ∀ y ∈ xs, 1 ≤ y ∧ y < m
/-- each number from 1 on is in a lesser one's list -/
def LedX (m : Nat) (nx : List (List Nat)) : Prop := ∀ b, 1 ≤ b → b < m → ∃ j xs, j < b ∧ nx[j]? = some xs ∧ b ∈ xs
/-- what the ends name -/
def NxOk (m : Nat) (nx : List (List Nat)) : Prop := nx.length = m ∧ (∀ xs ∈ nx, NxE m xs) ∧ LedX m nx
/-! ### common_above -/
def Nf (ns : List Nat) (b : Nat) : Nat := ns.getD b 0
theorem Nf.at {ns : List Nat} {b : Nat} (h : b < ns.length) : (ns.map iv)[b]? = some (iv (Nf ns b)) := by
  unfold Nf
  rw [List.getElem?_map, List.getD_eq_getElem?_getD, List.getElem?_eq_getElem h]
  rfl
def spCommon (K : PySem.W.Frag) : Sp := fun vs H Q _ => ∃ (na ba : Addr) (ns : List Nat) (l0 : Nat) (ls : List Nat), vs = [.ref na, .ref ba] ∧ SqL K H na (ns.map iv) ∧ SqL K H ba ((l0 :: ls).map iv) ∧
  Dn ns.length (Nf ns) ∧ (∀ y ∈ l0 :: ls, y < ns.length) ∧ ∀ (e : Nat) (H' : Hp), Same H H' → LcaL (Nf ns) l0 ls e → Q (iv e) H'
abbrev nCommon : List Str := ["nearest", "blocks", "common", "block", "other"]
theorem scCommon : FnScope nCommon ["nearest", "blocks"] (defScope sCommon) := ⟨rfl, rfl, rfl, by decide +kernel, rfl, by decide +kernel, by decide +kernel⟩
theorem iv_ne {a b : Nat} : (!decide (iv a = iv b)) = !decide (a = b) := by
  have h : decide (iv a = iv b) = decide (a = b) := decide_eq_decide.mpr ⟨fun e => by have := V.int.inj e; omega, fun e => by rw [e]⟩
  rw [h]
section
variable {P : Program} {w : World} {K : PySem.W.Frag} {mg : Str → Option Value} {base : Heap}
theorem ok_common {f : Addr} {fd : FuncData} {k : Nat} (D : Df K mg "common_above" sCommon ["nearest", "blocks"] f fd) (B : Bi mg) : FnOk P w K mg base CX0 (k + 1) f fd ["nearest", "blocks"] (spCommon K) := by
  refine D.F.ok scCommon (fun vs H Q E h => ?_) (fun cdv A outer s H vs Q E hr h => ?_)
  · obtain ⟨na, ba, ns, l0, ls, rfl, _⟩ := h
    rfl
  · obtain ⟨na, ba, ns, l0, ls, rfl, hna, hba, hN, hlt, q⟩ := h
    refine ⟨_, pss_cons (ps_set (i := 2) scCommon.nd rfl (.inl rfl) (pe_ix ix_list (pv 1) pe_int (fun _ _ => rfl)))
      (pss_cons (ps_for PassesOwn.never rfl (pi_list (pe_slice sl_list (pv 1) (po_some pe_int) po_none)) (pg_name (i := 3) scCommon.nd rfl (.inl rfl))
        (pss_cons (ps_set (i := 4) scCommon.nd rfl (.inl rfl) (pv 3))
        (pss_one (ps_while PassesOwn.never (pt_cmpR op_ne (pv 2) (pv 4) (nomark _))
          (pss_one (ps_if (pt_cmpR op_gt (pv 2) (pv 4) (nomark _))
            (pss_one (ps_set (i := 2) scCommon.nd rfl (.inl rfl) (pe_ix ix_list (pv 0) (pv 2) (fun _ _ => rfl))))
            (pss_one (ps_set (i := 4) scCommon.nd rfl (.inl rfl) (pe_ix ix_list (pv 0) (pv 4) (fun _ _ => rfl))))))))))
      (pss_one (ps_ret (pv 2)))), ?_⟩
    refine ⟨.ref ba, rfl, ba, _, _, iv l0, rfl, rfl, hba, atI_nat (j := 0) rfl, ?_⟩
    refine ⟨.ref ba, rfl, 1, rfl, ba, _, rfl, hba, fun S nS => ⟨S, rfl, ⟨_, sqL upd_same⟩, ?_⟩⟩
    have ec : cutV ((l0 :: ls).map iv) (some 1) none = ls.map iv := cut_one _ _
    rw [ec]
    have sS := new_same (o := .lst (ls.map iv)) nS
    have eS : upd H S (.lst (ls.map iv)) S = some (.lst (ls.map iv)) := upd_same
    generalize upd H S (.lst (ls.map iv)) = H1 at sS eS
    refine for_list (K := K) (a := S) (xs := ls.map iv) (fun j σ H2 => ∃ (y3 y4 : Option V) (co : Nat), σ = [some (.ref na), some (.ref ba), some (iv co), y3, y4] ∧ H2 = H1 ∧ co < ns.length ∧ ∀ e, LcaL (Nf ns) co (ls.drop j) e → LcaL (Nf ns) l0 ls e)
      ⟨none, none, l0, rfl, rfl, hlt l0 List.mem_cons_self, fun e h => h⟩ (fun j σ H2 _ hP => ?_) (fun j x σ H2 hx hP => ?_) (fun σ H2 hP => ?_)
    · obtain ⟨_, _, _, _, rfl, _⟩ := hP
      exact sqL eS
    · obtain ⟨y3, y4, co, rfl, rfl, hco, hL⟩ := hP
      rw [List.getElem?_map] at hx
      obtain ⟨b, hb, rfl⟩ := Option.map_eq_some_iff.mp hx
      have hbl : b < ns.length := hlt b (List.mem_cons_of_mem _ (List.mem_of_getElem? hb))
      have hjl := (List.getElem?_eq_some_iff.mp hb).1
      have hdr : ls.drop j = b :: ls.drop (j + 1) := by
        rw [List.drop_eq_getElem_cons hjl, (List.getElem?_eq_some_iff.mp hb).2]
      refine ⟨_, rfl, fun m σ H3 => ∃ c o : Nat, σ = [some (.ref na), some (.ref ba), some (iv c), some (iv b), some (iv o)] ∧ H3 = H2 ∧ m = c + o ∧ c < ns.length ∧ o < ns.length ∧ ∀ e, Lca (Nf ns) c o e → Lca (Nf ns) co b e, ⟨_, co, b, rfl, rfl, rfl, hco, hbl, fun e h => h⟩, fun m σ H3 hW => ?_⟩
      obtain ⟨c, o, rfl, rfl, rfl, hc, ho, hl⟩ := hW
      refine ⟨_, rfl, _, rfl, rfl, _, rfl, ?_⟩
      show if (!decide (iv c = iv o)) = true then _ else _
      rw [iv_ne]
      by_cases hco2 : c = o
      · rw [if_neg (by rw [decide_eq_true hco2]; decide)]
        subst hco2
        exact ⟨_, _, c, rfl, rfl, hc, fun e h => hL e (by rw [hdr]; exact .c (hl c .e) h)⟩
      · rw [if_pos (by rw [decide_eq_false hco2]; rfl)]
        refine ⟨fun σ' H' => ∃ m', m' < c + o ∧ ∃ c o : Nat, σ' = [some (.ref na), some (.ref ba), some (iv c), some (iv b), some (iv o)] ∧ H' = H3 ∧ m' = c + o ∧ c < ns.length ∧ o < ns.length ∧ ∀ e, Lca (Nf ns) c o e → Lca (Nf ns) co b e, fun σ' H' h => h, ?_⟩
        refine ⟨_, rfl, _, rfl, _, _, rfl, rfl, _, rfl, ite2 (fun e => ?_) (fun e => ?_)⟩
        · have hgt : (c : Int) > (o : Int) := of_decide_eq_true e
          have h1 := hN c (by omega) hc
          refine ⟨.ref na, rfl, _, rfl, na, _, _, iv (Nf ns c), rfl, rfl, sS.seq hna, atI_nat (Nf.at hc), ?_⟩
          exact ⟨Nf ns c + o, by omega, Nf ns c, o, rfl, rfl, rfl, by omega, ho, fun e h => hl e (.l (by omega) h)⟩
        · have hgt : ¬ (c : Int) > (o : Int) := fun z => e (decide_eq_true z)
          have h1 := hN o (by omega) ho
          refine ⟨.ref na, rfl, _, rfl, na, _, _, iv (Nf ns o), rfl, rfl, sS.seq hna, atI_nat (Nf.at ho), ?_⟩
          exact ⟨c + Nf ns o, by omega, c, Nf ns o, rfl, rfl, rfl, hc, by omega, fun e h => hl e (.r (by omega) h)⟩
    · obtain ⟨y3, y4, co, rfl, rfl, hco, hL⟩ := hP
      rw [List.length_map, List.drop_length] at hL
      exact ⟨_, rfl, q co H2 sS (hL co .n)⟩
end
end Gn
set_option Elab.async false
set_option linter.all false
set_option maxRecDepth 100000
set_option maxHeartbeats 4000000
namespace Gn
open PySem PySem.Spec PyProof.Rows L2
/-! ### brought_nearer -/
structure Gr (m : Nat) (E : Nat → List Nat) (lds : List (List Nat)) : Prop where
  pos : 0 < m
  len : lds.length = m
  le : m ≤ 1000
  inE : ∀ a, ∀ b ∈ E a, b < m
  ofE : ∀ a, E a ≠ [] → a < m
  noZ : ∀ a, 0 ∉ E a
  led : Led m E
  ld : ∀ b, b < m → IsLd m E b (lds.getD b [])
structure Nw (m : Nat) (E : Nat → List Nat) (n : Nat) (ns : List Nat) : Prop where
  len : ns.length = m
  dn : Dn m (Nf ns)
  bet : Bet m E (Nf ns)
  kd : Kd m E (Nf ns) n
theorem Nf.set {ns : List Nat} {b e : Nat} (h : b < ns.length) (c : Nat) : Nf (ns.set b e) c = if c = b then e else Nf ns c := by
  unfold Nf
  rw [List.getD_eq_getElem?_getD, List.getElem?_set, List.getD_eq_getElem?_getD]
  by_cases hc : c = b
  · subst hc
    rw [if_pos rfl, if_pos rfl, if_pos h]
    rfl
  · rw [if_neg (fun z : b = c => hc z.symm), if_neg hc]
theorem Nw.set {m n : Nat} {E : Nat → List Nat} {lds : List (List Nat)} {ns : List Nat} (g : Gr m E lds) (h : Nw m E n ns) {b e : Nat} (h0 : 0 < b) (hb : b < m) (hl : LcaB (Nf ns) (lds.getD b []) e) : Nw m E n (ns.set b e) ∧ ¬ Rn E e (n + 1) b := by
  have hbl : b < ns.length := by rw [h.len]; exact hb
  have k1 := step_kd g.ofE h.dn h.kd h0 (g.ld b hb) hl
  refine ⟨⟨by rw [List.length_set, h.len], fun c c0 hc => ?_, fun c x c0 hc hd hx => ?_, fun c c0 hc => ?_⟩, k1⟩
  · rw [Nf.set hbl]
    by_cases e1 : c = b
    · rw [if_pos e1, e1]; exact step_lt h.dn g.led h0 hb (g.ld b hb) hl
    · rw [if_neg e1]; exact h.dn c c0 hc
  · rw [Nf.set hbl]
    by_cases e1 : c = b
    · rw [if_pos e1]
      subst e1
      exact step_bet h.dn g.led h.bet (g.ld c hb) hl hd hx
    · rw [if_neg e1]; exact h.bet c x c0 hc hd hx
  · rw [Nf.set hbl]
    by_cases e1 : c = b
    · rw [if_pos e1, e1]; exact fun z => k1 (z.mono (Nat.le_succ n))
    · rw [if_neg e1]; exact h.kd c c0 hc
theorem Gr.ne {m : Nat} {E : Nat → List Nat} {lds : List (List Nat)} (g : Gr m E lds) {b : Nat} (h0 : 0 < b) (hb : b < m) : ∃ l0 ls, lds.getD b [] = l0 :: ls := by
  obtain ⟨j, hj, hbj⟩ := g.led b h0 hb
  have := (g.ld b hb j).mpr ⟨by omega, hbj⟩
  cases h : lds.getD b [] with
  | nil => rw [h] at this; cases this
  | cons l0 ls => exact ⟨l0, ls, rfl⟩
def spBrought (K : PySem.W.Frag) : Sp := fun vs H Q _ => ∃ (na lp : Addr) (I : Hp) (ns : List Nat) (lds : List (List Nat)) (m n : Nat) (E : Nat → List Nat), vs = [.ref na, .ref lp] ∧ Same I H ∧ I na = none ∧ NL K I lp lds ∧ H na = some (.lst (ns.map iv)) ∧
  Gr m E lds ∧ Nw m E n ns ∧ ∀ (c : Bool) (ns' : List Nat) (H' : Hp), But na H H' → Same I H' → H' na = some (.lst (ns'.map iv)) → Nw m E (n + 1) ns' → (c = true → n < m) →
    (c = false → ∀ b, 0 < b → b < m → LcaB (Nf ns') (lds.getD b []) (Nf ns' b)) → Q (.bl c) H'
abbrev nBrought : List Str := ["nearest", "leads", "changed", "block", "found"]
theorem scBrought : FnScope nBrought ["nearest", "leads"] (defScope sBrought) := ⟨rfl, rfl, rfl, by decide +kernel, rfl, by decide +kernel, by decide +kernel⟩
section
variable {P : Program} {w : World} {K : PySem.W.Frag} {mg : Str → Option Value} {base : Heap}
theorem ok_brought {f fC : Addr} {fd fdC : FuncData} {k : Nat} (D : Df K mg "brought_nearer" sBrought ["nearest", "leads"] f fd) (B : Bi mg)
    (DC : Df K mg "common_above" sCommon ["nearest", "blocks"] fC fdC) (GC : FnOk P w K mg base CX0 k fC fdC ["nearest", "blocks"] (spCommon K)) : FnOk P w K mg base CX0 (k + 1) f fd ["nearest", "leads"] (spBrought K) := by
  refine D.F.ok scBrought (fun vs H Q E h => ?_) (fun cdv A outer s H vs Q E hr h => ?_)
  · obtain ⟨na, lp, I, ns, lds, m, n, E', rfl, _⟩ := h
    rfl
  · obtain ⟨na, lp, I, ns, lds, m, n, E', rfl, sI, nI, hNL, hna, g, hw, q⟩ := h
    refine ⟨_, pss_cons (ps_set (i := 2) scBrought.nd rfl (.inl rfl) pe_bl)
      (pss_cons (ps_for PassesOwn.never rfl (pi_range2 (by rfl) B.range (pa_cons pe_int (pa_cons (pe_callB call_len_seq (by rfl) B.len PySem.boot_len (pa_cons (pv 1) pa_nil)) pa_nil))) (pg_name (i := 3) scBrought.nd rfl (.inl rfl))
        (pss_cons (ps_set (i := 4) scBrought.nd rfl (.inl rfl) (pe_call GC hr (by rfl) DC.g DC.F.kp DC.b .nil pass0 (pa_cons (pv 0) (pa_cons (pe_ix ix_list (pv 1) (pv 3) (fun _ _ => rfl)) pa_nil))))
        (pss_one (ps_if (pt_cmpR op_ne (pv 4) (pe_ix ix_list (pv 0) (pv 3) (fun _ _ => rfl)) (nomark _))
          (pss_cons (ps_asg (pv 4) (pg_sub (pv 0) (pv 3) set_list))
          (pss_one (ps_set (i := 2) scBrought.nd rfl (.inl rfl) pe_bl))) pss_nil))))
      (pss_one (ps_ret (pv 2)))), ?_⟩
    obtain ⟨ys, hy, hyl⟩ := (hNL.same sI).len
    have hyi : (ys.length : Int) = (m : Int) := by rw [hyl, g.len]
    have hm1 := g.pos
    have hm2 := g.le
    refine ⟨.ref lp, rfl, lp, ys, rfl, .inl hy, 1, (m : Int), by rw [hyi], ⟨by decide, by decide, by omega, by omega⟩, ?_⟩
    refine for_range (lo := 1) (n := ((m : Int) - 1).toNat) (fun i σ H1 => ∃ (c : Bool) (ns1 : List Nat) (y3 y4 : Option V), σ = [some (.ref na), some (.ref lp), some (.bl c), y3, y4] ∧ But na H H1 ∧ Same I H1 ∧ H1 na = some (.lst (ns1.map iv)) ∧
      Nw m E' n ns1 ∧ (∀ b, 0 < b → b < 1 + i → ¬ Rn E' (Nf ns1 b) (n + 1) b) ∧ (c = true → n < m) ∧ (c = false → ∀ b, 0 < b → b < 1 + i → LcaB (Nf ns1) (lds.getD b []) (Nf ns1 b)))
      ⟨false, ns, none, none, rfl, But.refl _ _, sI, hna, hw, fun b h1 h2 => (by omega), fun z => (by cases z), fun _ b h1 h2 => (by omega)⟩ (fun i σ H1 hi hP => ?_) (fun σ H1 hP => ?_)
    · obtain ⟨c, ns1, y3, y4, rfl, b1, s1, e1, w1, k1, c1, c2⟩ := hP
      have hb : 1 + i < m := by omega
      have hbl : 1 + i < ns1.length := by rw [w1.len]; exact hb
      have hld : lds[1 + i]? = some (lds.getD (1 + i) []) := by rw [List.getD_eq_getElem?_getD, List.getElem?_eq_getElem (by rw [g.len]; exact hb)]; rfl
      obtain ⟨us, qa, u1, u2, u3, u4⟩ := (hNL.same s1).at hld
      obtain ⟨l0, ls, hls⟩ := g.ne (b := 1 + i) (by omega) hb
      have hlt := (g.ld (1 + i) hb).lt
      have hbe : V.int (1 + (i : Int)) = iv (1 + i) := by
        show V.int (1 + (i : Int)) = V.int ((1 + i : Nat) : Int)
        rw [show 1 + (i : Int) = ((1 + i : Nat) : Int) by omega]
      rw [hbe]
      rw [hls] at u4
      refine ⟨.ref na, rfl, .ref lp, rfl, _, rfl, lp, us, _, _, rfl, rfl, u1, u3, na, qa, ns1, l0, ls, rfl, sqL e1, u4, by rw [w1.len]; exact w1.dn, fun y hy => by rw [w1.len]; exact hlt y (by rw [hls]; exact hy), fun e H2 s2 hL => ?_⟩
      have e2 := s2 _ _ e1
      have hLB : LcaB (Nf ns1) (lds.getD (1 + i) []) e := ⟨l0, ls, hls, hL⟩
      refine ⟨_, rfl, .ref na, rfl, _, rfl, na, _, _, _, rfl, rfl, sqL e2, atI_nat (Nf.at hbl), rfl, _, rfl, ?_⟩
      show if (!decide (iv e = iv (Nf ns1 (1 + i)))) = true then _ else _
      rw [iv_ne]
      by_cases hee : e = Nf ns1 (1 + i)
      · rw [if_neg (by rw [decide_eq_true hee]; decide)]
        subst hee
        refine ⟨c, ns1, _, _, rfl, b1.trans (Same.but s2), s1.trans s2, e2, w1, fun b h1 h2 => ?_, c1, fun hc b h1 h2 => ?_⟩
        · by_cases hbi : b < 1 + i
          · exact k1 b h1 hbi
          · have : b = 1 + i := by omega
            subst this
            exact (w1.set g h1 hb hLB).2
        · by_cases hbi : b < 1 + i
          · exact c2 hc b h1 hbi
          · have : b = 1 + i := by omega
            subst this
            exact hLB
      · rw [if_pos (by rw [decide_eq_false hee]; rfl)]
        refine ⟨_, rfl, .ref na, rfl, _, rfl, na, _, _, 1 + i, rfl, rfl, e2, ixN_nat (by rw [List.length_map]; exact hbl), ?_⟩
        have es : (ns1.map iv).set (1 + i) (iv e) = (ns1.set (1 + i) e).map iv := by rw [List.map_set]
        have hset := w1.set g (b := 1 + i) (by omega) hb hLB
        have hnm : n < m := Nat.lt_of_not_le fun z => hee (step_end g.pos g.inE g.ofE g.led w1.dn w1.bet (fun b h0 hb z2 => w1.kd b h0 hb (z2.mono z)) (by omega) hb (g.ld _ hb) hLB)
        refine ⟨true, ns1.set (1 + i) e, _, _, rfl, (b1.trans (Same.but s2)).trans But.upd, Same.upd (s1.trans s2) nI, by rw [upd_same]; rw [es], hset.1, fun b h1 h2 => ?_, fun _ => hnm, fun z => by cases z⟩
        rw [Nf.set hbl]
        by_cases hbi : b = 1 + i
        · rw [if_pos hbi, hbi]; exact hset.2
        · rw [if_neg hbi]
          exact k1 b h1 (by omega)
    · obtain ⟨c, ns1, y3, y4, rfl, b1, s1, e1, w1, k1, c1, c2⟩ := hP
      refine ⟨_, rfl, q c ns1 H1 b1 s1 e1 ⟨w1.len, w1.dn, w1.bet, fun b h1 h2 => k1 b h1 (by omega)⟩ c1 fun hc b h1 h2 => c2 hc b h1 (by omega)⟩
end
end Gn
set_option Elab.async false
set_option linter.all false
set_option maxRecDepth 100000
set_option maxHeartbeats 4000000
namespace Gn
open PySem PySem.Spec PyProof.Rows L2
/-! ### nearest_above -/
theorem Nf.snoc {ns : List Nat} {e : Nat} (c : Nat) : Nf (ns ++ [e]) c = if c = ns.length then e else Nf ns c := by
  unfold Nf
  rw [List.getD_eq_getElem?_getD, List.getD_eq_getElem?_getD]
  by_cases hc : c = ns.length
  · subst hc
    rw [if_pos rfl, List.getElem?_append_right (Nat.le_refl _), Nat.sub_self]
    rfl
  · rw [if_neg hc]
    by_cases h : c < ns.length
    · rw [List.getElem?_append_left h]
    · rw [List.getElem?_eq_none (by rw [List.length_append, List.length_singleton]; omega), List.getElem?_eq_none (by omega)]
theorem Led.mono {m k : Nat} {E : Nat → List Nat} (h : Led m E) (e : k ≤ m) : Led k E := fun b h0 hb => h b h0 (by omega)
def spNearest (K : PySem.W.Frag) : Sp := fun vs H Q _ => ∃ (lp : Addr) (lds : List (List Nat)) (m : Nat) (E : Nat → List Nat), vs = [.ref lp] ∧ NL K H lp lds ∧ Gr m E lds ∧ (∀ xs ∈ lds, xs.length ≤ 1000) ∧
  ∀ (na : Addr) (ns : List Nat) (H' : Hp), H na = none → Same H H' → H' na = some (.lst (ns.map iv)) → ns.length = m → Dn m (Nf ns) → (∀ b x, b < m → (Ch (Nf ns) x b ↔ ¬ Rc E x b)) → Q (.ref na) H'
abbrev nNearest : List Str := ["leads", "nearest", "block", "lesser", "lead"]
theorem scNearest : FnScope nNearest ["leads"] (defScope sNearest) := ⟨rfl, rfl, rfl, by decide +kernel, rfl, by decide +kernel, by decide +kernel⟩
section
variable {P : Program} {w : World} {K : PySem.W.Frag} {mg : Str → Option Value} {base : Heap}
theorem ok_nearest {f fC fB : Addr} {fd fdC fdB : FuncData} {k : Nat} (D : Df K mg "nearest_above" sNearest ["leads"] f fd) (B : Bi mg)
    (DC : Df K mg "common_above" sCommon ["nearest", "blocks"] fC fdC) (GC : FnOk P w K mg base CX0 k fC fdC ["nearest", "blocks"] (spCommon K))
    (DB : Df K mg "brought_nearer" sBrought ["nearest", "leads"] fB fdB) (GB : FnOk P w K mg base CX0 k fB fdB ["nearest", "leads"] (spBrought K)) : FnOk P w K mg base CX0 (k + 1) f fd ["leads"] (spNearest K) := by
  refine D.F.ok scNearest (fun vs H Q E h => ?_) (fun cdv A outer s H vs Q E hr h => ?_)
  · obtain ⟨lp, lds, m, E', rfl, _⟩ := h
    rfl
  · obtain ⟨lp, lds, m, E', rfl, hNL, g, hsz, q⟩ := h
    refine ⟨_, pss_cons (ps_set (i := 1) scNearest.nd rfl (.inl rfl) (pe_lst (pa_cons pe_int pa_nil)))
      (pss_cons (ps_for PassesOwn.never rfl (pi_range2 (by rfl) B.range (pa_cons pe_int (pa_cons (pe_callB call_len_seq (by rfl) B.len PySem.boot_len (pa_cons (pv 0) pa_nil)) pa_nil))) (pg_name (i := 2) scNearest.nd rfl (.inr rfl))
        (pss_cons (ps_setLc (i := 3) (own := [("lead", 4)]) (g := gName 4) (tt := tTest (tOp (rI0 fun i j => .bl (decide (i < j))) (tVar 4) (tVar 2))) (te := tVar 4) (by rfl) scNearest.nd rfl rfl (sw_true rfl rfl rfl (by decide +kernel)) (pi_list (pe_ix ix_list (pv 0) (pv 2) (fun _ _ => rfl)))
          (blkOk_by (own := [("lead", 4)]) (N := nNearest) (sc := defScope sNearest) (by decide +kernel)) (fun _ _ _ _ _ => pg_name (i := 4) scNearest.nd rfl (.inl rfl)) (fun _ _ _ _ _ => pts_one (pt_cmpR op_lt (pv 4) (pv 2) (nomark _))) (fun _ _ _ _ _ => pv 4))
        (pss_one (ps_expr (pe_bm PySem.F.plainAttrs_list PySem.F.slot_list_append PySem.F.type_list_append mt_append (pv 1) (pa_cons (pe_call GC hr (by rfl) DC.g DC.F.kp DC.b .nil pass0 (pa_cons (pv 1) (pa_cons (pv 3) pa_nil))) pa_nil))))))
      (pss_cons (ps_while PassesOwn.never (pt_val (pe_call GB hr (by rfl) DB.g DB.F.kp DB.b .nil pass0 (pa_cons (pv 1) (pa_cons (pv 0) pa_nil)))) (pss_one ps_pass))
      (pss_one (ps_ret (pv 1))))), ?_⟩
    refine ⟨szl (show 1 ≤ 1000000 by decide), fun na nna => ?_⟩
    have s0 := new_same (o := .lst [.int 0]) nna
    have e0 : upd H na (.lst [.int 0]) na = some (.lst (([0] : List Nat).map iv)) := upd_same
    generalize upd H na (.lst [.int 0]) = H0 at s0 e0
    obtain ⟨ys, hy, hyl⟩ := (hNL.same s0).len
    have hyi : (ys.length : Int) = (m : Int) := by rw [hyl, g.len]
    have hm1 := g.pos
    have hm2 := g.le
    refine ⟨.ref lp, rfl, lp, ys, rfl, .inl hy, 1, (m : Int), by rw [hyi], ⟨by decide, by decide, by omega, by omega⟩, ?_⟩
    refine for_range (lo := 1) (n := ((m : Int) - 1).toNat) (fun i σ H1 => ∃ (ns1 : List Nat) (y2 y3 y4 : Option V), σ = [some (.ref lp), some (.ref na), y2, y3, y4] ∧ Same H H1 ∧ H1 na = some (.lst (ns1.map iv)) ∧ ns1.length = 1 + i ∧ Dn (1 + i) (Nf ns1) ∧ Bet (1 + i) E' (Nf ns1))
      ⟨[0], none, none, none, rfl, s0, e0, rfl, fun b h1 h2 => (by omega), fun b x h1 h2 => (by omega)⟩ (fun i σ H1 hi hP => ?_) (fun σ H1 hP => ?_)
    · obtain ⟨ns1, y2, y3, y4, rfl, s1, e1, l1, d1, t1⟩ := hP
      have hb : 1 + i < m := by omega
      have hld : lds[1 + i]? = some (lds.getD (1 + i) []) := by rw [List.getD_eq_getElem?_getD, List.getElem?_eq_getElem (by rw [g.len]; exact hb)]; rfl
      obtain ⟨us, qa, u1, u2, u3, u4⟩ := (hNL.same s1).at hld
      have hsz1 := hsz _ (List.mem_of_getElem? hld)
      have hbe : V.int (1 + (i : Int)) = iv (1 + i) := by
        show V.int (1 + (i : Int)) = V.int ((1 + i : Nat) : Int)
        rw [show 1 + (i : Int) = ((1 + i : Nat) : Int) by omega]
      rw [hbe]
      have hIs := g.ld (1 + i) hb
      have hled := g.led (1 + i) (by omega) hb
      generalize lds.getD (1 + i) [] = ld at u4 hsz1 hIs
      refine ⟨.ref lp, rfl, _, rfl, lp, us, _, _, rfl, rfl, u1, u3, qa, rfl, ⟨_, u4⟩, fun L nL => ?_⟩
      have nLna : na ≠ L := ne_of_none e1 nL
      refine lc_list (K := K) (a := qa) (xs := ld.map iv) (fun j H2 => Same H1 H2 ∧ H2 L = some (.lst (((ld.take j).filter fun l => decide (l < 1 + i)).map iv))) ⟨new_same nL, upd_same⟩ (fun j H2 _ hP => hP.1.seq u4) (fun j x H2 hx hP => ?_) (fun H2 hP => ?_)
      · obtain ⟨s2, eL⟩ := hP
        rw [List.getElem?_map] at hx
        obtain ⟨l, hl, rfl⟩ := Option.map_eq_some_iff.mp hx
        have hjl := (List.getElem?_eq_some_iff.mp hl).1
        have htk : (ld.take (j + 1)).filter (fun l => decide (l < 1 + i)) = (ld.take j).filter (fun l => decide (l < 1 + i)) ++ (if decide (l < 1 + i) = true then [l] else []) := by
          rw [List.take_add_one, hl, List.filter_append]
          show _ ++ List.filter _ [l] = _
          rw [filt_one]
        refine ⟨rfl, _, rfl, _, rfl, _, _, rfl, rfl, _, rfl, ite2 (fun e => ?_) (fun e => ?_)⟩
        · have e2 : (l : Int) < ((1 + i : Nat) : Int) := of_decide_eq_true e
          have e3 : decide (l < 1 + i) = true := decide_eq_true (by omega)
          rw [if_pos e3] at htk
          refine ⟨_, rfl, _, eL, ?_, fun a o z => ?_, ?_⟩
          · rw [List.length_map]
            exact szt (Nat.lt_of_le_of_lt (List.length_filter_le _ _) (by rw [List.length_take]; omega))
          · rw [upd_ne (ne_of_none z nL)]
            exact s2 _ _ z
          · rw [upd_same, htk, List.map_append]
            rfl
        · have e2 : ¬ (l : Int) < ((1 + i : Nat) : Int) := fun z => e (decide_eq_true z)
          rw [if_neg (fun z => e2 (by have := of_decide_eq_true z; omega)), List.append_nil] at htk
          exact ⟨s2, by rw [htk]; exact eL⟩
      · obtain ⟨s2, eL⟩ := hP
        rw [List.length_map, List.take_length] at eL
        have hmem : ∀ a, a ∈ ld.filter (fun l => decide (l < 1 + i)) ↔ (a < 1 + i ∧ 1 + i ∈ E' a) := fun a => by
          rw [List.mem_filter, decide_eq_true_iff, hIs a]
          exact ⟨fun z => ⟨z.2, z.1.2⟩, fun z => ⟨⟨by omega, z.2⟩, z.1⟩⟩
        obtain ⟨j, hj, hbj⟩ := hled
        have hjm := (hmem j).mpr ⟨hj, hbj⟩
        generalize ld.filter (fun l => decide (l < 1 + i)) = le at eL hmem hjm
        obtain ⟨l0, ls, rfl⟩ : ∃ l0 ls, le = l0 :: ls := by
          cases le with
          | nil => cases hjm
          | cons l0 ls => exact ⟨l0, ls, rfl⟩
        have e2 := s2 _ _ e1
        refine ⟨.ref na, rfl, .inl ⟨rfl, _, sqL e2⟩, .ref na, rfl, .ref L, rfl, na, L, ns1, l0, ls, rfl, sqL e2, sqL eL, by rw [l1]; exact d1, fun y hy => by rw [l1]; exact ((hmem y).mp hy).1, fun e H3 s3 hL => ?_⟩
        have hLB : LcaB (Nf ns1) (l0 :: ls) e := ⟨l0, ls, rfl, hL⟩
        have hlt : ∀ b ∈ l0 :: ls, b < 1 + i := fun b hb => ((hmem b).mp hb).1
        have hel : e < 1 + i := Nat.lt_of_le_of_lt (hLB.le d1 hlt hjm) hj
        refine ⟨na, _, _, rfl, rfl, s3 _ _ e2, by rw [List.length_map, l1]; exact szt (by omega), ?_⟩
        refine ⟨ns1 ++ [e], _, _, _, rfl, Same.upd ((s1.trans s2).trans s3) nna, by rw [upd_same, List.map_append]; rfl, by rw [List.length_append, List.length_singleton, l1]; omega, fun b h1 h2 => ?_, fun b x h1 h2 hd hx => ?_⟩
        · rw [Nf.snoc, l1]
          by_cases hbi : b = 1 + i
          · rw [if_pos hbi, hbi]; exact hel
          · rw [if_neg hbi]; exact d1 b h1 (by omega)
        · rw [Nf.snoc, l1]
          by_cases hbi : b = 1 + i
          · rw [if_pos hbi]
            subst hbi
            exact hLB.dom d1 (g.led.mono (by omega)) t1 hlt fun a ha z => hd (.s z ((hmem a).mp ha).2 (Ne.symm hx))
          · rw [if_neg hbi]; exact t1 b x h1 (by omega) hd hx
    · obtain ⟨ns1, y2, y3, y4, rfl, s1, e1, l1, d1, t1⟩ := hP
      have hmi : 1 + ((m : Int) - 1).toNat = m := by omega
      rw [hmi] at l1 d1 t1
      have w1 : Nw m E' 0 ns1 := ⟨l1, d1, t1, fun b h1 h2 z => by cases z with | z _ => omega⟩
      refine ⟨fun mm σ H2 => ∃ (n : Nat) (ns2 : List Nat), mm = m + 1 - n ∧ n ≤ m ∧ σ = [some (.ref lp), some (.ref na), y2, y3, y4] ∧ Same H H2 ∧ H2 na = some (.lst (ns2.map iv)) ∧ Nw m E' n ns2, ⟨_, 0, ns1, rfl, Nat.zero_le _, rfl, s1, e1, w1⟩, fun mm σ H2 hW => ?_⟩
      obtain ⟨n, ns2, rfl, hn, rfl, s2, e2, w2⟩ := hW
      refine ⟨.ref na, rfl, .ref lp, rfl, na, lp, H, ns2, lds, m, n, E', rfl, s2, nna, hNL, e2, g, w2, fun c ns3 H3 b3 s3 e3 w3 c1 c2 => ⟨c, rfl, ?_⟩⟩
      cases c with
      | true =>
        have hnm := c1 rfl
        exact ⟨fun σ' H' => ∃ m', m' < m + 1 - n ∧ ∃ (n : Nat) (ns2 : List Nat), m' = m + 1 - n ∧ n ≤ m ∧ σ' = [some (.ref lp), some (.ref na), y2, y3, y4] ∧ Same H H' ∧ H' na = some (.lst (ns2.map iv)) ∧ Nw m E' n ns2, fun σ' H' h => h, ⟨m + 1 - (n + 1), by omega, n + 1, ns3, rfl, by omega, rfl, s3, e3, w3⟩⟩
      | false =>
        refine ⟨_, rfl, q na ns3 H3 nna s3 e3 w3.len w3.dn fun b x hb => ?_⟩
        exact ch_dom g.pos g.inE g.ofE g.noZ g.led w3.dn w3.bet (fun b h0 hb => ⟨_, g.ld b hb, c2 rfl b h0 hb⟩) hb
end
end Gn
set_option linter.all false
namespace Gn
/-! ### branches of the tree of nearest blocks -/
def Is (f : Nat → Nat) : Nat → Nat → Nat
  | _, 0 => 0
  | lo, n + 1 => f lo + Is f (lo + 1) n
theorem Is.snoc {f : Nat → Nat} : ∀ (n lo : Nat), Is f lo (n + 1) = Is f lo n + f (lo + n)
  | 0, lo => by simp [Is]
  | n + 1, lo => by
    show f lo + Is f (lo + 1) (n + 1) = f lo + Is f (lo + 1) n + f (lo + (n + 1))
    rw [Is.snoc n (lo + 1), show lo + 1 + n = lo + (n + 1) by omega]
    omega
theorem Is.congr {f g : Nat → Nat} : ∀ (n lo : Nat), (∀ c, lo ≤ c → c < lo + n → f c = g c) → Is f lo n = Is g lo n
  | 0, _, _ => rfl
  | n + 1, lo, h => by
    show f lo + Is f (lo + 1) n = g lo + Is g (lo + 1) n
    rw [h lo (Nat.le_refl _) (by omega), Is.congr n (lo + 1) fun c h1 h2 => h c (by omega) (by omega)]
theorem Is.zero {f : Nat → Nat} : ∀ (n lo : Nat), (∀ c, lo ≤ c → c < lo + n → f c = 0) → Is f lo n = 0
  | 0, _, _ => rfl
  | n + 1, lo, h => by
    show f lo + Is f (lo + 1) n = 0
    rw [h lo (Nat.le_refl _) (by omega), Is.zero n (lo + 1) fun c h1 h2 => h c (by omega) (by omega)]
theorem Is.le {f : Nat → Nat} {lo : Nat} : ∀ {n k : Nat}, n ≤ k → Is f lo n ≤ Is f lo k
  | n, 0, h => by rw [Nat.le_zero.mp h]; exact Nat.le_refl _
  | n, k + 1, h => by
    by_cases e : n = k + 1
    · subst e; exact Nat.le_refl _
    · rw [Is.snoc]
      have := Is.le (f := f) (lo := lo) (n := n) (k := k) (by omega)
      omega
def kid (N sz : Nat → Nat) (b c : Nat) : Nat := if N c = b then sz c else 0
def Szp (m : Nat) (N sz : Nat → Nat) : Prop := ∀ b, b < m → sz b = 1 + Is (kid N sz b) 1 (m - 1)
def Plp (m : Nat) (N sz pl : Nat → Nat) : Prop := ∀ c, 0 < c → c < m → pl c = pl (N c) + 1 + Is (kid N sz (N c)) 1 (c - 1)
variable {m : Nat} {N sz pl : Nat → Nat}
theorem kid_step {p c : Nat} (h0 : 0 < c) (e : N c = p) : Is (kid N sz p) 1 (c - 1) + sz c = Is (kid N sz p) 1 c := by
  obtain ⟨k, rfl⟩ : ∃ k, c = k + 1 := ⟨c - 1, by omega⟩
  rw [show k + 1 - 1 = k by omega, Is.snoc, show 1 + k = k + 1 by omega]
  unfold kid
  rw [if_pos e]
theorem in_parent (hN : Dn m N) (hS : Szp m N sz) (hP : Plp m N sz pl) {c : Nat} (h0 : 0 < c) (hc : c < m) : pl (N c) < pl c ∧ pl c + sz c ≤ pl (N c) + sz (N c) := by
  have h1 := hN c h0 hc
  have h2 := hP c h0 hc
  have h3 := hS (N c) (by omega)
  have h4 := kid_step (N := N) (sz := sz) h0 (rfl : N c = N c)
  have h5 := Is.le (f := kid N sz (N c)) (lo := 1) (show c ≤ m - 1 by omega)
  omega
theorem sibs (hP : Plp m N sz pl) {c d : Nat} (h0 : 0 < c) (hcd : c < d) (hd : d < m) (e : N c = N d) : pl c + sz c ≤ pl d := by
  have h1 := hP c h0 (by omega)
  have h2 := hP d (by omega) hd
  have h4 := kid_step (N := N) (sz := sz) h0 e
  have h5 := Is.le (f := kid N sz (N d)) (lo := 1) (show c ≤ d - 1 by omega)
  rw [e] at h1
  omega
theorem Ch.span (hN : Dn m N) (hS : Szp m N sz) (hP : Plp m N sz pl) {x b : Nat} (h : Ch N x b) : b < m → pl x ≤ pl b ∧ pl b + sz b ≤ pl x + sz x ∧ (x ≠ b → pl x < pl b) := by
  induction h with
  | r => exact fun _ => ⟨Nat.le_refl _, Nat.le_refl _, fun z => absurd rfl z⟩
  | u h0 h ih =>
    intro hb
    have h1 := hN _ h0 hb
    have h2 := in_parent hN hS hP h0 hb
    have h3 := ih (by omega)
    exact ⟨by omega, by omega, fun _ => by omega⟩
theorem Ch.child (hN : Dn m N) {p a : Nat} (h : Ch N p a) : a < m → p ≠ a → ∃ c, Ch N c a ∧ 0 < c ∧ N c = p ∧ c ≤ a := by
  induction h with
  | r => exact fun _ z => absurd rfl z
  | u h0 h ih =>
    intro ha hne
    rename_i a
    have h1 := hN _ h0 ha
    by_cases e : p = N a
    · exact ⟨a, .r, h0, e.symm, Nat.le_refl _⟩
    · obtain ⟨c, h2, h3, h4, h5⟩ := ih (by omega) e
      exact ⟨c, .u h0 h2, h3, h4, by omega⟩
theorem meet_ch (hN : Dn m N) (hS : Szp m N sz) (hP : Plp m N sz pl) : ∀ (n a b : Nat), a + b = n → a ≤ b → b < m → pl a < pl b + sz b → pl b < pl a + sz a → Ch N a b := by
  intro n
  induction n using Nat.strongRecOn with
  | ind n ih =>
    intro a b hn hab hb h1 h2
    by_cases e : a = b
    · subst e; exact .r
    · have h0 : 0 < b := by omega
      have h3 := hN b h0 hb
      have h4 := in_parent hN hS hP h0 hb
      by_cases hap : a ≤ N b
      · exact .u h0 (ih (a + N b) (by omega) a (N b) rfl hap (by omega) (by omega) (by omega))
      · have hc := ih (N b + a) (by omega) (N b) a rfl (by omega) (by omega) (by omega) (by omega)
        obtain ⟨c, c1, c2, c3, c4⟩ := hc.child hN (by omega) (by omega)
        have h5 := c1.span hN hS hP (by omega)
        have h6 := sibs hP c2 (show c < b by omega) hb c3
        omega
theorem lies_iff (hN : Dn m N) (hS : Szp m N sz) (hP : Plp m N sz pl) {a b : Nat} (ha : a < m) (hb : b < m) : (pl a ≤ pl b ∧ pl b < pl a + sz a) ↔ Ch N a b := by
  have s1 : 1 ≤ sz b := by have := hS b hb; omega
  have s2 : 1 ≤ sz a := by have := hS a ha; omega
  constructor
  · rintro ⟨h1, h2⟩
    by_cases hab : a ≤ b
    · exact meet_ch hN hS hP _ a b rfl hab hb (by omega) h2
    · have h3 := meet_ch hN hS hP _ b a rfl (by omega) ha (by omega) (by omega)
      have h4 := (h3.span hN hS hP ha).2.2 (by omega)
      omega
  · intro h
    have h1 := h.span hN hS hP hb
    exact ⟨h1.1, by omega⟩
end Gn
set_option Elab.async false
set_option linter.all false
set_option maxRecDepth 100000
set_option maxHeartbeats 4000000
namespace Gn
open PySem PySem.Spec PyProof.Rows L2
/-! ### xs[i] += e, xs a list -/
def rGetL (K : PySem.W.Frag) : V → V → Hp → VK → Prop := fun x y H Q => ∃ (p : Addr) (xs : List V) (j : Nat) (v : V), x = .ref p ∧ y = .int (j : Int) ∧ SqL K H p xs ∧ xs[j]? = some v ∧ Q v H
theorem get_list {X : Cx} : PGet X (rGetL X.K) := by
  intro pins s σ H x y v u Q I rx ry h
  obtain ⟨p, xs, j, z, rfl, rfl, hq, he, q⟩ := h
  cases rx
  obtain ⟨t, rfl⟩ := ry
  obtain ⟨its, r, pl, hz⟩ := I.list hq
  obtain ⟨w, ew, rw'⟩ := r.get he
  have hl := r.length
  have hn := line63
  have hj := (List.getElem?_eq_some_iff.mp he).1
  exact wpAny_getItem_list pl.isList (by omega) (by omega) (by rw [Int.toNat_natCast]; simpa using ew) ⟨z, H, I, rw', q⟩
theorem rep_iv (a k : Nat) : (List.replicate k [iv a]).flatten = (List.replicate k a).map iv := by
  induction k with
  | zero => rfl
  | succ k ih => rw [List.replicate_succ, List.replicate_succ, List.flatten_cons, List.map_cons, ih]; rfl
theorem Nf.rep {a k b : Nat} (h : b < k) : Nf (List.replicate k a) b = a := by
  unfold Nf
  rw [List.getD_eq_getElem?_getD, List.getElem?_replicate, if_pos h]
  rfl
theorem map_setN {ns : List Nat} {b e : Nat} : (ns.map iv).set b (iv e) = (ns.set b e).map iv := by rw [List.map_set]
/-! ### branch_sizes -/
def spSizes (K : PySem.W.Frag) : Sp := fun vs H Q _ => ∃ (na : Addr) (ns : List Nat) (m : Nat), vs = [.ref na] ∧ SqL K H na (ns.map iv) ∧ ns.length = m ∧ 0 < m ∧ m ≤ 1000 ∧ Dn m (Nf ns) ∧
  ∀ (p : Addr) (ss : List Nat) (H' : Hp), H p = none → Same H H' → H' p = some (.lst (ss.map iv)) → ss.length = m → Szp m (Nf ns) (Nf ss) → Q (.ref p) H'
abbrev nSizes : List Str := ["nearest", "sizes", "block"]
theorem scSizes : FnScope nSizes ["nearest"] (defScope sSizes) := ⟨rfl, rfl, rfl, by decide +kernel, rfl, by decide +kernel, by decide +kernel⟩
def spPlaces (K : PySem.W.Frag) : Sp := fun vs H Q _ => ∃ (na sa : Addr) (ns ss : List Nat) (m : Nat), vs = [.ref na, .ref sa] ∧ SqL K H na (ns.map iv) ∧ SqL K H sa (ss.map iv) ∧ ns.length = m ∧ ss.length = m ∧ 0 < m ∧ m ≤ 1000 ∧ Dn m (Nf ns) ∧
  ∀ (p : Addr) (ps : List Nat) (H' : Hp), H p = none → Same H H' → H' p = some (.lst (ps.map iv)) → ps.length = m → Plp m (Nf ns) (Nf ss) (Nf ps) → Q (.ref p) H'
abbrev nPlaces : List Str := ["nearest", "sizes", "places", "free", "block", "top"]
theorem scPlaces : FnScope nPlaces ["nearest", "sizes"] (defScope sPlaces) := ⟨rfl, rfl, rfl, by decide +kernel, rfl, by decide +kernel, by decide +kernel⟩
section
variable {P : Program} {w : World} {K : PySem.W.Frag} {mg : Str → Option Value} {base : Heap}
theorem ok_sizes {f : Addr} {fd : FuncData} {k : Nat} (D : Df K mg "branch_sizes" sSizes ["nearest"] f fd) (B : Bi mg) : FnOk P w K mg base CX0 (k + 1) f fd ["nearest"] (spSizes K) := by
  refine D.F.ok scSizes (fun vs H Q E h => ?_) (fun cdv A outer s H vs Q E hr h => ?_)
  · obtain ⟨na, ns, m, rfl, _⟩ := h
    rfl
  · obtain ⟨na, ns, m, rfl, hna, hnl, hm0, hm1, hN, q⟩ := h
    refine ⟨_, pss_cons (ps_set (i := 1) scSizes.nd rfl (.inl rfl) (pe_op op_rep (pe_lst (pa_cons pe_int pa_nil)) (pe_callB call_len_seq (by rfl) B.len PySem.boot_len (pa_cons (pv 0) pa_nil))))
      (pss_cons (ps_for PassesOwn.never rfl (pi_range3 (by rfl) B.range (pa_cons (pe_op op_sub (pe_callB call_len_seq (by rfl) B.len PySem.boot_len (pa_cons (pv 0) pa_nil)) pe_int) (pa_cons pe_int (pa_cons (pe_un un_neg pe_int) pa_nil)))) (pg_name (i := 2) scSizes.nd rfl (.inl rfl))
        (pss_one (ps_augS (pv 1) (pe_ix ix_list (pv 0) (pv 2) (fun _ _ => rfl)) get_list (pe_ix ix_list (pv 1) (pv 2) (fun _ _ => rfl)) ip_add set_list)))
      (pss_one (ps_ret (pv 1)))), ?_⟩
    have hli : ((ns.map iv).length : Int) = (m : Int) := by rw [List.length_map, hnl]
    refine ⟨szl (show 1 ≤ 1000000 by decide), fun l nl => ?_⟩
    have sl := new_same (o := .lst [.int 1]) nl
    have el : upd H l (.lst [.int 1]) l = some (.lst [iv 1]) := upd_same
    generalize upd H l (.lst [.int 1]) = H0 at sl el
    refine ⟨.ref na, rfl, na, _, rfl, .inl (sl.seq hna), l, _, _, rfl, rfl, el, by omega, by omega, ?_, fun p np => ?_⟩
    · rw [hli, Int.toNat_natCast]
      exact szl (by show 1 * m ≤ 1000000; omega)
    rw [hli, Int.toNat_natCast, rep_iv]
    have sp := sl.trans (new_same (o := .lst ((List.replicate m 1).map iv)) np)
    have ep : upd H0 p (.lst ((List.replicate m 1).map iv)) p = some (.lst ((List.replicate m 1).map iv)) := upd_same
    have hp0 : H p = none := sl.free np
    generalize upd H0 p (.lst ((List.replicate m 1).map iv)) = H1 at sp ep
    refine ⟨.ref na, rfl, na, _, rfl, .inl (sp.seq hna), _, _, rfl, rfl, _, rfl, _, _, _, _, rfl, RgC.neg (by omega) (by omega) (by omega) (by omega), ?_⟩
    refine for_rangeC (lo := ((ns.map iv).length : Int) - 1) (c := -1) (n := (((ns.map iv).length : Int) - 1 - 0).toNat) (fun i σ H2 => ∃ (ss : List Nat) (y2 : Option V), σ = [some (.ref na), some (.ref p), y2] ∧ Same H H2 ∧ H2 p = some (.lst (ss.map iv)) ∧ ss.length = m ∧ ∀ b, b < m → Nf ss b = 1 + Is (kid (Nf ns) (Nf ss) b) (m - i) i)
      ⟨List.replicate m 1, none, rfl, sp, ep, List.length_replicate, fun b hb => by rw [Nf.rep hb]; rfl⟩ (fun i σ H2 hi hP => ?_) (fun σ H2 hP => ?_)
    · obtain ⟨ss, y2, rfl, s2, e2, hsl, hs⟩ := hP
      have hi' : i < m - 1 := by omega
      have hbe : V.int (((ns.map iv).length : Int) - 1 + (i : Nat) * (-1)) = iv (m - 1 - i) := by
        show V.int _ = V.int ((m - 1 - i : Nat) : Int)
        congr 1
        omega
      rw [hbe]
      have ht0 : 0 < m - 1 - i := by omega
      have htm : m - 1 - i < m := by omega
      have hpt := hN _ ht0 htm
      generalize htt : m - 1 - i = t at ht0 htm hpt
      have hmi : m - i = t + 1 := by omega
      refine ⟨.ref p, rfl, .ref na, rfl, iv t, rfl, na, _, _, _, rfl, rfl, s2.seq hna, atI_nat (Nf.at (by omega)), p, _, Nf ns t, iv (Nf ss (Nf ns t)), rfl, rfl, sqL e2, Nf.at (by omega), ?_⟩
      refine ⟨.ref p, rfl, iv t, rfl, p, _, _, iv (Nf ss t), rfl, rfl, sqL e2, atI_nat (Nf.at (by omega)), _, _, rfl, rfl, p, _, _, Nf ns t, rfl, rfl, e2, ixN_nat (by rw [List.length_map]; omega), ?_⟩
      have ev : V.int ((Nf ss (Nf ns t) : Int) + (Nf ss t : Int)) = iv (Nf ss (Nf ns t) + Nf ss t) := by
        show V.int _ = V.int _
        congr 1
      refine ⟨ss.set (Nf ns t) (Nf ss (Nf ns t) + Nf ss t), _, rfl, Same.upd s2 hp0, ?_, by rw [List.length_set, hsl], fun b hb => ?_⟩
      · rw [upd_same]
        show some (HO.lst ((ss.map iv).set (Nf ns t) (V.int ((Nf ss (Nf ns t) : Int) + (Nf ss t : Int))))) = _
        rw [ev, map_setN]
      · have hpl : Nf ns t < ss.length := by omega
        rw [show m - (i + 1) = t by omega]
        show _ = 1 + (kid (Nf ns) _ b t + Is _ (t + 1) i)
        have hcg : Is (kid (Nf ns) (Nf (ss.set (Nf ns t) (Nf ss (Nf ns t) + Nf ss t))) b) (t + 1) i = Is (kid (Nf ns) (Nf ss) b) (t + 1) i := Is.congr _ _ fun c h1 h2 => by
          unfold kid
          rw [Nf.set hpl, if_neg (show ¬ c = Nf ns t by omega)]
        rw [hcg, Nf.set hpl]
        have hb2 := hs b hb
        rw [hmi] at hb2
        unfold kid
        rw [Nf.set hpl, if_neg (show ¬ t = Nf ns t by omega)]
        by_cases e : b = Nf ns t
        · rw [if_pos e, if_pos e.symm, ← e]
          unfold kid at hb2
          omega
        · rw [if_neg e, if_neg (fun z => e z.symm)]
          unfold kid at hb2
          omega
    · obtain ⟨ss, y2, rfl, s2, e2, hsl, hs⟩ := hP
      have hn : (((ns.map iv).length : Int) - 1 - 0).toNat = m - 1 := by omega
      rw [hn, show m - (m - 1) = 1 by omega] at hs
      exact ⟨_, rfl, q p ss H2 hp0 s2 e2 hsl hs⟩
theorem ok_places {f : Addr} {fd : FuncData} {k : Nat} (D : Df K mg "branch_places" sPlaces ["nearest", "sizes"] f fd) (B : Bi mg) : FnOk P w K mg base CX0 (k + 1) f fd ["nearest", "sizes"] (spPlaces K) := by
  refine D.F.ok scPlaces (fun vs H Q E h => ?_) (fun cdv A outer s H vs Q E hr h => ?_)
  · obtain ⟨na, sa, ns, ss, m, rfl, _⟩ := h
    rfl
  · obtain ⟨na, sa, ns, ss, m, rfl, hna, hsa, hnl, hsl, hm0, hm1, hN, q⟩ := h
    refine ⟨_, pss_cons (ps_set (i := 2) scPlaces.nd rfl (.inl rfl) (pe_op op_rep (pe_lst (pa_cons pe_int pa_nil)) (pe_callB call_len_seq (by rfl) B.len PySem.boot_len (pa_cons (pv 0) pa_nil))))
      (pss_cons (ps_set (i := 3) scPlaces.nd rfl (.inl rfl) (pe_op op_rep (pe_lst (pa_cons pe_int pa_nil)) (pe_callB call_len_seq (by rfl) B.len PySem.boot_len (pa_cons (pv 0) pa_nil))))
      (pss_cons (ps_for PassesOwn.never rfl (pi_range2 (by rfl) B.range (pa_cons pe_int (pa_cons (pe_callB call_len_seq (by rfl) B.len PySem.boot_len (pa_cons (pv 0) pa_nil)) pa_nil))) (pg_name (i := 4) scPlaces.nd rfl (.inl rfl))
        (pss_cons (ps_set (i := 5) scPlaces.nd rfl (.inl rfl) (pe_ix ix_list (pv 0) (pv 4) (fun _ _ => rfl)))
        (pss_cons (ps_asg (pe_ix ix_list (pv 3) (pv 5) (fun _ _ => rfl)) (pg_sub (pv 2) (pv 4) set_list))
        (pss_cons (ps_augS (pv 3) (pv 5) get_list (pe_ix ix_list (pv 1) (pv 4) (fun _ _ => rfl)) ip_add set_list)
        (pss_one (ps_asg (pe_op op_add (pe_ix ix_list (pv 2) (pv 4) (fun _ _ => rfl)) pe_int) (pg_sub (pv 3) (pv 4) set_list)))))))
      (pss_one (ps_ret (pv 2))))), ?_⟩
    have hli : ((ns.map iv).length : Int) = (m : Int) := by rw [List.length_map, hnl]
    refine ⟨szl (show 1 ≤ 1000000 by decide), fun l nl => ?_⟩
    have sl := new_same (o := .lst [.int 0]) nl
    have el : upd H l (.lst [.int 0]) l = some (.lst [iv 0]) := upd_same
    generalize upd H l (.lst [.int 0]) = H0 at sl el
    refine ⟨.ref na, rfl, na, _, rfl, .inl (sl.seq hna), l, _, _, rfl, rfl, el, by omega, by omega, ?_, fun p np => ?_⟩
    · rw [hli, Int.toNat_natCast]
      exact szl (by show 1 * m ≤ 1000000; omega)
    rw [hli, Int.toNat_natCast, rep_iv]
    have sp := sl.trans (new_same (o := .lst ((List.replicate m 0).map iv)) np)
    have ep : upd H0 p (.lst ((List.replicate m 0).map iv)) p = some (.lst ((List.replicate m 0).map iv)) := upd_same
    have hp0 : H p = none := sl.free np
    generalize upd H0 p (.lst ((List.replicate m 0).map iv)) = H1 at sp ep
    clear el
    refine ⟨szl (show 1 ≤ 1000000 by decide), fun l2 nl2 => ?_⟩
    have sl2 := new_same (o := .lst [.int 1]) nl2
    have el2 : upd H1 l2 (.lst [.int 1]) l2 = some (.lst [iv 1]) := upd_same
    have ep2 := sl2 _ _ ep
    have sH2 := sp.trans sl2
    generalize upd H1 l2 (.lst [.int 1]) = H2 at sl2 el2 ep2 sH2
    refine ⟨.ref na, rfl, na, _, rfl, .inl (sH2.seq hna), l2, _, _, rfl, rfl, el2, by omega, by omega, ?_, fun fr nf => ?_⟩
    · rw [hli, Int.toNat_natCast]
      exact szl (by show 1 * m ≤ 1000000; omega)
    rw [hli, Int.toNat_natCast, rep_iv]
    have sf := new_same (o := .lst ((List.replicate m 1).map iv)) nf
    have ef : upd H2 fr (.lst ((List.replicate m 1).map iv)) fr = some (.lst ((List.replicate m 1).map iv)) := upd_same
    have hf0 : H fr = none := sH2.free nf
    have nfp : fr ≠ p := (ne_of_none ep2 nf).symm
    have ep3 := sf _ _ ep2
    have sH3 := sH2.trans sf
    generalize upd H2 fr (.lst ((List.replicate m 1).map iv)) = H3 at ef ep3 sH3
    refine ⟨.ref na, rfl, na, _, rfl, .inl (sH3.seq hna), 1, (m : Int), by rw [hli], ⟨by decide, by decide, by omega, by omega⟩, ?_⟩
    refine for_range (lo := 1) (n := ((m : Int) - 1).toNat) (fun i σ H4 => ∃ (ps fs : List Nat) (y4 y5 : Option V), σ = [some (.ref na), some (.ref sa), some (.ref p), some (.ref fr), y4, y5] ∧ Same H H4 ∧ H4 p = some (.lst (ps.map iv)) ∧ H4 fr = some (.lst (fs.map iv)) ∧ ps.length = m ∧ fs.length = m ∧
      (∀ c, 0 < c → c < 1 + i → Nf ps c = Nf ps (Nf ns c) + 1 + Is (kid (Nf ns) (Nf ss) (Nf ns c)) 1 (c - 1)) ∧ ∀ b, b < 1 + i → Nf fs b = Nf ps b + 1 + Is (kid (Nf ns) (Nf ss) b) 1 i)
      ⟨List.replicate m 0, List.replicate m 1, none, none, rfl, sH3, ep3, ef, List.length_replicate, List.length_replicate, fun c h1 h2 => (by omega), fun b hb => (by rw [Nf.rep (by omega), Nf.rep (by omega)]; rfl)⟩ (fun i σ H4 hi hP => ?_) (fun σ H4 hP => ?_)
    · obtain ⟨ps, fs, y4, y5, rfl, s4, e4, f4, hpl, hfl, hp, hf⟩ := hP
      have hbe : V.int (1 + (i : Int)) = iv (1 + i) := by
        show V.int _ = V.int ((1 + i : Nat) : Int)
        congr 1
      rw [hbe]
      have htm : 1 + i < m := by omega
      have hpt := hN (1 + i) (by omega) htm
      generalize htt : Nf ns (1 + i) = tp at hpt
      have hat := Nf.at (ns := ns) (b := 1 + i) (by omega)
      rw [htt] at hat
      refine ⟨.ref na, rfl, iv (1 + i), rfl, na, _, _, _, rfl, rfl, s4.seq hna, atI_nat hat, ?_⟩
      refine ⟨.ref fr, rfl, iv tp, rfl, fr, _, _, iv (Nf fs tp), rfl, rfl, sqL f4, atI_nat (Nf.at (by omega)), .ref p, rfl, iv (1 + i), rfl, p, _, _, 1 + i, rfl, rfl, e4, ixN_nat (by rw [List.length_map]; omega), ?_⟩
      rw [map_setN]
      have s5 := Same.upd (o := .lst ((ps.set (1 + i) (Nf fs tp)).map iv)) s4 hp0
      have e5 : upd H4 p (.lst ((ps.set (1 + i) (Nf fs tp)).map iv)) p = some (.lst ((ps.set (1 + i) (Nf fs tp)).map iv)) := upd_same
      have f5 : upd H4 p (.lst ((ps.set (1 + i) (Nf fs tp)).map iv)) fr = some (.lst (fs.map iv)) := by rw [upd_ne nfp]; exact f4
      generalize upd H4 p (.lst ((ps.set (1 + i) (Nf fs tp)).map iv)) = H5 at s5 e5 f5
      refine ⟨.ref fr, rfl, iv tp, rfl, fr, _, tp, iv (Nf fs tp), rfl, rfl, sqL f5, Nf.at (by omega), .ref sa, rfl, iv (1 + i), rfl, sa, _, _, iv (Nf ss (1 + i)), rfl, rfl, s5.seq hsa, atI_nat (Nf.at (by omega)), _, _, rfl, rfl, fr, _, _, tp, rfl, rfl, f5, ixN_nat (by rw [List.length_map]; omega), ?_⟩
      have ev : V.int ((Nf fs tp : Int) + (Nf ss (1 + i) : Int)) = iv (Nf fs tp + Nf ss (1 + i)) := by
        show V.int _ = V.int _
        congr 1
      show tSeq _ _ _ _ (upd H5 fr (.lst ((fs.map iv).set tp (V.int ((Nf fs tp : Int) + (Nf ss (1 + i) : Int))))))
      rw [ev, map_setN]
      have s6 := Same.upd (o := .lst ((fs.set tp (Nf fs tp + Nf ss (1 + i))).map iv)) s5 hf0
      have e6 : upd H5 fr (.lst ((fs.set tp (Nf fs tp + Nf ss (1 + i))).map iv)) p = some (.lst ((ps.set (1 + i) (Nf fs tp)).map iv)) := by rw [upd_ne nfp.symm]; exact e5
      have f6 : upd H5 fr (.lst ((fs.set tp (Nf fs tp + Nf ss (1 + i))).map iv)) fr = some (.lst ((fs.set tp (Nf fs tp + Nf ss (1 + i))).map iv)) := upd_same
      generalize upd H5 fr (.lst ((fs.set tp (Nf fs tp + Nf ss (1 + i))).map iv)) = H6 at s6 e6 f6
      have gp : ∀ c, Nf (ps.set (1 + i) (Nf fs tp)) c = if c = 1 + i then Nf fs tp else Nf ps c := Nf.set (by omega)
      have gq : Nf (ps.set (1 + i) (Nf fs tp)) (1 + i) = Nf fs tp := by rw [gp, if_pos rfl]
      refine ⟨.ref p, rfl, iv (1 + i), rfl, p, _, _, iv (Nf (ps.set (1 + i) (Nf fs tp)) (1 + i)), rfl, rfl, sqL e6, atI_nat (Nf.at (by rw [List.length_set]; omega)), _, _, rfl, rfl, .ref fr, rfl, iv (1 + i), rfl, fr, _, _, 1 + i, rfl, rfl, f6, ixN_nat (by rw [List.length_map, List.length_set]; omega), ?_⟩
      have ev2 : V.int ((Nf (ps.set (1 + i) (Nf fs tp)) (1 + i) : Int) + 1) = iv (Nf fs tp + 1) := by
        rw [gq]
        show V.int _ = V.int _
        congr 1
      refine ⟨ps.set (1 + i) (Nf fs tp), (fs.set tp (Nf fs tp + Nf ss (1 + i))).set (1 + i) (Nf fs tp + 1), _, _, rfl, Same.upd s6 hf0, ?_, ?_, by rw [List.length_set, hpl], by rw [List.length_set, List.length_set, hfl], fun c h1 h2 => ?_, fun b hb => ?_⟩
      · rw [upd_ne nfp.symm]; exact e6
      · rw [upd_same]
        show some (HO.lst ((List.map iv (fs.set tp (Nf fs tp + Nf ss (1 + i)))).set (1 + i) (V.int ((Nf (ps.set (1 + i) (Nf fs tp)) (1 + i) : Int) + 1)))) = _
        rw [ev2, map_setN]
      · have hcn := hN c h1 (by omega)
        by_cases hc : c = 1 + i
        · subst hc
          rw [htt, gq, gp, if_neg (show ¬ tp = 1 + i by omega), hf tp hpt, show 1 + i - 1 = i by omega]
        · rw [gp, if_neg hc, gp, if_neg (show ¬ Nf ns c = 1 + i by omega)]
          exact hp c h1 (by omega)
      · rw [Nf.set (by rw [List.length_set]; omega), gp]
        by_cases hbt : b = 1 + i
        · rw [if_pos hbt, if_pos hbt, Is.zero (i + 1) 1 fun c h1 h2 => ?_]
          unfold kid
          rw [if_neg]
          have := hN c (by omega) (by omega)
          omega
        · rw [if_neg hbt, if_neg hbt, Nf.set (by omega), Is.snoc]
          have h9 := hf b (by omega)
          unfold kid
          rw [htt]
          by_cases hbp : b = tp
          · rw [if_pos hbp, if_pos hbp.symm, ← hbp]
            unfold kid at h9
            omega
          · rw [if_neg hbp, if_neg (fun z => hbp z.symm)]
            unfold kid at h9
            omega
    · obtain ⟨ps, fs, y4, y5, rfl, s4, e4, f4, hpl, hfl, hp, hf⟩ := hP
      exact ⟨_, rfl, q p ps H4 hp0 s4 e4 hpl fun c h1 h2 => hp c h1 (by omega)⟩
end
end Gn
set_option Elab.async false
set_option linter.all false
set_option maxRecDepth 100000
set_option maxHeartbeats 4000000
namespace Gn
open PySem PySem.Spec PyProof.Rows L2
/-! ### rows and their blocks -/
def rowsL (pr : List Blk) : List Rw := (pr.map (·.1)).flatten
def ownL (pr : List Blk) (i : Nat) : List Nat := (List.range i).flatMap fun j => List.replicate (pr.getD j ([], .fin)).1.length j
theorem ownL_succ {pr : List Blk} {i : Nat} {b : Blk} (h : pr[i]? = some b) : ownL pr (i + 1) = ownL pr i ++ List.replicate b.1.length i := by
  unfold ownL
  rw [List.range_succ, List.flatMap_append]
  simp [List.getD_eq_getElem?_getD, h]
theorem rows_take {pr : List Blk} {i : Nat} {b : Blk} (h : pr[i]? = some b) : rowsL (pr.take (i + 1)) = rowsL (pr.take i) ++ b.1 := by
  unfold rowsL
  rw [List.take_add_one, h, List.map_append, List.flatten_append]
  simp
theorem rowsL_len {n : Nat} : ∀ {pr : List Blk}, (∀ b ∈ pr, b.1.length ≤ n) → (rowsL pr).length ≤ pr.length * n
  | [], _ => by simp [rowsL]
  | b :: bs, h => by
    have h1 := rowsL_len (pr := bs) fun c hc => h c (List.mem_cons_of_mem _ hc)
    have h2 := h b List.mem_cons_self
    unfold rowsL at h1 ⊢
    rw [List.map_cons, List.flatten_cons, List.length_append, List.length_cons, Nat.succ_mul]
    omega
theorem ownL_len {pr : List Blk} : ∀ i, i ≤ pr.length → (ownL pr i).length = (rowsL (pr.take i)).length
  | 0, _ => by simp [ownL, rowsL]
  | i + 1, h => by
    have hb := List.getElem?_eq_getElem (show i < pr.length by omega)
    rw [ownL_succ hb, rows_take hb, List.length_append, List.length_append, List.length_replicate, ownL_len i (by omega)]
theorem ownL_lt {pr : List Blk} {i y : Nat} (h : y ∈ ownL pr i) : y < i := by
  unfold ownL at h
  obtain ⟨j, hj, hy⟩ := List.mem_flatMap.mp h
  rw [List.eq_of_mem_replicate hy]
  exact List.mem_range.mp hj
theorem take_rows_le {pr : List Blk} {n i : Nat} (h : ∀ b ∈ pr, b.1.length ≤ n) (hi : i ≤ pr.length) : (rowsL (pr.take i)).length ≤ pr.length * n := by
  have h1 := rowsL_len (pr := pr.take i) fun b hb => h b (List.mem_of_mem_take hb)
  rw [List.length_take] at h1
  exact Nat.le_trans h1 (Nat.mul_le_mul_right _ (Nat.min_le_right _ _))
def spRowsOf (K : PySem.W.Frag) : Sp := fun vs H Q _ => ∃ (v : V) (pr : List Blk), vs = [v] ∧ ProgAt K H v pr ∧ pr.length ≤ 12 ∧ (∀ b ∈ pr, b.1.length ≤ 130) ∧
  ∀ (p : Addr) (H' : Hp) (us : List V), H p = none → Same H H' → H' p = some (.lst us) → Paired (RowAt K H') us (rowsL pr) → Q (.ref p) H'
abbrev nRowsOf : List Str := ["program", "rows", "end", "row"]
theorem scRowsOf : FnScope nRowsOf ["program"] (defScope sRowsOf) := ⟨rfl, rfl, rfl, by decide +kernel, rfl, by decide +kernel, by decide +kernel⟩
def spOwners (K : PySem.W.Frag) : Sp := fun vs H Q _ => ∃ (v : V) (pr : List Blk), vs = [v] ∧ ProgAt K H v pr ∧ pr.length ≤ 12 ∧ (∀ b ∈ pr, b.1.length ≤ 130) ∧
  ∀ (p : Addr) (H' : Hp), H p = none → Same H H' → H' p = some (.lst ((ownL pr pr.length).map iv)) → Q (.ref p) H'
abbrev nOwners : List Str := ["program", "block", "rows", "end", "row"]
theorem scOwners : FnScope nOwners ["program"] (defScope sOwners) := ⟨rfl, rfl, rfl, by decide +kernel, rfl, by decide +kernel, by decide +kernel⟩
section
variable {P : Program} {w : World} {K : PySem.W.Frag} {mg : Str → Option Value} {base : Heap}
theorem ok_rowsOf {f : Addr} {fd : FuncData} {k : Nat} (D : Df K mg "rows_of" sRowsOf ["program"] f fd) (B : Bi mg) : FnOk P w K mg base CX0 (k + 1) f fd ["program"] (spRowsOf K) := by
  refine D.F.ok scRowsOf (fun vs H Q E h => ?_) (fun cdv A outer s H vs Q E hr h => ?_)
  · obtain ⟨v, pr, rfl, _⟩ := h
    rfl
  · obtain ⟨v, pr, rfl, ⟨a, xs, rfl, ha, pd⟩, hl, hbl, q⟩ := h
    refine ⟨_, pss_one (ps_ret (pe_lc2 (own := [("rows", 1), ("end", 2), ("row", 3)]) (vs1 := [3]) (g := gTup K 2 (gCons (gName 1) (gCons (gName 2) gNil))) (tt := tYes) (g1 := gName 3) (tt1 := tYes) (te := tVar 3) (wi1 := iList K (tVar 1)) rfl scRowsOf.nd (pi_list (pv 0))
      (blkOk_by (own := [("rows", 1), ("end", 2), ("row", 3)]) (N := nRowsOf) (sc := defScope sRowsOf) (by decide +kernel)) (by decide)
      (fun _ _ _ _ _ => pg_tup rfl (pgs_cons (pg_name (i := 1) scRowsOf.nd rfl (.inl rfl)) (pgs_cons (pg_name (i := 2) scRowsOf.nd rfl (.inl rfl)) pgs_nil))) (fun _ _ _ _ _ => pts_nil)
      (fun _ _ _ _ _ => pi_list (pv 1)) (fun _ _ _ _ _ => pg_name (i := 3) scRowsOf.nd rfl (.inl rfl)) (fun _ _ _ _ _ => pts_nil) (fun _ _ _ _ _ => pv 3))), ?_⟩
    have hxl : xs.length = pr.length := pd_len pd
    refine ⟨.ref a, rfl, a, rfl, ⟨_, ha⟩, fun L nL => ?_⟩
    refine it_core (walk_list (K := K) (a := a) (xs := xs)) (fun i H1 => Same H H1 ∧ ∃ us, H1 L = some (.lst us) ∧ Paired (RowAt K H) us (rowsL (pr.take i))) ⟨new_same nL, [], upd_same, .nil⟩ (fun i H1 _ hP => hP.1.seq ha) (fun i x H1 H2 hi hP hY => ?_) (fun H1 hP => ?_)
    · obtain ⟨s1, us, eL, pu⟩ := hP
      obtain ⟨e1, ex⟩ := hY
      subst e1
      obtain ⟨bk, hbk, p, ra, ea, vs, rfl, hp, hra, pv, _⟩ := pd_at2 pd ex
      refine ⟨p, _, rfl, Same.tup s1 hp, rfl, _, _, rfl, _, _, rfl, rfl, rfl, ?_⟩
      have hvl : vs.length = bk.1.length := pd_len pv
      refine ⟨.ref ra, rfl, ra, rfl, ⟨_, sqL (s1 _ _ hra)⟩, ?_⟩
      refine it_core (walk_list (K := K) (a := ra) (xs := vs)) (fun j H3 => Same H H3 ∧ ∃ us, H3 L = some (.lst us) ∧ Paired (RowAt K H) us (rowsL (pr.take i) ++ bk.1.take j)) ⟨s1, us, eL, by simpa using pu⟩ (fun j H3 _ hP => sqL (hP.1 _ _ hra)) (fun j z H3 H4 hj hP hY => ?_) (fun H3 hP => ?_)
      · obtain ⟨s3, us3, eL3, pu3⟩ := hP
        obtain ⟨e1, ez⟩ := hY
        subst e1
        obtain ⟨rw_, hrw, hrow⟩ := pd_at2 pv ez
        refine ⟨rfl, _, rfl, us3, eL3, ?_, fun b o e => ?_, us3 ++ [z], upd_same, ?_⟩
        · have h1 := pd_len pu3
          have h2 := take_rows_le hbl (show i ≤ pr.length by omega)
          have h3 := hbl bk (List.mem_of_getElem? hbk)
          have h4 : pr.length * 130 ≤ 12 * 130 := Nat.mul_le_mul_right _ hl
          rw [List.length_append, List.length_take] at h1
          exact szt (by omega)
        · rw [upd_ne (ne_of_none e nL)]; exact s3 _ _ e
        · rw [List.take_add_one, hrw, ← List.append_assoc]
          exact pd_app pu3 (.cons hrow .nil)
      · obtain ⟨s3, us3, eL3, pu3⟩ := hP
        rw [hvl, List.take_length] at pu3
        exact ⟨s3, us3, eL3, by rw [rows_take hbk]; exact pu3⟩
    · obtain ⟨s1, us, eL, pu⟩ := hP
      rw [hxl, List.take_length] at pu
      exact q L H1 us nL s1 eL (pd_mono pu fun _ _ z => z.same s1)
theorem ok_owners {f : Addr} {fd : FuncData} {k : Nat} (D : Df K mg "owners_of" sOwners ["program"] f fd) (B : Bi mg) : FnOk P w K mg base CX0 (k + 1) f fd ["program"] (spOwners K) := by
  refine D.F.ok scOwners (fun vs H Q E h => ?_) (fun cdv A outer s H vs Q E hr h => ?_)
  · obtain ⟨v, pr, rfl, _⟩ := h
    rfl
  · obtain ⟨v, pr, rfl, ⟨a, xs, rfl, ha, pd⟩, hl, hbl, q⟩ := h
    refine ⟨_, pss_one (ps_ret (pe_lc2 (own := [("block", 1), ("rows", 2), ("end", 3), ("row", 4)]) (vs1 := [4]) (g := gTup K 2 (gCons (gName 1) (gCons (gTup K 2 (gCons (gName 2) (gCons (gName 3) gNil))) gNil))) (tt := tYes) (g1 := gName 4) (tt1 := tYes) (te := tVar 1) (wi1 := iList K (tVar 2)) rfl scOwners.nd (pi_enum (by rfl) B.enumerate (pa_cons (pv 0) pa_nil))
      (blkOk_by (own := [("block", 1), ("rows", 2), ("end", 3), ("row", 4)]) (N := nOwners) (sc := defScope sOwners) (by decide +kernel)) (by decide)
      (fun _ _ _ _ _ => pg_tup rfl (pgs_cons (pg_name (i := 1) scOwners.nd rfl (.inl rfl)) (pgs_cons (pg_tup rfl (pgs_cons (pg_name (i := 2) scOwners.nd rfl (.inl rfl)) (pgs_cons (pg_name (i := 3) scOwners.nd rfl (.inl rfl)) pgs_nil))) pgs_nil))) (fun _ _ _ _ _ => pts_nil)
      (fun _ _ _ _ _ => pi_list (pv 2)) (fun _ _ _ _ _ => pg_name (i := 4) scOwners.nd rfl (.inl rfl)) (fun _ _ _ _ _ => pts_nil) (fun _ _ _ _ _ => pv 1))), ?_⟩
    have hxl : xs.length = pr.length := pd_len pd
    refine ⟨.ref a, rfl, a, _, rfl, ha, fun L nL => ?_⟩
    refine it_core (walk_enum (K := K) (a := a) (xs := xs)) (fun i H1 => Same H H1 ∧ H1 L = some (.lst ((ownL pr i).map iv))) ⟨new_same nL, upd_same⟩ (fun i H1 _ hP => hP.1.seq ha) (fun i x H1 H2 hi hP hY => ?_) (fun H1 hP => ?_)
    · obtain ⟨s1, eL⟩ := hP
      obtain ⟨T, x1, x2, rfl, nT, rfl, e1, e2⟩ := hY
      cases e1
      have e2 : xs[i]? = some x2 := e2
      obtain ⟨bk, hbk, p, ra, ea, vs, rfl, hp, hra, pv, _⟩ := pd_at2 pd e2
      have sT := new_same (o := .tup [.int (i : Nat), .ref p]) nT
      have s2 := s1.trans sT
      refine ⟨T, _, rfl, sqT upd_same, rfl, _, _, rfl, _, _, rfl, p, _, rfl, Same.tup s2 hp, rfl, _, _, rfl, _, _, rfl, rfl, rfl, rfl, ?_⟩
      have eL2 := sT _ _ eL
      generalize upd H1 T (.tup [.int (i : Nat), .ref p]) = H3 at s2 eL2
      have hvl : vs.length = bk.1.length := pd_len pv
      refine ⟨.ref ra, rfl, ra, rfl, ⟨_, sqL (s2 _ _ hra)⟩, ?_⟩
      refine it_core (walk_list (K := K) (a := ra) (xs := vs)) (fun j H4 => Same H H4 ∧ H4 L = some (.lst ((ownL pr i ++ List.replicate j i).map iv))) ⟨s2, by simpa using eL2⟩ (fun j H4 _ hP => sqL (hP.1 _ _ hra)) (fun j z H4 H5 hj hP hY => ?_) (fun H4 hP => ?_)
      · obtain ⟨s4, eL4⟩ := hP
        obtain ⟨e1, ez⟩ := hY
        subst e1
        refine ⟨rfl, _, rfl, _, eL4, ?_, fun b o e => ?_, ?_⟩
        · rw [List.length_map, List.length_append, List.length_replicate, ownL_len i (by omega)]
          have h2 := take_rows_le hbl (show i ≤ pr.length by omega)
          have h3 := hbl bk (List.mem_of_getElem? hbk)
          have h4 : pr.length * 130 ≤ 12 * 130 := Nat.mul_le_mul_right _ hl
          exact szt (by omega)
        · rw [upd_ne (ne_of_none e nL)]; exact s4 _ _ e
        · rw [upd_same, List.replicate_succ', ← List.append_assoc, List.map_append (l₁ := ownL pr i ++ List.replicate j i)]
          rfl
      · obtain ⟨s4, eL4⟩ := hP
        rw [hvl] at eL4
        exact ⟨s4, by rw [ownL_succ hbk]; exact eL4⟩
    · obtain ⟨s1, eL⟩ := hP
      rw [hxl] at eL
      exact q L H1 nL s1 eL
end
end Gn
set_option Elab.async false
set_option linter.all false
set_option maxRecDepth 100000
set_option maxHeartbeats 4000000
namespace Gn
open PySem PySem.Spec PyProof.Rows L2
/-! ### above, as in k02 -/
theorem pd_idx {α β : Type} {F : α → β → Prop} {f : Nat → β} : ∀ {l : List α} {k : Nat}, (∀ n q, l[n]? = some q → F q (f (k + n))) → Paired F l ((List.range' k l.length).map f)
  | [], _, _ => .nil
  | a :: l, k, h => by
    rw [List.length_cons, List.range'_succ, List.map_cons]
    refine .cons (h 0 a rfl) (pd_idx fun n q e => ?_)
    have := h (n + 1) q (by simpa using e)
    rw [show k + (n + 1) = k + 1 + n by omega] at this
    exact this
theorem LL.nl {K : PySem.W.Frag} {H H1 : Hp} {lp : Addr} {m : Nat} {qs : List Addr} {f : Nat → List Nat} (h : LL H H1 lp m qs f) : NL K H1 lp ((List.range m).map f) := by
  refine ⟨qs, sqL h.top, ?_⟩
  have := pd_idx (F := fun q xs => SqL K H1 q (xs.map iv)) (f := f) (l := qs) (k := 0) fun n q e => by rw [Nat.zero_add]; exact sqL (h.at_ n q e)
  rw [h.len, ← List.range_eq_range'] at this
  exact this
theorem spec_mem {pr : List Blk} {i n a : Nat} : a ∈ spec pr i n ↔ a < i ∧ n ∈ (pr.getD a ([], .fin)).2.names := by
  unfold spec
  rw [List.mem_flatMap]
  constructor
  · rintro ⟨j, hj, ha⟩
    obtain ⟨h1, rfl⟩ := List.mem_replicate.mp ha
    exact ⟨List.mem_range.mp hj, List.count_pos_iff.mp (Nat.pos_of_ne_zero h1)⟩
  · rintro ⟨h1, h2⟩
    exact ⟨a, List.mem_range.mpr h1, List.mem_replicate.mpr ⟨Nat.ne_of_gt (List.count_pos_iff.mpr h2), rfl⟩⟩
abbrev nmL (pr : List Blk) : List (List Nat) := pr.map fun b => b.2.names
theorem Ex.names {pr : List Blk} {a : Nat} : Ex (nmL pr) a = (pr.getD a ([], .fin)).2.names := by
  unfold Ex nmL
  rw [List.getD_eq_getElem?_getD, List.getD_eq_getElem?_getD, List.getElem?_map]
  cases h : pr[a]? <;> rfl
theorem gr_of {m : Nat} {pr : List Blk} (hm : 1 ≤ m) (hm2 : m ≤ 12) (hl : pr.length = m) (h : NxOk m (nmL pr)) : Gr m (Ex (nmL pr)) ((List.range m).map (spec pr m)) := by
  have hin : ∀ a b, b ∈ Ex (nmL pr) a → a < m ∧ 1 ≤ b ∧ b < m := fun a b hb => by
    by_cases ha : a < (nmL pr).length
    · rw [Ex.at ha] at hb
      have h1 := (h.2.1 _ (List.getElem_mem ha)).2.2 b hb
      exact ⟨by rw [← h.1]; exact ha, h1⟩
    · unfold Ex at hb
      rw [List.getD_eq_getElem?_getD, List.getElem?_eq_none (by omega)] at hb
      cases hb
  refine ⟨by omega, by rw [List.length_map, List.length_range], by omega, fun a b hb => (hin a b hb).2.2, fun a ha => ?_, fun a z => ?_, fun b h0 hb => ?_, fun b hb a => ?_⟩
  · cases e : Ex (nmL pr) a with
    | nil => exact absurd e ha
    | cons b r => exact (hin a b (by rw [e]; exact List.mem_cons_self)).1
  · exact absurd (hin a 0 z).2.1 (by decide)
  · obtain ⟨j, xs, h1, h2, h3⟩ := h.2.2 b h0 hb
    refine ⟨j, h1, ?_⟩
    unfold Ex
    rw [List.getD_eq_getElem?_getD, h2]
    exact h3
  · have e : ((List.range m).map (spec pr m)).getD b [] = spec pr m b := by
      rw [List.getD_eq_getElem?_getD, List.getElem?_map, List.getElem?_range hb]
      rfl
    rw [e, spec_mem, Ex.names]
/-! ### Ways -/
theorem sf_ : ¬ (("span" : Str) = "first") := by decide +kernel
theorem fs_ : ¬ (("first" : Str) = "span") := by decide +kernel
def wf (s f : Addr) : List (Str × V) := putF "first" (.ref f) (putF "span" (.ref s) [])
theorem wf_eq (s f : Addr) : wf s f = ([("span", V.ref s), ("first", V.ref f)] : List (Str × V)) := by
  show (if ("span" : Str) = "first" then [(("span" : Str), V.ref f)] else (("span" : Str), V.ref s) :: putF "first" (V.ref f) []) = ([("span", V.ref s), ("first", V.ref f)] : List (Str × V))
  rw [if_neg sf_]
  all_goals rfl
theorem wf_first (s f : Addr) : (wf s f).lookup ("first" : Str) = some (.ref f) := by
  unfold wf
  rw [lookup_putF, if_pos rfl]
theorem wf_span (s f : Addr) : (wf s f).lookup ("span" : Str) = some (.ref s) := by
  unfold wf
  rw [lookup_putF, if_neg sf_, lookup_putF, if_pos rfl]
theorem wf_no (s f : Addr) {m : Str} (h1 : ¬ m = "first") (h2 : ¬ m = "span") : (wf s f).lookup m = none := by
  unfold wf
  rw [lookup_putF, if_neg h1, lookup_putF, if_neg h2]
  all_goals rfl
structure WTxt (K : PySem.W.Frag) (mg : Str → Option Value) (C : Addr) : Prop where
  cl : L2.Cls K C
  nS : NoAttr K C "span"
  nF : NoAttr K C "first"
  mgC : mg "Ways" = some (.ref C)
def WaysAt (C : Addr) (H : Hp) (p : Addr) (m : Nat) (E : Nat → List Nat) : Prop := ∃ (dx s f : Addr) (ss ps ns : List Nat), H p = some (.ins C dx (wf s f)) ∧ H s = some (.lst (ss.map iv)) ∧ H f = some (.lst (ps.map iv)) ∧ ss.length = m ∧ ps.length = m ∧
  Dn m (Nf ns) ∧ Szp m (Nf ns) (Nf ss) ∧ Plp m (Nf ns) (Nf ss) (Nf ps) ∧ ∀ b x, b < m → (Ch (Nf ns) x b ↔ ¬ Rc E x b)
theorem WaysAt.same {C : Addr} {H H' : Hp} {p : Addr} {m : Nat} {E : Nat → List Nat} (h : WaysAt C H p m E) (e : Same H H') : WaysAt C H' p m E := by
  obtain ⟨dx, s, f, ss, ps, ns, h1, h2, h3, h4⟩ := h
  exact ⟨dx, s, f, ss, ps, ns, e _ _ h1, e _ _ h2, e _ _ h3, h4⟩
def spWInit (K : PySem.W.Frag) (C : Addr) : Sp := fun vs H Q _ => ∃ (H0 : Hp) (p dx lp : Addr) (lds : List (List Nat)) (m : Nat) (E : Nat → List Nat), vs = [.ref p, .ref lp] ∧ Same H0 H ∧ H0 p = none ∧ H p = some (.ins C dx []) ∧ NL K H0 lp lds ∧ Gr m E lds ∧ (∀ xs ∈ lds, xs.length ≤ 1000) ∧
  ∀ (H' : Hp), Same H0 H' → WaysAt C H' p m E → Q .non H'
abbrev nWInit : List Str := ["self", "leads", "nearest"]
theorem scWInit : FnScope nWInit ["self", "leads"] (defScope sWInit) := ⟨rfl, rfl, rfl, by decide +kernel, rfl, by decide +kernel, by decide +kernel⟩
def spLies (C : Addr) : Sp := fun vs H Q _ => ∃ (p : Addr) (a b m : Nat) (E : Nat → List Nat), vs = [.ref p, iv a, iv b] ∧ WaysAt C H p m E ∧ a < m ∧ b < m ∧ ∀ r : Bool, (r = true ↔ ¬ Rc E a b) → Q (.bl r) H
abbrev nLies : List Str := ["self", "block", "other"]
theorem scLies : FnScope nLies ["self", "block", "other"] (defScope sLies) := ⟨rfl, rfl, rfl, by decide +kernel, rfl, by decide +kernel, by decide +kernel⟩
section
variable {P : Program} {w : World} {K : PySem.W.Frag} {mg : Str → Option Value} {base : Heap}
theorem ok_winit {f C fN fS fP : Addr} {fd fdN fdS fdP : FuncData} {k : Nat} (F : Fun K "__init__" "Ways.__init__" sWInit f fd) (T : WTxt K mg C)
    (DN : Df K mg "nearest_above" sNearest ["leads"] fN fdN) (GN : FnOk P w K mg base CX0 k fN fdN ["leads"] (spNearest K))
    (DS : Df K mg "branch_sizes" sSizes ["nearest"] fS fdS) (GS : FnOk P w K mg base CX0 k fS fdS ["nearest"] (spSizes K))
    (DP : Df K mg "branch_places" sPlaces ["nearest", "sizes"] fP fdP) (GP : FnOk P w K mg base CX0 k fP fdP ["nearest", "sizes"] (spPlaces K)) : FnOk P w K mg base CX0 (k + 1) f fd ["self", "leads"] (spWInit K C) := by
  refine F.ok scWInit (fun vs H Q E h => ?_) (fun cdv A outer s H vs Q E hr h => ?_)
  · obtain ⟨H0, p, dx, lp, lds, m, E', rfl, _⟩ := h
    rfl
  · obtain ⟨H0, p, dx, lp, lds, m, E', rfl, s0, p0, hp, hNL, g, hsz, q⟩ := h
    refine ⟨_, pss_cons (ps_set (i := 2) scWInit.nd rfl (.inl rfl) (pe_call GN hr (by rfl) DN.g DN.F.kp DN.b .nil pass0 (pa_cons (pv 1) pa_nil)))
      (pss_cons (ps_fld (pv 0) (pe_call GS hr (by rfl) DS.g DS.F.kp DS.b .nil pass0 (pa_cons (pv 2) pa_nil)) rfl)
      (pss_one (ps_fld (pv 0) (pe_call GP hr (by rfl) DP.g DP.F.kp DP.b .nil pass0 (pa_cons (pv 2) (pa_cons (pe_fld (pv 0) rfl) pa_nil))) rfl))), ?_⟩
    refine ⟨.ref lp, rfl, lp, lds, m, E', rfl, hNL.same s0, g, hsz, fun na ns H1 nna s1 ena hnl hdn hch => ?_⟩
    have ep1 := s1 _ _ hp
    refine ⟨.ref na, rfl, na, ns, m, rfl, sqL ena, hnl, g.pos, g.le, hdn, fun sa ss H2 nsa s2 esa hsl hS => ?_⟩
    have ep2 := s2 _ _ ep1
    have ena2 := s2 _ _ ena
    have npsa : p ≠ sa := ne_of_none ep1 nsa
    have npna : p ≠ na := ne_of_none hp nna
    have sH2 : Same H0 H2 := (s0.trans s1).trans s2
    refine ⟨_, rfl, p, C, dx, [], rfl, ep2, T.cl, T.nS, (by show 0 < 1000; decide), ?_⟩
    have sH3 := Same.upd (o := .ins C dx (putF "span" (.ref sa) [])) sH2 p0
    have ep3 : upd H2 p (.ins C dx (putF "span" (.ref sa) [])) p = some (.ins C dx (putF "span" (.ref sa) [])) := upd_same
    have ena3 : upd H2 p (.ins C dx (putF "span" (.ref sa) [])) na = some (.lst (ns.map iv)) := by rw [upd_ne npna.symm]; exact ena2
    have esa3 : upd H2 p (.ins C dx (putF "span" (.ref sa) [])) sa = some (.lst (ss.map iv)) := by rw [upd_ne npsa.symm]; exact esa
    generalize upd H2 p (.ins C dx (putF "span" (.ref sa) [])) = H3 at sH3 ep3 ena3 esa3
    have hlk : (putF "span" (.ref sa) [] : List (Str × V)).lookup ("span" : Str) = some (.ref sa) := by rw [lookup_putF, if_pos rfl]
    refine ⟨.ref na, rfl, _, rfl, p, C, dx, _, _, rfl, ep3, T.cl, T.nS, hlk, na, sa, ns, ss, m, rfl, sqL ena3, sqL esa3, hnl, hsl, g.pos, g.le, hdn, fun fa ps H4 nfa s4 efa hpl hP => ?_⟩
    have ep4 := s4 _ _ ep3
    have esa4 := s4 _ _ esa3
    have npfa : p ≠ fa := ne_of_none ep3 nfa
    refine ⟨_, rfl, p, C, dx, _, rfl, ep4, T.cl, T.nF, (by show 1 < 1000; decide), ?_⟩
    exact q _ (Same.upd (sH3.trans s4) p0) ⟨dx, sa, fa, ss, ps, ns, upd_same, by rw [upd_ne npsa.symm]; exact esa4, by rw [upd_ne npfa.symm]; exact efa, hsl, hpl, hdn, hS, hP, hch⟩
theorem ok_lies {f C : Addr} {fd : FuncData} {k : Nat} (F : Fun K "lies" "Ways.lies" sLies f fd) (T : WTxt K mg C) : FnOk P w K mg base CX0 (k + 1) f fd ["self", "block", "other"] (spLies C) := by
  refine F.ok scLies (fun vs H Q E h => ?_) (fun cdv A outer s H vs Q E hr h => ?_)
  · obtain ⟨p, a, b, m, E', rfl, _⟩ := h
    rfl
  · obtain ⟨p, a, b, m, E', rfl, ⟨dx, s, f, ss, ps, ns, h1, h2, h3, h4, h5, hN, hS, hP, hch⟩, ha, hb, q⟩ := h
    refine ⟨_, pss_one (ps_ret (pe_chain op_le op_lt (pe_ix ix_list (pe_fld (pv 0) rfl) (pv 1) (fun _ _ => rfl)) (pe_ix ix_list (pe_fld (pv 0) rfl) (pv 2) (fun _ _ => rfl)) (pe_op op_add (pe_ix ix_list (pe_fld (pv 0) rfl) (pv 1) (fun _ _ => rfl)) (pe_ix ix_list (pe_fld (pv 0) rfl) (pv 1) (fun _ _ => rfl))))), ?_⟩
    have hli := lies_iff hN hS hP ha hb
    rw [hch b a hb] at hli
    refine ⟨_, rfl, p, C, dx, _, _, rfl, h1, T.cl, T.nF, wf_first _ _, iv a, rfl, f, _, _, iv (Nf ps a), rfl, rfl, sqL h3, atI_nat (Nf.at (by omega)), ?_⟩
    refine ⟨_, rfl, p, C, dx, _, _, rfl, h1, T.cl, T.nF, wf_first _ _, iv b, rfl, f, _, _, iv (Nf ps b), rfl, rfl, sqL h3, atI_nat (Nf.at (by omega)), _, _, rfl, rfl, _, rfl, ite2 (fun e => ?_) (fun e => ?_)⟩
    · have e1 : (Nf ps a : Int) ≤ (Nf ps b : Int) := of_decide_eq_true e
      refine ⟨_, rfl, p, C, dx, _, _, rfl, h1, T.cl, T.nF, wf_first _ _, iv a, rfl, f, _, _, iv (Nf ps a), rfl, rfl, sqL h3, atI_nat (Nf.at (by omega)), ?_⟩
      refine ⟨_, rfl, p, C, dx, _, _, rfl, h1, T.cl, T.nS, wf_span _ _, iv a, rfl, s, _, _, iv (Nf ss a), rfl, rfl, sqL h2, atI_nat (Nf.at (by omega)), _, _, rfl, rfl, _, _, rfl, rfl, ?_⟩
      refine q _ ?_
      rw [decide_eq_true_iff, ← hli]
      exact ⟨fun z => ⟨by omega, by omega⟩, fun z => by have := z.2; omega⟩
    · have e1 : ¬ (Nf ps a : Int) ≤ (Nf ps b : Int) := fun z => e (decide_eq_true z)
      refine q false ⟨fun z => (by cases z), fun z => ?_⟩
      have := (hli.mpr z).1
      omega
end
end Gn
set_option Elab.async false
set_option linter.all false
set_option maxRecDepth 100000
set_option maxHeartbeats 4000000
set_option pp.maxSteps 300
namespace Gn
open PySem PySem.Spec PyProof.Rows L2
abbrev sIsLed : Stmt := topS 40
abbrev sCanLead : Stmt := topS 41
abbrev scGen : Scope := { kind := .function, names := [(".0", .local), ("block", .cell), ("leads", .free), ("any", .globalImplicit)], isGenerator := true, isCoroutine := false }
/-! ### an any of which the t-th test is the first true one, or an earlier -/
theorem any_w {J : It} {σ : L2.St} {g : TG} {tt : TT} {te : TE} {vs : List Nat} {Q : VK} (t : Nat) (Φ : Hp → Prop) {H2 : Hp} (h0 : Φ H2)
    (go : ∀ i H, i ≤ t → Φ H → J.go i H ∧ ∀ x H', J.yld i H x H' → g x (wipe σ vs) H' fun σ2 H2 => wipe σ2 vs = wipe σ vs ∧ tt σ2 H2 fun ok H3 =>
      if ok = true then te σ2 H3 fun y H4 => ∃ c : Bool, y = .bl c ∧ (c = true → Q (.bl true) H4) ∧ (c ≠ true → i < t ∧ Φ H4) else i < t ∧ Φ H3) :
    ∃ W : Nat → Nat → Hp → Prop, (∃ m, W 0 m H2) ∧ ∀ i m H, W i m H → Gx.tTurn true J σ g tt te vs Q W i m H := by
  refine ⟨fun i m H => m = t - i ∧ i ≤ t ∧ Φ H, ⟨t, by simp, Nat.zero_le _, h0⟩, ?_⟩
  rintro i m H ⟨rfl, hi, hΦ⟩
  obtain ⟨a, b⟩ := go i H hi hΦ
  exact .inr ⟨a, fun H' => i < t ∧ Φ H', fun H' h' => ⟨t - (i + 1), by omega, rfl, h'.1, h'.2⟩, b⟩
def spCanLead (K : PySem.W.Frag) (Ts : List Addr) (D : Addr) : Sp := fun vs H Q _ => ∃ (np : Addr) (bs : List Nat) (m : Nat), vs = [.ref np, iv m] ∧ SqL K (nt H) np (bs.map iv) ∧ bs.Nodup ∧ bs.length ≤ 100 ∧ (∀ b ∈ bs, 1 ≤ b ∧ b < m) ∧ Tbs Ts D H ∧ ∀ H', LamX.ExtN H H' → Tbs Ts D H' → Q (.bl true) H'
abbrev nCanLead : List Str := ["named", "many", "block"]
theorem scCanLead : FnScope nCanLead ["named", "many"] (defScope sCanLead) := ⟨rfl, rfl, rfl, by decide +kernel, rfl, by decide +kernel, by decide +kernel⟩
def spLed (K : PySem.W.Frag) (Ts : List Addr) (D : Addr) : Sp := fun vs H Q _ => ∃ (v : V) (pr : List Blk), vs = [v] ∧ ProgAt K (nt H) v pr ∧ 1 ≤ pr.length ∧ pr.length ≤ 12 ∧ NxOk pr.length (nmL pr) ∧ Tbs Ts D H ∧ ∀ H', LamX.ExtN H H' → Tbs Ts D H' → Q (.bl true) H'
abbrev nLed : List Str := ["program", "leads", "rows", "end", "block", "lead"]
theorem scLed : FnScope nLed ["program"] (defScope sIsLed) := ⟨rfl, rfl, rfl, by decide +kernel, rfl, by decide +kernel, by decide +kernel⟩
section
variable {P0 : Program} {w : World} {K : PySem.W.Frag} {mg : Str → Option Value} {base : Heap} {Ts : List Addr} {Dd : Addr}
theorem ok_canLead {f c P : Addr} {fd : FuncData} {k : Nat} (D : DfC K mg "can_lead_to" sCanLead ["named", "many"] f fd c) (B : Bi mg) (TB : GxR.TabB base mg c P) (hP : P ∈ Ts) (hTs : TsOk Ts Dd) :
    FnOk P0 w K mg base CX0 (k + 3 + 1) f fd ["named", "many"] (spCanLead K Ts Dd) := by
  refine D.F.ok scCanLead (fun vs H Q E h => ?_) (fun A outer s H vs Q E hr h => ?_)
  · obtain ⟨np, bs, m, rfl, _⟩ := h
    rfl
  · obtain ⟨np, bs, m, rfl, hp, hnd, hl, hb, hT, q⟩ := h
    refine ⟨_, (pss_one (ps_ret (pe_and (pe_cmpR op_eq (RZ.pe_lenSetI (by rfl) B.len (by rfl) B.set (pv 0)) (pe_callB call_len_seq (by rfl) B.len PySem.boot_len (pa_cons (pv 0) pa_nil)) (nomark _)) (pe_one (Gx.pe_allG (k := k) (own := [("block", 2)]) (g := gName 2) (tt := tYes) (te := tChain (rI0 fun i j => .bl (decide (i < j))) (rI0 fun i j => .bl (decide (i < j))) (tC (.int 0)) (tVar 2) (tVar 1)) rfl hr scCanLead.nd (by rfl) B.all (by decide +kernel) TB rfl
      (blkOk_by (own := [("block", 2)]) (N := nCanLead) (sc := defScope sCanLead) (by decide +kernel)) (by decide +kernel) (by rfl) (by rfl)
      (pi_list (pv 0)) (fun _ _ _ _ _ _ _ _ _ => pg_name (i := 2) scCanLead.nd rfl (.inl rfl)) (fun _ _ _ _ _ _ _ _ _ => pts_nil)
      (fun A' _ _ _ _ _ _ _ hr' => (pe_chain op_lt op_lt pe_int (pv 2) (pv 1))) (fun _ => rfl)))))), ?_⟩
    have hmm : bs.map iv = (bs.map fun n : Nat => (n : Int)).map V.int := by rw [List.map_map]; rfl
    refine ⟨_, rfl, np, bs.map fun n : Nat => (n : Int), rfl, by rw [← hmm]; exact ntL hp, List.Pairwise.map (fun n : Nat => (n : Int)) (fun a b (hab : a ≠ b) (e : (a : Int) = (b : Int)) => hab (Int.ofNat.inj e)) hnd, by rw [List.length_map]; omega, _, rfl, np, _, rfl, .inl (ntL hp), rfl, _, rfl, ?_⟩
    refine ifP (decide_eq_true (by rw [List.length_map, List.length_map])) ?_
    refine ⟨_, rfl, np, rfl, ⟨_, ntL hp⟩, hT.g P hP, fun H2 hTb => ?_⟩
    obtain ⟨hT2, e2⟩ := hT.tabbed hP (hTs.ne hP) hTb
    have at_ : ∀ {H' : Hp}, LamX.ExtN H H' → SqL K H' np (bs.map iv) := fun e => ntL ((ext_nt e).seq hp)
    refine all_w bs.length (fun H' => LamX.ExtN H H' ∧ Tbs Ts Dd H') ⟨e2, hT2⟩ (fun i H3 hi hΦ => ?_) (fun H3 hΦ => ⟨⟨_, at_ hΦ.1, by rw [List.length_map]; exact Nat.le_refl _⟩, q _ hΦ.1 hΦ.2⟩)
    have h3 := at_ hΦ.1
    refine ⟨⟨_, _, h3, by rw [List.getElem?_map, List.getElem?_eq_getElem hi]; rfl⟩, fun x H' y => ?_⟩
    obtain ⟨e1, y⟩ := y
    subst e1
    have ex := y _ h3
    rw [List.getElem?_map, List.getElem?_eq_getElem hi] at ex
    cases ex
    obtain ⟨b1, b2⟩ := hb _ (List.getElem_mem hi)
    refine ⟨rfl, _, rfl, _, _, rfl, rfl, _, rfl, ifP (decide_eq_true (by omega)) ⟨_, rfl, _, _, rfl, rfl, decide ((bs[i] : Int) < (m : Int)), rfl, fun e => ?_, fun _ => hΦ⟩⟩
    have := of_decide_eq_false e
    omega
theorem ok_led {f c fC fN fO cC : Addr} {fd fdC fdN fdO : FuncData} {k : Nat} (D : DfC K mg "is_led" sIsLed ["program"] f fd c) (B : Bi mg) (TB : GxR.TabB base mg c Dd)
    (DC : DfC K mg "can_lead_to" sCanLead ["named", "many"] fC fdC cC) (GC : FnOk P0 w K mg base CX0 (k + 3) fC fdC ["named", "many"] (spCanLead K Ts Dd))
    (DN : Df K mg "blocks_named" sNamed ["end"] fN fdN) (GN : FnOk P0 w K mg base CX0 (k + 3) fN fdN ["end"] (spNamed K))
    (DO : Df K mg "leads_of" sLeadsOf ["program"] fO fdO) (GO : FnOk P0 w K mg base CX0 (k + 3 + 3) fO fdO ["program"] (spLeadsOf K)) :
    FnOk P0 w K mg base CX0 (k + 3 + 3 + 1) f fd ["program"] (spLed K Ts Dd) := by
  refine D.F.ok scLed (fun vs H Q E h => ?_) (fun A outer s H vs Q E hr h => ?_)
  · obtain ⟨v, pr, rfl, _⟩ := h
    rfl
  · obtain ⟨v, pr, rfl, ⟨p, bs, rfl, hp, hbs⟩, h1, h12, hnx, hT, q⟩ := h
    refine ⟨_, (pss_cons (ps_if (pt_not (pt_val (Gx.pe_allD (k := k + 3) (own := [("rows", 2), ("end", 3)]) (g := gTup K 2 (gCons (gName 2) (gCons (gName 3) gNil))) (tt := tYes) (te := tCall (spCanLead K Ts Dd) [] E0 (tCons (tCall (spNamed K) [] E0 (tCons (tVar 3) tNil)) (tCons (tCB (Evl.rLenS K) (tCons (tVar 0) tNil)) tNil))) rfl hr scLed.nd (by rfl) B.all (by decide +kernel) TB rfl
      (blkOk_by (own := [("rows", 2), ("end", 3)]) (N := nLed) (sc := defScope sIsLed) (by decide +kernel)) (by rfl) (by rfl)
      (pi_list (pv 0)) (fun _ _ _ _ _ _ _ _ _ _ => (pg_tup rfl (pgs_cons (pg_name (i := 2) scLed.nd rfl (.inl rfl)) (pgs_cons (pg_name (i := 3) scLed.nd rfl (.inl rfl)) pgs_nil)))) (fun _ _ _ _ _ _ _ _ _ _ => pts_nil)
      (fun A' _ _ _ _ _ _ _ hr' _ => pe_call GC hr' (by rfl) DC.g DC.F.kp DC.b .nil pass0 (pa_cons (pe_call GN hr' (by rfl) DN.g DN.F.kp DN.b .nil pass0 (pa_cons (pv 3) pa_nil)) (pa_cons (pe_callB call_len_seq (by rfl) B.len PySem.boot_len (pa_cons (pv 0) pa_nil)) pa_nil))) (fun _ => rfl)))) (pss_one (ps_ret pe_bl)) pss_nil)
      (pss_cons (ps_set (i := 1) scLed.nd rfl (.inr rfl) (pe_call GO hr (by rfl) DO.g DO.F.kp DO.b .nil pass0 (pa_cons (pv 0) pa_nil)))
      (pss_one (ps_ret (Gx.pe_allD (k := k + 3) (own := [("block", 4)]) (g := gName 4) (tt := tYes) (te := Gx.tGd true Dd (iList K (tIxL K (tVar 1) (tVar 4))) (gName 5) tYes (tOp (rI0 fun i j => .bl (decide (i < j))) (tVar 5) (tVar 4)) [5]) rfl hr scLed.nd (by rfl) B.all (by decide +kernel) TB rfl
      (blkOk_by (own := [("block", 4)]) (N := nLed) (sc := defScope sIsLed) (by decide +kernel)) (by rfl) (by rfl)
      (pi_range2 (by rfl) B.range (pa_cons pe_int (pa_cons (pe_callB call_len_seq (by rfl) B.len PySem.boot_len (pa_cons (pv 0) pa_nil)) pa_nil))) (fun _ _ _ _ _ _ _ _ _ _ => pg_name (i := 4) scLed.nd rfl (.inr rfl)) (fun _ _ _ _ _ _ _ _ _ _ => pts_nil)
      (fun A' _ _ _ _ _ _ _ hr' hin => (Gx.pe_anyN (k := k) (own := [("lead", 5)]) (g := gName 5) (tt := tYes) (te := tOp (rI0 fun i j => .bl (decide (i < j))) (tVar 5) (tVar 4)) rfl hr' scLed.nd (by rfl) B.any TB.bm hin
        (blkOk_by (own := [("lead", 5)]) (N := nLed) (sc := scGen) (by decide +kernel)) (by rfl) (by rfl)
        (pi_list (pe_ix ix_list (pv 1) (pv 4) (fun _ _ => rfl))) (fun _ _ _ _ _ _ _ _ _ => pg_name (i := 5) scLed.nd rfl (.inl rfl)) (fun _ _ _ _ _ _ _ _ _ => pts_nil)
        (fun _ _ _ _ _ _ _ _ _ => pe_cmpR op_lt (pv 5) (pv 4) (nomark _)) (fun _ => rfl))) (fun _ => rfl)))))), ?_⟩
    have hbl : bs.length = pr.length := pd_len hbs
    have at_ : ∀ {H' : Hp}, LamX.ExtN H H' → SqL K H' p bs := fun e => ntL ((ext_nt e).seq hp)
    have hnm : ∀ b ∈ pr, NxE pr.length b.2.names := fun b hb => hnx.2.1 _ (List.mem_map.mpr ⟨b, hb, rfl⟩)
    have tt : ¬ ((!true) = true) := by intro h; cases h
    refine ⟨_, rfl, p, rfl, ⟨_, ntL hp⟩, hT.d, fun H2 kt d2 => ?_⟩
    have hT2 := hT.kt kt d2
    refine all_w bs.length (fun H' => LamX.ExtN H H' ∧ Tbs Ts Dd H') ⟨kt.1, hT2⟩ (fun i H3 hi hΦ => ?_) (fun H3 hΦ => ⟨⟨_, at_ hΦ.1, Nat.le_refl _⟩, true, rfl, ifN tt ?_⟩)
    · have h3 := at_ hΦ.1
      refine ⟨⟨_, _, h3, List.getElem?_eq_getElem hi⟩, fun x H' y => ?_⟩
      obtain ⟨e1, y⟩ := y
      subst e1
      obtain ⟨b, hb1, pb, ra, ea, us, rfl, g1, g2, g3, g4⟩ := pd_at2 hbs (y _ h3)
      have hbm := List.mem_of_getElem? hb1
      obtain ⟨n1, n2, n3⟩ := hnm b hbm
      refine ⟨pb, _, rfl, ntT (Same.tup (ext_nt hΦ.1) g1), rfl, _, _, rfl, _, _, rfl, rfl, rfl, ?_⟩
      refine ⟨ea, rfl, ea, b.2, rfl, (g4.same (ext_nt hΦ.1)).same (nt_same _), fun np H4 nnp s4 enp => ?_⟩
      have e4 : LamX.ExtN H H4 := hΦ.1.trans (same_ext s4)
      refine ⟨_, rfl, p, _, rfl, .inl (at_ e4), np, b.2.names, bs.length, rfl, sqL (nt_at enp (fun ps z => by cases z)), n2, by omega, fun z hz => by rw [hbl]; exact n3 z hz, hΦ.2.same s4, fun H5 e5 t5 => ⟨true, rfl, fun e => (by cases e), fun _ => ⟨e4.trans e5, t5⟩⟩⟩
    · refine ⟨_, rfl, _, pr, rfl, ⟨p, bs, rfl, at_ hΦ.1, pd_mono hbs fun _ _ z => (z.same (ext_nt hΦ.1)).same (nt_same _)⟩, by omega, fun b hb y hy => ((hnm b hb).2.2 y hy).2, fun b hb => (hnm b hb).1, fun lp qs H4 s4 hLL => ?_⟩
      have e4 : LamX.ExtN H H4 := hΦ.1.trans (same_ext s4)
      have hT4 := hΦ.2.same s4
      refine ⟨_, rfl, p, _, rfl, .inl (at_ e4), 1, bs.length, rfl, ⟨by decide, by decide, by omega, by omega⟩, hT4.d, fun H5 kt5 d5 => ?_⟩
      have hT5 := hT4.kt kt5 d5
      refine all_w ((bs.length : Int) - 1).toNat (fun H' => LamX.ExtN H4 H' ∧ Tbs Ts Dd H') ⟨kt5.1, hT5⟩ (fun i H6 hi hΦ6 => ⟨hi, fun x H' y => ?_⟩) (fun H6 hΦ6 => ⟨Nat.le_refl _, q _ (e4.trans hΦ6.1) hΦ6.2⟩)
      obtain ⟨e1, ex⟩ := y
      subst e1
      have ex : x = iv (i + 1) := by
        rw [ex]
        show V.int _ = V.int _
        congr 1
        omega
      subst ex
      have hb : i + 1 < pr.length := by omega
      have hbq : i + 1 < qs.length := by rw [hLL.len]; exact hb
      have hq := List.getElem?_eq_getElem hbq
      have nl : ∀ {zs : List V} (ps : Array Value), HO.lst zs ≠ .tbl ps := fun ps z => by cases z
      have at6 : ∀ {H' : Hp}, LamX.ExtN H4 H' → H' qs[i + 1] = some (.lst ((spec pr pr.length (i + 1)).map iv)) := fun e => e _ _ (hLL.at_ _ _ hq) nl
      have tp6 := hΦ6.1 _ _ hLL.top nl
      obtain ⟨j, xs, hj1, hj2, hj3⟩ := hnx.2.2 (i + 1) (by omega) hb
      have hjl : j < pr.length := by omega
      have hjm : j ∈ spec pr pr.length (i + 1) := by
        refine spec_mem.mpr ⟨hjl, ?_⟩
        rw [List.getElem?_map] at hj2
        rw [List.getD_eq_getElem?_getD]
        cases hpj : pr[j]? with
        | none => rw [hpj] at hj2; cases hj2
        | some b =>
          rw [hpj] at hj2
          cases hj2
          exact hj3
      obtain ⟨t, ht⟩ := List.mem_iff_getElem?.mp hjm
      have htl := (List.getElem?_eq_some_iff.mp ht).1
      refine ⟨rfl, .ref lp, rfl, iv (i + 1), rfl, lp, _, _, .ref qs[i + 1], rfl, rfl, sqL tp6, atI_nat (by rw [List.getElem?_map, hq]; rfl), qs[i + 1], rfl, ⟨_, sqL (at6 hΦ6.1)⟩, hΦ6.2.d, fun H7 kt7 d7 => ?_⟩
      refine any_w t (fun H' => LamX.ExtN H4 H' ∧ Tbs Ts Dd H') ⟨hΦ6.1.trans kt7.1, hΦ6.2.kt kt7 d7⟩ (fun n H8 hn hΦ8 => ?_)
      have hnl : n < (spec pr pr.length (i + 1)).length := by omega
      have h8 := sqL (K := K) (at6 hΦ8.1)
      refine ⟨⟨_, _, h8, by rw [List.getElem?_map, List.getElem?_eq_getElem hnl]; rfl⟩, fun x H' y => ?_⟩
      obtain ⟨e1, y⟩ := y
      subst e1
      have ex := y _ h8
      rw [List.getElem?_map, List.getElem?_eq_getElem hnl] at ex
      cases ex
      refine ⟨rfl, _, rfl, _, rfl, _, _, rfl, rfl, decide (((spec pr pr.length (i + 1))[n] : Int) < ((i + 1 : Nat) : Int)), rfl, fun _ => ⟨true, rfl, fun e => (by cases e), fun _ => hΦ8⟩, fun e => ⟨?_, hΦ8⟩⟩
      by_cases hnt : n = t
      · subst hnt
        rw [List.getElem?_eq_getElem hnl] at ht
        have hv : (spec pr pr.length (i + 1))[n] = j := Option.some.inj ht
        rw [hv] at e
        exact absurd (decide_eq_true (by omega)) e
      · omega
end
end Gn
set_option Elab.async false
set_option linter.all false
set_option maxRecDepth 100000
set_option maxHeartbeats 4000000
set_option pp.maxSteps 300
namespace Gn
open PySem PySem.Spec PyProof.Rows L2
abbrev sHasWorth : Stmt := topS 8
abbrev sIsMeet : Stmt := topS 9
abbrev sRowsNamed : Stmt := topS 10
abbrev sRowsTested : Stmt := topS 11
abbrev sNumbersIn : Stmt := topS 12
/-! ### what a row names -/
def Rw.nms : Rw → List Nat
  | .take _ => []
  | .num _ => []
  | .bin _ x y => [x, y]
  | .pick x ps => x :: ps
  | .meet ps => ps
  | .tell x => [x]
  | .look _ x => [x]
  | .lay _ x y => [x, y]
def En.nms : En → List Nat
  | .iff r _ _ => [r]
  | _ => []
/-- the numbers that one part names -/
def NmOk (K : PySem.W.Frag) (I : Hp) (kd : Str) (x : V) (ns : List Nat) : Prop := (kd = "row" ∧ ∃ n : Nat, x = iv n ∧ ns = [n]) ∨ (kd = "parts" ∧ ∃ q, x = .ref q ∧ SqT K I q (ns.map iv)) ∨ (kd ≠ "row" ∧ kd ≠ "parts" ∧ ns = [])
theorem NmOk.same {K : PySem.W.Frag} {I J : Hp} {kd : Str} {x : V} {ns : List Nat} (h : NmOk K I kd x ns) (e : Same I J) : NmOk K J kd x ns := by
  rcases h with h | ⟨h, q, a, b⟩ | h
  · exact .inl h
  · exact .inr (.inl ⟨h, q, a, Same.tup e b⟩)
  · exact .inr (.inr h)
/-- part by part -/
inductive Nms (K : PySem.W.Frag) (I : Hp) : List V → List Str → List (List Nat) → Prop
  | nil : Nms K I [] [] []
  | cons {x : V} {kd : Str} {ns : List Nat} {xs : List V} {ks : List Str} {nss : List (List Nat)} (h : NmOk K I kd x ns) (t : Nms K I xs ks nss) : Nms K I (x :: xs) (kd :: ks) (ns :: nss)
theorem Nms.len {K : PySem.W.Frag} {I : Hp} {xs : List V} {ks : List Str} {nss : List (List Nat)} (h : Nms K I xs ks nss) : xs.length = ks.length ∧ nss.length = ks.length := by
  induction h with
  | nil => exact ⟨rfl, rfl⟩
  | cons h t ih => simp [ih.1, ih.2]
theorem Nms.at_ {K : PySem.W.Frag} {I : Hp} {xs : List V} {ks : List Str} {nss : List (List Nat)} (h : Nms K I xs ks nss) : ∀ {i : Nat} {x : V} {kd : Str}, xs[i]? = some x → ks[i]? = some kd → ∃ ns, nss[i]? = some ns ∧ NmOk K I kd x ns := by
  induction h with
  | nil => intro i x kd e; simp at e
  | cons h t ih =>
    intro i x kd e1 e2
    cases i with
    | zero => cases e1; cases e2; exact ⟨_, rfl, h⟩
    | succ i => exact ih e1 e2
theorem row_nms {K : PySem.W.Frag} {I : Hp} {v : V} {r : Rw} (h : RowAt K I v r) : ∃ p ps nss, v = .ref p ∧ SqT K I p (.str r.w :: ps) ∧ Nms K I ps r.kdS nss ∧ nss.flatten = r.nms := by
  obtain ⟨p, xs, h1, h2, h3⟩ := h
  have no : ∀ {kd : Str} {x : V}, kd ≠ "row" → kd ≠ "parts" → NmOk K I kd x [] := fun a b => .inr (.inr ⟨a, b, rfl⟩)
  have one : ∀ {n : Nat}, NmOk K I "row" (iv n) [n] := fun {n} => .inl ⟨rfl, n, rfl, rfl⟩
  cases r with
  | take i => cases h3; exact ⟨p, _, _, h1, h2, .cons (no (by decide) (by decide)) .nil, rfl⟩
  | num n => cases h3; exact ⟨p, _, _, h1, h2, .cons (no (by decide) (by decide)) .nil, rfl⟩
  | bin b x y => cases h3; exact ⟨p, _, _, h1, h2, .cons one (.cons one .nil), rfl⟩
  | pick x qs =>
    obtain ⟨q, e, hq⟩ := h3
    cases e
    exact ⟨p, _, _, h1, h2, .cons one (.cons (.inr (.inl ⟨rfl, q, rfl, hq⟩)) .nil), by simp [Rw.nms]⟩
  | meet qs =>
    obtain ⟨q, e, hq⟩ := h3
    cases e
    exact ⟨p, _, _, h1, h2, .cons (.inr (.inl ⟨rfl, q, rfl, hq⟩)) .nil, by simp [Rw.nms]⟩
  | tell x => cases h3; exact ⟨p, _, _, h1, h2, .cons one .nil, rfl⟩
  | look rs x =>
    obtain ⟨q, e, hq⟩ := h3
    cases e
    exact ⟨p, _, _, h1, h2, .cons (no (by decide) (by decide)) (.cons one .nil), rfl⟩
  | lay rs x y =>
    obtain ⟨q, e, hq⟩ := h3
    cases e
    exact ⟨p, _, _, h1, h2, .cons (no (by decide) (by decide)) (.cons one (.cons one .nil)), rfl⟩
theorem en_nms {K : PySem.W.Frag} {I : Hp} {v : V} {e : En} (h : EnAt K I v e) : ∃ p ps nss, v = .ref p ∧ SqT K I p (.str e.word :: ps) ∧ Nms K I ps e.kdS nss ∧ nss.flatten = e.nms := by
  have no : ∀ {kd : Str} {x : V}, kd ≠ "row" → kd ≠ "parts" → NmOk K I kd x [] := fun a b => .inr (.inr ⟨a, b, rfl⟩)
  cases e with
  | go b => obtain ⟨p, h1, h2⟩ := h; exact ⟨p, _, _, h1, h2, .cons (no (by decide) (by decide)) .nil, rfl⟩
  | iff r b c => obtain ⟨p, h1, h2⟩ := h; exact ⟨p, _, _, h1, h2, .cons (.inl ⟨rfl, r, rfl, rfl⟩) (.cons (no (by decide) (by decide)) (.cons (no (by decide) (by decide)) .nil)), rfl⟩
  | fin => obtain ⟨p, h1, h2⟩ := h; exact ⟨p, _, _, h1, h2, .nil, rfl⟩
def spNumsIn (K : PySem.W.Frag) : Sp := fun vs H Q _ => ∃ (p kt : Addr) (wd : Str) (ps : List V) (kds : List Str) (nss : List (List Nat)), vs = [.ref p, .ref kt] ∧ SqT K H p (.str wd :: ps) ∧ (∀ H', SqT K H' kt (kds.map V.str)) ∧ Nms K H ps kds nss ∧ nss.flatten.length ≤ 1000 ∧
  ∀ (a : Addr) (H' : Hp), H a = none → Same H H' → H' a = some (.lst (nss.flatten.map iv)) → Q (.ref a) H'
abbrev nNumsIn : List Str := ["thing", "kinds", "named", "kind", "part"]
theorem scNumsIn : FnScope nNumsIn ["thing", "kinds"] (defScope sNumbersIn) := ⟨rfl, rfl, rfl, by decide +kernel, rfl, by decide +kernel, by decide +kernel⟩
def spRowsNamed (K : PySem.W.Frag) : Sp := fun vs H Q _ => ∃ (v : V) (r : Rw), vs = [v] ∧ RowAt K H v r ∧ r.nms.length ≤ 1000 ∧ ∀ (a : Addr) (H' : Hp), H a = none → Same H H' → H' a = some (.lst (r.nms.map iv)) → Q (.ref a) H'
def spRowsTested (K : PySem.W.Frag) : Sp := fun vs H Q _ => ∃ (v : V) (e : En), vs = [v] ∧ EnAt K H v e ∧ ∀ (a : Addr) (H' : Hp), H a = none → Same H H' → H' a = some (.lst (e.nms.map iv)) → Q (.ref a) H'
def spHasWorth (K : PySem.W.Frag) : Sp := fun vs H Q _ => ∃ (v : V) (r : Rw), vs = [v] ∧ RowAt K H v r ∧ Q (.bl r.worthy) H
def spIsMeetR (K : PySem.W.Frag) : Sp := fun vs H Q _ => ∃ (v : V) (r : Rw), vs = [v] ∧ RowAt K H v r ∧ Q (.bl (decide (r.w = "meet"))) H
abbrev nRowP : List Str := ["row"]
theorem scRowP : FnScope nRowP ["row"] (defScope sRowsNamed) := ⟨rfl, rfl, rfl, by decide +kernel, rfl, by decide +kernel, by decide +kernel⟩
theorem scHasW : FnScope nRowP ["row"] (defScope sHasWorth) := ⟨rfl, rfl, rfl, by decide +kernel, rfl, by decide +kernel, by decide +kernel⟩
theorem scIsMt : FnScope nRowP ["row"] (defScope sIsMeet) := ⟨rfl, rfl, rfl, by decide +kernel, rfl, by decide +kernel, by decide +kernel⟩
theorem scEndP : FnScope ["end"] ["end"] (defScope sRowsTested) := ⟨rfl, rfl, rfl, by decide +kernel, rfl, by decide +kernel, by decide +kernel⟩
section
variable {P0 : Program} {w : World} {K : PySem.W.Frag} {mg : Str → Option Value} {base : Heap}
theorem ok_hasWorth {f gW : Addr} {fd : FuncData} {k : Nat} (D : Df K mg "has_worth" sHasWorth ["row"] f fd) (hW : mg "WORTHLESS" = some (.ref gW)) (tW : ∀ H, SqT K H gW [.str "lay", .str "tell"]) : FnOk P0 w K mg base CX0 (k + 1) f fd ["row"] (spHasWorth K) := by
  refine D.F.ok scHasW (fun vs H Q E h => ?_) (fun cdv A outer s H vs Q E hr h => ?_)
  · obtain ⟨v, r, rfl, _⟩ := h
    rfl
  · obtain ⟨v, r, rfl, ⟨p, xs, rfl, hp, _⟩, q⟩ := h
    refine ⟨_, (pss_one (ps_ret (pe_cmpR op_notIn_seq (pe_ix ix_tup (pv 0) pe_int (fun _ _ => rfl)) (pe_glob (v := .ref gW) (by rfl) hW rfl) rfl))), ?_⟩
    refine ⟨_, rfl, p, _, _, _, rfl, rfl, hp, atI_nat (j := 0) rfl, gW, _, rfl, .inr (tW _), rfl, rfl, ?_⟩
    have e : (!inV (.str r.w) [.str "lay", .str "tell"]) = r.worthy := by
      cases r with
      | bin b x y => cases b <;> rfl
      | _ => (first | rfl | decide)
    show Q (.bl (!inV (.str r.w) [.str "lay", .str "tell"])) H
    rw [e]
    exact q
theorem ok_isMt {f : Addr} {fd : FuncData} {k : Nat} (D : Df K mg "is_meet" sIsMeet ["row"] f fd) : FnOk P0 w K mg base CX0 (k + 1) f fd ["row"] (spIsMeetR K) := by
  refine D.F.ok scIsMt (fun vs H Q E h => ?_) (fun cdv A outer s H vs Q E hr h => ?_)
  · obtain ⟨v, r, rfl, _⟩ := h
    rfl
  · obtain ⟨v, r, rfl, ⟨p, xs, rfl, hp, _⟩, q⟩ := h
    refine ⟨_, (pss_one (ps_ret (pe_cmpR op_eq (pe_ix ix_tup (pv 0) pe_int (fun _ _ => rfl)) pe_str (nomark _)))), ?_⟩
    refine ⟨_, rfl, p, _, _, _, rfl, rfl, hp, atI_nat (j := 0) rfl, rfl, ?_⟩
    show Q (.bl (decide (V.str r.w = V.str "meet"))) H
    rw [show decide (V.str r.w = V.str "meet") = decide (r.w = "meet") by simp]
    exact q
theorem ok_numsIn {f : Addr} {fd : FuncData} {k : Nat} (D : Df K mg "numbers_in" sNumbersIn ["thing", "kinds"] f fd) (B : Bi mg) : FnOk P0 w K mg base CX0 (k + 1) f fd ["thing", "kinds"] (spNumsIn K) := by
  refine D.F.ok scNumsIn (fun vs H Q E h => ?_) (fun cdv A outer s H vs Q E hr h => ?_)
  · obtain ⟨p, kt, wd, ps, kds, nss, rfl, _⟩ := h
    rfl
  · obtain ⟨p, kt, wd, ps, kds, nss, rfl, hp, hk, hN, hl, q⟩ := h
    refine ⟨_, (pss_cons (ps_set (i := 2) scNumsIn.nd rfl (.inl rfl) (pe_lst pa_nil))
      (pss_cons (ps_for PassesOwn.never rfl (RZ.pi_zipA (by rfl) B.zip (pa_cons (pv 1) (pa_cons (pe_slice sl_tup (pv 0) (po_some pe_int) po_none) pa_nil))) (pg_tup rfl (pgs_cons (pg_name (i := 3) scNumsIn.nd rfl (.inl rfl)) (pgs_cons (pg_name (i := 4) scNumsIn.nd rfl (.inl rfl)) pgs_nil))) (pss_cons (ps_if (pt_cmpR op_eq (pv 3) pe_str (nomark _)) (pss_one (ps_expr (pe_bm PySem.F.plainAttrs_list PySem.F.slot_list_append PySem.F.type_list_append mt_append (pv 2) (pa_cons (pv 4) pa_nil)))) pss_nil)
      (pss_one (ps_if (pt_cmpR op_eq (pv 3) pe_str (nomark _)) (pss_one (ps_expr (pe_bm PySem.F.plainAttrs_list PySem.F.slot_list_extend PySem.F.type_list_extend mt_extendT (pv 2) (pa_cons (pv 4) pa_nil)))) pss_nil))))
      (pss_one (ps_ret (pv 2))))), ?_⟩
    obtain ⟨l1, l2⟩ := hN.len
    refine ⟨Nat.zero_le _, fun S nS => ?_⟩
    have sS := new_same (o := .lst []) nS
    have eS : upd H S (.lst []) S = some (.lst []) := upd_same
    generalize upd H S (.lst []) = H0 at sS eS
    refine ⟨.ref kt, rfl, .ref p, rfl, 1, rfl, p, _, rfl, Same.tup sS hp, cut_not _ _, fun R nR => ?_⟩
    rw [cut_one]
    have sR := new_same (o := .tup ps) nR
    have eR : upd H0 R (.tup ps) R = some (.tup ps) := upd_same
    have s1 := sS.trans sR
    have eS1 := sR _ _ eS
    generalize upd H0 R (.tup ps) = H1 at sR eR s1 eS1
    refine ⟨kt, R, kds.map V.str, ps, rfl, .inr ⟨hk _, sqT eR, ?_⟩⟩
    refine for_it (walk_zt (xs := kds.map V.str) (ys := ps) (by rw [List.length_map]; exact l1.symm)) (fun i σ Hx => ∃ y3 y4 : Option V, σ = [some (.ref p), some (.ref kt), some (.ref S), y3, y4] ∧ Same H Hx ∧ Hx R = some (.tup ps) ∧ Hx S = some (.lst ((nss.take i).flatten.map iv))) ⟨none, none, rfl, s1, eR, eS1⟩ (fun i σ Hx _ hP => ?_) (fun i x σ Hx Hy hi hP hY => ?_) (fun σ Hx hP => ?_)
    · obtain ⟨_, _, _, _, eRx, _⟩ := hP
      exact ⟨hk _, sqT eRx⟩
    · obtain ⟨y3, y4, rfl, sx, eRx, eSx⟩ := hP
      obtain ⟨T, x1, x2, rfl, nT', rfl, e1, e2⟩ := hY
      have e2 : ps[i]? = some x2 := e2
      have e1 : (kds.map V.str)[i]? = some x1 := e1
      rw [List.getElem?_map] at e1
      obtain ⟨kd, hkd, rfl⟩ := Option.map_eq_some_iff.mp e1
      obtain ⟨ns, hns, hok⟩ := hN.at_ e2 hkd
      have sT := new_same (o := .tup [.str kd, x2]) nT'
      have sx2 := sx.trans sT
      have eR2 := sT _ _ eRx
      have eS2 := sT _ _ eSx
      have hfl : (nss.take (i + 1)).flatten = (nss.take i).flatten ++ ns := by
        rw [List.take_add_one, hns, List.flatten_append]
        simp
      have hle : ((nss.take i).flatten ++ ns).length ≤ 1000 := by
        rw [← hfl]
        refine Nat.le_trans ?_ hl
        have e : nss.flatten = (nss.take (i + 1)).flatten ++ (nss.drop (i + 1)).flatten := by rw [← List.flatten_append, List.take_append_drop]
        rw [e, List.length_append]
        omega
      rw [List.length_append] at hle
      refine ⟨T, _, rfl, sqT upd_same, rfl, _, _, rfl, _, _, rfl, rfl, ?_⟩
      generalize upd Hx T (.tup [.str kd, x2]) = Hz at sx2 eR2 eS2
      have hok2 := hok.same sx2
      have nRS : R ≠ S := fun z => by rw [z, eS2] at eR2; cases eR2
      rcases hok2 with ⟨rfl, n, rfl, rfl⟩ | ⟨rfl, qa, rfl, hqa⟩ | ⟨hn1, hn2, rfl⟩
      · refine ⟨_, rfl, rfl, _, rfl, ifP (decide_eq_true rfl) ?_⟩
        refine ⟨.ref S, rfl, .inl ⟨rfl, _, sqL eS2⟩, iv n, rfl, S, _, _, rfl, rfl, eS2, by rw [List.length_map]; exact szt (by omega), ?_⟩
        refine ⟨_, rfl, rfl, _, rfl, ifN (fun h => absurd (V.str.inj (of_decide_eq_true h)) (by decide)) ?_⟩
        exact ⟨_, _, rfl, Same.upd sx2 nS, by rw [upd_ne nRS]; exact eR2, by rw [upd_same, hfl, List.map_append]; rfl⟩
      · refine ⟨_, rfl, rfl, _, rfl, ifN (fun h => absurd (V.str.inj (of_decide_eq_true h)) (by decide)) ?_⟩
        refine ⟨_, rfl, rfl, _, rfl, ifP (decide_eq_true rfl) ?_⟩
        refine ⟨.ref S, rfl, .inl ⟨rfl, _, sqL eS2⟩, .ref qa, rfl, S, qa, _, _, rfl, rfl, eS2, hqa, by rw [List.length_map, List.length_map]; exact szl (by omega), ?_⟩
        exact ⟨_, _, rfl, Same.upd sx2 nS, by rw [upd_ne nRS]; exact eR2, by rw [upd_same, hfl, List.map_append]⟩
      · refine ⟨_, rfl, rfl, _, rfl, ifN (fun h => hn1 (V.str.inj (of_decide_eq_true h))) ?_⟩
        refine ⟨_, rfl, rfl, _, rfl, ifN (fun h => hn2 (V.str.inj (of_decide_eq_true h))) ?_⟩
        exact ⟨_, _, rfl, sx2, eR2, by rw [hfl, List.append_nil]; exact eS2⟩
    · obtain ⟨y3, y4, rfl, sx, eRx, eSx⟩ := hP
      rw [List.length_map, ← l2, List.take_length] at eSx
      exact ⟨_, rfl, q S Hx nS sx eSx⟩
theorem ok_rowsNamed {f fN dR dE : Addr} {fd fdN : FuncData} {k : Nat} (D : Df K mg "rows_named" sRowsNamed ["row"] f fd) (T : Tb K w mg dR dE) (DN : Df K mg "numbers_in" sNumbersIn ["thing", "kinds"] fN fdN) (GN : FnOk P0 w K mg base CX0 k fN fdN ["thing", "kinds"] (spNumsIn K)) : FnOk P0 w K mg base CX0 (k + 1) f fd ["row"] (spRowsNamed K) := by
  refine D.F.ok scRowP (fun vs H Q E h => ?_) (fun cdv A outer s H vs Q E hr h => ?_)
  · obtain ⟨v, r, rfl, _⟩ := h
    rfl
  · obtain ⟨v, r, rfl, hv, hl, q⟩ := h
    obtain ⟨p, ps, nss, rfl, hp, hN, he⟩ := row_nms hv
    refine ⟨_, (pss_one (ps_ret (pe_call GN hr (by rfl) DN.g DN.F.kp DN.b .nil pass0 (pa_cons (pv 0) (pa_cons (pe_ix ix_kdict (pe_glob (v := .ref dR) (by rfl) T.mgR rfl) (pe_ix ix_tup (pv 0) pe_int (fun _ _ => rfl)) (fun _ _ => rfl)) pa_nil))))), ?_⟩
    obtain ⟨g, hg, hgT⟩ := T.row r
    exact ⟨_, rfl, _, rfl, p, _, _, _, rfl, rfl, hp, atI_nat (j := 0) rfl, dR, r.w, .ref g, rfl, rfl, hg, p, g, r.w, ps, r.kdS, nss, rfl, hp, fun H' => by rw [← kdS_rw]; exact hgT H', hN, by rw [he]; exact hl, by rw [he]; exact q⟩
theorem ok_rowsTested {f fN dR dE : Addr} {fd fdN : FuncData} {k : Nat} (D : Df K mg "rows_tested" sRowsTested ["end"] f fd) (T : Tb K w mg dR dE) (DN : Df K mg "numbers_in" sNumbersIn ["thing", "kinds"] fN fdN) (GN : FnOk P0 w K mg base CX0 k fN fdN ["thing", "kinds"] (spNumsIn K)) : FnOk P0 w K mg base CX0 (k + 1) f fd ["end"] (spRowsTested K) := by
  refine D.F.ok scEndP (fun vs H Q E h => ?_) (fun cdv A outer s H vs Q E hr h => ?_)
  · obtain ⟨v, r, rfl, _⟩ := h
    rfl
  · obtain ⟨v, e, rfl, hv, q⟩ := h
    obtain ⟨p, ps, nss, rfl, hp, hN, he⟩ := en_nms hv
    refine ⟨_, (pss_one (ps_ret (pe_call GN hr (by rfl) DN.g DN.F.kp DN.b .nil pass0 (pa_cons (pv 0) (pa_cons (pe_ix ix_kdict (pe_glob (v := .ref dE) (by rfl) T.mgE rfl) (pe_ix ix_tup (pv 0) pe_int (fun _ _ => rfl)) (fun _ _ => rfl)) pa_nil))))), ?_⟩
    obtain ⟨g, hg, hgT⟩ := T.end_ e
    exact ⟨_, rfl, _, rfl, p, _, _, _, rfl, rfl, hp, atI_nat (j := 0) rfl, dE, e.word, .ref g, rfl, rfl, hg, p, g, e.word, ps, e.kdS, nss, rfl, hp, fun H' => by rw [← kdS_en]; exact hgT H', hN, by rw [he]; cases e <;> simp [En.nms], by rw [he]; exact q⟩
end
end Gn
set_option Elab.async false
set_option linter.all false
set_option maxRecDepth 100000
set_option maxHeartbeats 4000000
set_option pp.maxSteps 300
namespace Gn
open PySem PySem.Spec PyProof.Rows L2
abbrev sPInit : Stmt := inClass (topS 38) 0
abbrev sCanName : Stmt := inClass (topS 38) 1
abbrev sCanAll : Stmt := inClass (topS 38) 2
abbrev sCanMeet : Stmt := inClass (topS 38) 3
theorem tup_any {K : PySem.W.Frag} {H : Hp} {a b : Addr} {xs : List V} {o o' : HO} (h : SqT K H a xs) (e : H b = some o) (h1 : ∀ ys, o ≠ .tup ys) (h2 : ∀ u ys, o ≠ .frz u (.tup ys)) : SqT K (upd H b o') a xs := by
  rcases h with (h | ⟨u, h⟩) | h
  · exact .inl (.inl (by rw [upd_ne (fun z => by rw [z, e] at h; exact h1 _ (Option.some.inj h))]; exact h))
  · exact .inl (.inr ⟨u, by rw [upd_ne (fun z => by rw [z, e] at h; exact h2 _ _ (Option.some.inj h))]; exact h⟩)
  · exact .inr h
theorem lst_any {K : PySem.W.Frag} {H : Hp} {a b : Addr} {xs : List V} {o o' : HO} (h : SqL K H a xs) (e : H b = some o) (h1 : ∀ ys, o ≠ .lst ys) (h2 : ∀ u ys, o ≠ .frz u (.lst ys)) : SqL K (upd H b o') a xs := by
  rcases h with (h | ⟨u, h⟩) | h
  · exact .inl (.inl (by rw [upd_ne (fun z => by rw [z, e] at h; exact h1 _ (Option.some.inj h))]; exact h))
  · exact .inl (.inr ⟨u, by rw [upd_ne (fun z => by rw [z, e] at h; exact h2 _ _ (Option.some.inj h))]; exact h⟩)
  · exact .inr h
theorem nl_any {K : PySem.W.Frag} {H : Hp} {a b : Addr} {lds : List (List Nat)} {o o' : HO} (h : NL K H a lds) (e : H b = some o) (h1 : ∀ ys, o ≠ .lst ys) (h2 : ∀ u ys, o ≠ .frz u (.lst ys)) : NL K (upd H b o') a lds := by
  obtain ⟨qs, z1, z2⟩ := h
  exact ⟨qs, lst_any z1 e h1 h2, pd_mono z2 fun _ _ z => lst_any z e h1 h2⟩
/-! ### Places -/
structure PTxt (K : PySem.W.Frag) (mg : Str → Option Value) (C : Addr) : Prop where
  cl : L2.Cls K C
  nR : NoAttr K C "rows"
  nO : NoAttr K C "owners"
  nL : NoAttr K C "leads"
  nW : NoAttr K C "ways"
  mgC : mg "Places" = some (.ref C)
def pf (ra oa la wa : Addr) : List (Str × V) := [("rows", .ref ra), ("owners", .ref oa), ("leads", .ref la), ("ways", .ref wa)]
theorem pf_1 (ra : Addr) : putF "rows" (.ref ra) [] = ([("rows", .ref ra)] : List (Str × V)) := rfl
theorem pf_2 (ra oa : Addr) : putF "owners" (.ref oa) [("rows", .ref ra)] = ([("rows", .ref ra), ("owners", .ref oa)] : List (Str × V)) := rfl
theorem pf_3 (ra oa la : Addr) : putF "leads" (.ref la) [("rows", .ref ra), ("owners", .ref oa)] = ([("rows", .ref ra), ("owners", .ref oa), ("leads", .ref la)] : List (Str × V)) := rfl
theorem pf_4 (ra oa la wa : Addr) : putF "ways" (.ref wa) [("rows", .ref ra), ("owners", .ref oa), ("leads", .ref la)] = pf ra oa la wa := rfl
def PlAt (K : PySem.W.Frag) (C Cw : Addr) (H : Hp) (p : Addr) (pr : List Blk) : Prop := ∃ (dx ra oa la wa : Addr) (rs : List V), H p = some (.ins C dx (pf ra oa la wa)) ∧ H ra = some (.lst rs) ∧ Paired (RowAt K H) rs (rowsL pr) ∧
  H oa = some (.lst ((ownL pr pr.length).map iv)) ∧ NL K H la ((List.range pr.length).map (spec pr pr.length)) ∧ WaysAt Cw H wa pr.length (Ex (nmL pr))
theorem PlAt.same {K : PySem.W.Frag} {C Cw : Addr} {H H' : Hp} {p : Addr} {pr : List Blk} (h : PlAt K C Cw H p pr) (e : Same H H') : PlAt K C Cw H' p pr := by
  obtain ⟨dx, ra, oa, la, wa, rs, h1, h2, h3, h4, h5, h6⟩ := h
  exact ⟨dx, ra, oa, la, wa, rs, e _ _ h1, e _ _ h2, pd_mono h3 fun _ _ z => z.same e, e _ _ h4, h5.same e, h6.same e⟩
/-- a program that Places is asked of -/
structure PrP (pr : List Blk) : Prop where
  l1 : 1 ≤ pr.length
  l12 : pr.length ≤ 12
  rl : ∀ b ∈ pr, b.1.length ≤ 130
  nx : NxOk pr.length (nmL pr)
def spPInit (K : PySem.W.Frag) (C Cw : Addr) : Sp := fun vs H Q _ => ∃ (H0 : Hp) (p dx : Addr) (v : V) (pr : List Blk), vs = [.ref p, v] ∧ Same H0 H ∧ H0 p = none ∧ H p = some (.ins C dx []) ∧ ProgAt K H0 v pr ∧ PrP pr ∧ ∀ (H' : Hp), Same H0 H' → PlAt K C Cw H' p pr → Q .non H'
abbrev nPInit : List Str := ["self", "program"]
theorem scPInit : FnScope nPInit ["self", "program"] (defScope sPInit) := ⟨rfl, rfl, rfl, by decide +kernel, rfl, by decide +kernel, by decide +kernel⟩
/-- what a name must be -/
def CanN (pr : List Blk) (x b pl : Nat) : Prop := ∃ r, (rowsL pr)[x]? = some r ∧ r.worthy = true ∧ b < pr.length ∧ ((ownL pr pr.length).getD x 0 = b → x < pl) ∧ ((ownL pr pr.length).getD x 0 ≠ b → ¬ Rc (Ex (nmL pr)) ((ownL pr pr.length).getD x 0) b)
def spCanName (K : PySem.W.Frag) (C Cw : Addr) : Sp := fun vs H Q _ => ∃ (p : Addr) (x b pl : Nat) (pr : List Blk), vs = [.ref p, iv x, iv b, iv pl] ∧ PlAt K C Cw H p pr ∧ CanN pr x b pl ∧ Q (.bl true) H
abbrev nCanName : List Str := ["self", "name", "block", "place", "owner"]
theorem scCanName : FnScope nCanName ["self", "name", "block", "place"] (defScope sCanName) := ⟨rfl, rfl, rfl, by decide +kernel, rfl, by decide +kernel, by decide +kernel⟩
theorem own_len {pr : List Blk} : (ownL pr pr.length).length = (rowsL pr).length := by
  rw [ownL_len _ (Nat.le_refl _), List.take_length]
section
variable {P0 : Program} {w : World} {K : PySem.W.Frag} {mg : Str → Option Value} {base : Heap} {Ts : List Addr} {Dd : Addr}
theorem ok_pinit {f C Cw fR fO fL fI : Addr} {fd fdR fdO fdL fdI : FuncData} {k : Nat} (F : Fun K "__init__" "Places.__init__" sPInit f fd) (T : PTxt K mg C) (Tw : WTxt K mg Cw)
    (DR : Df K mg "rows_of" sRowsOf ["program"] fR fdR) (GR : FnOk P0 w K mg base CX0 (k + 1) fR fdR ["program"] (spRowsOf K)) (DO : Df K mg "owners_of" sOwners ["program"] fO fdO) (GO : FnOk P0 w K mg base CX0 (k + 1) fO fdO ["program"] (spOwners K))
    (DL : Df K mg "leads_of" sLeadsOf ["program"] fL fdL) (GL : FnOk P0 w K mg base CX0 (k + 1) fL fdL ["program"] (spLeadsOf K))
    (M : Mk K Cw fI) (bI : Binds K fdI ["self", "leads"] []) (GI : FnOk P0 w K mg base CX0 k fI fdI ["self", "leads"] (spWInit K Cw)) : FnOk P0 w K mg base CX0 (k + 1 + 1) f fd ["self", "program"] (spPInit K C Cw) := by
  refine F.ok scPInit (fun vs H Q E h => ?_) (fun cdv A outer s H vs Q E hr h => ?_)
  · obtain ⟨H0, p, dx, v, pr, rfl, _⟩ := h
    rfl
  · obtain ⟨H0, p, dx, v, pr, rfl, s0, p0, hp, hP, hB, q⟩ := h
    obtain ⟨b1, b12, brl, bnx⟩ := hB
    have hnm : ∀ b ∈ pr, NxE pr.length b.2.names := fun b hb => bnx.2.1 _ (List.mem_map.mpr ⟨b, hb, rfl⟩)
    have hn2 : ∀ b ∈ pr, b.2.names.length ≤ 2 := fun b hb => (hnm b hb).1
    refine ⟨_, (pss_cons (ps_fld (pv 0) (pe_call GR hr (by rfl) DR.g DR.F.kp DR.b .nil pass0 (pa_cons (pv 1) pa_nil)) rfl)
      (pss_cons (ps_fld (pv 0) (pe_call GO hr (by rfl) DO.g DO.F.kp DO.b .nil pass0 (pa_cons (pv 1) pa_nil)) rfl)
      (pss_cons (ps_fld (pv 0) (pe_call GL hr (by rfl) DL.g DL.F.kp DL.b .nil pass0 (pa_cons (pv 1) pa_nil)) rfl)
      (pss_one (ps_fld (pv 0) (pe_make M GI hr (by rfl) Tw.mgC bI .nil pass0 (pa_cons (pe_fld (pv 0) rfl) pa_nil)) rfl))))), ?_⟩
    refine ⟨v, rfl, v, pr, rfl, hP.same s0, b12, brl, fun ra H1 rs nra s1 era hrs => ?_⟩
    have n1 : p ≠ ra := ne_of_none hp nra
    refine ⟨_, rfl, p, C, dx, _, rfl, s1 _ _ hp, T.cl, T.nR, (by show 0 < 1000; decide), ?_⟩
    rw [pf_1]
    have s2 := Same.upd (o := .ins C dx [("rows", .ref ra)]) (s0.trans s1) p0
    have e2 : upd H1 p (.ins C dx [("rows", .ref ra)]) p = some (.ins C dx [("rows", .ref ra)]) := upd_same
    have f2 : upd H1 p (.ins C dx [("rows", .ref ra)]) ra = some (.lst rs) := by rw [upd_ne n1.symm]; exact era
    have g2 : Paired (RowAt K (upd H1 p (.ins C dx [("rows", .ref ra)]))) rs (rowsL pr) := pd_mono hrs fun _ _ z => row_tups z fun t => tup_any t (s1 _ _ hp) (fun _ z => by cases z) (fun _ _ z => by cases z)
    generalize upd H1 p (.ins C dx [("rows", .ref ra)]) = H2 at s2 e2 f2 g2
    refine ⟨v, rfl, v, pr, rfl, hP.same s2, b12, brl, fun oa H3 noa s3 eoa => ?_⟩
    have n2 : p ≠ oa := ne_of_none e2 noa
    have n3 : ra ≠ oa := ne_of_none f2 noa
    refine ⟨_, rfl, p, C, dx, _, rfl, s3 _ _ e2, T.cl, T.nO, (by show 1 < 1000; decide), ?_⟩
    rw [pf_2]
    have s4 := Same.upd (o := .ins C dx [("rows", .ref ra), ("owners", .ref oa)]) (s2.trans s3) p0
    have e4 : upd H3 p (.ins C dx [("rows", .ref ra), ("owners", .ref oa)]) p = some (.ins C dx [("rows", .ref ra), ("owners", .ref oa)]) := upd_same
    have f4 : upd H3 p (.ins C dx [("rows", .ref ra), ("owners", .ref oa)]) ra = some (.lst rs) := by rw [upd_ne n1.symm]; exact s3 _ _ f2
    have o4 : upd H3 p (.ins C dx [("rows", .ref ra), ("owners", .ref oa)]) oa = some (.lst ((ownL pr pr.length).map iv)) := by rw [upd_ne n2.symm]; exact eoa
    have g4 : Paired (RowAt K (upd H3 p (.ins C dx [("rows", .ref ra), ("owners", .ref oa)]))) rs (rowsL pr) := pd_mono g2 fun _ _ z => row_tups (z.same s3) fun t => tup_any t (s3 _ _ e2) (fun _ z => by cases z) (fun _ _ z => by cases z)
    generalize upd H3 p (.ins C dx [("rows", .ref ra), ("owners", .ref oa)]) = H4 at s4 e4 f4 o4 g4
    refine ⟨v, rfl, v, pr, rfl, hP.same s4, by omega, fun b hb y hy => ((hnm b hb).2.2 y hy).2, hn2, fun la qs H5 s5 hLL => ?_⟩
    have n4 : p ≠ la := fun z => by
      have := hLL.new la List.mem_cons_self
      rw [← z, e4] at this
      cases this
    refine ⟨_, rfl, p, C, dx, _, rfl, s5 _ _ e4, T.cl, T.nL, (by show 2 < 1000; decide), ?_⟩
    rw [pf_3]
    have s6 := Same.upd (o := .ins C dx [("rows", .ref ra), ("owners", .ref oa), ("leads", .ref la)]) (s4.trans s5) p0
    have e6 : upd H5 p (.ins C dx [("rows", .ref ra), ("owners", .ref oa), ("leads", .ref la)]) p = some (.ins C dx [("rows", .ref ra), ("owners", .ref oa), ("leads", .ref la)]) := upd_same
    have f6 : upd H5 p (.ins C dx [("rows", .ref ra), ("owners", .ref oa), ("leads", .ref la)]) ra = some (.lst rs) := by rw [upd_ne n1.symm]; exact s5 _ _ f4
    have o6 : upd H5 p (.ins C dx [("rows", .ref ra), ("owners", .ref oa), ("leads", .ref la)]) oa = some (.lst ((ownL pr pr.length).map iv)) := by rw [upd_ne n2.symm]; exact s5 _ _ o4
    have g6 : Paired (RowAt K (upd H5 p (.ins C dx [("rows", .ref ra), ("owners", .ref oa), ("leads", .ref la)]))) rs (rowsL pr) := pd_mono g4 fun _ _ z => row_tups (z.same s5) fun t => tup_any t (s5 _ _ e4) (fun _ z => by cases z) (fun _ _ z => by cases z)
    have l6 := nl_any (K := K) (o' := .ins C dx [("rows", .ref ra), ("owners", .ref oa), ("leads", .ref la)]) hLL.nl (s5 _ _ e4) (fun _ z => by cases z) (fun _ _ z => by cases z)
    generalize upd H5 p (.ins C dx [("rows", .ref ra), ("owners", .ref oa), ("leads", .ref la)]) = H6 at s6 e6 f6 o6 g6 l6
    refine ⟨_, rfl, p, C, dx, _, _, rfl, e6, T.cl, T.nL, rfl, ?_⟩
    intro x dx2 nx ndx nex
    have s7 : Same H6 (upd (upd H6 dx2 (.own x)) x (.ins Cw dx2 [])) := fun b o e => by
      rw [upd_ne (ne_of_none e nx), upd_ne (ne_of_none e ndx)]
      exact e
    have hsz : ∀ xs ∈ (List.range pr.length).map (spec pr pr.length), xs.length ≤ 1000 := fun xs hx => by
      obtain ⟨b, hb, rfl⟩ := List.mem_map.mp hx
      have := spec_len hn2 b pr.length
      omega
    refine ⟨H6, x, dx2, la, _, pr.length, _, rfl, s7, nx, upd_same, l6, gr_of b1 b12 rfl bnx, hsz, fun H8 s8 hW => ⟨rfl, ?_⟩⟩
    refine ⟨_, rfl, p, C, dx, _, rfl, s8 _ _ e6, T.cl, T.nW, (by show 3 < 1000; decide), ?_⟩
    rw [pf_4]
    have n5 : p ≠ x := ne_of_none e6 nx
    refine q _ (Same.upd (s6.trans s8) p0) ⟨dx, ra, oa, la, x, rs, upd_same, by rw [upd_ne n1.symm]; exact s8 _ _ f6, pd_mono g6 fun _ _ z => row_tups (z.same s8) fun t => tup_any t (s8 _ _ e6) (fun _ z => by cases z) (fun _ _ z => by cases z), by rw [upd_ne n2.symm]; exact s8 _ _ o6, nl_any (l6.same s8) (s8 _ _ e6) (fun _ z => by cases z) (fun _ _ z => by cases z), ?_⟩
    obtain ⟨dx3, ss, ff, sl, pl, nsl, w1, w2, w3, w4⟩ := hW
    have ni : p ≠ ss ∧ p ≠ ff := ⟨fun z => (by rw [← z, s8 _ _ e6] at w2; cases w2), fun z => (by rw [← z, s8 _ _ e6] at w3; cases w3)⟩
    exact ⟨dx3, ss, ff, sl, pl, nsl, by rw [upd_ne n5.symm]; exact w1, by rw [upd_ne ni.1.symm]; exact w2, by rw [upd_ne ni.2.symm]; exact w3, w4⟩
theorem ok_canName {f C Cw fW fL : Addr} {fd fdW fdL : FuncData} {k : Nat} (F : Fun K "can_name" "Places.can_name" sCanName f fd) (B : Bi mg) (T : PTxt K mg C) (Tw : WTxt K mg Cw)
    (DW : Df K mg "has_worth" sHasWorth ["row"] fW fdW) (GW : FnOk P0 w K mg base CX0 k fW fdW ["row"] (spHasWorth K))
    (mL : Meth K Cw "lies" fL) (bL : Binds K fdL ["self", "block", "other"] []) (GL : FnOk P0 w K mg base CX0 k fL fdL ["self", "block", "other"] (spLies Cw)) : FnOk P0 w K mg base CX0 (k + 1) f fd ["self", "name", "block", "place"] (spCanName K C Cw) := by
  refine F.ok scCanName (fun vs H Q E h => ?_) (fun cdv A outer s H vs Q E hr h => ?_)
  · obtain ⟨p, x, b, pl, pr, rfl, _⟩ := h
    rfl
  · obtain ⟨p, x, b, pl, pr, rfl, ⟨dx, ra, oa, la, wa, rs, h1, h2, h3, h4, h5, h6⟩, ⟨r, c1, c2, c3, c4, c5⟩, q⟩ := h
    refine ⟨_, (pss_cons (ps_if (pw_or (pt_not (pt_chain op_le op_lt pe_int (pv 1) (pe_callB call_len_seq (by rfl) B.len PySem.boot_len (pa_cons (pe_fld (pv 0) rfl) pa_nil)))) (pw_or1 (pt_not (pt_val (pe_call GW hr (by rfl) DW.g DW.F.kp DW.b .nil pass0 (pa_cons (pe_ix ix_list (pe_fld (pv 0) rfl) (pv 1) (fun _ _ => rfl)) pa_nil)))))).pt (pss_one (ps_ret pe_bl)) pss_nil)
      (pss_cons (ps_set (i := 4) scCanName.nd rfl (.inl rfl) (pe_ix ix_list (pe_fld (pv 0) rfl) (pv 1) (fun _ _ => rfl)))
      (pss_cons (ps_if (pt_cmpR op_eq (pv 4) (pv 2) (nomark _)) (pss_one (ps_ret (pe_cmpR op_lt (pv 1) (pv 3) (nomark _)))) pss_nil)
      (pss_one (ps_ret (pe_meth (pe_fld (pv 0) rfl) Tw.cl mL GL hr bL .nil pass0 (pa_cons (pv 4) (pa_cons (pv 2) pa_nil)))))))), ?_⟩
    have hrl : rs.length = (rowsL pr).length := pd_len h3
    have hx : x < rs.length := by rw [hrl]; exact (List.getElem?_eq_some_iff.mp c1).1
    obtain ⟨r', z1, z2⟩ := pd_at2 h3 (List.getElem?_eq_getElem hx)
    rw [c1] at z1
    cases z1
    have hol : x < (ownL pr pr.length).length := by rw [own_len, ← hrl]; exact hx
    have hoe : (ownL pr pr.length).getD x 0 = (ownL pr pr.length)[x] := by rw [List.getD_eq_getElem?_getD, List.getElem?_eq_getElem hol]; rfl
    have hom : (ownL pr pr.length).getD x 0 < pr.length := by rw [hoe]; exact ownL_lt (List.getElem_mem hol)
    have hoa : ((ownL pr pr.length).map iv)[x]? = some (iv ((ownL pr pr.length).getD x 0)) := by rw [List.getElem?_map, List.getElem?_eq_getElem hol, hoe]; rfl
    generalize (ownL pr pr.length).getD x 0 = o at c4 c5 hom hoa
    refine ⟨_, rfl, _, _, rfl, rfl, _, rfl, ifP (decide_eq_true (by omega)) ?_⟩
    refine ⟨_, rfl, p, C, dx, _, _, rfl, h1, T.cl, T.nR, rfl, ra, _, rfl, .inl (sqL h2), _, _, rfl, rfl, _, rfl, ?_⟩
    refine ifN (by rw [decide_eq_true (by omega)]; intro h; cases h) ?_
    refine ⟨_, rfl, p, C, dx, _, _, rfl, h1, T.cl, T.nR, rfl, iv x, rfl, ra, _, _, rs[x], rfl, rfl, sqL h2, atI_nat (List.getElem?_eq_getElem hx), rs[x], r, rfl, z2, _, rfl, ?_⟩
    refine ifN (by rw [c2]; intro h; cases h) ?_
    refine ⟨_, rfl, p, C, dx, _, _, rfl, h1, T.cl, T.nO, rfl, iv x, rfl, oa, _, _, iv o, rfl, rfl, sqL h4, atI_nat hoa, ?_⟩
    refine ⟨_, rfl, _, rfl, rfl, _, rfl, ite2 (fun e => ?_) (fun e => ?_)⟩
    · have e1 : o = b := by
        have := of_decide_eq_true e
        exact Int.ofNat.inj (V.int.inj this)
      have hlt := c4 e1
      refine ⟨_, rfl, _, rfl, _, _, rfl, rfl, ?_⟩
      show Q (.bl (decide ((x : Int) < (pl : Int)))) H
      rw [decide_eq_true (by omega)]
      exact q
    · have e1 : o ≠ b := fun z => e (by rw [z]; exact decide_eq_true rfl)
      obtain ⟨dx2, ss, ff, sl, plc, nsl, w1, w2⟩ := id h6
      refine ⟨_, rfl, p, C, dx, _, _, rfl, h1, T.cl, T.nW, rfl, wa, dx2, _, rfl, w1, wf_no _ _ (by decide +kernel) (by decide +kernel), iv o, rfl, iv b, rfl, wa, o, b, pr.length, _, rfl, h6, hom, c3, fun rr hrr => ?_⟩
      have : rr = true := hrr.mpr (c5 e1)
      rw [this]
      exact q
end
end Gn
set_option Elab.async false
set_option linter.all false
set_option maxRecDepth 100000
set_option maxHeartbeats 4000000
set_option pp.maxSteps 300
namespace Gn
open PySem PySem.Spec PyProof.Rows L2
/-! ### names, all of them; meets -/
def spCanAll (K : PySem.W.Frag) (C Cw : Addr) (Ts : List Addr) (D : Addr) : Sp := fun vs H Q _ => ∃ (p na : Addr) (ns : List Nat) (b pl : Nat) (pr : List Blk), vs = [.ref p, .ref na, iv b, iv pl] ∧ PlAt K C Cw (nt H) p pr ∧ SqL K (nt H) na (ns.map iv) ∧ (∀ x ∈ ns, CanN pr x b pl) ∧ Tbs Ts D H ∧
  ∀ H', LamX.ExtN H H' → Tbs Ts D H' → Q (.bl true) H'
abbrev nCanAll : List Str := ["self", "names", "block", "place", "name"]
theorem scCanAll : FnScope nCanAll ["self", "names", "block", "place"] (defScope sCanAll) := ⟨rfl, rfl, rfl, by decide +kernel, rfl, by decide +kernel, by decide +kernel⟩
def spCanMeet (K : PySem.W.Frag) (C Cw : Addr) (Ts : List Addr) (D : Addr) : Sp := fun vs H Q _ => ∃ (p na : Addr) (ns : List Nat) (b : Nat) (pr : List Blk), vs = [.ref p, .ref na, iv b] ∧ PlAt K C Cw (nt H) p pr ∧ SqL K (nt H) na (ns.map iv) ∧ b < pr.length ∧ 2 ≤ (spec pr pr.length b).length ∧ ns.length = (spec pr pr.length b).length ∧
  (∀ (i x l : Nat), ns[i]? = some x → (spec pr pr.length b)[i]? = some l → CanN pr x l (rowsL pr).length) ∧ Tbs Ts D H ∧ ∀ H', LamX.ExtN H H' → Tbs Ts D H' → Q (.bl true) H'
abbrev nCanMeet : List Str := ["self", "parts", "block", "leads", "behind", "part", "lead"]
theorem scCanMeet : FnScope nCanMeet ["self", "parts", "block"] (defScope sCanMeet) := ⟨rfl, rfl, rfl, by decide +kernel, rfl, by decide +kernel, by decide +kernel⟩
section
variable {P0 : Program} {w : World} {K : PySem.W.Frag} {mg : Str → Option Value} {base : Heap} {Ts : List Addr} {Dd : Addr}
theorem ok_canAll {f C Cw fN c P : Addr} {fd fdN : FuncData} {k : Nat} (F : FunC K "can_name_all" "Places.can_name_all" sCanAll f fd c) (B : Bi mg) (T : PTxt K mg C) (TB : GxR.TabB base mg c P) (hP : P ∈ Ts) (hTs : TsOk Ts Dd)
    (mN : Meth K C "can_name" fN) (bN : Binds K fdN ["self", "name", "block", "place"] []) (GN : FnOk P0 w K mg base CX0 k fN fdN ["self", "name", "block", "place"] (spCanName K C Cw)) :
    FnOk P0 w K mg base CX0 (k + 3 + 1) f fd ["self", "names", "block", "place"] (spCanAll K C Cw Ts Dd) := by
  refine F.ok scCanAll (fun vs H Q E h => ?_) (fun A outer s H vs Q E hr h => ?_)
  · obtain ⟨p, na, ns, b, pl, pr, rfl, _⟩ := h
    rfl
  · obtain ⟨p, na, ns, b, pl, pr, rfl, hPl, hna, hC, hT, q⟩ := h
    refine ⟨_, (pss_one (ps_ret (Gx.pe_allG (k := k) (own := [("name", 4)]) (g := gName 4) (tt := tYes) (te := _) rfl hr scCanAll.nd (by rfl) B.all (by decide +kernel) TB rfl
      (blkOk_by (own := [("name", 4)]) (N := nCanAll) (sc := defScope sCanAll) (by decide +kernel)) (by decide +kernel) (by rfl) (by rfl)
      (pi_list (pv 1)) (fun _ _ _ _ _ _ _ _ _ => pg_name (i := 4) scCanAll.nd rfl (.inl rfl)) (fun _ _ _ _ _ _ _ _ _ => pts_nil)
      (fun A' _ _ _ _ _ _ _ hr' => pe_meth (pv 0) T.cl mN GN hr' bN .nil pass0 (pa_cons (pv 4) (pa_cons (pv 2) (pa_cons (pv 3) pa_nil)))) (fun _ => rfl)))), ?_⟩
    refine ⟨_, rfl, na, rfl, ⟨_, ntL hna⟩, hT.g P hP, fun H2 hTb => ?_⟩
    obtain ⟨hT2, e2⟩ := hT.tabbed hP (hTs.ne hP) hTb
    have at_ : ∀ {H' : Hp}, LamX.ExtN H H' → SqL K H' na (ns.map iv) := fun e => ntL ((ext_nt e).seq hna)
    refine all_w ns.length (fun H' => LamX.ExtN H H' ∧ Tbs Ts Dd H') ⟨e2, hT2⟩ (fun i H3 hi hΦ => ?_) (fun H3 hΦ => ⟨⟨_, at_ hΦ.1, by rw [List.length_map]; exact Nat.le_refl _⟩, q _ hΦ.1 hΦ.2⟩)
    have h3 := at_ hΦ.1
    refine ⟨⟨_, _, h3, by rw [List.getElem?_map, List.getElem?_eq_getElem hi]; rfl⟩, fun x H' y => ?_⟩
    obtain ⟨e1, y⟩ := y
    subst e1
    have ex := y _ h3
    rw [List.getElem?_map, List.getElem?_eq_getElem hi] at ex
    cases ex
    have hPl3 : PlAt K C Cw H' p pr := (hPl.same (ext_nt hΦ.1)).same (nt_same _)
    obtain ⟨dx, ra, oa, la, wa, rs, g1, g2⟩ := id hPl3
    exact ⟨rfl, .ref p, rfl, p, dx, _, rfl, g1, rfl, iv ns[i], rfl, iv b, rfl, iv pl, rfl, p, ns[i], b, pl, pr, rfl, hPl3, hC _ (List.getElem_mem hi), true, rfl, fun e => (by cases e), fun _ => hΦ⟩
theorem ok_canMeet {f C Cw fN c P : Addr} {fd fdN : FuncData} {k : Nat} (F : FunC K "can_meet" "Places.can_meet" sCanMeet f fd c) (B : Bi mg) (T : PTxt K mg C) (TB : GxR.TabB base mg c P) (hP : P ∈ Ts) (hTs : TsOk Ts Dd)
    (mN : Meth K C "can_name" fN) (bN : Binds K fdN ["self", "name", "block", "place"] []) (GN : FnOk P0 w K mg base CX0 k fN fdN ["self", "name", "block", "place"] (spCanName K C Cw)) :
    FnOk P0 w K mg base CX0 (k + 3 + 1) f fd ["self", "parts", "block"] (spCanMeet K C Cw Ts Dd) := by
  refine F.ok scCanMeet (fun vs H Q E h => ?_) (fun A outer s H vs Q E hr h => ?_)
  · obtain ⟨p, na, ns, b, pr, rfl, _⟩ := h
    rfl
  · obtain ⟨p, na, ns, b, pr, rfl, hPl, hna, hb, hl2, hln, hC, hT, q⟩ := h
    refine ⟨_, (pss_cons (ps_set (i := 3) scCanMeet.nd rfl (.inl rfl) (pe_ix ix_list (pe_fld (pv 0) rfl) (pv 2) (fun _ _ => rfl)))
      (pss_cons (ps_if (pw_or (pt_cmpR op_lt (pe_callB call_len_seq (by rfl) B.len PySem.boot_len (pa_cons (pv 3) pa_nil)) pe_int (nomark _)) (pw_or1 (pt_cmpR op_ne (pe_callB call_len_seq (by rfl) B.len PySem.boot_len (pa_cons (pv 1) pa_nil)) (pe_callB call_len_seq (by rfl) B.len PySem.boot_len (pa_cons (pv 3) pa_nil)) (nomark _)))).pt (pss_one (ps_ret pe_bl)) pss_nil)
      (pss_cons (ps_set (i := 4) scCanMeet.nd rfl (.inr rfl) (pe_callB call_len_seq (by rfl) B.len PySem.boot_len (pa_cons (pe_fld (pv 0) rfl) pa_nil)))
      (pss_one (ps_ret (Gx.pe_allG (k := k) (own := [("part", 5), ("lead", 6)]) (g := gTup K 2 (gCons (gName 5) (gCons (gName 6) gNil))) (tt := tYes) (te := _) rfl hr scCanMeet.nd (by rfl) B.all (by decide +kernel) TB rfl
      (blkOk_by (own := [("part", 5), ("lead", 6)]) (N := nCanMeet) (sc := defScope sCanMeet) (by decide +kernel)) (by decide +kernel) (by rfl) (by rfl)
      (RZ.pi_zipA (by rfl) B.zip (pa_cons (pv 1) (pa_cons (pv 3) pa_nil))) (fun _ _ _ _ _ _ _ _ _ => (pg_tup rfl (pgs_cons (pg_name (i := 5) scCanMeet.nd rfl (.inl rfl)) (pgs_cons (pg_name (i := 6) scCanMeet.nd rfl (.inl rfl)) pgs_nil)))) (fun _ _ _ _ _ _ _ _ _ => pts_nil)
      (fun A' _ _ _ _ _ _ _ hr' => pe_meth (pv 0) T.cl mN GN hr' bN .nil pass0 (pa_cons (pv 5) (pa_cons (pv 6) (pa_cons (pv 4) pa_nil)))) (fun _ => rfl))))))), ?_⟩
    have hPl0 : PlAt K C Cw H p pr := hPl.same (nt_same _)
    obtain ⟨dx, ra, oa, la, wa, rs, g1, g2, g3, g4, ⟨qs, g5, g6⟩, g7⟩ := id hPl0
    obtain ⟨dx', ra', oa', la', wa', rs', g1', g2', g3', g4', ⟨qs', g5', g6'⟩, g7'⟩ := id hPl
    have hrl : rs.length = (rowsL pr).length := pd_len g3
    have hql : qs'.length = pr.length := by rw [pd_len g6', List.length_map, List.length_range]
    have e11 := (nt_same H) _ _ g1'
    rw [g1] at e11
    cases e11
    have hqb := List.getElem?_eq_getElem (show b < qs'.length by omega)
    obtain ⟨L, hL1, hL2⟩ := pd_at2 g6' hqb
    rw [List.getElem?_map, List.getElem?_range hb] at hL1
    cases hL1
    refine ⟨_, rfl, p, C, dx, _, _, rfl, g1, T.cl, T.nL, rfl, iv b, rfl, la, _, _, .ref qs'[b], rfl, rfl, ntL g5', atI_nat (by rw [List.getElem?_map, hqb]; rfl), ?_⟩
    refine ⟨_, rfl, qs'[b], _, rfl, .inl (ntL hL2), _, _, rfl, rfl, _, rfl, ifN (by rw [decide_eq_false (by rw [List.length_map]; omega)]; intro h; cases h) ?_⟩
    refine ⟨_, rfl, na, _, rfl, .inl (ntL hna), _, rfl, qs'[b], _, rfl, .inl (ntL hL2), rfl, _, rfl, ifN (by rw [decide_eq_true (by rw [List.length_map, List.length_map, hln])]; intro h; cases h) ?_⟩
    refine ⟨_, rfl, p, C, dx, _, _, rfl, g1, T.cl, T.nR, rfl, ra, _, rfl, .inl (sqL g2), ?_⟩
    refine ⟨_, rfl, _, rfl, na, qs'[b], ns.map iv, (spec pr pr.length b).map iv, rfl, .inl ⟨ntL hna, ntL hL2, hT.g P hP, fun H2 hTb => ?_⟩⟩
    obtain ⟨hT2, e2⟩ := hT.tabbed hP (hTs.ne hP) hTb
    have a1 : ∀ {H' : Hp}, LamX.ExtN H H' → SqL K H' na (ns.map iv) := fun e => ntL ((ext_nt e).seq hna)
    have a2 : ∀ {H' : Hp}, LamX.ExtN H H' → SqL K H' qs'[b] ((spec pr pr.length b).map iv) := fun e => ntL ((ext_nt e).seq hL2)
    have w := walk_zip (K := K) (a := na) (b := qs'[b]) (xs := ns.map iv) (ys := (spec pr pr.length b).map iv) (n := ns.length) (by rw [List.length_map, List.length_map]; omega)
    refine all_w ns.length (fun H' => LamX.ExtN H H' ∧ Tbs Ts Dd H') ⟨e2, hT2⟩ (fun i H3 hi hΦ => ⟨w.goes i H3 hi ⟨a1 hΦ.1, a2 hΦ.1⟩, fun x H' y => ?_⟩) (fun H3 hΦ => ⟨w.stops H3 ⟨a1 hΦ.1, a2 hΦ.1⟩, q _ hΦ.1 hΦ.2⟩)
    obtain ⟨Tt, x1, x2, rfl, nT, rfl, y1, y2⟩ := w.yields i H3 x H' hi ⟨a1 hΦ.1, a2 hΦ.1⟩ y
    have y1 : (ns.map iv)[i]? = some x1 := y1
    have y2 : ((spec pr pr.length b).map iv)[i]? = some x2 := y2
    rw [List.getElem?_map] at y1 y2
    obtain ⟨n1, z1, rfl⟩ := Option.map_eq_some_iff.mp y1
    obtain ⟨n2, z2, rfl⟩ := Option.map_eq_some_iff.mp y2
    have sT := new_same (o := .tup [iv n1, iv n2]) nT
    have e4 : LamX.ExtN H (upd H3 Tt (.tup [iv n1, iv n2])) := hΦ.1.trans (same_ext sT)
    have t4 := hΦ.2.same sT
    refine ⟨Tt, _, rfl, sqT upd_same, rfl, _, _, rfl, _, _, rfl, rfl, rfl, ?_⟩
    generalize upd H3 Tt (.tup [iv n1, iv n2]) = H4 at e4 t4
    have hPl4 : PlAt K C Cw H4 p pr := (hPl.same (ext_nt e4)).same (nt_same _)
    obtain ⟨dx4, ra4, oa4, la4, wa4, rs4, k1, k2⟩ := id hPl4
    exact ⟨.ref p, rfl, p, dx4, _, rfl, k1, rfl, iv n1, rfl, iv n2, rfl, iv rs.length, rfl, p, n1, n2, rs.length, pr, rfl, hPl4, by rw [hrl]; exact hC i n1 n2 z1 z2, true, rfl, fun e => (by cases e), fun _ => ⟨e4, t4⟩⟩
end
end Gn
set_option Elab.async false
set_option linter.all false
set_option maxRecDepth 100000
set_option maxHeartbeats 4000000
set_option pp.maxSteps 300
namespace Gn
open PySem PySem.Spec PyProof.Rows L2
abbrev sAhead : Stmt := topS 43
/-! ### meets ahead of the others -/
def AheadOk (rs : List Rw) : Prop := ∀ (i : Nat) (r r' : Rw), rs[i]? = some r → rs[i + 1]? = some r' → r'.w = "meet" → r.w = "meet"
def oth (rs : List Rw) : Nat → Bool
  | 0 => false
  | i + 1 => !decide ((rs.getD i (.take 0)).w = "meet")
def spAhead (K : PySem.W.Frag) : Sp := fun vs H Q _ => ∃ (ra : Addr) (us : List V) (rs : List Rw), vs = [.ref ra] ∧ SqL K H ra us ∧ Paired (RowAt K H) us rs ∧ AheadOk rs ∧ Q (.bl true) H
abbrev nAhead : List Str := ["rows", "others", "row"]
theorem scAhead : FnScope nAhead ["rows"] (defScope sAhead) := ⟨rfl, rfl, rfl, by decide +kernel, rfl, by decide +kernel, by decide +kernel⟩
section
variable {P0 : Program} {w : World} {K : PySem.W.Frag} {mg : Str → Option Value} {base : Heap}
theorem ok_ahead {f fM : Addr} {fd fdM : FuncData} {k : Nat} (D : Df K mg "are_meets_ahead" sAhead ["rows"] f fd) (DM : Df K mg "is_meet" sIsMeet ["row"] fM fdM) (GM : FnOk P0 w K mg base CX0 k fM fdM ["row"] (spIsMeetR K)) : FnOk P0 w K mg base CX0 (k + 1) f fd ["rows"] (spAhead K) := by
  refine D.F.ok scAhead (fun vs H Q E h => ?_) (fun cdv A outer s H vs Q E hr h => ?_)
  · obtain ⟨ra, us, rs, rfl, _⟩ := h
    rfl
  · obtain ⟨ra, us, rs, rfl, hra, hrs, hA, q⟩ := h
    refine ⟨_, (pss_cons (ps_set (i := 1) scAhead.nd rfl (.inl rfl) pe_bl)
      (pss_cons (ps_for PassesOwn.never rfl (pi_list (pv 0)) (pg_name (i := 2) scAhead.nd rfl (.inl rfl)) (pss_cons (ps_if (pw_and (pt_val (pe_call GM hr (by rfl) DM.g DM.F.kp DM.b .nil pass0 (pa_cons (pv 2) pa_nil))) (pw_and1 (pt_val (pv 1)))).pt (pss_one (ps_ret pe_bl)) pss_nil)
      (pss_one (ps_set (i := 1) scAhead.nd rfl (.inl rfl) (pe_not (pe_call GM hr (by rfl) DM.g DM.F.kp DM.b .nil pass0 (pa_cons (pv 2) pa_nil)))))))
      (pss_one (ps_ret pe_bl)))), ?_⟩
    refine ⟨_, rfl, ra, rfl, ⟨_, hra⟩, ?_⟩
    refine for_list (K := K) (a := ra) (xs := us) (fun i σ Hx => ∃ y2 : Option V, σ = [some (.ref ra), some (.bl (oth rs i)), y2] ∧ Hx = H) ⟨none, rfl, rfl⟩ (fun i σ Hx _ hP => ?_) (fun i x σ Hx hx hP => ?_) (fun σ Hx hP => ?_)
    · obtain ⟨_, _, rfl⟩ := hP
      exact hra
    · obtain ⟨y2, rfl, rfl⟩ := hP
      obtain ⟨r, hr1, hr2⟩ := pd_at2 hrs hx
      have hg : rs.getD i (.take 0) = r := gd hr1
      have ho1 : oth rs (i + 1) = !decide (r.w = "meet") := by
        show (!decide ((rs.getD i (.take 0)).w = "meet")) = _
        rw [hg]
      have fin : ∀ {σ2 : L2.St}, σ2 = [some (.ref ra), some (.bl (!decide (r.w = "meet"))), some x] → ∃ y2 : Option V, σ2 = [some (.ref ra), some (.bl (oth rs (i + 1))), y2] ∧ Hx = Hx := fun {σ2} e => ⟨some x, by rw [e, ho1], rfl⟩
      refine ⟨x, rfl, x, r, rfl, hr2, _, rfl, ?_⟩
      by_cases hm : r.w = "meet"
      · have ho : oth rs i = false := by
          cases i with
          | zero => rfl
          | succ i =>
            have hi : i < rs.length := by have := (List.getElem?_eq_some_iff.mp hr1).1; omega
            have e0 := List.getElem?_eq_getElem hi
            show (!decide ((rs.getD i (.take 0)).w = "meet")) = false
            rw [gd (d := Rw.take 0) e0, decide_eq_true (hA i _ _ e0 hr1 hm)]
            rfl
        refine ifP (decide_eq_true hm) ⟨_, rfl, _, rfl, ifN (by rw [ho]; intro h; cases h) ?_⟩
        exact ⟨x, rfl, x, r, rfl, hr2, _, rfl, fin rfl⟩
      · refine ifN (fun h => hm (of_decide_eq_true h)) (ifN (by intro h; cases h) ?_)
        exact ⟨x, rfl, x, r, rfl, hr2, _, rfl, fin rfl⟩
    · obtain ⟨y2, rfl, rfl⟩ := hP
      exact q
end
end Gn
set_option Elab.async false
set_option linter.all false
set_option maxRecDepth 100000
set_option maxHeartbeats 4000000
/-! ### enumerate(list, start=k) -/
namespace Gn
open PySem PySem.Spec PyProof.Rows L2
/-- the two objects of a counted walk at the i-th: the enumerate, the list's iterator -/
structure CntAt (e it a : Addr) (k : Int) (i : Nat) (h : Heap) : Prop where
  cnt : ∃ old, IsEnum h e it (k + (i : Int)) old
  pos : h.IsListIter it a i
theorem CntAt.real {e it a : Addr} {k : Int} {i : Nat} {h : Heap} (t : CntAt e it a k i h) : ∀ b ∈ [e, it], ∃ o, h.get? b = some o ∧ ∀ v, o.data ≠ .cell v := by
  obtain ⟨⟨old, he⟩, o, ho, _, d⟩ := t
  simp only [List.forall_mem_cons, List.not_mem_nil, false_imp_iff, implies_true, and_true]
  exact ⟨⟨_, he, nofun⟩, o, ho, by rw [d]; nofun⟩
theorem CntAt.stay {e it a : Addr} {k : Int} {i : Nat} {h h' : Heap} (t : CntAt e it a k i h) (kp : ∀ b ∈ [e, it], ∀ o, h.get? b = some o → h'.get? b = some o) : CntAt e it a k i h' :=
  ⟨let ⟨old, he⟩ := t.cnt; ⟨old, kp e (by simp) _ he⟩, t.pos.at (kp it (by simp))⟩
def IteS (K : PySem.W.Frag) (a : Addr) (k : Int) : It :=
  ⟨fun i H => ∃ (xs : List V) (x : V), SqL K H a xs ∧ xs[i]? = some x, fun i H v H' => ∃ T x, v = .ref T ∧ H T = none ∧ H' = upd H T (.tup [.int (k + (i : Nat)), x]) ∧ ∀ xs, SqL K H a xs → xs[i]? = some x, fun i H => ∃ xs : List V, SqL K H a xs ∧ xs.length = i⟩
theorem walk_enumS {K : PySem.W.Frag} {a : Addr} {k : Int} {xs : List V} : Walk (IteS K a k) xs.length (fun H => SqL K H a xs) (YPair (fun i => some (.int (k + (i : Nat)))) (fun i => xs[i]?)) where
  goes := fun i _ hi q => ⟨xs, _, q, List.getElem?_eq_getElem hi⟩
  stops := fun _ q => ⟨xs, q, rfl⟩
  yields := fun i H v H' _ q ⟨T, x, h1, h2, h3, h4⟩ => ⟨T, _, x, h1, h2, h3, rfl, h4 xs q⟩
theorem turn_enumS {P : Program} {w : World} {K : PySem.W.Frag} {elts : List Expr} {kk : Nat} {tpos : Pos} (a e it : Addr) (k : Int) (ne : e ≠ it) (na : a ≠ it) (nea : e ≠ a) :
    Turn P w K (.Tuple elts kk tpos) (IteS K a k) [e, it] e (CntAt e it a k) where
  mem := by simp
  obj := fun i h t => t.real
  keep := fun i h h' t => t.stay
  self := fun A i s Q E t => let ⟨_, he⟩ := t.cnt; wpAny_pyIter_enum he
  item := by
    rintro X rfl rfl rfl hc i pins s σ H E I hf t ⟨xs, x, hq, hx⟩
    obtain ⟨its, rv, lst, hz⟩ := I.list hq
    obtain ⟨u, hu, ru⟩ := rv.get hx
    obtain ⟨old, he⟩ := t.cnt
    have low : ∀ b ∈ [e, it], b < s.heap.objs.size := fun b hb => let ⟨_, q, _⟩ := t.real b hb; Heap.lt_size q
    have short : i < its.toArray.size := by have := (List.getElem?_eq_some_iff.mp hu).1; simpa using this
    apply wpAny_pyNext_enum_itemC (Draws.list (A := X.A.in1) (I.ok.hd hc) it a na its.toArray) he ⟨t.pos, lst.isList⟩ short ne (by simp [ne, nea])
    intro u' h' tk hu' out st made sz stays
    have eu : u' = u := by
      rw [List.getElem?_toArray, hu] at hu'
      exact (Option.some.inj hu').symm
    subst eu
    refine ⟨_, rfl, wpAny_letOwnedTupleGo_enum (s := { s with heap := h', toks := tk + 1 }) out fun h2 he2 same => ?_⟩
    have made2 := (same.2 _ (Nat.ne_of_gt (low e (by simp)))).trans made
    have I1 : Inv X pins σ (upd H s.heap.objs.size (.tup [.int (k + (i : Nat)), x])) { s with heap := h2, toks := tk + 1 } := by
      refine I.turnedNew (ch := [e, it]) (fun b ob off q => ?_) hf (Nat.le_refl _) ⟨show 2 ≤ sizeLine by decide, _, .cons ⟨tk, rfl⟩ (.cons ru .nil), _, made2, rfl, _, rfl⟩
      simp only [List.mem_cons, List.not_mem_nil, or_false, not_or] at off
      rw [same.2 b off.1]
      exact stays b ob off.1 off.2 q
    refine ⟨.ref s.heap.objs.size, _, I1, rfl, ⟨_, x, rfl, I.hok.fresh (Nat.le_refl _), rfl, fun ys hy => ?_⟩, ⟨⟨u', ?_⟩, st.1.at fun o q => (same.2 it ne.symm).trans q⟩, fun b hb => ?_⟩
    · rw [I.list_inj hy hq]; exact hx
    · rw [show k + ((i + 1 : Nat) : Int) = k + (i : Int) + 1 by omega]
      exact he2
    · rw [upd_ne (Nat.ne_of_lt (low b hb))]
      exact (hf b hb).1
  done := by
    rintro X rfl rfl rfl hc i pins s σ H E I hf t ⟨xs, hq, hx⟩
    obtain ⟨its, rv, lst, hz⟩ := I.list hq
    obtain ⟨old, he⟩ := t.cnt
    have over : its.toArray.size = i := by rw [List.size_toArray, ← rv.length]; exact hx
    have st : s.heap.IsListIter it a its.toArray.size ∧ s.heap.IsList a its.toArray := by rw [over]; exact ⟨t.pos, lst.isList⟩
    apply wpAny_pyNext_enum_endD (Draws.list (A := X.A.in1) (I.ok.hd hc) it a na its.toArray) he st
    intro h' ext
    refine ⟨rfl, I.turnedL (t' := s.toks) (ch := [e, it]) (fun b ob off q => ext b ob (fun z => off (by simp [z])) q) hf⟩
/-- the reading of enumerate(l, start=k) -/
def iEnumS (K : PySem.W.Frag) (ta tk : TA) : TI := fun σ H R => ta σ H fun vs H1 => tk σ H1 fun zs H2 => ∃ (a : Addr) (xs : List V) (k : Nat), vs = [.ref a] ∧ zs = [iv k] ∧ k ≤ 1000000 ∧ SqL K H2 a xs ∧ R (IteS K a (k : Int)) H2
theorem pi_enumS {X : Cx} {e ek : Expr} {ta tk : TA} {p pos kpos tpos : Pos} {elts : List Expr} {kk : Nat} (hg : Gl X "enumerate") (hm : X.mg "enumerate" = none) (ha : PA X [e] ta) (hk : PK X [⟨some (Str.ofString "start"), ek, kpos⟩] tk)
    (one : starEach [e] X.env = (false, eval e X.env) :: starEach [] X.env := by rfl)
    (plain : ((backTo pos (starEach [e] X.env)).any (·.1) || (backToKw pos (keywordEach [⟨some (Str.ofString "start"), ek, kpos⟩] X.env)).any (·.1.isNone)) = false := by rfl)
    (named : (backToKw pos (keywordEach [⟨some (Str.ofString "start"), ek, kpos⟩] X.env)).all (·.1.isSome) = true := by rfl)
    (names : (backToKw pos (keywordEach [⟨some (Str.ofString "start"), ek, kpos⟩] X.env)).filterMap (·.1) = [Str.ofString "start"] := by rfl) :
    PI X (.Tuple elts kk tpos) (.Call (.Name "enumerate" p) [e] [⟨some (Str.ofString "start"), ek, kpos⟩] pos) (iEnumS X.K ta tk) := by
  constructor
  intro pins s σ H R I h
  refine wpAny_Call_Name_kw (ld_blt I hg hm boot_enumerate ?_)
  refine PySem.W.callWith_of (P := fun _ => True) plain (fun h _ => ⟨.machine, .inr (.inl rfl), .now⟩) (evalArgs_kw2 named ?_ one)
  apply thn (ha.run pos pins s σ H _ I h)
  intro us s1 ⟨vs, H1, I1, r1, q1⟩
  apply thn (hk.run pos pins s1 σ H1 _ I1 q1)
  rintro ws s2 ⟨zs, H2, I2, r2, a, xs, k, rfl, rfl, small, hq, q⟩
  obtain ⟨u, rfl, ru⟩ := r1.one
  cases ru
  obtain ⟨u2, rfl, t, rfl⟩ := r2.one
  obtain ⟨its, _, lst, _⟩ := I2.list hq
  rw [names]
  refine ⟨trivial, enum_begins_start (begins_list a its.toArray) lst.isList (by omega) (by omega) fun h' he hit _ stays => wpAny_pyIter_enum he ?_⟩
  have la := lst.lt
  have up : ∀ b ∈ [s2.heap.objs.size + 1, s2.heap.objs.size], FpOk X pins H2 b := by
    simp only [List.forall_mem_cons, List.not_mem_nil, false_imp_iff, implies_true, and_true]
    exact ⟨I2.fpOk (Nat.le_add_right ..) (I2.hok.fresh (Nat.le_add_right ..)), I2.fpOk (Nat.le_refl _) (I2.hok.fresh (Nat.le_refl _))⟩
  exact ⟨s2.heap.objs.size + 1, _, _, _, H2, rfl, I2.kept (t' := s2.toks) stays, turn_enumS a (s2.heap.objs.size + 1) s2.heap.objs.size (k : Int) (Nat.succ_ne_self _) (Nat.ne_of_lt la) (Nat.ne_of_gt (Nat.lt_succ_of_lt la)),
    ⟨⟨.none, by simpa using he⟩, _, hit, rfl, rfl⟩, up, q⟩
end Gn
set_option Elab.async false
set_option linter.all false
set_option maxRecDepth 100000
set_option maxHeartbeats 4000000
set_option pp.maxSteps 300
namespace Gn
open PySem PySem.Spec PyProof.Rows L2
abbrev sRowsRight : Stmt := topS 44
/-! ### rows' names -/
def RowRight (pr : List Blk) (b j : Nat) (r : Rw) : Prop := r.nms.length ≤ 1000 ∧
  (r.w = "meet" → b < pr.length ∧ 2 ≤ (spec pr pr.length b).length ∧ r.nms.length = (spec pr pr.length b).length ∧ ∀ (i x l : Nat), r.nms[i]? = some x → (spec pr pr.length b)[i]? = some l → CanN pr x l (rowsL pr).length) ∧
  (r.w ≠ "meet" → ∀ x ∈ r.nms, CanN pr x b j)
def spRowsRight (K : PySem.W.Frag) (C Cw : Addr) (Ts : List Addr) (D : Addr) : Sp := fun vs H Q _ => ∃ (p ra : Addr) (us : List V) (rs : List Rw) (b bg : Nat) (pr : List Blk), vs = [.ref p, iv b, iv bg, .ref ra] ∧ PlAt K C Cw (nt H) p pr ∧ SqL K (nt H) ra us ∧ Paired (RowAt K (nt H)) us rs ∧ bg ≤ 100000 ∧
  (∀ (j : Nat) (r : Rw), rs[j]? = some r → RowRight pr b (bg + j) r) ∧ Tbs Ts D H ∧ ∀ H', LamX.ExtN H H' → Tbs Ts D H' → Q (.bl true) H'
abbrev nRR : List Str := ["places", "block", "begin", "rows", "place", "row", "names", "right"]
theorem scRR : FnScope nRR ["places", "block", "begin", "rows"] (defScope sRowsRight) := ⟨rfl, rfl, rfl, by decide +kernel, rfl, by decide +kernel, by decide +kernel⟩
section
variable {P0 : Program} {w : World} {K : PySem.W.Frag} {mg : Str → Option Value} {base : Heap} {Ts : List Addr} {Dd : Addr}
theorem ok_rowsRight {f C Cw fN fM fA fI : Addr} {fd fdN fdM fdA fdI : FuncData} {k : Nat} (D : Df K mg "are_rows_right" sRowsRight ["places", "block", "begin", "rows"] f fd) (B : Bi mg) (T : PTxt K mg C)
    (DN : Df K mg "rows_named" sRowsNamed ["row"] fN fdN) (GN : FnOk P0 w K mg base CX0 k fN fdN ["row"] (spRowsNamed K)) (DI : Df K mg "is_meet" sIsMeet ["row"] fI fdI) (GI : FnOk P0 w K mg base CX0 k fI fdI ["row"] (spIsMeetR K))
    (mM : Meth K C "can_meet" fM) (bM : Binds K fdM ["self", "parts", "block"] []) (GM : FnOk P0 w K mg base CX0 k fM fdM ["self", "parts", "block"] (spCanMeet K C Cw Ts Dd))
    (mA : Meth K C "can_name_all" fA) (bA : Binds K fdA ["self", "names", "block", "place"] []) (GA : FnOk P0 w K mg base CX0 k fA fdA ["self", "names", "block", "place"] (spCanAll K C Cw Ts Dd)) :
    FnOk P0 w K mg base CX0 (k + 1) f fd ["places", "block", "begin", "rows"] (spRowsRight K C Cw Ts Dd) := by
  refine D.F.ok scRR (fun vs H Q E h => ?_) (fun cdv A outer s H vs Q E hr h => ?_)
  · obtain ⟨p, ra, us, rs, b, bg, pr, rfl, _⟩ := h
    rfl
  · obtain ⟨p, ra, us, rs, b, bg, pr, rfl, hPl, hra, hrs, hbg, hR, hT, q⟩ := h
    refine ⟨_, (pss_cons (ps_for PassesOwn.never rfl (pi_enumS (by rfl) B.enumerate (pa_cons (pv 3) pa_nil) (pk_cons (pv 2) pk_nil)) (pg_tup rfl (pgs_cons (pg_name (i := 4) scRR.nd rfl (.inl rfl)) (pgs_cons (pg_name (i := 5) scRR.nd rfl (.inl rfl)) pgs_nil))) (pss_cons (ps_set (i := 6) scRR.nd rfl (.inl rfl) (pe_call GN hr (by rfl) DN.g DN.F.kp DN.b .nil pass0 (pa_cons (pv 5) pa_nil)))
      (pss_cons (ps_set (i := 7) scRR.nd rfl (.inl rfl) (pe_ifExp (pt_val (pe_call GI hr (by rfl) DI.g DI.F.kp DI.b .nil pass0 (pa_cons (pv 5) pa_nil))) (pe_meth (pv 0) T.cl mM GM hr bM .nil pass0 (pa_cons (pv 6) (pa_cons (pv 1) pa_nil))) (pe_meth (pv 0) T.cl mA GA hr bA .nil pass0 (pa_cons (pv 6) (pa_cons (pv 1) (pa_cons (pv 4) pa_nil))))))
      (pss_one (ps_if (pt_not (pt_val (pv 7))) (pss_one (ps_ret pe_bl)) pss_nil)))))
      (pss_one (ps_ret pe_bl))), ?_⟩
    refine ⟨_, rfl, _, rfl, ra, us, bg, rfl, rfl, by omega, ntL hra, ?_⟩
    have at_ : ∀ {H' : Hp}, LamX.ExtN H H' → SqL K H' ra us := fun e => ntL ((ext_nt e).seq hra)
    refine for_it (walk_enumS (K := K) (a := ra) (k := (bg : Int)) (xs := us)) (fun i σ Hx => ∃ y4 y5 y6 y7 : Option V, σ = [some (.ref p), some (iv b), some (iv bg), some (.ref ra), y4, y5, y6, y7] ∧ LamX.ExtN H Hx ∧ Tbs Ts Dd Hx) ⟨none, none, none, none, rfl, LamX.ExtN.refl _, hT⟩ (fun i σ Hx _ hP => ?_) (fun i x σ Hx Hy hi hP hY => ?_) (fun σ Hx hP => ?_)
    · obtain ⟨_, _, _, _, _, sx, _⟩ := hP
      exact at_ sx
    · obtain ⟨y4, y5, y6, y7, rfl, sx, tx⟩ := hP
      obtain ⟨Tt, x1, x2, rfl, nT, rfl, e1, e2⟩ := hY
      cases e1
      have e2 : us[i]? = some x2 := e2
      obtain ⟨r, hr1, hr2⟩ := pd_at2 hrs e2
      obtain ⟨r1, r2, r3⟩ := hR i r hr1
      have sT := new_same (o := .tup [.int ((bg : Int) + (i : Nat)), x2]) nT
      have sx2 := sx.trans (same_ext sT)
      have tx2 := tx.same sT
      refine ⟨Tt, _, rfl, sqT upd_same, rfl, _, _, rfl, _, _, rfl, rfl, ?_⟩
      generalize upd Hx Tt (.tup [.int ((bg : Int) + (i : Nat)), x2]) = Hz at sx2 tx2
      refine ⟨x2, rfl, x2, r, rfl, (hr2.same (ext_nt sx2)).same (nt_same _), r1, fun na H4 nna s4 ena => ?_⟩
      have sx4 := sx2.trans (same_ext s4)
      have tx4 := tx2.same s4
      have hPl4 : PlAt K C Cw (nt H4) p pr := hPl.same (ext_nt sx4)
      obtain ⟨dx4, ra4, oa4, la4, wa4, rs4, k1, k2⟩ := id (hPl4.same (nt_same _))
      have hna : SqL K (nt H4) na (r.nms.map iv) := sqL (nt_at ena (fun ps z => by cases z))
      refine ⟨x2, rfl, x2, r, rfl, (hr2.same (ext_nt sx4)).same (nt_same _), _, rfl, ?_⟩
      have tt : ¬ ((!true) = true) := by intro h; cases h
      by_cases hm : r.w = "meet"
      · obtain ⟨m1, m2, m3, m4⟩ := r2 hm
        refine ifP (decide_eq_true hm) ?_
        refine ⟨.ref p, rfl, p, dx4, _, rfl, k1, rfl, .ref na, rfl, iv b, rfl, p, na, r.nms, b, pr, rfl, hPl4, hna, m1, m2, m3, m4, tx4, fun H5 e5 t5 => ?_⟩
        exact ⟨_, rfl, true, rfl, ifN tt ⟨_, _, _, _, rfl, sx4.trans e5, t5⟩⟩
      · refine ifN (fun h => hm (of_decide_eq_true h)) ?_
        have ei : (.int ((bg : Int) + (i : Nat)) : V) = iv (bg + i) := by
          show V.int _ = V.int _
          congr 1
        refine ⟨.ref p, rfl, p, dx4, _, rfl, k1, rfl, .ref na, rfl, iv b, rfl, iv (bg + i), ?_, p, na, r.nms, b, bg + i, pr, rfl, hPl4, hna, r3 hm, tx4, fun H5 e5 t5 => ?_⟩
        · rw [← ei]; rfl
        · exact ⟨_, rfl, true, rfl, ifN tt ⟨_, _, _, _, rfl, sx4.trans e5, t5⟩⟩
    · obtain ⟨y4, y5, y6, y7, rfl, sx, tx⟩ := hP
      exact q _ sx tx
end
end Gn
set_option Elab.async false
set_option linter.all false
set_option maxRecDepth 100000
set_option maxHeartbeats 4000000
set_option pp.maxSteps 300
namespace Gn
open PySem PySem.Spec PyProof.Rows L2
abbrev sIsProg : Stmt := topS 39
abbrev sNamesRight : Stmt := topS 42
/-! ### are_names_right, is_program -/
def bgnP (pr : List Blk) (i : Nat) : Nat := (rowsL (pr.take i)).length
/-- a program of which each name is right -/
def NamesOk (pr : List Blk) : Prop := ∀ (i : Nat) (b : Blk), pr[i]? = some b → AheadOk b.1 ∧ (∀ (j : Nat) (r : Rw), b.1[j]? = some r → RowRight pr i (bgnP pr i + j) r) ∧ ∀ x ∈ b.2.nms, CanN pr x i (bgnP pr (i + 1))
def spNamesRight (K : PySem.W.Frag) (Ts : List Addr) (D : Addr) : Sp := fun vs H Q _ => ∃ (v : V) (pr : List Blk), vs = [v] ∧ ProgAt K (nt H) v pr ∧ PrP pr ∧ NamesOk pr ∧ Tbs Ts D H ∧ ∀ H', LamX.ExtN H H' → Tbs Ts D H' → Q (.bl true) H'
abbrev nNR : List Str := ["program", "places", "begin", "block", "rows", "end"]
theorem scNR : FnScope nNR ["program"] (defScope sNamesRight) := ⟨rfl, rfl, rfl, by decide +kernel, rfl, by decide +kernel, by decide +kernel⟩
def spIsProg (K : PySem.W.Frag) (Ts : List Addr) (D : Addr) : Sp := fun vs H Q _ => ∃ (v : V) (pr : List Blk), vs = [v] ∧ ProgAt K (nt H) v pr ∧ PrP pr ∧ NamesOk pr ∧ (∀ b ∈ pr, ∀ r ∈ b.1, RwA (fun _ => True) r) ∧ Tbs Ts D H ∧ ∀ H', LamX.ExtN H H' → Tbs Ts D H' → Q (.bl true) H'
abbrev nIP : List Str := ["thing"]
theorem scIP : FnScope nIP ["thing"] (defScope sIsProg) := ⟨rfl, rfl, rfl, by decide +kernel, rfl, by decide +kernel, by decide +kernel⟩
theorem ntT' {K : PySem.W.Frag} {H : Hp} {a : Addr} {xs : List V} (h : SqT K H a xs) : SqT K (nt H) a xs := by
  rcases h with (h | ⟨u, h⟩) | h
  · exact .inl (.inl (nt_at h (fun ps z => by cases z)))
  · exact .inl (.inr ⟨u, nt_at h (fun ps z => by cases z)⟩)
  · exact .inr h
theorem ntL' {K : PySem.W.Frag} {H : Hp} {a : Addr} {xs : List V} (h : SqL K H a xs) : SqL K (nt H) a xs := by
  rcases h with (h | ⟨u, h⟩) | h
  · exact .inl (.inl (nt_at h (fun ps z => by cases z)))
  · exact .inl (.inr ⟨u, nt_at h (fun ps z => by cases z)⟩)
  · exact .inr h
theorem PlAt.nt {K : PySem.W.Frag} {C Cw : Addr} {H : Hp} {p : Addr} {pr : List Blk} (h : PlAt K C Cw H p pr) : PlAt K C Cw (Gn.nt H) p pr := by
  obtain ⟨dx, ra, oa, la, wa, rs, h1, h2, h3, h4, ⟨qs, h5, h5'⟩, dx2, ss, ff, sl, pl, nsl, w1, w2, w3, w4⟩ := h
  have n : ∀ {a o}, H a = some o → (∀ ps, o ≠ .tbl ps) → Gn.nt H a = some o := fun a b => nt_at a b
  exact ⟨dx, ra, oa, la, wa, rs, n h1 (fun ps z => by cases z), n h2 (fun ps z => by cases z), pd_mono h3 fun _ _ z => row_tups z fun t => ntT' t, n h4 (fun ps z => by cases z), ⟨qs, ntL' h5, pd_mono h5' fun _ _ z => ntL' z⟩, dx2, ss, ff, sl, pl, nsl, n w1 (fun ps z => by cases z), n w2 (fun ps z => by cases z), n w3 (fun ps z => by cases z), w4⟩
section
variable {P0 : Program} {w : World} {K : PySem.W.Frag} {mg : Str → Option Value} {base : Heap} {Ts : List Addr} {Dd : Addr}
theorem ok_namesRight {f C Cw fI fH fR fA fT : Addr} {fd fdI fdH fdR fdA fdT : FuncData} {k : Nat} (D : Df K mg "are_names_right" sNamesRight ["program"] f fd) (B : Bi mg) (T : PTxt K mg C)
    (M : Mk K C fI) (bI : Binds K fdI ["self", "program"] []) (GI : FnOk P0 w K mg base CX0 k fI fdI ["self", "program"] (spPInit K C Cw))
    (DH : Df K mg "are_meets_ahead" sAhead ["rows"] fH fdH) (GH : FnOk P0 w K mg base CX0 (k + 1) fH fdH ["rows"] (spAhead K))
    (DR : Df K mg "are_rows_right" sRowsRight ["places", "block", "begin", "rows"] fR fdR) (GR : FnOk P0 w K mg base CX0 (k + 1) fR fdR ["places", "block", "begin", "rows"] (spRowsRight K C Cw Ts Dd))
    (mA : Meth K C "can_name_all" fA) (bA : Binds K fdA ["self", "names", "block", "place"] []) (GA : FnOk P0 w K mg base CX0 (k + 1) fA fdA ["self", "names", "block", "place"] (spCanAll K C Cw Ts Dd))
    (DT : Df K mg "rows_tested" sRowsTested ["end"] fT fdT) (GT : FnOk P0 w K mg base CX0 (k + 1) fT fdT ["end"] (spRowsTested K)) : FnOk P0 w K mg base CX0 (k + 1 + 1) f fd ["program"] (spNamesRight K Ts Dd) := by
  refine D.F.ok scNR (fun vs H Q E h => ?_) (fun cdv A outer s H vs Q E hr h => ?_)
  · obtain ⟨v, pr, rfl, _⟩ := h
    rfl
  · obtain ⟨v, pr, rfl, hPg, hB, hN, hT, q⟩ := h
    refine ⟨_, (pss_cons (ps_set (i := 1) scNR.nd rfl (.inl rfl) (pe_make M GI hr (by rfl) T.mgC bI .nil pass0 (pa_cons (pv 0) pa_nil)))
      (pss_cons (ps_set (i := 2) scNR.nd rfl (.inl rfl) pe_int)
      (pss_cons (ps_for PassesOwn.never rfl (pi_enum (by rfl) B.enumerate (pa_cons (pv 0) pa_nil)) (pg_tup rfl (pgs_cons (pg_name (i := 3) scNR.nd rfl (.inl rfl)) (pgs_cons (pg_tup rfl (pgs_cons (pg_name (i := 4) scNR.nd rfl (.inl rfl)) (pgs_cons (pg_name (i := 5) scNR.nd rfl (.inl rfl)) pgs_nil))) pgs_nil))) (pss_cons (ps_if (pw_or (pt_not (pt_val (pe_call GH hr (by rfl) DH.g DH.F.kp DH.b .nil pass0 (pa_cons (pv 4) pa_nil)))) (pw_or1 (pt_not (pt_val (pe_call GR hr (by rfl) DR.g DR.F.kp DR.b .nil pass0 (pa_cons (pv 1) (pa_cons (pv 3) (pa_cons (pv 2) (pa_cons (pv 4) pa_nil))))))))).pt (pss_one (ps_ret pe_bl)) pss_nil)
      (pss_cons (ps_aug (i := 2) scNR.nd rfl (.inl rfl) (pe_callB call_len_seq (by rfl) B.len PySem.boot_len (pa_cons (pv 4) pa_nil)) ip_add)
      (pss_one (ps_if (pt_not (pt_val (pe_meth (pv 1) T.cl mA GA hr bA .nil pass0 (pa_cons (pe_call GT hr (by rfl) DT.g DT.F.kp DT.b .nil pass0 (pa_cons (pv 5) pa_nil)) (pa_cons (pv 3) (pa_cons (pv 2) pa_nil)))))) (pss_one (ps_ret pe_bl)) pss_nil)))))
      (pss_one (ps_ret pe_bl))))), ?_⟩
    have hPg0 := hPg
    obtain ⟨a, bs, rfl, ha, hbs⟩ := hPg0
    refine ⟨_, rfl, ?_⟩
    intro x dx nx ndx nex
    have s7 : Same H (upd (upd H dx (.own x)) x (.ins C dx [])) := fun b o e => by
      rw [upd_ne (ne_of_none e nx), upd_ne (ne_of_none e ndx)]
      exact e
    refine ⟨H, x, dx, .ref a, pr, rfl, s7, nx, upd_same, hPg.same (nt_same _), hB, fun H1 s1 hPl => ⟨rfl, ?_⟩⟩
    have hPl1 : PlAt K C Cw (nt H1) x pr := hPl.nt
    have hT1 := hT.same s1
    have e1 : LamX.ExtN H H1 := same_ext s1
    have at_ : ∀ {H' : Hp}, LamX.ExtN H H' → SqL K H' a bs := fun e => ntL ((ext_nt e).seq ha)
    have hbl : bs.length = pr.length := pd_len hbs
    refine ⟨.ref a, rfl, a, bs, rfl, at_ e1, ?_⟩
    refine for_it (walk_enum (K := K) (a := a) (xs := bs)) (fun i σ Hx => ∃ y3 y4 y5 : Option V, σ = [some (.ref a), some (.ref x), some (iv (bgnP pr i)), y3, y4, y5] ∧ LamX.ExtN H1 Hx ∧ Tbs Ts Dd Hx) ⟨none, none, none, rfl, LamX.ExtN.refl _, hT1⟩ (fun i σ Hx _ hP => ?_) (fun i xv σ Hx Hy hi hP hY => ?_) (fun σ Hx hP => ?_)
    · obtain ⟨_, _, _, _, sx, _⟩ := hP
      exact at_ (e1.trans sx)
    · obtain ⟨y3, y4, y5, rfl, sx, tx⟩ := hP
      obtain ⟨Tt, x1, x2, rfl, nT, rfl, e1', e2⟩ := hY
      cases e1'
      have e2 : bs[i]? = some x2 := e2
      obtain ⟨b, hb1, pb, ra, ea, us, rfl, g1, g2, g3, g4⟩ := pd_at2 hbs e2
      obtain ⟨n1, n2, n3⟩ := hN i b hb1
      have sT := new_same (o := .tup [.int (i : Nat), .ref pb]) nT
      have sx2 := sx.trans (same_ext sT)
      have tx2 := tx.same sT
      have tt : ¬ ((!true) = true) := by intro h; cases h
      refine ⟨Tt, _, rfl, sqT upd_same, rfl, _, _, rfl, _, _, rfl, pb, _, rfl, ntT (Same.tup (ext_nt (e1.trans sx2)) g1), rfl, _, _, rfl, _, _, rfl, rfl, rfl, ?_⟩
      generalize upd Hx Tt (.tup [.int (i : Nat), .ref pb]) = Hz at sx2 tx2
      have eZ := e1.trans sx2
      have hra : ∀ {H' : Hp}, LamX.ExtN H H' → nt H' ra = some (.lst us) := fun e => ext_nt e _ _ g2
      have hul : us.length = b.1.length := pd_len g3
      have hbm := List.mem_of_getElem? hb1
      have hil : i < pr.length := (List.getElem?_eq_some_iff.mp hb1).1
      have hbz : bgnP pr i ≤ 100000 := by
        have h1 := take_rows_le (i := i) hB.rl (Nat.le_of_lt hil)
        have h2 := hB.l12
        show (rowsL (pr.take i)).length ≤ 100000
        have : pr.length * 130 ≤ 12 * 130 := Nat.mul_le_mul_right _ h2
        omega
      have eB : (V.int ((bgnP pr i : Int) + (us.length : Int))) = iv (bgnP pr (i + 1)) := by
        show V.int _ = V.int _
        congr 1
        have : bgnP pr (i + 1) = bgnP pr i + us.length := by
          unfold bgnP
          rw [rows_take hb1, List.length_append, hul]
        omega
      refine ⟨_, rfl, ra, us, b.1, rfl, sqL ((nt_same _) _ _ (hra eZ)), pd_mono g3 fun _ _ z => (z.same (ext_nt eZ)).same (nt_same _), n1, _, rfl, ifN tt ?_⟩
      refine ⟨_, rfl, _, rfl, _, rfl, _, rfl, x, ra, us, b.1, i, bgnP pr i, pr, rfl, hPl1.same (ext_nt sx2), sqL (hra eZ), pd_mono g3 fun _ _ z => z.same (ext_nt eZ), hbz, n2, tx2, fun H4 e4 t4 => ⟨_, rfl, ifN tt ?_⟩⟩
      have eY := eZ.trans e4
      refine ⟨_, rfl, _, rfl, ra, _, rfl, .inl (sqL ((nt_same _) _ _ (hra eY))), _, _, rfl, rfl, ?_⟩
      obtain ⟨dx4, ra4, oa4, la4, wa4, rs4, k1, k2⟩ := id ((hPl1.same (ext_nt (sx2.trans e4))).same (nt_same _))
      refine ⟨_, rfl, x, dx4, _, rfl, k1, rfl, ea, rfl, ea, b.2, rfl, (g4.same (ext_nt eY)).same (nt_same _), fun na H5 nna s5 ena => ?_⟩
      have e5 := (sx2.trans e4).trans (same_ext s5)
      refine ⟨_, rfl, _, rfl, x, na, b.2.nms, i, bgnP pr (i + 1), pr, ?_, hPl1.same (ext_nt e5), sqL (nt_at ena (fun ps z => by cases z)), n3, t4.same s5, fun H6 e6 t6 => ⟨true, rfl, ifN tt ⟨some (iv i), some (.ref ra), some ea, by rw [← eB]; rfl, e5.trans e6, t6⟩⟩⟩
      rw [← eB]
      rfl
    · obtain ⟨y3, y4, y5, rfl, sx, tx⟩ := hP
      exact q _ (e1.trans sx) tx
theorem ok_isProg {f fW fL fN cW cL : Addr} {fd fdW fdL fdN : FuncData} {k : Nat} (D : Df K mg "is_program" sIsProg ["thing"] f fd) (DW : DfC K mg "is_written" sIsWritten ["thing"] fW fdW cW) (GW : FnOk P0 w K mg base CX0 k fW fdW ["thing"] (spIsWritten K Ts Dd))
    (DL : DfC K mg "is_led" sIsLed ["program"] fL fdL cL) (GL : FnOk P0 w K mg base CX0 k fL fdL ["program"] (spLed K Ts Dd)) (DN : Df K mg "are_names_right" sNamesRight ["program"] fN fdN) (GN : FnOk P0 w K mg base CX0 k fN fdN ["program"] (spNamesRight K Ts Dd)) :
    FnOk P0 w K mg base CX0 (k + 1) f fd ["thing"] (spIsProg K Ts Dd) := by
  refine D.F.ok scIP (fun vs H Q E h => ?_) (fun cdv A outer s H vs Q E hr h => ?_)
  · obtain ⟨v, pr, rfl, _⟩ := h
    rfl
  · obtain ⟨v, pr, rfl, hPg, hB, hN, hA, hT, q⟩ := h
    refine ⟨_, (pss_one (ps_ret (pe_and (pe_call GW hr (by rfl) DW.g DW.F.kp DW.b .nil pass0 (pa_cons (pv 0) pa_nil)) (pe_and (pe_call GL hr (by rfl) DL.g DL.F.kp DL.b .nil pass0 (pa_cons (pv 0) pa_nil)) (pe_one (pe_call GN hr (by rfl) DN.g DN.F.kp DN.b .nil pass0 (pa_cons (pv 0) pa_nil))))))), ?_⟩
    have hne : pr ≠ [] := fun z => by have := hB.l1; rw [z] at this; exact absurd this (by decide)
    refine ⟨v, rfl, v, pr, rfl, hPg, hne, hA, hT, fun H1 e1 t1 => ⟨_, rfl, ifP rfl ?_⟩⟩
    refine ⟨v, rfl, v, pr, rfl, hPg.same (ext_nt e1), hB.l1, hB.l12, hB.nx, t1, fun H2 e2 t2 => ⟨_, rfl, ifP rfl ?_⟩⟩
    exact ⟨v, rfl, v, pr, rfl, hPg.same (ext_nt (e1.trans e2)), hB, hN, t2, fun H3 e3 t3 => q _ ((e1.trans e2).trans e3) t3⟩
end
end Gn
set_option Elab.async false
set_option linter.all false
set_option maxRecDepth 100000
set_option maxHeartbeats 4000000
namespace Gn
open PySem PySem.Spec PyProof.Rows L2
/-! ### what stands is what is asked: the shapes -/
theorem nx_okB : (NX.all fun nx => (nx.all fun xs => decide (xs.length ≤ 2) && decide (xs.Nodup) && xs.all fun y => decide (1 ≤ y) && decide (y < nx.length)) &&
    (List.range nx.length).all fun b => (b == 0) || (List.range b).any fun j => (nx.getD j []).contains b) = true := by decide +kernel
theorem nx_ok {nx : List (List Nat)} (h : nx ∈ NX) : NxOk nx.length nx := by
  have k := List.all_eq_true.mp nx_okB nx h
  rw [Bool.and_eq_true] at k
  refine ⟨rfl, fun xs hx => ?_, fun b h1 hb => ?_⟩
  · have k1 := List.all_eq_true.mp k.1 xs hx
    rw [Bool.and_eq_true, Bool.and_eq_true] at k1
    refine ⟨of_decide_eq_true k1.1.1, of_decide_eq_true k1.1.2, fun y hy => ?_⟩
    have k2 := List.all_eq_true.mp k1.2 y hy
    rw [Bool.and_eq_true] at k2
    exact ⟨of_decide_eq_true k2.1, of_decide_eq_true k2.2⟩
  · have k1 := List.all_eq_true.mp k.2 b (List.mem_range.mpr hb)
    rw [Bool.or_eq_true] at k1
    rcases k1 with z | z
    · have : b = 0 := by simpa using z
      omega
    · obtain ⟨j, hj, hc⟩ := List.any_eq_true.mp z
      have hjb := List.mem_range.mp hj
      refine ⟨j, nx.getD j [], hjb, ?_, by simpa using hc⟩
      rw [List.getD_eq_getElem?_getD, List.getElem?_eq_getElem (show j < nx.length by omega)]
      rfl
def specN (nx : List (List Nat)) (i n : Nat) : List Nat := (List.range i).flatMap fun j => List.replicate ((nx.getD j []).count n) j
theorem spec_nx (pr : List Blk) (i n : Nat) : spec pr i n = specN (nmL pr) i n := by
  unfold spec specN
  congr 1
  funext j
  congr 2
  rw [List.getD_eq_getElem?_getD, List.getD_eq_getElem?_getD, List.getElem?_map]
  cases pr[j]? <;> rfl
theorem specN_leads : ∀ nx ∈ NX, ∀ b, b < 7 → specN nx nx.length b = leadsF nx b := by decide +kernel
/-! ### the blocks of a right program -/
theorem en_names {own : List Nat} {Pn : Nat → Prop} {e : En} (h : EnOf own Pn e) : e.names = own := by
  rcases h with ⟨h1, rfl⟩ | ⟨x, h1, rfl⟩ | ⟨x, y, r, h1, _, rfl⟩ <;> rw [h1] <;> rfl
theorem right_names {pr : List Blk} {nx : List (List Nat)} {rows : List Rw} {blocks : List Nat} {tl : List Rw} (hl : pr.length = nx.length)
    (h : ∀ j, j < nx.length → ∃ e, pr[j]? = some (seg rows blocks j ++ (if j + 1 = nx.length then tl else []), e) ∧ EnOf (nx.getD j []) (fun r => r ∈ standL nx blocks rows j) e) : nmL pr = nx := by
  refine List.ext_getElem? fun j => ?_
  rw [List.getElem?_map]
  by_cases hj : j < nx.length
  · obtain ⟨e, h1, h2⟩ := h j hj
    rw [h1, List.getElem?_eq_getElem hj]
    show some e.names = _
    rw [en_names h2, List.getD_eq_getElem?_getD, List.getElem?_eq_getElem hj]
    rfl
  · rw [List.getElem?_eq_none (by omega), List.getElem?_eq_none (by omega)]
    rfl
theorem right_take {pr : List Blk} {nx : List (List Nat)} {rows : List Rw} {blocks : List Nat} {tl : List Rw} (hl : pr.length = nx.length)
    (h : ∀ j, j < nx.length → ∃ e, pr[j]? = some (seg rows blocks j ++ (if j + 1 = nx.length then tl else []), e) ∧ EnOf (nx.getD j []) (fun r => r ∈ standL nx blocks rows j) e) : ∀ i, i ≤ nx.length → rowsL (pr.take i) = rows.take (cntB blocks i) ++ (if i = nx.length ∧ i ≠ 0 then tl else [])
  | 0, _ => by
    rw [cnt_zero]
    simp [rowsL]
  | i + 1, hi => by
    obtain ⟨e, h1, h2⟩ := h i (by omega)
    rw [rows_take h1, right_take hl h i (by omega), seg_take, if_neg (show ¬ (i = nx.length ∧ i ≠ 0) by omega), List.append_nil]
    show rows.take (cntB blocks i) ++ (seg rows blocks i ++ (if i + 1 = nx.length then tl else [])) = _
    rw [← List.append_assoc]
    by_cases hc : i + 1 = nx.length
    · rw [if_pos hc, if_pos ⟨hc, by omega⟩]
    · rw [if_neg hc, if_neg (fun z => hc z.1)]
theorem right_rows {pr : List Blk} {nx : List (List Nat)} {rows : List Rw} {blocks : List Nat} {tl : List Rw} (h0 : 1 ≤ nx.length) (hb : blocks.length = rows.length) (h7 : ∀ y ∈ blocks, y < nx.length) (hl : pr.length = nx.length)
    (h : ∀ j, j < nx.length → ∃ e, pr[j]? = some (seg rows blocks j ++ (if j + 1 = nx.length then tl else []), e) ∧ EnOf (nx.getD j []) (fun r => r ∈ standL nx blocks rows j) e) : rowsL pr = rows ++ tl := by
  have := right_take hl h nx.length (Nat.le_refl _)
  rw [← hl, List.take_length] at this
  rw [this, hl, if_pos ⟨rfl, by omega⟩, cnt_all h7, hb, List.take_length]
end Gn
set_option Elab.async false
set_option linter.all false
set_option maxRecDepth 100000
set_option maxHeartbeats 4000000
namespace Gn
open PySem PySem.Spec PyProof.Rows L2
/-! ### owners; what stands can be named -/
theorem blk_take {rows : List Rw} {blocks : List Nat} (hr : Rising blocks) (j : Nat) : blocks.take (cntB blocks (j + 1)) = blocks.take (cntB blocks j) ++ List.replicate (cntB blocks (j + 1) - cntB blocks j) j := by
  have h := cnt_mono (xs := blocks) (show j ≤ j + 1 by omega)
  have e : cntB blocks (j + 1) = cntB blocks j + (cntB blocks (j + 1) - cntB blocks j) := by omega
  have hle := cnt_le blocks (j + 1)
  have hd : (blocks.drop (cntB blocks j)).take (cntB blocks (j + 1) - cntB blocks j) = List.replicate (cntB blocks (j + 1) - cntB blocks j) j := by
    refine List.eq_replicate_iff.mpr ⟨?_, fun y hy => ?_⟩
    · rw [List.length_take, List.length_drop]
      omega
    · obtain ⟨i, hi, rfl⟩ := List.mem_iff_getElem.mp hy
      have hi2 := hi
      rw [List.length_take, List.length_drop] at hi2
      have hk : cntB blocks j + i < blocks.length := by omega
      have := seg_blk (rows := rows) (blocks := blocks) hr (j := j) hk (by omega) (by omega)
      rw [List.getD_eq_getElem?_getD, List.getElem?_eq_getElem hk] at this
      rw [List.getElem_take, List.getElem_drop]
      exact this
  rw [← hd]
  conv => lhs; rw [e]
  rw [List.take_add]
theorem right_own {pr : List Blk} {nx : List (List Nat)} {rows : List Rw} {blocks : List Nat} {tl : List Rw} (hb : blocks.length = rows.length) (hr : Rising blocks) (hl : pr.length = nx.length)
    (h : ∀ j, j < nx.length → ∃ e, pr[j]? = some (seg rows blocks j ++ (if j + 1 = nx.length then tl else []), e) ∧ EnOf (nx.getD j []) (fun r => r ∈ standL nx blocks rows j) e) : ∀ i, i ≤ nx.length → ∃ zs, ownL pr i = blocks.take (cntB blocks i) ++ zs ∧ (i < nx.length → zs = [])
  | 0, _ => ⟨[], by rw [cnt_zero]; simp [ownL], fun _ => rfl⟩
  | i + 1, hi => by
    obtain ⟨e, h1, h2⟩ := h i (by omega)
    obtain ⟨zs, g1, g2⟩ := right_own hb hr hl h i (by omega)
    have hz := g2 (by omega)
    subst hz
    rw [List.append_nil] at g1
    refine ⟨List.replicate (if i + 1 = nx.length then tl else []).length i, ?_, fun hlt => ?_⟩
    · rw [ownL_succ h1, g1, blk_take (rows := rows) hr, List.append_assoc]
      congr 1
      show List.replicate (seg rows blocks i ++ _).length i = _
      rw [List.length_append, seg_len hb, List.replicate_append_replicate]
    · rw [if_neg (by omega)]
      rfl
/-- what stands at a block's end can be named there -/
theorem can_of {pr : List Blk} {nx : List (List Nat)} {rows : List Rw} {blocks : List Nat} {tl : List Rw} (hx : nx ∈ NX) (hb : blocks.length = rows.length) (h7 : ∀ y ∈ blocks, y < nx.length) (hr : Rising blocks) (hl : pr.length = nx.length)
    (h : ∀ j, j < nx.length → ∃ e, pr[j]? = some (seg rows blocks j ++ (if j + 1 = nx.length then tl else []), e) ∧ EnOf (nx.getD j []) (fun r => r ∈ standL nx blocks rows j) e)
    {x b pl : Nat} (hs : x ∈ standL nx blocks rows b) (hbl : b < nx.length) (hpl : blocks.getD x 0 = b → x < pl) : CanN pr x b pl := by
  obtain ⟨s1, s2, s3⟩ := stand_mem.mp hs
  obtain ⟨n1, n2, _⟩ := nx_bd nx hx
  have hR := right_rows n1 hb h7 hl h
  have hxr : x < rows.length := by omega
  obtain ⟨zs, g1, _⟩ := right_own hb hr hl h nx.length (Nat.le_refl _)
  have ho : (ownL pr pr.length).getD x 0 = blocks.getD x 0 := by
    rw [hl, g1, cnt_all h7, List.take_length, List.getD_eq_getElem?_getD, List.getD_eq_getElem?_getD, List.getElem?_append_left s1]
  have hu : blocks.getD x 0 < 7 := Nat.lt_of_lt_of_le (h7 _ (List.mem_of_getElem? (gdl s1))) n2
  refine ⟨rows[x], by rw [hR, List.getElem?_append_left hxr, List.getElem?_eq_getElem hxr], ?_, by rw [hl]; exact hbl, by rw [ho]; exact hpl, fun _ => ?_⟩
  · rw [List.getD_eq_getElem?_getD, List.getElem?_eq_getElem hxr] at s3
    exact s3
  · rw [ho, right_names hl h]
    exact fun z => s2 ((reach_iff hx hu).mpr z)
end Gn
set_option Elab.async false
set_option linter.all false
set_option maxRecDepth 100000
set_option maxHeartbeats 4000000
namespace Gn
open PySem PySem.Spec PyProof.Rows L2
/-! ### a right program is what is_program asks -/
theorem isM_w (r : Rw) : r.isM = true ↔ r.w = "meet" := by
  cases r with
  | bin b x y => show (false = true ↔ b.w = "meet"); cases b <;> decide
  | meet ps => exact ⟨fun _ => rfl, fun _ => rfl⟩
  | take i => show (false = true ↔ ("take" : Str) = "meet"); decide
  | num n => show (false = true ↔ ("num" : Str) = "meet"); decide
  | pick x ps => show (false = true ↔ ("pick" : Str) = "meet"); decide
  | tell x => show (false = true ↔ ("tell" : Str) = "meet"); decide
  | look rs x => show (false = true ↔ ("look" : Str) = "meet"); decide
  | lay rs x y => show (false = true ↔ ("lay" : Str) = "meet"); decide
theorem meet_w {r : Rw} (h : r.w = "meet") : ∃ ps, r = .meet ps := by
  have h := (isM_w r).mpr h
  cases r with
  | meet ps => exact ⟨ps, rfl⟩
  | _ => cases h
theorem rwA_nms {P : Nat → Prop} {r : Rw} (h : RwA P r) : ∀ x ∈ r.nms, P x := by
  cases r with
  | take i => intro x hx; cases hx
  | num n => intro x hx; cases hx
  | bin b y z =>
    intro x hx
    rcases List.mem_cons.mp hx with rfl | hx
    · exact h.1
    · rw [List.mem_singleton.mp hx]; exact h.2
  | pick y ps =>
    intro x hx
    rcases List.mem_cons.mp hx with rfl | hx
    · exact h.1
    · exact h.2.1 x hx
  | meet ps => exact h.1
  | tell y => intro x hx; rw [List.mem_singleton.mp hx]; exact h
  | look rs y => intro x hx; rw [List.mem_singleton.mp hx]; exact h.1
  | lay rs y z =>
    intro x hx
    rcases List.mem_cons.mp hx with rfl | hx
    · exact h.1
    · rw [List.mem_singleton.mp hx]; exact h.2.1
theorem rwA_len {P : Nat → Prop} {r : Rw} (h : RwA P r) : r.nms.length ≤ 1000 := by
  cases r with
  | pick y ps => have := h.2.2.2; show ps.length + 1 ≤ 1000; omega
  | meet ps => have := h.2.2; show ps.length ≤ 1000; omega
  | _ => (show (_ : Nat) ≤ 1000; simp [Rw.nms])
theorem right_prp {pr : List Blk} (h : RightP pr) (hB : ∀ b ∈ pr, BlkB 7 100 b) : PrP pr := by
  obtain ⟨nx, rows, blocks, tl, hx, p, hM, hl, htl, hb⟩ := h
  obtain ⟨n1, n2, _⟩ := nx_bd nx hx
  exact ⟨by omega, by omega, fun b hbm => Nat.le_trans (hB b hbm).1 (by decide), by rw [right_names hl hb, hl]; exact nx_ok hx⟩
theorem right_ok {pr : List Blk} (h : RightP pr) : NamesOk pr := by
  obtain ⟨nx, rows, blocks, tl, hx, p, hM, hl, htl, hb⟩ := h
  obtain ⟨n1, n2, _⟩ := nx_bd nx hx
  have hRi : Rising blocks := p.up
  have hRr := right_rows n1 p.len p.b7 hl hb
  have can : ∀ {x b pl : Nat}, x ∈ standL nx blocks rows b → b < nx.length → (blocks.getD x 0 = b → x < pl) → CanN pr x b pl := fun a b c => can_of hx p.len p.b7 hRi hl hb a b c
  intro i b hbi
  have hil : i < nx.length := by rw [← hl]; exact (List.getElem?_eq_some_iff.mp hbi).1
  obtain ⟨e, g1, g2⟩ := hb i hil
  rw [hbi] at g1
  cases g1
  have hci := cnt_le blocks i
  have hcs := cnt_le blocks (i + 1)
  have hcm := cnt_mono (xs := blocks) (show i ≤ i + 1 by omega)
  have hbg : bgnP pr i = cntB blocks i := by
    unfold bgnP
    rw [right_take hl hb i (by omega), if_neg (by omega), List.append_nil, List.length_take]
    have := p.len
    omega
  have hbg1 : cntB blocks (i + 1) ≤ bgnP pr (i + 1) := by
    unfold bgnP
    rw [right_take hl hb (i + 1) (by omega), List.length_append, List.length_take]
    have := p.len
    omega
  have hsl := seg_len (rows := rows) p.len i
  have sat : ∀ {t : Nat}, t < (seg rows blocks i).length → (seg rows blocks i)[t]? = rows[cntB blocks i + t]? ∧ cntB blocks i + t < blocks.length ∧ blocks.getD (cntB blocks i + t) 0 = i := fun {t} ht => by
    rw [hsl] at ht
    have hk : cntB blocks i + t < blocks.length := by omega
    refine ⟨?_, hk, seg_blk (rows := rows) hRi hk (by omega) (by omega)⟩
    unfold seg
    rw [List.getElem?_take_of_lt (by omega), List.getElem?_drop]
  have tlx : ∀ r ∈ (if i + 1 = nx.length then tl else []), r = .tell 0 := fun r hr => by
    by_cases hc : i + 1 = nx.length
    · rw [if_pos hc] at hr; exact htl r hr
    · rw [if_neg hc] at hr; cases hr
  generalize (if i + 1 = nx.length then tl else []) = tz at tlx hbi
  refine ⟨fun t r r' h1 h2 hm => ?_, fun j r hj => ?_, fun x hxe => ?_⟩
  · have h1 : (seg rows blocks i ++ tz)[t]? = some r := h1
    have h2 : (seg rows blocks i ++ tz)[t + 1]? = some r' := h2
    by_cases ht : t + 1 < (seg rows blocks i).length
    · rw [List.getElem?_append_left (by omega)] at h1
      rw [List.getElem?_append_left ht] at h2
      obtain ⟨a1, a2, a3⟩ := sat (t := t) (by omega)
      obtain ⟨b1, b2, b3⟩ := sat ht
      rw [a1] at h1
      rw [b1] at h2
      have b3' : blocks.getD (cntB blocks i + t + 1) 0 = i := b3
      have h2' : rows[cntB blocks i + t + 1]? = some r' := h2
      have := p.ma (cntB blocks i + t) (List.getElem?_eq_some_iff.mp h2').1 (by rw [a3, b3']) (by rw [gd h2']; exact (isM_w _).mpr hm)
      rw [gd h1] at this
      exact (isM_w _).mp this
    · rw [List.getElem?_append_right (by omega)] at h2
      rw [tlx _ (List.mem_of_getElem? h2)] at hm
      exact absurd hm (by decide)
  · have hj : (seg rows blocks i ++ tz)[j]? = some r := hj
    by_cases hjs : j < (seg rows blocks i).length
    · rw [List.getElem?_append_left hjs] at hj
      obtain ⟨a1, a2, a3⟩ := sat hjs
      rw [a1] at hj
      refine ⟨rwA_len (p.rb r (List.mem_of_getElem? hj)), fun hm => ?_, fun hm => ?_⟩
      · obtain ⟨ps, rfl⟩ := meet_w hm
        obtain ⟨m1, m2, m3⟩ := p.mt _ ps hj
        have hMt := hM (cntB blocks i + j) ps hj
        rw [a3] at m1 m2 hMt
        have hsp : spec pr pr.length i = leadsF nx i := by
          rw [spec_nx, right_names hl hb, hl]
          exact specN_leads nx hx i (by omega)
        rw [hsp]
        refine ⟨by rw [hl]; exact hil, m1, m2, fun t x l h1 h2 => ?_⟩
        have h1 : ps[t]? = some x := h1
        have ht := (List.getElem?_eq_some_iff.mp h1).1
        have hs := hMt t ht
        rw [gd h1, gd h2] at hs
        have hlm := List.mem_of_getElem? h2
        unfold leadsF at hlm
        have hln := List.mem_range.mp (List.mem_filter.mp hlm).1
        refine can hs hln fun _ => ?_
        have := (stand_mem.mp hs).1
        rw [hRr, List.length_append, ← p.len]
        omega
      · have hn := p.nm _ r hj (by
          cases hq : r.isM with
          | false => rfl
          | true => exact absurd ((isM_w r).mp hq) hm)
        rw [a3] at hn
        intro x hx'
        obtain ⟨q1, q2⟩ := rwA_nms hn x hx'
        rw [hbg]
        exact can q2 hil fun _ => q1
    · rw [List.getElem?_append_right (by omega)] at hj
      have hr := tlx _ (List.mem_of_getElem? hj)
      subst hr
      refine ⟨by decide, fun hm => absurd hm (by decide), fun _ x hx' => ?_⟩
      rw [List.mem_singleton.mp hx']
      refine can (p.zero hx) hil fun h0 => ?_
      have hb0 : blocks.getD 0 0 = 0 := gd p.b0
      have hi0 : i = 0 := by omega
      subst hi0
      have hpos : 0 < cntB blocks 1 := (cnt_iff (j := 1) hRi 0 (List.getElem?_eq_some_iff.mp p.b0).1).mpr (by rw [hb0]; decide)
      have hz := cnt_zero blocks
      have hsl' : (seg rows blocks 0).length = cntB blocks 1 - cntB blocks 0 := hsl
      omega
  · rcases g2 with ⟨_, rfl⟩ | ⟨y, _, rfl⟩ | ⟨y, z, r, _, hr, rfl⟩
    · cases hxe
    · cases hxe
    · rw [List.mem_singleton.mp hxe]
      refine can hr hil fun h0 => ?_
      have hrl := (stand_mem.mp hr).1
      have := (cnt_iff (j := i + 1) hRi r hrl).mpr (by omega)
      omega
end Gn
set_option Elab.async false
set_option linter.all false
set_option maxRecDepth 100000
set_option maxHeartbeats 4000000
set_option pp.maxSteps 300
namespace Gn
open PySem PySem.Spec PyProof.Rows L2
abbrev sFigs : Stmt := topS 50
/-! ### figures -/
abbrev nFigs : List Str := ["word", "sign"]
theorem scFigs : FnScope nFigs ["word"] (defScope sFigs) := ⟨rfl, rfl, rfl, by decide +kernel, rfl, by decide +kernel, by decide +kernel⟩
/-- a number's word: figures, the first of them no nought but in "0" -/
structure FigW (s : Str) : Prop where
  len : s.length ≤ 1000
  ne : s.cps.size ≠ 0
  fig : ∀ (i c : Nat), s.cps[i]? = some c → 48 ≤ c ∧ c ≤ 57
  no0 : s = "0" ∨ ∀ c : Nat, s.cps[0]? = some c → c ≠ 48
theorem fig_in : ∀ c, c < 58 → 48 ≤ c → (Builtin.Str.occurrences ("0123456789" : Str) (⟨#[c]⟩ : Str) 0 ("0123456789" : Str).length 1).isEmpty = false := by decide +kernel
def spFigs (Ts : List Addr) (D : Addr) : Sp := fun vs H Q _ => ∃ s : Str, vs = [.str s] ∧ FigW s ∧ Tbs Ts D H ∧ ∀ H', LamX.ExtN H H' → Tbs Ts D H' → Q (.bl true) H'
section
variable {P0 : Program} {w : World} {K : PySem.W.Frag} {mg : Str → Option Value} {base : Heap} {Ts : List Addr} {Dd : Addr}
theorem ok_figs {f c P : Addr} {fd : FuncData} {tk : Tok} {k : Nat} (D : DfC K mg "is_in_figures" sFigs ["word"] f fd c) (B : Bi mg) (TB : GxR.TabB base mg c P) (hP : P ∈ Ts) (hTs : TsOk Ts Dd) (hF : mg "FIGURES" = some (.str "0123456789" tk)) :
    FnOk P0 w K mg base CX0 (k + 3 + 1) f fd ["word"] (spFigs Ts Dd) := by
  refine D.F.ok scFigs (fun vs H Q E h => ?_) (fun A outer s H vs Q E hr h => ?_)
  · obtain ⟨s, rfl, _⟩ := h
    rfl
  · obtain ⟨z, rfl, hz, hT, q⟩ := h
    refine ⟨_, (pss_cons (ps_if (pw_or (pt_cmpR op_eq (pv 0) pe_str (nomark _)) (pw_or1 (pt_not (pt_val (Gx.pe_allG (k := k) (own := [("sign", 1)]) (g := gName 1) (tt := tYes) (te := _) rfl hr scFigs.nd (by rfl) B.all (by decide +kernel) TB rfl
      (blkOk_by (own := [("sign", 1)]) (N := nFigs) (sc := defScope sFigs) (by decide +kernel)) (by decide +kernel) (by rfl) (by rfl)
      (pi_str (pv 0)) (fun _ _ _ _ _ _ _ _ _ => pg_name (i := 1) scFigs.nd rfl (.inl rfl)) (fun _ _ _ _ _ _ _ _ _ => pts_nil)
      (fun A' _ _ _ _ _ _ _ hr' => pe_cmpR op_in_str (pv 1) (pe_glob (v := .str "0123456789") (by rfl) hF ⟨_, rfl⟩) rfl) (fun _ => rfl)))))).pt (pss_one (ps_ret pe_bl)) pss_nil)
      (pss_one (ps_ret (pe_or (pe_cmpR op_eq (pv 0) pe_str (nomark _)) (pe_one (pe_cmpR op_ne (pe_ix ix_str (pv 0) pe_int (fun _ _ => rfl)) pe_str (nomark _))))))), ?_⟩
    have hne : z ≠ "" := fun e => hz.ne (by rw [e]; rfl)
    refine ⟨_, rfl, rfl, _, rfl, ifN (fun h => hne (V.str.inj (of_decide_eq_true h))) ?_⟩
    refine ⟨_, rfl, z, rfl, hT.g P hP, fun H2 hTb => ?_⟩
    obtain ⟨hT2, e2⟩ := hT.tabbed hP (hTs.ne hP) hTb
    refine all_w z.cps.size (fun H' => LamX.ExtN H H' ∧ Tbs Ts Dd H') ⟨e2, hT2⟩ (fun i H3 hi hΦ => ⟨hi, fun x H' y => ?_⟩) (fun H3 hΦ => ⟨Nat.le_refl _, true, rfl, ifN (by intro h; cases h) ?_⟩)
    · obtain ⟨e1, c, hc, rfl⟩ := y
      subst e1
      have hf := hz.fig i c hc
      refine ⟨rfl, _, rfl, _, _, rfl, rfl, _, rfl, fun e => ?_, fun _ => hΦ⟩
      rw [fig_in c (by omega) hf.1] at e
      cases e
    · refine ⟨_, rfl, rfl, _, rfl, ite2 (fun e => q _ hΦ.1 hΦ.2) (fun e => ?_)⟩
      have hpos : 0 < z.cps.size := Nat.pos_of_ne_zero hz.ne
      have h0 : z.cps[0]? = some z.cps[0] := Array.getElem?_eq_getElem hpos
      have hc : z.cps[0] ≠ 48 := by
        rcases hz.no0 with h | h
        · exact absurd (decide_eq_true (by rw [h])) e
        · exact h _ h0
      refine ⟨_, rfl, z, 0, z.cps[0], rfl, rfl, szl (Nat.le_trans hz.len (by decide)), atI_nat (j := 0) (by rw [Array.getElem?_toList]; exact h0), rfl, ?_⟩
      have hn : ¬ (V.str ⟨#[z.cps[0]]⟩ = V.str "0") := fun h => by
        have h1 : (⟨#[z.cps[0]]⟩ : Str) = "0" := V.str.inj h
        have h2 : #[z.cps[0]] = #[48] := congrArg Str.cps h1
        have h3 := congrArg (fun a : Array Nat => a[0]?) h2
        exact hc (by simpa using h3)
      show Q (.bl (!decide (V.str ⟨#[z.cps[0]]⟩ = V.str "0"))) H3
      rw [decide_eq_false hn]
      exact q _ hΦ.1 hΦ.2
end
end Gn
set_option Elab.async false
set_option linter.all false
set_option maxRecDepth 100000
set_option maxHeartbeats 4000000
set_option pp.maxSteps 300
namespace Gn
open PySem PySem.Spec PyProof.Rows L2
abbrev sNameIn : Stmt := topS 51
abbrev sPlaceIn : Stmt := topS 52
/-! ### numbers in words -/
def spNameIn (Ts : List Addr) (D : Addr) : Sp := fun vs H Q _ => ∃ (s : Str) (n : Int), vs = [.str s] ∧ FigW s ∧ s.length ≤ 9 ∧ PySem.intText? s = some n ∧ Tbs Ts D H ∧ ∀ H', LamX.ExtN H H' → Tbs Ts D H' → Q (.int n) H'
theorem scNameIn : FnScope ["word"] ["word"] (defScope sNameIn) := ⟨rfl, rfl, rfl, by decide +kernel, rfl, by decide +kernel, by decide +kernel⟩
def spPlaceIn (Ts : List Addr) (D : Addr) : Sp := fun vs H Q _ => ∃ (s : Str) (n : Int), vs = [.str s] ∧ FigW s ∧ s.length ≤ 9 ∧ PySem.intText? s = some n ∧ n ≤ 5 ∧ Tbs Ts D H ∧ ∀ H', LamX.ExtN H H' → Tbs Ts D H' → Q (.int n) H'
theorem scPlaceIn : FnScope ["word", "place"] ["word"] (defScope sPlaceIn) := ⟨rfl, rfl, rfl, by decide +kernel, rfl, by decide +kernel, by decide +kernel⟩
section
variable {P0 : Program} {w : World} {K : PySem.W.Frag} {mg : Str → Option Value} {base : Heap} {Ts : List Addr} {Dd : Addr}
theorem ok_nameIn {f fF cF : Addr} {fd fdF : FuncData} {tk : Tok} {k : Nat} (D : Df K mg "name_in" sNameIn ["word"] f fd) (B : Bi mg) (hL : mg "LONGEST" = some (.int 9 tk)) (DF : DfC K mg "is_in_figures" sFigs ["word"] fF fdF cF) (GF : FnOk P0 w K mg base CX0 k fF fdF ["word"] (spFigs Ts Dd)) :
    FnOk P0 w K mg base CX0 (k + 1) f fd ["word"] (spNameIn Ts Dd) := by
  refine D.F.ok scNameIn (fun vs H Q E h => ?_) (fun cdv A outer s H vs Q E hr h => ?_)
  · obtain ⟨s, n, rfl, _⟩ := h
    rfl
  · obtain ⟨z, n, rfl, hz, hl, hn, hT, q⟩ := h
    refine ⟨_, (pss_one (ps_ret (pe_ifExp (pw_and (pt_cmpR op_le (pe_callB call_len_str (by rfl) B.len PySem.boot_len (pa_cons (pv 0) pa_nil)) (pe_glob (v := .int 9) (by rfl) hL ⟨_, rfl⟩) (nomark _)) (pw_and1 (pt_val (pe_call GF hr (by rfl) DF.g DF.F.kp DF.b .nil pass0 (pa_cons (pv 0) pa_nil))))).pt (pe_callTy call_int_str (by rfl) B.int PyProof.Rows.boot_int (pa_cons (pv 0) pa_nil)) pe_non))), ?_⟩
    refine ⟨_, rfl, z, rfl, szl (Nat.le_trans hl (by decide)), _, _, rfl, rfl, _, rfl, ifP (decide_eq_true (by omega)) ?_⟩
    refine ⟨_, rfl, z, rfl, hz, hT, fun H' e t => ⟨true, rfl, ifP rfl ?_⟩⟩
    exact ⟨_, rfl, z, n, rfl, hn, by omega, q H' e t⟩
theorem ok_placeIn {f fF : Addr} {fd fdF : FuncData} {tk : Tok} {k : Nat} (D : Df K mg "place_in" sPlaceIn ["word"] f fd) (hL : mg "LAST_PLACE" = some (.int 5 tk)) (DF : Df K mg "name_in" sNameIn ["word"] fF fdF) (GF : FnOk P0 w K mg base CX0 k fF fdF ["word"] (spNameIn Ts Dd)) :
    FnOk P0 w K mg base CX0 (k + 1) f fd ["word"] (spPlaceIn Ts Dd) := by
  refine D.F.ok scPlaceIn (fun vs H Q E h => ?_) (fun cdv A outer s H vs Q E hr h => ?_)
  · obtain ⟨s, n, rfl, _⟩ := h
    rfl
  · obtain ⟨z, n, rfl, hz, hl, hn, h5, hT, q⟩ := h
    refine ⟨_, (pss_cons (ps_set (i := 1) scPlaceIn.nd rfl (.inl rfl) (pe_call GF hr (by rfl) DF.g DF.F.kp DF.b .nil pass0 (pa_cons (pv 0) pa_nil)))
      (pss_one (ps_ret (pe_ifExp (pw_and (pt_cmp (pc_notN (pv 1))) (pw_and1 (pt_cmpR op_le (pv 1) (pe_glob (v := .int 5) (by rfl) hL ⟨_, rfl⟩) (nomark _)))).pt (pv 1) pe_non)))), ?_⟩
    refine ⟨_, rfl, z, n, rfl, hz, hl, hn, hT, fun H' e t => ?_⟩
    refine ⟨_, rfl, _, rfl, ifP (by rfl) ?_⟩
    refine ⟨_, rfl, _, _, rfl, rfl, _, rfl, ifP (decide_eq_true (by omega)) ?_⟩
    exact ⟨_, rfl, q H' e t⟩
end
end Gn
set_option Elab.async false
set_option linter.all false
set_option maxRecDepth 100000
set_option maxHeartbeats 4000000
namespace Gn
open PySem PySem.Spec PyProof.Rows L2
/-! ### the words of numbers -/
def dgs (m : Nat) : List Nat := (Nat.toDigits 10 m).map Char.toNat
theorem dig_head (m : Nat) : 0 < m → ∃ c r, Nat.toDigits 10 m = c :: r ∧ c.toNat ≠ 48 := by
  induction m using Nat.strongRecOn with
  | _ m ih =>
    intro h
    by_cases hm : m < 10
    · rw [Nat.toDigits_of_lt_base hm]
      exact ⟨_, [], rfl, (by decide : ∀ d, d < 10 → 0 < d → (Nat.digitChar d).toNat ≠ 48) m hm h⟩
    · obtain ⟨c, r, e, n⟩ := ih (m / 10) (by omega) (by omega)
      have t : Nat.toDigits 10 (m / 10) ++ Nat.toDigits 10 (m % 10) = Nat.toDigits 10 (10 * (m / 10) + m % 10) := Nat.toDigits_append_toDigits (by decide) (by omega) (Nat.mod_lt _ (by decide))
      rw [Nat.div_add_mod] at t
      rw [← t, e]
      exact ⟨c, _, rfl, n⟩
theorem dgs_all (m : Nat) : PySem.NumText.AllDigits (dgs m) := fun c hc => by
  obtain ⟨ch, hch, e⟩ := List.mem_map.mp hc
  have r := digit_range (Nat.isDigit_of_mem_toDigits (by decide) (by decide) hch)
  rw [← e]
  exact r
theorem dgs_ne (m : Nat) : dgs m ≠ [] := fun e => Nat.toDigits_ne_nil (List.map_eq_nil_iff.mp e)
theorem dgs_len {m : Nat} (h : m < 10 ^ 13) : (dgs m).length ≤ 13 := by
  unfold dgs
  rw [List.length_map]
  exact (Nat.length_toDigits_le_iff (by decide) (by decide)).mpr h
theorem str_ext {a b : Str} (h : a.cps.toList = b.cps.toList) : a = b := by
  cases a; cases b
  congr 1
  exact Array.toList_inj.mp h
theorem figW_of {s : Str} {m : Nat} (h : s.cps.toList = dgs m) (hm : m < 10 ^ 13) : FigW s ∧ s.length ≤ 13 := by
  have hl : s.length ≤ 13 := by
    show s.cps.size ≤ 13
    rw [← Array.length_toList, h]
    exact dgs_len hm
  have at_ : ∀ i : Nat, s.cps[i]? = (dgs m)[i]? := fun i => by rw [← h, Array.getElem?_toList]
  refine ⟨⟨Nat.le_trans hl (by decide), fun e => dgs_ne m ?_, fun i c hc => ?_, ?_⟩, hl⟩
  · rw [← h]
    exact List.eq_nil_of_length_eq_zero (by rw [Array.length_toList]; exact e)
  · rw [at_] at hc
    exact dgs_all m c (List.mem_of_getElem? hc)
  · by_cases h0 : m = 0
    · left
      refine str_ext ?_
      rw [h, h0]
      rfl
    · right
      intro c hc
      obtain ⟨d, r, e, n⟩ := dig_head m (by omega)
      rw [at_] at hc
      unfold dgs at hc
      rw [e] at hc
      cases hc
      exact n
theorem nT_nat (m : Nat) : (nT (m : Int)).cps.toList = dgs m := PySem.W.KIN.signs_num m
theorem nT_neg (m : Nat) : (nT (-((m + 1 : Nat) : Int))).cps.toList = 45 :: dgs (m + 1) := by
  show (Str.ofString (toString (-((m + 1 : Nat) : Int)))).cps.toList = _
  rw [signs_ofString, Int.toString_eq_repr, Int.repr_eq_if, if_neg (by omega), String.toList_append, Nat.toList_repr, List.map_append]
  have : (-(-((m + 1 : Nat) : Int))).toNat = m + 1 := by omega
  rw [this]
  rfl
theorem reads_nat {s : Str} {m : Nat} (h : s.cps.toList = dgs m) (hm : m < 10 ^ 13) : PySem.intText? s = some (m : Int) := by
  have hl := (figW_of h hm).2
  have e := PySem.intText_digits (x := s) (by rw [h]; exact dgs_all m) (by rw [h]; exact dgs_ne m) (Nat.le_trans hl (by decide))
  rw [h] at e
  rw [e]
  exact congrArg (fun n : Nat => some (n : Int)) (PySem.W.KIN.val_back m)
/-- a word that a number is read from: without its minus -/
def bareW (s : Str) : Str := if Txt.startswith s "-" = true then cutS s (some 1) none else s
structure NumW (s : Str) (n : Int) : Prop where
  len : s.length ≤ 600
  n0 : s ≠ "-0"
  fg : FigW (bareW s)
  bl : (bareW s).length ≤ 13
  rd : ∃ m : Int, PySem.intText? (bareW s) = some m ∧ m ≤ 10 ^ 12
  val : PySem.intText? s = some n
theorem sw_cons {s : Str} {c : Nat} {cs : List Nat} (h : s.cps.toList = c :: cs) : Txt.startswith s "-" = decide (c = 45) := by
  have hs : s = ⟨(c :: cs).toArray⟩ := str_ext (by rw [h])
  subst hs
  unfold Txt.startswith PySem.Builtin.Str.subAt
  have e1 : ("-" : Str).length = 1 := by decide +kernel
  have e2 : ("-" : Str).cps = #[45] := by decide +kernel
  rw [e1, e2]
  have e3 : (⟨(c :: cs).toArray⟩ : Str).length = cs.length + 1 := by show ((c :: cs).toArray).size = _; simp
  rw [e3]
  have e4 : ((c :: cs).toArray).extract 0 (0 + 1) = #[c] := by simp
  show (decide (0 + 1 ≤ cs.length + 1) && ((c :: cs).toArray).extract 0 (0 + 1) == #[45]) = _
  rw [e4, decide_eq_true (by omega)]
  by_cases hc : c = 45
  · subst hc; rfl
  · rw [decide_eq_false hc]
    simpa using hc
theorem bare_neg {s : Str} {cs : List Nat} (h : s.cps.toList = 45 :: cs) : (bareW s).cps.toList = cs := by
  unfold bareW
  rw [sw_cons h, if_pos (by decide)]
  unfold cutS
  have hl : s.length = cs.length + 1 := by show s.cps.size = _; rw [← Array.length_toList, h]; rfl
  have e1 : HT.sIx s.length 0 (some 1) = 1 := by
    rw [show (some (1 : Int)) = some ((1 : Nat) : Int) from rfl, HT.sIx_nat]
    omega
  have e2 : HT.sIx s.length s.length none = s.length := rfl
  rw [e1, e2, h, hl]
  simp
theorem bare_nat {s : Str} {m : Nat} (h : s.cps.toList = dgs m) : bareW s = s := by
  unfold bareW
  cases hd : dgs m with
  | nil => exact absurd hd (dgs_ne m)
  | cons c cs =>
    have hc := dgs_all m c (by rw [hd]; exact List.mem_cons_self)
    rw [sw_cons (by rw [h, hd]), decide_eq_false (by omega)]
    rfl
theorem numW_nT {z : Int} (h : NumB z) : NumW (nT z) z := by
  obtain ⟨h1, h2⟩ := h
  have h1 : -1000000000000 ≤ z := h1
  have h2 : z ≤ 1000000000000 := h2
  rcases Int.lt_or_le z 0 with hz | hz
  · obtain ⟨m, rfl⟩ : ∃ m : Nat, z = -((m + 1 : Nat) : Int) := ⟨(-z).toNat - 1, by omega⟩
    have e := nT_neg m
    have hm : m + 1 < 10 ^ 13 := by have : (10 : Nat) ^ 13 = 10000000000000 := by decide
                                    omega
    have hb := bare_neg e
    obtain ⟨f1, f2⟩ := figW_of hb hm
    have hl : (nT (-((m + 1 : Nat) : Int))).length ≤ 14 := by
      show (nT (-((m + 1 : Nat) : Int))).cps.size ≤ 14
      rw [← Array.length_toList, e, List.length_cons]
      have := dgs_len hm
      omega
    refine ⟨Nat.le_trans hl (by decide), fun w => ?_, f1, f2, ⟨_, reads_nat hb hm, by show (((m + 1 : Nat) : Int)) ≤ 1000000000000; omega⟩, ?_⟩
    · rw [w] at e
      have e0 : ("-0" : Str).cps.toList = [45, 48] := by decide +kernel
      rw [e0] at e
      obtain ⟨c, r, e2, n⟩ := dig_head (m + 1) (by omega)
      unfold dgs at e
      rw [e2] at e
      injection e with _ e
      injection e with e3 _
      exact n e3.symm
    · have := PySem.intText_neg e (dgs_all _) (dgs_ne _) (Nat.le_trans hl (by decide))
      rw [this]
      exact congrArg (fun n : Nat => some (-(n : Int))) (PySem.W.KIN.val_back (m + 1))
  · obtain ⟨m, rfl⟩ := Int.eq_ofNat_of_zero_le hz
    have e := nT_nat m
    have hm : m < 10 ^ 13 := by have : (10 : Nat) ^ 13 = 10000000000000 := by decide
                                omega
    have hb := bare_nat e
    obtain ⟨f1, f2⟩ := figW_of e hm
    refine ⟨Nat.le_trans f2 (by decide), fun w => ?_, by rw [hb]; exact f1, by rw [hb]; exact f2, ⟨_, by rw [hb]; exact reads_nat e hm, by show (m : Int) ≤ 1000000000000; omega⟩, reads_nat e hm⟩
    rw [w] at e
    have e0 : ("-0" : Str).cps.toList = [45, 48] := by decide +kernel
    rw [e0] at e
    have := dgs_all m 45 (by rw [← e]; exact List.mem_cons_self)
    omega
/-- a word that the name of a row or a block is read from -/
structure NameW (s : Str) (n : Int) : Prop where
  fg : FigW s
  len : s.length ≤ 9
  val : PySem.intText? s = some n
theorem nameW_nT {m : Nat} (h : m < 1000) : NameW (nT (m : Int)) (m : Int) := by
  have hm : m < 10 ^ 13 := Nat.lt_trans h (by decide)
  have e := nT_nat m
  refine ⟨(figW_of e hm).1, ?_, reads_nat e hm⟩
  show (nT (m : Int)).cps.size ≤ 9
  rw [← Array.length_toList, e]
  unfold dgs
  rw [List.length_map]
  exact (Nat.length_toDigits_le_iff (by decide) (by decide)).mpr (Nat.lt_trans h (by decide))
end Gn
set_option Elab.async false
set_option linter.all false
set_option maxRecDepth 100000
set_option maxHeartbeats 4000000
set_option pp.maxSteps 300
namespace Gn
open PySem PySem.Spec PyProof.Rows L2
abbrev sNumInW : Stmt := topS 53
abbrev sNumKind : Stmt := topS 55
abbrev sNumsBy : Stmt := topS 63
/-! ### number_in_words, number_of_kind, numbers_by -/
def spNumInW (Ts : List Addr) (D : Addr) : Sp := fun vs H Q _ => ∃ (s : Str) (n : Int), vs = [.str s] ∧ NumW s n ∧ Tbs Ts D H ∧ ∀ H', LamX.ExtN H H' → Tbs Ts D H' → Q (.int n) H'
theorem scNumInW : FnScope ["word", "bare"] ["word"] (defScope sNumInW) := ⟨rfl, rfl, rfl, by decide +kernel, rfl, by decide +kernel, by decide +kernel⟩
theorem ten12 : (toString (1000000000000 : Int) : Str).length = 13 := by decide +kernel
theorem ten12_log : (1000000000000 : Int).natAbs.log2 < 1920 := by decide +kernel
inductive Rk
  | num | name | place
def spR (Ts : List Addr) (D : Addr) : Rk → Sp
  | .num => spNumInW Ts D
  | .name => spNameIn Ts D
  | .place => spPlaceIn Ts D
structure Rks (P : Program) (w : World) (K : PySem.W.Frag) (mg : Str → Option Value) (base : Heap) (k : Nat) (Ts : List Addr) (D : Addr) (d : Addr) (fs : Rk → Addr) : Prop where
  mgC : mg "READERS" = some (.ref d)
  n1 : KDct K w d "number" (.ref (fs .num))
  n2 : KDct K w d "row" (.ref (fs .name))
  n3 : KDct K w d "block" (.ref (fs .name))
  n4 : KDct K w d "place" (.ref (fs .place))
  n5 : KDct K w d "parts" (.ref (fs .name))
  n6 : KDct K w d "rooms" (.ref (fs .place))
  fn : ∀ b, FnR P w K mg base CX0 k (fs b) (spR Ts D b)
  kp : ∀ b, PySem.W.keepIn K (.ref (fs b)) = true
/-- a word is a number by its kind -/
def KdNum (kd s : Str) (n : Int) : Prop := (kd = "number" ∧ NumW s n) ∨ ((kd = "place" ∨ kd = "rooms") ∧ NameW s n ∧ n ≤ 5) ∨ ((kd = "row" ∨ kd = "block" ∨ kd = "parts") ∧ NameW s n)
def spNumKind (Ts : List Addr) (D : Addr) : Sp := fun vs H Q _ => ∃ (s kd : Str) (n : Int), vs = [.str s, .str kd] ∧ KdNum kd s n ∧ Tbs Ts D H ∧ ∀ H', LamX.ExtN H H' → Tbs Ts D H' → Q (.int n) H'
theorem scNumKind : FnScope ["word", "kind", "reader"] ["word", "kind"] (defScope sNumKind) := ⟨rfl, rfl, rfl, by decide +kernel, rfl, by decide +kernel, by decide +kernel⟩
def spNumsBy (K : PySem.W.Frag) (Ts : List Addr) (D : Addr) : Sp := fun vs H Q _ => ∃ (wa ka : Addr) (ts : List (Str × Str × Int)), vs = [.ref wa, .ref ka] ∧ SqL K (nt H) wa (ts.map fun t => V.str t.1) ∧ SqL K (nt H) ka (ts.map fun t => V.str t.2.1) ∧ ts.length ≤ 1000 ∧ (∀ t ∈ ts, KdNum t.2.1 t.1 t.2.2) ∧ Tbs Ts D H ∧
  ∀ (a : Addr) (H' : Hp), H a = none → LamX.ExtN H H' → Tbs Ts D H' → H' a = some (.lst (ts.map fun t => V.int t.2.2)) → Q (.ref a) H'
abbrev nNumsBy : List Str := ["words", "kinds", "numbers", "word", "kind"]
theorem scNumsBy : FnScope nNumsBy ["words", "kinds"] (defScope sNumsBy) := ⟨rfl, rfl, rfl, by decide +kernel, rfl, by decide +kernel, by decide +kernel⟩
theorem no_non (ns : List V) (h : ∀ x ∈ ns, ∃ n : Int, x = .int n) : inV .non ns = false ∧ ns.all flatV = true := by
  refine ⟨?_, List.all_eq_true.mpr fun x hx => ?_⟩
  · unfold inV
    refine Bool.eq_false_iff.mpr fun e => ?_
    obtain ⟨x, hx, e⟩ := List.any_eq_true.mp e
    obtain ⟨n, rfl⟩ := h x hx
    cases e
  · obtain ⟨n, rfl⟩ := h x hx
    rfl
theorem ext_upd {H Hx : Hp} {a : Addr} {o : HO} (e : LamX.ExtN H Hx) (n : H a = none) : LamX.ExtN H (upd Hx a o) := fun b u h1 h2 => by
  rw [upd_ne (fun z => by rw [z, n] at h1; cases h1)]
  exact e b u h1 h2
theorem tabG_upd {H : Hp} {P L : Addr} {xs : List V} {o : HO} (h : GxR.TabG H P) (e : H L = some (.lst xs)) : GxR.TabG (upd H L o) P := by
  obtain ⟨ps, a, b⟩ := h
  exact ⟨ps, by rw [upd_ne (fun z => by rw [z, e] at a; cases a)]; exact a, b⟩
theorem Tbs.upd {Ts : List Addr} {D L : Addr} {H : Hp} {xs : List V} {o : HO} (h : Tbs Ts D H) (e : H L = some (.lst xs)) : Tbs Ts D (L2.upd H L o) := by
  refine ⟨fun P hP => tabG_upd (h.g P hP) e, ?_⟩
  obtain ⟨ps, a, b, c⟩ := h.d
  refine ⟨ps, by rw [upd_ne (fun z => by rw [z, e] at a; cases a)]; exact a, b, fun pos cv hc => ?_⟩
  obtain ⟨c1, P1, z1, z2, z3, z4⟩ := c pos cv hc
  refine ⟨c1, P1, z1, z2, ?_, tabG_upd z4 e⟩
  rw [upd_ne (fun z => by rw [z, e] at z3; cases z3)]
  exact z3
section
variable {P0 : Program} {w : World} {K : PySem.W.Frag} {mg : Str → Option Value} {base : Heap} {Ts : List Addr} {Dd : Addr}
theorem ok_numInW {f fF cF : Addr} {fd fdF : FuncData} {tk : Tok} {k : Nat} (D : Df K mg "number_in_words" sNumInW ["word"] f fd) (B : Bi mg) (hG : mg "GREATEST_NUMBER" = some (.int 1000000000000 tk)) (DF : DfC K mg "is_in_figures" sFigs ["word"] fF fdF cF) (GF : FnOk P0 w K mg base CX0 k fF fdF ["word"] (spFigs Ts Dd)) :
    FnOk P0 w K mg base CX0 (k + 1) f fd ["word"] (spNumInW Ts Dd) := by
  refine D.F.ok scNumInW (fun vs H Q E h => ?_) (fun cdv A outer s H vs Q E hr h => ?_)
  · obtain ⟨s, n, rfl, _⟩ := h
    rfl
  · obtain ⟨z, n, rfl, hz, hT, q⟩ := h
    refine ⟨_, (Evl.pss_cut (ps_set (i := 1) scNumInW.nd rfl (.inl rfl) (pe_ifExp (pt_val (pe_m1 PySem.F.slot_str_startswith PySem.F.type_str_startswith mt_startswith (pv 0) pe_str)) (pe_slice sl_str (pv 0) (po_some pe_int) po_none) (pv 0)))
      (pss_cons (ps_if (pw_or (pt_cmpR op_eq (pv 0) pe_str (nomark _)) (pw_or (pt_cmpR op_gt (pe_callB call_len_str (by rfl) B.len PySem.boot_len (pa_cons (pv 1) pa_nil)) (pe_callB call_len_str (by rfl) B.len PySem.boot_len (pa_cons (pe_callTy call_str_int (by rfl) B.str PyProof.Rows.boot_str (pa_cons (pe_glob (v := .int 1000000000000) (by rfl) hG ⟨_, rfl⟩) pa_nil)) pa_nil)) (nomark _)) (pw_or1 (pt_not (pt_val (pe_call GF hr (by rfl) DF.g DF.F.kp DF.b .nil pass0 (pa_cons (pv 1) pa_nil))))))).pt (pss_one (ps_ret pe_non)) pss_nil)
      (pss_one (ps_ret (pe_ifExp (pt_cmpR op_le (pe_callTy call_int_str (by rfl) B.int PyProof.Rows.boot_int (pa_cons (pv 1) pa_nil)) (pe_glob (v := .int 1000000000000) (by rfl) hG ⟨_, rfl⟩) (nomark _)) (pe_callTy call_int_str (by rfl) B.int PyProof.Rows.boot_int (pa_cons (pv 0) pa_nil)) pe_non))))), ?_⟩
    obtain ⟨m, hm1, hm2⟩ := hz.rd
    refine ⟨fun σ' H' => σ' = [some (.str z), some (.str (bareW z))] ∧ H' = H, ?_, ?_⟩
    · refine ⟨_, rfl, ⟨_, rfl⟩, z, "-", rfl, rfl, _, rfl, ?_⟩
      unfold bareW
      refine ite2 (fun e => ?_) (fun e => ?_)
      · refine ⟨_, rfl, 1, rfl, z, rfl, szl (Nat.le_trans hz.len (by decide)), ?_⟩
        rw [if_pos e]
        exact ⟨rfl, rfl⟩
      · refine ⟨_, rfl, ?_⟩
        rw [if_neg e]
        exact ⟨rfl, rfl⟩
    · rintro σ' H' ⟨rfl, rfl⟩
      refine ⟨_, rfl, rfl, _, rfl, ifN (fun h => hz.n0 (V.str.inj (of_decide_eq_true h))) ?_⟩
      refine ⟨_, rfl, bareW z, rfl, szl (Nat.le_trans hz.bl (by decide)), _, rfl, ten12_log, _, rfl, szl (by rw [ten12]; decide), _, _, rfl, rfl, _, rfl, ?_⟩
      rw [ten12]
      refine ifN (fun h => ?_) ?_
      · have h2 := of_decide_eq_true h
        have := hz.bl
        omega
      · refine ⟨_, rfl, bareW z, rfl, hz.fg, hT, fun H2 e2 t2 => ⟨true, rfl, ifN (by intro h; cases h) ?_⟩⟩
        refine ⟨_, rfl, bareW z, m, rfl, hm1, Nat.le_trans hz.bl (by decide), _, _, rfl, rfl, _, rfl, ifP (decide_eq_true (by show m ≤ 1000000000000; exact hm2)) ?_⟩
        exact ⟨_, rfl, z, n, rfl, hz.val, Nat.le_trans hz.len (by decide), q H2 e2 t2⟩
theorem ok_numKind {f dC : Addr} {fs : Rk → Addr} {fd : FuncData} {k : Nat} (D : Df K mg "number_of_kind" sNumKind ["word", "kind"] f fd) (C : Rks P0 w K mg base k Ts Dd dC fs) : FnOk P0 w K mg base CX0 (k + 1) f fd ["word", "kind"] (spNumKind Ts Dd) := by
  refine D.F.ok scNumKind (fun vs H Q E h => ?_) (fun cdv A outer s H vs Q E hr h => ?_)
  · obtain ⟨s, kd, n, rfl, _⟩ := h
    rfl
  · obtain ⟨z, kd, n, rfl, hk, hT, q⟩ := h
    refine ⟨_, (pss_cons (ps_set (i := 2) scNumKind.nd rfl (.inl rfl) (pe_ix ix_kdict (pe_glob (v := .ref dC) (by rfl) C.mgC rfl) (pv 1) (fun _ _ => rfl)))
      (pss_one (ps_ret (pe_callI (i := 2) (x := "reader") C.fn hr C.kp pass0 rfl (.inl rfl) (pa_cons (pv 0) pa_nil))))), ?_⟩
    rcases hk with ⟨rfl, h⟩ | ⟨rfl | rfl, h, h5⟩ | ⟨rfl | rfl | rfl, h⟩
    · exact ⟨_, rfl, dC, _, _, rfl, rfl, C.n1, .num, rfl, _, rfl, z, n, rfl, h, hT, q⟩
    · exact ⟨_, rfl, dC, _, _, rfl, rfl, C.n4, .place, rfl, _, rfl, z, n, rfl, h.fg, h.len, h.val, h5, hT, q⟩
    · exact ⟨_, rfl, dC, _, _, rfl, rfl, C.n6, .place, rfl, _, rfl, z, n, rfl, h.fg, h.len, h.val, h5, hT, q⟩
    · exact ⟨_, rfl, dC, _, _, rfl, rfl, C.n2, .name, rfl, _, rfl, z, n, rfl, h.fg, h.len, h.val, hT, q⟩
    · exact ⟨_, rfl, dC, _, _, rfl, rfl, C.n3, .name, rfl, _, rfl, z, n, rfl, h.fg, h.len, h.val, hT, q⟩
    · exact ⟨_, rfl, dC, _, _, rfl, rfl, C.n5, .name, rfl, _, rfl, z, n, rfl, h.fg, h.len, h.val, hT, q⟩
theorem ok_numsBy {f fN : Addr} {fd fdN : FuncData} {k : Nat} (D : Df K mg "numbers_by" sNumsBy ["words", "kinds"] f fd) (B : Bi mg) (DN : Df K mg "number_of_kind" sNumKind ["word", "kind"] fN fdN) (GN : FnOk P0 w K mg base CX0 k fN fdN ["word", "kind"] (spNumKind Ts Dd)) :
    FnOk P0 w K mg base CX0 (k + 1) f fd ["words", "kinds"] (spNumsBy K Ts Dd) := by
  refine D.F.ok scNumsBy (fun vs H Q E h => ?_) (fun cdv A outer s H vs Q E hr h => ?_)
  · obtain ⟨wa, ka, ts, rfl, _⟩ := h
    rfl
  · obtain ⟨wa, ka, ts, rfl, hw, hk, hl, ht, hT, q⟩ := h
    refine ⟨_, (pss_cons (ps_if (pt_cmpR op_ne (pe_callB call_len_seq (by rfl) B.len PySem.boot_len (pa_cons (pv 0) pa_nil)) (pe_callB call_len_seq (by rfl) B.len PySem.boot_len (pa_cons (pv 1) pa_nil)) (nomark _)) (pss_one (ps_ret pe_non)) pss_nil)
      (pss_cons (ps_setLc (i := 2) (own := [("word", 3), ("kind", 4)]) (g := gTup K 2 (gCons (gName 3) (gCons (gName 4) gNil))) (tt := tYes) (te := tCall (spNumKind Ts Dd) [] E0 (tCons (tVar 3) (tCons (tVar 4) tNil))) (by rfl) scNumsBy.nd rfl rfl (sw_true rfl rfl rfl (by decide +kernel)) (RZ.pi_zipA (by rfl) B.zip (pa_cons (pv 0) (pa_cons (pv 1) pa_nil)))
      (blkOk_by (own := [("word", 3), ("kind", 4)]) (N := nNumsBy) (sc := defScope sNumsBy) (by decide +kernel)) (fun _ _ _ _ _ => (pg_tup rfl (pgs_cons (pg_name (i := 3) scNumsBy.nd rfl (.inl rfl)) (pgs_cons (pg_name (i := 4) scNumsBy.nd rfl (.inl rfl)) pgs_nil)))) (fun _ _ _ _ _ => pts_nil)
      (fun _ _ _ _ _ => (pe_call GN hr (by rfl) DN.g DN.F.kp DN.b .nil pass0 (pa_cons (pv 3) (pa_cons (pv 4) pa_nil)))))
      (pss_one (ps_ret (pe_ifExp (pt_cmpR op_in_seq pe_non (pv 2) rfl) pe_non (pv 2)))))), ?_⟩
    refine ⟨_, rfl, wa, _, rfl, .inl (ntL hw), _, rfl, ka, _, rfl, .inl (ntL hk), rfl, _, rfl, ifN (by rw [decide_eq_true (by rw [List.length_map, List.length_map])]; intro h; cases h) ?_⟩
    refine ⟨_, rfl, _, rfl, wa, ka, _, _, rfl, .inl ⟨ntL hw, ntL hk, fun L nL => ?_⟩⟩
    have a1 : ∀ {H' : Hp}, LamX.ExtN H H' → SqL K H' wa (ts.map fun t => V.str t.1) := fun e => ntL ((ext_nt e).seq hw)
    have a2 : ∀ {H' : Hp}, LamX.ExtN H H' → SqL K H' ka (ts.map fun t => V.str t.2.1) := fun e => ntL ((ext_nt e).seq hk)
    have sL := new_same (o := .lst []) nL
    refine lc_it (walk_zip (K := K) (a := wa) (b := ka) (xs := ts.map fun t => V.str t.1) (ys := ts.map fun t => V.str t.2.1) (n := ts.length) (by rw [List.length_map, List.length_map]; omega)) (fun i H2 => LamX.ExtN H H2 ∧ Tbs Ts Dd H2 ∧ H2 L = some (.lst ((ts.take i).map fun t => V.int t.2.2))) ⟨same_ext sL, hT.same sL, upd_same⟩ (fun i H2 _ hP => ⟨a1 hP.1, a2 hP.1⟩) (fun i x H2 H3 hi hP hY => ?_) (fun H2 hP => ?_)
    · obtain ⟨e2, t2, eL⟩ := hP
      obtain ⟨T, x1, x2, rfl, nT, rfl, y1, y2⟩ := hY
      have y1 : (ts.map fun t => V.str t.1)[i]? = some x1 := y1
      have y2 : (ts.map fun t => V.str t.2.1)[i]? = some x2 := y2
      have hti : ts[i]? = some ts[i] := List.getElem?_eq_getElem hi
      rw [List.getElem?_map, hti] at y1 y2
      cases y1
      cases y2
      have sT := new_same (o := .tup [.str ts[i].1, .str ts[i].2.1]) nT
      refine ⟨T, _, rfl, sqT upd_same, rfl, _, _, rfl, _, _, rfl, rfl, rfl, ?_⟩
      refine ⟨_, rfl, _, rfl, ts[i].1, ts[i].2.1, ts[i].2.2, rfl, ht _ (List.getElem_mem hi), t2.same sT, fun H4 e4 t4 => ?_⟩
      have eL4 := e4 _ _ (sT _ _ eL) (fun ps z => by cases z)
      refine ⟨_, eL4, by rw [List.length_map, List.length_take]; exact szt (by omega), ?_, ?_, ?_⟩
      · exact ext_upd ((e2.trans (same_ext sT)).trans e4) nL
      · exact t4.upd eL4
      · rw [upd_same, List.take_add_one, hti, List.map_append]
        rfl
    · obtain ⟨e2, t2, eL⟩ := hP
      rw [List.take_length] at eL
      obtain ⟨z1, z2⟩ := no_non (ts.map fun t => V.int t.2.2) (fun x hx => by obtain ⟨t, _, rfl⟩ := List.mem_map.mp hx; exact ⟨_, rfl⟩)
      refine ⟨_, rfl, L, _, rfl, .inl (sqL eL), rfl, z2, _, rfl, ?_⟩
      show if (inV .non (ts.map fun t => V.int t.2.2)) = true then _ else _
      rw [z1]
      exact ⟨_, rfl, q L H2 nL e2 t2 eL⟩
end
end Gn
set_option Elab.async false
set_option linter.all false
set_option maxRecDepth 100000
set_option maxHeartbeats 4000000
set_option pp.maxSteps 3000
namespace Gn
open PySem PySem.Spec PyProof.Rows L2
abbrev sThingIn : Stmt := topS 62
/-! ### thing_in -/
def svK (k : Str) : Bool := inV (.str k) [.str "parts", .str "rooms"]
abbrev Wt := Str × Str × Int
/-- the words' kinds are what the parts' kinds ask -/
structure KdsOk (ks : List Str) (ts : List Wt) : Prop where
  l4 : ks.length ≤ 4
  kd : ts.map (·.2.1) = ks.filter (fun k => !svK k) ++ (List.replicate (max 1 (ts.length - (ks.filter fun k => !svK k).length)) (ks.filter svK)).flatten
  lw : ts.length ≤ 900
  nm : ∀ t ∈ ts, KdNum t.2.1 t.1 t.2.2
def TupK (K : PySem.W.Frag) (g : Addr) : Prop := ∃ o, K.lookup g = some o ∧ o.cls = .type "tuple" ∧ o.dict = none
theorem cut_take (xs : List V) (n : Nat) : cutV xs none (some (n : Int)) = xs.take n := by
  unfold cutV
  rw [show HT.sIx xs.length 0 none = 0 from rfl, HT.sIx_nat, List.drop_zero, Nat.sub_zero]
  by_cases h : n ≤ xs.length
  · rw [Nat.min_eq_left h]
  · rw [Nat.min_eq_right (by omega), List.take_of_length_le (by omega), List.take_of_length_le (by omega)]
theorem cut_drop (xs : List V) (n : Nat) : cutV xs (some (n : Int)) none = xs.drop n := by
  unfold cutV
  rw [show HT.sIx xs.length xs.length none = xs.length from rfl, HT.sIx_nat]
  by_cases h : n ≤ xs.length
  · rw [Nat.min_eq_left h, List.take_of_length_le (by rw [List.length_drop]; omega)]
  · rw [Nat.min_eq_right (by omega), List.drop_of_length_le (by omega), List.drop_of_length_le (by omega)]
    simp
theorem filt_take (p : Str → Bool) {ks : List Str} {i : Nat} {x : Str} (h : ks[i]? = some x) : (ks.take (i + 1)).filter p = (ks.take i).filter p ++ (if p x = true then [x] else []) := by
  rw [List.take_add_one, h, List.filter_append]
  congr 1
  show [x].filter p = _
  cases h : p x <;> simp [h]
theorem map_rep (n : Nat) (se : List Str) : (List.replicate n (se.map V.str)).flatten = ((List.replicate n se).flatten).map V.str := by
  rw [List.map_flatten, List.map_replicate]
theorem flat_nil0 {M : Nat} : ((List.replicate M ([] : List Str)).flatten).length = 0 := by
  induction M with
  | zero => rfl
  | succ n ih => rw [List.replicate_succ, List.flatten_cons]; exact ih
def spThing (K : PySem.W.Frag) (Ts : List Addr) (D : Addr) : Sp := fun vs H Q _ => ∃ (wa : Addr) (wd : Str) (kv : V) (ws : List Str), vs = [.ref wa, kv] ∧ SqL K (nt H) wa ((wd :: ws).map V.str) ∧ Tbs Ts D H ∧
  ((kv = .non ∧ Q .non H) ∨ ∃ (ka : Addr) (ks : List Str) (ts : List Wt), kv = .ref ka ∧ TupK K ka ∧ (∀ H', SqT K H' ka (ks.map V.str)) ∧ ws = ts.map (·.1) ∧ KdsOk ks ts ∧
    ((ks.filter svK = [] ∧ ∀ (H' : Hp) (T : Addr), LamX.ExtN H H' → Tbs Ts D H' → H' T = some (.tup (.str wd :: ts.map fun t => V.int t.2.2)) → Q (.ref T) H') ∨
     ∃ (s : Str) (j : Nat), ks.filter svK = [s] ∧ ks[j]? = some s ∧ (∀ m, m < j → ks[m]? ≠ some s) ∧ ∀ (H' : Hp) (T G : Addr), LamX.ExtN H H' → Tbs Ts D H' → H' G = some (.tup ((ts.drop (ks.filter fun k => !svK k).length).map fun t => V.int t.2.2)) →
       H' T = some (.tup (.str wd :: (((ts.take (ks.filter fun k => !svK k).length).map fun t => V.int t.2.2).take j ++ [.ref G] ++ ((ts.take (ks.filter fun k => !svK k).length).map fun t => V.int t.2.2).drop j))) → Q (.ref T) H'))
abbrev nThing : List Str := ["words", "kinds", "several", "asked", "single", "numbers", "parts", "kind"]
theorem scThing : FnScope nThing ["words", "kinds"] (defScope sThingIn) := ⟨rfl, rfl, rfl, by decide +kernel, rfl, by decide +kernel, by decide +kernel⟩
section
variable {P0 : Program} {w : World} {K : PySem.W.Frag} {mg : Str → Option Value} {base : Heap} {Ts : List Addr} {Dd : Addr}
theorem ok_thing {f fN gV : Addr} {fd fdN : FuncData} {k : Nat} (D : Df K mg "thing_in" sThingIn ["words", "kinds"] f fd) (B : Bi mg) (hV : mg "SEVERAL" = some (.ref gV)) (tV : ∀ H, SqT K H gV [.str "parts", .str "rooms"])
    (DN : Df K mg "numbers_by" sNumsBy ["words", "kinds"] fN fdN) (GN : FnOk P0 w K mg base CX0 k fN fdN ["words", "kinds"] (spNumsBy K Ts Dd)) :
    FnOk P0 w K mg base CX0 (k + 1) f fd ["words", "kinds"] (spThing K Ts Dd) := by
  refine D.F.ok scThing (fun vs H Q E h => ?_) (fun cdv A outer s H vs Q E hr h => ?_)
  · obtain ⟨wa, wd, kv, ws, rfl, _⟩ := h
    simp
  · obtain ⟨wa, wd, kv, ws, rfl, hw, hT, h⟩ := h
    refine ⟨_, (pss_cons (ps_if (pt_cmp (pc_isN (pv 1))) (pss_one (ps_ret pe_non)) pss_nil)
      (pss_cons (ps_setLc (i := 2) (own := [("kind", 7)]) (g := gName 7) (tt := tIn K (tVar 7) (tC (.ref gV))) (te := tVar 7) (by rfl) scThing.nd rfl rfl (sw_true rfl rfl rfl (by decide +kernel)) (pi_tup (pv 1)) (blkOk_by (own := [("kind", 7)]) (N := nThing) (sc := defScope sThingIn) (by decide +kernel)) (fun _ _ _ _ _ => (pg_name (i := 7) scThing.nd rfl (.inl rfl))) (fun _ _ _ _ _ => pts_one (pt_cmpR op_in_seq (pv 7) (pe_glob (v := .ref gV) (by rfl) hV rfl) rfl)) (fun _ _ _ _ _ => pv 7))
      (pss_cons (ps_setLc (i := 3) (own := [("kind", 7)]) (g := gName 7) (tt := tNotIn K (tVar 7) (tC (.ref gV))) (te := tVar 7) (by rfl) scThing.nd rfl rfl (sw_true rfl rfl rfl (by decide +kernel)) (pi_tup (pv 1)) (blkOk_by (own := [("kind", 7)]) (N := nThing) (sc := defScope sThingIn) (by decide +kernel)) (fun _ _ _ _ _ => (pg_name (i := 7) scThing.nd rfl (.inl rfl))) (fun _ _ _ _ _ => pts_one (pt_cmpR op_notIn_seq (pv 7) (pe_glob (v := .ref gV) (by rfl) hV rfl) rfl)) (fun _ _ _ _ _ => pv 7))
      (pss_cons (ps_set (i := 4) scThing.nd rfl (.inl rfl) (pe_callB call_len_seq (by rfl) B.len PySem.boot_len (pa_cons (pv 3) pa_nil)))
      (pss_cons (ps_expr (pe_bm PySem.F.plainAttrs_list PySem.F.slot_list_extend PySem.F.type_list_extend mt_extend (pv 3) (pa_cons (pe_op op_rep (pv 2) (pe_callB (call_max2 rfl) (by rfl) B.max PyProof.Rows.boot_max (pa_cons pe_int (pa_cons (pe_op op_sub (pe_op op_sub (pe_callB call_len_seq (by rfl) B.len PySem.boot_len (pa_cons (pv 0) pa_nil)) pe_int) (pv 4)) pa_nil)))) pa_nil)))
      (pss_cons (ps_set (i := 5) scThing.nd rfl (.inl rfl) (pe_call GN hr (by rfl) DN.g DN.F.kp DN.b .nil pass0 (pa_cons (pe_slice sl_list (pv 0) (po_some pe_int) po_none) (pa_cons (pv 3) pa_nil))))
      (pss_cons (ps_if (pt_cmp (pc_isN (pv 5))) (pss_one (ps_ret pe_non)) pss_nil)
      (pss_cons (ps_set (i := 6) scThing.nd rfl (.inl rfl) (pe_slice sl_list (pv 5) po_none (po_some (pv 4))))
      (pss_cons (ps_for PassesOwn.never rfl (pi_list (pv 2)) (pg_name (i := 7) scThing.nd rfl (.inl rfl)) (pss_one (ps_expr (pe_bm PySem.F.plainAttrs_list PySem.F.slot_list_insert PySem.F.type_list_insert mt_insert (pv 6) (pa_cons (pe_bm PySem.F.plainAttrs_tuple PySem.F.slot_tuple_index PySem.F.type_tuple_index mt_tup_index (pv 1) (pa_cons (pv 7) pa_nil)) (pa_cons (pe_callTy call_tuple_of (by rfl) B.tuple PyProof.Rows.boot_tuple (pa_cons (pe_slice sl_list (pv 5) (po_some (pv 4)) po_none) pa_nil)) pa_nil))))))
      (pss_one (ps_ret (pe_tup (pa_cons (pe_ix ix_list (pv 0) pe_int (fun _ _ => rfl)) (StX.pa_star (pv 6) pa_nil)))))))))))))), ?_⟩
    rcases h with ⟨rfl, q⟩ | ⟨ka, ks, ts, rfl, hTK, hk, rfl, hK, h⟩
    · exact ⟨_, rfl, _, rfl, ifP (by rfl) q⟩
    refine ⟨_, rfl, _, rfl, ifN (by intro h; cases of_decide_eq_true h) ?_⟩
    have hl4 := hK.l4
    -- several
    refine ⟨_, rfl, ka, rfl, ⟨_, hk _⟩, fun S nS => ?_⟩
    have sS := new_same (o := .lst []) nS
    refine lc_tup (K := K) (a := ka) (xs := ks.map V.str) (fun i H2 => Same H H2 ∧ H2 S = some (.lst (((ks.take i).filter svK).map V.str))) ⟨sS, upd_same⟩ (fun i H2 _ hP => hk _) (fun i x H2 hx hP => ?_) (fun H2 hP => ?_)
    · obtain ⟨s2, eS⟩ := hP
      rw [List.getElem?_map] at hx
      obtain ⟨kx, hx', rfl⟩ := Option.map_eq_some_iff.mp hx
      have hil := (List.getElem?_eq_some_iff.mp hx').1
      have hf := filt_take svK hx'
      refine ⟨rfl, _, rfl, gV, _, rfl, .inr (tV _), rfl, rfl, _, rfl, ?_⟩
      show if svK kx = true then _ else _
      have hfl : ((ks.take i).filter svK).length ≤ 4 := Nat.le_trans (List.length_filter_le _ _) (by rw [List.length_take]; omega)
      refine ite2 (fun e => ?_) (fun e => ?_)
      · refine ⟨_, rfl, _, eS, by rw [List.length_map]; exact szt (by omega), Same.upd s2 nS, ?_⟩
        rw [upd_same, hf, if_pos e, List.map_append]
        rfl
      · rw [if_neg e, List.append_nil] at hf
        exact ⟨s2, by rw [hf]; exact eS⟩
    obtain ⟨s2, eS⟩ := hP
    rw [List.length_map, List.take_length] at eS
    -- asked
    refine ⟨_, rfl, ka, rfl, ⟨_, hk _⟩, fun Ak nA => ?_⟩
    have sA := new_same (o := .lst []) nA
    have nSA : S ≠ Ak := ne_of_none eS nA
    refine lc_tup (K := K) (a := ka) (xs := ks.map V.str) (fun i H3 => Same H2 H3 ∧ H3 Ak = some (.lst (((ks.take i).filter fun k => !svK k).map V.str))) ⟨sA, upd_same⟩ (fun i H2 _ hP => hk _) (fun i x H3 hx hP => ?_) (fun H3 hP => ?_)
    · obtain ⟨s3, eA⟩ := hP
      rw [List.getElem?_map] at hx
      obtain ⟨kx, hx', rfl⟩ := Option.map_eq_some_iff.mp hx
      have hil := (List.getElem?_eq_some_iff.mp hx').1
      have hf := filt_take (fun k => !svK k) hx'
      refine ⟨rfl, _, rfl, gV, _, rfl, .inr (tV _), rfl, rfl, _, rfl, ?_⟩
      show if (!svK kx) = true then _ else _
      have hfl : ((ks.take i).filter fun k => !svK k).length ≤ 4 := Nat.le_trans (List.length_filter_le _ _) (by rw [List.length_take]; omega)
      refine ite2 (fun e => ?_) (fun e => ?_)
      · refine ⟨_, rfl, _, eA, by rw [List.length_map]; exact szt (by omega), Same.upd s3 nA, ?_⟩
        rw [upd_same, hf, if_pos e, List.map_append]
        rfl
      · rw [if_neg e, List.append_nil] at hf
        exact ⟨s3, by rw [hf]; exact eA⟩
    obtain ⟨s3, eA⟩ := hP
    rw [List.length_map, List.take_length] at eA
    have eS3 := s3 _ _ eS
    have hA4 : (ks.filter fun k => !svK k).length ≤ 4 := Nat.le_trans (List.length_filter_le _ _) hl4
    have hS4 : (ks.filter svK).length ≤ 4 := Nat.le_trans (List.length_filter_le _ _) hl4
    have hkd := hK.kd
    have hlw := hK.lw
    have hAn : nt H Ak = none := by
      have : H2 Ak = none := nA
      cases e : H Ak with
      | none => exact nt_none e
      | some o => rw [s2 _ _ e] at this; cases this
    generalize ks.filter (fun k => !svK k) = ak at eA hA4 hkd h
    generalize ks.filter svK = se at eS3 hS4 hkd h eS
    have s13 := s2.trans s3
    refine ⟨_, rfl, Ak, _, rfl, .inl (sqL eA), ?_⟩
    -- what is asked, in full
    refine ⟨_, rfl, .inl ⟨rfl, _, sqL eA⟩, _, rfl, _, rfl, wa, _, rfl, .inl (s13.seq (ntL hw)), _, _, rfl, rfl, _, rfl, _, _, rfl, rfl, _, _, rfl, ?_⟩
    have hM : (if ((((wd :: ts.map (·.1)).map V.str).length : Int) - 1 - ((ak.map V.str).length : Int)) > 1 then ((((wd :: ts.map (·.1)).map V.str).length : Int) - 1 - ((ak.map V.str).length : Int)) else 1) = ((max 1 (ts.length - ak.length) : Nat) : Int) := by
      rw [List.length_map, List.length_cons, List.length_map, List.length_map]
      split <;> omega
    have hml : max 1 (ts.length - ak.length) ≤ 900 := by omega
    refine ⟨S, _, _, rfl, rfl, eS3, ?_⟩
    rw [hM]
    generalize max 1 (ts.length - ak.length) = M at hkd hml
    have hsz : (se.map V.str).length * ((M : Nat) : Int).toNat ≤ sizeLine := by
      rw [List.length_map, Int.toNat_natCast]
      exact szl (Nat.le_trans (Nat.mul_le_mul hS4 hml) (by decide))
    refine ⟨by omega, by omega, hsz, fun X nX => ?_⟩
    have sX := new_same (o := .lst (List.replicate ((M : Nat) : Int).toNat (se.map V.str)).flatten) nX
    have eX : upd H3 X (.lst (List.replicate ((M : Nat) : Int).toNat (se.map V.str)).flatten) X = some (.lst (List.replicate ((M : Nat) : Int).toNat (se.map V.str)).flatten) := upd_same
    have eA4 := sX _ _ eA
    have eS4 := sX _ _ eS3
    have s14 := s13.trans sX
    generalize upd H3 X (.lst (List.replicate ((M : Nat) : Int).toNat (se.map V.str)).flatten) = H4 at sX eX eA4 eS4 s14
    have hkl : ts.length = ak.length + ((List.replicate M se).flatten).length := by
      have := congrArg List.length hkd
      rw [List.length_map, List.length_append] at this
      exact this
    have hfull : ak.map V.str ++ (List.replicate ((M : Nat) : Int).toNat (se.map V.str)).flatten = ts.map fun t => V.str t.2.1 := by
      rw [Int.toNat_natCast, map_rep, ← List.map_append, ← hkd, List.map_map]
      rfl
    refine ⟨Ak, X, _, _, rfl, rfl, eA4, eX, ?_, ?_⟩
    · have := congrArg List.length hfull
      rw [List.length_append, List.length_map, List.length_map] at this
      rw [List.length_map, this]
      exact szl (Nat.le_trans hlw (by decide))
    rw [hfull]
    have s15 : Same H (upd H4 Ak (.lst (ts.map fun t => V.str t.2.1))) := fun b o hb => by
      rw [upd_ne (fun z => by rw [z] at hb; have := s2 _ _ hb; rw [nA] at this; cases this)]
      exact s14 _ _ hb
    have eA5 : upd H4 Ak (.lst (ts.map fun t => V.str t.2.1)) Ak = some (.lst (ts.map fun t => V.str t.2.1)) := upd_same
    have eS5 : upd H4 Ak (.lst (ts.map fun t => V.str t.2.1)) S = some (.lst (se.map V.str)) := by rw [upd_ne nSA]; exact eS4
    generalize upd H4 Ak (.lst (ts.map fun t => V.str t.2.1)) = H5 at s15 eA5 eS5
    -- the numbers
    refine ⟨_, rfl, 1, rfl, wa, _, rfl, s15.seq (ntL hw), fun W nW => ?_⟩
    rw [show cutV ((wd :: ts.map (·.1)).map V.str) (some 1) none = ts.map fun t => V.str t.1 by rw [List.map_cons, cut_one, List.map_map]; rfl]
    have sW := new_same (o := .lst (ts.map fun t => V.str t.1)) nW
    have eW : upd H5 W (.lst (ts.map fun t => V.str t.1)) W = some (.lst (ts.map fun t => V.str t.1)) := upd_same
    have eA6 := sW _ _ eA5
    have eS6 := sW _ _ eS5
    have s16 := s15.trans sW
    generalize upd H5 W (.lst (ts.map fun t => V.str t.1)) = H6 at sW eW eA6 eS6 s16
    refine ⟨_, rfl, W, Ak, ts, rfl, sqL (nt_at eW (fun ps z => by cases z)), sqL (nt_at eA6 (fun ps z => by cases z)), by omega, hK.nm, hT.same s16, fun Nn H7 nN e7 t7 eN => ?_⟩
    have eS7 := e7 _ _ eS6 (fun ps z => by cases z)
    have eH7 := (same_ext s16).trans e7
    refine ⟨_, rfl, _, rfl, ifN (by intro h; cases of_decide_eq_true h) ?_⟩
    refine ⟨_, rfl, _, rfl, _, rfl, Nn, _, rfl, sqL eN, fun Pt nP => ?_⟩
    rw [List.length_map, cut_take]
    have sP := new_same (o := .lst ((ts.map fun t => V.int t.2.2).take ak.length)) nP
    have eP : upd H7 Pt (.lst ((ts.map fun t => V.int t.2.2).take ak.length)) Pt = some (.lst ((ts.map fun t => V.int t.2.2).take ak.length)) := upd_same
    have eS8 := sP _ _ eS7
    have eN8 := sP _ _ eN
    have eH8 := eH7.trans (same_ext sP)
    have t8 := t7.same sP
    have nPS : S ≠ Pt := ne_of_none eS7 nP
    have nPN : Nn ≠ Pt := ne_of_none eN nP
    have nPH : nt H Pt = none := by
      cases e : nt H Pt with
      | none => rfl
      | some o => have := (nt_to (ext_nt eH7 _ _ e)).1; rw [nP] at this; cases this
    generalize upd H7 Pt (.lst ((ts.map fun t => V.int t.2.2).take ak.length)) = H8 at sP eP eS8 eN8 eH8 t8
    refine ⟨_, rfl, S, rfl, ⟨_, sqL eS8⟩, ?_⟩
    have hpt : (ts.take ak.length).map (fun t => V.int t.2.2) = (ts.map fun t => V.int t.2.2).take ak.length := List.map_take
    have hdr : (ts.drop ak.length).map (fun t => V.int t.2.2) = (ts.map fun t => V.int t.2.2).drop ak.length := List.map_drop
    have hpl : ((ts.map fun t => V.int t.2.2).take ak.length).length ≤ 4 := by rw [List.length_take]; omega
    rcases h with ⟨rfl, q⟩ | ⟨z, j, rfl, hj1, hj2, q⟩
    · refine for_list (K := K) (a := S) (xs := ([] : List Str).map V.str) (fun i σ Hx => σ = [some (.ref wa), some (.ref ka), some (.ref S), some (.ref Ak), some (.int (ak.length : Nat)), some (.ref Nn), some (.ref Pt), none] ∧ Hx = H8) ⟨rfl, rfl⟩ (fun i σ Hx _ hP => by rw [hP.2]; exact sqL eS8) (fun i x σ Hx hx hP => by simp at hx) (fun σ Hx hP => ?_)
      obtain ⟨rfl, rfl⟩ := hP
      refine ⟨_, rfl, wa, _, _, .str wd, rfl, rfl, ntL ((ext_nt eH8).seq hw), atI_nat (j := 0) rfl, _, rfl, Pt, _, rfl, .inr (sqL eP), ?_, fun T nT => ?_⟩
      · rw [List.append_nil, List.length_cons]
        exact szl (by omega)
      · rw [List.append_nil]
        have sT := new_same (o := .tup (.str wd :: (ts.map fun t => V.int t.2.2).take ak.length)) nT
        refine q _ _ (eH8.trans (same_ext sT)) (t8.same sT) ?_
        rw [upd_same]
        rw [flat_nil0] at hkl
        rw [List.take_of_length_le (by rw [List.length_map, hkl]; exact Nat.le_refl _)]
    · refine for_list (K := K) (a := S) (xs := [z].map V.str) (fun i σ Hx => ∃ y7, σ = [some (.ref wa), some (.ref ka), some (.ref S), some (.ref Ak), some (.int (ak.length : Nat)), some (.ref Nn), some (.ref Pt), y7] ∧ LamX.ExtN H Hx ∧ Tbs Ts Dd Hx ∧ Hx S = some (.lst ([z].map V.str)) ∧ ((i = 0 ∧ Hx = H8) ∨ (i = 1 ∧ ∃ G, Hx G = some (.tup ((ts.map fun t => V.int t.2.2).drop ak.length)) ∧ Hx Pt = some (.lst (((ts.map fun t => V.int t.2.2).take ak.length).take j ++ [.ref G] ++ ((ts.map fun t => V.int t.2.2).take ak.length).drop j)))))
        ⟨none, rfl, eH8, t8, eS8, .inl ⟨rfl, rfl⟩⟩ (fun i σ Hx _ hP => ?_) (fun i x σ Hx hx hP => ?_) (fun σ Hx hP => ?_)
      · obtain ⟨_, _, _, _, eSx, _⟩ := hP
        exact sqL eSx
      · obtain ⟨y7, rfl, ex, tx, eSx, hc⟩ := hP
        have hi0 : i = 0 := by have := (List.getElem?_eq_some_iff.mp hx).1; simp at this; exact this
        subst hi0
        cases hx
        rcases hc with ⟨_, rfl⟩ | ⟨hc, _⟩
        · have hj3 : j < ks.length := (List.getElem?_eq_some_iff.mp hj1).1
          refine ⟨_, rfl, .inl ⟨rfl, _, sqL eP⟩, _, rfl, .inr (.inl ⟨rfl, hTK⟩), .str z, rfl, ka, ks, z, j, rfl, rfl, hk _, hj1, hj2, ?_⟩
          refine ⟨_, rfl, _, rfl, _, rfl, Nn, _, rfl, sqL eN8, fun X2 nX2 => ?_⟩
          rw [cut_drop]
          have sX2 := new_same (o := .lst ((ts.map fun t => V.int t.2.2).drop ak.length)) nX2
          refine ⟨X2, _, rfl, .inl ⟨sqL upd_same, fun G nG => ?_⟩⟩
          have sG := sX2.trans (new_same (o := .tup ((ts.map fun t => V.int t.2.2).drop ak.length)) nG)
          have eG : upd (upd Hx X2 (.lst ((ts.map fun t => V.int t.2.2).drop ak.length))) G (.tup ((ts.map fun t => V.int t.2.2).drop ak.length)) G = some (.tup ((ts.map fun t => V.int t.2.2).drop ak.length)) := upd_same
          generalize upd (upd Hx X2 (.lst ((ts.map fun t => V.int t.2.2).drop ak.length))) G (.tup ((ts.map fun t => V.int t.2.2).drop ak.length)) = H9 at sG eG
          have eP9 := sG _ _ eP
          have e89 := eH8.trans (same_ext sG)
          refine ⟨Pt, _, (j : Int), .ref G, rfl, rfl, eP9, szt (by omega), by omega, by omega, ?_⟩
          refine ⟨_, rfl, ?_, (t8.same sG).upd eP9, by rw [upd_ne nPS]; exact sG _ _ eS8, .inr ⟨rfl, G, ?_, ?_⟩⟩
          · refine fun b u h1 h2 => ?_
            rw [upd_ne (fun w => by have := nt_at h1 h2; rw [w, nPH] at this; cases this)]
            exact e89 b u h1 h2
          · rw [upd_ne (fun w => by rw [w, eP9] at eG; cases eG)]
            exact eG
          · rw [upd_same, Int.toNat_natCast]
        · cases hc
      · obtain ⟨y7, rfl, ex, tx, eSx, hc⟩ := hP
        rcases hc with ⟨hc, _⟩ | ⟨_, G, eG, ePx⟩
        · cases hc
        refine ⟨_, rfl, wa, _, _, .str wd, rfl, rfl, ntL ((ext_nt ex).seq hw), atI_nat (j := 0) rfl, _, rfl, Pt, _, rfl, .inr (sqL ePx), ?_, fun T nT => ?_⟩
        · rw [List.append_nil, List.length_cons, List.length_append, List.length_append, List.length_take, List.length_drop, List.length_singleton]
          exact szl (by omega)
        · rw [List.append_nil]
          have sT := new_same (o := .tup (.str wd :: (((ts.map fun t => V.int t.2.2).take ak.length).take j ++ [.ref G] ++ ((ts.map fun t => V.int t.2.2).take ak.length).drop j))) nT
          refine q _ _ G (ex.trans (same_ext sT)) (tx.same sT) ?_ ?_
          · rw [hdr]; exact sT _ _ eG
          · rw [hpt]; exact upd_same
end
end Gn
set_option Elab.async false
set_option linter.all false
set_option maxRecDepth 100000
set_option maxHeartbeats 4000000
set_option pp.maxSteps 3000
namespace Gn
open PySem PySem.Spec PyProof.Rows L2
/-! ### a row's words -/
def wN (k : Str) (n : Nat) : Wt := (nT (n : Int), k, (n : Int))
def Rw.wts : Rw → List Wt
  | .take i => [wN "place" i]
  | .num n => [(nT n, "number", n)]
  | .bin _ x y => [wN "row" x, wN "row" y]
  | .pick x ps => wN "row" x :: ps.map (wN "parts")
  | .meet ps => ps.map (wN "parts")
  | .tell x => [wN "row" x]
  | .look rs x => wN "row" x :: rs.map (wN "rooms")
  | .lay rs x y => wN "row" x :: wN "row" y :: rs.map (wN "rooms")
def En.wts : En → List Wt
  | .go b => [wN "block" b]
  | .iff r b c => [wN "row" r, wN "block" b, wN "block" c]
  | .fin => []
theorem wN_1 (k : Str) (ps : List Nat) : (ps.map (wN k)).map (·.1) = (nI ps).map nT := by
  unfold nI
  rw [List.map_map, List.map_map]
  rfl
theorem wN_2 (k : Str) (ps : List Nat) : (ps.map (wN k)).map (·.2.1) = List.replicate ps.length k := by
  rw [List.map_map, ← List.map_const']
  rfl
theorem wN_3 (k : Str) (ps : List Nat) : ((ps.map (wN k)).map fun t => V.int t.2.2) = ps.map iv := by
  rw [List.map_map]
  rfl
theorem rw_words (r : Rw) : r.wts.map (·.1) = r.nums.map nT := by
  cases r with
  | pick x ps => exact congrArg (nT (x : Int) :: ·) (wN_1 _ ps)
  | meet ps => exact wN_1 _ ps
  | look rs x => exact congrArg (nT (x : Int) :: ·) (wN_1 _ rs)
  | lay rs x y => exact congrArg (fun l => nT (x : Int) :: nT (y : Int) :: l) (wN_1 _ rs)
  | _ => rfl
theorem en_words (e : En) : e.wts.map (·.1) = e.nums.map nT := by cases e <;> rfl
theorem flat_rep (n : Nat) (s : Str) : (List.replicate n [s]).flatten = List.replicate n s := by
  induction n with
  | zero => rfl
  | succ n ih => rw [List.replicate_succ, List.flatten_cons, ih]; rfl
theorem flat_nil (n : Nat) : (List.replicate n ([] : List Str)).flatten = [] := by
  induction n with
  | zero => rfl
  | succ n ih => rw [List.replicate_succ, List.flatten_cons, ih]; rfl
theorem kd_row {n : Nat} (h : n < 1000) : KdNum "row" (nT (n : Int)) (n : Int) := .inr (.inr ⟨.inl rfl, nameW_nT h⟩)
theorem kd_block {n : Nat} (h : n < 1000) : KdNum "block" (nT (n : Int)) (n : Int) := .inr (.inr ⟨.inr (.inl rfl), nameW_nT h⟩)
theorem kd_parts {n : Nat} (h : n < 1000) : KdNum "parts" (nT (n : Int)) (n : Int) := .inr (.inr ⟨.inr (.inr rfl), nameW_nT h⟩)
theorem kd_place {n : Nat} (h : n < 6) : KdNum "place" (nT (n : Int)) (n : Int) := .inr (.inl ⟨.inl rfl, nameW_nT (Nat.lt_trans h (by decide)), by omega⟩)
theorem kd_rooms {n : Nat} (h : n < 6) : KdNum "rooms" (nT (n : Int)) (n : Int) := .inr (.inl ⟨.inr rfl, nameW_nT (Nat.lt_trans h (by decide)), by omega⟩)
theorem all_wN {k : Str} {ps : List Nat} {m : Nat} (h : ∀ y ∈ ps, y < m) (g : ∀ {n : Nat}, n < m → KdNum k (nT (n : Int)) (n : Int)) : ∀ t ∈ ps.map (wN k), KdNum t.2.1 t.1 t.2.2 := fun t ht => by
  obtain ⟨n, hn, rfl⟩ := List.mem_map.mp ht
  exact g (h n hn)
theorem all_cons {α : Type} {P : α → Prop} {x : α} {xs : List α} (h : P x) (t : ∀ y ∈ xs, P y) : ∀ y ∈ x :: xs, P y := fun y hy => by
  rcases List.mem_cons.mp hy with rfl | hy
  · exact h
  · exact t y hy
theorem all_nil {α : Type} {P : α → Prop} : ∀ y ∈ ([] : List α), P y := fun y hy => (by cases hy)
theorem pos_len {α : Type} {l : List α} (h : l ≠ []) : 1 ≤ l.length := List.length_pos_iff.mpr h
theorem rw_kds {r : Rw} (h : RwA (· < 1000) r) : KdsOk r.kdS r.wts := by
  cases r with
  | take i => exact ⟨(by decide : 1 ≤ 4), rfl, (by decide : 1 ≤ 900), all_cons (kd_place h) all_nil⟩
  | num n => exact ⟨(by decide : 1 ≤ 4), rfl, (by decide : 1 ≤ 900), all_cons (.inl ⟨rfl, numW_nT h⟩) all_nil⟩
  | bin b x y => exact ⟨(by decide : 2 ≤ 4), rfl, (by decide : 2 ≤ 900), all_cons (kd_row h.1) (all_cons (kd_row h.2) all_nil)⟩
  | tell x => exact ⟨(by decide : 1 ≤ 4), rfl, (by decide : 1 ≤ 900), all_cons (kd_row h) all_nil⟩
  | pick x ps =>
    obtain ⟨h1, h2, h3, h4⟩ := h
    have hp := pos_len h3
    refine ⟨(by decide : 2 ≤ 4), ?_, ?_, all_cons (kd_row h1) (all_wN h2 kd_parts)⟩
    · show ("row" : Str) :: (ps.map (wN "parts")).map (·.2.1) = (["row"] : List Str) ++ (List.replicate (max 1 ((ps.map (wN "parts")).length + 1 - 1)) (["parts"] : List Str)).flatten
      rw [wN_2, List.length_map, flat_rep, Nat.max_eq_right (by omega)]
      rfl
    · show (ps.map (wN "parts")).length + 1 ≤ 900
      rw [List.length_map]; omega
  | meet ps =>
    obtain ⟨h2, h3, h4⟩ := h
    have hp := pos_len h3
    refine ⟨(by decide : 1 ≤ 4), ?_, ?_, all_wN h2 kd_parts⟩
    · show (ps.map (wN "parts")).map (·.2.1) = ([] : List Str) ++ (List.replicate (max 1 ((ps.map (wN "parts")).length - 0)) (["parts"] : List Str)).flatten
      rw [wN_2, List.length_map, flat_rep, Nat.max_eq_right (by omega)]
      rfl
    · show (ps.map (wN "parts")).length ≤ 900
      rw [List.length_map]; omega
  | look rs x =>
    obtain ⟨h1, h2, h3, h4, h5⟩ := h
    have hp := pos_len h4
    refine ⟨(by decide : 2 ≤ 4), ?_, ?_, all_cons (kd_row h1) (all_wN h3 kd_rooms)⟩
    · show ("row" : Str) :: (rs.map (wN "rooms")).map (·.2.1) = (["row"] : List Str) ++ (List.replicate (max 1 ((rs.map (wN "rooms")).length + 1 - 1)) (["rooms"] : List Str)).flatten
      rw [wN_2, List.length_map, flat_rep, Nat.max_eq_right (by omega)]
      rfl
    · show (rs.map (wN "rooms")).length + 1 ≤ 900
      rw [List.length_map]; omega
  | lay rs x y =>
    obtain ⟨h1, h1', h2, h3, h4, h5⟩ := h
    have hp := pos_len h4
    refine ⟨(by decide : 3 ≤ 4), ?_, ?_, all_cons (kd_row h1) (all_cons (kd_row h1') (all_wN h3 kd_rooms))⟩
    · show ("row" : Str) :: ("row" : Str) :: (rs.map (wN "rooms")).map (·.2.1) = (["row", "row"] : List Str) ++ (List.replicate (max 1 ((rs.map (wN "rooms")).length + 1 + 1 - 2)) (["rooms"] : List Str)).flatten
      rw [wN_2, List.length_map, flat_rep, Nat.max_eq_right (by omega)]
      rfl
    · show (rs.map (wN "rooms")).length + 1 + 1 ≤ 900
      rw [List.length_map]; omega
theorem en_kds {e : En} (h : EnB 7 1000 e) : KdsOk e.kdS e.wts := by
  cases e with
  | go b => exact ⟨(by decide : 1 ≤ 4), rfl, (by decide : 1 ≤ 900), all_cons (kd_block (by have h : b < 7 := h; omega)) all_nil⟩
  | iff r b c =>
    obtain ⟨h1, h2, h3⟩ := h
    exact ⟨(by decide : 3 ≤ 4), rfl, (by decide : 3 ≤ 900), all_cons (kd_row h1) (all_cons (kd_block (by omega)) (all_cons (kd_block (by omega)) all_nil))⟩
  | fin => exact ⟨(by decide : 0 ≤ 4), rfl, (by decide : 0 ≤ 900), all_nil⟩
/-- what thing_in asks of a row's words, and tells -/
theorem thing_row {K : PySem.W.Frag} {Ts : List Addr} {D : Addr} {H : Hp} {P : Hp → Addr → Prop} {r : Rw} (h : RwA (· < 1000) r)
    (q : ∀ (H' : Hp) (T : Addr), LamX.ExtN H H' → Tbs Ts D H' → RowAt K (nt H') (.ref T) r → P H' T) :
    (r.kdS.filter svK = [] ∧ ∀ (H' : Hp) (T : Addr), LamX.ExtN H H' → Tbs Ts D H' → H' T = some (.tup (.str r.w :: r.wts.map fun t => V.int t.2.2)) → P H' T) ∨
     ∃ (s : Str) (j : Nat), r.kdS.filter svK = [s] ∧ r.kdS[j]? = some s ∧ (∀ m, m < j → r.kdS[m]? ≠ some s) ∧ ∀ (H' : Hp) (T G : Addr), LamX.ExtN H H' → Tbs Ts D H' → H' G = some (.tup ((r.wts.drop (r.kdS.filter fun k => !svK k).length).map fun t => V.int t.2.2)) →
       H' T = some (.tup (.str r.w :: (((r.wts.take (r.kdS.filter fun k => !svK k).length).map fun t => V.int t.2.2).take j ++ [.ref G] ++ ((r.wts.take (r.kdS.filter fun k => !svK k).length).map fun t => V.int t.2.2).drop j))) → P H' T := by
  have at_ : ∀ {H' : Hp} {a : Addr} {xs : List V}, H' a = some (.tup xs) → SqT K (nt H') a xs := fun e => sqT (nt_at e (fun ps z => by cases z))
  cases r with
  | take i => exact .inl ⟨rfl, fun H' T e t eT => q H' T e t ⟨T, _, rfl, at_ eT, rfl⟩⟩
  | num i => exact .inl ⟨rfl, fun H' T e t eT => q H' T e t ⟨T, _, rfl, at_ eT, rfl⟩⟩
  | bin b x y => exact .inl ⟨rfl, fun H' T e t eT => q H' T e t ⟨T, _, rfl, at_ eT, rfl⟩⟩
  | tell x => exact .inl ⟨rfl, fun H' T e t eT => q H' T e t ⟨T, _, rfl, at_ eT, rfl⟩⟩
  | pick x ps =>
    refine .inr ⟨"parts", 1, rfl, rfl, fun m hm => by rw [show m = 0 by omega]; exact (by decide : (some ("row" : Str)) ≠ some "parts"), fun H' T G e t eG eT => q H' T e t ⟨T, _, rfl, at_ eT, G, rfl, ?_⟩⟩
    rw [← wN_3 "parts" ps]
    exact at_ eG
  | meet ps =>
    refine .inr ⟨"parts", 0, rfl, rfl, fun m hm => absurd hm (Nat.not_lt_zero m), fun H' T G e t eG eT => q H' T e t ⟨T, _, rfl, at_ eT, G, rfl, ?_⟩⟩
    rw [← wN_3 "parts" ps]
    exact at_ eG
  | look rs x =>
    refine .inr ⟨"rooms", 0, rfl, rfl, fun m hm => absurd hm (Nat.not_lt_zero m), fun H' T G e t eG eT => q H' T e t ⟨T, _, rfl, at_ eT, G, rfl, ?_⟩⟩
    rw [← wN_3 "rooms" rs]
    exact at_ eG
  | lay rs x y =>
    refine .inr ⟨"rooms", 0, rfl, rfl, fun m hm => absurd hm (Nat.not_lt_zero m), fun H' T G e t eG eT => q H' T e t ⟨T, _, rfl, at_ eT, G, rfl, ?_⟩⟩
    rw [← wN_3 "rooms" rs]
    exact at_ eG
theorem thing_end {K : PySem.W.Frag} {Ts : List Addr} {D : Addr} {H : Hp} {P : Hp → Addr → Prop} {r : En}
    (q : ∀ (H' : Hp) (T : Addr), LamX.ExtN H H' → Tbs Ts D H' → EnAt K (nt H') (.ref T) r → P H' T) :
    (r.kdS.filter svK = [] ∧ ∀ (H' : Hp) (T : Addr), LamX.ExtN H H' → Tbs Ts D H' → H' T = some (.tup (.str r.word :: r.wts.map fun t => V.int t.2.2)) → P H' T) := by
  have at_ : ∀ {H' : Hp} {a : Addr} {xs : List V}, H' a = some (.tup xs) → SqT K (nt H') a xs := fun e => sqT (nt_at e (fun ps z => by cases z))
  cases r with
  | go b => exact ⟨rfl, fun H' T e t eT => q H' T e t ⟨T, rfl, at_ eT⟩⟩
  | iff r b c => exact ⟨rfl, fun H' T e t eT => q H' T e t ⟨T, rfl, at_ eT⟩⟩
  | fin => exact ⟨rfl, fun H' T e t eT => q H' T e t ⟨T, rfl, at_ eT⟩⟩
/-! ### a line's words -/
theorem nT_free {k : Nat} (hk : k ≠ 45 ∧ (k < 48 ∨ 57 < k)) (z : Int) : k ∉ (nT z).cps.toList := int_text_free' k hk z
theorem w_free (r : Rw) : 32 ∉ r.w.cps.toList ∧ 10 ∉ r.w.cps.toList := by
  cases r with
  | bin b x y => show 32 ∉ b.w.cps.toList ∧ 10 ∉ b.w.cps.toList; cases b <;> decide +kernel
  | take _ => exact (by decide +kernel : 32 ∉ ("take" : Str).cps.toList ∧ 10 ∉ ("take" : Str).cps.toList)
  | num _ => exact (by decide +kernel : 32 ∉ ("num" : Str).cps.toList ∧ 10 ∉ ("num" : Str).cps.toList)
  | pick _ _ => exact (by decide +kernel : 32 ∉ ("pick" : Str).cps.toList ∧ 10 ∉ ("pick" : Str).cps.toList)
  | meet _ => exact (by decide +kernel : 32 ∉ ("meet" : Str).cps.toList ∧ 10 ∉ ("meet" : Str).cps.toList)
  | tell _ => exact (by decide +kernel : 32 ∉ ("tell" : Str).cps.toList ∧ 10 ∉ ("tell" : Str).cps.toList)
  | look _ _ => exact (by decide +kernel : 32 ∉ ("look" : Str).cps.toList ∧ 10 ∉ ("look" : Str).cps.toList)
  | lay _ _ _ => exact (by decide +kernel : 32 ∉ ("lay" : Str).cps.toList ∧ 10 ∉ ("lay" : Str).cps.toList)
theorem ew_free (e : En) : 32 ∉ e.word.cps.toList ∧ 10 ∉ e.word.cps.toList := by
  cases e with
  | go _ => exact (by decide +kernel : 32 ∉ ("go" : Str).cps.toList ∧ 10 ∉ ("go" : Str).cps.toList)
  | iff _ _ _ => exact (by decide +kernel : 32 ∉ ("if" : Str).cps.toList ∧ 10 ∉ ("if" : Str).cps.toList)
  | fin => exact (by decide +kernel : 32 ∉ ("end" : Str).cps.toList ∧ 10 ∉ ("end" : Str).cps.toList)
theorem split_line {w : Str} {ns : List Int} (hw : 32 ∉ w.cps.toList) : Txt.split (lineT w ns) " " = w :: ns.map nT := by
  refine TL.split_join (y := " ") (s := 32) (S := []) (by decide +kernel) (by decide +kernel) (by simp) fun p hp => ?_
  rcases List.mem_cons.mp hp with rfl | hp
  · exact hw
  · obtain ⟨z, hz, rfl⟩ := List.mem_map.mp hp
    exact nT_free ⟨by decide, by decide⟩ z
theorem split_block : Txt.split "block" " " = (["block"] : List Str) := by
  have := TL.split_join (y := " ") (s := 32) (S := []) (by decide +kernel) (by decide +kernel) (parts := (["block"] : List Str)) (by simp) (fun p hp => by rw [List.mem_singleton.mp hp]; decide +kernel)
  rw [show Txt.join " " (["block"] : List Str) = ("block" : Str) by decide +kernel] at this
  exact this
theorem line_free {k : Nat} (hk : k ≠ 32 ∧ k ≠ 45 ∧ (k < 48 ∨ 57 < k)) {w : Str} {ns : List Int} (hw : k ∉ w.cps.toList) : k ∉ (lineT w ns).cps.toList := fun hm => by
  unfold lineT at hm
  rw [TL.join_eq] at hm
  rcases (mem_join " " k _).mp hm with ⟨t, ht, hc⟩ | ⟨_, hc⟩
  · rcases List.mem_cons.mp ht with rfl | ht
    · exact hw hc
    · obtain ⟨z, hz, rfl⟩ := List.mem_map.mp ht
      exact nT_free ⟨hk.2.1, hk.2.2⟩ z hc
  · rw [show (" " : Str).cps.toList = [32] by decide +kernel] at hc
    exact hk.1 (List.mem_singleton.mp hc)
theorem lines_free (pr : List Blk) : ∀ p ∈ lines pr, 10 ∉ p.cps.toList := fun p hp => by
  obtain ⟨l, hl, hp⟩ := List.mem_flatten.mp hp
  obtain ⟨b, hb, rfl⟩ := List.mem_map.mp hl
  rcases List.mem_cons.mp hp with rfl | hp
  · decide +kernel
  · rcases List.mem_append.mp hp with w | w
    · obtain ⟨r, hr, rfl⟩ := List.mem_map.mp w
      exact line_free ⟨by decide, by decide, by decide⟩ (w_free r).2
    · rw [List.mem_singleton.mp w]
      exact line_free ⟨by decide, by decide, by decide⟩ (ew_free b.2).2
theorem lines_ne {pr : List Blk} (h : pr ≠ []) : lines pr ≠ [] := by
  cases pr with
  | nil => exact absurd rfl h
  | cons b pr => intro e; cases e
theorem split_lines {pr : List Blk} (h : pr ≠ []) : Txt.split (Txt.join "\n" (lines pr)) "\n" = lines pr :=
  TL.split_join (y := "\n") (s := 10) (S := []) (by decide +kernel) (by decide +kernel) (lines_ne h) (lines_free pr)
end Gn
set_option Elab.async false
set_option linter.all false
set_option maxRecDepth 100000
set_option maxHeartbeats 4000000
set_option pp.maxSteps 3000
namespace Gn
open PySem PySem.Spec PyProof.Rows L2
abbrev sReadProg : Stmt := topS 60
abbrev sProgIn : Stmt := topS 61
/-! ### a program read back -/
theorem drop_cons {L : List Str} {i : Nat} {l : Str} {t : List Str} (h : L.drop i = l :: t) : L[i]? = some l ∧ L.drop (i + 1) = t := by
  constructor
  · have := List.getElem?_drop (xs := L) (i := i) (j := 0)
    rw [h] at this
    simpa using this.symm
  · have : L.drop (i + 1) = (L.drop i).drop 1 := by rw [List.drop_drop]
    rw [this, h]
    rfl
/-- the words that no table has -/
structure NoW (K : PySem.W.Frag) (w : World) (dR dE : Addr) : Prop where
  rE : ∀ r : Rw, KNo K w dE r.w
  eR : ∀ e : En, KNo K w dR e.word
  bR : KNo K w dR "block"
  bE : KNo K w dE "block"
structure TbD (K : PySem.W.Frag) (w : World) (dR dE : Addr) : Prop where
  row : ∀ r : Rw, ∃ g, KDct K w dR r.w (.ref g) ∧ (∀ H, SqT K H g r.kinds) ∧ TupK K g
  end_ : ∀ e : En, ∃ g, KDct K w dE e.word (.ref g) ∧ (∀ H, SqT K H g e.kinds) ∧ TupK K g
theorem ext_updN {H Hx : Hp} {a : Addr} {o : HO} (e : LamX.ExtN H Hx) (n : nt H a = none) : LamX.ExtN H (upd Hx a o) := fun b u h1 h2 => by
  rw [upd_ne (fun z => by have := nt_at h1 h2; rw [z, n] at this; cases this)]
  exact e b u h1 h2
theorem ext_free {H Hx : Hp} {a : Addr} (e : LamX.ExtN H Hx) (n : Hx a = none) : nt H a = none := by
  cases e1 : nt H a with
  | none => rfl
  | some o => have := (nt_to (ext_nt e _ _ e1)).1; rw [n] at this; cases this
theorem nt_anti {H Hx : Hp} {a : Addr} (e : LamX.ExtN H Hx) (n : nt Hx a = none) : nt H a = none := by
  cases e1 : nt H a with
  | none => rfl
  | some o => have := ext_nt e _ _ e1; rw [n] at this; cases this
/-- the state of the reading -/
structure PiS (K : PySem.W.Frag) (Ts : List Addr) (D : Addr) (H : Hp) (P : Addr) (M : List Addr) (Hx : Hp) (qs : List (Addr × Addr)) (done : List Blk) : Prop where
  ext : LamX.ExtN H Hx
  tb : Tbs Ts D Hx
  hp : nt H P = none
  pm : P ∈ M
  top : Hx P = some (.lst (qs.map fun q => V.ref q.1))
  bk : Paired (BkM K (frz M (nt Hx)) Hx) qs done
  ne : ∀ q ∈ qs, q.2 ∉ M
  nw : ∀ q ∈ qs, nt H q.2 = none
theorem bkM_mono {K : PySem.W.Frag} {F F' H H' : Hp} {q : Addr × Addr} {b : Blk} (h : BkM K F H q b) (e : Same F F') (g : ∀ vs, H q.2 = some (.lst vs) → H' q.2 = some (.lst vs)) : BkM K F' H' q b := by
  obtain ⟨ea, vs, h1, h2, h3, h4⟩ := h
  exact ⟨ea, vs, Same.tup e h1, g _ h2, pd_mono h3 fun _ _ y => y.same e, h4.same e⟩
theorem pd_memP {α β : Type} {F G : α → β → Prop} : ∀ {l : List α} {m : List β}, Paired F l m → (∀ a ∈ l, ∀ b, F a b → G a b) → Paired G l m
  | _, _, .nil, _ => .nil
  | _, _, .cons h t, g => .cons (g _ List.mem_cons_self _ h) (pd_memP t fun a ha => g a (List.mem_cons_of_mem _ ha))
theorem frz_ext {M : List Addr} {H H' : Hp} (e : LamX.ExtN H H') : Same (frz M (nt H)) (frz M (nt H')) := fun a o h =>
  frz_at (ext_nt e _ _ (frz_same _ _ _ _ h)) (frz_mem h)
theorem PiS.step {K : PySem.W.Frag} {Ts : List Addr} {D : Addr} {H : Hp} {P : Addr} {M : List Addr} {Hx Hy : Hp} {qs : List (Addr × Addr)} {done : List Blk} (s : PiS K Ts D H P M Hx qs done) (e : LamX.ExtN Hx Hy) (t : Tbs Ts D Hy) : PiS K Ts D H P M Hy qs done :=
  ⟨s.ext.trans e, t, s.hp, s.pm, e _ _ s.top (fun ps z => by cases z), pd_mono s.bk fun _ _ y => bkM_mono y (frz_ext e) fun vs h => e _ _ h (fun ps z => by cases z), s.ne, s.nw⟩
/-- a list of M is changed -/
theorem nt_upd {H : Hp} {R a : Addr} {o : HO} (n : a ≠ R) : nt (upd H R o) a = nt H a := by
  unfold nt
  rw [upd_ne n]
theorem frz_upd {M : List Addr} {H : Hp} {R : Addr} {o : HO} (h : R ∈ M) : Same (frz M (nt H)) (frz M (nt (upd H R o))) := fun a u e => by
  have h1 := frz_mem e
  have h2 := frz_same _ _ _ _ e
  refine frz_at ?_ h1
  rw [nt_upd (fun z => h1 (by rw [z]; exact h))]
  exact h2
/-- one more list of which nothing is kept -/
theorem frz_more {M : List Addr} {H H' : Hp} {R : Addr} (e : LamX.ExtN H H') (n : H R = none) : Same (frz M (nt H)) (frz (R :: M) (nt H')) := fun a u h => by
  have h2 := frz_same _ _ _ _ h
  refine frz_at (ext_nt e _ _ h2) fun z => ?_
  rcases List.mem_cons.mp z with rfl | z
  · rw [nt_none n] at h2; cases h2
  · exact frz_mem h z
theorem frz_less {M : List Addr} {H : Hp} {R : Addr} : Same (frz (R :: M) (nt H)) (frz M (nt H)) := fun a u h =>
  frz_at (frz_same _ _ _ _ h) fun z => frz_mem h (List.mem_cons_of_mem _ z)
theorem tup_frzM {K : PySem.W.Frag} {M : List Addr} {H : Hp} {a : Addr} {xs : List V} (h : SqT K (nt H) a xs) (e : ∀ m ∈ M, ∃ ys, H m = some (.lst ys)) : SqT K (frz M (nt H)) a xs := by
  have no : ∀ {o}, nt H a = some o → (∀ ys, o ≠ .lst ys) → a ∉ M := fun {o} h n m => by
    obtain ⟨ys, h2⟩ := e a m
    rw [(nt_to h).1] at h2
    cases h2
    exact n _ rfl
  rcases h with (h | ⟨u, h⟩) | h
  · exact .inl (.inl (frz_at h (no h (fun ys z => by cases z))))
  · exact .inl (.inr ⟨u, frz_at h (no h (fun ys z => by cases z))⟩)
  · exact .inr h
theorem row_frzM {K : PySem.W.Frag} {M : List Addr} {H : Hp} {v : V} {r : Rw} (h : RowAt K (nt H) v r) (e : ∀ m ∈ M, ∃ ys, H m = some (.lst ys)) : RowAt K (frz M (nt H)) v r := row_tups h fun {a xs} z => tup_frzM z e
theorem en_frzM {K : PySem.W.Frag} {M : List Addr} {H : Hp} {v : V} {e : En} (h : EnAt K (nt H) v e) (g : ∀ m ∈ M, ∃ ys, H m = some (.lst ys)) : EnAt K (frz M (nt H)) v e := by
  cases e <;> (obtain ⟨p, h1, h2⟩ := h; exact ⟨p, h1, tup_frzM h2 g⟩)
theorem Tbs.updN {Ts : List Addr} {D L : Addr} {H : Hp} {o : HO} (h : Tbs Ts D H) (e : H L = none) : Tbs Ts D (L2.upd H L o) := h.same (new_same e)
theorem PiS.at_ {K : PySem.W.Frag} {Ts : List Addr} {D : Addr} {H : Hp} {P : Addr} {M : List Addr} {Hx : Hp} {qs : List (Addr × Addr)} {done : List Blk} (s : PiS K Ts D H P M Hx qs done) : ∀ q ∈ qs, ∃ vs, Hx q.2 = some (.lst vs) := by
  have hb := s.bk
  clear s
  induction hb with
  | nil => intro q hq; cases hq
  | cons h t ih =>
    intro q hq
    rcases List.mem_cons.mp hq with rfl | hq
    · obtain ⟨ea, vs, _, h2, _⟩ := h
      exact ⟨vs, h2⟩
    · exact ih q hq
theorem PiS.begin {K : PySem.W.Frag} {Ts : List Addr} {D : Addr} {H : Hp} {P R : Addr} {Hy : Hp} {qs : List (Addr × Addr)} {done : List Blk} (s : PiS K Ts D H P [P] Hy qs done) (nR : Hy R = none) : PiS K Ts D H P [R, P] (upd Hy R (.lst [])) qs done := by
  have sR := new_same (o := .lst []) nR
  refine ⟨s.ext.trans (same_ext sR), s.tb.same sR, s.hp, by simp, sR _ _ s.top, pd_mono s.bk fun _ _ y => bkM_mono y (frz_more (same_ext sR) nR) fun vs h => sR _ _ h, fun q hq z => ?_, s.nw⟩
  rcases List.mem_cons.mp z with z | z
  · obtain ⟨vs, h⟩ := s.at_ q hq
    rw [z, nR] at h
    cases h
  · exact s.ne q hq z
theorem PiS.updR {K : PySem.W.Frag} {Ts : List Addr} {D : Addr} {H : Hp} {P R : Addr} {Hy : Hp} {qs : List (Addr × Addr)} {done : List Blk} {us : List V} {o : HO} (s : PiS K Ts D H P [R, P] Hy qs done) (hR : nt H R = none) (nR : R ≠ P) (eR : Hy R = some (.lst us)) : PiS K Ts D H P [R, P] (upd Hy R o) qs done :=
  ⟨ext_updN s.ext hR, s.tb.upd eR, s.hp, s.pm, by rw [upd_ne (Ne.symm nR)]; exact s.top, pd_memP s.bk fun q hq _ y => bkM_mono y (frz_upd (by simp)) fun vs h => by rw [upd_ne (fun z => s.ne q hq (by simp [z]))]; exact h, s.ne, s.nw⟩
theorem frz_end {R P : Addr} {H : Hp} {o : HO} : Same (frz [R, P] (nt H)) (frz [P] (nt (upd H P o))) := fun a u h => by
  have h1 := frz_mem h
  have h2 := frz_same _ _ _ _ h
  simp only [List.mem_cons, List.not_mem_nil, or_false, not_or] at h1
  refine frz_at ?_ (by simp [h1.2])
  rw [nt_upd h1.2]
  exact h2
theorem PiS.fin {K : PySem.W.Frag} {Ts : List Addr} {D : Addr} {H : Hp} {P R T : Addr} {Hy : Hp} {qs : List (Addr × Addr)} {done : List Blk} {us : List V} {rs : List Rw} {ea : V} {e : En} (s : PiS K Ts D H P [R, P] Hy qs done) (hR : nt H R = none) (nR : R ≠ P) (eR : Hy R = some (.lst us))
    (pR : Paired (RowAt K (frz [R, P] (nt Hy))) us rs) (hE : EnAt K (nt Hy) ea e) (eT : Hy T = some (.tup [.ref R, ea])) : PiS K Ts D H P [P] (upd Hy P (.lst ((qs.map fun q => V.ref q.1) ++ [.ref T]))) (qs ++ [(T, R)]) (done ++ [(rs, e)]) := by
  have M : ∀ m ∈ [R, P], ∃ ys, Hy m = some (.lst ys) := all_cons ⟨_, eR⟩ (all_cons ⟨_, s.top⟩ all_nil)
  refine ⟨ext_updN s.ext s.hp, s.tb.upd s.top, s.hp, by simp, by rw [upd_same, List.map_append]; rfl, pd_snoc (pd_memP s.bk fun q hq _ y => bkM_mono y frz_end fun vs h => by rw [upd_ne (fun z => s.ne q hq (by simp [z]))]; exact h) ?_, fun q hq => ?_, fun q hq => ?_⟩
  · have g : ∀ {a xs}, SqT K (nt Hy) a xs → SqT K (frz [P] (nt (upd Hy P (.lst ((qs.map fun q => V.ref q.1) ++ [.ref T]))))) a xs := fun h => Same.tup frz_end (tup_frzM h M)
    refine ⟨ea, us, g (sqT (nt_at eT (fun ps z => by cases z))), by rw [upd_ne nR]; exact eR, pd_mono pR fun _ _ y => y.same frz_end, ?_⟩
    exact (en_frzM hE M).same frz_end
  · rcases List.mem_append.mp hq with w | w
    · exact fun z => s.ne q w (by simp [List.mem_singleton.mp z])
    · rw [List.mem_singleton.mp w]
      exact fun z => nR (List.mem_singleton.mp z)
  · rcases List.mem_append.mp hq with w | w
    · exact s.nw q w
    · rw [List.mem_singleton.mp w]; exact hR
/-- a program read, in lists that may be changed -/
structure RdM (K : PySem.W.Frag) (H : Hp) (P : Addr) (Hx : Hp) (qs : List (Addr × Addr)) (pr : List Blk) : Prop where
  top : Hx P = some (.lst (qs.map fun q => V.ref q.1))
  bk : Paired (BkM K (frz [P] (nt Hx)) Hx) qs pr
  ne : ∀ q ∈ qs, q.2 ≠ P
  nw : ∀ q ∈ qs, nt H q.2 = none
  hp : nt H P = none
theorem RdM.prog {K : PySem.W.Frag} {H Hx : Hp} {P : Addr} {qs : List (Addr × Addr)} {pr : List Blk} (h : RdM K H P Hx qs pr) : ProgAt K (nt Hx) (.ref P) pr := by
  refine ⟨P, _, rfl, sqL (nt_at h.top (fun ps z => by cases z)), ?_⟩
  have hb := h.bk
  clear h
  induction hb with
  | nil => exact .nil
  | cons h t ih =>
    obtain ⟨ea, vs, h1, h2, h3, h4⟩ := h
    exact .cons ⟨_, _, ea, vs, rfl, Same.tup (frz_same _ _) h1, nt_at h2 (fun ps z => by cases z), pd_mono h3 fun _ _ y => y.same (frz_same _ _), h4.same (frz_same _ _)⟩ ih
def spProgIn (K : PySem.W.Frag) (Ts : List Addr) (D : Addr) : Sp := fun vs H Q _ => ∃ (la : Addr) (pr : List Blk), vs = [.ref la] ∧ SqL K (nt H) la ((lines pr).map V.str) ∧ PrP pr ∧ NamesOk pr ∧ pr.length ≤ 7 ∧ (∀ b ∈ pr, BlkB 7 1000 b) ∧ Tbs Ts D H ∧
  ∀ (H' : Hp) (P : Addr) (qs : List (Addr × Addr)), LamX.ExtN H H' → Tbs Ts D H' → RdM K H P H' qs pr → Q (.ref P) H'
abbrev nPI : List Str := ["lines", "program", "rows", "number", "line", "words", "row", "end"]
theorem scPI : FnScope nPI ["lines"] (defScope sProgIn) := ⟨rfl, rfl, rfl, by decide +kernel, rfl, by decide +kernel, by decide +kernel⟩
def spReadProg (K : PySem.W.Frag) (Ts : List Addr) (D : Addr) : Sp := fun vs H Q _ => ∃ (s : Str) (pr : List Blk), vs = [.str s] ∧ s = Txt.join "\n" (lines pr) ∧ PrP pr ∧ NamesOk pr ∧ pr.length ≤ 7 ∧ (∀ b ∈ pr, BlkB 7 1000 b) ∧ Tbs Ts D H ∧
  ∀ (H' : Hp) (P : Addr) (qs : List (Addr × Addr)), LamX.ExtN H H' → Tbs Ts D H' → RdM K H P H' qs pr → Q (.ref P) H'
theorem scReadProg : FnScope ["text"] ["text"] (defScope sReadProg) := ⟨rfl, rfl, rfl, by decide +kernel, rfl, by decide +kernel, by decide +kernel⟩
/-- where the reading is: the blocks done, the rows of the block begun -/
inductive Wh (K : PySem.W.Frag) (Ts : List Addr) (D : Addr) (H : Hp) (P : Addr) (pr : List Blk) (L : List Str) (i : Nat) (Hx : Hp) : V → Prop
  | non (qs : List (Addr × Addr)) (done rest : List Blk) (hpr : pr = done ++ rest) (hL : L.drop i = lines rest) (s : PiS K Ts D H P [P] Hx qs done) : Wh K Ts D H P pr L i Hx .non
  | row (qs : List (Addr × Addr)) (done rest : List Blk) (rs rs' : List Rw) (e : En) (R : Addr) (us : List V) (hpr : pr = done ++ (rs ++ rs', e) :: rest) (hL : L.drop i = rs'.map Rw.text ++ e.text :: lines rest) (s : PiS K Ts D H P [R, P] Hx qs done)
      (hR : nt H R = none) (nR : R ≠ P) (eR : Hx R = some (.lst us)) (pR : Paired (RowAt K (frz [R, P] (nt Hx))) us rs) : Wh K Ts D H P pr L i Hx (.ref R)
section
variable {P0 : Program} {w : World} {K : PySem.W.Frag} {mg : Str → Option Value} {base : Heap} {Ts : List Addr} {Dd : Addr}
theorem ok_progIn {f fT fP dR dE : Addr} {fd fdT fdP : FuncData} {k : Nat} (D : Df K mg "program_in" sProgIn ["lines"] f fd) (B : Bi mg) (TB : Tb K w mg dR dE) (TD : TbD K w dR dE) (kR : IsKD K w dR) (kE : IsKD K w dE) (NW : NoW K w dR dE)
    (DT : Df K mg "thing_in" sThingIn ["words", "kinds"] fT fdT) (GT : FnOk P0 w K mg base CX0 k fT fdT ["words", "kinds"] (spThing K Ts Dd))
    (DP : Df K mg "is_program" sIsProg ["thing"] fP fdP) (GP : FnOk P0 w K mg base CX0 k fP fdP ["thing"] (spIsProg K Ts Dd)) :
    FnOk P0 w K mg base CX0 (k + 1) f fd ["lines"] (spProgIn K Ts Dd) := by
  refine D.F.ok scPI (fun vs H Q E h => ?_) (fun cdv A outer s H vs Q E hr h => ?_)
  · obtain ⟨la, pr, rfl, _⟩ := h
    rfl
  · obtain ⟨la, pr, rfl, hL, hP, hN, hl7, hB, hT, q⟩ := h
    refine ⟨_, (pss_cons (ps_set (i := 1) scPI.nd rfl (.inl rfl) (pe_lst pa_nil))
      (pss_cons (ps_set (i := 2) scPI.nd rfl (.inl rfl) pe_non)
      (pss_cons (ps_for PassesOwn.never rfl (pi_enum (by rfl) B.enumerate (pa_cons (pv 0) pa_nil)) (pg_tup rfl (pgs_cons (pg_name (i := 3) scPI.nd rfl (.inl rfl)) (pgs_cons (pg_name (i := 4) scPI.nd rfl (.inl rfl)) pgs_nil))) (pss_cons (ps_set (i := 5) scPI.nd rfl (.inl rfl) (pe_split (pv 4) pe_str))
      (pss_cons (ps_set (i := 6) scPI.nd rfl (.inl rfl) (pe_call GT hr (by rfl) DT.g DT.F.kp DT.b .nil pass0 (pa_cons (pv 5) (pa_cons (pe_kget (pe_glob (v := .ref dR) (by rfl) TB.mgR rfl) (pe_ix ix_list (pv 5) pe_int (fun _ _ => rfl)) ⟨rfl, rfl, rfl, rfl⟩) pa_nil))))
      (pss_cons (ps_set (i := 7) scPI.nd rfl (.inl rfl) (pe_call GT hr (by rfl) DT.g DT.F.kp DT.b .nil pass0 (pa_cons (pv 5) (pa_cons (pe_kget (pe_glob (v := .ref dE) (by rfl) TB.mgE rfl) (pe_ix ix_list (pv 5) pe_int (fun _ _ => rfl)) ⟨rfl, rfl, rfl, rfl⟩) pa_nil))))
      (pss_one (ps_if (pw_and (pt_cmp (pc_isN (pv 2))) (pw_and1 (pt_cmpR op_eq (pv 4) pe_str (nomark _)))).pt (pss_one (ps_set (i := 2) scPI.nd rfl (.inl rfl) (pe_lst pa_nil))) (pss_one (ps_if (pw_and (pt_cmp (pc_notN (pv 2))) (pw_and1 (pt_cmp (pc_notN (pv 6))))).pt (pss_one (ps_expr (pe_bm PySem.F.plainAttrs_list PySem.F.slot_list_append PySem.F.type_list_append mt_append (pv 2) (pa_cons (pv 6) pa_nil)))) (pss_one (ps_if (pw_and (pt_cmp (pc_notN (pv 2))) (pw_and1 (pt_cmp (pc_notN (pv 7))))).pt (pss_cons (ps_expr (pe_bm PySem.F.plainAttrs_list PySem.F.slot_list_append PySem.F.type_list_append mt_append (pv 1) (pa_cons (pe_tup (pa_cons (pv 2) (pa_cons (pv 7) pa_nil))) pa_nil)))
      (pss_one (ps_set (i := 2) scPI.nd rfl (.inl rfl) pe_non))) (pss_one ps_never)))))))))))
      (pss_cons (ps_if (pw_or (pt_cmp (pc_notN (pv 2))) (pw_or1 (pt_not (pt_truth (pv 1) (by intro _; rfl))))).pt (pss_one ps_never) pss_nil)
      (pss_cons (ps_if (pt_not (pt_val (pe_call GP hr (by rfl) DP.g DP.F.kp DP.b .nil pass0 (pa_cons (pv 1) pa_nil)))) (pss_one ps_never) pss_nil)
      (pss_one (ps_ret (pv 1)))))))), ?_⟩
    refine ⟨Nat.zero_le _, fun P nP => ?_⟩
    have sP := new_same (o := .lst []) nP
    have eP : upd H P (.lst []) P = some (.lst []) := upd_same
    have tP := hT.same sP
    generalize upd H P (.lst []) = H0 at sP eP tP
    have aL : ∀ {H' : Hp}, LamX.ExtN H H' → SqL K H' la ((lines pr).map V.str) := fun e => ntL ((ext_nt e).seq hL)
    refine ⟨.ref la, rfl, la, _, rfl, aL (same_ext sP), ?_⟩
    refine for_it (walk_enum (K := K) (a := la) (xs := (lines pr).map V.str)) (fun i σ Hx => ∃ (v : V) (y3 y4 y5 y6 y7 : Option V), σ = [some (.ref la), some (.ref P), some v, y3, y4, y5, y6, y7] ∧ LamX.ExtN H Hx ∧ Wh K Ts Dd H P pr (lines pr) i Hx v)
      ⟨.non, none, none, none, none, none, rfl, same_ext sP, .non [] [] pr rfl rfl ⟨same_ext sP, tP, nt_none nP, by simp, eP, .nil, all_nil, all_nil⟩⟩ (fun i σ Hx _ hP => ?_) (fun i x σ Hx Hy hi hP hY => ?_) (fun σ Hx hP => ?_)
    · obtain ⟨_, _, _, _, _, _, _, ex, _⟩ := hP
      exact aL ex
    · obtain ⟨v, y3, y4, y5, y6, y7, rfl, ex, hW⟩ := hP
      obtain ⟨T, x1, x2, rfl, nT', rfl, e1', e2⟩ := hY
      cases e1'
      have e2 : ((lines pr).map V.str)[i]? = some x2 := e2
      have hiL : i < (lines pr).length := by rw [List.length_map] at hi; exact hi
      rw [List.getElem?_map] at e2
      have sT := new_same (o := .tup [.int (i : Nat), x2]) nT'
      refine ⟨T, _, rfl, sqT upd_same, rfl, _, _, rfl, _, _, rfl, rfl, ?_⟩
      generalize upd Hx T (.tup [.int (i : Nat), x2]) = Hz at sT
      have sTe := same_ext sT
      cases hW with
      | non qs done rest hpr hLi st =>
        have st1 := st.step sTe (st.tb.same sT)
        cases rest with
        | nil =>
          have := congrArg List.length hLi
          rw [List.length_drop] at this
          have : (lines pr).length - i = 0 := this
          omega
        | cons b rest =>
          have hL2 : (lines pr).drop i = ("block" : Str) :: ((b.1.map Rw.text ++ [b.2.text]) ++ lines rest) := hLi
          obtain ⟨d1, d2⟩ := drop_cons hL2
          rw [d1] at e2
          cases e2
          refine ⟨_, rfl, ⟨_, rfl⟩, "block", " ", rfl, rfl, rfl, szl (by decide +kernel), fun W nW => ?_⟩
          rw [split_block]
          have sW := new_same (o := .lst ((["block"] : List Str).map V.str)) nW
          have eW : upd Hz W (.lst ((["block"] : List Str).map V.str)) W = some (.lst ((["block"] : List Str).map V.str)) := upd_same
          have st2 := st1.step (same_ext sW) (st1.tb.same sW)
          generalize upd Hz W (.lst ((["block"] : List Str).map V.str)) = H2 at sW eW st2
          have wW : SqL K (nt H2) W ((["block"] : List Str).map V.str) := sqL (nt_at eW (fun ps z => by cases z))
          refine ⟨_, rfl, dR, rfl, kR, _, rfl, W, _, _, .str "block", rfl, rfl, sqL eW, atI_nat (j := 0) rfl, "block", rfl, .inr ⟨NW.bR, W, "block", .non, [], rfl, wW, st2.tb, .inl ⟨rfl, ?_⟩⟩⟩
          refine ⟨_, rfl, dE, rfl, kE, _, rfl, W, _, _, .str "block", rfl, rfl, sqL eW, atI_nat (j := 0) rfl, "block", rfl, .inr ⟨NW.bE, W, "block", .non, [], rfl, wW, st2.tb, .inl ⟨rfl, ?_⟩⟩⟩
          refine ⟨_, rfl, _, rfl, ifP (by rfl) ⟨_, rfl, rfl, _, rfl, ifP (decide_eq_true rfl) ⟨Nat.zero_le _, fun R nR => ?_⟩⟩⟩
          have st3 := st2.begin nR
          refine ⟨.ref R, _, _, _, _, _, rfl, st3.ext, .row qs done rest [] b.1 b.2 R [] ?_ ?_ st3 (ext_free st2.ext nR) (fun z => ?_) upd_same .nil⟩
          · rw [hpr]; rfl
          · rw [d2, List.append_assoc]; rfl
          · rw [z, st2.top] at nR; cases nR
      | row qs done rest rs rs' e R us hpr hLi st hR nR eR pR =>
        have st1 := st.step sTe (st.tb.same sT)
        have eR1 := sT _ _ eR
        have pR1 : Paired (RowAt K (frz [R, P] (nt Hz))) us rs := pd_mono pR fun _ _ y => y.same (frz_ext sTe)
        obtain ⟨hb1, hb2, hb3⟩ := hB (rs ++ rs', e) (by rw [hpr]; simp)
        have hb1 : (rs ++ rs').length ≤ 1000 := hb1
        rw [List.length_append] at hb1
        have hul : us.length = rs.length := pd_len pR
        cases rs' with
        | cons r rs' =>
          have hL2 : (lines pr).drop i = r.text :: (rs'.map Rw.text ++ e.text :: lines rest) := hLi
          obtain ⟨d1, d2⟩ := drop_cons hL2
          rw [d1] at e2
          cases e2
          have hA : RwA (· < 1000) r := hb2 r (by simp)
          have hn := rw_nums hA
          refine ⟨_, rfl, ⟨_, rfl⟩, r.text, " ", rfl, rfl, rfl, szl (Nat.le_trans (Nat.add_le_add_right (join_ok (rw_wlen r) hn.1 hn.2).2 2) (by decide)), fun W nW => ?_⟩
          rw [show Txt.split r.text " " = r.w :: r.wts.map (·.1) by rw [rw_words]; exact split_line (w_free r).1]
          have sW := new_same (o := .lst ((r.w :: r.wts.map (·.1)).map V.str)) nW
          have eW : upd Hz W (.lst ((r.w :: r.wts.map (·.1)).map V.str)) W = some (.lst ((r.w :: r.wts.map (·.1)).map V.str)) := upd_same
          have st2 := st1.step (same_ext sW) (st1.tb.same sW)
          have eR2 := sW _ _ eR1
          have pR2 : Paired (RowAt K (frz [R, P] (nt (upd Hz W (.lst ((r.w :: r.wts.map (·.1)).map V.str)))))) us rs := pd_mono pR1 fun _ _ y => y.same (frz_ext (same_ext sW))
          generalize upd Hz W (.lst ((r.w :: r.wts.map (·.1)).map V.str)) = H2 at sW eW st2 eR2 pR2
          have wW : SqL K (nt H2) W ((r.w :: r.wts.map (·.1)).map V.str) := sqL (nt_at eW (fun ps z => by cases z))
          obtain ⟨g, kd, kt, ktu⟩ := TD.row r
          refine ⟨_, rfl, dR, rfl, kR, _, rfl, W, _, _, .str r.w, rfl, rfl, sqL eW, atI_nat (j := 0) rfl, r.w, rfl, .inl ⟨.ref g, kd, W, r.w, .ref g, _, rfl, wW, st2.tb, .inr ⟨g, r.kdS, r.wts, rfl, ktu, fun H' => by rw [← kdS_rw]; exact kt H', rfl, rw_kds hA, thing_row (K := K) hA fun H3 T3 e3 t3 hr3 => ?_⟩⟩⟩
          have eW3 := e3 _ _ eW (fun ps z => by cases z)
          have wW3 : SqL K (nt H3) W ((r.w :: r.wts.map (·.1)).map V.str) := sqL (nt_at eW3 (fun ps z => by cases z))
          have st3 := st2.step e3 t3
          have eR3 := e3 _ _ eR2 (fun ps z => by cases z)
          have pR3 : Paired (RowAt K (frz [R, P] (nt H3))) us rs := pd_mono pR2 fun _ _ y => y.same (frz_ext e3)
          refine ⟨_, rfl, dE, rfl, kE, _, rfl, W, _, _, .str r.w, rfl, rfl, sqL eW3, atI_nat (j := 0) rfl, r.w, rfl, .inr ⟨NW.rE r, W, r.w, .non, _, rfl, wW3, st3.tb, .inl ⟨rfl, ?_⟩⟩⟩
          refine ⟨_, rfl, _, rfl, ifN (fun h => by cases h) ⟨_, rfl, _, rfl, ifP (by rfl) ⟨_, rfl, _, rfl, ifP (by rfl) ?_⟩⟩⟩
          refine ⟨_, rfl, .inl ⟨rfl, _, sqL eR3⟩, .ref T3, rfl, R, _, _, rfl, rfl, eR3, szt (by omega), ?_⟩
          have st4 := st3.updR (o := .lst (us ++ [.ref T3])) hR nR eR3
          have M : ∀ m ∈ [R, P], ∃ ys, H3 m = some (.lst ys) := all_cons ⟨_, eR3⟩ (all_cons ⟨_, st3.top⟩ all_nil)
          have fu : Same (frz [R, P] (nt H3)) (frz [R, P] (nt (upd H3 R (.lst (us ++ [.ref T3]))))) := frz_upd (by simp)
          refine ⟨.ref R, _, _, _, _, _, rfl, st4.ext, .row qs done rest (rs ++ [r]) rs' e R (us ++ [.ref T3]) ?_ ?_ st4 hR nR upd_same (pd_snoc (pd_mono pR3 fun _ _ y => y.same fu) ((row_frzM hr3 M).same fu))⟩
          · rw [hpr]; simp
          · exact d2
        | nil =>
          have hL2 : (lines pr).drop i = e.text :: lines rest := hLi
          obtain ⟨d1, d2⟩ := drop_cons hL2
          rw [d1] at e2
          cases e2
          have hn := en_nums hb3
          refine ⟨_, rfl, ⟨_, rfl⟩, e.text, " ", rfl, rfl, rfl, szl (Nat.le_trans (Nat.add_le_add_right (join_ok (en_wlen e) hn.1 hn.2).2 2) (by decide)), fun W nW => ?_⟩
          rw [show Txt.split e.text " " = e.word :: e.wts.map (·.1) by rw [en_words]; exact split_line (ew_free e).1]
          have sW := new_same (o := .lst ((e.word :: e.wts.map (·.1)).map V.str)) nW
          have eW : upd Hz W (.lst ((e.word :: e.wts.map (·.1)).map V.str)) W = some (.lst ((e.word :: e.wts.map (·.1)).map V.str)) := upd_same
          have st2 := st1.step (same_ext sW) (st1.tb.same sW)
          have eR2 := sW _ _ eR1
          have pR2 : Paired (RowAt K (frz [R, P] (nt (upd Hz W (.lst ((e.word :: e.wts.map (·.1)).map V.str)))))) us rs := pd_mono pR1 fun _ _ y => y.same (frz_ext (same_ext sW))
          generalize upd Hz W (.lst ((e.word :: e.wts.map (·.1)).map V.str)) = H2 at sW eW st2 eR2 pR2
          have wW : SqL K (nt H2) W ((e.word :: e.wts.map (·.1)).map V.str) := sqL (nt_at eW (fun ps z => by cases z))
          obtain ⟨g, kd, kt, ktu⟩ := TD.end_ e
          refine ⟨_, rfl, dR, rfl, kR, _, rfl, W, _, _, .str e.word, rfl, rfl, sqL eW, atI_nat (j := 0) rfl, e.word, rfl, .inr ⟨NW.eR e, W, e.word, .non, _, rfl, wW, st2.tb, .inl ⟨rfl, ?_⟩⟩⟩
          refine ⟨_, rfl, dE, rfl, kE, _, rfl, W, _, _, .str e.word, rfl, rfl, sqL eW, atI_nat (j := 0) rfl, e.word, rfl, .inl ⟨.ref g, kd, W, e.word, .ref g, _, rfl, wW, st2.tb, .inr ⟨g, e.kdS, e.wts, rfl, ktu, fun H' => by rw [← kdS_en]; exact kt H', rfl, en_kds hb3, .inl (thing_end (K := K) fun H3 T3 e3 t3 hr3 => ?_)⟩⟩⟩
          have st3 := st2.step e3 t3
          have eR3 := e3 _ _ eR2 (fun ps z => by cases z)
          have pR3 : Paired (RowAt K (frz [R, P] (nt H3))) us rs := pd_mono pR2 fun _ _ y => y.same (frz_ext e3)
          refine ⟨_, rfl, _, rfl, ifN (fun h => by cases h) ⟨_, rfl, _, rfl, ifP (by rfl) ⟨_, rfl, _, rfl, ifN (fun h => by cases h) ⟨_, rfl, _, rfl, ifP (by rfl) ⟨_, rfl, _, rfl, ifP (by rfl) ?_⟩⟩⟩⟩⟩
          refine ⟨_, rfl, .inl ⟨rfl, _, sqL st3.top⟩, .ref R, rfl, .ref T3, rfl, szl (show 2 ≤ 1000000 by decide), fun T4 n4 => ?_⟩
          have s4 := new_same (o := .tup [.ref R, .ref T3]) n4
          have eT4 : upd H3 T4 (.tup [.ref R, .ref T3]) T4 = some (.tup [.ref R, .ref T3]) := upd_same
          have st4 := st3.step (same_ext s4) (st3.tb.same s4)
          have eR4 := s4 _ _ eR3
          have pR4 : Paired (RowAt K (frz [R, P] (nt (upd H3 T4 (.tup [.ref R, .ref T3]))))) us rs := pd_mono pR3 fun _ _ y => y.same (frz_ext (same_ext s4))
          have hE4 := hr3.same (same_nt s4)
          generalize upd H3 T4 (.tup [.ref R, .ref T3]) = H4 at s4 eT4 st4 eR4 pR4 hE4
          have hql : qs.length ≤ 7 := by
            have h1 := pd_len st4.bk
            have h2 := congrArg List.length hpr
            rw [List.length_append, List.length_cons] at h2
            omega
          refine ⟨P, _, _, rfl, rfl, st4.top, by rw [List.length_map]; exact szt (by omega), ?_⟩
          have st5 := st4.fin hR nR eR4 pR4 hE4 eT4
          refine ⟨.non, _, _, _, _, _, rfl, st5.ext, .non _ _ rest ?_ d2 st5⟩
          rw [hpr]
          simp
    · obtain ⟨v, y3, y4, y5, y6, y7, rfl, ex, hW⟩ := hP
      rw [List.length_map] at hW
      have hd0 : (lines pr).drop (lines pr).length = [] := List.drop_length
      cases hW with
      | row qs done rest rs rs' e R us hpr hLi st hR nR eR pR =>
        rw [hd0] at hLi
        cases rs' <;> cases hLi
      | non qs done rest hpr hLi st =>
        rw [hd0] at hLi
        have hrest : rest = [] := by
          cases rest with
          | nil => rfl
          | cons b rest => cases hLi
        subst hrest
        rw [List.append_nil] at hpr
        subst hpr
        have hne : qs ≠ [] := fun z => by
          have h1 := pd_len st.bk
          rw [z] at h1
          have h2 := hP.l1
          have h1 : 0 = pr.length := h1
          omega
        have hem : ((qs.map fun q => V.ref q.1).isEmpty) = false := by
          cases qs with
          | nil => exact absurd rfl hne
          | cons q qs => rfl
        have rd : RdM K H P Hx qs pr := ⟨st.top, st.bk, fun q hq z => st.ne q hq (by simp [z]), st.nw, st.hp⟩
        refine ⟨_, rfl, _, rfl, ifN (fun h => by cases h) ⟨_, rfl, true, .inl ⟨_, sqL st.top, by rw [hem]; rfl⟩, ifN (fun h => by cases h) ?_⟩⟩
        refine ⟨_, rfl, .ref P, pr, rfl, rd.prog, hP, hN, fun b hb r hr => (hB b hb).2.1 r hr |>.mono fun _ _ => True.intro, st.tb, fun H2 e2 t2 => ⟨true, rfl, ifN (fun h => by cases h) ?_⟩⟩
        have st2 := st.step e2 t2
        exact ⟨_, rfl, q _ P qs st2.ext t2 ⟨st2.top, st2.bk, fun q hq z => st2.ne q hq (by simp [z]), st2.nw, st2.hp⟩⟩
theorem ok_readProg {f fP : Addr} {fd fdP : FuncData} {k : Nat} (D : Df K mg "read_program" sReadProg ["text"] f fd) (DP : Df K mg "program_in" sProgIn ["lines"] fP fdP) (GP : FnOk P0 w K mg base CX0 k fP fdP ["lines"] (spProgIn K Ts Dd)) :
    FnOk P0 w K mg base CX0 (k + 1) f fd ["text"] (spReadProg K Ts Dd) := by
  refine D.F.ok scReadProg (fun vs H Q E h => ?_) (fun cdv A outer s H vs Q E hr h => ?_)
  · obtain ⟨z, pr, rfl, _⟩ := h
    rfl
  · obtain ⟨z, pr, rfl, hz, hP, hN, hl7, hB, hT, q⟩ := h
    refine ⟨_, (pss_one (ps_ret (pe_call GP hr (by rfl) DP.g DP.F.kp DP.b .nil pass0 (pa_cons (pe_split (pv 0) pe_str) pa_nil)))), ?_⟩
    have hne : pr ≠ [] := fun z => by have := hP.l1; rw [z] at this; exact absurd this (by decide)
    have hlen : z.length + 2 ≤ sizeLine := by
      have h3 := sum_le (xs := (lines pr).map (·.length)) (k := 400) fun x hx => by
        obtain ⟨y, hy, rfl⟩ := List.mem_map.mp hx
        exact line_len hB y hy
      have h4 := lines_len hB
      have h5 : pr.length * 1002 ≤ 7 * 1002 := Nat.mul_le_mul_right _ hl7
      rw [List.length_map] at h3
      have hs : ("\n" : Str).length = 1 := by decide +kernel
      have h2 := StrLaws.join_length_le "\n" (lines pr)
      rw [hz, TL.join_eq]
      rw [hs] at h2
      rw [sizeLine_eq]
      omega
    refine ⟨_, rfl, ⟨_, rfl⟩, z, "\n", rfl, rfl, rfl, hlen, fun W nW => ?_⟩
    rw [hz, split_lines hne]
    have sW := new_same (o := .lst ((lines pr).map V.str)) nW
    have eW : upd H W (.lst ((lines pr).map V.str)) W = some (.lst ((lines pr).map V.str)) := upd_same
    refine ⟨W, pr, rfl, sqL (nt_at eW (fun ps z => by cases z)), hP, hN, hl7, hB, hT.same sW, fun H' P qs e t rd => ?_⟩
    refine q H' P qs ((same_ext sW).trans e) t ⟨rd.top, rd.bk, rd.ne, fun q hq => ?_, ?_⟩
    · exact nt_anti (same_ext sW) (rd.nw q hq)
    · exact nt_anti (same_ext sW) rd.hp
end
end Gn
set_option Elab.async false
set_option linter.all false
set_option maxRecDepth 100000
set_option maxHeartbeats 8000000
set_option pp.maxSteps 1500
namespace Gn
open PySem PySem.Spec PyProof.Rows L2
theorem PgM.prog {K : PySem.W.Frag} {t fo : Addr} {H : Hp} {qs : List (Addr × Addr)} {pr : List Blk} (h : PgM K t fo H qs pr) : ProgAt K H (.ref fo) pr := by
  refine ⟨fo, _, rfl, sqL h.top, ?_⟩
  have hb := h.bk
  clear h
  induction hb with
  | nil => exact .nil
  | cons h t ih =>
    obtain ⟨ea, vs, h1, h2, h3, h4⟩ := h
    exact .cons ⟨_, _, ea, vs, rfl, Same.tup (frz_same _ _) h1, h2, pd_mono h3 fun _ _ y => y.same (frz_same _ _), h4.same (frz_same _ _)⟩ ih
theorem RowAt.nt {K : PySem.W.Frag} {H : Hp} {v : V} {r : Rw} (h : RowAt K H v r) : RowAt K (Gn.nt H) v r := row_tups h fun t => ntT' t
theorem EnAt.nt {K : PySem.W.Frag} {H : Hp} {v : V} {e : En} (h : EnAt K H v e) : EnAt K (Gn.nt H) v e := by
  cases e <;> (obtain ⟨p, h1, h2⟩ := h; exact ⟨p, h1, ntT' h2⟩)
theorem BlkAt.nt {K : PySem.W.Frag} {H : Hp} {v : V} {b : Blk} (h : BlkAt K H v b) : BlkAt K (Gn.nt H) v b := by
  obtain ⟨p, ra, ea, vs, h1, h2, h3, h4, h5⟩ := h
  exact ⟨p, ra, ea, vs, h1, ntT' h2, nt_at h3 (fun ps z => by cases z), pd_mono h4 fun _ _ y => y.nt, h5.nt⟩
theorem ProgAt.nt {K : PySem.W.Frag} {H : Hp} {v : V} {pr : List Blk} (h : ProgAt K H v pr) : ProgAt K (Gn.nt H) v pr := by
  obtain ⟨p, bs, h1, h2, h3⟩ := h
  exact ⟨p, bs, h1, ntL' h2, pd_mono h3 fun _ _ y => y.nt⟩
theorem tabG_but {H H' : Hp} {P t : Addr} {xs : List V} (h : GxR.TabG H P) (e : H t = some (.lst xs)) (b : But t H H') : GxR.TabG H' P := by
  obtain ⟨ps, a, c⟩ := h
  exact ⟨ps, b _ _ (fun z => by rw [z, e] at a; cases a) a, c⟩
theorem Tbs.but {Ts : List Addr} {D t : Addr} {H H' : Hp} {xs : List V} (h : Tbs Ts D H) (e : H t = some (.lst xs)) (b : But t H H') : Tbs Ts D H' := by
  refine ⟨fun P hP => tabG_but (h.g P hP) e b, ?_⟩
  obtain ⟨ps, a, c, d⟩ := h.d
  refine ⟨ps, b _ _ (fun z => by rw [z, e] at a; cases a) a, c, fun pos cv hc => ?_⟩
  obtain ⟨c1, P1, z1, z2, z3, z4⟩ := d pos cv hc
  exact ⟨c1, P1, z1, z2, b _ _ (fun z => by rw [z, e] at z3; cases z3) z3, tabG_but z4 e b⟩
theorem Nice.shp {B : Nat} {d : PyData} {W : Nat} (h : Nice B d 60 W) : SeqAt.shaped d = true := by
  unfold SeqAt.shaped
  rw [h.lay, decide_eq_true (Nat.le_trans h.dep (by decide))]
  rfl
theorem last_text : Txt.join "\n" (lines [([], .fin)]) = ("block\nend" : Str) := by decide +kernel
theorem last_prp : PrP [([], .fin)] := ⟨by decide, by decide, fun b hb => by rw [List.mem_singleton.mp hb]; decide, nx_ok (nx := [[]]) (by simp [NX])⟩
theorem last_ok : NamesOk [([], .fin)] := fun i b hb => by
  cases i with
  | zero => cases hb; exact ⟨fun i r r' h => by simp at h, fun j r h => by simp at h, fun x hx => by cases hx⟩
  | succ i => simp at hb
theorem last_nice : Nice 14 (pdata [([], .fin)]) 60 400000 := prog_nice (by decide) fun b hb => by
  rw [List.mem_singleton.mp hb]
  exact ⟨⟨Nat.zero_le _, fun r hr => (by cases hr), trivial⟩, Nat.zero_le _, fun r hr => (by cases hr)⟩
theorem RdM.step {K : PySem.W.Frag} {H Hx Hy : Hp} {P : Addr} {qs : List (Addr × Addr)} {pr : List Blk} (h : RdM K H P Hx qs pr) (e : LamX.ExtN Hx Hy) : RdM K H P Hy qs pr :=
  ⟨e _ _ h.top (fun ps z => by cases z), pd_mono h.bk fun _ _ y => bkM_mono y (frz_ext e) fun vs h => e _ _ h (fun ps z => by cases z), h.ne, h.nw, h.hp⟩
def spLaw (K : PySem.W.Frag) (Ts : List Addr) (D : Addr) : Sp := fun vs H Q _ => ∃ (a : Addr) (ns : List Int), vs = [.ref a] ∧ SqL K (nt H) a (ns.map V.int) ∧ ns.length ≤ 63 ∧ Tbs Ts D H ∧ ∀ H', Q (.bl true) H'
abbrev sLaw9 : Stmt := topS 75
abbrev nLaw : List Str := ["_law_script", "_law_k", "_law_tape", "_law_program_here", "_law_text", "_law_kept", "_law_found"]
theorem scLaw : FnScope nLaw ["_law_script"] (defScope sLaw9) := ⟨rfl, rfl, rfl, by decide +kernel, rfl, by decide +kernel, by decide +kernel⟩
section
variable {P : Program} {w : World} {K : PySem.W.Frag} {mg : Str → Option Value} {base : Heap} {Ts : List Addr} {Dd : Addr}
theorem ok_law {f fE fQ fR fG fI fP : Addr} {fd fdE fdQ fdR fdG fdI fdP : FuncData} {k : Nat} (F : Fun K "law" "law" sLaw9 f fd) (B : Bi mg) (hc : Room (k + 1) callerA)
    (DE : Df K mg "_law_begun" sTape ["_law_script", "_law_k"] fE fdE) (GE : FnOk P w K mg base CX0 k fE fdE ["_law_script", "_law_k"] (spTape K))
    (DQ : Df K mg "_law_program" sProgram ["_law_tape", "_law_most"] fQ fdQ) (GQ : FnOk P w K mg base CX0 k fQ fdQ ["_law_tape", "_law_most"] (spProgram K))
    (DR : Df K mg "_law_text_rows" sTextRows ["_law_program_here"] fR fdR) (GR : FnOk P w K mg base CX0 k fR fdR ["_law_program_here"] (spTextRows K))
    (DG : Df K mg "read_program" sReadProg ["text"] fG fdG) (GG : FnOk P w K mg base CX0 k fG fdG ["text"] (spReadProg K Ts Dd))
    (DI : Df K mg "is_program" sIsProg ["thing"] fI fdI) (GI : FnOk P w K mg base CX0 k fI fdI ["thing"] (spIsProg K Ts Dd))
    (DP : Df K mg "program_text" sPText ["program"] fP fdP) (GP : FnOk P w K mg base CX0 k fP fdP ["program"] (spPText K)) : FnG P w K mg base f fd ["_law_script"] (spLaw K Ts Dd) := by
  refine fnG_of F scLaw hc (fun vs H Q E h => ?_) (fun cdv outer s H vs Q E hr h => ?_)
  · obtain ⟨a, ns, rfl, _⟩ := h
    rfl
  · obtain ⟨a, ns, rfl, hS, hlen, hT, q⟩ := h
    refine ⟨_, (pss_cons (ps_for PassesOwn.never rfl (pi_range1 (by rfl) B.range (pa_cons (pe_op op_add pe_int (pe_callB (call_min2 rfl) (by rfl) B.min PyProof.Rows.boot_min (pa_cons pe_int (pa_cons (pe_callB call_len_seq (by rfl) B.len PySem.boot_len (pa_cons (pv 0) pa_nil)) pa_nil)))) pa_nil)) (pg_name (i := 1) scLaw.nd rfl (.inl rfl)) (pss_cons (ps_set (i := 2) scLaw.nd rfl (.inl rfl) (pe_call GE hr (by rfl) DE.g DE.F.kp DE.b .nil pass0 (pa_cons (pv 0) (pa_cons (pv 1) pa_nil))))
      (pss_cons (ps_set (i := 3) scLaw.nd rfl (.inl rfl) (pe_call GQ hr (by rfl) DQ.g DQ.F.kp DQ.b .nil pass0 (pa_cons (pv 2) (pa_cons pe_int pa_nil))))
      (pss_cons (ps_par (i := 4) (j := 5) (by rfl) scLaw.nd rfl rfl (by decide) rfl rfl (pa_cons (pe_join pe_str (pe_call GR hr (by rfl) DR.g DR.F.kp DR.b .nil pass0 (pa_cons (pv 3) pa_nil))) (pa_cons (pe_callB (cr_repr rfl hr.units) (by rfl) B.repr PyProof.Rows.boot_repr (pa_cons (pv 3) pa_nil)) pa_nil)) (by rfl))
      (pss_cons (ps_set (i := 6) scLaw.nd rfl (.inl rfl) (pe_call GG hr (by rfl) DG.g DG.F.kp DG.b .nil pass0 (pa_cons (pv 4) pa_nil)))
      (pss_cons (ps_if (pw_or (pt_cmpR (op_neD hr.units) (pv 6) (pv 3) (nomark _)) (pw_or (pt_cmpR op_ne (pe_callB (cr_repr rfl hr.units) (by rfl) B.repr PyProof.Rows.boot_repr (pa_cons (pv 6) pa_nil)) (pv 5) (nomark _)) (pw_or1 (pt_cmpR op_isnot_bl (pe_call GI hr (by rfl) DI.g DI.F.kp DI.b .nil pass0 (pa_cons (pv 6) pa_nil)) pe_bl (nomark _))))).pt (pss_one (ps_ret pe_bl)) pss_nil)
      (pss_cons (ps_if (pt_cmpR op_ne (pe_call GP hr (by rfl) DP.g DP.F.kp DP.b .nil pass0 (pa_cons (pv 6) pa_nil)) (pv 4) (nomark _)) (pss_one (ps_ret pe_bl)) pss_nil)
      (pss_cons (ps_expr (pe_bm PySem.F.plainAttrs_list PySem.F.slot_list_append PySem.F.type_list_append mt_append (pe_ix ix_tup (pe_ix ix_list (pv 6) pe_int (fun _ _ => rfl)) pe_int (fun _ _ => rfl)) (pa_cons (pe_tup (pa_cons pe_str (pa_cons pe_int pa_nil))) pa_nil)))
      (pss_cons (ps_expr (pe_bm PySem.F.plainAttrs_list PySem.F.slot_list_append PySem.F.type_list_append mt_append (pv 6) (pa_cons (pe_tup (pa_cons (pe_lst pa_nil) (pa_cons (pe_tup (pa_cons pe_str pa_nil)) pa_nil))) pa_nil)))
      (pss_one (ps_if (pt_cmpR op_ne (pe_callB (cr_repr rfl hr.units) (by rfl) B.repr PyProof.Rows.boot_repr (pa_cons (pe_call GG hr (by rfl) DG.g DG.F.kp DG.b .nil pass0 (pa_cons (pv 4) pa_nil)) pa_nil)) (pv 5) (nomark _)) (pss_one (ps_ret pe_bl)) pss_nil)))))))))))
      (pss_one (ps_ret (pe_cmpR (op_eqD hr.units) (pe_call GG hr (by rfl) DG.g DG.F.kp DG.b .nil pass0 (pa_cons pe_str pa_nil)) (pe_lst (pa_cons (pe_tup (pa_cons (pe_lst pa_nil) (pa_cons (pe_tup (pa_cons pe_str pa_nil)) pa_nil))) pa_nil)) (nomark _))))), ?_⟩
    have hml : 1 ≤ 1 + (if ((ns.map V.int).length : Int) < 4 then ((ns.map V.int).length : Int) else 4) ∧ 1 + (if ((ns.map V.int).length : Int) < 4 then ((ns.map V.int).length : Int) else 4) ≤ 5 := by split <;> omega
    refine ⟨.ref a, rfl, a, _, rfl, .inl (ntL hS), _, _, rfl, _, _, rfl, rfl, _, rfl, by omega, by omega, ?_⟩
    generalize 1 + (if ((ns.map V.int).length : Int) < 4 then ((ns.map V.int).length : Int) else 4) = vv at hml
    refine for_range (lo := 0) (n := vv.toNat) (fun k σ H1 => ∃ (y1 y2 y3 y4 y5 y6 : Option V), σ = [some (.ref a), y1, y2, y3, y4, y5, y6] ∧ LamX.ExtN H H1 ∧ Tbs Ts Dd H1) ⟨_, _, _, _, _, _, rfl, LamX.ExtN.refl H, hT⟩ (fun k σ H1 hk hP => ?_) (fun σ H1 hP => ?_)
    · obtain ⟨y1, y2, y3, y4, y5, y6, rfl, e1, t1⟩ := hP
      have hi0 : V.int (0 + (k : Int)) = iv k := by rw [Int.zero_add]; rfl
      rw [hi0]
      refine ⟨.ref a, rfl, iv k, rfl, a, ns, k, rfl, ntL ((ext_nt e1).seq hS), by omega, fun t o nt0 hTp => ?_⟩
      have s2 := new_same (o := o) nt0
      have t2 := t1.same s2
      generalize upd H1 t o = H2 at hTp s2 t2
      obtain ⟨x0, x1, x2, xt, _⟩ := id hTp
      refine ⟨.ref t, rfl, t, 0, rfl, hTp, by decide, fun fo qs pr H3 b3 T3 pm hqn hright hne hl7 hB => ?_⟩
      have s3 : Same H1 H3 := Same.bt s2 nt0 b3
      have t3 := t2.but xt b3
      have e3 := e1.trans (same_ext s3)
      have hPA := pm.prog
      have hBf : ∀ b ∈ pr, BlkB 7 1000 b := fun b hb => (hB b hb).mono (by decide)
      have np := prog_nice hl7 fun b hb => ⟨⟨Nat.zero_le _, fun r hr => (by cases hr), (hB b hb).2.2⟩, Nat.le_trans (hB b hb).1 (by decide), (hB b hb).2.1⟩
      have hpp := right_prp hright hB
      have hno := right_ok hright
      clear pm hqn T3 b3
      refine ⟨⟨_, rfl⟩, .ref fo, rfl, .ref fo, pr, rfl, hPA, hl7, hBf, fun F4 H4 s4 eF => ⟨"\n", F4, lines pr, rfl, rfl, .inl (sqL eF), lines_ok hl7 hBf, ?_⟩⟩
      have hPA4 := hPA.same s4
      have t4 := t3.same s4
      have e4 := e3.trans (same_ext s4)
      refine ⟨.ref fo, rfl, fo, pdata pr, rfl, hPA4.dp, np.sho, np.noDict, Nat.le_trans np.dep (by decide), np.shown14 (by decide), ?_⟩
      refine ⟨_, _, rfl, ?_⟩
      refine ⟨_, rfl, _, pr, rfl, rfl, hpp, hno, hl7, hBf, t4, fun H5 Pf qf e5 t5 rd => ?_⟩
      have e45 := e4.trans e5
      have hP5 : ProgAt K (nt H5) (.ref fo) pr := hPA4.nt.same (ext_nt e5)
      have hF5 := rd.prog
      have hF5' := hF5.same (nt_same _)
      have hP5' := hP5.same (nt_same _)
      refine ⟨_, rfl, _, rfl, pdata pr, pdata pr, hF5'.dp, hP5'.dp, np.shp, np.shp, _, rfl, ifN (by rw [np.eqv]; intro h; cases h) ?_⟩
      refine ⟨_, rfl, Pf, pdata pr, rfl, hF5'.dp, np.sho, np.noDict, Nat.le_trans np.dep (by decide), np.shown14 (by decide), _, rfl, rfl, _, rfl, ifN (by rw [decide_eq_true rfl]; intro h; cases h) ?_⟩
      refine ⟨_, rfl, .ref Pf, pr, rfl, hF5, hpp, hno, fun b hb r hr => ((hB b hb).2.1 r hr).mono fun _ _ => True.intro, t5, fun H6 e6 t6 => ⟨true, true, rfl, rfl, _, rfl, ifN (by rw [decide_eq_true rfl]; intro h; cases h) ?_⟩⟩
      have hF6' := (hF5.same (ext_nt e6)).same (nt_same _)
      refine ⟨_, rfl, .ref Pf, pr, rfl, hF6', hl7, hBf, fun H7 s7 => ⟨_, rfl, rfl, _, rfl, ifN (by rw [decide_eq_true rfl]; intro h; cases h) ?_⟩⟩
      have rd7 := rd.step (e6.trans (same_ext s7))
      have e7 := e45.trans (e6.trans (same_ext s7))
      have t7 := t6.same s7
      clear hF5 hF5' hP5 hP5' hF6' rd
      -- changed
      have hb7 := rd7.bk
      obtain ⟨q0, qf', rfl⟩ : ∃ q0 qf', qf = q0 :: qf' := by
        cases qf with
        | cons q0 qf' => exact ⟨q0, qf', rfl⟩
        | nil =>
          have h1 := pd_len hb7
          have h2 := hpp.l1
          have h1 : 0 = pr.length := h1
          omega
      obtain ⟨b0, pr', hbr, hb0, -⟩ : ∃ b0 pr', pr = b0 :: pr' ∧ BkM K (frz [Pf] (nt H7)) H7 q0 b0 ∧ True := by
        cases hb7 with
        | cons h t => exact ⟨_, _, rfl, h, trivial⟩
      obtain ⟨ea, vs, l1, l2, l3, l4⟩ := hb0
      have hvl : vs.length ≤ 100 := by rw [pd_len l3]; exact (hB b0 (by rw [hbr]; simp)).1
      have l1' : SqT K H7 q0.1 [.ref q0.2, ea] := Same.tup ((frz_same _ _).trans (nt_same _)) l1
      have nq := rd7.ne q0 (by simp)
      have hnq : nt H q0.2 = none := nt_anti e4 (rd7.nw q0 (by simp))
      have hnP : nt H Pf = none := nt_anti e4 rd7.hp
      have top7 := rd7.top
      have hql : (q0 :: qf').length ≤ 7 := by rw [pd_len rd7.bk]; exact hl7
      refine ⟨_, rfl, Pf, _, _, .ref q0.1, rfl, rfl, sqL top7, atI_nat (j := 0) rfl, q0.1, _, _, .ref q0.2, rfl, rfl, l1', atI_nat (j := 0) rfl, .inl ⟨rfl, _, sqL l2⟩, szl (show 2 ≤ 1000000 by decide), fun T1 n1 => ?_⟩
      have w1 := new_same (o := .tup [.str "num", .int 1]) n1
      have l2a := w1 _ _ l2
      have top8 := w1 _ _ top7
      have e8 := e7.trans (same_ext w1)
      have t8 := t7.same w1
      generalize upd H7 T1 (.tup [.str "num", .int 1]) = H8 at w1 l2a top8 e8 t8
      refine ⟨q0.2, vs, .ref T1, rfl, rfl, l2a, szt (by omega), ?_⟩
      have e9 : LamX.ExtN H (upd H8 q0.2 (.lst (vs ++ [.ref T1]))) := ext_updN e8 hnq
      have t9 := t8.upd (o := .lst (vs ++ [.ref T1])) l2a
      have top9 : upd H8 q0.2 (.lst (vs ++ [.ref T1])) Pf = some (.lst ((q0 :: qf').map fun q => V.ref q.1)) := by rw [upd_ne (Ne.symm nq)]; exact top8
      generalize upd H8 q0.2 (.lst (vs ++ [.ref T1])) = H9 at e9 t9 top9
      refine ⟨_, rfl, .inl ⟨rfl, _, sqL top9⟩, Nat.zero_le _, fun L1 m1 => ⟨szl (show 1 ≤ 1000000 by decide), fun T2 m2 => ⟨szl (show 2 ≤ 1000000 by decide), fun T3 m3 => ?_⟩⟩⟩
      have w2 := ((new_same (o := .lst []) m1).trans (new_same (o := .tup [.str "end"]) m2)).trans (new_same (o := .tup [.ref L1, .ref T2]) m3)
      have topA := w2 _ _ top9
      have eA := e9.trans (same_ext w2)
      have tA := t9.same w2
      generalize upd (upd (upd H9 L1 (.lst [])) T2 (.tup [.str "end"])) T3 (.tup [.ref L1, .ref T2]) = HA at w2 topA eA tA
      refine ⟨Pf, _, .ref T3, rfl, rfl, topA, by rw [List.length_map]; exact szt (by omega), ?_⟩
      have eB : LamX.ExtN H (upd HA Pf (.lst (((q0 :: qf').map fun q => V.ref q.1) ++ [.ref T3]))) := ext_updN eA hnP
      have tB := tA.upd (o := .lst (((q0 :: qf').map fun q => V.ref q.1) ++ [.ref T3])) topA
      generalize upd HA Pf (.lst (((q0 :: qf').map fun q => V.ref q.1) ++ [.ref T3])) = HB at eB tB
      refine ⟨_, rfl, _, pr, rfl, rfl, hpp, hno, hl7, hBf, tB, fun HC PC qC eC tC rdC => ?_⟩
      refine ⟨PC, pdata pr, rfl, (rdC.prog.same (nt_same _)).dp, np.sho, np.noDict, Nat.le_trans np.dep (by decide), np.shown14 (by decide), _, rfl, rfl, _, rfl, ifN (by rw [decide_eq_true rfl]; intro h; cases h) ?_⟩
      exact ⟨_, _, _, _, _, _, rfl, eB.trans eC, tC⟩
    · obtain ⟨y1, y2, y3, y4, y5, y6, rfl, e1, t1⟩ := hP
      refine ⟨_, [([], .fin)], rfl, last_text.symm, last_prp, last_ok, by decide, fun b hb => ?_, t1, fun H2 P2 q2 e2 t2 rd2 => ?_⟩
      · rw [List.mem_singleton.mp hb]
        exact ⟨Nat.zero_le _, fun r hr => (by cases hr), trivial⟩
      refine ⟨Nat.zero_le _, fun L1 n1 => ⟨szl (show 1 ≤ 1000000 by decide), fun T1 n2 => ⟨szl (show 2 ≤ 1000000 by decide), fun T2 n3 => ⟨szl (show 1 ≤ 1000000 by decide), fun L2 n4 => ?_⟩⟩⟩⟩
      have w1 := new_same (o := .lst []) n1
      have w2 := new_same (o := .tup [.str "end"]) n2
      have w3 := new_same (o := .tup [.ref L1, .ref T1]) n3
      have w4 := new_same (o := .lst [.ref T2]) n4
      have u1 := w4 _ _ (w3 _ _ (w2 _ _ (upd_same (H := H2) (a := L1) (o := .lst []))))
      have u2 := w4 _ _ (w3 _ _ (upd_same (a := T1) (o := .tup [.str "end"])))
      have u3 := w4 _ _ (upd_same (a := T2) (o := .tup [.ref L1, .ref T1]))
      have s24 := ((w1.trans w2).trans w3).trans w4
      have hN : ProgAt K (upd (upd (upd (upd H2 L1 (.lst [])) T1 (.tup [.str "end"])) T2 (.tup [.ref L1, .ref T1])) L2 (.lst [.ref T2])) (.ref L2) [([], .fin)] := ⟨L2, [.ref T2], rfl, sqL upd_same, .cons ⟨T2, L1, .ref T1, [], rfl, sqT u3, u1, .nil, T1, rfl, sqT u2⟩ .nil⟩
      have hO := (rd2.prog.same (nt_same _)).same s24
      refine ⟨_, _, hO.dp, hN.dp, last_nice.shp, last_nice.shp, ?_⟩
      rw [last_nice.eqv]
      exact q _
end
end Gn
set_option Elab.async false
set_option linter.all false
set_option maxRecDepth 100000
set_option maxHeartbeats 4000000
namespace Gn
open PySem PySem.Spec PyProof.Rows L2
/-! ### the door of a law whose defs have tables, called by the law's own caller alone -/
abbrev Bare0 : Obj := { cls := .none, data := .fields #[] }
/-- what is tracked at the door: the tables, the script's list maybe -/
structure Door (P : Program) (w : World) (K : PySem.W.Frag) (cs : List (Addr × Addr)) (a : Addr) (vs : List Value) (t1 : Shared) (H : Hp) : Prop where
  tb : ∀ p ∈ cs, H p.2 = some (.tbl #[])
  kd : ∀ z, H z = none ∨ (∃ p ∈ cs, p.2 = z) ∨ ∃ ob us, H z = some (.frz ob (.lst us))
  ok : HOk P w H t1.heap
  few : ∀ z, H z ≠ none → z = a ∨ ∃ p ∈ cs, p.2 = z
  ka : H a ≠ none → K.lookup a = none
section
variable {P : Program} {w : World} {K : PySem.W.Frag} {cs : List (Addr × Addr)} {a : Addr} {vs : List Value} {t1 : Shared} {H : Hp}
theorem Door.none_of (d : Door P w K cs a vs t1 H) (ha : t1.heap.get? a = some { cls := .type "list", data := .seq vs.toArray }) (t0 : ∀ p ∈ cs, t1.heap.get? p.2 = some Bare0) {z : Addr} {o : Obj} (e : t1.heap.get? z = some o) (n1 : ∀ us k, o.data ≠ .seq us k) (n2 : o.data ≠ .fields #[]) : H z = none := by
  cases hz : H z with
  | none => rfl
  | some u =>
    rcases d.few z (by rw [hz]; exact fun y => by cases y) with rfl | ⟨p, hp, rfl⟩
    · rw [ha] at e
      cases e
      exact absurd rfl (n1 _ _)
    · rw [t0 p hp] at e
      cases e
      exact absurd rfl n2
theorem Door.ns (d : Door P w K cs a vs t1 H) (ha : t1.heap.get? a = some { cls := .type "list", data := .seq vs.toArray }) (t0 : ∀ p ∈ cs, t1.heap.get? p.2 = some Bare0) {z : Addr} {m : Str → Option Value} (n : t1.heap.Ns z m) : (hidT t1.heap H).Ns z m := by
  obtain ⟨o, es, ep, e, hd, r⟩ := n
  refine ⟨o, es, ep, hidT_get e (d.none_of ha t0 e (fun us k y => ?_) fun y => ?_), hd, r⟩ <;> (rw [hd] at y; cases y)
theorem Door.tabB {mg : Str → Option Value} (d : Door P w K cs a vs t1 H) (ha : t1.heap.get? a = some { cls := .type "list", data := .seq vs.toArray }) (t0 : ∀ p ∈ cs, t1.heap.get? p.2 = some Bare0) (cd : ∀ p ∈ cs, PySem.W.CodeHd t1.heap p.1 p.2) (nG : t1.heap.Ns mainGlobals mg)
    (bmod : ∃ (bm : Addr) (ob : Obj), mg "__builtins__" = some (.ref bm) ∧ bm ≠ builtinsNs ∧ t1.heap.get? bm = some ob ∧ ob.cls = .type "module" ∧ ob.dict = some builtinsNs ∧ ob.data = .plain) : ∀ p ∈ cs, GxR.TabB (hidT t1.heap H) mg p.1 p.2 := fun p hp => by
  have tp := t0 p hp
  obtain ⟨og, eg, pg, g1, g2, _⟩ := nG
  have gP : mainGlobals ≠ p.2 := fun y => by
    rw [y, tp] at g1
    cases g1
    cases g2
  obtain ⟨bm, ob, b1, b2, b3, b4, b5, b6⟩ := bmod
  have m1 : bm ≠ mainGlobals := fun y => by
    rw [y, g1] at b3
    cases b3
    rw [g2] at b6
    cases b6
  have m2 : bm ≠ p.2 := fun y => by
    rw [y, tp] at b3
    cases b3
    cases b6
  obtain ⟨o, us, file, tf, flags, tg, inF, text, tt, e1, r1, r2, r3, rest⟩ := cd p hp
  refine ⟨⟨o, us, file, tf, flags, tg, inF, text, tt, hidT_get e1 (d.none_of ha t0 e1 (fun ws k y => ?_) fun y => ?_), r1, r2, r3, rest⟩, ⟨bm, ob, b1, b2, m1, m2, hidT_get b3 (d.none_of ha t0 b3 (fun ws k y => ?_) fun y => ?_), b4, b5, b6⟩, gP⟩
  · rw [r2] at y; cases y
  · rw [r2] at y
    cases y
    simp at r3
  · rw [b6] at y; cases y
  · rw [b6] at y; cases y
end
theorem doorT {P : Program} {w : World} {K : PySem.W.Frag} {mg mb : Str → Option Value} {fa a : Addr} {cs : List (Addr × Addr)} {fd : FuncData} {x : Str} {sp : Sp} {t1 : Shared} {vs : List Value} {H : Hp} (inK : K.In t1.heap) (nG : t1.heap.Ns mainGlobals mg) (nB : t1.heap.Ns builtinsNs mb)
    (same : ∀ y : Str, y ≠ "__name__" → mb y = bootBuiltins y) (lim : t1.heap.NoLimit) (gens0 : t1.gens = #[]) (t0 : ∀ p ∈ cs, t1.heap.get? p.2 = some Bare0) (tk : ∀ p ∈ cs, K.lookup p.2 = none) (cd : ∀ p ∈ cs, PySem.W.CodeHd t1.heap p.1 p.2)
    (bmod : ∃ (bm : Addr) (ob : Obj), mg "__builtins__" = some (.ref bm) ∧ bm ≠ builtinsNs ∧ t1.heap.get? bm = some ob ∧ ob.cls = .type "module" ∧ ob.dict = some builtinsNs ∧ ob.data = .plain) (ha : t1.heap.get? a = some { cls := .type "list", data := .seq vs.toArray })
    (F : ∀ base : Heap, K.In base → base.Ns mainGlobals mg → (∀ p ∈ cs, GxR.TabB base mg p.1 p.2) → FnG P w K mg base fa fd [x] sp) (bind : ∀ (s : Shared) (u : Value), BindsTo s fd ⟨[u], []⟩ [(x, u)]) (d : Door P w K cs a vs t1 H)
    (hsp : sp [.ref a] H (fun v _ => v = .bl true) fun _ _ _ => False) : codeAny (model P w) callerA (.call (.ref fa) ⟨[.ref a], []⟩) (fun r t => r = .ok (.ret (.bool true)) ∧ OldK t1.heap t.heap ∧ t.os = t1.os ∧ AllBare t.gens) t1 := by
  have inKb : K.In (hidT t1.heap H) := fun z o e => by
    refine hidT_get (inK z o e) ?_
    cases hz : H z with
    | none => rfl
    | some u =>
      rcases d.few z (by rw [hz]; exact fun y => by cases y) with rfl | ⟨p, hp, rfl⟩
      · rw [d.ka (by rw [hz]; exact fun y => by cases y)] at e; cases e
      · rw [tk p hp] at e; cases e
  have hM : Mod K mg (hidT t1.heap H) := ⟨inKb, d.ns ha t0 nG, ⟨mb, d.ns ha t0 nB, same⟩, let ⟨mc, h1, h2⟩ := lim; ⟨mc, d.ns ha t0 h1, h2⟩⟩
  have e0 : Env0 P w K mg (hidT t1.heap H) callerA [] t1 H := ⟨rfl, hM, fun z o e => of_hidT e, Nat.le_of_eq (hidT_size _ _), trivial, (fun z hz => by cases hz), d.ok, .of_eq gens0⟩
  refine codeAny_mono ((F _ inKb (d.ns ha t0 nG) (d.tabB ha t0 cd nG bmod)).run [] t1 H ⟨[.ref a], []⟩ [.ref a] [.ref a] _ _ e0 (bind t1 (.ref a)) (.cons rfl .nil) hsp) fun r t h => ?_
  cases r with
  | error e => exact False.elim h
  | ok fl =>
    cases fl with
    | next => exact False.elim h
    | brk => exact False.elim h
    | cont => exact False.elim h
    | ret u =>
      obtain ⟨v, H', os, bare, un, hok', r', q⟩ := h
      have q' : v = .bl true := q
      subst q'
      obtain rfl : u = Value.bool true := r'
      have rest : ∀ z o, (¬ ∃ p ∈ cs, p.2 = z) → t1.heap.get? z = some o → t.heap.get? z = some o := fun z o nz e => by
        rcases d.kd z with hz | hz | ⟨ob, us, hz⟩
        · exact un.keep z o e hz (fun y => by cases y) (by simp)
        · exact absurd hz nz
        · obtain ⟨e1, _⟩ := d.ok z _ hz
          obtain ⟨e2, _⟩ := hok' z _ (un.frzs z ob _ hz)
          rw [e] at e1
          cases e1
          exact e2
      have tabs : ∀ p ∈ cs, ∃ more : Array Value, t.heap.get? p.2 = some { cls := .none, data := .fields more } := fun p hp => by
        obtain ⟨more, y⟩ := un.tbls p.2 #[] (d.tb p hp)
        exact ⟨_, hok' p.2 _ y⟩
      refine ⟨rfl, ⟨fun z o e => ?_, fun z o e => ?_⟩, os, bare⟩
      · by_cases hz : ∃ p ∈ cs, p.2 = z
        · obtain ⟨p, hp, rfl⟩ := hz
          obtain ⟨more, hm⟩ := tabs p hp
          rw [t0 p hp] at e
          cases e
          exact .inr (.inl ⟨((cd p hp).tab (t0 p hp)).isCodeTable, rfl, #[], more, rfl, by rw [Array.empty_append, hm]⟩)
        · exact .inl (rest z o hz e)
      · by_cases hz : ∃ p ∈ cs, p.2 = z
        · obtain ⟨p, hp, rfl⟩ := hz
          obtain ⟨more, hm⟩ := tabs p hp
          exact ⟨_, hm⟩
        · exact ⟨o, rest z o hz e⟩
open Classical in
theorem lawGT {P : Program} {w : World} {K : PySem.W.Frag} {mg mb : Str → Option Value} {fa a : Addr} {cs : List (Addr × Addr)} {fd : FuncData} {x : Str} {sp : Sp} {t1 : Shared} {vs : List Value} {ns : List Int} (inK : K.In t1.heap) (nG : t1.heap.Ns mainGlobals mg) (nB : t1.heap.Ns builtinsNs mb)
    (same : ∀ y : Str, y ≠ "__name__" → mb y = bootBuiltins y) (lim : t1.heap.NoLimit) (gens0 : t1.gens = #[]) (t0 : ∀ p ∈ cs, t1.heap.get? p.2 = some Bare0) (tk : ∀ p ∈ cs, K.lookup p.2 = none) (cd : ∀ p ∈ cs, PySem.W.CodeHd t1.heap p.1 p.2)
    (bmod : ∃ (bm : Addr) (ob : Obj), mg "__builtins__" = some (.ref bm) ∧ bm ≠ builtinsNs ∧ t1.heap.get? bm = some ob ∧ ob.cls = .type "module" ∧ ob.dict = some builtinsNs ∧ ob.data = .plain) (ha : t1.heap.get? a = some { cls := .type "list", data := .seq vs.toArray }) (hi : IntsAre vs ns) (hl : ns.length ≤ sizeLine)
    (F : ∀ base : Heap, K.In base → base.Ns mainGlobals mg → (∀ p ∈ cs, GxR.TabB base mg p.1 p.2) → FnG P w K mg base fa fd [x] sp) (bind : ∀ (s : Shared) (u : Value), BindsTo s fd ⟨[u], []⟩ [(x, u)])
    (hsp : ∀ H : Hp, (∀ p ∈ cs, H p.2 = some (.tbl #[])) → SqL K H a (ns.map V.int) → sp [.ref a] H (fun v _ => v = .bl true) fun _ _ _ => False) : codeAny (model P w) callerA (.call (.ref fa) ⟨[.ref a], []⟩) (fun r t => r = .ok (.ret (.bool true)) ∧ OldK t1.heap t.heap ∧ t.os = t1.os ∧ AllBare t.gens) t1 := by
  have rv := vals_ints hi
  have lenV := hi.length
  have na : ∀ p ∈ cs, p.2 ≠ a := fun p hp y => by
    have q := t0 p hp
    rw [y, ha] at q
    have q2 : Data.seq vs.toArray _ = Data.fields #[] := congrArg Obj.data (Option.some.inj q)
    cases q2
  -- the tables, and u at the script's place
  let Hu : Option HO → Hp := fun u z => if z = a then u else if (∃ p ∈ cs, p.2 = z) then some (.tbl #[]) else none
  have ha' : ∀ u, Hu u a = u := fun u => if_pos rfl
  have ht' : ∀ u z, (∃ p ∈ cs, p.2 = z) → Hu u z = some (.tbl #[]) := fun u z hz => by
    obtain ⟨p, hp, rfl⟩ := hz
    show (if p.2 = a then u else if (∃ p' ∈ cs, p'.2 = p.2) then some (HO.tbl #[]) else none) = _
    rw [if_neg (na p hp), if_pos ⟨p, hp, rfl⟩]
  have hn' : ∀ u z, z ≠ a → (¬ ∃ p ∈ cs, p.2 = z) → Hu u z = none := fun u z h1 h2 => by
    show (if z = a then u else if (∃ p' ∈ cs, p'.2 = z) then some (HO.tbl #[]) else none) = none
    rw [if_neg h1, if_neg h2]
  have mkD : ∀ u : Option HO, (u = none ∨ ∃ ob us, u = some (.frz ob (.lst us))) → (∀ o, u = some o → ObjOk P w (Hu u) t1.heap a o) → (u ≠ none → K.lookup a = none) → Door P w K cs a vs t1 (Hu u) := by
    intro u hu hok hk
    refine ⟨fun p hp => ht' u _ ⟨p, hp, rfl⟩, fun z => ?_, ?_, fun z hz => ?_, fun hz => hk (by rw [← ha' u]; exact hz)⟩
    · by_cases h1 : z = a
      · subst h1
        rcases hu with rfl | ⟨ob, us, rfl⟩
        · exact .inl (ha' _)
        · exact .inr (.inr ⟨ob, us, ha' _⟩)
      · by_cases h2 : ∃ p ∈ cs, p.2 = z
        · exact .inr (.inl h2)
        · exact .inl (hn' u z h1 h2)
    · intro z o hz
      by_cases h1 : z = a
      · subst h1
        rw [ha'] at hz
        exact hok o hz
      · by_cases h2 : ∃ p ∈ cs, p.2 = z
        · rw [ht' u z h2] at hz
          cases hz
          obtain ⟨p, hp, rfl⟩ := h2
          exact t0 p hp
        · rw [hn' u z h1 h2] at hz
          cases hz
    · by_cases h1 : z = a
      · exact .inl h1
      · by_cases h2 : ∃ p ∈ cs, p.2 = z
        · exact .inr h2
        · exact absurd (hn' u z h1 h2) hz
  cases hk : K.lookup a with
  | some o =>
    have e := inK a o hk
    rw [ha] at e
    cases e
    exact doorT inK nG nB same lim gens0 t0 tk cd bmod ha F bind (mkD none (.inl rfl) (fun o y => by cases y) fun y => absurd rfl y) (hsp _ (fun p hp => ht' none _ ⟨p, hp, rfl⟩) (.inr ⟨_, vs.toArray, _, hk, rfl, rfl, rfl, by rw [List.size_toArray, lenV]; exact hl, by simpa using rv⟩))
  | none =>
    refine doorT inK nG nB same lim gens0 t0 tk cd bmod ha F bind (mkD (some (.frz { cls := .type "list", data := .seq vs.toArray } (.lst (ns.map V.int)))) (.inr ⟨_, _, rfl⟩) (fun o y => ?_) fun _ => hk) (hsp _ (fun p hp => ht' _ _ ⟨p, hp, rfl⟩) (.inl (.inr ⟨_, ha' _⟩)))
    cases y
    exact ⟨ha, by rw [List.length_map]; exact hl, vs, _, rv, ha⟩
/-- a law's end with tables, for a law that shows its program -/
theorem walkGT {l : PySem.W.OpenLaw} {n : Nat} {q : Program} {loose : List Str} {XP : (Str → Option Value) → Heap → Prop} {YP : World → Heap → Prop} {d : DefRec} {K : Params → PySem.W.Frag} {x : Str} (hn : l.most = some n) (hn2 : n ≤ sizeLine) (hdf : d.params.defaults = [])
    (hY : ∀ (w : World) (h : Heap), YP w h → (K w.params).In h)
    (F : ∀ (w : World) (mg : Str → Option Value) (fa : Addr) (h : Heap), YP w h → (K w.params).In h → h.Ns mainGlobals mg → mg d.name = some (.ref fa) →
      ∃ (fd : FuncData) (cs : List (Addr × Addr)) (sp : Sp), (∀ p ∈ cs, h.get? p.2 = some Bare0 ∧ (K w.params).lookup p.2 = none ∧ PySem.W.CodeHd h p.1 p.2) ∧ (∀ (s : Shared) (u : Value), BindsTo s fd ⟨[u], []⟩ [(x, u)]) ∧
        (∀ (H : Hp) (a : Addr) (ns : List Int), ns.length ≤ n → (∀ p ∈ cs, H p.2 = some (.tbl #[])) → SqL (K w.params) H a (ns.map V.int) → sp [.ref a] H (fun v _ => v = .bl true) fun _ _ _ => False) ∧
        ∀ base : Heap, (K w.params).In base → base.Ns mainGlobals mg → (∀ p ∈ cs, GxR.TabB base mg p.1 p.2) → FnG l.prog w (K w.params) mg base fa fd [x] sp) :
    PySem.W.WalkO q loose XP YP l.row.toRowW d [] (fun f vs => PySem.call f vs) := by
  refine Att.attach_call hn hdf fun w t0 t1 mg mb fa o pm cd doc a vs ns G Y ho hd hcd hmg hobj hints hlen hg => ?_
  have KX := hY w _ Y
  obtain ⟨fd, cs, sp, hcs, hb, hsp, hF⟩ := F w mg fa _ Y KX G.T.g hmg
  exact lawGT KX G.T.g G.T.b G.T.builtins G.T.nolimit hg (fun p hp => (hcs p hp).1) (fun p hp => (hcs p hp).2.1) (fun p hp => (hcs p hp).2.2) G.T.bmain hobj hints (Nat.le_trans hlen hn2) hF hb fun H hH hS => hsp H a ns hlen hH hS
end Gn
set_option Elab.async false
set_option linter.all false
set_option maxRecDepth 100000
namespace Gn
open PySem PySem.Spec PyProof.Rows L2
set_option maxHeartbeats 4000000
theorem all_mk {l : PySem.W.OpenLaw} {w : World} {K : PySem.W.Frag} {h : Heap} {mg : Str → Option Value} {fa fL1 fL2 fL3 fL4 fL5 fL6 fL7 fT1 fT2 fT3 fT4 fN1 fN2 fN3 fN4 fC1 fC2 fC3 fC4 fC5 fH1 fH2 fH3 xH3 TH3 fH4 xH4 TH4 fH5 fH6 fH7 fH8 fH9 xH9 TH9 fHA xHA THA fJ1 fJ2 fJ3 fJ4 fJ5 fK1 fK2 xK2 TK2 fK3 xK3 TK3 fK4 fK5 fK6 fU1 xU1 TU1 fU2 fU3 fU4 fU5 fV1 fV2 fV3 fV4 fZ CW fW1 fW2 CP fP1 fP2 fP3 xP3 TP3 fP4 xP4 TP4 dR rg0 rg1 rg2 rg3 rg4 rg5 rg6 rg7 rg8 rg9 rg10 rg11 dE eg0 eg1 eg2 sg yg dC dD : Addr} (X : K.In h) (G : h.Ns mainGlobals mg) (hfa : mg "law" = some (.ref fa))
    {odL1 anL1 odL2 anL2 odL3 anL3 odL4 anL4 odL5 anL5 odL6 anL6 odL7 anL7 odT1 anT1 odT2 anT2 odT3 anT3 odT4 anT4 odN1 anN1 odN2 anN2 odN3 anN3 odN4 anN4 odC1 anC1 odC2 anC2 odC3 anC3 odC4 anC4 odC5 anC5 odH1 anH1 odH2 anH2 odH3 anH3 odcH3 odH4 anH4 odcH4 odH5 anH5 odH6 anH6 odH7 anH7 odH8 anH8 odH9 anH9 odcH9 odHA anHA odcHA odJ1 anJ1 odJ2 anJ2 odJ3 anJ3 odJ4 anJ4 odJ5 anJ5 odK1 anK1 odK2 anK2 odcK2 odK3 anK3 odcK3 odK4 anK4 odK5 anK5 odK6 anK6 odU1 anU1 odcU1 odU2 anU2 odU3 anU3 odU4 anU4 odU5 anU5 odV1 anV1 odV2 anV2 odV3 anV3 odV4 anV4 odZ anZ odW1 anW1 odW2 anW2 odP1 anP1 odP2 anP2 odP3 anP3 odcP3 odP4 anP4 odcP4 : Option Addr} {slL1 slL2 slL3 slL4 slL5 slL6 slL7 slT1 slT2 slT3 slT4 slN1 slN2 slN3 slN4 slC1 slC2 slC3 slC4 slC5 slH1 slH2 slH3 slcH3 slH4 slcH4 slH5 slH6 slH7 slH8 slH9 slcH9 slHA slcHA slJ1 slJ2 slJ3 slJ4 slJ5 slK1 slK2 slcK2 slK3 slcK3 slK4 slK5 slK6 slU1 slcU1 slU2 slU3 slU4 slU5 slV1 slV2 slV3 slV4 slZ slW1 slW2 slP1 slP2 slP3 slcP3 slP4 slcP4 r0q r1q r2q r3q r4q r5q r6q r7q r8q r9q r10q r11q e0q e1q e2q sq yq : Array (Option Value)} {ocL1 kVL1 dcL1 pmL1 cdL1 ctL1 ocL2 kVL2 dcL2 pmL2 cdL2 ctL2 ocL3 kVL3 dcL3 pmL3 cdL3 ctL3 ocL4 kVL4 dcL4 pmL4 cdL4 ctL4 ocL5 kVL5 dcL5 pmL5 cdL5 ctL5 ocL6 kVL6 dcL6 pmL6 cdL6 ctL6 ocL7 kVL7 dcL7 pmL7 cdL7 ctL7 ocT1 kVT1 dcT1 pmT1 cdT1 ctT1 ocT2 kVT2 dcT2 pmT2 cdT2 ctT2 ocT3 kVT3 dcT3 pmT3 cdT3 ctT3 ocT4 kVT4 dcT4 pmT4 cdT4 ctT4 ocN1 kVN1 dcN1 pmN1 cdN1 ctN1 ocN2 kVN2 dcN2 pmN2 cdN2 ctN2 ocN3 kVN3 dcN3 pmN3 cdN3 ctN3 ocN4 kVN4 dcN4 pmN4 cdN4 ctN4 ocC1 kVC1 dcC1 pmC1 cdC1 ctC1 ocC2 kVC2 dcC2 pmC2 cdC2 ctC2 ocC3 kVC3 dcC3 pmC3 cdC3 ctC3 ocC4 kVC4 dcC4 pmC4 cdC4 ctC4 ocC5 kVC5 dcC5 pmC5 cdC5 ctC5 ocH1 kVH1 dcH1 pmH1 cdH1 ctH1 ocH2 kVH2 dcH2 pmH2 cdH2 ctH2 ocH3 kVH3 dcH3 pmH3 cdH3 ctH3 occH3 ocH4 kVH4 dcH4 pmH4 cdH4 ctH4 occH4 ocH5 kVH5 dcH5 pmH5 cdH5 ctH5 ocH6 kVH6 dcH6 pmH6 cdH6 ctH6 ocH7 kVH7 dcH7 pmH7 cdH7 ctH7 ocH8 kVH8 dcH8 pmH8 cdH8 ctH8 ocH9 kVH9 dcH9 pmH9 cdH9 ctH9 occH9 ocHA kVHA dcHA pmHA cdHA ctHA occHA ocJ1 kVJ1 dcJ1 pmJ1 cdJ1 ctJ1 ocJ2 kVJ2 dcJ2 pmJ2 cdJ2 ctJ2 ocJ3 kVJ3 dcJ3 pmJ3 cdJ3 ctJ3 ocJ4 kVJ4 dcJ4 pmJ4 cdJ4 ctJ4 ocJ5 kVJ5 dcJ5 pmJ5 cdJ5 ctJ5 ocK1 kVK1 dcK1 pmK1 cdK1 ctK1 ocK2 kVK2 dcK2 pmK2 cdK2 ctK2 occK2 ocK3 kVK3 dcK3 pmK3 cdK3 ctK3 occK3 ocK4 kVK4 dcK4 pmK4 cdK4 ctK4 ocK5 kVK5 dcK5 pmK5 cdK5 ctK5 ocK6 kVK6 dcK6 pmK6 cdK6 ctK6 ocU1 kVU1 dcU1 pmU1 cdU1 ctU1 occU1 ocU2 kVU2 dcU2 pmU2 cdU2 ctU2 ocU3 kVU3 dcU3 pmU3 cdU3 ctU3 ocU4 kVU4 dcU4 pmU4 cdU4 ctU4 ocU5 kVU5 dcU5 pmU5 cdU5 ctU5 ocV1 kVV1 dcV1 pmV1 cdV1 ctV1 ocV2 kVV2 dcV2 pmV2 cdV2 ctV2 ocV3 kVV3 dcV3 pmV3 cdV3 ctV3 ocV4 kVV4 dcV4 pmV4 cdV4 ctV4 ocZ kVZ dcZ pmZ cdZ ctZ ocW1 kVW1 dcW1 pmW1 cdW1 ctW1 ocW2 kVW2 dcW2 pmW2 cdW2 ctW2 ocP1 kVP1 dcP1 pmP1 cdP1 ctP1 ocP2 kVP2 dcP2 pmP2 cdP2 ctP2 ocP3 kVP3 dcP3 pmP3 cdP3 ctP3 occP3 ocP4 kVP4 dcP4 pmP4 cdP4 ctP4 occP4 : Value} {esR esE esC esD : Array DictEntry} {nesR r0j r1j r2j r3j r4j r5j r6j r7j r8j r9j r10j r11j nesE e0j e1j e2j sj yj nesC nesD : Nat} {vscH3 vscH4 vscH9 vscHA vscK2 vscK3 vscU1 vscP3 vscP4 r0i r1i r2i r3i r4i r5i r6i r7i r8i r9i r10i r11i e0i e1i e2i si yi : Array Value} {tk0 tk1 tk2 tk3 : Tok}
    (aL1 : PySem.W.nsIn K mainGlobals "_law_begun" = some (some (.ref fL1)))
    (lL1 : K.lookup fL1 = some ⟨ocL1, odL1, .func (PySem.W.fnOf "_law_begun" "_law_begun" (defArgs sTape) (defBody sTape) (defScope sTape) .none kVL1 dcL1 pmL1 anL1 cdL1 ctL1), slL1⟩)
    (cL1 : PySem.W.codeIn K cdL1 "_law_begun" = true)
    (kL1 : PySem.W.keepIn K (.ref fL1) = true)
    (aL2 : PySem.W.nsIn K mainGlobals "_law_draw" = some (some (.ref fL2)))
    (lL2 : K.lookup fL2 = some ⟨ocL2, odL2, .func (PySem.W.fnOf "_law_draw" "_law_draw" (defArgs sDraw) (defBody sDraw) (defScope sDraw) .none kVL2 dcL2 pmL2 anL2 cdL2 ctL2), slL2⟩)
    (cL2 : PySem.W.codeIn K cdL2 "_law_draw" = true)
    (kL2 : PySem.W.keepIn K (.ref fL2) = true)
    (aL3 : PySem.W.nsIn K mainGlobals "_law_nexts" = some (some (.ref fL3)))
    (lL3 : K.lookup fL3 = some ⟨ocL3, odL3, .func (PySem.W.fnOf "_law_nexts" "_law_nexts" (defArgs sNexts) (defBody sNexts) (defScope sNexts) .none kVL3 dcL3 pmL3 anL3 cdL3 ctL3), slL3⟩)
    (cL3 : PySem.W.codeIn K cdL3 "_law_nexts" = true)
    (kL3 : PySem.W.keepIn K (.ref fL3) = true)
    (aL4 : PySem.W.nsIn K mainGlobals "_law_reached" = some (some (.ref fL4)))
    (lL4 : K.lookup fL4 = some ⟨ocL4, odL4, .func (PySem.W.fnOf "_law_reached" "_law_reached" (defArgs sReached) (defBody sReached) (defScope sReached) .none kVL4 dcL4 pmL4 anL4 cdL4 ctL4), slL4⟩)
    (cL4 : PySem.W.codeIn K cdL4 "_law_reached" = true)
    (kL4 : PySem.W.keepIn K (.ref fL4) = true)
    (aL5 : PySem.W.nsIn K mainGlobals "_law_drawn_row" = some (some (.ref fL5)))
    (lL5 : K.lookup fL5 = some ⟨ocL5, odL5, .func (PySem.W.fnOf "_law_drawn_row" "_law_drawn_row" (defArgs sDrawn) (defBody sDrawn) (defScope sDrawn) .none kVL5 dcL5 pmL5 anL5 cdL5 ctL5), slL5⟩)
    (cL5 : PySem.W.codeIn K cdL5 "_law_drawn_row" = true)
    (kL5 : PySem.W.keepIn K (.ref fL5) = true)
    (aL6 : PySem.W.nsIn K mainGlobals "_law_standing" = some (some (.ref fL6)))
    (lL6 : K.lookup fL6 = some ⟨ocL6, odL6, .func (PySem.W.fnOf "_law_standing" "_law_standing" (defArgs sStanding) (defBody sStanding) (defScope sStanding) .none kVL6 dcL6 pmL6 anL6 cdL6 ctL6), slL6⟩)
    (cL6 : PySem.W.codeIn K cdL6 "_law_standing" = true)
    (kL6 : PySem.W.keepIn K (.ref fL6) = true)
    (aL7 : PySem.W.nsIn K mainGlobals "_law_program" = some (some (.ref fL7)))
    (lL7 : K.lookup fL7 = some ⟨ocL7, odL7, .func (PySem.W.fnOf "_law_program" "_law_program" (defArgs sProgram) (defBody sProgram) (defScope sProgram) .none kVL7 dcL7 pmL7 anL7 cdL7 ctL7), slL7⟩)
    (cL7 : PySem.W.codeIn K cdL7 "_law_program" = true)
    (kL7 : PySem.W.keepIn K (.ref fL7) = true)
    (aT1 : PySem.W.nsIn K mainGlobals "_law_row_text" = some (some (.ref fT1)))
    (lT1 : K.lookup fT1 = some ⟨ocT1, odT1, .func (PySem.W.fnOf "_law_row_text" "_law_row_text" (defArgs sRowText) (defBody sRowText) (defScope sRowText) .none kVT1 dcT1 pmT1 anT1 cdT1 ctT1), slT1⟩)
    (cT1 : PySem.W.codeIn K cdT1 "_law_row_text" = true)
    (kT1 : PySem.W.keepIn K (.ref fT1) = true)
    (aT2 : PySem.W.nsIn K mainGlobals "_law_text_rows" = some (some (.ref fT2)))
    (lT2 : K.lookup fT2 = some ⟨ocT2, odT2, .func (PySem.W.fnOf "_law_text_rows" "_law_text_rows" (defArgs sTextRows) (defBody sTextRows) (defScope sTextRows) .none kVT2 dcT2 pmT2 anT2 cdT2 ctT2), slT2⟩)
    (cT2 : PySem.W.codeIn K cdT2 "_law_text_rows" = true)
    (kT2 : PySem.W.keepIn K (.ref fT2) = true)
    (aT3 : PySem.W.nsIn K mainGlobals "program_text" = some (some (.ref fT3)))
    (lT3 : K.lookup fT3 = some ⟨ocT3, odT3, .func (PySem.W.fnOf "program_text" "program_text" (defArgs sPText) (defBody sPText) (defScope sPText) .none kVT3 dcT3 pmT3 anT3 cdT3 ctT3), slT3⟩)
    (cT3 : PySem.W.codeIn K cdT3 "program_text" = true)
    (kT3 : PySem.W.keepIn K (.ref fT3) = true)
    (aT4 : PySem.W.nsIn K mainGlobals "text_of" = some (some (.ref fT4)))
    (lT4 : K.lookup fT4 = some ⟨ocT4, odT4, .func (PySem.W.fnOf "text_of" "text_of" (defArgs sTextOf) (defBody sTextOf) (defScope sTextOf) .none kVT4 dcT4 pmT4 anT4 cdT4 ctT4), slT4⟩)
    (cT4 : PySem.W.codeIn K cdT4 "text_of" = true)
    (kT4 : PySem.W.keepIn K (.ref fT4) = true)
    (aN1 : PySem.W.nsIn K mainGlobals "blocks_named" = some (some (.ref fN1)))
    (lN1 : K.lookup fN1 = some ⟨ocN1, odN1, .func (PySem.W.fnOf "blocks_named" "blocks_named" (defArgs sNamed) (defBody sNamed) (defScope sNamed) .none kVN1 dcN1 pmN1 anN1 cdN1 ctN1), slN1⟩)
    (cN1 : PySem.W.codeIn K cdN1 "blocks_named" = true)
    (kN1 : PySem.W.keepIn K (.ref fN1) = true)
    (aN2 : PySem.W.nsIn K mainGlobals "leads_of" = some (some (.ref fN2)))
    (lN2 : K.lookup fN2 = some ⟨ocN2, odN2, .func (PySem.W.fnOf "leads_of" "leads_of" (defArgs sLeadsOf) (defBody sLeadsOf) (defScope sLeadsOf) .none kVN2 dcN2 pmN2 anN2 cdN2 ctN2), slN2⟩)
    (cN2 : PySem.W.codeIn K cdN2 "leads_of" = true)
    (kN2 : PySem.W.keepIn K (.ref fN2) = true)
    (aN3 : PySem.W.nsIn K mainGlobals "rows_of" = some (some (.ref fN3)))
    (lN3 : K.lookup fN3 = some ⟨ocN3, odN3, .func (PySem.W.fnOf "rows_of" "rows_of" (defArgs sRowsOf) (defBody sRowsOf) (defScope sRowsOf) .none kVN3 dcN3 pmN3 anN3 cdN3 ctN3), slN3⟩)
    (cN3 : PySem.W.codeIn K cdN3 "rows_of" = true)
    (kN3 : PySem.W.keepIn K (.ref fN3) = true)
    (aN4 : PySem.W.nsIn K mainGlobals "owners_of" = some (some (.ref fN4)))
    (lN4 : K.lookup fN4 = some ⟨ocN4, odN4, .func (PySem.W.fnOf "owners_of" "owners_of" (defArgs sOwners) (defBody sOwners) (defScope sOwners) .none kVN4 dcN4 pmN4 anN4 cdN4 ctN4), slN4⟩)
    (cN4 : PySem.W.codeIn K cdN4 "owners_of" = true)
    (kN4 : PySem.W.keepIn K (.ref fN4) = true)
    (aC1 : PySem.W.nsIn K mainGlobals "common_above" = some (some (.ref fC1)))
    (lC1 : K.lookup fC1 = some ⟨ocC1, odC1, .func (PySem.W.fnOf "common_above" "common_above" (defArgs sCommon) (defBody sCommon) (defScope sCommon) .none kVC1 dcC1 pmC1 anC1 cdC1 ctC1), slC1⟩)
    (cC1 : PySem.W.codeIn K cdC1 "common_above" = true)
    (kC1 : PySem.W.keepIn K (.ref fC1) = true)
    (aC2 : PySem.W.nsIn K mainGlobals "brought_nearer" = some (some (.ref fC2)))
    (lC2 : K.lookup fC2 = some ⟨ocC2, odC2, .func (PySem.W.fnOf "brought_nearer" "brought_nearer" (defArgs sBrought) (defBody sBrought) (defScope sBrought) .none kVC2 dcC2 pmC2 anC2 cdC2 ctC2), slC2⟩)
    (cC2 : PySem.W.codeIn K cdC2 "brought_nearer" = true)
    (kC2 : PySem.W.keepIn K (.ref fC2) = true)
    (aC3 : PySem.W.nsIn K mainGlobals "nearest_above" = some (some (.ref fC3)))
    (lC3 : K.lookup fC3 = some ⟨ocC3, odC3, .func (PySem.W.fnOf "nearest_above" "nearest_above" (defArgs sNearest) (defBody sNearest) (defScope sNearest) .none kVC3 dcC3 pmC3 anC3 cdC3 ctC3), slC3⟩)
    (cC3 : PySem.W.codeIn K cdC3 "nearest_above" = true)
    (kC3 : PySem.W.keepIn K (.ref fC3) = true)
    (aC4 : PySem.W.nsIn K mainGlobals "branch_sizes" = some (some (.ref fC4)))
    (lC4 : K.lookup fC4 = some ⟨ocC4, odC4, .func (PySem.W.fnOf "branch_sizes" "branch_sizes" (defArgs sSizes) (defBody sSizes) (defScope sSizes) .none kVC4 dcC4 pmC4 anC4 cdC4 ctC4), slC4⟩)
    (cC4 : PySem.W.codeIn K cdC4 "branch_sizes" = true)
    (kC4 : PySem.W.keepIn K (.ref fC4) = true)
    (aC5 : PySem.W.nsIn K mainGlobals "branch_places" = some (some (.ref fC5)))
    (lC5 : K.lookup fC5 = some ⟨ocC5, odC5, .func (PySem.W.fnOf "branch_places" "branch_places" (defArgs sPlaces) (defBody sPlaces) (defScope sPlaces) .none kVC5 dcC5 pmC5 anC5 cdC5 ctC5), slC5⟩)
    (cC5 : PySem.W.codeIn K cdC5 "branch_places" = true)
    (kC5 : PySem.W.keepIn K (.ref fC5) = true)
    (aH1 : PySem.W.nsIn K mainGlobals "is_number" = some (some (.ref fH1)))
    (lH1 : K.lookup fH1 = some ⟨ocH1, odH1, .func (PySem.W.fnOf "is_number" "is_number" (defArgs sIsNum) (defBody sIsNum) (defScope sIsNum) .none kVH1 dcH1 pmH1 anH1 cdH1 ctH1), slH1⟩)
    (cH1 : PySem.W.codeIn K cdH1 "is_number" = true)
    (kH1 : PySem.W.keepIn K (.ref fH1) = true)
    (aH2 : PySem.W.nsIn K mainGlobals "is_place" = some (some (.ref fH2)))
    (lH2 : K.lookup fH2 = some ⟨ocH2, odH2, .func (PySem.W.fnOf "is_place" "is_place" (defArgs sIsPlace) (defBody sIsPlace) (defScope sIsPlace) .none kVH2 dcH2 pmH2 anH2 cdH2 ctH2), slH2⟩)
    (cH2 : PySem.W.codeIn K cdH2 "is_place" = true)
    (kH2 : PySem.W.keepIn K (.ref fH2) = true)
    (aH3 : PySem.W.nsIn K mainGlobals "is_parts" = some (some (.ref fH3)))
    (lH3 : K.lookup fH3 = some ⟨ocH3, odH3, .func (PySem.W.fnOf "is_parts" "is_parts" (defArgs sIsParts) (defBody sIsParts) (defScope sIsParts) .none kVH3 dcH3 pmH3 anH3 cdH3 ctH3), slH3⟩)
    (cH3 : PySem.W.codeIn K cdH3 "is_parts" = true)
    (kH3 : PySem.W.keepIn K (.ref fH3) = true)
    (hH3 : cdH3 = .ref xH3)
    (mH3 : K.lookup xH3 = some ⟨occH3, odcH3, .fields vscH3, slcH3⟩)
    (eH3 : vscH3[11]? = some (.ref TH3))
    (nH3 : K.lookup TH3 = none)
    (bH3 : PySem.W.CodeHd h xH3 TH3 ∧ h.get? TH3 = some Bare0)
    (aH4 : PySem.W.nsIn K mainGlobals "is_rooms" = some (some (.ref fH4)))
    (lH4 : K.lookup fH4 = some ⟨ocH4, odH4, .func (PySem.W.fnOf "is_rooms" "is_rooms" (defArgs sIsRooms) (defBody sIsRooms) (defScope sIsRooms) .none kVH4 dcH4 pmH4 anH4 cdH4 ctH4), slH4⟩)
    (cH4 : PySem.W.codeIn K cdH4 "is_rooms" = true)
    (kH4 : PySem.W.keepIn K (.ref fH4) = true)
    (hH4 : cdH4 = .ref xH4)
    (mH4 : K.lookup xH4 = some ⟨occH4, odcH4, .fields vscH4, slcH4⟩)
    (eH4 : vscH4[11]? = some (.ref TH4))
    (nH4 : K.lookup TH4 = none)
    (bH4 : PySem.W.CodeHd h xH4 TH4 ∧ h.get? TH4 = some Bare0)
    (aH5 : PySem.W.nsIn K mainGlobals "word_of" = some (some (.ref fH5)))
    (lH5 : K.lookup fH5 = some ⟨ocH5, odH5, .func (PySem.W.fnOf "word_of" "word_of" (defArgs sWordOf) (defBody sWordOf) (defScope sWordOf) .none kVH5 dcH5 pmH5 anH5 cdH5 ctH5), slH5⟩)
    (cH5 : PySem.W.codeIn K cdH5 "word_of" = true)
    (kH5 : PySem.W.keepIn K (.ref fH5) = true)
    (aH6 : PySem.W.nsIn K mainGlobals "fits" = some (some (.ref fH6)))
    (lH6 : K.lookup fH6 = some ⟨ocH6, odH6, .func (PySem.W.fnOf "fits" "fits" (defArgs sFits) (defBody sFits) (defScope sFits) .none kVH6 dcH6 pmH6 anH6 cdH6 ctH6), slH6⟩)
    (cH6 : PySem.W.codeIn K cdH6 "fits" = true)
    (kH6 : PySem.W.keepIn K (.ref fH6) = true)
    (aH7 : PySem.W.nsIn K mainGlobals "is_row" = some (some (.ref fH7)))
    (lH7 : K.lookup fH7 = some ⟨ocH7, odH7, .func (PySem.W.fnOf "is_row" "is_row" (defArgs sIsRow) (defBody sIsRow) (defScope sIsRow) .none kVH7 dcH7 pmH7 anH7 cdH7 ctH7), slH7⟩)
    (cH7 : PySem.W.codeIn K cdH7 "is_row" = true)
    (kH7 : PySem.W.keepIn K (.ref fH7) = true)
    (aH8 : PySem.W.nsIn K mainGlobals "is_end" = some (some (.ref fH8)))
    (lH8 : K.lookup fH8 = some ⟨ocH8, odH8, .func (PySem.W.fnOf "is_end" "is_end" (defArgs sIsEnd) (defBody sIsEnd) (defScope sIsEnd) .none kVH8 dcH8 pmH8 anH8 cdH8 ctH8), slH8⟩)
    (cH8 : PySem.W.codeIn K cdH8 "is_end" = true)
    (kH8 : PySem.W.keepIn K (.ref fH8) = true)
    (aH9 : PySem.W.nsIn K mainGlobals "is_block" = some (some (.ref fH9)))
    (lH9 : K.lookup fH9 = some ⟨ocH9, odH9, .func (PySem.W.fnOf "is_block" "is_block" (defArgs sIsBlock) (defBody sIsBlock) (defScope sIsBlock) .none kVH9 dcH9 pmH9 anH9 cdH9 ctH9), slH9⟩)
    (cH9 : PySem.W.codeIn K cdH9 "is_block" = true)
    (kH9 : PySem.W.keepIn K (.ref fH9) = true)
    (hH9 : cdH9 = .ref xH9)
    (mH9 : K.lookup xH9 = some ⟨occH9, odcH9, .fields vscH9, slcH9⟩)
    (eH9 : vscH9[11]? = some (.ref TH9))
    (nH9 : K.lookup TH9 = none)
    (bH9 : PySem.W.CodeHd h xH9 TH9 ∧ h.get? TH9 = some Bare0)
    (aHA : PySem.W.nsIn K mainGlobals "is_written" = some (some (.ref fHA)))
    (lHA : K.lookup fHA = some ⟨ocHA, odHA, .func (PySem.W.fnOf "is_written" "is_written" (defArgs sIsWritten) (defBody sIsWritten) (defScope sIsWritten) .none kVHA dcHA pmHA anHA cdHA ctHA), slHA⟩)
    (cHA : PySem.W.codeIn K cdHA "is_written" = true)
    (kHA : PySem.W.keepIn K (.ref fHA) = true)
    (hHA : cdHA = .ref xHA)
    (mHA : K.lookup xHA = some ⟨occHA, odcHA, .fields vscHA, slcHA⟩)
    (eHA : vscHA[11]? = some (.ref THA))
    (nHA : K.lookup THA = none)
    (bHA : PySem.W.CodeHd h xHA THA ∧ h.get? THA = some Bare0)
    (aJ1 : PySem.W.nsIn K mainGlobals "has_worth" = some (some (.ref fJ1)))
    (lJ1 : K.lookup fJ1 = some ⟨ocJ1, odJ1, .func (PySem.W.fnOf "has_worth" "has_worth" (defArgs sHasWorth) (defBody sHasWorth) (defScope sHasWorth) .none kVJ1 dcJ1 pmJ1 anJ1 cdJ1 ctJ1), slJ1⟩)
    (cJ1 : PySem.W.codeIn K cdJ1 "has_worth" = true)
    (kJ1 : PySem.W.keepIn K (.ref fJ1) = true)
    (aJ2 : PySem.W.nsIn K mainGlobals "is_meet" = some (some (.ref fJ2)))
    (lJ2 : K.lookup fJ2 = some ⟨ocJ2, odJ2, .func (PySem.W.fnOf "is_meet" "is_meet" (defArgs sIsMeet) (defBody sIsMeet) (defScope sIsMeet) .none kVJ2 dcJ2 pmJ2 anJ2 cdJ2 ctJ2), slJ2⟩)
    (cJ2 : PySem.W.codeIn K cdJ2 "is_meet" = true)
    (kJ2 : PySem.W.keepIn K (.ref fJ2) = true)
    (aJ3 : PySem.W.nsIn K mainGlobals "rows_named" = some (some (.ref fJ3)))
    (lJ3 : K.lookup fJ3 = some ⟨ocJ3, odJ3, .func (PySem.W.fnOf "rows_named" "rows_named" (defArgs sRowsNamed) (defBody sRowsNamed) (defScope sRowsNamed) .none kVJ3 dcJ3 pmJ3 anJ3 cdJ3 ctJ3), slJ3⟩)
    (cJ3 : PySem.W.codeIn K cdJ3 "rows_named" = true)
    (kJ3 : PySem.W.keepIn K (.ref fJ3) = true)
    (aJ4 : PySem.W.nsIn K mainGlobals "rows_tested" = some (some (.ref fJ4)))
    (lJ4 : K.lookup fJ4 = some ⟨ocJ4, odJ4, .func (PySem.W.fnOf "rows_tested" "rows_tested" (defArgs sRowsTested) (defBody sRowsTested) (defScope sRowsTested) .none kVJ4 dcJ4 pmJ4 anJ4 cdJ4 ctJ4), slJ4⟩)
    (cJ4 : PySem.W.codeIn K cdJ4 "rows_tested" = true)
    (kJ4 : PySem.W.keepIn K (.ref fJ4) = true)
    (aJ5 : PySem.W.nsIn K mainGlobals "numbers_in" = some (some (.ref fJ5)))
    (lJ5 : K.lookup fJ5 = some ⟨ocJ5, odJ5, .func (PySem.W.fnOf "numbers_in" "numbers_in" (defArgs sNumbersIn) (defBody sNumbersIn) (defScope sNumbersIn) .none kVJ5 dcJ5 pmJ5 anJ5 cdJ5 ctJ5), slJ5⟩)
    (cJ5 : PySem.W.codeIn K cdJ5 "numbers_in" = true)
    (kJ5 : PySem.W.keepIn K (.ref fJ5) = true)
    (aK1 : PySem.W.nsIn K mainGlobals "is_program" = some (some (.ref fK1)))
    (lK1 : K.lookup fK1 = some ⟨ocK1, odK1, .func (PySem.W.fnOf "is_program" "is_program" (defArgs sIsProg) (defBody sIsProg) (defScope sIsProg) .none kVK1 dcK1 pmK1 anK1 cdK1 ctK1), slK1⟩)
    (cK1 : PySem.W.codeIn K cdK1 "is_program" = true)
    (kK1 : PySem.W.keepIn K (.ref fK1) = true)
    (aK2 : PySem.W.nsIn K mainGlobals "is_led" = some (some (.ref fK2)))
    (lK2 : K.lookup fK2 = some ⟨ocK2, odK2, .func (PySem.W.fnOf "is_led" "is_led" (defArgs sIsLed) (defBody sIsLed) (defScope sIsLed) .none kVK2 dcK2 pmK2 anK2 cdK2 ctK2), slK2⟩)
    (cK2 : PySem.W.codeIn K cdK2 "is_led" = true)
    (kK2 : PySem.W.keepIn K (.ref fK2) = true)
    (hK2 : cdK2 = .ref xK2)
    (mK2 : K.lookup xK2 = some ⟨occK2, odcK2, .fields vscK2, slcK2⟩)
    (eK2 : vscK2[11]? = some (.ref TK2))
    (nK2 : K.lookup TK2 = none)
    (bK2 : PySem.W.CodeHd h xK2 TK2 ∧ h.get? TK2 = some Bare0)
    (aK3 : PySem.W.nsIn K mainGlobals "can_lead_to" = some (some (.ref fK3)))
    (lK3 : K.lookup fK3 = some ⟨ocK3, odK3, .func (PySem.W.fnOf "can_lead_to" "can_lead_to" (defArgs sCanLead) (defBody sCanLead) (defScope sCanLead) .none kVK3 dcK3 pmK3 anK3 cdK3 ctK3), slK3⟩)
    (cK3 : PySem.W.codeIn K cdK3 "can_lead_to" = true)
    (kK3 : PySem.W.keepIn K (.ref fK3) = true)
    (hK3 : cdK3 = .ref xK3)
    (mK3 : K.lookup xK3 = some ⟨occK3, odcK3, .fields vscK3, slcK3⟩)
    (eK3 : vscK3[11]? = some (.ref TK3))
    (nK3 : K.lookup TK3 = none)
    (bK3 : PySem.W.CodeHd h xK3 TK3 ∧ h.get? TK3 = some Bare0)
    (aK4 : PySem.W.nsIn K mainGlobals "are_names_right" = some (some (.ref fK4)))
    (lK4 : K.lookup fK4 = some ⟨ocK4, odK4, .func (PySem.W.fnOf "are_names_right" "are_names_right" (defArgs sNamesRight) (defBody sNamesRight) (defScope sNamesRight) .none kVK4 dcK4 pmK4 anK4 cdK4 ctK4), slK4⟩)
    (cK4 : PySem.W.codeIn K cdK4 "are_names_right" = true)
    (kK4 : PySem.W.keepIn K (.ref fK4) = true)
    (aK5 : PySem.W.nsIn K mainGlobals "are_meets_ahead" = some (some (.ref fK5)))
    (lK5 : K.lookup fK5 = some ⟨ocK5, odK5, .func (PySem.W.fnOf "are_meets_ahead" "are_meets_ahead" (defArgs sAhead) (defBody sAhead) (defScope sAhead) .none kVK5 dcK5 pmK5 anK5 cdK5 ctK5), slK5⟩)
    (cK5 : PySem.W.codeIn K cdK5 "are_meets_ahead" = true)
    (kK5 : PySem.W.keepIn K (.ref fK5) = true)
    (aK6 : PySem.W.nsIn K mainGlobals "are_rows_right" = some (some (.ref fK6)))
    (lK6 : K.lookup fK6 = some ⟨ocK6, odK6, .func (PySem.W.fnOf "are_rows_right" "are_rows_right" (defArgs sRowsRight) (defBody sRowsRight) (defScope sRowsRight) .none kVK6 dcK6 pmK6 anK6 cdK6 ctK6), slK6⟩)
    (cK6 : PySem.W.codeIn K cdK6 "are_rows_right" = true)
    (kK6 : PySem.W.keepIn K (.ref fK6) = true)
    (aU1 : PySem.W.nsIn K mainGlobals "is_in_figures" = some (some (.ref fU1)))
    (lU1 : K.lookup fU1 = some ⟨ocU1, odU1, .func (PySem.W.fnOf "is_in_figures" "is_in_figures" (defArgs sFigs) (defBody sFigs) (defScope sFigs) .none kVU1 dcU1 pmU1 anU1 cdU1 ctU1), slU1⟩)
    (cU1 : PySem.W.codeIn K cdU1 "is_in_figures" = true)
    (kU1 : PySem.W.keepIn K (.ref fU1) = true)
    (hU1 : cdU1 = .ref xU1)
    (mU1 : K.lookup xU1 = some ⟨occU1, odcU1, .fields vscU1, slcU1⟩)
    (eU1 : vscU1[11]? = some (.ref TU1))
    (nU1 : K.lookup TU1 = none)
    (bU1 : PySem.W.CodeHd h xU1 TU1 ∧ h.get? TU1 = some Bare0)
    (aU2 : PySem.W.nsIn K mainGlobals "name_in" = some (some (.ref fU2)))
    (lU2 : K.lookup fU2 = some ⟨ocU2, odU2, .func (PySem.W.fnOf "name_in" "name_in" (defArgs sNameIn) (defBody sNameIn) (defScope sNameIn) .none kVU2 dcU2 pmU2 anU2 cdU2 ctU2), slU2⟩)
    (cU2 : PySem.W.codeIn K cdU2 "name_in" = true)
    (kU2 : PySem.W.keepIn K (.ref fU2) = true)
    (aU3 : PySem.W.nsIn K mainGlobals "place_in" = some (some (.ref fU3)))
    (lU3 : K.lookup fU3 = some ⟨ocU3, odU3, .func (PySem.W.fnOf "place_in" "place_in" (defArgs sPlaceIn) (defBody sPlaceIn) (defScope sPlaceIn) .none kVU3 dcU3 pmU3 anU3 cdU3 ctU3), slU3⟩)
    (cU3 : PySem.W.codeIn K cdU3 "place_in" = true)
    (kU3 : PySem.W.keepIn K (.ref fU3) = true)
    (aU4 : PySem.W.nsIn K mainGlobals "number_in_words" = some (some (.ref fU4)))
    (lU4 : K.lookup fU4 = some ⟨ocU4, odU4, .func (PySem.W.fnOf "number_in_words" "number_in_words" (defArgs sNumInW) (defBody sNumInW) (defScope sNumInW) .none kVU4 dcU4 pmU4 anU4 cdU4 ctU4), slU4⟩)
    (cU4 : PySem.W.codeIn K cdU4 "number_in_words" = true)
    (kU4 : PySem.W.keepIn K (.ref fU4) = true)
    (aU5 : PySem.W.nsIn K mainGlobals "number_of_kind" = some (some (.ref fU5)))
    (lU5 : K.lookup fU5 = some ⟨ocU5, odU5, .func (PySem.W.fnOf "number_of_kind" "number_of_kind" (defArgs sNumKind) (defBody sNumKind) (defScope sNumKind) .none kVU5 dcU5 pmU5 anU5 cdU5 ctU5), slU5⟩)
    (cU5 : PySem.W.codeIn K cdU5 "number_of_kind" = true)
    (kU5 : PySem.W.keepIn K (.ref fU5) = true)
    (aV1 : PySem.W.nsIn K mainGlobals "read_program" = some (some (.ref fV1)))
    (lV1 : K.lookup fV1 = some ⟨ocV1, odV1, .func (PySem.W.fnOf "read_program" "read_program" (defArgs sReadProg) (defBody sReadProg) (defScope sReadProg) .none kVV1 dcV1 pmV1 anV1 cdV1 ctV1), slV1⟩)
    (cV1 : PySem.W.codeIn K cdV1 "read_program" = true)
    (kV1 : PySem.W.keepIn K (.ref fV1) = true)
    (aV2 : PySem.W.nsIn K mainGlobals "program_in" = some (some (.ref fV2)))
    (lV2 : K.lookup fV2 = some ⟨ocV2, odV2, .func (PySem.W.fnOf "program_in" "program_in" (defArgs sProgIn) (defBody sProgIn) (defScope sProgIn) .none kVV2 dcV2 pmV2 anV2 cdV2 ctV2), slV2⟩)
    (cV2 : PySem.W.codeIn K cdV2 "program_in" = true)
    (kV2 : PySem.W.keepIn K (.ref fV2) = true)
    (aV3 : PySem.W.nsIn K mainGlobals "thing_in" = some (some (.ref fV3)))
    (lV3 : K.lookup fV3 = some ⟨ocV3, odV3, .func (PySem.W.fnOf "thing_in" "thing_in" (defArgs sThingIn) (defBody sThingIn) (defScope sThingIn) .none kVV3 dcV3 pmV3 anV3 cdV3 ctV3), slV3⟩)
    (cV3 : PySem.W.codeIn K cdV3 "thing_in" = true)
    (kV3 : PySem.W.keepIn K (.ref fV3) = true)
    (aV4 : PySem.W.nsIn K mainGlobals "numbers_by" = some (some (.ref fV4)))
    (lV4 : K.lookup fV4 = some ⟨ocV4, odV4, .func (PySem.W.fnOf "numbers_by" "numbers_by" (defArgs sNumsBy) (defBody sNumsBy) (defScope sNumsBy) .none kVV4 dcV4 pmV4 anV4 cdV4 ctV4), slV4⟩)
    (cV4 : PySem.W.codeIn K cdV4 "numbers_by" = true)
    (kV4 : PySem.W.keepIn K (.ref fV4) = true)
    (aZ : PySem.W.nsIn K mainGlobals "law" = some (some (.ref fZ)))
    (lZ : K.lookup fZ = some ⟨ocZ, odZ, .func (PySem.W.fnOf "law" "law" (defArgs sLaw9) (defBody sLaw9) (defScope sLaw9) .none kVZ dcZ pmZ anZ cdZ ctZ), slZ⟩)
    (cZ : PySem.W.codeIn K cdZ "law" = true)
    (kZ : PySem.W.keepIn K (.ref fZ) = true)
    (aCW : PySem.W.nsIn K mainGlobals "Ways" = some (some (.ref CW)))
    (aW1 : PySem.W.findIn K (.ref CW) "__init__" = some (some (.ref fW1)))
    (iW1 : PySem.W.isFn K (.ref fW1) = true)
    (lW1 : K.lookup fW1 = some ⟨ocW1, odW1, .func (PySem.W.fnOf "__init__" "Ways.__init__" (defArgs sWInit) (defBody sWInit) (defScope sWInit) .none kVW1 dcW1 pmW1 anW1 cdW1 ctW1), slW1⟩)
    (cW1 : PySem.W.codeIn K cdW1 "Ways.__init__" = true)
    (kW1 : PySem.W.keepIn K (.ref fW1) = true)
    (aW2 : PySem.W.findIn K (.ref CW) "lies" = some (some (.ref fW2)))
    (iW2 : PySem.W.isFn K (.ref fW2) = true)
    (lW2 : K.lookup fW2 = some ⟨ocW2, odW2, .func (PySem.W.fnOf "lies" "Ways.lies" (defArgs sLies) (defBody sLies) (defScope sLies) .none kVW2 dcW2 pmW2 anW2 cdW2 ctW2), slW2⟩)
    (cW2 : PySem.W.codeIn K cdW2 "Ways.lies" = true)
    (kW2 : PySem.W.keepIn K (.ref fW2) = true)
    (pgCW : PySem.W.plainGet K CW Str.empty = true)
    (hdCW : PySem.W.hasDictIn K CW = true)
    (poCW : PySem.W.plainOver K CW = true)
    (saCW : PySem.W.findIn K (.ref CW) "__setattr__" = some (some (.builtin "object.__setattr__")))
    (mkCW : PySem.W.makesIn K CW = true)
    (kcCW : PySem.W.keepIn K (.ref CW) = true)
    (naCW0 : PySem.W.findIn K (.ref CW) "span" = some none)
    (naCW1 : PySem.W.findIn K (.ref CW) "first" = some none)
    (aCP : PySem.W.nsIn K mainGlobals "Places" = some (some (.ref CP)))
    (aP1 : PySem.W.findIn K (.ref CP) "__init__" = some (some (.ref fP1)))
    (iP1 : PySem.W.isFn K (.ref fP1) = true)
    (lP1 : K.lookup fP1 = some ⟨ocP1, odP1, .func (PySem.W.fnOf "__init__" "Places.__init__" (defArgs sPInit) (defBody sPInit) (defScope sPInit) .none kVP1 dcP1 pmP1 anP1 cdP1 ctP1), slP1⟩)
    (cP1 : PySem.W.codeIn K cdP1 "Places.__init__" = true)
    (kP1 : PySem.W.keepIn K (.ref fP1) = true)
    (aP2 : PySem.W.findIn K (.ref CP) "can_name" = some (some (.ref fP2)))
    (iP2 : PySem.W.isFn K (.ref fP2) = true)
    (lP2 : K.lookup fP2 = some ⟨ocP2, odP2, .func (PySem.W.fnOf "can_name" "Places.can_name" (defArgs sCanName) (defBody sCanName) (defScope sCanName) .none kVP2 dcP2 pmP2 anP2 cdP2 ctP2), slP2⟩)
    (cP2 : PySem.W.codeIn K cdP2 "Places.can_name" = true)
    (kP2 : PySem.W.keepIn K (.ref fP2) = true)
    (aP3 : PySem.W.findIn K (.ref CP) "can_name_all" = some (some (.ref fP3)))
    (iP3 : PySem.W.isFn K (.ref fP3) = true)
    (lP3 : K.lookup fP3 = some ⟨ocP3, odP3, .func (PySem.W.fnOf "can_name_all" "Places.can_name_all" (defArgs sCanAll) (defBody sCanAll) (defScope sCanAll) .none kVP3 dcP3 pmP3 anP3 cdP3 ctP3), slP3⟩)
    (cP3 : PySem.W.codeIn K cdP3 "Places.can_name_all" = true)
    (kP3 : PySem.W.keepIn K (.ref fP3) = true)
    (hP3 : cdP3 = .ref xP3)
    (mP3 : K.lookup xP3 = some ⟨occP3, odcP3, .fields vscP3, slcP3⟩)
    (eP3 : vscP3[11]? = some (.ref TP3))
    (nP3 : K.lookup TP3 = none)
    (bP3 : PySem.W.CodeHd h xP3 TP3 ∧ h.get? TP3 = some Bare0)
    (aP4 : PySem.W.findIn K (.ref CP) "can_meet" = some (some (.ref fP4)))
    (iP4 : PySem.W.isFn K (.ref fP4) = true)
    (lP4 : K.lookup fP4 = some ⟨ocP4, odP4, .func (PySem.W.fnOf "can_meet" "Places.can_meet" (defArgs sCanMeet) (defBody sCanMeet) (defScope sCanMeet) .none kVP4 dcP4 pmP4 anP4 cdP4 ctP4), slP4⟩)
    (cP4 : PySem.W.codeIn K cdP4 "Places.can_meet" = true)
    (kP4 : PySem.W.keepIn K (.ref fP4) = true)
    (hP4 : cdP4 = .ref xP4)
    (mP4 : K.lookup xP4 = some ⟨occP4, odcP4, .fields vscP4, slcP4⟩)
    (eP4 : vscP4[11]? = some (.ref TP4))
    (nP4 : K.lookup TP4 = none)
    (bP4 : PySem.W.CodeHd h xP4 TP4 ∧ h.get? TP4 = some Bare0)
    (pgCP : PySem.W.plainGet K CP Str.empty = true)
    (hdCP : PySem.W.hasDictIn K CP = true)
    (poCP : PySem.W.plainOver K CP = true)
    (saCP : PySem.W.findIn K (.ref CP) "__setattr__" = some (some (.builtin "object.__setattr__")))
    (mkCP : PySem.W.makesIn K CP = true)
    (kcCP : PySem.W.keepIn K (.ref CP) = true)
    (naCP0 : PySem.W.findIn K (.ref CP) "rows" = some none)
    (naCP1 : PySem.W.findIn K (.ref CP) "owners" = some none)
    (naCP2 : PySem.W.findIn K (.ref CP) "leads" = some none)
    (naCP3 : PySem.W.findIn K (.ref CP) "ways" = some none)
    (z_len : PySem.W.nsIn K mainGlobals "len" = some none)
    (z_abs : PySem.W.nsIn K mainGlobals "abs" = some none)
    (z_int : PySem.W.nsIn K mainGlobals "int" = some none)
    (z_range : PySem.W.nsIn K mainGlobals "range" = some none)
    (z_max : PySem.W.nsIn K mainGlobals "max" = some none)
    (z_min : PySem.W.nsIn K mainGlobals "min" = some none)
    (z_list : PySem.W.nsIn K mainGlobals "list" = some none)
    (z_tuple : PySem.W.nsIn K mainGlobals "tuple" = some none)
    (z_sorted : PySem.W.nsIn K mainGlobals "sorted" = some none)
    (z_set : PySem.W.nsIn K mainGlobals "set" = some none)
    (z_enumerate : PySem.W.nsIn K mainGlobals "enumerate" = some none)
    (z_zip : PySem.W.nsIn K mainGlobals "zip" = some none)
    (z_sum : PySem.W.nsIn K mainGlobals "sum" = some none)
    (z_repr : PySem.W.nsIn K mainGlobals "repr" = some none)
    (z_any : PySem.W.nsIn K mainGlobals "any" = some none)
    (z_isinstance : PySem.W.nsIn K mainGlobals "isinstance" = some none)
    (z_bool : PySem.W.nsIn K mainGlobals "bool" = some none)
    (z_str : PySem.W.nsIn K mainGlobals "str" = some none)
    (z_all : PySem.W.nsIn K mainGlobals "all" = some none)
    (rE : PySem.W.nsIn K mainGlobals "ROW_PARTS" = some (some (.ref dR)))
    (rL : K.lookup dR = some ⟨.type "dict", none, .dict esR nesR, #[]⟩)
    (rK : PySem.W.KeysLit w.params esR.toList)
    (rw : (dR == sysModules) = false)
    (re0 : PySem.W.nsIn K dR "take" = some (some (.ref rg0)))
    (r0t : K.lookup rg0 = some ⟨.type "tuple", none, .seq r0i r0j, r0q⟩)
    (r0v : Vals [.str "place"] r0i.toList)
    (re1 : PySem.W.nsIn K dR "num" = some (some (.ref rg1)))
    (r1t : K.lookup rg1 = some ⟨.type "tuple", none, .seq r1i r1j, r1q⟩)
    (r1v : Vals [.str "number"] r1i.toList)
    (re2 : PySem.W.nsIn K dR "sum" = some (some (.ref rg2)))
    (r2t : K.lookup rg2 = some ⟨.type "tuple", none, .seq r2i r2j, r2q⟩)
    (r2v : Vals [.str "row", .str "row"] r2i.toList)
    (re3 : PySem.W.nsIn K dR "less" = some (some (.ref rg3)))
    (r3t : K.lookup rg3 = some ⟨.type "tuple", none, .seq r3i r3j, r3q⟩)
    (r3v : Vals [.str "row", .str "row"] r3i.toList)
    (re4 : PySem.W.nsIn K dR "times" = some (some (.ref rg4)))
    (r4t : K.lookup rg4 = some ⟨.type "tuple", none, .seq r4i r4j, r4q⟩)
    (r4v : Vals [.str "row", .str "row"] r4i.toList)
    (re5 : PySem.W.nsIn K dR "same" = some (some (.ref rg5)))
    (r5t : K.lookup rg5 = some ⟨.type "tuple", none, .seq r5i r5j, r5q⟩)
    (r5v : Vals [.str "row", .str "row"] r5i.toList)
    (re6 : PySem.W.nsIn K dR "below" = some (some (.ref rg6)))
    (r6t : K.lookup rg6 = some ⟨.type "tuple", none, .seq r6i r6j, r6q⟩)
    (r6v : Vals [.str "row", .str "row"] r6i.toList)
    (re7 : PySem.W.nsIn K dR "pick" = some (some (.ref rg7)))
    (r7t : K.lookup rg7 = some ⟨.type "tuple", none, .seq r7i r7j, r7q⟩)
    (r7v : Vals [.str "row", .str "parts"] r7i.toList)
    (re8 : PySem.W.nsIn K dR "meet" = some (some (.ref rg8)))
    (r8t : K.lookup rg8 = some ⟨.type "tuple", none, .seq r8i r8j, r8q⟩)
    (r8v : Vals [.str "parts"] r8i.toList)
    (re9 : PySem.W.nsIn K dR "look" = some (some (.ref rg9)))
    (r9t : K.lookup rg9 = some ⟨.type "tuple", none, .seq r9i r9j, r9q⟩)
    (r9v : Vals [.str "rooms", .str "row"] r9i.toList)
    (re10 : PySem.W.nsIn K dR "lay" = some (some (.ref rg10)))
    (r10t : K.lookup rg10 = some ⟨.type "tuple", none, .seq r10i r10j, r10q⟩)
    (r10v : Vals [.str "rooms", .str "row", .str "row"] r10i.toList)
    (re11 : PySem.W.nsIn K dR "tell" = some (some (.ref rg11)))
    (r11t : K.lookup rg11 = some ⟨.type "tuple", none, .seq r11i r11j, r11q⟩)
    (r11v : Vals [.str "row"] r11i.toList)
    (eE : PySem.W.nsIn K mainGlobals "END_PARTS" = some (some (.ref dE)))
    (eL : K.lookup dE = some ⟨.type "dict", none, .dict esE nesE, #[]⟩)
    (eK : PySem.W.KeysLit w.params esE.toList)
    (ew : (dE == sysModules) = false)
    (ee0 : PySem.W.nsIn K dE "go" = some (some (.ref eg0)))
    (e0t : K.lookup eg0 = some ⟨.type "tuple", none, .seq e0i e0j, e0q⟩)
    (e0v : Vals [.str "block"] e0i.toList)
    (ee1 : PySem.W.nsIn K dE "if" = some (some (.ref eg1)))
    (e1t : K.lookup eg1 = some ⟨.type "tuple", none, .seq e1i e1j, e1q⟩)
    (e1v : Vals [.str "row", .str "block", .str "block"] e1i.toList)
    (ee2 : PySem.W.nsIn K dE "end" = some (some (.ref eg2)))
    (e2t : K.lookup eg2 = some ⟨.type "tuple", none, .seq e2i e2j, e2q⟩)
    (e2v : Vals [] e2i.toList)
    (no_e0 : PySem.W.nsIn K dE "take" = some none)
    (no_e1 : PySem.W.nsIn K dE "num" = some none)
    (no_e2 : PySem.W.nsIn K dE "sum" = some none)
    (no_e3 : PySem.W.nsIn K dE "less" = some none)
    (no_e4 : PySem.W.nsIn K dE "times" = some none)
    (no_e5 : PySem.W.nsIn K dE "same" = some none)
    (no_e6 : PySem.W.nsIn K dE "below" = some none)
    (no_e7 : PySem.W.nsIn K dE "pick" = some none)
    (no_e8 : PySem.W.nsIn K dE "meet" = some none)
    (no_e9 : PySem.W.nsIn K dE "look" = some none)
    (no_e10 : PySem.W.nsIn K dE "lay" = some none)
    (no_e11 : PySem.W.nsIn K dE "tell" = some none)
    (no_r0 : PySem.W.nsIn K dR "go" = some none)
    (no_r1 : PySem.W.nsIn K dR "if" = some none)
    (no_r2 : PySem.W.nsIn K dR "end" = some none)
    (no_eb : PySem.W.nsIn K dE "block" = some none)
    (no_rb : PySem.W.nsIn K dR "block" = some none)
    (sE : PySem.W.nsIn K mainGlobals "SEVERAL" = some (some (.ref sg)))
    (st : K.lookup sg = some ⟨.type "tuple", none, .seq si sj, sq⟩)
    (sv : Vals [.str "parts", .str "rooms"] si.toList)
    (yE : PySem.W.nsIn K mainGlobals "WORTHLESS" = some (some (.ref yg)))
    (yt : K.lookup yg = some ⟨.type "tuple", none, .seq yi yj, yq⟩)
    (yv : Vals [.str "lay", .str "tell"] yi.toList)
    (cE : PySem.W.nsIn K mainGlobals "CHECKS" = some (some (.ref dC)))
    (cL : K.lookup dC = some ⟨.type "dict", none, .dict esC nesC, #[]⟩)
    (cK : PySem.W.KeysLit w.params esC.toList)
    (dE__ : PySem.W.nsIn K mainGlobals "READERS" = some (some (.ref dD)))
    (dL : K.lookup dD = some ⟨.type "dict", none, .dict esD nesD, #[]⟩)
    (dK : PySem.W.KeysLit w.params esD.toList)
    (c_number : PySem.W.nsIn K dC "number" = some (some (.ref fH1)))
    (c_row : PySem.W.nsIn K dC "row" = some (some (.ref fH1)))
    (c_block : PySem.W.nsIn K dC "block" = some (some (.ref fH1)))
    (c_place : PySem.W.nsIn K dC "place" = some (some (.ref fH2)))
    (c_parts : PySem.W.nsIn K dC "parts" = some (some (.ref fH3)))
    (c_rooms : PySem.W.nsIn K dC "rooms" = some (some (.ref fH4)))
    (d_number : PySem.W.nsIn K dD "number" = some (some (.ref fU4)))
    (d_place : PySem.W.nsIn K dD "place" = some (some (.ref fU3)))
    (d_row : PySem.W.nsIn K dD "row" = some (some (.ref fU2)))
    (d_block : PySem.W.nsIn K dD "block" = some (some (.ref fU2)))
    (d_parts : PySem.W.nsIn K dD "parts" = some (some (.ref fU2)))
    (d_rooms : PySem.W.nsIn K dD "rooms" = some (some (.ref fU3)))
    (g_FIGURES : PySem.W.nsIn K mainGlobals "FIGURES" = some (some (.str "0123456789" tk0)))
    (g_LONGEST : PySem.W.nsIn K mainGlobals "LONGEST" = some (some (.int 9 tk1)))
    (g_GREATEST_NUMBER : PySem.W.nsIn K mainGlobals "GREATEST_NUMBER" = some (some (.int 1000000000000 tk2)))
    (g_LAST_PLACE : PySem.W.nsIn K mainGlobals "LAST_PLACE" = some (some (.int 5 tk3)))
    (hTs : TsOk [TH3, TH4, TH9, THA, TK3, TU1, TP3, TP4] TK2) :
    ∃ (fd : FuncData) (cs : List (Addr × Addr)) (sp : Sp), (∀ p ∈ cs, h.get? p.2 = some Bare0 ∧ K.lookup p.2 = none ∧ PySem.W.CodeHd h p.1 p.2) ∧ (∀ (s : Shared) (u : Value), BindsTo s fd ⟨[u], []⟩ [("_law_script", u)]) ∧
      (∀ (H : Hp) (a : Addr) (ns : List Int), ns.length ≤ 63 → (∀ p ∈ cs, H p.2 = some (.tbl #[])) → SqL K H a (ns.map V.int) → sp [.ref a] H (fun v _ => v = .bl true) fun _ _ _ => False) ∧
      ∀ base : Heap, K.In base → base.Ns mainGlobals mg → (∀ p ∈ cs, GxR.TabB base mg p.1 p.2) → FnG l.prog w K mg base fa fd ["_law_script"] sp := by
  have ez := hfa.symm.trans (PySem.W.mg_of X G aZ)
  cases ez
  subst hH3
  subst hH4
  subst hH9
  subst hHA
  subst hK3
  subst hU1
  subst hP3
  subst hP4
  subst hK2
  have FL1 := fun_mk (st := sTape) lL1 cL1 kL1
  have DL1 : Df K mg "_law_begun" sTape ["_law_script", "_law_k"] fL1 _ := ⟨FL1, FL1.binds (ps := ["_law_script", "_law_k"]) fun _ _ _ _ _ _ us hl => match us, hl with | [_, _], _ => rfl, PySem.W.mg_of X G aL1⟩
  have FL2 := fun_mk (st := sDraw) lL2 cL2 kL2
  have DL2 : Df K mg "_law_draw" sDraw ["_law_tape", "_law_many"] fL2 _ := ⟨FL2, FL2.binds (ps := ["_law_tape", "_law_many"]) fun _ _ _ _ _ _ us hl => match us, hl with | [_, _], _ => rfl, PySem.W.mg_of X G aL2⟩
  have FL3 := fun_mk (st := sNexts) lL3 cL3 kL3
  have DL3 : Df K mg "_law_nexts" sNexts ["_law_tape"] fL3 _ := ⟨FL3, FL3.binds (ps := ["_law_tape"]) fun _ _ _ _ _ _ us hl => match us, hl with | [_], _ => rfl, PySem.W.mg_of X G aL3⟩
  have FL4 := fun_mk (st := sReached) lL4 cL4 kL4
  have DL4 : Df K mg "_law_reached" sReached ["_law_nexts_here", "_law_without"] fL4 _ := ⟨FL4, FL4.binds (ps := ["_law_nexts_here", "_law_without"]) fun _ _ _ _ _ _ us hl => match us, hl with | [_, _], _ => rfl, PySem.W.mg_of X G aL4⟩
  have FL5 := fun_mk (st := sDrawn) lL5 cL5 kL5
  have DL5 : Df K mg "_law_drawn_row" sDrawn ["_law_tape", "_law_rows", "_law_some"] fL5 _ := ⟨FL5, FL5.binds (ps := ["_law_tape", "_law_rows", "_law_some"]) fun _ _ _ _ _ _ us hl => match us, hl with | [_, _, _], _ => rfl, PySem.W.mg_of X G aL5⟩
  have FL6 := fun_mk (st := sStanding) lL6 cL6 kL6
  have DL6 : Df K mg "_law_standing" sStanding ["_law_nexts_here", "_law_blocks", "_law_rows", "_law_block"] fL6 _ := ⟨FL6, FL6.binds (ps := ["_law_nexts_here", "_law_blocks", "_law_rows", "_law_block"]) fun _ _ _ _ _ _ us hl => match us, hl with | [_, _, _, _], _ => rfl, PySem.W.mg_of X G aL6⟩
  have FL7 := fun_mk (st := sProgram) lL7 cL7 kL7
  have DL7 : Df K mg "_law_program" sProgram ["_law_tape", "_law_most"] fL7 _ := ⟨FL7, FL7.binds (ps := ["_law_tape", "_law_most"]) fun _ _ _ _ _ _ us hl => match us, hl with | [_, _], _ => rfl, PySem.W.mg_of X G aL7⟩
  have FT1 := fun_mk (st := sRowText) lT1 cT1 kT1
  have DT1 : Df K mg "_law_row_text" sRowText ["_law_row"] fT1 _ := ⟨FT1, FT1.binds (ps := ["_law_row"]) fun _ _ _ _ _ _ us hl => match us, hl with | [_], _ => rfl, PySem.W.mg_of X G aT1⟩
  have FT2 := fun_mk (st := sTextRows) lT2 cT2 kT2
  have DT2 : Df K mg "_law_text_rows" sTextRows ["_law_program_here"] fT2 _ := ⟨FT2, FT2.binds (ps := ["_law_program_here"]) fun _ _ _ _ _ _ us hl => match us, hl with | [_], _ => rfl, PySem.W.mg_of X G aT2⟩
  have FT3 := fun_mk (st := sPText) lT3 cT3 kT3
  have DT3 : Df K mg "program_text" sPText ["program"] fT3 _ := ⟨FT3, FT3.binds (ps := ["program"]) fun _ _ _ _ _ _ us hl => match us, hl with | [_], _ => rfl, PySem.W.mg_of X G aT3⟩
  have FT4 := fun_mk (st := sTextOf) lT4 cT4 kT4
  have DT4 : Df K mg "text_of" sTextOf ["thing", "kinds"] fT4 _ := ⟨FT4, FT4.binds (ps := ["thing", "kinds"]) fun _ _ _ _ _ _ us hl => match us, hl with | [_, _], _ => rfl, PySem.W.mg_of X G aT4⟩
  have FN1 := fun_mk (st := sNamed) lN1 cN1 kN1
  have DN1 : Df K mg "blocks_named" sNamed ["end"] fN1 _ := ⟨FN1, FN1.binds (ps := ["end"]) fun _ _ _ _ _ _ us hl => match us, hl with | [_], _ => rfl, PySem.W.mg_of X G aN1⟩
  have FN2 := fun_mk (st := sLeadsOf) lN2 cN2 kN2
  have DN2 : Df K mg "leads_of" sLeadsOf ["program"] fN2 _ := ⟨FN2, FN2.binds (ps := ["program"]) fun _ _ _ _ _ _ us hl => match us, hl with | [_], _ => rfl, PySem.W.mg_of X G aN2⟩
  have FN3 := fun_mk (st := sRowsOf) lN3 cN3 kN3
  have DN3 : Df K mg "rows_of" sRowsOf ["program"] fN3 _ := ⟨FN3, FN3.binds (ps := ["program"]) fun _ _ _ _ _ _ us hl => match us, hl with | [_], _ => rfl, PySem.W.mg_of X G aN3⟩
  have FN4 := fun_mk (st := sOwners) lN4 cN4 kN4
  have DN4 : Df K mg "owners_of" sOwners ["program"] fN4 _ := ⟨FN4, FN4.binds (ps := ["program"]) fun _ _ _ _ _ _ us hl => match us, hl with | [_], _ => rfl, PySem.W.mg_of X G aN4⟩
  have FC1 := fun_mk (st := sCommon) lC1 cC1 kC1
  have DC1 : Df K mg "common_above" sCommon ["nearest", "blocks"] fC1 _ := ⟨FC1, FC1.binds (ps := ["nearest", "blocks"]) fun _ _ _ _ _ _ us hl => match us, hl with | [_, _], _ => rfl, PySem.W.mg_of X G aC1⟩
  have FC2 := fun_mk (st := sBrought) lC2 cC2 kC2
  have DC2 : Df K mg "brought_nearer" sBrought ["nearest", "leads"] fC2 _ := ⟨FC2, FC2.binds (ps := ["nearest", "leads"]) fun _ _ _ _ _ _ us hl => match us, hl with | [_, _], _ => rfl, PySem.W.mg_of X G aC2⟩
  have FC3 := fun_mk (st := sNearest) lC3 cC3 kC3
  have DC3 : Df K mg "nearest_above" sNearest ["leads"] fC3 _ := ⟨FC3, FC3.binds (ps := ["leads"]) fun _ _ _ _ _ _ us hl => match us, hl with | [_], _ => rfl, PySem.W.mg_of X G aC3⟩
  have FC4 := fun_mk (st := sSizes) lC4 cC4 kC4
  have DC4 : Df K mg "branch_sizes" sSizes ["nearest"] fC4 _ := ⟨FC4, FC4.binds (ps := ["nearest"]) fun _ _ _ _ _ _ us hl => match us, hl with | [_], _ => rfl, PySem.W.mg_of X G aC4⟩
  have FC5 := fun_mk (st := sPlaces) lC5 cC5 kC5
  have DC5 : Df K mg "branch_places" sPlaces ["nearest", "sizes"] fC5 _ := ⟨FC5, FC5.binds (ps := ["nearest", "sizes"]) fun _ _ _ _ _ _ us hl => match us, hl with | [_, _], _ => rfl, PySem.W.mg_of X G aC5⟩
  have FH1 := fun_mk (st := sIsNum) lH1 cH1 kH1
  have DH1 : Df K mg "is_number" sIsNum ["thing"] fH1 _ := ⟨FH1, FH1.binds (ps := ["thing"]) fun _ _ _ _ _ _ us hl => match us, hl with | [_], _ => rfl, PySem.W.mg_of X G aH1⟩
  have FH2 := fun_mk (st := sIsPlace) lH2 cH2 kH2
  have DH2 : Df K mg "is_place" sIsPlace ["thing"] fH2 _ := ⟨FH2, FH2.binds (ps := ["thing"]) fun _ _ _ _ _ _ us hl => match us, hl with | [_], _ => rfl, PySem.W.mg_of X G aH2⟩
  have FH3 := fun_mk (st := sIsParts) lH3 cH3 kH3
  have DH3 : DfC K mg "is_parts" sIsParts ["thing"] fH3 _ xH3 := ⟨⟨⟨_, _, _, _, _, _, _, _, rfl, lH3, cH3⟩, kH3⟩, FH3.binds (ps := ["thing"]) fun _ _ _ _ _ _ us hl => match us, hl with | [_], _ => rfl, PySem.W.mg_of X G aH3⟩
  have FH4 := fun_mk (st := sIsRooms) lH4 cH4 kH4
  have DH4 : DfC K mg "is_rooms" sIsRooms ["thing"] fH4 _ xH4 := ⟨⟨⟨_, _, _, _, _, _, _, _, rfl, lH4, cH4⟩, kH4⟩, FH4.binds (ps := ["thing"]) fun _ _ _ _ _ _ us hl => match us, hl with | [_], _ => rfl, PySem.W.mg_of X G aH4⟩
  have FH5 := fun_mk (st := sWordOf) lH5 cH5 kH5
  have DH5 : Df K mg "word_of" sWordOf ["thing"] fH5 _ := ⟨FH5, FH5.binds (ps := ["thing"]) fun _ _ _ _ _ _ us hl => match us, hl with | [_], _ => rfl, PySem.W.mg_of X G aH5⟩
  have FH6 := fun_mk (st := sFits) lH6 cH6 kH6
  have DH6 : Df K mg "fits" sFits ["thing", "kinds"] fH6 _ := ⟨FH6, FH6.binds (ps := ["thing", "kinds"]) fun _ _ _ _ _ _ us hl => match us, hl with | [_, _], _ => rfl, PySem.W.mg_of X G aH6⟩
  have FH7 := fun_mk (st := sIsRow) lH7 cH7 kH7
  have DH7 : Df K mg "is_row" sIsRow ["thing"] fH7 _ := ⟨FH7, FH7.binds (ps := ["thing"]) fun _ _ _ _ _ _ us hl => match us, hl with | [_], _ => rfl, PySem.W.mg_of X G aH7⟩
  have FH8 := fun_mk (st := sIsEnd) lH8 cH8 kH8
  have DH8 : Df K mg "is_end" sIsEnd ["thing"] fH8 _ := ⟨FH8, FH8.binds (ps := ["thing"]) fun _ _ _ _ _ _ us hl => match us, hl with | [_], _ => rfl, PySem.W.mg_of X G aH8⟩
  have FH9 := fun_mk (st := sIsBlock) lH9 cH9 kH9
  have DH9 : DfC K mg "is_block" sIsBlock ["thing"] fH9 _ xH9 := ⟨⟨⟨_, _, _, _, _, _, _, _, rfl, lH9, cH9⟩, kH9⟩, FH9.binds (ps := ["thing"]) fun _ _ _ _ _ _ us hl => match us, hl with | [_], _ => rfl, PySem.W.mg_of X G aH9⟩
  have FHA := fun_mk (st := sIsWritten) lHA cHA kHA
  have DHA : DfC K mg "is_written" sIsWritten ["thing"] fHA _ xHA := ⟨⟨⟨_, _, _, _, _, _, _, _, rfl, lHA, cHA⟩, kHA⟩, FHA.binds (ps := ["thing"]) fun _ _ _ _ _ _ us hl => match us, hl with | [_], _ => rfl, PySem.W.mg_of X G aHA⟩
  have FJ1 := fun_mk (st := sHasWorth) lJ1 cJ1 kJ1
  have DJ1 : Df K mg "has_worth" sHasWorth ["row"] fJ1 _ := ⟨FJ1, FJ1.binds (ps := ["row"]) fun _ _ _ _ _ _ us hl => match us, hl with | [_], _ => rfl, PySem.W.mg_of X G aJ1⟩
  have FJ2 := fun_mk (st := sIsMeet) lJ2 cJ2 kJ2
  have DJ2 : Df K mg "is_meet" sIsMeet ["row"] fJ2 _ := ⟨FJ2, FJ2.binds (ps := ["row"]) fun _ _ _ _ _ _ us hl => match us, hl with | [_], _ => rfl, PySem.W.mg_of X G aJ2⟩
  have FJ3 := fun_mk (st := sRowsNamed) lJ3 cJ3 kJ3
  have DJ3 : Df K mg "rows_named" sRowsNamed ["row"] fJ3 _ := ⟨FJ3, FJ3.binds (ps := ["row"]) fun _ _ _ _ _ _ us hl => match us, hl with | [_], _ => rfl, PySem.W.mg_of X G aJ3⟩
  have FJ4 := fun_mk (st := sRowsTested) lJ4 cJ4 kJ4
  have DJ4 : Df K mg "rows_tested" sRowsTested ["end"] fJ4 _ := ⟨FJ4, FJ4.binds (ps := ["end"]) fun _ _ _ _ _ _ us hl => match us, hl with | [_], _ => rfl, PySem.W.mg_of X G aJ4⟩
  have FJ5 := fun_mk (st := sNumbersIn) lJ5 cJ5 kJ5
  have DJ5 : Df K mg "numbers_in" sNumbersIn ["thing", "kinds"] fJ5 _ := ⟨FJ5, FJ5.binds (ps := ["thing", "kinds"]) fun _ _ _ _ _ _ us hl => match us, hl with | [_, _], _ => rfl, PySem.W.mg_of X G aJ5⟩
  have FK1 := fun_mk (st := sIsProg) lK1 cK1 kK1
  have DK1 : Df K mg "is_program" sIsProg ["thing"] fK1 _ := ⟨FK1, FK1.binds (ps := ["thing"]) fun _ _ _ _ _ _ us hl => match us, hl with | [_], _ => rfl, PySem.W.mg_of X G aK1⟩
  have FK2 := fun_mk (st := sIsLed) lK2 cK2 kK2
  have DK2 : DfC K mg "is_led" sIsLed ["program"] fK2 _ xK2 := ⟨⟨⟨_, _, _, _, _, _, _, _, rfl, lK2, cK2⟩, kK2⟩, FK2.binds (ps := ["program"]) fun _ _ _ _ _ _ us hl => match us, hl with | [_], _ => rfl, PySem.W.mg_of X G aK2⟩
  have FK3 := fun_mk (st := sCanLead) lK3 cK3 kK3
  have DK3 : DfC K mg "can_lead_to" sCanLead ["named", "many"] fK3 _ xK3 := ⟨⟨⟨_, _, _, _, _, _, _, _, rfl, lK3, cK3⟩, kK3⟩, FK3.binds (ps := ["named", "many"]) fun _ _ _ _ _ _ us hl => match us, hl with | [_, _], _ => rfl, PySem.W.mg_of X G aK3⟩
  have FK4 := fun_mk (st := sNamesRight) lK4 cK4 kK4
  have DK4 : Df K mg "are_names_right" sNamesRight ["program"] fK4 _ := ⟨FK4, FK4.binds (ps := ["program"]) fun _ _ _ _ _ _ us hl => match us, hl with | [_], _ => rfl, PySem.W.mg_of X G aK4⟩
  have FK5 := fun_mk (st := sAhead) lK5 cK5 kK5
  have DK5 : Df K mg "are_meets_ahead" sAhead ["rows"] fK5 _ := ⟨FK5, FK5.binds (ps := ["rows"]) fun _ _ _ _ _ _ us hl => match us, hl with | [_], _ => rfl, PySem.W.mg_of X G aK5⟩
  have FK6 := fun_mk (st := sRowsRight) lK6 cK6 kK6
  have DK6 : Df K mg "are_rows_right" sRowsRight ["places", "block", "begin", "rows"] fK6 _ := ⟨FK6, FK6.binds (ps := ["places", "block", "begin", "rows"]) fun _ _ _ _ _ _ us hl => match us, hl with | [_, _, _, _], _ => rfl, PySem.W.mg_of X G aK6⟩
  have FU1 := fun_mk (st := sFigs) lU1 cU1 kU1
  have DU1 : DfC K mg "is_in_figures" sFigs ["word"] fU1 _ xU1 := ⟨⟨⟨_, _, _, _, _, _, _, _, rfl, lU1, cU1⟩, kU1⟩, FU1.binds (ps := ["word"]) fun _ _ _ _ _ _ us hl => match us, hl with | [_], _ => rfl, PySem.W.mg_of X G aU1⟩
  have FU2 := fun_mk (st := sNameIn) lU2 cU2 kU2
  have DU2 : Df K mg "name_in" sNameIn ["word"] fU2 _ := ⟨FU2, FU2.binds (ps := ["word"]) fun _ _ _ _ _ _ us hl => match us, hl with | [_], _ => rfl, PySem.W.mg_of X G aU2⟩
  have FU3 := fun_mk (st := sPlaceIn) lU3 cU3 kU3
  have DU3 : Df K mg "place_in" sPlaceIn ["word"] fU3 _ := ⟨FU3, FU3.binds (ps := ["word"]) fun _ _ _ _ _ _ us hl => match us, hl with | [_], _ => rfl, PySem.W.mg_of X G aU3⟩
  have FU4 := fun_mk (st := sNumInW) lU4 cU4 kU4
  have DU4 : Df K mg "number_in_words" sNumInW ["word"] fU4 _ := ⟨FU4, FU4.binds (ps := ["word"]) fun _ _ _ _ _ _ us hl => match us, hl with | [_], _ => rfl, PySem.W.mg_of X G aU4⟩
  have FU5 := fun_mk (st := sNumKind) lU5 cU5 kU5
  have DU5 : Df K mg "number_of_kind" sNumKind ["word", "kind"] fU5 _ := ⟨FU5, FU5.binds (ps := ["word", "kind"]) fun _ _ _ _ _ _ us hl => match us, hl with | [_, _], _ => rfl, PySem.W.mg_of X G aU5⟩
  have FV1 := fun_mk (st := sReadProg) lV1 cV1 kV1
  have DV1 : Df K mg "read_program" sReadProg ["text"] fV1 _ := ⟨FV1, FV1.binds (ps := ["text"]) fun _ _ _ _ _ _ us hl => match us, hl with | [_], _ => rfl, PySem.W.mg_of X G aV1⟩
  have FV2 := fun_mk (st := sProgIn) lV2 cV2 kV2
  have DV2 : Df K mg "program_in" sProgIn ["lines"] fV2 _ := ⟨FV2, FV2.binds (ps := ["lines"]) fun _ _ _ _ _ _ us hl => match us, hl with | [_], _ => rfl, PySem.W.mg_of X G aV2⟩
  have FV3 := fun_mk (st := sThingIn) lV3 cV3 kV3
  have DV3 : Df K mg "thing_in" sThingIn ["words", "kinds"] fV3 _ := ⟨FV3, FV3.binds (ps := ["words", "kinds"]) fun _ _ _ _ _ _ us hl => match us, hl with | [_, _], _ => rfl, PySem.W.mg_of X G aV3⟩
  have FV4 := fun_mk (st := sNumsBy) lV4 cV4 kV4
  have DV4 : Df K mg "numbers_by" sNumsBy ["words", "kinds"] fV4 _ := ⟨FV4, FV4.binds (ps := ["words", "kinds"]) fun _ _ _ _ _ _ us hl => match us, hl with | [_, _], _ => rfl, PySem.W.mg_of X G aV4⟩
  have FZ := fun_mk (st := sLaw9) lZ cZ kZ
  have B : Bi mg := ⟨PySem.W.mg_none_of X G z_len, PySem.W.mg_none_of X G z_abs, PySem.W.mg_none_of X G z_int, PySem.W.mg_none_of X G z_range, PySem.W.mg_none_of X G z_max, PySem.W.mg_none_of X G z_min, PySem.W.mg_none_of X G z_list, PySem.W.mg_none_of X G z_tuple, PySem.W.mg_none_of X G z_sorted, PySem.W.mg_none_of X G z_set, PySem.W.mg_none_of X G z_enumerate, PySem.W.mg_none_of X G z_zip, PySem.W.mg_none_of X G z_sum, PySem.W.mg_none_of X G z_repr, PySem.W.mg_none_of X G z_any, PySem.W.mg_none_of X G z_isinstance, PySem.W.mg_none_of X G z_bool, PySem.W.mg_none_of X G z_str, PySem.W.mg_none_of X G z_all⟩
  have TCW : WTxt K mg CW := ⟨⟨pgCW, hdCW, poCW, saCW⟩, naCW0, naCW1, PySem.W.mg_of X G aCW⟩
  have FW1 := fun_mk (st := sWInit) lW1 cW1 kW1
  have b_W1 := FW1.binds (ps := ["self", "leads"]) fun _ _ _ _ _ _ us hl => match us, hl with | [_, _], _ => rfl
  have MW1 : Meth K CW "__init__" fW1 := ⟨aW1, iW1, kW1⟩
  have FW2 := fun_mk (st := sLies) lW2 cW2 kW2
  have b_W2 := FW2.binds (ps := ["self", "block", "other"]) fun _ _ _ _ _ _ us hl => match us, hl with | [_, _, _], _ => rfl
  have MW2 : Meth K CW "lies" fW2 := ⟨aW2, iW2, kW2⟩
  have MkCW : Mk K CW fW1 := ⟨mkCW, aW1, iW1, kcCW⟩
  have TCP : PTxt K mg CP := ⟨⟨pgCP, hdCP, poCP, saCP⟩, naCP0, naCP1, naCP2, naCP3, PySem.W.mg_of X G aCP⟩
  have FP1 := fun_mk (st := sPInit) lP1 cP1 kP1
  have b_P1 := FP1.binds (ps := ["self", "program"]) fun _ _ _ _ _ _ us hl => match us, hl with | [_, _], _ => rfl
  have MP1 : Meth K CP "__init__" fP1 := ⟨aP1, iP1, kP1⟩
  have FP2 := fun_mk (st := sCanName) lP2 cP2 kP2
  have b_P2 := FP2.binds (ps := ["self", "name", "block", "place"]) fun _ _ _ _ _ _ us hl => match us, hl with | [_, _, _, _], _ => rfl
  have MP2 : Meth K CP "can_name" fP2 := ⟨aP2, iP2, kP2⟩
  have FP3 := fun_mk (st := sCanAll) lP3 cP3 kP3
  have b_P3 := FP3.binds (ps := ["self", "names", "block", "place"]) fun _ _ _ _ _ _ us hl => match us, hl with | [_, _, _, _], _ => rfl
  have FCP3 : FunC K "can_name_all" "Places.can_name_all" sCanAll fP3 _ xP3 := ⟨⟨_, _, _, _, _, _, _, _, rfl, lP3, cP3⟩, kP3⟩
  have MP3 : Meth K CP "can_name_all" fP3 := ⟨aP3, iP3, kP3⟩
  have FP4 := fun_mk (st := sCanMeet) lP4 cP4 kP4
  have b_P4 := FP4.binds (ps := ["self", "parts", "block"]) fun _ _ _ _ _ _ us hl => match us, hl with | [_, _, _], _ => rfl
  have FCP4 : FunC K "can_meet" "Places.can_meet" sCanMeet fP4 _ xP4 := ⟨⟨_, _, _, _, _, _, _, _, rfl, lP4, cP4⟩, kP4⟩
  have MP4 : Meth K CP "can_meet" fP4 := ⟨aP4, iP4, kP4⟩
  have MkCP : Mk K CP fP1 := ⟨mkCP, aP1, iP1, kcCP⟩
  have sz : ∀ {xs : List V} {its : Array Value}, Vals xs its.toList → xs.length ≤ 9 → its.size ≤ sizeLine := fun {xs its} v h => by
    have e := v.length
    have e2 : its.toList.length = its.size := Array.length_toList
    exact szl (by omega)
  have TB : Tb K w mg dR dE := ⟨PySem.W.mg_of X G rE, PySem.W.mg_of X G eE, fun r => match r with | .take _ => ⟨_, ⟨esR, nesR, _, rL, rK, re0, rfl⟩, (fun H => .inr ⟨_, r0i, r0j, r0t, rfl, rfl, sz r0v (by decide), r0v⟩)⟩ | .num _ => ⟨_, ⟨esR, nesR, _, rL, rK, re1, rfl⟩, (fun H => .inr ⟨_, r1i, r1j, r1t, rfl, rfl, sz r1v (by decide), r1v⟩)⟩ | .bin .sum _ _ => ⟨_, ⟨esR, nesR, _, rL, rK, re2, rfl⟩, (fun H => .inr ⟨_, r2i, r2j, r2t, rfl, rfl, sz r2v (by decide), r2v⟩)⟩ | .bin .less _ _ => ⟨_, ⟨esR, nesR, _, rL, rK, re3, rfl⟩, (fun H => .inr ⟨_, r3i, r3j, r3t, rfl, rfl, sz r3v (by decide), r3v⟩)⟩ | .bin .times _ _ => ⟨_, ⟨esR, nesR, _, rL, rK, re4, rfl⟩, (fun H => .inr ⟨_, r4i, r4j, r4t, rfl, rfl, sz r4v (by decide), r4v⟩)⟩ | .bin .same _ _ => ⟨_, ⟨esR, nesR, _, rL, rK, re5, rfl⟩, (fun H => .inr ⟨_, r5i, r5j, r5t, rfl, rfl, sz r5v (by decide), r5v⟩)⟩ | .bin .below _ _ => ⟨_, ⟨esR, nesR, _, rL, rK, re6, rfl⟩, (fun H => .inr ⟨_, r6i, r6j, r6t, rfl, rfl, sz r6v (by decide), r6v⟩)⟩ | .pick _ _ => ⟨_, ⟨esR, nesR, _, rL, rK, re7, rfl⟩, (fun H => .inr ⟨_, r7i, r7j, r7t, rfl, rfl, sz r7v (by decide), r7v⟩)⟩ | .meet _ => ⟨_, ⟨esR, nesR, _, rL, rK, re8, rfl⟩, (fun H => .inr ⟨_, r8i, r8j, r8t, rfl, rfl, sz r8v (by decide), r8v⟩)⟩ | .look _ _ => ⟨_, ⟨esR, nesR, _, rL, rK, re9, rfl⟩, (fun H => .inr ⟨_, r9i, r9j, r9t, rfl, rfl, sz r9v (by decide), r9v⟩)⟩ | .lay _ _ _ => ⟨_, ⟨esR, nesR, _, rL, rK, re10, rfl⟩, (fun H => .inr ⟨_, r10i, r10j, r10t, rfl, rfl, sz r10v (by decide), r10v⟩)⟩ | .tell _ => ⟨_, ⟨esR, nesR, _, rL, rK, re11, rfl⟩, (fun H => .inr ⟨_, r11i, r11j, r11t, rfl, rfl, sz r11v (by decide), r11v⟩)⟩, fun e => match e with | .go _ => ⟨_, ⟨esE, nesE, _, eL, eK, ee0, rfl⟩, (fun H => .inr ⟨_, e0i, e0j, e0t, rfl, rfl, sz e0v (by decide), e0v⟩)⟩ | .iff _ _ _ => ⟨_, ⟨esE, nesE, _, eL, eK, ee1, rfl⟩, (fun H => .inr ⟨_, e1i, e1j, e1t, rfl, rfl, sz e1v (by decide), e1v⟩)⟩ | .fin => ⟨_, ⟨esE, nesE, _, eL, eK, ee2, rfl⟩, (fun H => .inr ⟨_, e2i, e2j, e2t, rfl, rfl, sz e2v (by decide), e2v⟩)⟩⟩
  have TD : TbD K w dR dE := ⟨fun r => match r with | .take _ => ⟨_, ⟨esR, nesR, _, rL, rK, re0, rfl⟩, (fun H => .inr ⟨_, r0i, r0j, r0t, rfl, rfl, sz r0v (by decide), r0v⟩), ⟨_, r0t, rfl, rfl⟩⟩ | .num _ => ⟨_, ⟨esR, nesR, _, rL, rK, re1, rfl⟩, (fun H => .inr ⟨_, r1i, r1j, r1t, rfl, rfl, sz r1v (by decide), r1v⟩), ⟨_, r1t, rfl, rfl⟩⟩ | .bin .sum _ _ => ⟨_, ⟨esR, nesR, _, rL, rK, re2, rfl⟩, (fun H => .inr ⟨_, r2i, r2j, r2t, rfl, rfl, sz r2v (by decide), r2v⟩), ⟨_, r2t, rfl, rfl⟩⟩ | .bin .less _ _ => ⟨_, ⟨esR, nesR, _, rL, rK, re3, rfl⟩, (fun H => .inr ⟨_, r3i, r3j, r3t, rfl, rfl, sz r3v (by decide), r3v⟩), ⟨_, r3t, rfl, rfl⟩⟩ | .bin .times _ _ => ⟨_, ⟨esR, nesR, _, rL, rK, re4, rfl⟩, (fun H => .inr ⟨_, r4i, r4j, r4t, rfl, rfl, sz r4v (by decide), r4v⟩), ⟨_, r4t, rfl, rfl⟩⟩ | .bin .same _ _ => ⟨_, ⟨esR, nesR, _, rL, rK, re5, rfl⟩, (fun H => .inr ⟨_, r5i, r5j, r5t, rfl, rfl, sz r5v (by decide), r5v⟩), ⟨_, r5t, rfl, rfl⟩⟩ | .bin .below _ _ => ⟨_, ⟨esR, nesR, _, rL, rK, re6, rfl⟩, (fun H => .inr ⟨_, r6i, r6j, r6t, rfl, rfl, sz r6v (by decide), r6v⟩), ⟨_, r6t, rfl, rfl⟩⟩ | .pick _ _ => ⟨_, ⟨esR, nesR, _, rL, rK, re7, rfl⟩, (fun H => .inr ⟨_, r7i, r7j, r7t, rfl, rfl, sz r7v (by decide), r7v⟩), ⟨_, r7t, rfl, rfl⟩⟩ | .meet _ => ⟨_, ⟨esR, nesR, _, rL, rK, re8, rfl⟩, (fun H => .inr ⟨_, r8i, r8j, r8t, rfl, rfl, sz r8v (by decide), r8v⟩), ⟨_, r8t, rfl, rfl⟩⟩ | .look _ _ => ⟨_, ⟨esR, nesR, _, rL, rK, re9, rfl⟩, (fun H => .inr ⟨_, r9i, r9j, r9t, rfl, rfl, sz r9v (by decide), r9v⟩), ⟨_, r9t, rfl, rfl⟩⟩ | .lay _ _ _ => ⟨_, ⟨esR, nesR, _, rL, rK, re10, rfl⟩, (fun H => .inr ⟨_, r10i, r10j, r10t, rfl, rfl, sz r10v (by decide), r10v⟩), ⟨_, r10t, rfl, rfl⟩⟩ | .tell _ => ⟨_, ⟨esR, nesR, _, rL, rK, re11, rfl⟩, (fun H => .inr ⟨_, r11i, r11j, r11t, rfl, rfl, sz r11v (by decide), r11v⟩), ⟨_, r11t, rfl, rfl⟩⟩, fun e => match e with | .go _ => ⟨_, ⟨esE, nesE, _, eL, eK, ee0, rfl⟩, (fun H => .inr ⟨_, e0i, e0j, e0t, rfl, rfl, sz e0v (by decide), e0v⟩), ⟨_, e0t, rfl, rfl⟩⟩ | .iff _ _ _ => ⟨_, ⟨esE, nesE, _, eL, eK, ee1, rfl⟩, (fun H => .inr ⟨_, e1i, e1j, e1t, rfl, rfl, sz e1v (by decide), e1v⟩), ⟨_, e1t, rfl, rfl⟩⟩ | .fin => ⟨_, ⟨esE, nesE, _, eL, eK, ee2, rfl⟩, (fun H => .inr ⟨_, e2i, e2j, e2t, rfl, rfl, sz e2v (by decide), e2v⟩), ⟨_, e2t, rfl, rfl⟩⟩⟩
  have NW : NoW K w dR dE := ⟨fun r => match r with | .take _ => ⟨esE, nesE, eL, eK, no_e0⟩ | .num _ => ⟨esE, nesE, eL, eK, no_e1⟩ | .bin .sum _ _ => ⟨esE, nesE, eL, eK, no_e2⟩ | .bin .less _ _ => ⟨esE, nesE, eL, eK, no_e3⟩ | .bin .times _ _ => ⟨esE, nesE, eL, eK, no_e4⟩ | .bin .same _ _ => ⟨esE, nesE, eL, eK, no_e5⟩ | .bin .below _ _ => ⟨esE, nesE, eL, eK, no_e6⟩ | .pick _ _ => ⟨esE, nesE, eL, eK, no_e7⟩ | .meet _ => ⟨esE, nesE, eL, eK, no_e8⟩ | .look _ _ => ⟨esE, nesE, eL, eK, no_e9⟩ | .lay _ _ _ => ⟨esE, nesE, eL, eK, no_e10⟩ | .tell _ => ⟨esE, nesE, eL, eK, no_e11⟩, fun e => match e with | .go _ => ⟨esR, nesR, rL, rK, no_r0⟩ | .iff _ _ _ => ⟨esR, nesR, rL, rK, no_r1⟩ | .fin => ⟨esR, nesR, rL, rK, no_r2⟩, ⟨esR, nesR, rL, rK, no_rb⟩, ⟨esE, nesE, eL, eK, no_eb⟩⟩
  have EP : Ep K w mg dE eg0 eg1 eg2 := ⟨PySem.W.mg_of X G eE, ⟨esE, nesE, _, eL, eK, ee0, rfl⟩, ⟨esE, nesE, _, eL, eK, ee1, rfl⟩, ⟨esE, nesE, _, eL, eK, ee2, rfl⟩, (fun H => .inr ⟨_, e0i, e0j, e0t, rfl, rfl, sz e0v (by decide), e0v⟩), (fun H => .inr ⟨_, e1i, e1j, e1t, rfl, rfl, sz e1v (by decide), e1v⟩), (fun H => .inr ⟨_, e2i, e2j, e2t, rfl, rfl, sz e2v (by decide), e2v⟩)⟩
  have kR : IsKD K w dR := ⟨rw, esR, nesR, rL, rK⟩
  have kE : IsKD K w dE := ⟨ew, esE, nesE, eL, eK⟩
  refine ⟨PySem.W.fnOf "law" "law" (defArgs sLaw9) (defBody sLaw9) (defScope sLaw9) .none kVZ dcZ pmZ anZ cdZ ctZ, [(xH3, TH3), (xH4, TH4), (xH9, TH9), (xHA, THA), (xK3, TK3), (xU1, TU1), (xP3, TP3), (xP4, TP4), (xK2, TK2)], spLaw K [TH3, TH4, TH9, THA, TK3, TU1, TP3, TP4] TK2, ?_, fun s v => .of_eq rfl, fun H a ns hl hH hS => ⟨a, ns, rfl, ntL' hS, hl, ⟨fun P hP => ?_, Gx.TabD.nil (hH (xK2, TK2) (by simp))⟩, fun _ => rfl⟩, fun base hK hN hTB => ?_⟩
  · exact all_cons (P := fun p : Addr × Addr => h.get? p.2 = some Bare0 ∧ K.lookup p.2 = none ∧ PySem.W.CodeHd h p.1 p.2) ⟨bH3.2, nH3, bH3.1⟩ (all_cons (P := fun p : Addr × Addr => h.get? p.2 = some Bare0 ∧ K.lookup p.2 = none ∧ PySem.W.CodeHd h p.1 p.2) ⟨bH4.2, nH4, bH4.1⟩ (all_cons (P := fun p : Addr × Addr => h.get? p.2 = some Bare0 ∧ K.lookup p.2 = none ∧ PySem.W.CodeHd h p.1 p.2) ⟨bH9.2, nH9, bH9.1⟩ (all_cons (P := fun p : Addr × Addr => h.get? p.2 = some Bare0 ∧ K.lookup p.2 = none ∧ PySem.W.CodeHd h p.1 p.2) ⟨bHA.2, nHA, bHA.1⟩ (all_cons (P := fun p : Addr × Addr => h.get? p.2 = some Bare0 ∧ K.lookup p.2 = none ∧ PySem.W.CodeHd h p.1 p.2) ⟨bK3.2, nK3, bK3.1⟩ (all_cons (P := fun p : Addr × Addr => h.get? p.2 = some Bare0 ∧ K.lookup p.2 = none ∧ PySem.W.CodeHd h p.1 p.2) ⟨bU1.2, nU1, bU1.1⟩ (all_cons (P := fun p : Addr × Addr => h.get? p.2 = some Bare0 ∧ K.lookup p.2 = none ∧ PySem.W.CodeHd h p.1 p.2) ⟨bP3.2, nP3, bP3.1⟩ (all_cons (P := fun p : Addr × Addr => h.get? p.2 = some Bare0 ∧ K.lookup p.2 = none ∧ PySem.W.CodeHd h p.1 p.2) ⟨bP4.2, nP4, bP4.1⟩ (all_cons (P := fun p : Addr × Addr => h.get? p.2 = some Bare0 ∧ K.lookup p.2 = none ∧ PySem.W.CodeHd h p.1 p.2) ⟨bK2.2, nK2, bK2.1⟩ (all_nil)))))))))
  · have hq : ∃ x, (x, P) ∈ [(xH3, TH3), (xH4, TH4), (xH9, TH9), (xHA, THA), (xK3, TK3), (xU1, TU1), (xP3, TP3), (xP4, TP4), (xK2, TK2)] := by
      simp only [List.mem_cons, List.not_mem_nil, or_false] at hP
      rcases hP with rfl | rfl | rfl | rfl | rfl | rfl | rfl | rfl
      · exact ⟨xH3, by simp⟩
      · exact ⟨xH4, by simp⟩
      · exact ⟨xH9, by simp⟩
      · exact ⟨xHA, by simp⟩
      · exact ⟨xK3, by simp⟩
      · exact ⟨xU1, by simp⟩
      · exact ⟨xP3, by simp⟩
      · exact ⟨xP4, by simp⟩
    obtain ⟨x, hx⟩ := hq
    exact ⟨#[], hH (x, P) hx, trivial⟩
  have BH3 : GxR.TabB base mg xH3 TH3 := hTB (xH3, TH3) (by simp)
  have BH4 : GxR.TabB base mg xH4 TH4 := hTB (xH4, TH4) (by simp)
  have BH9 : GxR.TabB base mg xH9 TH9 := hTB (xH9, TH9) (by simp)
  have BHA : GxR.TabB base mg xHA THA := hTB (xHA, THA) (by simp)
  have BK3 : GxR.TabB base mg xK3 TK3 := hTB (xK3, TK3) (by simp)
  have BU1 : GxR.TabB base mg xU1 TU1 := hTB (xU1, TU1) (by simp)
  have BP3 : GxR.TabB base mg xP3 TP3 := hTB (xP3, TP3) (by simp)
  have BP4 : GxR.TabB base mg xP4 TP4 := hTB (xP4, TP4) (by simp)
  have BK2 : GxR.TabB base mg xK2 TK2 := hTB (xK2, TK2) (by simp)
  have IH3 : TH3 ∈ [TH3, TH4, TH9, THA, TK3, TU1, TP3, TP4] := by simp
  have IH4 : TH4 ∈ [TH3, TH4, TH9, THA, TK3, TU1, TP3, TP4] := by simp
  have IH9 : TH9 ∈ [TH3, TH4, TH9, THA, TK3, TU1, TP3, TP4] := by simp
  have IHA : THA ∈ [TH3, TH4, TH9, THA, TK3, TU1, TP3, TP4] := by simp
  have IK3 : TK3 ∈ [TH3, TH4, TH9, THA, TK3, TU1, TP3, TP4] := by simp
  have IU1 : TU1 ∈ [TH3, TH4, TH9, THA, TK3, TU1, TP3, TP4] := by simp
  have IP3 : TP3 ∈ [TH3, TH4, TH9, THA, TK3, TU1, TP3, TP4] := by simp
  have IP4 : TP4 ∈ [TH3, TH4, TH9, THA, TK3, TU1, TP3, TP4] := by simp
  have GL2 : FnOk l.prog w K mg base CX0 1 fL2 _ ["_law_tape", "_law_many"] spDraw := ok_draw DL2
  have GL1 : FnOk l.prog w K mg base CX0 1 fL1 _ ["_law_script", "_law_k"] (spTape K) := ok_tape DL1 B
  have GL4 : FnOk l.prog w K mg base CX0 1 fL4 _ ["_law_nexts_here", "_law_without"] (spReached K) := ok_reached DL4
  have GT1 : FnOk l.prog w K mg base CX0 1 fT1 _ ["_law_row"] (spRowText K) := ok_rowText DT1 B
  have GT4 : FnOk l.prog w K mg base CX0 1 fT4 _ ["thing", "kinds"] (spTextOf K) := ok_textOf DT4 B (PySem.W.mg_of X G sE) (fun H => .inr ⟨_, si, sj, st, rfl, rfl, sz sv (by decide), sv⟩)
  have GL3 : FnOk l.prog w K mg base CX0 2 fL3 _ ["_law_tape"] spNexts := ok_nexts DL3 DL2 (GL2.mono (by decide))
  have GL6 : FnOk l.prog w K mg base CX0 2 fL6 _ ["_law_nexts_here", "_law_blocks", "_law_rows", "_law_block"] (spStanding K) := ok_standing DL6 B DL4 (GL4.mono (by decide))
  have GL5 : FnOk l.prog w K mg base CX0 2 fL5 _ ["_law_tape", "_law_rows", "_law_some"] (spDrawn K) := ok_drawn DL5 B DL2 (GL2.mono (by decide))
  have GT2 : FnOk l.prog w K mg base CX0 2 fT2 _ ["_law_program_here"] (spTextRows K) := ok_textRows DT2 B DT1 (GT1.mono (by decide))
  have GT3 : FnOk l.prog w K mg base CX0 2 fT3 _ ["program"] (spPText K) := ok_ptext DT3 B TB DT4 (GT4.mono (by decide))
  have GL7 : FnOk l.prog w K mg base CX0 3 fL7 _ ["_law_tape", "_law_most"] (spProgram K) := ok_program DL7 B DL2 (GL2.mono (by decide)) DL3 (GL3.mono (by decide)) DL6 (GL6.mono (by decide)) DL5 (GL5.mono (by decide))
  have GN1 : FnOk l.prog w K mg base CX0 1 fN1 _ ["end"] (spNamed K) := ok_named DN1 B EP
  have GN2 : FnOk l.prog w K mg base CX0 2 fN2 _ ["program"] (spLeadsOf K) := ok_leadsOf DN2 B DN1 (GN1.mono (by decide))
  have GN3 : FnOk l.prog w K mg base CX0 1 fN3 _ ["program"] (spRowsOf K) := ok_rowsOf DN3 B
  have GN4 : FnOk l.prog w K mg base CX0 1 fN4 _ ["program"] (spOwners K) := ok_owners DN4 B
  have GC1 : FnOk l.prog w K mg base CX0 1 fC1 _ ["nearest", "blocks"] (spCommon K) := ok_common DC1 B
  have GC2 : FnOk l.prog w K mg base CX0 2 fC2 _ ["nearest", "leads"] (spBrought K) := ok_brought DC2 B DC1 (GC1.mono (by decide))
  have GC3 : FnOk l.prog w K mg base CX0 3 fC3 _ ["leads"] (spNearest K) := ok_nearest DC3 B DC1 (GC1.mono (by decide)) DC2 (GC2.mono (by decide))
  have GC4 : FnOk l.prog w K mg base CX0 1 fC4 _ ["nearest"] (spSizes K) := ok_sizes DC4 B
  have GC5 : FnOk l.prog w K mg base CX0 1 fC5 _ ["nearest", "sizes"] (spPlaces K) := ok_places DC5 B
  have GH1 : FnOk l.prog w K mg base CX0 1 fH1 _ ["thing"] spIsNum := ok_isNum DH1 B
  have GH2 : FnOk l.prog w K mg base CX0 2 fH2 _ ["thing"] spIsPlace := ok_isPlace DH2 B DH1 (GH1.mono (by decide))
  have GH3 : FnOk l.prog w K mg base CX0 5 fH3 _ ["thing"] (spIsParts K [TH3, TH4, TH9, THA, TK3, TU1, TP3, TP4] TK2) := ok_isParts (k := 1) DH3 B BH3 IH3 hTs DH1 (GH1.mono (by decide))
  have GH4 : FnOk l.prog w K mg base CX0 6 fH4 _ ["thing"] (spIsRooms K [TH3, TH4, TH9, THA, TK3, TU1, TP3, TP4] TK2) := ok_isRooms (k := 2) DH4 B BH4 IH4 hTs DH2 (GH2.mono (by decide))
  have GH5 : FnOk l.prog w K mg base CX0 1 fH5 _ ["thing"] (spWordOf K) := ok_wordOf DH5 B
  have CKS : Cks l.prog w K mg base 6 [TH3, TH4, TH9, THA, TK3, TU1, TP3, TP4] TK2 dC (fun b => match b with | .num => fH1 | .place => fH2 | .parts => fH3 | .rooms => fH4) :=
    ⟨PySem.W.mg_of X G cE, ⟨esC, nesC, _, cL, cK, c_number, rfl⟩, ⟨esC, nesC, _, cL, cK, c_row, rfl⟩, ⟨esC, nesC, _, cL, cK, c_block, rfl⟩, ⟨esC, nesC, _, cL, cK, c_place, rfl⟩, ⟨esC, nesC, _, cL, cK, c_parts, rfl⟩, ⟨esC, nesC, _, cL, cK, c_rooms, rfl⟩,
      fun b => match b with | .num => (((GH1.mono (by decide)).raw DH1.b .nil).imp fun vs H Q E h => by rw [List.append_nil]; exact h) | .place => (((GH2.mono (by decide)).raw DH2.b .nil).imp fun vs H Q E h => by rw [List.append_nil]; exact h) | .parts => (((GH3.mono (by decide)).raw DH3.b .nil).imp fun vs H Q E h => by rw [List.append_nil]; exact h) | .rooms => (((GH4.mono (by decide)).raw DH4.b .nil).imp fun vs H Q E h => by rw [List.append_nil]; exact h), fun b => match b with | .num => kH1 | .place => kH2 | .parts => kH3 | .rooms => kH4⟩
  have GH6 : FnOk l.prog w K mg base CX0 7 fH6 _ ["thing", "kinds"] (spFits K [TH3, TH4, TH9, THA, TK3, TU1, TP3, TP4] TK2) := ok_fitsS (k := 6) DH6 B CKS
  have GH7 : FnOk l.prog w K mg base CX0 8 fH7 _ ["thing"] (spIsRow K [TH3, TH4, TH9, THA, TK3, TU1, TP3, TP4] TK2) := ok_isRow (k := 7) DH7 TB rw DH6 (GH6.mono (by decide)) DH5 (GH5.mono (by decide))
  have GH8 : FnOk l.prog w K mg base CX0 8 fH8 _ ["thing"] (spIsEnd K [TH3, TH4, TH9, THA, TK3, TU1, TP3, TP4] TK2) := ok_isEnd (k := 7) DH8 TB ew DH6 (GH6.mono (by decide)) DH5 (GH5.mono (by decide))
  have GH9 : FnOk l.prog w K mg base CX0 12 fH9 _ ["thing"] (spIsBlock K [TH3, TH4, TH9, THA, TK3, TU1, TP3, TP4] TK2) := ok_isBlock (k := 8) DH9 B BH9 IH9 hTs DH7 (GH7.mono (by decide)) DH8 (GH8.mono (by decide))
  have GHA : FnOk l.prog w K mg base CX0 16 fHA _ ["thing"] (spIsWritten K [TH3, TH4, TH9, THA, TK3, TU1, TP3, TP4] TK2) := ok_isWritten (k := 12) DHA B BHA IHA hTs DH9 (GH9.mono (by decide))
  have GJ1 : FnOk l.prog w K mg base CX0 1 fJ1 _ ["row"] (spHasWorth K) := ok_hasWorth DJ1 (PySem.W.mg_of X G yE) (fun H => .inr ⟨_, yi, yj, yt, rfl, rfl, sz yv (by decide), yv⟩)
  have GJ2 : FnOk l.prog w K mg base CX0 1 fJ2 _ ["row"] (spIsMeetR K) := ok_isMt DJ2
  have GJ5 : FnOk l.prog w K mg base CX0 1 fJ5 _ ["thing", "kinds"] (spNumsIn K) := ok_numsIn DJ5 B
  have GJ3 : FnOk l.prog w K mg base CX0 2 fJ3 _ ["row"] (spRowsNamed K) := ok_rowsNamed DJ3 TB DJ5 (GJ5.mono (by decide))
  have GJ4 : FnOk l.prog w K mg base CX0 2 fJ4 _ ["end"] (spRowsTested K) := ok_rowsTested DJ4 TB DJ5 (GJ5.mono (by decide))
  have GW1 : FnOk l.prog w K mg base CX0 4 fW1 _ ["self", "leads"] (spWInit K CW) := ok_winit FW1 TCW DC3 (GC3.mono (by decide)) DC4 (GC4.mono (by decide)) DC5 (GC5.mono (by decide))
  have GW2 : FnOk l.prog w K mg base CX0 1 fW2 _ ["self", "block", "other"] (spLies CW) := ok_lies FW2 TCW
  have GK3 : FnOk l.prog w K mg base CX0 4 fK3 _ ["named", "many"] (spCanLead K [TH3, TH4, TH9, THA, TK3, TU1, TP3, TP4] TK2) := ok_canLead (k := 0) DK3 B BK3 IK3 hTs
  have GK2 : FnOk l.prog w K mg base CX0 8 fK2 _ ["program"] (spLed K [TH3, TH4, TH9, THA, TK3, TU1, TP3, TP4] TK2) := ok_led (k := 1) DK2 B BK2 DK3 (GK3.mono (by decide)) DN1 (GN1.mono (by decide)) DN2 (GN2.mono (by decide))
  have GP1 : FnOk l.prog w K mg base CX0 6 fP1 _ ["self", "program"] (spPInit K CP CW) := ok_pinit (k := 4) FP1 TCP TCW DN3 (GN3.mono (by decide)) DN4 (GN4.mono (by decide)) DN2 (GN2.mono (by decide)) MkCW b_W1 (GW1.mono (by decide))
  have GP2 : FnOk l.prog w K mg base CX0 2 fP2 _ ["self", "name", "block", "place"] (spCanName K CP CW) := ok_canName (k := 1) FP2 B TCP TCW DJ1 (GJ1.mono (by decide)) MW2 b_W2 (GW2.mono (by decide))
  have GP3 : FnOk l.prog w K mg base CX0 6 fP3 _ ["self", "names", "block", "place"] (spCanAll K CP CW [TH3, TH4, TH9, THA, TK3, TU1, TP3, TP4] TK2) := ok_canAll (k := 2) FCP3 B TCP BP3 IP3 hTs MP2 b_P2 (GP2.mono (by decide))
  have GP4 : FnOk l.prog w K mg base CX0 6 fP4 _ ["self", "parts", "block"] (spCanMeet K CP CW [TH3, TH4, TH9, THA, TK3, TU1, TP3, TP4] TK2) := ok_canMeet (k := 2) FCP4 B TCP BP4 IP4 hTs MP2 b_P2 (GP2.mono (by decide))
  have GK5 : FnOk l.prog w K mg base CX0 2 fK5 _ ["rows"] (spAhead K) := ok_ahead DK5 DJ2 (GJ2.mono (by decide))
  have GK6 : FnOk l.prog w K mg base CX0 7 fK6 _ ["places", "block", "begin", "rows"] (spRowsRight K CP CW [TH3, TH4, TH9, THA, TK3, TU1, TP3, TP4] TK2) := ok_rowsRight (k := 6) DK6 B TCP DJ3 (GJ3.mono (by decide)) DJ2 (GJ2.mono (by decide)) MP4 b_P4 (GP4.mono (by decide)) MP3 b_P3 (GP3.mono (by decide))
  have GK4 : FnOk l.prog w K mg base CX0 8 fK4 _ ["program"] (spNamesRight K [TH3, TH4, TH9, THA, TK3, TU1, TP3, TP4] TK2) := ok_namesRight (k := 6) DK4 B TCP MkCP b_P1 (GP1.mono (by decide)) DK5 (GK5.mono (by decide)) DK6 (GK6.mono (by decide)) MP3 b_P3 (GP3.mono (by decide)) DJ4 (GJ4.mono (by decide))
  have GK1 : FnOk l.prog w K mg base CX0 17 fK1 _ ["thing"] (spIsProg K [TH3, TH4, TH9, THA, TK3, TU1, TP3, TP4] TK2) := ok_isProg (k := 16) DK1 DHA (GHA.mono (by decide)) DK2 (GK2.mono (by decide)) DK4 (GK4.mono (by decide))
  have GU1 : FnOk l.prog w K mg base CX0 4 fU1 _ ["word"] (spFigs [TH3, TH4, TH9, THA, TK3, TU1, TP3, TP4] TK2) := ok_figs (k := 0) DU1 B BU1 IU1 hTs (PySem.W.mg_of X G g_FIGURES)
  have GU2 : FnOk l.prog w K mg base CX0 5 fU2 _ ["word"] (spNameIn [TH3, TH4, TH9, THA, TK3, TU1, TP3, TP4] TK2) := ok_nameIn (k := 4) DU2 B (PySem.W.mg_of X G g_LONGEST) DU1 (GU1.mono (by decide))
  have GU3 : FnOk l.prog w K mg base CX0 6 fU3 _ ["word"] (spPlaceIn [TH3, TH4, TH9, THA, TK3, TU1, TP3, TP4] TK2) := ok_placeIn (k := 5) DU3 (PySem.W.mg_of X G g_LAST_PLACE) DU2 (GU2.mono (by decide))
  have GU4 : FnOk l.prog w K mg base CX0 5 fU4 _ ["word"] (spNumInW [TH3, TH4, TH9, THA, TK3, TU1, TP3, TP4] TK2) := ok_numInW (k := 4) DU4 B (PySem.W.mg_of X G g_GREATEST_NUMBER) DU1 (GU1.mono (by decide))
  have RKS : Rks l.prog w K mg base 6 [TH3, TH4, TH9, THA, TK3, TU1, TP3, TP4] TK2 dD (fun b => match b with | .num => fU4 | .name => fU2 | .place => fU3) :=
    ⟨PySem.W.mg_of X G dE__, ⟨esD, nesD, _, dL, dK, d_number, rfl⟩, ⟨esD, nesD, _, dL, dK, d_row, rfl⟩, ⟨esD, nesD, _, dL, dK, d_block, rfl⟩, ⟨esD, nesD, _, dL, dK, d_place, rfl⟩, ⟨esD, nesD, _, dL, dK, d_parts, rfl⟩, ⟨esD, nesD, _, dL, dK, d_rooms, rfl⟩,
      fun b => match b with | .num => (((GU4.mono (by decide)).raw DU4.b .nil).imp fun vs H Q E h => by rw [List.append_nil]; exact h) | .name => (((GU2.mono (by decide)).raw DU2.b .nil).imp fun vs H Q E h => by rw [List.append_nil]; exact h) | .place => (((GU3.mono (by decide)).raw DU3.b .nil).imp fun vs H Q E h => by rw [List.append_nil]; exact h), fun b => match b with | .num => kU4 | .name => kU2 | .place => kU3⟩
  have GU5 : FnOk l.prog w K mg base CX0 7 fU5 _ ["word", "kind"] (spNumKind [TH3, TH4, TH9, THA, TK3, TU1, TP3, TP4] TK2) := ok_numKind (k := 6) DU5 RKS
  have GV4 : FnOk l.prog w K mg base CX0 8 fV4 _ ["words", "kinds"] (spNumsBy K [TH3, TH4, TH9, THA, TK3, TU1, TP3, TP4] TK2) := ok_numsBy (k := 7) DV4 B DU5 (GU5.mono (by decide))
  have GV3 : FnOk l.prog w K mg base CX0 9 fV3 _ ["words", "kinds"] (spThing K [TH3, TH4, TH9, THA, TK3, TU1, TP3, TP4] TK2) := ok_thing (k := 8) DV3 B (PySem.W.mg_of X G sE) (fun H => .inr ⟨_, si, sj, st, rfl, rfl, sz sv (by decide), sv⟩) DV4 (GV4.mono (by decide))
  have GV2 : FnOk l.prog w K mg base CX0 18 fV2 _ ["lines"] (spProgIn K [TH3, TH4, TH9, THA, TK3, TU1, TP3, TP4] TK2) := ok_progIn (k := 17) DV2 B TB TD kR kE NW DV3 (GV3.mono (by decide)) DK1 (GK1.mono (by decide))
  have GV1 : FnOk l.prog w K mg base CX0 19 fV1 _ ["text"] (spReadProg K [TH3, TH4, TH9, THA, TK3, TU1, TP3, TP4] TK2) := ok_readProg (k := 18) DV1 DV2 (GV2.mono (by decide))
  exact ok_law (k := 19) FZ B ⟨rfl, by decide, by decide⟩ DL1 (GL1.mono (by decide)) DL7 (GL7.mono (by decide)) DT2 (GT2.mono (by decide)) DV1 (GV1.mono (by decide)) DK1 (GK1.mono (by decide)) DT3 (GT3.mono (by decide))
end Gn
set_option Elab.async false
set_option linter.all false
set_option maxRecDepth 100000
open PySem PySem.W PyProof.Rows
local macro_rules | `(tactic| o_head ($f $k $a $e)) => `(tactic| o_head (PySem.W.kmHook $k $a $e [210, 217, 253, 260, 323, 351, 288, 295, 316]))
set_option maxHeartbeats 0 in
theorem PySem.Challenge.cw_sameworth_k69_programs_read_back_holds : PySem.Challenge.rw_sameworth_k69_programs_read_back.Holds := by
  w_on; o_law; k_head; (case hw => w_witness2)
  k_fill
  refine Gn.walkGT (l := PySem.Challenge.rw_sameworth_k69_programs_read_back) (n := 63) (x := "_law_script") rfl (by decide) rfl (fun w h Y => PySem.W.km_in_of Y) ?F
  case F =>
    intro w mg fa h Y KX G hmg
    refine' Gn.all_mk KX G hmg ?aL1 ?lL1 ?cL1 ?kL1 ?aL2 ?lL2 ?cL2 ?kL2 ?aL3 ?lL3 ?cL3 ?kL3 ?aL4 ?lL4 ?cL4 ?kL4 ?aL5 ?lL5 ?cL5 ?kL5 ?aL6 ?lL6 ?cL6 ?kL6 ?aL7 ?lL7 ?cL7 ?kL7 ?aT1 ?lT1 ?cT1 ?kT1 ?aT2 ?lT2 ?cT2 ?kT2 ?aT3 ?lT3 ?cT3 ?kT3 ?aT4 ?lT4 ?cT4 ?kT4 ?aN1 ?lN1 ?cN1 ?kN1 ?aN2 ?lN2 ?cN2 ?kN2 ?aN3 ?lN3 ?cN3 ?kN3 ?aN4 ?lN4 ?cN4 ?kN4 ?aC1 ?lC1 ?cC1 ?kC1 ?aC2 ?lC2 ?cC2 ?kC2 ?aC3 ?lC3 ?cC3 ?kC3 ?aC4 ?lC4 ?cC4 ?kC4 ?aC5 ?lC5 ?cC5 ?kC5 ?aH1 ?lH1 ?cH1 ?kH1 ?aH2 ?lH2 ?cH2 ?kH2 ?aH3 ?lH3 ?cH3 ?kH3 ?hH3 ?mH3 ?eH3 ?nH3 ?bH3 ?aH4 ?lH4 ?cH4 ?kH4 ?hH4 ?mH4 ?eH4 ?nH4 ?bH4 ?aH5 ?lH5 ?cH5 ?kH5 ?aH6 ?lH6 ?cH6 ?kH6 ?aH7 ?lH7 ?cH7 ?kH7 ?aH8 ?lH8 ?cH8 ?kH8 ?aH9 ?lH9 ?cH9 ?kH9 ?hH9 ?mH9 ?eH9 ?nH9 ?bH9 ?aHA ?lHA ?cHA ?kHA ?hHA ?mHA ?eHA ?nHA ?bHA ?aJ1 ?lJ1 ?cJ1 ?kJ1 ?aJ2 ?lJ2 ?cJ2 ?kJ2 ?aJ3 ?lJ3 ?cJ3 ?kJ3 ?aJ4 ?lJ4 ?cJ4 ?kJ4 ?aJ5 ?lJ5 ?cJ5 ?kJ5 ?aK1 ?lK1 ?cK1 ?kK1 ?aK2 ?lK2 ?cK2 ?kK2 ?hK2 ?mK2 ?eK2 ?nK2 ?bK2 ?aK3 ?lK3 ?cK3 ?kK3 ?hK3 ?mK3 ?eK3 ?nK3 ?bK3 ?aK4 ?lK4 ?cK4 ?kK4 ?aK5 ?lK5 ?cK5 ?kK5 ?aK6 ?lK6 ?cK6 ?kK6 ?aU1 ?lU1 ?cU1 ?kU1 ?hU1 ?mU1 ?eU1 ?nU1 ?bU1 ?aU2 ?lU2 ?cU2 ?kU2 ?aU3 ?lU3 ?cU3 ?kU3 ?aU4 ?lU4 ?cU4 ?kU4 ?aU5 ?lU5 ?cU5 ?kU5 ?aV1 ?lV1 ?cV1 ?kV1 ?aV2 ?lV2 ?cV2 ?kV2 ?aV3 ?lV3 ?cV3 ?kV3 ?aV4 ?lV4 ?cV4 ?kV4 ?aZ ?lZ ?cZ ?kZ ?aCW ?aW1 ?iW1 ?lW1 ?cW1 ?kW1 ?aW2 ?iW2 ?lW2 ?cW2 ?kW2 ?pgCW ?hdCW ?poCW ?saCW ?mkCW ?kcCW ?naCW0 ?naCW1 ?aCP ?aP1 ?iP1 ?lP1 ?cP1 ?kP1 ?aP2 ?iP2 ?lP2 ?cP2 ?kP2 ?aP3 ?iP3 ?lP3 ?cP3 ?kP3 ?hP3 ?mP3 ?eP3 ?nP3 ?bP3 ?aP4 ?iP4 ?lP4 ?cP4 ?kP4 ?hP4 ?mP4 ?eP4 ?nP4 ?bP4 ?pgCP ?hdCP ?poCP ?saCP ?mkCP ?kcCP ?naCP0 ?naCP1 ?naCP2 ?naCP3 ?z_len ?z_abs ?z_int ?z_range ?z_max ?z_min ?z_list ?z_tuple ?z_sorted ?z_set ?z_enumerate ?z_zip ?z_sum ?z_repr ?z_any ?z_isinstance ?z_bool ?z_str ?z_all ?rE ?rL ?rK ?rw ?re0 ?r0t ?r0v ?re1 ?r1t ?r1v ?re2 ?r2t ?r2v ?re3 ?r3t ?r3v ?re4 ?r4t ?r4v ?re5 ?r5t ?r5v ?re6 ?r6t ?r6v ?re7 ?r7t ?r7v ?re8 ?r8t ?r8v ?re9 ?r9t ?r9v ?re10 ?r10t ?r10v ?re11 ?r11t ?r11v ?eE ?eL ?eK ?ew ?ee0 ?e0t ?e0v ?ee1 ?e1t ?e1v ?ee2 ?e2t ?e2v ?no_e0 ?no_e1 ?no_e2 ?no_e3 ?no_e4 ?no_e5 ?no_e6 ?no_e7 ?no_e8 ?no_e9 ?no_e10 ?no_e11 ?no_r0 ?no_r1 ?no_r2 ?no_eb ?no_rb ?sE ?st ?sv ?yE ?yt ?yv ?cE ?cL ?cK ?dE__ ?dL ?dK ?c_number ?c_row ?c_block ?c_place ?c_parts ?c_rooms ?d_number ?d_place ?d_row ?d_block ?d_parts ?d_rooms ?g_FIGURES ?g_LONGEST ?g_GREATEST_NUMBER ?g_LAST_PLACE ?hTs
    (case aL1 => k_is)
    (case lL1 => k_is)
    (case cL1 => k_is)
    (case kL1 => k_is)
    (case aL2 => k_is)
    (case lL2 => k_is)
    (case cL2 => k_is)
    (case kL2 => k_is)
    (case aL3 => k_is)
    (case lL3 => k_is)
    (case cL3 => k_is)
    (case kL3 => k_is)
    (case aL4 => k_is)
    (case lL4 => k_is)
    (case cL4 => k_is)
    (case kL4 => k_is)
    (case aL5 => k_is)
    (case lL5 => k_is)
    (case cL5 => k_is)
    (case kL5 => k_is)
    (case aL6 => k_is)
    (case lL6 => k_is)
    (case cL6 => k_is)
    (case kL6 => k_is)
    (case aL7 => k_is)
    (case lL7 => k_is)
    (case cL7 => k_is)
    (case kL7 => k_is)
    (case aT1 => k_is)
    (case lT1 => k_is)
    (case cT1 => k_is)
    (case kT1 => k_is)
    (case aT2 => k_is)
    (case lT2 => k_is)
    (case cT2 => k_is)
    (case kT2 => k_is)
    (case aT3 => k_is)
    (case lT3 => k_is)
    (case cT3 => k_is)
    (case kT3 => k_is)
    (case aT4 => k_is)
    (case lT4 => k_is)
    (case cT4 => k_is)
    (case kT4 => k_is)
    (case aN1 => k_is)
    (case lN1 => k_is)
    (case cN1 => k_is)
    (case kN1 => k_is)
    (case aN2 => k_is)
    (case lN2 => k_is)
    (case cN2 => k_is)
    (case kN2 => k_is)
    (case aN3 => k_is)
    (case lN3 => k_is)
    (case cN3 => k_is)
    (case kN3 => k_is)
    (case aN4 => k_is)
    (case lN4 => k_is)
    (case cN4 => k_is)
    (case kN4 => k_is)
    (case aC1 => k_is)
    (case lC1 => k_is)
    (case cC1 => k_is)
    (case kC1 => k_is)
    (case aC2 => k_is)
    (case lC2 => k_is)
    (case cC2 => k_is)
    (case kC2 => k_is)
    (case aC3 => k_is)
    (case lC3 => k_is)
    (case cC3 => k_is)
    (case kC3 => k_is)
    (case aC4 => k_is)
    (case lC4 => k_is)
    (case cC4 => k_is)
    (case kC4 => k_is)
    (case aC5 => k_is)
    (case lC5 => k_is)
    (case cC5 => k_is)
    (case kC5 => k_is)
    (case aH1 => k_is)
    (case lH1 => k_is)
    (case cH1 => k_is)
    (case kH1 => k_is)
    (case aH2 => k_is)
    (case lH2 => k_is)
    (case cH2 => k_is)
    (case kH2 => k_is)
    (case aH3 => k_is)
    (case lH3 => k_is)
    (case cH3 => k_is)
    (case kH3 => k_is)
    (case hH3 => exact rfl)
    (case mH3 => k_is)
    (case eH3 => exact rfl)
    (case nH3 => first | rfl | decide | kernel_rfl)
    (case bH3 => exact ⟨PySem.W.codeHd_of_K (c := 214) (P := 210) KX (by kernel_rfl), PySem.W.km_tabs_of Y 210 (by simp)⟩)
    (case aH4 => k_is)
    (case lH4 => k_is)
    (case cH4 => k_is)
    (case kH4 => k_is)
    (case hH4 => exact rfl)
    (case mH4 => k_is)
    (case eH4 => exact rfl)
    (case nH4 => first | rfl | decide | kernel_rfl)
    (case bH4 => exact ⟨PySem.W.codeHd_of_K (c := 221) (P := 217) KX (by kernel_rfl), PySem.W.km_tabs_of Y 217 (by simp)⟩)
    (case aH5 => k_is)
    (case lH5 => k_is)
    (case cH5 => k_is)
    (case kH5 => k_is)
    (case aH6 => k_is)
    (case lH6 => k_is)
    (case cH6 => k_is)
    (case kH6 => k_is)
    (case aH7 => k_is)
    (case lH7 => k_is)
    (case cH7 => k_is)
    (case kH7 => k_is)
    (case aH8 => k_is)
    (case lH8 => k_is)
    (case cH8 => k_is)
    (case kH8 => k_is)
    (case aH9 => k_is)
    (case lH9 => k_is)
    (case cH9 => k_is)
    (case kH9 => k_is)
    (case hH9 => exact rfl)
    (case mH9 => k_is)
    (case eH9 => exact rfl)
    (case nH9 => first | rfl | decide | kernel_rfl)
    (case bH9 => exact ⟨PySem.W.codeHd_of_K (c := 257) (P := 253) KX (by kernel_rfl), PySem.W.km_tabs_of Y 253 (by simp)⟩)
    (case aHA => k_is)
    (case lHA => k_is)
    (case cHA => k_is)
    (case kHA => k_is)
    (case hHA => exact rfl)
    (case mHA => k_is)
    (case eHA => exact rfl)
    (case nHA => first | rfl | decide | kernel_rfl)
    (case bHA => exact ⟨PySem.W.codeHd_of_K (c := 264) (P := 260) KX (by kernel_rfl), PySem.W.km_tabs_of Y 260 (by simp)⟩)
    (case aJ1 => k_is)
    (case lJ1 => k_is)
    (case cJ1 => k_is)
    (case kJ1 => k_is)
    (case aJ2 => k_is)
    (case lJ2 => k_is)
    (case cJ2 => k_is)
    (case kJ2 => k_is)
    (case aJ3 => k_is)
    (case lJ3 => k_is)
    (case cJ3 => k_is)
    (case kJ3 => k_is)
    (case aJ4 => k_is)
    (case lJ4 => k_is)
    (case cJ4 => k_is)
    (case kJ4 => k_is)
    (case aJ5 => k_is)
    (case lJ5 => k_is)
    (case cJ5 => k_is)
    (case kJ5 => k_is)
    (case aK1 => k_is)
    (case lK1 => k_is)
    (case cK1 => k_is)
    (case kK1 => k_is)
    (case aK2 => k_is)
    (case lK2 => k_is)
    (case cK2 => k_is)
    (case kK2 => k_is)
    (case hK2 => exact rfl)
    (case mK2 => k_is)
    (case eK2 => exact rfl)
    (case nK2 => first | rfl | decide | kernel_rfl)
    (case bK2 => exact ⟨PySem.W.codeHd_of_K (c := 320) (P := 316) KX (by kernel_rfl), PySem.W.km_tabs_of Y 316 (by simp)⟩)
    (case aK3 => k_is)
    (case lK3 => k_is)
    (case cK3 => k_is)
    (case kK3 => k_is)
    (case hK3 => exact rfl)
    (case mK3 => k_is)
    (case eK3 => exact rfl)
    (case nK3 => first | rfl | decide | kernel_rfl)
    (case bK3 => exact ⟨PySem.W.codeHd_of_K (c := 327) (P := 323) KX (by kernel_rfl), PySem.W.km_tabs_of Y 323 (by simp)⟩)
    (case aK4 => k_is)
    (case lK4 => k_is)
    (case cK4 => k_is)
    (case kK4 => k_is)
    (case aK5 => k_is)
    (case lK5 => k_is)
    (case cK5 => k_is)
    (case kK5 => k_is)
    (case aK6 => k_is)
    (case lK6 => k_is)
    (case cK6 => k_is)
    (case kK6 => k_is)
    (case aU1 => k_is)
    (case lU1 => k_is)
    (case cU1 => k_is)
    (case kU1 => k_is)
    (case hU1 => exact rfl)
    (case mU1 => k_is)
    (case eU1 => exact rfl)
    (case nU1 => first | rfl | decide | kernel_rfl)
    (case bU1 => exact ⟨PySem.W.codeHd_of_K (c := 355) (P := 351) KX (by kernel_rfl), PySem.W.km_tabs_of Y 351 (by simp)⟩)
    (case aU2 => k_is)
    (case lU2 => k_is)
    (case cU2 => k_is)
    (case kU2 => k_is)
    (case aU3 => k_is)
    (case lU3 => k_is)
    (case cU3 => k_is)
    (case kU3 => k_is)
    (case aU4 => k_is)
    (case lU4 => k_is)
    (case cU4 => k_is)
    (case kU4 => k_is)
    (case aU5 => k_is)
    (case lU5 => k_is)
    (case cU5 => k_is)
    (case kU5 => k_is)
    (case aV1 => k_is)
    (case lV1 => k_is)
    (case cV1 => k_is)
    (case kV1 => k_is)
    (case aV2 => k_is)
    (case lV2 => k_is)
    (case cV2 => k_is)
    (case kV2 => k_is)
    (case aV3 => k_is)
    (case lV3 => k_is)
    (case cV3 => k_is)
    (case kV3 => k_is)
    (case aV4 => k_is)
    (case lV4 => k_is)
    (case cV4 => k_is)
    (case kV4 => k_is)
    (case aZ => k_is)
    (case lZ => k_is)
    (case cZ => k_is)
    (case kZ => k_is)
    (case aCW => k_is)
    (case aW1 => k_is)
    (case iW1 => k_is)
    (case lW1 => k_is)
    (case cW1 => k_is)
    (case kW1 => k_is)
    (case aW2 => k_is)
    (case iW2 => k_is)
    (case lW2 => k_is)
    (case cW2 => k_is)
    (case kW2 => k_is)
    (case pgCW => k_is)
    (case hdCW => k_is)
    (case poCW => k_is)
    (case saCW => k_is)
    (case mkCW => k_is)
    (case kcCW => k_is)
    (case naCW0 => k_is)
    (case naCW1 => k_is)
    (case aCP => k_is)
    (case aP1 => k_is)
    (case iP1 => k_is)
    (case lP1 => k_is)
    (case cP1 => k_is)
    (case kP1 => k_is)
    (case aP2 => k_is)
    (case iP2 => k_is)
    (case lP2 => k_is)
    (case cP2 => k_is)
    (case kP2 => k_is)
    (case aP3 => k_is)
    (case iP3 => k_is)
    (case lP3 => k_is)
    (case cP3 => k_is)
    (case kP3 => k_is)
    (case hP3 => exact rfl)
    (case mP3 => k_is)
    (case eP3 => exact rfl)
    (case nP3 => first | rfl | decide | kernel_rfl)
    (case bP3 => exact ⟨PySem.W.codeHd_of_K (c := 292) (P := 288) KX (by kernel_rfl), PySem.W.km_tabs_of Y 288 (by simp)⟩)
    (case aP4 => k_is)
    (case iP4 => k_is)
    (case lP4 => k_is)
    (case cP4 => k_is)
    (case kP4 => k_is)
    (case hP4 => exact rfl)
    (case mP4 => k_is)
    (case eP4 => exact rfl)
    (case nP4 => first | rfl | decide | kernel_rfl)
    (case bP4 => exact ⟨PySem.W.codeHd_of_K (c := 299) (P := 295) KX (by kernel_rfl), PySem.W.km_tabs_of Y 295 (by simp)⟩)
    (case pgCP => k_is)
    (case hdCP => k_is)
    (case poCP => k_is)
    (case saCP => k_is)
    (case mkCP => k_is)
    (case kcCP => k_is)
    (case naCP0 => k_is)
    (case naCP1 => k_is)
    (case naCP2 => k_is)
    (case naCP3 => k_is)
    (case z_len => k_is)
    (case z_abs => k_is)
    (case z_int => k_is)
    (case z_range => k_is)
    (case z_max => k_is)
    (case z_min => k_is)
    (case z_list => k_is)
    (case z_tuple => k_is)
    (case z_sorted => k_is)
    (case z_set => k_is)
    (case z_enumerate => k_is)
    (case z_zip => k_is)
    (case z_sum => k_is)
    (case z_repr => k_is)
    (case z_any => k_is)
    (case z_isinstance => k_is)
    (case z_bool => k_is)
    (case z_str => k_is)
    (case z_all => k_is)
    (case rE => k_is)
    (case rL => k_is)
    (case rK => k_keys)
    (case rw => first | rfl | decide)
    (case re0 => k_is)
    (case r0t => k_is)
    (case r0v => exact .cons ⟨_, rfl⟩ .nil)
    (case re1 => k_is)
    (case r1t => k_is)
    (case r1v => exact .cons ⟨_, rfl⟩ .nil)
    (case re2 => k_is)
    (case r2t => k_is)
    (case r2v => exact .cons ⟨_, rfl⟩ (.cons ⟨_, rfl⟩ .nil))
    (case re3 => k_is)
    (case r3t => k_is)
    (case r3v => exact .cons ⟨_, rfl⟩ (.cons ⟨_, rfl⟩ .nil))
    (case re4 => k_is)
    (case r4t => k_is)
    (case r4v => exact .cons ⟨_, rfl⟩ (.cons ⟨_, rfl⟩ .nil))
    (case re5 => k_is)
    (case r5t => k_is)
    (case r5v => exact .cons ⟨_, rfl⟩ (.cons ⟨_, rfl⟩ .nil))
    (case re6 => k_is)
    (case r6t => k_is)
    (case r6v => exact .cons ⟨_, rfl⟩ (.cons ⟨_, rfl⟩ .nil))
    (case re7 => k_is)
    (case r7t => k_is)
    (case r7v => exact .cons ⟨_, rfl⟩ (.cons ⟨_, rfl⟩ .nil))
    (case re8 => k_is)
    (case r8t => k_is)
    (case r8v => exact .cons ⟨_, rfl⟩ .nil)
    (case re9 => k_is)
    (case r9t => k_is)
    (case r9v => exact .cons ⟨_, rfl⟩ (.cons ⟨_, rfl⟩ .nil))
    (case re10 => k_is)
    (case r10t => k_is)
    (case r10v => exact .cons ⟨_, rfl⟩ (.cons ⟨_, rfl⟩ (.cons ⟨_, rfl⟩ .nil)))
    (case re11 => k_is)
    (case r11t => k_is)
    (case r11v => exact .cons ⟨_, rfl⟩ .nil)
    (case eE => k_is)
    (case eL => k_is)
    (case eK => k_keys)
    (case ew => first | rfl | decide)
    (case ee0 => k_is)
    (case e0t => k_is)
    (case e0v => exact .cons ⟨_, rfl⟩ .nil)
    (case ee1 => k_is)
    (case e1t => k_is)
    (case e1v => exact .cons ⟨_, rfl⟩ (.cons ⟨_, rfl⟩ (.cons ⟨_, rfl⟩ .nil)))
    (case ee2 => k_is)
    (case e2t => k_is)
    (case e2v => exact .nil)
    (case no_e0 => k_is)
    (case no_e1 => k_is)
    (case no_e2 => k_is)
    (case no_e3 => k_is)
    (case no_e4 => k_is)
    (case no_e5 => k_is)
    (case no_e6 => k_is)
    (case no_e7 => k_is)
    (case no_e8 => k_is)
    (case no_e9 => k_is)
    (case no_e10 => k_is)
    (case no_e11 => k_is)
    (case no_r0 => k_is)
    (case no_r1 => k_is)
    (case no_r2 => k_is)
    (case no_eb => k_is)
    (case no_rb => k_is)
    (case sE => k_is)
    (case st => k_is)
    (case sv => exact .cons ⟨_, rfl⟩ (.cons ⟨_, rfl⟩ .nil))
    (case yE => k_is)
    (case yt => k_is)
    (case yv => exact .cons ⟨_, rfl⟩ (.cons ⟨_, rfl⟩ .nil))
    (case cE => k_is)
    (case cL => k_is)
    (case cK => k_keys)
    (case dE__ => k_is)
    (case dL => k_is)
    (case dK => k_keys)
    (case c_number => k_is)
    (case c_row => k_is)
    (case c_block => k_is)
    (case c_place => k_is)
    (case c_parts => k_is)
    (case c_rooms => k_is)
    (case d_number => k_is)
    (case d_place => k_is)
    (case d_row => k_is)
    (case d_block => k_is)
    (case d_parts => k_is)
    (case d_rooms => k_is)
    (case g_FIGURES => k_is)
    (case g_LONGEST => k_is)
    (case g_GREATEST_NUMBER => k_is)
    (case g_LAST_PLACE => k_is)
    (case hTs => unfold Gn.TsOk; decide)
