import PyProof.Rows.All
import Wide.All
import OpenK.AllK
import Wide.FinOn
import HandS.Base
import HandS.Call
import HandS.List
import HandS.Dict
import HandS.Sort
import HandS.SortOrd
import HandS.SortRule
import PyProof.Rows.SortShellAny
import HandS.Set
import HandS.SetFor
import HandS.Zip0
import HandS.Comp
import HandS.Walk
import HandS.Words
import HandS.ForMost
import HandS.IsInst
import HandS.Zip
import HandS.Star
import HandS.Flow
import HandS.NoneIn
import HandS.TupAny
import HandS.Deep
import HandS.Conv
import HandS.DictComp
import HandS.Defaults
import KE.SortData
import HandS.Style
import HandS.ForList
import PySem.Challenge.RW_crosshomes_k18_the_least_swaps
import HandS.Evl
import KE.KSortTup
import PyProof.StrOps
import HandS.Iter
import PyProof.CollectStr
set_option Elab.async false
set_option linter.all false
set_option maxRecDepth 100000
set_option maxHeartbeats 1000000
/-! sorted of rows (a text and one more object each) whose texts part -/
namespace Cx
open PySem PySem.Spec PyProof.Rows L2
/-- texts in Python's order -/
def sLt (a b : Str) : Bool := decide (a.cps.toList < b.cps.toList)
theorem str_ext {a b : Str} (h : a.cps.toList = b.cps.toList) : a = b := by
  cases a
  cases b
  simp only [Str.mk.injEq]
  exact Array.toList_inj.mp h
theorem sLt_swo {α : Type} (k : α → Str) : SrtO.Swo fun x y => sLt (k x) (k y) := by
  refine ⟨fun x y h => ?_, fun x y z h1 h2 => ?_⟩
  · have a := of_decide_eq_true h
    exact decide_eq_false (List.lt_asymm a)
  · have a := List.not_lt.mp (of_decide_eq_false h1)
    have b := List.not_lt.mp (of_decide_eq_false h2)
    exact decide_eq_false (List.not_lt.mpr (List.le_trans a b))
/-- a tuple of a text and an object -/
def RowV (h : Heap) (v : Value) (n : Str) (t : Addr) : Prop :=
  ∃ a o tk c, v = Value.ref a ∧ h.get? a = some o ∧ o.cls = .type "tuple" ∧ o.data = .seq #[Value.str n tk, Value.ref t] c
theorem RowV.keeps {h h' : Heap} {v : Value} {n : Str} {t : Addr} (x : RowV h v n t) (k : ∀ b o, h.get? b = some o → o.cls = .type "tuple" → h'.get? b = some o) : RowV h' v n t := by
  obtain ⟨a, o, tk, c, e, ho, hc, hd⟩ := x
  exact ⟨a, o, tk, c, e, k a o ho hc, hc, hd⟩
section
variable {prog : Program} {w : World} {A : Around} {E : Value → Shared → Prop} {s : Shared}
theorem rows_cmp {vs : List Value} {k : Value → Str} {t : Value → Addr} (hp : ∀ v ∈ vs, RowV s.heap v (k v) (t v)) (one : ∀ v ∈ vs, ∀ u ∈ vs, k v = k u → t v = t u) :
    SrtO.Cmp prog w A s (tuples' true) (fun p => p.1 ∈ vs) (SrtO.lt2 fun v u => sLt (k v) (k u)) := by
  intro p q hm hm'
  have h1 := hp _ hm
  have h2 := hp _ hm'
  have h3 := one _ hm _ hm'
  show wpAny (model prog w) A (keyLt' (tuples' true) p.1 q.1) (fun r s' => s' = s ∧ r = sLt (k p.1) (k q.1)) (fun _ _ => False) s
  generalize k p.1 = x at h1 h3 ⊢
  generalize k q.1 = y at h2 h3 ⊢
  generalize t p.1 = m at h1 h3
  generalize t q.1 = n at h2 h3
  obtain ⟨a, o, t1, c1, e, ho, _, hd⟩ := h1
  obtain ⟨b, o2, t2, c2, e', ho', _, hd'⟩ := h2
  rw [e, e']
  refine PySem.W.kat_lt ho hd ho' hd' ?_
  show PySem.W.KatLex prog w A true (decide (2 < 2)) _ [(Value.str x t1, Value.str y t2), (Value.ref m, Value.ref n)] 0 s
  refine PySem.W.kat_cons (SeqAt.EqAt.str_str x t1 y t2 prog w _ _ ?_)
  refine PySem.W.kat_go (fun e1 => ?_) (fun e1 => ?_)
  · have ex : x = y := by simpa using e1
    have em := h3 ex
    subst ex
    subst em
    refine PySem.W.kat_yes (PySem.W.kat_cons (SeqAt.EqAt.same _ prog w _ _ ?_))
    refine PySem.W.kat_yes (PySem.W.kat_nil ⟨rfl, ?_⟩)
    exact (decide_eq_false (List.lt_irrefl _)).symm
  · exact PySem.W.kat_no (oneLt_str ⟨rfl, rfl⟩)
theorem rows_firsts {h : Heap} : ∀ {vs : List Value}, (∀ v ∈ vs, ∃ n t, RowV h v n t) → ∃ fs, PySem.W.KatTups h vs fs ∧ fs.length = vs.length ∧ ∀ f ∈ fs, ∃ x u, f = Value.str x u
  | [], _ => ⟨[], PySem.W.KatTups.nil, rfl, fun _ q => nomatch q⟩
  | v :: vs, hv => by
    obtain ⟨n, t, a, o, tk, c, e, ho, hc, hd⟩ := hv v List.mem_cons_self
    obtain ⟨fs, h1, h2, h3⟩ := rows_firsts (vs := vs) fun u hu => hv u (List.mem_cons_of_mem _ hu)
    subst e
    refine ⟨Value.str n tk :: fs, PySem.W.KatTups.cons ho hc hd rfl h1, congrArg (· + 1) h2, fun f hf => ?_⟩
    rcases List.mem_cons.mp hf with q | q
    · exact ⟨n, tk, q⟩
    · exact h3 f q
theorem rows_sortable {a : Addr} {vs : List Value} {k : Value → Str} {t : Value → Addr} (h0 : 0 < vs.length) (hp : ∀ v ∈ vs, RowV s.heap v (k v) (t v)) (one : ∀ v ∈ vs, ∀ u ∈ vs, k v = k u → t v = t u)
    (ha : ∀ o, s.heap.get? a = some o → o.cls ≠ .type "tuple") : SrtO.SortableO prog w A s a vs fun v u => sLt (k v) (k u) := by
  intro h' keep
  have hp' : ∀ v ∈ vs, RowV h' v (k v) (t v) := fun v hm => (hp v hm).keeps fun b o e c => keep b o (fun z => ha o (z ▸ e) c) e
  obtain ⟨fs, h1, h2, h3⟩ := rows_firsts fun v hm => ⟨_, _, hp' v hm⟩
  refine ⟨tuples' true, fun Q E hq => ?_, rows_cmp hp' one⟩
  refine PySem.W.kat_kind (T := .type "str") h1 (by omega) (fun f hm => ?_) (by rfl) ?_
  · obtain ⟨x, u, rfl⟩ := h3 f hm
    exact PySem.W.Looks.now
  · have e : (Value.type "str" != Value.type "tuple") = true := by decide +kernel
    rw [e]
    exact hq
theorem sorted_rows {l : Addr} {vs : List Value} {k : Value → Str} {t : Value → Addr} {Q : Value → Shared → Prop} (hl : s.heap.IsList l vs.toArray) (hz : vs.length ≤ sizeLine) (hp : ∀ v ∈ vs, RowV s.heap v (k v) (t v))
    (one : ∀ v ∈ vs, ∀ u ∈ vs, k v = k u → t v = t u)
    (h : ∀ (h' : Heap) (d : Addr) (out : List Value), SrtO.Srtd (fun v u => sLt (k v) (k u)) out → out.Perm vs → (∀ b o, s.heap.get? b = some o → h'.get? b = some o) → s.heap.objs.size ≤ d → (∃ n, h'.get? d = some (seqObj "list" out.toArray n)) → Q (.ref d) { s with heap := h' }) :
    wpAny (model prog w) A (call (.builtin "sorted") [.ref l]) Q E s := by
  refine SrtO.sorted_ord (sLt_swo k) hl hz (fun h2 g a ha kk => ?_) fun out hs hb => ?_
  · refine rows_sortable (s := { s with heap := g }) (by omega) (fun v hm => (hp v hm).keeps fun b o e _ => (kk b o e).2) one fun o e => ?_
    have e' : some o = some (seqObj "list" vs.toArray 0) := e.symm.trans ha
    cases e'
    intro c
    exact absurd (Value.type.inj c) (by decide)
  · exact h _ _ out hs hb.perm (fun b o e => sortedAll_old e) (Nat.le_succ _) (sortedAll_at s.heap vs out.toArray)
end
/-- sorted(xs) of such rows: a new list, in rising order of their texts -/
def rSortedRows (K : PySem.W.Frag) : List V → Hp → VK → Prop := fun vs H Q => ∃ (a : Addr) (xs : List V) (k : V → Str) (t : V → Addr), vs = [V.ref a] ∧ SqL K H a xs ∧
  (∀ x ∈ xs, ∃ p, x = V.ref p ∧ H p = some (.tup [.str (k x), .ref (t x)])) ∧ (∀ x ∈ xs, ∀ y ∈ xs, k x = k y → t x = t y) ∧
  ∀ ys p, ys.Perm xs → ys.Pairwise (fun x y => sLt (k y) (k x) = false) → H p = none → Q (.ref p) (upd H p (.lst ys))
section
variable {X : Cx}
theorem cr_sortedRows : CallR X (.builtin "sorted") (rSortedRows X.K) := by
  intro pins s σ H vs us Q I r h
  obtain ⟨a, xs, k, t, rfl, hs, hx, one, q⟩ := h
  obtain ⟨its, rv, hl, hz⟩ := I.list hs
  obtain ⟨u, rfl, ru⟩ := vals1 r
  obtain rfl : u = Value.ref a := ru
  obtain ⟨e1, e2⟩ := refs_back rv fun x m => by
    obtain ⟨p, e, _⟩ := hx x m
    exact ⟨p, e⟩
  have inn : ∀ v ∈ its, backV v ∈ xs := fun v hv => by
    rw [e1]
    exact List.mem_map.mpr ⟨v, hv, rfl⟩
  refine sorted_rows (k := fun u => k (backV u)) (t := fun u => t (backV u)) hl.isList (by rw [← rv.length]; exact hz) (fun v hv => ?_) (fun v hv u hu e => one _ (inn v hv) _ (inn u hu) e) fun h' d out h1 h2 kp hd hn => ?_
  · obtain ⟨p, rfl⟩ := e2 v hv
    obtain ⟨p', e, ht⟩ := hx _ (inn _ hv)
    cases e
    obtain ⟨_, its2, r2, o, ho, hc, n, hd⟩ := I.hok _ _ ht
    obtain ⟨u1, u2, rfl, ri, rj⟩ := vals2 r2
    obtain ⟨t1, rfl⟩ := ri
    obtain rfl : u2 = Value.ref _ := rj
    exact ⟨p, o, t1, n, rfl, ho, hc, hd⟩
  · have h3 : ∀ u ∈ out, ∃ a, u = Value.ref a := fun u hu => e2 u (h2.mem_iff.mp hu)
    obtain ⟨n, hn⟩ := hn
    have hb : (out.map backV).Perm xs := by
      rw [e1]
      exact h2.map backV
    refine ⟨.ref d, upd H d (.lst (out.map backV)), I.laid (t' := s.toks) kp hd ⟨?_, out, n, vals_back h3, hn⟩, rfl, q _ d hb (List.pairwise_map.mpr h1) (I.hok.fresh hd)⟩
    rw [hb.length_eq]
    exact hz
end
end Cx

/-! sorted of a tuple of texts -/
namespace Cx
open PySem PySem.Spec PyProof.Rows L2
section
variable {prog : Program} {w : World} {A : Around} {E : Value → Shared → Prop} {s : Shared}
theorem collect_tup {l : Addr} {vs : List Value} {Q : List Value → Shared → Prop} (hl : s.heap.IsTuple l vs.toArray) (hz : vs.length ≤ sizeLine)
    (h : Q vs { s with heap := (s.heap.push (seqObj "list" #[] 0)).update s.heap.objs.size (Obj.mapSeq (· ++ vs.toArray)) }) : wpAny (model prog w) A (collect (.ref l)) Q E s := by
  obtain ⟨o, ho, hc, n, hd⟩ := id hl
  have ho' : (s.heap.push (seqObj "list" #[] 0)).get? l = some o := Heap.get?_push_of_some _ ho
  unfold collect
  refine wpAny_bind (wpAny_runValue (codeAny_builtin entry_proto_collect' ?_))
  show wpAny _ _ (do again (.builtin "list.__iadd__" ⟨[← newList [], .ref l], []⟩)) _ _ s
  refine wpAny_bind (wpAny_newList (wpAny_pure ⟨Code.quiet_builtin _ (by decide +kernel), codeAny_builtin entry_list_iadd' ?_⟩))
  show wpAny _ _ (Builtin.List.listExtendWith (.ref s.heap.objs.size) (.ref l) (.ref s.heap.objs.size)) _ _ { s with heap := s.heap.push (seqObj "list" #[] 0) }
  unfold Builtin.List.listExtendWith
  refine wpAny_bind (wpAny_typeOf (T := "tuple") ⟨o, ho', hc⟩ ?_)
  have e1 : (Value.type "tuple" == Value.type "tuple") = true := by rfl
  rw [if_pos (by rw [e1, Bool.or_true])]
  refine wpAny_bind (listItems_at ho' hd ?_)
  refine wpAny_bind (listItems_at (xs := #[]) (n := 0) (Heap.get?_push_size _ rfl) rfl ?_)
  rw [if_neg (by simp)]
  refine wpAny_bind (listUpdate_at (xs := #[]) (n := 0) (Heap.get?_push_size _ rfl) rfl ?_ (Nat.zero_le _) (by simp only [Array.size_append, List.size_toArray, List.length_nil]; omega))
  refine wpAny_pure ?_
  show wpAny (model prog w) A (do
      let o ← load s.heap.objs.size
      match o.data with
      | .seq xs _ => pure xs.toList
      | _ => unsupported "internal:collect") Q E { s with heap := (s.heap.push (seqObj "list" #[] 0)).update s.heap.objs.size (Obj.mapSeq (· ++ vs.toArray)) }
  refine wpAny_bind (wpAny_load (get?_update_seq (Heap.get?_push_size _ rfl) _) ?_)
  show wpAny _ _ (pure ((#[] : Array Value) ++ vs.toArray).toList) Q E _
  rw [show ((#[] : Array Value) ++ vs.toArray).toList = vs by simp]
  exact wpAny_pure h
theorem sorted_tupS {l : Addr} {vs : List Value} {ss : List Str} {Q : Value → Shared → Prop} (hl : s.heap.IsTuple l vs.toArray) (hS : StrsAre vs ss) (hz : vs.length ≤ sizeLine)
    (h : ∀ (out : Array Value) (ys : List Str), StrsAre out.toList ys → ys.Perm ss → sortedS ys = true → Q (.ref (s.heap.objs.size + 1)) { s with heap := sortedAll s.heap vs out }) :
    wpAny (model prog w) A (call (.builtin "sorted") [.ref l]) Q E s := by
  refine Calls.call_function_entry kind_sorted plain_sorted entry_sorted (args_sorted1 _) ?_
  unfold Builtin.«sorted»
  refine wpAny_bind (m := checkCount "sorted" 1 1 _) (wpAny_pure ?_)
  refine wpAny_bind (collect_tup hl hz ?_)
  refine wpAny_bind (wpAny_newList ?_ hz)
  have sz : ((s.heap.push (seqObj "list" #[] 0)).update s.heap.objs.size (Obj.mapSeq (· ++ vs.toArray))).objs.size = s.heap.objs.size + 1 := by
    rw [Heap.size_update, size_push']
  have hoL : (((s.heap.push (seqObj "list" #[] 0)).update s.heap.objs.size (Obj.mapSeq (· ++ vs.toArray))).push (seqObj "list" vs.toArray 0)).get? (s.heap.objs.size + 1) = some (seqObj "list" vs.toArray 0) := by
    rw [← sz]
    exact Heap.get?_push_size _ rfl
  show wpAny _ _ _ _ _ { s with heap := ((s.heap.push (seqObj "list" #[] 0)).update s.heap.objs.size (Obj.mapSeq (· ++ vs.toArray))).push (seqObj "list" vs.toArray 0) }
  rw [sz]
  refine wpAny_bind (wpAny_holding (wpAny_call_entry slot_list_sort ⟨_, hoL, rfl⟩ entry_list_sort (list_sort_treeKAny strKind_oneLt hoL hS.keysOf (fun u v rest e => keyKind_strs (by rw [← e]; exact hS)) hz fun st pa sa => ?_) (args_list_sort _)))
  obtain ⟨ys, b1, b2, b3⟩ := sorted_out_str hS pa sa
  exact ⟨_, rfl, wpAny_pure ⟨_, rfl, h _ ys b1 b2 b3⟩⟩
end
/-- sorted(t), t a tuple of texts -/
def rSortTupS (K : PySem.W.Frag) : List V → Hp → VK → Prop := fun vs H Q => ∃ (a : Addr) (xs : List Str), vs = [V.ref a] ∧ SqT K H a (xs.map V.str) ∧
  ∀ (ys : List Str) (p : Addr), ys.Perm xs → sortedS ys = true → H p = none → Q (.ref p) (upd H p (.lst (ys.map V.str)))
section
variable {X : Cx}
theorem cr_sortTupS : CallR X (.builtin "sorted") (rSortTupS X.K) := by
  intro pins s σ H vs us Q I r h
  obtain ⟨a, xs, rfl, hs, q⟩ := h
  obtain ⟨its, rv, hl, hz⟩ := I.tuple hs
  rw [Vals.ref1 r]
  refine sorted_tupS hl rv.strs (by rw [← rv.length]; exact hz) fun out ys h1 h2 h3 => ?_
  obtain ⟨ep, he⟩ := sortedAll_at s.heap its out
  have hlen : (ys.map V.str).length ≤ sizeLine := by
    rw [List.length_map] at hz
    rw [List.length_map, h2.length_eq]
    exact hz
  exact ⟨.ref _, upd H (s.heap.objs.size + 1) (.lst (ys.map V.str)), I.laid (t' := s.toks) (fun _ _ => sortedAll_old) (Nat.le_succ _) ⟨hlen, out.toList, ep, vals_of_strs h1, he⟩, rfl, q ys _ h2 h3 (I.hok.fresh (Nat.le_succ _))⟩
end
end Cx

/-! sets of texts: made of a list, sorted -/
namespace Cx
open PySem PySem.Spec PyProof.Rows L2
def GoodT (w : World) (e : Int × Value) : Prop := ∃ k tk, e.2 = Value.str k tk ∧ e.1 = hashStr w k
/-- the set of texts at a, in the order of its entries -/
structure TxTab (w : World) (es : Array (Int × Value)) (t : SetTable) (L : List Str) : Prop where
  good : ∀ e ∈ es.toList, GoodT w e
  keys : es.toList.map (fun e => strOf e.2) = L
  nd : L.Nodup
  low : es.size < scanBound
  fits : t.fits es.size = true
  ris : Ris t.place.toList
  led : w.params.followText "set-order" = true ∨ t.led = true
def TxSet (w : World) (h : Heap) (a : Addr) (L : List Str) : Prop :=
  ∃ o es ep t, h.get? a = some o ∧ o.ExactSet ∧ o.data = .set es ep t ∧ TxTab w es t L
theorem TxSet.at {w : World} {h h' : Heap} {a : Addr} {L : List Str} (R : TxSet w h a L) (k : ∀ o, h.get? a = some o → h'.get? a = some o) : TxSet w h' a L := by
  obtain ⟨o, es, ep, t, ho, r⟩ := R
  exact ⟨o, es, ep, t, k o ho, r⟩
theorem TxTab.size {w : World} {es : Array (Int × Value)} {t : SetTable} {L : List Str} (R : TxTab w es t L) : es.size = L.length := by
  rw [← R.keys, List.length_map, Array.length_toList]
section
variable {P : Program} {w : World} {A : Around} {E : Value → Shared → Prop} {s : Shared} {a : Addr} {L : List Str}
theorem TxTab.elems {es : Array (Int × Value)} {t : SetTable} (R : TxTab w es t L) : ElemsOf (PySem.strKind P w) es.toList := fun e he => by
  obtain ⟨k, tk, h1, h2⟩ := R.good e he
  refine ⟨⟨k, ?_, h2⟩, ?_⟩
  · rw [h1]
    exact strKind_is P w k tk
  · rw [h1]
    rfl
theorem goodT_is {e : Int × Value} (g : GoodT w e) (k : Str) : (PySem.strKind P w).is k e.2 = true ↔ strOf e.2 = k := by
  obtain ⟨j, tk, h1, _⟩ := g
  rw [h1]
  constructor
  · intro h
    obtain ⟨u, hu⟩ := Value.isStrOf_shape (show Value.isStrOf k (Value.str j tk) = true from h)
    injection hu
  · intro h
    have e : j = k := h
    rw [e]
    exact strKind_is P w k tk
/-- the store at the end of an addition -/
theorem tx_tail {g : Bool → Sem Unit} (hg : ∀ (b : Bool) (s1 : Shared) (R : Unit → Shared → Prop), R () s1 → wpAny (model P w) A (g b) R E s1)
    {o : Obj} {es e1 : Array (Int × Value)} {ep : Nat} {t t1 : SetTable} (ho : s.heap.get? a = some o) (hex : o.ExactSet) (hd : o.data = .set es ep t) (T : TxTab w e1 t1 L) {dm : Bool} {R : Option Bool → Shared → Prop}
    (hR : ∀ h' L', Heap.SameBut a s.heap h' → TxSet w h' a L' → L'.Perm L → R (some true) { s with heap := h' }) :
    wpAny (model P w) A (do
        storeSet a e1 t1
        if (!dm && t1.tooFull) = true then do
            g (relayAll t1 e1 (SetTable.grown e1.size)).2.2
            storeSet a (relayAll t1 e1 (SetTable.grown e1.size)).1 (relayAll t1 e1 (SetTable.grown e1.size)).2.1
            pure (some true)
          else pure (some true)) R E s := by
  have sb := Heap.SameBut.update s.heap a (Obj.putSet e1 t1)
  have h1 := store_at (es' := e1) (t' := t1) ho hd
  refine wpAny_bind (wpAny_storeSet_of ho hd ?_ (fits_of_scanBound T.low))
  by_cases c : (!dm && t1.tooFull) = true
  · rw [if_pos c]
    have q1 := relayAll_perm t1 e1 (SetTable.grown e1.size)
    have q2 := relayAll_fits t1 e1 (SetTable.grown e1.size)
    have q3 := relayAll_ris t1 e1 (SetTable.grown e1.size)
    have q4 := relayAll_led t1 e1 (SetTable.grown e1.size)
    generalize relayAll t1 e1 (SetTable.grown e1.size) = z at q1 q2 q3 q4 ⊢
    obtain ⟨e2, t2, gv⟩ := z
    dsimp only at q1 q2 q3 q4 ⊢
    have zs : e2.size = e1.size := by
      have := q1.length_eq
      rwa [Array.length_toList, Array.length_toList] at this
    have pk := q1.map (fun e : Int × Value => strOf e.2)
    rw [T.keys] at pk
    have T2 : TxTab w e2 t2 (e2.toList.map (fun e => strOf e.2)) :=
      ⟨fun e he => T.good e (q1.mem_iff.mp he), rfl, pk.nodup_iff.mpr T.nd, zs ▸ T.low, q2, q3, T.led.imp id fun y => q4.trans y⟩
    refine wpAny_bind (hg gv _ _ ?_)
    refine wpAny_bind (wpAny_storeSet_of h1 rfl ?_ (fits_of_scanBound T2.low))
    exact wpAny_pure (hR _ _ (sb.trans (Heap.SameBut.update _ a _)) ⟨_, e2, _, t2, store_at h1 rfl, hex, rfl, T2⟩ pk)
  · rw [if_neg c]
    exact wpAny_pure (hR _ L sb ⟨_, e1, _, t1, h1, hex, rfl, T⟩ (List.Perm.refl L))
theorem tx_add {k : Str} {tk : Tok} {Q : Bool → Shared → Prop} (R : TxSet w s.heap a L) (room : L.length + 1 < scanBound)
    (hQ : ∀ b h' L', Heap.SameBut a s.heap h' → TxSet w h' a L' → L'.length ≤ L.length + 1 → (∀ j, j ∈ L' ↔ j ∈ L ∨ j = k) → Q b { s with heap := h' }) :
    wpAny (model P w) A (setAddHashed a (.str k tk) (hashStr w k)) Q E s := by
  obtain ⟨o, es, ep, t, ho, hex, hd, T⟩ := R
  have el : ElemsOf (PySem.strKind P w) es.toList := T.elems
  have hk : (PySem.strKind P w).is k (.str k tk) = true := strKind_is P w k tk
  have hsc : (Value.str k tk).scannable = true := rfl
  have memk : k ∈ L ↔ ∃ e ∈ es.toList, (PySem.strKind P w).is k e.2 = true := by
    rw [← T.keys, List.mem_map]
    exact ⟨fun ⟨e, he, q⟩ => ⟨e, he, (goodT_is (T.good e he) k).2 q⟩, fun ⟨e, he, q⟩ => ⟨e, he, (goodT_is (T.good e he) k).1 q⟩⟩
  show wpAny (model P w) A (setAddHashed a (.str k tk) ((PySem.strKind P w).hash k)) Q E s
  unfold setAddHashed setAddHashedIn
  refine wpAny_holding (wpAny_bind (wpAny_setState_of ho hd T.fits ?_))
  dsimp only
  rw [byScan_of hsc T.low el, if_pos rfl]
  unfold setAddByScan
  refine wpAny_bind (wpAny_bind (wpAny_rule (wpAny_bind (wpAny_setScan_of hk ho hd T.fits el ?_))))
  cases hf : List.findIdx? (fun e => (PySem.strKind P w).is k e.2) es.toList with
  | some j =>
    dsimp only
    obtain ⟨hj, pj, _⟩ := List.findIdx?_eq_some_iff_getElem.mp hf
    have hm : k ∈ L := memk.mpr ⟨es.toList[j], List.getElem_mem hj, pj⟩
    refine wpAny_pure (wpAny_pure (hQ false s.heap L (Heap.SameBut.refl a s.heap) ⟨o, es, ep, t, ho, hex, hd, T⟩ (Nat.le_succ _) fun i => ⟨.inl, fun z => z.elim id fun e => e ▸ hm⟩))
  | none =>
    dsimp only
    have hm : k ∉ L := fun z => by
      obtain ⟨e, he, q⟩ := memk.mp z
      have c := List.findIdx?_eq_none_iff.mp hf e he
      rw [q] at c
      cases c
    have gw : ∀ (b : Bool) (s1 : Shared) (R : Unit → Shared → Prop), R () s1 → wpAny (model P w) A (match b with | true => rule "set.scan.the-table-gave-way" | false => pure ()) R E s1 := fun b s1 R q => by
      cases b
      · exact wpAny_pure q
      · exact wpAny_rule q
    have q1 := layNew_perm t es ((PySem.strKind P w).hash k) (.str k tk)
    have q2 := layNew_fits t es ((PySem.strKind P w).hash k) (.str k tk)
    have q3 := layNew_ris t es ((PySem.strKind P w).hash k) (.str k tk) T.ris
    have q4 := layNew_led t es ((PySem.strKind P w).hash k) (.str k tk)
    generalize layNew t es ((PySem.strKind P w).hash k) (.str k tk) = z at q1 q2 q3 q4 ⊢
    obtain ⟨e1, t1, dm, gv⟩ := z
    dsimp only at q1 q2 q3 q4 ⊢
    rw [Array.toList_push] at q1
    have pc := q1.trans (List.perm_append_singleton _ _)
    have pk := pc.map (fun e : Int × Value => strOf e.2)
    rw [List.map_cons, T.keys] at pk
    have zs : e1.size = L.length + 1 := by
      have z := pc.length_eq
      rwa [List.length_cons, Array.length_toList, Array.length_toList, T.size] at z
    have mk : ∀ t2 : SetTable, t2.fits e1.size = true → Ris t2.place.toList → t2.led = t.led → TxTab w e1 t2 (e1.toList.map (fun e => strOf e.2)) := fun t2 f2 r2 l2 =>
      ⟨fun e he => by
        rcases List.mem_cons.mp (pc.mem_iff.mp he) with y | y
        · exact ⟨k, tk, by rw [y], by rw [y]; rfl⟩
        · exact T.good e y, rfl, pk.nodup_iff.mpr (List.nodup_cons.mpr ⟨hm, T.nd⟩), by rw [zs]; exact room, f2, r2, T.led.imp id fun y => l2.trans y⟩
    have fin : ∀ h' L', Heap.SameBut a s.heap h' → TxSet w h' a L' → L'.Perm (e1.toList.map (fun e => strOf e.2)) → Q true { s with heap := h' } := fun h' L' sb r pm => by
      have pm2 := pm.trans pk
      refine hQ true h' L' sb r (Nat.le_of_eq pm2.length_eq) fun i => ?_
      rw [pm2.mem_iff, List.mem_cons]
      exact Or.comm
    refine wpAny_bind (gw gv _ _ ?_)
    split
    · refine wpAny_bind ?_
      rw [hashByValue_scannable 8 hsc]
      refine wpAny_pure ?_
      refine tx_tail gw ho hex hd (mk _ ?_ ?_ ?_) fun h' L' sb r pm => ?_
      · first | (split <;> first | exact q2 | exact SetTable.fits_plain_off q2) | exact q2 | exact SetTable.fits_plain_off q2
      · first | (split <;> exact q3) | exact q3
      · first | (split <;> exact q4) | exact q4
      · dsimp only
        exact wpAny_pure (fin h' L' sb r pm)
    · refine wpAny_bind (wpAny_pure ?_)
      rw [if_pos rfl]
      refine tx_tail gw ho hex hd (mk _ q2 q3 q4) fun h' L' sb r pm => ?_
      dsimp only
      exact wpAny_pure (fin h' L' sb r pm)
end
end Cx

/-! set(xs) of a list of texts, sorted of such a set -/
namespace Cx
open PySem PySem.Spec PyProof.Rows L2
/-- a set as it is born -/
abbrev bornSet (w : World) : Obj := { cls := .type "set", dict := none, data := .set #[] 0 (.fresh 0 0 (!w.params.followText "set-order")) }
theorem txSet_born {w : World} {h : Heap} {a : Addr} (ho : h.get? a = some (bornSet w)) : TxSet w h a [] := by
  refine ⟨_, #[], 0, _, ho, ⟨rfl, rfl, rfl⟩, rfl, ⟨fun e he => by simp at he, rfl, List.nodup_nil, by decide, rfl, List.Pairwise.nil, ?_⟩⟩
  show _ ∨ (!w.params.followText "set-order") = true
  cases w.params.followText "set-order"
  · exact .inr rfl
  · exact .inl rfl
section
variable {P : Program} {w : World} {A : Around} {E : Value → Shared → Prop} {s : Shared}
theorem tx_update {I : Addr} {fp wr : List Addr} {G : Array GenState → Array GenState → Prop} {n : Nat} {Pv : Nat → Value → Prop} {St : Nat → Shared → Prop} {R : Result → Shared → Prop}
    (W : WalksS P w A.in1 I fp wr G n Pv St) (S : Addr) (nf : S ∉ fp) (xs : List Str) (hn : n = xs.length) (low : n + 1 < scanBound) (val : ∀ i v, Pv i v → ∃ k t, xs[i]? = some k ∧ v = .str k t) :
    ∀ (d i : Nat) (s : Shared), d = n - i → i ≤ n → St i s → (∃ L, TxSet w s.heap S L ∧ L.length ≤ i ∧ ∀ j, j ∈ L ↔ j ∈ xs.take i) →
      (∀ s' L, Moved (S :: wr) G s s' → TxSet w s'.heap S L → L.length ≤ n → (∀ j, j ∈ L ↔ j ∈ xs) → R (.ok (.ret .none)) s') →
      codeAny (model P w) A (.builtin "set.update.loop" ⟨[.ref S, .ref I], []⟩) R s := by
  have nw : S ∉ wr := fun h => nf (W.sub _ h)
  have sub : ∀ b ∈ wr, b ∈ S :: wr := fun b hb => List.mem_cons_of_mem _ hb
  intro d
  induction d with
  | zero =>
    intro i s hd hi st ⟨L, hS, hl, hm⟩ hR
    have e : i = n := by omega
    subst e
    refine codeAny_builtin F.entry_set_update_loop ?_
    rw [Around.under_plainId F.plain_set_update_loop _]
    show wpAny _ A.in1 (pyNext (.ref I) >>= _) _ _ s
    refine wpAny_bind (W.done s _ _ st fun s' mv => ?_)
    show wpAny _ A.in1 (ret Value.none) _ _ s'
    refine wpAny_pure (hR s' L (mv.mono sub) (hS.at fun o q => mv.heap S o nw q) hl fun j => ?_)
    rw [hm j, List.take_of_length_le (by omega)]
  | succ d ih =>
    intro i s hd hi st ⟨L, hS, hl, hm⟩ hR
    have lt : i < n := by omega
    refine codeAny_builtin F.entry_set_update_loop ?_
    rw [Around.under_plainId F.plain_set_update_loop _]
    show wpAny _ A.in1 (pyNext (.ref I) >>= _) _ _ s
    refine wpAny_bind (W.item i s _ _ lt st fun v s' hP st' mv => ?_)
    obtain ⟨z, t, hz, rfl⟩ := val i v hP
    have hS' : TxSet w s'.heap S L := hS.at fun o q => mv.heap S o nw q
    show wpAny _ A.in1 (holding [Value.str z t] (setAdd S (.str z t)) >>= _) _ _ s'
    refine wpAny_bind (wpAny_holding ?_)
    unfold setAdd
    refine wpAny_holding (wpAny_bind ((PySem.strKind P w).pyHash (k := z) (strKind_is _ _ _ _) ?_))
    refine tx_add (s := { s' with toks := s'.toks + 1 }) hS' (by omega) fun b h' L' sb r h1 h2 => ?_
    have mem : ∀ j, j ∈ L' ↔ j ∈ xs.take (i + 1) := fun j => by
      rw [h2 j, hm j, List.take_add_one, hz]
      simp
    refine wpAny_pure ⟨plainId_quiet F.plain_set_update_loop _, ih (i + 1) _ (by omega) lt (W.frame _ s' _ _ st' (Nat.le_succ _) fun b hb o q => ?_) ⟨L', r, by omega, mem⟩ fun s2 L2 mv2 r2 l2 m2 => ?_⟩
    · exact (sb.2 b (fun y : b = S => nf (y ▸ hb))).trans q
    · refine hR s2 L2 (Moved.trans W.gtrans ((mv.mono sub).then_heap (Nat.le_succ _) fun b o hb q => ?_) mv2) r2 l2 m2
      exact (sb.2 b (fun y : b = S => hb (by rw [y]; exact List.mem_cons_self))).trans q
theorem call_set_txs {l : Addr} {items : Array Value} (xs : List Str) {Q : Value → Shared → Prop} (hh : A.handled = none) (hl : s.heap.IsList l items) (hit : StrsAre items.toList xs) (low : xs.length + 1 < scanBound)
    (h : ∀ (h' : Heap) (tk : Nat) (L : List Str), TxSet w h' s.heap.objs.size L → L.length ≤ xs.length → (∀ j, j ∈ L ↔ j ∈ xs) → (∀ b o, s.heap.get? b = some o → h'.get? b = some o) → Q (.ref s.heap.objs.size) { s with heap := h', toks := tk }) :
    wpAny (model P w) A (call (.type "set") [.ref l]) Q E s := by
  have hn : items.size = xs.length := by
    have q := StrsAre.len_eq hit
    rw [Array.length_toList] at q
    omega
  obtain ⟨c, tl, hmro⟩ := F.called_set.mro
  have hmade := F.called_set.made
  have hsub := F.called_set.sub
  refine wpAny_call (codeAny_of_tree ?_)
  show wpAny _ _ (callAny (.type "set") _) _ _ _
  refine wpAny_pure ⟨Code.quiet_builtin _ (by decide +kernel), codeAny_builtin F.entry_type_call ?_⟩
  rw [Around.under_plain (weight_type_call_type "set" [.ref l] []) rfl]
  have h1 := F.called_set.notType
  have h2 := F.called_set.canCreate
  have hct := F.typeCall_set_1 (.ref l)
  repeat (any_goals (first | assumption | wp_step))
  refine codeAny_mono (code_set_led1 (.ref l) (E := E) (Q₁ := fun obj s1 => obj = .ref s.heap.objs.size ∧ s1 = { s with heap := s.heap.push (bornSet w) }) ⟨rfl, rfl⟩) fun r s1 hr => ?_
  cases r with
  | error e => exact hr
  | ok fl =>
    cases fl with
    | ret obj =>
      obtain ⟨rfl, rfl⟩ := hr
      have hS : (s.heap.push (bornSet w)).get? s.heap.objs.size = some (bornSet w) := Heap.get?_push_size _ rfl
      have hT : Shared.TypeIs { s with heap := s.heap.push (bornSet w) } (.ref s.heap.objs.size) "set" := ⟨_, hS, rfl⟩
      have hli := F.called_set.init.lookup
      have hbi := F.called_set.init.bind (.ref s.heap.objs.size)
      repeat (any_goals (first | assumption | wp_step))
      refine codeAny_mono (codeAny_call_builtin (R := wants (fun r s2 => r = .none ∧ ∃ h' tk L, s2 = { s with heap := h', toks := tk } ∧ TxSet w h' s.heap.objs.size L ∧ L.length ≤ xs.length ∧ (∀ j, j ∈ L ↔ j ∈ xs) ∧
          (∀ b o, s.heap.get? b = some o → h'.get? b = some o)) E) F.called_set.init.plain F.entry_set_init (check_set_init_1 hT ?_)) fun r2 s2 hr2 => ?_
      · obtain ⟨ol, hol, hcl, nl, hdl⟩ := hl
        obtain ⟨ocls, odict, odata, oslots⟩ := ol
        simp only at hcl hdl
        subst hcl
        subst hdl
        have hol' := Heap.get?_push_of_some (bornSet w) hol
        have hsls := F.sub_list_set
        have hslf := F.sub_list_frozenset
        have hne : (Value.type "list" == Value.type "dict") = false := by decide
        have hl1 : (s.heap.push (bornSet w)).IsList l items := ⟨_, hol', rfl, nl, rfl⟩
        unfold Builtin.«set.__init__» noKeywords Builtin.Frozenset.updateFrom
        generalize hPI : pyIter = PI
        wp_walk
        subst hPI
        refine wpAny_pyIter_list hl1 (wpAny_bind (wpAny_runValue ?_))
        have hlS : l < s.heap.objs.size := Heap.lt_size hol
        have hh3 : A.in1.in1.in1.handled = none := by simp [hh]
        have sz1 : (s.heap.push (bornSet w)).objs.size = s.heap.objs.size + 1 := Heap.size_push ..
        have neI : l ≠ (s.heap.push (bornSet w)).objs.size := by
          rw [sz1]
          exact Nat.ne_of_lt (Nat.lt_succ_of_lt hlS)
        have nf : s.heap.objs.size ∉ [(s.heap.push (bornSet w)).objs.size, l] := by
          rw [sz1]
          simp only [List.mem_cons, List.not_mem_nil, or_false, not_or]
          exact ⟨Nat.ne_of_lt (Nat.lt_succ_self _), Nat.ne_of_gt hlS⟩
        have val : ∀ (i : Nat) (v : Value), items[i]? = some v → ∃ k t, xs[i]? = some k ∧ v = .str k t := fun i v hv => by
          have q : items.toList[i]? = some v := by rw [Array.getElem?_toList]; exact hv
          have hi : i < xs.length := by rw [← hn]; exact (Array.getElem?_eq_some_iff.mp hv).1
          have e := hit.strs
          have q2 := congrArg (fun z => z[i]?) e
          rw [List.getElem?_map, q] at q2
          obtain ⟨x, t, ex⟩ := hit.all v (List.mem_of_getElem? q)
          refine ⟨x, t, ?_, ex⟩
          rw [← q2, ex]
          rfl
        refine tx_update ((Walks.list hh3 _ l neI items).toS) s.heap.objs.size nf xs hn (by omega) val (items.size - 0) 0 _ rfl (Nat.zero_le _)
          ⟨⟨_, Heap.get?_push_size _ rfl, rfl, rfl⟩, (hl1.push _)⟩ ⟨[], txSet_born (Heap.get?_push_of_some _ hS), Nat.le_refl _, fun j => by simp⟩ fun s' L mv r hl2 hm => ?_
        obtain ⟨h', g2, d', tk', os'⟩ := s'
        obtain rfl : g2 = s.gens := mv.gens
        obtain rfl : d' = s.drawn := mv.drawn
        obtain rfl : os' = s.os := mv.os
        show wpAny _ _ _ _ _ _
        refine wpAny_pure ?_
        show wpAny _ _ (ret Value.none) _ _ _
        refine wpAny_pure ⟨rfl, h', tk', L, rfl, r, by omega, hm, fun b o e => ?_⟩
        have hb := Heap.lt_size e
        refine mv.heap b o ?_ (Heap.get?_push_of_some _ (Heap.get?_push_of_some _ e))
        rw [sz1]
        simp only [List.mem_cons, List.not_mem_nil, or_false, not_or]
        exact ⟨Nat.ne_of_lt hb, Nat.ne_of_lt (Nat.lt_succ_of_lt hb)⟩
      · cases r2 with
        | error e => exact hr2
        | ok fl2 =>
          cases fl2 with
          | ret r =>
            obtain ⟨rfl, h', tk, L, rfl, r, hl2, hm, hk⟩ := hr2
            repeat (any_goals (first | assumption | wp_step))
            exact h _ _ _ r hl2 hm hk
          | _ => exact hr2.elim
    | _ => exact hr.elim
/-- sorted of it: a new list of its texts, rising -/
theorem sorted_txs {a : Addr} {L : List Str} {Q : Value → Shared → Prop} (R : TxSet w s.heap a L) (hh : A.handled = none) (few : L.length < 64)
    (hQ : ∀ s' p (out : Array Value) (c : Nat) (ys : List Str), (∀ b o, s.heap.get? b = some o → s'.heap.get? b = some o) → s'.gens = s.gens → s'.os = s.os → s.heap.objs.size ≤ p →
      s'.heap.get? p = some (seqObj "list" out c) → StrsAre out.toList ys → ys.Perm L → sortedS ys = true → Q (.ref p) s') :
    wpAny (model P w) A (call (.builtin "sorted") [.ref a]) Q E s := by
  obtain ⟨o, es, ep, t, ho, hex, hd, T⟩ := R
  have hsz := T.size
  refine Calls.call_function_entry kind_sorted plain_sorted entry_sorted (args_sorted1 _) ?_
  unfold Builtin.«sorted»
  refine wpAny_bind (m := checkCount "sorted" 1 1 _) (wpAny_pure ?_)
  refine wpAny_bind (collect_set (A := A.in1) hh ⟨o, ho, hex.1, hd⟩ T.fits T.low T.ris T.led fun s1 vs k1 hz g1 o1 pm => ?_)
  have hvl : vs.length = L.length := by rw [pm.length_eq, List.length_map, Array.length_toList]; exact hsz
  have hst : StrsAre vs (vs.map strOf) := strsAre_map vs fun v hv => by
    obtain ⟨e, he, q⟩ := List.mem_map.mp (pm.mem_iff.mp hv)
    obtain ⟨k, tk, e1, _⟩ := T.good e he
    exact ⟨k, tk, q ▸ e1⟩
  have pk : (vs.map strOf).Perm L := by
    have q := pm.map strOf
    rw [List.map_map] at q
    rw [← T.keys]
    exact q
  refine wpAny_bind (wpAny_newList ?_ (by rw [hvl, sizeLine_eq]; omega))
  have hoL : (s1.heap.push (seqObj "list" vs.toArray 0)).get? s1.heap.objs.size = some (seqObj "list" vs.toArray 0) := Heap.get?_push_size _ rfl
  have hL : (s1.heap.push (seqObj "list" vs.toArray 0)).IsList s1.heap.objs.size vs.toArray := ⟨_, hoL, rfl, _, rfl⟩
  refine wpAny_bind (wpAny_holding (wpAny_call_entry slot_list_sort ⟨_, hoL, rfl⟩ entry_list_sort (list_sort_treeKAny strKind_oneLt hoL hst.keysOf (fun u v rest e => keyKind_strs (by rw [← e]; exact hst)) (by rw [hvl, sizeLine_eq]; omega) fun st pa sa => ?_) (args_list_sort _)))
  obtain ⟨ys, b1, b2, b3⟩ := sorted_out_str hst pa sa
  refine ⟨_, rfl, ?_⟩
  obtain ⟨c, hc⟩ := sortedHeap_at (vs := vs) (out := (arrOf st).map (·.2)) hoL
  refine wpAny_pure ⟨_, rfl, hQ _ s1.heap.objs.size _ c ys (fun b u e => ?_) g1 o1 hz hc b1 (b2.trans pk) b3⟩
  have q := k1 b u e
  have lt := Heap.lt_size q
  show (sortedHeap (s1.heap.push (seqObj "list" vs.toArray 0)) s1.heap.objs.size vs _).get? b = some u
  rw [sortedHeap_old (Nat.ne_of_lt lt) (by rw [size_push']; exact Nat.lt_succ_of_lt lt)]
  exact Heap.get?_push_of_some _ q
end
/-- the set of texts at a -/
def TxO (w : World) (a : Addr) (L : List Str) : HO := .ext fun h => TxSet w h a L
theorem txO_new {w : World} {P : Program} {H : Hp} {h : Heap} {a : Addr} {L : List Str} (R : TxSet w h a L) : ObjOk P w H h a (TxO w a L) := by
  have ⟨o, _, _, _, ho, _⟩ := R
  exact ⟨R, ⟨o, ho⟩, fun _ _ p k => TxSet.at p k⟩
theorem strsAre_vals : ∀ {xs : List Str} {us : List Value}, Vals (xs.map V.str) us → StrsAre us xs
  | [], _, .nil => .nil
  | x :: xs, _, .cons r t => by
    obtain ⟨k, rfl⟩ := r
    exact .cons x k (strsAre_vals t)
theorem vals_strsAre : ∀ {xs : List Str} {us : List Value}, StrsAre us xs → Vals (xs.map V.str) us
  | _, _, .nil => .nil
  | _, _, .cons x k t => .cons ⟨k, rfl⟩ (vals_strsAre t)
/-- set(xs), xs a list of texts -/
def rSetTx (K : PySem.W.Frag) (w : World) : List V → Hp → VK → Prop := fun vs H Q => ∃ (l : Addr) (xs : List Str), vs = [V.ref l] ∧ SqL K H l (xs.map V.str) ∧ xs.length < 1000 ∧
  ∀ p L, H p = none → L.Nodup → L.length ≤ xs.length → (∀ j, j ∈ L ↔ j ∈ xs) → Q (.ref p) (upd H p (TxO w p L))
/-- sorted(s), s a set of texts -/
def rSortTx (w : World) : List V → Hp → VK → Prop := fun vs H Q => ∃ (a : Addr) (L : List Str), vs = [V.ref a] ∧ H a = some (TxO w a L) ∧ L.length < 64 ∧
  ∀ (ys : List Str) (p : Addr), ys.Perm L → ys.Nodup → sortedS ys = true → H p = none → Q (.ref p) (upd H p (.lst (ys.map V.str)))
section
variable {X : Cx}
theorem cr_setTx (hc : X.calm = true) : CallR X (.type "set") (rSetTx X.K X.w) := by
  intro pins s σ H vs us Q I r h
  obtain ⟨l, xs, rfl, hl, few, q⟩ := h
  rw [Vals.ref1 r]
  obtain ⟨its, rv, pl, hz⟩ := I.list hl
  refine call_set_txs (P := X.prog) (w := X.w) xs (I.ok.hd hc) pl.isList (by simpa using strsAre_vals rv) (by unfold scanBound; omega) fun h' tk L R l1 m1 k => ?_
  have nd : L.Nodup := by
    obtain ⟨_, _, _, _, _, _, _, T⟩ := id R
    exact T.nd
  exact ⟨.ref s.heap.objs.size, upd H s.heap.objs.size (TxO X.w s.heap.objs.size L), I.laid (t' := tk) k (Nat.le_refl _) (txO_new R), rfl, q _ L (I.hok.fresh (Nat.le_refl _)) nd l1 m1⟩
theorem cr_sortTx (hc : X.calm = true) : CallR X (.builtin "sorted") (rSortTx X.w) := by
  intro pins s σ H vs us Q I r h
  obtain ⟨a, L, rfl, ha, few, q⟩ := h
  have R : TxSet X.w s.heap a L := (I.hok a _ ha).1
  rw [Vals.ref1 r]
  refine sorted_txs R (I.ok.hd hc) few fun s' p out c ys k g o hp hg hi pm so => ?_
  have hlen : (ys.map V.str).length ≤ sizeLine := by
    rw [List.length_map, pm.length_eq, sizeLine_eq]
    omega
  have hn : H p = none := I.hok.fresh hp
  have nd : ys.Nodup := by
    obtain ⟨_, _, _, _, _, _, _, T⟩ := R
    exact pm.nodup_iff.mpr T.nd
  have J : Inv X pins σ (upd H p (.lst (ys.map V.str))) { s with heap := s'.heap, gens := s'.gens, drawn := s'.drawn, toks := s'.toks } :=
    I.call (ch := []) (Un.laid k hp hn) (I.hok.laid k hp ⟨hlen, out.toList, c, vals_strsAre hi, hg⟩) (by rw [g]; exact I.bare) (fun _ z => nomatch z)
  have e : s' = { s with heap := s'.heap, gens := s'.gens, drawn := s'.drawn, toks := s'.toks } := by
    cases s'
    cases s
    cases o
    rfl
  rw [e]
  exact ⟨.ref p, _, J, rfl, q ys p pm nd so hn⟩
end
end Cx

/-! pure data, how it lies in the heap, what is known of slots -/
namespace Fx
open PySem PySem.Spec PyProof.Rows L2
inductive D where
  | non | bl (b : Bool) | int (i : Int) | str (x : Str) | lst (ds : List D) | tup (ds : List D) | dic (kvs : List (Key × D)) | ty (n : String) | urn | exn (c : Str) (fs : List (Str × D))
/-- an answer: a value, an exception of that class with these fields, not defined, or any of these values at the price of so many draws, and on -/
inductive R (α : Type) where
  | ok (a : α) | ex (c : Str) (fs : List (Str × D)) | no | any (P : D → Prop) (n : Nat) (k : D → R α)
def R.bind {α β : Type} : R α → (α → R β) → R β
  | .ok a, f => f a
  | .ex c fs, _ => .ex c fs
  | .no, _ => .no
  | .any P n k, f => .any P n fun d => (k d).bind f
instance : Monad R where
  pure := .ok
  bind := R.bind
abbrev Env := List (Option (Bool × D))
/-! ### addresses put aside -/
/-- all stays but what stands at u -/
def NT (o : Option HO) : Prop := o ≠ none ∧ ∀ xs, o ≠ some (.tup xs)
structure Sm (u : Option Addr) (H H' : Hp) : Prop where
  kp : ∀ b o, some b ≠ u → H b = some o → H' b = some o
  th : ∀ b, H b ≠ none → H' b ≠ none
  nt : ∀ b, NT (H b) → NT (H' b)
theorem Sm.refl {u : Option Addr} (H : Hp) : Sm u H H := ⟨fun _ _ _ e => e, fun _ n => n, fun _ n => n⟩
theorem Sm.trans {u : Option Addr} {H H1 H2 : Hp} (a : Sm u H H1) (b : Sm u H1 H2) : Sm u H H2 := ⟨fun c o n e => b.kp c o n (a.kp c o n e), fun c n => b.th c (a.th c n), fun c n => b.nt c (a.nt c n)⟩
theorem Sm.free {u : Option Addr} {H H1 : Hp} (a : Sm u H H1) {p : Addr} (n : H1 p = none) : H p = none := by
  cases q : H p with
  | none => rfl
  | some o => exact absurd n (a.th p (by rw [q]; exact fun z => nomatch z))
def Urn (u : Option Addr) (n : Nat) (H : Hp) : Prop := ∀ a, u = some a → ∃ x y z : Int, H a = some (.lst [.int x, .int y, .int z]) ∧ 0 ≤ z ∧ z ≤ n
theorem Urn.le {u : Option Addr} {n m : Nat} {H : Hp} (U : Urn u n H) (h : n ≤ m) : Urn u m H := fun a e => by
  obtain ⟨x, y, z, h1, h2, h3⟩ := U a e
  exact ⟨x, y, z, h1, h2, by omega⟩
theorem Urn.there {u : Option Addr} {n : Nat} {H : Hp} (U : Urn u n H) {p : Addr} (h : H p = none) : some p ≠ u := fun e => by
  obtain ⟨x, y, z, h1, _⟩ := U p e.symm
  rw [h1] at h
  cases h
theorem Urn.same {u : Option Addr} {n : Nat} {H H' : Hp} (U : Urn u n H) (s : Same H H') : Urn u n H' := fun a e => by
  obtain ⟨x, y, z, h1, h2⟩ := U a e
  exact ⟨x, y, z, s _ _ h1, h2⟩
theorem Urn.upd {u : Option Addr} {n : Nat} {H : Hp} {p : Addr} {o : HO} (U : Urn u n H) (h : some p ≠ u) : Urn u n (L2.upd H p o) := fun a e => by
  obtain ⟨x, y, z, h1, h2⟩ := U a e
  exact ⟨x, y, z, by rw [upd_ne (fun c => h (by rw [← c, e]))]; exact h1, h2⟩
theorem same_new {H : Hp} {p : Addr} {o : HO} (h : H p = none) : Same H (upd H p o) := fun b x e => by
  rw [upd_ne (ne_of_none e h)]
  exact e
def hid (us : List Addr) (H : Hp) : Hp := fun b => if b ∈ us then none else H b
theorem hid_in {us : List Addr} {H : Hp} {b : Addr} (h : b ∈ us) : hid us H b = none := if_pos h
theorem hid_out {us : List Addr} {H : Hp} {b : Addr} (h : b ∉ us) : hid us H b = H b := if_neg h
theorem hid_some {us : List Addr} {H : Hp} {b : Addr} {o : HO} (h : hid us H b = some o) : b ∉ us ∧ H b = some o := by
  by_cases c : b ∈ us
  · rw [hid_in c] at h
    cases h
  · rw [hid_out c] at h
    exact ⟨c, h⟩
theorem hid_le {us : List Addr} {H : Hp} : Same (hid us H) H := fun _ _ e => (hid_some e).2
theorem hid_sub {us vs : List Addr} {H : Hp} (h : ∀ a ∈ us, a ∈ vs) : Same (hid vs H) (hid us H) := fun b o e => by
  obtain ⟨h1, h2⟩ := hid_some e
  rw [hid_out fun z => h1 (h b z)]
  exact h2
theorem hid_same {us : List Addr} {H H' : Hp} (s : Same H H') : Same (hid us H) (hid us H') := fun b o e => by
  obtain ⟨h1, h2⟩ := hid_some e
  rw [hid_out h1]
  exact s b o h2
/-- an object that is put aside is written -/
theorem hid_put {us : List Addr} {d : Addr} {H : Hp} {o : HO} (m : d ∈ us) : hid us (upd H d o) = hid us H := by
  funext b
  by_cases c : b ∈ us
  · rw [hid_in c, hid_in c]
  · rw [hid_out c, hid_out c, upd_ne fun z => c (by rw [z]; exact m)]
theorem nt_lst {xs : List V} : NT (some (.lst xs)) := ⟨(fun z => nomatch z), fun _ z => nomatch z⟩
theorem nt_dK {xs : List (Key × V)} : NT (some (.dK xs)) := ⟨(fun z => nomatch z), fun _ z => nomatch z⟩
theorem NT.same {H H' : Hp} (s : Same H H') {b : Addr} (n : NT (H b)) : NT (H' b) := by
  cases e : H b with
  | none => exact absurd e n.1
  | some o =>
    rw [s b o e, ← e]
    exact n
theorem NT.upd {H : Hp} {a b : Addr} {o : HO} (h : ∀ xs, o ≠ .tup xs) (n : NT (H b)) : NT (L2.upd H a o b) := by
  by_cases c : b = a
  · rw [c, upd_same]
    exact ⟨(fun z => nomatch z), fun xs z => h xs (Option.some.inj z)⟩
  · rw [upd_ne c]
    exact n
theorem Sm.of {u : Option Addr} {H H' : Hp} (s : Same H H') : Sm u H H' := ⟨fun b o _ e => s b o e, fun b n => by
  cases e : H b with
  | none => exact absurd e n
  | some o =>
    rw [s b o e]
    exact (fun z => nomatch z), fun b n => NT.same s n⟩
theorem Sm.new {u : Option Addr} {H : Hp} {p : Addr} {o : HO} (h : H p = none) : Sm u H (upd H p o) := .of (same_new h)
theorem Sm.hid {u : Option Addr} {hs : List Addr} {H H' : Hp} (s : Sm u H H') (h : ∀ a, u = some a → a ∈ hs) : Same (hid hs H) (hid hs H') := fun b o e => by
  obtain ⟨h1, h2⟩ := hid_some e
  rw [hid_out h1]
  exact s.kp b o (fun z => h1 (h b z.symm)) h2
def AllIn (us : List Addr) (H : Hp) : Prop := ∀ v ∈ us, NT (H v)
theorem AllIn.not {us : List Addr} {H : Hp} {p : Addr} (a : AllIn us H) (h : H p = none) : p ∉ us := fun m => (a p m).1 h
theorem AllIn.tup {us : List Addr} {H : Hp} {p : Addr} {xs : List V} (a : AllIn us H) (h : H p = some (.tup xs)) : hid us H p = some (.tup xs) := by
  rw [hid_out fun m => (a p m).2 xs h]
  exact h
theorem same_in {H H' : Hp} {v : Addr} (s : Same H H') (h : H v ≠ none) : H' v ≠ none := by
  cases e : H v with
  | none => exact absurd e h
  | some o =>
    rw [s v o e]
    exact fun z => nomatch z
theorem AllIn.same {us : List Addr} {u : Option Addr} {H H' : Hp} (a : AllIn us H) (s : Sm u H H') : AllIn us H' := fun v m => s.nt v (a v m)
theorem st_tup {K : PySem.W.Frag} {H H' : Hp} {a : Addr} {xs : List V} (e : Same H H') (h : SqT K H a xs) : SqT K H' a xs := by
  rcases h with (h | ⟨o, h⟩) | h
  · exact .inl (.inl (e _ _ h))
  · exact .inl (.inr ⟨o, e _ _ h⟩)
  · exact .inr h
/-- a tuple at a, new or of the frozen heap -/
def SqP (K : PySem.W.Frag) (H : Hp) (a : Addr) (xs : List V) : Prop := H a = some (.tup xs) ∨ ∃ (o : Obj) (its : Array Value) (n : Nat), K.lookup a = some o ∧ o.cls = .type "tuple" ∧ o.data = .seq its n ∧ its.size ≤ sizeLine ∧ Vals xs its.toList
theorem SqP.T {K : PySem.W.Frag} {H : Hp} {a : Addr} {xs : List V} (h : SqP K H a xs) : SqT K H a xs := h.imp Rd.of id
theorem SqP.same {K : PySem.W.Frag} {H H' : Hp} {a : Addr} {xs : List V} (h : SqP K H a xs) (s : Same H H') : SqP K H' a xs := h.imp (s _ _) id
/-! ### data in the heap -/
mutual
inductive Rp (K : PySem.W.Frag) (H : Hp) : V → D → Prop where
  | non : Rp K H .non .non
  | bl (b : Bool) : Rp K H (.bl b) (.bl b)
  | int (i : Int) : Rp K H (.int i) (.int i)
  | str (x : Str) : Rp K H (.str x) (.str x)
  | ty (n : String) : Rp K H (.ty n) (.ty n)
  | lst {a : Addr} {xs : List V} {ds : List D} : H a = some (.lst xs) → RpA K H xs ds → Rp K H (.ref a) (.lst ds)
  | tup {a : Addr} {xs : List V} {ds : List D} : SqP K H a xs → RpA K H xs ds → Rp K H (.ref a) (.tup ds)
  | dic {a : Addr} {kvs : List (Key × V)} {kds : List (Key × D)} : H a = some (.dK kvs) → RpK K H kvs kds → Rp K H (.ref a) (.dic kds)
inductive RpA (K : PySem.W.Frag) (H : Hp) : List V → List D → Prop where
  | nil : RpA K H [] []
  | cons {v : V} {vs : List V} {d : D} {ds : List D} : Rp K H v d → RpA K H vs ds → RpA K H (v :: vs) (d :: ds)
inductive RpK (K : PySem.W.Frag) (H : Hp) : List (Key × V) → List (Key × D) → Prop where
  | nil : RpK K H [] []
  | cons {k : Key} {v : V} {vs : List (Key × V)} {d : D} {ds : List (Key × D)} : Rp K H v d → RpK K H vs ds → RpK K H ((k, v) :: vs) ((k, d) :: ds)
end
section
variable {K : PySem.W.Frag} {H H' : Hp}
mutual
theorem Rp.same (s : Same H H') : ∀ {x : V} {d : D}, Rp K H x d → Rp K H' x d
  | _, _, .non => .non
  | _, _, .bl b => .bl b
  | _, _, .int i => .int i
  | _, _, .str x => .str x
  | _, _, .ty x => .ty x
  | _, _, .lst h a => .lst (s _ _ h) (RpA.same s a)
  | _, _, .tup h a => .tup (h.same s) (RpA.same s a)
  | _, _, .dic h a => .dic (s _ _ h) (RpK.same s a)
theorem RpA.same (s : Same H H') : ∀ {xs : List V} {ds : List D}, RpA K H xs ds → RpA K H' xs ds
  | _, _, .nil => .nil
  | _, _, .cons h a => .cons (Rp.same s h) (RpA.same s a)
theorem RpK.same (s : Same H H') : ∀ {xs : List (Key × V)} {ds : List (Key × D)}, RpK K H xs ds → RpK K H' xs ds
  | _, _, .nil => .nil
  | _, _, .cons h a => .cons (Rp.same s h) (RpK.same s a)
end
theorem RpA.len : ∀ {xs : List V} {ds : List D}, RpA K H xs ds → xs.length = ds.length
  | _, _, .nil => rfl
  | _, _, .cons _ a => congrArg (· + 1) (RpA.len a)
theorem RpA.at_ : ∀ {xs : List V} {ds : List D} {i : Nat} {x : V}, RpA K H xs ds → xs[i]? = some x → ∃ d, ds[i]? = some d ∧ Rp K H x d
  | _, _, 0, _, .cons h _, e => by
    cases e
    exact ⟨_, rfl, h⟩
  | _, _, i + 1, _, .cons _ a, e => RpA.at_ (i := i) a e
theorem RpA.at' : ∀ {xs : List V} {ds : List D} {i : Nat} {d : D}, RpA K H xs ds → ds[i]? = some d → ∃ x, xs[i]? = some x ∧ Rp K H x d
  | _, _, 0, _, .cons h _, e => by
    cases e
    exact ⟨_, rfl, h⟩
  | _, _, i + 1, _, .cons _ a, e => RpA.at' (i := i) a e
theorem RpA.snoc {x : V} {d : D} (h : Rp K H x d) : ∀ {xs : List V} {ds : List D}, RpA K H xs ds → RpA K H (xs ++ [x]) (ds ++ [d])
  | _, _, .nil => .cons h .nil
  | _, _, .cons g a => .cons g (RpA.snoc h a)
theorem RpA.app {ys : List V} {es : List D} (h : RpA K H ys es) : ∀ {xs : List V} {ds : List D}, RpA K H xs ds → RpA K H (xs ++ ys) (ds ++ es)
  | _, _, .nil => h
  | _, _, .cons g a => .cons g (RpA.app h a)
theorem RpA.take : ∀ {xs : List V} {ds : List D} (n : Nat), RpA K H xs ds → RpA K H (xs.take n) (ds.take n)
  | _, _, 0, _ => .nil
  | _, _, _ + 1, .nil => .nil
  | _, _, n + 1, .cons g a => .cons g (RpA.take n a)
theorem RpA.drop : ∀ {xs : List V} {ds : List D} (n : Nat), RpA K H xs ds → RpA K H (xs.drop n) (ds.drop n)
  | _, _, 0, r => r
  | _, _, _ + 1, .nil => .nil
  | _, _, n + 1, .cons _ a => RpA.drop n a
theorem RpA.strs : ∀ xs : List Str, RpA K H (xs.map V.str) (xs.map D.str)
  | [] => .nil
  | x :: xs => .cons (.str x) (RpA.strs xs)
theorem RpA.ints : ∀ xs : List Int, RpA K H (xs.map V.int) (xs.map D.int)
  | [] => .nil
  | x :: xs => .cons (.int x) (RpA.ints xs)
theorem RpA.of_strs : ∀ {xs : List V} {zs : List Str}, RpA K H xs (zs.map D.str) → xs = zs.map V.str
  | _, [], .nil => rfl
  | _, z :: zs, .cons h a => by
    cases h
    rw [RpA.of_strs a]
    rfl
theorem RpA.of_ints : ∀ {xs : List V} {zs : List Int}, RpA K H xs (zs.map D.int) → xs = zs.map V.int
  | _, [], .nil => rfl
  | _, z :: zs, .cons h a => by
    cases h
    rw [RpA.of_ints a]
    rfl
theorem RpA.of_bls : ∀ {xs : List V} {zs : List Bool}, RpA K H xs (zs.map D.bl) → xs = zs.map V.bl
  | _, [], .nil => rfl
  | _, z :: zs, .cons h a => by
    cases h
    rw [RpA.of_bls a]
    rfl
theorem RpK.len : ∀ {xs : List (Key × V)} {ds : List (Key × D)}, RpK K H xs ds → xs.length = ds.length
  | _, _, .nil => rfl
  | _, _, .cons _ a => congrArg (· + 1) (RpK.len a)
end
/-- what is written by the def itself: a list or a dict at a, its items in Hh -/
def Own (K : PySem.W.Frag) (Hh H : Hp) (a : Addr) : D → Prop
  | .lst ds => ∃ xs, H a = some (.lst xs) ∧ RpA K Hh xs ds
  | .dic kds => ∃ kvs, H a = some (.dK kvs) ∧ RpK K Hh kvs kds
  | _ => False
theorem Own.nt {K : PySem.W.Frag} {Hh H : Hp} {a : Addr} : ∀ {d : D}, Own K Hh H a d → NT (H a)
  | .lst _, ⟨xs, g, r⟩ => by
    rw [g]
    exact ⟨(fun z => nomatch z), fun _ z => nomatch z⟩
  | .dic _, ⟨xs, g, r⟩ => by
    rw [g]
    exact ⟨(fun z => nomatch z), fun _ z => nomatch z⟩
theorem Own.same {K : PySem.W.Frag} {u : Option Addr} {hs : List Addr} {H H' : Hp} (s : Sm u H H') (h : ∀ a, u = some a → a ∈ hs) {a : Addr} (na : some a ≠ u) : ∀ {d : D}, Own K (hid hs H) H a d → Own K (hid hs H') H' a d
  | .lst _, ⟨xs, g, r⟩ => ⟨xs, s.kp _ _ na g, r.same (s.hid h)⟩
  | .dic _, ⟨xs, g, r⟩ => ⟨xs, s.kp _ _ na g, r.same (s.hid h)⟩
/-- given to all -/
theorem Own.give {K : PySem.W.Frag} {hs ks : List Addr} {H : Hp} (sub : ∀ b ∈ ks, b ∈ hs) {a : Addr} (na : a ∉ ks) : ∀ {d : D}, Own K (hid hs H) H a d → Rp K (hid ks H) (.ref a) d
  | .lst _, ⟨xs, h, r⟩ => .lst (by rw [hid_out na]; exact h) (r.same (hid_sub sub))
  | .dic _, ⟨xs, h, r⟩ => .dic (by rw [hid_out na]; exact h) (r.same (hid_sub sub))
/-- a value that is read on the spot -/
inductive Rw (K : PySem.W.Frag) (u : Option Addr) (hs : List Addr) (H : Hp) (v : V) (d : D) : Prop where
  | sh (h : Rp K (hid hs H) v d) : Rw K u hs H v d
  | ow {a : Addr} (e : v = .ref a) (m : a ∈ hs) (n : some a ≠ u) (h : Own K (hid hs H) H a d) : Rw K u hs H v d
theorem Rw.same {K : PySem.W.Frag} {u : Option Addr} {hs : List Addr} {H H' : Hp} (s : Sm u H H') (hu : ∀ a, u = some a → a ∈ hs) {v : V} {d : D} (h : Rw K u hs H v d) : Rw K u hs H' v d := by
  cases h with
  | sh h => exact .sh (h.same (s.hid hu))
  | ow e m n h => exact .ow e m n (h.same s hu n)
section
variable {K : PySem.W.Frag} {u : Option Addr} {hs : List Addr} {H : Hp} {v : V}
theorem Rw.lst {ds : List D} (h : Rw K u hs H v (.lst ds)) : ∃ a xs, v = .ref a ∧ H a = some (.lst xs) ∧ RpA K (hid hs H) xs ds := by
  cases h with
  | sh h =>
    cases h with
    | lst h1 h2 => exact ⟨_, _, rfl, hid_le _ _ h1, h2⟩
  | ow e m _ h =>
    obtain ⟨xs, h1, h2⟩ := h
    exact ⟨_, xs, e, h1, h2⟩
theorem Rw.tup {ds : List D} (h : Rw K u hs H v (.tup ds)) : ∃ a xs, v = .ref a ∧ SqP K H a xs ∧ RpA K (hid hs H) xs ds := by
  cases h with
  | sh h =>
    cases h with
    | tup h1 h2 => exact ⟨_, _, rfl, h1.same hid_le, h2⟩
  | ow e m _ h => exact False.elim h
theorem Rw.dic {ds : List (Key × D)} (h : Rw K u hs H v (.dic ds)) : ∃ a xs, v = .ref a ∧ H a = some (.dK xs) ∧ RpK K (hid hs H) xs ds := by
  cases h with
  | sh h =>
    cases h with
    | dic h1 h2 => exact ⟨_, _, rfl, hid_le _ _ h1, h2⟩
  | ow e m _ h =>
    obtain ⟨xs, h1, h2⟩ := h
    exact ⟨_, xs, e, h1, h2⟩
theorem Rw.int {i : Int} (h : Rw K u hs H v (.int i)) : v = .int i := by
  cases h with
  | sh h =>
    cases h
    rfl
  | ow e m _ h => exact False.elim h
theorem Rw.str {i : Str} (h : Rw K u hs H v (.str i)) : v = .str i := by
  cases h with
  | sh h =>
    cases h
    rfl
  | ow e m _ h => exact False.elim h
theorem Rw.bl {i : Bool} (h : Rw K u hs H v (.bl i)) : v = .bl i := by
  cases h with
  | sh h =>
    cases h
    rfl
  | ow e m _ h => exact False.elim h
theorem Rw.non (h : Rw K u hs H v .non) : v = .non := by
  cases h with
  | sh h =>
    cases h
    rfl
  | ow e m _ h => exact False.elim h
end
/-! ### plain data -/
mutual
def toPy : D → Option PyData
  | .non => some .none
  | .bl b => some (.bool b)
  | .int i => some (.int i)
  | .str x => some (.str x)
  | .lst ds => (toPys ds).map .list
  | .tup ds => (toPys ds).map .tuple
  | .dic _ => none
  | .ty _ => none
  | .urn => none
  | .exn _ _ => none
def toPys : List D → Option (List PyData)
  | [] => some []
  | d :: ds => match toPy d, toPys ds with
    | some p, some ps => some (p :: ps)
    | _, _ => none
end
section
variable {K : PySem.W.Frag} {H : Hp}
mutual
theorem Rp.dp : ∀ {v : V} {d : D} {p : PyData}, Rp K H v d → toPy d = some p → Dp K H v p
  | _, _, _, .non, e => by
    cases e
    exact .non
  | _, _, _, .bl b, e => by
    cases e
    exact .bl b
  | _, _, _, .int b, e => by
    cases e
    exact .int b
  | _, _, _, .str b, e => by
    cases e
    exact .str b
  | _, .lst ds, _, .lst h a, e => by
    rw [toPy] at e
    cases q : toPys ds with
    | none =>
      rw [q] at e
      cases e
    | some ps =>
      rw [q] at e
      cases e
      exact .lst (SqL.of h) (RpA.dp a q)
  | _, .tup ds, _, .tup h a, e => by
    rw [toPy] at e
    cases q : toPys ds with
    | none =>
      rw [q] at e
      cases e
    | some ps =>
      rw [q] at e
      cases e
      exact .tup h.T (RpA.dp a q)
  | _, .dic _, _, .dic _ _, e => by
    rw [toPy] at e
    cases e
  | _, .ty _, _, .ty _, e => by
    rw [toPy] at e
    cases e
theorem RpA.dp : ∀ {v : List V} {d : List D} {p : List PyData}, RpA K H v d → toPys d = some p → DpAll K H v p
  | _, _, _, .nil, e => by
    rw [toPys] at e
    cases e
    exact .nil
  | _, d :: ds, _, .cons h a, e => by
    rw [toPys] at e
    cases q1 : toPy d with
    | none =>
      rw [q1] at e
      cases e
    | some p =>
      cases q2 : toPys ds with
      | none =>
        rw [q1, q2] at e
        cases e
      | some ps =>
        rw [q1, q2] at e
        cases e
        exact .cons (Rp.dp h q1) (RpA.dp a q2)
end
end
theorem dp_same' {K : PySem.W.Frag} {H H' : Hp} (s : Same H H') : ∀ {x : V} {d : PyData}, Dp K H x d → Dp K H' x d := fun h =>
  Dp.rec (motive_1 := fun v d _ => Dp K H' v d) (motive_2 := fun v d _ => DpAll K H' v d) .non (fun b => .bl b) (fun b => .int b) (fun b => .str b) (fun h _ a => .lst (s.seq h) a) (fun h _ a => .tup (st_tup s h) a) .nil (fun _ _ a b => .cons a b) h
theorem Rw.dp {K : PySem.W.Frag} {u : Option Addr} {hs : List Addr} {H : Hp} {v : V} {d : D} {p : PyData} (h : Rw K u hs H v d) (e : toPy d = some p) : Dp K H v p := by
  cases h with
  | sh h => exact dp_same' hid_le (h.dp e)
  | ow e1 m _ h =>
    subst e1
    cases d with
    | lst ds =>
      obtain ⟨xs, h1, h2⟩ := h
      rw [toPy] at e
      cases q : toPys ds with
      | none =>
        rw [q] at e
        cases e
      | some ps =>
        rw [q] at e
        cases e
        have a := h2.dp q
        exact .lst (SqL.of h1) (by
          have z : Dp K (upd (hid hs H) 0 (.lst [])) (.ref 0) (.list ps) → True := fun _ => trivial
          exact DpAll.rec (motive_1 := fun v d _ => Dp K H v d) (motive_2 := fun v d _ => DpAll K H v d) .non (fun b => .bl b) (fun b => .int b) (fun b => .str b) (fun h _ a => .lst (hid_le.seq h) a) (fun h _ a => .tup (st_tup hid_le h) a) .nil (fun _ _ a b => .cons a b) a)
    | non => exact False.elim h
    | bl _ => exact False.elim h
    | int _ => exact False.elim h
    | str _ => exact False.elim h
    | tup _ => exact False.elim h
    | dic _ => cases e
    | ty _ => exact False.elim h
    | urn => exact False.elim h
    | exn _ _ => exact False.elim h
end Fx

/-! lists or tuples, whichever; calls by keywords alone -/
namespace Cx
open PySem PySem.Spec PyProof.Rows L2
section
variable {X : Cx} {tg : Expr}
/-- a list or a tuple at x -/
def SeqV (K : PySem.W.Frag) (H : Hp) (x : V) (xs : List V) : Prop := ∃ a, x = .ref a ∧ (SqL K H a xs ∨ SqT K H a xs)
def iSeq (K : PySem.W.Frag) (tl : TE) : TI := fun σ H R => tl σ H fun x H1 => ∃ a, x = .ref a ∧ (((∃ xs, SqL K H1 a xs) ∧ R (Itl K a) H1) ∨ ((∃ xs, SqT K H1 a xs) ∧ R (Itt K a) H1))
theorem pi_seq {l : Expr} {tl : TE} (hl : PE X l tl) : PI X tg l (iSeq X.K tl) := by
  refine ⟨fun pins s σ H R I h => ?_⟩
  refine thn (hl.run pins s σ H _ I h) fun v s1 ⟨x, H1, I1, r1, a, e, q1⟩ => ?_
  subst e
  cases r1
  have one : ∀ b, b ∈ [s1.heap.objs.size] → FpOk X pins H1 b := fun b hb => by
    rw [List.mem_singleton.mp hb]
    exact I1.fpOk (Nat.le_refl _) (I1.hok.fresh (Nat.le_refl _))
  rcases q1 with ⟨⟨xs, hq⟩, q⟩ | ⟨⟨xs, hq⟩, q⟩
  · obtain ⟨its, rv, p, hz⟩ := I1.list hq
    exact wpAny_pyIter_list p.isList ⟨_, [s1.heap.objs.size], _, _, H1, rfl, I1.kept (t' := s1.toks) fun b o e => Heap.get?_push_of_some _ e, turn_list a _, ⟨_, Heap.get?_push_size _ rfl, rfl, rfl⟩, one, q⟩
  · obtain ⟨its, rv, p, hz⟩ := I1.tuple hq
    exact wpAny_pyIter_tuple (show s1.heap.IsTuple a its.toArray from p) ⟨_, [s1.heap.objs.size], _, _, H1, rfl, I1.kept (t' := s1.toks) fun b o e => Heap.get?_push_of_some _ e, turn_tuple a _, ⟨_, Heap.get?_push_size _ rfl, rfl, rfl⟩, one, q⟩
/-- a, b = a list or a tuple of that length -/
def gSeq (K : PySem.W.Frag) (n : Nat) (t : TGs) : TG := fun v σ H Q => ∃ xs, SeqV K H v xs ∧ xs.length = n ∧ t xs σ H Q
theorem pg_seq {es : List Expr} {k n : Nat} {t : TGs} {pos : Pos} (hc : X.calm = true) (h : PGs X es t)
    (hn : (assignEach es X.env).length = n := by rfl) (hst : (assignEach es X.env).findIdx? (·.1) = none := by rfl) : PG X (.Tuple es k pos) (gSeq X.K n t) := by
  refine ⟨fun pins s σ H v u Q I r hw => ?_⟩
  obtain ⟨xs, ⟨a, e, hq⟩, hl, q⟩ := hw
  rcases hq with hq | hq
  · exact (pg_unl hc h hn hst).run pins s σ H v u Q I r ⟨a, xs, e, hq, hl, q⟩
  · exact (pg_tup hc h hn hst).run pins s σ H v u Q I r ⟨a, xs, e, hq, hl, q⟩
/-- what a comprehension over J asks -/
def LcR (g : TG) (tt : TT) (te : TE) (vs : List Nat) (σ : L2.St) (Q : VK) : It → Hp → Prop := fun J H1 => ∀ D, H1 D = none → ∃ W : Nat → Nat → Hp → Prop, (∃ m, W 0 m (upd H1 D (.lst []))) ∧ ∀ i m H, W i m H →
  (J.stop i H ∧ Q (.ref D) H) ∨ (J.go i H ∧ ∃ Nx : Hp → Prop, (∀ H', Nx H' → ∃ m', m' < m ∧ W (i + 1) m' H') ∧ ∀ x H', J.yld i H x H' → g x (wipe σ vs) H' fun σ2 H2 => wipe σ2 vs = wipe σ vs ∧ tt σ2 H2 fun b H3 =>
    if b = true then te σ2 H3 fun y H4 => ∃ acc, H4 D = some (.lst acc) ∧ acc.length < sizeLine ∧ Nx (upd H4 D (.lst (acc ++ [y]))) else Nx H3)
/-- it stands as it stood -/
def Stays (K : PySem.W.Frag) (H1 H : Hp) (x : V) (xs : List V) : Prop := ∀ a, x = .ref a → (SqL K H1 a xs → SqL K H a xs) ∧ (SqT K H1 a xs → SqT K H a xs)
/-- what a comprehension asks of x, a list or a tuple -/
def LcA (K : PySem.W.Frag) (g : TG) (tt : TT) (te : TE) (vs : List Nat) (σ : L2.St) (Q : VK) (x : V) (H1 : Hp) : Prop :=
  ∃ a, x = .ref a ∧ (((∃ ys, SqL K H1 a ys) ∧ LcR g tt te vs σ Q (Itl K a) H1) ∨ ((∃ ys, SqT K H1 a ys) ∧ LcR g tt te vs σ Q (Itt K a) H1))
def tLcA (K : PySem.W.Frag) (wi : TE) (g : TG) (tt : TT) (te : TE) (vs : List Nat) : TE := fun σ H Q => wi σ H fun x H1 => LcA K g tt te vs σ Q x H1
theorem lc_any {K : PySem.W.Frag} {x : V} {xs : List V} {g : TG} {tt : TT} {te : TE} {vs : List Nat} {σ : L2.St} {H0 H1 : Hp} {Q : VK} (hx : SeqV K H0 x xs) (h01 : Stays K H0 H1 x xs) (Pv : Addr → Nat → Hp → Prop)
    (h0 : ∀ D, H1 D = none → Pv D 0 (upd H1 D (.lst []))) (hl : ∀ D i H, H1 D = none → Pv D i H → Stays K H0 H x xs)
    (hs : ∀ D i y H, H1 D = none → xs[i]? = some y → Pv D i H → g y (wipe σ vs) H fun σ2 H2 => wipe σ2 vs = wipe σ vs ∧ tt σ2 H2 fun b H3 =>
      if b = true then te σ2 H3 fun z H4 => ∃ acc, H4 D = some (.lst acc) ∧ acc.length < sizeLine ∧ Pv D (i + 1) (upd H4 D (.lst (acc ++ [z]))) else Pv D (i + 1) H3)
    (hd : ∀ D H, H1 D = none → Pv D xs.length H → Q (.ref D) H) : LcA K g tt te vs σ Q x H1 := by
  obtain ⟨a, e, hq⟩ := hx
  subst e
  refine ⟨a, rfl, ?_⟩
  rcases hq with hq | hq
  · exact .inl ⟨⟨xs, (h01 a rfl).1 hq⟩, fun D nD => lc_list (K := K) (a := a) (xs := xs) (Pv D) (h0 D nD) (fun i H _ q => (hl D i H nD q a rfl).1 hq) (fun i y H hy q => hs D i y H nD hy q) fun H q => hd D H nD q⟩
  · exact .inr ⟨⟨xs, (h01 a rfl).2 hq⟩, fun D nD => lc_tup (K := K) (a := a) (xs := xs) (Pv D) (h0 D nD) (fun i H _ q => (hl D i H nD q a rfl).2 hq) (fun i y H hy q => hs D i y H nD hy q) fun H q => hd D H nD q⟩
theorem pe_lcA {elt tg iter : Expr} {ifs : List Expr} {scope : Scope} {own : List (Str × Nat)} {pos : Pos} {wi : TE} {g : TG} {tt : TT} {te : TE} (hc : X.calm = true) (hN : X.N.Nodup) (hi : PE X iter wi) (ok : BlkOk X.N X.env.scope scope own)
    (hg : ∀ (s : Shared) (H : Hp) (C : Addr) (cl : List (Str × Addr)) (fp : List Addr), PG (X.blk s H scope (compEnvC scope cl C X.env) fp) tg g) (ht : ∀ (s : Shared) (H : Hp) (C : Addr) (cl : List (Str × Addr)) (fp : List Addr), PTs (X.blk s H scope (compEnvC scope cl C X.env) fp) ifs tt)
    (he : ∀ (s : Shared) (H : Hp) (C : Addr) (cl : List (Str × Addr)) (fp : List Addr), PE (X.blk s H scope (compEnvC scope cl C X.env) fp) elt te) (hs : ∀ x, foldedSetIterable iter X.env x = pure x := by intro _; rfl) :
    PE X (.ListComp elt [⟨tg, iter, ifs, 0⟩] scope pos) (tLcA X.K wi g tt te (own.map (·.2))) := pe_lc hc hN (pi_seq hi) ok hg ht he hs
theorem ps_setLcA {i : Nat} {y : Str} {py : Pos} {elt tg iter : Expr} {ifs : List Expr} {scope : Scope} {own : List (Str × Nat)} {pos spos : Pos} {wi : TE} {g : TG} {tt : TT} {te : TE} (hc : X.calm = true) (hN : X.N.Nodup) (hy : X.N[i]? = some y) (hyl : X.env.scope.names.lookup y = some .local)
    (hsw : swapsWith (.ListComp elt [⟨tg, iter, ifs, 0⟩] scope pos) (some (.Name y py)) spos.line X.env = pure true) (hi : PE X iter wi) (ok : BlkOk X.N X.env.scope scope own)
    (hg : ∀ (s : Shared) (H : Hp) (C : Addr) (cl : List (Str × Addr)) (fp : List Addr), PG (X.blk s H scope (compEnvC scope cl C X.env) fp) tg g) (ht : ∀ (s : Shared) (H : Hp) (C : Addr) (cl : List (Str × Addr)) (fp : List Addr), PTs (X.blk s H scope (compEnvC scope cl C X.env) fp) ifs tt)
    (he : ∀ (s : Shared) (H : Hp) (C : Addr) (cl : List (Str × Addr)) (fp : List Addr), PE (X.blk s H scope (compEnvC scope cl C X.env) fp) elt te) (hs : ∀ x, foldedSetIterable iter X.env x = pure x := by intro _; rfl) :
    PS X (.Assign [.Name y py] (.ListComp elt [⟨tg, iter, ifs, 0⟩] scope pos) spos) (tAsg (tLcA X.K wi g tt te (own.map (·.2))) (gName i)) := ps_setLc hc hN hy hyl hsw (pi_seq hi) ok hg ht he hs
end
section
variable {X : Cx} {CX : CXT} {k : Nat} {f : Addr} {fd : FuncData} {ps ks : List Str} {sp : Sp} {E : XK} {x : Str} {p pos : Pos} {kws : List Keyword} {tk : TA} {g : List Value → List Value → List Value} {gV : List V → List V → List V}
/-- f(k = v, ..), no positional argument -/
def tCallK0 (sp : Sp) (gV : List V → List V → List V) (E : XK) (tk : TA) : TE := fun σ H Q => tk σ H fun zs H2 => sp (gV [] zs) H2 Q E
theorem pe_callK0 (F : FnOk X.prog X.w X.K X.mg X.base CX k f fd ps sp) (hr : Room k X.A) (hg : Gl X x) (hm : X.mg x = some (.ref f)) (hk : PySem.W.keepIn X.K (.ref f) = true) (hb : KBinds X.K fd ps ks g gV) (hx : Passes CX X E)
    (hkw : PK X kws tk) (hall : (backToKw pos (keywordEach kws X.env)).all (·.1.isSome) = true := by rfl) (hks : (backToKw pos (keywordEach kws X.env)).filterMap (·.1) = ks := by rfl) (hdb : (x == ("__debug__" : Str)) = false := by decide)
    (hpl : ((backTo pos (starEach [] X.env)).any (·.1) || (backToKw pos (keywordEach kws X.env)).any (·.1.isNone)) = false := by rfl) : PE X (.Call (.Name x p) [] kws pos) (tCallK0 sp gV E tk) := by
  refine ⟨fun pins s σ H Q I h => ?_⟩
  refine wpAny_Call_Name_kw (ld_glob I hg hm ?_ hdb)
  refine PySem.W.callWith_KW0 (h₀ := X.base) I.ok.mod.kin hk hall (thn (hkw.run pos pins s σ H _ I h) fun ws s2 ⟨zs, H2, I2, rz, q2⟩ => ⟨I2.kIn, ?_⟩) hpl
  rw [hks]
  exact run_fnk (us := []) (vs := []) F hr hb hx I2 .nil rz q2
/-- one parameter, handed over by its name -/
def oneK {α : Type} : List α → List α → List α
  | [], zs => zs
  | _ :: _, _ => []
theorem kbind1 {K : PySem.W.Frag} {fd : FuncData} {x : Str} (h : ∀ u : Value, bindArgs fd ⟨[], [(x, u)]⟩ = pure [(x, u)]) : KBinds K fd [x] [x] oneK oneK where
  to := fun s us ws _ hl => by
    match us, ws, hl with
    | [], [w], _ => exact .of_eq (h w)
  rel := fun r rz => by
    cases r with
    | nil => exact rz
    | cons _ _ => exact .nil
end
end Cx

/-! slots and data; what is wanted of an answer -/
namespace Fx
open PySem PySem.Spec PyProof.Rows L2
/-- a slot's value: data, or the urn -/
def RpU (K : PySem.W.Frag) (u : Option Addr) (H : Hp) (v : V) (d : D) : Prop := Rp K H v d ∨ (d = .urn ∧ ∃ a, u = some a ∧ v = .ref a)
theorem RpU.same {K : PySem.W.Frag} {u : Option Addr} {H H' : Hp} {v : V} {d : D} (r : RpU K u H v d) (s : Same H H') : RpU K u H' v d := r.imp (fun z => z.same s) id
structure Rs (K : PySem.W.Frag) (u : Option Addr) (n : Nat) (hs : List Addr) (H : Hp) (σ : L2.St) (ε : Env) : Prop where
  len : ε.length = σ.length
  ain : AllIn hs H
  uh : ∀ a, u = some a → a ∈ hs
  ur : Urn u n H
  sl : ∀ (i : Nat) f d, ε[i]? = some (some (f, d)) → ∃ v, σ[i]? = some (some v) ∧ (f = false → RpU K u (hid hs H) v d) ∧ (f = true → ∃ a, v = .ref a ∧ a ∈ hs ∧ some a ≠ u ∧ Own K (hid hs H) H a d)
  ne : ∀ (i j : Nat) d e a, ε[i]? = some (some (true, d)) → ε[j]? = some (some (true, e)) → σ[i]? = some (some (V.ref a)) → σ[j]? = some (some (V.ref a)) → i = j
theorem get_set {α : Type} {l : List α} {i j : Nat} {x y : α} (h : (l.set i x)[j]? = some y) : (i = j ∧ x = y ∧ i < l.length) ∨ (i ≠ j ∧ l[j]? = some y) := by
  by_cases c : i = j
  · subst c
    by_cases d : i < l.length
    · rw [List.getElem?_set_self d] at h
      exact .inl ⟨rfl, Option.some.inj h, d⟩
    · rw [List.getElem?_eq_none (by rw [List.length_set]; omega)] at h
      cases h
  · rw [List.getElem?_set_ne c] at h
    exact .inr ⟨c, h⟩
theorem hid_more {us : List Addr} {d : Addr} {H H' : Hp} (s : Same (hid us H) (hid us H')) (n : H d = none) : Same (hid us H) (hid (d :: us) H') := fun b o e => by
  obtain ⟨h1, h2⟩ := hid_some e
  have h3 := (hid_some (s _ _ e)).2
  rw [hid_out fun z => (List.mem_cons.mp z).elim (ne_of_none h2 n) h1]
  exact h3
def wipeE (ε : Env) : List Nat → Env
  | [] => ε
  | v :: vs => (wipeE ε vs).set v none
def frz1 (ε : Env) (i : Nat) : Env := match ε[i]? with
  | some (some (true, d)) => ε.set i (some (false, d))
  | _ => ε
section
variable {K : PySem.W.Frag} {u : Option Addr} {n n' : Nat} {hs : List Addr} {H H' : Hp} {σ : L2.St} {ε : Env}
theorem Rs.same (S : Rs K u n hs H σ ε) (s : Sm u H H') (ur : Urn u n' H') : Rs K u n' hs H' σ ε := by
  refine ⟨S.len, S.ain.same s, S.uh, ur, fun i f d e => ?_, S.ne⟩
  obtain ⟨v, h1, h2, h3⟩ := S.sl i f d e
  refine ⟨v, h1, fun q => (h2 q).same (s.hid S.uh), fun q => ?_⟩
  obtain ⟨a, e1, m, na, o⟩ := h3 q
  exact ⟨a, e1, m, na, o.same s S.uh na⟩
theorem Rs.forget (S : Rs K u n hs H σ ε) (i : Nat) : Rs K u n hs H (σ.set i none) (ε.set i none) := by
  refine ⟨by rw [List.length_set, List.length_set, S.len], S.ain, S.uh, S.ur, fun j f d e => ?_, fun j k d e a h1 h2 h3 h4 => ?_⟩
  · rcases get_set e with ⟨_, z, _⟩ | ⟨c, e⟩
    · cases z
    · rw [List.getElem?_set_ne c]
      exact S.sl j f d e
  · rcases get_set h1 with ⟨_, z, _⟩ | ⟨c1, h1⟩
    · cases z
    · rcases get_set h2 with ⟨_, z, _⟩ | ⟨c2, h2⟩
      · cases z
      · rw [List.getElem?_set_ne c1] at h3
        rw [List.getElem?_set_ne c2] at h4
        exact S.ne j k d e a h1 h2 h3 h4
theorem Rs.wipe (S : Rs K u n hs H σ ε) : ∀ vs : List Nat, Rs K u n hs H (wipe σ vs) (wipeE ε vs)
  | [] => S
  | v :: vs => (Rs.wipe S vs).forget v
theorem Rs.put (S : Rs K u n hs H σ ε) {i : Nat} {v : V} {d : D} (r : Rp K (hid hs H) v d) : Rs K u n hs H (σ.set i (some v)) (ε.set i (some (false, d))) := by
  refine ⟨by rw [List.length_set, List.length_set, S.len], S.ain, S.uh, S.ur, fun j f e h => ?_, fun j k d e a h1 h2 h3 h4 => ?_⟩
  · rcases get_set h with ⟨c, z, l⟩ | ⟨c, h⟩
    · cases z
      subst c
      rw [S.len] at l
      exact ⟨v, List.getElem?_set_self l, fun _ => .inl r, fun q => nomatch q⟩
    · rw [List.getElem?_set_ne c]
      exact S.sl j f e h
  · rcases get_set h1 with ⟨_, z, _⟩ | ⟨c1, h1⟩
    · cases z
    · rcases get_set h2 with ⟨_, z, _⟩ | ⟨c2, h2⟩
      · cases z
      · rw [List.getElem?_set_ne c1] at h3
        rw [List.getElem?_set_ne c2] at h4
        exact S.ne j k d e a h1 h2 h3 h4
theorem own_more {p a : Addr} {d : D} (sh : Same (hid hs H) (hid hs H')) (k : ∀ o, H a = some o → H' a = some o) (np : H p = none) (o : Own K (hid hs H) H a d) : Own K (hid (p :: hs) H') H' a d := by
  cases d with
  | lst ds =>
    obtain ⟨xs, g1, g2⟩ := o
    exact ⟨xs, k _ g1, g2.same (hid_more sh np)⟩
  | dic ds =>
    obtain ⟨xs, g1, g2⟩ := o
    exact ⟨xs, k _ g1, g2.same (hid_more sh np)⟩
  | _ => exact False.elim o
theorem Rs.hide (S : Rs K u n hs H σ ε) (s : Sm u H H') (ur : Urn u n' H') {p : Addr} (np : H p = none) (hp : NT (H' p)) : Rs K u n' (p :: hs) H' σ ε := by
  refine ⟨S.len, fun v m => ?_, fun a e => List.mem_cons_of_mem _ (S.uh a e), ur, fun i f d e => ?_, S.ne⟩
  · rcases List.mem_cons.mp m with e | m
    · rw [e]
      exact hp
    · exact s.nt v (S.ain v m)
  · obtain ⟨v, h1, h2, h3⟩ := S.sl i f d e
    refine ⟨v, h1, fun q => (h2 q).same (hid_more (s.hid S.uh) np), fun q => ?_⟩
    obtain ⟨a, e1, m, na, o1⟩ := h3 q
    exact ⟨a, e1, List.mem_cons_of_mem _ m, na, own_more (s.hid S.uh) (fun o g => s.kp _ _ na g) np o1⟩
/-- a new object, held by a slot alone -/
theorem Rs.own (S : Rs K u n hs H σ ε) (s : Sm u H H') (ur : Urn u n' H') {i : Nat} {p : Addr} {d : D} (np : H p = none) (o : Own K (hid (p :: hs) H') H' p d) (hp : H' p ≠ none) : Rs K u n' (p :: hs) H' (σ.set i (some (.ref p))) (ε.set i (some (true, d))) := by
  have S1 := S.hide s ur np o.nt
  have nn : ∀ {j : Nat} {f : Bool} {e : D} {v : V}, ε[j]? = some (some (f, e)) → f = true → σ[j]? = some (some v) → v ≠ V.ref p := fun {j f e v} h1 h2 h3 c => by
    obtain ⟨w, e1, _, e3⟩ := S.sl _ _ _ h1
    obtain ⟨a, e4, m, _⟩ := e3 h2
    rw [h3] at e1
    cases e1
    rw [c] at e4
    cases e4
    exact (S.ain _ m).1 np
  refine ⟨by rw [List.length_set, List.length_set, S.len], S1.ain, S1.uh, ur, fun j f e h => ?_, fun j k d1 e1 a h1 h2 h3 h4 => ?_⟩
  · rcases get_set h with ⟨c, z, l⟩ | ⟨c, h⟩
    · cases z
      subst c
      rw [S.len] at l
      exact ⟨_, List.getElem?_set_self l, (fun q => nomatch q), fun _ => ⟨p, rfl, List.mem_cons_self, S.ur.there np, o⟩⟩
    · rw [List.getElem?_set_ne c]
      exact S1.sl j f e h
  · rcases get_set h1 with ⟨c1, z1, l1⟩ | ⟨c1, h1⟩
    · rcases get_set h2 with ⟨c2, z2, l2⟩ | ⟨c2, h2⟩
      · exact c1.symm.trans c2
      · rw [← c1, List.getElem?_set_self (by rw [← S.len]; exact l1)] at h3
        rw [List.getElem?_set_ne c2] at h4
        cases h3
        exact absurd rfl (nn h2 rfl h4)
    · rw [List.getElem?_set_ne c1] at h3
      rcases get_set h2 with ⟨c2, z2, l2⟩ | ⟨c2, h2⟩
      · rw [← c2, List.getElem?_set_self (by rw [← S.len]; exact l2)] at h4
        cases h4
        exact absurd rfl (nn h1 rfl h3)
      · rw [List.getElem?_set_ne c2] at h4
        exact S.ne j k d1 e1 a h1 h2 h3 h4
/-- a slot's object given to all -/
theorem Rs.frz1 (S : Rs K u n hs H σ ε) (us : List Addr) (h0 : ∀ (i : Nat) d a, ε[i]? = some (some (true, d)) → σ[i]? = some (some (V.ref a)) → a ∉ us) (hu : ∀ a ∈ us, a ∈ hs) (i : Nat) :
    ∃ ks, (∀ a ∈ us, a ∈ ks) ∧ (∀ a ∈ ks, a ∈ hs) ∧ Rs K u n ks H σ (frz1 ε i) ∧ (∀ (j : Nat) d a, (frz1 ε i)[j]? = some (some (true, d)) → σ[j]? = some (some (V.ref a)) → a ∉ us) := by
  unfold Fx.frz1
  split
  · rename_i d hf
    obtain ⟨v, h1, _, h3⟩ := S.sl i true d hf
    have keepus : ∀ (j : Nat) d2 (a : Addr), (ε.set i (some (false, d)))[j]? = some (some (true, d2)) → σ[j]? = some (some (V.ref a)) → a ∉ us := fun j d2 a h q => by
      rcases get_set h with ⟨_, z, _⟩ | ⟨c, h⟩
      · cases z
      · exact h0 j d2 a h q
    have hne : ∀ (j k : Nat) d1 e1 (a : Addr), (ε.set i (some (false, d)))[j]? = some (some (true, d1)) → (ε.set i (some (false, d)))[k]? = some (some (true, e1)) → σ[j]? = some (some (V.ref a)) → σ[k]? = some (some (V.ref a)) → j = k := fun j k d1 e1 a q1 q2 q3 q4 => by
      rcases get_set q1 with ⟨_, z, _⟩ | ⟨c1, q1⟩
      · cases z
      · rcases get_set q2 with ⟨_, z, _⟩ | ⟨c2, q2⟩
        · cases z
        · exact S.ne j k d1 e1 a q1 q2 q3 q4
    obtain ⟨a, e1, m, na, o⟩ := h3 rfl
    subst e1
    have au : a ∉ us := h0 i d a hf h1
    have sub : ∀ b ∈ hs.filter (fun b => decide (b ≠ a)), b ∈ hs := fun b mb => (List.mem_filter.mp mb).1
    have nk : a ∉ hs.filter fun b => decide (b ≠ a) := fun mb => absurd rfl (of_decide_eq_true (List.mem_filter.mp mb).2)
    refine ⟨hs.filter fun b => decide (b ≠ a), fun b mb => List.mem_filter.mpr ⟨hu b mb, decide_eq_true fun c => au (c ▸ mb)⟩, fun b mb => (List.mem_filter.mp mb).1, ⟨by rw [List.length_set, S.len], fun b mb => S.ain b (List.mem_filter.mp mb).1, fun b e => List.mem_filter.mpr ⟨S.uh b e, decide_eq_true fun c => na (by rw [e, c])⟩, S.ur, fun j g e h => ?_, hne⟩, keepus⟩
    rcases get_set h with ⟨c, z, _⟩ | ⟨c, h⟩
    · cases z
      subst c
      exact ⟨.ref a, h1, (fun _ => .inl (o.give sub nk)), fun q => nomatch q⟩
    · obtain ⟨w, g1, g2, g3⟩ := S.sl j g e h
      refine ⟨w, g1, fun q => (g2 q).same (hid_sub sub), fun q => ?_⟩
      obtain ⟨b, e2, mb, nb, ob⟩ := g3 q
      subst e2
      subst q
      have ba : b ≠ a := fun z => c (S.ne i j d e a hf h h1 (by rw [← z]; exact g1))
      refine ⟨b, rfl, List.mem_filter.mpr ⟨mb, decide_eq_true ba⟩, nb, ?_⟩
      cases e with
      | lst ds =>
        obtain ⟨xs, k1, k2⟩ := ob
        exact ⟨xs, k1, k2.same (hid_sub sub)⟩
      | dic ds =>
        obtain ⟨xs, k1, k2⟩ := ob
        exact ⟨xs, k1, k2.same (hid_sub sub)⟩
      | _ => exact False.elim ob
  · exact ⟨hs, hu, fun _ m => m, S, h0⟩
end
/-! ### answers -/
/-- what is wanted of exceptions, and where the urn is -/
structure XU where
  x : XK
  u : Option Addr
def RpF (K : PySem.W.Frag) (H : Hp) : List (Str × V) → List (Str × D) → Prop := Paired fun p q => p.1 = q.1 ∧ Rp K H p.2 q.2
/-- an exception of the class c, its fields fs: class C, its dict at p -/
def XAt (K : PySem.W.Frag) (mg : Str → Option Value) (hs : List Addr) (c : Str) (fs : List (Str × D)) (C : Value) (p : Addr) (H : Hp) : Prop :=
  mg c = some C ∧ ∃ fvs, H p = some (.xd fvs) ∧ RpF K (hid hs H) fvs fs
/-- no more draws than this -/
def lim : Nat := 1000000
def RWG {α : Type} (K : PySem.W.Frag) (mg : Str → Option Value) (E : XU) (hs : List Addr) : Nat → R α → Hp → (α → Nat → Hp → Prop) → Prop
  | n, .ok a, H, Q => ∀ H', Sm E.u H H' → Urn E.u n H' → Q a n H'
  | n, .ex c fs, H, _ => ∀ C p H', Sm E.u H H' → Urn E.u n H' → XAt K mg hs c fs C p H' → E.x C (some p) H'
  | _, .no, _, _ => False
  | n, .any P c k, H, Q => n + c ≤ lim ∧ ∀ d, P d → RWG K mg E hs (n + c) (k d) H Q
section
variable {K : PySem.W.Frag} {mg : Str → Option Value} {E : XU} {hs : List Addr} {α β : Type}
theorem RWG.mono {H H1 : Hp} {Q : α → Nat → Hp → Prop} (s : Sm E.u H H1) : ∀ {r : R α} {n : Nat}, RWG K mg E hs n r H Q → RWG K mg E hs n r H1 Q
  | .ok a, n, w => fun H' s' => w H' (s.trans s')
  | .ex c fs, n, w => fun C p H' s' => w C p H' (s.trans s')
  | .no, n, w => w
  | .any P c k, n, w => ⟨w.1, fun d p => RWG.mono s (w.2 d p)⟩
theorem RWG.imp {H : Hp} {Q Q' : α → Nat → Hp → Prop} (f : ∀ a n H', Sm E.u H H' → Urn E.u n H' → Q a n H' → Q' a n H') : ∀ {r : R α} {n : Nat}, RWG K mg E hs n r H Q → RWG K mg E hs n r H Q'
  | .ok a, n, w => fun H' s' u' => f a n H' s' u' (w H' s' u')
  | .ex c fs, n, w => w
  | .no, n, w => w
  | .any P c k, n, w => ⟨w.1, fun d p => RWG.imp f (w.2 d p)⟩
theorem RWG.bind {H : Hp} {Q : β → Nat → Hp → Prop} {k : α → R β} : ∀ {r : R α} {n : Nat}, RWG K mg E hs n (r >>= k) H Q → RWG K mg E hs n r H fun a n1 H1 => RWG K mg E hs n1 (k a) H1 Q
  | .ok a, n, w => fun H' s' _ => RWG.mono s' (show RWG K mg E hs n (k a) H Q from w)
  | .ex c fs, n, w => w
  | .no, n, w => w
  | .any P c k2, n, w => ⟨w.1, fun d p => RWG.bind (r := k2 d) (w.2 d p)⟩
/-- the other way about -/
theorem RWG.ibind {H : Hp} {Q : α → Nat → Hp → Prop} {Q' : β → Nat → Hp → Prop} {k : α → R β} (f : ∀ a n H', Sm E.u H H' → Urn E.u n H' → Q a n H' → RWG K mg E hs n (k a) H' Q') : ∀ {r : R α} {n : Nat}, Urn E.u n H → RWG K mg E hs n r H Q → RWG K mg E hs n (r >>= k) H Q'
  | .ok a, n, u, w => f a n H (Sm.refl _) u (w H (Sm.refl _) u)
  | .ex c fs, n, u, w => w
  | .no, n, u, w => w
  | .any P c k2, n, u, w => ⟨w.1, fun d p => RWG.ibind (r := k2 d) f (u.le (Nat.le_add_right _ _)) (w.2 d p)⟩
theorem RWG.map {H : Hp} {Q : α → Nat → Hp → Prop} {Q' : β → Nat → Hp → Prop} {g : α → β} (f : ∀ a n H', Q a n H' → Q' (g a) n H') : ∀ {r : R α} {n : Nat}, RWG K mg E hs n r H Q → RWG K mg E hs n (r >>= fun a => .ok (g a)) H Q'
  | .ok a, n, w => fun H' s' u' => f a n H' (w H' s' u')
  | .ex c fs, n, w => w
  | .no, n, w => w
  | .any P c k2, n, w => ⟨w.1, fun d p => RWG.map (r := k2 d) f (w.2 d p)⟩
/-- values -/
def RW (K : PySem.W.Frag) (mg : Str → Option Value) (E : XU) (hs : List Addr) (n : Nat) (r : R D) (H : Hp) (Q : VK) : Prop := RWG K mg E hs n r H fun d n' H' => ∀ v, Rp K (hid hs H') v d → Q v H'
def tEv (K : PySem.W.Frag) (mg : Str → Option Value) (E : XU) (m : Env → R D) : TE := fun σ H Q => ∃ hs ε n, Rs K E.u n hs H σ ε ∧ RWG K mg E hs n (m ε) H fun d n' H' => ∀ v, Rp K (hid hs H') v d → Q v H'
def tEvP (K : PySem.W.Frag) (mg : Str → Option Value) (E : XU) (m : Env → R D) : TE := fun σ H Q => ∃ hs ε n, Rs K E.u n hs H σ ε ∧ RWG K mg E hs n (m ε) H fun d n' H' => ∀ v, Rw K E.u hs H' v d → Q v H'
/-- a new object -/
def tEvF (K : PySem.W.Frag) (mg : Str → Option Value) (E : XU) (m : Env → R D) : TE := fun σ H Q => ∃ hs ε n, Rs K E.u n hs H σ ε ∧ RWG K mg E hs n (m ε) H fun d n' H' => ∀ p, H p = none → H' p ≠ none → Own K (hid (p :: hs) H') H' p d → Q (.ref p) H'
def tEvA (K : PySem.W.Frag) (mg : Str → Option Value) (E : XU) (m : Env → R (List D)) : TA := fun σ H Q => ∃ hs ε n, Rs K E.u n hs H σ ε ∧ RWG K mg E hs n (m ε) H fun ds n' H' => ∀ vs, RpA K (hid hs H') vs ds → Q vs H'
def tEvT (K : PySem.W.Frag) (mg : Str → Option Value) (E : XU) (m : Env → R Bool) : TT := fun σ H Q => ∃ hs ε n, Rs K E.u n hs H σ ε ∧ RWG K mg E hs n (m ε) H fun b n' H' => Q b H'
end
theorem _root_.L2.PE.of {X : Cx} {e : Expr} {t t' : TE} (h : PE X e t) (w : ∀ σ H Q, t' σ H Q → t σ H Q) : PE X e t' := ⟨fun pins s σ H Q I q => h.run pins s σ H Q I (w σ H Q q)⟩
theorem _root_.L2.PT.of {X : Cx} {e : Expr} {t t' : TT} (h : PT X e t) (w : ∀ σ H Q, t' σ H Q → t σ H Q) : PT X e t' := ⟨fun pins s σ H Q I q => h.run pins s σ H Q I (w σ H Q q)⟩
theorem _root_.L2.PW.of {X : Cx} {e : Expr} {t t' : TT} (h : PW X e t) (w : ∀ σ H Q, t' σ H Q → t σ H Q) : PW X e t' := ⟨fun wh pins s σ H Q I q => h.run wh pins s σ H Q I (w σ H Q q)⟩
theorem _root_.L2.PA.of {X : Cx} {e : List Expr} {t t' : TA} (h : PA X e t) (w : ∀ σ H Q, t' σ H Q → t σ H Q) : PA X e t' := ⟨fun pos pins s σ H Q I q => h.run pos pins s σ H Q I (w σ H Q q)⟩
theorem _root_.L2.PTs.of {X : Cx} {e : List Expr} {t t' : TT} (h : PTs X e t) (w : ∀ σ H Q, t' σ H Q → t σ H Q) : PTs X e t' := ⟨fun pins s σ H Q I q => h.run pins s σ H Q I (w σ H Q q)⟩
section
variable {X : Cx} {E : XU} {e : Expr} {m : Env → R D}
/-- a new object, given to all -/
theorem pe_f2v (h : PE X e (tEvF X.K X.mg E m)) : PE X e (tEv X.K X.mg E m) := h.of fun σ H Q ⟨hs, ε, n, S, w⟩ => ⟨hs, ε, n, S, w.imp fun d n' H' s _ q p n n' o => q _ (o.give (fun _ z => List.mem_cons_of_mem _ z) (S.ain.not n))⟩
theorem pe_v2p (h : PE X e (tEv X.K X.mg E m)) : PE X e (tEvP X.K X.mg E m) := h.of fun σ H Q ⟨hs, ε, n, S, w⟩ => ⟨hs, ε, n, S, w.imp fun d n' H' s _ q v r => q v (.sh r)⟩
/-! ### names, constants -/
def rdV (i : Nat) (ε : Env) : R D := match ε[i]? with
  | some (some (false, d)) => match d with
    | .urn => .no
    | _ => .ok d
  | _ => .no
def rdP (i : Nat) (ε : Env) : R D := match ε[i]? with
  | some (some (_, d)) => match d with
    | .urn => .no
    | _ => .ok d
  | _ => .no
theorem RpU.get {K : PySem.W.Frag} {u : Option Addr} {H : Hp} {v : V} {d : D} (r : RpU K u H v d) (h : d ≠ .urn) : Rp K H v d := r.elim id fun z => absurd z.1 h
variable {K : PySem.W.Frag} {mg : Str → Option Value}
theorem w_rdV {i : Nat} (h : PE X e (tVar i)) : PE X e (tEv X.K X.mg E (rdV i)) := h.of fun σ H Q ⟨hs, ε, n, S, w⟩ => by
  unfold rdV at w
  split at w
  · rename_i d hd
    obtain ⟨v, h1, h2, _⟩ := S.sl i _ d hd
    split at w
    · exact False.elim w
    · rename_i nu
      exact ⟨v, h1, w H (Sm.refl H) S.ur v ((h2 rfl).get fun z => nu z)⟩
  · exact False.elim w
theorem w_rdP {i : Nat} (h : PE X e (tVar i)) : PE X e (tEvP X.K X.mg E (rdP i)) := h.of fun σ H Q ⟨hs, ε, n, S, w⟩ => by
  unfold rdP at w
  split at w
  · rename_i f d hd
    obtain ⟨v, h1, h2, h3⟩ := S.sl i _ d hd
    split at w
    · exact False.elim w
    · rename_i nu
      refine ⟨v, h1, w H (Sm.refl H) S.ur v ?_⟩
      cases f with
      | false => exact .sh ((h2 rfl).get fun z => nu z)
      | true =>
        obtain ⟨a, e1, m, na, o⟩ := h3 rfl
        exact .ow e1 m na o
  · exact False.elim w
theorem w_c {v : V} {d : D} (r : ∀ K H, Rp K H v d) (h : PE X e (tC v)) : PE X e (tEv X.K X.mg E fun _ => .ok d) := h.of fun σ H Q ⟨hs, ε, n, S, w⟩ => w H (Sm.refl H) S.ur v (r _ _)
/-! ### argument lists, displays -/
variable {es : List Expr} {ma : Env → R (List D)}
theorem w_nil : PA X [] (tEvA X.K X.mg E fun _ => .ok []) := pa_nil.of fun σ H Q ⟨hs, ε, n, S, w⟩ => w H (Sm.refl H) S.ur [] .nil
theorem w_cons (h1 : PE X e (tEv X.K X.mg E m)) (h2 : PA X es (tEvA X.K X.mg E ma)) (hs : starEach (e :: es) X.env = (false, eval e X.env) :: starEach es X.env) :
    PA X (e :: es) (tEvA X.K X.mg E fun ε => m ε >>= fun d => ma ε >>= fun ds => .ok (d :: ds)) :=
  (pa_cons h1 h2 hs).of fun σ H Q ⟨hs, ε, n, S, w⟩ => ⟨hs, ε, n, S, (RWG.bind w).imp fun d n1 H1 s1 u1 w1 v rv => ⟨hs, ε, n1, S.same s1 u1, (RWG.bind w1).imp fun ds n2 H2 s2 u2 w2 vs rvs => w2 H2 (Sm.refl _) u2 (v :: vs) (.cons (rv.same (s2.hid S.uh)) rvs)⟩⟩
/-- the items of a list or a tuple -/
def itemsD : D → R (List D)
  | .lst ds => .ok ds
  | .tup ds => .ok ds
  | _ => .no
theorem Rw.items {u : Option Addr} {hs : List Addr} {H : Hp} {v : V} {d : D} {ds : List D} (h : Rw K u hs H v d) (e : itemsD d = .ok ds) : ∃ a xs, v = .ref a ∧ (SqP K H a xs ∨ H a = some (.lst xs)) ∧ RpA K (hid hs H) xs ds := by
  cases d with
  | lst es =>
    cases e
    obtain ⟨a, xs, e1, h1, h2⟩ := h.lst
    exact ⟨a, xs, e1, .inr h1, h2⟩
  | tup es =>
    cases e
    obtain ⟨a, xs, e1, h1, h2⟩ := h.tup
    exact ⟨a, xs, e1, .inl h1, h2⟩
  | _ => cases e
theorem RWG.items {E : XU} {hs : List Addr} {n : Nat} {d : D} {β : Type} {k : List D → R β} {H : Hp} {Q : β → Nat → Hp → Prop} (w : RWG K mg E hs n (itemsD d >>= k) H Q) : ∃ ds, itemsD d = .ok ds ∧ RWG K mg E hs n (k ds) H Q := by
  cases d with
  | lst es => exact ⟨es, rfl, w⟩
  | tup es => exact ⟨es, rfl, w⟩
  | _ => exact False.elim w
theorem w_star {p : Pos} (h1 : PE X e (tEvP X.K X.mg E m)) (h2 : PA X es (tEvA X.K X.mg E ma)) (hs : starEach (.Starred e p :: es) X.env = (true, eval e X.env) :: starEach es X.env) :
    PA X (.Starred e p :: es) (tEvA X.K X.mg E fun ε => m ε >>= fun d => itemsD d >>= fun ds => ma ε >>= fun es => .ok (ds ++ es)) :=
  (StX.pa_star h1 h2 hs).of fun σ H Q ⟨hs, ε, n, S, w⟩ => ⟨hs, ε, n, S, (RWG.bind w).imp fun d n1 H1 s1 u1 w1 v rv => by
    obtain ⟨ds, ed, w1⟩ := RWG.items w1
    obtain ⟨a, xs, e1, h1, h2⟩ := rv.items ed
    exact ⟨a, xs, e1, h1.imp SqP.T SqL.of, hs, ε, n1, S.same s1 u1, (RWG.bind w1).imp fun es n2 H2 s2 u2 w2 vs rvs => w2 H2 (Sm.refl _) u2 _ (rvs.app (h2.same (s2.hid S.uh)))⟩⟩
/-- no more than this many items are laid at once -/
def cap : Nat := 100000
theorem cap_ok {n : Nat} (h : n ≤ cap) : n ≤ sizeLine := by
  rw [sizeLine_eq]
  have : cap = 100000 := rfl
  omega
def capD (ds : List D) : R (List D) := if ds.length ≤ cap then .ok ds else .no
theorem RWG.cap {E : XU} {hs : List Addr} {n : Nat} {ds : List D} {β : Type} {k : List D → R β} {H : Hp} {Q : β → Nat → Hp → Prop} (w : RWG K mg E hs n (capD ds >>= k) H Q) : ds.length ≤ cap ∧ RWG K mg E hs n (k ds) H Q := by
  unfold capD at w
  split at w
  · rename_i h
    exact ⟨h, w⟩
  · exact False.elim w
theorem w_tup {x1 pos} (h : PA X es (tEvA X.K X.mg E ma)) : PE X (.Tuple es x1 pos) (tEv X.K X.mg E fun ε => ma ε >>= fun ds => capD ds >>= fun ds => .ok (.tup ds)) :=
  (pe_tup h).of fun σ H Q ⟨hs, ε, n, S, w⟩ => ⟨hs, ε, n, S, (RWG.bind w).imp fun ds n1 H1 s1 u1 w1 vs rvs => by
    obtain ⟨hz, w1⟩ := w1.cap
    refine ⟨by rw [rvs.len]; exact cap_ok hz, fun p np => w1 _ (Sm.new np) (u1.upd (u1.there np)) _ (.tup (.inl ?_) (rvs.same (hid_same (same_new np))))⟩
    rw [hid_out ((S.ain.same s1).not np), upd_same]⟩
theorem w_lst {pos} (h : PA X es (tEvA X.K X.mg E ma)) : PE X (.List es pos) (tEvF X.K X.mg E fun ε => ma ε >>= fun ds => capD ds >>= fun ds => .ok (.lst ds)) :=
  (pe_lst h).of fun σ H Q ⟨hs, ε, n, S, w⟩ => ⟨hs, ε, n, S, (RWG.bind w).imp fun ds n1 H1 s1 u1 w1 vs rvs => by
    obtain ⟨hz, w1⟩ := w1.cap
    refine ⟨by rw [rvs.len]; exact cap_ok hz, fun p np => w1 _ (Sm.new np) (u1.upd (u1.there np)) p (s1.free np) (by rw [upd_same]; exact fun z => nomatch z) ⟨_, upd_same, rvs.same (hid_more (hid_same (same_new np)) np)⟩⟩⟩
end
end Fx

/-! operations on data -/
namespace Fx
open PySem PySem.Spec PyProof.Rows L2
section
variable {K : PySem.W.Frag} {mg : Str → Option Value} {E : XU} {n : Nat} {hs : List Addr} {H : Hp} {x y : V} {d e : D} {Q : VK}
structure Hd (u : Option Addr) (n : Nat) (hs : List Addr) (H : Hp) : Prop where
  ain : AllIn hs H
  uh : ∀ a, u = some a → a ∈ hs
  ur : Urn u n H
theorem Rs.hd {K : PySem.W.Frag} {u : Option Addr} {n : Nat} {hs : List Addr} {H : Hp} {σ : L2.St} {ε : Env} (S : Rs K u n hs H σ ε) : Hd u n hs H := ⟨S.ain, S.uh, S.ur⟩
theorem Hd.same {u : Option Addr} {n n' : Nat} {hs : List Addr} {H H' : Hp} (h : Hd u n hs H) (s : Sm u H H') (ur : Urn u n' H') : Hd u n' hs H' := ⟨h.ain.same s, h.uh, ur⟩
/-- a rule by values, for data -/
def Op2 (K : PySem.W.Frag) (mg : Str → Option Value) (E : XU) (r : R2) (f : D → D → R D) : Prop := ∀ (n : Nat) (hs : List Addr) (H : Hp) (x y : V) (d e : D) (Q : VK), Hd E.u n hs H → Rw K E.u hs H x d → Rw K E.u hs H y e → RW K mg E hs n (f d e) H Q → r x y H Q
/-- a new list of known items -/
theorem new_lst {xs : List V} {ds : List D} (hd : Hd E.u n hs H) (r : RpA K (hid hs H) xs ds) (w : RW K mg E hs n (.ok (.lst ds)) H Q) : ∀ p, H p = none → Q (.ref p) (upd H p (.lst xs)) := fun p np =>
  w _ (Sm.new np) (hd.ur.upd (hd.ur.there np)) _ (.lst (by rw [hid_out (hd.ain.not np), upd_same]) (r.same (hid_same (same_new np))))
theorem new_tup {xs : List V} {ds : List D} (hd : Hd E.u n hs H) (r : RpA K (hid hs H) xs ds) (w : RW K mg E hs n (.ok (.tup ds)) H Q) : ∀ p, H p = none → Q (.ref p) (upd H p (.tup xs)) := fun p np =>
  w _ (Sm.new np) (hd.ur.upd (hd.ur.there np)) _ (.tup (.inl (by rw [hid_out (hd.ain.not np), upd_same])) (r.same (hid_same (same_new np))))
theorem now {d : D} (hd : Hd E.u n hs H) (r : Rp K (hid hs H) x d) (w : RW K mg E hs n (.ok d) H Q) : Q x H := w H (Sm.refl H) hd.ur x r
def addD : D → D → R D
  | .int i, .int j => .ok (.int (i + j))
  | .lst a, .lst b => if a.length + b.length ≤ cap then .ok (.lst (a ++ b)) else .no
  | .tup a, .tup b => if a.length + b.length ≤ cap then .ok (.tup (a ++ b)) else .no
  | .str a, .str b => if a.length + b.length ≤ cap then .ok (.str (a ++ b)) else .no
  | _, _ => .no
theorem RWG.ite {α : Type} {c : Prop} [Decidable c] {r : R α} {Q : α → Nat → Hp → Prop} (w : RWG K mg E hs n (if c then r else .no) H Q) : c ∧ RWG K mg E hs n r H Q := by
  split at w
  · rename_i h
    exact ⟨h, w⟩
  · exact False.elim w
abbrev rAddD (K : PySem.W.Frag) : R2 := fun x y H Q => (((fun x y H Q => (rI0 (fun i j => V.int (i + j))) x y H Q ∨ rCat x y H Q) : R2) x y H Q) ∨ ((fun x y H Q => rCatA K x y H Q ∨ (∃ i j, x = .str i ∧ y = .str j ∧ i.length + j.length ≤ sizeLine ∧ Q (.str (i ++ j)) H)) : R2) x y H Q
theorem op_addD {X : Cx} : OpR X (binaryOp .Add) (rAddD X.K) := (op_add.or op_cat).or (op_catA.or op_add_str)
theorem o_add : Op2 K mg E (rAddD K) addD := by
  intro n hs H x y d e Q ain rx ry w
  try dsimp only at w
  unfold addD at w
  split at w
  · rw [rx.int, ry.int]
    exact .inl (.inl ⟨_, _, rfl, rfl, now ain (.int _) w⟩)
  · obtain ⟨h, w⟩ := RWG.ite w
    obtain ⟨a, xs, e1, h1, r1⟩ := rx.lst
    obtain ⟨b, zs, e2, h2, r2⟩ := ry.lst
    exact .inl (.inr ⟨a, b, xs, zs, e1, e2, h1, h2, by rw [r1.len, r2.len]; exact cap_ok h, new_lst ain (r2.app r1) w⟩)
  · rename_i as bs
    obtain ⟨h, w⟩ := RWG.ite w
    obtain ⟨a, xs, e1, h1, r1⟩ := rx.tup
    obtain ⟨b, zs, e2, h2, r2⟩ := ry.tup
    have g1 : ∀ {v : V} {q : Addr} {vs : List V} {ds : List D}, v = .ref q → Rw K E.u hs H v (.tup ds) → Rp K (hid hs H) v (.tup ds) := fun ev r => by
      cases r with
      | sh h => exact h
      | ow _ _ _ h => exact False.elim h
    refine .inr (.inl ⟨a, b, xs, zs, e1, e2, h1.T, h2.T, by rw [r1.len, r2.len]; exact cap_ok h, fun c => ?_, fun _ c => ?_, fun _ _ => new_tup ain (r2.app r1) w⟩)
    · subst c
      have z : as = [] := List.length_eq_zero_iff.mp r1.len.symm
      subst z
      rw [← e2]
      exact now ain (g1 (vs := []) e2 ry) w
    · subst c
      have z : bs = [] := List.length_eq_zero_iff.mp r2.len.symm
      subst z
      rw [← e1]
      exact now ain (g1 (vs := []) e1 rx) (by rw [List.append_nil] at w; exact w)
  · obtain ⟨h, w⟩ := RWG.ite w
    rw [rx.str, ry.str]
    exact .inr (.inr ⟨_, _, rfl, rfl, cap_ok h, now ain (.str _) w⟩)
  · exact False.elim w
def subD : D → D → R D
  | .int i, .int j => .ok (.int (i - j))
  | _, _ => .no
theorem o_sub : Op2 K mg E (rI0 fun i j => .int (i - j)) subD := by
  intro n hs H x y d e Q ain rx ry w
  try dsimp only at w
  unfold subD at w
  split at w
  · rw [rx.int, ry.int]
    exact ⟨_, _, rfl, rfl, now ain (.int _) w⟩
  · exact False.elim w
def mulD : D → D → R D
  | .int i, .int j => if (-(2 ^ 64) < i ∧ i < 2 ^ 64) ∨ (-(2 ^ 64) < j ∧ j < 2 ^ 64) then .ok (.int (i * j)) else .no
  | .lst a, .int k => if -(2 ^ 63) ≤ k ∧ k < 2 ^ 63 ∧ a.length * k.toNat ≤ cap then .ok (.lst (List.replicate k.toNat a).flatten) else .no
  | _, _ => .no
abbrev rMulD : R2 := fun x y H Q => rI CMul (fun i j => V.int (i * j)) x y H Q ∨ rRep x y H Q
theorem op_mulD {X : Cx} : OpR X (binaryOp .Mult) rMulD := op_mul.or op_rep
theorem RpA.rep {xs : List V} {ds : List D} (r : RpA K H xs ds) : ∀ n : Nat, RpA K H (List.replicate n xs).flatten (List.replicate n ds).flatten
  | 0 => .nil
  | n + 1 => by
    rw [List.replicate_succ, List.replicate_succ, List.flatten_cons, List.flatten_cons]
    exact (RpA.rep r n).app r
theorem o_mul : Op2 K mg E rMulD mulD := by
  intro n hs H x y d e Q ain rx ry w
  try dsimp only at w
  unfold mulD at w
  split at w
  · obtain ⟨h, w⟩ := RWG.ite w
    rw [rx.int, ry.int]
    exact .inl ⟨_, _, rfl, rfl, h, now ain (.int _) w⟩
  · obtain ⟨⟨h1, h2, h3⟩, w⟩ := RWG.ite w
    obtain ⟨a, xs, e1, g1, r1⟩ := rx.lst
    rw [ry.int]
    exact .inr ⟨a, _, xs, e1, rfl, g1, h1, h2, by rw [r1.len]; exact cap_ok h3, new_lst ain (r1.rep _) w⟩
  · exact False.elim w
def modD : D → D → R D
  | .int i, .int j => if 0 < j then .ok (.int (i % j)) else .no
  | _, _ => .no
theorem o_mod : Op2 K mg E (rI (fun _ j => 0 < j) fun i j => .int (i % j)) modD := by
  intro n hs H x y d e Q ain rx ry w
  try dsimp only at w
  unfold modD at w
  split at w
  · obtain ⟨h, w⟩ := RWG.ite w
    rw [rx.int, ry.int]
    exact ⟨_, _, rfl, rfl, h, now ain (.int _) w⟩
  · exact False.elim w
def fdivD : D → D → R D
  | .int i, .int j => if 0 < j ∧ j < 1073741824 then .ok (.int (i / j)) else .no
  | _, _ => .no
theorem o_fdiv : Op2 K mg E (rI CDiv fun i j => .int (i / j)) fdivD := by
  intro n hs H x y d e Q ain rx ry w
  try dsimp only at w
  unfold fdivD at w
  split at w
  · obtain ⟨h, w⟩ := RWG.ite w
    rw [rx.int, ry.int]
    exact ⟨_, _, rfl, rfl, h, now ain (.int _) w⟩
  · exact False.elim w
/-! ### comparisons -/
def bR (r : R Bool) : R D := r >>= fun b => .ok (.bl b)
def eqDeep (d e : D) : R Bool := match toPy d, toPy e with
  | some p, some q => if SeqAt.shaped p = true ∧ SeqAt.shaped q = true then .ok (PyData.eqv p q) else .no
  | _, _ => .no
def eqD : D → D → R Bool
  | .str a, .str b => .ok (decide (a = b))
  | .int a, .int b => .ok (decide (a = b))
  | .bl a, .bl b => .ok (decide (a = b))
  | .non, .non => .ok true
  | d, e => eqDeep d e
abbrev rEqB (K : PySem.W.Frag) : R2 := fun x y H Q => rEq x y H Q ∨ rEqD K x y H Q
abbrev rNeB (K : PySem.W.Frag) : R2 := fun x y H Q => rNe x y H Q ∨ rNeD K x y H Q
theorem op_eqB {X : Cx} (hu : X.A.units + 64 < cLine) : OpR X (compareOp .Eq) (rEqB X.K) := op_eq.or (op_eqD hu)
theorem op_neB {X : Cx} (hu : X.A.units + 64 < cLine) : OpR X (compareOp .NotEq) (rNeB X.K) := op_ne.or (op_neD hu)
theorem o_eqDeep (ain : Hd E.u n hs H) (rx : Rw K E.u hs H x d) (ry : Rw K E.u hs H y e) {f : Bool → Bool} (w : RW K mg E hs n (eqDeep d e >>= fun b => .ok (.bl (f b))) H Q) : ∃ p q, Dp K H x p ∧ Dp K H y q ∧ SeqAt.shaped p = true ∧ SeqAt.shaped q = true ∧ Q (.bl (f (PyData.eqv p q))) H := by
  unfold eqDeep at w
  cases q1 : toPy d with
  | none =>
    rw [q1] at w
    exact False.elim w
  | some p =>
    cases q2 : toPy e with
    | none =>
      rw [q1, q2] at w
      exact False.elim w
    | some q =>
      rw [q1, q2] at w
      dsimp only at w
      split at w
      · rename_i h
        exact ⟨p, q, rx.dp q1, ry.dp q2, h.1, h.2, now ain (.bl _) w⟩
      · exact False.elim w
theorem o_eq : Op2 K mg E (rEqB K) fun d e => eqD d e >>= fun b => .ok (.bl b) := by
  intro n hs H x y d e Q ain rx ry w
  try dsimp only at w
  unfold eqD at w
  split at w
  · rw [rx.str, ry.str]
    refine .inl ⟨rfl, ?_⟩
    have q := now ain (.bl _) w
    rw [dec_str, Bool.beq_eq_decide_eq]
    exact q
  · rw [rx.int, ry.int]
    refine .inl ⟨rfl, ?_⟩
    have q := now ain (.bl _) w
    rw [dec_int, Bool.beq_eq_decide_eq]
    exact q
  · rw [rx.bl, ry.bl]
    refine .inl ⟨rfl, ?_⟩
    have q := now ain (.bl _) w
    rw [dec_bl, Bool.beq_eq_decide_eq]
    exact q
  · rw [rx.non, ry.non]
    exact .inl ⟨rfl, now ain (.bl _) w⟩
  · exact .inr (o_eqDeep ain (f := id) rx ry w)
theorem o_ne : Op2 K mg E (rNeB K) fun d e => eqD d e >>= fun b => .ok (.bl (!b)) := by
  intro n hs H x y d e Q ain rx ry w
  try dsimp only at w
  unfold eqD at w
  split at w
  · rw [rx.str, ry.str]
    refine .inl ⟨rfl, ?_⟩
    have q := now ain (.bl _) w
    rw [dec_str, Bool.beq_eq_decide_eq]
    exact q
  · rw [rx.int, ry.int]
    refine .inl ⟨rfl, ?_⟩
    have q := now ain (.bl _) w
    rw [dec_int, Bool.beq_eq_decide_eq]
    exact q
  · rw [rx.bl, ry.bl]
    refine .inl ⟨rfl, ?_⟩
    have q := now ain (.bl _) w
    rw [dec_bl, Bool.beq_eq_decide_eq]
    exact q
  · rw [rx.non, ry.non]
    exact .inl ⟨rfl, now ain (.bl _) w⟩
  · exact .inr (o_eqDeep ain (f := fun b => !b) rx ry w)
def ltD : D → D → R Bool
  | .int i, .int j => .ok (decide (i < j))
  | .str a, .str b => .ok (decide (a.cps.toList < b.cps.toList))
  | _, _ => .no
abbrev rLtD : R2 := fun x y H Q => rI0 (fun i j => V.bl (decide (i < j))) x y H Q ∨ (∃ i j, x = .str i ∧ y = .str j ∧ Q (.bl (decide (i.cps.toList < j.cps.toList))) H)
theorem op_ltD {X : Cx} : OpR X (compareOp .Lt) rLtD := op_lt.or op_lt_str
theorem o_lt : Op2 K mg E rLtD fun d e => ltD d e >>= fun b => .ok (.bl b) := by
  intro n hs H x y d e Q ain rx ry w
  try dsimp only at w
  unfold ltD at w
  split at w
  · rw [rx.int, ry.int]
    exact .inl ⟨_, _, rfl, rfl, now ain (.bl _) w⟩
  · rw [rx.str, ry.str]
    exact .inr ⟨_, _, rfl, rfl, now ain (.bl _) w⟩
  · exact False.elim w
def cmpI (p : Int → Int → Bool) : D → D → R Bool
  | .int i, .int j => .ok (p i j)
  | _, _ => .no
theorem o_cmpI {p : Int → Int → Bool} : Op2 K mg E (rI0 fun i j => .bl (p i j)) fun d e => cmpI p d e >>= fun b => .ok (.bl b) := by
  intro n hs H x y d e Q ain rx ry w
  try dsimp only at w
  unfold cmpI at w
  split at w
  · rw [rx.int, ry.int]
    exact ⟨_, _, rfl, rfl, now ain (.bl _) w⟩
  · exact False.elim w
/-- is None -/
def isND : D → Bool
  | .non => true
  | _ => false
theorem Rw.isN {u : Option Addr} (r : Rw K u hs H x d) : decide (x = .non) = isND d := by
  cases r with
  | sh h => cases h <;> rfl
  | ow e m _ h =>
    subst e
    cases d <;> first | rfl | exact False.elim h
theorem o_isN : Op2 K mg E (fun x y H Q => y = .non ∧ Q (.bl (decide (x = .non))) H) fun d e => (match e with | .non => .ok (.bl (isND d)) | _ => .no) := by
  intro n hs H x y d e Q ain rx ry w
  try dsimp only at w
  split at w
  · refine ⟨ry.non, ?_⟩
    rw [rx.isN]
    exact now ain (.bl _) w
  · exact False.elim w
theorem o_notN : Op2 K mg E (fun x y H Q => y = .non ∧ Q (.bl (!decide (x = .non))) H) fun d e => (match e with | .non => .ok (.bl (!isND d)) | _ => .no) := by
  intro n hs H x y d e Q ain rx ry w
  try dsimp only at w
  split at w
  · refine ⟨ry.non, ?_⟩
    rw [rx.isN]
    exact now ain (.bl _) w
  · exact False.elim w
/-! ### in -/
def vOf : D → Option V
  | .non => some .non
  | .bl b => some (.bl b)
  | .int i => some (.int i)
  | .str z => some (.str z)
  | _ => none
def vsOf : List D → Option (List V)
  | [] => some []
  | d :: ds => match vOf d, vsOf ds with
    | some v, some vs => some (v :: vs)
    | _, _ => none
theorem Rp.flat {v : V} (r : Rp K H x d) (e : vOf d = some v) : x = v ∧ flatV x = true := by
  cases r <;> first | (cases e; exact ⟨rfl, rfl⟩) | cases e
theorem Rw.flat {u : Option Addr} {v : V} (r : Rw K u hs H x d) (e : vOf d = some v) : x = v ∧ flatV x = true := by
  cases r with
  | sh h => exact h.flat e
  | ow e1 m _ h => cases d <;> first | exact False.elim h | cases e
theorem RpA.flat : ∀ {xs : List V} {ds : List D} {vs : List V}, RpA K H xs ds → vsOf ds = some vs → xs = vs ∧ xs.all flatV = true
  | _, _, _, .nil, e => by
    cases e
    exact ⟨rfl, rfl⟩
  | _, d :: ds, _, .cons h a, e => by
    rw [vsOf] at e
    cases q1 : vOf d with
    | none =>
      rw [q1] at e
      cases e
    | some p =>
      cases q2 : vsOf ds with
      | none =>
        rw [q1, q2] at e
        cases e
      | some ps =>
        rw [q1, q2] at e
        cases e
        obtain ⟨h1, h2⟩ := h.flat q1
        obtain ⟨h3, h4⟩ := RpA.flat a q2
        exact ⟨by rw [h1, h3], by rw [List.all_cons, h2, h4]; rfl⟩
def keyD : D → Option Key
  | .int i => some (.inl i)
  | .str z => some (.inr z)
  | _ => none
theorem Rw.key {u : Option Addr} {k : Key} (r : Rw K u hs H x d) (e : keyD d = some k) : x = kV k := by
  cases d with
  | int i =>
    cases e
    exact r.int
  | str z =>
    cases e
    exact r.str
  | _ => cases e
def inSeq (d : D) (ds : List D) : R Bool := match vOf d, vsOf ds with
  | some v, some vs => .ok (inV v vs)
  | _, _ => match toPy d, toPys ds with
    | some p, some ps => if SeqAt.shaped p = true ∧ SeqAt.shaped (.list ps) = true then .ok (ps.any fun z => PyData.eqv z p) else .no
    | _, _ => .no
def lookD (kds : List (Key × D)) (k : Key) : Option D := (kds.find? fun kv => decide (kv.1 = k)).map (·.2)
def inD (d c : D) : R Bool := match c with
  | .lst ds => inSeq d ds
  | .tup ds => inSeq d ds
  | .dic kds => match keyD d with
    | some k => .ok (lookD kds k).isSome
    | none => .no
  | _ => .no
theorem RpK.look {k : Key} : ∀ {kvs : List (Key × V)} {kds : List (Key × D)}, RpK K H kvs kds → (∃ v d, valV kvs k = some v ∧ lookD kds k = some d ∧ Rp K H v d) ∨ (valV kvs k = none ∧ lookD kds k = none)
  | _, _, .nil => .inr ⟨rfl, rfl⟩
  | _, _, .cons (k := j) (v := v) (d := d) (vs := vs) (ds := ds) h a => by
    by_cases c : j = k
    · exact .inl ⟨v, d, valV_pos (p := (j, v)) c, by unfold lookD; rw [List.find?_cons, decide_eq_true c]; rfl, h⟩
    · rw [valV_neg (p := (j, v)) c, show lookD ((j, d) :: ds) k = lookD ds k by unfold lookD; rw [List.find?_cons, decide_eq_false c]]
      exact RpK.look a
/-- y in c, by values -/
def rDIn (neg : Bool) : R2 := fun y x H Q => ∃ a o, x = .ref a ∧ DGet H a y o ∧ Q (.bl (if neg then !o.isSome else o.isSome)) H
theorem op_inDict {X : Cx} (hu : X.A.units + 1 < cLine) : OpR X (compareOp .In) (rDIn false) := by
  intro pins s σ H y x iv u Q I ry rx h
  obtain ⟨a, ov, ex, g, q2⟩ := h
  subst ex
  obtain rfl : u = Value.ref a := rx
  exact d_in hu I g ry fun s3 I3 => ⟨.bl ov.isSome, H, I3, rfl, q2⟩
theorem op_notInDict {X : Cx} (hu : X.A.units + 1 < cLine) : OpR X (compareOp .NotIn) (rDIn true) := by
  intro pins s σ H y x iv u Q I ry rx h
  obtain ⟨a, ov, ex, g, q2⟩ := h
  subst ex
  obtain rfl : u = Value.ref a := rx
  exact d_notIn hu I g ry fun s3 I3 => ⟨.bl (!ov.isSome), H, I3, rfl, q2⟩
def rInT (K : PySem.W.Frag) (neg : Bool) : R2 := fun x y H Q => ∃ d ds, Dp K H x d ∧ Dp K H y (.tuple ds) ∧ SeqAt.shaped d = true ∧ SeqAt.shaped (.list ds) = true ∧ Q (.bl (if neg then !(ds.any fun z => PyData.eqv z d) else ds.any fun z => PyData.eqv z d)) H
theorem op_inT {X : Cx} (hu : X.A.units + 65 < cLine) : OpR X (compareOp .In) (rInT X.K false) := by
  intro pins s σ H x y v u Q I rx ry h
  obtain ⟨d, ds, hd, he, sd, se, q⟩ := h
  obtain ⟨as, r1⟩ := Dp.reads I d x v hd rx
  obtain ⟨bs, r2⟩ := Dp.reads I (.tuple ds) y u he ry
  exact SeqAt.in_tuple_reads r2 r1 (SeqAt.canLay_of_shaped se) (SeqAt.canLay_of_shaped sd) (room_in_shaped sd hu) ⟨.bl _, H, I, rfl, q⟩
theorem op_notInT {X : Cx} (hu : X.A.units + 65 < cLine) : OpR X (compareOp .NotIn) (rInT X.K true) := by
  intro pins s σ H x y v u Q I rx ry h
  obtain ⟨d, ds, hd, he, sd, se, q⟩ := h
  obtain ⟨as, r1⟩ := Dp.reads I d x v hd rx
  obtain ⟨bs, r2⟩ := Dp.reads I (.tuple ds) y u he ry
  exact SeqAt.notIn_tuple_reads r2 r1 (SeqAt.canLay_of_shaped se) (SeqAt.canLay_of_shaped sd) (room_in_shaped sd hu) ⟨.bl _, H, I, rfl, q⟩
abbrev rInB (K : PySem.W.Frag) : R2 := fun x y H Q => ((fun x y H Q => rIn K false x y H Q ∨ rInD K x y H Q) : R2) x y H Q ∨ ((fun x y H Q => rInT K false x y H Q ∨ rDIn false x y H Q) : R2) x y H Q
abbrev rNotInB (K : PySem.W.Frag) : R2 := fun x y H Q => ((fun x y H Q => rIn K true x y H Q ∨ rNotInD K x y H Q) : R2) x y H Q ∨ ((fun x y H Q => rInT K true x y H Q ∨ rDIn true x y H Q) : R2) x y H Q
theorem op_inB {X : Cx} (hu : X.A.units + 65 < cLine) : OpR X (compareOp .In) (rInB X.K) := (op_in_seq.or (op_inD hu)).or ((op_inT hu).or (op_inDict (by omega)))
theorem op_notInB {X : Cx} (hu : X.A.units + 65 < cLine) : OpR X (compareOp .NotIn) (rNotInB X.K) := (op_notIn_seq.or (op_notInD hu)).or ((op_notInT hu).or (op_notInDict (by omega)))
theorem o_inSeq {f : Bool → Bool} {ds : List D} {a : Addr} {xs : List V} (ain : Hd E.u n hs H) (rx : Rw K E.u hs H x d) (ra : RpA K (hid hs H) xs ds) (w : RW K mg E hs n (inSeq d ds >>= fun b => .ok (.bl (f b))) H Q) :
    (flatV x = true ∧ xs.all flatV = true ∧ Q (.bl (f (inV x xs))) H) ∨ ∃ p ps, Dp K H x p ∧ toPys ds = some ps ∧ SeqAt.shaped p = true ∧ SeqAt.shaped (.list ps) = true ∧ Q (.bl (f (ps.any fun z => PyData.eqv z p))) H := by
  unfold inSeq at w
  have deep : RW K mg E hs n ((match toPy d, toPys ds with
    | some p, some ps => if SeqAt.shaped p = true ∧ SeqAt.shaped (.list ps) = true then R.ok (ps.any fun z => PyData.eqv z p) else .no
    | _, _ => .no) >>= fun b => .ok (.bl (f b))) H Q → ∃ p ps, Dp K H x p ∧ toPys ds = some ps ∧ SeqAt.shaped p = true ∧ SeqAt.shaped (.list ps) = true ∧ Q (.bl (f (ps.any fun z => PyData.eqv z p))) H := fun w => by
    cases q1 : toPy d with
    | none =>
      rw [q1] at w
      exact False.elim w
    | some p =>
      cases q2 : toPys ds with
      | none =>
        rw [q1, q2] at w
        exact False.elim w
      | some q =>
        rw [q1, q2] at w
        dsimp only at w
        split at w
        · rename_i h
          exact ⟨p, q, rx.dp q1, rfl, h.1, h.2, now ain (.bl _) w⟩
        · exact False.elim w
  cases q1 : vOf d with
  | none =>
    rw [q1] at w
    exact .inr (deep w)
  | some v =>
    cases q2 : vsOf ds with
    | none =>
      rw [q1, q2] at w
      exact .inr (deep w)
    | some vs =>
      rw [q1, q2] at w
      obtain ⟨h1, h2⟩ := rx.flat q1
      obtain ⟨h3, h4⟩ := ra.flat q2
      exact .inl ⟨h2, h4, by rw [h1, h3]; exact now ain (.bl _) w⟩
theorem Rw.dps {u : Option Addr} {ds : List D} {ps : List PyData} (r : Rw K u hs H x (.lst ds)) (e : toPys ds = some ps) : Dp K H x (.list ps) := r.dp (by rw [toPy, e]; rfl)
theorem Rw.dpt {u : Option Addr} {ds : List D} {ps : List PyData} (r : Rw K u hs H x (.tup ds)) (e : toPys ds = some ps) : Dp K H x (.tuple ps) := r.dp (by rw [toPy, e]; rfl)
theorem o_in : Op2 K mg E (rInB K) fun d e => inD d e >>= fun b => .ok (.bl b) := by
  intro n hs H x y d e Q ain rx ry w
  try dsimp only at w
  unfold inD at w
  split at w
  · obtain ⟨a, xs, e1, h1, r1⟩ := ry.lst
    rcases o_inSeq (a := a) (f := id) ain rx r1 w with ⟨g1, g2, q⟩ | ⟨p, ps, g1, g2, g3, g4, q⟩
    · exact .inl (.inl ⟨a, xs, e1, .inl (SqL.of h1), g1, g2, q⟩)
    · exact .inl (.inr ⟨p, ps, g1, ry.dps g2, g3, g4, q⟩)
  · obtain ⟨a, xs, e1, h1, r1⟩ := ry.tup
    rcases o_inSeq (a := a) (f := id) ain rx r1 w with ⟨g1, g2, q⟩ | ⟨p, ps, g1, g2, g3, g4, q⟩
    · exact .inl (.inl ⟨a, xs, e1, .inr (h1.T), g1, g2, q⟩)
    · exact .inr (.inl ⟨p, ps, g1, ry.dpt g2, g3, g4, q⟩)
  · split at w
    · rename_i k hk
      obtain ⟨a, xs, e1, h1, r1⟩ := ry.dic
      have ek := rx.key hk
      refine .inr (.inr ⟨a, valV xs k, e1, by rw [ek]; exact DGet.k h1, ?_⟩)
      have q := now ain (.bl _) w
      rcases r1.look (k := k) with ⟨v, d', g1, g2, _⟩ | ⟨g1, g2⟩
      · rw [g1]
        rw [g2] at q
        exact q
      · rw [g1]
        rw [g2] at q
        exact q
    · exact False.elim w
  · exact False.elim w
theorem o_notIn : Op2 K mg E (rNotInB K) fun d e => inD d e >>= fun b => .ok (.bl (!b)) := by
  intro n hs H x y d e Q ain rx ry w
  try dsimp only at w
  unfold inD at w
  split at w
  · obtain ⟨a, xs, e1, h1, r1⟩ := ry.lst
    rcases o_inSeq (a := a) (f := fun b => !b) ain rx r1 w with ⟨g1, g2, q⟩ | ⟨p, ps, g1, g2, g3, g4, q⟩
    · exact .inl (.inl ⟨a, xs, e1, .inl (SqL.of h1), g1, g2, q⟩)
    · exact .inl (.inr ⟨p, ps, g1, ry.dps g2, g3, g4, q⟩)
  · obtain ⟨a, xs, e1, h1, r1⟩ := ry.tup
    rcases o_inSeq (a := a) (f := fun b => !b) ain rx r1 w with ⟨g1, g2, q⟩ | ⟨p, ps, g1, g2, g3, g4, q⟩
    · exact .inl (.inl ⟨a, xs, e1, .inr (h1.T), g1, g2, q⟩)
    · exact .inr (.inl ⟨p, ps, g1, ry.dpt g2, g3, g4, q⟩)
  · split at w
    · rename_i k hk
      obtain ⟨a, xs, e1, h1, r1⟩ := ry.dic
      have ek := rx.key hk
      refine .inr (.inr ⟨a, valV xs k, e1, by rw [ek]; exact DGet.k h1, ?_⟩)
      have q := now ain (.bl _) w
      rcases r1.look (k := k) with ⟨v, d', g1, g2, _⟩ | ⟨g1, g2⟩
      · rw [g1]
        rw [g2] at q
        exact q
      · rw [g1]
        rw [g2] at q
        exact q
    · exact False.elim w
  · exact False.elim w
/-! ### an item -/
def idxD : D → D → R D
  | .lst ds, .int i => match atI ds i with
    | some d => .ok d
    | none => .no
  | .tup ds, .int i => match atI ds i with
    | some d => .ok d
    | none => .no
  | .dic kds, y => match keyD y with
    | some k => match lookD kds k with
      | some d => .ok d
      | none => .no
    | none => .no
  | .str z, .int i => if z.length ≤ cap then match atI z.cps.toList i with
      | some c => .ok (.str ⟨#[c]⟩)
      | none => .no
    else .no
  | _, _ => .no
def rIxD : R2 := fun x y H Q => ∃ a v, x = .ref a ∧ DGet H a y (some v) ∧ Q v H
theorem ix_dict {X : Cx} (hu : X.A.units + 1 < cLine) : IxR X rIxD := by
  intro value slice pins s σ H x y v u Q I rx ry h hs
  obtain ⟨a, w, ex, g, q⟩ := h
  subst ex
  obtain rfl : v = Value.ref a := rx
  exact tail_any (dict_typeIs I g) PySem.F.slot_dict_getitem.lookup (d_getItem hu I g ry fun w' s3 I3 rw' => ⟨w, H, I3, rw', q⟩) hs
abbrev rIxB (K : PySem.W.Frag) : R2 := fun x y H Q => rIx K x y H Q ∨ rIxD x y H Q
theorem ix_B {X : Cx} (hu : X.A.units + 1 < cLine) : IxR X (rIxB X.K) := ix_seq.or (ix_dict hu)
theorem RpA.atI {xs : List V} {ds : List D} {i : Int} {d : D} (r : RpA K H xs ds) (e : atI ds i = some d) : ∃ v, atI xs i = some v ∧ Rp K H v d := by
  unfold L2.atI at e ⊢
  rw [r.len]
  cases q : ixN ds.length i with
  | none =>
    rw [q] at e
    cases e
  | some j =>
    rw [q] at e
    obtain ⟨v, h1, h2⟩ := r.at' (i := j) (show ds[j]? = some d from e)
    exact ⟨v, h1, h2⟩
theorem o_idx : Op2 K mg E (rIxB K) idxD := by
  intro n hs H x y d e Q ain rx ry w
  try dsimp only at w
  unfold idxD at w
  split at w
  · split at w
    · rename_i h
      obtain ⟨a, xs, e1, h1, r1⟩ := rx.lst
      obtain ⟨v, h2, h3⟩ := r1.atI h
      exact .inl (.inl ⟨a, xs, _, v, e1, ry.int, SqL.of h1, h2, now ain h3 w⟩)
    · exact False.elim w
  · split at w
    · rename_i h
      obtain ⟨a, xs, e1, h1, r1⟩ := rx.tup
      obtain ⟨v, h2, h3⟩ := r1.atI h
      exact .inl (.inr (.inl ⟨a, xs, _, v, e1, ry.int, h1.T, h2, now ain h3 w⟩))
    · exact False.elim w
  · split at w
    · rename_i k hk
      split at w
      · rename_i h
        obtain ⟨a, xs, e1, h1, r1⟩ := rx.dic
        rcases r1.look (k := k) with ⟨v, d', g1, g2, g3⟩ | ⟨g1, g2⟩
        · rw [h] at g2
          cases g2
          refine .inr ⟨a, v, e1, ?_, now ain g3 w⟩
          rw [ry.key hk, ← g1]
          exact DGet.k h1
        · rw [h] at g2
          cases g2
      · exact False.elim w
    · exact False.elim w
  · obtain ⟨h0, w⟩ := RWG.ite w
    split at w
    · rename_i h
      exact .inl (.inr (.inr ⟨_, _, _, rx.str, ry.int, cap_ok h0, h, now ain (.str _) w⟩))
    · exact False.elim w
  · exact False.elim w
/-! ### a slice -/
def Op3 (K : PySem.W.Frag) (mg : Str → Option Value) (E : XU) (r : V → Option Int → Option Int → Hp → VK → Prop) (f : D → Option Int → Option Int → R D) : Prop := ∀ (n : Nat) (hs : List Addr) (H : Hp) (x : V) (d : D) (lo hi : Option Int) (Q : VK), Hd E.u n hs H → Rw K E.u hs H x d → RW K mg E hs n (f d lo hi) H Q → r x lo hi H Q
def cutD (ds : List D) (lo hi : Option Int) : List D := (ds.drop (HT.sIx ds.length 0 lo)).take (HT.sIx ds.length ds.length hi - HT.sIx ds.length 0 lo)
def sliD : D → Option Int → Option Int → R D
  | .lst ds, lo, hi => .ok (.lst (cutD ds lo hi))
  | .tup ds, lo, hi => .ok (.tup (cutD ds lo hi))
  | _, _, _ => .no
abbrev rSliD (K : PySem.W.Frag) : V → Option Int → Option Int → Hp → VK → Prop := fun x lo hi H Q => rSlL K x lo hi H Q ∨ rSlA K x lo hi H Q
theorem sl_B {X : Cx} : SlR X (rSliD X.K) := sl_list.or sl_tupA
theorem RpA.cut {xs : List V} {ds : List D} (r : RpA K H xs ds) (lo hi : Option Int) : RpA K H (cutV xs lo hi) (cutD ds lo hi) := by
  unfold cutV cutD
  rw [r.len]
  exact (r.drop _).take _
theorem o_sli : Op3 K mg E (rSliD K) sliD := by
  intro n hs H x d lo hi Q ain rx w
  cases d with
  | lst ds =>
    obtain ⟨a, xs, e1, h1, r1⟩ := rx.lst
    exact .inl ⟨a, xs, e1, SqL.of h1, new_lst ain (r1.cut lo hi) w⟩
  | tup ds =>
    obtain ⟨a, xs, e1, h1, r1⟩ := rx.tup
    refine .inr ⟨a, xs, e1, h1.T, fun c => ?_, fun _ => new_tup ain (r1.cut lo hi) w⟩
    rw [r1.len] at c
    have z : cutD ds lo hi = ds := by
      unfold cutD
      rw [c.1, c.2, List.drop_zero, Nat.sub_zero, List.take_length]
    have w : RW K mg E hs n (.ok (.tup (cutD ds lo hi))) H Q := w
    rw [z] at w
    rw [← e1]
    cases rx with
    | sh h => exact now ain h w
    | ow _ _ _ h => exact False.elim h
  | _ => exact False.elim w
/-! ### truth -/
def truD : D → R Bool
  | .non => .ok false
  | .bl b => .ok b
  | .int i => .ok (i != 0)
  | .str z => if z.length ≤ cap then .ok ((z.length : Int) != 0) else .no
  | .lst ds => .ok (!ds.isEmpty)
  | .tup ds => .ok (!ds.isEmpty)
  | .dic ds => .ok (!ds.isEmpty)
  | _ => .no
theorem emp {α β : Type} {xs : List α} {ys : List β} (h : xs.length = ys.length) : (!xs.isEmpty) = !ys.isEmpty := by
  cases xs with
  | nil =>
    cases ys with
    | nil => rfl
    | cons _ _ => cases h
  | cons _ _ =>
    cases ys with
    | nil => cases h
    | cons _ _ => rfl
theorem Rw.tru {u : Option Addr} {b : Bool} (r : Rw K u hs H x d) (e : truD d = .ok b) : TruV K x H b := by
  unfold truD at e
  split at e
  · cases e
    rw [r.non]
    exact rfl
  · cases e
    rw [r.bl]
    exact rfl
  · cases e
    rw [r.int]
    exact rfl
  · split at e
    · rename_i h
      cases e
      rw [r.str]
      exact ⟨cap_ok h, rfl⟩
    · cases e
  · cases e
    obtain ⟨a, xs, e1, h1, r1⟩ := r.lst
    rw [e1]
    exact .inl ⟨xs, SqL.of h1, (emp r1.len).symm⟩
  · cases e
    obtain ⟨a, xs, e1, h1, r1⟩ := r.tup
    rw [e1]
    exact .inr (.inl ⟨xs, h1.T, (emp r1.len).symm⟩)
  · cases e
    obtain ⟨a, xs, e1, h1, r1⟩ := r.dic
    rw [e1]
    exact .inr (.inr ⟨xs, h1, (emp r1.len).symm⟩)
  · cases e
theorem RWG.tru {β : Type} {k : Bool → R β} {Q : β → Nat → Hp → Prop} (w : RWG K mg E hs n (truD d >>= k) H Q) : ∃ b, truD d = .ok b ∧ RWG K mg E hs n (k b) H Q := by
  cases q : truD d with
  | ok b =>
    rw [q] at w
    exact ⟨b, rfl, w⟩
  | ex c fs =>
    unfold truD at q
    split at q <;> first | cases q | (split at q <;> cases q)
  | no =>
    rw [q] at w
    exact False.elim w
  | any P c k =>
    unfold truD at q
    split at q <;> first | cases q | (split at q <;> cases q)
end
end Fx

/-! expressions: operators, tests, calls of built-in functions, walks, comprehensions -/
namespace Fx
open PySem PySem.Spec PyProof.Rows L2
/-! ### forms -/
def notStar : Expr → Bool
  | .Starred _ _ => false
  | _ => true
theorem star_cons {e : Expr} {es : List Expr} {env : PySem.Env} (h : notStar e = true) : starEach (e :: es) env = (false, eval e env) :: starEach es env := by
  cases e <;> first | rfl | cases h
theorem star_any : ∀ {es : List Expr} {env : PySem.Env} {pos : Pos}, es.all notStar = true → (backTo pos (starEach es env)).any (·.1) = false
  | [], _, _, _ => rfl
  | e :: es, env, pos, h => by
    rw [List.all_cons, Bool.and_eq_true] at h
    rw [star_cons h.1]
    show (false || (backTo pos (starEach es env)).any (·.1)) = false
    rw [star_any h.2]
    rfl
def notSlice : Expr → Bool
  | .Slice _ _ _ _ => false
  | _ => true
theorem plainIx {b : Expr} (h : notSlice b = true) : PlainIx b := by
  cases b <;> first | (intro _ _; rfl) | cases h
def notSet : Expr → Bool
  | .Set _ _ _ => false
  | _ => true
theorem notFold {b : Expr} (h : notSet b = true) {env : PySem.Env} : ∀ x, foldedSetIterable b env x = pure x := by
  cases b <;> first | (intro _; rfl) | cases h
theorem noMark {b : Expr} (h : notSet b = true) (op : CmpOp) : behindInMarks op b = false := by
  cases b <;> first | rfl | cases h
def plainTest : Expr → Bool
  | .UnaryOp .Not _ _ => false
  | .BoolOp _ _ _ => false
  | .IfExp _ _ _ _ => false
  | .Compare _ _ _ _ => false
  | _ => true
theorem isT {a : Expr} (h : plainTest a = true) {env : PySem.Env} : ∀ whole, isTrue a env whole = (do let v ← whole; standAt a.pos; holding [v] (truthy v)) := by
  cases a with
  | UnaryOp op x p =>
    cases op <;> first | (intro _; rfl) | cases h
  | BoolOp _ _ _ => cases h
  | IfExp _ _ _ _ => cases h
  | Compare _ _ _ _ => cases h
  | _ => intro _; rfl
section
variable {X : Cx} {E : XU} {a b e : Expr} {m m1 m2 : Env → R D} {mb mb1 mb2 : Env → R Bool} {pos : Pos} {es rest : List Expr}
theorem w_op {op : Operator} {r : R2} {f : D → D → R D} (ho : OpR X (binaryOp op) r) (oo : Op2 X.K X.mg E r f) (ha : PE X a (tEvP X.K X.mg E m1)) (hb : PE X b (tEvP X.K X.mg E m2)) :
    PE X (.BinOp a op b pos) (tEv X.K X.mg E fun ε => m1 ε >>= fun d => m2 ε >>= fun e => f d e) :=
  (pe_op ho ha hb).of fun σ H Q ⟨hs, ε, n, S, w⟩ => ⟨hs, ε, n, S, (RWG.bind w).imp fun d n1 H1 s1 u1 w1 v rv => ⟨hs, ε, n1, S.same s1 u1, (RWG.bind w1).imp fun e n2 H2 s2 u2 w2 u ru => oo n2 hs H2 v u d e Q ((S.same s1 u1).same s2 u2).hd (rv.same s2 S.uh) ru w2⟩⟩
theorem w_cmp {op : CmpOp} {r : R2} {f : D → D → R D} (ho : OpR X (compareOp op) r) (oo : Op2 X.K X.mg E r f) (ha : PE X a (tEvP X.K X.mg E m1)) (hb : PE X b (tEvP X.K X.mg E m2)) (hm : behindInMarks op b = false) :
    PE X (.Compare a [op] [b] pos) (tEv X.K X.mg E fun ε => m1 ε >>= fun d => m2 ε >>= fun e => f d e) :=
  (pe_cmpR ho ha hb hm).of fun σ H Q ⟨hs, ε, n, S, w⟩ => ⟨hs, ε, n, S, (RWG.bind w).imp fun d n1 H1 s1 u1 w1 v rv => ⟨hs, ε, n1, S.same s1 u1, (RWG.bind w1).imp fun e n2 H2 s2 u2 w2 u ru => oo n2 hs H2 v u d e Q ((S.same s1 u1).same s2 u2).hd (rv.same s2 S.uh) ru w2⟩⟩
/-- a value's answer as a test's -/
def asB : D → R Bool
  | .bl b => .ok b
  | _ => .no
theorem RWG.asB {K : PySem.W.Frag} {mg : Str → Option Value} {hs : List Addr} {n : Nat} {H : Hp} {d : D} {β : Type} {k : Bool → R β} {Q : β → Nat → Hp → Prop} (w : RWG K mg E hs n (asB d >>= k) H Q) : ∃ b, d = .bl b ∧ RWG K mg E hs n (k b) H Q := by
  cases d with
  | bl b => exact ⟨b, rfl, w⟩
  | _ => exact False.elim w
theorem w_cmpT {op : CmpOp} {r : R2} {f : D → D → R Bool} (ho : OpR X (compareOp op) r) (oo : Op2 X.K X.mg E r fun d e => f d e >>= fun b => .ok (.bl b)) (ha : PE X a (tEvP X.K X.mg E m1)) (hb : PE X b (tEvP X.K X.mg E m2)) (hm : behindInMarks op b = false) :
    PT X (.Compare a [op] [b] pos) (tEvT X.K X.mg E fun ε => m1 ε >>= fun d => m2 ε >>= fun e => f d e) :=
  (pt_cmpR ho ha hb hm).of fun σ H Q ⟨hs, ε, n, S, w⟩ => ⟨hs, ε, n, S, (RWG.bind w).imp fun d n1 H1 s1 u1 w1 v rv => ⟨hs, ε, n1, S.same s1 u1, (RWG.bind w1).imp fun e n2 H2 s2 u2 w2 u ru => by
    refine oo n2 hs H2 v u d e _ ((S.same s1 u1).same s2 u2).hd (rv.same s2 S.uh) ru ?_
    exact RWG.map (fun b n3 H3 q z rz => by
      cases rz
      exact ⟨b, rfl, q⟩) w2⟩⟩
theorem w_tru (ha : PE X a (tEvP X.K X.mg E m)) (h : plainTest a = true) : PT X a (tEvT X.K X.mg E fun ε => m ε >>= truD) :=
  (pt_truth ha (isT h)).of fun σ H Q ⟨hs, ε, n, S, w⟩ => ⟨hs, ε, n, S, (RWG.bind w).imp fun d n1 H1 s1 u1 w1 v rv => by
    have e0 : truD d = (truD d >>= fun b => .ok b) := by
      cases truD d with
      | any P c k =>
        show R.any P c k = R.any P c fun d => (k d).bind fun b => .ok b
        congr 1
        funext z
        have idb : ∀ r : R Bool, r = r.bind fun b => .ok b := fun r => by
          induction r with
          | any P c k ih =>
            show R.any P c k = R.any P c fun d => (k d).bind fun b => .ok b
            congr 1
            funext z
            exact ih z
          | _ => rfl
        exact idb _
      | _ => rfl
    rw [e0] at w1
    obtain ⟨b, e1, w2⟩ := w1.tru
    exact ⟨b, rv.tru e1, w2 H1 (Sm.refl _) u1⟩⟩
theorem w_notT (h : PT X a (tEvT X.K X.mg E mb)) : PT X (.UnaryOp .Not a pos) (tEvT X.K X.mg E fun ε => mb ε >>= fun b => .ok (!b)) :=
  (pt_not h).of fun σ H Q ⟨hs, ε, n, S, w⟩ => ⟨hs, ε, n, S, (RWG.bind w).imp fun b n1 H1 s1 u1 w1 => w1 H1 (Sm.refl _) u1⟩
theorem w_and1T (h : PT X a (tEvT X.K X.mg E mb)) : PW X (.BoolOp .And [a] pos) (tEvT X.K X.mg E mb) := pw_and1 h
theorem w_or1T (h : PT X a (tEvT X.K X.mg E mb)) : PW X (.BoolOp .Or [a] pos) (tEvT X.K X.mg E mb) := pw_or1 h
theorem w_andT (h1 : PT X a (tEvT X.K X.mg E mb1)) (h2 : PW X (.BoolOp .And (b :: rest) pos) (tEvT X.K X.mg E mb2)) : PW X (.BoolOp .And (a :: b :: rest) pos) (tEvT X.K X.mg E fun ε => mb1 ε >>= fun c => if c = true then mb2 ε else .ok false) :=
  (pw_and h1 h2).of fun σ H Q ⟨hs, ε, n, S, w⟩ => ⟨hs, ε, n, S, (RWG.bind w).imp fun c n1 H1 s1 u1 w1 => by
    cases c with
    | true => exact ⟨hs, ε, n1, S.same s1 u1, w1⟩
    | false => exact w1 H1 (Sm.refl _) u1⟩
theorem w_orT (h1 : PT X a (tEvT X.K X.mg E mb1)) (h2 : PW X (.BoolOp .Or (b :: rest) pos) (tEvT X.K X.mg E mb2)) : PW X (.BoolOp .Or (a :: b :: rest) pos) (tEvT X.K X.mg E fun ε => mb1 ε >>= fun c => if c = true then .ok true else mb2 ε) :=
  (pw_or h1 h2).of fun σ H Q ⟨hs, ε, n, S, w⟩ => ⟨hs, ε, n, S, (RWG.bind w).imp fun c n1 H1 s1 u1 w1 => by
    cases c with
    | false => exact ⟨hs, ε, n1, S.same s1 u1, w1⟩
    | true => exact w1 H1 (Sm.refl _) u1⟩
/-! ### and, or, not, if as values -/
theorem w_one {op} (h : PE X a (tEv X.K X.mg E m)) : PE X (.BoolOp op [a] pos) (tEv X.K X.mg E m) := pe_one h
theorem w_andV (h1 : PE X a (tEv X.K X.mg E m1)) (h2 : PE X (.BoolOp .And (b :: rest) pos) (tEv X.K X.mg E m2)) : PE X (.BoolOp .And (a :: b :: rest) pos) (tEv X.K X.mg E fun ε => m1 ε >>= fun d => truD d >>= fun c => if c = true then m2 ε else .ok d) :=
  (pe_andT h1 h2).of fun σ H Q ⟨hs, ε, n, S, w⟩ => ⟨hs, ε, n, S, (RWG.bind w).imp fun d n1 H1 s1 u1 w1 v rv => by
    obtain ⟨c, e1, w2⟩ := w1.tru
    refine ⟨c, (Rw.sh (u := E.u) rv).tru e1, ?_⟩
    cases c with
    | true => exact ⟨hs, ε, n1, S.same s1 u1, w2⟩
    | false => exact w2 H1 (Sm.refl _) u1 v rv⟩
theorem w_orV (h1 : PE X a (tEv X.K X.mg E m1)) (h2 : PE X (.BoolOp .Or (b :: rest) pos) (tEv X.K X.mg E m2)) : PE X (.BoolOp .Or (a :: b :: rest) pos) (tEv X.K X.mg E fun ε => m1 ε >>= fun d => truD d >>= fun c => if c = true then .ok d else m2 ε) :=
  (pe_orT h1 h2).of fun σ H Q ⟨hs, ε, n, S, w⟩ => ⟨hs, ε, n, S, (RWG.bind w).imp fun d n1 H1 s1 u1 w1 v rv => by
    obtain ⟨c, e1, w2⟩ := w1.tru
    refine ⟨c, (Rw.sh (u := E.u) rv).tru e1, ?_⟩
    cases c with
    | false => exact ⟨hs, ε, n1, S.same s1 u1, w2⟩
    | true => exact w2 H1 (Sm.refl _) u1 v rv⟩
theorem w_notV (h : PE X a (tEvP X.K X.mg E m)) : PE X (.UnaryOp .Not a pos) (tEv X.K X.mg E fun ε => m ε >>= fun d => truD d >>= fun b => .ok (.bl (!b))) :=
  (pe_notT h).of fun σ H Q ⟨hs, ε, n, S, w⟩ => ⟨hs, ε, n, S, (RWG.bind w).imp fun d n1 H1 s1 u1 w1 v rv => by
    obtain ⟨c, e1, w2⟩ := w1.tru
    exact ⟨c, rv.tru e1, w2 H1 (Sm.refl _) u1 _ (.bl _)⟩⟩
def negD : D → R D
  | .int i => .ok (.int (-i))
  | _ => .no
theorem w_neg (h : PE X a (tEvP X.K X.mg E m)) : PE X (.UnaryOp .USub a pos) (tEv X.K X.mg E fun ε => m ε >>= negD) :=
  (pe_un un_neg h).of fun σ H Q ⟨hs, ε, n, S, w⟩ => ⟨hs, ε, n, S, (RWG.bind w).imp fun d n1 H1 s1 u1 w1 v rv => by
    cases d with
    | int i =>
      rw [rv.int]
      exact ⟨i, rfl, w1 H1 (Sm.refl _) u1 _ (.int _)⟩
    | _ => exact False.elim w1⟩
theorem w_if {c : Expr} (hc : PT X c (tEvT X.K X.mg E mb)) (h1 : PE X a (tEv X.K X.mg E m1)) (h2 : PE X b (tEv X.K X.mg E m2)) : PE X (.IfExp c a b pos) (tEv X.K X.mg E fun ε => mb ε >>= fun t => if t = true then m1 ε else m2 ε) :=
  (pe_ifExp hc h1 h2).of fun σ H Q ⟨hs, ε, n, S, w⟩ => ⟨hs, ε, n, S, (RWG.bind w).imp fun t n1 H1 s1 u1 w1 => by
    cases t with
    | true => exact ⟨hs, ε, n1, S.same s1 u1, w1⟩
    | false => exact ⟨hs, ε, n1, S.same s1 u1, w1⟩⟩
/-! ### items, slices -/
theorem w_ix (hu : X.A.units + 1 < cLine) (ha : PE X a (tEvP X.K X.mg E m1)) (hb : PE X b (tEvP X.K X.mg E m2)) (h : notSlice b = true) : PE X (.Subscript a b pos) (tEv X.K X.mg E fun ε => m1 ε >>= fun d => m2 ε >>= fun e => idxD d e) :=
  (pe_ix (ix_B hu) ha hb (plainIx h)).of fun σ H Q ⟨hs, ε, n, S, w⟩ => ⟨hs, ε, n, S, (RWG.bind w).imp fun d n1 H1 s1 u1 w1 v rv => ⟨hs, ε, n1, S.same s1 u1, (RWG.bind w1).imp fun e n2 H2 s2 u2 w2 u ru => o_idx n2 hs H2 v u d e Q ((S.same s1 u1).same s2 u2).hd (rv.same s2 S.uh) ru w2⟩⟩
def tEvO (K : PySem.W.Frag) (mg : Str → Option Value) (E : XU) (m : Env → R (Option Int)) : TO := fun σ H Q => ∃ hs ε n, Rs K E.u n hs H σ ε ∧ RWG K mg E hs n (m ε) H fun o _ H' => Q o H'
def intD : D → R Int
  | .int i => .ok i
  | _ => .no
theorem w_poN : PO X none (tEvO X.K X.mg E fun _ => .ok none) := ⟨fun pins s σ H Q I ⟨hs, ε, n, S, w⟩ => po_none.run pins s σ H Q I (w H (Sm.refl _) S.ur)⟩
theorem w_poS (ha : PE X a (tEv X.K X.mg E m)) : PO X (some a) (tEvO X.K X.mg E fun ε => m ε >>= fun d => intD d >>= fun i => .ok (some i)) :=
  ⟨fun pins s σ H Q I ⟨hs, ε, n, S, w⟩ => (po_some ha).run pins s σ H Q I ⟨hs, ε, n, S, (RWG.bind w).imp fun d n1 H1 s1 u1 w1 v rv => by
    cases d with
    | int i =>
      cases rv
      exact ⟨i, rfl, w1 H1 (Sm.refl _) u1⟩
    | _ => exact False.elim w1⟩⟩
theorem w_slice {lo hi : Option Expr} {ml mh : Env → R (Option Int)} {p2 : Pos} (ha : PE X a (tEvP X.K X.mg E m)) (hl : PO X lo (tEvO X.K X.mg E ml)) (hh : PO X hi (tEvO X.K X.mg E mh)) :
    PE X (.Subscript a (.Slice lo hi none p2) pos) (tEv X.K X.mg E fun ε => m ε >>= fun d => ml ε >>= fun l => mh ε >>= fun h => sliD d l h) :=
  (pe_slice sl_B ha hl hh).of fun σ H Q ⟨hs, ε, n, S, w⟩ => ⟨hs, ε, n, S, (RWG.bind w).imp fun d n1 H1 s1 u1 w1 v rv => ⟨hs, ε, n1, S.same s1 u1, (RWG.bind w1).imp fun l n2 H2 s2 u2 w2 => ⟨hs, ε, n2, (S.same s1 u1).same s2 u2, (RWG.bind w2).imp fun h n3 H3 s3 u3 w3 =>
    o_sli n3 hs H3 v d l h Q (((S.same s1 u1).same s2 u2).same s3 u3).hd ((rv.same s2 S.uh).same s3 S.uh) w3⟩⟩⟩
/-! ### calls of built-in functions -/
def RwA (K : PySem.W.Frag) (u : Option Addr) (hs : List Addr) (H : Hp) : List V → List D → Prop := Paired fun v d => Rw K u hs H v d
theorem RwA.same {K : PySem.W.Frag} {u : Option Addr} {hs : List Addr} {H H' : Hp} (s : Sm u H H') (hu : ∀ a, u = some a → a ∈ hs) {vs : List V} {ds : List D} (h : RwA K u hs H vs ds) : RwA K u hs H' vs ds := Paired.mapP h fun _ _ r => r.same s hu
def tEvAP (K : PySem.W.Frag) (mg : Str → Option Value) (E : XU) (m : Env → R (List D)) : TA := fun σ H Q => ∃ hs ε n, Rs K E.u n hs H σ ε ∧ RWG K mg E hs n (m ε) H fun ds _ H' => ∀ vs, RwA K E.u hs H' vs ds → Q vs H'
variable {ma : Env → R (List D)}
theorem w_nilP : PA X [] (tEvAP X.K X.mg E fun _ => .ok []) := pa_nil.of fun σ H Q ⟨hs, ε, n, S, w⟩ => w H (Sm.refl _) S.ur [] .nil
theorem w_consP (h1 : PE X e (tEvP X.K X.mg E m)) (h2 : PA X es (tEvAP X.K X.mg E ma)) (hs : notStar e = true) : PA X (e :: es) (tEvAP X.K X.mg E fun ε => m ε >>= fun d => ma ε >>= fun ds => .ok (d :: ds)) :=
  (pa_cons h1 h2 (star_cons hs)).of fun σ H Q ⟨hs, ε, n, S, w⟩ => ⟨hs, ε, n, S, (RWG.bind w).imp fun d n1 H1 s1 u1 w1 v rv => ⟨hs, ε, n1, S.same s1 u1, (RWG.bind w1).imp fun ds n2 H2 s2 u2 w2 vs rvs => w2 H2 (Sm.refl _) u2 (v :: vs) (.cons (rv.same s2 S.uh) rvs)⟩⟩
def OpA (K : PySem.W.Frag) (mg : Str → Option Value) (E : XU) (r : List V → Hp → VK → Prop) (f : List D → R D) : Prop := ∀ (n : Nat) (hs : List Addr) (H : Hp) (vs : List V) (ds : List D) (Q : VK), Hd E.u n hs H → RwA K E.u hs H vs ds → RW K mg E hs n (f ds) H Q → r vs H Q
variable {r : List V → Hp → VK → Prop} {f : List D → R D} {x : Str} {p : Pos}
theorem w_callB {id : String} (hc : CallR X (.builtin id) r) (oo : OpA X.K X.mg E r f) (hg : Gl X x) (hm : X.mg x = none) (hv : bootBuiltins x = some (.builtin id)) (ha : PA X (e :: es) (tEvAP X.K X.mg E ma)) (hn : x ≠ "__name__") (hdb : (x == ("__debug__" : Str)) = false) (hst : (e :: es).all notStar = true) :
    PE X (.Call (.Name x p) (e :: es) [] pos) (tEv X.K X.mg E fun ε => ma ε >>= f) := by
  rw [List.all_cons, Bool.and_eq_true] at hst
  exact (pe_callB hc hg hm hv ha hn hdb (star_cons hst.1) (star_any hst.2)).of fun σ H Q ⟨hs, ε, n, S, w⟩ => ⟨hs, ε, n, S, (RWG.bind w).imp fun ds n1 H1 s1 u1 w1 vs rvs => oo n1 hs H1 vs ds Q (S.same s1 u1).hd rvs w1⟩
theorem w_callT {T : String} (hc : CallR X (.type T) r) (oo : OpA X.K X.mg E r f) (hg : Gl X x) (hm : X.mg x = none) (hv : bootBuiltins x = some (.type T)) (ha : PA X (e :: es) (tEvAP X.K X.mg E ma)) (hn : x ≠ "__name__") (hdb : (x == ("__debug__" : Str)) = false) (hst : (e :: es).all notStar = true) :
    PE X (.Call (.Name x p) (e :: es) [] pos) (tEv X.K X.mg E fun ε => ma ε >>= f) := by
  rw [List.all_cons, Bool.and_eq_true] at hst
  exact (pe_callTy hc hg hm hv ha hn hdb (star_cons hst.1) (star_any hst.2)).of fun σ H Q ⟨hs, ε, n, S, w⟩ => ⟨hs, ε, n, S, (RWG.bind w).imp fun ds n1 H1 s1 u1 w1 vs rvs => oo n1 hs H1 vs ds Q (S.same s1 u1).hd rvs w1⟩
end
section
variable {K : PySem.W.Frag} {mg : Str → Option Value} {E : XU}
theorem RwA.one {u : Option Addr} {hs : List Addr} {H : Hp} {vs : List V} {d : D} (h : RwA K u hs H vs [d]) : ∃ v, vs = [v] ∧ Rw K u hs H v d := by
  cases h with
  | cons h t =>
    cases t
    exact ⟨_, rfl, h⟩
def lenD : List D → R D
  | [.lst ds] => .ok (.int ds.length)
  | [.tup ds] => .ok (.int ds.length)
  | _ => .no
theorem o_len : OpA K mg E (fun xs H Q => ∃ p ys, xs = [.ref p] ∧ (SqL K H p ys ∨ SqT K H p ys) ∧ Q (.int ys.length) H) lenD := by
  intro n hs H vs ds Q ain r w
  unfold lenD at w
  split at w
  · obtain ⟨v, rfl, rv⟩ := r.one
    obtain ⟨a, xs, e1, h1, r1⟩ := rv.lst
    exact ⟨a, xs, by rw [e1], .inl (SqL.of h1), by rw [r1.len]; exact now ain (.int _) w⟩
  · obtain ⟨v, rfl, rv⟩ := r.one
    obtain ⟨a, xs, e1, h1, r1⟩ := rv.tup
    exact ⟨a, xs, by rw [e1], .inr (h1.T), by rw [r1.len]; exact now ain (.int _) w⟩
  · exact False.elim w
def tupD : List D → R D
  | [.lst ds] => .ok (.tup ds)
  | [.tup ds] => .ok (.tup ds)
  | _ => .no
theorem o_tuple : OpA K mg E (fun xs H Q => ∃ p ys, xs = [.ref p] ∧ ((SqL K H p ys ∧ ∀ l, H l = none → Q (.ref l) (upd H l (.tup ys))) ∨ (SqT K H p ys ∧ Q (.ref p) H))) tupD := by
  intro n hs H vs ds Q ain r w
  unfold tupD at w
  split at w
  · obtain ⟨v, rfl, rv⟩ := r.one
    obtain ⟨a, xs, e1, h1, r1⟩ := rv.lst
    exact ⟨a, xs, by rw [e1], .inl ⟨SqL.of h1, new_tup ain r1 w⟩⟩
  · obtain ⟨v, rfl, rv⟩ := r.one
    obtain ⟨a, xs, e1, h1, r1⟩ := rv.tup
    refine ⟨a, xs, by rw [e1], .inr ⟨h1.T, ?_⟩⟩
    rw [← e1]
    cases rv with
    | sh h => exact now ain h w
    | ow _ _ _ h => exact False.elim h
  · exact False.elim w
def lstD : List D → R D
  | [.lst ds] => .ok (.lst ds)
  | [.tup ds] => .ok (.lst ds)
  | _ => .no
theorem o_list : OpA K mg E (fun xs H Q => ∃ p ys, xs = [.ref p] ∧ (SqL K H p ys ∨ SqT K H p ys) ∧ ∀ l, H l = none → Q (.ref l) (upd H l (.lst ys))) lstD := by
  intro n hs H vs ds Q ain r w
  unfold lstD at w
  split at w
  · obtain ⟨v, rfl, rv⟩ := r.one
    obtain ⟨a, xs, e1, h1, r1⟩ := rv.lst
    exact ⟨a, xs, by rw [e1], .inl (SqL.of h1), new_lst ain r1 w⟩
  · obtain ⟨v, rfl, rv⟩ := r.one
    obtain ⟨a, xs, e1, h1, r1⟩ := rv.tup
    exact ⟨a, xs, by rw [e1], .inr (h1.T), new_lst ain r1 w⟩
  · exact False.elim w
def blsOf : List D → Option (List Bool)
  | [] => some []
  | .bl b :: ds => (blsOf ds).map (b :: ·)
  | _ :: _ => none
def intsOf : List D → Option (List Int)
  | [] => some []
  | .int b :: ds => (intsOf ds).map (b :: ·)
  | _ :: _ => none
def strsOf : List D → Option (List Str)
  | [] => some []
  | .str b :: ds => (strsOf ds).map (b :: ·)
  | _ :: _ => none
theorem blsOf_eq : ∀ {ds : List D} {bs : List Bool}, blsOf ds = some bs → ds = bs.map D.bl
  | [], _, e => by
    cases e
    rfl
  | .bl b :: ds, _, e => by
    rw [blsOf] at e
    cases q : blsOf ds with
    | none =>
      rw [q] at e
      cases e
    | some cs =>
      rw [q] at e
      cases e
      rw [blsOf_eq q]
      rfl
  | .non :: _, _, e => nomatch e
  | .int _ :: _, _, e => nomatch e
  | .str _ :: _, _, e => nomatch e
  | .lst _ :: _, _, e => nomatch e
  | .tup _ :: _, _, e => nomatch e
  | .dic _ :: _, _, e => nomatch e
  | .exn _ _ :: _, _, e => nomatch e
  | .urn :: _, _, e => nomatch e
  | .ty _ :: _, _, e => nomatch e
theorem intsOf_eq : ∀ {ds : List D} {bs : List Int}, intsOf ds = some bs → ds = bs.map D.int
  | [], _, e => by
    cases e
    rfl
  | .int b :: ds, _, e => by
    rw [intsOf] at e
    cases q : intsOf ds with
    | none =>
      rw [q] at e
      cases e
    | some cs =>
      rw [q] at e
      cases e
      rw [intsOf_eq q]
      rfl
  | .non :: _, _, e => nomatch e
  | .bl _ :: _, _, e => nomatch e
  | .str _ :: _, _, e => nomatch e
  | .lst _ :: _, _, e => nomatch e
  | .tup _ :: _, _, e => nomatch e
  | .dic _ :: _, _, e => nomatch e
  | .exn _ _ :: _, _, e => nomatch e
  | .urn :: _, _, e => nomatch e
  | .ty _ :: _, _, e => nomatch e
theorem strsOf_eq : ∀ {ds : List D} {bs : List Str}, strsOf ds = some bs → ds = bs.map D.str
  | [], _, e => by
    cases e
    rfl
  | .str b :: ds, _, e => by
    rw [strsOf] at e
    cases q : strsOf ds with
    | none =>
      rw [q] at e
      cases e
    | some cs =>
      rw [q] at e
      cases e
      rw [strsOf_eq q]
      rfl
  | .non :: _, _, e => nomatch e
  | .bl _ :: _, _, e => nomatch e
  | .int _ :: _, _, e => nomatch e
  | .lst _ :: _, _, e => nomatch e
  | .tup _ :: _, _, e => nomatch e
  | .dic _ :: _, _, e => nomatch e
  | .exn _ _ :: _, _, e => nomatch e
  | .urn :: _, _, e => nomatch e
  | .ty _ :: _, _, e => nomatch e
def allD : List D → R D
  | [.lst ds] => match blsOf ds with
    | some bs => .ok (.bl (bs.all id))
    | none => .no
  | _ => .no
def anyD : List D → R D
  | [.lst ds] => match blsOf ds with
    | some bs => .ok (.bl (bs.any id))
    | none => .no
  | _ => .no
theorem o_all : OpA K mg E (rAll K) allD := by
  intro n hs H vs ds Q ain r w
  unfold allD at w
  split at w
  · split at w
    · rename_i h
      obtain ⟨v, rfl, rv⟩ := r.one
      obtain ⟨a, xs, e1, h1, r1⟩ := rv.lst
      rw [blsOf_eq h] at r1
      exact ⟨a, _, by rw [e1], SqL.of (by rw [h1, r1.of_bls]), now ain (.bl _) w⟩
    · exact False.elim w
  · exact False.elim w
theorem o_any : OpA K mg E (rAny K) anyD := by
  intro n hs H vs ds Q ain r w
  unfold anyD at w
  split at w
  · split at w
    · rename_i h
      obtain ⟨v, rfl, rv⟩ := r.one
      obtain ⟨a, xs, e1, h1, r1⟩ := rv.lst
      rw [blsOf_eq h] at r1
      exact ⟨a, _, by rw [e1], SqL.of (by rw [h1, r1.of_bls]), now ain (.bl _) w⟩
    · exact False.elim w
  · exact False.elim w
def sumD : List D → R D
  | [.lst ds] => match intsOf ds with
    | some bs => .ok (.int bs.sum)
    | none => .no
  | _ => .no
theorem o_sum : OpA K mg E (rSum K) sumD := by
  intro n hs H vs ds Q ain r w
  unfold sumD at w
  split at w
  · split at w
    · rename_i h
      obtain ⟨v, rfl, rv⟩ := r.one
      obtain ⟨a, xs, e1, h1, r1⟩ := rv.lst
      rw [intsOf_eq h] at r1
      exact ⟨a, _, by rw [e1], SqL.of (by rw [h1, r1.of_ints]), now ain (.int _) w⟩
    · exact False.elim w
  · exact False.elim w
def maxI : List Int → Int
  | [] => 0
  | [i] => i
  | i :: j :: is => if maxI (j :: is) ≤ i then i else maxI (j :: is)
def minI : List Int → Int
  | [] => 0
  | [i] => i
  | i :: j :: is => if i ≤ minI (j :: is) then i else minI (j :: is)
theorem maxI_spec : ∀ {is : List Int}, is ≠ [] → maxI is ∈ is ∧ ∀ y ∈ is, y ≤ maxI is
  | [], h => absurd rfl h
  | [i], _ => ⟨List.mem_singleton.mpr rfl, fun y m => by rw [List.mem_singleton.mp m]; exact Int.le_refl _⟩
  | i :: j :: is, _ => by
    obtain ⟨h1, h2⟩ := maxI_spec (is := j :: is) (fun z => nomatch z)
    rw [maxI]
    split
    · rename_i c
      refine ⟨List.mem_cons_self, fun y m => ?_⟩
      rcases List.mem_cons.mp m with e | m
      · rw [e]
        exact Int.le_refl _
      · exact Int.le_trans (h2 y m) c
    · rename_i c
      refine ⟨List.mem_cons_of_mem _ h1, fun y m => ?_⟩
      rcases List.mem_cons.mp m with e | m
      · rw [e]
        omega
      · exact h2 y m
theorem minI_spec : ∀ {is : List Int}, is ≠ [] → minI is ∈ is ∧ ∀ y ∈ is, minI is ≤ y
  | [], h => absurd rfl h
  | [i], _ => ⟨List.mem_singleton.mpr rfl, fun y m => by rw [List.mem_singleton.mp m]; exact Int.le_refl _⟩
  | i :: j :: is, _ => by
    obtain ⟨h1, h2⟩ := minI_spec (is := j :: is) (fun z => nomatch z)
    rw [minI]
    split
    · rename_i c
      refine ⟨List.mem_cons_self, fun y m => ?_⟩
      rcases List.mem_cons.mp m with e | m
      · rw [e]
        exact Int.le_refl _
      · exact Int.le_trans c (h2 y m)
    · rename_i c
      refine ⟨List.mem_cons_of_mem _ h1, fun y m => ?_⟩
      rcases List.mem_cons.mp m with e | m
      · rw [e]
        omega
      · exact h2 y m
def maxD : List D → R D
  | [.lst ds] => match intsOf ds with
    | some bs => if bs ≠ [] then .ok (.int (maxI bs)) else .no
    | none => .no
  | _ => .no
def minD : List D → R D
  | [.lst ds] => match intsOf ds with
    | some bs => if bs ≠ [] then .ok (.int (minI bs)) else .no
    | none => .no
  | _ => .no
theorem o_max : OpA K mg E (rMax K) maxD := by
  intro n hs H vs ds Q ain r w
  unfold maxD at w
  split at w
  · split at w
    · rename_i bs h
      obtain ⟨h0, w⟩ := RWG.ite w
      obtain ⟨v, rfl, rv⟩ := r.one
      obtain ⟨a, xs, e1, h1, r1⟩ := rv.lst
      rw [intsOf_eq h] at r1
      obtain ⟨g1, g2⟩ := maxI_spec h0
      refine ⟨a, _, by rw [e1], SqL.of (by rw [h1, r1.of_ints]), List.length_pos_iff.mpr h0, fun m hm hy => ?_⟩
      have z : m = maxI bs := Int.le_antisymm (g2 m hm) (hy _ g1)
      rw [z]
      exact now ain (.int _) w
    · exact False.elim w
  · exact False.elim w
theorem o_min : OpA K mg E (rMin K) minD := by
  intro n hs H vs ds Q ain r w
  unfold minD at w
  split at w
  · split at w
    · rename_i bs h
      obtain ⟨h0, w⟩ := RWG.ite w
      obtain ⟨v, rfl, rv⟩ := r.one
      obtain ⟨a, xs, e1, h1, r1⟩ := rv.lst
      rw [intsOf_eq h] at r1
      obtain ⟨g1, g2⟩ := minI_spec h0
      refine ⟨a, _, by rw [e1], SqL.of (by rw [h1, r1.of_ints]), List.length_pos_iff.mpr h0, fun m hm hy => ?_⟩
      have z : m = minI bs := Int.le_antisymm (hy _ g1) (g2 m hm)
      rw [z]
      exact now ain (.int _) w
    · exact False.elim w
  · exact False.elim w
end
end Fx

/-! walks, targets, comprehensions -/
namespace Fx
open PySem PySem.Spec PyProof.Rows L2
/-- nothing changed but what is put aside -/
structure KpR (hs : List Addr) (H1 H : Hp) : Prop where
  sm : Same (hid hs H1) (hid hs H)
  dm : ∀ a, H1 a ≠ none → H a ≠ none
  nt : ∀ a, NT (H1 a) → NT (H a)
theorem KpR.of {u : Option Addr} {hs : List Addr} {H1 H : Hp} (s : Sm u H1 H) (hu : ∀ a, u = some a → a ∈ hs) : KpR hs H1 H := ⟨s.hid hu, s.th, s.nt⟩
theorem KpR.at_ {hs : List Addr} {H1 H : Hp} (k : KpR hs H1 H) {a : Addr} {o : HO} (h : hid hs H1 a = some o) : H a = some o := (hid_some (k.sm _ _ h)).2
theorem KpR.to {hs ks : List Addr} {H1 H H' : Hp} (k : KpR hs H1 H) (s : Same H H') (sub : ∀ a ∈ ks, a ∈ hs ∨ H1 a = none) : Same (hid hs H1) (hid ks H') := fun b o e => by
  have e2 := s _ _ (k.at_ e)
  obtain ⟨h1, h2⟩ := hid_some e
  rw [hid_out fun m => (sub b m).elim h1 fun z => by
    rw [z] at h2
    cases h2]
  exact e2
/-- what is walked: these data, one by one -/
def ItOk (K : PySem.W.Frag) (hs : List Addr) (H1 : Hp) (J : It) (ds : List D) : Prop := ∃ (G : Hp → Prop) (Y : Nat → Hp → V → Hp → Prop), Walk J ds.length G Y ∧ (∀ H, KpR hs H1 H → G H) ∧
  ∀ i H x H', i < ds.length → KpR hs H1 H → Y i H x H' → Same H H' ∧ ∀ ks, AllIn ks H → (∀ a ∈ ks, a ∈ hs ∨ H1 a = none) → ∀ d, ds[i]? = some d → Rp K (hid ks H') x d
def tIt (K : PySem.W.Frag) (mg : Str → Option Value) (E : XU) (m : Env → R (List D)) : TI := fun σ H R => ∃ hs ε n, Rs K E.u n hs H σ ε ∧ RWG K mg E hs n (m ε) H fun ds _ H1 => ∀ J, ItOk K hs H1 J ds → R J H1
theorem _root_.L2.PI.of {X : Cx} {tg e : Expr} {t t' : TI} (h : PI X tg e t) (w : ∀ σ H Q, t' σ H Q → t σ H Q) : PI X tg e t' := ⟨fun pins s σ H Q I q => h.run pins s σ H Q I (w σ H Q q)⟩
section
variable {K : PySem.W.Frag} {mg : Str → Option Value} {E : XU} {hs : List Addr} {H : Hp}
theorem it_lst {a : Addr} {xs : List V} {ds : List D} (h : hid hs H a = some (.lst xs)) (r : RpA K (hid hs H) xs ds) : ItOk K hs H (Itl K a) ds := by
  refine ⟨fun H => SqL K H a xs, YAt xs, by rw [← r.len]; exact walk_list, fun H' k => SqL.of (k.at_ h), fun i H2 x H3 hi k y => ?_⟩
  obtain ⟨e1, e2⟩ := y
  subst e1
  refine ⟨Same.refl _, fun ks ain sub d hd => ?_⟩
  obtain ⟨d', g1, g2⟩ := r.at_ e2
  rw [hd] at g1
  cases g1
  exact g2.same (k.to (Same.refl _) sub)
theorem it_tup {a : Addr} {xs : List V} {ds : List D} (h : SqP K (hid hs H) a xs) (r : RpA K (hid hs H) xs ds) : ItOk K hs H (Itt K a) ds := by
  refine ⟨fun H => SqT K H a xs, YAt xs, by rw [← r.len]; exact walk_tup, fun H' k => (h.same fun _ _ e => k.at_ e).T, fun i H2 x H3 hi k y => ?_⟩
  obtain ⟨e1, e2⟩ := y
  subst e1
  refine ⟨Same.refl _, fun ks ain sub d hd => ?_⟩
  obtain ⟨d', g1, g2⟩ := r.at_ e2
  rw [hd] at g1
  cases g1
  exact g2.same (k.to (Same.refl _) sub)
def rgD (lo : Int) (n : Nat) : List D := (List.range n).map fun i => .int (lo + (i : Nat))
theorem it_range {lo : Int} {n : Nat} : ItOk K hs H (Itr lo n) (rgD lo n) := by
  refine ⟨fun _ => True, YFn fun i => .int (lo + i), by unfold rgD; rw [List.length_map, List.length_range]; exact walk_range, fun _ _ => trivial, fun i H2 x H3 hi k y => ?_⟩
  obtain ⟨e1, e2⟩ := y
  subst e1
  subst e2
  refine ⟨Same.refl _, fun ks ain sub d hd => ?_⟩
  unfold rgD at hd hi
  rw [List.length_map, List.length_range] at hi
  rw [List.getElem?_map, List.getElem?_range hi] at hd
  cases hd
  exact .int _
def pairsD : List D → List D → List D
  | a :: as, b :: bs => .tup [a, b] :: pairsD as bs
  | _, _ => []
theorem pairsD_len : ∀ {as bs : List D}, (pairsD as bs).length = min as.length bs.length
  | [], _ => by rw [pairsD] <;> simp
  | _ :: _, [] => by rw [pairsD] <;> simp
  | a :: as, b :: bs => by
    rw [pairsD, List.length_cons, pairsD_len, List.length_cons, List.length_cons]
    omega
theorem pairsD_at : ∀ {as bs : List D} {i : Nat} {d : D}, (pairsD as bs)[i]? = some d → ∃ a b, as[i]? = some a ∧ bs[i]? = some b ∧ d = .tup [a, b]
  | [], _, i, d, h => by
    rw [pairsD] at h
    · cases h
    · exact fun _ _ _ _ h => nomatch h
  | _ :: _, [], i, d, h => by
    rw [pairsD] at h
    · cases h
    · exact fun _ _ _ _ _ h => nomatch h
  | a :: as, b :: bs, 0, d, h => by
    cases h
    exact ⟨a, b, rfl, rfl, rfl⟩
  | a :: as, b :: bs, i + 1, d, h => pairsD_at (i := i) (as := as) (bs := bs) h
/-- a new pair at each turn -/
theorem it_pair {J : It} {as bs : List D} {G : Hp → Prop} {fx fy : Nat → Option V} {xs ys : List V} (w : Walk J (pairsD as bs).length G (YPair fx fy)) (hG : ∀ H', KpR hs H H' → G H')
    (hx : ∀ i x a, fx i = some x → as[i]? = some a → Rp K (hid hs H) x a) (hy : ∀ i x a, fy i = some x → bs[i]? = some a → Rp K (hid hs H) x a) : ItOk K hs H J (pairsD as bs) := by
  refine ⟨G, _, w, hG, fun i H2 v H3 hi k y => ?_⟩
  obtain ⟨T, x, y, e1, nT, e2, h1, h2⟩ := y
  subst e1
  subst e2
  refine ⟨same_new nT, fun ks ain sub d hd => ?_⟩
  obtain ⟨a, b, g1, g2, e3⟩ := pairsD_at hd
  subst e3
  have s := k.to (ks := ks) (same_new (o := .tup [x, y]) nT) sub
  exact .tup (.inl (by rw [hid_out (ain.not nT), upd_same])) (.cons ((hx i x a h1 g1).same s) (.cons ((hy i y b h2 g2).same s) .nil))
theorem it_enum {a : Addr} {xs : List V} {ds : List D} (h : hid hs H a = some (.lst xs)) (r : RpA K (hid hs H) xs ds) : ItOk K hs H (Ite K a) (pairsD (rgD 0 ds.length) ds) := by
  have hl : (pairsD (rgD 0 ds.length) ds).length = xs.length := by
    rw [pairsD_len, r.len]
    unfold rgD
    rw [List.length_map, List.length_range, Nat.min_self]
  refine it_pair (xs := xs) (ys := xs) (G := fun H => SqL K H a xs) (fx := fun i => some (.int (i : Nat))) (fy := fun i => xs[i]?) (by rw [hl]; exact walk_enum) (fun H' k => SqL.of (k.at_ h)) (fun i x b e1 e2 => ?_) fun i x b e1 e2 => ?_
  · cases e1
    unfold rgD at e2
    have hi := (List.getElem?_eq_some_iff.mp e2).1
    rw [List.length_map, List.length_range] at hi
    rw [List.getElem?_map, List.getElem?_range hi] at e2
    cases e2
    show Rp K (hid hs H) (V.int (i : Nat)) (D.int (0 + (i : Nat)))
    rw [Int.zero_add]
    exact .int _
  · obtain ⟨d', g1, g2⟩ := r.at_ e1
    rw [e2] at g1
    cases g1
    exact g2
theorem it_zipL {a b : Addr} {xs ys : List V} {ds es : List D} (h1 : hid hs H a = some (.lst xs)) (h2 : hid hs H b = some (.lst ys)) (r1 : RpA K (hid hs H) xs ds) (r2 : RpA K (hid hs H) ys es) : ItOk K hs H (Itz K a b) (pairsD ds es) := by
  refine it_pair (xs := xs) (ys := xs) (G := fun H => SqL K H a xs ∧ SqL K H b ys) (fx := fun i => xs[i]?) (fy := fun i => ys[i]?) (walk_zip (by rw [pairsD_len, r1.len, r2.len])) (fun H' k => ⟨SqL.of (k.at_ h1), SqL.of (k.at_ h2)⟩) (fun i x c e1 e2 => ?_) fun i x c e1 e2 => ?_
  · obtain ⟨d', g1, g2⟩ := r1.at_ e1
    rw [e2] at g1
    cases g1
    exact g2
  · obtain ⟨d', g1, g2⟩ := r2.at_ e1
    rw [e2] at g1
    cases g1
    exact g2
theorem walk_zipT {a b : Addr} {xs ys : List V} {n : Nat} (hn : n = min xs.length ys.length) : Walk (RZ.ItzT K a b) n (fun H => SqT K H a xs ∧ SqT K H b ys) (YPair (fun i => xs[i]?) (fun i => ys[i]?)) := by
  subst hn
  refine ⟨fun i _ hi q => ?_, fun _ q => ⟨xs, ys, q.1, q.2, by omega⟩, fun i H v H' _ q y => ?_⟩
  · have h1 : i < xs.length := by omega
    have h2 : i < ys.length := by omega
    exact ⟨xs, ys, xs[i], ys[i], q.1, q.2, List.getElem?_eq_getElem h1, List.getElem?_eq_getElem h2⟩
  · obtain ⟨T, x, z, h1, h2, h3, h4, h5⟩ := y
    exact ⟨T, x, z, h1, h2, h3, h4 xs q.1, h5 ys q.2⟩
theorem it_zipT {a b : Addr} {xs ys : List V} {ds es : List D} (h1 : SqP K (hid hs H) a xs) (h2 : SqP K (hid hs H) b ys) (r1 : RpA K (hid hs H) xs ds) (r2 : RpA K (hid hs H) ys es) : ItOk K hs H (RZ.ItzT K a b) (pairsD ds es) := by
  refine it_pair (xs := xs) (ys := xs) (G := fun H => SqT K H a xs ∧ SqT K H b ys) (fx := fun i => xs[i]?) (fy := fun i => ys[i]?) (walk_zipT (by rw [pairsD_len, r1.len, r2.len])) (fun H' k => ⟨(h1.same fun _ _ e => k.at_ e).T, (h2.same fun _ _ e => k.at_ e).T⟩) (fun i x c e1 e2 => ?_) fun i x c e1 e2 => ?_
  · obtain ⟨d', g1, g2⟩ := r1.at_ e1
    rw [e2] at g1
    cases g1
    exact g2
  · obtain ⟨d', g1, g2⟩ := r2.at_ e1
    rw [e2] at g1
    cases g1
    exact g2
end
/-- a value that is a list, a tuple or a text, whichever -/
def iAny (K : PySem.W.Frag) (tl : TE) : TI := fun σ H R => tl σ H fun x H1 => (∃ a, x = .ref a ∧ (((∃ xs, SqL K H1 a xs) ∧ R (Itl K a) H1) ∨ ((∃ xs, SqT K H1 a xs) ∧ R (Itt K a) H1))) ∨ ∃ z, x = .str z ∧ z.length ≤ sizeLine ∧ R (Its z) H1
section
variable {X : Cx} {E : XU} {tg iter e e2 elt : Expr} {es : List Expr} {m m2 me : Env → R D} {mb : Env → R Bool} {p pos tpos : Pos} {ifs elts : List Expr} {kk : Nat}
def chD (z : Str) : List D := z.cps.toList.map fun c => .str ⟨#[c]⟩
def iterD : D → R (List D)
  | .lst ds => .ok ds
  | .tup ds => .ok ds
  | _ => .no
theorem wi_seq (he : PE X e (tEv X.K X.mg E m)) : PI X tg e (tIt X.K X.mg E fun ε => m ε >>= iterD) :=
  (Cx.pi_seq he).of fun σ H Q ⟨hs, ε, n, S, w⟩ => ⟨hs, ε, n, S, (RWG.bind w).imp fun d n1 H1 s1 u1 w1 v rv => by
    cases d with
    | lst ds =>
      cases rv with
      | lst h r => exact ⟨_, rfl, .inl ⟨⟨_, SqL.of (hid_le _ _ h)⟩, w1 H1 (Sm.refl _) u1 _ (it_lst h r)⟩⟩
    | tup ds =>
      cases rv with
      | tup h r => exact ⟨_, rfl, .inr ⟨⟨_, (h.same hid_le).T⟩, w1 H1 (Sm.refl _) u1 _ (it_tup h r)⟩⟩
    | _ => exact False.elim w1⟩
def range1D : List D → R (List D)
  | [.int n] => if -100000 ≤ n ∧ n ≤ 100000 then .ok (rgD 0 n.toNat) else .no
  | _ => .no
def range2D : List D → R (List D)
  | [.int a, .int b] => if -100000 ≤ a ∧ a ≤ 100000 ∧ -100000 ≤ b ∧ b ≤ 100000 then .ok (rgD a (b - a).toNat) else .no
  | _ => .no
variable {ma : Env → R (List D)}
theorem RpA.int1 {K : PySem.W.Frag} {H : Hp} {vs : List V} {n : Int} (r : RpA K H vs [.int n]) : vs = [.int n] := r.of_ints (zs := [n])
theorem RpA.int2 {K : PySem.W.Frag} {H : Hp} {vs : List V} {n i : Int} (r : RpA K H vs [.int n, .int i]) : vs = [.int n, .int i] := r.of_ints (zs := [n, i])
theorem wi_range1 (hg : Gl X "range") (hm : X.mg "range" = none) (ha : PA X [e] (tEvA X.K X.mg E ma)) (hst : notStar e = true) : PI X tg (.Call (.Name "range" p) [e] [] pos) (tIt X.K X.mg E fun ε => ma ε >>= range1D) :=
  (pi_range1 hg hm ha (star_cons hst)).of fun σ H Q ⟨hs, ε, n, S, w⟩ => ⟨hs, ε, n, S, (RWG.bind w).imp fun ds n1 H1 s1 u1 w1 vs rvs => by
    unfold range1D at w1
    split at w1
    · obtain ⟨h, w1⟩ := RWG.ite w1
      exact ⟨_, rvs.int1, by omega, by omega, w1 H1 (Sm.refl _) u1 _ it_range⟩
    · exact False.elim w1⟩
theorem wi_range2 (hg : Gl X "range") (hm : X.mg "range" = none) (ha : PA X [e, e2] (tEvA X.K X.mg E ma)) (hst : notStar e = true) (hst2 : notStar e2 = true) : PI X tg (.Call (.Name "range" p) [e, e2] [] pos) (tIt X.K X.mg E fun ε => ma ε >>= range2D) :=
  (pi_range2 hg hm ha (by rw [star_cons hst, star_cons hst2]; rfl) (by rw [star_cons hst2]; rfl)).of fun σ H Q ⟨hs, ε, n, S, w⟩ => ⟨hs, ε, n, S, (RWG.bind w).imp fun ds n1 H1 s1 u1 w1 vs rvs => by
    unfold range2D at w1
    split at w1
    · obtain ⟨h, w1⟩ := RWG.ite w1
      exact ⟨_, _, rvs.int2, by omega, w1 H1 (Sm.refl _) u1 _ it_range⟩
    · exact False.elim w1⟩
def enumD : List D → R (List D)
  | [.lst ds] => .ok (pairsD (rgD 0 ds.length) ds)
  | _ => .no
def zipD : List D → R (List D)
  | [.lst ds, .lst es] => .ok (pairsD ds es)
  | [.tup ds, .tup es] => .ok (pairsD ds es)
  | _ => .no
theorem wi_enum (hg : Gl X "enumerate") (hm : X.mg "enumerate" = none) (ha : PA X [e] (tEvA X.K X.mg E ma)) (hst : notStar e = true) : PI X (.Tuple elts kk tpos) (.Call (.Name "enumerate" p) [e] [] pos) (tIt X.K X.mg E fun ε => ma ε >>= enumD) :=
  (pi_enum hg hm ha (star_cons hst)).of fun σ H Q ⟨hs, ε, n, S, w⟩ => ⟨hs, ε, n, S, (RWG.bind w).imp fun ds n1 H1 s1 u1 w1 vs rvs => by
    unfold enumD at w1
    split at w1
    · cases rvs with
      | cons h t =>
        cases t
        cases h with
        | lst h r => exact ⟨_, _, rfl, SqL.of (hid_le _ _ h), w1 H1 (Sm.refl _) u1 _ (it_enum h r)⟩
    · exact False.elim w1⟩
theorem wi_zip (hg : Gl X "zip") (hm : X.mg "zip" = none) (ha : PA X [e, e2] (tEvA X.K X.mg E ma)) (hst : notStar e = true) (hst2 : notStar e2 = true) : PI X (.Tuple elts kk tpos) (.Call (.Name "zip" p) [e, e2] [] pos) (tIt X.K X.mg E fun ε => ma ε >>= zipD) :=
  (RZ.pi_zipA hg hm ha (star_cons hst) (star_any (by rw [List.all_cons, hst2]; rfl))).of fun σ H Q ⟨hs, ε, n, S, w⟩ => ⟨hs, ε, n, S, (RWG.bind w).imp fun ds n1 H1 s1 u1 w1 vs rvs => by
    unfold zipD at w1
    split at w1
    · cases rvs with
      | cons h t =>
        cases t with
        | cons h2 t =>
          cases t
          cases h with
          | lst h r =>
            cases h2 with
            | lst h2 r2 => exact ⟨_, _, _, _, rfl, .inl ⟨SqL.of (hid_le _ _ h), SqL.of (hid_le _ _ h2), w1 H1 (Sm.refl _) u1 _ (it_zipL h h2 r r2)⟩⟩
    · cases rvs with
      | cons h t =>
        cases t with
        | cons h2 t =>
          cases t
          cases h with
          | tup h r =>
            cases h2 with
            | tup h2 r2 => exact ⟨_, _, _, _, rfl, .inr ⟨(h.same hid_le).T, (h2.same hid_le).T, w1 H1 (Sm.refl _) u1 _ (it_zipT h h2 r r2)⟩⟩
    · exact False.elim w1⟩
/-! ### targets -/
theorem wipe_set {σ : L2.St} {x : Option V} : ∀ {vs : List Nat} {i : Nat}, i ∈ vs → wipe (σ.set i x) vs = wipe σ vs
  | v :: vs, i, h => by
    by_cases c : i ∈ vs
    · show (wipe (σ.set i x) vs).set v none = (wipe σ vs).set v none
      rw [wipe_set c]
    · rcases List.mem_cons.mp h with e | h
      · subst e
        have q : ∀ (us : List Nat) (τ : L2.St), wipe (τ.set i x) us = wipe τ us ∨ wipe (τ.set i x) us = (wipe τ us).set i x := fun us τ => by
          induction us with
          | nil => exact .inr rfl
          | cons u us ih =>
            by_cases d : u = i
            · refine .inl ?_
              show (wipe (τ.set i x) us).set u none = (wipe τ us).set u none
              rcases ih with ih | ih
              · rw [ih]
              · rw [ih, d, List.set_set]
            · rcases ih with ih | ih
              · exact .inl (by show (wipe (τ.set i x) us).set u none = (wipe τ us).set u none; rw [ih])
              · exact .inr (by show (wipe (τ.set i x) us).set u none = ((wipe τ us).set u none).set i x; rw [ih, List.set_comm _ _ (fun z => d z.symm)])
        show (wipe (σ.set i x) vs).set i none = (wipe σ vs).set i none
        rcases q vs σ with z | z
        · rw [z]
        · rw [z, List.set_set]
      · exact absurd h c
theorem asg_cons {e : Expr} {es : List Expr} {env : PySem.Env} (h : notStar e = true) : assignEach (e :: es) env = (false, assign e env) :: assignEach es env := by
  cases e <;> first | rfl | cases h
theorem asg_len : ∀ {es : List Expr} {env : PySem.Env}, es.all notStar = true → (assignEach es env).length = es.length ∧ (assignEach es env).findIdx? (·.1) = none
  | [], _, _ => ⟨rfl, rfl⟩
  | e :: es, env, h => by
    rw [List.all_cons, Bool.and_eq_true] at h
    obtain ⟨h1, h2⟩ := asg_len (es := es) (env := env) h.2
    rw [asg_cons h.1]
    refine ⟨congrArg (· + 1) h1, ?_⟩
    rw [List.findIdx?_cons]
    show (if false = true then _ else _) = _
    rw [if_neg (fun z => nomatch z), h2]
    rfl
def gEv (K : PySem.W.Frag) (mg : Str → Option Value) (E : XU) (m : D → Env → R Env) (sl : List Nat) : TG := fun v σ H Q => ∃ hs ε n d, Rs K E.u n hs H σ ε ∧ Rp K (hid hs H) v d ∧
  RWG K mg E hs n (m d ε) H fun ε' n' H' => ∀ σ', Rs K E.u n' hs H' σ' ε' → (∀ vs, (∀ i ∈ sl, i ∈ vs) → wipe σ' vs = wipe σ vs) → (∀ (j : Nat) d, ε'[j]? = some (some (true, d)) → ε[j]? = some (some (true, d)) ∧ σ'[j]? = σ[j]?) → Q σ' H'
def gEvs (K : PySem.W.Frag) (mg : Str → Option Value) (E : XU) (m : List D → Env → R Env) (sl : List Nat) : TGs := fun vs σ H Q => ∃ hs ε n ds, Rs K E.u n hs H σ ε ∧ RpA K (hid hs H) vs ds ∧
  RWG K mg E hs n (m ds ε) H fun ε' n' H' => ∀ σ', Rs K E.u n' hs H' σ' ε' → (∀ vs, (∀ i ∈ sl, i ∈ vs) → wipe σ' vs = wipe σ vs) → (∀ (j : Nat) d, ε'[j]? = some (some (true, d)) → ε[j]? = some (some (true, d)) ∧ σ'[j]? = σ[j]?) → Q σ' H'
theorem _root_.L2.PG.of {t t' : TG} (h : PG X e t) (w : ∀ v σ H Q, t' v σ H Q → t v σ H Q) : PG X e t' := ⟨fun pins s σ H v u Q I r q => h.run pins s σ H v u Q I r (w v σ H Q q)⟩
theorem _root_.L2.PGs.of {t t' : TGs} (h : PGs X es t) (w : ∀ v σ H Q, t' v σ H Q → t v σ H Q) : PGs X es t' := ⟨fun pins s σ H v u Q I r q => h.run pins s σ H v u Q I r (w v σ H Q q)⟩
theorem wg_name {i : Nat} (h : PG X e (gName i)) : PG X e (gEv X.K X.mg E (fun d ε => .ok (ε.set i (some (false, d)))) [i]) := h.of fun v σ H Q ⟨hs, ε, n, d, S, r, w⟩ =>
  w H (Sm.refl _) S.ur _ (S.put r) (fun vs h => wipe_set (h i (List.mem_singleton.mpr rfl))) fun j d q => by
    rcases get_set q with ⟨_, z, _⟩ | ⟨c, q⟩
    · cases z
    · exact ⟨q, List.getElem?_set_ne c⟩
theorem wg_nil : PGs X [] (gEvs X.K X.mg E (fun ds ε => match ds with | [] => .ok ε | _ => .no) []) := pgs_nil.of fun v σ H Q ⟨hs, ε, n, d, S, r, w⟩ => by
  cases d with
  | nil =>
    cases r
    exact ⟨rfl, w H (Sm.refl _) S.ur _ S (fun _ _ => rfl) fun _ _ q => ⟨q, rfl⟩⟩
  | cons _ _ => exact False.elim w
theorem wg_cons (hst : notStar e = true) {m1 : D → Env → R Env} {m2 : List D → Env → R Env} {s1 s2 : List Nat} (h1 : PG X e (gEv X.K X.mg E m1 s1)) (h2 : PGs X es (gEvs X.K X.mg E m2 s2)) :
    PGs X (e :: es) (gEvs X.K X.mg E (fun ds ε => match ds with | d :: ds => m1 d ε >>= m2 ds | [] => .no) (s1 ++ s2)) := (pgs_cons h1 h2 (by rw [asg_cons hst]; rfl)).of fun v σ H Q ⟨hs, ε, n, d, S, r, w⟩ => by
  cases d with
  | nil => exact False.elim w
  | cons d ds =>
    cases r with
    | cons r rs =>
      refine ⟨_, _, rfl, hs, ε, n, d, S, r, (RWG.bind w).imp fun ε1 n1 H1 sm u1 w1 σ1 S1 q1 o1 => ⟨hs, ε1, n1, ds, S1, rs.same (sm.hid S.uh), w1.imp fun ε2 n2 H2 sm2 u2 w2 σ2 S2 q2 o2 => w2 σ2 S2 (fun vs h => ?_) fun j d z => ?_⟩⟩
      · rw [q2 vs fun i m => h i (List.mem_append_right _ m), q1 vs fun i m => h i (List.mem_append_left _ m)]
      · obtain ⟨z1, z2⟩ := o2 j d z
        obtain ⟨z3, z4⟩ := o1 j d z1
        exact ⟨z3, z2.trans z4⟩
theorem wg_tup {ms : List D → Env → R Env} {sl : List Nat} {k : Nat} (hc : X.calm = true) (h : PGs X es (gEvs X.K X.mg E ms sl)) (hn : (assignEach es X.env).length = es.length) (hst : (assignEach es X.env).findIdx? (·.1) = none) :
    PG X (.Tuple es k pos) (gEv X.K X.mg E (fun d ε => iterD d >>= fun ds => if ds.length = es.length then ms ds ε else .no) sl) := (Cx.pg_seq (n := es.length) hc h hn hst).of fun v σ H Q ⟨hs, ε, n, d, S, r, w⟩ => by
  cases d with
  | lst ds =>
    obtain ⟨hl, w⟩ := RWG.ite w
    cases r with
    | lst h1 r1 => exact ⟨_, ⟨_, rfl, .inl (SqL.of (hid_le _ _ h1))⟩, by rw [r1.len]; exact hl, hs, ε, n, ds, S, r1, w⟩
  | tup ds =>
    obtain ⟨hl, w⟩ := RWG.ite w
    cases r with
    | tup h1 r1 => exact ⟨_, ⟨_, rfl, .inr (h1.same hid_le).T⟩, by rw [r1.len]; exact hl, hs, ε, n, ds, S, r1, w⟩
  | _ => exact False.elim w
/-! ### comprehensions -/
/-- no exception -/
def R.calm {α : Type} : R α → R α
  | .ok a => .ok a
  | .ex _ _ => .no
  | .no => .no
  | .any P n k => .any P n fun d => (k d).calm
def compD (f : D → R (Option D)) : List D → R (List D)
  | [] => .ok []
  | d :: ds => (f d).calm >>= fun o => match o with
    | none => compD f ds
    | some y => compD f ds >>= fun ys => .ok (y :: ys)
/-- what follows, from where it began -/
theorem RWG.calmB {K : PySem.W.Frag} {mg : Str → Option Value} {E E' : XU} {α β γ : Type} {hs ks : List Addr} {H H3 : Hp} {Q : γ → Nat → Hp → Prop} {k : α → R β} {g : β → R γ} : ∀ {r : R α} {n : Nat}, RWG K mg E hs n ((r >>= k).calm >>= g) H Q → RWG K mg E' ks n r H3 fun a n1 _ => RWG K mg E hs n1 ((k a).calm >>= g) H Q
  | .ok a, n, w => fun _ _ _ => w
  | .ex c fs, n, w => False.elim w
  | .no, n, w => False.elim w
  | .any P c k2, n, w => ⟨w.1, fun d p => RWG.calmB (r := k2 d) (w.2 d p)⟩
theorem RWG.bind0 {K : PySem.W.Frag} {mg : Str → Option Value} {E : XU} {α β : Type} {hs : List Addr} {H H3 : Hp} (s : Sm E.u H H3) {Q : β → Nat → Hp → Prop} {k : α → R β} : ∀ {r : R α} {n : Nat}, RWG K mg E hs n (r >>= k) H Q → RWG K mg E hs n r H3 fun a n1 _ => RWG K mg E hs n1 (k a) H Q
  | .ok a, n, w => fun _ _ _ => w
  | .ex c fs, n, w => fun C p H' s' => w C p H' (s.trans s')
  | .no, n, w => w
  | .any P c k2, n, w => ⟨w.1, fun d p => RWG.bind0 s (r := k2 d) (w.2 d p)⟩
/-- one turn -/
def turnD (mt : D → Env → R Env) (mb : Env → R Bool) (me : Env → R D) (ε0 : Env) (d : D) : R (Option D) := mt d ε0 >>= fun ε => mb ε >>= fun b => if b = true then me ε >>= fun y => .ok (some y) else .ok none
def E0 (E : XU) : XU := ⟨fun _ _ _ => False, E.u⟩
theorem wipe_wipe {σ : L2.St} : ∀ {us vs : List Nat}, (∀ i ∈ us, i ∈ vs) → wipe (wipe σ us) vs = wipe σ vs
  | [], _, _ => rfl
  | u :: us, vs, h => by
    show wipe ((wipe σ us).set u none) vs = wipe σ vs
    rw [wipe_set (h u List.mem_cons_self), wipe_wipe fun i m => h i (List.mem_cons_of_mem _ m)]
theorem lc_weak {K : PySem.W.Frag} {mg : Str → Option Value} {vs : List Nat} {mi : Env → R (List D)} {mt : D → Env → R Env} {sl : List Nat} (hsl : ∀ i ∈ sl, i ∈ vs) :
    ∀ σ H Q, tEvF K mg E (fun ε => mi ε >>= fun ds => capD ds >>= fun ds => compD (turnD mt mb me (wipeE ε vs)) ds >>= fun ys => .ok (.lst ys)) σ H Q → tLc (tIt K mg E mi) (gEv K mg (E0 E) mt sl) (tEvT K mg (E0 E) mb) (tEv K mg (E0 E) me) vs σ H Q := fun σ H Q ⟨hs, ε, n, S, w⟩ => ⟨hs, ε, n, S, (RWG.bind w).imp fun ds n1 H1 s1 u1 w1 J hJ A nA => by
    obtain ⟨hz, w1⟩ := w1.cap
    have w1 := RWG.bind0 (Sm.refl _) w1
    have S1 := S.same s1 u1
    have nu : some A ≠ E.u := u1.there nA
    have uks : ∀ a, E.u = some a → a ∈ A :: hs := fun a e => List.mem_cons_of_mem _ (S.uh a e)
    obtain ⟨G, Y, wk, hG, hY⟩ := hJ
    refine lc_it wk (fun i H2 => Sm E.u H1 H2 ∧ ∃ n2 acc zs, Urn E.u n2 H2 ∧ H2 A = some (.lst acc) ∧ RpA K (hid (A :: hs) H2) acc zs ∧ acc.length ≤ i ∧ RWG K mg E hs n2 (compD (turnD mt mb me (wipeE ε vs)) (ds.drop i)) H1 fun rest n' _ => RWG K mg E hs n' (.ok (.lst (zs ++ rest))) H1 fun d n' H' => ∀ p, H p = none → H' p ≠ none → Own K (hid (p :: hs) H') H' p d → Q (.ref p) H')
      ⟨Sm.new nA, n1, [], [], u1.upd nu, upd_same, .nil, Nat.le_refl _, by rw [List.drop_zero]; exact w1⟩ (fun i H2 _ q => hG H2 (KpR.of q.1 S.uh)) (fun i x H2 H3 hi ⟨s2, n2, acc, zs, u2, hA, ra, la, wr⟩ y => ?_) fun H2 ⟨s2, n2, acc, zs, u2, hA, ra, la, wr⟩ => ?_
    · obtain ⟨s3, hk⟩ := hY i H2 x H3 hi (KpR.of s2 S.uh) y
      have hd : ds[i]? = some ds[i] := List.getElem?_eq_getElem hi
      have ain : AllIn (A :: hs) H2 := fun v m => by
        rcases List.mem_cons.mp m with e | m
        · rw [e, hA]
          exact nt_lst
        · exact (S1.ain.same s2) v m
      have rx := hk (A :: hs) ain (fun a m => (List.mem_cons.mp m).elim (fun e => .inr (e ▸ nA)) .inl) _ hd
      have hA3 := s3 _ _ hA
      have S3 : Rs K E.u n2 (A :: hs) H3 (wipe σ vs) (wipeE ε vs) := (S1.wipe _).hide (s2.trans (.of s3)) (u2.same s3) nA (by rw [hA3]; exact nt_lst)
      rw [List.drop_eq_getElem_cons hi] at wr
      have fin : ∀ {H4 : Hp}, Sm E.u H3 H4 → Sm E.u H1 H4 := fun s4 => (s2.trans (.of s3)).trans s4
      refine ⟨A :: hs, _, n2, _, S3, rx, ?_⟩
      refine (RWG.calmB (E' := E0 E) (ks := A :: hs) (H3 := H3) wr).imp fun ε1 n4 H4 s4 u4 w4 σ4 S4 q4 _ => ⟨by rw [q4 _ hsl, wipe_wipe fun i m => m], A :: hs, ε1, n4, S4, ?_⟩
      refine (RWG.calmB (E' := E0 E) (ks := A :: hs) (H3 := H4) w4).imp fun b n5 H5 s5 u5 w5 => ?_
      cases b with
      | false => exact ⟨fin (s4.trans s5), n5, acc, zs, u5, (s4.trans s5).kp _ _ nu hA3, ra.same (((Sm.of s3).trans (s4.trans s5)).hid uks), by omega, w5⟩
      | true =>
        refine ⟨A :: hs, ε1, n5, S4.same s5 u5, ?_⟩
        refine (RWG.calmB (E' := E0 E) (ks := A :: hs) (H3 := H5) w5).imp fun y0 n6 H6 s6 u6 w6 v rv => ?_
        have s36 := (s4.trans s5).trans s6
        refine ⟨acc, s36.kp _ _ nu hA3, Nat.lt_of_le_of_lt la (by have : cap = 100000 := rfl; rw [sizeLine_eq]; omega), ⟨fun b o nb e => ?_, fun b nb => ?_, fun b nb => NT.upd (fun _ z => nomatch z) ((fin s36).nt b nb)⟩, n6, acc ++ [v], zs ++ [y0], u6.upd nu, upd_same, ?_, ?_, ?_⟩
        · rw [upd_ne (ne_of_none e nA)]
          exact (fin s36).kp b o nb e
        · by_cases c : b = A
          · rw [c, upd_same]
            exact fun z => nomatch z
          · rw [upd_ne c]
            exact (fin s36).th b nb
        · rw [hid_put List.mem_cons_self]
          exact (ra.same (((Sm.of s3).trans s36).hid uks)).snoc rv
        · rw [List.length_append]
          show acc.length + 1 ≤ _
          omega
        · exact (RWG.bind0 (Sm.refl _) (show RWG K mg E hs n6 (compD (turnD mt mb me (wipeE ε vs)) (ds.drop (i + 1)) >>= fun ys => R.ok (y0 :: ys)) H1 _ from w6)).imp fun rest n7 H7 s7 u7 w7 => by
            rw [List.append_assoc]
            exact w7 H7 s7 u7
    · rw [List.drop_length] at wr
      have z := wr H2 s2 u2 H2 s2 u2 A (s1.free nA) (by rw [hA]; exact fun z => nomatch z)
      rw [List.append_nil] at z
      exact z ⟨acc, hA, ra⟩⟩
theorem w_lc {scope : Scope} {own : List (Str × Nat)} {mi : Env → R (List D)} {mt : D → Env → R Env} {sl : List Nat} (hc : X.calm = true) (hN : X.N.Nodup) (hi : PI X tg iter (tIt X.K X.mg E mi)) (ok : BlkOk X.N X.env.scope scope own) (hsl : ∀ i ∈ sl, i ∈ own.map (·.2))
    (hg : ∀ (s : Shared) (H : Hp) (C : Addr) (cl : List (Str × Addr)) (fp : List Addr), PG (X.blk s H scope (compEnvC scope cl C X.env) fp) tg (gEv X.K X.mg (E0 E) mt sl)) (ht : ∀ (s : Shared) (H : Hp) (C : Addr) (cl : List (Str × Addr)) (fp : List Addr), PTs (X.blk s H scope (compEnvC scope cl C X.env) fp) ifs (tEvT X.K X.mg (E0 E) mb))
    (he : ∀ (s : Shared) (H : Hp) (C : Addr) (cl : List (Str × Addr)) (fp : List Addr), PE (X.blk s H scope (compEnvC scope cl C X.env) fp) elt (tEv X.K X.mg (E0 E) me)) (hs : ∀ x, foldedSetIterable iter X.env x = pure x) :
    PE X (.ListComp elt [⟨tg, iter, ifs, 0⟩] scope pos) (tEvF X.K X.mg E fun ε => mi ε >>= fun ds => capD ds >>= fun ds => compD (turnD mt mb me (wipeE ε (own.map (·.2)))) ds >>= fun ys => .ok (.lst ys)) :=
  (pe_lc hc hN hi ok hg ht he hs).of (lc_weak hsl)
end
end Fx

/-! dicts: put, comprehension, get, from pairs -/
namespace Fx
open PySem PySem.Spec PyProof.Rows L2
def putD (kds : List (Key × D)) (k : Key) (d : D) : List (Key × D) :=
  if (kds.any fun kv => decide (kv.1 = k)) = true then kds.map (fun kv => if kv.1 = k then (kv.1, d) else kv) else kds ++ [(k, d)]
section
variable {K : PySem.W.Frag} {H : Hp}
theorem RpK.snoc {k : Key} {v : V} {d : D} (h : Rp K H v d) : ∀ {kvs : List (Key × V)} {kds : List (Key × D)}, RpK K H kvs kds → RpK K H (kvs ++ [(k, v)]) (kds ++ [(k, d)])
  | _, _, .nil => .cons h .nil
  | _, _, .cons g a => .cons g (RpK.snoc h a)
theorem RpK.mapk {k : Key} {v : V} {d : D} (h : Rp K H v d) : ∀ {kvs : List (Key × V)} {kds : List (Key × D)}, RpK K H kvs kds → RpK K H (kvs.map (fun kv => if kv.1 = k then (kv.1, v) else kv)) (kds.map (fun kv => if kv.1 = k then (kv.1, d) else kv))
  | _, _, .nil => .nil
  | _, _, .cons (k := j) g a => by
    rw [List.map_cons, List.map_cons]
    by_cases c : j = k
    · rw [if_pos c, if_pos c]
      exact .cons h (RpK.mapk h a)
    · rw [if_neg c, if_neg c]
      exact .cons g (RpK.mapk h a)
theorem RpK.any {k : Key} : ∀ {kvs : List (Key × V)} {kds : List (Key × D)}, RpK K H kvs kds → (kvs.any fun kv => decide (kv.1 = k)) = kds.any fun kv => decide (kv.1 = k)
  | _, _, .nil => rfl
  | _, _, .cons g a => by rw [List.any_cons, List.any_cons, RpK.any a]
theorem RpK.put {k : Key} {v : V} {d : D} (h : Rp K H v d) {kvs : List (Key × V)} {kds : List (Key × D)} (r : RpK K H kvs kds) : RpK K H (putK kvs k v) (putD kds k d) := by
  unfold putK putD
  rw [r.any]
  split
  · exact r.mapk h
  · exact r.snoc h
end
section
variable {J : It} {n : Nat} {G : Hp → Prop} {Y : Nat → Hp → V → Hp → Prop}
/-- a dict comprehension over it: Pv by the turn and the heap -/
theorem dc_it (w : Walk J n G Y) {g : TG} {tt : TT} {tk tv : TE} {vs : List Nat} {σ : L2.St} {H1 : Hp} {A : Addr} {Qd : Hp → Prop} (Pv : Nat → Hp → Prop) (h0 : Pv 0 (upd H1 A (.dK []))) (hG : ∀ i H, i ≤ n → Pv i H → G H)
    (hs : ∀ i x H H', i < n → Pv i H → Y i H x H' → g x (wipe σ vs) H' fun σ2 H2 => wipe σ2 vs = wipe σ vs ∧ tt σ2 H2 fun b H3 =>
      if b = true then tk σ2 H3 fun y H4 => tv σ2 H4 fun z H5 => ∃ kvs k, y = kV k ∧ H5 A = some (.dK kvs) ∧ kvs.length < sizeLine ∧ Pv (i + 1) (upd H5 A (.dK (putK kvs k z))) else Pv (i + 1) H3) (hd : ∀ H, Pv n H → Qd H) :
    ∃ W : Nat → Nat → Hp → Prop, (∃ m, W 0 m (upd H1 A (.dK []))) ∧ ∀ i m H, W i m H →
      (J.stop i H ∧ Qd H) ∨ (J.go i H ∧ ∃ Nx : Hp → Prop, (∀ H', Nx H' → ∃ m', m' < m ∧ W (i + 1) m' H') ∧ ∀ x H', J.yld i H x H' → g x (wipe σ vs) H' fun σ2 H2 => wipe σ2 vs = wipe σ vs ∧ tt σ2 H2 fun b H3 =>
        if b = true then tk σ2 H3 fun y H4 => tv σ2 H4 fun z H5 => ∃ kvs k, y = kV k ∧ H5 A = some (.dK kvs) ∧ kvs.length < sizeLine ∧ Nx (upd H5 A (.dK (putK kvs k z))) else Nx H3) := by
  refine ⟨fun i m H => m = n - i ∧ i ≤ n ∧ Pv i H, ⟨n, by simp, Nat.zero_le _, h0⟩, ?_⟩
  rintro i m H ⟨rfl, hi, p⟩
  have q := hG i H hi p
  by_cases hlt : i < n
  · refine .inr ⟨w.goes i H hlt q, Pv (i + 1), fun H' p' => ⟨n - (i + 1), by omega, rfl, hlt, p'⟩, fun x H' y => hs i x H H' hlt p (w.yields i H x H' hlt q y)⟩
  · have e : i = n := by omega
    subst e
    exact .inl ⟨w.stops H q, hd H p⟩
end
def turnK (mt : D → Env → R Env) (mb : Env → R Bool) (mk mv : Env → R D) (ε0 : Env) (d : D) : R (Option (D × D)) := mt d ε0 >>= fun ε => mb ε >>= fun b => if b = true then mk ε >>= fun y => mv ε >>= fun z => .ok (some (y, z)) else .ok none
def compK (f : D → R (Option (D × D))) : List (Key × D) → List D → R (List (Key × D))
  | acc, [] => .ok acc
  | acc, d :: ds => (f d).calm >>= fun o => match o with
    | none => compK f acc ds
    | some (y, z) => match keyD y with
      | some k => if acc.length < cap then compK f (putD acc k z) ds else .no
      | none => .no
section
variable {X : Cx} {E : XU} {tg iter e e2 kx vx o : Expr} {m m2 mk mv : Env → R D} {mb : Env → R Bool} {p pos tpos : Pos} {ifs : List Expr}
theorem dc_weak {K : PySem.W.Frag} {mg : Str → Option Value} {vs : List Nat} {mi : Env → R (List D)} {mt : D → Env → R Env} {sl : List Nat} (hsl : ∀ i ∈ sl, i ∈ vs) :
    ∀ σ H Q, tEvF K mg E (fun ε => mi ε >>= fun ds => compK (turnK mt mb mk mv (wipeE ε vs)) [] ds >>= fun ys => .ok (.dic ys)) σ H Q → tDc (tIt K mg E mi) (gEv K mg (E0 E) mt sl) (tEvT K mg (E0 E) mb) (tEv K mg (E0 E) mk) (tEv K mg (E0 E) mv) vs σ H Q := fun σ H Q ⟨hs, ε, n, S, w⟩ => ⟨hs, ε, n, S, (RWG.bind w).imp fun ds n1 H1 s1 u1 w1 J hJ A nA => by
    have w1 := RWG.bind0 (Sm.refl _) w1
    have S1 := S.same s1 u1
    have nu : some A ≠ E.u := u1.there nA
    have uks : ∀ a, E.u = some a → a ∈ A :: hs := fun a e => List.mem_cons_of_mem _ (S.uh a e)
    obtain ⟨G, Y, wk, hG, hY⟩ := hJ
    refine dc_it wk (fun i H2 => Sm E.u H1 H2 ∧ ∃ n2 kvs acc, Urn E.u n2 H2 ∧ H2 A = some (.dK kvs) ∧ RpK K (hid (A :: hs) H2) kvs acc ∧ RWG K mg E hs n2 (compK (turnK mt mb mk mv (wipeE ε vs)) acc (ds.drop i)) H1 fun rest n' _ => RWG K mg E hs n' (.ok (.dic rest)) H1 fun d n' H' => ∀ p, H p = none → H' p ≠ none → Own K (hid (p :: hs) H') H' p d → Q (.ref p) H')
      ⟨Sm.new nA, n1, [], [], u1.upd nu, upd_same, .nil, by rw [List.drop_zero]; exact w1⟩ (fun i H2 _ q => hG H2 (KpR.of q.1 S.uh)) (fun i x H2 H3 hi ⟨s2, n2, kvs, acc, u2, hA, ra, wr⟩ y => ?_) fun H2 ⟨s2, n2, kvs, acc, u2, hA, ra, wr⟩ => ?_
    · obtain ⟨s3, hk⟩ := hY i H2 x H3 hi (KpR.of s2 S.uh) y
      have hd : ds[i]? = some ds[i] := List.getElem?_eq_getElem hi
      have ain : AllIn (A :: hs) H2 := fun v m => by
        rcases List.mem_cons.mp m with e | m
        · rw [e, hA]
          exact nt_dK
        · exact (S1.ain.same s2) v m
      have rx := hk (A :: hs) ain (fun a m => (List.mem_cons.mp m).elim (fun e => .inr (e ▸ nA)) .inl) _ hd
      have hA3 := s3 _ _ hA
      have S3 : Rs K E.u n2 (A :: hs) H3 (wipe σ vs) (wipeE ε vs) := (S1.wipe _).hide (s2.trans (.of s3)) (u2.same s3) nA (by rw [hA3]; exact nt_dK)
      rw [List.drop_eq_getElem_cons hi] at wr
      have fin : ∀ {H4 : Hp}, Sm E.u H3 H4 → Sm E.u H1 H4 := fun s4 => (s2.trans (.of s3)).trans s4
      refine ⟨A :: hs, _, n2, _, S3, rx, ?_⟩
      refine (RWG.calmB (E' := E0 E) (ks := A :: hs) (H3 := H3) wr).imp fun ε1 n4 H4 s4 u4 w4 σ4 S4 q4 _ => ⟨by rw [q4 _ hsl, wipe_wipe fun i m => m], A :: hs, ε1, n4, S4, ?_⟩
      refine (RWG.calmB (E' := E0 E) (ks := A :: hs) (H3 := H4) w4).imp fun b n5 H5 s5 u5 w5 => ?_
      cases b with
      | false => exact ⟨fin (s4.trans s5), n5, kvs, acc, u5, (s4.trans s5).kp _ _ nu hA3, ra.same (((Sm.of s3).trans (s4.trans s5)).hid uks), w5⟩
      | true =>
        refine ⟨A :: hs, ε1, n5, S4.same s5 u5, ?_⟩
        refine (RWG.calmB (E' := E0 E) (ks := A :: hs) (H3 := H5) w5).imp fun y0 n6 H6 s6 u6 w6 y ry => ?_
        refine ⟨A :: hs, ε1, n6, (S4.same s5 u5).same s6 u6, ?_⟩
        refine (RWG.calmB (E' := E0 E) (ks := A :: hs) (H3 := H6) w6).imp fun z0 n7 H7 s7 u7 w7 z rz => ?_
        have s37 := ((s4.trans s5).trans s6).trans s7
        have w7 : RWG K mg E hs n7 (match keyD y0 with | some k => if acc.length < cap then compK (turnK mt mb mk mv (wipeE ε vs)) (putD acc k z0) (ds.drop (i + 1)) else .no | none => .no) H1 _ := w7
        cases qk : keyD y0 with
        | none =>
          rw [qk] at w7
          exact False.elim w7
        | some k =>
          rw [qk] at w7
          obtain ⟨hz, w7⟩ := RWG.ite w7
          have ra' := ra.same (((Sm.of s3).trans s37).hid uks)
          refine ⟨kvs, k, (Rw.sh (u := E.u) ry).key qk, s37.kp _ _ nu hA3, ?_, ⟨fun b o nb e => ?_, fun b nb => ?_, fun b nb => NT.upd (fun _ z => nomatch z) ((fin s37).nt b nb)⟩, n7, putK kvs k z, putD acc k z0, u7.upd nu, upd_same, ?_, w7⟩
          · rw [ra.len, sizeLine_eq]
            have : cap = 100000 := rfl
            omega
          · rw [upd_ne (ne_of_none e nA)]
            exact (fin s37).kp b o nb e
          · by_cases c : b = A
            · rw [c, upd_same]
              exact fun z => nomatch z
            · rw [upd_ne c]
              exact (fin s37).th b nb
          · rw [hid_put List.mem_cons_self]
            exact ra'.put rz
    · rw [List.drop_length] at wr
      exact wr H2 s2 u2 H2 s2 u2 A (s1.free nA) (by rw [hA]; exact fun z => nomatch z) ⟨kvs, hA, ra⟩⟩
theorem w_dc {scope : Scope} {own : List (Str × Nat)} {mi : Env → R (List D)} {mt : D → Env → R Env} {sl : List Nat} (hc : X.calm = true) (hN : X.N.Nodup) (hi : PI X tg iter (tIt X.K X.mg E mi)) (ok : BlkOk X.N X.env.scope scope own) (hsl : ∀ i ∈ sl, i ∈ own.map (·.2))
    (hg : ∀ (s : Shared) (H : Hp) (C : Addr) (cl : List (Str × Addr)) (fp : List Addr), PG (X.blk s H scope (compEnvC scope cl C X.env) fp) tg (gEv X.K X.mg (E0 E) mt sl)) (ht : ∀ (s : Shared) (H : Hp) (C : Addr) (cl : List (Str × Addr)) (fp : List Addr), PTs (X.blk s H scope (compEnvC scope cl C X.env) fp) ifs (tEvT X.K X.mg (E0 E) mb))
    (hk : ∀ (s : Shared) (H : Hp) (C : Addr) (cl : List (Str × Addr)) (fp : List Addr), PE (X.blk s H scope (compEnvC scope cl C X.env) fp) kx (tEv X.K X.mg (E0 E) mk))
    (he : ∀ (s : Shared) (H : Hp) (C : Addr) (cl : List (Str × Addr)) (fp : List Addr), PE (X.blk s H scope (compEnvC scope cl C X.env) fp) vx (tEv X.K X.mg (E0 E) mv)) (hs : ∀ x, foldedSetIterable iter X.env x = pure x) :
    PE X (.DictComp kx vx [⟨tg, iter, ifs, 0⟩] scope pos) (tEvF X.K X.mg E fun ε => mi ε >>= fun ds => compK (turnK mt mb mk mv (wipeE ε (own.map (·.2)))) [] ds >>= fun ys => .ok (.dic ys)) :=
  (pe_dc hc hN hi ok hg ht hk he hs).of (dc_weak hsl)
/-- name = {k: v for ..}, stored as it ends -/
theorem ps_setDc {i : Nat} {y : Str} {py spos : Pos} {scope : Scope} {own : List (Str × Nat)} {wi : TI} {g : TG} {tt : TT} {tk tv : TE} (hc : X.calm = true) (hN : X.N.Nodup) (hy : X.N[i]? = some y) (hyl : X.env.scope.names.lookup y = some .local)
    (hsw : swapsWith (.DictComp kx vx [⟨tg, iter, ifs, 0⟩] scope pos) (some (.Name y py)) spos.line X.env = pure true) (hi : PI X tg iter wi) (ok : BlkOk X.N X.env.scope scope own)
    (hg : ∀ (s : Shared) (H : Hp) (C : Addr) (cl : List (Str × Addr)) (fp : List Addr), PG (X.blk s H scope (compEnvC scope cl C X.env) fp) tg g) (ht : ∀ (s : Shared) (H : Hp) (C : Addr) (cl : List (Str × Addr)) (fp : List Addr), PTs (X.blk s H scope (compEnvC scope cl C X.env) fp) ifs tt)
    (hk : ∀ (s : Shared) (H : Hp) (C : Addr) (cl : List (Str × Addr)) (fp : List Addr), PE (X.blk s H scope (compEnvC scope cl C X.env) fp) kx tk)
    (he : ∀ (s : Shared) (H : Hp) (C : Addr) (cl : List (Str × Addr)) (fp : List Addr), PE (X.blk s H scope (compEnvC scope cl C X.env) fp) vx tv) (hs : ∀ x, foldedSetIterable iter X.env x = pure x) :
    PS X (.Assign [.Name y py] (.DictComp kx vx [⟨tg, iter, ifs, 0⟩] scope pos) spos) (tAsg (tDc wi g tt tk tv (own.map (·.2))) (gName i)) := by
  refine ⟨fun pins s σ H D I h => ?_⟩
  rw [exec_Assign_Name_used _ _ _ _ hsw]
  refine wpAny_bind (wpAny_standAt (wpAny_bind ?_))
  show wpAny _ X.A (do let _ ← comprehension (.DictComp kx vx [⟨tg, iter, ifs, 0⟩] scope pos) scope X.env (firstIterPos [⟨tg, iter, ifs, 0⟩] pos) newDict false (eval iter X.env) (some (assign (.Name y py) X.env))) _ _ s
  have h : tDc wi g tt tk tv (own.map (·.2)) σ H (fun x H1 => gName i x σ H1 D.nx) := h
  refine wpAny_bind (thn (dc_core (Qf := fun _ s' => SP X pins D .next s') hc hN I hi ok hg ht hk he hs h fun L C s' m H' I' q hn f => ?_) fun _ s' hq => wpAny_pure (wpAny_pure hq))
  show wpAny _ _ (assign (.Name y py) X.env (.ref L)) _ _ _
  refine wpAny_assign_Name (store_ok2 (v := V.ref L) I' hN hy (.inl hyl) rfl (fun s2 I2 ⟨a, sb, ha⟩ => ?_) (.inr hyl))
  obtain ⟨f0, f1, f2, f3, f4, f5⟩ := f
  have haC : C ≠ a := by
    rcases ha with z | z
    · rw [z]
      exact f1
    · exact fun e => f4 y a z e.symm
  exact ⟨m, hn.sameBut sb haC, fun h3 sb3 => ⟨_, H', I2.turned (t' := s2.toks) (fun b o hb e => (sb3.2 b hb).trans e) f0 f1 f3 f4 f5, q⟩⟩
/-! ### the empty dict; get -/
theorem w_dnew : PE X (.Dict [] [] pos) (tEvF X.K X.mg E fun _ => .ok (.dic [])) := pe_dnewK.of fun σ H Q ⟨hs, ε, n, S, w⟩ p np =>
  w _ (Sm.new np) (S.ur.upd (S.ur.there np)) p np (by rw [upd_same]; exact fun z => nomatch z) ⟨[], upd_same, .nil⟩
def dicOf : D → R (List (Key × D))
  | .dic kds => .ok kds
  | _ => .no
def getD (kds : List (Key × D)) (k z : D) : R D := match keyD k with
  | some k => .ok ((lookD kds k).getD z)
  | none => .no
theorem isD_of {H : Hp} {a : Addr} {xs : List (Key × V)} (h : H a = some (.dK xs)) : IsD H a := .inl ⟨xs, .inl h⟩
/-- it stands as it stood: the items of a dict that is read -/
theorem Rw.dicS {K : PySem.W.Frag} {u : Option Addr} {hs : List Addr} {H H' : Hp} {v : V} {kds : List (Key × D)} (h : Rw K u hs H v (.dic kds)) (s : Sm u H H') (hu : ∀ a, u = some a → a ∈ hs) : ∃ a xs, v = .ref a ∧ H' a = some (.dK xs) ∧ RpK K (hid hs H') xs kds := (h.same s hu).dic
theorem o_get {K : PySem.W.Frag} {mg : Str → Option Value} {hs : List Addr} {n : Nat} {H : Hp} {y z : V} {k dz : D} {a : Addr} {xs : List (Key × V)} {kds : List (Key × D)} {Q : VK} (hd : Hd E.u n hs H) (h1 : H a = some (.dK xs)) (r1 : RpK K (hid hs H) xs kds) (ry : Rp K (hid hs H) y k) (rz : Rp K (hid hs H) z dz) (w : RW K mg E hs n (getD kds k dz) H Q) :
    ∃ o, DGet H a y o ∧ Q (o.getD z) H := by
  unfold getD at w
  split at w
  · rename_i j hj
    rcases r1.look (k := j) with ⟨v, d', g1, g2, g3⟩ | ⟨g1, g2⟩
    · refine ⟨valV xs j, by rw [(Rw.sh (u := E.u) ry).key hj]; exact DGet.k h1, ?_⟩
      rw [g2] at w
      rw [g1]
      exact now hd g3 w
    · refine ⟨valV xs j, by rw [(Rw.sh (u := E.u) ry).key hj]; exact DGet.k h1, ?_⟩
      rw [g2] at w
      rw [g1]
      exact now hd rz w
  · exact False.elim w
theorem w_get2 {apos cpos : Pos} (hu : X.A.units + 1 < cLine) (ho : PE X o (tEvP X.K X.mg E m)) (h1 : PE X e (tEv X.K X.mg E mk)) (h2 : PE X e2 (tEv X.K X.mg E mv)) (hm : M2 X o "get" apos e e2 cpos) :
    PE X (.Call (.Attribute o "get" apos) [e, e2] [] cpos) (tEv X.K X.mg E fun ε => m ε >>= fun d => dicOf d >>= fun kds => mk ε >>= fun k => mv ε >>= fun z => getD kds k z) :=
  (pe_dget2 hu ho h1 h2 hm).of fun σ H Q ⟨hs, ε, n, S, w⟩ => ⟨hs, ε, n, S, (RWG.bind w).imp fun d n1 H1 s1 u1 w1 v rv => by
    cases d with
    | dic kds =>
      obtain ⟨a, xs, e1, g1, r1⟩ := rv.dic
      refine ⟨a, e1, isD_of g1, hs, ε, n1, S.same s1 u1, (RWG.bind (show RWG X.K X.mg E hs n1 (mk ε >>= fun k => mv ε >>= fun z => getD kds k z) H1 _ from w1)).imp fun k n2 H2 s2 u2 w2 y ry => ⟨hs, ε, n2, (S.same s1 u1).same s2 u2, (RWG.bind w2).imp fun dz n3 H3 s3 u3 w3 z rz => ?_⟩⟩
      obtain ⟨b, ys, e2, g2, r2⟩ := rv.dicS (s2.trans s3) S.uh
      rw [e1] at e2
      cases e2
      exact o_get (((S.same s1 u1).same s2 u2).same s3 u3).hd g2 r2 (ry.same (s3.hid S.uh)) rz w3
    | _ => exact False.elim w1⟩
theorem w_get1 {apos cpos : Pos} (hu : X.A.units + 1 < cLine) (ho : PE X o (tEvP X.K X.mg E m)) (h1 : PE X e (tEv X.K X.mg E mk)) (hm : M1 X o "get" apos e cpos) :
    PE X (.Call (.Attribute o "get" apos) [e] [] cpos) (tEv X.K X.mg E fun ε => m ε >>= fun d => dicOf d >>= fun kds => mk ε >>= fun k => getD kds k .non) :=
  (pe_dget1 hu ho h1 hm).of fun σ H Q ⟨hs, ε, n, S, w⟩ => ⟨hs, ε, n, S, (RWG.bind w).imp fun d n1 H1 s1 u1 w1 v rv => by
    cases d with
    | dic kds =>
      obtain ⟨a, xs, e1, g1, r1⟩ := rv.dic
      refine ⟨a, e1, isD_of g1, hs, ε, n1, S.same s1 u1, (RWG.bind (show RWG X.K X.mg E hs n1 (mk ε >>= fun k => getD kds k .non) H1 _ from w1)).imp fun k n2 H2 s2 u2 w2 y ry => ?_⟩
      obtain ⟨b, ys, e2, g2, r2⟩ := rv.dicS s2 S.uh
      rw [e1] at e2
      cases e2
      exact o_get ((S.same s1 u1).same s2 u2).hd g2 r2 ry .non w2
    | _ => exact False.elim w1⟩
/-! ### dict(a list of pairs) -/
def pairsOf : List D → Option (List (Key × D))
  | [] => some []
  | d :: ds => match d with
    | .tup [k, v] => match keyD k, pairsOf ds with
      | some k, some r => some ((k, v) :: r)
      | _, _ => none
    | _ => none
def mergeD (acc : List (Key × D)) : List (Key × D) → List (Key × D)
  | [] => acc
  | kv :: r => mergeD (putD acc kv.1 kv.2) r
def dictD : List D → R D
  | [.lst ds] => match pairsOf ds with
    | some r => .ok (.dic (mergeD [] r))
    | none => .no
  | _ => .no
end
end Fx

/-! comprehensions with two fors -/
namespace Fx
open PySem PySem.Spec PyProof.Rows L2
section
variable {J : It} {n : Nat} {G : Hp → Prop} {Y : Nat → Hp → V → Hp → Prop}
theorem lc_it2 (w : Walk J n G Y) {g g1 : TG} {tt tt1 : TT} {te : TE} {wi1 : TI} {vs vs1 : List Nat} {σ : L2.St} {H1 : Hp} {A : Addr} {Qd : Hp → Prop} (Pv : Nat → Hp → Prop) (h0 : Pv 0 (upd H1 A (.lst []))) (hG : ∀ i H, i ≤ n → Pv i H → G H)
    (hs : ∀ i x H H', i < n → Pv i H → Y i H x H' → g x (wipe σ vs) H' fun σ2 H2 => wipe σ2 vs = wipe σ vs ∧ tt σ2 H2 fun b H3 =>
      if b = true then wi1 σ2 H3 fun J1 H4 => ∃ W1 : Nat → Nat → Hp → Prop, (∃ m, W1 0 m H4) ∧ ∀ j k H, W1 j k H →
        (J1.stop j H ∧ Pv (i + 1) H) ∨ (J1.go j H ∧ ∃ Nx1 : Hp → Prop, (∀ H', Nx1 H' → ∃ k', k' < k ∧ W1 (j + 1) k' H') ∧ ∀ x H', J1.yld j H x H' → g1 x (wipe σ2 vs1) H' fun σ3 H5 => wipe σ3 vs1 = wipe σ2 vs1 ∧ tt1 σ3 H5 fun b H6 =>
          if b = true then te σ3 H6 fun y H7 => ∃ acc, H7 A = some (.lst acc) ∧ acc.length < sizeLine ∧ Nx1 (upd H7 A (.lst (acc ++ [y]))) else Nx1 H6)
      else Pv (i + 1) H3) (hd : ∀ H, Pv n H → Qd H) :
    ∃ W : Nat → Nat → Hp → Prop, (∃ m, W 0 m (upd H1 A (.lst []))) ∧ ∀ i m H, W i m H →
      (J.stop i H ∧ Qd H) ∨ (J.go i H ∧ ∃ Nx : Hp → Prop, (∀ H', Nx H' → ∃ m', m' < m ∧ W (i + 1) m' H') ∧ ∀ x H', J.yld i H x H' → g x (wipe σ vs) H' fun σ2 H2 => wipe σ2 vs = wipe σ vs ∧ tt σ2 H2 fun b H3 =>
        if b = true then wi1 σ2 H3 fun J1 H4 => ∃ W1 : Nat → Nat → Hp → Prop, (∃ m, W1 0 m H4) ∧ ∀ j k H, W1 j k H →
          (J1.stop j H ∧ Nx H) ∨ (J1.go j H ∧ ∃ Nx1 : Hp → Prop, (∀ H', Nx1 H' → ∃ k', k' < k ∧ W1 (j + 1) k' H') ∧ ∀ x H', J1.yld j H x H' → g1 x (wipe σ2 vs1) H' fun σ3 H5 => wipe σ3 vs1 = wipe σ2 vs1 ∧ tt1 σ3 H5 fun b H6 =>
            if b = true then te σ3 H6 fun y H7 => ∃ acc, H7 A = some (.lst acc) ∧ acc.length < sizeLine ∧ Nx1 (upd H7 A (.lst (acc ++ [y]))) else Nx1 H6)
        else Nx H3) := by
  refine ⟨fun i m H => m = n - i ∧ i ≤ n ∧ Pv i H, ⟨n, by simp, Nat.zero_le _, h0⟩, ?_⟩
  rintro i m H ⟨rfl, hi, p⟩
  have q := hG i H hi p
  by_cases hlt : i < n
  · refine .inr ⟨w.goes i H hlt q, Pv (i + 1), fun H' p' => ⟨n - (i + 1), by omega, rfl, hlt, p'⟩, fun x H' y => hs i x H H' hlt p (w.yields i H x H' hlt q y)⟩
  · have e : i = n := by omega
    subst e
    exact .inl ⟨w.stops H q, hd H p⟩
/-- the inner walk of a comprehension: Pv by the turn and the heap (the list at A within) -/
theorem lc1_it (w : Walk J n G Y) {g : TG} {tt : TT} {te : TE} {vs : List Nat} {σ : L2.St} {H4 : Hp} {A : Addr} {Nx : Hp → Prop} (Pv : Nat → Hp → Prop) (h0 : Pv 0 H4) (hG : ∀ i H, i ≤ n → Pv i H → G H)
    (hs : ∀ i x H H', i < n → Pv i H → Y i H x H' → g x (wipe σ vs) H' fun σ3 H5 => wipe σ3 vs = wipe σ vs ∧ tt σ3 H5 fun b H6 =>
      if b = true then te σ3 H6 fun y H7 => ∃ acc, H7 A = some (.lst acc) ∧ acc.length < sizeLine ∧ Pv (i + 1) (upd H7 A (.lst (acc ++ [y]))) else Pv (i + 1) H6) (hd : ∀ H, Pv n H → Nx H) :
    ∃ W : Nat → Nat → Hp → Prop, (∃ m, W 0 m H4) ∧ ∀ j k H, W j k H →
      (J.stop j H ∧ Nx H) ∨ (J.go j H ∧ ∃ Nx1 : Hp → Prop, (∀ H', Nx1 H' → ∃ k', k' < k ∧ W (j + 1) k' H') ∧ ∀ x H', J.yld j H x H' → g x (wipe σ vs) H' fun σ3 H5 => wipe σ3 vs = wipe σ vs ∧ tt σ3 H5 fun b H6 =>
        if b = true then te σ3 H6 fun y H7 => ∃ acc, H7 A = some (.lst acc) ∧ acc.length < sizeLine ∧ Nx1 (upd H7 A (.lst (acc ++ [y]))) else Nx1 H6) := by
  refine ⟨fun i m H => m = n - i ∧ i ≤ n ∧ Pv i H, ⟨n, by simp, Nat.zero_le _, h0⟩, ?_⟩
  rintro i m H ⟨rfl, hi, p⟩
  have q := hG i H hi p
  by_cases hlt : i < n
  · refine .inr ⟨w.goes i H hlt q, Pv (i + 1), fun H' p' => ⟨n - (i + 1), by omega, rfl, hlt, p'⟩, fun x H' y => hs i x H H' hlt p (w.yields i H x H' hlt q y)⟩
  · have e : i = n := by omega
    subst e
    exact .inl ⟨w.stops H q, hd H p⟩
end
theorem wipe_get {σ : L2.St} {j : Nat} {v : V} : ∀ {vs : List Nat}, (wipe σ vs)[j]? = some (some v) → σ[j]? = some (some v)
  | [], h => h
  | i :: vs, h => by
    rcases get_set (show ((wipe σ vs).set i none)[j]? = some (some v) from h) with ⟨_, z, _⟩ | ⟨_, h⟩
    · cases z
    · exact wipe_get h
theorem wipeE_get {ε : Env} {j : Nat} {v : Bool × D} : ∀ {vs : List Nat}, (wipeE ε vs)[j]? = some (some v) → ε[j]? = some (some v)
  | [], h => h
  | i :: vs, h => by
    rcases get_set (show ((wipeE ε vs).set i none)[j]? = some (some v) from h) with ⟨_, z, _⟩ | ⟨_, h⟩
    · cases z
    · exact wipeE_get h
/-- all stays but at u and at A, which no slot owns -/
theorem Rs.baseA {K : PySem.W.Frag} {u : Option Addr} {n n' : Nat} {hs : List Addr} {H H' : Hp} {σ : L2.St} {ε : Env} {A : Addr} (S : Rs K u n hs H σ ε) (hne : ∀ (j : Nat) d a, ε[j]? = some (some (true, d)) → σ[j]? = some (some (V.ref a)) → a ≠ A) (hA : A ∈ hs)
    (kp : ∀ b o, some b ≠ u → b ≠ A → H b = some o → H' b = some o) (th : ∀ b, H b ≠ none → H' b ≠ none) (nt : ∀ b, NT (H b) → NT (H' b)) (ur : Urn u n' H') : Rs K u n' hs H' σ ε := by
  have sm : Same (hid hs H) (hid hs H') := fun b o e => by
    obtain ⟨h1, h2⟩ := hid_some e
    rw [hid_out h1]
    exact kp b o (fun z => h1 (S.uh b z.symm)) (fun z => h1 (z ▸ hA)) h2
  refine ⟨S.len, fun v m => nt v (S.ain v m), S.uh, ur, fun i f d e => ?_, S.ne⟩
  obtain ⟨v, h1, h2, h3⟩ := S.sl i f d e
  refine ⟨v, h1, fun q => (h2 q).same sm, fun q => ?_⟩
  obtain ⟨a, e1, m, na, o⟩ := h3 q
  subst e1
  subst q
  refine ⟨a, rfl, m, na, ?_⟩
  have aA := hne i d a e h1
  cases d with
  | lst ds =>
    obtain ⟨xs, k1, k2⟩ := o
    exact ⟨xs, kp _ _ na aA k1, k2.same sm⟩
  | dic ds =>
    obtain ⟨xs, k1, k2⟩ := o
    exact ⟨xs, kp _ _ na aA k1, k2.same sm⟩
  | _ => exact False.elim o
def turn2 (mt : D → Env → R Env) (mb : Env → R Bool) (mi1 : Env → R (List D)) (mt1 : D → Env → R Env) (mb1 : Env → R Bool) (me : Env → R D) (vs1 : List Nat) (ε0 : Env) (d : D) : R (List D) :=
  mt d ε0 >>= fun ε => mb ε >>= fun b => if b = true then mi1 ε >>= fun ds1 => capD ds1 >>= fun ds1 => compD (turnD mt1 mb1 me (wipeE ε vs1)) ds1 else .ok []
def compL (f : D → R (List D)) : Nat → List D → R (List D)
  | _, [] => .ok []
  | a, d :: ds => if a ≤ cap then (f d).calm >>= fun ys => compL f (a + ys.length) ds >>= fun zs => .ok (ys ++ zs) else .no
section
variable {K : PySem.W.Frag} {mg : Str → Option Value} {E E' : XU} {α β γ δ : Type} {hs ks : List Addr} {H H3 : Hp}
theorem RWG.calmBB {Q : δ → Nat → Hp → Prop} {k0 : α → R β} {k : β → R γ} {c : γ → R δ} : ∀ {r : R α} {n : Nat}, RWG K mg E hs n ((((r >>= k0).calm >>= k).calm) >>= c) H Q → RWG K mg E' ks n r H3 fun a n1 _ => RWG K mg E hs n1 ((((k0 a).calm >>= k).calm) >>= c) H Q
  | .ok a, n, w => fun _ _ _ => w
  | .ex _ fs, n, w => False.elim w
  | .no, n, w => False.elim w
  | .any P _ k2, n, w => ⟨w.1, fun d p => RWG.calmBB (r := k2 d) (w.2 d p)⟩
theorem calm_map {f : α → β} {c : β → R γ} : ∀ r : R α, ((r >>= fun a => R.ok (f a)).calm >>= c) = (r.calm >>= fun a => c (f a))
  | .ok a => rfl
  | .ex _ fs => rfl
  | .no => rfl
  | .any P n k => congrArg (R.any P n) (funext fun d => calm_map (k d))
theorem RWG.capC {k : List D → R α} {c : α → R β} {n : Nat} {ds : List D} {Q : β → Nat → Hp → Prop} (w : RWG K mg E hs n ((capD ds >>= k).calm >>= c) H Q) : ds.length ≤ Fx.cap ∧ RWG K mg E hs n ((k ds).calm >>= c) H Q := by
  unfold capD at w
  split at w
  · rename_i h
    exact ⟨h, w⟩
  · exact False.elim w
end
section
variable {X : Cx} {E : XU} {tg iter tg1 iter1 elt : Expr} {me : Env → R D} {mb mb1 : Env → R Bool} {pos : Pos} {ifs ifs1 : List Expr}
theorem lc2_weak {K : PySem.W.Frag} {mg : Str → Option Value} {vs vs1 : List Nat} {mi mi1 : Env → R (List D)} {mt mt1 : D → Env → R Env} {sl sl1 : List Nat} (hsl : ∀ i ∈ sl, i ∈ vs) (hsl1 : ∀ i ∈ sl1, i ∈ vs1) :
    ∀ σ H Q, tEvF K mg E (fun ε => mi ε >>= fun ds => compL (turn2 mt mb mi1 mt1 mb1 me vs1 (wipeE ε vs)) 0 ds >>= fun ys => .ok (.lst ys)) σ H Q → tLc2 (tIt K mg E mi) (gEv K mg (E0 E) mt sl) (tEvT K mg (E0 E) mb) (tIt K mg (E0 E) mi1) (gEv K mg (E0 E) mt1 sl1) (tEvT K mg (E0 E) mb1) (tEv K mg (E0 E) me) vs vs1 σ H Q := fun σ H Q ⟨hs, ε, n, S, w⟩ => ⟨hs, ε, n, S, (RWG.bind w).imp fun ds n1 H1 s1 u1 w1 J hJ A nA => by
    have w1 := RWG.bind0 (Sm.refl _) w1
    have S1 := S.same s1 u1
    have nu : some A ≠ E.u := u1.there nA
    have uks : ∀ a, E.u = some a → a ∈ A :: hs := fun a e => List.mem_cons_of_mem _ (S.uh a e)
    obtain ⟨G, Y, wk, hG, hY⟩ := hJ
    let f := turn2 mt mb mi1 mt1 mb1 me vs1 (wipeE ε vs)
    refine lc_it2 wk (fun i H2 => Sm E.u H1 H2 ∧ ∃ n2 acc zs, Urn E.u n2 H2 ∧ H2 A = some (.lst acc) ∧ RpA K (hid (A :: hs) H2) acc zs ∧ RWG K mg E hs n2 (compL f zs.length (ds.drop i)) H1 fun rest n' _ => RWG K mg E hs n' (.ok (.lst (zs ++ rest))) H1 fun d n' H' => ∀ p, H p = none → H' p ≠ none → Own K (hid (p :: hs) H') H' p d → Q (.ref p) H')
      ⟨Sm.new nA, n1, [], [], u1.upd nu, upd_same, .nil, by rw [List.drop_zero]; exact w1⟩ (fun i H2 _ q => hG H2 (KpR.of q.1 S.uh)) (fun i x H2 H3 hi ⟨s2, n2, acc, zs, u2, hA, ra, wr⟩ y => ?_) fun H2 ⟨s2, n2, acc, zs, u2, hA, ra, wr⟩ => ?_
    · obtain ⟨s3, hk⟩ := hY i H2 x H3 hi (KpR.of s2 S.uh) y
      have hd : ds[i]? = some ds[i] := List.getElem?_eq_getElem hi
      have ain : AllIn (A :: hs) H2 := fun v m => by
        rcases List.mem_cons.mp m with e | m
        · rw [e, hA]
          exact nt_lst
        · exact (S1.ain.same s2) v m
      have rx := hk (A :: hs) ain (fun a m => (List.mem_cons.mp m).elim (fun e => .inr (e ▸ nA)) .inl) _ hd
      have hA3 := s3 _ _ hA
      have S3 : Rs K E.u n2 (A :: hs) H3 (wipe σ vs) (wipeE ε vs) := (S1.wipe _).hide (s2.trans (.of s3)) (u2.same s3) nA (by rw [hA3]; exact nt_lst)
      rw [List.drop_eq_getElem_cons hi, compL] at wr
      obtain ⟨hz, wr⟩ := RWG.ite wr
      have fin : ∀ {H4 : Hp}, Sm E.u H3 H4 → Sm E.u H1 H4 := fun s4 => (s2.trans (.of s3)).trans s4
      -- what follows this turn
      have nxt : ∀ {H4 : Hp} {n4 : Nat} {acc' : List V} {zs1 : List D}, Sm E.u H1 H4 → Urn E.u n4 H4 → H4 A = some (.lst acc') → RpA K (hid (A :: hs) H4) acc' (zs ++ zs1) →
          RWG K mg E hs n4 (compL f (zs.length + zs1.length) (ds.drop (i + 1)) >>= fun r => .ok (zs1 ++ r)) H1 (fun rest n' _ => RWG K mg E hs n' (.ok (.lst (zs ++ rest))) H1 fun d n' H' => ∀ p, H p = none → H' p ≠ none → Own K (hid (p :: hs) H') H' p d → Q (.ref p) H') →
          Sm E.u H1 H4 ∧ ∃ n2 acc zs, Urn E.u n2 H4 ∧ H4 A = some (.lst acc) ∧ RpA K (hid (A :: hs) H4) acc zs ∧ RWG K mg E hs n2 (compL f zs.length (ds.drop (i + 1))) H1 fun rest n' _ => RWG K mg E hs n' (.ok (.lst (zs ++ rest))) H1 fun d n' H' => ∀ p, H p = none → H' p ≠ none → Own K (hid (p :: hs) H') H' p d → Q (.ref p) H' :=
        fun {H4 n4 acc' zs1} sm ur hA4 ra4 w4 => ⟨sm, n4, acc', zs ++ zs1, ur, hA4, ra4, by
          rw [List.length_append]
          exact (RWG.bind0 (Sm.refl _) w4).imp fun rest n7 H7 s7 u7 w7 => by
            rw [List.append_assoc]
            exact w7 H7 s7 u7⟩
      refine ⟨A :: hs, _, n2, _, S3, rx, ?_⟩
      refine (RWG.calmB (E' := E0 E) (ks := A :: hs) (H3 := H3) wr).imp fun ε1 n4 H4 s4 u4 w4 σ4 S4 q4 o4 => ⟨by rw [q4 _ hsl, wipe_wipe fun i m => m], A :: hs, ε1, n4, S4, ?_⟩
      refine (RWG.calmB (E' := E0 E) (ks := A :: hs) (H3 := H4) w4).imp fun b n5 H5 s5 u5 w5 => ?_
      cases b with
      | false =>
        exact nxt (zs1 := []) (fin (s4.trans s5)) u5 ((s4.trans s5).kp _ _ nu hA3) (by rw [List.append_nil]; exact ra.same (((Sm.of s3).trans (s4.trans s5)).hid uks)) w5
      | true =>
        have S5 := S4.same s5 u5
        refine ⟨A :: hs, ε1, n5, S5, ?_⟩
        refine (RWG.calmB (E' := E0 E) (ks := A :: hs) (H3 := H5) w5).imp fun ds1 n6 H6 s6 u6 w6 J1 hJ1 => ?_
        obtain ⟨hz1, w6⟩ := RWG.capC w6
        obtain ⟨G1, Y1, wk1, hG1, hY1⟩ := hJ1
        have s36 := (s4.trans s5).trans s6
        have S6 := (S5.same s6 u6).wipe vs1
        have hA6 := s36.kp _ _ nu hA3
        have one : ∀ (j : Nat) d a, (wipeE ε1 vs1)[j]? = some (some (true, d)) → (wipe σ4 vs1)[j]? = some (some (V.ref a)) → a ≠ A := fun j d a g1 g2 z => by
          obtain ⟨g3, g4⟩ := o4 j d (wipeE_get g1)
          obtain ⟨v, g5, _, g6⟩ := (S1.wipe vs).sl j true d g3
          obtain ⟨b, e1, mb, _⟩ := g6 rfl
          rw [wipe_get g2] at g4
          rw [g5, e1] at g4
          cases g4
          exact (S1.ain _ mb).1 (by rw [z]; exact nA)
        have ra6 := ra.same (((Sm.of s3).trans s36).hid uks)
        have kpr : ∀ {H7 : Hp}, ((∀ b o, some b ≠ E.u → b ≠ A → H6 b = some o → H7 b = some o) ∧ (∀ b, H6 b ≠ none → H7 b ≠ none) ∧ ∀ b, NT (H6 b) → NT (H7 b)) → KpR (A :: hs) H6 H7 := fun q => ⟨fun b o e => by
          obtain ⟨h1, h2⟩ := hid_some e
          rw [hid_out h1]
          exact q.1 b o (fun z => h1 (uks b z.symm)) (fun z => h1 (z ▸ List.mem_cons_self)) h2, q.2.1, q.2.2⟩
        refine lc1_it wk1 (fun j H7 => Sm E.u H1 H7 ∧ ((∀ b o, some b ≠ E.u → b ≠ A → H6 b = some o → H7 b = some o) ∧ (∀ b, H6 b ≠ none → H7 b ≠ none) ∧ ∀ b, NT (H6 b) → NT (H7 b)) ∧ ∃ n7 acc' zs1, Urn E.u n7 H7 ∧ H7 A = some (.lst acc') ∧ RpA K (hid (A :: hs) H7) acc' (zs ++ zs1) ∧ zs1.length ≤ j ∧ RWG K mg E hs n7 ((compD (turnD mt1 mb1 me (wipeE ε1 vs1)) (ds1.drop j)).calm >>= fun r1 => compL f (zs.length + (zs1 ++ r1).length) (ds.drop (i + 1)) >>= fun r => .ok ((zs1 ++ r1) ++ r)) H1 (fun rest n' _ => RWG K mg E hs n' (.ok (.lst (zs ++ rest))) H1 fun d n' H' => ∀ p, H p = none → H' p ≠ none → Own K (hid (p :: hs) H') H' p d → Q (.ref p) H'))
          ⟨fin s36, ⟨fun _ _ _ _ e => e, fun _ n => n, fun _ n => n⟩, n6, acc, [], u6, hA6, by rw [List.append_nil]; exact ra6, Nat.le_refl _, by rw [List.drop_zero]; exact w6⟩ (fun j H7 _ q => hG1 H7 (kpr q.2.1)) (fun j x H7 H8 hj ⟨t7, k7, n7, acc7, zs1, u7, hA7, ra7, l7, w7⟩ y => ?_) fun H7 ⟨t7, k7, n7, acc7, zs1, u7, hA7, ra7, l7, w7⟩ => ?_
        · obtain ⟨s8, hk8⟩ := hY1 j H7 x H8 hj (kpr k7) y
          have hd1 : ds1[j]? = some ds1[j] := List.getElem?_eq_getElem hj
          have ain7 : AllIn (A :: hs) H7 := fun v m => k7.2.2 v ((S5.same s6 u6).ain v m)
          have rx1 := hk8 (A :: hs) ain7 (fun a m => .inl m) _ hd1
          have hA8 := s8 _ _ hA7
          have S8 : Rs K E.u n7 (A :: hs) H8 (wipe σ4 vs1) (wipeE ε1 vs1) := S6.baseA one List.mem_cons_self (fun b o nb c e => s8 b o (k7.1 b o nb c e)) (fun b z => same_in s8 (k7.2.1 b z)) (fun b z => NT.same s8 (k7.2.2 b z)) (u7.same s8)
          rw [List.drop_eq_getElem_cons hj, compD] at w7
          refine ⟨A :: hs, _, n7, _, S8, rx1, ?_⟩
          refine (RWG.calmBB (E' := E0 E) (ks := A :: hs) (H3 := H8) w7).imp fun ε2 n9 H9 s9 u9 w9 σ9 S9 q9 _ => ⟨by rw [q9 _ hsl1, wipe_wipe fun i m => m], A :: hs, ε2, n9, S9, ?_⟩
          refine (RWG.calmBB (E' := E0 E) (ks := A :: hs) (H3 := H9) w9).imp fun b n10 H10 s10 u10 w10 => ?_
          have kp : ∀ {H11 : Hp}, Sm E.u H8 H11 → ((∀ b o, some b ≠ E.u → b ≠ A → H6 b = some o → H11 b = some o) ∧ (∀ b, H6 b ≠ none → H11 b ≠ none) ∧ ∀ b, NT (H6 b) → NT (H11 b)) := fun s => ⟨fun b o nb c e => s.kp b o nb (s8 b o (k7.1 b o nb c e)), fun a z => s.th a (same_in s8 (k7.2.1 a z)), fun a z => s.nt a (NT.same s8 (k7.2.2 a z))⟩
          cases b with
          | false => exact ⟨(t7.trans (.of s8)).trans (s9.trans s10), kp (s9.trans s10), n10, acc7, zs1, u10, (s9.trans s10).kp _ _ nu hA8, ra7.same (((Sm.of s8).trans (s9.trans s10)).hid uks), by omega, w10⟩
          | true =>
            refine ⟨A :: hs, ε2, n10, S9.same s10 u10, ?_⟩
            refine (RWG.calmBB (E' := E0 E) (ks := A :: hs) (H3 := H10) w10).imp fun y0 n11 H11 s11 u11 w11 v rv => ?_
            have s811 := (s9.trans s10).trans s11
            have t11 := (t7.trans (.of s8)).trans s811
            have k11 := kp s811
            refine ⟨acc7, s811.kp _ _ nu hA8, ?_, ⟨fun b o nb e => ?_, fun b nb => ?_, fun b nb => NT.upd (fun _ z => nomatch z) (t11.nt b nb)⟩, ⟨fun b o nb c e => by rw [upd_ne c]; exact k11.1 b o nb c e, fun b nb => ?_, fun b nb => NT.upd (fun _ z => nomatch z) (k11.2.2 b nb)⟩, n11, acc7 ++ [v], zs1 ++ [y0], u11.upd nu, upd_same, ?_, ?_, ?_⟩
            · rw [ra7.len, List.length_append, sizeLine_eq]
              have : cap = 100000 := rfl
              omega
            · rw [upd_ne (ne_of_none e nA)]
              exact t11.kp b o nb e
            · by_cases c : b = A
              · rw [c, upd_same]
                exact fun z => nomatch z
              · rw [upd_ne c]
                exact t11.th b nb
            · by_cases c : b = A
              · rw [c, upd_same]
                exact fun z => nomatch z
              · rw [upd_ne c]
                exact k11.2.1 b nb
            · rw [hid_put List.mem_cons_self, ← List.append_assoc]
              exact (ra7.same (((Sm.of s8).trans s811).hid uks)).snoc rv
            · rw [List.length_append]
              show zs1.length + 1 ≤ _
              omega
            · have w11 : RWG K mg E hs n11 ((compD (turnD mt1 mb1 me (wipeE ε1 vs1)) (ds1.drop (j + 1)) >>= fun ys => R.ok (y0 :: ys)).calm >>= fun r1 => compL f (zs.length + (zs1 ++ r1).length) (ds.drop (i + 1)) >>= fun r => .ok ((zs1 ++ r1) ++ r)) H1 _ := w11
              rw [calm_map] at w11
              have e2 : (fun r1 : List D => compL f (zs.length + ((zs1 ++ [y0]) ++ r1).length) (ds.drop (i + 1)) >>= fun r => R.ok (((zs1 ++ [y0]) ++ r1) ++ r)) = fun a => compL f (zs.length + (zs1 ++ (y0 :: a)).length) (ds.drop (i + 1)) >>= fun r => R.ok ((zs1 ++ (y0 :: a)) ++ r) := by
                funext a
                rw [List.append_assoc zs1]
                rfl
              rw [e2]
              exact w11
        · rw [List.drop_length] at w7
          refine nxt (zs1 := zs1) t7 u7 hA7 ra7 ?_
          have w7 : RWG K mg E hs n7 (compL f (zs.length + (zs1 ++ []).length) (ds.drop (i + 1)) >>= fun r => R.ok ((zs1 ++ []) ++ r)) H1 _ := w7
          rw [List.append_nil] at w7
          exact w7
    · rw [List.drop_length] at wr
      have z := wr H2 s2 u2 H2 s2 u2 A (s1.free nA) (by rw [hA]; exact fun z => nomatch z)
      rw [List.append_nil] at z
      exact z ⟨acc, hA, ra⟩⟩
theorem w_lc2 {scope : Scope} {own : List (Str × Nat)} {mi mi1 : Env → R (List D)} {mt mt1 : D → Env → R Env} {sl sl1 : List Nat} (hc : X.calm = true) (hN : X.N.Nodup) (hi : PI X tg iter (tIt X.K X.mg E mi)) (ok : BlkOk X.N X.env.scope scope own) (hsl : ∀ i ∈ sl, i ∈ own.map (·.2)) (hv : ∀ i ∈ sl1, i ∈ own.map (·.2))
    (hg : ∀ (s : Shared) (H : Hp) (C : Addr) (cl : List (Str × Addr)) (fp : List Addr), PG (X.blk s H scope (compEnvC scope cl C X.env) fp) tg (gEv X.K X.mg (E0 E) mt sl)) (ht : ∀ (s : Shared) (H : Hp) (C : Addr) (cl : List (Str × Addr)) (fp : List Addr), PTs (X.blk s H scope (compEnvC scope cl C X.env) fp) ifs (tEvT X.K X.mg (E0 E) mb))
    (hi1 : ∀ (s : Shared) (H : Hp) (C : Addr) (cl : List (Str × Addr)) (fp : List Addr), PI (X.blk s H scope (compEnvC scope cl C X.env) fp) tg1 iter1 (tIt X.K X.mg (E0 E) mi1))
    (hg1 : ∀ (s : Shared) (H : Hp) (C : Addr) (cl : List (Str × Addr)) (fp : List Addr), PG (X.blk s H scope (compEnvC scope cl C X.env) fp) tg1 (gEv X.K X.mg (E0 E) mt1 sl1)) (ht1 : ∀ (s : Shared) (H : Hp) (C : Addr) (cl : List (Str × Addr)) (fp : List Addr), PTs (X.blk s H scope (compEnvC scope cl C X.env) fp) ifs1 (tEvT X.K X.mg (E0 E) mb1))
    (he : ∀ (s : Shared) (H : Hp) (C : Addr) (cl : List (Str × Addr)) (fp : List Addr), PE (X.blk s H scope (compEnvC scope cl C X.env) fp) elt (tEv X.K X.mg (E0 E) me)) (hs : ∀ x, foldedSetIterable iter X.env x = pure x) (hs1 : ∀ env x, foldedSetIterable iter1 env x = pure x) :
    PE X (.ListComp elt [⟨tg, iter, ifs, 0⟩, ⟨tg1, iter1, ifs1, 0⟩] scope pos) (tEvF X.K X.mg E fun ε => mi ε >>= fun ds => compL (turn2 mt mb mi1 mt1 mb1 me sl1 (wipeE ε (own.map (·.2)))) 0 ds >>= fun ys => .ok (.lst ys)) :=
  (pe_lc2 hc hN hi ok hv hg ht hi1 hg1 ht1 he hs hs1).of (lc2_weak hsl fun i m => m)
end
end Fx

/-! sorted texts, other built-in functions, calls of defs -/
namespace Fx
open PySem PySem.Spec PyProof.Rows L2
def insS (x : Str) : List Str → List Str
  | [] => [x]
  | y :: ys => if y.cps.toList < x.cps.toList then y :: insS x ys else x :: y :: ys
def sortS : List Str → List Str
  | [] => []
  | x :: xs => insS x (sortS xs)
theorem insS_perm (x : Str) : ∀ ys : List Str, (insS x ys).Perm (x :: ys)
  | [] => List.Perm.refl _
  | y :: ys => by
    rw [insS]
    split
    · exact ((insS_perm x ys).cons y).trans (List.Perm.swap x y ys)
    · exact List.Perm.refl _
theorem sortS_perm : ∀ xs : List Str, (sortS xs).Perm xs
  | [] => List.Perm.refl _
  | x :: xs => (insS_perm x _).trans ((sortS_perm xs).cons x)
def Up (l : List Str) : Prop := l.Pairwise fun x y : Str => x.cps.toList ≤ y.cps.toList
theorem insS_up {x : Str} : ∀ {ys : List Str}, Up ys → Up (insS x ys)
  | [], _ => List.pairwise_singleton _ _
  | y :: ys, h => by
    obtain ⟨h1, h2⟩ := List.pairwise_cons.mp h
    rw [insS]
    split
    · rename_i c
      refine List.pairwise_cons.mpr ⟨fun z m => ?_, insS_up h2⟩
      rcases List.mem_cons.mp ((insS_perm x ys).mem_iff.mp m) with e | m
      · rw [e]
        exact List.not_lt.mp (List.lt_asymm c)
      · exact h1 z m
    · rename_i c
      have xy : x.cps.toList ≤ y.cps.toList := List.not_lt.mp c
      refine List.pairwise_cons.mpr ⟨fun z m => ?_, h⟩
      rcases List.mem_cons.mp m with e | m
      · rw [e]
        exact xy
      · exact List.le_trans xy (h1 z m)
theorem sortS_up : ∀ xs : List Str, Up (sortS xs)
  | [] => .nil
  | x :: xs => insS_up (sortS_up xs)
theorem str_ext {a b : Str} (h : a.cps.toList = b.cps.toList) : a = b := by
  cases a
  cases b
  simp only [Str.mk.injEq]
  exact Array.toList_inj.mp h
theorem up_one {xs ys : List Str} (p : xs.Perm ys) (h1 : Up xs) (h2 : Up ys) : xs = ys := List.Perm.eq_of_pairwise (fun a b _ _ l m => str_ext (List.le_antisymm l m)) h1 h2 p
theorem rise_pw : ∀ {l : List Str} {p : Str}, risingS p l = true → Up (p :: l)
  | [], p, _ => List.pairwise_singleton _ p
  | x :: r, p, h => by
    have h1 := Bool.and_eq_true_iff.mp (show (!ltCps x.cps.toList p.cps.toList && risingS x r) = true from h)
    have ih := rise_pw (l := r) (p := x) h1.2
    have px : p.cps.toList ≤ x.cps.toList := by
      have q := h1.1
      rw [ltCps_eq] at q
      exact List.not_lt.mp (by simpa using q)
    refine List.pairwise_cons.mpr ⟨fun y m => ?_, ih⟩
    rcases List.mem_cons.mp m with e | m
    · rw [e]
      exact px
    · exact List.le_trans px ((List.pairwise_cons.mp ih).1 y m)
theorem sort_pw : ∀ {l : List Str}, sortedS l = true → Up l
  | [], _ => .nil
  | _ :: _, h => rise_pw h
def insI (x : Int) : List Int → List Int
  | [] => [x]
  | y :: ys => if y < x then y :: insI x ys else x :: y :: ys
def sortI : List Int → List Int
  | [] => []
  | x :: xs => insI x (sortI xs)
theorem insI_perm (x : Int) : ∀ ys : List Int, (insI x ys).Perm (x :: ys)
  | [] => List.Perm.refl _
  | y :: ys => by
    rw [insI]
    split
    · exact ((insI_perm x ys).cons y).trans (List.Perm.swap x y ys)
    · exact List.Perm.refl _
theorem sortI_perm : ∀ xs : List Int, (sortI xs).Perm xs
  | [] => List.Perm.refl _
  | x :: xs => (insI_perm x _).trans ((sortI_perm xs).cons x)
theorem insI_up {x : Int} : ∀ {ys : List Int}, ys.Pairwise (· ≤ ·) → (insI x ys).Pairwise (· ≤ ·)
  | [], _ => List.pairwise_singleton _ _
  | y :: ys, h => by
    obtain ⟨h1, h2⟩ := List.pairwise_cons.mp h
    rw [insI]
    split
    · rename_i c
      refine List.pairwise_cons.mpr ⟨fun z m => ?_, insI_up h2⟩
      rcases List.mem_cons.mp ((insI_perm x ys).mem_iff.mp m) with e | m
      · rw [e]
        omega
      · exact h1 z m
    · rename_i c
      refine List.pairwise_cons.mpr ⟨fun z m => ?_, h⟩
      rcases List.mem_cons.mp m with e | m
      · rw [e]
        omega
      · have := h1 z m
        omega
theorem sortI_up : ∀ xs : List Int, (sortI xs).Pairwise (· ≤ ·)
  | [] => .nil
  | x :: xs => insI_up (sortI_up xs)
section
variable {K : PySem.W.Frag} {mg : Str → Option Value} {E : XU}
def sortedD : List D → R D
  | [.lst ds] => match strsOf ds with
    | some xs => if xs.length < 64 then .ok (.lst ((sortS xs).map D.str)) else .no
    | none => match intsOf ds with
      | some xs => if xs.length < 64 then .ok (.lst ((sortI xs).map D.int)) else .no
      | none => .no
  | [.tup ds] => match strsOf ds with
    | some xs => .ok (.lst ((sortS xs).map D.str))
    | none => .no
  | _ => .no
abbrev rSortB (K : PySem.W.Frag) : List V → Hp → VK → Prop := fun vs H Q => ((fun vs H Q => rSortedS K vs H Q ∨ rSorted K vs H Q) : List V → Hp → VK → Prop) vs H Q ∨ Cx.rSortTupS K vs H Q
theorem cr_sortB {X : Cx} : CallR X (.builtin "sorted") (rSortB X.K) := (cr_sortedS.or cr_sorted).or Cx.cr_sortTupS
theorem o_sorted : OpA K mg E (rSortB K) sortedD := by
  intro n hs H vs ds Q ain r w
  unfold sortedD at w
  split at w
  · obtain ⟨v, rfl, rv⟩ := r.one
    obtain ⟨a, xs, e1, h1, r1⟩ := rv.lst
    split at w
    · rename_i zs h
      obtain ⟨h64, w⟩ := RWG.ite w
      rw [strsOf_eq h] at r1
      refine .inl (.inl ⟨a, zs, by rw [e1], SqL.of (by rw [h1, r1.of_strs]), h64, fun ys p pm so np => ?_⟩)
      have z : ys = sortS zs := up_one (pm.trans (sortS_perm zs).symm) (sort_pw so) (sortS_up zs)
      rw [z]
      exact new_lst ain (RpA.strs _) w p np
    · split at w
      · rename_i zs h
        obtain ⟨h64, w⟩ := RWG.ite w
        rw [intsOf_eq h] at r1
        refine .inl (.inr ⟨a, zs, by rw [e1], SqL.of (by rw [h1, r1.of_ints]), h64, fun ys p pm so np => ?_⟩)
        have z : ys = sortI zs := List.Perm.eq_of_pairwise (fun a b _ _ l m => Int.le_antisymm l m) so (sortI_up zs) (pm.trans (sortI_perm zs).symm)
        rw [z]
        exact new_lst ain (RpA.ints _) w p np
      · exact False.elim w
  · obtain ⟨v, rfl, rv⟩ := r.one
    obtain ⟨a, xs, e1, h1, r1⟩ := rv.tup
    split at w
    · rename_i zs h
      rw [strsOf_eq h] at r1
      refine .inr ⟨a, zs, by rw [e1], (by rw [← r1.of_strs]; exact h1.T), fun ys p pm so np => ?_⟩
      have z : ys = sortS zs := up_one (pm.trans (sortS_perm zs).symm) (sort_pw so) (sortS_up zs)
      rw [z]
      exact new_lst ain (RpA.strs _) w p np
    · exact False.elim w
  · exact False.elim w
def absD : List D → R D
  | [.int i] => .ok (.int (if i < 0 then -i else i))
  | _ => .no
theorem o_abs : OpA K mg E (fun xs H Q => ∃ i, xs = [.int i] ∧ Q (.int (if i < 0 then -i else i)) H) absD := by
  intro n hs H vs ds Q ain r w
  unfold absD at w
  split at w
  · obtain ⟨v, rfl, rv⟩ := r.one
    rw [rv.int]
    exact ⟨_, rfl, now ain (.int _) w⟩
  · exact False.elim w
def intF : List D → R D
  | [.int i] => .ok (.int i)
  | [.bl k] => .ok (.int (if k then 1 else 0))
  | _ => .no
theorem o_int : OpA K mg E (fun xs H Q => (∃ i, xs = [.int i] ∧ Q (.int i) H) ∨ ∃ k, xs = [.bl k] ∧ Q (.int (if k then 1 else 0)) H) intF := by
  intro n hs H vs ds Q ain r w
  unfold intF at w
  split at w
  · obtain ⟨v, rfl, rv⟩ := r.one
    rw [rv.int]
    exact .inl ⟨_, rfl, now ain (.int _) w⟩
  · obtain ⟨v, rfl, rv⟩ := r.one
    rw [rv.bl]
    exact .inr ⟨_, rfl, now ain (.int _) w⟩
  · exact False.elim w
def boolF : List D → R D
  | [.int i] => .ok (.bl (i != 0))
  | [.bl k] => .ok (.bl k)
  | _ => .no
theorem o_bool : OpA K mg E (fun xs H Q => (∃ i, xs = [.int i] ∧ Q (.bl (i != 0)) H) ∨ ∃ k, xs = [.bl k] ∧ Q (.bl k) H) boolF := by
  intro n hs H vs ds Q ain r w
  unfold boolF at w
  split at w
  · obtain ⟨v, rfl, rv⟩ := r.one
    rw [rv.int]
    exact .inl ⟨_, rfl, now ain (.bl _) w⟩
  · obtain ⟨v, rfl, rv⟩ := r.one
    rw [rv.bl]
    exact .inr ⟨_, rfl, now ain (.bl _) w⟩
  · exact False.elim w
end
/-! ### defs -/
def RpUA (K : PySem.W.Frag) (u : Option Addr) (H : Hp) : List V → List D → Prop := Paired fun v d => RpU K u H v d
theorem RpUA.len {K : PySem.W.Frag} {u : Option Addr} {H : Hp} {vs : List V} {ds : List D} (h : RpUA K u H vs ds) : vs.length = ds.length := by
  induction h with
  | nil => rfl
  | cons _ _ ih => exact congrArg (· + 1) ih
/-- called with data, the urn at u among them, it answers as F, and nothing that stood is changed but the urn -/
def spF (K : PySem.W.Frag) (mg : Str → Option Value) (n : Nat) (F : List D → R D) : Sp := fun vs H Q E => ∃ u us m ds, vs.length = n ∧ Hd u m us H ∧ RpUA K u (hid us H) vs ds ∧ RW K mg ⟨E, u⟩ us m (F ds) H Q
structure Fun1 where
  n : Nat
  f : List D → R D
  kw : Nat → List Str → Option (List D → List D → R D) := fun _ _ => none
abbrev Fns := Str → Option Fun1
/-- called by positions; what is not given is dd -/
def CalP (CX : CXT) (k : Nat) (P : Program) (w : World) (K : PySem.W.Frag) (mg : Str → Option Value) (base : Heap) (x : Str) (n : Nat) (F : List D → R D) : Prop :=
  ∃ f fd ps F0 dv dvs dd, FnOk P w K mg base CX k f fd ps (spF K mg (n + dd.length) F0) ∧ Binds K fd ps dvs ∧ PySem.W.keepIn K (.ref f) = true ∧ mg x = some (.ref f) ∧ Vals dv dvs ∧ (∀ u H, RpUA K u H dv dd) ∧ ∀ ds, F ds = F0 (ds ++ dd)
/-- called by np positions and the keywords ks -/
def CalK (CX : CXT) (k : Nat) (P : Program) (w : World) (K : PySem.W.Frag) (mg : Str → Option Value) (base : Heap) (x : Str) (np : Nat) (ks : List Str) (g : List D → List D → R D) : Prop :=
  ∃ f fd ps n F0 gU gV, ∃ gD : List D → List D → List D, FnOk P w K mg base CX k f fd ps (spF K mg n F0) ∧ KBn K fd ps np ks gU gV ∧ PySem.W.keepIn K (.ref f) = true ∧ mg x = some (.ref f) ∧
    (∀ u H vs ws ds es, vs.length = np → ws.length = ks.length → RpUA K u H vs ds → RpUA K u H ws es → (gV vs ws).length = n ∧ RpUA K u H (gV vs ws) (gD ds es)) ∧ ∀ ds es, g ds es = F0 (gD ds es)
def CalF (CX : CXT) (k : Nat) (P : Program) (w : World) (K : PySem.W.Frag) (mg : Str → Option Value) (base : Heap) (x : Str) (F : Fun1) : Prop :=
  CalP CX k P w K mg base x F.n F.f ∧ ∀ np ks g, F.kw np ks = some g → CalK CX k P w K mg base x np ks g
/-! ### arguments, the urn among them -/
def tEvU (K : PySem.W.Frag) (mg : Str → Option Value) (E : XU) (m : Env → R D) : TE := fun σ H Q => ∃ hs ε n, Rs K E.u n hs H σ ε ∧ RWG K mg E hs n (m ε) H fun d _ H' => ∀ v, RpU K E.u (hid hs H') v d → Q v H'
def tEvAU (K : PySem.W.Frag) (mg : Str → Option Value) (E : XU) (m : Env → R (List D)) : TA := fun σ H Q => ∃ hs ε n, Rs K E.u n hs H σ ε ∧ RWG K mg E hs n (m ε) H fun ds _ H' => ∀ vs, RpUA K E.u (hid hs H') vs ds → Q vs H'
def rdU (i : Nat) (ε : Env) : R D := match ε[i]? with
  | some (some (false, d)) => .ok d
  | _ => .no
section
variable {X : Cx} {E : XU} {CX : CXT} {k : Nat} {x : Str} {F : Fun1} {e : Expr} {es : List Expr} {m : Env → R D} {ma : Env → R (List D)} {p pos : Pos}
theorem not_urn {K : PySem.W.Frag} {H : Hp} {v : V} {d : D} (r : Rp K H v d) : d ≠ .urn := by
  intro e
  subst e
  cases r
theorem w_rdU {i : Nat} (h : PE X e (tVar i)) : PE X e (tEvU X.K X.mg E (rdU i)) := h.of fun σ H Q ⟨hs, ε, n, S, w⟩ => by
  unfold rdU at w
  split at w
  · rename_i d hd
    obtain ⟨v, h1, h2, _⟩ := S.sl i _ d hd
    exact ⟨v, h1, w H (Sm.refl H) S.ur v (h2 rfl)⟩
  · exact False.elim w
/-- data, or where the urn stands -/
theorem pe_v2u (h : PE X e (tEv X.K X.mg E m)) : PE X e (tEvU X.K X.mg E m) := h.of fun σ H Q ⟨hs, ε, n, S, w⟩ => ⟨hs, ε, n, S, w.imp fun d n' H' s _ q v r => q v (.inl r)⟩
theorem w_nilU : PA X [] (tEvAU X.K X.mg E fun _ => .ok []) := pa_nil.of fun σ H Q ⟨hs, ε, n, S, w⟩ => w H (Sm.refl _) S.ur [] .nil
theorem w_consU (h1 : PE X e (tEvU X.K X.mg E m)) (h2 : PA X es (tEvAU X.K X.mg E ma)) (hs : notStar e = true) : PA X (e :: es) (tEvAU X.K X.mg E fun ε => m ε >>= fun d => ma ε >>= fun ds => .ok (d :: ds)) :=
  (pa_cons h1 h2 (star_cons hs)).of fun σ H Q ⟨hs, ε, n, S, w⟩ => ⟨hs, ε, n, S, (RWG.bind w).imp fun d n1 H1 s1 u1 w1 v rv => ⟨hs, ε, n1, S.same s1 u1, (RWG.bind w1).imp fun ds n2 H2 s2 u2 w2 vs rvs => w2 H2 (Sm.refl _) u2 (v :: vs) (.cons (rv.same (s2.hid S.uh)) rvs)⟩⟩
def callF (F : Fun1) (ds : List D) : R D := if ds.length = F.n then F.f ds else .no
theorem RpUA.app {K : PySem.W.Frag} {u : Option Addr} {H : Hp} {vs ws : List V} {ds es : List D} (h : RpUA K u H vs ds) (g : RpUA K u H ws es) : RpUA K u H (vs ++ ws) (ds ++ es) := by
  induction h with
  | nil => exact g
  | cons h _ ih => exact .cons h ih
theorem w_call (hF : CalF CX k X.prog X.w X.K X.mg X.base x F) (hr : Room k X.A) (hg : Gl X x) (hx : Passes CX X E.x) (ha : PA X (e :: es) (tEvAU X.K X.mg E ma)) (hdb : (x == ("__debug__" : Str)) = false) (hst : (e :: es).all notStar = true) :
    PE X (.Call (.Name x p) (e :: es) [] pos) (tEv X.K X.mg E fun ε => ma ε >>= callF F) := by
  obtain ⟨⟨f, fd, ps, F0, dv, dvs, dd, h1, h2, h3, h4, h5, h6, h7⟩, _⟩ := hF
  rw [List.all_cons, Bool.and_eq_true] at hst
  exact (pe_call h1 hr hg h4 h3 h2 h5 hx ha hdb (star_cons hst.1) (star_any hst.2)).of fun σ H Q ⟨hs, ε, n, S, w⟩ => ⟨hs, ε, n, S, (RWG.bind w).imp fun ds n1 H1 s1 u1 w1 vs rvs => by
    obtain ⟨hl, w1⟩ := RWG.ite w1
    refine ⟨E.u, hs, n1, ds ++ dd, ?_, (S.same s1 u1).hd, rvs.app (h6 _ _), ?_⟩
    · rw [List.length_append, rvs.len, (h6 none H).len, hl]
    · rw [← h7]
      exact w1⟩
theorem w_call0 (hF : CalF CX k X.prog X.w X.K X.mg X.base x F) (hr : Room k X.A) (hg : Gl X x) (hx : Passes CX X E.x) (hdb : (x == ("__debug__" : Str)) = false) :
    PE X (.Call (.Name x p) [] [] pos) (tEv X.K X.mg E fun ε => callF F []) := by
  obtain ⟨⟨f, fd, ps, F0, dv, dvs, dd, h1, h2, h3, h4, h5, h6, h7⟩, _⟩ := hF
  exact (pe_call0 h1 hr hg h4 h3 h2 h5 hx hdb).of fun σ H Q ⟨hs, ε, n, S, w⟩ => by
    obtain ⟨hl, w1⟩ := RWG.ite w
    refine ⟨E.u, hs, n, dd, ?_, S.hd, h6 _ _, ?_⟩
    · show ([] ++ dv).length = _
      rw [List.nil_append, (h6 none H).len, ← hl]
      exact (Nat.zero_add _).symm
    · have z := h7 []
      rw [List.nil_append] at z
      rw [← z]
      exact w1
/-! ### keywords -/
theorem kw_cons {kw : Keyword} {kws : List Keyword} {env : PySem.Env} : keywordEach (kw :: kws) env = (kw.arg, eval kw.value env) :: keywordEach kws env := by
  cases kw
  rfl
def kwNames : List Keyword → List Str
  | [] => []
  | kw :: kws => match kw.arg with
    | some a => a :: kwNames kws
    | none => []
theorem kw_all : ∀ {kws : List Keyword} {env : PySem.Env}, kws.all (·.arg.isSome) = true → (backToKw pos (keywordEach kws env)).all (·.1.isSome) = true ∧ (backToKw pos (keywordEach kws env)).any (·.1.isNone) = false ∧ (backToKw pos (keywordEach kws env)).filterMap (·.1) = kwNames kws
  | [], _, _ => ⟨rfl, rfl, rfl⟩
  | kw :: kws, env, h => by
    rw [List.all_cons, Bool.and_eq_true] at h
    obtain ⟨h1, h2, h3⟩ := kw_all (kws := kws) (env := env) h.2
    obtain ⟨a, ea⟩ := Option.isSome_iff_exists.mp h.1
    rw [kw_cons]
    show ((kw.arg.isSome && (backToKw pos (keywordEach kws env)).all (·.1.isSome)) = true) ∧ ((kw.arg.isNone || (backToKw pos (keywordEach kws env)).any (·.1.isNone)) = false) ∧ _
    unfold kwNames
    rw [ea, h1, h2]
    exact ⟨rfl, rfl, congrArg (a :: ·) h3⟩
theorem pk_nilU : PK X [] (tEvAU X.K X.mg E fun _ => .ok []) := ⟨fun pos pins s σ H Q I ⟨hs, ε, n, S, w⟩ => pk_nil.run pos pins s σ H Q I (w H (Sm.refl _) S.ur [] .nil)⟩
theorem pk_consU {nm : Option Str} {kpos : Pos} {kws : List Keyword} (h1 : PE X e (tEvU X.K X.mg E m)) (h2 : PK X kws (tEvAU X.K X.mg E ma)) : PK X (⟨nm, e, kpos⟩ :: kws) (tEvAU X.K X.mg E fun ε => m ε >>= fun d => ma ε >>= fun ds => .ok (d :: ds)) :=
  ⟨fun pos pins s σ H Q I ⟨hs, ε, n, S, w⟩ => (pk_cons h1 h2).run pos pins s σ H Q I ⟨hs, ε, n, S, (RWG.bind w).imp fun d n1 H1 s1 u1 w1 v rv => ⟨hs, ε, n1, S.same s1 u1, (RWG.bind w1).imp fun ds n2 H2 s2 u2 w2 vs rvs => w2 H2 (Sm.refl _) u2 (v :: vs) (.cons (rv.same (s2.hid S.uh)) rvs)⟩⟩⟩
def callK (np : Nat) (ks : List Str) (g : List D → List D → R D) (ds es : List D) : R D := if ds.length = np ∧ es.length = ks.length then g ds es else .no
variable {kws : List Keyword} {mk : Env → R (List D)} {np : Nat} {g : List D → List D → R D}
theorem w_callK (hF : CalK CX k X.prog X.w X.K X.mg X.base x np (kwNames kws) g) (hr : Room k X.A) (hg : Gl X x) (hx : Passes CX X E.x) (ha : PA X (e :: es) (tEvAU X.K X.mg E ma)) (hk : PK X kws (tEvAU X.K X.mg E mk)) (hkw : kws.all (·.arg.isSome) = true) (hdb : (x == ("__debug__" : Str)) = false) (hst : (e :: es).all notStar = true) :
    PE X (.Call (.Name x p) (e :: es) kws pos) (tEv X.K X.mg E fun ε => ma ε >>= fun ds => mk ε >>= fun es => callK np (kwNames kws) g ds es) := by
  obtain ⟨f, fd, ps, m0, F0, gU, gV, gD, h1, h2, h3, h4, h5, h6⟩ := hF
  obtain ⟨a1, a2, a3⟩ := kw_all (pos := pos) (env := X.env) hkw
  have sa := star_any (env := X.env) (pos := pos) hst
  rw [List.all_cons, Bool.and_eq_true] at hst
  exact (pe_callN h1 hr hg h4 h3 h2 hx ha hk a1 a3 hdb (star_cons hst.1) (by rw [sa, a2]; rfl)).of fun σ H Q ⟨hs, ε, n, S, w⟩ => ⟨hs, ε, n, S, (RWG.bind w).imp fun ds n1 H1 s1 u1 w1 vs rvs => ⟨hs, ε, n1, S.same s1 u1, (RWG.bind w1).imp fun zs n2 H2 s2 u2 w2 ws rws => by
    obtain ⟨⟨l1, l2⟩, w2⟩ := RWG.ite w2
    have rvs2 : RpUA X.K E.u (hid hs H2) vs ds := Paired.mapP rvs fun _ _ r => r.same (s2.hid S.uh)
    have e1 : vs.length = np := by rw [rvs.len, l1]
    have e2 : ws.length = (kwNames kws).length := by rw [rws.len, l2]
    obtain ⟨g1, g2⟩ := h5 E.u (hid hs H2) vs ws ds zs e1 e2 rvs2 rws
    exact ⟨e1, e2, E.u, hs, n2, gD ds zs, g1, ((S.same s1 u1).same s2 u2).hd, g2, by rw [← h6]; exact w2⟩⟩⟩
theorem pe_callN0 {f : Addr} {fd : FuncData} {ps ks : List Str} {sp : Sp} {tk : TA} {gU : List Value → List Value → List Value} {gV : List V → List V → List V} {E : XK} (F : FnOk X.prog X.w X.K X.mg X.base CX k f fd ps sp) (hr : Room k X.A) (hg : Gl X x) (hm : X.mg x = some (.ref f)) (hk : PySem.W.keepIn X.K (.ref f) = true) (hb : KBn X.K fd ps 0 ks gU gV) (hx : Passes CX X E)
    (hkw : PK X kws tk) (hall : (backToKw pos (keywordEach kws X.env)).all (·.1.isSome) = true) (hks : (backToKw pos (keywordEach kws X.env)).filterMap (·.1) = ks) (hdb : (x == ("__debug__" : Str)) = false)
    (hpl : ((backTo pos (starEach [] X.env)).any (·.1) || (backToKw pos (keywordEach kws X.env)).any (·.1.isNone)) = false) : PE X (.Call (.Name x p) [] kws pos) (fun σ H Q => tk σ H fun zs H2 => zs.length = ks.length ∧ sp (gV [] zs) H2 Q E) := by
  refine ⟨fun pins s σ H Q I h => ?_⟩
  refine wpAny_Call_Name_kw (ld_glob I hg hm ?_ hdb)
  refine PySem.W.callWith_KW0 (h₀ := X.base) I.ok.mod.kin hk hall (thn (hkw.run pos pins s σ H _ I h) fun ws s2 ⟨zs, H2, I2, rz, l2, q2⟩ => ⟨I2.kIn, ?_⟩) hpl
  rw [hks]
  exact run_fnN (us := []) (vs := []) F hr hb hx I2 .nil rz rfl l2 q2
theorem w_callK0 (hF : CalK CX k X.prog X.w X.K X.mg X.base x 0 (kwNames kws) g) (hr : Room k X.A) (hg : Gl X x) (hx : Passes CX X E.x) (hk : PK X kws (tEvAU X.K X.mg E mk)) (hkw : kws.all (·.arg.isSome) = true) (hdb : (x == ("__debug__" : Str)) = false) :
    PE X (.Call (.Name x p) [] kws pos) (tEv X.K X.mg E fun ε => mk ε >>= fun es => callK 0 (kwNames kws) g [] es) := by
  obtain ⟨f, fd, ps, m0, F0, gU, gV, gD, h1, h2, h3, h4, h5, h6⟩ := hF
  obtain ⟨a1, a2, a3⟩ := kw_all (pos := pos) (env := X.env) hkw
  exact (pe_callN0 h1 hr hg h4 h3 h2 hx hk a1 a3 hdb (by rw [a2]; rfl)).of fun σ H Q ⟨hs, ε, n, S, w⟩ => ⟨hs, ε, n, S, (RWG.bind w).imp fun zs n2 H2 s2 u2 w2 ws rws => by
    obtain ⟨⟨_, l2⟩, w2⟩ := RWG.ite w2
    have e2 : ws.length = (kwNames kws).length := by rw [rws.len, l2]
    obtain ⟨g1, g2⟩ := h5 E.u (hid hs H2) [] ws [] zs rfl e2 .nil rws
    exact ⟨e2, E.u, hs, n2, gD [] zs, g1, (S.same s2 u2).hd, g2, by rw [← h6]; exact w2⟩⟩
end
end Fx

/-! dict(pairs); sorted(set(texts)) -/
namespace Fx
open PySem PySem.Spec PyProof.Rows L2
section
variable {K : PySem.W.Frag} {mg : Str → Option Value} {E : XU} {n : Nat} {hs : List Addr} {H : Hp} {Q : VK}
theorem new_dic {xs : List (Key × V)} {ds : List (Key × D)} (hd : Hd E.u n hs H) (r : RpK K (hid hs H) xs ds) (w : RW K mg E hs n (.ok (.dic ds)) H Q) : ∀ p, H p = none → Q (.ref p) (upd H p (.dK xs)) := fun p np =>
  w _ (Sm.new np) (hd.ur.upd (hd.ur.there np)) _ (.dic (by rw [hid_out (hd.ain.not np), upd_same]) (r.same (hid_same (same_new np))))
theorem kV_of {H : Hp} {v : V} {d : D} {k : Key} (r : Rp K H v d) (e : keyD d = some k) : v = kV k := by
  cases r <;> first | (cases e; rfl) | cases e
theorem RpA.pairs : ∀ {xs : List V} {ds : List D} {r : List (Key × D)}, RpA K (hid hs H) xs ds → pairsOf ds = some r → ∃ (ps : List Addr) (kvs : List (Key × V)), xs = ps.map V.ref ∧ Paired (fun p (kv : Key × V) => SqT K H p [kV kv.1, kv.2]) ps kvs ∧ RpK K (hid hs H) kvs r
  | _, _, _, .nil, e => by
    cases e
    exact ⟨[], [], rfl, .nil, .nil⟩
  | x :: xs, d :: ds, r, .cons h a, e => by
    unfold pairsOf at e
    split at e
    · rename_i k v
      split at e
      · rename_i j q hj hq
        cases e
        obtain ⟨ps, kvs, e1, p1, r1⟩ := RpA.pairs a hq
        cases h with
        | tup h1 r2 =>
          cases r2 with
          | cons rk t =>
            cases t with
            | cons rv t =>
              cases t
              refine ⟨_ :: ps, (j, _) :: kvs, by rw [e1]; rfl, .cons ?_ p1, .cons rv r1⟩
              rw [← kV_of rk hj]
              exact (h1.same hid_le).T
      · cases e
    · cases e
theorem RpK.merge : ∀ {more : List (Key × V)} {md : List (Key × D)} {kvs : List (Key × V)} {kds : List (Key × D)}, RpK K H kvs kds → RpK K H more md → RpK K H (mergeK kvs more) (mergeD kds md)
  | _, _, _, _, r, .nil => r
  | _, _, _, _, r, .cons (k := k) h a => by
    have z := RpK.merge (RpK.put (k := k) h r) a
    exact z
theorem o_dict : OpA K mg E (fun xs H Q => ∃ (a : Addr) (ps : List Addr) (kvs : List (Key × V)), xs = [.ref a] ∧ SqL K H a (ps.map V.ref) ∧ Paired (fun p kv => SqT K H p [kV kv.1, kv.2]) ps kvs ∧ ∀ p, H p = none → Q (.ref p) (upd H p (.dK (mergeK [] kvs)))) dictD := by
  intro n hs H vs ds Q ain r w
  unfold dictD at w
  split at w
  · split at w
    · rename_i q h
      obtain ⟨v, rfl, rv⟩ := r.one
      obtain ⟨a, xs, e1, h1, r1⟩ := rv.lst
      obtain ⟨ps, kvs, e2, p1, r2⟩ := r1.pairs h
      rw [e2] at h1
      exact ⟨a, ps, kvs, by rw [e1], SqL.of h1, p1, new_dic ain (RpK.merge .nil r2) w⟩
    · exact False.elim w
  · exact False.elim w
/-! ### sorted(set(..)) -/
def dedS : List Str → List Str
  | [] => []
  | x :: xs => if x ∈ dedS xs then dedS xs else x :: dedS xs
theorem dedS_mem {y : Str} : ∀ {xs : List Str}, y ∈ dedS xs ↔ y ∈ xs
  | [] => Iff.rfl
  | x :: xs => by
    rw [dedS]
    split
    · rename_i c
      rw [dedS_mem, List.mem_cons]
      exact ⟨.inr, fun h => h.elim (fun e => e ▸ dedS_mem.mp c) id⟩
    · rw [List.mem_cons, List.mem_cons, dedS_mem]
theorem dedS_nodup : ∀ xs : List Str, (dedS xs).Nodup
  | [] => .nil
  | x :: xs => by
    rw [dedS]
    split
    · exact dedS_nodup xs
    · exact List.nodup_cons.mpr ⟨‹_›, dedS_nodup xs⟩
theorem dedS_len : ∀ xs : List Str, (dedS xs).length ≤ xs.length
  | [] => Nat.le_refl _
  | x :: xs => by
    rw [dedS]
    split
    · exact Nat.le_succ_of_le (dedS_len xs)
    · exact Nat.succ_le_succ (dedS_len xs)
def ssD : D → R D
  | .lst ds => match strsOf ds with
    | some xs => if xs.length < 64 then .ok (.lst ((sortS (dedS xs)).map D.str)) else .no
    | none => .no
  | _ => .no
variable {X : Cx} {e : Expr} {m : Env → R D} {p1 p2 p3 p4 : Pos}
theorem w_ss (hc : X.calm = true) (hg : Gl X "sorted") (hm : X.mg "sorted" = none) (hg2 : Gl X "set") (hm2 : X.mg "set" = none) (he : PE X e (tEvP X.K X.mg E m)) (hst : notStar e = true) :
    PE X (.Call (.Name "sorted" p1) [.Call (.Name "set" p2) [e] [] p3] [] p4) (tEv X.K X.mg E fun ε => m ε >>= ssD) :=
  (pe_callB (Cx.cr_sortTx hc) hg hm (by decide +kernel) (pa_cons (pe_callTy (Cx.cr_setTx hc) hg2 hm2 (by decide +kernel) (pa_cons he pa_nil (star_cons hst)) (by decide) (by decide) (star_cons hst) (by rfl)) pa_nil (by rfl)) (by decide) (by decide) (by rfl) (by rfl)).of
    fun σ H Q ⟨hs, ε, n, S, w⟩ => ⟨hs, ε, n, S, (RWG.bind w).imp fun d n1 H1 s1 u1 w1 v rv => by
      unfold ssD at w1
      split at w1
      · split at w1
        · rename_i zs h
          obtain ⟨h64, w1⟩ := RWG.ite w1
          obtain ⟨a, xs, e1, h1, r1⟩ := rv.lst
          rw [strsOf_eq h] at r1
          refine ⟨a, zs, by rw [e1], SqL.of (by rw [h1, r1.of_strs]), by omega, fun p L np nd le mem => ⟨p, L, rfl, upd_same, by omega, fun ys q pm nd2 so nq => ?_⟩⟩
          have pz : ys.Perm (sortS (dedS zs)) := by
            refine ((List.perm_ext_iff_of_nodup nd2 ((sortS_perm _).nodup_iff.mpr (dedS_nodup zs))).mpr fun j => ?_)
            rw [pm.mem_iff, mem, (sortS_perm _).mem_iff, dedS_mem]
          have z : ys = sortS (dedS zs) := up_one pz (sort_pw so) (sortS_up _)
          rw [z]
          have S1 := S.same s1 u1
          have ur1 := u1.upd (o := Cx.TxO X.w p L) (u1.there np)
          have sm1 : Sm E.u H1 (upd H1 p (Cx.TxO X.w p L)) := Sm.new np
          exact new_lst (S1.same sm1 ur1).hd (RpA.strs _) (RWG.mono sm1 w1) q nq
        · exact False.elim w1
      · exact False.elim w1⟩
end
end Fx

/-! sorted of alike data, nested tuples too -/
namespace Fx
open PySem PySem.Spec PyProof.Rows L2
theorem each_of {β : Type} {R : Value → β → Prop} : ∀ {xs : List V} {us : List Value} {bs : List β}, Vals xs us → xs.length = bs.length → (∀ (i : Nat) x b v, xs[i]? = some x → bs[i]? = some b → RelV x v → R v b) → PySem.W.EachIs R us bs
  | _, _, [], .nil, _, _ => .nil
  | _, _, [], .cons _ _, h, _ => nomatch h
  | _, _, _ :: _, .nil, h, _ => nomatch h
  | _, _, b :: bs, .cons r t, h, k => .cons (k 0 _ _ _ rfl rfl r) (each_of t (Nat.succ.inj h) fun i x c v e1 e2 r => k (i + 1) x c v e1 e2 r)
def leP (a b : V × PyData) : Bool := PySem.W.dataLe false (fun p : V × PyData => p.2) a b
def rSortD (K : PySem.W.Frag) (m : Nat) : List V → Hp → VK → Prop := fun vs H Q => ∃ (a : Addr) (xs : List V) (ps : List PyData), vs = [V.ref a] ∧ SqL K H a xs ∧ DpAll K H xs ps ∧ PySem.W.AllAlike ps ∧ PySem.W.Sortable ps ∧ (∀ p ∈ ps, p.depth ≤ m) ∧
  ∀ p, H p = none → Q (.ref p) (upd H p (.lst (((xs.zip ps).mergeSort leP).map (·.1))))
theorem dpa_at {K : PySem.W.Frag} {H : Hp} : ∀ {xs : List V} {ps : List PyData} {i : Nat} {x : V} {p : PyData}, DpAll K H xs ps → xs[i]? = some x → ps[i]? = some p → Dp K H x p
  | _, _, 0, _, _, .cons h _, e, f => by
    cases e
    cases f
    exact h
  | _, _, i + 1, _, _, .cons _ t, e, f => dpa_at (i := i) t e f
theorem dpa_len {K : PySem.W.Frag} {H : Hp} : ∀ {xs : List V} {ps : List PyData}, DpAll K H xs ps → xs.length = ps.length
  | _, _, .nil => rfl
  | _, _, .cons _ t => congrArg (· + 1) (dpa_len t)
theorem each_vals {β : Type} {f : β → V} : ∀ {us : List Value} {bs : List β}, PySem.W.EachIs (fun v b => RelV (f b) v) us bs → Vals (bs.map f) us
  | _, _, .nil => .nil
  | _, _, .cons h t => .cons h (each_vals t)
theorem cr_sortD {X : Cx} {m : Nat} (hu : X.A.units + 2 + m < cLine) : CallR X (.builtin "sorted") (rSortD X.K m) := by
  intro pins s σ H vs us Q I r h
  obtain ⟨a, xs, ps, rfl, hs, hd, hal, hk, hm, q⟩ := h
  obtain ⟨its, rv, hl, hz⟩ := I.list hs
  obtain ⟨u, rfl, ru⟩ := vals1 r
  obtain rfl : u = Value.ref a := ru
  have hlen := dpa_len hd
  have zl : xs.length = (xs.zip ps).length := by rw [List.length_zip, ← hlen, Nat.min_self]
  have zm : (xs.zip ps).map (·.2) = ps := List.map_snd_zip (by omega)
  have zat : ∀ {i : Nat} {x : V} {b : V × PyData}, xs[i]? = some x → (xs.zip ps)[i]? = some b → b.1 = x ∧ Dp X.K H x b.2 := fun {i x b} e1 e2 => by
    rw [List.getElem?_zip_eq_some] at e2
    obtain ⟨e3, e4⟩ := e2
    rw [e1] at e3
    cases e3
    exact ⟨rfl, dpa_at hd e1 e4⟩
  refine PySem.W.sorted_data (bs := xs.zip ps) (enc := fun p => p.2) (R := fun v b => RelV b.1 v) hl.isList
    (each_of rv zl fun i x b v e1 e2 rl => by rw [(zat e1 e2).1]; exact rl)
    (each_of rv zl fun i x b v e1 e2 rl => Dp.reads I b.2 x v (zat e1 e2).2 rl) (by rw [zm]; exact hal) (by rw [zm]; exact hk) (by rw [← zl]; exact hz)
    (fun b mb => by
      have z := hm b.2 (by rw [← zm]; exact List.mem_map_of_mem mb)
      show X.A.units + 2 + b.2.depth < cLine
      omega) fun out hlo ho => ?_
  have hv := each_vals (f := fun b : V × PyData => b.1) ho
  obtain ⟨n, hn⟩ : ∃ n, (sortedAll s.heap its out.toArray).get? (s.heap.objs.size + 1) = some (seqObj "list" out.toArray n) := sortedAll_at s.heap its out.toArray
  refine ⟨.ref (s.heap.objs.size + 1), upd H (s.heap.objs.size + 1) (.lst _), I.laid (t' := s.toks) (fun b o e => sortedAll_old e) (Nat.le_succ _) ⟨?_, out, n, hv, hn⟩, rfl, q _ (I.hok.fresh (Nat.le_succ _))⟩
  rw [hv.length, hlo, ← zl]
  exact hz
end Fx

/-! a sort that can be run; sorted of data, as the evaluator says it -/
namespace Fx
open PySem PySem.Spec PyProof.Rows L2
section
variable {α : Type} (le : α → α → Bool)
def insA (x : α) : List α → List α
  | [] => [x]
  | y :: ys => if le x y = true then x :: y :: ys else y :: insA x ys
def srtA : List α → List α
  | [] => []
  | x :: xs => insA le x (srtA xs)
variable {le}
theorem insA_mem {x z : α} : ∀ {ys : List α}, z ∈ insA le x ys ↔ z = x ∨ z ∈ ys
  | [] => by rw [insA, List.mem_singleton]; simp
  | y :: ys => by
    rw [insA]
    split
    · exact List.mem_cons
    · rw [List.mem_cons, insA_mem, List.mem_cons]
      exact ⟨fun h => h.elim (fun e => .inr (.inl e)) fun h => h.elim .inl fun m => .inr (.inr m), fun h => h.elim (fun e => .inr (.inl e)) fun h => h.elim .inl fun m => .inr (.inr m)⟩
theorem insA_up (T : PySem.W.TotalLe le) {x : α} : ∀ {ys : List α}, ys.Pairwise (fun a b => le a b = true) → (insA le x ys).Pairwise (fun a b => le a b = true)
  | [], _ => List.pairwise_singleton _ _
  | y :: ys, h => by
    obtain ⟨h1, h2⟩ := List.pairwise_cons.mp h
    rw [insA]
    split
    · rename_i c
      refine List.pairwise_cons.mpr ⟨fun z m => ?_, h⟩
      rcases List.mem_cons.mp m with e | m
      · rw [e]
        exact c
      · exact T.trans _ _ _ c (h1 z m)
    · rename_i c
      refine List.pairwise_cons.mpr ⟨fun z m => ?_, insA_up T h2⟩
      rcases insA_mem.mp m with e | m
      · rw [e]
        exact (T.total x y).resolve_left c
      · exact h1 z m
theorem srtA_up (T : PySem.W.TotalLe le) : ∀ l : List α, (srtA le l).Pairwise (fun a b => le a b = true)
  | [] => .nil
  | x :: xs => insA_up T (srtA_up T xs)
theorem insA_flt (T : PySem.W.TotalLe le) {x c : α} : ∀ {ys : List α}, (insA le x ys).filter (PySem.W.sameRank le c) = (x :: ys).filter (PySem.W.sameRank le c)
  | [] => rfl
  | y :: ys => by
    rw [insA]
    split
    · rfl
    · rename_i n
      rw [List.filter_cons, insA_flt T, List.filter_cons, List.filter_cons, List.filter_cons]
      cases qx : PySem.W.sameRank le c x with
      | false => rfl
      | true =>
        cases qy : PySem.W.sameRank le c y with
        | false => rfl
        | true =>
          unfold PySem.W.sameRank at qx qy
          rw [Bool.and_eq_true] at qx qy
          exact absurd (T.trans _ _ _ qx.2 qy.1) n
theorem srtA_flt (T : PySem.W.TotalLe le) (c : α) : ∀ l : List α, (srtA le l).filter (PySem.W.sameRank le c) = l.filter (PySem.W.sameRank le c)
  | [] => rfl
  | x :: xs => by
    show (insA le x (srtA le xs)).filter _ = _
    rw [insA_flt T, List.filter_cons, srtA_flt T c xs, List.filter_cons]
theorem srtA_eq (T : PySem.W.TotalLe le) (l : List α) : srtA le l = l.mergeSort le := PySem.W.sort_unique T (srtA_up T l) fun c => srtA_flt T c l
end
/-! ### sorted of data -/
def leD (a b : D × PyData) : Bool := PySem.W.dataLe false (fun p : D × PyData => p.2) a b
def tupNE : PyData → Bool
  | .tuple (_ :: _) => true
  | _ => false
def nonTup : PyData → Bool
  | .tuple _ => false
  | .none => false
  | _ => true
def okP (ps : List PyData) : Bool := (ps.all fun d => ps.all fun e => PySem.W.alike d e) && (ps.all tupNE || ps.all nonTup) && ps.all fun p => decide (p.depth ≤ 60)
def sortedG : List D → R D
  | [.lst ds] => match toPys ds with
    | some ps => if okP ps = true then .ok (.lst ((srtA leD (ds.zip ps)).map (·.1))) else .no
    | none => .no
  | _ => .no
theorem rpa_of {K : PySem.W.Frag} {H : Hp} : ∀ {l : List (V × D × PyData)}, (∀ t ∈ l, Rp K H t.1 t.2.1) → RpA K H (l.map (·.1)) (l.map (·.2.1))
  | [], _ => .nil
  | t :: l, h => .cons (h t List.mem_cons_self) (rpa_of fun u m => h u (List.mem_cons_of_mem _ m))
theorem toPys_len : ∀ {ds : List D} {ps : List PyData}, toPys ds = some ps → ds.length = ps.length
  | [], _, e => by
    cases e
    rfl
  | d :: ds, ps, e => by
    rw [toPys] at e
    cases q1 : toPy d with
    | none =>
      rw [q1] at e
      cases e
    | some p =>
      cases q2 : toPys ds with
      | none =>
        rw [q1, q2] at e
        cases e
      | some qs =>
        rw [q1, q2] at e
        cases e
        exact congrArg (· + 1) (toPys_len q2)
theorem leD_tot : PySem.W.TotalLe leD := PySem.W.sortLe_total (PyProof.Rows.listOrd PyProof.Rows.itemOrd) false fun p : D × PyData => PySem.W.keyToks p.2
theorem o_sortG {K : PySem.W.Frag} {mg : Str → Option Value} {E : XU} : OpA K mg E (rSortD K 60) sortedG := by
  intro n hs H vs ds0 Q ain r w
  unfold sortedG at w
  split at w
  · rename_i ds
    split at w
    · rename_i ps h
      obtain ⟨ok, w⟩ := RWG.ite w
      unfold okP at ok
      rw [Bool.and_eq_true, Bool.and_eq_true] at ok
      obtain ⟨⟨ok1, ok2⟩, ok3⟩ := ok
      obtain ⟨v, rfl, rv⟩ := r.one
      obtain ⟨a, xs, e1, h1, r1⟩ := rv.lst
      have l1 := r1.len
      have l2 := toPys_len h
      have hdp : DpAll K H xs ps := by
        have z := r1.dp h
        exact DpAll.rec (motive_1 := fun v d _ => Dp K H v d) (motive_2 := fun v d _ => DpAll K H v d) .non (fun b => .bl b) (fun b => .int b) (fun b => .str b) (fun h _ a => .lst (hid_le.seq h) a) (fun h _ a => .tup (st_tup hid_le h) a) .nil (fun _ _ a b => .cons a b) z
      let tz : List (V × D × PyData) := xs.zip (ds.zip ps)
      have m1 : tz.map (fun t => (t.1, t.2.2)) = xs.zip ps := by
        apply List.ext_getElem?
        intro i
        rw [List.getElem?_map]
        show Option.map _ (xs.zip (ds.zip ps))[i]? = _
        simp only [List.zip, List.getElem?_zipWith]
        cases xs[i]? <;> cases q : ds[i]? <;> cases q2 : ps[i]? <;> simp
        · rename_i x p
          have := (List.getElem?_eq_some_iff.mp q2).1
          rw [List.getElem?_eq_none_iff] at q
          omega
      have m2 : tz.map (·.2) = ds.zip ps := List.map_snd_zip (by rw [List.length_zip]; omega)
      have hm : ∀ t ∈ tz, Rp K (hid hs H) t.1 t.2.1 := fun t mt => by
        obtain ⟨i, hi⟩ := List.mem_iff_getElem?.mp mt
        rw [List.getElem?_zip_eq_some] at hi
        obtain ⟨g1, g2⟩ := hi
        rw [List.getElem?_zip_eq_some] at g2
        obtain ⟨d', g3, g4⟩ := r1.at_ g1
        rw [g2.1] at g3
        cases g3
        exact g4
      let le3 : V × D × PyData → V × D × PyData → Bool := PySem.W.dataLe false fun t : V × D × PyData => t.2.2
      have s1 : (xs.zip ps).mergeSort leP = (tz.mergeSort le3).map fun t => (t.1, t.2.2) := by
        rw [← m1]
        exact (PySem.W.sort_maps (fun t : V × D × PyData => (t.1, t.2.2)) fun a _ b _ => rfl).symm
      have s2 : srtA leD (ds.zip ps) = (tz.mergeSort le3).map (·.2) := by
        rw [srtA_eq leD_tot, ← m2]
        exact (PySem.W.sort_maps (fun t : V × D × PyData => t.2) fun a _ b _ => rfl).symm
      refine ⟨a, xs, ps, by rw [e1], SqL.of h1, hdp, fun d md e me => List.all_eq_true.mp (List.all_eq_true.mp ok1 d md) e me, ?_, fun p mp => of_decide_eq_true (List.all_eq_true.mp ok3 p mp), ?_⟩
      · rcases Bool.or_eq_true_iff.mp ok2 with z | z
        · refine .inl fun d md => ?_
          have y := List.all_eq_true.mp z d md
          unfold tupNE at y
          split at y
          · exact ⟨_, _, rfl⟩
          · cases y
        · refine .inr fun d md => ?_
          have y := List.all_eq_true.mp z d md
          refine ⟨fun e => ?_, fun xs e => ?_⟩
          · rw [e] at y
            cases y
          · rw [e] at y
            cases y
      · rw [s1, List.map_map]
        rw [s2, List.map_map] at w
        exact new_lst ain (rpa_of fun t mt => hm t ((List.mergeSort_perm tz le3).mem_iff.mp mt)) w
    · exact False.elim w
  · exact False.elim w
end Fx

/-! sorted of one item, whatever it is -/
namespace Fx
open PySem PySem.Spec PyProof.Rows L2
instance (p : PyData) : Decidable (p ≠ .none) := by cases p <;> first | exact isFalse (fun h => h rfl) | exact isTrue (fun h => nomatch h)
def rSort1 (K : PySem.W.Frag) (m : Nat) : List V → Hp → VK → Prop := fun vs H Q => ∃ (a : Addr) (x : V) (d : PyData), vs = [V.ref a] ∧ SqL K H a [x] ∧ Dp K H x d ∧ PySem.W.alike d d = true ∧ d ≠ .none ∧ d.depth ≤ m ∧ ∀ p, H p = none → Q (.ref p) (upd H p (.lst [x]))
def sort1 : List D → R D
  | [.lst [d]] => match toPy d with
    | some p => if PySem.W.alike p p = true ∧ p ≠ .none ∧ p.depth ≤ 60 then .ok (.lst [d]) else .no
    | none => .no
  | _ => .no
theorem o_sort1 {K : PySem.W.Frag} {mg : Str → Option Value} {E : XU} : OpA K mg E (rSort1 K 60) sort1 := by
  intro n hs H vs ds0 Q ain r w
  unfold sort1 at w
  split at w
  · rename_i d
    split at w
    · rename_i p hp
      obtain ⟨⟨c1, c2, c3⟩, w⟩ := RWG.ite w
      obtain ⟨v, rfl, rv⟩ := r.one
      obtain ⟨a, xs, e1, h1, r1⟩ := rv.lst
      cases r1 with
      | cons h t =>
        cases t
        exact ⟨a, _, p, by rw [e1], SqL.of h1, dp_same' hid_le (h.dp hp), c1, c2, c3, new_lst ain (.cons h .nil) w⟩
    · exact False.elim w
  · exact False.elim w
theorem cr_sort1 {X : Cx} {m : Nat} (hu : X.A.units + 2 + m < cLine) : CallR X (.builtin "sorted") (rSort1 X.K m) := by
  intro pins s σ H vs us Q I r h
  obtain ⟨a, x, d, rfl, hs, hd, hal, hn, hm, q⟩ := h
  obtain ⟨its, rv, hl, hz⟩ := I.list hs
  obtain ⟨u, rfl, ru⟩ := vals1 r
  obtain rfl : u = Value.ref a := ru
  obtain ⟨v, rfl, rl⟩ := vals1 rv
  obtain ⟨as, rd⟩ := Dp.reads I d x v hd rl
  have rd' : PySem.Reads (PySem.W.sortingHeap (PySem.W.copyHeap s.heap [v]) (s.heap.objs.size + 1) [v]) v d as := PyProof.Rows.Reads.keeps (fun _ _ => PySem.W.sorting_copy_old) rd
  have al : PySem.W.AllAlike [d] := fun e me f mf => by
    rw [List.mem_singleton.mp me, List.mem_singleton.mp mf]
    exact hal
  refine PySem.W.sorted_vals (κ := PySem.W.dataKind (PySem.W.sortingHeap (PySem.W.copyHeap s.heap [v]) (s.heap.objs.size + 1) [v]) [d]) hl.isList ⟨fun v' mv => ?_, general', fun E x y a b Q ha hb hq => ?_, fun h2 => absurd h2 (by simp)⟩ (by show 1 ≤ sizeLine; decide) ?_
  · rw [List.mem_singleton.mp mv]
    exact ⟨_, PySem.W.dataKind_some al (List.mem_singleton.mpr rfl) rd'⟩
  · obtain ⟨d1, a1, m1, r1, rfl⟩ := PySem.W.dataKind_inv ha
    obtain ⟨d2, a2, m2, r2, rfl⟩ := PySem.W.dataKind_inv hb
    have e1 := List.mem_singleton.mp m1
    have e2 := List.mem_singleton.mp m2
    subst e1
    subst e2
    have e : keyLt' general' x y = oneLt' false x y := rfl
    rw [e]
    exact PySem.W.oneLt_alike (fun z => nomatch z) r1 r2 hal hn (Nat.lt_of_le_of_lt (Nat.add_le_add_left (Nat.le_trans (Nat.min_le_left _ _) hm) _) hu) hq
  · have e : PySem.W.sortVals (PySem.W.dataKind (PySem.W.sortingHeap (PySem.W.copyHeap s.heap [v]) (s.heap.objs.size + 1) [v]) [d]) false [v] [v] = [v] := by
      unfold PySem.W.sortVals
      simp
    rw [e]
    obtain ⟨n, hn⟩ : ∃ n, (sortedAll s.heap [v] ([v] : List Value).toArray).get? (s.heap.objs.size + 1) = some (seqObj "list" ([v] : List Value).toArray n) := sortedAll_at s.heap [v] _
    exact ⟨.ref (s.heap.objs.size + 1), upd H (s.heap.objs.size + 1) (.lst [x]), I.laid (t' := s.toks) (fun b o e => sortedAll_old e) (Nat.le_succ _) ⟨by show 1 ≤ sizeLine; decide, [v], n, .cons rl .nil, hn⟩, rfl, q _ (I.hok.fresh (Nat.le_succ _))⟩
def sortedX (as : List D) : R D := match sortedD as with
  | .no => match sortedG as with
    | .no => sort1 as
    | r => r
  | r => r
theorem o_sortX {K : PySem.W.Frag} {mg : Str → Option Value} {E : XU} : OpA K mg E (fun vs H Q => (rSortB K vs H Q ∨ rSortD K 60 vs H Q) ∨ rSort1 K 60 vs H Q) sortedX := by
  intro n hs H vs ds Q ain r w
  unfold sortedX at w
  cases q : sortedD ds with
  | no =>
    rw [q] at w
    dsimp only at w
    cases q2 : sortedG ds with
    | no =>
      rw [q2] at w
      exact .inr (o_sort1 n hs H vs ds Q ain r w)
    | ok d =>
      rw [q2] at w
      exact .inl (.inr (o_sortG n hs H vs ds Q ain r (by rw [q2]; exact w)))
    | ex c fs =>
      rw [q2] at w
      exact .inl (.inr (o_sortG n hs H vs ds Q ain r (by rw [q2]; exact w)))
    | any P c k =>
      rw [q2] at w
      exact .inl (.inr (o_sortG n hs H vs ds Q ain r (by rw [q2]; exact w)))
  | ok d =>
    rw [q] at w
    exact .inl (.inl (o_sorted n hs H vs ds Q ain r (by rw [q]; exact w)))
  | ex c fs =>
    rw [q] at w
    exact .inl (.inl (o_sorted n hs H vs ds Q ain r (by rw [q]; exact w)))
  | any P c k =>
    rw [q] at w
    exact .inl (.inl (o_sorted n hs H vs ds Q ain r (by rw [q]; exact w)))
end Fx

/-! the evaluator of expressions -/
namespace Fx
open PySem PySem.Spec PyProof.Rows L2
/-! ### isinstance -/
def tyN : D → Option String
  | .non => some "NoneType"
  | .bl _ => some "bool"
  | .int _ => some "int"
  | .str _ => some "str"
  | .lst _ => some "list"
  | .tup _ => some "tuple"
  | .dic _ => some "dict"
  | _ => none
theorem Rw.ty {K : PySem.W.Frag} {u : Option Addr} {hs : List Addr} {H : Hp} {v : V} {d : D} {n : String} (r : Rw K u hs H v d) (e : tyN d = some n) : TyX K H v (.type n) := by
  cases d with
  | non =>
    cases e
    rw [r.non]
    exact .base .non
  | bl b =>
    cases e
    rw [r.bl]
    exact .base (.bl b)
  | int b =>
    cases e
    rw [r.int]
    exact .base (.int b)
  | str b =>
    cases e
    rw [r.str]
    exact .base (.str b)
  | lst ds =>
    cases e
    obtain ⟨a, xs, e1, h1, r1⟩ := r.lst
    rw [e1]
    exact .base (.lst h1)
  | tup ds =>
    cases e
    obtain ⟨a, xs, e1, h1, r1⟩ := r.tup
    rw [e1]
    rcases h1 with h1 | ⟨o, its, n, h1, h2, _⟩
    · exact .base (.tup h1)
    · exact .kTuple h1 h2
  | dic ds =>
    cases e
    obtain ⟨a, xs, e1, h1, r1⟩ := r.dic
    rw [e1]
    exact .base (.dK h1)
  | ty n => cases e
  | urn => cases e
  | exn c fs => cases e
def tysOf : List D → Option (List String)
  | [] => some []
  | .ty n :: ts => (tysOf ts).map (n :: ·)
  | _ :: _ => none
theorem tysOf_eq : ∀ {ds : List D} {ns : List String}, tysOf ds = some ns → ds = ns.map D.ty
  | [], _, e => by
    cases e
    rfl
  | .ty b :: ds, _, e => by
    rw [tysOf] at e
    cases q : tysOf ds with
    | none =>
      rw [q] at e
      cases e
    | some cs =>
      rw [q] at e
      cases e
      rw [tysOf_eq q]
      rfl
  | .non :: _, _, e => nomatch e
  | .bl _ :: _, _, e => nomatch e
  | .int _ :: _, _, e => nomatch e
  | .str _ :: _, _, e => nomatch e
  | .lst _ :: _, _, e => nomatch e
  | .tup _ :: _, _, e => nomatch e
  | .dic _ :: _, _, e => nomatch e
  | .exn _ _ :: _, _, e => nomatch e
  | .urn :: _, _, e => nomatch e
def anyTy (a : String) : List String → Option Bool
  | [] => some false
  | n :: ts => match kitB a n with
    | some true => some true
    | some false => anyTy a ts
    | none => none
theorem anyTy_ok {K : PySem.W.Frag} {a : String} : ∀ {ts : List String} {b : Bool}, anyTy a ts = some b → PySem.W.kitAny K (.type a) (ts.map .type) = some b
  | [], _, e => by
    cases e
    exact kitAny_nil
  | n :: ts, b, e => by
    rw [anyTy] at e
    cases q : kitB a n with
    | none =>
      rw [q] at e
      cases e
    | some c =>
      rw [q] at e
      cases c with
      | true =>
        cases e
        exact kitAny_cons (b := true) (kit_ty q) (fun z => nomatch z) (fun _ => rfl)
      | false => exact kitAny_cons (b := false) (kit_ty q) (fun _ => anyTy_ok (show anyTy a ts = some b from e)) (fun z => nomatch z)
theorem cls_tys : ∀ ns : List String, Paired ClsV (ns.map V.ty) (ns.map Value.type)
  | [] => .nil
  | n :: ns => .cons (.ty n) (cls_tys ns)
theorem RpA.of_tys {K : PySem.W.Frag} {H : Hp} : ∀ {xs : List V} {zs : List String}, RpA K H xs (zs.map D.ty) → xs = zs.map V.ty
  | _, [], .nil => rfl
  | _, z :: zs, .cons h a => by
    cases h
    rw [RpA.of_tys a]
    rfl
def isiD : List D → R D
  | [d, .ty n] => match tyN d with
    | some a => match kitB a n with
      | some b => .ok (.bl b)
      | none => .no
    | none => .no
  | [d, .tup ts] => match tyN d, tysOf ts with
    | some a, some ns => match anyTy a ns with
      | some b => .ok (.bl b)
      | none => .no
    | _, _ => .no
  | _ => .no
section
variable {K : PySem.W.Frag} {mg : Str → Option Value} {E : XU}
abbrev rIsiB (K : PySem.W.Frag) : List V → Hp → VK → Prop := fun vs H Q => rIsi K vs H Q ∨ ((fun vs H Q => rIsiT K vs H Q ∨ rIsiK K vs H Q) : List V → Hp → VK → Prop) vs H Q
theorem vals_tys : ∀ {ns : List String} {us : List Value}, Vals (ns.map V.ty) us → us = ns.map Value.type
  | [], _, .nil => rfl
  | n :: ns, _, .cons h t => by
    rw [vals_tys t, show _ = Value.type n from h]
    rfl
theorem RwA.two {u : Option Addr} {hs : List Addr} {H : Hp} {vs : List V} {d e : D} (h : RwA K u hs H vs [d, e]) : ∃ v z, vs = [v, z] ∧ Rw K u hs H v d ∧ Rw K u hs H z e := by
  cases h with
  | cons h t =>
    cases t with
    | cons h2 t =>
      cases t
      exact ⟨_, _, rfl, h, h2⟩
theorem o_isi : OpA K mg E (rIsiB K) isiD := by
  intro n hs H vs ds Q ain r w
  unfold isiD at w
  split at w
  · split at w
    · rename_i a ha
      split at w
      · rename_i b hb
        obtain ⟨v, u, rfl, rv, ru⟩ := r.two
        cases ru with
        | sh h =>
          cases h
          exact .inl ⟨v, _, _, _, b, rfl, .ty _, rv.ty ha, kit_ty hb, now ain (.bl _) w⟩
        | ow _ _ _ h => exact False.elim h
      · exact False.elim w
    · exact False.elim w
  · split at w
    · rename_i a ns ha hn
      split at w
      · rename_i b hb
        obtain ⟨v, u, rfl, rv, ru⟩ := r.two
        obtain ⟨p, xs, e1, h1, r1⟩ := ru.tup
        rw [tysOf_eq hn] at r1
        rw [r1.of_tys] at h1
        rcases h1 with h1 | ⟨⟨oc, od, dt, sl⟩, its, k, h1, h2, h3, h4, h5⟩
        · exact .inr (.inl ⟨v, p, _, _, _, b, by rw [e1], h1, cls_tys ns, rv.ty ha, anyTy_ok hb, now ain (.bl _) w⟩)
        · simp only at h2 h3
          subst h2
          subst h3
          exact .inr (.inr ⟨v, p, od, ns.map Value.type, k, sl, _, b, by rw [e1], by rw [h1, ← vals_tys h5], rv.ty ha, anyTy_ok hb, now ain (.bl _) w⟩)
      · exact False.elim w
    · exact False.elim w
  · exact False.elim w
end
/-! ### tables -/
def ixN : List Str → Str → Option Nat
  | [], _ => none
  | y :: ys, x => if y = x then some 0 else (ixN ys x).map (· + 1)
theorem ixN_get : ∀ {N : List Str} {x : Str} {i : Nat}, ixN N x = some i → N[i]? = some x
  | y :: ys, x, i, h => by
    rw [ixN] at h
    split at h
    · rename_i c
      cases h
      rw [c]
      rfl
    · cases q : ixN ys x with
      | none =>
        rw [q] at h
        cases h
      | some j =>
        rw [q] at h
        cases h
        exact ixN_get (N := ys) (i := j) q
def bltT (x : Str) : Option (List D → R D) :=
  if x = "len" then some lenD else if x = "tuple" then some tupD else if x = "list" then some lstD else if x = "all" then some allD else if x = "any" then some anyD
  else if x = "sum" then some sumD else if x = "max" then some maxD else if x = "min" then some minD else if x = "sorted" then some sortedX else if x = "abs" then some absD
  else if x = "int" then some intF else if x = "bool" then some boolF else if x = "isinstance" then some isiD else if x = "dict" then some dictD else none
def bltTy (x : Str) : Option String :=
  if x = "tuple" then some "tuple" else if x = "list" then some "list" else if x = "int" then some "int" else if x = "bool" then some "bool" else if x = "str" then some "str" else if x = "dict" then some "dict" else none
def bltNames : List Str := ["len", "tuple", "list", "all", "any", "sum", "max", "min", "sorted", "abs", "int", "bool", "isinstance", "str", "dict", "range", "enumerate", "zip", "set"]
/-- what the def's code may lean on -/
structure Cn (Φ : Fns) (CX : CXT) (k : Nat) (N : List Str) (X : Cx) (E : XU) : Prop where
  calm : X.calm = true
  eN : X.N = N
  nd : X.N.Nodup
  room : Room k X.A
  pass : Passes CX X E.x
  cx0 : ∀ outer H s e s', ¬ CX outer H s (fun _ _ _ => False) e s'
  blt : ∀ x ∈ bltNames, X.mg x = none
  fns : ∀ x F, Φ x = some F → CalF CX k X.prog X.w X.K X.mg X.base x F
theorem Cn.u65 {Φ : Fns} {CX : CXT} {k : Nat} {N : List Str} {X : Cx} {E : XU} (C : Cn Φ CX k N X E) : X.A.units + 65 < cLine := by
  have := C.room.un
  omega
theorem Cn.blk {Φ : Fns} {CX : CXT} {k : Nat} {N : List Str} {X : Cx} {E : XU} (C : Cn Φ CX k N X E) (s : Shared) (H : Hp) (scope : Scope) (env : PySem.Env) (fp : List Addr) : Cn Φ CX k N (X.blk s H scope env fp) (E0 E) :=
  ⟨C.calm, C.eN, C.nd, C.room, fun _ _ _ _ _ _ _ h => (C.cx0 _ _ _ _ _ h).elim, C.cx0, C.blt, C.fns⟩
theorem w_blt {Φ : Fns} {CX : CXT} {k : Nat} {N : List Str} {X : Cx} {E : XU} (C : Cn Φ CX k N X E) {x : Str} {f : List D → R D} {e : Expr} {es : List Expr} {ma : Env → R (List D)} {p pos : Pos} (h : bltT x = some f) (hg : Gl X x) (ha : PA X (e :: es) (tEvAP X.K X.mg E ma)) (hst : (e :: es).all notStar = true) :
    PE X (.Call (.Name x p) (e :: es) [] pos) (tEv X.K X.mg E fun ε => ma ε >>= f) := by
  have mn : ∀ y, y ∈ bltNames → X.mg y = none := C.blt
  unfold bltT at h
  by_cases c : x = "len"
  · subst c
    rw [if_pos rfl] at h
    cases h
    exact w_callB call_len_seq o_len hg (mn _ (by decide +kernel)) PySem.boot_len ha (by decide) (by decide) hst
  rw [if_neg c] at h
  clear c
  by_cases c : x = "tuple"
  · subst c
    rw [if_pos rfl] at h
    cases h
    exact w_callT call_tuple_of o_tuple hg (mn _ (by decide +kernel)) (by decide +kernel) ha (by decide) (by decide) hst
  rw [if_neg c] at h
  clear c
  by_cases c : x = "list"
  · subst c
    rw [if_pos rfl] at h
    cases h
    exact w_callT call_list_of o_list hg (mn _ (by decide +kernel)) (by decide +kernel) ha (by decide) (by decide) hst
  rw [if_neg c] at h
  clear c
  by_cases c : x = "all"
  · subst c
    rw [if_pos rfl] at h
    cases h
    exact w_callB (cr_all C.calm) o_all hg (mn _ (by decide +kernel)) (by decide +kernel) ha (by decide) (by decide) hst
  rw [if_neg c] at h
  clear c
  by_cases c : x = "any"
  · subst c
    rw [if_pos rfl] at h
    cases h
    exact w_callB (cr_any C.calm) o_any hg (mn _ (by decide +kernel)) (by decide +kernel) ha (by decide) (by decide) hst
  rw [if_neg c] at h
  clear c
  by_cases c : x = "sum"
  · subst c
    rw [if_pos rfl] at h
    cases h
    exact w_callB (cr_sum C.calm) o_sum hg (mn _ (by decide +kernel)) (by decide +kernel) ha (by decide) (by decide) hst
  rw [if_neg c] at h
  clear c
  by_cases c : x = "max"
  · subst c
    rw [if_pos rfl] at h
    cases h
    exact w_callB (cr_max C.calm) o_max hg (mn _ (by decide +kernel)) (by decide +kernel) ha (by decide) (by decide) hst
  rw [if_neg c] at h
  clear c
  by_cases c : x = "min"
  · subst c
    rw [if_pos rfl] at h
    cases h
    exact w_callB (cr_min C.calm) o_min hg (mn _ (by decide +kernel)) (by decide +kernel) ha (by decide) (by decide) hst
  rw [if_neg c] at h
  clear c
  by_cases c : x = "sorted"
  · subst c
    rw [if_pos rfl] at h
    cases h
    exact w_callB ((cr_sortB.or (cr_sortD (m := 60) (by have := C.u65; omega))).or (cr_sort1 (m := 60) (by have := C.u65; omega))) o_sortX hg (mn _ (by decide +kernel)) (by decide +kernel) ha (by decide) (by decide) hst
  rw [if_neg c] at h
  clear c
  by_cases c : x = "abs"
  · subst c
    rw [if_pos rfl] at h
    cases h
    exact w_callB call_abs o_abs hg (mn _ (by decide +kernel)) (by decide +kernel) ha (by decide) (by decide) hst
  rw [if_neg c] at h
  clear c
  by_cases c : x = "int"
  · subst c
    rw [if_pos rfl] at h
    cases h
    exact w_callT call_int1 o_int hg (mn _ (by decide +kernel)) (by decide +kernel) ha (by decide) (by decide) hst
  rw [if_neg c] at h
  clear c
  by_cases c : x = "bool"
  · subst c
    rw [if_pos rfl] at h
    cases h
    exact w_callT call_bool1 o_bool hg (mn _ (by decide +kernel)) (by decide +kernel) ha (by decide) (by decide) hst
  rw [if_neg c] at h
  clear c
  by_cases c : x = "isinstance"
  · subst c
    rw [if_pos rfl] at h
    cases h
    exact w_callB (call_isi.or (call_isiT.or call_isiK)) o_isi hg (mn _ (by decide +kernel)) (by decide +kernel) ha (by decide) (by decide) hst
  rw [if_neg c] at h
  clear c
  by_cases c : x = "dict"
  · subst c
    rw [if_pos rfl] at h
    cases h
    exact w_callT (call_dictP C.calm) o_dict hg (mn _ (by decide +kernel)) (by decide +kernel) ha (by decide) (by decide) hst
  rw [if_neg c] at h
  clear c
  cases h
end Fx

/-! the evaluator of expressions -/
namespace Fx
open PySem PySem.Spec PyProof.Rows L2
structure Ev where
  v : Expr → Env → R D
  t : Expr → Env → R Bool
def evP (N : List Str) (v : Expr → Env → R D) (e : Expr) : Env → R D := match e with
  | .Name x _ => match ixN N x with
    | some i => rdP i
    | none => v e
  | _ => v e
def evA (N : List Str) (v : Expr → Env → R D) : List Expr → Env → R (List D)
  | [] => fun _ => .ok []
  | e :: es => match e with
    | .Starred a _ => fun ε => evP N v a ε >>= fun d => itemsD d >>= fun ds => evA N v es ε >>= fun es => .ok (ds ++ es)
    | _ => fun ε => v e ε >>= fun d => evA N v es ε >>= fun ds => .ok (d :: ds)
def evAP (N : List Str) (v : Expr → Env → R D) : List Expr → Env → R (List D)
  | [] => fun _ => .ok []
  | e :: es => fun ε => evP N v e ε >>= fun d => evAP N v es ε >>= fun ds => .ok (d :: ds)
def evU (N : List Str) (v : Expr → Env → R D) (e : Expr) : Env → R D := match e with
  | .Name x _ => match ixN N x with
    | some i => rdU i
    | none => v e
  | _ => v e
def evAU (N : List Str) (v : Expr → Env → R D) : List Expr → Env → R (List D)
  | [] => fun _ => .ok []
  | e :: es => fun ε => evU N v e ε >>= fun d => evAU N v es ε >>= fun ds => .ok (d :: ds)
def evKU (N : List Str) (v : Expr → Env → R D) : List Keyword → Env → R (List D)
  | [] => fun _ => .ok []
  | kw :: kws => fun ε => evU N v kw.value ε >>= fun d => evKU N v kws ε >>= fun ds => .ok (d :: ds)
def powD : D → D → R D
  | .int i, .int j => if 0 ≤ j ∧ j ≤ 1000000 ∧ i.natAbs < 2 ^ 64 then .ok (.int (i ^ j.toNat)) else .no
  | _, _ => .no
theorem o_pow {K : PySem.W.Frag} {mg : Str → Option Value} {E : XU} : Op2 K mg E (rI CPow fun i j => .int (i ^ j.toNat)) powD := by
  intro n hs H x y d e Q ain rx ry w
  try dsimp only at w
  unfold powD at w
  split at w
  · obtain ⟨h, w⟩ := RWG.ite w
    rw [rx.int, ry.int]
    exact ⟨_, _, rfl, rfl, h, now ain (.int _) w⟩
  · exact False.elim w
/-- the a of sorted(set(a)) -/
def isSS (x : Str) (es : List Expr) : Option Expr := if x = "sorted" then (match es with
  | [.Call (.Name y _) [a] [] _] => if y = "set" then some a else none
  | _ => none) else none
def binD : Operator → Option (D → D → R D)
  | .Pow => some powD
  | .Add => some addD
  | .Sub => some subD
  | .Mult => some mulD
  | .Mod => some modD
  | .FloorDiv => some fdivD
  | _ => none
def cmpD : CmpOp → Option (D → D → R Bool)
  | .Eq => some eqD
  | .NotEq => some fun d e => eqD d e >>= fun b => .ok (!b)
  | .Lt => some ltD
  | .LtE => some (cmpI fun i j => decide (i ≤ j))
  | .Gt => some (cmpI fun i j => decide (j < i))
  | .GtE => some (cmpI fun i j => decide (j ≤ i))
  | .In => some inD
  | .NotIn => some fun d e => inD d e >>= fun b => .ok (!b)
  | .Is => some fun d e => match e with
    | .non => .ok (isND d)
    | _ => .no
  | .IsNot => some fun d e => match e with
    | .non => .ok (!isND d)
    | _ => .no
def andV (v : Expr → Env → R D) : List Expr → Env → R D
  | [] => fun _ => .no
  | [a] => v a
  | a :: rest => fun ε => v a ε >>= fun d => truD d >>= fun c => if c = true then andV v rest ε else .ok d
def orV (v : Expr → Env → R D) : List Expr → Env → R D
  | [] => fun _ => .no
  | [a] => v a
  | a :: rest => fun ε => v a ε >>= fun d => truD d >>= fun c => if c = true then .ok d else orV v rest ε
def andT (t : Expr → Env → R Bool) : List Expr → Env → R Bool
  | [] => fun _ => .no
  | [a] => t a
  | a :: rest => fun ε => t a ε >>= fun c => if c = true then andT t rest ε else .ok false
def orT (t : Expr → Env → R Bool) : List Expr → Env → R Bool
  | [] => fun _ => .no
  | [a] => t a
  | a :: rest => fun ε => t a ε >>= fun c => if c = true then .ok true else orT t rest ε
def cD : Const → R D
  | .int i => .ok (.int i)
  | .bool b => .ok (.bl b)
  | .none => .ok .non
  | .str x => .ok (.str x)
  | _ => .no
def evO (v : Expr → Env → R D) : Option Expr → Env → R (Option Int)
  | none => fun _ => .ok none
  | some a => fun ε => v a ε >>= fun d => intD d >>= fun i => .ok (some i)
def evI (N : List Str) (v : Expr → Env → R D) (e : Expr) : Env → R (List D) := match e with
  | .Call (.Name x _) es [] _ =>
    if x = "range" then (match es with
      | [a] => fun ε => evA N v [a] ε >>= range1D
      | [a, b] => fun ε => evA N v [a, b] ε >>= range2D
      | _ => fun _ => .no)
    else if x = "enumerate" then (match es with
      | [a] => fun ε => evA N v [a] ε >>= enumD
      | _ => fun _ => .no)
    else if x = "zip" then (match es with
      | [a, b] => fun ε => evA N v [a, b] ε >>= zipD
      | _ => fun _ => .no)
    else fun ε => v e ε >>= iterD
  | _ => fun ε => v e ε >>= iterD
def evGs (g : Expr → D → Env → R Env) : List Expr → List D → Env → R Env
  | [] => fun ds ε => match ds with
    | [] => .ok ε
    | _ => .no
  | e :: es => fun ds ε => match ds with
    | d :: ds => g e d ε >>= evGs g es ds
    | [] => .no
def evG (N : List Str) : Nat → Expr → D → Env → R Env
  | 0, _ => fun _ _ => .no
  | n + 1, e => match e with
    | .Name x _ => match ixN N x with
      | some i => fun d ε => .ok (ε.set i (some (false, d)))
      | none => fun _ _ => .no
    | .Tuple ts _ _ => fun d ε => iterD d >>= fun ds => if ds.length = ts.length then evGs (evG N n) ts ds ε else .no
    | _ => fun _ _ => .no
def tgS (N : List Str) : Nat → Expr → List Nat
  | 0, _ => []
  | n + 1, e => match e with
    | .Name x _ => match ixN N x with
      | some i => [i]
      | none => []
    | .Tuple ts _ _ => (ts.map (tgS N n)).flatten
    | _ => []
def ownOf (N : List Str) (sc : Scope) : List (Str × Nat) := sc.names.filterMap fun y => match y.2 with
  | .local => (ixN N y.1).map fun i => (y.1, i)
  | .cell => (ixN N y.1).map fun i => (y.1, i)
  | _ => none
def evTs (t : Expr → Env → R Bool) : List Expr → Env → R Bool
  | [] => fun _ => .ok true
  | [a] => t a
  | _ => fun _ => .no
def stepV (Φ : Fns) (N : List Str) (r : Ev) (e : Expr) : Env → R D := match e with
  | .Constant c _ _ => fun _ => cD c
  | .Name x _ => match ixN N x with
    | some i => rdV i
    | none => match bltTy x with
      | some n => fun _ => .ok (.ty n)
      | none => fun _ => .no
  | .Tuple es _ _ => fun ε => evA N r.v es ε >>= fun ds => capD ds >>= fun ds => .ok (.tup ds)
  | .List es _ => fun ε => evA N r.v es ε >>= fun ds => capD ds >>= fun ds => .ok (.lst ds)
  | .BinOp a op b _ => match binD op with
    | some f => fun ε => evP N r.v a ε >>= fun d => evP N r.v b ε >>= fun e => f d e
    | none => fun _ => .no
  | .Compare a [op] [b] _ => match cmpD op with
    | some f => fun ε => evP N r.v a ε >>= fun d => evP N r.v b ε >>= fun e => f d e >>= fun c => .ok (.bl c)
    | none => fun _ => .no
  | .BoolOp .And es _ => andV r.v es
  | .BoolOp .Or es _ => orV r.v es
  | .UnaryOp .Not a _ => fun ε => evP N r.v a ε >>= fun d => truD d >>= fun b => .ok (.bl (!b))
  | .UnaryOp .USub a _ => fun ε => evP N r.v a ε >>= negD
  | .IfExp c a b _ => fun ε => r.t c ε >>= fun t => if t = true then r.v a ε else r.v b ε
  | .Subscript a (.Slice lo hi none _) _ => fun ε => evP N r.v a ε >>= fun d => evO r.v lo ε >>= fun l => evO r.v hi ε >>= fun h => sliD d l h
  | .Subscript a b _ => fun ε => evP N r.v a ε >>= fun d => evP N r.v b ε >>= fun e => idxD d e
  | .ListComp elt [⟨tg, iter, ifs, 0⟩] scope _ => fun ε => evI N r.v iter ε >>= fun ds => capD ds >>= fun ds => compD (turnD (evG N 3 tg) (evTs r.t ifs) (r.v elt) (wipeE ε ((ownOf N scope).map (·.2)))) ds >>= fun ys => .ok (.lst ys)
  | .Call (.Name x _) es [] _ => match Φ x with
    | some F => fun ε => evAU N r.v es ε >>= callF F
    | none => match isSS x es with
      | some a => fun ε => evP N r.v a ε >>= ssD
      | none => match bltT x with
        | some f => fun ε => evAP N r.v es ε >>= f
        | none => fun _ => .no
  | .Call (.Name x _) es kws _ => match Φ x with
    | some F => match F.kw es.length (kwNames kws) with
      | some g => fun ε => evAU N r.v es ε >>= fun ds => evKU N r.v kws ε >>= fun zs => callK es.length (kwNames kws) g ds zs
      | none => fun _ => .no
    | none => fun _ => .no
  | .Call (.Attribute o at_ _) es [] _ => if at_ = "get" then (match es with
    | [a] => fun ε => evP N r.v o ε >>= fun d => dicOf d >>= fun kds => r.v a ε >>= fun k => getD kds k .non
    | [a, b] => fun ε => evP N r.v o ε >>= fun d => dicOf d >>= fun kds => r.v a ε >>= fun k => r.v b ε >>= fun z => getD kds k z
    | _ => fun _ => .no) else fun _ => .no
  | .ListComp elt [⟨tg, iter, ifs, 0⟩, ⟨tg1, iter1, ifs1, 0⟩] scope _ => fun ε => evI N r.v iter ε >>= fun ds => compL (turn2 (evG N 3 tg) (evTs r.t ifs) (evI N r.v iter1) (evG N 3 tg1) (evTs r.t ifs1) (r.v elt) (tgS N 3 tg1) (wipeE ε ((ownOf N scope).map (·.2)))) 0 ds >>= fun ys => .ok (.lst ys)
  | .Dict [] [] _ => fun _ => .ok (.dic [])
  | .DictComp kx vx [⟨tg, iter, ifs, 0⟩] scope _ => fun ε => evI N r.v iter ε >>= fun ds => compK (turnK (evG N 3 tg) (evTs r.t ifs) (r.v kx) (r.v vx) (wipeE ε ((ownOf N scope).map (·.2)))) [] ds >>= fun ys => .ok (.dic ys)
  | _ => fun _ => .no
def stepT (N : List Str) (r : Ev) (e : Expr) : Env → R Bool := match e with
  | .BoolOp .And es _ => andT r.t es
  | .BoolOp .Or es _ => orT r.t es
  | .UnaryOp .Not a _ => fun ε => r.t a ε >>= fun b => .ok (!b)
  | .Compare a [op] [b] _ => match cmpD op with
    | some f => fun ε => evP N r.v a ε >>= fun d => evP N r.v b ε >>= fun e => f d e
    | none => fun _ => .no
  | _ => fun ε => evP N r.v e ε >>= truD
def ev (Φ : Fns) (N : List Str) : Nat → Ev
  | 0 => ⟨fun _ _ => .no, fun _ _ => .no⟩
  | n + 1 => ⟨stepV Φ N (ev Φ N n), stepT N (ev Φ N n)⟩
/-! ### what is checked of the text -/
structure Ck where
  v : Scope → (Str → Bool) → Expr → Bool
  t : Scope → (Str → Bool) → Expr → Bool
def visB (sc : Scope) (x : Str) : Bool := match sc.names.lookup x with
  | some .local => true
  | some .cell => true
  | some .free => true
  | _ => false
def glB (sc : Scope) (x : Str) : Bool := match sc.names.lookup x with
  | some .globalImplicit => true
  | _ => false
def nmB (N : List Str) (sc : Scope) (x : Str) : Bool := visB sc x && !(x == ("__debug__" : Str)) && !(x == ("__classdict__" : Str))
def ckP (N : List Str) (c : Scope → (Str → Bool) → Expr → Bool) (sc : Scope) (fn : Str → Bool) (e : Expr) : Bool := match e with
  | .Name x _ => match ixN N x with
    | some _ => nmB N sc x
    | none => c sc fn e
  | _ => c sc fn e
def ckA (N : List Str) (c : Scope → (Str → Bool) → Expr → Bool) (sc : Scope) (fn : Str → Bool) : List Expr → Bool
  | [] => true
  | e :: es => (match e with
    | .Starred a _ => ckP N c sc fn a
    | _ => c sc fn e) && ckA N c sc fn es
def ckG (N : List Str) (sc : Scope) (fn : Str → Bool) : Nat → Expr → Bool
  | 0, _ => false
  | n + 1, e => match e with
    | .Name x _ => match sc.names.lookup x with
      | some .local => true
      | some .cell => fn x
      | _ => false
    | .Tuple ts _ _ => ts.all notStar && ts.all (ckG N sc fn n)
    | _ => false
def isTup : Expr → Bool
  | .Tuple _ _ _ => true
  | _ => false
def ckI (N : List Str) (c : Scope → (Str → Bool) → Expr → Bool) (sc : Scope) (fn : Str → Bool) (tg e : Expr) : Bool := match e with
  | .Call (.Name x _) es [] _ =>
    if x = "range" then glB sc x && es.all notStar && es.all (c sc fn)
    else if x = "enumerate" then isTup tg && glB sc x && es.all notStar && es.all (c sc fn)
    else if x = "zip" then isTup tg && glB sc x && es.all notStar && es.all (c sc fn)
    else c sc fn e
  | _ => c sc fn e
def ckO (c : Scope → (Str → Bool) → Expr → Bool) (sc : Scope) (fn : Str → Bool) : Option Expr → Bool
  | none => true
  | some a => c sc fn a
def isNm : Expr → Bool
  | .Name _ _ => true
  | _ => false
def stepCV (Φ : Fns) (N : List Str) (r : Ck) (sc : Scope) (fn : Str → Bool) (e : Expr) : Bool := match e with
  | .Constant _ _ _ => true
  | .Name x _ => match ixN N x with
    | some _ => nmB N sc x
    | none => glB sc x
  | .Tuple es _ _ => ckA N r.v sc fn es
  | .List es _ => ckA N r.v sc fn es
  | .BinOp a _ b _ => ckP N r.v sc fn a && ckP N r.v sc fn b
  | .Compare a [_] [b] _ => ckP N r.v sc fn a && ckP N r.v sc fn b && notSet b
  | .BoolOp .And es _ => es.all (r.v sc fn)
  | .BoolOp .Or es _ => es.all (r.v sc fn)
  | .UnaryOp .Not a _ => ckP N r.v sc fn a
  | .UnaryOp .USub a _ => ckP N r.v sc fn a
  | .IfExp c a b _ => r.t sc fn c && r.v sc fn a && r.v sc fn b
  | .Subscript a (.Slice lo hi none _) _ => ckP N r.v sc fn a && ckO r.v sc fn lo && ckO r.v sc fn hi
  | .Subscript a b _ => ckP N r.v sc fn a && ckP N r.v sc fn b && notSlice b
  | .ListComp elt [⟨tg, iter, ifs, 0⟩] scope _ => ckI N r.v sc fn tg iter && notSet iter && blkC N sc scope (ownOf N scope) && ((tgS N 3 tg).all fun i => ((ownOf N scope).map (·.2)).contains i)
      && ckG N (relS scope sc) (fun x => scope.names.lookup x == some .cell) 3 tg && (ifs.all (r.t (relS scope sc) (fun x => scope.names.lookup x == some .cell))) && r.v (relS scope sc) (fun x => scope.names.lookup x == some .cell) elt
  | .Call (.Name x _) es [] _ => match Φ x with
    | some _ => glB sc x && !(x == ("__debug__" : Str)) && es.all notStar && es.all (ckP N r.v sc fn)
    | none => match isSS x es with
      | some a => glB sc "sorted" && glB sc "set" && ckP N r.v sc fn a && notStar a
      | none => glB sc x && es.all notStar && es.all (ckP N r.v sc fn) && !es.isEmpty
  | .Call (.Name x _) es kws _ => glB sc x && !(x == ("__debug__" : Str)) && es.all notStar && es.all (ckP N r.v sc fn) && kws.all (·.arg.isSome) && kws.all (fun kw => ckP N r.v sc fn kw.value)
  | .Call (.Attribute o at_ ap) es [] cp => if at_ = "get" then (match es with
    | [a] => isNm o && ckP N r.v sc fn o && r.v sc fn a && notStar a && (ap.endLine == cp.line)
    | [a, b] => isNm o && ckP N r.v sc fn o && r.v sc fn a && r.v sc fn b && notStar a && notStar b && (ap.endLine == cp.line)
    | _ => true) else true
  | .ListComp elt [⟨tg, iter, ifs, 0⟩, ⟨tg1, iter1, ifs1, 0⟩] scope _ => ckI N r.v sc fn tg iter && notSet iter && blkC N sc scope (ownOf N scope) && ((tgS N 3 tg).all fun i => ((ownOf N scope).map (·.2)).contains i) && ((tgS N 3 tg1).all fun i => ((ownOf N scope).map (·.2)).contains i)
      && ckG N (relS scope sc) (fun x => scope.names.lookup x == some .cell) 3 tg && (ifs.all (r.t (relS scope sc) (fun x => scope.names.lookup x == some .cell))) && ckI N r.v (relS scope sc) (fun x => scope.names.lookup x == some .cell) tg1 iter1 && notSet iter1
      && ckG N (relS scope sc) (fun x => scope.names.lookup x == some .cell) 3 tg1 && (ifs1.all (r.t (relS scope sc) (fun x => scope.names.lookup x == some .cell))) && r.v (relS scope sc) (fun x => scope.names.lookup x == some .cell) elt
  | .Dict [] [] _ => true
  | .DictComp kx vx [⟨tg, iter, ifs, 0⟩] scope _ => ckI N r.v sc fn tg iter && notSet iter && blkC N sc scope (ownOf N scope) && ((tgS N 3 tg).all fun i => ((ownOf N scope).map (·.2)).contains i)
      && ckG N (relS scope sc) (fun x => scope.names.lookup x == some .cell) 3 tg && (ifs.all (r.t (relS scope sc) (fun x => scope.names.lookup x == some .cell))) && r.v (relS scope sc) (fun x => scope.names.lookup x == some .cell) kx && r.v (relS scope sc) (fun x => scope.names.lookup x == some .cell) vx
  | _ => false
def stepCT (N : List Str) (r : Ck) (sc : Scope) (fn : Str → Bool) (e : Expr) : Bool := match e with
  | .BoolOp .And es _ => es.all (r.t sc fn)
  | .BoolOp .Or es _ => es.all (r.t sc fn)
  | .UnaryOp .Not a _ => r.t sc fn a
  | .Compare a [_] [b] _ => ckP N r.v sc fn a && ckP N r.v sc fn b && notSet b
  | _ => plainTest e && ckP N r.v sc fn e
def ck (Φ : Fns) (N : List Str) : Nat → Ck
  | 0 => ⟨fun _ _ _ => false, fun _ _ _ => false⟩
  | n + 1 => ⟨stepCV Φ N (ck Φ N n), stepCT N (ck Φ N n)⟩
/-! ### soundness -/
structure Good (Φ : Fns) (CX : CXT) (k : Nat) (N : List Str) (c : Ck) (r : Ev) : Prop where
  v : ∀ (X : Cx) (E : XU) (fn : Str → Bool) (e : Expr), Cn Φ CX k N X E → (∀ x, fn x = true → X.fn x = true) → c.v X.env.scope fn e = true → PE X e (tEv X.K X.mg E (r.v e))
  t : ∀ (X : Cx) (E : XU) (fn : Str → Bool) (e : Expr), Cn Φ CX k N X E → (∀ x, fn x = true → X.fn x = true) → c.t X.env.scope fn e = true → PT X e (tEvT X.K X.mg E (r.t e))
theorem pe_no {X : Cx} {E : XU} {e : Expr} : PE X e (tEv X.K X.mg E fun _ => .no) := ⟨fun pins s σ H Q I ⟨hs, ε, n, S, w⟩ => False.elim w⟩
theorem pt_no {X : Cx} {E : XU} {e : Expr} : PT X e (tEvT X.K X.mg E fun _ => .no) := ⟨fun pins s σ H Q I ⟨hs, ε, n, S, w⟩ => False.elim w⟩
theorem pts_no {X : Cx} {E : XU} {e : List Expr} : PTs X e (tEvT X.K X.mg E fun _ => .no) := ⟨fun pins s σ H Q I ⟨hs, ε, n, S, w⟩ => False.elim w⟩
theorem pi_no {X : Cx} {E : XU} {tg e : Expr} : PI X tg e (tIt X.K X.mg E fun _ => .no) := ⟨fun pins s σ H Q I ⟨hs, ε, n, S, w⟩ => False.elim w⟩
theorem pg_no {X : Cx} {E : XU} {e : Expr} {sl : List Nat} : PG X e (gEv X.K X.mg E (fun _ _ => .no) sl) := ⟨fun pins s σ H v u Q I r ⟨hs, ε, n, d, S, q, w⟩ => False.elim w⟩
theorem vis_of {sc : Scope} {x : Str} (h : visB sc x = true) : Vis sc x := by
  unfold visB at h
  split at h <;> first | exact .inl ‹_› | exact .inr (.inl ‹_›) | exact .inr (.inr ‹_›) | cases h
theorem gl_of {X : Cx} {x : Str} (h : glB X.env.scope x = true) : Gl X x := by
  unfold glB at h
  split at h
  · assumption
  · cases h
section
variable {Φ : Fns} {CX : CXT} {k : Nat} {N : List Str} {c : Ck} {r : Ev} {X : Cx} {E : XU} {fn : Str → Bool} {e : Expr}
theorem nm_of {x : Str} {i : Nat} {p : Pos} (C : Cn Φ CX k N X E) (hi : ixN N x = some i) (h : nmB N X.env.scope x = true) : PE X (.Name x p) (tVar i) := by
  unfold nmB at h
  rw [Bool.and_eq_true, Bool.and_eq_true] at h
  exact pe_var (by rw [C.eN]; exact ixN_get hi) (vis_of h.1.1) (by simpa using h.1.2) (by simpa using h.2)
theorem g_P (G : Good Φ CX k N c r) (C : Cn Φ CX k N X E) (hf : ∀ x, fn x = true → X.fn x = true) (h : ckP N c.v X.env.scope fn e = true) : PE X e (tEvP X.K X.mg E (evP N r.v e)) := by
  unfold ckP at h
  unfold evP
  split at h
  · split at h
    · rename_i hi
      exact w_rdP (nm_of C hi h)
    · rename_i hi
      exact pe_v2p (G.v X E fn _ C hf h)
  · exact pe_v2p (G.v X E fn _ C hf h)
theorem g_U (G : Good Φ CX k N c r) (C : Cn Φ CX k N X E) (hf : ∀ x, fn x = true → X.fn x = true) (h : ckP N c.v X.env.scope fn e = true) : PE X e (tEvU X.K X.mg E (evU N r.v e)) := by
  unfold ckP at h
  unfold evU
  split at h
  · split at h
    · rename_i hi
      exact w_rdU (nm_of C hi h)
    · rename_i hi
      exact pe_v2u (G.v X E fn _ C hf h)
  · exact pe_v2u (G.v X E fn _ C hf h)
theorem g_AU (G : Good Φ CX k N c r) (C : Cn Φ CX k N X E) (hf : ∀ x, fn x = true → X.fn x = true) : ∀ {es : List Expr}, es.all notStar = true → es.all (ckP N c.v X.env.scope fn) = true → PA X es (tEvAU X.K X.mg E (evAU N r.v es))
  | [], _, _ => w_nilU
  | e :: es, h, h' => by
    rw [List.all_cons, Bool.and_eq_true] at h h'
    exact w_consU (g_U G C hf h'.1) (g_AU G C hf h.2 h'.2) h.1
theorem g_KU (G : Good Φ CX k N c r) (C : Cn Φ CX k N X E) (hf : ∀ x, fn x = true → X.fn x = true) : ∀ {kws : List Keyword}, kws.all (fun kw => ckP N c.v X.env.scope fn kw.value) = true → PK X kws (tEvAU X.K X.mg E (evKU N r.v kws))
  | [], _ => pk_nilU
  | kw :: kws, h => by
    rw [List.all_cons, Bool.and_eq_true] at h
    cases kw
    exact pk_consU (g_U G C hf h.1) (g_KU G C hf h.2)
theorem ckA_cons {es : List Expr} {sc : Scope} (h : notStar e = true) : ckA N c.v sc fn (e :: es) = (c.v sc fn e && ckA N c.v sc fn es) := by
  cases e <;> first | rfl | cases h
theorem evA_cons {es : List Expr} {v : Expr → Env → R D} (h : notStar e = true) : evA N v (e :: es) = fun ε => v e ε >>= fun d => evA N v es ε >>= fun ds => .ok (d :: ds) := by
  cases e <;> first | rfl | cases h
theorem isStar (h : notStar e = false) : ∃ a p, e = .Starred a p := by
  cases e <;> first | exact ⟨_, _, rfl⟩ | cases h
theorem g_A (G : Good Φ CX k N c r) (C : Cn Φ CX k N X E) (hf : ∀ x, fn x = true → X.fn x = true) : ∀ {es : List Expr}, ckA N c.v X.env.scope fn es = true → PA X es (tEvA X.K X.mg E (evA N r.v es))
  | [], _ => w_nil
  | e :: es, h => by
    cases hst : notStar e with
    | true =>
      rw [ckA_cons hst, Bool.and_eq_true] at h
      rw [evA_cons hst]
      exact w_cons (G.v X E fn _ C hf h.1) (g_A G C hf h.2) (star_cons hst)
    | false =>
      obtain ⟨a, p, rfl⟩ := isStar hst
      have h : (ckP N c.v X.env.scope fn a && ckA N c.v X.env.scope fn es) = true := h
      rw [Bool.and_eq_true] at h
      exact w_star (g_P G C hf h.1) (g_A G C hf h.2) rfl
theorem g_AP (G : Good Φ CX k N c r) (C : Cn Φ CX k N X E) (hf : ∀ x, fn x = true → X.fn x = true) : ∀ {es : List Expr}, es.all notStar = true → es.all (ckP N c.v X.env.scope fn) = true → PA X es (tEvAP X.K X.mg E (evAP N r.v es))
  | [], _, _ => w_nilP
  | e :: es, h, h' => by
    rw [List.all_cons, Bool.and_eq_true] at h h'
    exact w_consP (g_P G C hf h'.1) (g_AP G C hf h.2 h'.2) h.1
theorem ckA_all {sc : Scope} : ∀ {es : List Expr}, es.all notStar = true → es.all (c.v sc fn) = true → ckA N c.v sc fn es = true
  | [], _, _ => rfl
  | e :: es, h, h' => by
    rw [List.all_cons, Bool.and_eq_true] at h h'
    rw [ckA_cons h.1, Bool.and_eq_true]
    exact ⟨h'.1, ckA_all h.2 h'.2⟩
theorem bind_bl {r : R Bool} {f : Bool → Bool} : ((r >>= fun b => R.ok (f b)) >>= fun b => R.ok (D.bl b)) = (r >>= fun b => R.ok (D.bl (f b))) := by
  induction r with
  | any P n k ih => exact congrArg (R.any P n) (funext ih)
  | _ => rfl
theorem cmp_ok (C : Cn Φ CX k N X E) {op : CmpOp} {f : D → D → R Bool} (h : cmpD op = some f) : ∃ r, OpR X (compareOp op) r ∧ Op2 X.K X.mg E r fun d e => f d e >>= fun b => .ok (.bl b) := by
  have hu := C.u65
  cases op with
  | Eq =>
    cases h
    exact ⟨_, op_eqB (by omega), o_eq⟩
  | NotEq =>
    cases h
    refine ⟨_, op_neB (by omega), ?_⟩
    intro n hs H x y d e Q ain rx ry w
    exact o_ne n hs H x y d e Q ain rx ry (by
      have w : RW X.K X.mg E hs n ((eqD d e >>= fun b => R.ok (!b)) >>= fun b => .ok (.bl b)) H Q := w
      rw [bind_bl] at w
      exact w)
  | Lt =>
    cases h
    exact ⟨_, op_ltD, o_lt⟩
  | LtE =>
    cases h
    exact ⟨_, op_le, o_cmpI⟩
  | Gt =>
    cases h
    exact ⟨_, op_gt, o_cmpI⟩
  | GtE =>
    cases h
    exact ⟨_, op_ge, o_cmpI⟩
  | In =>
    cases h
    exact ⟨_, op_inB hu, o_in⟩
  | NotIn =>
    cases h
    refine ⟨_, op_notInB hu, ?_⟩
    intro n hs H x y d e Q ain rx ry w
    exact o_notIn n hs H x y d e Q ain rx ry (by
      have w : RW X.K X.mg E hs n ((inD d e >>= fun b => R.ok (!b)) >>= fun b => .ok (.bl b)) H Q := w
      rw [bind_bl] at w
      exact w)
  | Is =>
    cases h
    refine ⟨_, op_isN, ?_⟩
    intro n hs H x y d e Q ain rx ry w
    refine o_isN (mg := X.mg) (E := E) n hs H x y d e Q ain rx ry ?_
    cases e <;> exact w
  | IsNot =>
    cases h
    refine ⟨_, op_notN, ?_⟩
    intro n hs H x y d e Q ain rx ry w
    refine o_notN (mg := X.mg) (E := E) n hs H x y d e Q ain rx ry ?_
    cases e <;> exact w
theorem bin_ok {op : Operator} {f : D → D → R D} (h : binD op = some f) : ∃ r, OpR X (binaryOp op) r ∧ Op2 X.K X.mg E r f := by
  cases op with
  | Pow =>
    cases h
    exact ⟨_, op_pow, o_pow⟩
  | Add =>
    cases h
    exact ⟨_, op_addD, o_add⟩
  | Sub =>
    cases h
    exact ⟨_, op_sub, o_sub⟩
  | Mult =>
    cases h
    exact ⟨_, op_mulD, o_mul⟩
  | Mod =>
    cases h
    exact ⟨_, op_mod, o_mod⟩
  | FloorDiv =>
    cases h
    exact ⟨_, op_fdiv, o_fdiv⟩
  | _ => cases h
theorem g_andV {pos : Pos} (G : Good Φ CX k N c r) (C : Cn Φ CX k N X E) (hf : ∀ x, fn x = true → X.fn x = true) : ∀ {es : List Expr}, es.all (c.v X.env.scope fn) = true → PE X (.BoolOp .And es pos) (tEv X.K X.mg E (andV r.v es))
  | [], _ => pe_no
  | [a], h => by
    rw [List.all_cons, Bool.and_eq_true] at h
    exact w_one (G.v X E fn _ C hf h.1)
  | a :: b :: rest, h => by
    rw [List.all_cons, Bool.and_eq_true] at h
    exact w_andV (G.v X E fn _ C hf h.1) (g_andV G C hf h.2)
theorem g_orV {pos : Pos} (G : Good Φ CX k N c r) (C : Cn Φ CX k N X E) (hf : ∀ x, fn x = true → X.fn x = true) : ∀ {es : List Expr}, es.all (c.v X.env.scope fn) = true → PE X (.BoolOp .Or es pos) (tEv X.K X.mg E (orV r.v es))
  | [], _ => pe_no
  | [a], h => by
    rw [List.all_cons, Bool.and_eq_true] at h
    exact w_one (G.v X E fn _ C hf h.1)
  | a :: b :: rest, h => by
    rw [List.all_cons, Bool.and_eq_true] at h
    exact w_orV (G.v X E fn _ C hf h.1) (g_orV G C hf h.2)
theorem g_andT {pos : Pos} (G : Good Φ CX k N c r) (C : Cn Φ CX k N X E) (hf : ∀ x, fn x = true → X.fn x = true) : ∀ {es : List Expr}, es.all (c.t X.env.scope fn) = true → PW X (.BoolOp .And es pos) (tEvT X.K X.mg E (andT r.t es))
  | [], _ => ⟨fun wh pins s σ H Q I ⟨hs, ε, n, S, w⟩ => False.elim w⟩
  | [a], h => by
    rw [List.all_cons, Bool.and_eq_true] at h
    exact w_and1T (G.t X E fn _ C hf h.1)
  | a :: b :: rest, h => by
    rw [List.all_cons, Bool.and_eq_true] at h
    exact w_andT (G.t X E fn _ C hf h.1) (g_andT G C hf h.2)
theorem g_orT {pos : Pos} (G : Good Φ CX k N c r) (C : Cn Φ CX k N X E) (hf : ∀ x, fn x = true → X.fn x = true) : ∀ {es : List Expr}, es.all (c.t X.env.scope fn) = true → PW X (.BoolOp .Or es pos) (tEvT X.K X.mg E (orT r.t es))
  | [], _ => ⟨fun wh pins s σ H Q I ⟨hs, ε, n, S, w⟩ => False.elim w⟩
  | [a], h => by
    rw [List.all_cons, Bool.and_eq_true] at h
    exact w_or1T (G.t X E fn _ C hf h.1)
  | a :: b :: rest, h => by
    rw [List.all_cons, Bool.and_eq_true] at h
    exact w_orT (G.t X E fn _ C hf h.1) (g_orT G C hf h.2)
theorem g_O (G : Good Φ CX k N c r) (C : Cn Φ CX k N X E) (hf : ∀ x, fn x = true → X.fn x = true) {o : Option Expr} (h : ckO c.v X.env.scope fn o = true) : PO X o (tEvO X.K X.mg E (evO r.v o)) := by
  cases o with
  | none => exact w_poN
  | some a => exact w_poS (G.v X E fn _ C hf h)
theorem g_Gs {n : Nat} (ih : ∀ e : Expr, ckG N X.env.scope fn n e = true → PG X e (gEv X.K X.mg E (evG N n e) (tgS N n e))) : ∀ {ts : List Expr}, ts.all notStar = true → ts.all (ckG N X.env.scope fn n) = true → PGs X ts (gEvs X.K X.mg E (evGs (evG N n) ts) ((ts.map (tgS N n)).flatten))
  | [], _, _ => wg_nil
  | e :: es, h, h' => by
    rw [List.all_cons, Bool.and_eq_true] at h h'
    exact wg_cons h.1 (ih e h'.1) (g_Gs ih h.2 h'.2)
theorem g_G (C : Cn Φ CX k N X E) (hf : ∀ x, fn x = true → X.fn x = true) : ∀ (n : Nat) (e : Expr), ckG N X.env.scope fn n e = true → PG X e (gEv X.K X.mg E (evG N n e) (tgS N n e))
  | 0, _, h => nomatch h
  | n + 1, e, h => by
    cases e with
    | Name x p =>
      rw [ckG] at h
      rw [evG, tgS]
      cases q : ixN N x with
      | none => exact pg_no
      | some i =>
        have hN : X.N[i]? = some x := by rw [C.eN]; exact ixN_get q
        cases q2 : X.env.scope.names.lookup x with
        | none =>
          rw [q2] at h
          cases h
        | some kd =>
          rw [q2] at h
          cases kd with
          | «local» => exact wg_name (pg_name C.nd hN (.inl q2) (.inr q2))
          | cell => exact wg_name (pg_name C.nd hN (.inr q2) (.inl (hf x h)))
          | _ => cases h
    | Tuple ts kk p =>
      rw [ckG] at h
      rw [evG, tgS]
      rw [Bool.and_eq_true] at h
      obtain ⟨a1, a2⟩ := asg_len (env := X.env) h.1
      exact wg_tup C.calm (g_Gs (g_G C hf n) h.1 h.2) a1 a2
    | _ => cases h
theorem g_Ts (G : Good Φ CX k N c r) (C : Cn Φ CX k N X E) (hf : ∀ x, fn x = true → X.fn x = true) {es : List Expr} (h : es.all (c.t X.env.scope fn) = true) : PTs X es (tEvT X.K X.mg E (evTs r.t es)) := by
  cases es with
  | nil => exact pts_nil.of fun σ H Q ⟨hs, ε, n, S, w⟩ => w H (Sm.refl _) S.ur
  | cons a es =>
    cases es with
    | nil =>
      rw [List.all_cons, Bool.and_eq_true] at h
      exact pts_one (G.t X E fn _ C hf h.1)
    | cons b es => exact pts_no
theorem g_I (G : Good Φ CX k N c r) (C : Cn Φ CX k N X E) (hf : ∀ x, fn x = true → X.fn x = true) {tg : Expr} (h : ckI N c.v X.env.scope fn tg e = true) : PI X tg e (tIt X.K X.mg E (evI N r.v e)) := by
  unfold ckI at h
  unfold evI
  have one : ∀ {es : List Expr} {a : Expr}, es = [a] → es.all notStar = true → notStar a = true := fun e h => by
    rw [e, List.all_cons, Bool.and_eq_true] at h
    exact h.1
  split at h
  · rename_i x p es p2
    by_cases c1 : x = "range"
    · subst c1
      rw [if_pos rfl] at h ⊢
      rw [Bool.and_eq_true, Bool.and_eq_true] at h
      obtain ⟨⟨h1, h2⟩, h3⟩ := h
      have ha := g_A (N := N) G C hf (ckA_all h2 h3)
      split
      · rw [List.all_cons, Bool.and_eq_true] at h2
        exact wi_range1 (gl_of h1) (C.blt _ (by decide +kernel)) ha h2.1
      · rw [List.all_cons, List.all_cons, Bool.and_eq_true, Bool.and_eq_true] at h2
        exact wi_range2 (gl_of h1) (C.blt _ (by decide +kernel)) ha h2.1 h2.2.1
      · exact pi_no
    rw [if_neg c1] at h ⊢
    by_cases c2 : x = "enumerate"
    · subst c2
      rw [if_pos rfl] at h ⊢
      rw [Bool.and_eq_true, Bool.and_eq_true, Bool.and_eq_true] at h
      obtain ⟨⟨⟨h0, h1⟩, h2⟩, h3⟩ := h
      have ha := g_A (N := N) G C hf (ckA_all h2 h3)
      cases tg <;> first | cases h0 | skip
      split
      · rw [List.all_cons, Bool.and_eq_true] at h2
        exact wi_enum (gl_of h1) (C.blt _ (by decide +kernel)) ha h2.1
      · exact pi_no
    rw [if_neg c2] at h ⊢
    by_cases c3 : x = "zip"
    · subst c3
      rw [if_pos rfl] at h ⊢
      rw [Bool.and_eq_true, Bool.and_eq_true, Bool.and_eq_true] at h
      obtain ⟨⟨⟨h0, h1⟩, h2⟩, h3⟩ := h
      have ha := g_A (N := N) G C hf (ckA_all h2 h3)
      cases tg <;> first | cases h0 | skip
      split
      · rw [List.all_cons, List.all_cons, Bool.and_eq_true, Bool.and_eq_true] at h2
        exact wi_zip (gl_of h1) (C.blt _ (by decide +kernel)) ha h2.1 h2.2.1
      · exact pi_no
    rw [if_neg c3] at h ⊢
    exact wi_seq (G.v X E fn _ C hf h)
  · exact wi_seq (G.v X E fn _ C hf h)
end
end Fx

/-! the evaluator of expressions is sound -/
namespace Fx
open PySem PySem.Spec PyProof.Rows L2
section
variable {Φ : Fns} {CX : CXT} {k : Nat} {N : List Str} {c : Ck} {r : Ev} {X : Cx} {E : XU} {fn : Str → Bool} {e : Expr}
theorem attrName {x f : Str} {p : Pos} {env : PySem.Env} : attributeBase (.Name x p) f env (eval (.Name x p) env) = eval (.Name x p) env := rfl
theorem isSS_eq {x : Str} {es : List Expr} {a : Expr} (h : isSS x es = some a) : x = "sorted" ∧ ∃ p1 p2 p3, es = [.Call (.Name "set" p1) [a] [] p2] ∧ p3 = p1 := by
  unfold isSS at h
  split at h
  · rename_i c
    split at h
    · split at h
      · rename_i c2
        cases h
        subst c2
        exact ⟨c, _, _, _, rfl, rfl⟩
      · cases h
    · cases h
  · cases h
theorem m1_of {o e : Expr} {ap cp : Pos} (h1 : isNm o = true) (h2 : notStar e = true) (h3 : (ap.endLine == cp.line) = true) : M1 X o "get" ap e cp := by
  have st := star_cons (es := []) (env := X.env) h2
  cases o <;> first | exact ⟨attrName, by rw [st]; rfl, h3, by rw [st]; rfl⟩ | cases h1
theorem m2_of {o e f : Expr} {ap cp : Pos} (h1 : isNm o = true) (h2 : notStar e = true) (h3 : notStar f = true) (h4 : (ap.endLine == cp.line) = true) : M2 X o "get" ap e f cp := by
  have st := star_cons (es := [f]) (env := X.env) h2
  have st2 := star_cons (es := []) (env := X.env) h3
  cases o <;> first | exact ⟨attrName, by rw [st, st2]; rfl, h4, by rw [st, st2]; rfl⟩ | cases h1
theorem g_V (G : Good Φ CX k N c r) (C : Cn Φ CX k N X E) (hf : ∀ x, fn x = true → X.fn x = true) (h : stepCV Φ N c X.env.scope fn e = true) : PE X e (tEv X.K X.mg E (stepV Φ N r e)) := by
  have hu := C.u65
  unfold stepCV at h
  unfold stepV
  split at h
  -- a constant
  · rename_i cc _ _
    cases cc with
    | int i => exact w_c (fun _ _ => .int i) pe_int
    | bool b => exact w_c (fun _ _ => .bl b) pe_bl
    | none => exact w_c (fun _ _ => .non) pe_non
    | str x => exact w_c (fun _ _ => .str x) pe_str
    | _ => exact pe_no
  -- a name
  · rename_i x p
    split at h
    · rename_i i hi
      exact w_rdV (nm_of C hi h)
    · split
      · rename_i n hn
        have mn : ∀ y, y ∈ bltNames → X.mg y = none := C.blt
        unfold bltTy at hn
        by_cases c1 : x = "tuple"
        · subst c1
          rw [if_pos rfl] at hn
          cases hn
          exact w_c (fun _ _ => .ty _) (pe_bltn (v := .ty "tuple") (gl_of h) (mn _ (by decide +kernel)) (by decide +kernel) rfl)
        rw [if_neg c1] at hn
        by_cases c1 : x = "list"
        · subst c1
          rw [if_pos rfl] at hn
          cases hn
          exact w_c (fun _ _ => .ty _) (pe_bltn (v := .ty "list") (gl_of h) (mn _ (by decide +kernel)) (by decide +kernel) rfl)
        rw [if_neg c1] at hn
        by_cases c1 : x = "int"
        · subst c1
          rw [if_pos rfl] at hn
          cases hn
          exact w_c (fun _ _ => .ty _) (pe_bltn (v := .ty "int") (gl_of h) (mn _ (by decide +kernel)) (by decide +kernel) rfl)
        rw [if_neg c1] at hn
        by_cases c1 : x = "bool"
        · subst c1
          rw [if_pos rfl] at hn
          cases hn
          exact w_c (fun _ _ => .ty _) (pe_bltn (v := .ty "bool") (gl_of h) (mn _ (by decide +kernel)) (by decide +kernel) rfl)
        rw [if_neg c1] at hn
        by_cases c1 : x = "str"
        · subst c1
          rw [if_pos rfl] at hn
          cases hn
          exact w_c (fun _ _ => .ty _) (pe_bltn (v := .ty "str") (gl_of h) (mn _ (by decide +kernel)) (by decide +kernel) rfl)
        rw [if_neg c1] at hn
        by_cases c1 : x = "dict"
        · subst c1
          rw [if_pos rfl] at hn
          cases hn
          exact w_c (fun _ _ => .ty _) (pe_bltn (v := .ty "dict") (gl_of h) (mn _ (by decide +kernel)) (by decide +kernel) rfl)
        rw [if_neg c1] at hn
        cases hn
      · exact pe_no
  · exact w_tup (g_A G C hf h)
  · exact pe_f2v (w_lst (g_A G C hf h))
  -- an operator
  · rw [Bool.and_eq_true] at h
    split
    · rename_i f hf2
      obtain ⟨r2, h1, h2⟩ := bin_ok (X := X) (E := E) hf2
      exact w_op h1 h2 (g_P G C hf h.1) (g_P G C hf h.2)
    · exact pe_no
  -- a comparison
  · rw [Bool.and_eq_true, Bool.and_eq_true] at h
    split
    · rename_i f hf2
      obtain ⟨r2, h1, h2⟩ := cmp_ok C hf2
      exact w_cmp h1 h2 (g_P G C hf h.1.1) (g_P G C hf h.1.2) (noMark h.2 _)
    · exact pe_no
  · exact g_andV G C hf h
  · exact g_orV G C hf h
  · exact w_notV (g_P G C hf h)
  · exact w_neg (g_P G C hf h)
  · rw [Bool.and_eq_true, Bool.and_eq_true] at h
    exact w_if (G.t X E fn _ C hf h.1.1) (G.v X E fn _ C hf h.1.2) (G.v X E fn _ C hf h.2)
  · rw [Bool.and_eq_true, Bool.and_eq_true] at h
    exact w_slice (g_P G C hf h.1.1) (g_O G C hf h.1.2) (g_O G C hf h.2)
  · rw [Bool.and_eq_true, Bool.and_eq_true] at h
    exact w_ix (by omega) (g_P G C hf h.1.1) (g_P G C hf h.1.2) h.2
  -- a comprehension
  · rename_i elt tg iter ifs scope p
    rw [Bool.and_eq_true, Bool.and_eq_true, Bool.and_eq_true, Bool.and_eq_true, Bool.and_eq_true, Bool.and_eq_true] at h
    obtain ⟨⟨⟨⟨⟨⟨h1, h2⟩, h3⟩, h4⟩, h5⟩, h6⟩, h7⟩ := h
    have hf' : ∀ (s : Shared) (H : Hp) (env : PySem.Env) (fp : List Addr) (x : Str), (scope.names.lookup x == some .cell) = true → (X.blk s H scope env fp).fn x = true := fun _ _ _ _ _ z => z
    refine pe_f2v (w_lc (sl := tgS N 3 tg) C.calm C.nd (g_I G C hf h1) (by rw [C.eN]; exact blkOk_by h3) (fun i m => ?_) (fun s H A cl fp => ?_) (fun s H A cl fp => ?_) (fun s H A cl fp => ?_) (notFold h2))
    · have z := List.all_eq_true.mp h4 i m
      exact List.contains_iff_mem.mp z
    · exact g_G (C.blk s H scope _ fp) (hf' s H _ fp) 3 tg h5
    · exact g_Ts G (C.blk s H scope _ fp) (hf' s H _ fp) h6
    · exact G.v _ (E0 E) _ _ (C.blk s H scope _ fp) (hf' s H _ fp) h7
  -- a call
  · rename_i x p es p2
    split at h
    · rename_i F hF
      rw [Bool.and_eq_true, Bool.and_eq_true, Bool.and_eq_true] at h
      obtain ⟨⟨⟨h1, h2⟩, h3⟩, h4⟩ := h
      have nd : (x == ("__debug__" : Str)) = false := by simpa using h2
      cases es with
      | nil => exact w_call0 (C.fns x F hF) C.room (gl_of h1) C.pass nd
      | cons a es => exact w_call (C.fns x F hF) C.room (gl_of h1) C.pass (g_AU G C hf h3 h4) nd h3
    · split at h
      · rename_i a ha
        rw [Bool.and_eq_true, Bool.and_eq_true, Bool.and_eq_true] at h
        obtain ⟨⟨⟨h1, h2⟩, h3⟩, h4⟩ := h
        obtain ⟨rfl, q1, q2, q3, rfl, _⟩ := isSS_eq ha
        have mn : ∀ y, y ∈ bltNames → X.mg y = none := C.blt
        exact w_ss C.calm (gl_of h1) (mn _ (by decide +kernel)) (gl_of h2) (mn _ (by decide +kernel)) (g_P G C hf h3) h4
      · rw [Bool.and_eq_true, Bool.and_eq_true, Bool.and_eq_true] at h
        obtain ⟨⟨⟨h1, h2⟩, h3⟩, h4⟩ := h
        split
        · rename_i f hf2
          cases es with
          | nil => cases h4
          | cons a es => exact w_blt C hf2 (gl_of h1) (g_AP G C hf h2 h3) h2
        · exact pe_no
  -- a call with keywords
  · rename_i x p es kws p2 nk
    cases kws with
    | nil => exact (nk rfl).elim
    | cons kw kws =>
      rw [Bool.and_eq_true, Bool.and_eq_true, Bool.and_eq_true, Bool.and_eq_true, Bool.and_eq_true] at h
      obtain ⟨⟨⟨⟨⟨h1, h2⟩, h3⟩, h4⟩, h5⟩, h6⟩ := h
      have nd : (x == ("__debug__" : Str)) = false := by simpa using h2
      split
      · rename_i F hF
        split
        · rename_i g hg
          have CK := (C.fns x F hF).2 _ _ _ hg
          have hk := g_KU (N := N) G C hf h6
          cases es with
          | nil => exact (w_callK0 CK C.room (gl_of h1) C.pass hk h5 nd)
          | cons a es => exact w_callK CK C.room (gl_of h1) C.pass (g_AU G C hf h3 h4) hk h5 nd h3
        · exact pe_no
      · exact pe_no
  -- get
  · rename_i o at_ ap es cp
    by_cases c1 : at_ = "get"
    · subst c1
      rw [if_pos rfl] at h
      rw [if_pos rfl]
      split at h
      · rw [Bool.and_eq_true, Bool.and_eq_true, Bool.and_eq_true, Bool.and_eq_true] at h
        obtain ⟨⟨⟨⟨h1, h2⟩, h3⟩, h4⟩, h5⟩ := h
        exact w_get1 (by omega) (g_P G C hf h2) (G.v X E fn _ C hf h3) (m1_of h1 h4 h5)
      · rw [Bool.and_eq_true, Bool.and_eq_true, Bool.and_eq_true, Bool.and_eq_true, Bool.and_eq_true, Bool.and_eq_true] at h
        obtain ⟨⟨⟨⟨⟨⟨h1, h2⟩, h3⟩, h3'⟩, h4⟩, h4'⟩, h5⟩ := h
        exact w_get2 (by omega) (g_P G C hf h2) (G.v X E fn _ C hf h3) (G.v X E fn _ C hf h3') (m2_of h1 h4 h4' h5)
      · exact pe_no
    · rw [if_neg c1]
      exact pe_no
  -- a comprehension with two fors
  · rename_i elt tg iter ifs tg1 iter1 ifs1 scope p
    rw [Bool.and_eq_true, Bool.and_eq_true, Bool.and_eq_true, Bool.and_eq_true, Bool.and_eq_true, Bool.and_eq_true, Bool.and_eq_true, Bool.and_eq_true, Bool.and_eq_true, Bool.and_eq_true, Bool.and_eq_true] at h
    obtain ⟨⟨⟨⟨⟨⟨⟨⟨⟨⟨⟨h1, h2⟩, h3⟩, h4⟩, h4'⟩, h5⟩, h6⟩, h7⟩, h8⟩, h9⟩, h10⟩, h11⟩ := h
    have hf' : ∀ (s : Shared) (H : Hp) (env : PySem.Env) (fp : List Addr) (x : Str), (scope.names.lookup x == some .cell) = true → (X.blk s H scope env fp).fn x = true := fun _ _ _ _ _ z => z
    refine pe_f2v (w_lc2 (sl := tgS N 3 tg) (sl1 := tgS N 3 tg1) C.calm C.nd (g_I G C hf h1) (by rw [C.eN]; exact blkOk_by h3) (fun i m => List.contains_iff_mem.mp (List.all_eq_true.mp h4 i m)) (fun i m => List.contains_iff_mem.mp (List.all_eq_true.mp h4' i m)) (fun s H A cl fp => ?_) (fun s H A cl fp => ?_) (fun s H A cl fp => ?_) (fun s H A cl fp => ?_) (fun s H A cl fp => ?_) (fun s H A cl fp => ?_) (notFold h2) fun _ => notFold h8)
    · exact g_G (C.blk s H scope _ fp) (hf' s H _ fp) 3 tg h5
    · exact g_Ts G (C.blk s H scope _ fp) (hf' s H _ fp) h6
    · exact g_I G (C.blk s H scope _ fp) (hf' s H _ fp) h7
    · exact g_G (C.blk s H scope _ fp) (hf' s H _ fp) 3 tg1 h9
    · exact g_Ts G (C.blk s H scope _ fp) (hf' s H _ fp) h10
    · exact G.v _ (E0 E) _ _ (C.blk s H scope _ fp) (hf' s H _ fp) h11
  · exact pe_f2v w_dnew
  -- a dict comprehension
  · rename_i kx vx tg iter ifs scope p
    rw [Bool.and_eq_true, Bool.and_eq_true, Bool.and_eq_true, Bool.and_eq_true, Bool.and_eq_true, Bool.and_eq_true, Bool.and_eq_true] at h
    obtain ⟨⟨⟨⟨⟨⟨⟨h1, h2⟩, h3⟩, h4⟩, h5⟩, h6⟩, h7⟩, h8⟩ := h
    have hf' : ∀ (s : Shared) (H : Hp) (env : PySem.Env) (fp : List Addr) (x : Str), (scope.names.lookup x == some .cell) = true → (X.blk s H scope env fp).fn x = true := fun _ _ _ _ _ z => z
    refine pe_f2v (w_dc (sl := tgS N 3 tg) C.calm C.nd (g_I G C hf h1) (by rw [C.eN]; exact blkOk_by h3) (fun i m => ?_) (fun s H A cl fp => ?_) (fun s H A cl fp => ?_) (fun s H A cl fp => ?_) (fun s H A cl fp => ?_) (notFold h2))
    · have z := List.all_eq_true.mp h4 i m
      exact List.contains_iff_mem.mp z
    · exact g_G (C.blk s H scope _ fp) (hf' s H _ fp) 3 tg h5
    · exact g_Ts G (C.blk s H scope _ fp) (hf' s H _ fp) h6
    · exact G.v _ (E0 E) _ _ (C.blk s H scope _ fp) (hf' s H _ fp) h7
    · exact G.v _ (E0 E) _ _ (C.blk s H scope _ fp) (hf' s H _ fp) h8
  · cases h
theorem g_T (G : Good Φ CX k N c r) (C : Cn Φ CX k N X E) (hf : ∀ x, fn x = true → X.fn x = true) (h : stepCT N c X.env.scope fn e = true) : PT X e (tEvT X.K X.mg E (stepT N r e)) := by
  have hu := C.u65
  unfold stepCT at h
  unfold stepT
  split at h
  · exact (g_andT G C hf h).pt
  · exact (g_orT G C hf h).pt
  · exact w_notT (G.t X E fn _ C hf h)
  · rw [Bool.and_eq_true, Bool.and_eq_true] at h
    split
    · rename_i f hf2
      obtain ⟨r2, h1, h2⟩ := cmp_ok C hf2
      exact w_cmpT h1 h2 (g_P G C hf h.1.1) (g_P G C hf h.1.2) (noMark h.2 _)
    · exact pt_no
  · rw [Bool.and_eq_true] at h
    exact w_tru (g_P G C hf h.2) h.1
end
theorem good {Φ : Fns} {CX : CXT} {k : Nat} {N : List Str} : ∀ n : Nat, Good Φ CX k N (ck Φ N n) (ev Φ N n)
  | 0 => ⟨(fun _ _ _ _ _ _ h => nomatch h), (fun _ _ _ _ _ _ h => nomatch h)⟩
  | n + 1 => ⟨fun _ _ _ _ C hf h => g_V (good n) C hf h, fun _ _ _ _ C hf h => g_T (good n) C hf h⟩
end Fx

/-! statements -/
namespace Fx
open PySem PySem.Spec PyProof.Rows L2
inductive RS where
  | nx (ε : Env) | rt (d : D) | bk (ε : Env) | ct (ε : Env) | ex (c : Str) (fs : List (Str × D)) | no | any (P : D → Prop) (n : Nat) (k : D → RS)
/-- a step of the def: what is not put aside stays; what is put aside then was so, or is new -/
structure Stp (hs : List Addr) (H : Hp) (hs' : List Addr) (H' : Hp) : Prop where
  kp : KpR hs H H'
  sub : ∀ a ∈ hs', a ∈ hs ∨ H a = none
theorem Stp.of {u : Option Addr} {hs : List Addr} {H H' : Hp} (s : Sm u H H') (hu : ∀ a, u = some a → a ∈ hs) : Stp hs H hs H' := ⟨KpR.of s hu, fun _ m => .inl m⟩
theorem Stp.rfl {hs : List Addr} {H : Hp} : Stp hs H hs H := ⟨⟨Same.refl _, fun _ n => n, fun _ n => n⟩, fun _ m => .inl m⟩
theorem Stp.trans {hs ks ls : List Addr} {H H1 H2 : Hp} (a : Stp hs H ks H1) (b : Stp ks H1 ls H2) : Stp hs H ls H2 := by
  refine ⟨⟨fun c o e => ?_, fun c n => b.kp.dm c (a.kp.dm c n), fun c n => b.kp.nt c (a.kp.nt c n)⟩, fun c m => ?_⟩
  · obtain ⟨h1, h2⟩ := hid_some e
    have h3 := a.kp.at_ e
    have nk : c ∉ ks := fun m => (a.sub c m).elim h1 fun z => by
      rw [z] at h2
      cases h2
    rw [hid_out h1]
    exact b.kp.at_ (by rw [hid_out nk]; exact h3)
  · rcases b.sub c m with m | z
    · exact a.sub c m
    · refine .inr ?_
      cases q : H c with
      | none => rfl
      | some o => exact absurd z (a.kp.dm c (by rw [q]; exact fun z => nomatch z))
structure Fr (u : Option Addr) (us : List Addr) (H0 : Hp) (hs : List Addr) (H : Hp) (σ : L2.St) (ε : Env) : Prop where
  sm : Sm u H0 H
  usub : ∀ a ∈ us, a ∈ hs
  ui : AllIn us H0
  nw : ∀ (i : Nat) d a, ε[i]? = some (some (true, d)) → σ[i]? = some (some (V.ref a)) → H0 a = none
theorem Fr.same {u : Option Addr} {us hs : List Addr} {H0 H H' : Hp} {σ : L2.St} {ε : Env} (F : Fr u us H0 hs H σ ε) (s : Sm u H H') : Fr u us H0 hs H' σ ε := ⟨F.sm.trans s, F.usub, F.ui, F.nw⟩
theorem Fr.put {u : Option Addr} {us hs : List Addr} {H0 H : Hp} {σ : L2.St} {ε : Env} (F : Fr u us H0 hs H σ ε) (i : Nat) (v : Option V) (d : D) : Fr u us H0 hs H (σ.set i v) (ε.set i (some (false, d))) := ⟨F.sm, F.usub, F.ui, fun j e a h1 h2 => by
  rcases get_set h1 with ⟨_, z, _⟩ | ⟨c, h1⟩
  · cases z
  · rw [List.getElem?_set_ne c] at h2
    exact F.nw j e a h1 h2⟩
def RWS (K : PySem.W.Frag) (mg : Str → Option Value) (E : XU) (us : List Addr) (H0 : Hp) (hs : List Addr) (H : Hp) : Nat → RS → Ends → Prop
  | n, .nx ε, D => ∀ hs' σ' H', Rs K E.u n hs' H' σ' ε → Fr E.u us H0 hs' H' σ' ε → Stp hs H hs' H' → D.nx σ' H'
  | n, .bk ε, D => ∀ hs' σ' H', Rs K E.u n hs' H' σ' ε → Fr E.u us H0 hs' H' σ' ε → Stp hs H hs' H' → D.bk σ' H'
  | n, .ct ε, D => ∀ hs' σ' H', Rs K E.u n hs' H' σ' ε → Fr E.u us H0 hs' H' σ' ε → Stp hs H hs' H' → D.ct σ' H'
  | n, .rt d, D => ∀ v H', Sm E.u H0 H' → Urn E.u n H' → Rp K (hid us H') v d → D.rt v H'
  | n, .ex c fs, _ => ∀ C p H', Sm E.u H0 H' → Urn E.u n H' → XAt K mg us c fs C p H' → E.x C (some p) H'
  | _, .no, _ => False
  | n, .any P c k, D => n + c ≤ lim ∧ ∀ d, P d → RWS K mg E us H0 hs H (n + c) (k d) D
def tEx (K : PySem.W.Frag) (mg : Str → Option Value) (E : XU) (m : Env → RS) : TS := fun D σ H => ∃ us H0 hs ε n, Rs K E.u n hs H σ ε ∧ Fr E.u us H0 hs H σ ε ∧ RWS K mg E us H0 hs H n (m ε) D
def liftS {α : Type} : R α → (α → RS) → RS
  | .ok a, k => k a
  | .ex c fs, _ => .ex c fs
  | .no, _ => .no
  | .any P n f, k => .any P n fun d => liftS (f d) k
theorem XAt.sub {K : PySem.W.Frag} {mg : Str → Option Value} {us hs : List Addr} {c : Str} {fs : List (Str × D)} {C : Value} {p : Addr} {H : Hp} (h : ∀ a ∈ us, a ∈ hs) (x : XAt K mg hs c fs C p H) : XAt K mg us c fs C p H := by
  obtain ⟨h1, fvs, h2, h3⟩ := x
  exact ⟨h1, fvs, h2, Paired.mapP h3 fun _ _ z => ⟨z.1, z.2.same (hid_sub h)⟩⟩
section
variable {K : PySem.W.Frag} {mg : Str → Option Value} {E : XU} {us hs ks : List Addr} {H0 H H1 : Hp} {D : Ends} {σ : L2.St} {ε : Env}
theorem RWS.mono (s : Stp hs H ks H1) : ∀ {r : RS} {n : Nat}, RWS K mg E us H0 hs H n r D → RWS K mg E us H0 ks H1 n r D
  | .nx ε, _, w => fun hs' σ' H' S F s' => w hs' σ' H' S F (s.trans s')
  | .bk ε, _, w => fun hs' σ' H' S F s' => w hs' σ' H' S F (s.trans s')
  | .ct ε, _, w => fun hs' σ' H' S F s' => w hs' σ' H' S F (s.trans s')
  | .rt d, _, w => w
  | .ex c fs, _, w => w
  | .no, _, w => w
  | .any P c k, _, w => ⟨w.1, fun d p => RWS.mono s (w.2 d p)⟩
/-- from where it began -/
theorem RWS.lift0 {α : Type} {k : α → RS} (F : Fr E.u us H0 hs H σ ε) (H2 : Hp) (s : Sm E.u H H2) : ∀ {r : R α} {n : Nat}, RWS K mg E us H0 hs H n (liftS r k) D → RWG K mg E hs n r H2 fun a n1 _ => RWS K mg E us H0 hs H n1 (k a) D
  | .ok a, _, w => fun _ _ _ => w
  | .ex c fs, _, w => fun C p H' s' u' x => w C p H' (F.sm.trans (s.trans s')) u' (x.sub F.usub)
  | .no, _, w => w
  | .any P c f, _, w => ⟨w.1, fun d p => RWS.lift0 F H2 s (r := f d) (w.2 d p)⟩
theorem RWS.lift {α : Type} {r : R α} {k : α → RS} {n : Nat} (F : Fr E.u us H0 hs H σ ε) (hu : ∀ a, E.u = some a → a ∈ hs) (w : RWS K mg E us H0 hs H n (liftS r k) D) : RWG K mg E hs n r H fun a n1 H1 => RWS K mg E us H0 hs H1 n1 (k a) D :=
  (RWS.lift0 F H (Sm.refl _) w).imp fun a n1 H1 s1 _ w1 => w1.mono (Stp.of s1 hu)
/-- other ends -/
theorem RWS.ends {D' : Ends} : ∀ {r : RS} {n : Nat}, RWS K mg E us H0 hs H n r D → (∀ n1 ε hs' σ' H', (∀ hs' σ' H', Rs K E.u n1 hs' H' σ' ε → Fr E.u us H0 hs' H' σ' ε → Stp hs H hs' H' → D.nx σ' H') → Rs K E.u n1 hs' H' σ' ε → Fr E.u us H0 hs' H' σ' ε → Stp hs H hs' H' → D'.nx σ' H') → D'.bk = D.bk → D'.ct = D.ct → D'.rt = D.rt → RWS K mg E us H0 hs H n r D'
  | .nx ε, n, w, h1, hb, hc, hr => fun hs' σ' H' S F s' => h1 n ε hs' σ' H' w S F s'
  | .bk ε, n, w, h1, hb, hc, hr => fun hs' σ' H' S F s' => by rw [hb]; exact w hs' σ' H' S F s'
  | .ct ε, n, w, h1, hb, hc, hr => fun hs' σ' H' S F s' => by rw [hc]; exact w hs' σ' H' S F s'
  | .rt d, n, w, h1, hb, hc, hr => fun v H' s u r => by rw [hr]; exact w v H' s u r
  | .ex c fs, n, w, h1, hb, hc, hr => w
  | .no, n, w, h1, hb, hc, hr => w
  | .any P c k, n, w, h1, hb, hc, hr => ⟨w.1, fun d p => RWS.ends (w.2 d p) h1 hb hc hr⟩
end
theorem _root_.L2.PS.of {X : Cx} {st : Stmt} {t t' : TS} (h : PS X st t) (w : ∀ D σ H, t' D σ H → t D σ H) : PS X st t' := ⟨fun pins s σ H D I q => h.run pins s σ H D I (w D σ H q)⟩
theorem _root_.L2.PSs.of {X : Cx} {st : List Stmt} {t t' : TS} (h : PSs X st t) (w : ∀ D σ H, t' D σ H → t D σ H) : PSs X st t' := ⟨fun pins s σ H D I q => h.run pins s σ H D I (w D σ H q)⟩
section
variable {X : Cx} {E : XU} {e c : Expr} {m : Env → R D} {mb : Env → R Bool} {ms ms2 : Env → RS} {st : Stmt} {rest b1 b2 : List Stmt} {pos : Pos}
theorem s_skip (h : PS X st tNext) : PS X st (tEx X.K X.mg E fun ε => .nx ε) := h.of fun D σ H ⟨us, H0, hs, ε, n, S, F, w⟩ => w hs σ H S F Stp.rfl
theorem s_brk (h : PS X st tBreak) : PS X st (tEx X.K X.mg E fun ε => .bk ε) := h.of fun D σ H ⟨us, H0, hs, ε, n, S, F, w⟩ => w hs σ H S F Stp.rfl
theorem s_cnt (h : PS X st tCont) : PS X st (tEx X.K X.mg E fun ε => .ct ε) := h.of fun D σ H ⟨us, H0, hs, ε, n, S, F, w⟩ => w hs σ H S F Stp.rfl
theorem s_no : PS X st (tEx X.K X.mg E fun _ => .no) := ⟨fun pins s σ H D I ⟨us, H0, hs, ε, n, S, F, w⟩ => False.elim w⟩
theorem s_nil : PSs X [] (tEx X.K X.mg E fun ε => .nx ε) := pss_nil.of fun D σ H ⟨us, H0, hs, ε, n, S, F, w⟩ => w hs σ H S F Stp.rfl
def seqS : RS → (Env → RS) → RS
  | .nx ε, k => k ε
  | .rt d, _ => .rt d
  | .bk ε, _ => .bk ε
  | .ct ε, _ => .ct ε
  | .ex c fs, _ => .ex c fs
  | .no, _ => .no
  | .any P n f, k => .any P n fun d => seqS (f d) k
theorem RWS.seq {K : PySem.W.Frag} {mg : Str → Option Value} {us hs : List Addr} {H0 H : Hp} {k : Env → RS} {D D' : Ends} (hb : D'.bk = D.bk) (hc : D'.ct = D.ct) (hr : D'.rt = D.rt)
    (h1 : ∀ n1 ε hs' σ' H', Rs K E.u n1 hs' H' σ' ε → Fr E.u us H0 hs' H' σ' ε → Stp hs H hs' H' → RWS K mg E us H0 hs' H' n1 (k ε) D → D'.nx σ' H') : ∀ {r : RS} {n : Nat}, RWS K mg E us H0 hs H n (seqS r k) D → RWS K mg E us H0 hs H n r D'
  | .nx ε, n, w => fun hs' σ' H' S F s' => h1 n ε hs' σ' H' S F s' (RWS.mono s' (show RWS K mg E us H0 hs H n (k ε) D from w))
  | .bk ε, n, w => fun hs' σ' H' S F s' => by rw [hb]; exact w hs' σ' H' S F s'
  | .ct ε, n, w => fun hs' σ' H' S F s' => by rw [hc]; exact w hs' σ' H' S F s'
  | .rt d, n, w => fun v H' s u r => by rw [hr]; exact w v H' s u r
  | .ex c fs, n, w => w
  | .no, n, w => w
  | .any P c f, n, w => ⟨w.1, fun d p => RWS.seq hb hc hr h1 (r := f d) (w.2 d p)⟩
theorem s_cons (h1 : PS X st (tEx X.K X.mg E ms)) (h2 : PSs X rest (tEx X.K X.mg E ms2)) : PSs X (st :: rest) (tEx X.K X.mg E fun ε => seqS (ms ε) ms2) := (pss_cons h1 h2).of fun D σ H ⟨us, H0, hs, ε, n, S, F, w⟩ =>
  ⟨us, H0, hs, ε, n, S, F, by
    refine RWS.seq (D := D) (D' := { nx := tEx X.K X.mg E ms2 D, rt := D.rt, bk := D.bk, ct := D.ct }) rfl rfl rfl ?_ w
    exact fun n1 ε1 hs' σ' H' S' F' s' w' => ⟨us, H0, hs', ε1, n1, S', F', w'⟩⟩
theorem s_drop (he : PE X e (tEv X.K X.mg E m)) (hs : swapsWith e none pos.line X.env = pure false) : PS X (.Expr e pos) (tEx X.K X.mg E fun ε => liftS (m ε) fun _ => .nx ε) := (ps_expr he hs).of fun D σ H ⟨us, H0, hs, ε, n, S, F, w⟩ =>
  ⟨hs, ε, n, S, (RWS.lift F S.uh w).imp fun d n1 H1 s1 u1 w1 v rv => w1 hs σ H1 (S.same s1 u1) (F.same s1) Stp.rfl⟩
theorem s_ret (he : PE X e (tEv X.K X.mg E m)) : PS X (.Return (some e) pos) (tEx X.K X.mg E fun ε => liftS (m ε) .rt) := (ps_ret he).of fun D σ H ⟨us, H0, hs, ε, n, S, F, w⟩ =>
  ⟨hs, ε, n, S, (RWS.lift F S.uh w).imp fun d n1 H1 s1 u1 w1 v rv => w1 v H1 (F.sm.trans s1) u1 (rv.same (hid_sub F.usub))⟩
theorem s_retN : PS X (.Return none pos) (tEx X.K X.mg E fun ε => .rt .non) := ps_retN.of fun D σ H ⟨us, H0, hs, ε, n, S, F, w⟩ => w .non H F.sm S.ur .non
theorem s_if (hc : PT X c (tEvT X.K X.mg E mb)) (h1 : PSs X b1 (tEx X.K X.mg E ms)) (h2 : PSs X b2 (tEx X.K X.mg E ms2)) : PS X (.If c b1 b2 pos) (tEx X.K X.mg E fun ε => liftS (mb ε) fun t => if t = true then ms ε else ms2 ε) :=
  (ps_if hc h1 h2).of fun D σ H ⟨us, H0, hs, ε, n, S, F, w⟩ => ⟨hs, ε, n, S, (RWS.lift F S.uh w).imp fun t n1 H1 s1 u1 w1 => by
    cases t with
    | true => exact ⟨us, H0, hs, ε, n1, S.same s1 u1, F.same s1, w1⟩
    | false => exact ⟨us, H0, hs, ε, n1, S.same s1 u1, F.same s1, w1⟩⟩
/-! ### names are stored -/
def PSet1 (X : Cx) (st : Stmt) (i : Nat) (te : TE) : Prop := PS X st (tAsg te (gName i))
theorem s_set {i : Nat} (h : PS X st (tAsg (tEv X.K X.mg E m) (gName i))) : PS X st (tEx X.K X.mg E fun ε => liftS (m ε) fun d => .nx (ε.set i (some (false, d)))) := h.of fun D σ H ⟨us, H0, hs, ε, n, S, F, w⟩ =>
  ⟨hs, ε, n, S, (RWS.lift F S.uh w).imp fun d n1 H1 s1 u1 w1 v rv => w1 hs (σ.set i (some v)) H1 ((S.same s1 u1).put rv) ((F.same s1).put i _ d) Stp.rfl⟩
/-- a new list or dict -/
def tEvL (K : PySem.W.Frag) (mg : Str → Option Value) (E : XU) (m : Env → R D) : TE := fun σ H Q => ∃ hs ε n, Rs K E.u n hs H σ ε ∧ RWG K mg E hs n (m ε) H fun d n' H' => match d with
  | .lst _ => ∀ p, H p = none → H' p ≠ none → Own K (hid (p :: hs) H') H' p d → Q (.ref p) H'
  | .dic _ => ∀ p, H p = none → H' p ≠ none → Own K (hid (p :: hs) H') H' p d → Q (.ref p) H'
  | _ => False
theorem pe_f2l (h : PE X e (tEvF X.K X.mg E m)) : PE X e (tEvL X.K X.mg E m) := h.of fun σ H Q ⟨hs, ε, n, S, w⟩ => ⟨hs, ε, n, S, RWG.imp (fun d n1 H' s u1 q p n n' o => by
  cases d with
  | lst ds => exact q p n n' o
  | dic ds => exact q p n n' o
  | _ => exact False.elim q) w⟩
def ownD (ε : Env) (i : Nat) : D → RS
  | .lst ds => .nx (ε.set i (some (true, .lst ds)))
  | .dic ds => .nx (ε.set i (some (true, .dic ds)))
  | _ => .no
theorem fr_own {n : Nat} {us hs : List Addr} {H0 H H1 : Hp} {σ : L2.St} {ε : Env} {i : Nat} {p : Addr} {d : D} (S : Rs X.K E.u n hs H σ ε) (F : Fr E.u us H0 hs H σ ε) (s1 : Sm E.u H H1) (n : H p = none) : Fr E.u us H0 (p :: hs) H1 (σ.set i (some (.ref p))) (ε.set i (some (true, d))) :=
  ⟨F.sm.trans s1, fun a m => List.mem_cons_of_mem _ (F.usub a m), F.ui, fun j e a h1 h2 => by
    rcases get_set h1 with ⟨cc, z, l⟩ | ⟨cc, h1⟩
    · subst cc
      rw [List.getElem?_set_self (by rw [← S.len]; exact l)] at h2
      cases h2
      exact F.sm.free n
    · rw [List.getElem?_set_ne cc] at h2
      exact F.nw j e a h1 h2⟩
theorem stp_own {u : Option Addr} {hs : List Addr} {H H1 : Hp} {p : Addr} (s1 : Sm u H H1) (hu : ∀ a, u = some a → a ∈ hs) (n : H p = none) : Stp hs H (p :: hs) H1 := ⟨KpR.of s1 hu, fun a m => by
  rcases List.mem_cons.mp m with e | m
  · exact .inr (e ▸ n)
  · exact .inl m⟩
theorem s_own {i : Nat} (h : PS X st (tAsg (tEvL X.K X.mg E m) (gName i))) : PS X st (tEx X.K X.mg E fun ε => liftS (m ε) (ownD ε i)) := h.of fun D σ H ⟨us, H0, hs, ε, n, S, F, w⟩ =>
  ⟨hs, ε, n, S, (RWS.lift0 F H (Sm.refl _) w).imp fun d n1 H1 s1 u1 w1 => by
    cases d with
    | lst ds => exact fun p n n' o => w1 (p :: hs) _ H1 (S.own s1 u1 n o n') (fr_own S F s1 n) (stp_own s1 S.uh n)
    | dic ds => exact fun p n n' o => w1 (p :: hs) _ H1 (S.own s1 u1 n o n') (fr_own S F s1 n) (stp_own s1 S.uh n)
    | _ => exact w1⟩
/-! ### what a slot holds is written -/
theorem Rs.wr {K : PySem.W.Frag} {u : Option Addr} {n : Nat} {hs : List Addr} {H : Hp} {σ : L2.St} {ε : Env} (S : Rs K u n hs H σ ε) {i : Nat} {a : Addr} {d d' : D} {o : HO} (hi : ε[i]? = some (some (true, d))) (ha : σ[i]? = some (some (V.ref a))) (am : a ∈ hs) (na : some a ≠ u) (ow : Own K (hid hs (upd H a o)) (upd H a o) a d') :
    Rs K u n hs (upd H a o) σ (ε.set i (some (true, d'))) := by
  have il := (List.getElem?_eq_some_iff.mp hi).1
  have hh : hid hs (upd H a o) = hid hs H := hid_put am
  refine ⟨by rw [List.length_set, S.len], fun v m => ?_, S.uh, S.ur.upd na, fun j f e h => ?_, fun j k d1 e1 b h1 h2 h3 h4 => ?_⟩
  · by_cases c : v = a
    · rw [c]
      exact ow.nt
    · rw [upd_ne c]
      exact S.ain v m
  · rcases get_set h with ⟨c, z, _⟩ | ⟨c, h⟩
    · subst c
      cases z
      exact ⟨_, ha, (fun q => nomatch q), fun _ => ⟨a, rfl, am, na, ow⟩⟩
    · obtain ⟨v, g1, g2, g3⟩ := S.sl j f e h
      refine ⟨v, g1, fun q => by rw [hh]; exact g2 q, fun q => ?_⟩
      obtain ⟨b, e1, m, nb, o1⟩ := g3 q
      subst e1
      subst q
      have ba : b ≠ a := fun z => c (S.ne i j d e a hi h ha (by rw [← z]; exact g1))
      refine ⟨b, rfl, m, nb, ?_⟩
      cases e with
      | lst ds =>
        obtain ⟨xs, k1, k2⟩ := o1
        exact ⟨xs, by rw [upd_ne ba]; exact k1, by rw [hh]; exact k2⟩
      | dic ds =>
        obtain ⟨xs, k1, k2⟩ := o1
        exact ⟨xs, by rw [upd_ne ba]; exact k1, by rw [hh]; exact k2⟩
      | _ => exact False.elim o1
  · have old : ∀ {j : Nat} {e : D}, (ε.set i (some (true, d')))[j]? = some (some (true, e)) → ∃ e', ε[j]? = some (some (true, e')) := fun {j e} q => by
      rcases get_set q with ⟨c, _, _⟩ | ⟨c, q⟩
      · subst c
        exact ⟨d, hi⟩
      · exact ⟨e, q⟩
    obtain ⟨d2, h1⟩ := old h1
    obtain ⟨e2, h2⟩ := old h2
    exact S.ne j k d2 e2 b h1 h2 h3 h4
theorem fr_upd {u : Option Addr} {us hs : List Addr} {H0 H : Hp} {σ : L2.St} {ε : Env} {i : Nat} {a : Addr} {d d' : D} {o : HO} (F : Fr u us H0 hs H σ ε) (hi : ε[i]? = some (some (true, d))) (ha : σ[i]? = some (some (V.ref a))) (ho : ∀ xs, o ≠ .tup xs := by exact fun _ z => nomatch z) : Fr u us H0 hs (upd H a o) σ (ε.set i (some (true, d'))) := by
  have na := F.nw i d a hi ha
  refine ⟨⟨fun b z nb e => ?_, fun b nb => ?_, fun b nb => NT.upd ho (F.sm.nt b nb)⟩, F.usub, F.ui, fun j e b h1 h2 => ?_⟩
  · rw [upd_ne (ne_of_none e na)]
    exact F.sm.kp b z nb e
  · by_cases c : b = a
    · rw [c, upd_same]
      exact fun z => nomatch z
    · rw [upd_ne c]
      exact F.sm.th b nb
  · rcases get_set h1 with ⟨c, _, _⟩ | ⟨c, h1⟩
    · subst c
      rw [ha] at h2
      cases h2
      exact na
    · exact F.nw j e b h1 h2
theorem stp_upd {hs : List Addr} {H : Hp} {a : Addr} {o : HO} (am : a ∈ hs) (ho : ∀ xs, o ≠ .tup xs := by exact fun _ z => nomatch z) : Stp hs H hs (upd H a o) := ⟨⟨by rw [hid_put am]; exact Same.refl _, fun b n => by
  by_cases c : b = a
  · rw [c, upd_same]
    exact fun z => nomatch z
  · rw [upd_ne c]
    exact n, fun b n => NT.upd ho n⟩, fun _ m => .inl m⟩
/-- the list of slot i -/
def ownL (ε : Env) (i : Nat) (k : List D → RS) : RS := match ε[i]? with
  | some (some (true, .lst ds)) => k ds
  | _ => .no
def ownK (ε : Env) (i : Nat) (k : List (Key × D) → RS) : RS := match ε[i]? with
  | some (some (true, .dic ds)) => k ds
  | _ => .no
theorem RWS.ownL {K : PySem.W.Frag} {mg : Str → Option Value} {us hs : List Addr} {H0 H : Hp} {Dn : Ends} {σ : L2.St} {ε : Env} {i n : Nat} {k : List D → RS} (S : Rs K E.u n hs H σ ε) (w : RWS K mg E us H0 hs H n (Fx.ownL ε i k) Dn) :
    ∃ ds a xs, ε[i]? = some (some (true, .lst ds)) ∧ σ[i]? = some (some (V.ref a)) ∧ a ∈ hs ∧ some a ≠ E.u ∧ H a = some (.lst xs) ∧ RpA K (hid hs H) xs ds ∧ RWS K mg E us H0 hs H n (k ds) Dn := by
  unfold Fx.ownL at w
  split at w
  · rename_i ds hi
    obtain ⟨v, h1, _, h3⟩ := S.sl i _ _ hi
    obtain ⟨a, e, m, na, xs, g1, g2⟩ := h3 rfl
    subst e
    exact ⟨ds, a, xs, hi, h1, m, na, g1, g2, w⟩
  · exact False.elim w
theorem RWS.ownK {K : PySem.W.Frag} {mg : Str → Option Value} {us hs : List Addr} {H0 H : Hp} {Dn : Ends} {σ : L2.St} {ε : Env} {i n : Nat} {k : List (Key × D) → RS} (S : Rs K E.u n hs H σ ε) (w : RWS K mg E us H0 hs H n (Fx.ownK ε i k) Dn) :
    ∃ ds a xs, ε[i]? = some (some (true, .dic ds)) ∧ σ[i]? = some (some (V.ref a)) ∧ a ∈ hs ∧ some a ≠ E.u ∧ H a = some (.dK xs) ∧ RpK K (hid hs H) xs ds ∧ RWS K mg E us H0 hs H n (k ds) Dn := by
  unfold Fx.ownK at w
  split at w
  · rename_i ds hi
    obtain ⟨v, h1, _, h3⟩ := S.sl i _ _ hi
    obtain ⟨a, e, m, na, xs, g1, g2⟩ := h3 rfl
    subst e
    exact ⟨ds, a, xs, hi, h1, m, na, g1, g2, w⟩
  · exact False.elim w
theorem RWS.iteC {K : PySem.W.Frag} {mg : Str → Option Value} {us hs : List Addr} {H0 H : Hp} {D : Ends} {c : Prop} [Decidable c] {r : RS} {n : Nat} (w : RWS K mg E us H0 hs H n (if c then r else .no) D) : c ∧ RWS K mg E us H0 hs H n r D := by
  split at w
  · rename_i h
    exact ⟨h, w⟩
  · exact False.elim w
theorem lt_line {n : Nat} (h : n < cap) : n < sizeLine := by
  rw [sizeLine_eq]
  have : cap = 100000 := rfl
  omega
/-- x.append(e) -/
theorem s_append {i : Nat} {o : Expr} (hx : PE X o (tVar i)) (he : PE X e (tEv X.K X.mg E m)) {apos cpos : Pos} (hbase : attributeBase o "append" X.env (eval o X.env) = eval o X.env) (hst : notStar e = true) (hline : (apos.endLine == cpos.line) = true) :
    PS X (.Expr (.Call (.Attribute o "append" apos) [e] [] cpos) pos) (tEx X.K X.mg E fun ε => ownL ε i fun ds => liftS (m ε) fun d => if ds.length < cap then .nx (ε.set i (some (true, .lst (ds ++ [d])))) else .no) :=
  (ps_expr (pe_bm PySem.F.plainAttrs_list PySem.F.slot_list_append PySem.F.type_list_append mt_append hx (pa_cons he pa_nil (star_cons hst)) hbase (by rw [star_cons hst]; rfl) hline (star_cons hst) (by rfl)) (by rfl)).of fun D σ H ⟨us, H0, hs, ε, n, S, F, w⟩ => by
    obtain ⟨ds, a, xs, hi, ha, am, na, hH, ra, w⟩ := RWS.ownL S w
    refine ⟨_, ha, .inl ⟨rfl, xs, SqL.of hH⟩, hs, ε, n, S, (RWS.lift F S.uh w).imp fun d n1 H1 s1 u1 w1 v rv => ?_⟩
    obtain ⟨hz, w1⟩ := RWS.iteC w1
    have hH1 := s1.kp _ _ na hH
    refine ⟨a, xs, v, rfl, rfl, hH1, by rw [ra.len]; exact lt_line hz, ?_⟩
    exact w1 hs σ _ ((S.same s1 u1).wr hi ha am na ⟨_, upd_same, by rw [hid_put am]; exact (ra.same (s1.hid S.uh)).snoc rv⟩) (fr_upd (F.same s1) hi ha) (stp_upd am)
/-- x.extend(e), e a list -/
theorem s_extend {i : Nat} {o : Expr} (hx : PE X o (tVar i)) (he : PE X e (tEv X.K X.mg E m)) {apos cpos : Pos} (hbase : attributeBase o "extend" X.env (eval o X.env) = eval o X.env) (hst : notStar e = true) (hline : (apos.endLine == cpos.line) = true) :
    PS X (.Expr (.Call (.Attribute o "extend" apos) [e] [] cpos) pos) (tEx X.K X.mg E fun ε => ownL ε i fun ds => liftS (m ε) fun d => match d with | .lst es => if ds.length + es.length ≤ cap then .nx (ε.set i (some (true, .lst (ds ++ es)))) else .no | _ => .no) :=
  (ps_expr (pe_bm PySem.F.plainAttrs_list PySem.F.slot_list_extend PySem.F.type_list_extend mt_extend hx (pa_cons he pa_nil (star_cons hst)) hbase (by rw [star_cons hst]; rfl) hline (star_cons hst) (by rfl)) (by rfl)).of fun D σ H ⟨us, H0, hs, ε, n, S, F, w⟩ => by
    obtain ⟨ds, a, xs, hi, ha, am, na, hH, ra, w⟩ := RWS.ownL S w
    refine ⟨_, ha, .inl ⟨rfl, xs, SqL.of hH⟩, hs, ε, n, S, (RWS.lift F S.uh w).imp fun d n1 H1 s1 u1 w1 v rv => ?_⟩
    cases d with
    | lst es =>
      obtain ⟨hz, w1⟩ := RWS.iteC w1
      have hH1 := s1.kp _ _ na hH
      cases rv with
      | lst h2 r2 =>
        refine ⟨a, _, xs, _, rfl, rfl, hH1, hid_le _ _ h2, by rw [ra.len, r2.len]; exact cap_ok hz, ?_⟩
        exact w1 hs σ _ ((S.same s1 u1).wr hi ha am na ⟨_, upd_same, by rw [hid_put am]; exact r2.app (ra.same (s1.hid S.uh))⟩) (fr_upd (F.same s1) hi ha) (stp_upd am)
    | _ => exact False.elim w1
end
end Fx

/-! stores, loops -/
namespace Fx
open PySem PySem.Spec PyProof.Rows L2
section
variable {K : PySem.W.Frag} {H : Hp}
theorem RpA.set {v : V} {d : D} (h : Rp K H v d) : ∀ {xs : List V} {ds : List D} (i : Nat), RpA K H xs ds → RpA K H (xs.set i v) (ds.set i d)
  | _, _, _, .nil => .nil
  | _, _, 0, .cons _ a => .cons h a
  | _, _, i + 1, .cons g a => .cons g (RpA.set h i a)
end
section
variable {X : Cx} {E : XU} {e o : Expr} {m m2 : Env → R D} {mb : Env → R Bool} {ms : Env → RS} {st : Stmt} {pos : Pos} {body : List Stmt}
theorem set_dict (hu : X.A.units + 1 < cLine) : PSet X fun o i v H Q => ∃ a H', o = .ref a ∧ DPut H a i v H' ∧ Q H' := by
  intro pins s σ H o i v ov iv u Q I ro ri rv h
  obtain ⟨a, H', e, g, q⟩ := h
  subst e
  obtain rfl : ov = Value.ref a := ro
  exact d_setItem hu I g ri rv fun s4 I4 => ⟨H', I4, q⟩
theorem pset_or {t t' : TSet} (h : PSet X t) (h' : PSet X t') : PSet X fun o i v H Q => t o i v H Q ∨ t' o i v H Q := by
  intro pins s σ H o i v ov iv u Q I ro ri rv q
  rcases q with q | q
  · exact h pins s σ H o i v ov iv u Q I ro ri rv q
  · exact h' pins s σ H o i v ov iv u Q I ro ri rv q
def hasO (ε : Env) (i : Nat) (r : RS) : RS := match ε[i]? with
  | some (some (true, _)) => r
  | _ => .no
/-- x[k] = v for what slot i holds -/
def putI (ε : Env) (i : Nat) (d y : D) : RS := match ε[i]? with
  | some (some (true, .lst ds)) => match y with
    | .int n => match L2.ixN ds.length n with
      | some j => .nx (ε.set i (some (true, .lst (ds.set j d))))
      | none => .no
    | _ => .no
  | some (some (true, .dic kds)) => match keyD y with
    | some k => if kds.length < cap then .nx (ε.set i (some (true, .dic (putD kds k d)))) else .no
    | none => .no
  | _ => .no
theorem s_put {i : Nat} {b : Expr} {p2 : Pos} (hu : X.A.units + 1 < cLine) (hx : PE X o (tVar i)) (hb : PE X b (tEv X.K X.mg E m2)) (he : PE X e (tEv X.K X.mg E m)) (hsl : notSlice b = true) (h1 : swapsWithSole [.Subscript o b p2] e pos.line X.env = pure false) (h2 : swappedStores [.Subscript o b p2] e X.env = pure none) :
    PS X (.Assign [.Subscript o b p2] e pos) (tEx X.K X.mg E fun ε => liftS (m ε) fun d => hasO ε i (liftS (m2 ε) fun y => putI ε i d y)) := by
  refine (ps_asg he (pg_sub hx hb (pset_or set_list (set_dict hu)) (by cases b <;> first | (intro _; rfl) | cases hsl)) h1 h2 (by rfl)).of fun D σ H ⟨us, H0, hs, ε, n, S, F, w⟩ => ⟨hs, ε, n, S, (RWS.lift F S.uh w).imp fun d n1 H1 s1 u1 w1 v rv => ?_⟩
  have S1 := S.same s1 u1
  have F1 := F.same s1
  unfold hasO at w1
  split at w1
  · rename_i d0 hi
    obtain ⟨u, g1, _, g3⟩ := S1.sl i _ _ hi
    obtain ⟨a, e1, am, na, ow⟩ := g3 rfl
    subst e1
    refine ⟨_, g1, hs, ε, n1, S1, (RWS.lift F1 S1.uh w1).imp fun y n2 H2 s2 u2 w2 z rz => ?_⟩
    unfold putI at w2
    rw [hi] at w2
    cases d0 with
    | lst ds =>
      obtain ⟨xs, k1, k2⟩ := ow
      dsimp only at w2
      split at w2
      · rename_i n
        split at w2
        · rename_i j hj
          cases rz
          refine .inl ⟨a, xs, n, j, rfl, rfl, s2.kp _ _ na k1, by rw [k2.len]; exact hj, ?_⟩
          exact w2 hs σ _ ((S1.same s2 u2).wr hi g1 am na ⟨_, upd_same, by rw [hid_put am]; exact (k2.same (s2.hid S1.uh)).set (rv.same (s2.hid S1.uh)) j⟩) (fr_upd (F1.same s2) hi g1) (stp_upd am)
        · exact False.elim w2
      · exact False.elim w2
    | dic kds =>
      obtain ⟨xs, k1, k2⟩ := ow
      dsimp only at w2
      split at w2
      · rename_i k hk
        obtain ⟨hz, w2⟩ := RWS.iteC w2
        have ez := (Rw.sh (u := E.u) (hs := hs) rz).key hk
        subst ez
        refine .inr ⟨a, _, rfl, DPut.k (s2.kp _ _ na k1) (by rw [k2.len]; exact lt_line hz), ?_⟩
        exact w2 hs σ _ ((S1.same s2 u2).wr hi g1 am na ⟨_, upd_same, by rw [hid_put am]; exact (k2.same (s2.hid S1.uh)).put (rv.same (s2.hid S1.uh))⟩) (fr_upd (F1.same s2) hi g1) (stp_upd am)
      · exact False.elim w2
    | _ => exact False.elim ow
  · exact False.elim w1
/-! ### a, b = .. -/
theorem gfr {u : Option Addr} {us hs : List Addr} {H0 H H' : Hp} {σ σ' : L2.St} {ε ε' : Env} (F : Fr u us H0 hs H σ ε) (s : Sm u H H') (o : ∀ (j : Nat) d, ε'[j]? = some (some (true, d)) → ε[j]? = some (some (true, d)) ∧ σ'[j]? = σ[j]?) : Fr u us H0 hs H' σ' ε' :=
  ⟨F.sm.trans s, F.usub, F.ui, fun i d a h1 h2 => by
    obtain ⟨z1, z2⟩ := o i d h1
    rw [z2] at h2
    exact F.nw i d a z1 h2⟩
theorem s_tgt {tg : Expr} {g : D → Env → R Env} {sl : List Nat} (he : PE X e (tEv X.K X.mg E m)) (hg : PG X tg (gEv X.K X.mg E g sl)) (h1 : swapsWithSole [tg] e pos.line X.env = pure false) (h2 : swappedStores [tg] e X.env = pure none) (h3 : (assignEach [tg] X.env).map (·.2) = [assign tg X.env]) :
    PS X (.Assign [tg] e pos) (tEx X.K X.mg E fun ε => liftS (m ε) fun d => liftS (g d ε) .nx) := by
  refine (ps_asg he hg h1 h2 h3).of fun D σ H ⟨us, H0, hs, ε, n, S, F, w⟩ => ⟨hs, ε, n, S, (RWS.lift F S.uh w).imp fun d n1 H1 s1 u1 w1 v rv => ?_⟩
  exact ⟨hs, ε, n1, d, S.same s1 u1, rv, (RWS.lift (F.same s1) S.uh w1).imp fun ε' n2 H2 s2 u2 w2 σ' S' _ o => w2 hs σ' H2 S' (gfr (F.same s1) s2 o) Stp.rfl⟩
def par2 (i j : Nat) (ε : Env) : List D → RS
  | [a, b] => .nx ((ε.set i (some (false, a))).set j (some (false, b)))
  | _ => .no
def par3 (i j l : Nat) (ε : Env) : List D → RS
  | [a, b, c] => .nx (((ε.set i (some (false, a))).set j (some (false, b))).set l (some (false, c)))
  | _ => .no
variable {ma : Env → R (List D)}
theorem s_par2 {i j : Nat} (h : PS X st (tPar i j (tEvA X.K X.mg E ma))) : PS X st (tEx X.K X.mg E fun ε => liftS (ma ε) (par2 i j ε)) := h.of fun D σ H ⟨us, H0, hs, ε, n, S, F, w⟩ => ⟨hs, ε, n, S, (RWS.lift F S.uh w).imp fun ds n1 H1 s1 u1 w1 vs rvs => by
  unfold par2 at w1
  split at w1
  · cases rvs with
    | cons r1 t =>
      cases t with
      | cons r2 t =>
        cases t
        exact ⟨_, _, rfl, w1 hs ((σ.set i (some _)).set j (some _)) H1 (((S.same s1 u1).put r1).put r2) (((F.same s1).put i _ _).put j _ _) Stp.rfl⟩
  · exact False.elim w1⟩
theorem s_par3 {i j l : Nat} (h : PS X st (tPar3 i j l (tEvA X.K X.mg E ma))) : PS X st (tEx X.K X.mg E fun ε => liftS (ma ε) (par3 i j l ε)) := h.of fun D σ H ⟨us, H0, hs, ε, n, S, F, w⟩ => ⟨hs, ε, n, S, (RWS.lift F S.uh w).imp fun ds n1 H1 s1 u1 w1 vs rvs => by
  unfold par3 at w1
  split at w1
  · cases rvs with
    | cons r1 t =>
      cases t with
      | cons r2 t =>
        cases t with
        | cons r3 t =>
          cases t
          exact ⟨_, _, _, rfl, w1 hs (((σ.set i (some _)).set j (some _)).set l (some _)) H1 ((((S.same s1 u1).put r1).put r2).put r3) ((((F.same s1).put i _ _).put j _ _).put l _ _) Stp.rfl⟩
  · exact False.elim w1⟩
/-! ### name op= e, ints -/
def augD (op : Operator) (d e : D) : R D := match op, d, e with
  | .Add, .int i, .int j => .ok (.int (i + j))
  | .Sub, .int i, .int j => .ok (.int (i - j))
  | _, _, _ => .no
def augS (op : Operator) (m : Env → R D) (i : Nat) : Env → RS := match op with
  | .Add => fun ε => match ε[i]? with
    | some (some (false, d)) => liftS (m ε) fun e => liftS (augD .Add d e) fun d => .nx (ε.set i (some (false, d)))
    | _ => .no
  | .Sub => fun ε => match ε[i]? with
    | some (some (false, d)) => liftS (m ε) fun e => liftS (augD .Sub d e) fun d => .nx (ε.set i (some (false, d)))
    | _ => .no
  | _ => fun _ => .no
def augT (op : Operator) (m : Env → R D) (i : Nat) (ε : Env) : RS := match ε[i]? with
  | some (some (false, d)) => liftS (m ε) fun e => liftS (augD op d e) fun d => .nx (ε.set i (some (false, d)))
  | _ => .no
theorem s_aug {i : Nat} {op : Operator} {f : Int → Int → Int} (hop : ∀ a b, augD op (.int a) (.int b) = .ok (.int (f a b))) (hno : ∀ d e, (∃ a b, d = .int a ∧ e = .int b) ∨ augD op d e = .no) (h : PS X st (tAug i (tEv X.K X.mg E m) (ipI f))) : PS X st (tEx X.K X.mg E (augT op m i)) := h.of fun D σ H ⟨us, H0, hs, ε, n, S, F, w⟩ => by
  unfold augT at w
  split at w
  · rename_i d hi
    obtain ⟨v, g1, g2, _⟩ := S.sl i _ _ hi
    refine ⟨v, g1, hs, ε, n, S, (RWS.lift F S.uh w).imp fun e n1 H1 s1 u1 w1 u ru => ?_⟩
    rcases hno d e with ⟨a, b, e1, e2⟩ | z
    · subst e1
      subst e2
      rw [hop] at w1
      have ev := (g2 rfl).get fun z => nomatch z
      cases ev
      cases ru
      exact ⟨a, b, rfl, rfl, w1 hs (σ.set i (some _)) H1 ((S.same s1 u1).put (.int _)) ((F.same s1).put i _ _) Stp.rfl⟩
    · rw [z] at w1
      exact False.elim w1
  · exact False.elim w
/-! ### for -/
/-- a turn, and on -/
def loopS : RS → (Env → RS) → RS
  | .nx ε, k => k ε
  | .ct ε, k => k ε
  | .bk ε, _ => .nx ε
  | .rt d, _ => .rt d
  | .ex c fs, _ => .ex c fs
  | .no, _ => .no
  | .any P n f, k => .any P n fun d => loopS (f d) k
theorem RWS.loop {K : PySem.W.Frag} {mg : Str → Option Value} {us hs : List Addr} {H0 H : Hp} {k : Env → RS} {D D' : Ends} (hb : D'.bk = D.nx) (hr : D'.rt = D.rt)
    (h1 : ∀ n1 ε hs' σ' H', Rs K E.u n1 hs' H' σ' ε → Fr E.u us H0 hs' H' σ' ε → Stp hs H hs' H' → RWS K mg E us H0 hs' H' n1 (k ε) D → D'.nx σ' H' ∧ D'.ct σ' H') : ∀ {r : RS} {n : Nat}, RWS K mg E us H0 hs H n (loopS r k) D → RWS K mg E us H0 hs H n r D'
  | .nx ε, n, w => fun hs' σ' H' S F s' => (h1 n ε hs' σ' H' S F s' (RWS.mono s' (show RWS K mg E us H0 hs H n (k ε) D from w))).1
  | .ct ε, n, w => fun hs' σ' H' S F s' => (h1 n ε hs' σ' H' S F s' (RWS.mono s' (show RWS K mg E us H0 hs H n (k ε) D from w))).2
  | .bk ε, n, w => fun hs' σ' H' S F s' => by rw [hb]; exact w hs' σ' H' S F s'
  | .rt d, n, w => fun v H' s u r => by rw [hr]; exact w v H' s u r
  | .ex c fs, n, w => w
  | .no, n, w => w
  | .any P c f, n, w => ⟨w.1, fun d p => RWS.loop hb hr h1 (r := f d) (w.2 d p)⟩
def forS (g : D → Env → R Env) (b : Env → RS) : List D → Env → RS
  | [], ε => .nx ε
  | d :: ds, ε => liftS (g d ε) fun ε1 => loopS (b ε1) fun ε2 => forS g b ds ε2
theorem s_for {tg iter : Expr} {mi : Env → R (List D)} {g : D → Env → R Env} {sl : List Nat} (hp : PassesOwn (model X.prog X.w) X.A X.env X.xe) (hc : X.calm = true) (hi : PI X tg iter (tIt X.K X.mg E mi)) (hg : PG X tg (gEv X.K X.mg E g sl)) (hb : PSs X body (tEx X.K X.mg E ms))
    (h : PS X (.For tg iter body [] pos) (tFor (tIt X.K X.mg E mi) (gEv X.K X.mg E g sl) (tEx X.K X.mg E ms))) : PS X (.For tg iter body [] pos) (tEx X.K X.mg E fun ε => liftS (mi ε) fun ds => forS g ms ds ε) := h.of fun D σ H ⟨us, H0, hs, ε, n, S, F, w⟩ => ⟨hs, ε, n, S, (RWS.lift F S.uh w).imp fun ds n1 H1 s1 u1 w1 J hJ => by
  obtain ⟨G, Y, wk, hG, hY⟩ := hJ
  refine for_it wk (fun i σ' H' => ∃ ks ε' n', Rs X.K E.u n' ks H' σ' ε' ∧ Fr E.u us H0 ks H' σ' ε' ∧ Stp hs H1 ks H' ∧ RWS X.K X.mg E us H0 ks H' n' (forS g ms (ds.drop i) ε') D) ⟨hs, ε, n1, S.same s1 u1, F.same s1, Stp.rfl, by rw [List.drop_zero]; exact w1⟩ (fun i σ' H' _ ⟨ks, ε', _, _, _, st, _⟩ => hG H' st.kp) (fun i x σ' H' H2 hi ⟨ks, ε', n', S', F', st, w'⟩ y => ?_) fun σ' H' ⟨ks, ε', n', S', F', st, w'⟩ => ?_
  · obtain ⟨s2, hk⟩ := hY i H' x H2 hi st.kp y
    have hd : ds[i]? = some ds[i] := List.getElem?_eq_getElem hi
    have rx := hk ks S'.ain st.sub _ hd
    rw [List.drop_eq_getElem_cons hi, forS] at w'
    have sm2 : Sm E.u H' H2 := .of s2
    have st2 : Stp ks H' ks H2 := Stp.of sm2 S'.uh
    have S2 := S'.same sm2 (S'.ur.same s2)
    have F2 := F'.same sm2
    refine ⟨ks, ε', n', ds[i], S2, rx, (RWS.lift F2 S'.uh (RWS.mono st2 w')).imp fun ε1 n3 H3 s3 u3 w3 σ3 S3 _ o3 => ?_⟩
    have F3 : Fr E.u us H0 ks H3 σ3 ε1 := gfr F2 s3 o3
    have st3 : Stp ks H' ks H3 := st2.trans (Stp.of s3 S'.uh)
    refine ⟨us, H0, ks, ε1, n3, S3, F3, ?_⟩
    refine RWS.loop (D := D) (D' := ⟨_, _, _, _⟩) rfl rfl (fun n4 ε2 ls σ4 H4 S4 F4 st4 w4 => ?_) w3
    exact ⟨⟨ls, ε2, n4, S4, F4, (st.trans st3).trans st4, w4⟩, ⟨ls, ε2, n4, S4, F4, (st.trans st3).trans st4, w4⟩⟩
  · rw [List.drop_length] at w'
    exact w' ks σ' H' S' F' Stp.rfl⟩
/-! ### while -/
def whS (t : Env → R Bool) (b : Env → RS) : Nat → Env → RS
  | 0, _ => .no
  | n + 1, ε => liftS (t ε) fun c => if c = true then loopS (b ε) (whS t b n) else .nx ε
theorem s_while {c : Expr} {k : Nat} (h : PS X (.While c body [] pos) (tWhile (tEvT X.K X.mg E mb) (tEx X.K X.mg E ms))) : PS X (.While c body [] pos) (tEx X.K X.mg E (whS mb ms k)) := h.of fun D σ H ⟨us, H0, hs, ε, n, S, F, w⟩ => by
  refine ⟨fun k σ' H' => ∃ ks ε' n', Rs X.K E.u n' ks H' σ' ε' ∧ Fr E.u us H0 ks H' σ' ε' ∧ RWS X.K X.mg E us H0 ks H' n' (whS mb ms k ε') D, ⟨k, hs, ε, n, S, F, w⟩, fun k σ' H' ⟨ks, ε', n', S', F', w'⟩ => ?_⟩
  cases k with
  | zero => exact False.elim w'
  | succ k =>
    rw [whS] at w'
    refine ⟨ks, ε', n', S', (RWS.lift F' S'.uh w').imp fun t n1 H1 s1 u1 w1 => ?_⟩
    have S1 := S'.same s1 u1
    have F1 := F'.same s1
    cases t with
    | true =>
      have w1 : RWS X.K X.mg E us H0 ks H1 n1 (loopS (ms ε') (whS mb ms k)) D := w1
      refine (if_pos (c := true = true) rfl).mpr ⟨fun σ2 H2 => ∃ ls ε2 n2, Rs X.K E.u n2 ls H2 σ2 ε2 ∧ Fr E.u us H0 ls H2 σ2 ε2 ∧ RWS X.K X.mg E us H0 ls H2 n2 (whS mb ms k ε2) D, fun σ2 H2 z => ⟨k, Nat.lt_succ_self _, z⟩, us, H0, ks, ε', n1, S1, F1, ?_⟩
      refine RWS.loop (D := D) (D' := ⟨_, _, _, _⟩) rfl rfl (fun n4 ε2 ls σ4 H4 S4 F4 st4 w4 => ?_) w1
      exact ⟨⟨ls, ε2, n4, S4, F4, w4⟩, ⟨ls, ε2, n4, S4, F4, w4⟩⟩
    | false => exact (if_neg (c := false = true) (fun z => nomatch z)).mpr (w1 ks σ' H1 S1 F1 Stp.rfl)
/-! ### giving what slots hold to all -/
def frzs : List Nat → Env → Env
  | [], ε => ε
  | i :: is, ε => frzs is (frz1 ε i)
theorem frz1_old {ε : Env} {i j : Nat} {d : D} (h : (frz1 ε i)[j]? = some (some (true, d))) : ε[j]? = some (some (true, d)) := by
  unfold frz1 at h
  split at h
  · rcases get_set h with ⟨_, z, _⟩ | ⟨_, h⟩
    · cases z
    · exact h
  · exact h
theorem Fr.frz {us : List Addr} {H0 H : Hp} {σ : L2.St} : ∀ {is : List Nat} {hs : List Addr} {ε : Env} {n : Nat}, Rs X.K E.u n hs H σ ε → Fr E.u us H0 hs H σ ε → ∃ ks, Rs X.K E.u n ks H σ (frzs is ε) ∧ Fr E.u us H0 ks H σ (frzs is ε) ∧ Stp hs H ks H
  | [], hs, ε, n, S, F => ⟨hs, S, F, Stp.rfl⟩
  | i :: is, hs, ε, n, S, F => by
    obtain ⟨ks, h1, h2, h3, h4⟩ := S.frz1 us (fun j d a q1 q2 m => (F.ui a m).1 (F.nw j d a q1 q2)) F.usub i
    have F1 : Fr E.u us H0 ks H σ (frz1 ε i) := ⟨F.sm, h1, F.ui, fun j d a q1 q2 => F.nw j d a (frz1_old q1) q2⟩
    obtain ⟨ls, g1, g2, g3⟩ := Fr.frz h3 F1
    exact ⟨ls, g1, g2, Stp.trans ⟨⟨Same.refl _, fun _ n => n, fun _ n => n⟩, fun a m => .inl (h2 a m)⟩ g3⟩
theorem s_frz {is : List Nat} (h : PS X st (tEx X.K X.mg E ms)) : PS X st (tEx X.K X.mg E fun ε => ms (frzs is ε)) := h.of fun D σ H ⟨us, H0, hs, ε, n, S, F, w⟩ => by
  obtain ⟨ks, S', F', st⟩ := Fr.frz (is := is) S F
  exact ⟨us, H0, ks, _, n, S', F', RWS.mono st w⟩
end
end Fx

/-! the evaluator of statements -/
namespace Fx
open PySem PySem.Spec PyProof.Rows L2
/-! ### names whose objects may be kept -/
def pkN (s : Expr → List Str) : Expr → List Str
  | .Name _ _ => []
  | e => s e
def snE : Nat → Expr → List Str
  | 0, _ => []
  | n + 1, e => match e with
    | .Name x _ => [x]
    | .Tuple es _ _ => (es.map (snE n)).flatten
    | .List es _ => (es.map (snE n)).flatten
    | .Starred a _ => pkN (snE n) a
    | .Call (.Name f _) es _ _ => if (bltT f).isSome then (es.map (pkN (snE n))).flatten else (es.map (snE n)).flatten
    | .Call (.Attribute o _ _) es _ _ => pkN (snE n) o ++ (es.map (snE n)).flatten
    | .BinOp a _ b _ => pkN (snE n) a ++ pkN (snE n) b
    | .Compare a _ bs _ => pkN (snE n) a ++ (bs.map (pkN (snE n))).flatten
    | .BoolOp _ es _ => (es.map (snE n)).flatten
    | .UnaryOp _ a _ => pkN (snE n) a
    | .IfExp c a b _ => pkN (snE n) c ++ snE n a ++ snE n b
    | .Subscript a b _ => pkN (snE n) a ++ pkN (snE n) b
    | .ListComp elt gens _ _ => snE n elt ++ (gens.map fun g => snE n g.iter ++ (g.ifs.map (pkN (snE n))).flatten).flatten
    | .DictComp k v gens _ _ => snE n k ++ snE n v ++ (gens.map fun g => snE n g.iter ++ (g.ifs.map (pkN (snE n))).flatten).flatten
    | _ => []
def slotsOf (N M : List Str) (xs : List Str) : List Nat := (xs.filter fun x => M.contains x).filterMap (ixN N)
def retS (N M : List Str) (e : Expr) : List Nat := if M.isEmpty then [] else slotsOf N M (snE 30 e)
def retP (N M : List Str) (e : Expr) : List Nat := if M.isEmpty then [] else slotsOf N M (pkN (snE 30) e)
/-! ### names whose objects are written -/
def mutS : Nat → Stmt → List Str
  | 0, _ => []
  | n + 1, st => match st with
    | .Expr (.Call (.Attribute (.Name x _) _ _) _ _ _) _ => [x]
    | .Assign [.Subscript (.Name x _) _ _] _ _ => [x]
    | .If _ a b _ => (a.map (mutS n)).flatten ++ (b.map (mutS n)).flatten
    | .While _ a b _ => (a.map (mutS n)).flatten ++ (b.map (mutS n)).flatten
    | .For _ _ a b _ => (a.map (mutS n)).flatten ++ (b.map (mutS n)).flatten
    | _ => []
def fresh : Expr → Bool
  | .List _ _ => true
  | .ListComp _ _ _ _ => true
  | .DictComp _ _ _ _ _ => true
  | .Dict [] [] _ => true
  | .BinOp _ .Add _ _ => true
  | _ => false
def isComp : Expr → Bool
  | .ListComp _ _ _ _ => true
  | .SetComp _ _ _ _ => true
  | .DictComp _ _ _ _ _ => true
  | _ => false
def exs (s : Stmt → Env → RS) : List Stmt → Env → RS
  | [] => fun ε => .nx ε
  | st :: rest => fun ε => seqS (s st ε) (exs s rest)
def foldAll (vs : List Expr) : Bool := vs.all (foldedForSure 8)
def setS (N M : List Str) (v : Expr → Env → R D) (x : Str) (e : Expr) : Env → RS := match ixN N x with
  | some i => if (M.contains x && fresh e) = true then fun ε => liftS (v e (frzs (retS N M e) ε)) (ownD (frzs (retS N M e) ε) i) else fun ε => liftS (v e (frzs (retS N M e) ε)) fun d => .nx ((frzs (retS N M e) ε).set i (some (false, d)))
  | none => fun _ => .no
/-- x.f(a) -/
def mcall : Expr → Option (Str × Str × Expr)
  | .Call f es ks _ => match f, es, ks with
    | .Attribute o f _, [a], [] => match o with
      | .Name x _ => some (x, f, a)
      | _ => none
    | _, _, _ => none
  | _ => none
def isDoc : Expr → Bool
  | .Constant c _ _ => match c with
    | .str _ => true
    | _ => false
  | _ => false
def exprS (N M : List Str) (v : Expr → Env → R D) (e : Expr) : Env → RS := match mcall e with
  | some (x, f, a) => match ixN N x with
    | some i =>
      if f = "append" then fun ε => ownL (frzs (retS N M a) ε) i fun ds => liftS (v a (frzs (retS N M a) ε)) fun d => if ds.length < cap then .nx ((frzs (retS N M a) ε).set i (some (true, .lst (ds ++ [d])))) else .no
      else if f = "extend" then fun ε => ownL (frzs (retS N M a) ε) i fun ds => liftS (v a (frzs (retS N M a) ε)) fun d => match d with | .lst es => if ds.length + es.length ≤ cap then .nx ((frzs (retS N M a) ε).set i (some (true, .lst (ds ++ es)))) else .no | _ => .no
      else fun _ => .no
    | none => fun _ => .no
  | none => if isDoc e = true then fun ε => .nx ε else fun ε => liftS (v e (frzs (retS N M e) ε)) fun _ => .nx (frzs (retS N M e) ε)
def subS (N M : List Str) (v : Expr → Env → R D) (o b e : Expr) : Env → RS := match o with
  | .Name x _ => match ixN N x with
    | some i => fun ε => liftS (v e (frzs (retS N M e) ε)) fun d => hasO (frzs (retS N M e) ε) i (liftS (v b (frzs (retS N M e) ε)) fun y => putI (frzs (retS N M e) ε) i d y)
    | none => fun _ => .no
  | _ => fun _ => .no
def parS (N M : List Str) (v : Expr → Env → R D) (ts vs : List Expr) (w : Expr) : Env → RS := match ts, vs with
  | [t1, t2], [a, b] => match t1, t2 with
    | .Name x _, .Name y _ => match ixN N x, ixN N y with
      | some i, some j => fun ε => liftS (evA N v [a, b] (frzs (retS N M w) ε)) (par2 i j (frzs (retS N M w) ε))
      | _, _ => fun _ => .no
    | _, _ => fun _ => .no
  | [t1, t2, t3], [a, b, c] => match t1, t2, t3 with
    | .Name x _, .Name y _, .Name z _ => match ixN N x, ixN N y, ixN N z with
      | some i, some j, some l => fun ε => liftS (evA N v [a, b, c] (frzs (retS N M w) ε)) (par3 i j l (frzs (retS N M w) ε))
      | _, _, _ => fun _ => .no
    | _, _, _ => fun _ => .no
  | _, _ => fun _ => .no
def tgtS (N M : List Str) (v : Expr → Env → R D) (t e : Expr) : Env → RS := fun ε => liftS (v e (frzs (retS N M e) ε)) fun d => liftS (evG N 3 t d (frzs (retS N M e) ε)) .nx
def locB (sc : Scope) : Expr → Bool
  | .Name x _ => match sc.names.lookup x with
    | some .local => true
    | _ => false
  | _ => false
def isTupE : Expr → Option (List Expr)
  | .Tuple vs _ _ => some vs
  | _ => none
def tupS (sc : Scope) (N M : List Str) (v : Expr → Env → R D) (t : Expr) (ts : List Expr) (e : Expr) : Env → RS := match isTupE e with
  | some vs => if foldAll vs = true then tgtS N M v t e else if ts.all (locB sc) = true then parS N M v ts vs e else tgtS N M v t e
  | none => tgtS N M v t e
def asgS (sc : Scope) (N M : List Str) (v : Expr → Env → R D) (t e : Expr) : Env → RS := match t with
  | .Name x _ => setS N M v x e
  | .Subscript o b _ => subS N M v o b e
  | .Tuple ts _ _ => tupS sc N M v t ts e
  | _ => fun _ => .no
def stepS (Φ : Fns) (sc : Scope) (N M : List Str) (r : Ev) (s : Stmt → Env → RS) (st : Stmt) : Env → RS := match st with
  | .Expr e _ => exprS N M r.v e
  | .Assign ts e _ => match ts with
    | [t] => asgS sc N M r.v t e
    | _ => fun _ => .no
  | .AugAssign t op e _ => match t with
    | .Name x _ => match ixN N x with
      | some i => augS op (r.v e) i
      | none => fun _ => .no
    | _ => fun _ => .no
  | .If c a b _ => fun ε => liftS (r.t c (frzs (retP N M c) ε)) fun t => if t = true then exs s a (frzs (retP N M c) ε) else exs s b (frzs (retP N M c) ε)
  | .While c b o _ => match o with
    | [] => whS (r.t c) (exs s b) 1000
    | _ => fun _ => .no
  | .For tg it b o _ => match o with
    | [] => fun ε => liftS (evI N r.v it (frzs (retS N M it) ε)) fun ds => forS (evG N 3 tg) (exs s b) ds (frzs (retS N M it) ε)
    | _ => fun _ => .no
  | .Return v _ => match v with
    | none => fun ε => .rt .non
    | some e => fun ε => liftS (r.v e (frzs (retS N M e) ε)) .rt
  | .Pass _ => fun ε => .nx ε
  | .Break _ => fun ε => .bk ε
  | .Continue _ => fun ε => .ct ε
  | _ => fun _ => .no
def es (Φ : Fns) (sc : Scope) (N M : List Str) (f : Nat) : Nat → Stmt → Env → RS
  | 0 => fun _ _ => .no
  | n + 1 => stepS Φ sc N M (ev Φ N f) (es Φ sc N M f n)
/-! ### what is checked -/
def sameLine2 : List Expr → Bool
  | t :: ts => ts.all fun u => u.pos.line == t.pos.line
  | [] => false
def namesOf : List Expr → List Str
  | .Name x _ :: es => x :: namesOf es
  | _ :: es => namesOf es
  | [] => []
def tr (_ : Str) : Bool := true
def mcallP : Expr → Bool
  | .Call f es ks p => match f, es, ks with
    | .Attribute o _ a, [e], [] => a.endLine == p.line
    | _, _, _ => false
  | _ => false
def cExpr (N : List Str) (v : Expr → Bool) (sc : Scope) (e : Expr) : Bool := match mcall e with
  | some (x, f, a) => nmB N sc x && v a && notStar a && mcallP e
  | none => isDoc e || (v e && !isComp e)
def cSub (N : List Str) (v : Expr → Bool) (sc : Scope) (o b e : Expr) : Bool := match o with
  | .Name x _ => nmB N sc x && v b && v e && notSlice b
  | _ => true
def cTup (N : List Str) (c : Scope → (Str → Bool) → Expr → Bool) (sc : Scope) (t : Expr) (ts : List Expr) (e : Expr) : Bool := match isTupE e with
  | some vs => if foldAll vs = true then ckG N sc tr 3 t && c sc tr e
    else if ts.all (locB sc) = false then ckG N sc tr 3 t && c sc tr e
    else ckA N c sc tr vs && vs.all notStar && ts.all (locB sc) && sameLine2 ts && decide ((namesOf ts).Nodup) && !(vs.all (constantsAlone 8))
  | none => ckG N sc tr 3 t && c sc tr e && !isComp e
def cAsg (N : List Str) (c : Scope → (Str → Bool) → Expr → Bool) (sc : Scope) (t e : Expr) : Bool := match t with
  | .Name x p => ckG N sc tr 1 (.Name x p) && c sc tr e
  | .Subscript o b _ => cSub N (c sc tr) sc o b e
  | .Tuple ts _ _ => cTup N c sc t ts e
  | _ => true
def stepCS (Φ : Fns) (N : List Str) (c : Ck) (sc : Scope) (s : Stmt → Bool) (st : Stmt) : Bool := match st with
  | .Expr e _ => cExpr N (c.v sc tr) sc e
  | .Assign ts e _ => match ts with
    | [t] => cAsg N c.v sc t e
    | _ => true
  | .AugAssign t _ e _ => match t with
    | .Name x p => ckG N sc tr 1 (.Name x p) && c.v sc tr e
    | _ => true
  | .If t a b _ => c.t sc tr t && a.all s && b.all s
  | .While t b _ _ => c.t sc tr t && b.all s
  | .For tg it b _ _ => ckI N c.v sc tr tg it && notSet it && ckG N sc tr 3 tg && b.all s
  | .Return v _ => match v with
    | none => true
    | some e => c.v sc tr e
  | _ => true
def cs (Φ : Fns) (N : List Str) (sc : Scope) (f : Nat) : Nat → Stmt → Bool
  | 0 => fun _ => false
  | n + 1 => stepCS Φ N (ck Φ N f) sc (cs Φ N sc f n)
/-! ### soundness -/
structure GoodS (Φ : Fns) (CX : CXT) (k : Nat) (N : List Str) (sc : Scope) (c : Stmt → Bool) (s : Stmt → Env → RS) : Prop where
  s : ∀ (X : Cx) (E : XU) (st : Stmt), Cn Φ CX k N X E → X.env.scope = sc → (∀ x, X.fn x = true) → PassesOwn (model X.prog X.w) X.A X.env X.xe → c st = true → PS X st (tEx X.K X.mg E (s st))
section
variable {Φ : Fns} {CX : CXT} {k : Nat} {N M : List Str} {c : Ck} {r : Ev} {X : Cx} {E : XU} {cS : Stmt → Bool} {s : Stmt → Env → RS} {e : Expr} {m : Env → R D} {pos : Pos}
theorem notC {env : PySem.Env} {tg : Option Expr} {l : Nat} (h : isComp e = false) : swapsWith e tg l env = pure false := by
  cases e <;> first | rfl | cases h
theorem g_ss (G : GoodS Φ CX k N X.env.scope cS s) (C : Cn Φ CX k N X E) (hf : ∀ x, X.fn x = true) (hp : PassesOwn (model X.prog X.w) X.A X.env X.xe) : ∀ {sts : List Stmt}, sts.all cS = true → PSs X sts (tEx X.K X.mg E (exs s sts))
  | [], _ => s_nil
  | st :: rest, h => by
    rw [List.all_cons, Bool.and_eq_true] at h
    exact s_cons (G.s X E st C rfl hf hp h.1) (g_ss G C hf hp h.2)
theorem nm_slot {x : Str} {i : Nat} {p : Pos} {fn : Str → Bool} (C : Cn Φ CX k N X E) (hf : ∀ x, X.fn x = true) (hi : ixN N x = some i) (h : ckG N X.env.scope fn 1 (.Name x p) = true) : X.N[i]? = some x ∧ Loc X.env.scope x := by
  refine ⟨by rw [C.eN]; exact ixN_get hi, ?_⟩
  rw [ckG] at h
  split at h <;> first | exact .inl ‹_› | exact .inr ‹_› | cases h
/-- name = e -/
theorem a_set {te : TE} {x : Str} {i : Nat} {px : Pos} (C : Cn Φ CX k N X E) (hf : ∀ x, X.fn x = true) (hi : X.N[i]? = some x) (hx : Loc X.env.scope x) (he : PE X e te) (h : isComp e = false) : PS X (.Assign [.Name x px] e pos) (tAsg te (gName i)) :=
  ps_set C.nd hi hx he (notC h) (.inl (hf x))
end
theorem sw_none {ts vs : List Expr} {k k2 : Nat} {p p2 : Pos} {env : PySem.Env} (h : foldAll vs = true) : swappedStores [.Tuple ts k p] (.Tuple vs k2 p2) env = pure none := by
  unfold swappedStores
  have h : vs.all (foldedForSure 8) = true := h
  dsimp only
  split
  · rfl
  split
  · rfl
  split
  · rfl
  · rfl
theorem sw_cell {ts vs : List Expr} {k k2 : Nat} {p p2 : Pos} {env : PySem.Env} (h : ts.all (locB env.scope) = false) : swappedStores [.Tuple ts k p] (.Tuple vs k2 p2) env = pure none := by
  unfold swappedStores
  dsimp only
  split
  · rfl
  split
  · rfl
  split
  · rfl
  rename_i h3
  exfalso
  rw [Bool.or_eq_true, not_or] at h3
  have h4 := h3.1
  simp at h4
  rw [Bool.eq_false_iff] at h
  refine h (List.all_eq_true.mpr fun t m => ?_)
  have z := h4 t m
  cases t with
  | Name x px =>
    simp at z
    have c1 : env.scope.names.lookup x = some .local := z.1
    unfold locB
    dsimp only
    rw [c1]
  | _ => exact absurd rfl z
theorem sw_oth {ts : List Expr} {e : Expr} {k : Nat} {p : Pos} {env : PySem.Env} (h : ∀ vs k2 p2, e ≠ .Tuple vs k2 p2) : swappedStores [.Tuple ts k p] e env = pure none := by
  cases e <;> first | rfl | exact absurd rfl (h _ _ _)
def starB : Expr → Bool
  | .Starred _ _ => true
  | _ => false
theorem starF {a : Expr} (h : notStar a = true) : starB a = false := by
  cases a <;> first | rfl | exact absurd h Bool.false_ne_true
theorem sw_par2 {x y : Str} {px py p p2 : Pos} {k k2 : Nat} {a b : Expr} {env : PySem.Env} (hk : env.scope.kind = .function) (hx : env.kindOf x = some .local) (hy : env.kindOf y = some .local) (hl : (py.line == px.line) = true) (hxy : x ≠ y)
    (ha : notStar a = true) (hb : notStar b = true) (h1 : foldAll [a, b] = false) (h2 : [a, b].all (constantsAlone 8) = false) :
    swappedStores [.Tuple [.Name x px, .Name y py] k p] (.Tuple [a, b] k2 p2) env = pure (some [x, y]) := by
  have e1 : env.blockKind = .function := by
    unfold Env.blockKind
    rw [hk]
    rfl
  have h1 : [a, b].all (foldedForSure 8) = false := h1
  have ed : ([x, y] : List Str).eraseDups = [x, y] := by
    have : (y == x) = false := by simpa using fun z : y = x => hxy z.symm
    simp [List.eraseDups_cons, this]
  unfold swappedStores
  simp only [e1, List.any_cons, List.any_nil, starF ha, starF hb, h1, h2, List.filterMap_cons, List.filterMap_nil, hx, hy, hl, List.head?_cons, Option.map_some, Option.getD_some, Expr.pos, BEq.rfl, Bool.and_self, if_true, List.length_cons, List.length_nil, ed]
  refine (if_neg (by decide)).trans ((if_neg (c := (starB a || (starB b || false)) = true) (by rw [starF ha, starF hb]; decide)).trans ?_)
  rfl
theorem sw_par3 {x y z : Str} {px py pz p p2 : Pos} {k k2 : Nat} {a b c : Expr} {env : PySem.Env} (hk : env.scope.kind = .function) (hx : env.kindOf x = some .local) (hy : env.kindOf y = some .local) (hz : env.kindOf z = some .local) (hl : (py.line == px.line) = true) (hl2 : (pz.line == px.line) = true) (hxy : x ≠ y) (hxz : x ≠ z) (hyz : y ≠ z)
    (ha : notStar a = true) (hb : notStar b = true) (hc : notStar c = true) (h1 : foldAll [a, b, c] = false) (h2 : [a, b, c].all (constantsAlone 8) = false) :
    swappedStores [.Tuple [.Name x px, .Name y py, .Name z pz] k p] (.Tuple [a, b, c] k2 p2) env = pure (some [x, y, z]) := by
  have e1 : env.blockKind = .function := by
    unfold Env.blockKind
    rw [hk]
    rfl
  have h1 : [a, b, c].all (foldedForSure 8) = false := h1
  have ed : ([x, y, z] : List Str).eraseDups = [x, y, z] := by
    have h1 : (y == x) = false := by simpa using fun z : y = x => hxy z.symm
    have h2 : (z == x) = false := by simpa using fun q : z = x => hxz q.symm
    have h3 : (z == y) = false := by simpa using fun q : z = y => hyz q.symm
    simp [List.eraseDups_cons, h1, h2, h3]
  unfold swappedStores
  simp only [e1, List.any_cons, List.any_nil, starF ha, starF hb, starF hc, h1, h2, List.filterMap_cons, List.filterMap_nil, hx, hy, hz, hl, hl2, List.head?_cons, Option.map_some, Option.getD_some, Expr.pos, BEq.rfl, Bool.and_self, if_true, List.length_cons, List.length_nil, ed]
  refine (if_neg (by decide)).trans ((if_neg (c := (starB a || (starB b || (starB c || false))) = true) (by rw [starF ha, starF hb, starF hc]; decide)).trans ?_)
  rfl

section
variable {Φ : Fns} {CX : CXT} {k : Nat} {N M : List Str} {c : Ck} {r : Ev} {X : Cx} {E : XU} {cS : Stmt → Bool} {s : Stmt → Env → RS} {e : Expr} {m : Env → R D} {pos : Pos}
abbrev stC (Φ : Fns) (N : List Str) (c : Ck) : Ck := ⟨stepCV Φ N c, stepCT N c⟩
abbrev stV (Φ : Fns) (N : List Str) (r : Ev) : Ev := ⟨stepV Φ N r, stepT N r⟩
theorem good1 (G : Good Φ CX k N c r) : Good Φ CX k N (stC Φ N c) (stV Φ N r) := ⟨fun _ _ _ _ C hf h => g_V G C hf h, fun _ _ _ _ C hf h => g_T G C hf h⟩
/-- name = [..] -/
theorem a_comp {x : Str} {i : Nat} {px p : Pos} {elt tg iter : Expr} {ifs : List Expr} {scope : Scope} {fn : Str → Bool} (G : Good Φ CX k N c r) (C : Cn Φ CX k N X E) (hf : ∀ x, X.fn x = true) (hi : X.N[i]? = some x) (hx : Loc X.env.scope x) (h : stepCV Φ N c X.env.scope fn (.ListComp elt [⟨tg, iter, ifs, 0⟩] scope p) = true) :
    PS X (.Assign [.Name x px] (.ListComp elt [⟨tg, iter, ifs, 0⟩] scope p) pos) (tAsg (tEvF X.K X.mg E (stepV Φ N r (.ListComp elt [⟨tg, iter, ifs, 0⟩] scope p))) (gName i)) := by
  have h : (ckI N c.v X.env.scope fn tg iter && notSet iter && blkC N X.env.scope scope (ownOf N scope) && ((tgS N 3 tg).all fun i => ((ownOf N scope).map (·.2)).contains i)
      && ckG N (relS scope X.env.scope) (fun x => scope.names.lookup x == some .cell) 3 tg && (ifs.all (c.t (relS scope X.env.scope) (fun x => scope.names.lookup x == some .cell))) && c.v (relS scope X.env.scope) (fun x => scope.names.lookup x == some .cell) elt) = true := h
  rw [Bool.and_eq_true, Bool.and_eq_true, Bool.and_eq_true, Bool.and_eq_true, Bool.and_eq_true, Bool.and_eq_true] at h
  obtain ⟨⟨⟨⟨⟨⟨h1, h2⟩, h3⟩, h4⟩, h5⟩, h6⟩, h7⟩ := h
  have hf0 : ∀ x, fn x = true → X.fn x = true := fun x _ => hf x
  have hf' : ∀ (s : Shared) (H : Hp) (env : PySem.Env) (fp : List Addr) (x : Str), (scope.names.lookup x == some .cell) = true → (X.blk s H scope env fp).fn x = true := fun _ _ _ _ _ z => z
  have pI := g_I (E := E) G C hf0 h1
  have bo : BlkOk X.N X.env.scope scope (ownOf N scope) := by rw [C.eN]; exact blkOk_by h3
  have sl : ∀ i ∈ tgS N 3 tg, i ∈ (ownOf N scope).map (·.2) := fun i m => List.contains_iff_mem.mp (List.all_eq_true.mp h4 i m)
  have pG := fun (s : Shared) (H : Hp) (A : Addr) (cl : List (Str × Addr)) (fp : List Addr) => g_G (C.blk s H scope (compEnvC scope cl A X.env) fp) (hf' s H _ fp) 3 tg h5
  have pT := fun (s : Shared) (H : Hp) (A : Addr) (cl : List (Str × Addr)) (fp : List Addr) => g_Ts G (C.blk s H scope (compEnvC scope cl A X.env) fp) (hf' s H _ fp) h6
  have pE := fun (s : Shared) (H : Hp) (A : Addr) (cl : List (Str × Addr)) (fp : List Addr) => G.v _ (Fx.E0 E) _ _ (C.blk s H scope (compEnvC scope cl A X.env) fp) (hf' s H _ fp) h7
  refine ⟨fun pins s σ H D I hw => ?_⟩
  have e0 : swapsWith (.ListComp elt [⟨tg, iter, ifs, 0⟩] scope p) (some (.Name x px)) pos.line X.env = pure (X.env.blockKind == .function && X.env.kindOf x == some .local && px.line == p.line && !(scope.names.any fun (n, k) => n == x && (k == .local || k == .cell))) := rfl
  cases q : (X.env.blockKind == .function && X.env.kindOf x == some .local && px.line == p.line && !(scope.names.any fun (n, k) => n == x && (k == .local || k == .cell))) with
  | true =>
    rw [q] at e0
    rw [Bool.and_eq_true, Bool.and_eq_true, Bool.and_eq_true] at q
    have hl : X.env.kindOf x = some .local := by simpa using q.1.1.2
    exact (ps_setLc C.calm C.nd hi hl e0 pI bo pG pT pE (notFold h2)).run pins s σ H D I (lc_weak sl σ H _ hw)
  | false =>
    rw [q] at e0
    exact (ps_set C.nd hi hx (w_lc C.calm C.nd pI bo sl pG pT pE (notFold h2)) e0 (.inl (hf x))).run pins s σ H D I hw
/-- name = {..} -/
theorem a_compD {x : Str} {i : Nat} {px p : Pos} {kx vx tg iter : Expr} {ifs : List Expr} {scope : Scope} {fn : Str → Bool} (G : Good Φ CX k N c r) (C : Cn Φ CX k N X E) (hf : ∀ x, X.fn x = true) (hi : X.N[i]? = some x) (hx : Loc X.env.scope x) (h : stepCV Φ N c X.env.scope fn (.DictComp kx vx [⟨tg, iter, ifs, 0⟩] scope p) = true) :
    PS X (.Assign [.Name x px] (.DictComp kx vx [⟨tg, iter, ifs, 0⟩] scope p) pos) (tAsg (tEvF X.K X.mg E (stepV Φ N r (.DictComp kx vx [⟨tg, iter, ifs, 0⟩] scope p))) (gName i)) := by
  have h : (ckI N c.v X.env.scope fn tg iter && notSet iter && blkC N X.env.scope scope (ownOf N scope) && ((tgS N 3 tg).all fun i => ((ownOf N scope).map (·.2)).contains i)
      && ckG N (relS scope X.env.scope) (fun x => scope.names.lookup x == some .cell) 3 tg && (ifs.all (c.t (relS scope X.env.scope) (fun x => scope.names.lookup x == some .cell))) && c.v (relS scope X.env.scope) (fun x => scope.names.lookup x == some .cell) kx && c.v (relS scope X.env.scope) (fun x => scope.names.lookup x == some .cell) vx) = true := h
  rw [Bool.and_eq_true, Bool.and_eq_true, Bool.and_eq_true, Bool.and_eq_true, Bool.and_eq_true, Bool.and_eq_true, Bool.and_eq_true] at h
  obtain ⟨⟨⟨⟨⟨⟨⟨h1, h2⟩, h3⟩, h4⟩, h5⟩, h6⟩, h7⟩, h8⟩ := h
  have hf0 : ∀ x, fn x = true → X.fn x = true := fun x _ => hf x
  have hf' : ∀ (s : Shared) (H : Hp) (env : PySem.Env) (fp : List Addr) (x : Str), (scope.names.lookup x == some .cell) = true → (X.blk s H scope env fp).fn x = true := fun _ _ _ _ _ z => z
  have pI := g_I (E := E) G C hf0 h1
  have bo : BlkOk X.N X.env.scope scope (ownOf N scope) := by rw [C.eN]; exact blkOk_by h3
  have sl : ∀ i ∈ tgS N 3 tg, i ∈ (ownOf N scope).map (·.2) := fun i m => List.contains_iff_mem.mp (List.all_eq_true.mp h4 i m)
  have pG := fun (s : Shared) (H : Hp) (A : Addr) (cl : List (Str × Addr)) (fp : List Addr) => g_G (C.blk s H scope (compEnvC scope cl A X.env) fp) (hf' s H _ fp) 3 tg h5
  have pT := fun (s : Shared) (H : Hp) (A : Addr) (cl : List (Str × Addr)) (fp : List Addr) => g_Ts G (C.blk s H scope (compEnvC scope cl A X.env) fp) (hf' s H _ fp) h6
  have pE := fun (s : Shared) (H : Hp) (A : Addr) (cl : List (Str × Addr)) (fp : List Addr) => G.v _ (Fx.E0 E) _ _ (C.blk s H scope (compEnvC scope cl A X.env) fp) (hf' s H _ fp) h7
  have pV := fun (s : Shared) (H : Hp) (A : Addr) (cl : List (Str × Addr)) (fp : List Addr) => G.v _ (Fx.E0 E) _ _ (C.blk s H scope (compEnvC scope cl A X.env) fp) (hf' s H _ fp) h8
  refine ⟨fun pins s σ H D I hw => ?_⟩
  have e0 : swapsWith (.DictComp kx vx [⟨tg, iter, ifs, 0⟩] scope p) (some (.Name x px)) pos.line X.env = pure (X.env.blockKind == .function && X.env.kindOf x == some .local && px.line == p.line && !(scope.names.any fun (n, k) => n == x && (k == .local || k == .cell))) := rfl
  cases q : (X.env.blockKind == .function && X.env.kindOf x == some .local && px.line == p.line && !(scope.names.any fun (n, k) => n == x && (k == .local || k == .cell))) with
  | true =>
    rw [q] at e0
    rw [Bool.and_eq_true, Bool.and_eq_true, Bool.and_eq_true] at q
    have hl : X.env.kindOf x = some .local := by simpa using q.1.1.2
    exact (ps_setDc C.calm C.nd hi hl e0 pI bo pG pT pE pV (notFold h2)).run pins s σ H D I (dc_weak sl σ H _ hw)
  | false =>
    rw [q] at e0
    exact (ps_set C.nd hi hx (w_dc C.calm C.nd pI bo sl pG pT pE pV (notFold h2)) e0 (.inl (hf x))).run pins s σ H D I hw
/-- name = [.. for .. for ..] -/
theorem a_comp2 {x : Str} {i : Nat} {px p : Pos} {elt tg iter tg1 iter1 : Expr} {ifs ifs1 : List Expr} {scope : Scope} {fn : Str → Bool} (G : Good Φ CX k N c r) (C : Cn Φ CX k N X E) (hf : ∀ x, X.fn x = true) (hi : X.N[i]? = some x) (hx : Loc X.env.scope x) (h : stepCV Φ N c X.env.scope fn (.ListComp elt [⟨tg, iter, ifs, 0⟩, ⟨tg1, iter1, ifs1, 0⟩] scope p) = true) :
    PS X (.Assign [.Name x px] (.ListComp elt [⟨tg, iter, ifs, 0⟩, ⟨tg1, iter1, ifs1, 0⟩] scope p) pos) (tAsg (tEvF X.K X.mg E (stepV Φ N r (.ListComp elt [⟨tg, iter, ifs, 0⟩, ⟨tg1, iter1, ifs1, 0⟩] scope p))) (gName i)) := by
  have h : (ckI N c.v X.env.scope fn tg iter && notSet iter && blkC N X.env.scope scope (ownOf N scope) && ((tgS N 3 tg).all fun i => ((ownOf N scope).map (·.2)).contains i) && ((tgS N 3 tg1).all fun i => ((ownOf N scope).map (·.2)).contains i)
      && ckG N (relS scope X.env.scope) (fun x => scope.names.lookup x == some .cell) 3 tg && (ifs.all (c.t (relS scope X.env.scope) (fun x => scope.names.lookup x == some .cell))) && ckI N c.v (relS scope X.env.scope) (fun x => scope.names.lookup x == some .cell) tg1 iter1 && notSet iter1
      && ckG N (relS scope X.env.scope) (fun x => scope.names.lookup x == some .cell) 3 tg1 && (ifs1.all (c.t (relS scope X.env.scope) (fun x => scope.names.lookup x == some .cell))) && c.v (relS scope X.env.scope) (fun x => scope.names.lookup x == some .cell) elt) = true := h
  rw [Bool.and_eq_true, Bool.and_eq_true, Bool.and_eq_true, Bool.and_eq_true, Bool.and_eq_true, Bool.and_eq_true, Bool.and_eq_true, Bool.and_eq_true, Bool.and_eq_true, Bool.and_eq_true, Bool.and_eq_true] at h
  obtain ⟨⟨⟨⟨⟨⟨⟨⟨⟨⟨⟨h1, h2⟩, h3⟩, h4⟩, h4'⟩, h5⟩, h6⟩, h7⟩, h8⟩, h9⟩, h10⟩, h11⟩ := h
  have hf0 : ∀ x, fn x = true → X.fn x = true := fun x _ => hf x
  have hf' : ∀ (s : Shared) (H : Hp) (env : PySem.Env) (fp : List Addr) (x : Str), (scope.names.lookup x == some .cell) = true → (X.blk s H scope env fp).fn x = true := fun _ _ _ _ _ z => z
  have pI := g_I (E := E) G C hf0 h1
  have bo : BlkOk X.N X.env.scope scope (ownOf N scope) := by rw [C.eN]; exact blkOk_by h3
  have sl : ∀ i ∈ tgS N 3 tg, i ∈ (ownOf N scope).map (·.2) := fun i m => List.contains_iff_mem.mp (List.all_eq_true.mp h4 i m)
  have sl1 : ∀ i ∈ tgS N 3 tg1, i ∈ (ownOf N scope).map (·.2) := fun i m => List.contains_iff_mem.mp (List.all_eq_true.mp h4' i m)
  have pG := fun (s : Shared) (H : Hp) (A : Addr) (cl : List (Str × Addr)) (fp : List Addr) => g_G (C.blk s H scope (compEnvC scope cl A X.env) fp) (hf' s H _ fp) 3 tg h5
  have pT := fun (s : Shared) (H : Hp) (A : Addr) (cl : List (Str × Addr)) (fp : List Addr) => g_Ts G (C.blk s H scope (compEnvC scope cl A X.env) fp) (hf' s H _ fp) h6
  have pI1 := fun (s : Shared) (H : Hp) (A : Addr) (cl : List (Str × Addr)) (fp : List Addr) => g_I G (C.blk s H scope (compEnvC scope cl A X.env) fp) (hf' s H _ fp) h7
  have pG1 := fun (s : Shared) (H : Hp) (A : Addr) (cl : List (Str × Addr)) (fp : List Addr) => g_G (C.blk s H scope (compEnvC scope cl A X.env) fp) (hf' s H _ fp) 3 tg1 h9
  have pT1 := fun (s : Shared) (H : Hp) (A : Addr) (cl : List (Str × Addr)) (fp : List Addr) => g_Ts G (C.blk s H scope (compEnvC scope cl A X.env) fp) (hf' s H _ fp) h10
  have pE := fun (s : Shared) (H : Hp) (A : Addr) (cl : List (Str × Addr)) (fp : List Addr) => G.v _ (Fx.E0 E) _ _ (C.blk s H scope (compEnvC scope cl A X.env) fp) (hf' s H _ fp) h11
  refine ⟨fun pins s σ H D I hw => ?_⟩
  have e0 : swapsWith (.ListComp elt [⟨tg, iter, ifs, 0⟩, ⟨tg1, iter1, ifs1, 0⟩] scope p) (some (.Name x px)) pos.line X.env = pure (X.env.blockKind == .function && X.env.kindOf x == some .local && px.line == p.line && !(scope.names.any fun (n, k) => n == x && (k == .local || k == .cell))) := rfl
  cases q : (X.env.blockKind == .function && X.env.kindOf x == some .local && px.line == p.line && !(scope.names.any fun (n, k) => n == x && (k == .local || k == .cell))) with
  | true =>
    rw [q] at e0
    rw [Bool.and_eq_true, Bool.and_eq_true, Bool.and_eq_true] at q
    have hl : X.env.kindOf x = some .local := by simpa using q.1.1.2
    exact (ps_setLc2 C.calm C.nd hi hl e0 pI bo sl1 pG pT pI1 pG1 pT1 pE (notFold h2) fun _ => notFold h8).run pins s σ H D I (lc2_weak sl (fun i m => m) σ H _ hw)
  | false =>
    rw [q] at e0
    exact (ps_set C.nd hi hx (w_lc2 C.calm C.nd pI bo sl sl1 pG pT pI1 pG1 pT1 pE (notFold h2) fun _ => notFold h8) e0 (.inl (hf x))).run pins s σ H D I hw
theorem tasg_of {te te' : TE} {i : Nat} {st : Stmt} (h : PS X st (tAsg te (gName i))) (w : ∀ σ H Q, te' σ H Q → te σ H Q) : PS X st (tAsg te' (gName i)) := h.of fun D σ H z => w _ _ _ z
theorem f2v {K : PySem.W.Frag} {mg : Str → Option Value} {m : Env → R D} : ∀ σ H Q, tEv K mg E m σ H Q → tEvF K mg E m σ H Q := fun σ H Q ⟨hs, ε, n, S, w⟩ => ⟨hs, ε, n, S, w.imp fun d n1 H' s u1 q p n n' o => q _ (o.give (fun _ z => List.mem_cons_of_mem _ z) (S.ain.not n))⟩
theorem f2l {K : PySem.W.Frag} {mg : Str → Option Value} {m : Env → R D} : ∀ σ H Q, tEvL K mg E m σ H Q → tEvF K mg E m σ H Q := fun σ H Q ⟨hs, ε, n, S, w⟩ => ⟨hs, ε, n, S, w.imp fun d n1 H' s u1 q p n n' o => by
  cases d with
  | lst ds => exact q p n n' o
  | dic ds => exact q p n n' o
  | _ => exact False.elim q⟩
theorem comp_shape {elt : Expr} {gs : List Comprehension} {scope : Scope} {p : Pos} {sc : Scope} {fn : Str → Bool} (h : stepCV Φ N c sc fn (.ListComp elt gs scope p) = true) : (∃ tg iter ifs, gs = [⟨tg, iter, ifs, 0⟩]) ∨ ∃ tg iter ifs tg1 iter1 ifs1, gs = [⟨tg, iter, ifs, 0⟩, ⟨tg1, iter1, ifs1, 0⟩] := by
  unfold stepCV at h
  split at h <;> first | (rename_i q; cases q; first | exact .inl ⟨_, _, _, rfl⟩ | exact .inr ⟨_, _, _, _, _, _, rfl⟩) | cases h | skip
  all_goals first | exact .inl ⟨_, _, _, rfl⟩ | exact .inr ⟨_, _, _, _, _, _, rfl⟩ | (rename_i q; cases q)
theorem comp_shapeD {kx vx : Expr} {gs : List Comprehension} {scope : Scope} {p : Pos} {sc : Scope} {fn : Str → Bool} (h : stepCV Φ N c sc fn (.DictComp kx vx gs scope p) = true) : ∃ tg iter ifs, gs = [⟨tg, iter, ifs, 0⟩] := by
  unfold stepCV at h
  split at h <;> first | (rename_i q; cases q; exact ⟨_, _, _, rfl⟩) | cases h | skip
  all_goals first | exact ⟨_, _, _, rfl⟩ | (rename_i q; cases q)
end
end Fx

/-! the evaluator of statements is sound -/
namespace Fx
open PySem PySem.Spec PyProof.Rows L2
section
variable {Φ : Fns} {CX : CXT} {k : Nat} {N M : List Str} {c : Ck} {r : Ev} {X : Cx} {E : XU} {cS : Stmt → Bool} {s : Stmt → Env → RS} {e : Expr} {m : Env → R D} {pos : Pos}
/-- a sum of lists is a new list -/
theorem w_addL {m1 m2 : Env → R D} {a b : Expr} (ha : PE X a (tEvP X.K X.mg E m1)) (hb : PE X b (tEvP X.K X.mg E m2)) : PE X (.BinOp a .Add b pos) (tEvL X.K X.mg E fun ε => m1 ε >>= fun d => m2 ε >>= fun e => addD d e) :=
  (pe_op op_addD ha hb).of fun σ H Q ⟨hs, ε, n, S, w⟩ => ⟨hs, ε, n, S, (RWG.bind w).imp fun d n1 H1 s1 u1 w1 v rv => ⟨hs, ε, n1, S.same s1 u1, (RWG.bind w1).imp fun e n2 H2 s2 u2 w2 u ru => by
    have hd := ((S.same s1 u1).same s2 u2).hd
    have rv := rv.same s2 S.uh
    unfold addD at w2
    split at w2
    · exact False.elim (w2 H2 (Sm.refl H2) hd.ur)
    · obtain ⟨h, w2⟩ := RWG.ite w2
      obtain ⟨a, xs, e1, h1, r1⟩ := rv.lst
      obtain ⟨b, zs, e2, h2, r2⟩ := ru.lst
      refine .inl (.inr ⟨a, b, xs, zs, e1, e2, h1, h2, by rw [r1.len, r2.len]; exact cap_ok h, fun p np => ?_⟩)
      exact w2 _ (Sm.new np) (hd.ur.upd (hd.ur.there np)) p ((s1.trans s2).free np) (by rw [upd_same]; exact fun z => nomatch z) ⟨_, upd_same, (r2.app r1).same (hid_more (hid_same (same_new np)) np)⟩
    · obtain ⟨h, w2⟩ := RWG.ite w2
      exact False.elim (w2 H2 (Sm.refl H2) hd.ur)
    · obtain ⟨h, w2⟩ := RWG.ite w2
      exact False.elim (w2 H2 (Sm.refl H2) hd.ur)
    · exact False.elim w2⟩⟩
theorem g_set {x : Str} {px : Pos} (G : Good Φ CX k N c r) (C : Cn Φ CX k N X E) (hf : ∀ x, X.fn x = true) (h1 : ckG N X.env.scope tr 1 (.Name x px) = true) (h2 : stepCV Φ N c X.env.scope tr e = true) :
    PS X (.Assign [.Name x px] e pos) (tEx X.K X.mg E (setS N M (stepV Φ N r) x e)) := by
  have hf0 : ∀ x, tr x = true → X.fn x = true := fun x _ => hf x
  unfold setS
  cases q : ixN N x with
  | none => exact s_no
  | some i =>
    obtain ⟨a1, a2⟩ := nm_slot (p := px) C hf q h1
    dsimp only
    have hv : PS X (.Assign [.Name x px] e pos) (tAsg (tEv X.K X.mg E (stepV Φ N r e)) (gName i)) := by
      cases hcp : isComp e with
      | false => exact a_set C hf a1 a2 (g_V G C hf0 h2) hcp
      | true =>
        cases e with
        | ListComp elt gs scope p =>
          rcases comp_shape h2 with ⟨tg, iter, ifs, e1⟩ | ⟨tg, iter, ifs, tg1, iter1, ifs1, e1⟩
          · subst e1
            exact tasg_of (a_comp G C hf a1 a2 h2) f2v
          · subst e1
            exact tasg_of (a_comp2 G C hf a1 a2 h2) f2v
        | SetComp _ _ _ _ => cases h2
        | DictComp kx vx gs scope p =>
          obtain ⟨tg, iter, ifs, e1⟩ := comp_shapeD h2
          subst e1
          exact tasg_of (a_compD G C hf a1 a2 h2) f2v
        | _ => cases hcp
    split
    · rename_i hm
      rw [Bool.and_eq_true] at hm
      have hl : PS X (.Assign [.Name x px] e pos) (tAsg (tEvL X.K X.mg E (stepV Φ N r e)) (gName i)) := by
        cases e with
        | ListComp elt gs scope p =>
          rcases comp_shape h2 with ⟨tg, iter, ifs, e1⟩ | ⟨tg, iter, ifs, tg1, iter1, ifs1, e1⟩
          · subst e1
            exact tasg_of (a_comp G C hf a1 a2 h2) f2l
          · subst e1
            exact tasg_of (a_comp2 G C hf a1 a2 h2) f2l
        | DictComp kx vx gs scope p =>
          obtain ⟨tg, iter, ifs, e1⟩ := comp_shapeD h2
          subst e1
          exact tasg_of (a_compD G C hf a1 a2 h2) f2l
        | Dict ks vs p =>
          cases ks with
          | nil =>
            cases vs with
            | nil => exact tasg_of (a_set C hf a1 a2 w_dnew rfl) f2l
            | cons _ _ => cases hm.2
          | cons _ _ => cases hm.2
        | BinOp a op b p =>
          cases op with
          | Add =>
            have h3 : (ckP N c.v X.env.scope tr a && ckP N c.v X.env.scope tr b) = true := h2
            rw [Bool.and_eq_true] at h3
            exact a_set C hf a1 a2 (w_addL (g_P G C hf0 h3.1) (g_P G C hf0 h3.2)) rfl
          | _ => cases hm.2
        | List es p => exact tasg_of (a_set C hf a1 a2 (w_lst (g_A G C hf0 (show ckA N c.v X.env.scope tr es = true from h2))) rfl) f2l
        | _ => cases hm.2
      exact s_frz (ms := fun ε => liftS (stepV Φ N r e ε) (ownD ε i)) (s_own hl)
    · exact s_frz (ms := fun ε => liftS (stepV Φ N r e ε) fun d => .nx (ε.set i (some (false, d)))) (s_set hv)
theorem mcall_eq {x f : Str} {a : Expr} (h : mcall e = some (x, f, a)) : ∃ p1 p2 p3, e = .Call (.Attribute (.Name x p1) f p2) [a] [] p3 := by
  unfold mcall at h
  split at h
  · split at h
    · split at h
      · cases h
        exact ⟨_, _, _, rfl⟩
      · cases h
    · cases h
  · cases h
theorem isDoc_eq (h : isDoc e = true) : ∃ x k p, e = .Constant (.str x) k p := by
  unfold isDoc at h
  split at h
  · split at h
    · exact ⟨_, _, _, rfl⟩
    · cases h
  · cases h
theorem isTup_eq {vs : List Expr} (h : isTupE e = some vs) : ∃ k p, e = .Tuple vs k p := by
  unfold isTupE at h
  split at h
  · cases h
    exact ⟨_, _, rfl⟩
  · cases h
theorem isTup_no (h : isTupE e = none) : ∀ vs k p, e ≠ .Tuple vs k p := fun vs k p z => by
  subst z
  cases h
theorem g_expr {v : Expr → Env → R D} {cv : Expr → Bool} (hf : ∀ x, X.fn x = true) (C : Cn Φ CX k N X E) (G : ∀ e, cv e = true → PE X e (tEv X.K X.mg E (v e))) (h : cExpr N cv X.env.scope e = true) : PS X (.Expr e pos) (tEx X.K X.mg E (exprS N M v e)) := by
  unfold cExpr at h
  unfold exprS
  cases q : mcall e with
  | some z =>
    obtain ⟨x, f, a⟩ := z
    rw [q] at h
    dsimp only at h ⊢
    rw [Bool.and_eq_true, Bool.and_eq_true, Bool.and_eq_true] at h
    obtain ⟨⟨⟨h1, h2⟩, h3⟩, h4⟩ := h
    obtain ⟨p1, p2, p3, e1⟩ := mcall_eq q
    subst e1
    cases hi : ixN N x with
    | none => exact s_no
    | some i =>
      dsimp only
      split
      · rename_i c1
        subst c1
        exact s_frz (ms := fun ε => ownL ε i fun ds => liftS (v a ε) fun d => if ds.length < cap then .nx (ε.set i (some (true, .lst (ds ++ [d])))) else .no) (s_append (nm_of C hi h1) (G _ h2) attrName h3 h4)
      · split
        · rename_i c1
          subst c1
          exact s_frz (ms := fun ε => ownL ε i fun ds => liftS (v a ε) fun d => match d with | .lst es => if ds.length + es.length ≤ cap then .nx (ε.set i (some (true, .lst (ds ++ es)))) else .no | _ => .no) (s_extend (nm_of C hi h1) (G _ h2) attrName h3 h4)
        · exact s_no
  | none =>
    rw [q] at h
    dsimp only at h ⊢
    split
    · rename_i hd
      obtain ⟨x, k, p, e1⟩ := isDoc_eq hd
      subst e1
      exact s_skip ps_doc
    · rename_i hd
      have hd : isDoc e = false := by simpa using hd
      rw [hd, Bool.false_or, Bool.and_eq_true] at h
      exact s_frz (ms := fun ε => liftS (v e ε) fun _ => .nx ε) (s_drop (G _ h.1) (notC (by simpa using h.2)))
theorem g_sub {v : Expr → Env → R D} {cv : Expr → Bool} {o b : Expr} {p2 : Pos} (C : Cn Φ CX k N X E) (G : ∀ e, cv e = true → PE X e (tEv X.K X.mg E (v e))) (h : cSub N cv X.env.scope o b e = true) : PS X (.Assign [.Subscript o b p2] e pos) (tEx X.K X.mg E (subS N M v o b e)) := by
  have hu := C.u65
  cases o with
  | Name x p =>
    have h : (nmB N X.env.scope x && cv b && cv e && notSlice b) = true := h
    rw [Bool.and_eq_true, Bool.and_eq_true, Bool.and_eq_true] at h
    obtain ⟨⟨⟨h1, h2⟩, h3⟩, h4⟩ := h
    unfold subS
    dsimp only
    cases hi : ixN N x with
    | none => exact s_no
    | some i => exact s_frz (ms := fun ε => liftS (v e ε) fun d => hasO ε i (liftS (v b ε) fun y => putI ε i d y)) (s_put (by omega) (nm_of C hi h1) (G _ h2) (G _ h3) h4 (by cases e <;> rfl) (by cases e <;> rfl))
  | _ => exact s_no
theorem g_tgt {v : Expr → Env → R D} {ts : List Expr} {kk : Nat} {pt : Pos} (C : Cn Φ CX k N X E) (hf : ∀ x, X.fn x = true) (he : PE X e (tEv X.K X.mg E (v e))) (h1 : ckG N X.env.scope tr 3 (.Tuple ts kk pt) = true) (hc : isComp e = false) (h2 : swappedStores [.Tuple ts kk pt] e X.env = pure none) :
    PS X (.Assign [.Tuple ts kk pt] e pos) (tEx X.K X.mg E (tgtS N M v (.Tuple ts kk pt) e)) :=
  s_frz (ms := fun ε => liftS (v e ε) fun d => liftS (evG N 3 (.Tuple ts kk pt) d ε) .nx) (s_tgt he (g_G C (fun x _ => hf x) 3 _ h1) (by unfold swapsWithSole; exact notC hc) h2 rfl)
theorem locB_of {sc : Scope} {t : Expr} (h : locB sc t = true) : ∃ x p, t = .Name x p ∧ sc.names.lookup x = some .local := by
  unfold locB at h
  split at h
  · split at h
    · exact ⟨_, _, rfl, ‹_›⟩
    · cases h
  · cases h
theorem g_par {v : Expr → Env → R D} {ts vs : List Expr} {kk k2 : Nat} {pt p2 : Pos} (C : Cn Φ CX k N X E) (ha : PA X vs (tEvA X.K X.mg E (evA N v vs))) (hk : X.env.scope.kind = .function) (h0 : foldAll vs = false)
    (h2 : vs.all notStar = true) (h3 : ts.all (locB X.env.scope) = true) (h4 : sameLine2 ts = true) (h5 : (namesOf ts).Nodup) (h6 : vs.all (constantsAlone 8) = false) : PS X (.Assign [.Tuple ts kk pt] (.Tuple vs k2 p2) pos) (tEx X.K X.mg E (parS N M v ts vs (.Tuple vs k2 p2))) := by
  unfold parS
  split
  · rename_i t1 t2 a b
    rw [List.all_cons, List.all_cons, Bool.and_eq_true, Bool.and_eq_true] at h2 h3
    obtain ⟨x, px, e1, l1⟩ := locB_of h3.1
    obtain ⟨y, py, e2, l2⟩ := locB_of h3.2.1
    subst e1
    subst e2
    dsimp only
    cases hi : ixN N x with
    | none => exact s_no
    | some i =>
      cases hj : ixN N y with
      | none => exact s_no
      | some j =>
        have xy : x ≠ y := fun z => (List.nodup_cons.mp h5).1 (z ▸ List.mem_cons_self)
        have ij : i ≠ j := fun z => xy (by
          have g1 := ixN_get hi
          have g2 := ixN_get hj
          rw [z] at g1
          exact Option.some.inj (g1.symm.trans g2))
        have hl : (py.line == px.line) = true := by
          have h4 : ((py.line == px.line) && true) = true := h4
          rw [Bool.and_true] at h4
          exact h4
        exact s_frz (ms := fun ε => liftS (evA N v [a, b] ε) (par2 i j ε)) (s_par2 (ps_par C.calm C.nd (by rw [C.eN]; exact ixN_get hi) (by rw [C.eN]; exact ixN_get hj) ij l1 l2 ha (sw_par2 hk l1 l2 hl xy h2.1 h2.2.1 h0 h6)))
  · rename_i t1 t2 t3 a b c
    rw [List.all_cons, List.all_cons, List.all_cons, Bool.and_eq_true, Bool.and_eq_true, Bool.and_eq_true] at h2 h3
    obtain ⟨x, px, e1, l1⟩ := locB_of h3.1
    obtain ⟨y, py, e2, l2⟩ := locB_of h3.2.1
    obtain ⟨z, pz, e3, l3⟩ := locB_of h3.2.2.1
    subst e1
    subst e2
    subst e3
    dsimp only
    cases hi : ixN N x with
    | none => exact s_no
    | some i =>
      cases hj : ixN N y with
      | none => exact s_no
      | some j =>
        cases hl : ixN N z with
        | none => exact s_no
        | some l =>
          have d1 := (List.nodup_cons.mp h5).1
          have d2 := (List.nodup_cons.mp (List.nodup_cons.mp h5).2).1
          have xy : x ≠ y := fun q => d1 (q ▸ List.mem_cons_self)
          have xz : x ≠ z := fun q => d1 (q ▸ List.mem_cons_of_mem _ List.mem_cons_self)
          have yz : y ≠ z := fun q => d2 (q ▸ List.mem_cons_self)
          have ne : ∀ {u w : Str} {i j : Nat}, ixN N u = some i → ixN N w = some j → u ≠ w → i ≠ j := fun {u w i j} a b n q => n (by
            have g1 := ixN_get a
            have g2 := ixN_get b
            rw [q] at g1
            exact Option.some.inj (g1.symm.trans g2))
          have h4 : ((py.line == px.line) && ((pz.line == px.line) && true)) = true := h4
          rw [Bool.and_true, Bool.and_eq_true] at h4
          exact s_frz (ms := fun ε => liftS (evA N v [a, b, c] ε) (par3 i j l ε)) (s_par3 (ps_par3 C.calm C.nd (by rw [C.eN]; exact ixN_get hi) (by rw [C.eN]; exact ixN_get hj) (by rw [C.eN]; exact ixN_get hl) (ne hi hj xy) (ne hi hl xz) (ne hj hl yz) l1 l2 l3 ha (sw_par3 hk l1 l2 l3 h4.1 h4.2 xy xz yz h2.1 h2.2.1 h2.2.2.1 h0 h6)))
  · exact s_no
theorem g_tup {ts : List Expr} {kk : Nat} {pt : Pos} (G : Good Φ CX k N c r) (C : Cn Φ CX k N X E) (hf : ∀ x, X.fn x = true) (hk : X.env.scope.kind = .function) (h : cTup N c.v X.env.scope (.Tuple ts kk pt) ts e = true) : PS X (.Assign [.Tuple ts kk pt] e pos) (tEx X.K X.mg E (tupS X.env.scope N M r.v (.Tuple ts kk pt) ts e)) := by
  have hf0 : ∀ x, tr x = true → X.fn x = true := fun x _ => hf x
  unfold cTup at h
  unfold tupS
  cases q : isTupE e with
  | some vs =>
    obtain ⟨k2, p2, e1⟩ := isTup_eq q
    rw [q] at h
    dsimp only at h ⊢
    cases h0 : foldAll vs with
    | true =>
      rw [h0, if_pos rfl, Bool.and_eq_true] at h
      rw [if_pos rfl]
      subst e1
      exact g_tgt C hf (G.v X E _ _ C hf0 h.2) h.1 rfl (sw_none h0)
    | false =>
      rw [h0, if_neg (fun z => nomatch z)] at h
      rw [if_neg (fun z => nomatch z)]
      by_cases c0 : ts.all (locB X.env.scope) = false
      · rw [if_pos c0, Bool.and_eq_true] at h
        rw [if_neg (by rw [c0]; exact fun z => nomatch z)]
        subst e1
        exact g_tgt C hf (G.v X E _ _ C hf0 h.2) h.1 rfl (sw_cell c0)
      rw [if_neg c0, Bool.and_eq_true, Bool.and_eq_true, Bool.and_eq_true, Bool.and_eq_true, Bool.and_eq_true] at h
      rw [if_pos (by simpa using c0)]
      obtain ⟨⟨⟨⟨⟨h1, h2⟩, h3⟩, h4⟩, h5⟩, h6⟩ := h
      subst e1
      exact g_par C (g_A G C hf0 h1) hk h0 h2 h3 h4 (of_decide_eq_true h5) (by simpa using h6)
  | none =>
    rw [q] at h
    dsimp only at h ⊢
    rw [Bool.and_eq_true, Bool.and_eq_true] at h
    exact g_tgt C hf (G.v X E _ _ C hf0 h.1.2) h.1.1 (by simpa using h.2) (sw_oth (isTup_no q))
theorem g_S {st : Stmt} (G : Good Φ CX k N c r) (GS : GoodS Φ CX k N X.env.scope cS s) (C : Cn Φ CX k N X E) (hf : ∀ x, X.fn x = true) (hk : X.env.scope.kind = .function) (hp : PassesOwn (model X.prog X.w) X.A X.env X.xe) (h : stepCS Φ N (stC Φ N c) X.env.scope cS st = true) :
    PS X st (tEx X.K X.mg E (stepS Φ X.env.scope N M (stV Φ N r) s st)) := by
  have hf0 : ∀ x, tr x = true → X.fn x = true := fun x _ => hf x
  have G1 := good1 G
  cases st with
  | Expr e p => exact g_expr hf C (fun e he => G1.v X E _ e C hf0 he) h
  | Assign ts e p =>
    match ts, h with
    | [], _ => exact s_no
    | _ :: _ :: _, _ => exact s_no
    | [t], h =>
      cases t with
      | Name x px =>
        have h : (ckG N X.env.scope tr 1 (.Name x px) && stepCV Φ N c X.env.scope tr e) = true := h
        rw [Bool.and_eq_true] at h
        exact g_set G C hf h.1 h.2
      | Subscript o b p2 => exact g_sub C (fun e he => G1.v X E _ e C hf0 he) h
      | Tuple ts kk pt => exact g_tup G1 C hf hk h
      | _ => exact s_no
  | AugAssign t op e p =>
    cases t with
    | Name x px =>
      have h : (ckG N X.env.scope tr 1 (.Name x px) && (stC Φ N c).v X.env.scope tr e) = true := h
      rw [Bool.and_eq_true] at h
      show PS X _ (tEx X.K X.mg E (match ixN N x with | some i => augS op (stepV Φ N r e) i | none => fun _ => .no))
      cases q : ixN N x with
      | none => exact s_no
      | some i =>
        obtain ⟨a1, a2⟩ := nm_slot (p := px) C hf q h.1
        have he := G1.v X E _ e C hf0 h.2
        cases op with
        | Add => exact s_aug (f := fun i j => i + j) (fun _ _ => rfl) (fun d e => by cases d <;> first | exact .inr rfl | (cases e <;> first | exact .inl ⟨_, _, rfl, rfl⟩ | exact .inr rfl)) (ps_aug C.nd a1 a2 he ip_add (.inl (hf x)))
        | Sub => exact s_aug (f := fun i j => i - j) (fun _ _ => rfl) (fun d e => by cases d <;> first | exact .inr rfl | (cases e <;> first | exact .inl ⟨_, _, rfl, rfl⟩ | exact .inr rfl)) (ps_aug C.nd a1 a2 he ip_sub (.inl (hf x)))
        | _ => exact s_no
    | _ => exact s_no
  | If t a b p =>
    have h : ((stC Φ N c).t X.env.scope tr t && a.all cS && b.all cS) = true := h
    rw [Bool.and_eq_true, Bool.and_eq_true] at h
    exact s_frz (ms := fun ε => liftS (stepT N r t ε) fun b1 => if b1 = true then exs s a ε else exs s b ε) (s_if (G1.t X E _ t C hf0 h.1.1) (g_ss GS C hf hp h.1.2) (g_ss GS C hf hp h.2))
  | While t b o p =>
    have h : ((stC Φ N c).t X.env.scope tr t && b.all cS) = true := h
    rw [Bool.and_eq_true] at h
    obtain ⟨h1, h2⟩ := h
    cases o with
    | nil => exact s_while (ps_while hp (G1.t X E _ t C hf0 h1) (g_ss GS C hf hp h2))
    | cons _ _ => exact s_no
  | For tg it b o p =>
    have h : (ckI N (stC Φ N c).v X.env.scope tr tg it && notSet it && ckG N X.env.scope tr 3 tg && b.all cS) = true := h
    rw [Bool.and_eq_true, Bool.and_eq_true, Bool.and_eq_true] at h
    obtain ⟨⟨⟨h1, h2⟩, h3⟩, h4⟩ := h
    cases o with
    | nil =>
      have pi := g_I (E := E) G1 C hf0 h1
      have pg := g_G (E := E) C hf0 3 tg h3
      have pb := g_ss GS C hf hp h4
      exact s_frz (ms := fun ε => liftS (evI N (stepV Φ N r) it ε) fun ds => forS (evG N 3 tg) (exs s b) ds ε) (s_for hp C.calm pi pg pb (ps_for hp C.calm pi pg pb (notFold h2)))
    | cons _ _ => exact s_no
  | Return v p =>
    cases v with
    | none => exact s_retN
    | some e => exact s_frz (ms := fun ε => liftS (stepV Φ N r e ε) .rt) (s_ret (G1.v X E _ e C hf0 h))
  | Pass p => exact s_skip ps_pass
  | Break p => exact s_brk ps_break
  | Continue p => exact s_cnt ps_continue
  | _ => exact s_no
end
end Fx

/-! defs -/
namespace Fx
open PySem PySem.Spec PyProof.Rows L2
theorem goodS {Φ : Fns} {CX : CXT} {k : Nat} {N M : List Str} {sc : Scope} (hk : sc.kind = .function) (f : Nat) : ∀ n : Nat, GoodS Φ CX k N sc (cs Φ N sc (f + 1) n) (es Φ sc N M (f + 1) n)
  | 0 => ⟨fun _ _ _ _ _ _ _ h => nomatch h⟩
  | n + 1 => ⟨fun X E st C hs hf hp h => by
      subst hs
      exact g_S (good f) (goodS hk f n) C hf hk hp h⟩
def mutd (body : List Stmt) : List Str := (body.map (mutS 20)).flatten
def argE (N : List Str) (ds : List D) : Env := ds.map (fun d => some (false, d)) ++ List.replicate (N.length - ds.length) none
def resD : RS → R D
  | .rt d => .ok d
  | .nx _ => .ok .non
  | .ex c fs => .ex c fs
  | .any P n k => .any P n fun d => resD (k d)
  | _ => .no
def runD (Φ : Fns) (sc : Scope) (N : List Str) (body : List Stmt) (ds : List D) : RS := exs (es Φ sc N (mutd body) 60 60) body (argE N ds)
def fnD (Φ : Fns) (N : List Str) (st : Stmt) (ds : List D) : R D := resD (runD Φ (defScope st) N (defBody st) ds)
theorem arg_at {N : List Str} {ds : List D} {i : Nat} {f : Bool} {d : D} (h : (argE N ds)[i]? = some (some (f, d))) : f = false ∧ ds[i]? = some d := by
  unfold argE at h
  by_cases c : i < ds.length
  · rw [List.getElem?_append_left (by rw [List.length_map]; exact c), List.getElem?_map] at h
    cases q : ds[i]? with
    | none =>
      rw [q] at h
      cases h
    | some e =>
      rw [q] at h
      cases h
      exact ⟨rfl, rfl⟩
  · rw [List.getElem?_append_right (by rw [List.length_map]; omega)] at h
    by_cases c2 : i - (ds.map fun d => some (false, d)).length < N.length - ds.length
    · rw [List.getElem?_replicate, if_pos c2] at h
      cases h
    · rw [List.getElem?_replicate, if_neg c2] at h
      cases h
theorem RpUA.at' {K : PySem.W.Frag} {u : Option Addr} {H : Hp} : ∀ {xs : List V} {ds : List D} {i : Nat} {d : D}, RpUA K u H xs ds → ds[i]? = some d → ∃ x, xs[i]? = some x ∧ RpU K u H x d
  | _, _, 0, _, .cons h _, e => by
    cases e
    exact ⟨_, rfl, h⟩
  | _, _, i + 1, _, .cons _ a, e => RpUA.at' (i := i) a e
theorem rs_start {K : PySem.W.Frag} {u : Option Addr} {n : Nat} {us : List Addr} {H : Hp} {vs : List V} {ds : List D} {N : List Str} (hl : vs.length ≤ N.length) (hd : Hd u n us H) (r : RpUA K u (hid us H) vs ds) : Rs K u n us H (L2.start N vs) (argE N ds) ∧ Fr u us H us H (L2.start N vs) (argE N ds) := by
  refine ⟨⟨?_, hd.ain, hd.uh, hd.ur, fun i f d h => ?_, fun i j d e a h1 _ _ _ => ?_⟩, ⟨Sm.refl _, fun _ m => m, hd.ain, fun i d a h1 _ => ?_⟩⟩
  · unfold argE L2.start
    rw [List.length_append, List.length_append, List.length_map, List.length_map, List.length_replicate, List.length_replicate, r.len]
  · obtain ⟨e1, e2⟩ := arg_at h
    obtain ⟨v, g1, g2⟩ := r.at' e2
    refine ⟨v, ?_, fun _ => g2, fun z => by rw [e1] at z; cases z⟩
    unfold L2.start
    have hi := (List.getElem?_eq_some_iff.mp g1).1
    rw [List.getElem?_append_left (by rw [List.length_map]; exact hi), List.getElem?_map, g1]
    rfl
  · exact absurd (arg_at h1).1 (fun z => nomatch z)
  · exact absurd (arg_at h1).1 (fun z => nomatch z)
section
variable {P : Program} {w : World} {K : PySem.W.Frag} {mg : Str → Option Value} {base : Heap} {Φ : Fns} {k : Nat} {N ps : List Str} {st : Stmt} {x : Str} {f : Addr} {fd : FuncData}
theorem res_ok {E : XU} {us : List Addr} {H : Hp} {Q : VK} {D : Ends} (h1 : ∀ v H', D.rt v H' = Q v H') (h2 : ∀ σ H', D.nx σ H' = Q .non H') : ∀ {r : RS} {n : Nat}, RW K mg E us n (resD r) H Q → RWS K mg E us H us H n r D
  | .rt d, n, w => fun v H' s u r => by rw [h1]; exact w H' s u v r
  | .nx ε, n, w => fun hs' σ' H' S' F' _ => by rw [h2]; exact w H' F'.sm S'.ur .non .non
  | .ex c fs, n, w => w
  | .bk ε, n, w => False.elim w
  | .ct ε, n, w => False.elim w
  | .no, n, w => False.elim w
  | .any P c k, n, w => ⟨w.1, fun d p => res_ok h1 h2 (r := k d) (w.2 d p)⟩
/-- a def that lets no exception out -/
theorem ok_fn (F : L2.Fun K x x st f fd) (S : FnScope N ps (defScope st)) (hl : ps.length ≤ N.length) (hc : (defBody st).all (cs Φ N (defScope st) 60 60) = true) (hΦ : ∀ y G, Φ y = some G → CalF CX0 k P w K mg base y G) (hb : ∀ y ∈ bltNames, mg y = none) :
    FnOk P w K mg base CX0 (k + 1) f fd ps (spF K mg ps.length (fnD Φ N st)) := by
  refine F.ok S (fun vs H Q E h => ?_) (fun cdv A outer s H vs Q E hr h => ?_)
  · obtain ⟨u, us, m, ds, h1, _⟩ := h
    exact h1
  obtain ⟨u, us, m, ds, h1, h2, h3, h4⟩ := h
  have C : Cn Φ CX0 k N (cxOf CX0 P w K mg base N x (defScope st) f cdv A outer s H E).nox ⟨E, u⟩ := ⟨rfl, rfl, S.nd, hr, fun _ _ _ _ _ _ _ z => z.elim, fun _ _ _ _ _ z => z, hb, hΦ⟩
  refine ⟨_, g_ss (goodS (M := mutd (defBody st)) S.kind 59 60) C (fun _ => rfl) PassesOwn.never hc, ?_⟩
  obtain ⟨S1, F1⟩ := rs_start (N := N) (by rw [h1]; exact hl) h2 h3
  exact ⟨us, H, us, _, m, S1, F1, res_ok (fun _ _ => rfl) (fun _ _ => rfl) h4⟩
end
end Fx

/-! the evaluator's words, without the text: what a def's text comes to (the tool Pp prints it; equal by rfl) -/
namespace Fx
open PySem PySem.Spec PyProof.Rows L2
section
variable (a b v k : Env → R D) (ma mk : Env → R (List D)) (t tt : Env → R Bool)
def vC (d : D) : Env → R D := fun _ => .ok d
def vTup : Env → R D := fun ε => ma ε >>= fun ds => capD ds >>= fun ds => .ok (.tup ds)
def vLst : Env → R D := fun ε => ma ε >>= fun ds => capD ds >>= fun ds => .ok (.lst ds)
def aNil : Env → R (List D) := fun _ => .ok []
def aCons : Env → R (List D) := fun ε => v ε >>= fun d => ma ε >>= fun ds => .ok (d :: ds)
def aStar : Env → R (List D) := fun ε => v ε >>= fun d => itemsD d >>= fun ds => ma ε >>= fun es => .ok (ds ++ es)
def vBin (f : D → D → R D) : Env → R D := fun ε => a ε >>= fun d => b ε >>= fun e => f d e
def vCmp (f : D → D → R Bool) : Env → R D := fun ε => a ε >>= fun d => b ε >>= fun e => f d e >>= fun c => .ok (.bl c)
def tCmp' (f : D → D → R Bool) : Env → R Bool := fun ε => a ε >>= fun d => b ε >>= fun e => f d e
def vAnd : Env → R D := fun ε => a ε >>= fun d => truD d >>= fun c => if c = true then b ε else .ok d
def vOr : Env → R D := fun ε => a ε >>= fun d => truD d >>= fun c => if c = true then .ok d else b ε
def tAnd' : Env → R Bool := fun ε => t ε >>= fun c => if c = true then tt ε else .ok false
def tOr' : Env → R Bool := fun ε => t ε >>= fun c => if c = true then .ok true else tt ε
def tNot' : Env → R Bool := fun ε => t ε >>= fun b => .ok (!b)
def tTru : Env → R Bool := fun ε => v ε >>= truD
def vNot : Env → R D := fun ε => v ε >>= fun d => truD d >>= fun b => .ok (.bl (!b))
def vNeg : Env → R D := fun ε => v ε >>= negD
def vIf : Env → R D := fun ε => t ε >>= fun c => if c = true then a ε else b ε
def vSli (lo hi : Env → R (Option Int)) : Env → R D := fun ε => a ε >>= fun d => lo ε >>= fun l => hi ε >>= fun h => sliD d l h
def oNo : Env → R (Option Int) := fun _ => .ok none
def oSo : Env → R (Option Int) := fun ε => a ε >>= fun d => intD d >>= fun i => .ok (some i)
def mB {α : Type} (f : List D → R α) : Env → R α := fun ε => ma ε >>= f
def vB {α : Type} (f : D → R α) : Env → R α := fun ε => v ε >>= f
def vLc (g : D → Env → R Env) (own : List Nat) : Env → R D := fun ε => ma ε >>= fun ds => capD ds >>= fun ds => compD (turnD g t v (wipeE ε own)) ds >>= fun ys => .ok (.lst ys)
def vLc2 (mi : Env → R (List D)) (g : D → Env → R Env) (g1 : D → Env → R Env) (sl own : List Nat) : Env → R D := fun ε => ma ε >>= fun ds => compL (turn2 g t mi g1 tt v sl (wipeE ε own)) 0 ds >>= fun ys => .ok (.lst ys)
def vDc (g : D → Env → R Env) (own : List Nat) : Env → R D := fun ε => ma ε >>= fun ds => compK (turnK g t k v (wipeE ε own)) [] ds >>= fun ys => .ok (.dic ys)
def vCall (F : Fun1) : Env → R D := fun ε => ma ε >>= callF F
def vCalK (n : Nat) (ks : List Str) (g : List D → List D → R D) : Env → R D := fun ε => ma ε >>= fun ds => mk ε >>= fun zs => callK n ks g ds zs
/-- with keywords, F not known -/
def vCalF (n : Nat) (ks : List Str) (F : Fun1) : Env → R D := match F.kw n ks with
  | some g => fun ε => ma ε >>= fun ds => mk ε >>= fun zs => callK n ks g ds zs
  | none => fun _ => .no
def vGet1 : Env → R D := fun ε => a ε >>= fun d => dicOf d >>= fun kds => k ε >>= fun k => getD kds k .non
def vGet2 : Env → R D := fun ε => a ε >>= fun d => dicOf d >>= fun kds => k ε >>= fun k => b ε >>= fun z => getD kds k z
def vNo : Env → R D := fun _ => .no
def g1 (i : Nat) : D → Env → R Env := fun d ε => .ok (ε.set i (some (false, d)))
def gT (n : Nat) (gs : List D → Env → R Env) : D → Env → R Env := fun d ε => iterD d >>= fun ds => if ds.length = n then gs ds ε else .no
def gNil' : List D → Env → R Env := fun ds ε => match ds with
  | [] => .ok ε
  | _ => .no
def gCons' (g : D → Env → R Env) (gs : List D → Env → R Env) : List D → Env → R Env := fun ds ε => match ds with
  | d :: ds => g d ε >>= gs ds
  | [] => .no
def tYes' : Env → R Bool := fun _ => .ok true
variable (fz : List Nat) (i j l : Nat) (q q2 : Env → RS)
def sSet : Env → RS := fun ε => liftS (v (frzs fz ε)) fun d => .nx ((frzs fz ε).set i (some (false, d)))
def sOwn : Env → RS := fun ε => liftS (v (frzs fz ε)) (ownD (frzs fz ε) i)
def sApp : Env → RS := fun ε => ownL (frzs fz ε) i fun ds => liftS (v (frzs fz ε)) fun d => if ds.length < cap then .nx ((frzs fz ε).set i (some (true, .lst (ds ++ [d])))) else .no
def sExt : Env → RS := fun ε => ownL (frzs fz ε) i fun ds => liftS (v (frzs fz ε)) fun d => match d with | .lst es => if ds.length + es.length ≤ cap then .nx ((frzs fz ε).set i (some (true, .lst (ds ++ es)))) else .no | _ => .no
def sDrop : Env → RS := fun ε => liftS (v (frzs fz ε)) fun _ => .nx (frzs fz ε)
def sNop : Env → RS := fun ε => .nx ε
def sNo' : Env → RS := fun _ => .no
def sSub : Env → RS := fun ε => liftS (v (frzs fz ε)) fun d => hasO (frzs fz ε) i (liftS (b (frzs fz ε)) fun y => putI (frzs fz ε) i d y)
def sPar2 : Env → RS := fun ε => liftS (ma (frzs fz ε)) (par2 i j (frzs fz ε))
def sPar3 : Env → RS := fun ε => liftS (ma (frzs fz ε)) (par3 i j l (frzs fz ε))
def sTgt (g : D → Env → R Env) : Env → RS := fun ε => liftS (v (frzs fz ε)) fun d => liftS (g d (frzs fz ε)) .nx
def sIf : Env → RS := fun ε => liftS (t (frzs fz ε)) fun c => if c = true then q (frzs fz ε) else q2 (frzs fz ε)
def sFor (g : D → Env → R Env) : Env → RS := fun ε => liftS (ma (frzs fz ε)) fun ds => forS g q ds (frzs fz ε)
def sRet : Env → RS := fun ε => liftS (v (frzs fz ε)) .rt
def sRetN : Env → RS := fun _ => .rt .non
def sBrk : Env → RS := fun ε => .bk ε
def sCnt : Env → RS := fun ε => .ct ε
def qNil : Env → RS := fun ε => .nx ε
def qCons : Env → RS := fun ε => seqS (q ε) q2
end
end Fx

/-! what one reasons with about the evaluator's words -/
namespace Fx
open PySem PySem.Spec PyProof.Rows L2
theorem ok_bind {α β : Type} (a : α) (f : α → R β) : (R.ok a >>= f) = f a := rfl
theorem any_bind {α β : Type} (P : D → Prop) (n : Nat) (k : D → R α) (f : α → R β) : (R.any P n k >>= f) = .any P n fun d => k d >>= f := rfl
theorem liftS_ok {α : Type} (a : α) (k : α → RS) : liftS (.ok a) k = k a := rfl
theorem liftS_any {α : Type} (P : D → Prop) (n : Nat) (f : D → R α) (k : α → RS) : liftS (.any P n f) k = .any P n fun d => liftS (f d) k := rfl
theorem seqS_nx (ε : Env) (k : Env → RS) : seqS (.nx ε) k = k ε := rfl
theorem seqS_rt (d : D) (k : Env → RS) : seqS (.rt d) k = .rt d := rfl
theorem resD_rt (d : D) : resD (.rt d) = .ok d := rfl
theorem resD_nx (ε : Env) : resD (.nx ε) = .ok .non := rfl
theorem capD_ok {ds : List D} (h : ds.length ≤ cap) : capD ds = .ok ds := if_pos h
section
variable {α : Type} {h : α → D}
theorem compD_all {f : D → R (Option D)} {g : α → D} : ∀ {l : List α}, (∀ x ∈ l, f (h x) = .ok (some (g x))) → compD f (l.map h) = .ok (l.map g)
  | [], _ => rfl
  | x :: l, hx => by
    rw [List.map_cons, compD, hx x List.mem_cons_self]
    show (compD f (l.map h) >>= fun ys => R.ok (g x :: ys)) = _
    rw [compD_all fun y m => hx y (List.mem_cons_of_mem _ m)]
    rfl
theorem compD_flt {f : D → R (Option D)} {g : α → D} {p : α → Bool} : ∀ {l : List α}, (∀ x ∈ l, f (h x) = .ok (if p x = true then some (g x) else none)) → compD f (l.map h) = .ok ((l.filter p).map g)
  | [], _ => rfl
  | x :: l, hx => by
    rw [List.map_cons, compD, hx x List.mem_cons_self, List.filter_cons]
    cases p x with
    | true =>
      show (compD f (l.map h) >>= fun ys => R.ok (g x :: ys)) = _
      rw [compD_flt fun y m => hx y (List.mem_cons_of_mem _ m)]
      rfl
    | false => exact compD_flt fun y m => hx y (List.mem_cons_of_mem _ m)
theorem compL_all {f : D → R (List D)} {g : α → List D} : ∀ {l : List α} {a : Nat}, (∀ x ∈ l, f (h x) = .ok (g x)) → a + (l.map g).flatten.length ≤ cap → compL f a (l.map h) = .ok (l.map g).flatten
  | [], _, _, _ => rfl
  | x :: l, a, hx, hl => by
    rw [List.map_cons, List.flatten_cons, List.length_append] at hl
    rw [List.map_cons, compL, if_pos (by omega), hx x List.mem_cons_self]
    show (compL f (a + (g x).length) (l.map h) >>= fun zs => R.ok (g x ++ zs)) = _
    rw [compL_all (fun y m => hx y (List.mem_cons_of_mem _ m)) (by omega)]
    rfl
/-- a dict comprehension whose keys are told once: what is put is what stands -/
theorem compK_all {f : D → R (Option (D × D))} {key : α → Key} {ky val : α → D} : ∀ {l : List α} {acc : List (Key × D)}, (∀ x ∈ l, f (h x) = .ok (some (ky x, val x)) ∧ keyD (ky x) = some (key x)) → acc.length + l.length ≤ cap → compK f acc (l.map h) = .ok (l.foldl (fun acc x => putD acc (key x) (val x)) acc)
  | [], _, _, _ => rfl
  | x :: l, acc, hx, hl => by
    have hl : acc.length + (l.length + 1) ≤ cap := hl
    obtain ⟨h1, h2⟩ := hx x List.mem_cons_self
    rw [List.map_cons, compK, h1]
    show (match keyD (ky x) with | some k => if acc.length < cap then compK f (putD acc k (val x)) (l.map h) else .no | none => .no) = _
    rw [h2]
    dsimp only
    have pl : (putD acc (key x) (val x)).length ≤ acc.length + 1 := by
      unfold putD
      split
      · rw [List.length_map]
        omega
      · rw [List.length_append]
        exact Nat.le_refl _
    rw [if_pos (by omega), compK_all (fun y m => hx y (List.mem_cons_of_mem _ m)) (by omega)]
    rfl
/-- new keys stand behind -/
theorem putD_new {acc : List (Key × D)} {k : Key} {d : D} (n : k ∉ acc.map (·.1)) : putD acc k d = acc ++ [(k, d)] := by
  unfold putD
  rw [if_neg]
  rw [List.any_eq_true]
  rintro ⟨kv, m, e⟩
  exact n (by rw [← of_decide_eq_true e]; exact List.mem_map_of_mem m)
theorem foldl_put {key : α → Key} {val : α → D} : ∀ {l : List α} {acc : List (Key × D)}, (acc.map (·.1) ++ l.map key).Nodup → l.foldl (fun acc x => putD acc (key x) (val x)) acc = acc ++ l.map fun x => (key x, val x)
  | [], acc, _ => (List.append_nil _).symm
  | x :: l, acc, nd => by
    rw [List.foldl_cons]
    have n : key x ∉ acc.map (·.1) := fun m => (List.nodup_append.mp nd).2.2 _ m _ (List.mem_map_of_mem List.mem_cons_self) rfl
    rw [putD_new n, foldl_put (by rw [List.map_append, List.append_assoc]; exact nd), List.append_assoc]
    rfl
theorem lookD_in {key : α → Key} {val : α → D} {x : α} : ∀ {l : List α}, (l.map key).Nodup → x ∈ l → lookD (l.map fun x => (key x, val x)) (key x) = some (val x)
  | y :: l, nd, m => by
    obtain ⟨n1, n2⟩ := List.nodup_cons.mp nd
    unfold lookD
    rw [List.map_cons, List.find?_cons]
    rcases List.mem_cons.mp m with e | m
    · subst e
      rw [decide_eq_true rfl]
      rfl
    · have ne : key y ≠ key x := fun z => n1 (z ▸ List.mem_map_of_mem m)
      rw [decide_eq_false ne]
      exact lookD_in n2 m
theorem lookD_out {key : α → Key} {val : α → D} {k : Key} : ∀ {l : List α}, k ∉ l.map key → lookD (l.map fun x => (key x, val x)) k = none
  | [], _ => rfl
  | y :: l, n => by
    rw [List.map_cons, List.mem_cons, not_or] at n
    unfold lookD
    rw [List.map_cons, List.find?_cons, decide_eq_false (fun z => n.1 z.symm)]
    exact lookD_out n.2
/-- a loop each turn of which goes on -/
theorem forS_all {g : D → Env → R Env} {b : Env → RS} {I : List α → Env → Prop} : ∀ {l done : List α} {ε : Env}, I done ε → (∀ x ∈ l, ∀ done ε, I done ε → ∃ ε1 ε2, g (h x) ε = .ok ε1 ∧ (b ε1 = .nx ε2 ∨ b ε1 = .ct ε2) ∧ I (done ++ [x]) ε2) → ∃ ε', forS g b (l.map h) ε = .nx ε' ∧ I (done ++ l) ε'
  | [], done, ε, i0, _ => ⟨ε, rfl, by rw [List.append_nil]; exact i0⟩
  | x :: l, done, ε, i0, hx => by
    obtain ⟨ε1, ε2, e1, e2, i2⟩ := hx x List.mem_cons_self done ε i0
    obtain ⟨ε', e3, i3⟩ := forS_all (l := l) i2 fun y m => hx y (List.mem_cons_of_mem _ m)
    refine ⟨ε', ?_, by rw [List.append_assoc] at i3; exact i3⟩
    rw [List.map_cons, forS, e1]
    show loopS (b ε1) _ = _
    rcases e2 with e2 | e2
    · rw [e2]
      exact e3
    · rw [e2]
      exact e3
/-- a loop that returns at x -/
theorem forS_ret {g : D → Env → R Env} {b : Env → RS} {I : Env → Prop} {x : α} {r : List α} {d : D} : ∀ {l : List α} {ε : Env}, I ε → (∀ y ∈ l, ∀ ε, I ε → ∃ ε1 ε2, g (h y) ε = .ok ε1 ∧ (b ε1 = .nx ε2 ∨ b ε1 = .ct ε2) ∧ I ε2) → (∀ ε, I ε → ∃ ε1, g (h x) ε = .ok ε1 ∧ b ε1 = .rt d) → forS g b ((l ++ x :: r).map h) ε = .rt d
  | [], ε, i0, _, hr => by
    obtain ⟨ε1, e1, e2⟩ := hr ε i0
    rw [List.nil_append, List.map_cons, forS, e1]
    show loopS (b ε1) _ = _
    rw [e2]
    rfl
  | y :: l, ε, i0, hx, hr => by
    obtain ⟨ε1, ε2, e1, e2, i2⟩ := hx y List.mem_cons_self ε i0
    rw [List.cons_append, List.map_cons, forS, e1]
    show loopS (b ε1) _ = _
    have z := forS_ret (l := l) (r := r) i2 (fun w m => hx w (List.mem_cons_of_mem _ m)) hr
    rcases e2 with e2 | e2
    · rw [e2]
      exact z
    · rw [e2]
      exact z
end
/-! ### an answer by running it in the kernel -/
mutual
def eqT : D → D → Bool
  | .non, .non => true
  | .bl a, .bl b => a == b
  | .int a, .int b => decide (a = b)
  | .str a, .str b => decide (a = b)
  | .lst as, .lst bs => eqTs as bs
  | .tup as, .tup bs => eqTs as bs
  | .dic as, .dic bs => eqTk as bs
  | .ty a, .ty b => decide (a = b)
  | .urn, .urn => true
  | _, _ => false
def eqTs : List D → List D → Bool
  | [], [] => true
  | a :: as, b :: bs => eqT a b && eqTs as bs
  | _, _ => false
def eqTk : List (Key × D) → List (Key × D) → Bool
  | [], [] => true
  | (k, a) :: as, (j, b) :: bs => decide (k = j) && eqT a b && eqTk as bs
  | _, _ => false
end
mutual
theorem eqT_eq : ∀ {a b : D}, eqT a b = true → a = b
  | .non, b, h => by cases b <;> first | rfl | cases h
  | .bl a, b, h => by
    cases b with
    | bl b =>
      have h : (a == b) = true := h
      rw [eq_of_beq h]
    | _ => cases h
  | .int a, b, h => by
    cases b with
    | int b => rw [of_decide_eq_true (p := a = b) h]
    | _ => cases h
  | .str a, b, h => by
    cases b with
    | str b => rw [of_decide_eq_true (p := a = b) h]
    | _ => cases h
  | .lst as, b, h => by
    cases b with
    | lst bs => rw [eqTs_eq (show eqTs as bs = true from h)]
    | _ => cases h
  | .tup as, b, h => by
    cases b with
    | tup bs => rw [eqTs_eq (show eqTs as bs = true from h)]
    | _ => cases h
  | .dic as, b, h => by
    cases b with
    | dic bs => rw [eqTk_eq (show eqTk as bs = true from h)]
    | _ => cases h
  | .ty a, b, h => by
    cases b with
    | ty b => rw [of_decide_eq_true (p := a = b) h]
    | _ => cases h
  | .urn, b, h => by cases b <;> first | rfl | cases h
  | .exn _ _, b, h => by cases b <;> cases h
theorem eqTs_eq : ∀ {a b : List D}, eqTs a b = true → a = b
  | [], [], _ => rfl
  | [], _ :: _, h => nomatch h
  | _ :: _, [], h => nomatch h
  | a :: as, b :: bs, h => by
    have h : (eqT a b && eqTs as bs) = true := h
    rw [Bool.and_eq_true] at h
    rw [eqT_eq h.1, eqTs_eq h.2]
theorem eqTk_eq : ∀ {a b : List (Key × D)}, eqTk a b = true → a = b
  | [], [], _ => rfl
  | [], _ :: _, h => nomatch h
  | _ :: _, [], h => nomatch h
  | (k, a) :: as, (j, b) :: bs, h => by
    have h : (decide (k = j) && eqT a b && eqTk as bs) = true := h
    rw [Bool.and_eq_true, Bool.and_eq_true] at h
    rw [of_decide_eq_true h.1.1, eqT_eq h.1.2, eqTk_eq h.2]
end
def isOk (r : R D) (d : D) : Bool := match r with
  | .ok e => eqT e d
  | _ => false
/-- x = .ok d := ok_run (by decide +kernel) -/
theorem ok_run {r : R D} {d : D} (h : isOk r d = true) : r = .ok d := by
  unfold isOk at h
  split at h
  · rw [eqT_eq h]
  · cases h
end Fx

/-! a dict whose keys are tuples of texts, new or frozen; what is stored are ints -/
namespace Fx
open PySem PySem.Spec PyProof.Rows L2
abbrev MK (P : Program) (w : World) := tupleKind (mixKind P w)
def memoP (P : Program) (w : World) (d : Addr) (xs : List (List Key × Addr × Value)) (h : Heap) : Prop :=
  ∃ o es ep, h.get? d = some o ∧ o.ExactDict ∧ o.data = .dict es ep ∧ es.toList = xs.map (entryOfKey (MK P w)) ∧ (xs.map (·.1)).Nodup
def memoO (P : Program) (w : World) (d : Addr) (xs : List (List Key × Addr × Value)) : HO := .ext (memoP P w d xs)
structure MemoH (P : Program) (w : World) (K : PySem.W.Frag) (H : Hp) (d : Addr) (xs : List (List Key × Addr × Value)) : Prop where
  at_ : H d = some (memoO P w d xs)
  ns : (d == sysModules) = false
  sz : xs.length ≤ sizeLine
  ks : ∀ x ∈ xs, SqP K H x.2.1 (x.1.map kV)
section
variable {X : Cx} {pins : List (Addr × Obj)} {σ : L2.St} {H : Hp} {s : Shared} {d b : Addr} {k : List Key} {xs : List (List Key × Addr × Value)} {A : Around} {E : Value → Shared → Prop}
theorem key_is (I : Inv X pins σ H s) (h : SqP X.K H b (k.map kV)) : (MK X.prog X.w).is s.heap k b := by
  obtain ⟨its, r, p, z⟩ := I.tuple h.T
  obtain ⟨o, h1, h2, n, h3⟩ := p
  exact ⟨o, its.toArray, n, h1, h2, h3, by simpa using items_are r⟩
theorem memo_ok {P : Program} {w : World} {H : Hp} {h : Heap} (m : memoP P w d xs h) : ObjOk P w H h d (memoO P w d xs) := by
  refine ⟨m, let ⟨o, _, _, e, _⟩ := m; ⟨o, e⟩, fun h1 h2 m1 k => ?_⟩
  obtain ⟨o, es, ep, e, r⟩ := m1
  exact ⟨o, es, ep, k o e, r⟩
theorem memo_dd (I : Inv X pins σ H s) (M : MemoH X.prog X.w X.K H d xs) : s.heap.DictOfH (MK X.prog X.w) d xs := by
  obtain ⟨m, _⟩ := show ObjOk X.prog X.w H s.heap d (memoO X.prog X.w d xs) from I.hok d _ M.at_
  obtain ⟨o, es, ep, h1, h2, h3, h4, h5⟩ := m
  exact ⟨o, es, ep, h1, h2, h3, h4, fun x mx => key_is I (M.ks x mx), h5⟩
theorem memo_notIn {u : Value} {Q : Value → Shared → Prop} (hu : A.units + 1 < cLine) (I : Inv X pins σ H s) (M : MemoH X.prog X.w X.K H d xs) (hk : SqP X.K H b (k.map kV)) (h : ∀ s', Inv X pins σ H s' → Q (.bool (!(atKey xs k).isSome)) s') :
    wpAny (model X.prog X.w) A (compareOp .NotIn (.ref b) (.ref d)) Q E s := wpAny_notIn_heap (tupleKind_room_in1 hu) (key_is I hk) M.ns (memo_dd I M) (h _ (I.tok _))
theorem memo_get {p : Addr × Value} {Q : Value → Shared → Prop} (hu : A.units + 1 < cLine) (I : Inv X pins σ H s) (M : MemoH X.prog X.w X.K H d xs) (hk : SqP X.K H b (k.map kV)) (hp : atKey xs k = some p) (h : ∀ s', Inv X pins σ H s' → Q p.2 s') :
    wpAny (model X.prog X.w) A (getItem (.ref d) (.ref b)) Q E s := wpAny_getItem_heap (tupleKind_room_in1 hu) (key_is I hk) (memo_dd I M) hp (h _ (I.tok _))
theorem memo_set {r : Value} {Q : Unit → Shared → Prop} (hu : A.units + 1 < cLine) (I : Inv X pins σ H s) (M : MemoH X.prog X.w X.K H d xs) (hk : SqP X.K H b (k.map kV)) (hz : xs.length < sizeLine)
    (h : ∀ s', Inv X pins σ (upd H d (memoO X.prog X.w d (storedH xs k b r))) s' → Q () s') : wpAny (model X.prog X.w) A (setItem (.ref d) (.ref b) r) Q E s := by
  refine wpAny_setItem_heap (hsz := Nat.le_of_lt hz) (tupleKind_room_in1 hu) (key_is I hk) (memo_dd I M) fun h' dd' hs => h _ ?_
  obtain ⟨q, es, ep, hq, h2, h3, h4, _, h5⟩ := dd'
  exact d_write I (by rw [M.at_]; exact True.intro) hs ⟨q, hq⟩ (memo_ok ⟨q, es, ep, hq, h2, h3, h4, h5⟩)
end
section
variable {X : Cx} {o i value : Expr} {pos pos' : Pos} {td ty tv : TE}
def tMNotIn (P : Program) (w : World) (K : PySem.W.Frag) (ty td : TE) : TE := fun σ H Q => ty σ H fun y H1 => td σ H1 fun x H2 => ∃ d b k xs, x = .ref d ∧ y = .ref b ∧ MemoH P w K H2 d xs ∧ SqP K H2 b (k.map kV) ∧ Q (.bl (!(atKey xs k).isSome)) H2
theorem pc_mnotin (hu : X.A.units + 1 < cLine) (hi : PE X i ty) (ho : PE X o td) : PC X .NotIn i o (tMNotIn X.prog X.w X.K ty td) := by
  refine ⟨fun pins s σ H Q I h => ?_⟩
  refine thn (hi.run pins s σ H _ I h) fun iv s1 ⟨y, H1, I1, ry, q1⟩ => thn (ho.run pins s1 σ H1 _ I1 q1) fun u s2 ⟨x, H2, I2, rx, d, b, k, xs, ex, ey, M, hk, q2⟩ => ?_
  subst ex
  subst ey
  obtain rfl : u = Value.ref d := rx
  obtain rfl : iv = Value.ref b := ry
  exact memo_notIn (u := .ref b) hu I2 M hk fun s3 I3 => ⟨.bl _, H2, I3, rfl, q2⟩
def tMGet (P : Program) (w : World) (K : PySem.W.Frag) (td ty : TE) : TE := fun σ H Q => td σ H fun x H1 => ty σ H1 fun y H2 => ∃ d b k xs a i t, x = .ref d ∧ y = .ref b ∧ MemoH P w K H2 d xs ∧ SqP K H2 b (k.map kV) ∧ atKey xs k = some (a, .int i t) ∧ Q (.int i) H2
theorem pe_mget (hu : X.A.units + 1 < cLine) (ho : PE X o td) (hi : PE X i ty) (hs : NoSl i) : PE X (.Subscript o i pos) (tMGet X.prog X.w X.K td ty) := by
  refine ⟨fun pins s σ H Q I h => ?_⟩
  refine subD_of PySem.F.slot_dict_getitem.lookup hs (thn (ho.run pins s σ H _ I h) fun u s1 ⟨x, H1, I1, rx, q1⟩ => thn (hi.run pins s1 σ H1 _ I1 q1) fun iv s2 ⟨y, H2, I2, ry, d, b, k, xs, a, n, t, ex, ey, M, hk, hp, q2⟩ => ?_)
  subst ex
  subst ey
  obtain rfl : u = Value.ref d := rx
  obtain rfl : iv = Value.ref b := ry
  exact ⟨(memo_dd I2 M).typeIs, memo_get hu I2 M hk hp fun s3 I3 => ⟨.int n, H2, I3, ⟨t, rfl⟩, q2⟩⟩
def sMPut (P : Program) (w : World) (K : PySem.W.Frag) (td ty tv : TE) : TS := fun D σ H => tv σ H fun v H1 => td σ H1 fun x H2 => ty σ H2 fun y H3 => ∃ d b k xs n, v = .int n ∧ x = .ref d ∧ y = .ref b ∧ MemoH P w K H3 d xs ∧ SqP K H3 b (k.map kV) ∧ xs.length < sizeLine ∧
  ∀ t, D.nx σ (upd H3 d (memoO P w d (storedH xs k b (.int n t))))
theorem ps_mput (hu : X.A.units + 1 < cLine) (ho : PE X o td) (hi : PE X i ty) (hv : PE X value tv) (hs : swapsWith value (some (.Subscript o i pos')) pos.line X.env = pure false) :
    PS X (.Assign [.Subscript o i pos'] value pos) (sMPut X.prog X.w X.K td ty tv) := by
  refine ⟨fun pins s σ H D I h => ?_⟩
  refine wpAny_Assign_Subscript (thn (hv.run pins s σ H _ I h) fun r s1 ⟨v, H1, I1, rv, q1⟩ => thn (ho.run pins s1 σ H1 _ I1 q1) fun u s2 ⟨x, H2, I2, rx, q2⟩ => thn (hi.run pins s2 σ H2 _ I2 q2) fun iv s3 ⟨y, H3, I3, ry, d, b, k, xs, n, ev, ex, ey, M, hk, hz, q3⟩ => ?_) hs
  subst ex
  subst ey
  subst ev
  obtain rfl : u = Value.ref d := rx
  obtain rfl : iv = Value.ref b := ry
  obtain ⟨t, rfl⟩ := (show ∃ t, r = Value.int n t from rv)
  exact memo_set hu I3 M hk hz fun s4 I4 => ⟨σ, _, I4, q3 t⟩
def tMNew (P : Program) (w : World) : TE := fun _ H Q => ∀ p, H p = none → (p == sysModules) = false → Q (.ref p) (upd H p (memoO P w p []))
theorem memo_empty {P : Program} {w : World} {H : Hp} (h : Heap) : ObjOk P w H (h.push { cls := .type "dict", data := .dict #[] }) h.objs.size (memoO P w h.objs.size []) :=
  memo_ok ⟨_, #[], 0, Heap.get?_push_size _ rfl, ⟨rfl, rfl, rfl⟩, rfl, rfl, List.nodup_nil⟩
theorem pe_mnew : PE X (.Dict [] [] pos) (tMNew X.prog X.w) := ⟨fun pins s σ H Q I h =>
  wpAny_Dict_empty ⟨.ref s.heap.objs.size, _, I.laid (a := s.heap.objs.size) (o := memoO X.prog X.w s.heap.objs.size []) (t' := s.toks) (fun _ _ q => Heap.get?_push_of_some _ q) (Nat.le_refl _) (memo_empty s.heap), rfl, h _ (I.hok.fresh (Nat.le_refl _)) (beq_eq_false_iff_ne.mpr (Ne.symm (Nat.ne_of_lt I.big)))⟩⟩
end
end Fx

/-! the greatest sum of what stands in disjoint pairs; no program in it -/
namespace Fx
open PySem PySem.Spec PyProof.Rows L2
abbrev Pr : Type := Str × Str
def gsum (pr : List Pr) (wt : Str → Int) : Nat → List Str → Int
  | 0, _ => 0
  | _ + 1, [] => 0
  | _ + 1, [_] => 0
  | k + 1, x :: y :: r => maxI (gsum pr wt k (y :: r) :: (((y :: r).filter fun o => decide ((x, o) ∈ pr)).map fun o => wt x + wt o + gsum pr wt k ((y :: r).filter fun z => decide (z ≠ o))))
def gS (pr : List Pr) (wt : Str → Int) (names : List Str) : Int := gsum pr wt names.length names
theorem gsum_fuel {pr : List Pr} {wt : Str → Int} : ∀ (k j : Nat) (names : List Str), names.length ≤ k → names.length ≤ j → gsum pr wt k names = gsum pr wt j names
  | 0, 0, _, _, _ => rfl
  | 0, j + 1, [], _, _ => rfl
  | 0, j + 1, _ :: _, h, _ => absurd h (Nat.not_succ_le_zero _)
  | k + 1, 0, [], _, _ => rfl
  | k + 1, 0, _ :: _, _, h => absurd h (Nat.not_succ_le_zero _)
  | k + 1, j + 1, [], _, _ => rfl
  | k + 1, j + 1, [_], _, _ => rfl
  | k + 1, j + 1, x :: y :: r, hk, hj => by
    have h1 : (y :: r).length ≤ k := Nat.le_of_succ_le_succ hk
    have h2 : (y :: r).length ≤ j := Nat.le_of_succ_le_succ hj
    have e : ∀ o, gsum pr wt k ((y :: r).filter fun z => decide (z ≠ o)) = gsum pr wt j ((y :: r).filter fun z => decide (z ≠ o)) := fun o =>
      gsum_fuel k j _ (Nat.le_trans (List.length_filter_le _ _) h1) (Nat.le_trans (List.length_filter_le _ _) h2)
    show maxI (gsum pr wt k (y :: r) :: _) = maxI (gsum pr wt j (y :: r) :: _)
    rw [gsum_fuel k j (y :: r) h1 h2]
    congr 2
    exact List.map_congr_left fun o _ => by rw [e]
theorem gS_few {pr : List Pr} {wt : Str → Int} {names : List Str} (h : names.length < 2) : gS pr wt names = 0 := by
  match names, h with
  | [], _ => rfl
  | [_], _ => rfl
  | _ :: _ :: _, h => exact absurd h (by simp)
theorem gS_step {pr : List Pr} {wt : Str → Int} {x y : Str} {r : List Str} : gS pr wt (x :: y :: r) = maxI (gS pr wt (y :: r) :: (((y :: r).filter fun o => decide ((x, o) ∈ pr)).map fun o => wt x + wt o + gS pr wt ((y :: r).filter fun z => decide (z ≠ o)))) := by
  show maxI (gsum pr wt (r.length + 1) (y :: r) :: _) = _
  congr 2
  refine List.map_congr_left fun o _ => ?_
  rw [gsum_fuel (y :: r).length _ ((y :: r).filter fun z => decide (z ≠ o)) (List.length_filter_le _ _) (Nat.le_refl _)]
  rfl
/-! ### disjoint pairs -/
def dj (p q : Pr) : Prop := p.1 ≠ q.1 ∧ p.1 ≠ q.2 ∧ p.2 ≠ q.1 ∧ p.2 ≠ q.2
theorem dj_symm {p q : Pr} (h : dj p q) : dj q p := ⟨h.1.symm, h.2.2.1.symm, h.2.1.symm, h.2.2.2.symm⟩
structure Mt (pairs : List Pr) (names : List Str) (M : List Pr) : Prop where
  inP : ∀ p ∈ M, p ∈ pairs
  inN : ∀ p ∈ M, p.1 ∈ names ∧ p.2 ∈ names
  pw : M.Pairwise dj
theorem mt_nil {pairs : List Pr} {names : List Str} : Mt pairs names [] := ⟨(by intro p m; cases m), (by intro p m; cases m), .nil⟩
def wsum (wt : Str → Int) (M : List Pr) : Int := (M.map fun p => wt p.1 + wt p.2).foldr (· + ·) 0
theorem wsum_cons {wt : Str → Int} {p : Pr} {M : List Pr} : wsum wt (p :: M) = wt p.1 + wt p.2 + wsum wt M := rfl
theorem wsum_perm {wt : Str → Int} {M N : List Pr} (h : M.Perm N) : wsum wt M = wsum wt N := by
  induction h with
  | nil => rfl
  | cons x _ ih => rw [wsum_cons, wsum_cons, ih]
  | swap x y l =>
    rw [wsum_cons, wsum_cons, wsum_cons, wsum_cons]
    omega
  | trans _ _ a b => exact a.trans b
/-- the first name of the pairs comes ahead of the second one, as the names stand -/
def Fore (pairs : List Pr) (names : List Str) : Prop := ∀ p ∈ pairs, ∀ (a b : List Str), names = a ++ p.2 :: b → p.1 ∉ b
theorem fore_tail {pairs : List Pr} {x : Str} {r : List Str} (h : Fore pairs (x :: r)) : Fore pairs r := fun p m a b e => h p m (x :: a) b (by rw [e]; rfl)
/-- no more than that -/
theorem gS_top {pr : List Pr} {wt : Str → Int} {lt : Str → Str → Prop} (irr : ∀ a, ¬ lt a a) (asym : ∀ a b, lt a b → ¬ lt b a) (ho : ∀ p ∈ pr, lt p.1 p.2) : ∀ (k : Nat) {names : List Str} {M : List Pr}, names.length ≤ k → names.Pairwise lt → Mt pr names M → wsum wt M ≤ gS pr wt names
  | k, [], M, _, _, h => by
    cases M with
    | nil => exact Int.le_refl _
    | cons p M => exact absurd (h.inN p List.mem_cons_self).1 List.not_mem_nil
  | k, [x], M, _, _, h => by
    cases M with
    | nil => exact Int.le_refl _
    | cons p M =>
      obtain ⟨a, b⟩ := h.inN p List.mem_cons_self
      have l := ho p (h.inP p List.mem_cons_self)
      rw [List.mem_singleton.mp a, List.mem_singleton.mp b] at l
      exact absurd l (irr x)
  | 0, x :: y :: r, M, hk, _, _ => absurd hk (Nat.not_succ_le_zero _)
  | k + 1, x :: y :: r, M, hk, ha, h => by
    have hc := List.pairwise_cons.mp ha
    rw [gS_step]
    have hk2 : (y :: r).length ≤ k := Nat.le_of_succ_le_succ hk
    obtain ⟨_, top⟩ := maxI_spec (is := gS pr wt (y :: r) :: (((y :: r).filter fun o => decide ((x, o) ∈ pr)).map fun o => wt x + wt o + gS pr wt ((y :: r).filter fun z => decide (z ≠ o)))) (fun z => nomatch z)
    by_cases e : ∃ p ∈ M, p.1 = x
    · obtain ⟨p, mpm, e⟩ := e
      have hp := h.inN p mpm
      have lt' := ho p (h.inP p mpm)
      have m2 : p.2 ∈ y :: r := by
        rcases List.mem_cons.mp hp.2 with c | c
        · rw [e, c] at lt'
          exact absurd lt' (irr x)
        · exact c
      have pm : M.Perm (p :: M.erase p) := List.perm_cons_erase mpm
      have pw2 : (p :: M.erase p).Pairwise dj := (pm.pairwise_iff fun {a b} q => dj_symm q).mp h.pw
      have pc := List.pairwise_cons.mp pw2
      have hM : Mt pr ((y :: r).filter fun z => decide (z ≠ p.2)) (M.erase p) := by
        refine ⟨fun q mq => h.inP q (List.mem_of_mem_erase mq), fun q mq => ?_, pc.2⟩
        obtain ⟨d1, d2, d3, d4⟩ := pc.1 q mq
        obtain ⟨n1, n2⟩ := h.inN q (List.mem_of_mem_erase mq)
        refine ⟨List.mem_filter.mpr ⟨?_, by simpa using d3.symm⟩, List.mem_filter.mpr ⟨?_, by simpa using d4.symm⟩⟩
        · exact (List.mem_cons.mp n1).resolve_left fun c => d1 (by rw [e, c])
        · exact (List.mem_cons.mp n2).resolve_left fun c => d2 (by rw [e, c])
      have ih := gS_top (wt := wt) irr asym ho k (names := (y :: r).filter fun z => decide (z ≠ p.2)) (Nat.le_trans (List.length_filter_le _ _) hk2) (hc.2.sublist List.filter_sublist) hM
      have mem : (x, p.2) ∈ pr := by
        have := h.inP p mpm
        rw [← e]
        exact this
      have t := top (wt x + wt p.2 + gS pr wt ((y :: r).filter fun z => decide (z ≠ p.2))) (List.mem_cons_of_mem _ (List.mem_map.mpr ⟨p.2, List.mem_filter.mpr ⟨m2, decide_eq_true mem⟩, rfl⟩))
      rw [wsum_perm pm, wsum_cons, e]
      omega
    · have hM : Mt pr (y :: r) M := by
        refine ⟨h.inP, fun p mpm => ?_, h.pw⟩
        obtain ⟨n1, n2⟩ := h.inN p mpm
        have m1 : p.1 ∈ y :: r := (List.mem_cons.mp n1).resolve_left fun c => e ⟨p, mpm, c⟩
        refine ⟨m1, (List.mem_cons.mp n2).resolve_left fun c => ?_⟩
        have l1 := ho p (h.inP p mpm)
        have l2 := hc.1 p.1 m1
        rw [c] at l1
        exact asym _ _ l1 l2
      exact Int.le_trans (gS_top (wt := wt) irr asym ho k hk2 hc.2 hM) (top _ List.mem_cons_self)
/-- and that much there is -/
theorem gS_some {pr : List Pr} {wt : Str → Int} : ∀ (k : Nat) {names : List Str}, names.length ≤ k → names.Nodup → ∃ M, Mt pr names M ∧ wsum wt M = gS pr wt names
  | _, [], _, _ => ⟨[], mt_nil, rfl⟩
  | _, [x], _, _ => ⟨[], mt_nil, rfl⟩
  | 0, x :: y :: r, hk, _ => absurd hk (Nat.not_succ_le_zero _)
  | k + 1, x :: y :: r, hk, nd => by
    have nc := List.nodup_cons.mp nd
    have hk2 : (y :: r).length ≤ k := Nat.le_of_succ_le_succ hk
    rw [gS_step]
    obtain ⟨is, _⟩ := maxI_spec (is := gS pr wt (y :: r) :: (((y :: r).filter fun o => decide ((x, o) ∈ pr)).map fun o => wt x + wt o + gS pr wt ((y :: r).filter fun z => decide (z ≠ o)))) (fun z => nomatch z)
    rcases List.mem_cons.mp is with e | m
    · obtain ⟨M, hM, l⟩ := gS_some (pr := pr) (wt := wt) k hk2 nc.2
      exact ⟨M, ⟨hM.inP, fun p m => ⟨List.mem_cons_of_mem _ (hM.inN p m).1, List.mem_cons_of_mem _ (hM.inN p m).2⟩, hM.pw⟩, by rw [l]; exact e.symm⟩
    · obtain ⟨o, mo, e⟩ := List.mem_map.mp m
      obtain ⟨mo, h⟩ := List.mem_filter.mp mo
      have h := of_decide_eq_true h
      obtain ⟨M, hM, l⟩ := gS_some (pr := pr) (wt := wt) k (names := (y :: r).filter fun z => decide (z ≠ o)) (Nat.le_trans (List.length_filter_le _ _) hk2) (nc.2.sublist List.filter_sublist)
      refine ⟨(x, o) :: M, ⟨fun p m => ?_, fun p m => ?_, List.pairwise_cons.mpr ⟨fun q mq => ?_, hM.pw⟩⟩, ?_⟩
      · rcases List.mem_cons.mp m with c | m
        · rw [c]
          exact h
        · exact hM.inP p m
      · rcases List.mem_cons.mp m with c | m
        · rw [c]
          exact ⟨List.mem_cons_self, List.mem_cons_of_mem _ mo⟩
        · exact ⟨List.mem_cons_of_mem _ (List.mem_filter.mp (hM.inN p m).1).1, List.mem_cons_of_mem _ (List.mem_filter.mp (hM.inN p m).2).1⟩
      · obtain ⟨a, b⟩ := hM.inN q mq
        obtain ⟨a1, a2⟩ := List.mem_filter.mp a
        obtain ⟨b1, b2⟩ := List.mem_filter.mp b
        have a3 : q.1 ≠ o := by simpa using a2
        have b3 : q.2 ≠ o := by simpa using b2
        exact ⟨fun c => nc.1 (by rw [show x = q.1 from c]; exact a1), fun c => nc.1 (by rw [show x = q.2 from c]; exact b1), a3.symm, b3.symm⟩
      · rw [wsum_cons, l]
        exact e
/-! ### how many lists there are of which these are the parts -/
def subs {α : Type} : List α → List (List α)
  | [] => [[]]
  | a :: l => subs l ++ (subs l).map (a :: ·)
theorem subs_len {α : Type} : ∀ l : List α, (subs l).length = 2 ^ l.length
  | [] => rfl
  | a :: l => by
    rw [subs, List.length_append, List.length_map, subs_len l, List.length_cons, Nat.pow_succ]
    omega
theorem subs_mem {α : Type} : ∀ {l m : List α}, m.Sublist l → m ∈ subs l
  | [], m, h => by
    rw [List.sublist_nil.mp h]
    exact List.mem_singleton.mpr rfl
  | a :: l, m, h => by
    cases h with
    | cons _ h => exact List.mem_append_left _ (subs_mem h)
    | cons_cons _ h => exact List.mem_append_right _ (List.mem_map_of_mem (subs_mem h))
theorem nodup_le {α : Type} [DecidableEq α] : ∀ {l m : List α}, l.Nodup → (∀ x ∈ l, x ∈ m) → l.length ≤ m.length
  | [], _, _, _ => Nat.zero_le _
  | a :: l, m, nd, h => by
    obtain ⟨n1, n2⟩ := List.nodup_cons.mp nd
    have ma := h a List.mem_cons_self
    have := nodup_le (l := l) (m := m.erase a) n2 fun x mx => (List.mem_erase_of_ne (fun e => n1 (by rw [← e]; exact mx))).mpr (h x (List.mem_cons_of_mem _ mx))
    rw [List.length_erase_of_mem ma] at this
    have := List.length_pos_of_mem ma
    rw [List.length_cons]
    omega
end Fx

/-! what is asked of the memo; slots of plain data -/
namespace Fx
open PySem PySem.Spec PyProof.Rows L2
def SlR (K : PySem.W.Frag) (Hh : Hp) (o : Option V) (e : Option (Bool × D)) : Prop := match e with
  | none => True
  | some (false, d) => ∃ v, o = some v ∧ Rp K Hh v d
  | some (true, _) => False
theorem pair_get {α β : Type} {R : α → β → Prop} : ∀ {xs : List α} {ys : List β} {i : Nat} {y : β}, Paired R xs ys → ys[i]? = some y → ∃ x, xs[i]? = some x ∧ R x y
  | _, _, 0, _, .cons h _, e => by
    cases e
    exact ⟨_, rfl, h⟩
  | _, _, i + 1, _, .cons _ t, e => pair_get (i := i) t e
theorem rs_of {K : PySem.W.Frag} {hs : List Addr} {H : Hp} {σ : L2.St} {ε : Env} (ain : AllIn hs H) (p : Paired (SlR K (hid hs H)) σ ε) : Rs K none 0 hs H σ ε := by
  refine ⟨?_, ain, (fun _ e => nomatch e), (fun _ e => nomatch e), fun i f d e => ?_, fun i j d e a h1 _ _ _ => ?_⟩
  · exact (Paired.length p).symm
  · obtain ⟨o, h1, h2⟩ := pair_get p e
    cases f with
    | false =>
      obtain ⟨v, e1, r⟩ := h2
      exact ⟨v, by rw [h1, e1], fun _ => .inl r, fun z => nomatch z⟩
    | true => exact False.elim h2
  · obtain ⟨o, _, h2⟩ := pair_get p h1
    exact False.elim h2
structure GrD (pr : List Pr) (wt : Str → Int) (names0 : List Str) (pd : D) (wk : List (Key × D)) : Prop where
  n12 : names0.length ≤ 12
  inP : ∀ a ∈ names0, ∀ b ∈ names0, inD (.tup [.str a, .str b]) pd = .ok (decide ((a, b) ∈ pr))
  wk : ∀ z ∈ names0, lookD wk (.inr z) = some (.int (wt z))
def keyN (ns : List Str) : List Key := ns.map Sum.inr
theorem keyN_V (ns : List Str) : (keyN ns).map kV = ns.map V.str := by
  unfold keyN
  rw [List.map_map]
  rfl
theorem keyN_inj : ∀ {a b : List Str}, keyN a = keyN b → a = b
  | [], [], _ => rfl
  | [], _ :: _, h => nomatch h
  | _ :: _, [], h => nomatch h
  | x :: a, y :: b, h => by
    unfold keyN at h
    rw [List.map_cons, List.map_cons] at h
    injection h with h1 h2
    injection h1 with h1
    rw [h1, keyN_inj h2]
structure MemoG (pr : List Pr) (wt : Str → Int) (names0 : List Str) (xs : List (List Key × Addr × Value)) : Prop where
  nd : (xs.map (·.1)).Nodup
  at_ : ∀ x ∈ xs, ∃ ns a t, x = (keyN ns, a, Value.int (gS pr wt ns) t) ∧ ns.Sublist names0
theorem MemoG.len {pr : List Pr} {wt : Str → Int} {names0 : List Str} {xs : List (List Key × Addr × Value)} (M : MemoG pr wt names0 xs) (h : names0.length ≤ 12) : xs.length < sizeLine := by
  have := nodup_le (m := (subs names0).map keyN) M.nd fun k mk => by
    obtain ⟨x, mx, e⟩ := List.mem_map.mp mk
    obtain ⟨ns, a, t, e1, e2⟩ := M.at_ x mx
    rw [← e, e1]
    exact List.mem_map_of_mem (subs_mem e2)
  rw [List.length_map, List.length_map, subs_len] at this
  have h2 : 2 ^ names0.length ≤ 2 ^ 12 := Nat.pow_le_pow_right (by decide) h
  rw [sizeLine_eq]
  omega
theorem MemoG.get {pr : List Pr} {wt : Str → Int} {names0 : List Str} {xs : List (List Key × Addr × Value)} (M : MemoG pr wt names0 xs) {ns : List Str} {p : Addr × Value} (h : atKey xs (keyN ns) = some p) : ∃ t, p.2 = Value.int (gS pr wt ns) t := by
  unfold atKey at h
  obtain ⟨x, hx, e⟩ := Option.map_eq_some_iff.mp h
  have mx := List.mem_of_find?_eq_some hx
  have ke : x.1 = keyN ns := of_decide_eq_true (p := x.1 = keyN ns) (List.find?_some (p := fun x : List Key × Addr × Value => decide (x.1 = keyN ns)) hx)
  obtain ⟨ms, a, t, e1, _⟩ := M.at_ x mx
  rw [e1] at ke
  rw [← e, e1, ← keyN_inj ke]
  exact ⟨t, rfl⟩
theorem atKey_none {xs : List (List Key × Addr × Value)} {k : List Key} (h : atKey xs k = none) : k ∉ xs.map (·.1) := fun m => by
  obtain ⟨x, mx, e⟩ := List.mem_map.mp m
  unfold atKey at h
  rw [Option.map_eq_none_iff, List.find?_eq_none] at h
  exact h x mx (decide_eq_true e)
theorem atKey_new {xs : List (List Key × Addr × Value)} {k : List Key} {a : Addr} {v : Value} (h : atKey xs k = none) : atKey (xs ++ [(k, a, v)]) k = some (a, v) := by
  unfold atKey at h ⊢
  rw [Option.map_eq_none_iff] at h
  rw [List.find?_append, h, List.find?_cons, decide_eq_true rfl]
  rfl
theorem MemoG.put {pr : List Pr} {wt : Str → Int} {names0 : List Str} {xs : List (List Key × Addr × Value)} (M : MemoG pr wt names0 xs) {ns : List Str} (s : ns.Sublist names0) (a : Addr) (t : Tok) :
    MemoG pr wt names0 (storedH xs (keyN ns) a (.int (gS pr wt ns) t)) ∧ ∃ a' t', atKey (storedH xs (keyN ns) a (.int (gS pr wt ns) t)) (keyN ns) = some (a', .int (gS pr wt ns) t') := by
  cases q : atKey xs (keyN ns) with
  | none =>
    rw [storedH_new q a (.int (gS pr wt ns) t)]
    refine ⟨⟨?_, fun x mx => ?_⟩, a, t, atKey_new q⟩
    · rw [List.map_append, List.nodup_append]
      refine ⟨M.nd, List.nodup_cons.mpr ⟨List.not_mem_nil, .nil⟩, fun k mk j mj e => atKey_none q ?_⟩
      have mj : j = keyN ns := List.mem_singleton.mp mj
      rw [← mj, ← e]
      exact mk
    · rcases List.mem_append.mp mx with mx | mx
      · exact M.at_ x mx
      · rw [List.mem_singleton.mp mx]
        exact ⟨ns, a, t, rfl, s⟩
  | some p =>
    rw [storedH_old q a (.int (gS pr wt ns) t)]
    have hk : ∀ x ∈ xs, (putAt (keyN ns) (Value.int (gS pr wt ns) t) x).1 = x.1 := fun x _ => by
      unfold putAt
      split <;> rfl
    refine ⟨⟨?_, fun x mx => ?_⟩, p.1, t, ?_⟩
    · rw [List.map_map, List.map_congr_left (f := (fun x : List Key × Addr × Value => x.1) ∘ putAt (keyN ns) (Value.int (gS pr wt ns) t)) (g := (·.1)) fun x mx => hk x mx]
      exact M.nd
    · obtain ⟨y, my, e⟩ := List.mem_map.mp mx
      obtain ⟨ms, b, t2, e1, e2⟩ := M.at_ y my
      unfold putAt at e
      split at e
      · rename_i c
        rw [e1] at c
        have c := keyN_inj c
        subst c
        exact ⟨ms, b, t, by rw [← e, e1], e2⟩
      · exact ⟨ms, b, t2, by rw [← e, e1], e2⟩
    · unfold atKey at q ⊢
      obtain ⟨x, hx, e⟩ := Option.map_eq_some_iff.mp q
      rw [List.find?_map]
      have : ((fun x : List Key × Addr × Value => decide (x.1 = keyN ns)) ∘ putAt (keyN ns) (Value.int (gS pr wt ns) t)) = fun x => decide (x.1 = keyN ns) := funext fun x => by
        show decide ((putAt (keyN ns) _ x).1 = keyN ns) = _
        unfold putAt
        split <;> rfl
      rw [this, hx]
      have c : x.1 = keyN ns := of_decide_eq_true (p := x.1 = keyN ns) (List.find?_some (p := fun x : List Key × Addr × Value => decide (x.1 = keyN ns)) hx)
      show some (putAt (keyN ns) _ x).2 = _
      unfold putAt
      rw [if_pos c]
      rw [← e]
theorem cut1 (d : D) (ds : List D) : cutD (d :: ds) (some 1) none = ds := by
  have e1 : HT.sIx (d :: ds).length 0 (some 1) = 1 := by
    have := HT.sIx_nat (d :: ds).length 0 1
    rw [show ((1 : Nat) : Int) = 1 from rfl] at this
    rw [this, List.length_cons]
    omega
  unfold cutD
  rw [e1, HT.sIx_none]
  show (ds.take _) = ds
  rw [List.take_of_length_le]
  rw [List.length_cons]
  omega
theorem RpA.str_tup {K : PySem.W.Frag} {H : Hp} {v : V} {ns : List Str} (h : Rp K H v (.tup (ns.map D.str))) : ∃ a, v = .ref a ∧ SqP K H a (ns.map V.str) := by
  cases h with
  | tup h r =>
    rw [r.of_strs] at h
    exact ⟨_, rfl, h⟩
theorem sqp_hid {K : PySem.W.Frag} {hs : List Addr} {H : Hp} {a : Addr} {xs : List V} (h : SqP K (hid hs H) a xs) : SqP K H a xs := h.same hid_le
theorem sm_none {H H' : Hp} (s : Sm none H H') : Same H H' := fun b o e => s.kp b o (fun z => nomatch z) e
theorem MemoH.same {P : Program} {w : World} {K : PySem.W.Frag} {H H' : Hp} {d : Addr} {xs : List (List Key × Addr × Value)} (M : MemoH P w K H d xs) (s : Same H H') : MemoH P w K H' d xs := ⟨s _ _ M.at_, M.ns, M.sz, fun x m => (M.ks x m).same s⟩
end Fx

/-! equality of data that hold no bools, dicts: what it says -/
namespace Fx
open PySem PySem.Spec PyProof.Rows L2
mutual
def okE : D → Bool
  | .non => true
  | .int _ => true
  | .str x => PyData.strOk x
  | .lst ds => okEs ds
  | .tup ds => okEs ds
  | _ => false
def okEs : List D → Bool
  | [] => true
  | d :: ds => okE d && okEs ds
end
mutual
def dep : D → Nat
  | .lst ds => deps ds + 1
  | .tup ds => deps ds + 1
  | _ => 0
def deps : List D → Nat
  | [] => 0
  | d :: ds => max (dep d) (deps ds)
end
mutual
theorem toPy_ok : ∀ {d : D}, okE d = true → ∃ p, toPy d = some p ∧ p.canLay0 = true ∧ p.depth = dep d
  | .non, _ => ⟨_, rfl, rfl, rfl⟩
  | .int _, _ => ⟨_, rfl, rfl, rfl⟩
  | .str _, h => ⟨_, rfl, h, rfl⟩
  | .lst ds, h => by
    obtain ⟨ps, h1, h2, h3⟩ := toPys_ok (show okEs ds = true from h)
    exact ⟨.list ps, by rw [toPy, h1]; rfl, by rw [PyData.canLay0]; exact h2, by rw [PyData.depth, h3]; rfl⟩
  | .tup ds, h => by
    obtain ⟨ps, h1, h2, h3⟩ := toPys_ok (show okEs ds = true from h)
    exact ⟨.tuple ps, by rw [toPy, h1]; rfl, by rw [PyData.canLay0]; exact h2, by rw [PyData.depth, h3]; rfl⟩
  | .bl _, h => nomatch h
  | .dic _, h => nomatch h
  | .ty _, h => nomatch h
  | .urn, h => nomatch h
  | .exn _ _, h => nomatch h
theorem toPys_ok : ∀ {ds : List D}, okEs ds = true → ∃ ps, toPys ds = some ps ∧ PyData.canLayAll0 ps = true ∧ PyData.depthAll ps = deps ds
  | [], _ => ⟨[], rfl, rfl, rfl⟩
  | d :: ds, h => by
    have h : (okE d && okEs ds) = true := h
    rw [Bool.and_eq_true] at h
    obtain ⟨p, a1, a2, a3⟩ := toPy_ok h.1
    obtain ⟨ps, b1, b2, b3⟩ := toPys_ok h.2
    exact ⟨p :: ps, by rw [toPys, a1, b1], by rw [PyData.canLayAll0, a2, b2]; rfl, by rw [PyData.depthAll, a3, b3]; rfl⟩
end
mutual
theorem eqv_ok : ∀ {d e : D} {p q : PyData}, okE d = true → okE e = true → toPy d = some p → toPy e = some q → PyData.eqv p q = eqT d e
  | .non, e, _, _, _, he, hp, hq => by
    cases hp
    cases e <;> first | (cases hq; rfl) | (cases he) | skip
    all_goals (rename_i ds; obtain ⟨ps, h1, _, _⟩ := toPys_ok (show okEs ds = true from he); rw [toPy, h1] at hq; cases hq; rfl)
  | .int i, e, _, _, _, he, hp, hq => by
    cases hp
    cases e <;> first | (cases hq; first | rfl | exact beq_eq_decide _ _) | (cases he) | skip
    all_goals (rename_i ds; obtain ⟨ps, h1, _, _⟩ := toPys_ok (show okEs ds = true from he); rw [toPy, h1] at hq; cases hq; rfl)
  | .str i, e, _, _, _, he, hp, hq => by
    cases hp
    cases e <;> first | (cases hq; first | rfl | exact beq_eq_decide _ _) | (cases he) | skip
    all_goals (rename_i ds; obtain ⟨ps, h1, _, _⟩ := toPys_ok (show okEs ds = true from he); rw [toPy, h1] at hq; cases hq; rfl)
  | .lst ds, e, p, q, hd, he, hp, hq => by
    obtain ⟨ps, h1, _, _⟩ := toPys_ok (show okEs ds = true from hd)
    rw [toPy, h1] at hp
    cases hp
    cases e <;> first | (cases hq; rfl) | (cases he) | skip
    · rename_i es
      obtain ⟨qs, g1, _, _⟩ := toPys_ok (show okEs es = true from he)
      rw [toPy, g1] at hq
      cases hq
      exact eqvs_ok hd he h1 g1
    · rename_i es
      obtain ⟨qs, g1, _, _⟩ := toPys_ok (show okEs es = true from he)
      rw [toPy, g1] at hq
      cases hq
      rfl
  | .tup ds, e, p, q, hd, he, hp, hq => by
    obtain ⟨ps, h1, _, _⟩ := toPys_ok (show okEs ds = true from hd)
    rw [toPy, h1] at hp
    cases hp
    cases e <;> first | (cases hq; rfl) | (cases he) | skip
    · rename_i es
      obtain ⟨qs, g1, _, _⟩ := toPys_ok (show okEs es = true from he)
      rw [toPy, g1] at hq
      cases hq
      rfl
    · rename_i es
      obtain ⟨qs, g1, _, _⟩ := toPys_ok (show okEs es = true from he)
      rw [toPy, g1] at hq
      cases hq
      exact eqvs_ok hd he h1 g1
  | .bl _, _, _, _, h, _, _, _ => nomatch h
  | .dic _, _, _, _, h, _, _, _ => nomatch h
  | .ty _, _, _, _, h, _, _, _ => nomatch h
  | .urn, _, _, _, h, _, _, _ => nomatch h
  | .exn _ _, _, _, _, h, _, _, _ => nomatch h
theorem eqvs_ok : ∀ {ds es : List D} {ps qs : List PyData}, okEs ds = true → okEs es = true → toPys ds = some ps → toPys es = some qs → PyData.eqvAll ps qs = eqTs ds es
  | [], [], _, _, _, _, hp, hq => by
    cases hp
    cases hq
    rfl
  | [], e :: es, _, qs, _, he, hp, hq => by
    cases hp
    cases qs with
    | nil =>
      rw [toPys] at hq
      split at hq <;> cases hq
    | cons _ _ => rfl
  | d :: ds, [], ps, _, hd, _, hp, hq => by
    cases hq
    cases ps with
    | nil =>
      rw [toPys] at hp
      split at hp <;> cases hp
    | cons _ _ => rfl
  | d :: ds, e :: es, _, _, hd, he, hp, hq => by
    have hd : (okE d && okEs ds) = true := hd
    have he : (okE e && okEs es) = true := he
    rw [Bool.and_eq_true] at hd he
    obtain ⟨p, a1, _, _⟩ := toPy_ok hd.1
    obtain ⟨ps, b1, _, _⟩ := toPys_ok hd.2
    obtain ⟨q, c1, _, _⟩ := toPy_ok he.1
    obtain ⟨qs, d1, _, _⟩ := toPys_ok he.2
    rw [toPys, a1, b1] at hp
    rw [toPys, c1, d1] at hq
    cases hp
    cases hq
    show (PyData.eqv p q && PyData.eqvAll ps qs) = (eqT d e && eqTs ds es)
    rw [eqv_ok hd.1 he.1 a1 c1, eqvs_ok hd.2 he.2 b1 d1]
end
mutual
theorem eqT_refl : ∀ {d : D}, okE d = true → eqT d d = true
  | .non, _ => rfl
  | .int i, _ => decide_eq_true rfl
  | .str i, _ => decide_eq_true rfl
  | .lst ds, h => eqTs_refl (ds := ds) h
  | .tup ds, h => eqTs_refl (ds := ds) h
  | .bl _, h => nomatch h
  | .dic _, h => nomatch h
  | .ty _, h => nomatch h
  | .urn, h => nomatch h
  | .exn _ _, h => nomatch h
theorem eqTs_refl : ∀ {ds : List D}, okEs ds = true → eqTs ds ds = true
  | [], _ => rfl
  | d :: ds, h => by
    have h : (okE d && okEs ds) = true := h
    rw [Bool.and_eq_true] at h
    show (eqT d d && eqTs ds ds) = true
    rw [eqT_refl h.1, eqTs_refl h.2]
    rfl
end
theorem eqT_iff {d e : D} (h : okE d = true) : eqT d e = true ↔ d = e := ⟨eqT_eq, fun c => by rw [← c]; exact eqT_refl h⟩
theorem shaped_ok {d : D} {p : PyData} (h : okE d = true) (hd : dep d ≤ 64) (e : toPy d = some p) : SeqAt.shaped p = true := by
  obtain ⟨q, h1, h2, h3⟩ := toPy_ok h
  rw [e] at h1
  cases h1
  unfold SeqAt.shaped
  rw [h2, decide_eq_true (by rw [h3]; exact hd)]
  rfl
theorem eqDeep_ok {d e : D} (hd : okE d = true) (he : okE e = true) (dd : dep d ≤ 64) (de : dep e ≤ 64) : eqDeep d e = .ok (eqT d e) := by
  obtain ⟨p, a1, _, _⟩ := toPy_ok hd
  obtain ⟨q, b1, _, _⟩ := toPy_ok he
  unfold eqDeep
  rw [a1, b1]
  dsimp only
  rw [if_pos ⟨shaped_ok hd dd a1, shaped_ok he de b1⟩, eqv_ok hd he a1 b1]
theorem eqD_ok {d e : D} (hd : okE d = true) (he : okE e = true) (dd : dep d ≤ 64) (de : dep e ≤ 64) : eqD d e = .ok (eqT d e) := by
  unfold eqD
  split <;> first | rfl | exact eqDeep_ok hd he dd de
end Fx

/-! membership; pairs of texts; the greatest sum as a function of data -/
namespace Fx
open PySem PySem.Spec PyProof.Rows L2
theorem okEs_all : ∀ {ds : List D}, okEs ds = true ↔ ∀ d ∈ ds, okE d = true
  | [] => ⟨(fun _ d m => nomatch m), fun _ => rfl⟩
  | d :: ds => by
    show (okE d && okEs ds) = true ↔ _
    rw [Bool.and_eq_true, okEs_all (ds := ds)]
    exact ⟨fun ⟨a, b⟩ e m => (List.mem_cons.mp m).elim (fun c => by rw [c]; exact a) (b e), fun h => ⟨h d List.mem_cons_self, fun e m => h e (List.mem_cons_of_mem _ m)⟩⟩
theorem deps_le : ∀ {ds : List D} {n : Nat}, (∀ d ∈ ds, dep d ≤ n) → deps ds ≤ n
  | [], _, _ => Nat.zero_le _
  | d :: ds, n, h => Nat.max_le.mpr ⟨h d List.mem_cons_self, deps_le fun e m => h e (List.mem_cons_of_mem _ m)⟩
theorem toPys_map : ∀ {ds : List D} {ps : List PyData}, toPys ds = some ps → ∀ {f : PyData → Bool} {g : D → Bool}, (∀ d ∈ ds, ∀ p, toPy d = some p → f p = g d) → ps.any f = ds.any g
  | [], ps, h, f, g, hg => by
    cases h
    rfl
  | d :: ds, ps, h, f, g, hg => by
    rw [toPys] at h
    split at h
    · rename_i p ps h1 h2
      cases h
      rw [List.any_cons, List.any_cons, hg d List.mem_cons_self p h1, toPys_map h2 fun e m => hg e (List.mem_cons_of_mem _ m)]
    · cases h
theorem eqT_symm {d e : D} (hd : okE d = true) (he : okE e = true) : eqT d e = eqT e d := by
  rw [Bool.eq_iff_iff, eqT_iff hd, eqT_iff he]
  exact ⟨fun h => h.symm, fun h => h.symm⟩
theorem in_deep {d : D} {ds : List D} (hv : vOf d = none) (hd : okE d = true) (he : ∀ e ∈ ds, okE e = true) (dd : dep d ≤ 60) (de : ∀ e ∈ ds, dep e ≤ 60) : inSeq d ds = .ok (ds.any fun e => eqT e d) := by
  obtain ⟨p, a1, _, _⟩ := toPy_ok hd
  obtain ⟨ps, b1, _, _⟩ := toPys_ok (okEs_all.mpr he)
  unfold inSeq
  rw [hv]
  dsimp only
  rw [a1, b1]
  dsimp only
  have s2 : SeqAt.shaped (.list ps) = true := shaped_ok (d := .lst ds) (okEs_all.mpr he) (by show deps ds + 1 ≤ 64; have := deps_le de; omega) (by rw [toPy, b1]; rfl)
  rw [if_pos ⟨shaped_ok hd (by omega) a1, s2⟩, toPys_map b1 (g := fun e => eqT e d) fun e me q eq => eqv_ok (he e me) hd eq a1]
/-- of a family of such data, each told apart -/
theorem in_fam {α : Type} {f : α → D} {a : α} {l : List α} [Decidable (a ∈ l)] (hv : vOf (f a) = none) (hd : okE (f a) = true) (he : ∀ b ∈ l, okE (f b) = true) (dd : dep (f a) ≤ 60) (de : ∀ b ∈ l, dep (f b) ≤ 60) (inj : ∀ b ∈ l, f b = f a → b = a) : inSeq (f a) (l.map f) = .ok (decide (a ∈ l)) := by
  rw [in_deep hv hd (fun e m => by obtain ⟨b, mb, e⟩ := List.mem_map.mp m; rw [← e]; exact he b mb) dd (fun e m => by obtain ⟨b, mb, e⟩ := List.mem_map.mp m; rw [← e]; exact de b mb)]
  congr 1
  rw [Bool.eq_iff_iff, List.any_eq_true, decide_eq_true_eq]
  constructor
  · rintro ⟨e, m, h⟩
    obtain ⟨b, mb, eb⟩ := List.mem_map.mp m
    rw [← eb, eqT_iff (he b mb)] at h
    rw [← inj b mb h]
    exact mb
  · intro m
    exact ⟨f a, List.mem_map_of_mem m, eqT_refl hd⟩
theorem vsOf_strs : ∀ ns : List Str, vsOf (ns.map D.str) = some (ns.map V.str)
  | [] => rfl
  | n :: ns => by
    rw [List.map_cons, List.map_cons, vsOf, vsOf_strs ns]
    rfl
theorem inV_str (z : Str) : ∀ ns : List Str, inV (.str z) (ns.map V.str) = decide (z ∈ ns)
  | [] => rfl
  | n :: ns => by
    have ih := inV_str z ns
    unfold inV at ih ⊢
    rw [List.map_cons, List.any_cons, ih]
    show ((n == z) || decide (z ∈ ns)) = decide (z ∈ n :: ns)
    by_cases e : z = n
    · subst e
      simp
    · have e2 : ¬ n = z := fun q => e q.symm
      simp [e, e2]
theorem in_strs {z : Str} {ns : List Str} : inSeq (.str z) (ns.map D.str) = .ok (decide (z ∈ ns)) := by
  unfold inSeq
  rw [vsOf_strs]
  show R.ok (inV (.str z) (ns.map V.str)) = _
  rw [inV_str]
/-! ### pairs of texts -/
def prD (p : Pr) : D := .tup [.str p.1, .str p.2]
def okPr (p : Pr) : Bool := PyData.strOk p.1 && PyData.strOk p.2
theorem okE_pr {p : Pr} (h : okPr p = true) : okE (prD p) = true := by
  unfold okPr at h
  rw [Bool.and_eq_true] at h
  show (PyData.strOk p.1 && (PyData.strOk p.2 && true)) = true
  rw [h.1, h.2]
  rfl
theorem prD_inj {p q : Pr} (h : prD p = prD q) : p = q := by
  obtain ⟨a, b⟩ := p
  obtain ⟨c, d⟩ := q
  injection h with h
  injection h with h1 h
  injection h with h2 _
  injection h1 with h1
  injection h2 with h2
  rw [show a = c from h1, show b = d from h2]
theorem in_prs {p : Pr} {ps : List Pr} (hp : okPr p = true) (hs : ∀ q ∈ ps, okPr q = true) : inSeq (prD p) (ps.map prD) = .ok (decide (p ∈ ps)) :=
  in_fam (f := prD) rfl (okE_pr hp) (fun q m => okE_pr (hs q m)) (by show 1 ≤ 60; decide) (fun q m => by show 1 ≤ 60; decide) fun q m h => prD_inj h
def prOf : D → Option Pr
  | .tup [.str a, .str b] => some (a, b)
  | _ => none
theorem prOf_eq {d : D} {p : Pr} (h : prOf d = some p) : d = prD p := by
  unfold prOf at h
  split at h
  · cases h
    rfl
  · cases h
def prsOf : List D → Option (List Pr)
  | [] => some []
  | d :: ds => match prOf d, prsOf ds with
    | some p, some ps => some (p :: ps)
    | _, _ => none
theorem prsOf_eq : ∀ {ds : List D} {ps : List Pr}, prsOf ds = some ps → ds = ps.map prD
  | [], ps, h => by
    cases h
    rfl
  | d :: ds, ps, h => by
    rw [prsOf] at h
    split at h
    · rename_i p qs h1 h2
      cases h
      rw [prOf_eq h1, prsOf_eq h2]
      rfl
    · cases h
theorem prsOf_map : ∀ ps : List Pr, prsOf (ps.map prD) = some ps
  | [] => rfl
  | p :: ps => by
    rw [List.map_cons, prsOf, prsOf_map ps]
    rfl
theorem strsOf_map : ∀ ns : List Str, strsOf (ns.map D.str) = some ns
  | [] => rfl
  | n :: ns => by
    rw [List.map_cons, strsOf, strsOf_map ns]
    rfl
def strsD : D → Option (List Str)
  | .lst ds => strsOf ds
  | .tup ds => strsOf ds
  | _ => none
def prsD : D → Option (List Pr)
  | .lst ds => prsOf ds
  | .tup ds => prsOf ds
  | _ => none
theorem strsD_eq {d : D} {ns : List Str} (h : strsD d = some ns) : d = .lst (ns.map D.str) ∨ d = .tup (ns.map D.str) := by
  unfold strsD at h
  split at h
  · exact .inl (by rw [strsOf_eq h])
  · exact .inr (by rw [strsOf_eq h])
  · cases h
theorem prsD_eq {d : D} {ps : List Pr} (h : prsD d = some ps) : d = .lst (ps.map prD) ∨ d = .tup (ps.map prD) := by
  unfold prsD at h
  split at h
  · exact .inl (by rw [prsOf_eq h])
  · exact .inr (by rw [prsOf_eq h])
  · cases h
theorem prsD_in {d : D} {ps : List Pr} (h : prsD d = some ps) {p : Pr} (hp : okPr p = true) (hs : ∀ q ∈ ps, okPr q = true) : inD (prD p) d = .ok (decide (p ∈ ps)) := by
  rcases prsD_eq h with e | e
  · rw [e]
    exact in_prs hp hs
  · rw [e]
    exact in_prs hp hs
/-! ### greatest_sum -/
def wtOf (wk : List (Key × D)) (z : Str) : Int := match lookD wk (.inr z) with
  | some (.int i) => i
  | _ => 0
def isWt (wk : List (Key × D)) (z : Str) : Bool := match lookD wk (.inr z) with
  | some (.int _) => true
  | _ => false
theorem isWt_eq {wk : List (Key × D)} {z : Str} (h : isWt wk z = true) : lookD wk (.inr z) = some (.int (wtOf wk z)) := by
  unfold isWt at h
  split at h
  · rename_i i e
    unfold wtOf
    rw [e]
  · cases h
def gsF : List D → R D
  | [nd, pd, .dic wk] => match strsD nd, prsD pd with
    | some ns, some ps => if ns.length ≤ 12 ∧ (ns.all (isWt wk)) = true ∧ (ns.all PyData.strOk) = true ∧ (ps.all okPr) = true then .ok (.int (gS ps (wtOf wk) ns)) else .no
    | _, _ => .no
  | _ => .no
end Fx

namespace Cx
open PySem PySem.Spec PyProof.Rows L2
def topS (i : Nat) : Stmt := PySem.Challenge.pw_crosshomes_k18_the_least_swaps.main.body.getD i (.Pass ⟨0, 0, 0, 0⟩)
abbrev sMust : Stmt := topS 3
abbrev sHouseholds : Stmt := topS 4
abbrev sWishes : Stmt := topS 5
abbrev sSuited : Stmt := topS 6
abbrev sSuiting : Stmt := topS 12
abbrev sBox : Stmt := topS 18
abbrev sTake : Stmt := topS 19
abbrev sCells : Stmt := topS 20
abbrev sLists : Stmt := topS 21
abbrev sSame : Stmt := topS 22
abbrev sFew : Stmt := topS 23
abbrev sMixed : Stmt := topS 24
abbrev sTome : Stmt := topS 25
abbrev sFolk : Stmt := topS 26
abbrev sWants : Stmt := topS 27
abbrev sSuits : Stmt := topS 28
abbrev sSix : Stmt := topS 30
abbrev sLinked : Stmt := topS 31
abbrev sKite : Stmt := topS 32
abbrev sWoven : Stmt := topS 34
abbrev sApart : Stmt := topS 37
abbrev sByHand : Stmt := topS 38
abbrev sRight : Stmt := topS 39
abbrev sLaw : Stmt := topS 40
theorem Stays.of {K : PySem.W.Frag} {H1 H : Hp} {x : V} {xs : List V} (s : Same H1 H) : Stays K H1 H x xs := fun _ _ => ⟨fun h => s.seq h, fun h => by
  rcases h with (h | ⟨o, h⟩) | h
  · exact .inl (.inl (s _ _ h))
  · exact .inl (.inr ⟨o, s _ _ h⟩)
  · exact .inr h⟩
theorem st_tup {K : PySem.W.Frag} {H H' : Hp} {a : Addr} {xs : List V} (e : Same H H') (h : SqT K H a xs) : SqT K H' a xs := by
  rcases h with (h | ⟨o, h⟩) | h
  · exact .inl (.inl (e _ _ h))
  · exact .inl (.inr ⟨o, e _ _ h⟩)
  · exact .inr h
theorem st_sv {K : PySem.W.Frag} {H H' : Hp} {x : V} {xs : List V} (e : Same H H') (h : SeqV K H x xs) : SeqV K H' x xs := by
  obtain ⟨a, rfl, h⟩ := h
  exact ⟨a, rfl, h.imp (fun z => e.seq z) fun z => st_tup e z⟩
theorem same_new {H : Hp} {p : Addr} {o : HO} (h : H p = none) : Same H (upd H p o) := fun b x e => by
  rw [upd_ne (ne_of_none e h)]
  exact e
/-! ### what a sheet is, of lists or tuples -/
def RowsV (K : PySem.W.Frag) (H : Hp) : List V → List (Str × List Str) → Prop := Paired fun v q => ∃ w, SeqV K H v [.str q.1, w] ∧ SeqV K H w (q.2.map V.str)
structure ShV (K : PySem.W.Frag) (H : Hp) (x : V) (rs : List (Str × List Str)) (es : List Str) : Prop where
  ex : ∃ r e rows, SeqV K H x [r, e] ∧ SeqV K H r rows ∧ RowsV K H rows rs ∧ SeqV K H e (es.map V.str)
theorem RowsV.at {K : PySem.W.Frag} {H : Hp} : ∀ {rows : List V} {rs : List (Str × List Str)} {i : Nat} {y : V}, RowsV K H rows rs → rows[i]? = some y → ∃ q, rs[i]? = some q ∧ ∃ w, SeqV K H y [.str q.1, w] ∧ SeqV K H w (q.2.map V.str)
  | _, _, 0, y, .cons h _, e => by
    cases e
    exact ⟨_, rfl, h⟩
  | _, _, i + 1, y, .cons _ t, e => RowsV.at (i := i) t e
theorem st_rows {K : PySem.W.Frag} {H H' : Hp} (e : Same H H') {rows : List V} {rs : List (Str × List Str)} (h : RowsV K H rows rs) : RowsV K H' rows rs :=
  Paired.mapP h fun _ _ ⟨w, a, b⟩ => ⟨w, st_sv e a, st_sv e b⟩
theorem st_sh {K : PySem.W.Frag} {H H' : Hp} {x : V} {rs : List (Str × List Str)} {es : List Str} (e : Same H H') (h : ShV K H x rs es) : ShV K H' x rs es := by
  obtain ⟨r, m, rows, a, b, c, d⟩ := h.ex
  exact ⟨r, m, rows, st_sv e a, st_sv e b, st_rows e c, st_sv e d⟩
theorem ix_sv {K : PySem.W.Frag} {H : Hp} {x v : V} {xs : List V} {i : Int} {Q : VK} (h : SeqV K H x xs) (e : atI xs i = some v) (q : Q v H) : rIx K x (.int i) H Q := by
  obtain ⟨a, rfl, h | h⟩ := h
  · exact .inl ⟨a, xs, i, v, rfl, rfl, h, e, q⟩
  · exact .inr (.inl ⟨a, xs, i, v, rfl, rfl, h, e, q⟩)
section
variable {P : Program} {w : World} {K : PySem.W.Frag} {mg : Str → Option Value} {base : Heap}
/-! ### households -/
def spHouseholds (K : PySem.W.Frag) : Sp := fun vs H Q _ => ∃ x rs es, vs = [x] ∧ ShV K H x rs es ∧ rs.length ≤ 1000 ∧
  ∀ p H', Same H H' → H p = none → H' p = some (.tup (rs.map fun q => V.str q.1)) → Q (.ref p) H'
theorem scHs : FnScope ["sheet", "name", "wants"] ["sheet"] (defScope sHouseholds) := ⟨rfl, rfl, rfl, by decide +kernel, rfl, by decide +kernel, by decide +kernel⟩
theorem ok_households {f : Addr} {fd : FuncData} (F : Fun K "households" "households" sHouseholds f fd) (mt : mg "tuple" = none) : FnOk P w K mg base CX0 1 f fd ["sheet"] (spHouseholds K) := by
  refine F.ok scHs (fun vs H Q E h => ?_) (fun cdv A outer s H vs Q E hr h => ?_)
  · obtain ⟨x, rs, es, rfl, _⟩ := h
    rfl
  obtain ⟨x, rs, es, rfl, S, hz, k⟩ := h
  obtain ⟨r, e, rows, h1, h2, h3, h4⟩ := S.ex
  refine ⟨_, pss_one (ps_ret (pe_callTy call_tuple_of (by rfl) mt (by decide +kernel) (pa_cons
    (pe_lcA (own := [("name", 1), ("wants", 2)]) (g := gSeq K 2 (gCons (gName 1) (gCons (gName 2) gNil))) (tt := tYes) rfl scHs.nd (pe_ix ix_seq (pv 0) pe_int (fun _ _ => rfl)) (blkOk_by (N := ["sheet", "name", "wants"]) (sc := defScope sHouseholds) (by decide +kernel))
      (fun _ _ _ _ _ => pg_seq rfl (pgs_cons (pg_name (i := 1) scHs.nd rfl (.inl rfl)) (pgs_cons (pg_name (i := 2) scHs.nd rfl (.inl rfl)) pgs_nil))) (fun _ _ _ _ _ => pts_nil) (fun _ _ _ _ _ => pv 1)) pa_nil))), ?_⟩
  refine ⟨x, rfl, ?_⟩
  refine ix_sv h1 (atI_nat (j := 0) rfl) ?_
  refine lc_any h2 (Stays.of (Same.refl H)) (fun D i H' => Same H H' ∧ H' D = some (.lst ((rs.take i).map fun q => V.str q.1))) (fun D nD => ⟨same_new nD, upd_same⟩) (fun D i H' _ q => Stays.of q.1) (fun D i y H' nD hy ⟨sm, hD⟩ => ?_) (fun D H' nD ⟨sm, hD⟩ => ?_)
  · obtain ⟨q, hq, w2, hw, _⟩ := h3.at hy
    refine ⟨_, st_sv sm hw, rfl, _, _, rfl, _, _, rfl, rfl, rfl, ?_⟩
    refine ⟨_, rfl, _, hD, ?_, fun b o eb => ?_, ?_⟩
    · rw [List.length_map, List.length_take]
      exact Nat.lt_of_le_of_lt (Nat.min_le_right _ _) (small1000 hz)
    · rw [upd_ne (ne_of_none eb nD)]
      exact sm _ _ eb
    · rw [upd_same, List.take_add_one, hq]
      simp
  · refine ⟨D, _, rfl, .inl ⟨SqL.of hD, fun p np => ?_⟩⟩
    refine k p _ (sm.trans (same_new np)) (sm.free np) ?_
    rw [upd_same, List.take_of_length_le (by rw [Paired.length h3]; exact Nat.le_refl _)]
end
/-! ### the urn -/
def Keep (u : Addr) (H H' : Hp) : Prop := ∀ b o, b ≠ u → H b = some o → H' b = some o
def hide (u : Addr) (H : Hp) : Hp := fun b => if b = u then none else H b
def UrnAt (u : Addr) (H : Hp) (n : Nat) : Prop := ∃ a b c : Int, H u = some (.lst [.int a, .int b, .int c]) ∧ 0 ≤ c ∧ c ≤ n
theorem hide_at {u : Addr} {H : Hp} : hide u H u = none := if_pos rfl
theorem hide_ne {u b : Addr} {H : Hp} (h : b ≠ u) : hide u H b = H b := if_neg h
theorem hide_le {u : Addr} {H : Hp} : Same (hide u H) H := fun b o e => by
  by_cases c : b = u
  · rw [c, hide_at] at e
    cases e
  · rw [hide_ne c] at e
    exact e
theorem keep_refl (u : Addr) (H : Hp) : Keep u H H := fun _ _ _ e => e
theorem Keep.trans {u : Addr} {H H1 H2 : Hp} (a : Keep u H H1) (b : Keep u H1 H2) : Keep u H H2 := fun c o n e => b c o n (a c o n e)
theorem Keep.same {u : Addr} {H H' : Hp} (a : Keep u H H') : Same (hide u H) (hide u H') := fun b o e => by
  by_cases c : b = u
  · rw [c, hide_at] at e
    cases e
  · rw [hide_ne c] at e ⊢
    exact a b o c e
theorem keep_of_same {u : Addr} {H H' : Hp} (a : Same H H') : Keep u H H' := fun b o _ e => a b o e
theorem keep_new {u p : Addr} {H : Hp} {o : HO} (h : H p = none) : Keep u H (upd H p o) := keep_of_same (same_new h)
theorem keep_u {u : Addr} {H : Hp} {o : HO} : Keep u H (upd H u o) := fun b x n e => by
  rw [upd_ne n]
  exact e
/-- a store to what was not there ahead -/
theorem Keep.put {u p : Addr} {H H1 : Hp} {o : HO} (a : Keep u H H1) (h : H p = none) : Keep u H (upd H1 p o) := fun b x n e => by
  rw [upd_ne (ne_of_none e h)]
  exact a b x n e
theorem UrnAt.ne {u p : Addr} {H : Hp} {n : Nat} (U : UrnAt u H n) (h : H p = none) : p ≠ u := by
  obtain ⟨_, _, _, e, _⟩ := U
  exact (ne_of_none e h).symm
theorem UrnAt.upd {u p : Addr} {H : Hp} {n : Nat} {o : HO} (U : UrnAt u H n) (h : p ≠ u) : UrnAt u (upd H p o) n := by
  obtain ⟨a, b, c, e, r⟩ := U
  exact ⟨a, b, c, by rw [upd_ne h.symm]; exact e, r⟩
theorem UrnAt.le {u : Addr} {H : Hp} {n m : Nat} (U : UrnAt u H n) (h : n ≤ m) : UrnAt u H m := by
  obtain ⟨a, b, c, e, r1, r2⟩ := U
  exact ⟨a, b, c, e, r1, by omega⟩
theorem Keep.free {u p : Addr} {H H' : Hp} (a : Keep u H H') (n : p ≠ u) (h : H' p = none) : H p = none := by
  cases q : H p with
  | none => rfl
  | some o =>
    rw [a p o n q] at h
    cases h
theorem hide_upd {u p : Addr} {H : Hp} {o : HO} (h : p ≠ u) : hide u (upd H p o) = upd (hide u H) p o := by
  funext b
  by_cases c : b = u
  · subst c
    rw [hide_at, upd_ne h.symm, hide_at]
  · rw [hide_ne c]
    by_cases d : b = p
    · subst d
      rw [upd_same, upd_same]
    · rw [upd_ne d, upd_ne d, hide_ne c]
section
variable {P : Program} {w : World} {K : PySem.W.Frag} {mg : Str → Option Value} {base : Heap}
def spTake : Sp := fun vs H Q _ => ∃ (u : Addr) (low : Int) (n : Nat), vs = [.ref u, .int low] ∧ UrnAt u H n ∧ n ≤ 1000000 ∧ 0 < low ∧ low < 1000 ∧
  ∀ r H', 0 ≤ r → r < low → UrnAt u H' (n + 1) → Keep u H H' → Q (.int r) H'
theorem scTk : FnScope ["_law_urn", "_law_low_so", "_law_drawn", "_law_once", "_law_far", "_law_twice"] ["_law_urn", "_law_low_so"] (defScope sTake) := ⟨rfl, rfl, rfl, by decide +kernel, rfl, by decide +kernel, by decide +kernel⟩
theorem ok_take {f : Addr} {fd : FuncData} (F : Fun K "_law_take" "_law_take" sTake f fd) (mi : mg "int" = none) : FnOk P w K mg base CX0 1 f fd ["_law_urn", "_law_low_so"] spTake := by
  refine F.ok scTk (fun vs H Q E h => ?_) (fun cdv A outer s H vs Q E hr h => ?_)
  · obtain ⟨u, low, n, rfl, _⟩ := h
    rfl
  obtain ⟨u, low, n, rfl, ⟨a, b, c, hu, c0, c1⟩, hn, l0, l1, k⟩ := h
  refine ⟨_, pss_cons (ps_if (pt_cmpR op_gt (pe_ix ix_list (pv 0) pe_int (fun _ _ => rfl)) pe_int (nomark _))
      (pss_cons (ps_set (i := 2) scTk.nd rfl (.inl rfl) (pe_op op_mod (pe_callTy call_int1 (by rfl) mi (by decide +kernel) (pa_cons (pe_ix ix_list (pv 0) pe_int (fun _ _ => rfl)) pa_nil)) (pv 1)))
      (pss_cons (ps_asg (pe_op op_fdiv (pe_ix ix_list (pv 0) pe_int (fun _ _ => rfl)) (pv 1)) (pg_sub (pv 0) pe_int set_list))
      (pss_one (ps_ret (pv 2))))) pss_nil)
    (pss_cons (ps_asg (pe_op op_add (pe_ix ix_list (pv 0) pe_int (fun _ _ => rfl)) pe_int) (pg_sub (pv 0) pe_int set_list))
    (pss_cons (ps_set (i := 3) scTk.nd rfl (.inl rfl) (pe_op op_mod (pe_callTy call_int1 (by rfl) mi (by decide +kernel) (pa_cons (pe_op op_mul (pe_op op_add (pe_ix ix_list (pv 0) pe_int (fun _ _ => rfl)) (pe_op op_mul pe_int (pe_ix ix_list (pv 0) pe_int (fun _ _ => rfl)))) (pe_op op_add pe_int (pe_ix ix_list (pv 0) pe_int (fun _ _ => rfl)))) pa_nil)) pe_int))
    (pss_cons (ps_set (i := 4) scTk.nd rfl (.inl rfl) (pe_op op_add (pe_op op_mod (pe_callTy call_int1 (by rfl) mi (by decide +kernel) (pa_cons (pv 3) pa_nil)) pe_int) pe_int))
    (pss_cons (ps_set (i := 5) scTk.nd rfl (.inl rfl) (pe_op op_mod (pe_callTy call_int1 (by rfl) mi (by decide +kernel) (pa_cons (pe_op op_mul (pe_op op_add (pe_op op_add (pv 3) (pe_ix ix_list (pv 0) pe_int (fun _ _ => rfl))) (pe_op op_fdiv (pe_ix ix_list (pv 0) pe_int (fun _ _ => rfl)) pe_int)) (pv 4)) pa_nil)) pe_int))
    (pss_one (ps_ret (pe_op op_mod (pe_callTy call_int1 (by rfl) mi (by decide +kernel) (pa_cons (pe_op op_fdiv (pe_op op_mod (pe_callTy call_int1 (by rfl) mi (by decide +kernel) (pa_cons (pe_op op_add (pe_op op_mul (pv 5) pe_int) (pv 3)) pa_nil)) pe_int) pe_int) pa_nil)) (pv 1)))))))), ?_⟩
  refine ⟨_, rfl, u, _, _, _, rfl, rfl, SqL.of hu, atI_nat (j := 0) rfl, _, _, rfl, rfl, _, rfl, ite2 (fun _ => ?_) (fun _ => ?_)⟩
  · refine ⟨_, rfl, u, _, _, _, rfl, rfl, SqL.of hu, atI_nat (j := 0) rfl, .inl ⟨_, rfl, _, rfl, _, _, rfl, rfl, l0, ?_⟩⟩
    refine ⟨_, rfl, u, _, _, _, rfl, rfl, SqL.of hu, atI_nat (j := 0) rfl, _, rfl, _, _, rfl, rfl, ⟨l0, by omega⟩, _, rfl, u, _, _, 0, rfl, rfl, hu, rfl, ?_⟩
    refine ⟨_, rfl, ?_⟩
    exact k _ _ (Int.emod_nonneg _ (by omega)) (Int.emod_lt_of_pos _ l0) ⟨_, _, _, upd_same, c0, by omega⟩ keep_u
  · refine ⟨_, rfl, u, _, _, _, rfl, rfl, SqL.of hu, atI_nat (j := 2) rfl, _, _, rfl, rfl, _, rfl, u, _, _, 2, rfl, rfl, hu, rfl, ?_⟩
    have hv : upd H u (.lst [.int a, .int b, .int (c + 1)]) u = some (.lst [.int a, .int b, .int (c + 1)]) := upd_same
    have lu : SqL K (upd H u (.lst [.int a, .int b, .int (c + 1)])) u [.int a, .int b, .int (c + 1)] := SqL.of hv
    refine ⟨_, rfl, u, _, _, _, rfl, rfl, lu, atI_nat (j := 1) rfl, _, rfl, u, _, _, _, rfl, rfl, lu, atI_nat (j := 2) rfl, _, _, rfl, rfl, .inl (by omega), _, _, rfl, rfl, _, rfl, u, _, _, _, rfl, rfl, lu, atI_nat (j := 2) rfl, _, _, rfl, rfl, _, _, rfl, rfl, .inr (by omega), .inl ⟨_, rfl, _, _, rfl, rfl, (by show (0 : Int) < 2147483647; decide), ?_⟩⟩
    refine ⟨_, rfl, .inl ⟨_, rfl, _, _, rfl, rfl, (by show (0 : Int) < 40009; decide), _, _, rfl, rfl, ?_⟩⟩
    have m1 := Int.emod_nonneg ((b + 48271 * (c + 1)) * (39373 + (c + 1)) % 2147483647) (show (40009 : Int) ≠ 0 by decide)
    have m2 := Int.emod_lt_of_pos ((b + 48271 * (c + 1)) * (39373 + (c + 1)) % 2147483647) (show (0 : Int) < 40009 by decide)
    refine ⟨_, rfl, _, rfl, u, _, _, _, rfl, rfl, lu, atI_nat (j := 2) rfl, _, _, rfl, rfl, _, rfl, u, _, _, _, rfl, rfl, lu, atI_nat (j := 1) rfl, _, _, rfl, rfl, ⟨by decide, by decide⟩, _, _, rfl, rfl, _, rfl, _, _, rfl, rfl, .inr (by omega), .inl ⟨_, rfl, _, _, rfl, rfl, (by show (0 : Int) < 2147483629; decide), ?_⟩⟩
    refine ⟨_, rfl, _, _, rfl, rfl, .inr (by decide), _, rfl, _, _, rfl, rfl, .inl ⟨_, rfl, _, _, rfl, rfl, (by show (0 : Int) < 2147483587; decide), _, _, rfl, rfl, ⟨by decide, by decide⟩, .inl ⟨_, rfl, _, rfl, _, _, rfl, rfl, l0, ?_⟩⟩⟩
    exact k _ _ (Int.emod_nonneg _ (by omega)) (Int.emod_lt_of_pos _ l0) ⟨_, _, _, hv, by omega, by omega⟩ keep_u
end
end Cx

namespace Fx
open PySem PySem.Spec PyProof.Rows L2
abbrev topS (i : Nat) : Stmt := Cx.topS i
abbrev sGsum : Stmt := topS 8
abbrev sGreatest : Stmt := topS 9
end Fx

/-! _greatest -/
namespace Fx
open PySem PySem.Spec PyProof.Rows L2
section
variable {P : Program} {w : World} {K : PySem.W.Frag} {mg : Str → Option Value} {base : Heap}
def spGr (P : Program) (w : World) (K : PySem.W.Frag) (n : Nat) : Sp := fun vs H Q _ => ∃ (x y z : V) (d : Addr) (us : List Addr) (pr : List Pr) (wt : Str → Int) (names0 : List Str) (pd : D) (wk : List (Key × D)) (names : List Str) (xs : List (List Key × Addr × Value)),
  vs = [x, y, z, .ref d] ∧ d ∈ us ∧ AllIn us H ∧ Rp K (hid us H) x (.tup (names.map D.str)) ∧ Rp K (hid us H) y pd ∧ Rp K (hid us H) z (.dic wk) ∧ GrD pr wt names0 pd wk ∧ MemoH P w K H d xs ∧ MemoG pr wt names0 xs ∧ names.length < n ∧ names.Sublist names0 ∧
  ∀ H' xs', Sm (some d) H H' → MemoH P w K H' d xs' → MemoG pr wt names0 xs' → Q (.int (gS pr wt names)) H'
abbrev nGr : List Str := ["names", "pairs", "worths", "known", "first", "rest", "sums", "other", "left", "name"]
abbrev pGr : List Str := ["names", "pairs", "worths", "known"]
theorem scGr : FnScope nGr pGr (defScope sGreatest) := ⟨rfl, rfl, rfl, by decide +kernel, rfl, by decide +kernel, by decide +kernel⟩
theorem memo_keep {d : Addr} {H H' : Hp} {xs : List (List Key × Addr × Value)} (M : MemoH P w K H d xs) (h : ∀ b o, b ≠ d → H b = some o → H' b = some o) (h2 : H' d = some (memoO P w d xs)) : MemoH P w K H' d xs :=
  ⟨h2, M.ns, M.sz, fun x m => (M.ks x m).imp (fun e => h _ _ (fun c => by rw [c, M.at_] at e; cases e) e) id⟩
theorem sqp_keep {d b : Addr} {H H' : Hp} {o : HO} {vs : List V} (h : ∀ b o, b ≠ d → H b = some o → H' b = some o) (hd : H d = some o) (no : ∀ ys, o ≠ .tup ys) (q : SqP K H b vs) : SqP K H' b vs :=
  q.imp (fun e => h _ _ (fun c => by rw [c, hd] at e; cases e; exact no _ rfl) e) id
theorem memo_no {d : Addr} {xs : List (List Key × Addr × Value)} : ∀ ys, memoO P w d xs ≠ .tup ys := fun _ e => nomatch e
theorem sm_put {d : Addr} {H H1 : Hp} {o : HO} (ho : ∀ xs, o ≠ .tup xs) (s : Sm (some d) H H1) : Sm (some d) H (upd H1 d o) := ⟨fun b q nb e => by rw [upd_ne fun c => nb (by rw [c])]; exact s.kp b q nb e, fun b nb => by
  by_cases c : b = d
  · rw [c, upd_same]
    exact fun z => nomatch z
  · rw [upd_ne c]
    exact s.th b nb, fun b nb => NT.upd ho (s.nt b nb)⟩
theorem sm_own {u : Option Addr} {p : Addr} {H H1 : Hp} {o : HO} (ho : ∀ xs, o ≠ .tup xs) (s : Sm u H H1) (n : H p = none) : Sm u H (upd H1 p o) := ⟨fun b q nb e => by rw [upd_ne (ne_of_none e n)]; exact s.kp b q nb e, fun b nb => by
  by_cases c : b = p
  · rw [c, upd_same]
    exact fun z => nomatch z
  · rw [upd_ne c]
    exact s.th b nb, fun b nb => NT.upd ho (s.nt b nb)⟩
theorem rwg_eq {α : Type} {E : XU} {hs : List Addr} {n : Nat} {r r' : R α} {H : Hp} {Q : α → Nat → Hp → Prop} (e : r = r') (w : RWG K mg E hs n r' H Q) : RWG K mg E hs n r H Q := e ▸ w
theorem idx0 (d : D) (ds : List D) : idxD (.tup (d :: ds)) (.int 0) = .ok d := by
  unfold idxD atI L2.ixN
  dsimp only
  rw [if_pos (Int.le_refl 0), if_pos (by rw [List.length_cons]; omega)]
  rfl
theorem filt_take {α : Type} {f : α → Bool} {l : List α} {i : Nat} {a : α} (h : l[i]? = some a) : (l.take (i + 1)).filter f = (l.take i).filter f ++ (if f a = true then [a] else []) := by
  rw [List.take_add_one, h, List.filter_append]
  show _ ++ [a].filter f = _
  rw [List.filter_cons, List.filter_nil]
theorem map_at {α β : Type} {f : α → β} {xs : List α} {i : Nat} {y : β} (h : (xs.map f)[i]? = some y) : ∃ z, xs[i]? = some z ∧ y = f z := by
  rw [List.getElem?_map] at h
  obtain ⟨z, h1, h2⟩ := Option.map_eq_some_iff.mp h
  exact ⟨z, h1, h2.symm⟩
theorem rdP_ok {i : Nat} {ε : Env} {f : Bool} {d : D} (h : ε[i]? = some (some (f, d))) (n : d ≠ .urn) : rdP i ε = .ok d := by
  unfold rdP
  rw [h]
  dsimp only
  split
  · exact absurd rfl n
  · rfl
theorem idx_dic {wk : List (Key × D)} {z : Str} {d : D} (h : lookD wk (.inr z) = some d) : idxD (.dic wk) (.str z) = .ok d := by
  show (match lookD wk (.inr z) with | some d => R.ok d | none => .no) = _
  rw [h]
theorem flt_ok {e0 e1 e2 e3 e4 e6 e8 e9 : Option (Bool × D)} {l : List Str} {o : Str} (hl : l.length ≤ cap) :
    (mB (aCons (vLc (rdV 9) (vB (rdV 5) iterD) (tCmp' (rdP 9) (rdP 7) (fun d e => eqD d e >>= fun b => .ok (!b))) (g1 9) [9]) aNil) tupD) [e0, e1, e2, e3, e4, some (false, .tup (l.map D.str)), e6, some (false, .str o), e8, e9] = .ok (.tup ((l.filter fun z => decide (z ≠ o)).map D.str)) := by
  have f1 : rdV 5 [e0, e1, e2, e3, e4, some (false, .tup (l.map D.str)), e6, some (false, .str o), e8, e9] = .ok (.tup (l.map D.str)) := rfl
  have f2 : iterD (.tup (l.map D.str)) = .ok (l.map D.str) := rfl
  simp only [mB, aCons, aNil, vLc, vB, f1, f2, ok_bind, capD_ok (show (l.map D.str).length ≤ cap by rw [List.length_map]; exact hl)]
  rw [compD_flt (g := D.str) (p := fun z => decide (z ≠ o)) fun z m => ?_]
  · rfl
  · show (if (!decide (z = o)) = true then R.ok (some (D.str z)) else R.ok none) = R.ok (if decide (z ≠ o) = true then some (D.str z) else none)
    by_cases c : z = o
    · rw [decide_eq_true c, decide_eq_false (fun h => h c)]
      rfl
    · rw [decide_eq_false c, decide_eq_true c]
      rfl
theorem MemoH.stored {d b : Addr} {H : Hp} {xs : List (List Key × Addr × Value)} {k : List Key} (M : MemoH P w K H d xs) (hk : SqP K H b (k.map kV)) (hz : xs.length < sizeLine) (v : Value) : MemoH P w K (upd H d (memoO P w d (storedH xs k b v))) d (storedH xs k b v) := by
  have kp : ∀ {c : Addr} {vs : List V}, SqP K H c vs → SqP K (upd H d (memoO P w d (storedH xs k b v))) c vs := fun q => sqp_keep (fun b o nb e => by rw [upd_ne nb]; exact e) M.at_ memo_no q
  refine ⟨upd_same, M.ns, ?_, fun x m => ?_⟩
  · unfold storedH
    split
    · rw [List.length_map]
      exact Nat.le_of_lt hz
    · rw [List.length_append]
      exact hz
  · unfold storedH at m
    split at m
    · obtain ⟨y, my, e⟩ := List.mem_map.mp m
      have e1 : x.1 = y.1 ∧ x.2.1 = y.2.1 := by
        rw [← e]
        unfold putAt
        split <;> exact ⟨rfl, rfl⟩
      rw [e1.1, e1.2]
      exact kp (M.ks y my)
    · rcases List.mem_append.mp m with m | m
      · exact kp (M.ks x m)
      · rw [List.mem_singleton.mp m]
        exact kp hk
theorem ok_greatest {f : Addr} {fd : FuncData} {n : Nat} (F : L2.Fun K "_greatest" "_greatest" sGreatest f fd) (G : FnOk P w K mg base CX0 n f fd pGr (spGr P w K n)) (bG : Binds K fd pGr []) (mG : mg "_greatest" = some (.ref f)) (hb : ∀ y ∈ bltNames, mg y = none) :
    FnOk P w K mg base CX0 (n + 1) f fd pGr (spGr P w K (n + 1)) := by
  refine F.ok scGr (fun vs H Q E h => ?_) (fun cdv A outer s H vs Q E hr h => ?_)
  · obtain ⟨x, y, z, d, us, pr, wt, n0, pd, wk, names, xs, rfl, _⟩ := h
    rfl
  have C : Cn (fun _ => none) CX0 n nGr (cxOf CX0 P w K mg base nGr "_greatest" (defScope sGreatest) f cdv A outer s H E).nox ⟨E, none⟩ := ⟨rfl, rfl, scGr.nd, hr, fun _ _ _ _ _ _ _ z => z.elim, fun _ _ _ _ _ z => z, hb, fun _ _ h => nomatch h⟩
  have hu : (cxOf CX0 P w K mg base nGr "_greatest" (defScope sGreatest) f cdv A outer s H E).nox.A.units + 1 < cLine := by
    have := C.u65
    omega
  refine ⟨_, pss_cons (ps_if ((good (Φ := fun _ => none) 60).t _ _ tr _ C (fun _ _ => rfl) (by rfl)) (pss_one (ps_ret pe_int)) pss_nil)
    (pss_cons (ps_if (pt_cmp (pc_mnotin hu (pv 0) (pv 3)))
      (pss_cons (ps_par (i := 4) (j := 5) (by rfl) scGr.nd rfl rfl (by decide) rfl rfl (g_A (fn := tr) (good (Φ := fun _ => none) 60) C (fun _ _ => rfl) (by rfl)) (by rfl))
      (pss_cons (ps_set (i := 6) scGr.nd rfl (.inl rfl) (pe_lst (pa_cons (pe_call G hr (by rfl) mG F.kp bG .nil pass0 (pa_cons (pv 5) (pa_cons (pv 1) (pa_cons (pv 2) (pa_cons (pv 3) pa_nil))))) pa_nil)))
      (pss_cons (ps_for PassesOwn.never rfl (pi_tup (pv 5)) (pg_name (i := 7) scGr.nd rfl (.inr rfl))
        (pss_one (ps_if ((good (Φ := fun _ => none) 60).t _ _ tr _ C (fun _ _ => rfl) (by rfl))
          (pss_cons (ps_set (i := 8) scGr.nd rfl (.inl rfl) ((good (Φ := fun _ => none) 60).v _ _ tr _ C (fun _ _ => rfl) (by rfl)))
          (pss_one (ps_expr (pe_bm PySem.F.plainAttrs_list PySem.F.slot_list_append PySem.F.type_list_append mt_append (pv 6) (pa_cons (pe_op op_add ((good (Φ := fun _ => none) 60).v _ _ tr _ C (fun _ _ => rfl) (by rfl)) (pe_call G hr (by rfl) mG F.kp bG .nil pass0 (pa_cons (pv 8) (pa_cons (pv 1) (pa_cons (pv 2) (pa_cons (pv 3) pa_nil)))))) pa_nil)))))
          pss_nil)))
      (pss_one (ps_mput hu (pv 3) (pv 0) (pe_callB (cr_max rfl) (by rfl) (hb _ (by decide +kernel)) (by decide +kernel) (pa_cons (pv 6) pa_nil)) rfl)))))
      pss_nil)
    (pss_one (ps_ret (pe_mget hu (pv 3) (pv 0) (fun _ _ => rfl))))), ?_⟩
  obtain ⟨x, y, z, d, us, pr, wt, names0, pd, wk, names, xs, rfl, du, ain, rx, ry, rz, GD, M, MG, hl, sub, k⟩ := h
  obtain ⟨b, rfl, hb0⟩ := RpA.str_tup rx
  have hk0 : SqP K H b ((keyN names).map kV) := by
    rw [keyN_V]
    exact sqp_hid hb0
  refine ⟨us, [some (false, .tup (names.map D.str)), some (false, pd), some (false, .dic wk), none, none, none, none, none, none, none], 0, rs_of ain (.cons ⟨_, rfl, rx⟩ (.cons ⟨_, rfl, ry⟩ (.cons ⟨_, rfl, rz⟩ (.cons trivial (.cons trivial (.cons trivial (.cons trivial (.cons trivial (.cons trivial (.cons trivial .nil)))))))))), ?_⟩
  refine rwg_eq (r' := .ok (decide (((names.map D.str).length : Int) < 2))) rfl ?_
  intro H1 s1 _
  replace s1 := sm_none s1
  have M1 := M.same s1
  have t1 : Sm (some d) H H1 := .of s1
  by_cases few : names.length < 2
  · rw [decide_eq_true (by rw [List.length_map]; omega)]
    refine iteT ?_
    have q := k H1 xs t1 M1 MG
    rw [gS_few few] at q
    exact q
  rw [decide_eq_false (by rw [List.length_map]; omega)]
  refine iteF ?_
  refine ⟨_, rfl, _, rfl, d, b, keyN names, xs, rfl, rfl, M1, hk0.same s1, ⟨_, rfl, ?_⟩⟩
  cases qn : atKey xs (keyN names) with
  | some p =>
    refine iteF ?_
    obtain ⟨t, ht⟩ := MG.get qn
    refine ⟨_, rfl, _, rfl, d, b, keyN names, xs, p.1, gS pr wt names, t, rfl, rfl, M1, hk0.same s1, ?_, k H1 xs t1 M1 MG⟩
    rw [qn, ← ht]
  | none =>
  refine iteT ?_
  obtain ⟨x0, y0, r, rfl⟩ : ∃ x0 y0 r, names = x0 :: y0 :: r := by
    match names, few with
    | [], few => exact absurd (Nat.zero_lt_succ 1) few
    | [_], few => exact absurd (Nat.lt_succ_self 1) few
    | a :: b :: r, _ => exact ⟨a, b, r, rfl⟩
  have ain1 : AllIn us H1 := fun v m => NT.same s1 (ain v m)
  have rx1 := rx.same (hid_same (us := us) s1)
  have ry1 := ry.same (hid_same (us := us) s1)
  have rz1 := rz.same (hid_same (us := us) s1)
  refine ⟨us, [some (false, .tup ((x0 :: y0 :: r).map D.str)), some (false, pd), some (false, .dic wk), none, none, none, none, none, none, none], 0, rs_of ain1 (.cons ⟨_, rfl, rx1⟩ (.cons ⟨_, rfl, ry1⟩ (.cons ⟨_, rfl, rz1⟩ (.cons trivial (.cons trivial (.cons trivial (.cons trivial (.cons trivial (.cons trivial (.cons trivial .nil)))))))))), ?_⟩
  refine rwg_eq (r' := .ok [.str x0, .tup (cutD ((x0 :: y0 :: r).map D.str) (some 1) none)]) (show (idxD (.tup ((x0 :: y0 :: r).map D.str)) (.int 0) >>= fun d => R.ok [d, .tup (cutD ((x0 :: y0 :: r).map D.str) (some 1) none)]) = _ by rw [List.map_cons, idx0]; rfl) ?_
  rw [List.map_cons, cut1]
  intro H2 s2 _ vs rvs
  replace s2 := sm_none s2
  obtain ⟨v0, v1, rfl, r0, r1⟩ : ∃ v0 v1, vs = [v0, v1] ∧ Rp K (hid us H2) v0 (.str x0) ∧ Rp K (hid us H2) v1 (.tup ((y0 :: r).map D.str)) := by
    cases rvs with
    | cons a t =>
      cases t with
      | cons b t =>
        cases t
        exact ⟨_, _, rfl, a, b⟩
  cases r0
  obtain ⟨c, rfl, hc0⟩ := RpA.str_tup r1
  refine ⟨_, _, rfl, ?_⟩
  have ain2 : AllIn us H2 := fun v m => NT.same s2 (ain1 v m)
  have ry2 := ry1.same (hid_same (us := us) s2)
  have rz2 := rz1.same (hid_same (us := us) s2)
  have sub1 : (y0 :: r).Sublist names0 := (List.sublist_cons_self _ _).trans sub
  have t2 : Sm (some d) H H2 := t1.trans (.of s2)
  have hc2 : SqP K H2 c ((y0 :: r).map V.str) := sqp_hid hc0
  have hk2 : SqP K H2 b ((keyN (x0 :: y0 :: r)).map kV) := (hk0.same s1).same s2
  refine ⟨_, rfl, _, rfl, _, rfl, _, rfl, .ref c, y, z, d, us, pr, wt, names0, pd, wk, y0 :: r, xs, rfl, du, ain2, r1, ry2, rz2, GD, M1.same s2, MG, Nat.lt_of_succ_lt_succ hl, sub1, fun H3 xs3 s3 M3 MG3 => ?_⟩
  refine ⟨by show 1 ≤ sizeLine; decide, fun p np => ?_⟩
  have pd0 : p ≠ d := fun e => by rw [e, M3.at_] at np; cases np
  have np2 : H2 p = none := s3.free np
  have np0 : H p = none := t2.free np2
  refine ⟨_, rfl, ?_⟩
  have hidk : ∀ {H'' : Hp}, (∀ b o, b ≠ d → b ≠ p → H3 b = some o → H'' b = some o) → Same (hid us H2) (hid (p :: us) H'') := fun {H''} h b o e => by
    obtain ⟨e1, e2⟩ := hid_some e
    have bd : b ≠ d := fun c => e1 (c ▸ du)
    have bp := ne_of_none e2 np2
    rw [hid_out fun m => (List.mem_cons.mp m).elim bp e1]
    exact h b o bd bp (s3.kp b o (fun c => bd (Option.some.inj c)) e2)
  have hc3 : SqP K H3 c ((y0 :: r).map V.str) := sqp_keep (fun b o nb e => s3.kp b o (fun c => nb (Option.some.inj c)) e) (M1.same s2).at_ memo_no hc2
  have t3 : Sm (some d) H H3 := t2.trans s3
  have len12 : (y0 :: r).length ≤ 12 := Nat.le_trans sub1.length_le GD.n12
  have rx2 := rx1.same (hid_same (us := us) s2)
  have hx0 : x0 ∈ names0 := sub.subset List.mem_cons_self
  have hcp : SqP K (upd H3 p (.lst [V.int (gS pr wt (y0 :: r))])) c ((y0 :: r).map V.str) := hc3.imp (fun e => by rw [upd_ne (ne_of_none e np)]; exact e) id
  refine ⟨c, rfl, ⟨_, hcp.T⟩, for_tup (xs := (y0 :: r).map V.str) (fun i σ' H' => ∃ (o l nm : Option V) (ns : List Int) (ys : List (List Key × Addr × Value)), σ' = [some (.ref b), some y, some z, some (.ref d), some (.str x0), some (.ref c), some (.ref p), o, l, nm] ∧
      Sm (some d) H H' ∧ (∀ b o, b ≠ d → b ≠ p → H3 b = some o → H' b = some o) ∧ H' p = some (.lst (ns.map V.int)) ∧ MemoH P w K H' d ys ∧ MemoG pr wt names0 ys ∧
      ns = gS pr wt (y0 :: r) :: ((((y0 :: r).take i).filter fun o => decide ((x0, o) ∈ pr)).map fun o => wt x0 + wt o + gS pr wt ((y0 :: r).filter fun z => decide (z ≠ o)))) ?_ ?_ ?_ ?_⟩
  · refine ⟨none, none, none, [gS pr wt (y0 :: r)], xs3, rfl, sm_own (fun _ z => nomatch z) t3 np0, fun b o bd bp e => by rw [upd_ne bp]; exact e, upd_same, memo_keep M3 (fun b o nb e => by rw [upd_ne (ne_of_none e np)]; exact e) (by rw [upd_ne (Ne.symm pd0)]; exact M3.at_), MG3, rfl⟩
  · rintro i σ' H' _ ⟨o, l, nm, ns, ys, rfl, t', keep, hp, M', MG', ens⟩
    have q : SqP K H' c ((y0 :: r).map V.str) := hc3.imp (fun e => keep c _ (fun z => by rw [z, M3.at_] at e; cases e) (ne_of_none e np) e) id
    exact q.T
  · rintro i v σ' H' hi ⟨o, l, nm, ns, ys, rfl, t', keep, hp, M', MG', ens⟩
    obtain ⟨o0, ho, rfl⟩ := map_at hi
    have mo : o0 ∈ y0 :: r := List.mem_of_getElem? ho
    have hm0 : o0 ∈ names0 := sub1.subset mo
    have hs1 := hidk keep
    have ain' : AllIn (p :: us) H' := fun v m => by
      rcases List.mem_cons.mp m with e | m
      · rw [e, hp]
        exact nt_lst
      · exact t'.nt v (ain v m)
    have S : ∀ {H4 : Hp}, Same H' H4 → ∀ (l : Option (Bool × D)) (lv : Option V), SlR K (hid (p :: us) H4) lv l → Rs K none 0 (p :: us) H4 [some (V.ref b), some y, some z, some (V.ref d), some (V.str x0), some (V.ref c), some (V.ref p), some (V.str o0), lv, nm]
        [some (false, .tup ((x0 :: y0 :: r).map D.str)), some (false, pd), some (false, .dic wk), none, some (false, .str x0), some (false, .tup ((y0 :: r).map D.str)), none, some (false, .str o0), l, none] := fun {H4} s4 l lv hl =>
      rs_of (fun v m => NT.same s4 (ain' v m)) (.cons ⟨_, rfl, (rx2.same hs1).same (hid_same s4)⟩ (.cons ⟨_, rfl, (ry2.same hs1).same (hid_same s4)⟩ (.cons ⟨_, rfl, (rz2.same hs1).same (hid_same s4)⟩ (.cons trivial (.cons ⟨_, rfl, .str _⟩ (.cons ⟨_, rfl, (r1.same hs1).same (hid_same s4)⟩ (.cons trivial (.cons ⟨_, rfl, .str _⟩ (.cons hl (.cons trivial .nil))))))))))
    refine ⟨p :: us, _, 0, S (Same.refl _) none l trivial, ?_⟩
    refine rwg_eq (r' := .ok (decide ((x0, o0) ∈ pr))) (show (rdP 1 [some (false, .tup ((x0 :: y0 :: r).map D.str)), some (false, pd), some (false, .dic wk), none, some (false, .str x0), some (false, .tup ((y0 :: r).map D.str)), none, some (false, .str o0), none, none] >>= fun e => inD (.tup [.str x0, .str o0]) e) = _ by rw [rdP_ok (d := pd) (f := false) rfl (not_urn ry)]; exact GD.inP _ hx0 _ hm0) ?_
    intro H4 s4 _
    replace s4 := sm_none s4
    by_cases c0 : (x0, o0) ∈ pr
    · rw [decide_eq_true c0]
      refine iteT ?_
      refine ⟨p :: us, _, 0, S s4 none l trivial, ?_⟩
      refine rwg_eq (show _ = _ from flt_ok (l := y0 :: r) (o := o0) (Nat.le_trans len12 (by decide))) ?_
      intro H5 s5 _ v8 r8
      replace s5 := sm_none s5
      have s45 := s4.trans s5
      refine ⟨_, rfl, .inl ⟨rfl, _, SqL.of (s45 p _ hp)⟩, ?_⟩
      have S5 := S s45 (some (false, .tup (((y0 :: r).filter fun z => decide (z ≠ o0)).map D.str))) (some v8) ⟨v8, rfl, r8⟩
      refine ⟨p :: us, _, 0, S5, ?_⟩
      refine rwg_eq (r' := .ok (.int (wt x0 + wt o0))) (show (idxD (.dic wk) (.str x0) >>= fun a => idxD (.dic wk) (.str o0) >>= fun b => addD a b) = _ by rw [idx_dic (GD.wk _ hx0), idx_dic (GD.wk _ hm0)]; rfl) ?_
      intro H6 s6 _ v9 r9
      replace s6 := sm_none s6
      have s46 := s45.trans s6
      cases r9
      have S6 := S s46 (some (false, .tup (((y0 :: r).filter fun z => decide (z ≠ o0)).map D.str))) (some v8) ⟨v8, rfl, r8.same (hid_same s6)⟩
      have fl : ((y0 :: r).filter fun z => decide (z ≠ o0)).length < n := Nat.lt_of_le_of_lt (List.length_filter_le _ _) (Nat.lt_of_succ_lt_succ hl)
      refine ⟨_, rfl, _, rfl, _, rfl, _, rfl, v8, y, z, d, p :: us, pr, wt, names0, pd, wk, (y0 :: r).filter (fun z => decide (z ≠ o0)), ys, rfl, List.mem_cons_of_mem _ du, S6.ain, r8.same (hid_same s6), (ry2.same hs1).same (hid_same s46), (rz2.same hs1).same (hid_same s46), GD, M'.same s46, MG', fl, List.filter_sublist.trans sub1, fun H7 xs7 s7 M7 MG7 => ?_⟩
      have hp7 : H7 p = some (.lst (ns.map V.int)) := s7.kp p _ (fun e => pd0 (Option.some.inj e)) (s46 p _ hp)
      refine ⟨_, _, rfl, rfl, p, ns.map V.int, _, rfl, rfl, hp7, ?_, ?_⟩
      · rw [List.length_map, ens, List.length_cons, List.length_map, sizeLine_eq]
        have a1 := List.length_filter_le (fun o => decide ((x0, o) ∈ pr)) ((y0 :: r).take i)
        have a2 := List.length_take_le' i (y0 :: r)
        omega
      refine ⟨_, _, _, ns ++ [wt x0 + wt o0 + gS pr wt ((y0 :: r).filter fun z => decide (z ≠ o0))], xs7, rfl, sm_own (fun _ z => nomatch z) ((t'.trans (.of s46)).trans s7) np0, fun b o bd bp e => ?_, ?_, ⟨?_, M7.ns, M7.sz, fun q mq => (M7.ks q mq).imp (fun e => by rw [upd_ne (fun c => by rw [c, hp7] at e; cases e)]; exact e) id⟩, MG7, ?_⟩
      · rw [upd_ne bp]
        exact s7.kp b o (fun c => bd (Option.some.inj c)) (s46 b o (keep b o bd bp e))
      · rw [upd_same, List.map_append]
        rfl
      · rw [upd_ne (Ne.symm pd0)]
        exact M7.at_
      · rw [filt_take ho, decide_eq_true c0, List.map_append, ens]
        rfl
    · rw [decide_eq_false c0]
      refine iteF ?_
      refine ⟨_, _, _, ns, ys, rfl, t'.trans (.of s4), fun b o bd bp e => s4 b o (keep b o bd bp e), s4 p _ hp, M'.same s4, MG', ?_⟩
      rw [filt_take ho, decide_eq_false c0, ens]
      show _ = _ :: List.map _ (_ ++ [])
      rw [List.append_nil]
  · rintro σ' H' ⟨o, l, nm, ns, ys, rfl, t', keep, hp, M', MG', ens⟩
    rw [List.length_map, List.take_length] at ens
    have hkL : SqP K H' b ((keyN (x0 :: y0 :: r)).map kV) := by
      refine (sqp_keep (fun b o nb e => s3.kp b o (fun c => nb (Option.some.inj c)) e) (M1.same s2).at_ memo_no hk2).imp (fun e => keep b _ (fun z => by rw [z, M3.at_] at e; cases e) (ne_of_none e np) e) id
    refine ⟨_, rfl, p, ns, rfl, SqL.of hp, by rw [ens]; exact Nat.zero_lt_succ _, fun m hm hy => ?_⟩
    have em : m = gS pr wt (x0 :: y0 :: r) := by
      rw [gS_step, ← ens]
      obtain ⟨g1, g2⟩ := maxI_spec (is := ns) (by rw [ens]; exact fun z => nomatch z)
      exact Int.le_antisymm (g2 m hm) (hy _ g1)
    subst em
    have hz := MG'.len GD.n12
    refine ⟨_, rfl, _, rfl, d, b, keyN (x0 :: y0 :: r), ys, _, rfl, rfl, rfl, M', hkL, hz, fun t => ?_⟩
    obtain ⟨MG8, a8, t8, h8⟩ := MG'.put sub b t
    have M8 := M'.stored hkL hz (Value.int (gS pr wt (x0 :: y0 :: r)) t)
    refine ⟨_, rfl, _, rfl, d, b, keyN (x0 :: y0 :: r), _, a8, _, t8, rfl, rfl, M8, ?_, h8, k _ _ (sm_put memo_no t') M8 MG8⟩
    exact sqp_keep (fun b o nb e => by rw [upd_ne nb]; exact e) M'.at_ memo_no hkL
end
end Fx

/-! greatest_sum -/
namespace Fx
open PySem PySem.Spec PyProof.Rows L2
section
variable {P : Program} {w : World} {K : PySem.W.Frag} {mg : Str → Option Value} {base : Heap}
abbrev nGs : List Str := ["names", "pairs", "worths"]
theorem scGs : FnScope nGs nGs (defScope sGsum) := ⟨rfl, rfl, rfl, by decide +kernel, rfl, by decide +kernel, by decide +kernel⟩
theorem gsF_ok {ds : List D} (h : gsF ds ≠ .no) : ∃ nd pd wk ns ps, ds = [nd, pd, .dic wk] ∧ strsD nd = some ns ∧ prsD pd = some ps ∧ (ns.length ≤ 12 ∧ (ns.all (isWt wk)) = true ∧ (ns.all PyData.strOk) = true ∧ (ps.all okPr) = true) ∧ gsF ds = .ok (.int (gS ps (wtOf wk) ns)) := by
  unfold gsF at h ⊢
  split at h
  · rename_i nd pd wk
    split at h
    · rename_i ns ps h1 h2
      split at h
      · rename_i c
        refine ⟨nd, pd, wk, ns, ps, rfl, h1, h2, c, ?_⟩
        rw [if_pos c]
      · exact absurd rfl h
    · exact absurd rfl h
  · exact absurd rfl h
theorem grD_of {ns : List Str} {ps : List Pr} {pd : D} {wk : List (Key × D)} (h2 : prsD pd = some ps) (c : ns.length ≤ 12 ∧ (ns.all (isWt wk)) = true ∧ (ns.all PyData.strOk) = true ∧ (ps.all okPr) = true) : GrD ps (wtOf wk) ns pd wk :=
  ⟨c.1, fun a ma b mb => prsD_in (p := (a, b)) h2 (by unfold okPr; rw [List.all_eq_true.mp c.2.2.1 a ma, List.all_eq_true.mp c.2.2.1 b mb]; rfl) fun q mq => List.all_eq_true.mp c.2.2.2 q mq, fun z mz => isWt_eq (List.all_eq_true.mp c.2.1 z mz)⟩
theorem ok_gsum {f g : Addr} {fd gd : FuncData} (F : L2.Fun K "greatest_sum" "greatest_sum" sGsum f fd) (G : FnOk P w K mg base CX0 13 g gd pGr (spGr P w K 13)) (bG : Binds K gd pGr []) (kG : PySem.W.keepIn K (.ref g) = true) (mG : mg "_greatest" = some (.ref g)) (hb : ∀ y ∈ bltNames, mg y = none) :
    FnOk P w K mg base CX0 14 f fd nGs (spF K mg 3 gsF) := by
  refine F.ok scGs (fun vs H Q E h => ?_) (fun cdv A outer s H vs Q E hr h => ?_)
  · obtain ⟨u, us, m, ds, h1, _⟩ := h
    exact h1
  obtain ⟨u, us, m, ds, hl, hd, hra, hw⟩ := h
  have C : Cn (fun _ => none) CX0 13 nGs (cxOf CX0 P w K mg base nGs "greatest_sum" (defScope sGsum) f cdv A outer s H E).nox ⟨E, u⟩ := ⟨rfl, rfl, scGs.nd, hr, fun _ _ _ _ _ _ _ z => z.elim, fun _ _ _ _ _ z => z, hb, fun _ _ h => nomatch h⟩
  refine ⟨_, pss_one (ps_ret (pe_call G hr (by rfl) mG kG bG .nil pass0 (pa_cons ((good (Φ := fun _ => none) 60).v _ _ tr _ C (fun _ _ => rfl) (by rfl)) (pa_cons (pv 1) (pa_cons (pv 2) (pa_cons pe_mnew pa_nil)))))), ?_⟩
  have hn : gsF ds ≠ .no := fun e => by
    rw [e] at hw
    exact hw
  obtain ⟨nd, pd, wk, ns, ps, rfl, h1, h2, c, he⟩ := gsF_ok hn
  rw [he] at hw
  obtain ⟨S1, F1⟩ := rs_start (N := nGs) (by rw [hl]; decide) hd hra
  obtain ⟨v0, v1, v2, rfl, r0, r1, r2⟩ : ∃ v0 v1 v2, vs = [v0, v1, v2] ∧ RpU K u (hid us H) v0 nd ∧ RpU K u (hid us H) v1 pd ∧ RpU K u (hid us H) v2 (.dic wk) := by
    cases hra with
    | cons a t =>
      cases t with
      | cons b t =>
        cases t with
        | cons c t =>
          cases t
          exact ⟨_, _, _, rfl, a, b, c⟩
  have r1 := r1.get fun e => by
    rcases prsD_eq h2 with z | z <;> (rw [z] at e; cases e)
  have r2 := r2.get fun e => nomatch e
  refine ⟨us, _, m, S1, ?_⟩
  refine rwg_eq (r' := .ok (.tup (ns.map D.str))) ?_ ?_
  · rcases strsD_eq h1 with e | e
    · subst e
      rfl
    · subst e
      rfl
  intro H1 s1 u1 v rv
  have sh := s1.hid hd.uh
  refine ⟨_, rfl, _, rfl, fun d nd hsys => ?_⟩
  have hmo := hid_more (us := us) (hid_same (us := us) (same_new (o := memoO P w d []) nd)) nd
  refine ⟨v, v1, v2, d, d :: us, ps, wtOf wk, ns, pd, wk, ns, [], rfl, List.mem_cons_self, fun b mb => ?_, rv.same hmo, (r1.same sh).same hmo, (r2.same sh).same hmo, grD_of h2 c, ⟨upd_same, hsys, Nat.zero_le _, fun x m => nomatch m⟩, ⟨.nil, fun x m => nomatch m⟩, Nat.lt_succ_of_le c.1, List.Sublist.refl _, fun H' xs' s' _ _ => ?_⟩
  · by_cases e : b = d
    · rw [e, upd_same]
      exact ⟨(fun z => nomatch z), fun _ z => nomatch z⟩
    · rw [upd_ne e]
      exact s1.nt b (hd.ain b ((List.mem_cons.mp mb).resolve_left e))
  have keep : ∀ b o, H1 b = some o → H' b = some o := fun b o e => by
    have bd := ne_of_none e nd
    exact s'.kp b o (fun z => bd (Option.some.inj z)) (by rw [upd_ne bd]; exact e)
  refine hw H' (s1.trans (.of keep)) (u1.same keep) _ (.int _)
end
end Fx

namespace Cx
open PySem PySem.Spec PyProof.Rows L2
theorem keep_under {u : Addr} {H H' : Hp} (k : Keep u H H') : Same (hide u H) H' := k.same.trans hide_le
theorem map_at {α β : Type} {f : α → β} {xs : List α} {i : Nat} {y : β} (h : (xs.map f)[i]? = some y) : ∃ z, xs[i]? = some z ∧ y = f z := by
  rw [List.getElem?_map] at h
  cases e : xs[i]? with
  | none =>
    rw [e] at h
    cases h
  | some z =>
    rw [e] at h
    exact ⟨z, rfl, (Option.some.inj h).symm⟩
theorem erase_map {α β : Type} (f : α → β) : ∀ (l : List α) (j : Nat), (l.map f).eraseIdx j = (l.eraseIdx j).map f
  | [], _ => rfl
  | _ :: _, 0 => rfl
  | x :: l, j + 1 => by
    show f x :: (l.map f).eraseIdx j = f x :: (l.eraseIdx j).map f
    rw [erase_map f l j]
theorem len_sv {K : PySem.W.Frag} {H : Hp} {x : V} {xs : List V} {Q : VK} (h : SeqV K H x xs) (q : Q (.int xs.length) H) : ∃ p ys, ([x] : List V) = [.ref p] ∧ (SqL K H p ys ∨ SqT K H p ys) ∧ Q (.int (ys.length : Nat)) H := by
  obtain ⟨a, rfl, h⟩ := h
  exact ⟨a, xs, rfl, h, q⟩
section
variable {P : Program} {w : World} {K : PySem.W.Frag} {mg : Str → Option Value} {base : Heap}
/-! ### few -/
def spFew (K : PySem.W.Frag) : Sp := fun vs H Q _ => ∃ (u : Addr) (x : V) (xs : List Str) (low : Int) (n : Nat), vs = [.ref u, x, .int low] ∧ UrnAt u H n ∧ n + xs.length ≤ 1000000 ∧ 0 < low ∧ low < 1000 ∧ SeqV K (hide u H) x (xs.map V.str) ∧ xs.length ≤ 1000 ∧
  ∀ (ys : List Str) p H', List.Sublist ys xs → UrnAt u H' (n + xs.length) → Keep u H H' → p ≠ u → H p = none → H' p = some (.tup (ys.map V.str)) → Q (.ref p) H'
theorem scFw : FnScope ["_law_urn", "_law_pool", "_law_one_of", "_law_own"] ["_law_urn", "_law_pool", "_law_one_of"] (defScope sFew) := ⟨rfl, rfl, rfl, by decide +kernel, rfl, by decide +kernel, by decide +kernel⟩
theorem ok_few {f g : Addr} {fd gd : FuncData} (F : Fun K "_law_few" "_law_few" sFew f fd) (G : FnOk P w K mg base CX0 1 g gd ["_law_urn", "_law_low_so"] spTake) (bG : Binds K gd ["_law_urn", "_law_low_so"] []) (kG : PySem.W.keepIn K (.ref g) = true) (mG : mg "_law_take" = some (.ref g))
    (mt : mg "tuple" = none) : FnOk P w K mg base CX0 2 f fd ["_law_urn", "_law_pool", "_law_one_of"] (spFew K) := by
  refine F.ok scFw (fun vs H Q E h => ?_) (fun cdv A outer s H vs Q E hr h => ?_)
  · obtain ⟨u, x, xs, low, n, rfl, _⟩ := h
    rfl
  obtain ⟨u, x, xs, low, n, rfl, U, hn, l0, l1, hx, hz, k⟩ := h
  refine ⟨_, pss_one (ps_ret (pe_callTy call_tuple_of (by rfl) mt (by decide +kernel) (pa_cons
    (pe_lcA (own := [("_law_own", 3)]) (g := gName 3) (tt := tTest (tOp rEq (tCall spTake [] E0 (tCons (tVar 0) (tCons (tVar 2) tNil))) (tC (.int 0)))) rfl scFw.nd (pv 1)
      (blkOk_by (N := ["_law_urn", "_law_pool", "_law_one_of", "_law_own"]) (sc := defScope sFew) (by decide +kernel))
      (fun _ _ _ _ _ => pg_name (i := 3) scFw.nd rfl (.inl rfl)) (fun _ _ _ _ _ => pts_one (pt_cmpR op_eq (pe_call G hr (by rfl) mG kG bG .nil pass0 (pa_cons (pv 0) (pa_cons (pv 2) pa_nil))) pe_int (nomark _))) (fun _ _ _ _ _ => pv 3)) pa_nil))), ?_⟩
  refine ⟨x, rfl, ?_⟩
  refine lc_any hx (Stays.of hide_le) (fun D i H' => ∃ ys : List Str, ys.Sublist (xs.take i) ∧ UrnAt u H' (n + i) ∧ Keep u H H' ∧ H' D = some (.lst (ys.map V.str)))
    (fun D nD => ⟨[], .slnil, U.upd (U.ne nD), keep_new nD, upd_same⟩) (fun D i H' _ ⟨_, _, _, kp, _⟩ => Stays.of (keep_under kp)) (fun D i y H' nD hy ⟨ys, sb, U1, kp, hD⟩ => ?_) (fun D H' nD ⟨ys, sb, U1, kp, hD⟩ => ?_)
  · obtain ⟨z, hz2, rfl⟩ := map_at hy
    have nu : D ≠ u := U.ne nD
    have hi : i < xs.length := (List.getElem?_eq_some_iff.mp hz2).1
    refine ⟨rfl, .ref u, rfl, .int low, rfl, u, low, n + i, rfl, U1, by omega, l0, l1, fun r H2 r0 r1 U2 k2 => ⟨rfl, _, rfl, ?_⟩⟩
    have hD2 := k2 D _ nu hD
    refine ite2 (fun _ => ?_) (fun _ => ?_)
    · refine ⟨_, rfl, _, hD2, ?_, ys ++ [z], ?_, U2.upd nu, (kp.trans k2).put nD, ?_⟩
      · rw [List.length_map]
        have := sb.length_le
        rw [List.length_take] at this
        exact small1000 (by omega)
      · rw [List.take_add_one, hz2]
        exact sb.append (List.Sublist.refl _)
      · rw [upd_same, List.map_append]
        rfl
    · refine ⟨ys, ?_, U2, kp.trans k2, hD2⟩
      rw [List.take_add_one]
      exact sb.trans (List.sublist_append_left _ _)
  · rw [List.length_map] at sb U1
    refine ⟨D, _, rfl, .inl ⟨SqL.of hD, fun p np => ?_⟩⟩
    have pu := U1.ne np
    rw [List.take_length] at sb
    exact k ys p _ sb (U1.upd pu) (kp.trans (keep_new np)) pu (kp.free pu np) upd_same
/-! ### mixed -/
def spMixed (K : PySem.W.Frag) : Sp := fun vs H Q _ => ∃ (u : Addr) (x : V) (xs : List Str) (n : Nat), vs = [.ref u, x] ∧ UrnAt u H n ∧ n + xs.length ≤ 1000000 ∧ SeqV K (hide u H) x (xs.map V.str) ∧ xs.length ≤ 900 ∧
  ∀ (ys : List Str) p H', ys.Perm xs → UrnAt u H' (n + xs.length) → Keep u H H' → p ≠ u → H p = none → H' p = some (.tup (ys.map V.str)) → Q (.ref p) H'
theorem scMx : FnScope ["_law_urn", "_law_pool", "_law_left", "_law_found", "_law_turn"] ["_law_urn", "_law_pool"] (defScope sMixed) := ⟨rfl, rfl, rfl, by decide +kernel, rfl, by decide +kernel, by decide +kernel⟩
theorem ok_mixed {f g : Addr} {fd gd : FuncData} (F : Fun K "_law_mixed" "_law_mixed" sMixed f fd) (G : FnOk P w K mg base CX0 1 g gd ["_law_urn", "_law_low_so"] spTake) (bG : Binds K gd ["_law_urn", "_law_low_so"] []) (kG : PySem.W.keepIn K (.ref g) = true) (mG : mg "_law_take" = some (.ref g))
    (mt : mg "tuple" = none) (ml : mg "list" = none) (mr : mg "range" = none) (mn : mg "len" = none) : FnOk P w K mg base CX0 2 f fd ["_law_urn", "_law_pool"] (spMixed K) := by
  refine F.ok scMx (fun vs H Q E h => ?_) (fun cdv A outer s H vs Q E hr h => ?_)
  · obtain ⟨u, x, xs, n, rfl, _⟩ := h
    rfl
  obtain ⟨u, x, xs, n, rfl, U, hn, hx, hz, k⟩ := h
  refine ⟨_, pss_cons (ps_par (i := 2) (j := 3) (by rfl) scMx.nd rfl rfl (by decide) rfl rfl (pa_cons (pe_callTy call_list_of (by rfl) ml (by decide +kernel) (pa_cons (pv 1) pa_nil)) (pa_cons (pe_lst pa_nil) pa_nil)) (by rfl))
    (pss_cons (ps_for PassesOwn.never rfl (pi_range1 (by rfl) mr (pa_cons (pe_callB call_len_seq (by rfl) mn PySem.boot_len (pa_cons (pv 1) pa_nil)) pa_nil)) (pg_name (i := 4) scMx.nd rfl (.inl rfl))
      (pss_one (ps_expr (pe_bm PySem.F.plainAttrs_list PySem.F.slot_list_append PySem.F.type_list_append mt_append (pv 3) (pa_cons
        (pe_bm PySem.F.plainAttrs_list PySem.F.slot_list_pop PySem.F.type_list_pop mt_popAt (pv 2) (pa_cons (pe_call G hr (by rfl) mG kG bG .nil pass0 (pa_cons (pv 0) (pa_cons (pe_callB call_len_seq (by rfl) mn PySem.boot_len (pa_cons (pv 2) pa_nil)) pa_nil))) pa_nil)) pa_nil)))))
    (pss_one (ps_ret (pe_callTy call_tuple_of (by rfl) mt (by decide +kernel) (pa_cons (pv 3) pa_nil))))), ?_⟩
  have hx1 := st_sv hide_le hx
  obtain ⟨a, rfl, ha⟩ := id hx1
  refine ⟨_, rfl, a, _, rfl, ha, fun L nL => ⟨Nat.zero_le _, fun F nF => ⟨_, _, rfl, ?_⟩⟩⟩
  have Lu := U.ne nL
  have U1 := U.upd (o := .lst (xs.map V.str)) Lu
  have Fu := U1.ne nF
  have FL : F ≠ L := fun e => by
    rw [e, upd_same] at nF
    cases nF
  have nF0 : H F = none := (same_new nL).free nF
  have k1 : Keep u H (upd (upd H L (.lst (xs.map V.str))) F (.lst [])) := (keep_new nL).trans (keep_new nF)
  have hx2 := st_sv (keep_under k1) hx
  obtain ⟨a', e', ha'⟩ := hx2
  cases e'
  refine ⟨_, rfl, a, _, rfl, ha', _, rfl, by rw [List.length_map]; omega, by rw [List.length_map]; omega, ?_⟩
  refine for_range (lo := 0) (n := (xs.map V.str).length) (fun i σ H' => ∃ (lf fo : List Str) (t : Option V), σ = [some (.ref u), some (.ref a), some (.ref L), some (.ref F), t] ∧ UrnAt u H' (n + i) ∧ Keep u H H' ∧ H' L = some (.lst (lf.map V.str)) ∧ H' F = some (.lst (fo.map V.str)) ∧ (fo ++ lf).Perm xs ∧ fo.length = i) ?_ ?_ ?_
  · exact ⟨xs, [], none, rfl, U1.upd Fu, k1, by rw [upd_ne FL.symm, upd_same], upd_same, List.Perm.refl _, rfl⟩
  · rintro i σ H' hi ⟨lf, fo, t, rfl, U2, k2, hL, hF, pm, fl⟩
    have pl := pm.length_eq
    rw [List.length_append, fl] at pl
    rw [List.length_map] at hi
    have hll : (lf.map V.str).length = lf.length := List.length_map _
    refine ⟨_, rfl, .inl ⟨rfl, _, SqL.of hF⟩, _, rfl, .inl ⟨rfl, _, SqL.of hL⟩, _, rfl, _, rfl, L, _, rfl, .inl (SqL.of hL), u, _, n + i, rfl, U2, by omega, by omega, by omega, fun r H2 r0 r1 U3 k3 => ?_⟩
    have hL2 := k3 L _ Lu hL
    have hF2 := k3 F _ Fu hF
    have hr2 : r.toNat < lf.length := by omega
    have gl : (lf.map V.str)[r.toNat]? = some (.str lf[r.toNat]) := by
      rw [List.getElem?_map, List.getElem?_eq_getElem hr2]
      rfl
    refine ⟨L, _, r, r.toNat, _, rfl, rfl, hL2, by omega, by omega, seqIndex_of r0 (by omega), gl, ?_⟩
    have hF3 : upd H2 L (.lst ((lf.map V.str).eraseIdx r.toNat)) F = some (.lst (fo.map V.str)) := by
      rw [upd_ne FL]
      exact hF2
    refine ⟨F, _, _, rfl, rfl, hF3, ?_, ?_⟩
    · rw [List.length_map]
      exact small1000 (by omega)
    refine ⟨lf.eraseIdx r.toNat, fo ++ [lf[r.toNat]], _, rfl, (U3.upd Lu).upd Fu, ((k2.trans k3).put nL).put nF0, ?_, ?_, ?_, ?_⟩
    · rw [upd_ne FL.symm, upd_same, erase_map]
    · rw [upd_same, List.map_append]
      rfl
    · refine List.Perm.trans ?_ pm
      rw [List.append_assoc]
      refine List.Perm.append_left fo ?_
      exact erase_perm lf r.toNat _ (List.getElem?_eq_getElem hr2)
    · rw [List.length_append, fl]
      rfl
  · rintro σ H' ⟨lf, fo, t, rfl, U2, k2, hL, hF, pm, fl⟩
    have pl := pm.length_eq
    rw [List.length_append, fl, List.length_map] at pl
    rw [List.length_map] at U2
    have e : lf = [] := List.eq_nil_of_length_eq_zero (by omega)
    subst e
    rw [List.append_nil] at pm
    refine ⟨_, rfl, F, _, rfl, .inl ⟨SqL.of hF, fun p np => ?_⟩⟩
    have pu := U2.ne np
    exact k fo p _ pm (U2.upd pu) (k2.trans (keep_new np)) pu (k2.free pu np) upd_same
end
end Cx

namespace Cx
open PySem PySem.Spec PyProof.Rows L2
theorem cut_map (ns : List Int) (lo hi : Option Int) : cutV (ns.map V.int) lo hi = ((ns.drop (HT.sIx ns.length 0 lo)).take (HT.sIx ns.length ns.length hi - HT.sIx ns.length 0 lo)).map V.int := by
  unfold cutV
  rw [List.length_map, List.map_take, List.map_drop]
theorem cut_1 (ns : List Int) (t : Nat) : cutV (ns.map V.int) none (some (t : Int)) = (ns.take t).map V.int := by
  rw [cut_map, HT.sIx_none, HT.sIx_nat, List.drop_zero, Nat.sub_zero]
  congr 1
  by_cases h : t ≤ ns.length
  · rw [Nat.min_eq_left h]
  · rw [Nat.min_eq_right (by omega), List.take_length, List.take_of_length_le (by omega)]
theorem cut_2 (ns : List Int) (t : Nat) : ∃ ks : List Int, cutV (ns.map V.int) (some (t : Int)) (some 63) = ks.map V.int ∧ ks.length ≤ ns.length ∧ (0 < ks.length → t < ns.length) := by
  refine ⟨_, cut_map ns (some (t : Int)) (some 63), ?_, fun h => ?_⟩
  · rw [List.length_take, List.length_drop]
    omega
  · rw [List.length_take, List.length_drop, HT.sIx_nat] at h
    omega
section
variable {P : Program} {w : World} {K : PySem.W.Frag} {mg : Str → Option Value} {base : Heap}
/-! ### box -/
def spBox (K : PySem.W.Frag) : Sp := fun vs H Q _ => ∃ (a : Addr) (ns : List Int) (k : Int), vs = [.ref a, .int k] ∧ SqL K H a (ns.map V.int) ∧ 0 ≤ k ∧ k < 100 ∧ ∀ u H', Same H H' → H u = none → UrnAt u H' 0 → Q (.ref u) H'
theorem scBx : FnScope ["_law_script", "_law_k", "_law_cell"] ["_law_script", "_law_k"] (defScope sBox) := ⟨rfl, rfl, rfl, by decide +kernel, rfl, by decide +kernel, by decide +kernel⟩
theorem ok_box {f : Addr} {fd : FuncData} (F : Fun K "_law_box" "_law_box" sBox f fd) (mi : mg "int" = none) (mn : mg "len" = none) (ma : mg "abs" = none) : FnOk P w K mg base CX0 1 f fd ["_law_script", "_law_k"] (spBox K) := by
  refine F.ok scBx (fun vs H Q E h => ?_) (fun cdv A outer s H vs Q E hr h => ?_)
  · obtain ⟨a, ns, k, rfl, _⟩ := h
    rfl
  obtain ⟨a, ns, k, rfl, hS, k0, k1, q⟩ := h
  refine ⟨_, pss_cons (ps_set (i := 2) scBx.nd rfl (.inl rfl) (pe_ifExp (pt_cmpR op_lt (pv 1) (pe_callB call_len_seq (by rfl) mn PySem.boot_len (pa_cons (pv 0) pa_nil)) (nomark _)) (pe_ix ix_list (pv 0) (pv 1) (fun _ _ => rfl)) pe_int))
    (pss_one (ps_ret (pe_lst (pa_cons (pe_op op_mul (pe_callB call_abs (by rfl) ma (by decide +kernel) (pa_cons (pv 2) pa_nil)) (pe_callTy call_int1 (by rfl) mi (by decide +kernel) (pa_cons (pe_cmpR op_ge (pe_callB call_abs (by rfl) ma (by decide +kernel) (pa_cons (pv 2) pa_nil)) (pe_op op_pow pe_int pe_int) (nomark _)) pa_nil)))
      (pa_cons (pe_op op_add (pe_op op_add (pe_op op_mod (pe_callTy call_int1 (by rfl) mi (by decide +kernel) (pa_cons (pv 2) pa_nil)) pe_int) (pe_op op_mul pe_int (pv 1))) pe_int) (pa_cons pe_int pa_nil)))))), ?_⟩
  have fin : ∀ c : Int, ∀ D : Ends, D.rt = Q → tRet (tLst (tCons (tOp (rI CMul fun i j => .int (i * j)) (tCB (fun xs H Q => ∃ i, xs = [.int i] ∧ Q (.int (if i < 0 then -i else i)) H) (tCons (tVar 2) tNil)) (tCB (fun xs H Q => (∃ i, xs = [.int i] ∧ Q (.int i) H) ∨ ∃ k, xs = [.bl k] ∧ Q (.int (if k then 1 else 0)) H) (tCons (tOp (rI0 fun i j => .bl (decide (j ≤ i))) (tCB (fun xs H Q => ∃ i, xs = [.int i] ∧ Q (.int (if i < 0 then -i else i)) H) (tCons (tVar 2) tNil)) (tOp (rI CPow fun i j => .int (i ^ j.toNat)) (tC (.int 10)) (tC (.int 18)))) tNil)))
      (tCons (tOp (rI0 fun i j => .int (i + j)) (tOp (rI0 fun i j => .int (i + j)) (tOp (rI (fun _ j => 0 < j) fun i j => .int (i % j)) (tCB (fun xs H Q => (∃ i, xs = [.int i] ∧ Q (.int i) H) ∨ ∃ k, xs = [.bl k] ∧ Q (.int (if k then 1 else 0)) H) (tCons (tVar 2) tNil)) (tC (.int 2305843009213693951))) (tOp (rI CMul fun i j => .int (i * j)) (tC (.int 39373)) (tVar 1))) (tC (.int 807))) (tCons (tC (.int 0)) tNil)))) D [some (.ref a), some (.int k), some (.int c)] H := fun c D hD => by
    refine ⟨_, rfl, _, rfl, _, rfl, _, rfl, _, _, rfl, rfl, ⟨by decide, by decide, by decide⟩, _, _, rfl, rfl, .inr ⟨_, rfl, _, _, rfl, rfl, .inr (by split <;> omega), ?_⟩⟩
    refine ⟨_, rfl, .inl ⟨_, rfl, _, _, rfl, rfl, (by show (0 : Int) < 2305843009213693951; decide), _, rfl, _, _, rfl, rfl, .inr (by omega), _, _, rfl, rfl, _, _, rfl, rfl, (by show 3 ≤ sizeLine; decide), fun u nu => ?_⟩⟩
    rw [hD]
    exact q u _ (same_new nu) nu ⟨_, _, _, upd_same, Int.le_refl 0, Int.le_refl 0⟩
  refine ⟨_, rfl, _, rfl, a, _, rfl, .inl hS, _, _, rfl, rfl, _, rfl, ite2 (fun c => ?_) (fun c => ?_)⟩
  · have c2 := of_decide_eq_true c
    rw [List.length_map] at c2
    have hk : k.toNat < ns.length := by omega
    have e : atI (ns.map V.int) ((k.toNat : Nat) : Int) = some (.int ns[k.toNat]) := atI_nat (by rw [List.getElem?_map, List.getElem?_eq_getElem hk]; rfl)
    rw [Int.toNat_of_nonneg k0] at e
    exact ⟨_, rfl, _, rfl, a, _, _, _, rfl, rfl, hS, e, fin _ _ rfl⟩
  · exact fin _ _ rfl
/-! ### cells -/
def spCells (K : PySem.W.Frag) : Sp := fun vs H Q _ => ∃ (a : Addr) (ns : List Int) (t : Nat), vs = [.ref a, .int (t : Int)] ∧ SqL K H a (ns.map V.int) ∧ ns.length ≤ 1000 ∧ 1 ≤ t ∧ t ≤ 60 ∧
  ∀ p (ms : List Int) H', Same H H' → H p = none → H' p = some (.lst (ms.map V.int)) → 1 ≤ ms.length → ms.length ≤ t → Q (.ref p) H'
theorem scCl : FnScope ["_law_script", "_law_top", "_law_cells_here", "_law_k", "_law_cell", "_law_at_so"] ["_law_script", "_law_top"] (defScope sCells) := ⟨rfl, rfl, rfl, by decide +kernel, rfl, by decide +kernel, by decide +kernel⟩
theorem ok_cells {f : Addr} {fd : FuncData} (F : Fun K "_law_cells" "_law_cells" sCells f fd) (mi : mg "int" = none) (ml : mg "list" = none) (me : mg "enumerate" = none) : FnOk P w K mg base CX0 1 f fd ["_law_script", "_law_top"] (spCells K) := by
  refine F.ok scCl (fun vs H Q E h => ?_) (fun cdv A outer s H vs Q E hr h => ?_)
  · obtain ⟨a, ns, t, rfl, _⟩ := h
    rfl
  obtain ⟨a, ns, t, rfl, hS, hz, t1, t2, q⟩ := h
  refine ⟨_, Evl.pss_cut (ps_set (i := 2) scCl.nd rfl (.inl rfl) (pe_orT (pe_callTy call_list_of (by rfl) ml (by decide +kernel) (pa_cons (pe_slice sl_list (pv 0) po_none (po_some (pv 1))) pa_nil)) (pe_one (pe_lst (pa_cons pe_int pa_nil)))))
    (pss_cons (ps_for PassesOwn.never rfl (pi_enum (by rfl) me (pa_cons (pe_slice sl_list (pv 0) (po_some (pv 1)) (po_some pe_int)) pa_nil)) (pg_tup rfl (pgs_cons (pg_name (i := 3) scCl.nd rfl (.inl rfl)) (pgs_cons (pg_name (i := 4) scCl.nd rfl (.inl rfl)) pgs_nil)))
      (pss_cons (ps_set (i := 5) scCl.nd rfl (.inl rfl) (pe_op op_mod (pe_callTy call_int1 (by rfl) mi (by decide +kernel) (pa_cons (pv 3) pa_nil)) (pv 1)))
      (pss_one (ps_asg (pe_op op_add (pe_ix ix_list (pv 2) (pv 5) (fun _ _ => rfl)) (pe_op op_mul (pv 4) (pe_op op_add (pv 3) pe_int))) (pg_sub (pv 2) (pv 5) set_list)))))
    (pss_one (ps_ret (pv 2)))), ?_⟩
  refine ⟨fun σ' H' => ∃ (L : Addr) (ms : List Int), σ' = [some (.ref a), some (.int (t : Int)), some (.ref L), none, none, none] ∧ Same H H' ∧ H L = none ∧ H' L = some (.lst (ms.map V.int)) ∧ 1 ≤ ms.length ∧ ms.length ≤ t ∧ (t < ns.length → ms.length = t), ?_, ?_⟩
  · refine ⟨_, rfl, _, rfl, _, rfl, a, _, rfl, hS, fun C nC => ⟨C, _, rfl, .inl (SqL.of upd_same), fun L nL => ?_⟩⟩
    rw [cut_1] at nL ⊢
    have s1 : Same H (upd (upd H C (.lst ((ns.take t).map V.int))) L (.lst ((ns.take t).map V.int))) := (same_new nC).trans (same_new nL)
    have hL : upd (upd H C (.lst ((ns.take t).map V.int))) L (.lst ((ns.take t).map V.int)) L = some (.lst ((ns.take t).map V.int)) := upd_same
    have hlen : (ns.take t).length = min t ns.length := List.length_take
    have nL0 := (same_new nC).free nL
    generalize ns.take t = ms at s1 hL hlen ⊢
    refine ⟨_, .inl ⟨_, SqL.of hL, rfl⟩, ?_⟩
    cases ms with
    | nil =>
      refine iteF ⟨by show 1 ≤ sizeLine; decide, fun M nM => ?_⟩
      exact ⟨M, [0], rfl, s1.trans (same_new nM), s1.free nM, upd_same, Nat.le_refl 1, t1, fun c => by rw [List.length_nil] at hlen; omega⟩
    | cons m ms =>
      refine iteT ?_
      exact ⟨L, m :: ms, rfl, s1, nL0, hL, by rw [List.length_cons]; omega, by omega, fun c => by omega⟩
  rintro σ' H1 ⟨L, ms, rfl, s1, nL, hL, m1, m2, m3⟩
  obtain ⟨ks, ek, hk, hk2⟩ := cut_2 ns t
  refine ⟨_, rfl, _, rfl, _, rfl, _, rfl, a, _, rfl, s1.seq hS, fun C nC => ?_⟩
  rw [ek]
  have CL : C ≠ L := fun e => by
    rw [e, hL] at nC
    cases nC
  refine ⟨C, _, rfl, SqL.of upd_same, ?_⟩
  refine for_it (walk_enum (K := K) (a := C) (xs := ks.map V.int)) (fun i σ H' => ∃ (ms : List Int) (x y z : Option V), σ = [some (.ref a), some (.int (t : Int)), some (.ref L), x, y, z] ∧ Same H H' ∧ H' C = some (.lst (ks.map V.int)) ∧ H' L = some (.lst (ms.map V.int)) ∧ 1 ≤ ms.length ∧ ms.length ≤ t ∧ (t < ns.length → ms.length = t)) ?_ (fun i σ H' _ ⟨_, _, _, _, _, _, hC, _⟩ => SqL.of hC) ?_ ?_
  · exact ⟨ms, none, none, none, rfl, s1.trans (same_new nC), upd_same, by rw [upd_ne CL.symm]; exact hL, m1, m2, m3⟩
  · rintro i x σ H2 H3 hi ⟨ms, y1, y2, y3, rfl, s2, hC, hL2, n1, n2, n3⟩ ⟨T, x1, x2, rfl, nT, rfl, e1, e2⟩
    cases e1
    obtain ⟨z, hz2, rfl⟩ := map_at e2
    rw [List.length_map] at hi
    have tn : t < ns.length := hk2 (by omega)
    have em := n3 tn
    have et : ((i : Nat) : Int) % (t : Int) = ((i % t : Nat) : Int) := (Int.natCast_emod i t).symm
    have it : i % t < ms.length := by
      rw [em]
      exact Nat.mod_lt _ (by omega)
    have LT : L ≠ T := ne_of_none hL2 nT
    have CT : C ≠ T := ne_of_none hC nT
    have hL3 : upd H2 T (.tup [.int (i : Nat), .int z]) L = some (.lst (ms.map V.int)) := by rw [upd_ne LT]; exact hL2
    have gl : (ms.map V.int)[i % t]? = some (.int ms[i % t]) := by
      rw [List.getElem?_map, List.getElem?_eq_getElem it]
      rfl
    refine ⟨T, _, rfl, .inl (.inl upd_same), rfl, _, _, rfl, _, _, rfl, rfl, ?_⟩
    refine ⟨_, rfl, .inl ⟨_, rfl, _, rfl, _, _, rfl, rfl, by omega, ?_⟩⟩
    have ga : atI (ms.map V.int) (((i : Nat) : Int) % (t : Int)) = some (.int ms[i % t]) := by
      rw [et]
      exact atI_nat gl
    refine ⟨_, rfl, _, rfl, L, _, _, _, rfl, rfl, SqL.of hL3, ga, _, rfl, _, rfl, _, _, rfl, rfl, _, _, rfl, rfl, .inr (by omega), _, _, rfl, rfl, _, rfl, _, rfl, L, _, _, i % t, rfl, rfl, hL3, ?_, ?_⟩
    · rw [et]
      unfold ixN
      rw [List.length_map, if_pos (by omega), if_pos (by omega), Int.toNat_natCast]
    · refine ⟨ms.set (i % t) (ms[i % t] + z * ((i : Nat) + 2)), _, _, _, rfl, fun b o e => ?_, ?_, ?_, by rw [List.length_set]; exact n1, by rw [List.length_set]; exact n2, fun c => by rw [List.length_set]; exact n3 c⟩
      · rw [upd_ne (ne_of_none e nL)]
        exact (s2.trans (same_new nT)) b o e
      · rw [upd_ne CL, upd_ne CT]
        exact hC
      · rw [upd_same, List.map_set]
  · rintro σ H2 ⟨ms, y1, y2, y3, rfl, s2, hC, hL2, n1, n2, n3⟩
    exact ⟨_, rfl, q L ms H2 s2 nL hL2 n1 n2⟩
end
end Cx

/-! the state of a sheet that is drawn -/
namespace Cx
open PySem PySem.Spec PyProof.Rows L2
theorem nodup_le : ∀ {L ys : List Str}, L.Nodup → (∀ j ∈ L, j ∈ ys) → L.length ≤ ys.length
  | [], _, _, _ => Nat.zero_le _
  | x :: L, ys, nd, h => by
    have hx : x ∈ ys := h x List.mem_cons_self
    have nd2 := List.nodup_cons.mp nd
    have ih := nodup_le (L := L) (ys := ys.erase x) nd2.2 fun j m => (List.mem_erase_of_ne fun (e : j = x) => nd2.1 (e ▸ m)).mpr (h j (List.mem_cons_of_mem _ m))
    rw [List.length_erase_of_mem hx] at ih
    have : 0 < ys.length := List.length_pos_of_mem hx
    rw [List.length_cons]
    omega
theorem rep01 {H : Hp} {l : Addr} {xs : List V} {b : Bool} {Q : VK} (hH : H l = some (.lst xs)) (hz : xs.length ≤ 1000) (q : ∀ p, H p = none → Q (.ref p) (upd H p (.lst (if b = true then xs else [])))) : rRep (.ref l) (.int (if b = true then 1 else 0)) H Q := by
  cases b with
  | true =>
    refine ⟨l, 1, xs, rfl, rfl, hH, by decide, by decide, by rw [Int.toNat_one, Nat.mul_one]; exact Nat.le_of_lt (small1000 hz), fun p np => ?_⟩
    have e : (List.replicate (1 : Int).toNat xs).flatten = xs := by
      show ([xs] : List (List V)).flatten = xs
      simp
    rw [e]
    exact q p np
  | false =>
    exact ⟨l, 0, xs, rfl, rfl, hH, by decide, by decide, Nat.zero_le _, fun p np => q p np⟩
theorem cut_str (ys : List Str) (lo hi : Option Int) : ∃ zs : List Str, cutV (ys.map V.str) lo hi = zs.map V.str ∧ zs.length ≤ ys.length ∧ ∀ z ∈ zs, z ∈ ys := by
  refine ⟨(ys.drop (HT.sIx ys.length 0 lo)).take (HT.sIx ys.length ys.length hi - HT.sIx ys.length 0 lo), ?_, ?_, fun z m => List.mem_of_mem_drop (List.mem_of_mem_take m)⟩
  · unfold cutV
    rw [List.length_map, List.map_take, List.map_drop]
  · rw [List.length_take, List.length_drop]
    omega
theorem cut_s1 (ys : List Str) (t : Nat) : cutV (ys.map V.str) none (some (t : Int)) = (ys.take t).map V.str := by
  unfold cutV
  rw [List.length_map, HT.sIx_none, HT.sIx_nat, List.drop_zero, Nat.sub_zero, ← List.map_take]
  congr 1
  by_cases h : t ≤ ys.length
  · rw [Nat.min_eq_left h]
  · rw [Nat.min_eq_right (by omega), List.take_length, List.take_of_length_le (by omega)]
theorem cut_s2 (ys : List Str) (m e : Nat) : ∃ zs : List Str, cutV (ys.map V.str) (some (m : Int)) (some ((m : Int) + (e : Int))) = zs.map V.str ∧ zs.length ≤ e ∧ zs.length ≤ ys.length ∧ ∀ z ∈ zs, z ∈ ys := by
  refine ⟨(ys.drop (HT.sIx ys.length 0 (some (m : Int)))).take (HT.sIx ys.length ys.length (some ((m + e : Nat) : Int)) - HT.sIx ys.length 0 (some (m : Int))), ?_, ?_, ?_, fun z h => List.mem_of_mem_drop (List.mem_of_mem_take h)⟩
  · unfold cutV
    rw [List.length_map, List.map_take, List.map_drop]
    rfl
  · rw [List.length_take, HT.sIx_nat, HT.sIx_nat]
    omega
  · rw [List.length_take, List.length_drop]
    omega
theorem if_map {b : Bool} {zs : List Str} : (if b = true then zs.map V.str else []) = (if b = true then zs else []).map V.str := by
  cases b
  · rfl
  · rfl
theorem if_le {α : Type} {b : Bool} {zs : List α} : (if b = true then zs else []).length ≤ zs.length := by
  cases b
  · exact Nat.zero_le _
  · exact Nat.le_refl _
theorem if_mem {α : Type} {b : Bool} {zs : List α} {z : α} (h : z ∈ (if b = true then zs else [])) : z ∈ zs := by
  cases b
  · cases h
  · exact h
theorem rep01s {H : Hp} {l : Addr} {xs : List Str} {b : Bool} {Q : VK} (hH : H l = some (.lst (xs.map V.str))) (hz : xs.length ≤ 1000) (q : ∀ p (zs : List Str), H p = none → zs.length ≤ xs.length → (∀ y ∈ zs, y ∈ xs) → Q (.ref p) (upd H p (.lst (zs.map V.str)))) :
    rRep (.ref l) (.int (if b = true then 1 else 0)) H Q := rep01 hH (by rw [List.length_map]; exact hz) fun p np => by
  rw [if_map]
  exact q p _ np if_le fun y m => if_mem m
theorem cats {H : Hp} {l b : Addr} {xs zs : List Str} {Q : VK} (h1 : H l = some (.lst (xs.map V.str))) (h2 : H b = some (.lst (zs.map V.str))) (hz : xs.length + zs.length ≤ 1000) (q : ∀ p, H p = none → Q (.ref p) (upd H p (.lst ((xs ++ zs).map V.str)))) : rCat (.ref l) (.ref b) H Q := by
  refine ⟨l, b, _, _, rfl, rfl, h1, h2, by rw [List.length_map, List.length_map]; exact Nat.le_of_lt (small1000 hz), fun p np => ?_⟩
  rw [← List.map_append]
  exact q p np
theorem sl_s {K : PySem.W.Frag} {H : Hp} {a : Addr} {ys : List Str} {lo hi : Option Int} {Q : VK} (h : H a = some (.lst (ys.map V.str))) (q : ∀ p (zs : List Str), H p = none → zs.length ≤ ys.length → (∀ z ∈ zs, z ∈ ys) → Q (.ref p) (upd H p (.lst (zs.map V.str)))) : rSlL K (.ref a) lo hi H Q := by
  refine ⟨a, _, rfl, SqL.of h, fun p np => ?_⟩
  obtain ⟨zs, e, l1, m1⟩ := cut_str ys lo hi
  rw [e]
  exact q p zs np l1 m1
theorem at_s {fo : List Str} {i : Nat} (h : i < fo.length) : atI (fo.map V.str) ((i : Nat) : Int) = some (.str fo[i]) := atI_nat (by rw [List.getElem?_map, List.getElem?_eq_getElem h]; rfl)
/-- what the dict at T holds: for each of these names a list of texts -/
def Tab (u T : Addr) (H0 : Hp) (fx : List (Addr × List Str)) (ys names : List Str) (B : Nat) (H : Hp) : Prop := ∃ kvs : List (Key × V), H T = some (.dK kvs) ∧ kvs.length ≤ names.length ∧
  ∀ z ∈ names, ∃ (a : Addr) (ws : List Str), valV kvs (.inr z) = some (.ref a) ∧ H a = some (.lst (ws.map V.str)) ∧ ws.length ≤ B ∧ (∀ y ∈ ws, y ∈ ys) ∧ H0 a = none ∧ a ≠ u ∧ a ≠ T ∧ ∀ p ∈ fx, a ≠ p.1
structure TmI (u T : Addr) (H0 : Hp) (fx : List (Addr × List Str)) (ys names : List Str) (c B : Nat) (H : Hp) : Prop where
  kp : Keep u H0 H
  U : UrnAt u H c
  Tu : T ≠ u
  T0 : H0 T = none
  fs : ∀ p ∈ fx, p.1 ≠ u ∧ p.1 ≠ T ∧ H p.1 = some (.lst (p.2.map V.str))
  tb : Tab u T H0 fx ys names B H
section
variable {u T : Addr} {H0 H H2 : Hp} {fx : List (Addr × List Str)} {ys names : List Str} {c c2 B B2 : Nat}
theorem TmI.keep (I : TmI u T H0 fx ys names c B H) (k : Keep u H H2) (U2 : UrnAt u H2 c2) : TmI u T H0 fx ys names c2 B H2 := by
  obtain ⟨kvs, ht, hl, h⟩ := I.tb
  refine ⟨I.kp.trans k, U2, I.Tu, I.T0, fun p m => ⟨(I.fs p m).1, (I.fs p m).2.1, k _ _ (I.fs p m).1 (I.fs p m).2.2⟩, kvs, k T _ I.Tu ht, hl, fun z m => ?_⟩
  obtain ⟨a, ws, e1, e2, e3, e4, e5, e6, r⟩ := h z m
  exact ⟨a, ws, e1, k a _ e6 e2, e3, e4, e5, e6, r⟩
theorem TmI.le (I : TmI u T H0 fx ys names c B H) (h1 : c ≤ c2) (h2 : B ≤ B2) : TmI u T H0 fx ys names c2 B2 H := by
  obtain ⟨kvs, ht, hl, h⟩ := I.tb
  refine ⟨I.kp, I.U.le h1, I.Tu, I.T0, I.fs, kvs, ht, hl, fun z m => ?_⟩
  obtain ⟨a, ws, e1, e2, e3, r⟩ := h z m
  exact ⟨a, ws, e1, e2, Nat.le_trans e3 h2, r⟩
theorem TmI.new {p : Addr} {o : HO} (I : TmI u T H0 fx ys names c B H) (np : H p = none) : TmI u T H0 fx ys names c B (upd H p o) := I.keep (keep_new np) (I.U.upd (I.U.ne np))
theorem TmI.ne (I : TmI u T H0 fx ys names c B H) {p : Addr} (np : H p = none) : p ≠ T := by
  obtain ⟨kvs, ht, _⟩ := I.tb
  exact (ne_of_none ht np).symm
theorem TmI.fne (I : TmI u T H0 fx ys names c B H) {p : Addr} (np : H p = none) : ∀ q ∈ fx, p ≠ q.1 := fun q m => (ne_of_none (I.fs q m).2.2 np).symm
theorem TmI.fix {p : Addr} {zs : List Str} (I : TmI u T H0 fx ys names c B H) (np : H p = none) : TmI u T H0 ((p, zs) :: fx) ys names c B (upd H p (.lst (zs.map V.str))) := by
  have J := I.new (o := .lst (zs.map V.str)) np
  obtain ⟨kvs, ht, hl, h⟩ := I.tb
  refine ⟨J.kp, J.U, J.Tu, J.T0, fun q m => ?_, kvs, by rw [upd_ne (I.ne np).symm]; exact ht, hl, fun z m => ?_⟩
  · rcases List.mem_cons.mp m with e | m
    · subst e
      exact ⟨I.U.ne np, I.ne np, upd_same⟩
    · exact J.fs q m
  · obtain ⟨a, ws, e1, e2, e3, e4, e5, e6, e7, e8⟩ := h z m
    have hne := ne_of_none e2 np
    refine ⟨a, ws, e1, by rw [upd_ne hne]; exact e2, e3, e4, e5, e6, e7, fun q m2 => ?_⟩
    rcases List.mem_cons.mp m2 with e | m2
    · subst e
      exact hne
    · exact e8 q m2
theorem TmI.drop {q : Addr × List Str} (I : TmI u T H0 (q :: fx) ys names c B H) : TmI u T H0 fx ys names c B H := by
  obtain ⟨kvs, ht, hl, h⟩ := I.tb
  refine ⟨I.kp, I.U, I.Tu, I.T0, fun p m => I.fs p (List.mem_cons_of_mem _ m), kvs, ht, hl, fun z m => ?_⟩
  obtain ⟨a, ws, e1, e2, e3, e4, e5, e6, e7, e8⟩ := h z m
  exact ⟨a, ws, e1, e2, e3, e4, e5, e6, e7, fun p m => e8 p (List.mem_cons_of_mem _ m)⟩
/-- a list of texts, new, put under one more name -/
theorem TmI.put {a : Addr} {ws : List Str} {z : Str} (I : TmI u T H0 fx ys names c B H) (na : H a = none) (hw : ws.length ≤ B) (hm : ∀ y ∈ ws, y ∈ ys) (hn : names.length ≤ 900) :
    ∃ H4, DPut (upd H a (.lst (ws.map V.str))) T (.str z) (.ref a) H4 ∧ TmI u T H0 fx ys (names ++ [z]) c B H4 := by
  have J := I.new (o := .lst (ws.map V.str)) na
  have nf := I.fne na
  have au := I.U.ne na
  have aT := I.ne na
  have a0 : H0 a = none := I.kp.free au na
  have ha : upd H a (.lst (ws.map V.str)) a = some (.lst (ws.map V.str)) := upd_same
  generalize upd H a (.lst (ws.map V.str)) = H1 at J ha ⊢
  obtain ⟨kvs, ht, hl, h⟩ := J.tb
  refine ⟨_, DPut.k (k := Sum.inr z) ht (small1000 (by omega)), J.kp.put J.T0, J.U.upd J.Tu, J.Tu, J.T0, fun p m => ⟨(J.fs p m).1, (J.fs p m).2.1, by rw [upd_ne (J.fs p m).2.1]; exact (J.fs p m).2.2⟩, _, upd_same, ?_, fun y m => ?_⟩
  · have := length_putK kvs (Sum.inr z) (V.ref a)
    rw [List.length_append]
    show _ ≤ names.length + 1
    omega
  · by_cases e : (Sum.inr y : Key) = Sum.inr z
    · refine ⟨a, ws, by rw [valV_put, if_pos e], by rw [upd_ne aT]; exact ha, hw, hm, a0, au, aT, nf⟩
    · have m2 : y ∈ names := by
        rcases List.mem_append.mp m with m | m
        · exact m
        · exact absurd (congrArg Sum.inr (List.mem_singleton.mp m)) e
      obtain ⟨b, vs, e1, e2, e3, e4, e5, e6, e7, e8⟩ := h y m2
      exact ⟨b, vs, by rw [valV_put, if_neg e]; exact e1, by rw [upd_ne e7]; exact e2, e3, e4, e5, e6, e7, e8⟩
/-- what stands under a name, and one text more at its end -/
theorem TmI.app {z : Str} (I : TmI u T H0 fx ys names c B H) (m : z ∈ names) : ∃ (a : Addr) (ws : List Str), DGet H T (.str z) (some (.ref a)) ∧ H a = some (.lst (ws.map V.str)) ∧ ws.length ≤ B ∧ (∀ y ∈ ws, y ∈ ys) ∧
    ∀ y ∈ ys, TmI u T H0 fx ys names c (B + 1) (upd H a (.lst (ws.map V.str ++ [.str y]))) := by
  obtain ⟨kvs, ht, hl, h⟩ := I.tb
  obtain ⟨a, ws, e1, e2, e3, e4, e5, e6, e7, e8⟩ := h z m
  refine ⟨a, ws, by rw [← e1]; exact DGet.k (k := Sum.inr z) ht, e2, e3, e4, fun y my => ?_⟩
  refine ⟨I.kp.put e5, I.U.upd e6, I.Tu, I.T0, fun p mp => ⟨(I.fs p mp).1, (I.fs p mp).2.1, by rw [upd_ne (e8 p mp).symm]; exact (I.fs p mp).2.2⟩, kvs, by rw [upd_ne e7.symm]; exact ht, hl, fun x mx => ?_⟩
  obtain ⟨b, vs, f1, f2, f3, f4, f5, f6, f7, f8⟩ := h x mx
  by_cases e : b = a
  · subst e
    rw [e2] at f2
    refine ⟨b, ws ++ [y], f1, by rw [upd_same, List.map_append]; rfl, by rw [List.length_append]; show ws.length + 1 ≤ _; omega, fun v mv => ?_, f5, f6, f7, f8⟩
    rcases List.mem_append.mp mv with mv | mv
    · exact e4 v mv
    · rw [List.mem_singleton.mp mv]
      exact my
  · exact ⟨b, vs, f1, by rw [upd_ne e]; exact f2, by omega, f4, f5, f6, f7, f8⟩
theorem TmI.at {p : Addr} {xs : List Str} (I : TmI u T H0 fx ys names c B H) (m : (p, xs) ∈ fx) : H p = some (.lst (xs.map V.str)) := (I.fs _ m).2.2
end
/-! ### rows of a sheet -/
def RowAt (H : Hp) (v : V) (q : Str × List Str) : Prop := ∃ a t, v = .ref a ∧ H a = some (.tup [.str q.1, .ref t]) ∧ H t = some (.tup (q.2.map V.str))
/-- a new sheet at v -/
def ShN (H : Hp) (v : V) (rs : List (Str × List Str)) (es : List Str) : Prop := ∃ q t1 t2 zs, v = .ref q ∧ H q = some (.tup [.ref t1, .ref t2]) ∧ H t1 = some (.tup zs) ∧ Paired (RowAt H) zs rs ∧ H t2 = some (.tup (es.map V.str))
theorem RowAt.keep {H H' : Hp} {v : V} {q : Str × List Str} (k : ∀ b xs, H b = some (.tup xs) → H' b = some (.tup xs)) (r : RowAt H v q) : RowAt H' v q := by
  obtain ⟨a, t, e, h1, h2⟩ := r
  exact ⟨a, t, e, k _ _ h1, k _ _ h2⟩
theorem tup_lst {H : Hp} {D : Addr} {xs : List V} {o : HO} (h : H D = some (.lst xs)) : ∀ b ys, H b = some (.tup ys) → upd H D o b = some (.tup ys) := fun b ys e => by
  rw [upd_ne fun c => by rw [c, h] at e; cases e]
  exact e
theorem pair_at {α β : Type} {R : α → β → Prop} : ∀ {xs : List α} {ys : List β} {i : Nat} {x : α}, Paired R xs ys → xs[i]? = some x → ∃ y, ys[i]? = some y ∧ R x y
  | _, _, 0, _, .cons h _, e => by
    cases e
    exact ⟨_, rfl, h⟩
  | _, _, i + 1, _, .cons _ t, e => pair_at (i := i) t e
theorem pair_snoc {α β : Type} {R : α → β → Prop} {x : α} {y : β} (h : R x y) : ∀ {xs : List α} {ys : List β}, Paired R xs ys → Paired R (xs ++ [x]) (ys ++ [y])
  | _, _, .nil => .cons h .nil
  | _, _, .cons g t => .cons g (pair_snoc h t)
theorem pair_perm {α β : Type} {R : α → β → Prop} {xs zs : List α} (p : zs.Perm xs) : ∀ {ys : List β}, Paired R xs ys → ∃ ws : List β, ws.Perm ys ∧ Paired R zs ws := by
  induction p with
  | nil =>
    intro ys h
    exact ⟨ys, .refl _, h⟩
  | cons x p ih =>
    intro ys h
    cases h with
    | cons h t =>
      obtain ⟨ws, q, r⟩ := ih t
      exact ⟨_ :: ws, q.cons _, .cons h r⟩
  | swap x y l =>
    intro ys h
    cases h with
    | cons h t =>
      cases t with
      | cons g t => exact ⟨_, .swap _ _ _, .cons g (.cons h t)⟩
  | trans p1 p2 ih1 ih2 =>
    intro ys h
    obtain ⟨ws, q, r⟩ := ih2 h
    obtain ⟨vs, q2, r2⟩ := ih1 r
    exact ⟨vs, q2.trans q, r2⟩
theorem nodup_ix {xs : List Str} (h : xs.Nodup) : ∀ {i j : Nat} {x : Str}, xs[i]? = some x → xs[j]? = some x → i = j := by
  intro i j x h1 h2
  obtain ⟨hi, e1⟩ := List.getElem?_eq_some_iff.mp h1
  obtain ⟨hj, e2⟩ := List.getElem?_eq_some_iff.mp h2
  have pw := List.pairwise_iff_getElem.mp h
  rcases Nat.lt_trichotomy i j with c | c | c
  · exact absurd (e1.trans e2.symm) (pw i j hi hj c)
  · exact c
  · exact absurd (e2.trans e1.symm) (pw j i hj hi c)
def rowK (H : Hp) : V → Str
  | .ref a => match H a with
    | some (.tup (.str z :: _)) => z
    | _ => ""
  | _ => ""
def rowT (H : Hp) : V → Addr
  | .ref a => match H a with
    | some (.tup (_ :: .ref t :: _)) => t
    | _ => 0
  | _ => 0
theorem rowK_at {H : Hp} {a t : Addr} {z : Str} (h : H a = some (.tup [.str z, .ref t])) : rowK H (.ref a) = z := by
  unfold rowK
  simp only [h]
theorem rowT_at {H : Hp} {a t : Addr} {z : Str} (h : H a = some (.tup [.str z, .ref t])) : rowT H (.ref a) = t := by
  unfold rowT
  simp only [h]
theorem tup_hide {H : Hp} {u b : Addr} {us xs : List V} (hu : H u = some (.lst us)) (h : H b = some (.tup xs)) : hide u H b = some (.tup xs) := by
  rw [hide_ne fun c => by rw [c, hu] at h; cases h]
  exact h
theorem dpa_strs {K : PySem.W.Frag} {H : Hp} : ∀ xs : List Str, DpAll K H (xs.map V.str) (xs.map PyData.str)
  | [] => .nil
  | x :: xs => .cons (.str x) (dpa_strs xs)
theorem dpa_rows {K : PySem.W.Frag} {H : Hp} {u : Addr} {us : List V} (hu : H u = some (.lst us)) : ∀ {zs : List V} {rs : List (Str × List Str)}, Paired (RowAt H) zs rs → DpAll K (hide u H) zs (rs.map fun r => .tuple [.str r.1, .tuple (r.2.map PyData.str)])
  | _, _, .nil => .nil
  | _, _, .cons h t => by
    obtain ⟨a, b, rfl, h1, h2⟩ := h
    exact .cons (.tup (.inl (.inl (tup_hide hu h1))) (.cons (.str _) (.cons (.tup (.inl (.inl (tup_hide hu h2))) (dpa_strs _)) .nil))) (dpa_rows hu t)
end Cx

/-! sorted of pairs of texts -/
namespace Cx
open PySem PySem.Spec PyProof.Rows L2
/-- pairs of texts in Python's order -/
def pLt (a b : Str × Str) : Bool := if a.1 = b.1 then sLt a.2 b.2 else sLt a.1 b.1
theorem sLt_irr (a : Str) : sLt a a = false := decide_eq_false (List.lt_irrefl _)
theorem sLt_tot {a b : Str} (h1 : sLt a b = false) (h2 : sLt b a = false) : a = b := str_ext (List.le_antisymm (List.not_lt.mp (of_decide_eq_false h2)) (List.not_lt.mp (of_decide_eq_false h1)))
theorem sLt_asym {a b : Str} (h : sLt a b = true) : sLt b a = false := decide_eq_false (List.lt_asymm (of_decide_eq_true h))
theorem sLt_neg {a b c : Str} (h1 : sLt a b = false) (h2 : sLt b c = false) : sLt a c = false :=
  decide_eq_false (List.not_lt.mpr (List.le_trans (List.not_lt.mp (of_decide_eq_false h2)) (List.not_lt.mp (of_decide_eq_false h1))))
theorem pLt_asym {a b : Str × Str} (h : pLt a b = true) : pLt b a = false := by
  unfold pLt at h ⊢
  by_cases e : a.1 = b.1
  · rw [if_pos e] at h
    rw [if_pos e.symm]
    exact sLt_asym h
  · rw [if_neg e] at h
    rw [if_neg fun z => e z.symm]
    exact sLt_asym h
theorem pLt_neg {a b c : Str × Str} (h1 : pLt a b = false) (h2 : pLt b c = false) : pLt a c = false := by
  unfold pLt at h1 h2 ⊢
  by_cases e : a.1 = b.1
  · rw [if_pos e] at h1
    rw [← e] at h2
    by_cases f : a.1 = c.1
    · rw [if_pos f] at h2 ⊢
      exact sLt_neg h1 h2
    · rw [if_neg f] at h2 ⊢
      exact h2
  · rw [if_neg e] at h1
    by_cases f : b.1 = c.1
    · rw [← f, if_neg e]
      exact h1
    · rw [if_neg f] at h2
      have h3 := sLt_neg h1 h2
      by_cases g : a.1 = c.1
      · rw [← g] at h2
        exact absurd (sLt_tot h1 h2) e
      · rw [if_neg g]
        exact h3
theorem pLt_swo {α : Type} (k : α → Str × Str) : SrtO.Swo fun x y => pLt (k x) (k y) := ⟨fun _ _ h => pLt_asym h, fun _ _ _ h1 h2 => pLt_neg h2 h1⟩
theorem pLt_tot {a b : Str × Str} (h1 : pLt a b = false) (h2 : pLt b a = false) : a = b := by
  unfold pLt at h1 h2
  by_cases e : a.1 = b.1
  · rw [if_pos e] at h1
    rw [if_pos e.symm] at h2
    exact Prod.ext e (sLt_tot h1 h2)
  · rw [if_neg e] at h1
    rw [if_neg fun z => e z.symm] at h2
    exact absurd (sLt_tot h1 h2) e
/-- a tuple of two texts -/
def PairV (h : Heap) (v : Value) (n : Str × Str) : Prop :=
  ∃ a o t1 t2 c, v = Value.ref a ∧ h.get? a = some o ∧ o.cls = .type "tuple" ∧ o.data = .seq #[Value.str n.1 t1, Value.str n.2 t2] c
theorem PairV.keeps {h h' : Heap} {v : Value} {n : Str × Str} (x : PairV h v n) (k : ∀ b o, h.get? b = some o → o.cls = .type "tuple" → h'.get? b = some o) : PairV h' v n := by
  obtain ⟨a, o, t1, t2, c, e, ho, hc, hd⟩ := x
  exact ⟨a, o, t1, t2, c, e, k a o ho hc, hc, hd⟩
section
variable {prog : Program} {w : World} {A : Around} {E : Value → Shared → Prop} {s : Shared}
theorem pairs_cmp {vs : List Value} {k : Value → Str × Str} (hp : ∀ v ∈ vs, PairV s.heap v (k v)) :
    SrtO.Cmp prog w A s (tuples' true) (fun p => p.1 ∈ vs) (SrtO.lt2 fun v u => pLt (k v) (k u)) := by
  intro p q hm hm'
  have h1 := hp _ hm
  have h2 := hp _ hm'
  show wpAny (model prog w) A (keyLt' (tuples' true) p.1 q.1) (fun r s' => s' = s ∧ r = pLt (k p.1) (k q.1)) (fun _ _ => False) s
  generalize k p.1 = x at h1 ⊢
  generalize k q.1 = y at h2 ⊢
  obtain ⟨x1, x2⟩ := x
  obtain ⟨y1, y2⟩ := y
  obtain ⟨a, o, t1, t2, c1, e, ho, _, hd⟩ := h1
  obtain ⟨b, o2, t3, t4, c2, e', ho', _, hd'⟩ := h2
  rw [e, e']
  refine PySem.W.kat_lt ho hd ho' hd' ?_
  show PySem.W.KatLex prog w A true (decide (2 < 2)) _ [(Value.str x1 t1, Value.str y1 t3), (Value.str x2 t2, Value.str y2 t4)] 0 s
  refine PySem.W.kat_cons (SeqAt.EqAt.str_str x1 t1 y1 t3 prog w _ _ ?_)
  refine PySem.W.kat_go (fun e1 => ?_) (fun e1 => ?_)
  · have ex : x1 = y1 := by simpa using e1
    subst ex
    refine PySem.W.kat_yes (PySem.W.kat_cons (SeqAt.EqAt.str_str x2 t2 y2 t4 prog w _ _ ?_))
    refine PySem.W.kat_go (fun e2 => ?_) (fun e2 => ?_)
    · have ey : x2 = y2 := by simpa using e2
      subst ey
      refine PySem.W.kat_yes (PySem.W.kat_nil ⟨rfl, ?_⟩)
      show false = pLt (x1, x2) (x1, x2)
      unfold pLt
      rw [if_pos rfl]
      exact (sLt_irr _).symm
    · refine PySem.W.kat_no (PySem.W.kat_one _ _ (PySem.P.lt_str ⟨rfl, ?_⟩))
      show decide (x2.cps.toList < y2.cps.toList) = pLt (x1, x2) (x1, y2)
      unfold pLt
      rw [if_pos rfl]
      rfl
  · have ex : x1 ≠ y1 := by simpa using e1
    refine PySem.W.kat_no (oneLt_str ⟨rfl, ?_⟩)
    show decide (x1.cps.toList < y1.cps.toList) = pLt (x1, x2) (y1, y2)
    unfold pLt
    rw [if_neg ex]
    rfl
theorem pairs_firsts {h : Heap} : ∀ {vs : List Value}, (∀ v ∈ vs, ∃ n, PairV h v n) → ∃ fs, PySem.W.KatTups h vs fs ∧ fs.length = vs.length ∧ ∀ f ∈ fs, ∃ x u, f = Value.str x u
  | [], _ => ⟨[], PySem.W.KatTups.nil, rfl, fun _ q => nomatch q⟩
  | v :: vs, hv => by
    obtain ⟨n, a, o, tk, t2, c, e, ho, hc, hd⟩ := hv v List.mem_cons_self
    obtain ⟨fs, h1, h2, h3⟩ := pairs_firsts (vs := vs) fun u hu => hv u (List.mem_cons_of_mem _ hu)
    subst e
    refine ⟨Value.str n.1 tk :: fs, PySem.W.KatTups.cons ho hc hd rfl h1, congrArg (· + 1) h2, fun f hf => ?_⟩
    rcases List.mem_cons.mp hf with q | q
    · exact ⟨n.1, tk, q⟩
    · exact h3 f q
theorem pairs_sortable {a : Addr} {vs : List Value} {k : Value → Str × Str} (h0 : 0 < vs.length) (hp : ∀ v ∈ vs, PairV s.heap v (k v))
    (ha : ∀ o, s.heap.get? a = some o → o.cls ≠ .type "tuple") : SrtO.SortableO prog w A s a vs fun v u => pLt (k v) (k u) := by
  intro h' keep
  have hp' : ∀ v ∈ vs, PairV h' v (k v) := fun v hm => (hp v hm).keeps fun b o e c => keep b o (fun z => ha o (z ▸ e) c) e
  obtain ⟨fs, h1, h2, h3⟩ := pairs_firsts fun v hm => ⟨_, hp' v hm⟩
  refine ⟨tuples' true, fun Q E hq => ?_, pairs_cmp hp'⟩
  refine PySem.W.kat_kind (T := .type "str") h1 (by omega) (fun f hm => ?_) (by rfl) ?_
  · obtain ⟨x, u, rfl⟩ := h3 f hm
    exact PySem.W.Looks.now
  · have e : (Value.type "str" != Value.type "tuple") = true := by decide +kernel
    rw [e]
    exact hq
theorem sorted_pairs {l : Addr} {vs : List Value} {k : Value → Str × Str} {Q : Value → Shared → Prop} (hl : s.heap.IsList l vs.toArray) (hz : vs.length ≤ sizeLine) (hp : ∀ v ∈ vs, PairV s.heap v (k v))
    (h : ∀ (h' : Heap) (d : Addr) (out : List Value), SrtO.Srtd (fun v u => pLt (k v) (k u)) out → out.Perm vs → (∀ b o, s.heap.get? b = some o → h'.get? b = some o) → s.heap.objs.size ≤ d → (∃ n, h'.get? d = some (seqObj "list" out.toArray n)) → Q (.ref d) { s with heap := h' }) :
    wpAny (model prog w) A (call (.builtin "sorted") [.ref l]) Q E s := by
  refine SrtO.sorted_ord (pLt_swo k) hl hz (fun h2 g a ha kk => ?_) fun out hs hb => ?_
  · refine pairs_sortable (s := { s with heap := g }) (by omega) (fun v hm => (hp v hm).keeps fun b o e _ => (kk b o e).2) fun o e => ?_
    have e' : some o = some (seqObj "list" vs.toArray 0) := e.symm.trans ha
    cases e'
    intro c
    exact absurd (Value.type.inj c) (by decide)
  · exact h _ _ out hs hb.perm (fun b o e => sortedAll_old e) (Nat.le_succ _) (sortedAll_at s.heap vs out.toArray)
end
/-- sorted(xs) of pairs of texts: a new list, rising -/
def rSortedPr (K : PySem.W.Frag) : List V → Hp → VK → Prop := fun vs H Q => ∃ (a : Addr) (xs : List V) (k : V → Str × Str), vs = [V.ref a] ∧ SqL K H a xs ∧
  (∀ x ∈ xs, ∃ p, x = V.ref p ∧ H p = some (.tup [.str (k x).1, .str (k x).2])) ∧
  ∀ ys p, ys.Perm xs → ys.Pairwise (fun x y => pLt (k y) (k x) = false) → H p = none → Q (.ref p) (upd H p (.lst ys))
section
variable {X : Cx}
theorem cr_sortedPr : CallR X (.builtin "sorted") (rSortedPr X.K) := by
  intro pins s σ H vs us Q I r h
  obtain ⟨a, xs, k, rfl, hs, hx, q⟩ := h
  obtain ⟨its, rv, hl, hz⟩ := I.list hs
  obtain ⟨u, rfl, ru⟩ := vals1 r
  obtain rfl : u = Value.ref a := ru
  obtain ⟨e1, e2⟩ := refs_back rv fun x m => by
    obtain ⟨p, e, _⟩ := hx x m
    exact ⟨p, e⟩
  have inn : ∀ v ∈ its, backV v ∈ xs := fun v hv => by
    rw [e1]
    exact List.mem_map.mpr ⟨v, hv, rfl⟩
  refine sorted_pairs (k := fun u => k (backV u)) hl.isList (by rw [← rv.length]; exact hz) (fun v hv => ?_) fun h' d out h1 h2 kp hd hn => ?_
  · obtain ⟨p, rfl⟩ := e2 v hv
    obtain ⟨p', e, ht⟩ := hx _ (inn _ hv)
    cases e
    obtain ⟨_, its2, r2, o, ho, hc, n, hd⟩ := I.hok _ _ ht
    obtain ⟨u1, u2, rfl, ri, rj⟩ := vals2 r2
    obtain ⟨t1, rfl⟩ := ri
    obtain ⟨t2, rfl⟩ := rj
    exact ⟨p, o, t1, t2, n, rfl, ho, hc, hd⟩
  · have h3 : ∀ u ∈ out, ∃ a, u = Value.ref a := fun u hu => e2 u (h2.mem_iff.mp hu)
    obtain ⟨n, hn⟩ := hn
    have hb : (out.map backV).Perm xs := by
      rw [e1]
      exact h2.map backV
    refine ⟨.ref d, upd H d (.lst (out.map backV)), I.laid (t' := s.toks) kp hd ⟨?_, out, n, vals_back h3, hn⟩, rfl, q _ d hb (List.pairwise_map.mpr h1) (I.hok.fresh hd)⟩
    rw [hb.length_eq]
    exact hz
end
end Cx

/-! rising texts -/
namespace Cx
open PySem PySem.Spec PyProof.Rows L2
def Asc (l : List Str) : Prop := l.Pairwise fun a b => sLt a b = true
theorem asc_of {l : List Str} (h : l.Pairwise fun a b => sLt b a = false) (nd : l.Nodup) : Asc l := by
  refine (h.and nd).imp fun {a b} q => ?_
  cases e : sLt a b with
  | true => rfl
  | false => exact absurd (sLt_tot e q.1) q.2
theorem rise_pw2 : ∀ {l : List Str} {p : Str}, risingS p l = true → (p :: l).Pairwise fun a b => sLt b a = false
  | [], p, _ => List.pairwise_singleton _ p
  | x :: r, p, h => by
    have h1 := Bool.and_eq_true_iff.mp (show (!ltCps x.cps.toList p.cps.toList && risingS x r) = true from h)
    have ih := rise_pw2 (l := r) (p := x) h1.2
    have px : sLt x p = false := by
      have q := h1.1
      rw [ltCps_eq] at q
      exact (Bool.not_eq_true' _).mp q
    refine List.pairwise_cons.mpr ⟨fun y m => ?_, ih⟩
    rcases List.mem_cons.mp m with e | m
    · rw [e]
      exact px
    · exact sLt_neg ((List.pairwise_cons.mp ih).1 y m) px
theorem asc_sorted {l : List Str} (h : sortedS l = true) (nd : l.Nodup) : Asc l := by
  cases l with
  | nil => exact .nil
  | cons x r => exact asc_of (rise_pw2 h) nd
theorem asc_nodup {l : List Str} (h : Asc l) : l.Nodup := h.imp fun {a b} q e => by
  rw [e, sLt_irr] at q
  cases q
theorem rows_keys {H : Hp} : ∀ {zs : List V} {rs : List (Str × List Str)}, Paired (RowAt H) zs rs → zs.map (rowK H) = rs.map (·.1)
  | _, _, .nil => rfl
  | _, _, .cons h t => by
    obtain ⟨a, b, rfl, h1, _⟩ := h
    rw [List.map_cons, List.map_cons, rows_keys t, rowK_at h1]
end Cx

namespace Cx
open PySem PySem.Spec PyProof.Rows L2
/-- a sheet of tuples -/
def shT (rs : List (Str × List Str)) (es : List Str) : PyData := .tuple [.tuple (rs.map fun r => .tuple [.str r.1, .tuple (r.2.map PyData.str)]), .tuple (es.map PyData.str)]
def names11 : List Str := ["a", "ann", "bob", "cat", "dan", "eve", "fay", "new", "old", "x", "zzzzzzzz"]
section
variable {P : Program} {w : World} {K : PySem.W.Frag} {mg : Str → Option Value} {base : Heap}
def spTome (K : PySem.W.Frag) : Sp := fun vs H Q _ => ∃ (u : Addr) (most free n : Nat), vs = [.ref u, .int (most : Int), .int (free : Int)] ∧ UrnAt u H n ∧ n + 1000 ≤ 1000000 ∧ 1 ≤ most ∧ most + free ≤ 11 ∧
  ∀ q rs es H', UrnAt u H' (n + 1000) → Keep u H H' → ShN H' (.ref q) rs es → rs.length ≤ most → es.length ≤ free → (∀ r ∈ rs, r.2.length ≤ 11 ∧ r.1 ∈ names11 ∧ (∀ y ∈ r.2, y ∈ names11) ∧ Asc r.2) → (∀ z ∈ es, z ∈ names11) → Asc (rs.map (·.1)) → Q (.ref q) H'
abbrev nTm : List Str := ["_law_urn", "_law_most_so", "_law_free_so", "_law_left", "_law_many_so", "_law_empty_so", "_law_table", "_law_clan", "_law_free", "_law_style", "_law_wide", "_law_k", "_law_turn", "_law_far", "_law_way", "_law_rows_so", "_law_own", "_law_flat"]
theorem scTm : FnScope nTm ["_law_urn", "_law_most_so", "_law_free_so"] (defScope sTome) := ⟨rfl, rfl, rfl, by decide +kernel, rfl, by decide +kernel, by decide +kernel⟩
structure TyTm (mg : Str → Option Value) : Prop where
  lst : mg "list" = none
  tup : mg "tuple" = none
  int : mg "int" = none
  rng : mg "range" = none
  srt : mg "sorted" = none
  set : mg "set" = none
/-- tuple(..) of what is made here -/
def rTupOf (K : PySem.W.Frag) : List V → Hp → VK → Prop := fun xs H Q => ∃ p ys, xs = [.ref p] ∧ ((SqL K H p ys ∧ ∀ t, H t = none → Q (.ref t) (upd H t (.tup ys))) ∨ (SqT K H p ys ∧ Q (.ref p) H))
def scRow : Scope := { kind := .function, names := [(".0", .local), ("_law_own", .cell), ("tuple", .globalImplicit), ("sorted", .globalImplicit), ("set", .globalImplicit), ("_law_table", .cell)], isGenerator := false, isCoroutine := false }
abbrev stT (u : Addr) (most free : Nat) (L : Addr) (m e : Nat) (F E T : Addr) (st wd : Int) (k ws fa wy rw : Option V) : L2.St := [some (.ref u), some (.int (most : Int)), some (.int (free : Int)), some (.ref L), some (.int (m : Int)), some (.int (e : Int)), some (.ref T), some (.ref F), some (.ref E), some (.int st), some (.int wd), k, ws, fa, wy, rw, none, none]
/-- what a sheet is drawn of -/
structure TmF (most free m : Nat) (st wd : Int) (ys fo fr : List Str) : Prop where
  fm : fo.length = m
  m1 : 1 ≤ m
  mm : m ≤ most
  m11 : m ≤ 11
  fl : fr.length ≤ free
  f11 : fr.length ≤ 11
  nd : fo.Nodup
  yl : ys.length = 11
  fy : ∀ z ∈ fo, z ∈ ys
  ry : ∀ z ∈ fr, z ∈ ys
  yn : ∀ z ∈ ys, z ∈ names11
  w0 : 0 < wd
  w1 : wd < 1000
theorem ok_tome {f g1 g2 g3 : Addr} {fd gd1 gd2 gd3 : FuncData} (F : Fun K "_law_tome" "_law_tome" sTome f fd)
    (GT : FnOk P w K mg base CX0 1 g1 gd1 ["_law_urn", "_law_low_so"] spTake) (bT : Binds K gd1 ["_law_urn", "_law_low_so"] []) (kT : PySem.W.keepIn K (.ref g1) = true) (mT : mg "_law_take" = some (.ref g1))
    (GF : FnOk P w K mg base CX0 2 g2 gd2 ["_law_urn", "_law_pool", "_law_one_of"] (spFew K)) (bF : Binds K gd2 ["_law_urn", "_law_pool", "_law_one_of"] []) (kF : PySem.W.keepIn K (.ref g2) = true) (mF : mg "_law_few" = some (.ref g2))
    (GM : FnOk P w K mg base CX0 2 g3 gd3 ["_law_urn", "_law_pool"] (spMixed K)) (bM : Binds K gd3 ["_law_urn", "_law_pool"] []) (kM : PySem.W.keepIn K (.ref g3) = true) (mM : mg "_law_mixed" = some (.ref g3)) (T : TyTm mg) :
    FnOk P w K mg base CX0 3 f fd ["_law_urn", "_law_most_so", "_law_free_so"] (spTome K) := by
  refine F.ok scTm (fun vs H Q E h => ?_) (fun cdv A outer s H vs Q E hr h => ?_)
  · obtain ⟨u, most, free, n, rfl, _⟩ := h
    rfl
  have hr1 : Room 1 _ := hr.mono (by omega)
  have hu := Nat.lt_of_le_of_lt (Nat.add_le_add_left (show 1 ≤ 64 by decide) _) hr.units
  refine ⟨_, pss_cons (ps_set (i := 3) scTm.nd rfl (.inl rfl) (pe_lst (pa_cons pe_str (pa_cons pe_str (pa_cons pe_str (pa_cons pe_str (pa_cons pe_str (pa_cons pe_str (pa_cons pe_str (pa_cons pe_str (pa_cons pe_str (pa_cons pe_str (pa_cons pe_str pa_nil)))))))))))))
    (Evl.pss_cut (ps_par (i := 4) (j := 5) (by rfl) scTm.nd rfl rfl (by decide) rfl rfl (pa_cons (pe_op op_add pe_int (pe_call GT hr1 (by rfl) mT kT bT .nil pass0 (pa_cons (pv 0) (pa_cons (pv 1) pa_nil)))) (pa_cons (pe_call GT hr1 (by rfl) mT kT bT .nil pass0 (pa_cons (pv 0) (pa_cons (pe_op op_add (pv 2) pe_int) pa_nil))) pa_nil)) (by rfl))
    (Evl.pss_cut (ps_asg (pe_tup (pa_cons (pe_callTy call_list_of (by rfl) T.lst (by decide +kernel) (pa_cons (pe_call GM hr (by rfl) mM kM bM .nil pass0 (pa_cons (pv 0) (pa_cons (pv 3) pa_nil))) pa_nil)) (pa_cons pe_dnewK pa_nil)))
        (pg_tup rfl (pgs_cons (pg_name (i := 3) scTm.nd rfl (.inl rfl)) (pgs_cons (pg_name (i := 6) scTm.nd rfl (.inr rfl)) pgs_nil))))
    (pss_cons (ps_par (i := 7) (j := 8) (by rfl) scTm.nd rfl rfl (by decide) rfl rfl (pa_cons (pe_slice sl_list (pv 3) po_none (po_some (pv 4))) (pa_cons (pe_slice sl_list (pv 3) (po_some (pv 4)) (po_some (pe_op op_add (pv 4) (pv 5)))) pa_nil)) (by rfl))
    (Evl.pss_cut (ps_par (i := 9) (j := 10) (by rfl) scTm.nd rfl rfl (by decide) rfl rfl (pa_cons (pe_call GT hr1 (by rfl) mT kT bT .nil pass0 (pa_cons (pv 0) (pa_cons pe_int pa_nil))) (pa_cons (pe_op op_add pe_int (pe_call GT hr1 (by rfl) mT kT bT .nil pass0 (pa_cons (pv 0) (pa_cons pe_int pa_nil)))) pa_nil)) (by rfl))
    (Evl.pss_cut (ps_for PassesOwn.never rfl (pi_range1 (by rfl) T.rng (pa_cons (pv 4) pa_nil)) (pg_name (i := 11) scTm.nd rfl (.inl rfl))
      (Evl.pss_cut (ps_set (i := 12) scTm.nd rfl (.inl rfl) (pe_ifExp (pt_cmpR op_eq (pv 9) pe_int (nomark _)) (pe_lst (pa_cons (pe_ix ix_list (pv 7) (pe_op op_mod (pe_callTy call_int1 (by rfl) T.int (by decide +kernel) (pa_cons (pe_op op_add (pv 11) pe_int) pa_nil)) (pv 4)) (fun _ _ => rfl)) pa_nil)) (pe_lst pa_nil)))
      (pss_cons (ps_set (i := 12) scTm.nd rfl (.inl rfl) (pe_op op_cat (pv 12) (pe_callTy call_list_of (by rfl) T.lst (by decide +kernel) (pa_cons (pe_call GF hr (by rfl) mF kF bF .nil pass0 (pa_cons (pv 0) (pa_cons (pv 8) (pa_cons pe_int pa_nil)))) pa_nil))))
      (pss_one (ps_dput hu (pv 6) (pe_ix ix_list (pv 7) (pv 11) (fun _ _ => rfl)) (pe_op op_cat (pv 12) (pe_ifExp (pt_cmpR op_eq (pe_call GT hr1 (by rfl) mT kT bT .nil pass0 (pa_cons (pv 0) (pa_cons pe_int pa_nil))) pe_int (nomark _)) (pe_slice sl_list (pv 3) (po_some (pe_un un_neg pe_int)) po_none) (pe_lst pa_nil))) rfl)))))
    (Evl.pss_cut (ps_for PassesOwn.never rfl (pi_range1 (by rfl) T.rng (pa_cons (pv 4) pa_nil)) (pg_name (i := 11) scTm.nd rfl (.inl rfl))
      (pss_one (ps_for PassesOwn.never rfl (pi_list (pe_slice sl_list (pv 7) (po_some (pe_op op_add (pv 11) pe_int)) po_none)) (pg_name (i := 13) scTm.nd rfl (.inl rfl))
        (pss_cons (ps_set (i := 14) scTm.nd rfl (.inl rfl) (pe_call GT hr1 (by rfl) mT kT bT .nil pass0 (pa_cons (pv 0) (pa_cons (pv 10) pa_nil))))
        (Evl.pss_cut (ps_if (PW.pt (pw_or (pt_cmpR op_eq (pv 14) pe_int (nomark _)) (pw_or1 (PW.pt (pw_and (pt_cmpR op_eq (pv 14) pe_int (nomark _)) (pw_and1 (pt_cmpR op_gt (pv 9) pe_int (nomark _))))))))
          (pss_one (ps_expr (pe_bm PySem.F.plainAttrs_list PySem.F.slot_list_append PySem.F.type_list_append mt_append (pe_dget hu (pv 6) (pe_ix ix_list (pv 7) (pv 11) (fun _ _ => rfl)) (fun _ _ => rfl)) (pa_cons (pv 13) pa_nil)))) pss_nil)
        (pss_one (ps_if (PW.pt (pw_or (pt_cmpR op_eq (pv 14) pe_int (nomark _)) (pw_or1 (PW.pt (pw_and (pt_cmpR op_eq (pv 14) pe_int (nomark _)) (pw_and1 (pt_cmpR op_gt (pv 9) pe_int (nomark _))))))))
          (pss_one (ps_expr (pe_bm PySem.F.plainAttrs_list PySem.F.slot_list_append PySem.F.type_list_append mt_append (pe_dget hu (pv 6) (pv 13) (fun _ _ => rfl)) (pa_cons (pe_ix ix_list (pv 7) (pv 11) (fun _ _ => rfl)) pa_nil)))) pss_nil)))))))
    (Evl.pss_cut (ps_setLcA (i := 15) (own := [("_law_own", 16)]) (g := gName 16) (tt := tYes)
        (te := tTup (tCons (tVar 16) (tCons (tCB (rTupOf K) (tCons (tCB (rSortTx w) (tCons (tCB (rSetTx K w) (tCons (tLcA K (tDGet (tVar 6) (tVar 16)) (gName 17) (tTest (tOp rNe (tVar 17) (tVar 16))) (tVar 17) [17]) tNil)) tNil)) tNil)) tNil)))
        rfl scTm.nd rfl rfl (sw_true rfl rfl rfl (by decide +kernel)) (pv 7) (blkOk_by (N := nTm) (sc := defScope sTome) (by decide +kernel))
        (fun _ _ _ _ _ => pg_name (i := 16) scTm.nd rfl (.inr rfl)) (fun _ _ _ _ _ => pts_nil) (fun _ _ _ _ _ => pe_tup (pa_cons (pv 16) (pa_cons (pe_callTy call_tuple_of (by rfl) T.tup (by decide +kernel) (pa_cons (pe_callB (cr_sortTx rfl) (by rfl) T.srt (by decide +kernel) (pa_cons (pe_callTy (cr_setTx rfl) (by rfl) T.set (by decide +kernel) (pa_cons
          (pe_lcA (own := [("_law_flat", 17)]) (g := gName 17) (tt := tTest (tOp rNe (tVar 17) (tVar 16))) (te := tVar 17) rfl scTm.nd (pe_dget hu (pv 6) (pv 16) (fun _ _ => rfl)) (blkOk_by (N := nTm) (sc := scRow) (by decide +kernel))
            (fun _ _ _ _ _ => pg_name (i := 17) scTm.nd rfl (.inl rfl)) (fun _ _ _ _ _ => pts_one (pt_cmpR op_ne (pv 17) (pv 16) (nomark _))) (fun _ _ _ _ _ => pv 17)) pa_nil)) pa_nil)) pa_nil)) pa_nil))))
    (pss_one (ps_ret (pe_tup (pa_cons (pe_callTy call_tuple_of (by rfl) T.tup (by decide +kernel) (pa_cons (pe_callB cr_sortedRows (by rfl) T.srt (by decide +kernel) (pa_cons (pv 15) pa_nil)) pa_nil)) (pa_cons (pe_callTy call_tuple_of (by rfl) T.tup (by decide +kernel) (pa_cons (pe_callB cr_sortedS (by rfl) T.srt (by decide +kernel) (pa_cons (pv 8) pa_nil)) pa_nil)) pa_nil)))))))))))), ?_⟩
  obtain ⟨u, most, free, n, rfl, U, hn, m1, m2, k⟩ := h
  refine ⟨by show 11 ≤ sizeLine; decide, fun L0 nL0 => ?_⟩
  have U0 := U.upd (o := .lst (names11.map V.str)) (U.ne nL0)
  have k0 : Keep u H _ := keep_new (o := .lst (names11.map V.str)) nL0
  have L0u := U.ne nL0
  have hL0 : upd H L0 (.lst (names11.map V.str)) L0 = some (.lst (names11.map V.str)) := upd_same
  refine ⟨fun σ' H' => ∃ m e : Nat, σ' = [some (.ref u), some (.int (most : Int)), some (.int (free : Int)), some (.ref L0), some (.int (m : Int)), some (.int (e : Int)), none, none, none, none, none, none, none, none, none, none, none, none] ∧ 1 ≤ m ∧ m ≤ most ∧ e ≤ free ∧ UrnAt u H' (n + 2) ∧ Keep u H H' ∧ H' L0 = some (.lst (names11.map V.str)), ?_, ?_⟩
  · refine ⟨_, rfl, _, rfl, u, _, n, rfl, U0, by omega, by omega, by omega, fun r1 H2 r10 r11 U2 k2 => ⟨_, _, rfl, rfl, ?_⟩⟩
    refine ⟨_, rfl, _, rfl, _, _, rfl, rfl, u, _, n + 1, rfl, U2, by omega, by omega, by omega, fun r2 H3 r20 r21 U3 k3 => ⟨_, _, rfl, ?_⟩⟩
    obtain ⟨m, em⟩ := Int.eq_ofNat_of_zero_le (show 0 ≤ 1 + r1 by omega)
    obtain ⟨e, ee⟩ := Int.eq_ofNat_of_zero_le r20
    have hL3 := k3 L0 _ L0u (k2 L0 _ L0u hL0)
    refine ⟨m, e, ?_, by omega, by omega, by omega, U3, (k0.trans k2).trans k3, hL3⟩
    rw [← em, ← ee]
    rfl
  rintro σ1 H3 ⟨m, e, rfl, m3, m4, e3, U3, k3, hL3⟩
  refine ⟨fun σ' H' => ∃ (L T : Addr) (ys : List Str), σ' = [some (.ref u), some (.int (most : Int)), some (.int (free : Int)), some (.ref L), some (.int (m : Int)), some (.int (e : Int)), some (.ref T), none, none, none, none, none, none, none, none, none, none, none] ∧ ys.length = 11 ∧ ys.Nodup ∧ (∀ z ∈ ys, z ∈ names11) ∧ TmI u T H [(L, ys)] ys [] (n + 13) 0 H', ?_, ?_⟩
  · refine ⟨_, rfl, _, rfl, u, .ref L0, names11, n + 2, rfl, U3, by show n + 2 + 11 ≤ _; omega, ⟨L0, rfl, .inl (SqL.of (by rw [hide_ne L0u]; exact hL3))⟩, by decide, fun ys p H4 pm U4 k4 pu np0 hp => ?_⟩
    have hlen : ys.length = 11 := pm.length_eq
    have nd11 : ys.Nodup := pm.nodup_iff.mpr (by decide +kernel)
    refine ⟨p, _, rfl, .inr (.inl (.inl hp)), fun L nL T nT => ⟨by show 2 ≤ sizeLine; decide, fun q nq => ?_⟩⟩
    have kA : Keep u H (upd H4 L (.lst (ys.map V.str))) := (k3.trans k4).trans (keep_new nL)
    have Lu := U4.ne nL
    have UA := U4.upd (o := .lst (ys.map V.str)) Lu
    have hL : upd H4 L (.lst (ys.map V.str)) L = some (.lst (ys.map V.str)) := upd_same
    have Tu := UA.ne nT
    have LT := ne_of_none hL nT
    have I0 : TmI u T H [(L, ys)] ys [] (n + 13) 0 (upd (upd H4 L (.lst (ys.map V.str))) T (.dK [])) := by
      refine ⟨kA.trans (keep_new nT), UA.upd Tu, Tu, kA.free Tu nT, fun p mp => ?_, [], upd_same, Nat.le_refl _, fun z mz => nomatch mz⟩
      rw [List.mem_singleton.mp mp]
      exact ⟨Lu, LT, by show upd _ T _ L = _; rw [upd_ne LT]; exact hL⟩
    exact ⟨q, _, rfl, .inl (.inl upd_same), rfl, _, _, rfl, _, _, rfl, rfl, L, T, ys, rfl, hlen, nd11, fun z h => pm.mem_iff.mp h, I0.new nq⟩
  rintro σ5 H5 ⟨L, T, ys, rfl, hlen, nd11, yn, I0⟩
  refine ⟨_, rfl, _, rfl, _, rfl, L, _, rfl, SqL.of (I0.at List.mem_cons_self), fun F nF => ?_⟩
  rw [cut_s1]
  have I1 := I0.fix (zs := ys.take m) nF
  refine ⟨_, rfl, _, rfl, _, rfl, _, rfl, _, rfl, _, _, rfl, rfl, _, rfl, L, _, rfl, SqL.of (I1.at (List.mem_cons_of_mem _ List.mem_cons_self)), fun E' nE => ?_⟩
  obtain ⟨fr, efr, fr1, fr2, fr3⟩ := cut_s2 ys m e
  rw [efr]
  have I2 := I1.fix (zs := fr) nE
  refine ⟨_, _, rfl, ?_⟩
  have fc : ∀ st wd : Int, 0 < wd → wd < 1000 → TmF most free m st wd ys (ys.take m) fr := fun st wd a b => ⟨by rw [List.length_take]; omega, m3, m4, by omega, by omega, by omega, nd11.sublist (List.take_sublist _ _), hlen, fun z h => List.mem_of_mem_take h, fr3, yn, a, b⟩
  generalize upd (upd H5 F (.lst ((ys.take m).map V.str))) E' (.lst (fr.map V.str)) = HC at I2 ⊢
  refine ⟨fun σ' H' => ∃ (ys fo fr : List Str) (m e : Nat) (L F E T : Addr) (st wd : Int), σ' = stT u most free L m e F E T st wd none none none none none ∧ TmF most free m st wd ys fo fr ∧ TmI u T H [(E, fr), (F, fo), (L, ys)] ys [] (n + 15) 0 H', ?_, ?_⟩
  · refine ⟨_, rfl, u, 4, _, rfl, I2.U, by omega, by decide, by decide, fun r1 H6 r10 r11 U6 k6 => ?_⟩
    refine ⟨_, rfl, u, 4, _, rfl, U6, by omega, by decide, by decide, fun r2 H7 r20 r21 U7 k7 => ⟨_, _, rfl, rfl, _, _, rfl, ?_⟩⟩
    exact ⟨ys, ys.take m, fr, m, e, L, F, E', T, r1, 3 + r2, rfl, fc _ _ (by omega) (by omega), I2.keep (k6.trans k7) U7⟩
  clear fc
  rintro σ2 H8 ⟨ys, fo, fr, m, e, L, F, E, T, st, wd, rfl, fc, I⟩
  have fm := fc.fm
  have m1' := fc.m1
  have m11 := fc.m11
  have f11 := fc.f11
  have yl := fc.yl
  have mF : (F, fo) ∈ [(E, fr), (F, fo), (L, ys)] := List.mem_cons_of_mem _ List.mem_cons_self
  have mL : (L, ys) ∈ [(E, fr), (F, fo), (L, ys)] := List.mem_cons_of_mem _ (List.mem_cons_of_mem _ List.mem_cons_self)
  have mE : (E, fr) ∈ [(E, fr), (F, fo), (L, ys)] := List.mem_cons_self
  refine ⟨fun σ' H' => ∃ k ws : Option V, σ' = stT u most free L m e F E T st wd k ws none none none ∧ TmI u T H [(E, fr), (F, fo), (L, ys)] ys fo (n + 15 + 12 * m) 23 H', ?_, ?_⟩
  · refine ⟨_, rfl, _, rfl, by omega, by omega, ?_⟩
    refine for_range (lo := 0) (n := m) (fun i σ H' => ∃ k ws : Option V, σ = stT u most free L m e F E T st wd k ws none none none ∧ TmI u T H [(E, fr), (F, fo), (L, ys)] ys (fo.take i) (n + 15 + 12 * i) 23 H') ?_ ?_ ?_
    · exact ⟨none, none, rfl, I.le (by omega) (by omega)⟩
    · rintro i σ H' hi ⟨k1, w1, rfl, J⟩
      have hi2 : i < fo.length := by omega
      have hj : (i + 1) % m < fo.length := by rw [fm]; exact Nat.mod_lt _ (by omega)
      have ej : ((0 : Int) + (i : Nat) + 1) % (m : Int) = (((i + 1) % m : Nat) : Int) := by
        rw [Int.natCast_emod]
        congr 1
        omega
      have ei : (0 : Int) + (i : Nat) = ((i : Nat) : Int) := by omega
      refine ⟨fun σ' H2 => ∃ (p : Addr) (ws1 : List Str), σ' = stT u most free L m e F E T st wd (some (.int (0 + (i : Int)))) (some (.ref p)) none none none ∧ TmI u T H [(E, fr), (F, fo), (L, ys)] ys (fo.take i) (n + 15 + 12 * i) 23 H2 ∧ p ≠ u ∧ H2 p = some (.lst (ws1.map V.str)) ∧ ws1.length ≤ 1 ∧ ∀ y ∈ ws1, y ∈ ys, ?_, ?_⟩
      · refine ⟨_, rfl, rfl, _, rfl, ite2 (fun _ => ?_) (fun _ => ?_)⟩
        · refine ⟨_, rfl, _, rfl, _, _, rfl, rfl, .inl ⟨_, rfl, _, rfl, _, _, rfl, rfl, (by show (0 : Int) < (m : Int); omega), F, _, _, _, rfl, rfl, SqL.of (J.at mF), (by rw [ej]; exact at_s hj), by show 1 ≤ sizeLine; decide, fun a na => ?_⟩⟩
          exact ⟨a, [fo[(i + 1) % m]], rfl, J.new na, J.U.ne na, upd_same, Nat.le_refl _, fun y my => by rw [List.mem_singleton.mp my]; exact fc.fy _ (List.getElem_mem hj)⟩
        · refine ⟨Nat.zero_le _, fun a na => ?_⟩
          exact ⟨a, [], rfl, J.new na, J.U.ne na, upd_same, Nat.zero_le _, fun y my => nomatch my⟩
      rintro σ10 H10 ⟨p, ws1, rfl, J1, pu, hp, l1', mm2⟩
      refine ⟨_, rfl, _, rfl, _, rfl, u, .ref E, fr, 3, _, rfl, J1.U, by omega, by decide, by decide, ⟨E, rfl, .inl (SqL.of (by rw [hide_ne (J1.fs _ mE).1]; exact J1.at mE))⟩, by omega, fun zs q H11 sub U11 k11 qu nq0 hq => ?_⟩
      refine ⟨q, _, rfl, .inr (.inl (.inl hq)), fun l nl => ?_⟩
      have J2 := (J1.keep k11 U11).new (o := .lst (zs.map V.str)) nl
      have hp2 : upd H11 l (.lst (zs.map V.str)) p = some (.lst (ws1.map V.str)) := by
        have h1 := k11 p _ pu hp
        rw [upd_ne (ne_of_none h1 nl)]
        exact h1
      have zl := sub.length_le
      refine cats hp2 upd_same (by omega) fun p2 np2 => ?_
      have J3 := J2.new (o := .lst ((ws1 ++ zs).map V.str)) np2
      have p2u := J2.U.ne np2
      have hp3 : upd (upd H11 l (.lst (zs.map V.str))) p2 (.lst ((ws1 ++ zs).map V.str)) p2 = some (.lst ((ws1 ++ zs).map V.str)) := upd_same
      have mm3 : ∀ y ∈ ws1 ++ zs, y ∈ ys := fun y my => (List.mem_append.mp my).elim (mm2 y) fun h => fc.ry y (sub.subset h)
      have l3 : (ws1 ++ zs).length ≤ 12 := by rw [List.length_append]; omega
      generalize upd (upd H11 l (.lst (zs.map V.str))) p2 (.lst ((ws1 ++ zs).map V.str)) = H12 at J3 hp3 ⊢
      generalize ws1 ++ zs = ws2 at mm3 l3 hp3
      refine ⟨_, rfl, _, rfl, u, 6, _, rfl, J3.U, by omega, by decide, by decide, fun r H13 r0 r1 U13 k13 => ⟨rfl, _, rfl, ?_⟩⟩
      have J4 := J3.keep k13 U13
      have hp4 := k13 p2 _ p2u hp3
      refine ite2 (fun _ => ?_) (fun _ => ?_)
      · refine ⟨_, rfl, _, rfl, _, rfl, L, _, rfl, SqL.of (J4.at mL), fun p3 np3 => ?_⟩
        obtain ⟨zs3, e3, l4, mm4⟩ := cut_str ys (some (-1)) none
        rw [e3]
        have J5 := J4.new (o := .lst (zs3.map V.str)) np3
        have hp5 : upd H13 p3 (.lst (zs3.map V.str)) p2 = some (.lst (ws2.map V.str)) := by
          rw [upd_ne (ne_of_none hp4 np3)]
          exact hp4
        refine cats hp5 upd_same (by omega) fun p6 np6 => ?_
        have J6 := J5.new (o := .lst ((ws2 ++ zs3).map V.str)) np6
        refine ⟨_, rfl, _, rfl, _, rfl, F, _, _, _, rfl, rfl, SqL.of (J6.at mF), (by rw [ei]; exact at_s hi2), ?_⟩
        have tl : (fo.take i).length ≤ 900 := by rw [List.length_take]; omega
        obtain ⟨H14, dp, J7⟩ := J5.put (z := fo[i]) np6 (ws := ws2 ++ zs3) (by rw [List.length_append]; omega) (fun y my => (List.mem_append.mp my).elim (mm3 y) (mm4 y)) tl
        refine ⟨T, H14, rfl, dp, _, _, rfl, ?_⟩
        rw [List.take_add_one, List.getElem?_eq_getElem hi2]
        exact J7.le (by omega) (by omega)
      · refine ⟨Nat.zero_le _, fun p3 np3 => ?_⟩
        obtain ⟨zs3, e3, l4, mm4⟩ : ∃ zs3 : List Str, ([] : List V) = zs3.map V.str ∧ zs3.length ≤ ys.length ∧ ∀ z ∈ zs3, z ∈ ys := ⟨[], rfl, Nat.zero_le _, fun z mz => nomatch mz⟩
        rw [e3]
        have J5 := J4.new (o := .lst (zs3.map V.str)) np3
        have hp5 : upd H13 p3 (.lst (zs3.map V.str)) p2 = some (.lst (ws2.map V.str)) := by
          rw [upd_ne (ne_of_none hp4 np3)]
          exact hp4
        refine cats hp5 upd_same (by omega) fun p6 np6 => ?_
        have J6 := J5.new (o := .lst ((ws2 ++ zs3).map V.str)) np6
        refine ⟨_, rfl, _, rfl, _, rfl, F, _, _, _, rfl, rfl, SqL.of (J6.at mF), (by rw [ei]; exact at_s hi2), ?_⟩
        have tl : (fo.take i).length ≤ 900 := by rw [List.length_take]; omega
        obtain ⟨H14, dp, J7⟩ := J5.put (z := fo[i]) np6 (ws := ws2 ++ zs3) (by rw [List.length_append]; omega) (fun y my => (List.mem_append.mp my).elim (mm3 y) (mm4 y)) tl
        refine ⟨T, H14, rfl, dp, _, _, rfl, ?_⟩
        rw [List.take_add_one, List.getElem?_eq_getElem hi2]
        exact J7.le (by omega) (by omega)
    · rintro σ H' ⟨k1, w1, rfl, J⟩
      rw [List.take_of_length_le (by omega)] at J
      exact ⟨k1, w1, rfl, J⟩
  rintro σ3 H9 ⟨k9, w9, rfl, I9⟩
  refine ⟨fun σ' H' => ∃ k ws fa wy : Option V, σ' = stT u most free L m e F E T st wd k ws fa wy none ∧ TmI u T H [(E, fr), (F, fo), (L, ys)] ys fo (n + 15 + 12 * m + 11 * m) (23 + 22 * m) H', ?_, ?_⟩
  · refine ⟨_, rfl, _, rfl, by omega, by omega, ?_⟩
    refine for_range (lo := 0) (n := m) (fun i σ H' => ∃ k ws fa wy : Option V, σ = stT u most free L m e F E T st wd k ws fa wy none ∧ TmI u T H [(E, fr), (F, fo), (L, ys)] ys fo (n + 15 + 12 * m + 11 * i) (23 + 22 * i) H') ⟨_, _, _, _, rfl, I9⟩ ?_ ?_
    · rintro i σ H' hi ⟨k1, w1, f1, y1, rfl, J⟩
      have hi2 : i < fo.length := by omega
      have ei : (0 : Int) + (i : Nat) = ((i : Nat) : Int) := by omega
      refine ⟨_, rfl, _, rfl, _, _, rfl, rfl, _, rfl, F, _, rfl, SqL.of (J.at mF), fun C nC => ?_⟩
      obtain ⟨zs, ez, lz, mz⟩ := cut_str fo (some (0 + (i : Int) + 1)) none
      rw [ez]
      have J0 := J.fix (zs := zs) nC
      have mC : (C, zs) ∈ [(C, zs), (E, fr), (F, fo), (L, ys)] := List.mem_cons_self
      have mF2 : (F, fo) ∈ [(C, zs), (E, fr), (F, fo), (L, ys)] := List.mem_cons_of_mem _ mF
      refine ⟨C, rfl, ⟨_, SqL.of upd_same⟩, ?_⟩
      refine for_list (xs := zs.map V.str) (fun j σ H' => ∃ fa wy : Option V, σ = stT u most free L m e F E T st wd (some (.int (0 + (i : Int)))) w1 fa wy none ∧ TmI u T H [(C, zs), (E, fr), (F, fo), (L, ys)] ys fo (n + 15 + 12 * m + 11 * i + j) (23 + 22 * i + 2 * j) H')
        ⟨_, _, rfl, J0⟩ (fun j σ H' _ ⟨_, _, _, J⟩ => SqL.of (J.at mC)) ?_ ?_
      · rintro j x σ H' hj ⟨f2, y2, rfl, J⟩
        obtain ⟨z, hz, rfl⟩ := map_at hj
        have hj2 := (List.getElem?_eq_some_iff.mp hz).1
        have zf : z ∈ fo := mz z (List.mem_of_getElem? hz)
        have ff : fo[i] ∈ fo := List.getElem_mem hi2
        refine ⟨_, rfl, _, rfl, u, wd, _, rfl, J.U, by omega, fc.w0, fc.w1, fun r H2 r0 r1 U2 k2 => ?_⟩
        have J2 := J.keep k2 U2
        refine ⟨fun σ' H' => σ' = stT u most free L m e F E T st wd (some (.int (0 + (i : Int)))) w1 (some (.str z)) (some (.int r)) none ∧ TmI u T H [(C, zs), (E, fr), (F, fo), (L, ys)] ys fo (n + 15 + 12 * m + 11 * i + j + 1) (23 + 22 * i + 2 * j + 1) H', ?_, ?_⟩
        · obtain ⟨a, ws, dg, ha, hw, _, q⟩ := J2.app ff
          refine ⟨_, rfl, rfl, _, rfl, ite2 (fun _ => iteT ?b1) (fun _ => ⟨_, rfl, rfl, _, rfl, ite2 (fun _ => ⟨_, rfl, _, _, rfl, rfl, _, rfl, ite2 (fun _ => ?b2) (fun _ => ?s2)⟩) (fun _ => iteF ?s1)⟩)⟩
          case s1 => exact ⟨rfl, J2.le (by omega) (by omega)⟩
          case s2 => exact ⟨rfl, J2.le (by omega) (by omega)⟩
          all_goals
            refine ⟨_, rfl, _, rfl, _, rfl, F, _, _, _, rfl, rfl, SqL.of (J2.at mF2), (by rw [ei]; exact at_s hi2), T, _, rfl, dg, .inl ⟨rfl, _, SqL.of ha⟩, _, rfl, a, _, _, rfl, rfl, ha, ?_, ?_⟩
            · rw [List.length_map]
              exact small1000 (by omega)
            · exact ⟨rfl, q z (fc.fy z zf)⟩
        · rintro σ4 H4 ⟨rfl, J3⟩
          obtain ⟨a, ws, dg, ha, hw, _, q⟩ := J3.app zf
          refine ⟨_, rfl, rfl, _, rfl, ite2 (fun _ => iteT ?b3) (fun _ => ⟨_, rfl, rfl, _, rfl, ite2 (fun _ => ⟨_, rfl, _, _, rfl, rfl, _, rfl, ite2 (fun _ => ?b4) (fun _ => ?s4)⟩) (fun _ => iteF ?s3)⟩)⟩
          case s3 => exact ⟨_, _, rfl, J3.le (by omega) (by omega)⟩
          case s4 => exact ⟨_, _, rfl, J3.le (by omega) (by omega)⟩
          all_goals
            refine ⟨_, rfl, _, rfl, T, _, rfl, dg, .inl ⟨rfl, _, SqL.of ha⟩, _, rfl, _, rfl, F, _, _, _, rfl, rfl, SqL.of (J3.at mF2), (by rw [ei]; exact at_s hi2), a, _, _, rfl, rfl, ha, ?_, ?_⟩
            · rw [List.length_map]
              exact small1000 (by omega)
            · exact ⟨_, _, rfl, (q fo[i] (fc.fy _ ff)).le (by omega) (by omega)⟩
      · rintro σ H' ⟨f2, y2, rfl, J⟩
        rw [List.length_map] at J
        exact ⟨_, _, _, _, rfl, J.drop.le (by omega) (by omega)⟩
    · rintro σ H' ⟨k1, w1, f1, y1, rfl, J⟩
      exact ⟨_, _, _, _, rfl, J⟩
  rintro σ3 H10 ⟨k10, w10, f10, y10, rfl, I10⟩
  refine ⟨fun σ' H' => ∃ (D : Addr) (rows : List V) (rs : List (Str × List Str)), σ' = stT u most free L m e F E T st wd k10 w10 f10 y10 (some (.ref D)) ∧ Same H10 H' ∧ H' D = some (.lst rows) ∧ Paired (RowAt H') rows rs ∧ rs.map (·.1) = fo ∧ ∀ r ∈ rs, r.2.length ≤ 11 ∧ (∀ y ∈ r.2, y ∈ ys) ∧ Asc r.2, ?_, ?_⟩
  · refine ⟨_, rfl, ?_⟩
    refine lc_any (xs := fo.map V.str) ⟨F, rfl, .inl (SqL.of (I10.at mF))⟩ (Stays.of (Same.refl H10)) (fun D i H' => ∃ (rows : List V) (rs : List (Str × List Str)), Same H10 H' ∧ H' D = some (.lst rows) ∧ rows.length = i ∧ Paired (RowAt H') rows rs ∧ rs.map (·.1) = fo.take i ∧ ∀ r ∈ rs, r.2.length ≤ 11 ∧ (∀ y ∈ r.2, y ∈ ys) ∧ Asc r.2)
      (fun D nD => ⟨[], [], same_new nD, upd_same, rfl, .nil, rfl, fun r mr => nomatch mr⟩) (fun D i H' _ ⟨_, _, q, _⟩ => Stays.of q) (fun D i y H' nD hy ⟨rows, rs, s1, hD, len, pr, nm, l11⟩ => ?_) (fun D H' nD ⟨rows, rs, s1, hD, len, pr, nm, l11⟩ => ?_)
    · obtain ⟨z, hz, rfl⟩ := map_at hy
      have hi := (List.getElem?_eq_some_iff.mp hz).1
      have J := I10.keep (keep_of_same s1) (by obtain ⟨a, b, c, e, r⟩ := I10.U; exact ⟨a, b, c, s1 _ _ e, r⟩)
      obtain ⟨a, ws, dg, ha, hw, mw, _⟩ := J.app (List.mem_of_getElem? hz)
      refine ⟨rfl, _, rfl, _, rfl, _, rfl, T, _, rfl, dg, ?_⟩
      refine lc_any (xs := ws.map V.str) ⟨a, rfl, .inl (SqL.of ha)⟩ (Stays.of (Same.refl H')) (fun D2 j H2 => ∃ zs : List Str, Same H' H2 ∧ H2 D2 = some (.lst (zs.map V.str)) ∧ zs.length ≤ j ∧ ∀ y ∈ zs, y ∈ ys)
        (fun D2 nD2 => ⟨[], same_new nD2, upd_same, Nat.le_refl _, fun r mr => nomatch mr⟩) (fun D2 j H2 _ ⟨_, q, _⟩ => Stays.of q) (fun D2 j y H2 nD2 hy2 ⟨zs, s2, hD2, lz, mz⟩ => ?_) (fun D2 H2 nD2 ⟨zs, s2, hD2, lz, mz⟩ => ?_)
      · obtain ⟨v, hv, rfl⟩ := map_at hy2
        have hj := (List.getElem?_eq_some_iff.mp hv).1
        refine ⟨rfl, _, rfl, _, rfl, rfl, _, rfl, ite2 (fun _ => ?_) (fun _ => ?_)⟩
        · refine ⟨_, rfl, _, hD2, by rw [List.length_map]; exact small1000 (by omega), zs ++ [v], fun b o e => ?_, ?_, ?_, fun y my => ?_⟩
          · rw [upd_ne (ne_of_none e nD2)]
            exact s2 _ _ e
          · rw [upd_same, List.map_append]
            rfl
          · rw [List.length_append]
            show zs.length + 1 ≤ _
            omega
          · rcases List.mem_append.mp my with my | my
            · exact mz y my
            · rw [List.mem_singleton.mp my]
              exact mw v (List.mem_of_getElem? hv)
        · exact ⟨zs, s2, hD2, by omega, mz⟩
      · rw [List.length_map] at lz
        refine ⟨D2, zs, rfl, SqL.of hD2, by omega, fun p Ls np nd _ mem => ?_⟩
        have ll : Ls.length ≤ 11 := by
          rw [← yl]
          exact nodup_le nd fun j mj => mz j ((mem j).mp mj)
        refine ⟨p, Ls, rfl, upd_same, by omega, fun zs2 q pm2 nd2 so2 nq => ?_⟩
        refine ⟨q, _, rfl, .inl ⟨SqL.of upd_same, fun t nt => ⟨by show 2 ≤ sizeLine; decide, fun r nr => ?_⟩⟩⟩
        have rt : t ≠ r := fun c => by
          rw [← c, upd_same] at nr
          cases nr
        have s3 := ((s2.trans (same_new (o := TxO w p Ls) np)).trans (same_new (o := .lst (zs2.map V.str)) nq)).trans ((same_new (o := .tup (zs2.map V.str)) nt).trans (same_new (o := .tup [.str z, .ref t]) nr))
        have ht : upd (upd (upd (upd H2 p (TxO w p Ls)) q (.lst (zs2.map V.str))) t (.tup (zs2.map V.str))) r (.tup [.str z, .ref t]) t = some (.tup (zs2.map V.str)) := by rw [upd_ne rt, upd_same]
        have hr : upd (upd (upd (upd H2 p (TxO w p Ls)) q (.lst (zs2.map V.str))) t (.tup (zs2.map V.str))) r (.tup [.str z, .ref t]) r = some (.tup [.str z, .ref t]) := upd_same
        generalize upd (upd (upd (upd H2 p (TxO w p Ls)) q (.lst (zs2.map V.str))) t (.tup (zs2.map V.str))) r (.tup [.str z, .ref t]) = H20 at s3 ht hr ⊢
        have hD3 := s3 D _ hD
        refine ⟨rows, hD3, small1000 (by omega), rows ++ [.ref r], rs ++ [(z, zs2)], fun b o e => ?_, upd_same, ?_, ?_, ?_, fun x mx => ?_⟩
        · rw [upd_ne (ne_of_none e nD)]
          exact s3 _ _ (s1 b o e)
        · rw [List.length_append, len]
          rfl
        · exact pair_snoc ⟨r, t, rfl, tup_lst hD3 _ _ hr, tup_lst hD3 _ _ ht⟩ (Paired.mapP pr fun _ _ h => h.keep fun b xs e => tup_lst hD3 b xs (s3 b _ e))
        · rw [List.map_append, nm, List.take_add_one, hz]
          rfl
        · rcases List.mem_append.mp mx with mx | mx
          · exact l11 x mx
          · rw [List.mem_singleton.mp mx]
            refine ⟨?_, fun y my => mz y ((mem y).mp (pm2.mem_iff.mp my)), asc_sorted so2 nd2⟩
            show zs2.length ≤ 11
            rw [pm2.length_eq]
            exact ll
    · rw [List.length_map, List.take_length] at nm
      exact ⟨D, rows, rs, rfl, s1, hD, pr, nm, l11⟩
  rintro σ4 H11 ⟨D, rows, rs, rfl, s1, hD, pr, nm, l11⟩
  have J11 := I10.keep (keep_of_same s1) (by obtain ⟨a, b, c, e, r⟩ := I10.U; exact ⟨a, b, c, s1 _ _ e, r⟩)
  refine ⟨_, rfl, D, rows, rowK H11, rowT H11, rfl, SqL.of hD, fun x mx => ?_, fun x mx y my e => ?_, fun zs p pm pw np => ?_⟩
  · obtain ⟨i, ei⟩ := List.mem_iff_getElem?.mp mx
    obtain ⟨q, hq, a, t, rfl, h1, h2⟩ := pair_at pr ei
    refine ⟨a, rfl, ?_⟩
    rw [rowK_at h1, rowT_at h1]
    exact h1
  · obtain ⟨i, ei⟩ := List.mem_iff_getElem?.mp mx
    obtain ⟨j, ej⟩ := List.mem_iff_getElem?.mp my
    obtain ⟨q, hq, a, t, rfl, h1, h2⟩ := pair_at pr ei
    obtain ⟨q', hq', a', t', rfl, h1', h2'⟩ := pair_at pr ej
    rw [rowK_at h1, rowK_at h1'] at e
    have n1 : fo[i]? = some q.1 := by rw [← nm, List.getElem?_map, hq]; rfl
    have n2 : fo[j]? = some q'.1 := by rw [← nm, List.getElem?_map, hq']; rfl
    rw [← e] at n2
    have ij := nodup_ix fc.nd n1 n2
    subst ij
    rw [ei] at ej
    rw [Option.some.inj ej]
  obtain ⟨rs2, pm2, pr2⟩ := pair_perm pm pr
  refine ⟨p, _, rfl, .inl ⟨SqL.of upd_same, fun t1 nt1 => ?_⟩⟩
  have JB := (J11.new (o := .lst zs) np).new (o := .tup zs) nt1
  refine ⟨_, rfl, E, fr, rfl, SqL.of (JB.at mE), by omega, fun es q pm3 _ nq => ⟨q, _, rfl, .inl ⟨SqL.of upd_same, fun t2 nt2 => ⟨by show 2 ≤ sizeLine; decide, fun x nx => ?_⟩⟩⟩⟩
  have JE := ((JB.new (o := .lst (es.map V.str)) nq).new (o := .tup (es.map V.str)) nt2).new (o := .tup [.ref t1, .ref t2]) nx
  have sE := ((same_new (o := .lst zs) np).trans (same_new (o := .tup zs) nt1)).trans (((same_new (o := .lst (es.map V.str)) nq).trans (same_new (o := .tup (es.map V.str)) nt2)).trans (same_new (o := .tup [.ref t1, .ref t2]) nx))
  have h2 : upd (upd (upd (upd (upd H11 p (.lst zs)) t1 (.tup zs)) q (.lst (es.map V.str))) t2 (.tup (es.map V.str))) x (.tup [.ref t1, .ref t2]) t2 = some (.tup (es.map V.str)) := (same_new nx) _ _ upd_same
  have h1 : upd (upd (upd (upd (upd H11 p (.lst zs)) t1 (.tup zs)) q (.lst (es.map V.str))) t2 (.tup (es.map V.str))) x (.tup [.ref t1, .ref t2]) t1 = some (.tup zs) := (same_new nx) _ _ ((same_new nt2) _ _ ((same_new nq) _ _ upd_same))
  have hx : upd (upd (upd (upd (upd H11 p (.lst zs)) t1 (.tup zs)) q (.lst (es.map V.str))) t2 (.tup (es.map V.str))) x (.tup [.ref t1, .ref t2]) x = some (.tup [.ref t1, .ref t2]) := upd_same
  have pr3 := Paired.mapP pr2 fun _ _ h => RowAt.keep (fun b xs e => sE b _ e) h
  obtain ⟨ua, ub, uc, hu3, _⟩ := id JE.U
  have le1 := pm2.length_eq
  have le2 : rs.length = fo.length := by rw [← nm, List.length_map]
  have mm := fc.mm
  refine k x rs2 es _ (JE.U.le (by omega)) JE.kp ?_ (by omega) (by rw [pm3.length_eq]; exact fc.fl) (fun r mr => ⟨(l11 r (pm2.mem_iff.mp mr)).1, fc.yn _ (fc.fy _ (by rw [← nm]; exact List.mem_map.mpr ⟨r, pm2.mem_iff.mp mr, rfl⟩)), fun y my => fc.yn _ ((l11 r (pm2.mem_iff.mp mr)).2.1 y my), (l11 r (pm2.mem_iff.mp mr)).2.2⟩) (fun z mz => fc.yn _ (fc.ry _ (pm3.mem_iff.mp mz))) ?_
  rotate_left
  · refine asc_of ?_ ((pm2.map (·.1)).nodup_iff.mpr (by rw [nm]; exact fc.nd))
    rw [← rows_keys pr2]
    exact List.pairwise_map.mpr pw
  exact ⟨x, t1, t2, zs, rfl, hx, h1, pr3, h2⟩
end
end Cx

/-! the program: who suits whom -/
namespace Cx
open PySem PySem.Spec PyProof.Rows L2
theorem pss_dead {X : Cx} {sts : List Stmt} : PSs X sts (fun _ _ _ => False) := ⟨fun _ _ _ _ _ _ h => h.elim⟩
/-! ### for over a list or tuple -/
def ForR (g : TG) (tb : TS) (D : Ends) (σ : L2.St) (H : Hp) (J : It) : Prop := ∃ W : Nat → Nat → L2.St → Hp → Prop, (∃ m, W 0 m σ H) ∧ ∀ i m σ H, W i m σ H →
  (J.stop i H ∧ D.nx σ H) ∨ (J.go i H ∧ ∃ N : L2.St → Hp → Prop, (∀ σ' H', N σ' H' → ∃ m', m' < m ∧ W (i + 1) m' σ' H') ∧ ∀ x H', J.yld i H x H' → g x σ H' fun σ2 H2 => tb { D with nx := N, ct := N, bk := D.nx } σ2 H2)
theorem for_any {K : PySem.W.Frag} {x : V} {xs : List V} {g : TG} {tb : TS} {D : Ends} {σ : L2.St} {H0 H : Hp} (hx : SeqV K H0 x xs) (h01 : Stays K H0 H x xs) (Pv : Nat → L2.St → Hp → Prop) (h0 : Pv 0 σ H) (hl : ∀ i σ H, Pv i σ H → Stays K H0 H x xs)
    (hs : ∀ i y σ H, xs[i]? = some y → Pv i σ H → g y σ H fun σ2 H2 => tb { D with nx := Pv (i + 1), ct := Pv (i + 1), bk := D.nx } σ2 H2) (hd : ∀ σ H, Pv xs.length σ H → D.nx σ H) :
    ∃ a, x = .ref a ∧ (((∃ xs, SqL K H a xs) ∧ ForR g tb D σ H (Itl K a)) ∨ ((∃ xs, SqT K H a xs) ∧ ForR g tb D σ H (Itt K a))) := by
  obtain ⟨a, e, hq⟩ := hx
  refine ⟨a, e, ?_⟩
  rcases hq with hq | hq
  · exact .inl ⟨⟨xs, (h01 a e).1 hq⟩, for_list (xs := xs) Pv h0 (fun i σ H _ q => (hl i σ H q a e).1 hq) hs hd⟩
  · exact .inr ⟨⟨xs, (h01 a e).2 hq⟩, for_tup (xs := xs) Pv h0 (fun i σ H _ q => (hl i σ H q a e).2 hq) hs hd⟩
/-! ### a dict comprehension over a list or tuple -/
def DcR (g : TG) (tt : TT) (tk tv : TE) (vs : List Nat) (σ : L2.St) (Q : VK) (H1 : Hp) (J : It) : Prop := ∀ D, H1 D = none → ∃ W : Nat → Nat → Hp → Prop, (∃ m, W 0 m (upd H1 D (.dK []))) ∧ ∀ i m H, W i m H →
  (J.stop i H ∧ Q (.ref D) H) ∨ (J.go i H ∧ ∃ Nx : Hp → Prop, (∀ H', Nx H' → ∃ m', m' < m ∧ W (i + 1) m' H') ∧ ∀ x H', J.yld i H x H' → g x (wipe σ vs) H' fun σ2 H2 => wipe σ2 vs = wipe σ vs ∧ tt σ2 H2 fun b H3 =>
    if b = true then tk σ2 H3 fun y H4 => tv σ2 H4 fun z H5 => ∃ kvs k, y = kV k ∧ H5 D = some (.dK kvs) ∧ kvs.length < sizeLine ∧ Nx (upd H5 D (.dK (putK kvs k z))) else Nx H3)
theorem dc_any {K : PySem.W.Frag} {x : V} {xs : List V} {g : TG} {tt : TT} {tk tv : TE} {vs : List Nat} {σ : L2.St} {H0 H1 : Hp} {Q : VK} (hx : SeqV K H0 x xs) (h01 : Stays K H0 H1 x xs) (Pv : Addr → Nat → Hp → Prop)
    (h0 : ∀ D, H1 D = none → Pv D 0 (upd H1 D (.dK []))) (hl : ∀ D i H, H1 D = none → Pv D i H → Stays K H0 H x xs)
    (hs : ∀ D i y H, H1 D = none → xs[i]? = some y → Pv D i H → g y (wipe σ vs) H fun σ2 H2 => wipe σ2 vs = wipe σ vs ∧ tt σ2 H2 fun b H3 =>
      if b = true then tk σ2 H3 fun y H4 => tv σ2 H4 fun z H5 => ∃ kvs k, y = kV k ∧ H5 D = some (.dK kvs) ∧ kvs.length < sizeLine ∧ Pv D (i + 1) (upd H5 D (.dK (putK kvs k z))) else Pv D (i + 1) H3)
    (hd : ∀ D H, H1 D = none → Pv D xs.length H → Q (.ref D) H) :
    ∃ a, x = .ref a ∧ (((∃ xs, SqL K H1 a xs) ∧ DcR g tt tk tv vs σ Q H1 (Itl K a)) ∨ ((∃ xs, SqT K H1 a xs) ∧ DcR g tt tk tv vs σ Q H1 (Itt K a))) := by
  obtain ⟨a, e, hq⟩ := hx
  refine ⟨a, e, ?_⟩
  rcases hq with hq | hq
  · refine .inl ⟨⟨xs, (h01 a e).1 hq⟩, fun D nD => ⟨fun i m H => m = xs.length - i ∧ i ≤ xs.length ∧ Pv D i H, ⟨xs.length, by simp, Nat.zero_le _, h0 D nD⟩, ?_⟩⟩
    rintro i m H ⟨rfl, hi, p⟩
    have q := (hl D i H nD p a e).1 hq
    by_cases hlt : i < xs.length
    · refine .inr ⟨⟨xs, xs[i], q, by simp [hlt]⟩, Pv D (i + 1), fun H' p' => ⟨xs.length - (i + 1), by omega, rfl, hlt, p'⟩, fun x H' y => ?_⟩
      obtain ⟨e, y⟩ := y
      subst e
      exact hs D i x _ nD (y xs q) p
    · have e : i = xs.length := by omega
      subst e
      exact .inl ⟨⟨xs, q, Nat.le_refl _⟩, hd D H nD p⟩
  · refine .inr ⟨⟨xs, (h01 a e).2 hq⟩, fun D nD => ⟨fun i m H => m = xs.length - i ∧ i ≤ xs.length ∧ Pv D i H, ⟨xs.length, by simp, Nat.zero_le _, h0 D nD⟩, ?_⟩⟩
    rintro i m H ⟨rfl, hi, p⟩
    have q := (hl D i H nD p a e).2 hq
    by_cases hlt : i < xs.length
    · refine .inr ⟨⟨xs, xs[i], q, by simp [hlt]⟩, Pv D (i + 1), fun H' p' => ⟨xs.length - (i + 1), by omega, rfl, hlt, p'⟩, fun x H' y => ?_⟩
      obtain ⟨e, y⟩ := y
      subst e
      exact hs D i x _ nD (y xs q) p
    · have e : i = xs.length := by omega
      subst e
      exact .inl ⟨⟨xs, q, Nat.le_refl _⟩, hd D H nD p⟩
theorem inV_str (z : Str) : ∀ ns : List Str, inV (.str z) (ns.map V.str) = decide (z ∈ ns)
  | [] => rfl
  | n :: ns => by
    have ih := inV_str z ns
    unfold inV at ih ⊢
    rw [List.map_cons, List.any_cons, ih]
    show ((n == z) || decide (z ∈ ns)) = decide (z ∈ n :: ns)
    by_cases e : z = n
    · subst e
      simp
    · have e2 : ¬ n = z := fun q => e q.symm
      simp [e, e2]
theorem flat_strs : ∀ ns : List Str, (ns.map V.str).all flatV = true
  | [] => rfl
  | n :: ns => by
    rw [List.map_cons, List.all_cons, flat_strs ns]
    rfl
theorem in_s {K : PySem.W.Frag} {H : Hp} {x : V} {z : Str} {ns : List Str} {Q : VK} (h : SeqV K H x (ns.map V.str)) (q : Q (.bl (decide (z ∈ ns))) H) : rIn K false (.str z) x H Q := by
  obtain ⟨a, rfl, h⟩ := h
  refine ⟨a, _, rfl, h, rfl, flat_strs ns, ?_⟩
  rw [inV_str]
  exact q
theorem nin_s {K : PySem.W.Frag} {H : Hp} {x : V} {z : Str} {ns : List Str} {Q : VK} (h : SeqV K H x (ns.map V.str)) (q : Q (.bl (!decide (z ∈ ns))) H) : rIn K true (.str z) x H Q := by
  obtain ⟨a, rfl, h⟩ := h
  refine ⟨a, _, rfl, h, rfl, flat_strs ns, ?_⟩
  rw [inV_str]
  exact q
theorem seq_tup {K : PySem.W.Frag} {H : Hp} {p : Addr} {xs : List V} (h : H p = some (.tup xs)) : SeqV K H (.ref p) xs := ⟨p, rfl, .inr (.inl (.inl h))⟩
section
variable {P : Program} {w : World} {K : PySem.W.Frag} {mg : Str → Option Value} {base : Heap}
/-! ### must_be_households -/
def spMust (K : PySem.W.Frag) : Sp := fun vs H Q _ => ∃ (x y : V) (rs : List (Str × List Str)) (es ns : List Str), vs = [x, y] ∧ ShV K H x rs es ∧ rs.length ≤ 1000 ∧ SeqV K H y (ns.map V.str) ∧ (∀ n ∈ ns, n ∈ rs.map (·.1)) ∧ ∀ H', Same H H' → Q .non H'
theorem scMu : FnScope ["sheet", "names", "known", "name"] ["sheet", "names"] (defScope sMust) := ⟨rfl, rfl, rfl, by decide +kernel, rfl, by decide +kernel, by decide +kernel⟩
theorem ok_must {f g : Addr} {fd gd : FuncData} (F : Fun K "must_be_households" "must_be_households" sMust f fd) (G : FnOk P w K mg base CX0 1 g gd ["sheet"] (spHouseholds K)) (bG : Binds K gd ["sheet"] []) (kG : PySem.W.keepIn K (.ref g) = true) (mG : mg "households" = some (.ref g)) :
    FnOk P w K mg base CX0 2 f fd ["sheet", "names"] (spMust K) := by
  refine F.ok scMu (fun vs H Q E h => ?_) (fun cdv A outer s H vs Q E hr h => ?_)
  · obtain ⟨x, y, rs, es, ns, rfl, _⟩ := h
    rfl
  obtain ⟨x, y, rs, es, ns, rfl, S, hz, hy, hm, k⟩ := h
  refine ⟨_, pss_cons (ps_set (i := 2) scMu.nd rfl (.inl rfl) (pe_call G hr (by rfl) mG kG bG .nil pass0 (pa_cons (pv 0) pa_nil)))
    (pss_one (ps_for PassesOwn.never rfl (pi_seq (pv 1)) (pg_name (i := 3) scMu.nd rfl (.inl rfl)) (pss_one (ps_if (pt_cmpR op_notIn_seq (pv 3) (pv 2) (by rfl)) pss_dead pss_nil)))), ?_⟩
  refine ⟨x, rfl, x, rs, es, rfl, S, hz, fun p H1 s1 np hp => ?_⟩
  have hp2 : SeqV K H1 (.ref p) ((rs.map (·.1)).map V.str) := by
    rw [List.map_map]
    exact seq_tup hp
  refine ⟨y, rfl, ?_⟩
  refine for_any (st_sv s1 hy) (Stays.of (Same.refl H1)) (fun i σ H' => ∃ a : Option V, σ = [some x, some y, some (.ref p), a] ∧ Same H1 H') ⟨none, rfl, Same.refl _⟩ (fun i σ H' ⟨_, _, q⟩ => Stays.of q) ?_ ?_
  · rintro i z σ H' hi ⟨a, rfl, s2⟩
    obtain ⟨n, hn, rfl⟩ := map_at hi
    refine ⟨_, rfl, _, rfl, nin_s (st_sv s2 hp2) ⟨_, rfl, ?_⟩⟩
    rw [decide_eq_true (hm n (List.mem_of_getElem? hn))]
    exact iteF ⟨_, rfl, s2⟩
  · rintro σ H' ⟨a, rfl, s2⟩
    exact k H' (s1.trans s2)
/-! ### wishes_by -/
def WishAt (K : PySem.W.Frag) (H : Hp) (D : Addr) (rs : List (Str × List Str)) : Prop := ∃ kvs : List (Key × V), H D = some (.dK kvs) ∧ kvs.length ≤ 900 ∧ (∀ r ∈ rs, ∃ t, valV kvs (.inr r.1) = some (.ref t) ∧ SqT K (hide D H) t (r.2.map V.str)) ∧ ∀ z, z ∉ rs.map (·.1) → valV kvs (.inr z) = none
def spWishes (K : PySem.W.Frag) : Sp := fun vs H Q _ => ∃ (x : V) (rs : List (Str × List Str)) (es : List Str), vs = [x] ∧ ShV K H x rs es ∧ rs.length ≤ 900 ∧ (rs.map (·.1)).Nodup ∧ ∀ D H', Same H H' → H D = none → WishAt K H' D rs → Q (.ref D) H'
theorem scWi : FnScope ["sheet", "name", "wants"] ["sheet"] (defScope sWishes) := ⟨rfl, rfl, rfl, by decide +kernel, rfl, by decide +kernel, by decide +kernel⟩
theorem ok_wishes {f : Addr} {fd : FuncData} (F : Fun K "wishes_by" "wishes_by" sWishes f fd) (mt : mg "tuple" = none) : FnOk P w K mg base CX0 1 f fd ["sheet"] (spWishes K) := by
  refine F.ok scWi (fun vs H Q E h => ?_) (fun cdv A outer s H vs Q E hr h => ?_)
  · obtain ⟨x, rs, es, rfl, _⟩ := h
    rfl
  obtain ⟨x, rs, es, rfl, S, hz, nd, k⟩ := h
  obtain ⟨r, e, rows, h1, h2, h3, h4⟩ := S.ex
  refine ⟨_, pss_one (ps_ret (pe_dc (own := [("name", 1), ("wants", 2)]) (g := gSeq K 2 (gCons (gName 1) (gCons (gName 2) gNil))) (tt := tYes) (tk := tVar 1) (tv := tCB (rTupOf K) (tCons (tVar 2) tNil)) rfl scWi.nd (pi_seq (pe_ix ix_seq (pv 0) pe_int (fun _ _ => rfl))) (blkOk_by (N := ["sheet", "name", "wants"]) (sc := defScope sWishes) (by decide +kernel))
      (fun _ _ _ _ _ => pg_seq rfl (pgs_cons (pg_name (i := 1) scWi.nd rfl (.inl rfl)) (pgs_cons (pg_name (i := 2) scWi.nd rfl (.inl rfl)) pgs_nil))) (fun _ _ _ _ _ => pts_nil) (fun _ _ _ _ _ => pv 1) (fun _ _ _ _ _ => pe_callTy call_tuple_of (by rfl) mt (by decide +kernel) (pa_cons (pv 2) pa_nil)))), ?_⟩
  refine ⟨x, rfl, ?_⟩
  refine ix_sv h1 (atI_nat (j := 0) rfl) ?_
  refine dc_any h2 (Stays.of (Same.refl H)) (fun D i H' => Same H H' ∧ ∃ kvs : List (Key × V), H' D = some (.dK kvs) ∧ kvs.length ≤ i ∧ (∀ r ∈ rs.take i, ∃ t, valV kvs (.inr r.1) = some (.ref t) ∧ SqT K (hide D H') t (r.2.map V.str)) ∧ ∀ z, z ∉ (rs.take i).map (·.1) → valV kvs (.inr z) = none)
    (fun D nD => ⟨same_new nD, [], upd_same, Nat.le_refl _, (by intro r mr; cases mr), (by intro z _; rfl)⟩) (fun D i H' _ q => Stays.of q.1) (fun D i y H' nD hy ⟨sm, kvs, hD, hk, hv, hn⟩ => ?_) (fun D H' nD ⟨sm, kvs, hD, hk, hv, hn⟩ => ?_)
  · obtain ⟨q, hq, w2, hw, hw2⟩ := h3.at hy
    have hi := (List.getElem?_eq_some_iff.mp hq).1
    refine ⟨_, st_sv sm hw, rfl, _, _, rfl, _, _, rfl, rfl, rfl, _, rfl, _, rfl, ?_⟩
    have et : rs.take (i + 1) = rs.take i ++ [q] := by
      rw [List.take_add_one, hq]
      rfl
    have fin : ∀ (t : Addr) (H2 : Hp), Same H' H2 → SqT K (hide D H2) t (q.2.map V.str) → ∃ (kvs : List (Key × V)) (k : Key), V.str q.1 = kV k ∧ H2 D = some (.dK kvs) ∧ kvs.length < sizeLine ∧
        (Same H (upd H2 D (.dK (putK kvs k (.ref t)))) ∧ ∃ kvs' : List (Key × V), upd H2 D (.dK (putK kvs k (.ref t))) D = some (.dK kvs') ∧ kvs'.length ≤ i + 1 ∧ (∀ r ∈ rs.take (i + 1), ∃ t', valV kvs' (.inr r.1) = some (.ref t') ∧ SqT K (hide D (upd H2 D (.dK (putK kvs k (.ref t))))) t' (r.2.map V.str)) ∧ ∀ z, z ∉ (rs.take (i + 1)).map (·.1) → valV kvs' (.inr z) = none) := fun t H2 s2 ht => by
      refine ⟨kvs, .inr q.1, rfl, s2 _ _ hD, small1000 (by omega), fun b o eb => ?_, _, upd_same, ?_, fun r2 m => ?_, fun z m => ?_⟩
      · rw [upd_ne (ne_of_none eb nD)]
        exact s2 _ _ (sm _ _ eb)
      · have := length_putK kvs (Sum.inr q.1) (V.ref t)
        omega
      · have eh : hide D (upd H2 D (.dK (putK kvs (.inr q.1) (.ref t)))) = hide D H2 := by
          funext b
          by_cases c : b = D
          · rw [c, hide_at, hide_at]
          · rw [hide_ne c, hide_ne c, upd_ne c]
        rw [eh, valV_put]
        by_cases c : (Sum.inr r2.1 : Key) = Sum.inr q.1
        · rw [if_pos c]
          have c2 : r2.1 = q.1 := Sum.inr.inj c
          rw [et] at m
          rcases List.mem_append.mp m with m | m
          · obtain ⟨j, ej⟩ := List.mem_iff_getElem?.mp m
            have hj := (List.getElem?_eq_some_iff.mp ej).1
            rw [List.length_take] at hj
            rw [List.getElem?_take_of_lt (by omega)] at ej
            have := nodup_ix nd (i := j) (j := i) (x := q.1) (by rw [List.getElem?_map, ej]; exact congrArg some c2) (by rw [List.getElem?_map, hq]; rfl)
            omega
          · rw [List.mem_singleton.mp m]
            exact ⟨t, rfl, ht⟩
        · rw [if_neg c]
          rw [et] at m
          rcases List.mem_append.mp m with m | m
          · obtain ⟨t', e1, e2⟩ := hv r2 m
            exact ⟨t', e1, st_tup (keep_of_same s2).same e2⟩
          · rw [List.mem_singleton.mp m] at c
            exact absurd rfl c
      · rw [et, List.map_append] at m
        rw [valV_put, if_neg]
        · exact hn z fun q => m (List.mem_append_left _ q)
        · intro c
          exact m (List.mem_append_right _ (by rw [Sum.inr.inj c]; exact List.mem_singleton.mpr rfl))
    obtain ⟨a, rfl, ha⟩ := hw2
    rcases ha with ha | ha
    · refine ⟨a, _, rfl, .inl ⟨sm.seq ha, fun t nt => ?_⟩⟩
      have tD : t ≠ D := (ne_of_none hD nt).symm
      exact fin t _ (same_new nt) (.inl (.inl (by rw [hide_ne tD, upd_same])))
    · refine ⟨a, _, rfl, .inr ⟨st_tup sm ha, ?_⟩⟩
      refine fin a _ (Same.refl _) (st_tup (fun b o eb => ?_) ha)
      rw [hide_ne (ne_of_none eb nD)]
      exact sm _ _ eb
  · rw [Paired.length h3, List.take_length] at hv hn
    rw [Paired.length h3] at hk
    exact k D H' sm nD ⟨kvs, hD, by omega, hv, hn⟩
end
end Cx

namespace Cx
open PySem PySem.Spec PyProof.Rows L2
/-! ### turns, whatever is asked of one -/
theorem it_lst {K : PySem.W.Frag} {a : Addr} {xs : List V} {B : V → Hp → (Hp → Prop) → Prop} {Qd : Hp → Prop} {Hs : Hp} (Pv : Nat → Hp → Prop) (h0 : Pv 0 Hs) (hl : ∀ i H, Pv i H → SqL K H a xs) (hs : ∀ i x H, xs[i]? = some x → Pv i H → B x H (Pv (i + 1))) (hd : ∀ H, Pv xs.length H → Qd H) :
    ∃ W : Nat → Nat → Hp → Prop, (∃ m, W 0 m Hs) ∧ ∀ i m H, W i m H → ((Itl K a).stop i H ∧ Qd H) ∨ ((Itl K a).go i H ∧ ∃ Nx : Hp → Prop, (∀ H', Nx H' → ∃ m', m' < m ∧ W (i + 1) m' H') ∧ ∀ x H', (Itl K a).yld i H x H' → B x H' Nx) := by
  refine ⟨fun i m H => m = xs.length - i ∧ i ≤ xs.length ∧ Pv i H, ⟨xs.length, by simp, Nat.zero_le _, h0⟩, ?_⟩
  rintro i m H ⟨rfl, hi, p⟩
  have q := hl i H p
  by_cases hlt : i < xs.length
  · refine .inr ⟨⟨xs, xs[i], q, by simp [hlt]⟩, Pv (i + 1), fun H' p' => ⟨xs.length - (i + 1), by omega, rfl, hlt, p'⟩, fun x H' y => ?_⟩
    obtain ⟨e, y⟩ := y
    subst e
    exact hs i x _ (y xs q) p
  · have e : i = xs.length := by omega
    subst e
    exact .inl ⟨⟨xs, q, Nat.le_refl _⟩, hd H p⟩
theorem it_tup {K : PySem.W.Frag} {a : Addr} {xs : List V} {B : V → Hp → (Hp → Prop) → Prop} {Qd : Hp → Prop} {Hs : Hp} (Pv : Nat → Hp → Prop) (h0 : Pv 0 Hs) (hl : ∀ i H, Pv i H → SqT K H a xs) (hs : ∀ i x H, xs[i]? = some x → Pv i H → B x H (Pv (i + 1))) (hd : ∀ H, Pv xs.length H → Qd H) :
    ∃ W : Nat → Nat → Hp → Prop, (∃ m, W 0 m Hs) ∧ ∀ i m H, W i m H → ((Itt K a).stop i H ∧ Qd H) ∨ ((Itt K a).go i H ∧ ∃ Nx : Hp → Prop, (∀ H', Nx H' → ∃ m', m' < m ∧ W (i + 1) m' H') ∧ ∀ x H', (Itt K a).yld i H x H' → B x H' Nx) := by
  refine ⟨fun i m H => m = xs.length - i ∧ i ≤ xs.length ∧ Pv i H, ⟨xs.length, by simp, Nat.zero_le _, h0⟩, ?_⟩
  rintro i m H ⟨rfl, hi, p⟩
  have q := hl i H p
  by_cases hlt : i < xs.length
  · refine .inr ⟨⟨xs, xs[i], q, by simp [hlt]⟩, Pv (i + 1), fun H' p' => ⟨xs.length - (i + 1), by omega, rfl, hlt, p'⟩, fun x H' y => ?_⟩
    obtain ⟨e, y⟩ := y
    subst e
    exact hs i x _ (y xs q) p
  · have e : i = xs.length := by omega
    subst e
    exact .inl ⟨⟨xs, q, Nat.le_refl _⟩, hd H p⟩
/-! ### wishes as a table -/
def wantsOf (rs : List (Str × List Str)) (o : Str) : List Str := ((rs.find? fun r => decide (r.1 = o)).map (·.2)).getD []
theorem wantsOf_in : ∀ {rs : List (Str × List Str)} {r : Str × List Str}, (rs.map (·.1)).Nodup → r ∈ rs → wantsOf rs r.1 = r.2
  | q :: rs, r, nd, m => by
    have nd2 := List.nodup_cons.mp nd
    unfold wantsOf
    rcases List.mem_cons.mp m with e | m
    · rw [e, List.find?_cons_of_pos (by simp)]
      rfl
    · have ne : ¬ q.1 = r.1 := fun e => nd2.1 (List.mem_map.mpr ⟨r, m, e.symm⟩)
      rw [List.find?_cons_of_neg (by simpa using ne)]
      exact wantsOf_in nd2.2 m
theorem wantsOf_out {rs : List (Str × List Str)} {o : Str} (h : o ∉ rs.map (·.1)) : wantsOf rs o = [] := by
  unfold wantsOf
  rw [List.find?_eq_none.mpr fun r m => by
    have : ¬ r.1 = o := fun e => h (List.mem_map.mpr ⟨r, m, e⟩)
    simpa using this]
  rfl
theorem filt_yes {α : Type} {f : α → Bool} {xs : List α} {i : Nat} {z : α} (h : xs[i]? = some z) (e : f z = true) : (xs.take (i + 1)).filter f = (xs.take i).filter f ++ [z] := by
  rw [List.take_add_one, h, List.filter_append]
  show _ ++ List.filter f [z] = _
  rw [List.filter_cons_of_pos e]
  rfl
theorem filt_no {α : Type} {f : α → Bool} {xs : List α} {i : Nat} {z : α} (h : xs[i]? = some z) (e : ¬ f z = true) : (xs.take (i + 1)).filter f = (xs.take i).filter f := by
  rw [List.take_add_one, h, List.filter_append]
  show _ ++ List.filter f [z] = _
  rw [List.filter_cons_of_neg e]
  exact List.append_nil _
def suiN (rs : List (Str × List Str)) (n : Str) : List Str := (wantsOf rs n).filter fun o => decide (n ∈ wantsOf rs o)
def suitN (rs : List (Str × List Str)) (nm : List Str) : List (Str × Str) := nm.flatMap fun n => ((suiN rs n).filter fun o => sLt n o && decide (o ∈ nm)).map fun o => (n, o)
def PrAt (H : Hp) (v : V) (q : Str × Str) : Prop := ∃ a, v = .ref a ∧ H a = some (.tup [.str q.1, .str q.2])
theorem PrAt.keep {H H' : Hp} {v : V} {q : Str × Str} (k : ∀ b xs, H b = some (.tup xs) → H' b = some (.tup xs)) (r : PrAt H v q) : PrAt H' v q := by
  obtain ⟨a, e, h⟩ := r
  exact ⟨a, e, k _ _ h⟩
/-- facts of a sheet that its functions ask for -/
structure Ok (rs : List (Str × List Str)) : Prop where
  len : rs.length ≤ 60
  nd : (rs.map (·.1)).Nodup
  wl : ∀ r ∈ rs, r.2.length ≤ 60
theorem Ok.wants {rs : List (Str × List Str)} (O : Ok rs) (n : Str) : (wantsOf rs n).length ≤ 60 := by
  by_cases h : n ∈ rs.map (·.1)
  · obtain ⟨r, m, rfl⟩ := List.mem_map.mp h
    rw [wantsOf_in O.nd m]
    exact O.wl r m
  · rw [wantsOf_out h]
    exact Nat.zero_le _
section
variable {P : Program} {w : World} {K : PySem.W.Frag} {mg : Str → Option Value} {base : Heap}
/-! ### suited_to -/
def spSuited (K : PySem.W.Frag) : Sp := fun vs H Q _ => ∃ (x : V) (n : Str) (rs : List (Str × List Str)) (es : List Str), vs = [x, .str n] ∧ ShV K H x rs es ∧ Ok rs ∧ n ∈ rs.map (·.1) ∧ ∀ p H', Same H H' → H p = none → H' p = some (.tup ((suiN rs n).map V.str)) → Q (.ref p) H'
abbrev nSt : List Str := ["sheet", "name", "wishes", "other"]
theorem scSt : FnScope nSt ["sheet", "name"] (defScope sSuited) := ⟨rfl, rfl, rfl, by decide +kernel, rfl, by decide +kernel, by decide +kernel⟩
theorem ok_suited {f g1 g2 : Addr} {fd gd1 gd2 : FuncData} (F : Fun K "suited_to" "suited_to" sSuited f fd) (GM : FnOk P w K mg base CX0 2 g1 gd1 ["sheet", "names"] (spMust K)) (bM : Binds K gd1 ["sheet", "names"] []) (kM : PySem.W.keepIn K (.ref g1) = true) (mM : mg "must_be_households" = some (.ref g1))
    (GW : FnOk P w K mg base CX0 1 g2 gd2 ["sheet"] (spWishes K)) (bW : Binds K gd2 ["sheet"] []) (kW : PySem.W.keepIn K (.ref g2) = true) (mW : mg "wishes_by" = some (.ref g2)) (mt : mg "tuple" = none) : FnOk P w K mg base CX0 3 f fd ["sheet", "name"] (spSuited K) := by
  refine F.ok scSt (fun vs H Q E h => ?_) (fun cdv A outer s H vs Q E hr h => ?_)
  · obtain ⟨x, n, rs, es, rfl, _⟩ := h
    rfl
  obtain ⟨x, n, rs, es, rfl, S, O, hn, k⟩ := h
  have hr1 := hr.mono (show 1 ≤ 2 by decide)
  have hu := Nat.lt_of_le_of_lt (Nat.add_le_add_left (show 1 ≤ 64 by decide) _) hr.units
  refine ⟨_, pss_cons (ps_expr (pe_call GM hr (by rfl) mM kM bM .nil pass0 (pa_cons (pv 0) (pa_cons (pe_tup (pa_cons (pv 1) pa_nil)) pa_nil))))
    (pss_cons (ps_set (i := 2) scSt.nd rfl (.inr rfl) (pe_call GW hr1 (by rfl) mW kW bW .nil pass0 (pa_cons (pv 0) pa_nil)))
    (pss_one (ps_ret (pe_callTy call_tuple_of (by rfl) mt (by decide +kernel) (pa_cons
      (pe_lcA (own := [("other", 3)]) (g := gName 3) (tt := tTest (tOp (rIn K false) (tVar 1) (tDGet2 (tVar 2) (tVar 3) (tTup tNil)))) (te := tVar 3) rfl scSt.nd (pe_dget hu (pv 2) (pv 1) (fun _ _ => rfl)) (blkOk_by (N := nSt) (sc := defScope sSuited) (by decide +kernel))
        (fun _ _ _ _ _ => pg_name (i := 3) scSt.nd rfl (.inl rfl)) (fun _ _ _ _ _ => pts_one (pt_cmpR op_in_seq (pv 1) (pe_dget2 hu (pv 2) (pv 3) (pe_tup pa_nil) ⟨rfl, rfl, rfl, rfl⟩) (by rfl))) (fun _ _ _ _ _ => pv 3)) pa_nil))))), ?_⟩
  obtain ⟨r, mr, rfl⟩ := List.mem_map.mp hn
  refine ⟨_, rfl, _, rfl, by show 1 ≤ sizeLine; decide, fun t nt => ?_⟩
  have ol := O.len
  refine ⟨x, .ref t, rs, es, [r.1], rfl, st_sh (same_new nt) S, by omega, seq_tup upd_same, fun n m => by rw [List.mem_singleton.mp m]; exact hn, fun H2 s2 => ?_⟩
  have s2' := (same_new (o := .tup [.str r.1]) nt).trans s2
  refine ⟨_, rfl, x, rs, es, rfl, st_sh s2' S, by omega, O.nd, fun D H3 s3 nD wa => ?_⟩
  obtain ⟨kvs, hD, hk, hv, hno⟩ := wa
  obtain ⟨a, ea, ha⟩ := hv r mr
  refine ⟨_, rfl, _, rfl, D, _, rfl, (by rw [← ea]; exact DGet.k (k := Sum.inr r.1) hD), ?_⟩
  have wl := O.wl r mr
  have ew := wantsOf_in O.nd mr
  refine lc_any (xs := r.2.map V.str) ⟨a, rfl, .inr (st_tup hide_le ha)⟩ (Stays.of (Same.refl H3)) (fun C i H' => Same H3 H' ∧ H' C = some (.lst (((r.2.take i).filter fun o => decide (r.1 ∈ wantsOf rs o)).map V.str))) (fun C nC => ⟨same_new nC, upd_same⟩) (fun C i H' _ q => Stays.of q.1) (fun C i y H' nC hy ⟨s4, hC⟩ => ?_) (fun C H' nC ⟨s4, hC⟩ => ?_)
  · obtain ⟨o, ho, rfl⟩ := map_at hy
    refine ⟨rfl, _, rfl, _, rfl, D, rfl, .inl ⟨kvs, .inl (s4 _ _ hD)⟩, _, rfl, Nat.zero_le _, fun e ne => ?_⟩
    have s5 := s4.trans (same_new (o := .tup []) ne)
    have hC2 := (same_new (o := .tup []) ne) _ _ hC
    have big : ((r.2.take i).filter fun o => decide (r.1 ∈ wantsOf rs o)).length ≤ 60 := Nat.le_trans (List.length_filter_le _ _) (by rw [List.length_take]; omega)
    have look : ∃ (ov : Option V), DGet (upd H' e (.tup [])) D (.str o) ov ∧ SeqV K (upd H' e (.tup [])) (ov.getD (.ref e)) ((wantsOf rs o).map V.str) := by
      by_cases c : o ∈ rs.map (·.1)
      · obtain ⟨r2, m2, rfl⟩ := List.mem_map.mp c
        obtain ⟨a2, ea2, ha2⟩ := hv r2 m2
        refine ⟨some (.ref a2), by rw [← ea2]; exact DGet.k (k := Sum.inr r2.1) (s5 _ _ hD), a2, rfl, .inr ?_⟩
        rw [wantsOf_in O.nd m2]
        exact st_tup (hide_le.trans s5) ha2
      · refine ⟨none, by rw [← hno o c]; exact DGet.k (k := Sum.inr o) (s5 _ _ hD), ?_⟩
        rw [wantsOf_out c]
        exact seq_tup upd_same
    obtain ⟨ov, dg, sv⟩ := look
    refine ⟨ov, dg, in_s sv ⟨_, rfl, ite2 (fun c => ?_) (fun c => ?_)⟩⟩
    · refine ⟨_, rfl, _, hC2, by rw [List.length_map]; exact small1000 (by omega), fun b ob eb => ?_, ?_⟩
      · rw [upd_ne (ne_of_none eb nC)]
        exact s5 _ _ eb
      · rw [upd_same, filt_yes ho c, List.map_append]
        rfl
    · refine ⟨s5, ?_⟩
      rw [filt_no ho c]
      exact hC2
  · rw [List.length_map, List.take_length, ← ew] at hC
    refine ⟨C, _, rfl, .inl ⟨SqL.of hC, fun p np => ?_⟩⟩
    have sf := (s2'.trans s3).trans s4
    exact k p _ (sf.trans (same_new np)) (sf.free np) upd_same
end
end Cx

namespace Cx
open PySem PySem.Spec PyProof.Rows L2
theorem flat_next {α β : Type} (f : α → List β) {xs : List α} {i : Nat} {z : α} (h : xs[i]? = some z) : (xs.take (i + 1)).flatMap f = (xs.take i).flatMap f ++ f z := by
  rw [List.take_add_one, h, List.flatMap_append]
  show _ ++ List.flatMap f [z] = _
  rw [List.flatMap_cons, List.flatMap_nil, List.append_nil]
theorem flat_len {α β : Type} (f : α → List β) (n : Nat) : ∀ (xs : List α), (∀ x ∈ xs, (f x).length ≤ n) → (xs.flatMap f).length ≤ n * xs.length
  | [], _ => Nat.zero_le _
  | x :: xs, h => by
    rw [List.flatMap_cons, List.length_append, List.length_cons, Nat.mul_add, Nat.mul_one, Nat.add_comm]
    exact Nat.add_le_add (flat_len f n xs fun y m => h y (List.mem_cons_of_mem _ m)) (h x List.mem_cons_self)
def without (rs : List (Str × List Str)) (gone : List Str) : List Str := (rs.map (·.1)).filter fun z => !decide (z ∈ gone)
def rLtS : R2 := fun x y H Q => ∃ i j, x = .str i ∧ y = .str j ∧ Q (.bl (decide (i.cps.toList < j.cps.toList))) H
section
variable {P : Program} {w : World} {K : PySem.W.Frag} {mg : Str → Option Value} {base : Heap}
def spSuiting (K : PySem.W.Frag) : Sp := fun vs H Q _ => ∃ (x y : V) (rs : List (Str × List Str)) (es gone : List Str), vs = [x, y] ∧ ShV K H x rs es ∧ Ok rs ∧ SeqV K H y (gone.map V.str) ∧ (∀ z ∈ gone, z ∈ rs.map (·.1)) ∧
  ∀ p H' (ps : List V), Same H H' → H p = none → H' p = some (.lst ps) → Paired (PrAt H') ps (suitN rs (without rs gone)) → Q (.ref p) H'
abbrev nSg : List Str := ["sheet", "without", "names", "name", "one", "other"]
theorem scSg : FnScope nSg ["sheet", "without"] (defScope sSuiting) := ⟨rfl, rfl, rfl, by decide +kernel, rfl, by decide +kernel, by decide +kernel⟩
theorem ok_suiting {f g1 g2 g3 : Addr} {fd gd1 gd2 gd3 : FuncData} {dvs : List V} {kws : List (Str × V)} (F : FunD K "suiting" "suiting" (defArgs sSuiting) (defBody sSuiting) (defScope sSuiting) dvs kws f fd)
    (GM : FnOk P w K mg base CX0 2 g1 gd1 ["sheet", "names"] (spMust K)) (bM : Binds K gd1 ["sheet", "names"] []) (kM : PySem.W.keepIn K (.ref g1) = true) (mM : mg "must_be_households" = some (.ref g1))
    (GH : FnOk P w K mg base CX0 1 g2 gd2 ["sheet"] (spHouseholds K)) (bH : Binds K gd2 ["sheet"] []) (kH : PySem.W.keepIn K (.ref g2) = true) (mH : mg "households" = some (.ref g2))
    (GS : FnOk P w K mg base CX0 3 g3 gd3 ["sheet", "name"] (spSuited K)) (bS : Binds K gd3 ["sheet", "name"] []) (kS : PySem.W.keepIn K (.ref g3) = true) (mS : mg "suited_to" = some (.ref g3)) : FnOk P w K mg base CX0 4 f fd ["sheet", "without"] (spSuiting K) := by
  refine F.ok scSg (fun vs H Q E h => ?_) (fun cdv A outer s H vs Q E hr h => ?_)
  · obtain ⟨x, y, rs, es, gone, rfl, _⟩ := h
    rfl
  obtain ⟨x, y, rs, es, gone, rfl, S, O, hy, hg, k⟩ := h
  have hr1 := hr.mono (show 1 ≤ 3 by decide)
  have hr2 := hr.mono (show 2 ≤ 3 by decide)
  refine ⟨_, PSs.nox (pss_cons (ps_expr (pe_call GM hr2 (by rfl) mM kM bM .nil pass0 (pa_cons (pv 0) (pa_cons (pv 1) pa_nil))))
    (Evl.pss_cut (ps_set (i := 2) scSg.nd rfl (.inr rfl) (pe_lcA (own := [("name", 3)]) (g := gName 3) (tt := tTest (tOp (rIn K true) (tVar 3) (tVar 1))) (te := tVar 3) rfl scSg.nd (pe_call GH hr1 (by rfl) mH kH bH .nil pass0 (pa_cons (pv 0) pa_nil)) (blkOk_by (N := nSg) (sc := defScope sSuiting) (by decide +kernel))
      (fun _ _ _ _ _ => pg_name (i := 3) scSg.nd rfl (.inl rfl)) (fun _ _ _ _ _ => pts_one (pt_cmpR op_notIn_seq (pv 3) (pv 1) (by rfl))) (fun _ _ _ _ _ => pv 3)))
    (pss_one (ps_ret (pe_lc2 (own := [("one", 4), ("other", 5)]) (vs1 := [5]) (g := gName 4) (tt := tYes) (wi1 := iTup K (tCall (spSuited K) [] E0 (tCons (tVar 0) (tCons (tVar 4) tNil)))) (g1 := gName 5) (tt1 := tAnd (tTest (tOp rLtS (tVar 4) (tVar 5))) (tTest (tOp (rIn K false) (tVar 5) (tVar 2)))) (te := tTup (tCons (tVar 4) (tCons (tVar 5) tNil)))
      rfl scSg.nd (pi_list (pv 2)) (blkOk_by (N := nSg) (sc := defScope sSuiting) (by decide +kernel)) (by decide) (fun _ _ _ _ _ => pg_name (i := 4) scSg.nd rfl (.inl rfl)) (fun _ _ _ _ _ => pts_nil)
      (fun _ _ _ _ _ => pi_tup (pe_call GS hr (by rfl) mS kS bS .nil pass0 (pa_cons (pv 0) (pa_cons (pv 4) pa_nil)))) (fun _ _ _ _ _ => pg_name (i := 5) scSg.nd rfl (.inl rfl))
      (fun _ _ _ _ _ => pts_one (PW.pt (pw_and (pt_cmpR op_lt_str (pv 4) (pv 5) (nomark _)) (pw_and1 (pt_cmpR op_in_seq (pv 5) (pv 2) (by rfl)))))) (fun _ _ _ _ _ => pe_tup (pa_cons (pv 4) (pa_cons (pv 5) pa_nil)))))))), ?_⟩
  have ol := O.len
  refine ⟨_, rfl, _, rfl, x, y, rs, es, gone, rfl, S, by omega, hy, hg, fun H1 s1 => ?_⟩
  have nl : (without rs gone).length ≤ 60 := Nat.le_trans (List.length_filter_le _ _) (by rw [List.length_map]; exact ol)
  refine ⟨fun σ' H' => ∃ L : Addr, σ' = [some x, some y, some (.ref L), none, none, none] ∧ Same H H' ∧ H' L = some (.lst ((without rs gone).map V.str)), ?_, ?_⟩
  · refine ⟨_, rfl, x, rs, es, rfl, st_sh s1 S, by omega, fun p H2 s2 np hp => ?_⟩
    have hp2 : SeqV K H2 (.ref p) ((rs.map (·.1)).map V.str) := by
      rw [List.map_map]
      exact seq_tup hp
    refine lc_any hp2 (Stays.of (Same.refl H2)) (fun C i H' => Same H2 H' ∧ H' C = some (.lst ((((rs.map (·.1)).take i).filter fun z => !decide (z ∈ gone)).map V.str))) (fun C nC => ⟨same_new nC, upd_same⟩) (fun C i H' _ q => Stays.of q.1) (fun C i z H' nC hz ⟨s4, hC⟩ => ?_) (fun C H' nC ⟨s4, hC⟩ => ?_)
    · obtain ⟨n, hn, rfl⟩ := map_at hz
      have big : (((rs.map (·.1)).take i).filter fun z => !decide (z ∈ gone)).length ≤ 60 := Nat.le_trans (List.length_filter_le _ _) (by rw [List.length_take, List.length_map]; omega)
      refine ⟨rfl, _, rfl, _, rfl, nin_s (st_sv ((s1.trans s2).trans s4) hy) ⟨_, rfl, ite2 (fun c => ?_) (fun c => ?_)⟩⟩
      · refine ⟨_, rfl, _, hC, by rw [List.length_map]; exact small1000 (by omega), fun b ob eb => ?_, ?_⟩
        · rw [upd_ne (ne_of_none eb nC)]
          exact s4 _ _ eb
        · rw [upd_same, filt_yes hn c, List.map_append]
          rfl
      · refine ⟨s4, ?_⟩
        rw [filt_no hn c]
        exact hC
    · rw [List.length_map, List.take_length] at hC
      exact ⟨C, rfl, (s1.trans s2).trans s4, hC⟩
  rintro σ1 H2 ⟨L, rfl, s2, hL⟩
  have subn : ∀ z ∈ without rs gone, z ∈ rs.map (·.1) := fun z m => (List.mem_filter.mp m).1
  have sl : ∀ n, (suiN rs n).length ≤ 60 := fun n => Nat.le_trans (List.length_filter_le _ _) (O.wants n)
  generalize en : without rs gone = nm at nl hL subn k ⊢
  have fl : ∀ n, (((suiN rs n).filter fun o => sLt n o && decide (o ∈ nm)).map fun o => (n, o)).length ≤ 60 := fun n => by
    rw [List.length_map]
    exact Nat.le_trans (List.length_filter_le _ _) (sl n)
  refine ⟨_, rfl, L, rfl, ⟨_, SqL.of hL⟩, fun D nD => ?_⟩
  refine it_lst (xs := nm.map V.str) (fun i H' => ∃ ps : List V, Same H2 H' ∧ H' D = some (.lst ps) ∧ Paired (PrAt H') ps ((nm.take i).flatMap fun n => ((suiN rs n).filter fun o => sLt n o && decide (o ∈ nm)).map fun o => (n, o))) ⟨[], same_new nD, upd_same, .nil⟩ (fun i H' ⟨_, q, _⟩ => q.seq (SqL.of hL)) (fun i z H' hz ⟨ps, s3, hD, pr⟩ => ?_) (fun H' ⟨ps, s3, hD, pr⟩ => ?_)
  · obtain ⟨n, hn, rfl⟩ := map_at hz
    have li := flat_len (fun n => ((suiN rs n).filter fun o => sLt n o && decide (o ∈ nm)).map fun o => (n, o)) 60 (nm.take i) fun n _ => fl n
    have li2 : (nm.take i).length ≤ 60 := by rw [List.length_take]; omega
    have hS := st_sh (s2.trans s3) S
    refine ⟨rfl, _, rfl, _, rfl, x, n, rs, es, rfl, hS, O, subn n (List.mem_of_getElem? hn), fun p H3 s4 np hp => ⟨p, rfl, ⟨_, .inl (.inl hp)⟩, ?_⟩⟩
    have nDp : D ≠ p := ne_of_none hD np
    refine it_tup (xs := (suiN rs n).map V.str) (fun j H' => ∃ ps : List V, Same H2 H' ∧ H' p = some (.tup ((suiN rs n).map V.str)) ∧ H' D = some (.lst ps) ∧ Paired (PrAt H') ps (((nm.take i).flatMap fun n => ((suiN rs n).filter fun o => sLt n o && decide (o ∈ nm)).map fun o => (n, o)) ++ (((suiN rs n).take j).filter fun o => sLt n o && decide (o ∈ nm)).map fun o => (n, o)))
      ⟨ps, s3.trans s4, hp, s4 _ _ hD, by rw [List.take_zero, List.filter_nil, List.map_nil, List.append_nil]; exact Paired.mapP pr fun _ _ h => h.keep fun b xs e => s4 b _ e⟩ (fun j H' ⟨_, _, q, _⟩ => .inl (.inl q)) (fun j z H' hz2 ⟨ps, s5, hp5, hD5, pr5⟩ => ?_) (fun H' ⟨ps, s5, hp5, hD5, pr5⟩ => ?_)
    · obtain ⟨o, ho, rfl⟩ := map_at hz2
      have lp := Paired.length pr5
      rw [List.length_append] at lp
      have l2 : ((((suiN rs n).take j).filter fun o => sLt n o && decide (o ∈ nm)).map fun o => (n, o)).length ≤ 60 := by
        rw [List.length_map]
        exact Nat.le_trans (List.length_filter_le _ _) (by rw [List.length_take]; have := sl n; omega)
      have hL5 := s5 _ _ hL
      refine ⟨rfl, _, rfl, _, rfl, _, _, rfl, rfl, _, rfl, ite2 (fun c1 => ⟨_, rfl, _, rfl, in_s (ns := nm) ⟨L, rfl, .inl (SqL.of hL5)⟩ ⟨_, rfl, ite2 (fun c2 => ?_) (fun c2 => ?_)⟩⟩) (fun c1 => iteF ?_)⟩
      · have cc : (sLt n o && decide (o ∈ nm)) = true := Bool.and_eq_true_iff.mpr ⟨c1, c2⟩
        refine ⟨_, rfl, _, rfl, by show 2 ≤ sizeLine; decide, fun q nq => ?_⟩
        have hD6 := (same_new (o := .tup [.str n, .str o]) nq) _ _ hD5
        refine ⟨ps, hD6, by rw [sizeLine_eq]; omega, ps ++ [.ref q], fun b ob eb => ?_, ?_, upd_same, ?_⟩
        · rw [upd_ne (ne_of_none eb nD)]
          exact (same_new nq) _ _ (s5 _ _ eb)
        · rw [upd_ne nDp.symm]
          exact (same_new nq) _ _ hp5
        · rw [filt_yes ho cc, List.map_append, ← List.append_assoc]
          refine pair_snoc ⟨q, rfl, tup_lst hD6 _ _ upd_same⟩ (Paired.mapP pr5 fun _ _ h => h.keep fun b xs e => tup_lst hD6 b xs ((same_new nq) b _ e))
      · refine ⟨ps, s5, hp5, hD5, ?_⟩
        rw [filt_no ho fun c => c2 (Bool.and_eq_true_iff.mp c).2]
        exact pr5
      · refine ⟨ps, s5, hp5, hD5, ?_⟩
        rw [filt_no ho fun c => c1 (Bool.and_eq_true_iff.mp c).1]
        exact pr5
    · rw [List.length_map, List.take_length] at pr5
      refine ⟨ps, s5, hD5, ?_⟩
      rw [flat_next _ hn]
      exact pr5
  · rw [List.length_map, List.take_length] at pr
    exact k D H' ps (s2.trans s3) ((s2.free nD)) hD pr
end
end Cx

/-! the law's own words: folk, wants -/
namespace Cx
open PySem PySem.Spec PyProof.Rows L2
theorem mergeK_app : ∀ (more acc : List (Key × V)), (more.map (·.1)).Nodup → (∀ k ∈ more.map (·.1), valV acc k = none) → mergeK acc more = acc ++ more
  | [], acc, _, _ => (List.append_nil _).symm
  | kv :: more, acc, nd, h => by
    have nd2 := List.nodup_cons.mp nd
    have h1 : valV acc kv.1 = none := h _ List.mem_cons_self
    show mergeK (putK acc kv.1 kv.2) more = acc ++ kv :: more
    rw [putK_new kv.2 h1, mergeK_app more _ nd2.2 fun k m => ?_, List.append_assoc]
    · rfl
    · have ne : ¬ k = kv.1 := fun e => nd2.1 (by show kv.1 ∈ _; rw [← e]; exact m)
      rw [valV_snoc kv.1 k kv.2 acc h1, if_neg ne]
      exact h k (List.mem_cons_of_mem _ m)
theorem mergeK_nil {more : List (Key × V)} (nd : (more.map (·.1)).Nodup) : mergeK [] more = more := mergeK_app more [] nd fun _ _ => rfl
theorem keys_nodup {rs : List (Str × List Str)} (nd : (rs.map (·.1)).Nodup) : (rs.map fun r => (Sum.inr r.1 : Key)).Nodup := by
  have e : (rs.map fun r => (Sum.inr r.1 : Key)) = (rs.map (·.1)).map Sum.inr := by
    rw [List.map_map]
    rfl
  rw [e]
  exact List.pairwise_map.mpr (nd.imp fun {a b} n c => n (Sum.inr.inj c))
/-- the dict at D: the sheet's names in their order, each with the homes of its that are in fl -/
def TabAt (H : Hp) (D : Addr) (rs : List (Str × List Str)) (fl : List Str) : Prop := ∃ kvs : List (Key × V), H D = some (.dK kvs) ∧ kvs.map (·.1) = (rs.map fun r => (Sum.inr r.1 : Key)) ∧
  ∀ r ∈ rs, ∃ l, valV kvs (.inr r.1) = some (.ref l) ∧ H l = some (.lst ((r.2.filter fun o => decide (o ∈ fl)).map V.str))
theorem val_pair {R : Key × V → Str × List Str → Prop} : ∀ {kvs : List (Key × V)} {rs : List (Str × List Str)}, Paired R kvs rs → kvs.map (·.1) = (rs.map fun r => (Sum.inr r.1 : Key)) → (rs.map (·.1)).Nodup → ∀ r ∈ rs, ∃ kv, valV kvs (.inr r.1) = some kv.2 ∧ R kv r
  | _, _, .nil, _, _, r, m => nomatch m
  | kv :: _, q :: rs, .cons h t, e, nd, r, m => by
    injection e with e1 e2
    have nd2 := List.nodup_cons.mp nd
    rcases List.mem_cons.mp m with c | m
    · subst c
      exact ⟨kv, valV_pos e1, h⟩
    · obtain ⟨kv2, h1, h2⟩ := val_pair t e2 nd2.2 r m
      refine ⟨kv2, ?_, h2⟩
      rw [valV_neg]
      · exact h1
      · rw [show kv.1 = Sum.inr q.1 from e1]
        intro c
        exact nd2.1 (List.mem_map.mpr ⟨r, m, (Sum.inr.inj c).symm⟩)
section
variable {P : Program} {w : World} {K : PySem.W.Frag} {mg : Str → Option Value} {base : Heap}
/-! ### folk -/
def spFolk (K : PySem.W.Frag) : Sp := fun vs H Q _ => ∃ (x : V) (rs : List (Str × List Str)) (es : List Str), vs = [x] ∧ ShV K H x rs es ∧ rs.length ≤ 900 ∧ ∀ p H', Same H H' → H p = none → H' p = some (.lst ((rs.map (·.1)).map V.str)) → Q (.ref p) H'
theorem scFk : FnScope ["_law_tome_here", "_law_own"] ["_law_tome_here"] (defScope sFolk) := ⟨rfl, rfl, rfl, by decide +kernel, rfl, by decide +kernel, by decide +kernel⟩
theorem ok_folk {f : Addr} {fd : FuncData} (F : Fun K "_law_folk" "_law_folk" sFolk f fd) : FnOk P w K mg base CX0 1 f fd ["_law_tome_here"] (spFolk K) := by
  refine F.ok scFk (fun vs H Q E h => ?_) (fun cdv A outer s H vs Q E hr h => ?_)
  · obtain ⟨x, rs, es, rfl, _⟩ := h
    rfl
  obtain ⟨x, rs, es, rfl, S, hz, k⟩ := h
  obtain ⟨r, e, rows, h1, h2, h3, h4⟩ := S.ex
  refine ⟨_, pss_one (ps_ret (pe_lcA (own := [("_law_own", 1)]) (g := gName 1) (tt := tYes) (te := tOp (rIx K) (tVar 1) (tC (.int 0))) rfl scFk.nd (pe_ix ix_seq (pv 0) pe_int (fun _ _ => rfl)) (blkOk_by (N := ["_law_tome_here", "_law_own"]) (sc := defScope sFolk) (by decide +kernel))
      (fun _ _ _ _ _ => pg_name (i := 1) scFk.nd rfl (.inl rfl)) (fun _ _ _ _ _ => pts_nil) (fun _ _ _ _ _ => pe_ix ix_seq (pv 1) pe_int (fun _ _ => rfl)))), ?_⟩
  refine ⟨x, rfl, ?_⟩
  refine ix_sv h1 (atI_nat (j := 0) rfl) ?_
  refine lc_any h2 (Stays.of (Same.refl H)) (fun D i H' => Same H H' ∧ H' D = some (.lst (((rs.take i).map (·.1)).map V.str))) (fun D nD => ⟨same_new nD, upd_same⟩) (fun D i H' _ q => Stays.of q.1) (fun D i y H' nD hy ⟨sm, hD⟩ => ?_) (fun D H' nD ⟨sm, hD⟩ => ?_)
  · obtain ⟨q, hq, w2, hw, _⟩ := h3.at hy
    refine ⟨rfl, _, rfl, ix_sv (st_sv sm hw) (atI_nat (j := 0) rfl) ⟨_, hD, ?_, fun b o eb => ?_, ?_⟩⟩
    · rw [List.length_map, List.length_map, List.length_take]
      exact small1000 (by omega)
    · rw [upd_ne (ne_of_none eb nD)]
      exact sm _ _ eb
    · rw [upd_same, List.take_add_one, hq]
      simp
  · rw [List.take_of_length_le (by rw [Paired.length h3]; exact Nat.le_refl _)] at hD
    exact k D H' sm nD hD
/-! ### wants -/
def spWants (K : PySem.W.Frag) : Sp := fun vs H Q _ => ∃ (x : V) (rs : List (Str × List Str)) (es : List Str), vs = [x] ∧ ShV K H x rs es ∧ Ok rs ∧ es.length ≤ 60 ∧ ∀ D H', Same H H' → H D = none → TabAt H' D rs (rs.map (·.1) ++ es) → Q (.ref D) H'
abbrev nWt : List Str := ["_law_tome_here", "_law_flats", "_law_own", "_law_flat"]
theorem scWt : FnScope nWt ["_law_tome_here"] (defScope sWants) := ⟨rfl, rfl, rfl, by decide +kernel, rfl, by decide +kernel, by decide +kernel⟩
def scWtIn : Scope := { kind := .function, names := [(".0", .local), ("_law_own", .local), ("_law_flats", .cell)], isGenerator := false, isCoroutine := false }
theorem ok_wants {f g : Addr} {fd gd : FuncData} (F : Fun K "_law_wants" "_law_wants" sWants f fd) (GF : FnOk P w K mg base CX0 1 g gd ["_law_tome_here"] (spFolk K)) (bF : Binds K gd ["_law_tome_here"] []) (kF : PySem.W.keepIn K (.ref g) = true) (mF : mg "_law_folk" = some (.ref g))
    (ml : mg "list" = none) (md : mg "dict" = none) : FnOk P w K mg base CX0 2 f fd ["_law_tome_here"] (spWants K) := by
  refine F.ok scWt (fun vs H Q E h => ?_) (fun cdv A outer s H vs Q E hr h => ?_)
  · obtain ⟨x, rs, es, rfl, _⟩ := h
    rfl
  obtain ⟨x, rs, es, rfl, S, O, hes, k⟩ := h
  refine ⟨_, pss_cons (ps_set (i := 1) scWt.nd rfl (.inr rfl) (pe_op op_cat (pe_call GF hr (by rfl) mF kF bF .nil pass0 (pa_cons (pv 0) pa_nil)) (pe_callTy call_list_of (by rfl) ml (by decide +kernel) (pa_cons (pe_ix ix_seq (pv 0) pe_int (fun _ _ => rfl)) pa_nil))))
    (pss_one (ps_ret (pe_callTy (call_dictP rfl) (by rfl) md (by decide +kernel) (pa_cons
      (pe_lcA (own := [("_law_own", 2)]) (g := gName 2) (tt := tYes) (te := tTup (tCons (tOp (rIx K) (tVar 2) (tC (.int 0))) (tCons (tLcA K (tOp (rIx K) (tVar 2) (tC (.int 1))) (gName 3) (tTest (tOp (rIn K false) (tVar 3) (tVar 1))) (tVar 3) [3]) tNil))) rfl scWt.nd (pe_ix ix_seq (pv 0) pe_int (fun _ _ => rfl)) (blkOk_by (N := nWt) (sc := defScope sWants) (by decide +kernel))
        (fun _ _ _ _ _ => pg_name (i := 2) scWt.nd rfl (.inl rfl)) (fun _ _ _ _ _ => pts_nil) (fun _ _ _ _ _ => pe_tup (pa_cons (pe_ix ix_seq (pv 2) pe_int (fun _ _ => rfl)) (pa_cons
          (pe_lcA (own := [("_law_flat", 3)]) (g := gName 3) (tt := tTest (tOp (rIn K false) (tVar 3) (tVar 1))) (te := tVar 3) rfl scWt.nd (pe_ix ix_seq (pv 2) pe_int (fun _ _ => rfl)) (blkOk_by (N := nWt) (sc := scWtIn) (by decide +kernel))
            (fun _ _ _ _ _ => pg_name (i := 3) scWt.nd rfl (.inl rfl)) (fun _ _ _ _ _ => pts_one (pt_cmpR op_in_seq (pv 3) (pv 1) (by rfl))) (fun _ _ _ _ _ => pv 3)) pa_nil)))) pa_nil)))), ?_⟩
  have ol := O.len
  refine ⟨_, rfl, x, rs, es, rfl, S, by omega, fun p1 H1 s1 n1 h1 => ?_⟩
  obtain ⟨r, e, rows, g1, g2, g3, g4⟩ := (st_sh s1 S).ex
  refine ⟨_, rfl, ix_sv g1 (atI_nat (j := 1) rfl) ?_⟩
  obtain ⟨b, rfl, hb⟩ := g4
  refine ⟨b, _, rfl, hb, fun l nl => ?_⟩
  have h1b := (same_new (o := .lst (es.map V.str)) nl) _ _ h1
  refine cats h1b upd_same (by rw [List.length_map]; omega) fun F nF => ?_
  have s2 : Same H (upd (upd H1 l (.lst (es.map V.str))) F (.lst ((rs.map (·.1) ++ es).map V.str))) := (s1.trans (same_new nl)).trans (same_new nF)
  have hF : upd (upd H1 l (.lst (es.map V.str))) F (.lst ((rs.map (·.1) ++ es).map V.str)) F = some (.lst ((rs.map (·.1) ++ es).map V.str)) := upd_same
  generalize upd (upd H1 l (.lst (es.map V.str))) F (.lst ((rs.map (·.1) ++ es).map V.str)) = H2 at s2 hF ⊢
  obtain ⟨r, e, rows, g1, g2, g3, g4⟩ := (st_sh s2 S).ex
  refine ⟨_, rfl, ix_sv g1 (atI_nat (j := 0) rfl) ?_⟩
  refine lc_any g2 (Stays.of (Same.refl H2)) (fun C i H' => Same H2 H' ∧ ∃ (ps : List Addr) (kvs : List (Key × V)), H' C = some (.lst (ps.map V.ref)) ∧ Paired (fun p kv => H' p = some (.tup [kV kv.1, kv.2])) ps kvs ∧ kvs.map (·.1) = ((rs.take i).map fun r => (Sum.inr r.1 : Key)) ∧
      Paired (fun kv r => ∃ l, kv.2 = V.ref l ∧ l ≠ C ∧ H' l = some (.lst ((r.2.filter fun o => decide (o ∈ rs.map (·.1) ++ es)).map V.str))) kvs (rs.take i))
    (fun C nC => ⟨same_new nC, [], [], upd_same, .nil, rfl, .nil⟩) (fun C i H' _ q => Stays.of q.1) (fun C i y H' nC hy ⟨s4, ps, kvs, hC, pp, ek, pk⟩ => ?_) (fun C H' nC ⟨s4, ps, kvs, hC, pp, ek, pk⟩ => ?_)
  · obtain ⟨q, hq, w2, hw, hw2⟩ := g3.at hy
    have wl := O.wl q (List.mem_of_getElem? hq)
    have hi := (List.getElem?_eq_some_iff.mp hq).1
    refine ⟨rfl, _, rfl, ix_sv (st_sv s4 hw) (atI_nat (j := 0) rfl) ⟨_, rfl, ix_sv (st_sv s4 hw) (atI_nat (j := 1) rfl) ?_⟩⟩
    refine lc_any (st_sv s4 hw2) (Stays.of (Same.refl H')) (fun D j H3 => Same H' H3 ∧ H3 D = some (.lst (((q.2.take j).filter fun o => decide (o ∈ rs.map (·.1) ++ es)).map V.str))) (fun D nD => ⟨same_new nD, upd_same⟩) (fun D j H3 _ q => Stays.of q.1) (fun D j y H3 nD hy2 ⟨s5, hD⟩ => ?_) (fun D H3 nD ⟨s5, hD⟩ => ?_)
    · obtain ⟨o, ho, rfl⟩ := map_at hy2
      have big : ((q.2.take j).filter fun o => decide (o ∈ rs.map (·.1) ++ es)).length ≤ 60 := Nat.le_trans (List.length_filter_le _ _) (by rw [List.length_take]; omega)
      refine ⟨rfl, _, rfl, _, rfl, in_s (ns := rs.map (·.1) ++ es) ⟨F, rfl, .inl (SqL.of (s5 _ _ (s4 _ _ hF)))⟩ ⟨_, rfl, ite2 (fun c => ?_) (fun c => ?_)⟩⟩
      · refine ⟨_, rfl, _, hD, by rw [List.length_map]; exact small1000 (by omega), fun b ob eb => ?_, ?_⟩
        · rw [upd_ne (ne_of_none eb nD)]
          exact s5 _ _ eb
        · rw [upd_same, filt_yes ho c, List.map_append]
          rfl
      · refine ⟨s5, ?_⟩
        rw [filt_no ho c]
        exact hD
    · rw [List.length_map, List.take_length] at hD
      refine ⟨by show 2 ≤ sizeLine; decide, fun T nT => ?_⟩
      have s6 := s5.trans (same_new (o := .tup [.str q.1, .ref D]) nT)
      have hC2 := s6 _ _ hC
      have hT : upd H3 T (.tup [.str q.1, .ref D]) T = some (.tup [.str q.1, .ref D]) := upd_same
      have hD2 := (same_new (o := .tup [.str q.1, .ref D]) nT) _ _ hD
      have DC : D ≠ C := (ne_of_none hC nD).symm
      have lp := Paired.length pp
      have lk := Paired.length pk
      rw [List.length_take] at lk
      generalize upd H3 T (.tup [.str q.1, .ref D]) = H4 at s6 hC2 hT hD2 ⊢
      refine ⟨_, hC2, by rw [List.length_map]; exact small1000 (by omega), fun b ob eb => ?_, ps ++ [T], kvs ++ [(Sum.inr q.1, .ref D)], ?_, ?_, ?_, ?_⟩
      · rw [upd_ne (ne_of_none eb nC)]
        exact s6 _ _ (s4 _ _ eb)
      · rw [upd_same, List.map_append]
        rfl
      · have pp2 : Paired (fun p (kv : Key × V) => upd H4 C (.lst (ps.map V.ref ++ [V.ref T])) p = some (.tup [kV kv.1, kv.2])) ps kvs := Paired.mapP pp fun p kv h => tup_lst hC2 p _ (s6 p _ h)
        exact pair_snoc (R := fun p (kv : Key × V) => upd H4 C (.lst (ps.map V.ref ++ [V.ref T])) p = some (.tup [kV kv.1, kv.2])) (x := T) (y := (Sum.inr q.1, .ref D)) (tup_lst hC2 _ _ hT) pp2
      · rw [List.map_append, ek, List.take_add_one, hq, List.map_append]
        rfl
      · rw [List.take_add_one, hq]
        refine pair_snoc ⟨D, rfl, DC, by rw [upd_ne DC]; exact hD2⟩ (Paired.mapP pk fun _ _ ⟨l, e1, e2, e3⟩ => ⟨l, e1, e2, by rw [upd_ne e2]; exact s6 _ _ e3⟩)
  · rw [Paired.length g3, List.take_length] at ek pk
    refine ⟨C, ps, kvs, rfl, SqL.of hC, Paired.mapP pp fun _ _ h => .inl (.inl h), fun D nD => ?_⟩
    have nk : (kvs.map (·.1)).Nodup := by
      rw [ek]
      exact keys_nodup O.nd
    rw [mergeK_nil nk]
    have sf := s2.trans s4
    refine k D _ (sf.trans (same_new nD)) (sf.free nD) ⟨kvs, upd_same, ek, fun r m => ?_⟩
    obtain ⟨kv, e1, l, e2, _, e3⟩ := val_pair pk ek O.nd r m
    exact ⟨l, by rw [e1, e2], (same_new nD) _ _ e3⟩
end
end Cx

/-! the law's own words: suits -/
namespace Cx
open PySem PySem.Spec PyProof.Rows L2
def Rise (l : List Str) : Prop := l.Pairwise fun a b => sLt b a = false
theorem Asc.rise {l : List Str} (h : Asc l) : Rise l := h.imp fun {_ _} q => sLt_asym q
theorem flat_pw {g : Str → List (Str × Str)} (h1 : ∀ n, ∀ q ∈ g n, q.1 = n) (h2 : ∀ n, (g n).Pairwise fun a b => pLt b a = false) : ∀ {nm : List Str}, Asc nm → (nm.flatMap g).Pairwise fun a b => pLt b a = false
  | [], _ => .nil
  | n :: nm, h => by
    have hc := List.pairwise_cons.mp h
    rw [List.flatMap_cons]
    refine List.pairwise_append.mpr ⟨h2 n, flat_pw h1 h2 hc.2, fun a ma b mb => ?_⟩
    obtain ⟨m, mm, mb⟩ := List.mem_flatMap.mp mb
    have e1 := h1 n a ma
    have e2 := h1 m b mb
    have lt := hc.1 m mm
    unfold pLt
    rw [e1, e2]
    rw [if_neg fun c => by rw [c, sLt_irr] at lt; cases lt]
    exact sLt_asym lt
theorem wants_rise {rs : List (Str × List Str)} (h : ∀ r ∈ rs, Rise r.2) (n : Str) : Rise (wantsOf rs n) := by
  unfold wantsOf
  cases e : rs.find? fun r => decide (r.1 = n) with
  | none => exact .nil
  | some r => exact h r (List.mem_of_find?_eq_some e)
theorem suit_pw {rs : List (Str × List Str)} {nm : List Str} (h : ∀ r ∈ rs, Rise r.2) (a : Asc nm) : (suitN rs nm).Pairwise fun a b => pLt b a = false := by
  refine flat_pw (fun n q m => ?_) (fun n => ?_) a
  · obtain ⟨o, _, rfl⟩ := List.mem_map.mp m
    rfl
  · refine List.pairwise_map.mpr ?_
    refine ((((wants_rise h n).sublist List.filter_sublist).sublist List.filter_sublist)).imp fun {a b} q => ?_
    show pLt (n, b) (n, a) = false
    unfold pLt
    rw [if_pos rfl]
    exact q
theorem suit_same {rs : List (Str × List Str)} {fl : List Str} {n : Str} (hn : n ∈ rs.map (·.1)) (hf : ∀ z ∈ rs.map (·.1), z ∈ fl) :
    ((wantsOf rs n).filter fun o => decide (o ∈ fl)).filter (fun o => sLt n o && (decide (o ∈ rs.map (·.1)) && decide (n ∈ (wantsOf rs o).filter fun o => decide (o ∈ fl)))) = (suiN rs n).filter fun o => sLt n o && decide (o ∈ rs.map (·.1)) := by
  unfold suiN
  rw [List.filter_filter, List.filter_filter]
  refine List.filter_congr fun o _ => ?_
  rw [Bool.eq_iff_iff]
  simp only [Bool.and_eq_true, decide_eq_true_eq, List.mem_filter]
  constructor
  · rintro ⟨⟨a, b, c, d⟩, e⟩
    exact ⟨⟨a, b⟩, c⟩
  · rintro ⟨⟨a, b⟩, c⟩
    exact ⟨⟨a, b, c, hf n hn⟩, hf o b⟩
def prK (H : Hp) : V → Str × Str
  | .ref a => match H a with
    | some (.tup (.str x :: .str y :: _)) => (x, y)
    | _ => ("", "")
  | _ => ("", "")
theorem prK_at {H : Hp} {a : Addr} {q : Str × Str} (h : H a = some (.tup [.str q.1, .str q.2])) : prK H (.ref a) = q := by
  unfold prK
  simp only [h]
theorem pairs_keys {H : Hp} : ∀ {zs : List V} {qs : List (Str × Str)}, Paired (PrAt H) zs qs → zs.map (prK H) = qs
  | _, _, .nil => rfl
  | _, _, .cons h t => by
    obtain ⟨a, rfl, h1⟩ := h
    rw [List.map_cons, pairs_keys t, prK_at h1]
theorem pair_app {α β : Type} {R : α → β → Prop} : ∀ {xs as : List α} {ys bs : List β}, Paired R xs ys → Paired R as bs → Paired R (xs ++ as) (ys ++ bs)
  | _, _, _, _, .nil, b => b
  | _, _, _, _, .cons h t, b => .cons h (pair_app t b)
theorem val_none {k : Key} : ∀ {kvs : List (Key × V)}, k ∉ kvs.map (·.1) → valV kvs k = none
  | [], _ => rfl
  | p :: r, h => by
    rw [valV_neg fun e => h (List.mem_cons.mpr (.inl e.symm))]
    exact val_none fun m => h (List.mem_cons_of_mem _ m)
section
variable {P : Program} {w : World} {K : PySem.W.Frag} {mg : Str → Option Value} {base : Heap}
def spSuits (K : PySem.W.Frag) : Sp := fun vs H Q _ => ∃ (x : V) (rs : List (Str × List Str)) (es : List Str), vs = [x] ∧ ShV K H x rs es ∧ Ok rs ∧ es.length ≤ 60 ∧ Asc (rs.map (·.1)) ∧ (∀ r ∈ rs, Rise r.2) ∧
  ∀ p H' (ps : List V), Same H H' → H p = none → H' p = some (.lst ps) → Paired (PrAt H') ps (suitN rs (rs.map (·.1))) → Q (.ref p) H'
abbrev nSu : List Str := ["_law_tome_here", "_law_table", "_law_found", "_law_own", "_law_far"]
theorem scSu : FnScope nSu ["_law_tome_here"] (defScope sSuits) := ⟨rfl, rfl, rfl, by decide +kernel, rfl, by decide +kernel, by decide +kernel⟩
theorem ok_suits {f g : Addr} {fd gd : FuncData} (F : Fun K "_law_suits" "_law_suits" sSuits f fd) (GW : FnOk P w K mg base CX0 2 g gd ["_law_tome_here"] (spWants K)) (bW : Binds K gd ["_law_tome_here"] []) (kW : PySem.W.keepIn K (.ref g) = true) (mW : mg "_law_wants" = some (.ref g))
    (ms : mg "sorted" = none) : FnOk P w K mg base CX0 3 f fd ["_law_tome_here"] (spSuits K) := by
  refine F.ok scSu (fun vs H Q E h => ?_) (fun cdv A outer s H vs Q E hr h => ?_)
  · obtain ⟨x, rs, es, rfl, _⟩ := h
    rfl
  obtain ⟨x, rs, es, rfl, S, O, hes, ha, hw, k⟩ := h
  have hu := Nat.lt_of_le_of_lt (Nat.add_le_add_left (show 1 ≤ 64 by decide) _) hr.units
  refine ⟨_, pss_cons (ps_asg (pe_tup (pa_cons (pe_call GW hr (by rfl) mW kW bW .nil pass0 (pa_cons (pv 0) pa_nil)) (pa_cons (pe_lst pa_nil) pa_nil))) (pg_tup rfl (pgs_cons (pg_name (i := 1) scSu.nd rfl (.inr rfl)) (pgs_cons (pg_name (i := 2) scSu.nd rfl (.inl rfl)) pgs_nil))))
    (Evl.pss_cut (ps_lock (ps_for PassesOwn.never rfl (pi_keys (pv 1)) (pg_name (i := 3) scSu.nd rfl (.inr rfl))
      (pss_one (ps_set (i := 2) scSu.nd rfl (.inl rfl) (pe_op op_cat (pv 2)
        (pe_lcA (own := [("_law_far", 4)]) (g := gName 4) (tt := tAnd (tTest (tOp rLtS (tVar 3) (tVar 4))) (tAnd (tB (tDIn (tVar 4) (tVar 1))) (tTest (tOp (rIn K false) (tVar 3) (tDGet (tVar 1) (tVar 4)))))) (te := tTup (tCons (tVar 3) (tCons (tVar 4) tNil))) rfl scSu.nd (pe_dget hu (pv 1) (pv 3) (fun _ _ => rfl)) (blkOk_by (N := nSu) (sc := defScope sSuits) (by decide +kernel))
          (fun _ _ _ _ _ => pg_name (i := 4) scSu.nd rfl (.inl rfl))
          (fun _ _ _ _ _ => pts_one (PW.pt (pw_and (pt_cmpR op_lt_str (pv 3) (pv 4) (nomark _)) (pw_and (pt_cmp (pc_din hu (pv 4) (pv 1)) (by rfl)) (pw_and1 (pt_cmpR op_in_seq (pv 3) (pe_dget hu (pv 1) (pv 4) (fun _ _ => rfl)) (by rfl)))))))
          (fun _ _ _ _ _ => pe_tup (pa_cons (pv 3) (pa_cons (pv 4) pa_nil)))))))))
    (pss_one (ps_ret (pe_callB cr_sortedPr (by rfl) ms (by decide +kernel) (pa_cons (pv 2) pa_nil))))), ?_⟩
  have ol := O.len
  refine ⟨_, rfl, x, rs, es, rfl, S, O, hes, fun D H1 s1 nD tb => ⟨Nat.zero_le _, fun F0 n0 => ⟨by show 2 ≤ sizeLine; decide, fun q nq => ⟨q, _, rfl, .inl (.inl upd_same), rfl, _, _, rfl, _, _, rfl, rfl, ?_⟩⟩⟩⟩
  have s2 : Same H1 (upd (upd H1 F0 (.lst [])) q (.tup [.ref D, .ref F0])) := (same_new n0).trans (same_new nq)
  have hF0 : upd (upd H1 F0 (.lst [])) q (.tup [.ref D, .ref F0]) F0 = some (.lst []) := (same_new nq) _ _ upd_same
  obtain ⟨kvs, hD, ek, hv⟩ := tb
  have hD2 := s2 _ _ hD
  have hv2 : ∀ r ∈ rs, ∃ l, valV kvs (.inr r.1) = some (.ref l) ∧ upd (upd H1 F0 (.lst [])) q (.tup [.ref D, .ref F0]) l = some (.lst ((r.2.filter fun o => decide (o ∈ rs.map (·.1) ++ es)).map V.str)) := fun r m => by
    obtain ⟨l, e1, e2⟩ := hv r m
    exact ⟨l, e1, s2 _ _ e2⟩
  have s02 := s1.trans s2
  generalize upd (upd H1 F0 (.lst [])) q (.tup [.ref D, .ref F0]) = H2 at hF0 hD2 hv2 s02 ⊢
  refine ⟨fun σ' H' => ∃ (Fd : Addr) (ps : List V) (a : Option V), σ' = [some x, some (.ref D), some (.ref Fd), a, none] ∧ Same H H' ∧ H' Fd = some (.lst ps) ∧ Paired (PrAt H') ps (suitN rs (rs.map (·.1))), ?_, ?_⟩
  · refine ⟨D, .dK kvs, hD2, trivial, fun od => ?_⟩
    have hf : ∀ b o, b ≠ D → H2 b = some o → upd H2 D (.frz od (.dK kvs)) b = some o := fun b o n e => by
      rw [upd_ne n]
      exact e
    have hDf : upd H2 D (.frz od (.dK kvs)) D = some (.frz od (.dK kvs)) := upd_same
    have FD : F0 ≠ D := fun c => by
      rw [c, hD2] at hF0
      cases hF0
    have hFf := hf F0 _ FD hF0
    have hvf : ∀ r ∈ rs, ∃ l, valV kvs (.inr r.1) = some (.ref l) ∧ upd H2 D (.frz od (.dK kvs)) l = some (.lst ((r.2.filter fun o => decide (o ∈ rs.map (·.1) ++ es)).map V.str)) := fun r m => by
      obtain ⟨l, e1, e2⟩ := hv2 r m
      exact ⟨l, e1, hf l _ (fun c => by rw [c, hD2] at e2; cases e2) e2⟩
    have back : ∀ b o, H b = some o → upd H2 D (.frz od (.dK kvs)) b = some o := fun b o e => hf b o (ne_of_none e nD) (s02 _ _ e)
    generalize upd H2 D (.frz od (.dK kvs)) = Hf at hDf hFf hvf back ⊢
    refine ⟨_, rfl, D, od, rfl, .inl ⟨kvs, hDf, ?_⟩⟩
    have lk : kvs.length = rs.length := by
      have := congrArg List.length ek
      rw [List.length_map, List.length_map] at this
      exact this
    refine for_it (walk_keys (d := D) (o := od) (kvs := kvs)) (fun i σ H' => ∃ (Fd : Addr) (ps : List V) (a : Option V), σ = [some x, some (.ref D), some (.ref Fd), a, none] ∧ Same Hf H' ∧ H' Fd = some (.lst ps) ∧ Paired (PrAt H') ps (((rs.map (·.1)).take i).flatMap fun n => ((suiN rs n).filter fun o => sLt n o && decide (o ∈ rs.map (·.1))).map fun o => (n, o)))
      ⟨F0, [], none, rfl, Same.refl _, hFf, .nil⟩ (fun i σ H' _ ⟨_, _, _, _, q, _⟩ => q _ _ hDf) ?_ ?_
    · rintro i z σ Hx H' hi ⟨Fd, ps, a, rfl, s3, hF, pr⟩ ⟨rfl, key, v, hk, rfl⟩
      have hk2 : (kvs.map (·.1))[i]? = some key := by
        rw [List.getElem?_map, hk]
        rfl
      rw [ek] at hk2
      obtain ⟨r, hr', rfl⟩ := map_at hk2
      have mr := List.mem_of_getElem? hr'
      have wl := O.wl r mr
      obtain ⟨l, e1, e2⟩ := hvf r mr
      have hDH := s3 _ _ hDf
      have li := flat_len (fun n => ((suiN rs n).filter fun o => sLt n o && decide (o ∈ rs.map (·.1))).map fun o => (n, o)) 60 ((rs.map (·.1)).take i) fun n _ => by
        rw [List.length_map]
        exact Nat.le_trans (List.length_filter_le _ _) (Nat.le_trans (List.length_filter_le _ _) (O.wants n))
      have li2 : ((rs.map (·.1)).take i).length ≤ 60 := by rw [List.length_take, List.length_map]; omega
      have lp := Paired.length pr
      have lT : (r.2.filter fun o => decide (o ∈ rs.map (·.1) ++ es)).length ≤ 60 := Nat.le_trans (List.length_filter_le _ _) wl
      refine ⟨_, rfl, _, rfl, _, rfl, D, _, rfl, (by rw [← e1]; exact .inl ⟨kvs, .inr r.1, .inr ⟨od, hDH⟩, rfl, rfl⟩), ?_⟩
      have ss := suit_same (rs := rs) (fl := rs.map (·.1) ++ es) (n := r.1) (List.mem_map.mpr ⟨r, mr, rfl⟩) fun z m => List.mem_append_left _ m
      rw [wantsOf_in O.nd mr] at ss
      refine lc_any (xs := (r.2.filter fun o => decide (o ∈ rs.map (·.1) ++ es)).map V.str) ⟨l, rfl, .inl (SqL.of (s3 _ _ e2))⟩ (Stays.of (Same.refl H')) (fun C j H3 => Same H' H3 ∧ ∃ qs : List V, H3 C = some (.lst qs) ∧ Paired (PrAt H3) qs ((((r.2.filter fun o => decide (o ∈ rs.map (·.1) ++ es)).take j).filter fun o => sLt r.1 o && (decide (o ∈ rs.map (·.1)) && decide (r.1 ∈ (wantsOf rs o).filter fun o => decide (o ∈ rs.map (·.1) ++ es)))).map fun o => (r.1, o)))
        (fun C nC => ⟨same_new nC, [], upd_same, .nil⟩) (fun C j H3 _ q => Stays.of q.1) (fun C j y H3 nC hy ⟨s4, qs, hC, pq⟩ => ?_) (fun C H3 nC ⟨s4, qs, hC, pq⟩ => ?_)
      · obtain ⟨o, ho, rfl⟩ := map_at hy
        have lq := Paired.length pq
        have l2 : ((((r.2.filter fun o => decide (o ∈ rs.map (·.1) ++ es)).take j).filter fun o => sLt r.1 o && (decide (o ∈ rs.map (·.1)) && decide (r.1 ∈ (wantsOf rs o).filter fun o => decide (o ∈ rs.map (·.1) ++ es)))).map fun o => (r.1, o)).length ≤ 60 := by
          rw [List.length_map]
          exact Nat.le_trans (List.length_filter_le _ _) (by rw [List.length_take]; omega)
        have hD3 := s4 _ _ hDH
        refine ⟨rfl, _, rfl, _, rfl, _, _, rfl, rfl, _, rfl, ite2 (fun c1 => ?_) (fun c1 => iteF ?_)⟩
        · by_cases c : o ∈ rs.map (·.1)
          · obtain ⟨r2, m2, rfl⟩ := List.mem_map.mp c
            obtain ⟨l2', f1, f2⟩ := hvf r2 m2
            have dg2 : DGet H3 D (.str r2.1) (some (.ref l2')) := by
              rw [← f1]
              exact .inl ⟨kvs, .inr r2.1, .inr ⟨od, hD3⟩, rfl, rfl⟩
            have sv : SeqV K H3 (.ref l2') (((wantsOf rs r2.1).filter fun o => decide (o ∈ rs.map (·.1) ++ es)).map V.str) := by
              rw [wantsOf_in O.nd m2]
              exact ⟨l2', rfl, .inl (SqL.of (s4 _ _ (s3 _ _ f2)))⟩
            refine ⟨_, rfl, _, rfl, D, some (.ref l2'), rfl, dg2, _, rfl, iteT ?_⟩
            refine ⟨_, rfl, _, rfl, _, rfl, D, _, rfl, dg2, in_s (ns := (wantsOf rs r2.1).filter fun o => decide (o ∈ rs.map (·.1) ++ es)) sv ⟨_, rfl, ite2 (fun c3 => ?_) (fun c3 => ?_)⟩⟩
            · have cc : (sLt r.1 r2.1 && (decide (r2.1 ∈ rs.map (·.1)) && decide (r.1 ∈ (wantsOf rs r2.1).filter fun o => decide (o ∈ rs.map (·.1) ++ es)))) = true := Bool.and_eq_true_iff.mpr ⟨c1, Bool.and_eq_true_iff.mpr ⟨decide_eq_true c, c3⟩⟩
              refine ⟨_, rfl, _, rfl, by show 2 ≤ sizeLine; decide, fun t nt => ?_⟩
              have hC3 := (same_new (o := .tup [.str r.1, .str r2.1]) nt) _ _ hC
              refine ⟨qs, hC3, small1000 (by omega), fun b ob eb => ?_, qs ++ [.ref t], upd_same, ?_⟩
              · rw [upd_ne (ne_of_none eb nC)]
                exact (same_new nt) _ _ (s4 _ _ eb)
              · rw [filt_yes ho cc, List.map_append]
                exact pair_snoc ⟨t, rfl, tup_lst hC3 _ _ upd_same⟩ (Paired.mapP pq fun _ _ h => h.keep fun b xs e => tup_lst hC3 b xs ((same_new nt) b _ e))
            · refine ⟨s4, qs, hC, ?_⟩
              rw [filt_no ho fun c => c3 (Bool.and_eq_true_iff.mp (Bool.and_eq_true_iff.mp c).2).2]
              exact pq
          · have dg0 : DGet H3 D (.str o) none := by
              have e0 : valV kvs (.inr o) = none := val_none fun m => by
                rw [ek] at m
                obtain ⟨r3, m3, e3⟩ := List.mem_map.mp m
                exact c (List.mem_map.mpr ⟨r3, m3, Sum.inr.inj e3⟩)
              rw [← e0]
              exact .inl ⟨kvs, .inr o, .inr ⟨od, hD3⟩, rfl, rfl⟩
            refine ⟨_, rfl, _, rfl, D, none, rfl, dg0, _, rfl, iteF (iteF ⟨s4, qs, hC, ?_⟩)⟩
            rw [filt_no ho fun d => c (of_decide_eq_true (Bool.and_eq_true_iff.mp (Bool.and_eq_true_iff.mp d).2).1)]
            exact pq
        · refine ⟨s4, qs, hC, ?_⟩
          rw [filt_no ho fun c => c1 (Bool.and_eq_true_iff.mp c).1]
          exact pq
      · rw [List.length_map, List.take_length, ss] at pq
        have lq := Paired.length pq
        have l2 : ((((suiN rs r.1).filter fun o => sLt r.1 o && decide (o ∈ rs.map (·.1))).map fun o => (r.1, o))).length ≤ 60 := by
          rw [List.length_map]
          exact Nat.le_trans (List.length_filter_le _ _) (Nat.le_trans (List.length_filter_le _ _) (O.wants r.1))
        refine ⟨Fd, C, ps, qs, rfl, rfl, s4 _ _ hF, hC, by rw [sizeLine_eq]; omega, fun F2 nF2 => ⟨F2, ps ++ qs, _, rfl, (s3.trans s4).trans (same_new nF2), upd_same, ?_⟩⟩
        rw [flat_next (i := i) (z := r.1) _ (by rw [List.getElem?_map, hr']; rfl)]
        exact pair_app (Paired.mapP pr fun _ _ h => h.keep fun b xs e => (same_new nF2) _ _ (s4 _ _ e)) (Paired.mapP pq fun _ _ h => h.keep fun b xs e => (same_new nF2) _ _ e)
    · rintro σ H' ⟨Fd, ps, a, rfl, s3, hF, pr⟩
      rw [lk, List.take_of_length_le (by rw [List.length_map]; exact Nat.le_refl _)] at pr
      have hDH := s3 _ _ hDf
      have nFD : Fd ≠ D := fun c => by
        rw [c, hDH] at hF
        cases hF
      refine ⟨hDH, Fd, ps, a, rfl, fun b o e => ?_, by rw [upd_ne nFD]; exact hF, Paired.mapP pr fun _ _ h => h.keep fun b xs e => ?_⟩
      · rw [upd_ne (ne_of_none e nD)]
        exact s3 _ _ (back b o e)
      · rw [upd_ne fun c => by rw [c, hDH] at e; cases e]
        exact e
  rintro σ3 H3 ⟨Fd, ps, a, rfl, s3, hF, pr⟩
  refine ⟨_, rfl, Fd, ps, prK H3, rfl, SqL.of hF, fun v m => ?_, fun ys p pm pw np => ?_⟩
  · obtain ⟨i, ei⟩ := List.mem_iff_getElem?.mp m
    obtain ⟨q', hq', b, rfl, hb⟩ := pair_at pr ei
    refine ⟨b, rfl, ?_⟩
    rw [prK_at hb]
    exact hb
  · obtain ⟨ws, q1, q2⟩ := pair_perm pm pr
    have e1 : ws.Pairwise fun a b => pLt b a = false := by
      rw [← pairs_keys q2]
      exact List.pairwise_map.mpr pw
    have e2 : ws = suitN rs (rs.map (·.1)) := List.Perm.eq_of_pairwise (fun a b _ _ l m => pLt_tot m l) e1 (suit_pw hw ha) q1
    rw [e2] at q2
    exact k p _ ys (s3.trans (same_new np)) (s3.free np) upd_same (Paired.mapP q2 fun _ _ h => h.keep fun b xs e => (same_new np) _ _ e)
end
end Cx

/-! sorted of a text -/
namespace Cx
open PySem PySem.Spec PyProof.Rows L2
/-- the signs of a text, each a text -/
def sgn (z : Str) : List Str := z.cps.toList.map fun c => ⟨#[c]⟩
theorem strs_signs {acc : Array Value} {z : Str} (h : ItemsOf (SignAt z) acc z.cps.size) : StrsAre acc.toList (sgn z) := by
  have key : ∀ (l : List Value) (cs : List Nat), l.length = cs.length → (∀ (i : Nat) (v : Value), l[i]? = some v → ∃ (c : Nat) (u : Tok), cs[i]? = some c ∧ v = Value.str ⟨#[c]⟩ u) → StrsAre l (cs.map fun c => (⟨#[c]⟩ : Str)) := by
    intro l
    induction l with
    | nil =>
      intro cs hl _
      cases cs with
      | nil => exact .nil
      | cons c cs => cases hl
    | cons v l ih =>
      intro cs hl hi
      cases cs with
      | nil => cases hl
      | cons c cs =>
        obtain ⟨c', u, e1, e2⟩ := hi 0 v rfl
        have e1' : c = c' := Option.some.inj e1
        subst e1'
        subst e2
        exact .cons _ u (ih cs (Nat.succ.inj hl) fun i v e => hi (i + 1) v e)
  refine key acc.toList z.cps.toList (by rw [Array.length_toList, Array.length_toList]; exact h.1) fun i v e => ?_
  rw [Array.getElem?_toList] at e
  obtain ⟨c, u, e1, e2⟩ := h.2 i v e
  exact ⟨c, u, by rw [Array.getElem?_toList]; exact e1, e2⟩
section
variable {P : Program} {w : World} {A : Around} {E : Value → Shared → Prop} {s : Shared}
theorem collect_sgn {z : Str} {t : Tok} {Q : List Value → Shared → Prop} (hh : A.handled = none) (few : z.cps.size ≤ 1000)
    (q : ∀ s1 acc, (∀ b o, s.heap.get? b = some o → s1.heap.get? b = some o) → s.heap.objs.size ≤ s1.heap.objs.size → s1.gens = s.gens → s1.os = s.os → ItemsOf (SignAt z) acc z.cps.size → Q acc.toList s1) : wpAny (model P w) A (collect (.str z t)) Q E s := by
  have fits : z.cps.size ≤ sizeLine := by rw [sizeLine_eq]; omega
  unfold collect; refine wpAny_bind (wpAny_runValue (codeAny_builtin F.entry_proto_collect ?_)); rw [Around.under_plainId F.plain_proto_collect _]
  show wpAny _ A.in1 (do let l0 ← newList []; again (.builtin "list.__iadd__" ⟨[l0, .str z t], []⟩)) _ _ s
  refine wpAny_bind (wpAny_newObj_type ?_); refine wpAny_pure ⟨plainId_quiet F.plain_list_iadd _, codeAny_builtin F.entry_list_iadd ?_⟩; rw [Around.under_plainId F.plain_list_iadd _]
  show wpAny _ A.in1 (Builtin.List.listExtendWith (.ref s.heap.objs.size) (.str z t) (.ref s.heap.objs.size)) _ _ _
  unfold Builtin.List.listExtendWith; refine wpAny_bind (wpAny_typeOf (T := "str") (v := .str z t) rfl ?_)
  have b2 : Builtin.List.listSameRef (.ref s.heap.objs.size) (.str z t) = false := rfl
  have b3 : (Value.type "str" == Value.type "list") = false := by decide +kernel
  have b4 : (Value.type "str" == Value.type "tuple") = false := by decide +kernel
  simp only [b2, b3, b4, Bool.or_false, Bool.false_eq_true, if_false]
  refine wpAny_bind (wpAny_pyIter_str fun it St W st0 => wpAny_bind (wpAny_holding ?_))
  unfold Builtin.List.listLengthHint; refine wpAny_bind (wpAny_specialOf (T := "str") (v := .str z t) rfl F.str_len ?_)
  wp_delta
  refine wpAny_bind (wpAny_isInstance (T := "str") (v := .str z t) (b := true) rfl (by rw [isSubtype_type]; kernel_rfl) ?_)
  show wpAny _ A.in1 (typeOf (Value.str z t) >>= _) _ _ _
  refine wpAny_bind (wpAny_typeOf (T := "str") (v := .str z t) rfl (wpAny_pure ?_)); rw [if_neg (by decide)]
  generalize hG : s.heap.push { cls := .type "list", data := .seq ([] : List Value).toArray } = G at W st0 ⊢
  have sz : G.objs.size = s.heap.objs.size + 1 := by rw [← hG, Heap.size_push]
  have nS : s.heap.objs.size ∉ [G.objs.size] := fun hm => absurd (List.mem_singleton.mp hm) (by omega)
  have atS : (G.push it).get? s.heap.objs.size = some { cls := .type "list", data := .seq ([] : List Value).toArray } := Heap.get?_push_of_some _ (hG ▸ Heap.get?_push_size _ rfl)
  refine wpAny_pure ⟨plainId_quiet F.plain_extend_loop _, codeAny_extend_loopS (W A.in1 hh).toS fits _ nS _ z.cps.size 0 _ _ _ rfl (Nat.zero_le _) st0 atS (ItemsOf.nil _) fun s1 acc c1 mv at1 items => ?_⟩
  show wpAny _ A (load s.heap.objs.size >>= _) _ _ s1
  refine wpAny_bind (wpAny_load at1 (wpAny_pure (q s1 acc (fun b ob e => mv.heap b ob (fun hb => ?_) (Heap.get?_push_of_some _ (hG ▸ Heap.get?_push_of_some _ e))) (Nat.le_of_lt (Heap.lt_size at1)) mv.gens mv.os items)))
  have lt := Heap.lt_size e
  rcases List.mem_cons.mp hb with h | h
  · rw [h] at lt
    exact absurd lt (Nat.lt_irrefl _)
  · rw [List.mem_singleton.mp h, sz] at lt
    exact absurd lt (Nat.not_lt.mpr (Nat.le_succ _))
theorem sorted_sgn {z : Str} {t : Tok} {Q : Value → Shared → Prop} (hh : A.handled = none) (few : z.cps.size ≤ 1000)
    (hQ : ∀ s' p (out : Array Value) (c : Nat) (ys : List Str), (∀ b o, s.heap.get? b = some o → s'.heap.get? b = some o) → s'.gens = s.gens → s'.os = s.os → s.heap.objs.size ≤ p →
      s'.heap.get? p = some (seqObj "list" out c) → StrsAre out.toList ys → ys.Perm (sgn z) → sortedS ys = true → Q (.ref p) s') :
    wpAny (model P w) A (call (.builtin "sorted") [.str z t]) Q E s := by
  refine Calls.call_function_entry kind_sorted plain_sorted entry_sorted (args_sorted1 _) ?_
  unfold Builtin.«sorted»
  refine wpAny_bind (m := checkCount "sorted" 1 1 _) (wpAny_pure ?_)
  refine wpAny_bind (collect_sgn (A := A.in1) hh few fun s1 acc k1 z1 g1 o1 items => ?_)
  have hst := strs_signs items
  have hvl : acc.toList.length = z.cps.size := by
    rw [Array.length_toList]
    exact items.1
  refine wpAny_bind (wpAny_newList ?_ (by rw [hvl, sizeLine_eq]; omega))
  have hoL : (s1.heap.push (seqObj "list" acc.toList.toArray 0)).get? s1.heap.objs.size = some (seqObj "list" acc.toList.toArray 0) := Heap.get?_push_size _ rfl
  refine wpAny_bind (wpAny_holding (wpAny_call_entry slot_list_sort ⟨_, hoL, rfl⟩ entry_list_sort (list_sort_treeKAny strKind_oneLt hoL hst.keysOf (fun u v rest e => keyKind_strs (by rw [← e]; exact hst)) (by rw [hvl, sizeLine_eq]; omega) fun st pa sa => ?_) (args_list_sort _)))
  obtain ⟨ys, b1, b2, b3⟩ := sorted_out_str hst pa sa
  refine ⟨_, rfl, ?_⟩
  obtain ⟨c, hc⟩ := sortedHeap_at (vs := acc.toList) (out := (arrOf st).map (·.2)) hoL
  refine wpAny_pure ⟨_, rfl, hQ _ s1.heap.objs.size _ c ys (fun b u e => ?_) g1 o1 z1 hc b1 b2 b3⟩
  have q := k1 b u e
  have lt := Heap.lt_size q
  show (sortedHeap (s1.heap.push (seqObj "list" acc.toList.toArray 0)) s1.heap.objs.size acc.toList _).get? b = some u
  rw [sortedHeap_old (Nat.ne_of_lt lt) (by rw [size_push']; exact Nat.lt_succ_of_lt lt)]
  exact Heap.get?_push_of_some _ q
end
/-- sorted(z), z a text -/
def rSortSg : List V → Hp → VK → Prop := fun vs H Q => ∃ z : Str, vs = [V.str z] ∧ z.cps.size ≤ 1000 ∧ ∀ (ys : List Str) (p : Addr), ys.Perm (sgn z) → sortedS ys = true → H p = none → Q (.ref p) (upd H p (.lst (ys.map V.str)))
section
variable {X : Cx}
theorem cr_sortSg (hc : X.calm = true) : CallR X (.builtin "sorted") rSortSg := by
  intro pins s σ H vs us Q I r h
  obtain ⟨z, rfl, few, q⟩ := h
  obtain ⟨u, rfl, ru⟩ := vals1 r
  obtain ⟨tk, rfl⟩ := ru
  refine sorted_sgn (I.ok.hd hc) few fun s' p out c ys k g o hp hg hi pm so => ?_
  have hlen : (ys.map V.str).length ≤ sizeLine := by
    have e : (sgn z).length = z.cps.size := by
      unfold sgn
      rw [List.length_map, Array.length_toList]
    rw [List.length_map, pm.length_eq, e, sizeLine_eq]
    omega
  have hn : H p = none := I.hok.fresh hp
  have J : Inv X pins σ (upd H p (.lst (ys.map V.str))) { s with heap := s'.heap, gens := s'.gens, drawn := s'.drawn, toks := s'.toks } :=
    I.call (ch := []) (Un.laid k hp hn) (I.hok.laid k hp ⟨hlen, out.toList, c, vals_strsAre hi, hg⟩) (by rw [g]; exact I.bare) (fun _ z => nomatch z)
  have e : s' = { s with heap := s'.heap, gens := s'.gens, drawn := s'.drawn, toks := s'.toks } := by
    cases s'
    cases s
    cases o
    rfl
  rw [e]
  exact ⟨.ref p, _, J, rfl, q ys p pm so hn⟩
theorem cr_or {c : Value} {r1 r2 : List V → Hp → VK → Prop} (h1 : CallR X c r1) (h2 : CallR X c r2) : CallR X c (fun xs H Q => r1 xs H Q ∨ r2 xs H Q) := by
  intro pins s σ H vs us Q I r h
  rcases h with h | h
  · exact h1 pins s σ H vs us Q I r h
  · exact h2 pins s σ H vs us Q I r h
theorem pi_or {tg l : Expr} {w1 w2 : TI} (h1 : PI X tg l w1) (h2 : PI X tg l w2) : PI X tg l (fun σ H R => w1 σ H R ∨ w2 σ H R) := ⟨fun pins s σ H R I h => h.elim (h1.run pins s σ H R I) (h2.run pins s σ H R I)⟩
end
end Cx

/-! the law's own words: linked -/
namespace Cx
open PySem PySem.Spec PyProof.Rows L2
/-- turns over xs, which stand in H1 -/
def Trn (J : It) (H1 : Hp) (xs : List V) : Prop := ∀ (B : V → Hp → (Hp → Prop) → Prop) (Qd : Hp → Prop) (Hs : Hp) (Pv : Nat → Hp → Prop), Pv 0 Hs → (∀ i H, Pv i H → Same H1 H) → (∀ i x H, xs[i]? = some x → Pv i H → B x H (Pv (i + 1))) → (∀ H, Pv xs.length H → Qd H) →
  ∃ W : Nat → Nat → Hp → Prop, (∃ m, W 0 m Hs) ∧ ∀ i m H, W i m H → (J.stop i H ∧ Qd H) ∨ (J.go i H ∧ ∃ Nx : Hp → Prop, (∀ H', Nx H' → ∃ m', m' < m ∧ W (i + 1) m' H') ∧ ∀ x H', J.yld i H x H' → B x H' Nx)
theorem trn_lst {K : PySem.W.Frag} {H1 : Hp} {a : Addr} {xs : List V} (h : SqL K H1 a xs) : Trn (Itl K a) H1 xs := fun _ _ _ Pv h0 hm hs hd => it_lst (xs := xs) Pv h0 (fun i H q => (hm i H q).seq h) hs hd
theorem trn_str {H1 : Hp} {z : Str} : Trn (Its z) H1 ((sgn z).map V.str) := fun B Qd Hs Pv h0 _ hs hd => by
  have len : ((sgn z).map V.str).length = z.cps.size := by
    unfold sgn
    rw [List.length_map, List.length_map, Array.length_toList]
  refine ⟨fun i m H => m = z.cps.size - i ∧ i ≤ z.cps.size ∧ Pv i H, ⟨z.cps.size, by simp, Nat.zero_le _, h0⟩, ?_⟩
  rintro i m H ⟨rfl, hi, p⟩
  by_cases hlt : i < z.cps.size
  · refine .inr ⟨hlt, Pv (i + 1), fun H' p' => ⟨z.cps.size - (i + 1), by omega, rfl, hlt, p'⟩, fun x H' y => ?_⟩
    obtain ⟨e, c, ec, ev⟩ := y
    subst e
    subst ev
    refine hs i _ _ ?_ p
    unfold sgn
    rw [List.getElem?_map, List.getElem?_map, Array.getElem?_toList, ec]
    rfl
  · have e : i = z.cps.size := by omega
    subst e
    exact .inl ⟨Nat.le_refl _, hd H (by rw [len]; exact p)⟩
def LineAt (K : PySem.W.Frag) (H : Hp) (y : V) (ln : List Str) : Prop := (∃ a, y = .ref a ∧ SqL K H a (ln.map V.str)) ∨ ∃ z, y = .str z ∧ sgn z = ln
theorem line_any {K : PySem.W.Frag} {H1 : Hp} {y : V} {ln : List Str} {R : It → Hp → Prop} (h : LineAt K H1 y ln) (f : ∀ J, Trn J H1 (ln.map V.str) → R J H1) : (∃ a, y = .ref a ∧ (∃ xs, SqL K H1 a xs) ∧ R (Itl K a) H1) ∨ ∃ z, y = .str z ∧ R (Its z) H1 := by
  rcases h with ⟨a, e, h⟩ | ⟨z, e, h⟩
  · exact .inl ⟨a, e, ⟨_, h⟩, f _ (trn_lst h)⟩
  · subst h
    exact .inr ⟨z, e, f _ trn_str⟩
theorem line_same {K : PySem.W.Frag} {H H' : Hp} {y : V} {ln : List Str} (s : Same H H') (h : LineAt K H y ln) : LineAt K H' y ln := h.imp (fun ⟨a, e, q⟩ => ⟨a, e, s.seq q⟩) fun q => q
theorem line_sort {K : PySem.W.Frag} {H : Hp} {y : V} {ln : List Str} {Q : VK} (h : LineAt K H y ln) (hl : ln.length ≤ 60) (q : ∀ (ys : List Str) (p : Addr), ys.Perm ln → sortedS ys = true → H p = none → Q (.ref p) (upd H p (.lst (ys.map V.str)))) : rSortedS K [y] H Q ∨ rSortSg [y] H Q := by
  rcases h with ⟨a, rfl, h⟩ | ⟨z, rfl, h⟩
  · exact .inl ⟨a, ln, rfl, h, by omega, q⟩
  · refine .inr ⟨z, rfl, ?_, fun ys p pm => q ys p (by rw [← h]; exact pm)⟩
    have e := congrArg List.length h
    unfold sgn at e
    rw [List.length_map, Array.length_toList] at e
    omega
/-- whom the pairs join to z -/
def prt (qs : List (Str × Str)) (z : Str) : List Str := qs.flatMap fun q => (if q.1 = z then [q.2] else []) ++ (if q.2 = z then [q.1] else [])
theorem prt_len (qs : List (Str × Str)) (z : Str) : (prt qs z).length ≤ 2 * qs.length := flat_len _ 2 qs fun q _ => by
  rw [List.length_append]
  have a : (if q.1 = z then [q.2] else []).length ≤ 1 := by split <;> simp
  have b : (if q.2 = z then [q.1] else []).length ≤ 1 := by split <;> simp
  omega
theorem prt_in {qs : List (Str × Str)} {ln : List Str} {z y : Str} (h : ∀ q ∈ qs, q.1 ∈ ln ∧ q.2 ∈ ln) (m : y ∈ prt qs z) : y ∈ ln := by
  obtain ⟨q, mq, my⟩ := List.mem_flatMap.mp m
  rcases List.mem_append.mp my with my | my
  · split at my
    · rw [List.mem_singleton.mp my]
      exact (h q mq).2
    · cases my
  · split at my
    · rw [List.mem_singleton.mp my]
      exact (h q mq).1
    · cases my
/-- the dict at T: for each of the names a list of names -/
def Lk (H0 : Hp) (T : Addr) (ln : List Str) (pl : Str → List Str) (H : Hp) : Prop := Same H0 H ∧ ∃ (kvs : List (Key × V)) (f : Str → Addr), H T = some (.dK kvs) ∧ (∀ z ∈ ln, valV kvs (.inr z) = some (.ref (f z)) ∧ H (f z) = some (.lst ((pl z).map V.str)) ∧ H0 (f z) = none) ∧ ∀ z ∈ ln, ∀ v ∈ ln, f z = f v → z = v
theorem Lk.app {H0 H : Hp} {T : Addr} {ln : List Str} {pl : Str → List Str} {z : Str} (I : Lk H0 T ln pl H) (m : z ∈ ln) : ∃ a : Addr, DGet H T (.str z) (some (.ref a)) ∧ H a = some (.lst ((pl z).map V.str)) ∧ ∀ y, Lk H0 T ln (fun v => if v = z then pl v ++ [y] else pl v) (upd H a (.lst ((pl z).map V.str ++ [.str y]))) := by
  obtain ⟨s0, kvs, f, hT, h, inj⟩ := I
  obtain ⟨e1, e2, e5⟩ := h z m
  refine ⟨f z, by rw [← e1]; exact DGet.k (k := Sum.inr z) hT, e2, fun y => ⟨fun b o e => ?_, kvs, f, ?_, fun v mv => ?_, inj⟩⟩
  · rw [upd_ne (ne_of_none e e5)]
    exact s0 _ _ e
  · rw [upd_ne fun c => by rw [c, e2] at hT; cases hT]
    exact hT
  · obtain ⟨f1, f2, f5⟩ := h v mv
    by_cases e : v = z
    · subst e
      refine ⟨f1, ?_, f5⟩
      rw [upd_same]
      simp
    · refine ⟨f1, ?_, f5⟩
      rw [upd_ne fun c => e (inj v mv z m c)]
      simp only [if_neg e]
      exact f2
theorem Lk.same {H0 H H' : Hp} {T : Addr} {ln : List Str} {pl : Str → List Str} (I : Lk H0 T ln pl H) (s : Same H H') : Lk H0 T ln pl H' := by
  obtain ⟨s0, kvs, f, hT, h, inj⟩ := I
  exact ⟨s0.trans s, kvs, f, s _ _ hT, fun z m => by
    obtain ⟨e1, e2, r⟩ := h z m
    exact ⟨e1, s _ _ e2, r⟩, inj⟩
theorem Lk.eq {H0 H : Hp} {T : Addr} {ln : List Str} {pl pl' : Str → List Str} (I : Lk H0 T ln pl H) (e : ∀ z, pl z = pl' z) : Lk H0 T ln pl' H := by
  have : pl = pl' := funext e
  rw [← this]
  exact I
theorem val_mem {k : Key} : ∀ {kvs : List (Key × V)}, k ∈ kvs.map (·.1) → ∃ kv ∈ kvs, valV kvs k = some kv.2
  | kv :: r, h => by
    by_cases e : kv.1 = k
    · exact ⟨kv, List.mem_cons_self, valV_pos e⟩
    · have m : k ∈ r.map (·.1) := (List.mem_cons.mp h).resolve_left fun c => e c.symm
      obtain ⟨kv2, m2, h2⟩ := val_mem m
      exact ⟨kv2, List.mem_cons_of_mem _ m2, by rw [valV_neg e]; exact h2⟩
def adr : Option V → Addr
  | some (.ref a) => a
  | _ => 0
theorem val_in {k : Key} {v : V} : ∀ {kvs : List (Key × V)}, valV kvs k = some v → (k, v) ∈ kvs
  | p :: r, h => by
    by_cases e : p.1 = k
    · rw [valV_pos e] at h
      rw [← e, ← Option.some.inj h]
      exact List.mem_cons_self
    · rw [valV_neg e] at h
      exact List.mem_cons_of_mem _ (val_in h)
theorem val_one {kvs : List (Key × V)} {k j : Key} {v : V} (nd : (kvs.map (·.2)).Nodup) (h1 : valV kvs k = some v) (h2 : valV kvs j = some v) : k = j := by
  have m1 := val_in h1
  have m2 := val_in h2
  clear h1 h2
  induction kvs with
  | nil => cases m1
  | cons p r ih =>
    have nd2 := List.nodup_cons.mp nd
    rcases List.mem_cons.mp m1 with e1 | m1 <;> rcases List.mem_cons.mp m2 with e2 | m2
    · exact congrArg Prod.fst (e1.trans e2.symm)
    · exact absurd (List.mem_map.mpr ⟨_, m2, by rw [← e1]⟩) nd2.1
    · exact absurd (List.mem_map.mpr ⟨_, m1, by rw [← e2]⟩) nd2.1
    · exact ih nd2.2 m1 m2
theorem rise_sorted {l : List Str} (h : sortedS l = true) : Rise l := by
  cases l with
  | nil => exact .nil
  | cons x r => exact rise_pw2 h
theorem dpa_rowsP {K : PySem.W.Frag} {H : Hp} : ∀ {zs : List V} {rs : List (Str × List Str)}, Paired (RowAt H) zs rs → DpAll K H zs (rs.map fun r => .tuple [.str r.1, .tuple (r.2.map PyData.str)])
  | _, _, .nil => .nil
  | _, _, .cons h t => by
    obtain ⟨a, b, rfl, h1, h2⟩ := h
    exact .cons (.tup (.inl (.inl h1)) (.cons (.str _) (.cons (.tup (.inl (.inl h2)) (dpa_strs _)) .nil))) (dpa_rowsP t)
section
variable {P : Program} {w : World} {K : PySem.W.Frag} {mg : Str → Option Value} {base : Heap}
def PrT (K : PySem.W.Frag) (H : Hp) (v : V) (q : Str × Str) : Prop := ∃ a, v = .ref a ∧ SqT K H a [.str q.1, .str q.2]
def spLinked (K : PySem.W.Frag) : Sp := fun vs H Q _ => ∃ (y : V) (pa : Addr) (ln : List Str) (ps : List V) (qs : List (Str × Str)), vs = [y, .ref pa] ∧ LineAt K H y ln ∧ ln.Nodup ∧ ln.length ≤ 60 ∧ SqL K H pa ps ∧ Paired (PrT K H) ps qs ∧ (∀ q ∈ qs, q.1 ∈ ln ∧ q.2 ∈ ln) ∧ qs.length ≤ 28 ∧
  ∀ p H' (rs : List (Str × List Str)), Same H H' → ShN H' (.ref p) rs [] → (rs.map (·.1)).Perm ln → Asc (rs.map (·.1)) → (∀ r ∈ rs, Rise r.2 ∧ r.2.Perm (prt qs r.1)) → Q (.ref p) H'
abbrev nLk : List Str := ["_law_line", "_law_pairs", "_law_own", "_law_table", "_law_far"]
theorem scLk : FnScope nLk ["_law_line", "_law_pairs"] (defScope sLinked) := ⟨rfl, rfl, rfl, by decide +kernel, rfl, by decide +kernel, by decide +kernel⟩
theorem ok_linked {f : Addr} {fd : FuncData} (F : Fun K "_law_linked" "_law_linked" sLinked f fd) (md : mg "dict" = none) (mt : mg "tuple" = none) (ms : mg "sorted" = none) : FnOk P w K mg base CX0 1 f fd ["_law_line", "_law_pairs"] (spLinked K) := by
  refine F.ok scLk (fun vs H Q E h => ?_) (fun cdv A outer s H vs Q E hr h => ?_)
  · obtain ⟨y, pa, ln, ps, qs, rfl, _⟩ := h
    rfl
  obtain ⟨y, pa, ln, ps, qs, rfl, hy, nd, hl, hp, pr, mm, lq, k⟩ := h
  have hu := Nat.lt_of_le_of_lt (Nat.add_le_add_left (show 1 ≤ 64 by decide) _) hr.units
  refine ⟨_, Evl.pss_cut (ps_set (i := 3) scLk.nd rfl (.inr rfl) (pe_callTy (call_dictP rfl) (by rfl) md (by decide +kernel) (pa_cons (pe_lc (own := [("_law_own", 2)]) (g := gName 2) (tt := tYes) (te := tTup (tCons (tVar 2) (tCons (tLst tNil) tNil))) rfl scLk.nd (pi_or (pi_list (pv 0)) (pi_str (pv 0)))
      (blkOk_by (N := nLk) (sc := defScope sLinked) (by decide +kernel)) (fun _ _ _ _ _ => pg_name (i := 2) scLk.nd rfl (.inl rfl)) (fun _ _ _ _ _ => pts_nil) (fun _ _ _ _ _ => pe_tup (pa_cons (pv 2) (pa_cons (pe_lst pa_nil) pa_nil)))) pa_nil)))
    (Evl.pss_cut (ps_for PassesOwn.never rfl (pi_list (pv 1)) (pg_tup rfl (pgs_cons (pg_name (i := 2) scLk.nd rfl (.inl rfl)) (pgs_cons (pg_name (i := 4) scLk.nd rfl (.inl rfl)) pgs_nil)))
      (pss_cons (ps_expr (pe_bm PySem.F.plainAttrs_list PySem.F.slot_list_append PySem.F.type_list_append mt_append (pe_dget hu (pv 3) (pv 2) (fun _ _ => rfl)) (pa_cons (pv 4) pa_nil)))
      (pss_one (ps_expr (pe_bm PySem.F.plainAttrs_list PySem.F.slot_list_append PySem.F.type_list_append mt_append (pe_dget hu (pv 3) (pv 4) (fun _ _ => rfl)) (pa_cons (pv 2) pa_nil))))))
    (pss_one (ps_ret (pe_tup (pa_cons (pe_callTy call_tuple_of (by rfl) mt (by decide +kernel) (pa_cons
      (pe_lcA (own := [("_law_own", 2)]) (g := gName 2) (tt := tYes) (te := tTup (tCons (tVar 2) (tCons (tCB (rTupOf K) (tCons (tCB (rSortedS K) (tCons (tDGet (tVar 3) (tVar 2)) tNil)) tNil)) tNil))) rfl scLk.nd (pe_callB (cr_or cr_sortedS (cr_sortSg rfl)) (by rfl) ms (by decide +kernel) (pa_cons (pv 0) pa_nil))
        (blkOk_by (N := nLk) (sc := defScope sLinked) (by decide +kernel)) (fun _ _ _ _ _ => pg_name (i := 2) scLk.nd rfl (.inl rfl)) (fun _ _ _ _ _ => pts_nil)
        (fun _ _ _ _ _ => pe_tup (pa_cons (pv 2) (pa_cons (pe_callTy call_tuple_of (by rfl) mt (by decide +kernel) (pa_cons (pe_callB cr_sortedS (by rfl) ms (by decide +kernel) (pa_cons (pe_dget hu (pv 3) (pv 2) (fun _ _ => rfl)) pa_nil)) pa_nil)) pa_nil)))) pa_nil)) (pa_cons (pe_tup pa_nil) pa_nil)))))), ?_⟩
  refine ⟨fun σ' H' => ∃ T : Addr, σ' = [some y, some (.ref pa), none, some (.ref T), none] ∧ Lk H T ln (fun _ => []) H', ?_, ?_⟩
  · rcases id hy with ⟨a, ea, ha⟩ | ⟨z, ez, hz⟩
    · refine .inl ⟨_, rfl, a, ea, ⟨_, ha⟩, fun C nC => trn_lst ha _ _ _ (fun i H' => Same H H' ∧ ∃ (ts : List Addr) (kvs : List (Key × V)), H' C = some (.lst (ts.map V.ref)) ∧ Paired (fun p (kv : Key × V) => H' p = some (.tup [kV kv.1, kv.2])) ts kvs ∧ kvs.map (·.1) = (ln.take i).map (fun z => (Sum.inr z : Key)) ∧ (∀ kv ∈ kvs, ∃ a, kv.2 = V.ref a ∧ H' a = some (.lst []) ∧ H a = none ∧ a ≠ C) ∧ (kvs.map (·.2)).Nodup) ?_ ?_ ?_ ?_⟩
      · exact ⟨same_new nC, [], [], upd_same, .nil, rfl, (by intro kv m; cases m), .nil⟩
      · exact fun i H' q => q.1
      · rintro i v H' hv ⟨s1, ts, kvs, hC, pp, ek, pk, ndv⟩
        obtain ⟨n, hn, rfl⟩ := map_at hv
        have hi := (List.getElem?_eq_some_iff.mp hn).1
        refine ⟨rfl, _, rfl, Nat.zero_le _, fun l nl => ⟨by show 2 ≤ sizeLine; decide, fun T nT => ?_⟩⟩
        have s2 := (same_new (o := .lst []) nl).trans (same_new (o := .tup [.str n, .ref l]) nT)
        have hC2 := s2 _ _ hC
        have hT : upd (upd H' l (.lst [])) T (.tup [.str n, .ref l]) T = some (.tup [.str n, .ref l]) := upd_same
        have hl2 : upd (upd H' l (.lst [])) T (.tup [.str n, .ref l]) l = some (.lst []) := (same_new nT) _ _ upd_same
        have lC : l ≠ C := (ne_of_none hC nl).symm
        have l0 : H l = none := s1.free nl
        have lp := Paired.length pp
        have lk := congrArg List.length ek
        rw [List.length_map, List.length_map, List.length_take] at lk
        generalize upd (upd H' l (.lst [])) T (.tup [.str n, .ref l]) = H4 at s2 hC2 hT hl2 ⊢
        refine ⟨_, hC2, by rw [List.length_map]; exact small1000 (by omega), fun b ob eb => ?_, ts ++ [T], kvs ++ [(Sum.inr n, .ref l)], ?_, ?_, ?_, fun kv m => ?_, ?_⟩
        · rw [upd_ne (ne_of_none eb nC)]
          exact s2 _ _ (s1 _ _ eb)
        · rw [upd_same, List.map_append]
          rfl
        · have pp2 : Paired (fun p (kv : Key × V) => upd H4 C (.lst (ts.map V.ref ++ [V.ref T])) p = some (.tup [kV kv.1, kv.2])) ts kvs := Paired.mapP pp fun p kv h => tup_lst hC2 p _ (s2 p _ h)
          exact pair_snoc (R := fun p (kv : Key × V) => upd H4 C (.lst (ts.map V.ref ++ [V.ref T])) p = some (.tup [kV kv.1, kv.2])) (x := T) (y := (Sum.inr n, .ref l)) (tup_lst hC2 _ _ hT) pp2
        · rw [List.map_append, ek, List.take_add_one, hn, List.map_append]
          rfl
        · rcases List.mem_append.mp m with m | m
          · obtain ⟨a, f1, f2, f3, f4⟩ := pk kv m
            exact ⟨a, f1, by rw [upd_ne f4]; exact s2 _ _ f2, f3, f4⟩
          · rw [List.mem_singleton.mp m]
            exact ⟨l, rfl, by rw [upd_ne lC]; exact hl2, l0, lC⟩
        · rw [List.map_append]
          refine List.nodup_append.mpr ⟨ndv, List.pairwise_singleton _ _, fun a ma b mb => ?_⟩
          obtain ⟨kv, mk, rfl⟩ := List.mem_map.mp ma
          obtain ⟨a, f1, f2, _⟩ := pk kv mk
          rw [List.mem_singleton.mp mb]
          show kv.2 ≠ V.ref l
          rw [f1]
          intro c
          have c2 : a = l := V.ref.inj c
          rw [c2, nl] at f2
          cases f2
      · rintro H' ⟨s1, ts, kvs, hC, pp, ek, pk, ndv⟩
        rw [List.length_map, List.take_length] at ek
        refine ⟨C, ts, kvs, rfl, SqL.of hC, Paired.mapP pp fun _ _ h => .inl (.inl h), fun D nD => ?_⟩
        have nk : (kvs.map (·.1)).Nodup := by
          rw [ek]
          exact List.pairwise_map.mpr (nd.imp fun {a b} n c => n (Sum.inr.inj c))
        rw [mergeK_nil nk]
        have look : ∀ z ∈ ln, ∃ a, valV kvs (.inr z) = some (.ref a) ∧ H' a = some (.lst []) ∧ H a = none := fun z m => by
          obtain ⟨kv, m2, e2⟩ := val_mem (k := Sum.inr z) (kvs := kvs) (by rw [ek]; exact List.mem_map.mpr ⟨z, m, rfl⟩)
          obtain ⟨a, f1, f2, f3, _⟩ := pk kv m2
          exact ⟨a, by rw [e2, f1], f2, f3⟩
        refine ⟨D, rfl, s1.trans (same_new nD), kvs, fun z => adr (valV kvs (.inr z)), upd_same, fun z m => ?_, fun z m v mv c => ?_⟩
        · obtain ⟨a, e1, e2, e3⟩ := look z m
          have ea : adr (valV kvs (.inr z)) = a := by
            rw [e1]
            rfl
          show valV kvs (.inr z) = some (.ref (adr (valV kvs (.inr z)))) ∧ upd H' D (.dK kvs) (adr (valV kvs (.inr z))) = some (.lst []) ∧ H (adr (valV kvs (.inr z))) = none
          rw [ea]
          exact ⟨e1, (same_new nD) _ _ e2, e3⟩
        · obtain ⟨a, e1, _⟩ := look z m
          obtain ⟨b, e2, _⟩ := look v mv
          have c2 : adr (valV kvs (.inr z)) = adr (valV kvs (.inr v)) := c
          rw [e1, e2] at c2
          have c3 : a = b := c2
          rw [← c3] at e2
          exact Sum.inr.inj (val_one ndv e1 e2)
    · refine .inr ⟨_, rfl, z, ez, fun C nC => (show Trn (Its z) H (ln.map V.str) from hz ▸ trn_str) _ _ _ (fun i H' => Same H H' ∧ ∃ (ts : List Addr) (kvs : List (Key × V)), H' C = some (.lst (ts.map V.ref)) ∧ Paired (fun p (kv : Key × V) => H' p = some (.tup [kV kv.1, kv.2])) ts kvs ∧ kvs.map (·.1) = (ln.take i).map (fun z => (Sum.inr z : Key)) ∧ (∀ kv ∈ kvs, ∃ a, kv.2 = V.ref a ∧ H' a = some (.lst []) ∧ H a = none ∧ a ≠ C) ∧ (kvs.map (·.2)).Nodup) ?_ ?_ ?_ ?_⟩
      · exact ⟨same_new nC, [], [], upd_same, .nil, rfl, (by intro kv m; cases m), .nil⟩
      · exact fun i H' q => q.1
      · rintro i v H' hv ⟨s1, ts, kvs, hC, pp, ek, pk, ndv⟩
        obtain ⟨n, hn, rfl⟩ := map_at hv
        have hi := (List.getElem?_eq_some_iff.mp hn).1
        refine ⟨rfl, _, rfl, Nat.zero_le _, fun l nl => ⟨by show 2 ≤ sizeLine; decide, fun T nT => ?_⟩⟩
        have s2 := (same_new (o := .lst []) nl).trans (same_new (o := .tup [.str n, .ref l]) nT)
        have hC2 := s2 _ _ hC
        have hT : upd (upd H' l (.lst [])) T (.tup [.str n, .ref l]) T = some (.tup [.str n, .ref l]) := upd_same
        have hl2 : upd (upd H' l (.lst [])) T (.tup [.str n, .ref l]) l = some (.lst []) := (same_new nT) _ _ upd_same
        have lC : l ≠ C := (ne_of_none hC nl).symm
        have l0 : H l = none := s1.free nl
        have lp := Paired.length pp
        have lk := congrArg List.length ek
        rw [List.length_map, List.length_map, List.length_take] at lk
        generalize upd (upd H' l (.lst [])) T (.tup [.str n, .ref l]) = H4 at s2 hC2 hT hl2 ⊢
        refine ⟨_, hC2, by rw [List.length_map]; exact small1000 (by omega), fun b ob eb => ?_, ts ++ [T], kvs ++ [(Sum.inr n, .ref l)], ?_, ?_, ?_, fun kv m => ?_, ?_⟩
        · rw [upd_ne (ne_of_none eb nC)]
          exact s2 _ _ (s1 _ _ eb)
        · rw [upd_same, List.map_append]
          rfl
        · have pp2 : Paired (fun p (kv : Key × V) => upd H4 C (.lst (ts.map V.ref ++ [V.ref T])) p = some (.tup [kV kv.1, kv.2])) ts kvs := Paired.mapP pp fun p kv h => tup_lst hC2 p _ (s2 p _ h)
          exact pair_snoc (R := fun p (kv : Key × V) => upd H4 C (.lst (ts.map V.ref ++ [V.ref T])) p = some (.tup [kV kv.1, kv.2])) (x := T) (y := (Sum.inr n, .ref l)) (tup_lst hC2 _ _ hT) pp2
        · rw [List.map_append, ek, List.take_add_one, hn, List.map_append]
          rfl
        · rcases List.mem_append.mp m with m | m
          · obtain ⟨a, f1, f2, f3, f4⟩ := pk kv m
            exact ⟨a, f1, by rw [upd_ne f4]; exact s2 _ _ f2, f3, f4⟩
          · rw [List.mem_singleton.mp m]
            exact ⟨l, rfl, by rw [upd_ne lC]; exact hl2, l0, lC⟩
        · rw [List.map_append]
          refine List.nodup_append.mpr ⟨ndv, List.pairwise_singleton _ _, fun a ma b mb => ?_⟩
          obtain ⟨kv, mk, rfl⟩ := List.mem_map.mp ma
          obtain ⟨a, f1, f2, _⟩ := pk kv mk
          rw [List.mem_singleton.mp mb]
          show kv.2 ≠ V.ref l
          rw [f1]
          intro c
          have c2 : a = l := V.ref.inj c
          rw [c2, nl] at f2
          cases f2
      · rintro H' ⟨s1, ts, kvs, hC, pp, ek, pk, ndv⟩
        rw [List.length_map, List.take_length] at ek
        refine ⟨C, ts, kvs, rfl, SqL.of hC, Paired.mapP pp fun _ _ h => .inl (.inl h), fun D nD => ?_⟩
        have nk : (kvs.map (·.1)).Nodup := by
          rw [ek]
          exact List.pairwise_map.mpr (nd.imp fun {a b} n c => n (Sum.inr.inj c))
        rw [mergeK_nil nk]
        have look : ∀ z ∈ ln, ∃ a, valV kvs (.inr z) = some (.ref a) ∧ H' a = some (.lst []) ∧ H a = none := fun z m => by
          obtain ⟨kv, m2, e2⟩ := val_mem (k := Sum.inr z) (kvs := kvs) (by rw [ek]; exact List.mem_map.mpr ⟨z, m, rfl⟩)
          obtain ⟨a, f1, f2, f3, _⟩ := pk kv m2
          exact ⟨a, by rw [e2, f1], f2, f3⟩
        refine ⟨D, rfl, s1.trans (same_new nD), kvs, fun z => adr (valV kvs (.inr z)), upd_same, fun z m => ?_, fun z m v mv c => ?_⟩
        · obtain ⟨a, e1, e2, e3⟩ := look z m
          have ea : adr (valV kvs (.inr z)) = a := by
            rw [e1]
            rfl
          show valV kvs (.inr z) = some (.ref (adr (valV kvs (.inr z)))) ∧ upd H' D (.dK kvs) (adr (valV kvs (.inr z))) = some (.lst []) ∧ H (adr (valV kvs (.inr z))) = none
          rw [ea]
          exact ⟨e1, (same_new nD) _ _ e2, e3⟩
        · obtain ⟨a, e1, _⟩ := look z m
          obtain ⟨b, e2, _⟩ := look v mv
          have c2 : adr (valV kvs (.inr z)) = adr (valV kvs (.inr v)) := c
          rw [e1, e2] at c2
          have c3 : a = b := c2
          rw [← c3] at e2
          exact Sum.inr.inj (val_one ndv e1 e2)
  rintro σ1 H1 ⟨T, rfl, I1⟩
  refine ⟨fun σ' H' => ∃ a b : Option V, σ' = [some y, some (.ref pa), a, some (.ref T), b] ∧ Lk H T ln (prt qs) H', ?_, ?_⟩
  · refine ⟨_, rfl, pa, rfl, ⟨_, I1.1.seq hp⟩, ?_⟩
    have lps := Paired.length pr
    refine for_list (xs := ps) (fun i σ H' => ∃ a b : Option V, σ = [some y, some (.ref pa), a, some (.ref T), b] ∧ Lk H T ln (prt (qs.take i)) H') ⟨_, _, rfl, I1⟩ (fun i σ H' _ ⟨_, _, _, I⟩ => I.1.seq hp) ?_ ?_
    · rintro i v σ H' hi ⟨a0, b0, rfl, I⟩
      have hil := (List.getElem?_eq_some_iff.mp hi).1
      obtain ⟨q, hq, a, rfl, ha⟩ := pair_at pr hi
      obtain ⟨m1, m2⟩ := mm q (List.mem_of_getElem? hq)
      refine ⟨a, _, rfl, st_tup I.1 ha, rfl, _, _, rfl, _, _, rfl, rfl, ?_⟩
      obtain ⟨c, dg, hc, f⟩ := I.app m1
      have lt : (qs.take i).length ≤ 28 := by rw [List.length_take]; omega
      have p1 := prt_len (qs.take i) q.1
      have p2 := prt_len (qs.take i) q.2
      refine ⟨_, rfl, _, rfl, T, _, rfl, dg, .inl ⟨rfl, _, SqL.of hc⟩, _, rfl, c, _, _, rfl, rfl, hc, by rw [List.length_map]; exact small1000 (by omega), ?_⟩
      obtain ⟨c2, dg2, hc2, f2⟩ := (f q.2).app m2
      refine ⟨_, rfl, _, rfl, T, _, rfl, dg2, .inl ⟨rfl, _, SqL.of hc2⟩, _, rfl, c2, _, _, rfl, rfl, hc2, ?_, ?_⟩
      · rw [List.length_map]
        split
        · rw [List.length_append]
          show _ + 1 < _
          rw [sizeLine_eq]
          omega
        · exact small1000 (by omega)
      · refine ⟨_, _, rfl, (f2 q.1).eq fun v => ?_⟩
        unfold prt
        rw [flat_next _ hq]
        show (if v = q.2 then (if v = q.1 then prt (qs.take i) v ++ [q.2] else prt (qs.take i) v) ++ [q.1] else if v = q.1 then prt (qs.take i) v ++ [q.2] else prt (qs.take i) v) = prt (qs.take i) v ++ ((if q.1 = v then [q.2] else []) ++ if q.2 = v then [q.1] else [])
        by_cases e1 : v = q.1
        · by_cases e2 : v = q.2
          · rw [if_pos e2, if_pos e1, if_pos e1.symm, if_pos e2.symm, List.append_assoc]
          · rw [if_neg e2, if_pos e1, if_pos e1.symm, if_neg fun c => e2 c.symm, List.append_nil]
        · by_cases e2 : v = q.2
          · rw [if_pos e2, if_neg e1, if_neg fun c => e1 c.symm, if_pos e2.symm, List.nil_append]
          · rw [if_neg e2, if_neg e1, if_neg fun c => e1 c.symm, if_neg fun c => e2 c.symm, List.append_nil, List.append_nil]
    · rintro σ H' ⟨a, b, rfl, I⟩
      rw [lps, List.take_length] at I
      exact ⟨a, b, rfl, I⟩
  rintro σ2 H2 ⟨a2, b2, rfl, I2⟩
  refine ⟨_, rfl, line_sort (line_same I2.1 hy) hl fun ls p pm so np => ?_⟩
  have I3 := I2.same (same_new (o := .lst (ls.map V.str)) np)
  have ndl : ls.Nodup := pm.nodup_iff.mpr nd
  refine lc_any (xs := ls.map V.str) ⟨p, rfl, .inl (SqL.of upd_same)⟩ (Stays.of (Same.refl _)) (fun D i H' => Same (upd H2 p (.lst (ls.map V.str))) H' ∧ ∃ (rows : List V) (rs : List (Str × List Str)), H' D = some (.lst rows) ∧ Paired (RowAt H') rows rs ∧ rs.map (·.1) = ls.take i ∧ ∀ r ∈ rs, Rise r.2 ∧ r.2.Perm (prt qs r.1))
    (fun D nD => ⟨same_new nD, [], [], upd_same, .nil, rfl, (by intro r m; cases m)⟩) (fun D i H' _ q => Stays.of q.1) (fun D i v H' nD hv ⟨s3, rows, rs, hD, pr2, nm, ok⟩ => ?_) (fun D H' nD ⟨s3, rows, rs, hD, pr2, nm, ok⟩ => ?_)
  · obtain ⟨n, hn, rfl⟩ := map_at hv
    have hi := (List.getElem?_eq_some_iff.mp hn).1
    obtain ⟨c, dg, hc, _⟩ := (I3.same s3).app (pm.mem_iff.mp (List.mem_of_getElem? hn))
    have p1 := prt_len qs n
    refine ⟨rfl, _, rfl, _, rfl, _, rfl, T, _, rfl, dg, c, prt qs n, rfl, SqL.of hc, by omega, fun zs q pm2 so2 nq => ⟨q, _, rfl, .inl ⟨SqL.of upd_same, fun t nt => ⟨by show 2 ≤ sizeLine; decide, fun r nr => ?_⟩⟩⟩⟩
    have s4 := ((same_new (o := .lst (zs.map V.str)) nq).trans (same_new (o := .tup (zs.map V.str)) nt)).trans (same_new (o := .tup [.str n, .ref t]) nr)
    have ht : upd (upd (upd H' q (.lst (zs.map V.str))) t (.tup (zs.map V.str))) r (.tup [.str n, .ref t]) t = some (.tup (zs.map V.str)) := (same_new nr) _ _ upd_same
    have hr : upd (upd (upd H' q (.lst (zs.map V.str))) t (.tup (zs.map V.str))) r (.tup [.str n, .ref t]) r = some (.tup [.str n, .ref t]) := upd_same
    generalize upd (upd (upd H' q (.lst (zs.map V.str))) t (.tup (zs.map V.str))) r (.tup [.str n, .ref t]) = H4 at s4 ht hr ⊢
    have hD2 := s4 _ _ hD
    have lp := Paired.length pr2
    have ln2 := congrArg List.length nm
    rw [List.length_map, List.length_take] at ln2
    have lls := pm.length_eq
    refine ⟨rows, hD2, small1000 (by omega), fun b ob eb => ?_, rows ++ [.ref r], rs ++ [(n, zs)], upd_same, ?_, ?_, fun x mx => ?_⟩
    · rw [upd_ne (ne_of_none eb nD)]
      exact s4 _ _ (s3 _ _ eb)
    · exact pair_snoc ⟨r, t, rfl, tup_lst hD2 _ _ hr, tup_lst hD2 _ _ ht⟩ (Paired.mapP pr2 fun _ _ h => h.keep fun b xs e => tup_lst hD2 b xs (s4 b _ e))
    · rw [List.map_append, nm, List.take_add_one, hn]
      rfl
    · rcases List.mem_append.mp mx with mx | mx
      · exact ok x mx
      · rw [List.mem_singleton.mp mx]
        exact ⟨rise_sorted so2, pm2⟩
  · rw [List.length_map, List.take_length] at nm
    refine ⟨D, _, rfl, .inl ⟨SqL.of hD, fun t1 n1 => ⟨Nat.zero_le _, fun t2 n2 => ⟨by show 2 ≤ sizeLine; decide, fun x nx => ?_⟩⟩⟩⟩
    have s5 := ((same_new (o := .tup rows) n1).trans (same_new (o := .tup []) n2)).trans (same_new (o := .tup [.ref t1, .ref t2]) nx)
    refine k x _ rs (((I2.1.trans (same_new np)).trans s3).trans s5) ?_ (by rw [nm]; exact pm) (by rw [nm]; exact asc_sorted so ndl) ok
    exact ⟨x, t1, t2, rows, rfl, upd_same, (same_new nx) _ _ ((same_new n2) _ _ upd_same), Paired.mapP pr2 fun _ _ h => h.keep fun b xs e => s5 b _ e, (same_new nx) _ _ upd_same⟩
end
end Cx

/-! how calls bind, by places -/
namespace Fx
open PySem PySem.Spec PyProof.Rows L2
def sel {α : Type} (ix : List Nat) (l : List α) : List α := ix.filterMap fun i => l[i]?
theorem sel_nil {α : Type} (l : List α) : sel [] l = [] := rfl
theorem sel_cons {α : Type} (i : Nat) (ix : List Nat) (l : List α) : sel (i :: ix) l = (match l[i]? with | some a => a :: sel ix l | none => sel ix l) := by
  unfold sel
  rw [List.filterMap_cons]
  cases l[i]? <;> rfl
theorem pair_ix {α β : Type} {R : α → β → Prop} : ∀ {xs : List α} {ys : List β} (i : Nat), Paired R xs ys → (xs[i]? = none ∧ ys[i]? = none) ∨ ∃ a b, xs[i]? = some a ∧ ys[i]? = some b ∧ R a b
  | _, _, i, .nil => .inl ⟨rfl, rfl⟩
  | _, _, 0, .cons h _ => .inr ⟨_, _, rfl, rfl, h⟩
  | _, _, i + 1, .cons _ t => pair_ix i t
theorem pair_sel {α β : Type} {R : α → β → Prop} {xs : List α} {ys : List β} (h : Paired R xs ys) : ∀ ix : List Nat, Paired R (sel ix xs) (sel ix ys)
  | [] => .nil
  | i :: ix => by
    rw [sel_cons, sel_cons]
    rcases pair_ix i h with ⟨a, b⟩ | ⟨a, b, ea, eb, r⟩
    · rw [a, b]
      exact pair_sel h ix
    · rw [ea, eb]
      exact .cons r (pair_sel h ix)
theorem pair_app {α β : Type} {R : α → β → Prop} : ∀ {xs as : List α} {ys bs : List β}, Paired R xs ys → Paired R as bs → Paired R (xs ++ as) (ys ++ bs)
  | _, _, _, _, .nil, h => h
  | _, _, _, _, .cons h t, g => .cons h (pair_app t g)
theorem sel_len {α : Type} : ∀ {ix : List Nat} {l : List α}, (∀ i ∈ ix, i < l.length) → (sel ix l).length = ix.length
  | [], _, _ => rfl
  | i :: ix, l, h => by
    rw [sel_cons, List.getElem?_eq_getElem (h i List.mem_cons_self)]
    show (sel ix l).length + 1 = ix.length + 1
    rw [sel_len fun j m => h j (List.mem_cons_of_mem _ m)]
section
variable {P : Program} {w : World} {K : PySem.W.Frag} {mg : Str → Option Value} {base : Heap} {CX : CXT} {k : Nat} {f : Addr} {fd : FuncData} {ps ks : List Str} {x : Str} {np n : Nat} {F0 : List D → R D} {ix : List Nat} {dU : List Value} {dV : List V} {dD : List D}
theorem calK_of (OK : FnOk P w K mg base CX k f fd ps (spF K mg n F0)) (hl : ix.length = n) (hi : ∀ i ∈ ix, i < np + ks.length + dV.length) (dv : Vals dV dU) (dr : ∀ u H, RpUA K u H dV dD)
    (hb : ∀ (s : Shared) (us ws : List Value), K.In s.heap → us.length = np → ws.length = ks.length → BindsTo s fd ⟨us, ks.zip ws⟩ (ps.zip (sel ix (us ++ ws ++ dU)))) (kp : PySem.W.keepIn K (.ref f) = true) (m : mg x = some (.ref f)) :
    CalK CX k P w K mg base x np ks (fun ds es => F0 (sel ix (ds ++ es ++ dD))) :=
  ⟨f, fd, ps, n, F0, fun us ws => sel ix (us ++ ws ++ dU), fun vs zs => sel ix (vs ++ zs ++ dV), fun ds es => sel ix (ds ++ es ++ dD), OK, ⟨hb, fun r1 r2 => pair_sel (pair_app (pair_app r1 r2) dv) ix⟩, kp, m,
    fun u H vs ws ds es l1 l2 r1 r2 => ⟨by rw [sel_len fun i mi => by have := hi i mi; rw [List.length_append, List.length_append, l1, l2]; exact this, hl], pair_sel (pair_app (pair_app r1 r2) (dr u H)) ix⟩, fun _ _ => rfl⟩
theorem calP_of (OK : FnOk P w K mg base CX k f fd ps (spF K mg (n + dD.length) F0)) (dv : Vals dV dU) (dr : ∀ u H, RpUA K u H dV dD) (hb : Binds K fd ps dU) (kp : PySem.W.keepIn K (.ref f) = true) (m : mg x = some (.ref f)) : CalP CX k P w K mg base x n (fun ds => F0 (ds ++ dD)) :=
  ⟨f, fd, ps, F0, dV, dU, dD, OK, hb, kp, m, dv, dr, fun _ => rfl⟩
theorem calP0 (OK : FnOk P w K mg base CX k f fd ps (spF K mg n F0)) (hb : Binds K fd ps []) (kp : PySem.W.keepIn K (.ref f) = true) (m : mg x = some (.ref f)) : CalP CX k P w K mg base x n F0 :=
  ⟨f, fd, ps, F0, [], [], [], OK, hb, kp, m, .nil, fun _ _ => .nil, fun ds => by rw [List.append_nil]⟩
theorem CalP.mono {j k : Nat} (h : CalP CX j P w K mg base x n F0) (l : j ≤ k) : CalP CX k P w K mg base x n F0 := by
  obtain ⟨f, fd, ps, F1, dv, dvs, dd, OK, r⟩ := h
  exact ⟨f, fd, ps, F1, dv, dvs, dd, OK.mono l, r⟩
theorem CalK.mono {j k : Nat} {g : List D → List D → R D} (h : CalK CX j P w K mg base x np ks g) (l : j ≤ k) : CalK CX k P w K mg base x np ks g := by
  obtain ⟨f, fd, ps, n, F1, gU, gV, gD, OK, r⟩ := h
  exact ⟨f, fd, ps, n, F1, gU, gV, gD, OK.mono l, r⟩
theorem CalF.mono {F : Fun1} {j k : Nat} (h : CalF CX j P w K mg base x F) (l : j ≤ k) : CalF CX k P w K mg base x F := ⟨h.1.mono l, fun np ks g e => (h.2 np ks g e).mono l⟩
/-- a table of ways to be called by keywords -/
def kwT (F0 : List D → R D) (dD : List D) : List (Nat × List Str × List Nat) → Nat → List Str → Option (List D → List D → R D)
  | [], _, _ => none
  | (np, ks, ix) :: t, n, l => if n = np ∧ l = ks then some (fun ds es => F0 (sel ix (ds ++ es ++ dD))) else kwT F0 dD t n l
theorem kwT_ok {t : List (Nat × List Str × List Nat)} (h : ∀ e ∈ t, CalK CX k P w K mg base x e.1 e.2.1 (fun ds es => F0 (sel e.2.2 (ds ++ es ++ dD)))) : ∀ np ks g, kwT F0 dD t np ks = some g → CalK CX k P w K mg base x np ks g := by
  induction t with
  | nil => exact fun _ _ _ e => nomatch e
  | cons e t ih =>
    obtain ⟨np, ks, ix⟩ := e
    intro n l g q
    rw [kwT] at q
    split at q
    · rename_i c
      obtain ⟨rfl, rfl⟩ := c
      cases q
      exact h _ List.mem_cons_self
    · exact ih (fun e m => h e (List.mem_cons_of_mem _ m)) n l g q
end
end Fx

namespace Fx
open PySem PySem.Spec PyProof.Rows L2
abbrev N_must_be_households : List Str := ["sheet", "names", "known", "name"]
def q_must_be_households (F_households : Fun1) : Env → RS := (qCons (sSet (vCall (aCons (rdU 0) aNil) F_households) [] 2)
    (qCons (sFor (vB (rdV 1) iterD) [] (qCons (sIf (tCmp' (rdP 3) (rdP 2) (fun d e => inD d e >>= fun b => .ok (!b))) [] (qCons sNo'
    qNil) qNil)
    qNil) (g1 3))
    qNil))
abbrev N_households : List Str := ["sheet", "name", "wants"]
def q_households : Env → RS := (qCons (sRet (mB (aCons (vLc (rdV 1) (vB (vBin (rdP 0) (vC (.int (0))) idxD) iterD) tYes' (gT 2 (gCons' (g1 1) (gCons' (g1 2) gNil'))) [1, 2]) aNil) tupD) [])
    qNil)
abbrev N_wishes_by : List Str := ["sheet", "name", "wants"]
def q_wishes_by : Env → RS := (qCons (sRet (vDc (mB (aCons (rdP 2) aNil) tupD) (rdV 1) (vB (vBin (rdP 0) (vC (.int (0))) idxD) iterD) tYes' (gT 2 (gCons' (g1 1) (gCons' (g1 2) gNil'))) [1, 2]) [])
    qNil)
abbrev N_suited_to : List Str := ["sheet", "name", "wishes", "other"]
def q_suited_to (F_must_be_households : Fun1) (F_wishes_by : Fun1) : Env → RS := (qCons (sDrop (vCall (aCons (rdU 0) (aCons (vTup (aCons (rdV 1) aNil)) aNil)) F_must_be_households) [])
    (qCons (sSet (vCall (aCons (rdU 0) aNil) F_wishes_by) [] 2)
    (qCons (sRet (mB (aCons (vLc (rdV 3) (vB (vBin (rdP 2) (rdP 1) idxD) iterD) (tCmp' (rdP 1) (vGet2 (rdP 2) (vTup aNil) (rdV 3)) inD) (g1 3) [3]) aNil) tupD) [])
    qNil)))
abbrev N_greatest_sum : List Str := ["names", "pairs", "worths"]
def q_greatest_sum (F__greatest : Fun1) : Env → RS := (qCons (sRet (vCall (aCons (mB (aCons (rdP 0) aNil) tupD) (aCons (rdU 1) (aCons (rdU 2) (aCons (vC (.dic [])) aNil)))) F__greatest) [])
    qNil)
abbrev N__greatest : List Str := ["names", "pairs", "worths", "known", "first", "rest", "sums", "other", "left", "name"]
def q__greatest (F__greatest : Fun1) : Env → RS := (qCons (sIf (tCmp' (mB (aCons (rdP 0) aNil) lenD) (vC (.int (2))) ltD) [] (qCons (sRet (vC (.int (0))) [])
    qNil) qNil)
    (qCons (sIf (tCmp' (rdP 0) (rdP 3) (fun d e => inD d e >>= fun b => .ok (!b))) [] (qCons (sPar2 (aCons (vBin (rdP 0) (vC (.int (0))) idxD) (aCons (vSli (rdP 0) (oSo (vC (.int (1)))) oNo) aNil)) [] 4 5)
    (qCons (sOwn (vLst (aCons (vCall (aCons (rdU 5) (aCons (rdU 1) (aCons (rdU 2) (aCons (rdU 3) aNil)))) F__greatest) aNil)) [3] 6)
    (qCons (sFor (vB (rdV 5) iterD) [] (qCons (sIf (tCmp' (vTup (aCons (rdV 4) (aCons (rdV 7) aNil))) (rdP 1) inD) [] (qCons (sSet (mB (aCons (vLc (rdV 9) (vB (rdV 5) iterD) (tCmp' (rdP 9) (rdP 7) (fun d e => eqD d e >>= fun b => .ok (!b))) (g1 9) [9]) aNil) tupD) [] 8)
    (qCons (sApp (vBin (vBin (vBin (rdP 2) (rdP 4) idxD) (vBin (rdP 2) (rdP 7) idxD) addD) (vCall (aCons (rdU 8) (aCons (rdU 1) (aCons (rdU 2) (aCons (rdU 3) aNil)))) F__greatest) addD) [3] 6)
    qNil)) qNil)
    qNil) (g1 7))
    (qCons (sSub (rdV 0) (mB (aCons (rdP 6) aNil) maxD) [] 3)
    qNil)))) qNil)
    (qCons (sRet (vBin (rdP 3) (rdP 0) idxD) [])
    qNil)))
abbrev N_most_paired : List Str := ["names", "pairs", "name"]
def q_most_paired (F_greatest_sum : Fun1) : Env → RS := (qCons (sRet (vCall (aCons (rdU 0) (aCons (rdU 1) (aCons (vDc (vC (.int (1))) (rdV 2) (vB (rdV 0) iterD) tYes' (g1 2) [2]) aNil))) F_greatest_sum) [])
    qNil)
abbrev N_suiting : List Str := ["sheet", "without", "names", "name", "one", "other"]
def q_suiting (F_must_be_households : Fun1) (F_households : Fun1) (F_suited_to : Fun1) : Env → RS := (qCons (sDrop (vCall (aCons (rdU 0) (aCons (rdU 1) aNil)) F_must_be_households) [])
    (qCons (sSet (vLc (rdV 3) (vB (vCall (aCons (rdU 0) aNil) F_households) iterD) (tCmp' (rdP 3) (rdP 1) (fun d e => inD d e >>= fun b => .ok (!b))) (g1 3) [3]) [] 2)
    (qCons (sRet (vLc2 (vTup (aCons (rdV 4) (aCons (rdV 5) aNil))) (vB (rdV 2) iterD) tYes' (tAnd' (tCmp' (rdP 4) (rdP 5) ltD) (tCmp' (rdP 5) (rdP 2) inD)) (vB (vCall (aCons (rdU 0) (aCons (rdU 4) aNil)) F_suited_to) iterD) (g1 4) (g1 5) [5] [4, 5]) [])
    qNil)))
abbrev N_most_swaps : List Str := ["sheet", "without", "pairs"]
def q_most_swaps (F_suiting : Fun1) (F_most_paired : Fun1) (F_households : Fun1) : Env → RS := (qCons (sSet (vCalF (aCons (rdU 0) aNil) (aCons (rdU 1) aNil) 1 ["without"] F_suiting) [] 2)
    (qCons (sRet (vCall (aCons (vCall (aCons (rdU 0) aNil) F_households) (aCons (rdU 2) aNil)) F_most_paired) [])
    qNil))
abbrev N__law_take : List Str := ["_law_urn", "_law_low_so", "_law_drawn", "_law_once", "_law_far", "_law_twice"]
def q__law_take : Env → RS := (qCons (sIf (tCmp' (vBin (rdP 0) (vC (.int (0))) idxD) (vC (.int (0))) (cmpI fun i j => decide (j < i))) [] (qCons (sSet (vBin (mB (aCons (vBin (rdP 0) (vC (.int (0))) idxD) aNil) intF) (rdP 1) modD) [] 2)
    (qCons (sSub (vC (.int (0))) (vBin (vBin (rdP 0) (vC (.int (0))) idxD) (rdP 1) fdivD) [] 0)
    (qCons (sRet (rdV 2) [])
    qNil))) qNil)
    (qCons (sSub (vC (.int (2))) (vBin (vBin (rdP 0) (vC (.int (2))) idxD) (vC (.int (1))) addD) [] 0)
    (qCons (sSet (vBin (mB (aCons (vBin (vBin (vBin (rdP 0) (vC (.int (1))) idxD) (vBin (vC (.int (48271))) (vBin (rdP 0) (vC (.int (2))) idxD) mulD) addD) (vBin (vC (.int (39373))) (vBin (rdP 0) (vC (.int (2))) idxD) addD) mulD) aNil) intF) (vC (.int (2147483647))) modD) [] 3)
    (qCons (sSet (vBin (vBin (mB (aCons (rdP 3) aNil) intF) (vC (.int (40009))) modD) (vC (.int (7))) addD) [] 4)
    (qCons (sSet (vBin (mB (aCons (vBin (vBin (vBin (rdP 3) (vBin (rdP 0) (vC (.int (2))) idxD) addD) (vBin (vBin (rdP 0) (vC (.int (1))) idxD) (vC (.int (1000003))) fdivD) addD) (rdP 4) mulD) aNil) intF) (vC (.int (2147483629))) modD) [] 5)
    (qCons (sRet (vBin (mB (aCons (vBin (vBin (mB (aCons (vBin (vBin (rdP 5) (vC (.int (48271))) mulD) (rdP 3) addD) aNil) intF) (vC (.int (2147483587))) modD) (vC (.int (64))) fdivD) aNil) intF) (rdP 1) modD) [])
    qNil))))))
abbrev N__law_cells : List Str := ["_law_script", "_law_top", "_law_cells_here", "_law_k", "_law_cell", "_law_at_so"]
def q__law_cells : Env → RS := (qCons (sSet (vOr (mB (aCons (vSli (rdP 0) oNo (oSo (rdV 1))) aNil) lstD) (vLst (aCons (vC (.int (0))) aNil))) [] 2)
    (qCons (sFor (mB (aCons (vSli (rdP 0) (oSo (rdV 1)) (oSo (vC (.int (63))))) aNil) enumD) [] (qCons (sSet (vBin (mB (aCons (rdP 3) aNil) intF) (rdP 1) modD) [] 5)
    (qCons (sSub (rdV 5) (vBin (vBin (rdP 2) (rdP 5) idxD) (vBin (rdP 4) (vBin (rdP 3) (vC (.int (2))) addD) mulD) addD) [] 2)
    qNil)) (gT 2 (gCons' (g1 3) (gCons' (g1 4) gNil'))))
    (qCons (sRet (rdV 2) [2])
    qNil)))
abbrev N__law_lists : List Str := ["_law_matter", "_law_bit"]
def q__law_lists (F__law_lists : Fun1) : Env → RS := (qCons (sRet (vIf (vLc (vCall (aCons (rdU 1) aNil) F__law_lists) (vB (rdV 0) iterD) tYes' (g1 1) [1]) (rdV 0) (tTru (mB (aCons (rdP 0) (aCons (vTup (aCons (vC (.ty "list")) (aCons (vC (.ty "tuple")) aNil))) aNil)) isiD))) [])
    qNil)
abbrev N__law_same : List Str := ["_law_got", "_law_goal", "_law_mine_so", "_law_own"]
def q__law_same (F__law_same : Fun1) : Env → RS := (qCons (sIf (tTru (mB (aCons (rdP 1) (aCons (vTup (aCons (vC (.ty "list")) (aCons (vC (.ty "tuple")) aNil))) aNil)) isiD)) [] (qCons (sIf (tOr' (tCmp' (mB (aCons (rdP 0) (aCons (vC (.ty "list")) aNil)) isiD) (mB (aCons (rdP 1) (aCons (vC (.ty "list")) aNil)) isiD) (fun d e => eqD d e >>= fun b => .ok (!b))) (tCmp' (mB (aCons (rdP 0) (aCons (vC (.ty "tuple")) aNil)) isiD) (mB (aCons (rdP 1) (aCons (vC (.ty "tuple")) aNil)) isiD) (fun d e => eqD d e >>= fun b => .ok (!b)))) [] (qCons (sRet (vC (.bl false)) [])
    qNil) qNil)
    (qCons (sRet (vAnd (vCmp (mB (aCons (rdP 0) aNil) lenD) (mB (aCons (rdP 1) aNil) lenD) eqD) (mB (aCons (vLc (vCall (aCons (rdU 2) (aCons (rdU 3) aNil)) F__law_same) (mB (aCons (rdV 0) (aCons (rdV 1) aNil)) zipD) tYes' (gT 2 (gCons' (g1 2) (gCons' (g1 3) gNil'))) [2, 3]) aNil) allD)) [])
    qNil)) qNil)
    (qCons (sIf (tOr' (tCmp' (rdP 1) (vC .non) (fun d e => match e with | .non => .ok (isND d) | _ => .no)) (tTru (mB (aCons (rdP 1) (aCons (vTup (aCons (vC (.ty "bool")) (aCons (vC (.ty "str")) aNil))) aNil)) isiD))) [] (qCons (sRet (vAnd (vCmp (rdP 0) (rdP 1) eqD) (vAnd (vCmp (mB (aCons (rdP 0) (aCons (vC (.ty "bool")) aNil)) isiD) (mB (aCons (rdP 1) (aCons (vC (.ty "bool")) aNil)) isiD) eqD) (vCmp (vCmp (rdP 0) (vC .non) (fun d e => match e with | .non => .ok (isND d) | _ => .no)) (vCmp (rdP 1) (vC .non) (fun d e => match e with | .non => .ok (isND d) | _ => .no)) eqD))) [])
    qNil) qNil)
    (qCons (sRet (vAnd (mB (aCons (rdP 0) (aCons (vC (.ty "int")) aNil)) isiD) (vAnd (vNot (mB (aCons (rdP 0) (aCons (vC (.ty "bool")) aNil)) isiD)) (vCmp (rdP 0) (rdP 1) eqD))) [])
    qNil)))
abbrev N__law_few : List Str := ["_law_urn", "_law_pool", "_law_one_of", "_law_own"]
def q__law_few (F__law_take : Fun1) : Env → RS := (qCons (sRet (mB (aCons (vLc (rdV 3) (vB (rdV 1) iterD) (tCmp' (vCall (aCons (rdU 0) (aCons (rdU 2) aNil)) F__law_take) (vC (.int (0))) eqD) (g1 3) [3]) aNil) tupD) [])
    qNil)
abbrev N__law_mixed : List Str := ["_law_urn", "_law_pool", "_law_left", "_law_found", "_law_turn"]
def q__law_mixed (F__law_take : Fun1) : Env → RS := (qCons (sPar2 (aCons (mB (aCons (rdP 1) aNil) lstD) (aCons (vLst aNil) aNil)) [] 2 3)
    (qCons (sFor (mB (aCons (mB (aCons (rdP 1) aNil) lenD) aNil) range1D) [] (qCons (sApp vNo [] 3)
    qNil) (g1 4))
    (qCons (sRet (mB (aCons (rdP 3) aNil) tupD) [])
    qNil)))
abbrev N__law_tome : List Str := ["_law_urn", "_law_most_so", "_law_free_so", "_law_left", "_law_many_so", "_law_empty_so", "_law_table", "_law_clan", "_law_free", "_law_style", "_law_wide", "_law_k", "_law_turn", "_law_far", "_law_way", "_law_rows_so", "_law_own", "_law_flat"]
def q__law_tome (F__law_take : Fun1) (F__law_mixed : Fun1) (F__law_few : Fun1) : Env → RS := (qCons (sSet (vLst (aCons (vC (.str "a")) (aCons (vC (.str "ann")) (aCons (vC (.str "bob")) (aCons (vC (.str "cat")) (aCons (vC (.str "dan")) (aCons (vC (.str "eve")) (aCons (vC (.str "fay")) (aCons (vC (.str "new")) (aCons (vC (.str "old")) (aCons (vC (.str "x")) (aCons (vC (.str "zzzzzzzz")) aNil)))))))))))) [] 3)
    (qCons (sPar2 (aCons (vBin (vC (.int (1))) (vCall (aCons (rdU 0) (aCons (rdU 1) aNil)) F__law_take) addD) (aCons (vCall (aCons (rdU 0) (aCons (vBin (rdP 2) (vC (.int (1))) addD) aNil)) F__law_take) aNil)) [] 4 5)
    (qCons (sTgt (vTup (aCons (mB (aCons (vCall (aCons (rdU 0) (aCons (rdU 3) aNil)) F__law_mixed) aNil) lstD) (aCons (vC (.dic [])) aNil))) [] (gT 2 (gCons' (g1 3) (gCons' (g1 6) gNil'))))
    (qCons (sPar2 (aCons (vSli (rdP 3) oNo (oSo (rdV 4))) (aCons (vSli (rdP 3) (oSo (rdV 4)) (oSo (vBin (rdP 4) (rdP 5) addD))) aNil)) [] 7 8)
    (qCons (sPar2 (aCons (vCall (aCons (rdU 0) (aCons (vC (.int (4))) aNil)) F__law_take) (aCons (vBin (vC (.int (3))) (vCall (aCons (rdU 0) (aCons (vC (.int (4))) aNil)) F__law_take) addD) aNil)) [] 9 10)
    (qCons (sFor (mB (aCons (rdV 4) aNil) range1D) [] (qCons (sSet (vIf (vLst (aCons (vBin (rdP 7) (vBin (mB (aCons (vBin (rdP 11) (vC (.int (1))) addD) aNil) intF) (rdP 4) modD) idxD) aNil)) (vLst aNil) (tCmp' (rdP 9) (vC (.int (3))) eqD)) [] 12)
    (qCons (sSet (vBin (rdP 12) (mB (aCons (vCall (aCons (rdU 0) (aCons (rdU 8) (aCons (vC (.int (3))) aNil))) F__law_few) aNil) lstD) addD) [] 12)
    (qCons (sSub (vBin (rdP 7) (rdP 11) idxD) (vBin (rdP 12) (vIf (vSli (rdP 3) (oSo (vNeg (vC (.int (1))))) oNo) (vLst aNil) (tCmp' (vCall (aCons (rdU 0) (aCons (vC (.int (6))) aNil)) F__law_take) (vC (.int (0))) eqD)) addD) [] 6)
    qNil))) (g1 11))
    (qCons (sFor (mB (aCons (rdV 4) aNil) range1D) [] (qCons (sFor (vB (vSli (rdP 7) (oSo (vBin (rdP 11) (vC (.int (1))) addD)) oNo) iterD) [] (qCons (sSet (vCall (aCons (rdU 0) (aCons (rdU 10) aNil)) F__law_take) [] 14)
    (qCons (sIf (tOr' (tCmp' (rdP 14) (vC (.int (0))) eqD) (tAnd' (tCmp' (rdP 14) (vC (.int (1))) eqD) (tCmp' (rdP 9) (vC (.int (0))) (cmpI fun i j => decide (j < i))))) [] (qCons (sDrop vNo [])
    qNil) qNil)
    (qCons (sIf (tOr' (tCmp' (rdP 14) (vC (.int (0))) eqD) (tAnd' (tCmp' (rdP 14) (vC (.int (2))) eqD) (tCmp' (rdP 9) (vC (.int (0))) (cmpI fun i j => decide (j < i))))) [] (qCons (sDrop vNo [])
    qNil) qNil)
    qNil))) (g1 13))
    qNil) (g1 11))
    (qCons (sSet (vLc (vTup (aCons (rdV 16) (aCons (mB (aCons (vB (vLc (rdV 17) (vB (vBin (rdP 6) (rdP 16) idxD) iterD) (tCmp' (rdP 17) (rdP 16) (fun d e => eqD d e >>= fun b => .ok (!b))) (g1 17) [17]) ssD) aNil) tupD) aNil))) (vB (rdV 7) iterD) tYes' (g1 16) [16]) [] 15)
    (qCons (sRet (vTup (aCons (mB (aCons (mB (aCons (rdP 15) aNil) sortedX) aNil) tupD) (aCons (mB (aCons (mB (aCons (rdP 8) aNil) sortedX) aNil) tupD) aNil))) [])
    qNil)))))))))
abbrev N__law_folk : List Str := ["_law_tome_here", "_law_own"]
def q__law_folk : Env → RS := (qCons (sRet (vLc (vBin (rdP 1) (vC (.int (0))) idxD) (vB (vBin (rdP 0) (vC (.int (0))) idxD) iterD) tYes' (g1 1) [1]) [])
    qNil)
abbrev N__law_wants : List Str := ["_law_tome_here", "_law_flats", "_law_own", "_law_flat"]
def q__law_wants (F__law_folk : Fun1) : Env → RS := (qCons (sSet (vBin (vCall (aCons (rdU 0) aNil) F__law_folk) (mB (aCons (vBin (rdP 0) (vC (.int (1))) idxD) aNil) lstD) addD) [] 1)
    (qCons (sRet (mB (aCons (vLc (vTup (aCons (vBin (rdP 2) (vC (.int (0))) idxD) (aCons (vLc (rdV 3) (vB (vBin (rdP 2) (vC (.int (1))) idxD) iterD) (tCmp' (rdP 3) (rdP 1) inD) (g1 3) [3]) aNil))) (vB (vBin (rdP 0) (vC (.int (0))) idxD) iterD) tYes' (g1 2) [2]) aNil) dictD) [])
    qNil))
abbrev N__law_suits : List Str := ["_law_tome_here", "_law_table", "_law_found", "_law_own", "_law_far"]
def q__law_suits (F__law_wants : Fun1) : Env → RS := (qCons (sTgt (vTup (aCons (vCall (aCons (rdU 0) aNil) F__law_wants) (aCons (vLst aNil) aNil))) [] (gT 2 (gCons' (g1 1) (gCons' (g1 2) gNil'))))
    (qCons (sFor (vB (rdV 1) iterD) [] (qCons (sSet (vBin (rdP 2) (vLc (vTup (aCons (rdV 3) (aCons (rdV 4) aNil))) (vB (vBin (rdP 1) (rdP 3) idxD) iterD) (tAnd' (tCmp' (rdP 3) (rdP 4) ltD) (tAnd' (tCmp' (rdP 4) (rdP 1) inD) (tCmp' (rdP 3) (vBin (rdP 1) (rdP 4) idxD) inD))) (g1 4) [4]) addD) [] 2)
    qNil) (g1 3))
    (qCons (sRet (mB (aCons (rdP 2) aNil) sortedX) [])
    qNil)))
abbrev N__law_matched : List Str := ["_law_pairs", "_law_found", "_law_pair", "_law_used", "_law_own", "_law_bit"]
def q__law_matched : Env → RS := (qCons (sSet (vLst (aCons (vTup aNil) aNil)) [] 1)
    (qCons (sFor (vB (rdV 0) iterD) [] (qCons (sSet (vLc (vBin (rdP 4) (vTup (aCons (rdV 2) aNil)) addD) (vB (rdV 1) iterD) (tCmp' (vLc (rdV 5) (vB (rdV 4) iterD) (tOr' (tCmp' (vBin (rdP 5) (vC (.int (0))) idxD) (rdP 2) inD) (tCmp' (vBin (rdP 5) (vC (.int (1))) idxD) (rdP 2) inD)) (g1 5) [5]) (vLst aNil) eqD) (g1 4) [4]) [] 3)
    (qCons (sSet (vBin (rdP 1) (rdP 3) addD) [] 1)
    qNil)) (g1 2))
    (qCons (sRet (rdV 1) [])
    qNil)))
abbrev N__law_six : List Str := ["_law_rows_so"]
def q__law_six : Env → RS := (qCons (sSet (vTup (aCons (vTup (aCons (vC (.str "ann")) (aCons (vTup (aCons (vC (.str "bob")) aNil)) aNil))) (aCons (vTup (aCons (vC (.str "bob")) (aCons (vTup (aCons (vC (.str "ann")) (aCons (vC (.str "cat")) aNil))) aNil))) (aCons (vTup (aCons (vC (.str "cat")) (aCons (vTup (aCons (vC (.str "bob")) (aCons (vC (.str "dan")) (aCons (vC (.str "eve")) aNil)))) aNil))) (aCons (vTup (aCons (vC (.str "dan")) (aCons (vTup (aCons (vC (.str "cat")) (aCons (vC (.str "eve")) aNil))) aNil))) aNil))))) [] 0)
    (qCons (sRet (vTup (aCons (vBin (rdP 0) (vTup (aCons (vTup (aCons (vC (.str "eve")) (aCons (vTup (aCons (vC (.str "cat")) (aCons (vC (.str "dan")) aNil))) aNil))) (aCons (vTup (aCons (vC (.str "fay")) (aCons (vTup (aCons (vC (.str "cat")) (aCons (vC (.str "new")) aNil))) aNil))) aNil))) addD) (aCons (vTup (aCons (vC (.str "new")) aNil)) aNil))) [])
    qNil))
abbrev N__law_linked : List Str := ["_law_line", "_law_pairs", "_law_own", "_law_table", "_law_far"]
def q__law_linked : Env → RS := (qCons (sSet (mB (aCons (vLc (vTup (aCons (rdV 2) (aCons (vLst aNil) aNil))) (vB (rdV 0) iterD) tYes' (g1 2) [2]) aNil) dictD) [] 3)
    (qCons (sFor (vB (rdV 1) iterD) [] (qCons (sDrop vNo [])
    (qCons (sDrop vNo [])
    qNil)) (gT 2 (gCons' (g1 2) (gCons' (g1 4) gNil'))))
    (qCons (sRet (vTup (aCons (mB (aCons (vLc (vTup (aCons (rdV 2) (aCons (mB (aCons (mB (aCons (vBin (rdP 3) (rdP 2) idxD) aNil) sortedX) aNil) tupD) aNil))) (vB (mB (aCons (rdP 0) aNil) sortedX) iterD) tYes' (g1 2) [2]) aNil) tupD) (aCons (vTup aNil) aNil))) [])
    qNil)))
abbrev N__law_kite : List Str := []
def q__law_kite (F__law_linked : Fun1) : Env → RS := (qCons (sRet (vCall (aCons (vC (.str "abcd")) (aCons (vLst (aCons (vTup (aCons (vC (.str "a")) (aCons (vC (.str "b")) aNil))) (aCons (vTup (aCons (vC (.str "a")) (aCons (vC (.str "c")) aNil))) (aCons (vTup (aCons (vC (.str "b")) (aCons (vC (.str "c")) aNil))) (aCons (vTup (aCons (vC (.str "c")) (aCons (vC (.str "d")) aNil))) aNil))))) aNil)) F__law_linked) [])
    qNil)
abbrev N__law_fork : List Str := []
def q__law_fork (F__law_linked : Fun1) : Env → RS := (qCons (sRet (vCall (aCons (vC (.str "abcde")) (aCons (vLst (aCons (vTup (aCons (vC (.str "a")) (aCons (vC (.str "b")) aNil))) (aCons (vTup (aCons (vC (.str "b")) (aCons (vC (.str "c")) aNil))) (aCons (vTup (aCons (vC (.str "b")) (aCons (vC (.str "d")) aNil))) (aCons (vTup (aCons (vC (.str "d")) (aCons (vC (.str "e")) aNil))) aNil))))) aNil)) F__law_linked) [])
    qNil)
abbrev N__law_woven : List Str := ["_law_urn", "_law_line", "_law_wide", "_law_pairs", "_law_k", "_law_far"]
def q__law_woven (F__law_take : Fun1) (F__law_tome : Fun1) (F__law_mixed : Fun1) (F__law_linked : Fun1) : Env → RS := (qCons (sIf (tCmp' (vCall (aCons (rdU 0) (aCons (vC (.int (3))) aNil)) F__law_take) (vC (.int (0))) eqD) [] (qCons (sRet (vCall (aCons (rdU 0) (aCons (vC (.int (8))) (aCons (vC (.int (2))) aNil))) F__law_tome) [])
    qNil) qNil)
    (qCons (sSet (vCall (aCons (rdU 0) (aCons (vLst (aCons (vC (.str "a")) (aCons (vC (.str "ann")) (aCons (vC (.str "b")) (aCons (vC (.str "bob")) (aCons (vC (.str "c")) (aCons (vC (.str "cat")) (aCons (vC (.str "dan")) (aCons (vC (.str "eve")) (aCons (vC (.str "x")) (aCons (vC (.str "zzzzzzzz")) aNil))))))))))) aNil)) F__law_mixed) [] 1)
    (qCons (sSet (mB (aCons (vSli (rdP 1) oNo (oSo (vBin (vC (.int (3))) (vCall (aCons (rdU 0) (aCons (vC (.int (6))) aNil)) F__law_take) addD))) aNil) sortedX) [] 1)
    (qCons (sTgt (vTup (aCons (vBin (vC (.int (2))) (vCall (aCons (rdU 0) (aCons (vC (.int (3))) aNil)) F__law_take) addD) (aCons (vLst aNil) aNil))) [] (gT 2 (gCons' (g1 2) (gCons' (g1 3) gNil'))))
    (qCons (sFor (mB (aCons (mB (aCons (rdP 1) aNil) lenD) aNil) range1D) [] (qCons (sSet (vBin (rdP 3) (vLc (vTup (aCons (vBin (rdP 1) (rdP 4) idxD) (aCons (rdV 5) aNil))) (vB (vSli (rdP 1) (oSo (vBin (rdP 4) (vC (.int (1))) addD)) oNo) iterD) (tCmp' (vCall (aCons (rdU 0) (aCons (rdU 2) aNil)) F__law_take) (vC (.int (0))) eqD) (g1 5) [5]) addD) [] 3)
    qNil) (g1 4))
    (qCons (sRet (vCall (aCons (rdU 1) (aCons (rdU 3) aNil)) F__law_linked) [])
    qNil))))))
abbrev N__law_bloom : List Str := ["_law_line", "_law_some", "_law_own"]
def q__law_bloom (F__law_linked : Fun1) : Env → RS := (qCons (sSet (vLst (aCons (vTup (aCons (vC (.int (0))) (aCons (vC (.int (4))) aNil))) (aCons (vTup (aCons (vC (.int (0))) (aCons (vC (.int (1))) aNil))) (aCons (vTup (aCons (vC (.int (1))) (aCons (vC (.int (2))) aNil))) (aCons (vTup (aCons (vC (.int (1))) (aCons (vC (.int (3))) aNil))) (aCons (vTup (aCons (vC (.int (2))) (aCons (vC (.int (3))) aNil))) (aCons (vTup (aCons (vC (.int (2))) (aCons (vC (.int (5))) aNil))) aNil))))))) [] 1)
    (qCons (sRet (vCall (aCons (rdU 0) (aCons (vLc (vTup (aCons (vBin (rdP 0) (vBin (rdP 2) (vC (.int (0))) idxD) idxD) (aCons (vBin (rdP 0) (vBin (rdP 2) (vC (.int (1))) idxD) idxD) aNil))) (vB (rdV 1) iterD) tYes' (g1 2) [2]) aNil)) F__law_linked) [])
    qNil))
abbrev N__law_best : List Str := ["_law_pairs", "_law_found", "_law_top", "_law_own"]
def q__law_best (F__law_matched : Fun1) : Env → RS := (qCons (sSet (vCall (aCons (rdU 0) aNil) F__law_matched) [] 1)
    (qCons (sSet (mB (aCons (vLc (mB (aCons (rdP 3) aNil) lenD) (vB (rdV 1) iterD) tYes' (g1 3) [3]) aNil) maxD) [] 2)
    (qCons (sRet (mB (aCons (vLc (rdV 3) (vB (rdV 1) iterD) (tCmp' (mB (aCons (rdP 3) aNil) lenD) (rdP 2) eqD) (g1 3) [3]) aNil) sortedX) [])
    qNil)))
abbrev N__law_apart : List Str := ["_law_pairs", "_law_gone", "_law_pair"]
def q__law_apart : Env → RS := (qCons (sRet (vLc (rdV 2) (vB (rdV 0) iterD) (tAnd' (tCmp' (vBin (rdP 2) (vC (.int (0))) idxD) (rdP 1) (fun d e => inD d e >>= fun b => .ok (!b))) (tCmp' (vBin (rdP 2) (vC (.int (1))) idxD) (rdP 1) (fun d e => inD d e >>= fun b => .ok (!b)))) (g1 2) [2]) [])
    qNil)
abbrev N__choices : List Str := ["pairs", "many", "found", "at", "one", "other", "later", "pair", "swaps"]
def q__choices (F__choices : Fun1) : Env → RS := (qCons (sIf (tCmp' (rdP 1) (vC (.int (0))) eqD) [] (qCons (sRet (vLst (aCons (vTup aNil) aNil)) [])
    qNil) qNil)
    (qCons (sOwn (vLst aNil) [] 2)
    (qCons (sFor (mB (aCons (rdV 0) aNil) enumD) [] (qCons (sSet (vLc (rdV 7) (vB (vSli (rdP 0) (oSo (vBin (rdP 3) (vC (.int (1))) addD)) oNo) iterD) (tAnd' (tCmp' (rdP 4) (rdP 7) (fun d e => inD d e >>= fun b => .ok (!b))) (tCmp' (rdP 5) (rdP 7) (fun d e => inD d e >>= fun b => .ok (!b)))) (g1 7) [7]) [] 6)
    (qCons (sExt (vLc (vTup (aCons (vTup (aCons (rdV 4) (aCons (rdV 5) aNil))) (aStar (rdP 8) aNil))) (vB (vCall (aCons (rdU 6) (aCons (vBin (rdP 1) (vC (.int (1))) subD) aNil)) F__choices) iterD) tYes' (g1 8) [8]) [] 2)
    qNil)) (gT 2 (gCons' (g1 3) (gCons' (gT 2 (gCons' (g1 4) (gCons' (g1 5) gNil'))) gNil'))))
    (qCons (sRet (rdV 2) [2])
    qNil))))
abbrev N__best_swaps : List Str := ["sheet", "without", "many"]
def q__best_swaps (F_most_swaps : Fun1) (F__choices : Fun1) (F_suiting : Fun1) : Env → RS := (qCons (sSet (vBin (vCalF (aCons (rdU 0) aNil) (aCons (rdU 1) aNil) 1 ["without"] F_most_swaps) (vC (.int (2))) fdivD) [] 2)
    (qCons (sRet (vCall (aCons (vCalF (aCons (rdU 0) aNil) (aCons (rdU 1) aNil) 1 ["without"] F_suiting) (aCons (rdU 2) aNil)) F__choices) [])
    qNil))
abbrev N_least_swaps : List Str := ["sheet", "without"]
def q_least_swaps (F__best_swaps : Fun1) : Env → RS := (qCons (sRet (vBin (vCall (aCons (rdU 0) (aCons (rdU 1) aNil)) F__best_swaps) (vC (.int (0))) idxD) [])
    qNil)
abbrev N_every_swaps : List Str := ["sheet", "without", "best"]
def q_every_swaps (F__best_swaps : Fun1) : Env → RS := (qCons (sSet (vCall (aCons (rdU 0) (aCons (rdU 1) aNil)) F__best_swaps) [] 2)
    (qCons (sDrop vNo [])
    qNil))
abbrev N_parts_of : List Str := ["some", "pairs", "parts", "one", "other", "joined", "others", "name", "part"]
def q_parts_of : Env → RS := (qCons (sSet (vLc (vTup (aCons (rdV 7) aNil)) (vB (rdV 0) iterD) tYes' (g1 7) [7]) [] 2)
    (qCons (sFor (vB (rdV 1) iterD) [] (qCons (sSet (vLc (rdV 8) (vB (rdV 2) iterD) (tOr' (tCmp' (rdP 3) (rdP 8) inD) (tCmp' (rdP 4) (rdP 8) inD)) (g1 8) [8]) [] 5)
    (qCons (sIf (tCmp' (mB (aCons (rdP 5) aNil) lenD) (vC (.int (2))) eqD) [] (qCons (sSet (vLc (rdV 8) (vB (rdV 2) iterD) (tCmp' (rdP 8) (rdP 5) (fun d e => inD d e >>= fun b => .ok (!b))) (g1 8) [8]) [] 6)
    (qCons (sSet (vLst (aStar (rdP 6) (aCons (vTup (aStar (vBin (rdP 5) (vC (.int (0))) idxD) (aStar (vBin (rdP 5) (vC (.int (1))) idxD) aNil))) aNil))) [] 2)
    qNil)) qNil)
    qNil)) (gT 2 (gCons' (g1 3) (gCons' (g1 4) gNil'))))
    (qCons (sRet (mB (aCons (vLc (mB (aCons (mB (aCons (rdP 8) aNil) sortedX) aNil) tupD) (vB (rdV 2) iterD) tYes' (g1 8) [8]) aNil) sortedX) [])
    qNil)))
abbrev N_parts_in : List Str := ["sheet", "some", "odd", "parts", "part"]
def q_parts_in (F_must_be_households : Fun1) (F_parts_of : Fun1) (F_suiting : Fun1) : Env → RS := (qCons (sDrop (vCall (aCons (rdU 0) (aCons (rdU 1) aNil)) F_must_be_households) [])
    (qCons (sSet (vCall (aCons (rdU 1) (aCons (vCall (aCons (rdU 0) aNil) F_suiting) aNil)) F_parts_of) [] 3)
    (qCons (sRet (vLc (rdV 4) (vB (rdV 3) iterD) (tOr' (tCmp' (rdP 2) (vC .non) (fun d e => match e with | .non => .ok (isND d) | _ => .no)) (tCmp' (rdP 2) (vCmp (vBin (mB (aCons (rdP 4) aNil) lenD) (vC (.int (2))) modD) (vC (.int (1))) eqD) eqD)) (g1 4) [4]) [])
    qNil)))
abbrev N__law_lumps : List Str := ["_law_pairs", "_law_crew", "_law_left", "_law_found", "_law_lump", "_law_fresh", "_law_near", "_law_pair", "_law_own"]
def q__law_lumps : Env → RS := (qCons (sTgt (vTup (aCons (mB (aCons (rdP 1) aNil) lstD) (aCons (vLst aNil) aNil))) [] (gT 2 (gCons' (g1 2) (gCons' (g1 3) gNil'))))
    (qCons (whS (tCmp' (rdP 2) (vLst aNil) (fun d e => eqD d e >>= fun b => .ok (!b))) (qCons (sTgt (vTup (aCons (vLst (aCons (vBin (rdP 2) (vC (.int (0))) idxD) aNil)) (aCons (vLst (aCons (vBin (rdP 2) (vC (.int (0))) idxD) aNil)) aNil))) [] (gT 2 (gCons' (g1 4) (gCons' (g1 5) gNil'))))
    (qCons (whS (tCmp' (rdP 5) (vLst aNil) (fun d e => eqD d e >>= fun b => .ok (!b))) (qCons (sSet (vBin (vLc (vBin (rdP 7) (vC (.int (0))) idxD) (vB (rdV 0) iterD) (tCmp' (vBin (rdP 7) (vC (.int (1))) idxD) (rdP 5) inD) (g1 7) [7]) (vLc (vBin (rdP 7) (vC (.int (1))) idxD) (vB (rdV 0) iterD) (tCmp' (vBin (rdP 7) (vC (.int (0))) idxD) (rdP 5) inD) (g1 7) [7]) addD) [] 6)
    (qCons (sSet (vB (vLc (rdV 8) (vB (rdV 6) iterD) (tAnd' (tCmp' (rdP 8) (rdP 2) inD) (tCmp' (rdP 8) (rdP 4) (fun d e => inD d e >>= fun b => .ok (!b)))) (g1 8) [8]) ssD) [] 5)
    (qCons (sSet (vBin (rdP 4) (rdP 5) addD) [] 4)
    qNil))) 1000)
    (qCons (sApp (mB (aCons (mB (aCons (rdP 4) aNil) sortedX) aNil) tupD) [] 3)
    (qCons (sSet (vLc (rdV 8) (vB (rdV 2) iterD) (tCmp' (rdP 8) (rdP 4) (fun d e => inD d e >>= fun b => .ok (!b))) (g1 8) [8]) [] 2)
    qNil)))) 1000)
    (qCons (sRet (mB (aCons (rdP 3) aNil) sortedX) [])
    qNil)))
abbrev N__moves_by : List Str := ["swaps", "name", "pair"]
def q__moves_by : Env → RS := (qCons (sRet (mB (aCons (vLc (vCmp (rdP 1) (rdP 2) inD) (vB (rdV 0) iterD) tYes' (g1 2) [2]) aNil) anyD) [])
    qNil)
abbrev N_kinds : List Str := ["sheet", "best", "names", "staying", "moving", "hold", "settled", "name", "swaps", "other"]
def q_kinds (F__best_swaps : Fun1) (F_households : Fun1) (F__moves_by : Fun1) (F_suited_to : Fun1) : Env → RS := (qCons (sSet (vCall (aCons (rdU 0) (aCons (vTup aNil) aNil)) F__best_swaps) [] 1)
    (qCons (sSet (vCall (aCons (rdU 0) aNil) F_households) [] 2)
    (qCons (sSet (mB (aCons (vLc (rdV 7) (vB (rdV 2) iterD) (tNot' (tTru (mB (aCons (vLc (vCall (aCons (rdU 8) (aCons (rdU 7) aNil)) F__moves_by) (vB (rdV 1) iterD) tYes' (g1 8) [8]) aNil) allD))) (g1 7) [7]) aNil) tupD) [] 3)
    (qCons (sSet (vLc (rdV 7) (vB (rdV 2) iterD) (tCmp' (rdP 7) (rdP 3) (fun d e => inD d e >>= fun b => .ok (!b))) (g1 7) [7]) [] 4)
    (qCons (sSet (mB (aCons (vLc (rdV 7) (vB (rdV 4) iterD) (tTru (mB (aCons (vLc (vCmp (rdP 9) (rdP 3) inD) (vB (vCall (aCons (rdU 0) (aCons (rdU 7) aNil)) F_suited_to) iterD) tYes' (g1 9) [9]) aNil) anyD)) (g1 7) [7]) aNil) tupD) [] 5)
    (qCons (sSet (mB (aCons (vLc (rdV 7) (vB (rdV 4) iterD) (tCmp' (rdP 7) (rdP 5) (fun d e => inD d e >>= fun b => .ok (!b))) (g1 7) [7]) aNil) tupD) [] 6)
    (qCons (sRet (vTup (aCons (rdV 3) (aCons (rdV 5) (aCons (rdV 6) aNil)))) [])
    qNil)))))))
abbrev N__law_moved : List Str := ["_law_way", "_law_found", "_law_pair"]
def q__law_moved : Env → RS := (qCons (sSet (vLst aNil) [] 1)
    (qCons (sFor (vB (rdV 0) iterD) [] (qCons (sSet (vBin (rdP 1) (mB (aCons (rdP 2) aNil) lstD) addD) [] 1)
    qNil) (g1 2))
    (qCons (sRet (mB (aCons (rdP 1) aNil) sortedX) [])
    qNil)))
abbrev N__law_kinds : List Str := ["_law_clan", "_law_pairs", "_law_rows_so", "_law_stay", "_law_own", "_law_near", "_law_firm", "_law_way", "_law_pair"]
def q__law_kinds (F__law_best : Fun1) (F__law_moved : Fun1) : Env → RS := (qCons (sTgt (vTup (aCons (vCall (aCons (rdU 1) aNil) F__law_best) (aCons (vLst aNil) aNil))) [] (gT 2 (gCons' (g1 2) (gCons' (g1 3) gNil'))))
    (qCons (sFor (vB (rdV 0) iterD) [] (qCons (sSet (vBin (rdP 3) (vBin (vLst (aCons (rdV 4) aNil)) (mB (aCons (vCmp (vLc (rdV 7) (vB (rdV 2) iterD) (tCmp' (rdP 4) (vCall (aCons (rdU 7) aNil) F__law_moved) (fun d e => inD d e >>= fun b => .ok (!b))) (g1 7) [7]) (vLst aNil) (fun d e => eqD d e >>= fun b => .ok (!b))) aNil) intF) mulD) addD) [] 3)
    qNil) (g1 4))
    (qCons (sSet (vBin (vLc (vBin (rdP 8) (vC (.int (0))) idxD) (vB (rdV 1) iterD) (tCmp' (vBin (rdP 8) (vC (.int (1))) idxD) (rdP 3) inD) (g1 8) [8]) (vLc (vBin (rdP 8) (vC (.int (1))) idxD) (vB (rdV 1) iterD) (tCmp' (vBin (rdP 8) (vC (.int (0))) idxD) (rdP 3) inD) (g1 8) [8]) addD) [] 5)
    (qCons (sSet (vLc (rdV 4) (vB (rdV 0) iterD) (tAnd' (tCmp' (rdP 4) (rdP 5) inD) (tCmp' (rdP 4) (rdP 3) (fun d e => inD d e >>= fun b => .ok (!b)))) (g1 4) [4]) [] 6)
    (qCons (sRet (vTup (aCons (mB (aCons (rdP 3) aNil) tupD) (aCons (mB (aCons (rdP 6) aNil) tupD) (aCons (mB (aCons (vLc (rdV 4) (vB (rdV 0) iterD) (tAnd' (tCmp' (rdP 4) (rdP 3) (fun d e => inD d e >>= fun b => .ok (!b))) (tCmp' (rdP 4) (rdP 6) (fun d e => inD d e >>= fun b => .ok (!b)))) (g1 4) [4]) aNil) tupD) aNil)))) [])
    qNil)))))
abbrev N_leaves : List Str := ["sheet", "name", "leaving", "swaps"]
def q_leaves (F_must_be_households : Fun1) (F__best_swaps : Fun1) (F__moves_by : Fun1) : Env → RS := (qCons (sDrop (vCall (aCons (rdU 0) (aCons (vTup (aCons (rdV 1) aNil)) aNil)) F_must_be_households) [])
    (qCons (sSet (vLc (rdV 3) (vB (vCall (aCons (rdU 0) (aCons (vTup aNil) aNil)) F__best_swaps) iterD) (tNot' (tTru (vCall (aCons (rdU 3) (aCons (rdU 1) aNil)) F__moves_by))) (g1 3) [3]) [] 2)
    (qCons (sRet (vIf (vBin (rdP 2) (vC (.int (0))) idxD) (vC .non) (tTru (rdP 2))) [])
    qNil)))
abbrev N_partners : List Str := ["sheet", "name", "suited", "pairs", "swaps", "pair", "other"]
def q_partners (F_suited_to : Fun1) (F__best_swaps : Fun1) : Env → RS := (qCons (sSet (vCall (aCons (rdU 0) (aCons (rdU 1) aNil)) F_suited_to) [] 2)
    (qCons (sSet (vLc2 (rdV 5) (vB (vCall (aCons (rdU 0) (aCons (vTup aNil) aNil)) F__best_swaps) iterD) tYes' (tCmp' (rdP 1) (rdP 5) inD) (vB (rdV 4) iterD) (g1 4) (g1 5) [5] [4, 5]) [] 3)
    (qCons (sRet (mB (aCons (vLc (rdV 6) (vB (rdV 2) iterD) (tTru (mB (aCons (vLc (vCmp (rdP 6) (rdP 5) inD) (vB (rdV 3) iterD) tYes' (g1 5) [5]) aNil) anyD)) (g1 6) [6]) aNil) tupD) [])
    qNil)))
abbrev N_sure_swaps : List Str := ["sheet", "best", "pair", "swaps"]
def q_sure_swaps (F__best_swaps : Fun1) (F_suiting : Fun1) : Env → RS := (qCons (sSet (vCall (aCons (rdU 0) (aCons (vTup aNil) aNil)) F__best_swaps) [] 1)
    (qCons (sRet (vLc (rdV 2) (vB (vCall (aCons (rdU 0) aNil) F_suiting) iterD) (tTru (mB (aCons (vLc (vCmp (rdP 2) (rdP 3) inD) (vB (rdV 1) iterD) tYes' (g1 3) [3]) aNil) allD)) (g1 2) [2]) [])
    qNil))
abbrev N_idle_swaps : List Str := ["sheet", "best", "pair", "swaps"]
def q_idle_swaps (F__best_swaps : Fun1) (F_suiting : Fun1) : Env → RS := (qCons (sSet (vCall (aCons (rdU 0) (aCons (vTup aNil) aNil)) F__best_swaps) [] 1)
    (qCons (sRet (vLc (rdV 2) (vB (vCall (aCons (rdU 0) aNil) F_suiting) iterD) (tNot' (tTru (mB (aCons (vLc (vCmp (rdP 2) (rdP 3) inD) (vB (rdV 1) iterD) tYes' (g1 3) [3]) aNil) anyD))) (g1 2) [2]) [])
    qNil))
end Fx

/-! answers with draws: what holds of all of them; reading slots -/
namespace Fx
open PySem PySem.Spec PyProof.Rows L2
/-- every answer is so, and costs no more than c draws -/
def R.all {α : Type} (post : α → Prop) : R α → Nat → Prop
  | .ok a, _ => post a
  | .any P n k, c => n ≤ c ∧ ∀ d, P d → (k d).all post (c - n)
  | .ex _ _, _ => False
  | .no, _ => False
theorem R.all_mono {α : Type} {p q : α → Prop} (f : ∀ a, p a → q a) : ∀ {r : R α} {c c' : Nat}, c ≤ c' → r.all p c → r.all q c'
  | .ok a, _, _, _, h => f a h
  | .any P n k, c, c', l, h => ⟨Nat.le_trans h.1 l, fun d m => R.all_mono f (Nat.sub_le_sub_right l n) (h.2 d m)⟩
  | .ex _ _, _, _, _, h => h
  | .no, _, _, _, h => h
theorem R.all_bind {α β : Type} {q : β → Prop} {k : α → R β} {c2 : Nat} : ∀ {r : R α} {c1 : Nat}, r.all (fun a => (k a).all q c2) c1 → (r >>= k).all q (c1 + c2)
  | .ok a, c1, h => R.all_mono (fun _ z => z) (Nat.le_add_left _ _) (show (k a).all q c2 from h)
  | .any P n f, c1, h => ⟨Nat.le_trans h.1 (Nat.le_add_right _ _), fun d m => by
      have := R.all_bind (r := f d) (h.2 d m)
      rw [show c1 + c2 - n = c1 - n + c2 from by have := h.1; omega]
      exact this⟩
  | .ex _ _, _, h => h
  | .no, _, h => h
theorem R.all_ok {α : Type} {p : α → Prop} {a : α} {c : Nat} (h : p a) : (R.ok a).all p c := h
theorem R.all_eq {α : Type} {p : α → Prop} {r : R α} {a : α} {c : Nat} (e : r = .ok a) (h : p a) : r.all p c := by
  rw [e]
  exact h
/-- what is asked of the world then -/
theorem R.all_run {α : Type} {K : PySem.W.Frag} {mg : Str → Option Value} {E : XU} {hs : List Addr} {H : Hp} {p : α → Prop} {Q : α → Nat → Hp → Prop} (f : ∀ a n' H', p a → Sm E.u H H' → Urn E.u n' H' → Q a n' H') : ∀ {r : R α} {c n : Nat}, r.all p c → n + c ≤ lim → RWG K mg E hs n r H Q
  | .ok a, _, n, h, _ => fun H' s u => f a n H' h s u
  | .any P k g, c, n, h, l => ⟨by have := h.1; omega, fun d m => R.all_run f (h.2 d m) (by have := h.1; omega)⟩
  | .ex _ _, _, _, h, _ => False.elim h
  | .no, _, _, h, _ => False.elim h
def RS.all (post : RS → Prop) : RS → Nat → Prop
  | .any P n k, c => n ≤ c ∧ ∀ d, P d → (k d).all post (c - n)
  | .nx ε, _ => post (.nx ε)
  | .rt d, _ => post (.rt d)
  | .bk ε, _ => post (.bk ε)
  | .ct ε, _ => post (.ct ε)
  | .ex _ _, _ => False
  | .no, _ => False
theorem RS.all_mono {p q : RS → Prop} (f : ∀ a, p a → q a) : ∀ {r : RS} {c c' : Nat}, c ≤ c' → r.all p c → r.all q c'
  | .nx a, _, _, _, h => f _ h
  | .rt a, _, _, _, h => f _ h
  | .bk a, _, _, _, h => f _ h
  | .ct a, _, _, _, h => f _ h
  | .any P n k, c, c', l, h => ⟨Nat.le_trans h.1 l, fun d m => RS.all_mono f (Nat.sub_le_sub_right l n) (h.2 d m)⟩
  | .ex _ _, _, _, _, h => h
  | .no, _, _, _, h => h
theorem liftS_all {α : Type} {q : RS → Prop} {k : α → RS} {c2 : Nat} : ∀ {r : R α} {c1 : Nat}, r.all (fun a => (k a).all q c2) c1 → (liftS r k).all q (c1 + c2)
  | .ok a, c1, h => RS.all_mono (fun _ z => z) (Nat.le_add_left _ _) (show (k a).all q c2 from h)
  | .any P n f, c1, h => ⟨Nat.le_trans h.1 (Nat.le_add_right _ _), fun d m => by
      have := liftS_all (r := f d) (h.2 d m)
      rw [show c1 + c2 - n = c1 - n + c2 from by have := h.1; omega]
      exact this⟩
  | .ex _ _, _, h => h
  | .no, _, h => h
/-- the leaf goes on by k -/
def onNx (q : RS → Prop) (k : Env → RS) (c : Nat) : RS → Prop
  | .nx ε => (k ε).all q c
  | l => q l
theorem seqS_all {q : RS → Prop} {k : Env → RS} {c2 : Nat} : ∀ {r : RS} {c1 : Nat}, r.all (onNx q k c2) c1 → (seqS r k).all q (c1 + c2)
  | .nx ε, c1, h => RS.all_mono (fun _ z => z) (Nat.le_add_left _ _) (show (k ε).all q c2 from h)
  | .rt d, c1, h => h
  | .bk d, c1, h => h
  | .ct d, c1, h => h
  | .any P n f, c1, h => ⟨Nat.le_trans h.1 (Nat.le_add_right _ _), fun d m => by
      have := seqS_all (r := f d) (h.2 d m)
      rw [show c1 + c2 - n = c1 - n + c2 from by have := h.1; omega]
      exact this⟩
  | .ex _ _, _, h => h
  | .no, _, h => h
def onLp (q : RS → Prop) (k : Env → RS) (c : Nat) : RS → Prop
  | .nx ε => (k ε).all q c
  | .ct ε => (k ε).all q c
  | .bk ε => q (.nx ε)
  | l => q l
theorem loopS_all {q : RS → Prop} {k : Env → RS} {c2 : Nat} : ∀ {r : RS} {c1 : Nat}, r.all (onLp q k c2) c1 → (loopS r k).all q (c1 + c2)
  | .nx ε, c1, h => RS.all_mono (fun _ z => z) (Nat.le_add_left _ _) (show (k ε).all q c2 from h)
  | .ct ε, c1, h => RS.all_mono (fun _ z => z) (Nat.le_add_left _ _) (show (k ε).all q c2 from h)
  | .rt d, c1, h => h
  | .bk d, c1, h => h
  | .any P n f, c1, h => ⟨Nat.le_trans h.1 (Nat.le_add_right _ _), fun d m => by
      have := loopS_all (r := f d) (h.2 d m)
      rw [show c1 + c2 - n = c1 - n + c2 from by have := h.1; omega]
      exact this⟩
  | .ex _ _, _, h => h
  | .no, _, h => h
/-- a loop whose turns all go on -/
theorem forS_draw {g : D → Env → R Env} {b : Env → RS} {I : Nat → Env → Prop} {c : Nat} : ∀ {ds : List D} {i : Nat} {ε : Env}, I i ε → (∀ j d ε, ds[j]? = some d → I (i + j) ε → (liftS (g d ε) b).all (fun l => ∃ ε', (l = .nx ε' ∨ l = .ct ε') ∧ I (i + j + 1) ε') c) → (forS g b ds ε).all (fun l => ∃ ε', l = .nx ε' ∧ I (i + ds.length) ε') (ds.length * c)
  | [], i, ε, h, _ => ⟨ε, rfl, h⟩
  | d :: ds, i, ε, h, t => by
    have t0 := t 0 d ε rfl h
    have key : ∀ {r : R Env}, (liftS r b).all (fun l => ∃ ε', (l = .nx ε' ∨ l = .ct ε') ∧ I (i + 0 + 1) ε') c → (liftS r fun ε1 => loopS (b ε1) fun ε2 => forS g b ds ε2).all (fun l => ∃ ε', l = .nx ε' ∧ I (i + (ds.length + 1)) ε') (c + ds.length * c) := by
      intro r hr
      have e : (liftS r fun ε1 => loopS (b ε1) fun ε2 => forS g b ds ε2) = loopS (liftS r b) fun ε2 => forS g b ds ε2 := by
        clear hr
        induction r with
        | any P n k ih => exact congrArg (RS.any P n) (funext ih)
        | _ => rfl
      rw [e]
      refine loopS_all (RS.all_mono (fun l hl => ?_) (Nat.le_refl _) hr)
      obtain ⟨ε', hl, h'⟩ := hl
      have nxt := forS_draw (g := g) (b := b) (I := I) (c := c) (ds := ds) (i := i + 1) (ε := ε') h' fun j d ε e hi => by
        have := t (j + 1) d ε e (by rw [show i + (j + 1) = i + 1 + j from by omega]; exact hi)
        rw [show i + (j + 1) + 1 = i + 1 + j + 1 from by omega] at this
        exact this
      have nxt2 : (forS g b ds ε').all (fun l => ∃ ε', l = .nx ε' ∧ I (i + (ds.length + 1)) ε') (ds.length * c) := RS.all_mono (fun l ⟨e1, h1, h2⟩ => ⟨e1, h1, by rw [show i + (ds.length + 1) = i + 1 + ds.length from by omega]; exact h2⟩) (Nat.le_refl _) nxt
      rcases hl with rfl | rfl
      · exact nxt2
      · exact nxt2
    rw [forS, List.length_cons, Nat.succ_mul, Nat.add_comm (ds.length * c) c]
    exact key t0
theorem resD_all {p : D → Prop} : ∀ {r : RS} {c : Nat}, r.all (fun l => (∃ d, l = .rt d ∧ p d) ∨ ∃ ε, l = .nx ε ∧ p .non) c → (resD r).all p c
  | .nx ε, c, h => by
    rcases h with ⟨d, e, h⟩ | ⟨ε, e, h⟩
    · cases e
    · exact h
  | .rt d, c, h => by
    rcases h with ⟨d, e, h⟩ | ⟨ε, e, h⟩
    · cases e
      exact h
    · cases e
  | .bk d, c, h => by
    rcases h with ⟨d, e, h⟩ | ⟨ε, e, h⟩ <;> cases e
  | .ct d, c, h => by
    rcases h with ⟨d, e, h⟩ | ⟨ε, e, h⟩ <;> cases e
  | .any P n f, c, h => ⟨h.1, fun d m => resD_all (r := f d) (h.2 d m)⟩
  | .ex _ _, _, h => h
  | .no, _, h => h
/-! ### slots -/
def isU : D → Bool
  | .urn => true
  | _ => false
theorem isU_non : isU .non = false := rfl
theorem isU_bl (x : Bool) : isU (.bl x) = false := rfl
theorem isU_int (x : Int) : isU (.int x) = false := rfl
theorem isU_str (x : Str) : isU (.str x) = false := rfl
theorem isU_lst (x : List D) : isU (.lst x) = false := rfl
theorem isU_tup (x : List D) : isU (.tup x) = false := rfl
theorem isU_dic (x : List (Key × D)) : isU (.dic x) = false := rfl
def nuR : Bool → D → R D
  | true, _ => .no
  | false, d => .ok d
theorem nuR_f (d : D) : nuR false d = .ok d := rfl
def chkP : Option (Option (Bool × D)) → R D
  | some (some (_, d)) => nuR (isU d) d
  | _ => .no
def chkV : Option (Option (Bool × D)) → R D
  | some (some (false, d)) => nuR (isU d) d
  | _ => .no
def chkU : Option (Option (Bool × D)) → R D
  | some (some (false, d)) => .ok d
  | _ => .no
theorem chkP_f (f : Bool) (d : D) : chkP (some (some (f, d))) = nuR (isU d) d := rfl
theorem chkV_f (d : D) : chkV (some (some (false, d))) = nuR (isU d) d := rfl
theorem chkU_f (d : D) : chkU (some (some (false, d))) = .ok d := rfl
theorem rdP_chk {i : Nat} {ε : Env} : rdP i ε = chkP ε[i]? := by
  unfold rdP chkP
  cases ε[i]? with
  | none => rfl
  | some o =>
    cases o with
    | none => rfl
    | some q =>
      obtain ⟨f, d⟩ := q
      cases d <;> rfl
theorem rdV_chk {i : Nat} {ε : Env} : rdV i ε = chkV ε[i]? := by
  unfold rdV chkV
  cases ε[i]? with
  | none => rfl
  | some o =>
    cases o with
    | none => rfl
    | some q =>
      obtain ⟨f, d⟩ := q
      cases f <;> cases d <;> rfl
theorem rdU_chk {i : Nat} {ε : Env} : rdU i ε = chkU ε[i]? := by
  unfold rdU chkU
  cases ε[i]? with
  | none => rfl
  | some o =>
    cases o with
    | none => rfl
    | some q =>
      obtain ⟨f, d⟩ := q
      cases f <;> rfl
/-! ### tuples or lists -/
def sqD : Bool → List D → D
  | true, ds => .tup ds
  | false, ds => .lst ds
theorem isU_sq (b : Bool) (ds : List D) : isU (sqD b ds) = false := by cases b <;> rfl
theorem iter_sq (b : Bool) (ds : List D) : iterD (sqD b ds) = .ok ds := by cases b <;> rfl
theorem items_sq (b : Bool) (ds : List D) : itemsD (sqD b ds) = .ok ds := by cases b <;> rfl
theorem in_sq (b : Bool) (d : D) (ds : List D) : inD d (sqD b ds) = inSeq d ds := by cases b <;> rfl
theorem len_sq (b : Bool) (ds : List D) : lenD [sqD b ds] = .ok (.int ds.length) := by cases b <;> rfl
theorem tup_sq (b : Bool) (ds : List D) : tupD [sqD b ds] = .ok (.tup ds) := by cases b <;> rfl
theorem lst_sq (b : Bool) (ds : List D) : lstD [sqD b ds] = .ok (.lst ds) := by cases b <;> rfl
theorem atI_0 {α : Type} (a : α) (l : List α) : atI (a :: l) 0 = some a := by
  unfold L2.atI L2.ixN
  rw [if_pos (Int.le_refl 0), if_pos (by rw [List.length_cons]; omega)]
  rfl
theorem atI_1 {α : Type} (a b : α) (l : List α) : atI (a :: b :: l) 1 = some b := by
  unfold L2.atI L2.ixN
  rw [if_pos (by decide), if_pos (by rw [List.length_cons, List.length_cons]; omega)]
  rfl
theorem idx_sq0 (b : Bool) (d : D) (ds : List D) : idxD (sqD b (d :: ds)) (.int 0) = .ok d := by
  cases b <;> (unfold sqD idxD; dsimp only; rw [atI_0])
theorem idx_sq1 (b : Bool) (d e : D) (ds : List D) : idxD (sqD b (d :: e :: ds)) (.int 1) = .ok e := by
  cases b <;> (unfold sqD idxD; dsimp only; rw [atI_1])
theorem gT2 {b : Bool} {x y : D} {gs : List D → Env → R Env} {ε : Env} : gT 2 gs (sqD b [x, y]) ε = gs [x, y] ε := by
  unfold gT
  rw [iter_sq]
  rfl
theorem gT2t {x y : D} {gs : List D → Env → R Env} {ε : Env} : gT 2 gs (.tup [x, y]) ε = gs [x, y] ε := rfl
theorem gT2l {x y : D} {gs : List D → Env → R Env} {ε : Env} : gT 2 gs (.lst [x, y]) ε = gs [x, y] ε := rfl
theorem capD_nil : capD [] = .ok [] := rfl
theorem capD_one (a : D) : capD [a] = .ok [a] := rfl
theorem capD_two (a b : D) : capD [a, b] = .ok [a, b] := rfl
theorem capD_three (a b c : D) : capD [a, b, c] = .ok [a, b, c] := rfl
end Fx

/-! from texts to calls -/
namespace Fx
open PySem PySem.Spec PyProof.Rows L2
section
variable {P : Program} {w : World} {K : PySem.W.Frag} {mg : Str → Option Value} {base : Heap} {Φ : Fns} {N ps : List Str} {x : Str} {st : Stmt} {f : Addr} {fd : FuncData} {k : Nat}
theorem ok_fnD {dvs : List V} {kws : List (Str × V)} (F : FunD K x x (defArgs st) (defBody st) (defScope st) dvs kws f fd) (S : FnScope N ps (defScope st)) (hl : ps.length ≤ N.length) (hc : (defBody st).all (cs Φ N (defScope st) 60 60) = true) (hΦ : ∀ y G, Φ y = some G → CalF CX0 k P w K mg base y G) (hb : ∀ y ∈ bltNames, mg y = none) :
    FnOk P w K mg base CX0 (k + 1) f fd ps (spF K mg ps.length (fnD Φ N st)) := by
  refine F.ok S (fun vs H Q E h => ?_) (fun cdv A outer s H vs Q E hr h => ?_)
  · obtain ⟨u, us, m, ds, h1, _⟩ := h
    exact h1
  obtain ⟨u, us, m, ds, h1, h2, h3, h4⟩ := h
  have C : Cn Φ CX0 k N (cxOf CX0 P w K mg base N x (defScope st) f cdv A outer s H E).nox ⟨E, u⟩ := ⟨rfl, rfl, S.nd, hr, fun _ _ _ _ _ _ _ z => z.elim, fun _ _ _ _ _ z => z, hb, hΦ⟩
  refine ⟨_, PSs.nox (g_ss (goodS (M := mutd (defBody st)) S.kind 59 60) C (fun _ => rfl) PassesOwn.never hc), ?_⟩
  obtain ⟨S1, F1⟩ := rs_start (N := N) (by rw [h1]; exact hl) h2 h3
  exact ⟨us, H, us, _, m, S1, F1, res_ok (fun _ _ => rfl) (fun _ _ => rfl) h4⟩
theorem cal0 {F : Fun1} (G : FnOk P w K mg base CX0 k f fd ps (spF K mg F.n F.f)) (hb : Binds K fd ps []) (kp : PySem.W.keepIn K (.ref f) = true) (m : mg x = some (.ref f)) (hk : F.kw = fun _ _ => none) : CalF CX0 k P w K mg base x F :=
  ⟨calP0 G hb kp m, fun _ _ _ e => by
    rw [hk] at e
    cases e⟩
theorem spF_no {n : Nat} : ∀ vs H Q E, ¬ spF K mg n (fun _ => .no) vs H Q E := fun _ _ _ _ ⟨_, _, _, _, _, _, _, w⟩ => w
end
theorem le2 {a b i n : Nat} (m : i ∈ [a, b]) (ha : a < n) (hb : b < n) : i < n := by
  rcases List.mem_cons.mp m with e | m
  · rw [e]
    exact ha
  · rw [List.mem_singleton.mp m]
    exact hb
/-- called with `without` or without it -/
def kwW : List (Nat × List Str × List Nat) := [(1, ["without"], [0, 1]), (0, ["sheet"], [0, 1]), (0, ["without", "sheet"], [1, 0])]
end Fx

/-! all sets of disjoint pairs, one pair after another; no program in it -/
namespace Fx
open PySem PySem.Spec PyProof.Rows L2
theorem sLt_irr (a : Str) : Cx.sLt a a = false := decide_eq_false (List.lt_irrefl _)
theorem sLt_asym {a b : Str} (h : Cx.sLt a b = true) : Cx.sLt b a = false := decide_eq_false fun c => List.lt_irrefl _ (List.lt_trans (of_decide_eq_true h) c)
def djB (p q : Pr) : Bool := !(decide (q.1 = p.1) || decide (q.1 = p.2)) && !(decide (q.2 = p.1) || decide (q.2 = p.2))
theorem djB_iff {p q : Pr} : djB p q = true ↔ dj q p := by
  unfold djB dj
  simp [and_assoc]
def mstep (f : List (List Pr)) (p : Pr) : List (List Pr) := f ++ (f.filter fun m => m.all fun q => djB p q).map fun m => m ++ [p]
def matched (ps : List Pr) : List (List Pr) := ps.foldl mstep [[]]
theorem matched_snoc (ps : List Pr) (p : Pr) : matched (ps ++ [p]) = mstep (matched ps) p := by
  unfold matched
  rw [List.foldl_append]
  rfl
theorem rev_ind {α : Type} {P : List α → Prop} (h0 : P []) (h1 : ∀ l a, P l → P (l ++ [a])) : ∀ l, P l := fun l => by
  have key : ∀ m : List α, P m.reverse := by
    intro m
    induction m with
    | nil => exact h0
    | cons a m ih =>
      rw [List.reverse_cons]
      exact h1 _ _ ih
  have := key l.reverse
  rw [List.reverse_reverse] at this
  exact this
theorem sub_one {α : Type} {a : α} : ∀ {l : List α}, l.Sublist [a] → l = [] ∨ l = [a]
  | [], _ => .inl rfl
  | b :: l, h => by
    cases h with
    | cons _ h => cases h
    | cons_cons _ h =>
      cases h
      exact .inr rfl
theorem matched_iff (ps : List Pr) : ∀ M, M ∈ matched ps ↔ M.Sublist ps ∧ M.Pairwise dj := by
  refine rev_ind (P := fun ps => ∀ M, M ∈ matched ps ↔ M.Sublist ps ∧ M.Pairwise dj) ?_ ?_ ps
  · intro M
    constructor
    · intro m
      rw [List.mem_singleton.mp m]
      exact ⟨.slnil, .nil⟩
    · rintro ⟨s, _⟩
      rw [List.sublist_nil.mp s]
      exact List.mem_singleton.mpr rfl
  · intro ps p ih M
    rw [matched_snoc]
    constructor
    · intro m
      rcases List.mem_append.mp m with m | m
      · obtain ⟨a, b⟩ := (ih M).mp m
        exact ⟨a.trans (List.sublist_append_left _ _), b⟩
      · obtain ⟨M', mm, rfl⟩ := List.mem_map.mp m
        obtain ⟨m1, m2⟩ := List.mem_filter.mp mm
        obtain ⟨a, b⟩ := (ih M').mp m1
        refine ⟨a.append (List.Sublist.refl _), List.pairwise_append.mpr ⟨b, List.pairwise_singleton _ _, fun q mq c mc => ?_⟩⟩
        rw [List.mem_singleton.mp mc]
        exact djB_iff.mp (List.all_eq_true.mp m2 q mq)
    · rintro ⟨s, pw⟩
      obtain ⟨a, b, e, sa, sb⟩ := List.sublist_append_iff.mp s
      subst e
      have pa := List.pairwise_append.mp pw
      have m1 : a ∈ matched ps := (ih a).mpr ⟨sa, pa.1⟩
      rcases sub_one sb with e | e
      · subst e
        rw [List.append_nil]
        exact List.mem_append_left _ m1
      · subst e
        refine List.mem_append_right _ (List.mem_map.mpr ⟨a, List.mem_filter.mpr ⟨m1, List.all_eq_true.mpr fun q mq => djB_iff.mpr (pa.2.2 q mq p List.mem_cons_self)⟩, rfl⟩)
theorem nil_matched (ps : List Pr) : [] ∈ matched ps := (matched_iff ps []).mpr ⟨List.nil_sublist _, .nil⟩
/-- these pairs, in their order -/
theorem in_order : ∀ {pairs M : List Pr}, M.Nodup → (∀ p ∈ M, p ∈ pairs) → ∃ N : List Pr, N.Sublist pairs ∧ N.Perm M
  | [], M, _, h => by
    cases M with
    | nil => exact ⟨[], .slnil, .refl _⟩
    | cons p M => exact absurd (h p List.mem_cons_self) List.not_mem_nil
  | p :: ps, M, nd, h => by
    by_cases c : p ∈ M
    · have nd2 : (M.erase p).Nodup := nd.sublist List.erase_sublist
      obtain ⟨N, s, pm⟩ := in_order (pairs := ps) (M := M.erase p) nd2 fun q mq => by
        have mq2 := List.mem_of_mem_erase mq
        rcases List.mem_cons.mp (h q mq2) with e | e
        · rw [e] at mq
          exact absurd rfl ((List.Nodup.mem_erase_iff nd).mp mq).1
        · exact e
      exact ⟨p :: N, s.cons_cons p, (pm.cons p).trans (List.perm_cons_erase c).symm⟩
    · obtain ⟨N, s, pm⟩ := in_order (pairs := ps) nd fun q mq => (List.mem_cons.mp (h q mq)).resolve_left fun e => c (e ▸ mq)
      exact ⟨N, s.cons p, pm⟩
def ones (_ : Str) : Int := 1
theorem wsum_ones : ∀ M : List Pr, wsum ones M = 2 * (M.length : Int)
  | [] => rfl
  | p :: M => by
    rw [wsum_cons, wsum_ones M, List.length_cons]
    show (1 : Int) + 1 + _ = _
    omega
abbrev AscN (names : List Str) : Prop := names.Pairwise fun a b => Cx.sLt a b = true
theorem asc_nd {names : List Str} (ha : AscN names) : names.Nodup := ha.imp fun {a b} q e => by
  rw [e, sLt_irr] at q
  cases q
/-- the longest of all sets of disjoint pairs is as long as what the recursion tells -/
theorem best_len {ps pr : List Pr} {names : List Str} (hm : ∀ p, p ∈ ps ↔ p ∈ pr) (ho : ∀ p ∈ ps, Cx.sLt p.1 p.2 = true) (hn : ∀ p ∈ ps, p.1 ∈ names ∧ p.2 ∈ names) (ha : AscN names) :
    (∀ M ∈ matched ps, 2 * (M.length : Int) ≤ gS pr ones names) ∧ ∃ M ∈ matched ps, 2 * (M.length : Int) = gS pr ones names := by
  refine ⟨fun M m => ?_, ?_⟩
  · obtain ⟨s, pw⟩ := (matched_iff ps M).mp m
    rw [← wsum_ones]
    exact gS_top (lt := fun a b => Cx.sLt a b = true) (fun a c => by rw [sLt_irr] at c; cases c) (fun a b c d => by rw [sLt_asym c] at d; cases d) (fun p mp => ho p ((hm p).mpr mp)) names.length (Nat.le_refl _) ha ⟨fun p mpm => (hm p).mp (s.subset mpm), fun p mpm => hn p (s.subset mpm), pw⟩
  · obtain ⟨M, hM, l⟩ := gS_some (pr := pr) (wt := ones) names.length (Nat.le_refl _) (asc_nd ha)
    have ndM : M.Nodup := hM.pw.imp fun {a b} q e => q.1 (by rw [e])
    obtain ⟨N, s, pm⟩ := in_order (pairs := ps) ndM fun p m => (hm p).mpr (hM.inP p m)
    exact ⟨N, (matched_iff ps N).mpr ⟨s, (pm.pairwise_iff fun {a b} q => dj_symm q).mpr hM.pw⟩, by rw [← wsum_ones, wsum_perm pm, l]⟩
/-! ### how many there are -/
def am : Nat → List Str → List (List Pr)
  | 0, _ => [[]]
  | _ + 1, [] => [[]]
  | k + 1, x :: r => am k r ++ (r.map fun o => (am k (r.filter fun z => decide (z ≠ o))).map ((x, o) :: ·)).flatten
theorem am_mem {ps : List Pr} (ho : ∀ p ∈ ps, Cx.sLt p.1 p.2 = true) : ∀ (k : Nat) {names : List Str} {M : List Pr}, names.length ≤ k → AscN names → Mt ps names M → ∃ N ∈ am k names, N.Perm M
  | 0, [], M, _, _, h => by
    cases M with
    | nil => exact ⟨[], List.mem_singleton.mpr rfl, .refl _⟩
    | cons p M => exact absurd (h.inN p List.mem_cons_self).1 List.not_mem_nil
  | 0, x :: r, M, hk, _, _ => absurd hk (Nat.not_succ_le_zero _)
  | k + 1, [], M, _, _, h => by
    cases M with
    | nil => exact ⟨[], List.mem_singleton.mpr rfl, .refl _⟩
    | cons p M => exact absurd (h.inN p List.mem_cons_self).1 List.not_mem_nil
  | k + 1, x :: r, M, hk, ha, h => by
    have hc := List.pairwise_cons.mp ha
    have hk2 : r.length ≤ k := Nat.le_of_succ_le_succ hk
    by_cases e : ∃ p ∈ M, p.1 = x
    · obtain ⟨p, mpm, e⟩ := e
      have hp := h.inN p mpm
      have lt := ho p (h.inP p mpm)
      have m2 : p.2 ∈ r := by
        rcases List.mem_cons.mp hp.2 with c | c
        · rw [e, c, sLt_irr] at lt
          cases lt
        · exact c
      have pm : M.Perm (p :: M.erase p) := List.perm_cons_erase mpm
      have pw2 : (p :: M.erase p).Pairwise dj := (pm.pairwise_iff fun {a b} q => dj_symm q).mp h.pw
      have pc := List.pairwise_cons.mp pw2
      have hM : Mt ps (r.filter fun z => decide (z ≠ p.2)) (M.erase p) := by
        refine ⟨fun q mq => h.inP q (List.mem_of_mem_erase mq), fun q mq => ?_, pc.2⟩
        obtain ⟨d1, d2, d3, d4⟩ := pc.1 q mq
        obtain ⟨n1, n2⟩ := h.inN q (List.mem_of_mem_erase mq)
        refine ⟨List.mem_filter.mpr ⟨?_, by simpa using d3.symm⟩, List.mem_filter.mpr ⟨?_, by simpa using d4.symm⟩⟩
        · exact (List.mem_cons.mp n1).resolve_left fun c => d1 (by rw [e, c])
        · exact (List.mem_cons.mp n2).resolve_left fun c => d2 (by rw [e, c])
      obtain ⟨N, mN, pN⟩ := am_mem ho k (names := r.filter fun z => decide (z ≠ p.2)) (Nat.le_trans (List.length_filter_le _ _) hk2) (hc.2.sublist List.filter_sublist) hM
      refine ⟨(x, p.2) :: N, List.mem_append_right _ (List.mem_flatten.mpr ⟨_, List.mem_map.mpr ⟨p.2, m2, rfl⟩, List.mem_map.mpr ⟨N, mN, rfl⟩⟩), ?_⟩
      rw [show (x, p.2) = p by rw [← e]]
      exact (pN.cons p).trans pm.symm
    · have hM : Mt ps r M := by
        refine ⟨h.inP, fun p mpm => ?_, h.pw⟩
        obtain ⟨n1, n2⟩ := h.inN p mpm
        have m1 : p.1 ∈ r := (List.mem_cons.mp n1).resolve_left fun c => e ⟨p, mpm, c⟩
        refine ⟨m1, (List.mem_cons.mp n2).resolve_left fun c => ?_⟩
        have l1 := ho p (h.inP p mpm)
        have l2 := hc.1 p.1 m1
        rw [c] at l1
        rw [sLt_asym l1] at l2
        cases l2
      obtain ⟨N, mN, pN⟩ := am_mem ho k hk2 hc.2 hM
      exact ⟨N, List.mem_append_left _ mN, pN⟩
def cM : Nat → Nat
  | 0 => 1
  | 1 => 1
  | n + 2 => cM (n + 1) + (n + 1) * cM n
theorem cM_step : ∀ n, cM n ≤ cM (n + 1)
  | 0 => Nat.le_refl _
  | n + 1 => Nat.le_add_right _ _
theorem cM_mono {a b : Nat} (h : a ≤ b) : cM a ≤ cM b := by
  induction h with
  | refl => exact Nat.le_refl _
  | step _ ih => exact Nat.le_trans ih (cM_step _)
theorem flat_max {α β : Type} {f : α → List β} {k : Nat} : ∀ {l : List α}, (∀ x ∈ l, (f x).length ≤ k) → ((l.map f).flatten).length ≤ l.length * k
  | [], _ => Nat.zero_le _
  | x :: l, h => by
    have h1 := h x List.mem_cons_self
    have h2 := flat_max (l := l) fun y m => h y (List.mem_cons_of_mem _ m)
    rw [List.map_cons, List.flatten_cons, List.length_append, List.length_cons, Nat.succ_mul]
    omega
theorem filt_lt {o : Str} : ∀ {r : List Str}, o ∈ r → (r.filter fun z => decide (z ≠ o)).length + 1 ≤ r.length
  | a :: r, m => by
    by_cases e : a = o
    · rw [List.filter_cons_of_neg (by simp [e])]
      exact Nat.succ_le_succ (List.length_filter_le _ _)
    · rw [List.filter_cons_of_pos (by simp [e])]
      exact Nat.succ_le_succ (filt_lt ((List.mem_cons.mp m).resolve_left fun c => e c.symm))
theorem am_len : ∀ (k : Nat) (names : List Str), (am k names).length ≤ cM names.length
  | 0, names => cM_mono (Nat.zero_le _)
  | k + 1, [] => Nat.le_refl _
  | k + 1, x :: r => by
    show (am k r ++ _).length ≤ cM (r.length + 1)
    rw [List.length_append]
    have h1 := am_len k r
    cases r with
    | nil => exact h1
    | cons y r =>
      have h2 := flat_max (f := fun o => (am k ((y :: r).filter fun z => decide (z ≠ o))).map ((x, o) :: ·)) (k := cM r.length) (l := y :: r) fun o mo => by
        rw [List.length_map]
        exact Nat.le_trans (am_len k _) (cM_mono (by have := filt_lt mo; rw [List.length_cons] at this; omega))
      show _ ≤ cM (r.length + 1) + (r.length + 1) * cM r.length
      exact Nat.add_le_add h1 h2
theorem matched_nd : ∀ {ps : List Pr}, ps.Nodup → (matched ps).Nodup := fun {ps} => by
  refine rev_ind (P := fun ps => ps.Nodup → (matched ps).Nodup) ?_ ?_ ps
  · intro _
    exact List.pairwise_singleton _ _
  · intro ps p ih nd
    obtain ⟨n1, n2, n3⟩ := List.nodup_append.mp nd
    rw [matched_snoc]
    unfold mstep
    refine List.nodup_append.mpr ⟨ih n1, List.pairwise_map.mpr (((ih n1).sublist List.filter_sublist).imp fun {a b} n e => n (List.append_cancel_right e)), fun a ma b mb e => ?_⟩
    obtain ⟨c, mc, rfl⟩ := List.mem_map.mp mb
    subst e
    have := ((matched_iff ps _).mp ma).1.subset (List.mem_append_right c (List.mem_singleton.mpr rfl))
    exact n3 p this p (List.mem_singleton.mpr rfl) rfl
theorem sub_flt : ∀ {ps M : List Pr}, ps.Nodup → M.Sublist ps → ps.filter (fun p => decide (p ∈ M)) = M
  | [], M, _, s => by
    rw [List.sublist_nil.mp s]
    rfl
  | p :: ps, M, nd, s => by
    obtain ⟨n1, n2⟩ := List.nodup_cons.mp nd
    cases s with
    | cons _ s =>
      rw [List.filter_cons_of_neg (by simpa using fun m => n1 (s.subset m))]
      exact sub_flt n2 s
    | cons_cons _ s =>
      rename_i M
      rw [List.filter_cons_of_pos (by simp)]
      congr 1
      refine Eq.trans (List.filter_congr fun q mq => ?_) (sub_flt n2 s)
      have : q ≠ p := fun e => n1 (e ▸ mq)
      simp [this]
theorem matched_len {ps : List Pr} {names : List Str} (nd : ps.Nodup) (ho : ∀ p ∈ ps, Cx.sLt p.1 p.2 = true) (hn : ∀ p ∈ ps, p.1 ∈ names ∧ p.2 ∈ names) (ha : AscN names) : (matched ps).length ≤ cM names.length := by
  refine Nat.le_trans (nodup_le (m := (am names.length names).map fun N => ps.filter fun p => decide (p ∈ N)) (matched_nd nd) fun M mM => ?_) (by rw [List.length_map]; exact am_len _ _)
  obtain ⟨s, pw⟩ := (matched_iff ps M).mp mM
  obtain ⟨N, mN, pN⟩ := am_mem ho names.length (Nat.le_refl _) ha ⟨fun p m => s.subset m, fun p m => hn p (s.subset m), pw⟩
  refine List.mem_map.mpr ⟨N, mN, ?_⟩
  refine Eq.trans (List.filter_congr fun q mq => ?_) (sub_flt nd s)
  exact decide_eq_decide.mpr pN.mem_iff
end Fx

/-! what the program's words come to: sheets -/
namespace Fx
open PySem PySem.Spec PyProof.Rows L2
theorem idxD_dic {wk : List (Key × D)} {z : Str} {d : D} (h : lookD wk (.inr z) = some d) : idxD (.dic wk) (.str z) = .ok d := by
  show (match lookD wk (.inr z) with | some d => R.ok d | none => .no) = _
  rw [h]
abbrev Row := Str × List Str
def rowB (b : Bool) (r : Row) : D := sqD b [.str r.1, sqD b (r.2.map D.str)]
def shB (b : Bool) (rs : List Row) (es : List Str) : D := sqD b [sqD b (rs.map (rowB b)), sqD b (es.map D.str)]
def nms (rs : List Row) : List Str := rs.map (·.1)
theorem isU_sh {b : Bool} {rs : List Row} {es : List Str} : isU (shB b rs es) = false := isU_sq b _
theorem isU_row {b : Bool} {r : Row} : isU (rowB b r) = false := isU_sq b _
theorem mm (l : List Str) (f : Str → D) : l.map f = l.map f := rfl
/-! ### households -/
def F_households : Fun1 where
  n := 1
  f := fun ds => resD (q_households (argE N_households ds))
theorem s_households {b : Bool} {rs : List Row} {es : List Str} (h : rs.length ≤ cap) : F_households.f [shB b rs es] = .ok (.tup ((nms rs).map D.str)) := by
  show resD (q_households [some (false, shB b rs es), none, none]) = _
  simp only [q_households, qCons, qNil, sSet, sRet, sRetN, sIf, sFor, sOwn, sApp, sExt, sDrop, sNop, sPar2, sPar3, sTgt, sSub, sBrk, sCnt, vC, vTup, vLst, aNil, aCons, aStar, vBin, vCmp, tCmp', vAnd, vOr, tAnd', tOr', tNot', tTru, vNot, vNeg, vIf, vSli, oNo, oSo, mB, vB, vLc, vLc2, vDc, vCall, vCalF, vGet1, vGet2, g1, gNil', gCons', tYes', frzs, frz1, par2, par3, ownD, ownL, rdP_chk, rdV_chk, rdU_chk, chkP_f, chkV_f, chkU_f, gT2, gT2t, gT2l, List.getElem?_cons_zero, List.getElem?_cons_succ, List.set_cons_zero, List.set_cons_succ, isU_non, isU_bl, isU_int, isU_str, isU_lst, isU_tup, isU_dic, isU_sq, nuR_f, ok_bind, any_bind, liftS_ok, liftS_any, seqS_nx, seqS_rt, resD_rt, resD_nx, Bool.false_eq_true, reduceIte, iter_sq, items_sq, idx_sq0, idx_sq1, in_sq, len_sq, tup_sq, lst_sq, wipeE, capD_nil, capD_one, capD_two, capD_three, isU_sh, shB, capD_ok (show (rs.map (rowB b)).length ≤ cap by rw [List.length_map]; exact h)]
  rw [compD_all (h := rowB b) (g := fun r => .str r.1) fun r m => by
    simp only [turnD, qCons, qNil, sSet, sRet, sRetN, sIf, sFor, sOwn, sApp, sExt, sDrop, sNop, sPar2, sPar3, sTgt, sSub, sBrk, sCnt, vC, vTup, vLst, aNil, aCons, aStar, vBin, vCmp, tCmp', vAnd, vOr, tAnd', tOr', tNot', tTru, vNot, vNeg, vIf, vSli, oNo, oSo, mB, vB, vLc, vLc2, vDc, vCall, vCalF, vGet1, vGet2, g1, gNil', gCons', tYes', frzs, frz1, par2, par3, ownD, ownL, rdP_chk, rdV_chk, rdU_chk, chkP_f, chkV_f, chkU_f, gT2, gT2t, gT2l, List.getElem?_cons_zero, List.getElem?_cons_succ, List.set_cons_zero, List.set_cons_succ, isU_non, isU_bl, isU_int, isU_str, isU_lst, isU_tup, isU_dic, isU_sq, nuR_f, ok_bind, any_bind, liftS_ok, liftS_any, seqS_nx, seqS_rt, resD_rt, resD_nx, Bool.false_eq_true, reduceIte, iter_sq, items_sq, idx_sq0, idx_sq1, in_sq, len_sq, tup_sq, lst_sq, wipeE, capD_nil, capD_one, capD_two, capD_three, rowB, gT2]]
  simp only [ok_bind, tupD, resD_rt, liftS_ok, seqS_rt, nms, List.map_map]
  rfl
theorem c_hh (x : D) : callF F_households [x] = F_households.f [x] := rfl
theorem isU_tups (l : List Str) : isU (.tup (l.map D.str)) = false := rfl
/-! ### must_be_households -/
def F_must_be_households : Fun1 where
  n := 2
  f := fun ds => resD (q_must_be_households F_households (argE N_must_be_households ds))
theorem s_must {b c : Bool} {rs : List Row} {es ns : List Str} (h : rs.length ≤ cap) (hm : ∀ n ∈ ns, n ∈ nms rs) : F_must_be_households.f [shB b rs es, sqD c (ns.map D.str)] = .ok .non := by
  show resD (q_must_be_households F_households [some (false, shB b rs es), some (false, sqD c (ns.map D.str)), none, none]) = _
  simp only [q_must_be_households, qCons, qNil, sSet, sRet, sRetN, sIf, sFor, sOwn, sApp, sExt, sDrop, sNop, sPar2, sPar3, sTgt, sSub, sBrk, sCnt, vC, vTup, vLst, aNil, aCons, aStar, vBin, vCmp, tCmp', vAnd, vOr, tAnd', tOr', tNot', tTru, vNot, vNeg, vIf, vSli, oNo, oSo, mB, vB, vLc, vLc2, vDc, vCall, vCalF, vGet1, vGet2, g1, gNil', gCons', tYes', frzs, frz1, par2, par3, ownD, ownL, rdP_chk, rdV_chk, rdU_chk, chkP_f, chkV_f, chkU_f, gT2, gT2t, gT2l, List.getElem?_cons_zero, List.getElem?_cons_succ, List.set_cons_zero, List.set_cons_succ, isU_non, isU_bl, isU_int, isU_str, isU_lst, isU_tup, isU_dic, isU_sq, nuR_f, ok_bind, any_bind, liftS_ok, liftS_any, seqS_nx, seqS_rt, resD_rt, resD_nx, Bool.false_eq_true, reduceIte, iter_sq, items_sq, idx_sq0, idx_sq1, in_sq, len_sq, tup_sq, lst_sq, wipeE, capD_nil, capD_one, capD_two, capD_three, c_hh, s_households h]
  obtain ⟨ε', e, _⟩ := forS_all (h := D.str) (g := g1 3) (b := qCons (sIf (tCmp' (rdP 3) (rdP 2) fun d e => inD d e >>= fun b => R.ok (!b)) [] (qCons sNo' qNil) qNil) qNil)
    (I := fun _ ε => ∃ o, ε = [some (false, shB b rs es), some (false, sqD c (ns.map D.str)), some (false, .tup ((nms rs).map D.str)), o]) (l := ns) (done := []) ⟨none, rfl⟩ (by
      rintro n mn done ε ⟨o, rfl⟩
      refine ⟨_, [some (false, shB b rs es), some (false, sqD c (ns.map D.str)), some (false, .tup ((nms rs).map D.str)), some (false, .str n)], rfl, .inl ?_, ⟨_, rfl⟩⟩
      simp only [qCons, qNil, sSet, sRet, sRetN, sIf, sFor, sOwn, sApp, sExt, sDrop, sNop, sPar2, sPar3, sTgt, sSub, sBrk, sCnt, vC, vTup, vLst, aNil, aCons, aStar, vBin, vCmp, tCmp', vAnd, vOr, tAnd', tOr', tNot', tTru, vNot, vNeg, vIf, vSli, oNo, oSo, mB, vB, vLc, vLc2, vDc, vCall, vCalF, vGet1, vGet2, g1, gNil', gCons', tYes', frzs, frz1, par2, par3, ownD, ownL, rdP_chk, rdV_chk, rdU_chk, chkP_f, chkV_f, chkU_f, gT2, gT2t, gT2l, List.getElem?_cons_zero, List.getElem?_cons_succ, List.set_cons_zero, List.set_cons_succ, isU_non, isU_bl, isU_int, isU_str, isU_lst, isU_tup, isU_dic, isU_sq, nuR_f, ok_bind, any_bind, liftS_ok, liftS_any, seqS_nx, seqS_rt, resD_rt, resD_nx, Bool.false_eq_true, reduceIte, iter_sq, items_sq, idx_sq0, idx_sq1, in_sq, len_sq, tup_sq, lst_sq, wipeE, capD_nil, capD_one, capD_two, capD_three, inD, in_strs, decide_eq_true (hm n mn), Bool.not_true])
  rw [e]
  rfl
theorem c_mu (x y : D) : callF F_must_be_households [x, y] = F_must_be_households.f [x, y] := rfl
/-! ### wishes_by -/
def wantsOf (rs : List Row) (o : Str) : List Str := ((rs.find? fun r => decide (r.1 = o)).map (·.2)).getD []
theorem wantsOf_in : ∀ {rs : List Row} {r : Row}, (nms rs).Nodup → r ∈ rs → wantsOf rs r.1 = r.2
  | q :: rs, r, nd, m => by
    unfold nms at nd
    obtain ⟨n1, n2⟩ := List.nodup_cons.mp nd
    unfold wantsOf
    rw [List.find?_cons]
    rcases List.mem_cons.mp m with e | m
    · rw [e, decide_eq_true rfl]
      rfl
    · rw [decide_eq_false (fun c => n1 (by show q.1 ∈ _; rw [c]; exact List.mem_map_of_mem m))]
      exact wantsOf_in (rs := rs) n2 m
theorem wantsOf_out {rs : List Row} {o : Str} (h : o ∉ nms rs) : wantsOf rs o = [] := by
  unfold wantsOf
  rw [List.find?_eq_none.mpr fun r m c => h (by rw [← of_decide_eq_true c]; exact List.mem_map_of_mem m)]
  rfl
def wishT (rs : List Row) : List (Key × D) := rs.map fun r => (Sum.inr r.1, D.tup (r.2.map D.str))
theorem keys_nd {rs : List Row} (nd : (nms rs).Nodup) : (rs.map fun r => (Sum.inr r.1 : Key)).Nodup := by
  have := List.pairwise_map.mp nd
  exact List.pairwise_map.mpr (this.imp fun {a b} n c => n (Sum.inr.inj c))
theorem look_wish {rs : List Row} (nd : (nms rs).Nodup) {z : Str} (m : z ∈ nms rs) : lookD (wishT rs) (.inr z) = some (.tup ((wantsOf rs z).map D.str)) := by
  obtain ⟨r, mr, e⟩ := List.mem_map.mp m
  subst e
  rw [wantsOf_in nd mr]
  exact lookD_in (key := fun r : Row => (Sum.inr r.1 : Key)) (val := fun r => D.tup (r.2.map D.str)) (keys_nd nd) mr
theorem look_wishN {rs : List Row} {z : Str} (m : z ∉ nms rs) : lookD (wishT rs) (.inr z) = none :=
  lookD_out (key := fun r : Row => (Sum.inr r.1 : Key)) (val := fun r => D.tup (r.2.map D.str)) fun c => m (by
    obtain ⟨r, mr, e⟩ := List.mem_map.mp c
    rw [← Sum.inr.inj e]
    exact List.mem_map_of_mem mr)
def F_wishes_by : Fun1 where
  n := 1
  f := fun ds => resD (q_wishes_by (argE N_wishes_by ds))
theorem s_wishes {b : Bool} {rs : List Row} {es : List Str} (h : rs.length ≤ cap) (nd : (nms rs).Nodup) : F_wishes_by.f [shB b rs es] = .ok (.dic (wishT rs)) := by
  show resD (q_wishes_by [some (false, shB b rs es), none, none]) = _
  simp only [q_wishes_by, qCons, qNil, sSet, sRet, sRetN, sIf, sFor, sOwn, sApp, sExt, sDrop, sNop, sPar2, sPar3, sTgt, sSub, sBrk, sCnt, vC, vTup, vLst, aNil, aCons, aStar, vBin, vCmp, tCmp', vAnd, vOr, tAnd', tOr', tNot', tTru, vNot, vNeg, vIf, vSli, oNo, oSo, mB, vB, vLc, vLc2, vDc, vCall, vCalF, vGet1, vGet2, g1, gNil', gCons', tYes', frzs, frz1, par2, par3, ownD, ownL, rdP_chk, rdV_chk, rdU_chk, chkP_f, chkV_f, chkU_f, gT2, gT2t, gT2l, List.getElem?_cons_zero, List.getElem?_cons_succ, List.set_cons_zero, List.set_cons_succ, isU_non, isU_bl, isU_int, isU_str, isU_lst, isU_tup, isU_dic, isU_sq, nuR_f, ok_bind, any_bind, liftS_ok, liftS_any, seqS_nx, seqS_rt, resD_rt, resD_nx, Bool.false_eq_true, reduceIte, iter_sq, items_sq, idx_sq0, idx_sq1, in_sq, len_sq, tup_sq, lst_sq, wipeE, capD_nil, capD_one, capD_two, capD_three, isU_sh, shB]
  rw [compK_all (h := rowB b) (key := fun r : Row => Sum.inr r.1) (ky := fun r => .str r.1) (val := fun r => .tup (r.2.map D.str)) (fun r m => ⟨by simp only [turnK, qCons, qNil, sSet, sRet, sRetN, sIf, sFor, sOwn, sApp, sExt, sDrop, sNop, sPar2, sPar3, sTgt, sSub, sBrk, sCnt, vC, vTup, vLst, aNil, aCons, aStar, vBin, vCmp, tCmp', vAnd, vOr, tAnd', tOr', tNot', tTru, vNot, vNeg, vIf, vSli, oNo, oSo, mB, vB, vLc, vLc2, vDc, vCall, vCalF, vGet1, vGet2, g1, gNil', gCons', tYes', frzs, frz1, par2, par3, ownD, ownL, rdP_chk, rdV_chk, rdU_chk, chkP_f, chkV_f, chkU_f, gT2, gT2t, gT2l, List.getElem?_cons_zero, List.getElem?_cons_succ, List.set_cons_zero, List.set_cons_succ, isU_non, isU_bl, isU_int, isU_str, isU_lst, isU_tup, isU_dic, isU_sq, nuR_f, ok_bind, any_bind, liftS_ok, liftS_any, seqS_nx, seqS_rt, resD_rt, resD_nx, Bool.false_eq_true, reduceIte, iter_sq, items_sq, idx_sq0, idx_sq1, in_sq, len_sq, tup_sq, lst_sq, wipeE, capD_nil, capD_one, capD_two, capD_three, rowB], rfl⟩) (by show 0 + rs.length ≤ cap; omega)]
  rw [foldl_put (by show (List.map _ [] ++ _).Nodup; exact keys_nd nd)]
  rfl
theorem c_wi (x : D) : callF F_wishes_by [x] = F_wishes_by.f [x] := rfl
/-! ### suited_to -/
def suiN (rs : List Row) (n : Str) : List Str := (wantsOf rs n).filter fun o => decide (n ∈ wantsOf rs o)
def F_suited_to : Fun1 where
  n := 2
  f := fun ds => resD (q_suited_to F_must_be_households F_wishes_by (argE N_suited_to ds))
structure ShOk (rs : List Row) : Prop where
  len : rs.length ≤ 60
  nd : (nms rs).Nodup
  wl : ∀ r ∈ rs, r.2.length ≤ 60
theorem ShOk.cap {rs : List Row} (O : ShOk rs) : rs.length ≤ Fx.cap := Nat.le_trans O.len (by decide)
theorem ShOk.wants {rs : List Row} (O : ShOk rs) (n : Str) : (wantsOf rs n).length ≤ 60 := by
  by_cases h : n ∈ nms rs
  · obtain ⟨r, m, rfl⟩ := List.mem_map.mp h
    rw [wantsOf_in O.nd m]
    exact O.wl r m
  · rw [wantsOf_out h]
    exact Nat.zero_le _
theorem s_suited {b : Bool} {rs : List Row} {es : List Str} {n : Str} (O : ShOk rs) (m : n ∈ nms rs) : F_suited_to.f [shB b rs es, .str n] = .ok (.tup ((suiN rs n).map D.str)) := by
  have e1 : F_must_be_households.f [shB b rs es, .tup [.str n]] = .ok .non := s_must (c := true) (ns := [n]) O.cap fun z mz => by rw [List.mem_singleton.mp mz]; exact m
  have e2 : idxD (.dic (wishT rs)) (.str n) = .ok (.tup ((wantsOf rs n).map D.str)) := idxD_dic (look_wish O.nd m)
  have e3 : iterD (.tup ((wantsOf rs n).map D.str)) = .ok ((wantsOf rs n).map D.str) := rfl
  show resD (q_suited_to F_must_be_households F_wishes_by [some (false, shB b rs es), some (false, .str n), none, none]) = _
  simp only [q_suited_to, qCons, qNil, sSet, sRet, sRetN, sIf, sFor, sOwn, sApp, sExt, sDrop, sNop, sPar2, sPar3, sTgt, sSub, sBrk, sCnt, vC, vTup, vLst, aNil, aCons, aStar, vBin, vCmp, tCmp', vAnd, vOr, tAnd', tOr', tNot', tTru, vNot, vNeg, vIf, vSli, oNo, oSo, mB, vB, vLc, vLc2, vDc, vCall, vCalF, vGet1, vGet2, g1, gNil', gCons', tYes', frzs, frz1, par2, par3, ownD, ownL, rdP_chk, rdV_chk, rdU_chk, chkP_f, chkV_f, chkU_f, gT2, gT2t, gT2l, List.getElem?_cons_zero, List.getElem?_cons_succ, List.set_cons_zero, List.set_cons_succ, isU_non, isU_bl, isU_int, isU_str, isU_lst, isU_tup, isU_dic, isU_sq, nuR_f, ok_bind, any_bind, liftS_ok, liftS_any, seqS_nx, seqS_rt, resD_rt, resD_nx, Bool.false_eq_true, reduceIte, iter_sq, items_sq, idx_sq0, idx_sq1, in_sq, len_sq, tup_sq, lst_sq, wipeE, capD_nil, capD_one, capD_two, capD_three, c_mu, c_wi, e1, s_wishes O.cap O.nd, e2, e3, capD_ok (show ((wantsOf rs n).map D.str).length ≤ cap by rw [List.length_map]; exact Nat.le_trans (O.wants n) (by decide))]
  rw [compD_flt (h := D.str) (g := D.str) (p := fun o => decide (n ∈ wantsOf rs o)) fun o mo => ?_]
  · rfl
  · have e4 : getD (wishT rs) (.str o) (.tup []) = .ok (.tup ((wantsOf rs o).map D.str)) := by
      show R.ok ((lookD (wishT rs) (.inr o)).getD (.tup [])) = _
      by_cases c : o ∈ nms rs
      · rw [look_wish O.nd c]
        rfl
      · rw [look_wishN c, wantsOf_out c]
        rfl
    have e5 : dicOf (.dic (wishT rs)) = .ok (wishT rs) := rfl
    simp only [turnD, qCons, qNil, sSet, sRet, sRetN, sIf, sFor, sOwn, sApp, sExt, sDrop, sNop, sPar2, sPar3, sTgt, sSub, sBrk, sCnt, vC, vTup, vLst, aNil, aCons, aStar, vBin, vCmp, tCmp', vAnd, vOr, tAnd', tOr', tNot', tTru, vNot, vNeg, vIf, vSli, oNo, oSo, mB, vB, vLc, vLc2, vDc, vCall, vCalF, vGet1, vGet2, g1, gNil', gCons', tYes', frzs, frz1, par2, par3, ownD, ownL, rdP_chk, rdV_chk, rdU_chk, chkP_f, chkV_f, chkU_f, gT2, gT2t, gT2l, List.getElem?_cons_zero, List.getElem?_cons_succ, List.set_cons_zero, List.set_cons_succ, isU_non, isU_bl, isU_int, isU_str, isU_lst, isU_tup, isU_dic, isU_sq, nuR_f, ok_bind, any_bind, liftS_ok, liftS_any, seqS_nx, seqS_rt, resD_rt, resD_nx, Bool.false_eq_true, reduceIte, iter_sq, items_sq, idx_sq0, idx_sq1, in_sq, len_sq, tup_sq, lst_sq, wipeE, capD_nil, capD_one, capD_two, capD_three, e4, e5, inD, in_strs]
    cases decide (n ∈ wantsOf rs o) <;> rfl
theorem c_su (x y : D) : callF F_suited_to [x, y] = F_suited_to.f [x, y] := rfl
/-! ### suiting -/
def withoutN (rs : List Row) (gone : List Str) : List Str := (nms rs).filter fun z => !decide (z ∈ gone)
def suitOf (rs : List Row) (nm : List Str) (n : Str) : List Pr := ((suiN rs n).filter fun o => Cx.sLt n o && decide (o ∈ nm)).map fun o => (n, o)
def suitN (rs : List Row) (nm : List Str) : List Pr := (nm.map (suitOf rs nm)).flatten
def F0_suiting (ds : List D) : R D := resD (q_suiting F_must_be_households F_households F_suited_to (argE N_suiting ds))
def F_suiting : Fun1 where
  n := 1
  f := fun ds => F0_suiting (ds ++ [.tup []])
  kw := kwT F0_suiting [.tup []] kwW
theorem flat_le {α β : Type} {f : α → List β} {k : Nat} : ∀ {l : List α}, (∀ x ∈ l, (f x).length ≤ k) → ((l.map f).flatten).length ≤ l.length * k
  | [], _ => Nat.zero_le _
  | x :: l, h => by
    have h1 := h x List.mem_cons_self
    have h2 := flat_le (l := l) fun y m => h y (List.mem_cons_of_mem _ m)
    rw [List.map_cons, List.flatten_cons, List.length_append, List.length_cons, Nat.succ_mul]
    omega
theorem s_suiting {b c : Bool} {rs : List Row} {es gone : List Str} (O : ShOk rs) (hg : ∀ n ∈ gone, n ∈ nms rs) : F0_suiting [shB b rs es, sqD c (gone.map D.str)] = .ok (.lst ((suitN rs (withoutN rs gone)).map prD)) := by
  have e1 : F_must_be_households.f [shB b rs es, sqD c (gone.map D.str)] = .ok .non := s_must O.cap hg
  have nl : (nms rs).length ≤ 60 := by unfold nms; rw [List.length_map]; exact O.len
  have wl : (withoutN rs gone).length ≤ 60 := Nat.le_trans (List.length_filter_le _ _) nl
  have e2 : capD ((nms rs).map D.str) = .ok ((nms rs).map D.str) := capD_ok (by rw [List.length_map]; exact Nat.le_trans nl (by decide))
  have e3 : capD ((withoutN rs gone).map D.str) = .ok ((withoutN rs gone).map D.str) := capD_ok (by rw [List.length_map]; exact Nat.le_trans wl (by decide))
  have i1 : ∀ l : List Str, iterD (.tup (l.map D.str)) = .ok (l.map D.str) := fun _ => rfl
  have i2 : ∀ l : List Str, iterD (.lst (l.map D.str)) = .ok (l.map D.str) := fun _ => rfl
  show resD (q_suiting F_must_be_households F_households F_suited_to [some (false, shB b rs es), some (false, sqD c (gone.map D.str)), none, none, none, none]) = _
  simp only [q_suiting, qCons, qNil, sSet, sRet, sRetN, sIf, sFor, sOwn, sApp, sExt, sDrop, sNop, sPar2, sPar3, sTgt, sSub, sBrk, sCnt, vC, vTup, vLst, aNil, aCons, aStar, vBin, vCmp, tCmp', vAnd, vOr, tAnd', tOr', tNot', tTru, vNot, vNeg, vIf, vSli, oNo, oSo, mB, vB, vLc, vLc2, vDc, vCall, vCalF, vGet1, vGet2, g1, gNil', gCons', tYes', frzs, frz1, par2, par3, ownD, ownL, rdP_chk, rdV_chk, rdU_chk, chkP_f, chkV_f, chkU_f, gT2, gT2t, gT2l, List.getElem?_cons_zero, List.getElem?_cons_succ, List.set_cons_zero, List.set_cons_succ, isU_non, isU_bl, isU_int, isU_str, isU_lst, isU_tup, isU_dic, isU_sq, nuR_f, ok_bind, any_bind, liftS_ok, liftS_any, seqS_nx, seqS_rt, resD_rt, resD_nx, Bool.false_eq_true, reduceIte, iter_sq, items_sq, idx_sq0, idx_sq1, in_sq, len_sq, tup_sq, lst_sq, wipeE, capD_nil, capD_one, capD_two, capD_three, c_mu, c_hh, e1, s_households O.cap, i1, e2]
  rw [compD_flt (h := D.str) (g := D.str) (p := fun o => !decide (o ∈ gone)) fun o mo => by
    simp only [turnD, qCons, qNil, sSet, sRet, sRetN, sIf, sFor, sOwn, sApp, sExt, sDrop, sNop, sPar2, sPar3, sTgt, sSub, sBrk, sCnt, vC, vTup, vLst, aNil, aCons, aStar, vBin, vCmp, tCmp', vAnd, vOr, tAnd', tOr', tNot', tTru, vNot, vNeg, vIf, vSli, oNo, oSo, mB, vB, vLc, vLc2, vDc, vCall, vCalF, vGet1, vGet2, g1, gNil', gCons', tYes', frzs, frz1, par2, par3, ownD, ownL, rdP_chk, rdV_chk, rdU_chk, chkP_f, chkV_f, chkU_f, gT2, gT2t, gT2l, List.getElem?_cons_zero, List.getElem?_cons_succ, List.set_cons_zero, List.set_cons_succ, isU_non, isU_bl, isU_int, isU_str, isU_lst, isU_tup, isU_dic, isU_sq, nuR_f, ok_bind, any_bind, liftS_ok, liftS_any, seqS_nx, seqS_rt, resD_rt, resD_nx, Bool.false_eq_true, reduceIte, iter_sq, items_sq, idx_sq0, idx_sq1, in_sq, len_sq, tup_sq, lst_sq, wipeE, capD_nil, capD_one, capD_two, capD_three, in_strs]
    cases decide (o ∈ gone) <;> rfl]
  simp only [qCons, qNil, sSet, sRet, sRetN, sIf, sFor, sOwn, sApp, sExt, sDrop, sNop, sPar2, sPar3, sTgt, sSub, sBrk, sCnt, vC, vTup, vLst, aNil, aCons, aStar, vBin, vCmp, tCmp', vAnd, vOr, tAnd', tOr', tNot', tTru, vNot, vNeg, vIf, vSli, oNo, oSo, mB, vB, vLc, vLc2, vDc, vCall, vCalF, vGet1, vGet2, g1, gNil', gCons', tYes', frzs, frz1, par2, par3, ownD, ownL, rdP_chk, rdV_chk, rdU_chk, chkP_f, chkV_f, chkU_f, gT2, gT2t, gT2l, List.getElem?_cons_zero, List.getElem?_cons_succ, List.set_cons_zero, List.set_cons_succ, isU_non, isU_bl, isU_int, isU_str, isU_lst, isU_tup, isU_dic, isU_sq, nuR_f, ok_bind, any_bind, liftS_ok, liftS_any, seqS_nx, seqS_rt, resD_rt, resD_nx, Bool.false_eq_true, reduceIte, iter_sq, items_sq, idx_sq0, idx_sq1, in_sq, len_sq, tup_sq, lst_sq, wipeE, capD_nil, capD_one, capD_two, capD_three, i2, show (nms rs).filter (fun o => !decide (o ∈ gone)) = withoutN rs gone from rfl]
  rw [compL_all (h := D.str) (g := fun n => (suitOf rs (withoutN rs gone) n).map prD) (fun n mn => ?hx) ?hl]
  · simp only [qCons, qNil, sSet, sRet, sRetN, sIf, sFor, sOwn, sApp, sExt, sDrop, sNop, sPar2, sPar3, sTgt, sSub, sBrk, sCnt, vC, vTup, vLst, aNil, aCons, aStar, vBin, vCmp, tCmp', vAnd, vOr, tAnd', tOr', tNot', tTru, vNot, vNeg, vIf, vSli, oNo, oSo, mB, vB, vLc, vLc2, vDc, vCall, vCalF, vGet1, vGet2, g1, gNil', gCons', tYes', frzs, frz1, par2, par3, ownD, ownL, rdP_chk, rdV_chk, rdU_chk, chkP_f, chkV_f, chkU_f, gT2, gT2t, gT2l, List.getElem?_cons_zero, List.getElem?_cons_succ, List.set_cons_zero, List.set_cons_succ, isU_non, isU_bl, isU_int, isU_str, isU_lst, isU_tup, isU_dic, isU_sq, nuR_f, ok_bind, any_bind, liftS_ok, liftS_any, seqS_nx, seqS_rt, resD_rt, resD_nx, Bool.false_eq_true, reduceIte, iter_sq, items_sq, idx_sq0, idx_sq1, in_sq, len_sq, tup_sq, lst_sq, wipeE, capD_nil, capD_one, capD_two, capD_three, suitN, List.map_flatten, List.map_map]
    rfl
  case hx =>
    have mn' : n ∈ nms rs := (List.mem_filter.mp mn).1
    have e4 : capD ((suiN rs n).map D.str) = .ok ((suiN rs n).map D.str) := capD_ok (by rw [List.length_map]; exact Nat.le_trans (List.length_filter_le _ _) (Nat.le_trans (O.wants n) (by decide)))
    simp only [turn2, qCons, qNil, sSet, sRet, sRetN, sIf, sFor, sOwn, sApp, sExt, sDrop, sNop, sPar2, sPar3, sTgt, sSub, sBrk, sCnt, vC, vTup, vLst, aNil, aCons, aStar, vBin, vCmp, tCmp', vAnd, vOr, tAnd', tOr', tNot', tTru, vNot, vNeg, vIf, vSli, oNo, oSo, mB, vB, vLc, vLc2, vDc, vCall, vCalF, vGet1, vGet2, g1, gNil', gCons', tYes', frzs, frz1, par2, par3, ownD, ownL, rdP_chk, rdV_chk, rdU_chk, chkP_f, chkV_f, chkU_f, gT2, gT2t, gT2l, List.getElem?_cons_zero, List.getElem?_cons_succ, List.set_cons_zero, List.set_cons_succ, isU_non, isU_bl, isU_int, isU_str, isU_lst, isU_tup, isU_dic, isU_sq, nuR_f, ok_bind, any_bind, liftS_ok, liftS_any, seqS_nx, seqS_rt, resD_rt, resD_nx, Bool.false_eq_true, reduceIte, iter_sq, items_sq, idx_sq0, idx_sq1, in_sq, len_sq, tup_sq, lst_sq, wipeE, capD_nil, capD_one, capD_two, capD_three, c_su, s_suited O mn', i1, e4]
    rw [compD_flt (h := D.str) (g := fun o => prD (n, o)) (p := fun o => Cx.sLt n o && decide (o ∈ withoutN rs gone)) fun o mo => ?_]
    · unfold suitOf
      rw [List.map_map]
      rfl
    · simp only [turnD, qCons, qNil, sSet, sRet, sRetN, sIf, sFor, sOwn, sApp, sExt, sDrop, sNop, sPar2, sPar3, sTgt, sSub, sBrk, sCnt, vC, vTup, vLst, aNil, aCons, aStar, vBin, vCmp, tCmp', vAnd, vOr, tAnd', tOr', tNot', tTru, vNot, vNeg, vIf, vSli, oNo, oSo, mB, vB, vLc, vLc2, vDc, vCall, vCalF, vGet1, vGet2, g1, gNil', gCons', tYes', frzs, frz1, par2, par3, ownD, ownL, rdP_chk, rdV_chk, rdU_chk, chkP_f, chkV_f, chkU_f, gT2, gT2t, gT2l, List.getElem?_cons_zero, List.getElem?_cons_succ, List.set_cons_zero, List.set_cons_succ, isU_non, isU_bl, isU_int, isU_str, isU_lst, isU_tup, isU_dic, isU_sq, nuR_f, ok_bind, any_bind, liftS_ok, liftS_any, seqS_nx, seqS_rt, resD_rt, resD_nx, Bool.false_eq_true, reduceIte, iter_sq, items_sq, idx_sq0, idx_sq1, in_sq, len_sq, tup_sq, lst_sq, wipeE, capD_nil, capD_one, capD_two, capD_three, ltD, inD, in_strs]
      by_cases hlt : n.cps.toList < o.cps.toList
      · rw [show Cx.sLt n o = true from decide_eq_true hlt, decide_eq_true hlt]
        simp only [qCons, qNil, sSet, sRet, sRetN, sIf, sFor, sOwn, sApp, sExt, sDrop, sNop, sPar2, sPar3, sTgt, sSub, sBrk, sCnt, vC, vTup, vLst, aNil, aCons, aStar, vBin, vCmp, tCmp', vAnd, vOr, tAnd', tOr', tNot', tTru, vNot, vNeg, vIf, vSli, oNo, oSo, mB, vB, vLc, vLc2, vDc, vCall, vCalF, vGet1, vGet2, g1, gNil', gCons', tYes', frzs, frz1, par2, par3, ownD, ownL, rdP_chk, rdV_chk, rdU_chk, chkP_f, chkV_f, chkU_f, gT2, gT2t, gT2l, List.getElem?_cons_zero, List.getElem?_cons_succ, List.set_cons_zero, List.set_cons_succ, isU_non, isU_bl, isU_int, isU_str, isU_lst, isU_tup, isU_dic, isU_sq, nuR_f, ok_bind, any_bind, liftS_ok, liftS_any, seqS_nx, seqS_rt, resD_rt, resD_nx, Bool.false_eq_true, reduceIte, iter_sq, items_sq, idx_sq0, idx_sq1, in_sq, len_sq, tup_sq, lst_sq, wipeE, capD_nil, capD_one, capD_two, capD_three, Bool.true_and]
        cases decide (o ∈ withoutN rs gone) <;> rfl
      · rw [show Cx.sLt n o = false from decide_eq_false hlt, decide_eq_false hlt]
        rfl
  case hl =>
    rw [Nat.zero_add]
    refine Nat.le_trans (flat_le (k := 60) fun n _ => ?_) (Nat.le_trans (Nat.mul_le_mul_right 60 wl) (by decide))
    rw [List.length_map]
    unfold suitOf
    rw [List.length_map]
    exact Nat.le_trans (List.length_filter_le _ _) (Nat.le_trans (List.length_filter_le _ _) (O.wants n))
/-! ### the most -/
theorem gsum_congr {pr : List Pr} {wt wt' : Str → Int} : ∀ (k : Nat) {names : List Str}, (∀ z ∈ names, wt z = wt' z) → gsum pr wt k names = gsum pr wt' k names
  | 0, _, _ => rfl
  | _ + 1, [], _ => rfl
  | _ + 1, [_], _ => rfl
  | k + 1, x :: y :: r, h => by
    have h1 : ∀ z ∈ y :: r, wt z = wt' z := fun z m => h z (List.mem_cons_of_mem _ m)
    show maxI (gsum pr wt k (y :: r) :: _) = maxI (gsum pr wt' k (y :: r) :: _)
    rw [gsum_congr k h1]
    congr 2
    refine List.map_congr_left fun o mo => ?_
    rw [h x List.mem_cons_self, h1 o ((List.mem_filter.mp mo).1), gsum_congr k fun z m => h1 z ((List.mem_filter.mp m).1)]
def F_greatest_sum : Fun1 := { n := 3, f := gsF }
theorem c_gs (x y z : D) : callF F_greatest_sum [x, y, z] = gsF [x, y, z] := rfl
def F_most_paired : Fun1 where
  n := 2
  f := fun ds => resD (q_most_paired F_greatest_sum (argE N_most_paired ds))
theorem look_ones {ns : List Str} {z : Str} (nd : ns.Nodup) (m : z ∈ ns) : lookD (ns.map fun z => ((Sum.inr z : Key), D.int 1)) (.inr z) = some (.int 1) :=
  lookD_in (key := fun z : Str => (Sum.inr z : Key)) (val := fun _ => D.int 1) (List.pairwise_map.mpr (nd.imp fun {a b} n c => n (Sum.inr.inj c))) m
theorem s_most_paired {c : Bool} {ns : List Str} {ps : List Pr} (nd : ns.Nodup) (hl : ns.length ≤ 12) (ho : ∀ n ∈ ns, PyData.strOk n = true) (hp : ∀ p ∈ ps, okPr p = true) : F_most_paired.f [sqD c (ns.map D.str), .lst (ps.map prD)] = .ok (.int (gS ps ones ns)) := by
  show resD (q_most_paired F_greatest_sum [some (false, sqD c (ns.map D.str)), some (false, .lst (ps.map prD)), none]) = _
  simp only [q_most_paired, qCons, qNil, sSet, sRet, sRetN, sIf, sFor, sOwn, sApp, sExt, sDrop, sNop, sPar2, sPar3, sTgt, sSub, sBrk, sCnt, vC, vTup, vLst, aNil, aCons, aStar, vBin, vCmp, tCmp', vAnd, vOr, tAnd', tOr', tNot', tTru, vNot, vNeg, vIf, vSli, oNo, oSo, mB, vB, vLc, vLc2, vDc, vCall, vCalF, vGet1, vGet2, g1, gNil', gCons', tYes', frzs, frz1, par2, par3, ownD, ownL, rdP_chk, rdV_chk, rdU_chk, chkP_f, chkV_f, chkU_f, gT2, gT2t, gT2l, List.getElem?_cons_zero, List.getElem?_cons_succ, List.set_cons_zero, List.set_cons_succ, isU_non, isU_bl, isU_int, isU_str, isU_lst, isU_tup, isU_dic, isU_sq, nuR_f, ok_bind, any_bind, liftS_ok, liftS_any, seqS_nx, seqS_rt, resD_rt, resD_nx, Bool.false_eq_true, reduceIte, iter_sq, items_sq, idx_sq0, idx_sq1, in_sq, len_sq, tup_sq, lst_sq, wipeE, capD_nil, capD_one, capD_two, capD_three]
  rw [compK_all (h := D.str) (key := fun z : Str => Sum.inr z) (ky := D.str) (val := fun _ => .int 1) (fun z m => ⟨by simp only [turnK, qCons, qNil, sSet, sRet, sRetN, sIf, sFor, sOwn, sApp, sExt, sDrop, sNop, sPar2, sPar3, sTgt, sSub, sBrk, sCnt, vC, vTup, vLst, aNil, aCons, aStar, vBin, vCmp, tCmp', vAnd, vOr, tAnd', tOr', tNot', tTru, vNot, vNeg, vIf, vSli, oNo, oSo, mB, vB, vLc, vLc2, vDc, vCall, vCalF, vGet1, vGet2, g1, gNil', gCons', tYes', frzs, frz1, par2, par3, ownD, ownL, rdP_chk, rdV_chk, rdU_chk, chkP_f, chkV_f, chkU_f, gT2, gT2t, gT2l, List.getElem?_cons_zero, List.getElem?_cons_succ, List.set_cons_zero, List.set_cons_succ, isU_non, isU_bl, isU_int, isU_str, isU_lst, isU_tup, isU_dic, isU_sq, nuR_f, ok_bind, any_bind, liftS_ok, liftS_any, seqS_nx, seqS_rt, resD_rt, resD_nx, Bool.false_eq_true, reduceIte, iter_sq, items_sq, idx_sq0, idx_sq1, in_sq, len_sq, tup_sq, lst_sq, wipeE, capD_nil, capD_one, capD_two, capD_three], rfl⟩) (by show 0 + ns.length ≤ cap; exact Nat.le_trans (by omega) (show 12 ≤ cap by decide))]
  rw [foldl_put (by show (List.map _ [] ++ _).Nodup; exact List.pairwise_map.mpr (nd.imp fun {a b} n c => n (Sum.inr.inj c)))]
  simp only [qCons, qNil, sSet, sRet, sRetN, sIf, sFor, sOwn, sApp, sExt, sDrop, sNop, sPar2, sPar3, sTgt, sSub, sBrk, sCnt, vC, vTup, vLst, aNil, aCons, aStar, vBin, vCmp, tCmp', vAnd, vOr, tAnd', tOr', tNot', tTru, vNot, vNeg, vIf, vSli, oNo, oSo, mB, vB, vLc, vLc2, vDc, vCall, vCalF, vGet1, vGet2, g1, gNil', gCons', tYes', frzs, frz1, par2, par3, ownD, ownL, rdP_chk, rdV_chk, rdU_chk, chkP_f, chkV_f, chkU_f, gT2, gT2t, gT2l, List.getElem?_cons_zero, List.getElem?_cons_succ, List.set_cons_zero, List.set_cons_succ, isU_non, isU_bl, isU_int, isU_str, isU_lst, isU_tup, isU_dic, isU_sq, nuR_f, ok_bind, any_bind, liftS_ok, liftS_any, seqS_nx, seqS_rt, resD_rt, resD_nx, Bool.false_eq_true, reduceIte, iter_sq, items_sq, idx_sq0, idx_sq1, in_sq, len_sq, tup_sq, lst_sq, wipeE, capD_nil, capD_one, capD_two, capD_three, List.nil_append, c_gs]
  have e1 : strsD (sqD c (ns.map D.str)) = some ns := by
    cases c <;> exact strsOf_map ns
  have e2 : prsD (.lst (ps.map prD)) = some ps := prsOf_map ps
  have w1 : ∀ z ∈ ns, wtOf (ns.map fun z => ((Sum.inr z : Key), D.int 1)) z = ones z := fun z m => by
    unfold wtOf
    rw [look_ones nd m]
    rfl
  have w2 : (ns.all (isWt (ns.map fun z => ((Sum.inr z : Key), D.int 1)))) = true := List.all_eq_true.mpr fun z m => by
    unfold isWt
    rw [look_ones nd m]
  unfold gsF
  simp only [e1, e2, w2, List.all_eq_true.mpr ho, List.all_eq_true.mpr hp, hl, and_self, if_true, gS]
  rw [gsum_congr _ w1]
  rfl
theorem c_mp (x y : D) : callF F_most_paired [x, y] = F_most_paired.f [x, y] := rfl
def F0_most_swaps (ds : List D) : R D := resD (q_most_swaps F_suiting F_most_paired F_households (argE N_most_swaps ds))
def F_most_swaps : Fun1 where
  n := 1
  f := fun ds => F0_most_swaps (ds ++ [.tup []])
  kw := kwT F0_most_swaps [.tup []] kwW
theorem suitN_in {rs : List Row} {nm : List Str} {p : Pr} (m : p ∈ suitN rs nm) : p.1 ∈ nm ∧ p.2 ∈ nm ∧ p.2 ∈ suiN rs p.1 ∧ Cx.sLt p.1 p.2 = true := by
  obtain ⟨l, ml, m⟩ := List.mem_flatten.mp m
  obtain ⟨n, mn, rfl⟩ := List.mem_map.mp ml
  obtain ⟨o, mo, rfl⟩ := List.mem_map.mp m
  obtain ⟨m1, m2⟩ := List.mem_filter.mp mo
  rw [Bool.and_eq_true] at m2
  exact ⟨mn, of_decide_eq_true m2.2, m1, m2.1⟩
structure ShN (rs : List Row) : Prop extends ShOk rs where
  few : rs.length ≤ 12
  ok : ∀ n ∈ nms rs, PyData.strOk n = true
theorem okPr_of {p : Pr} (a : PyData.strOk p.1 = true) (b : PyData.strOk p.2 = true) : okPr p = true := by
  unfold okPr
  rw [a, b]
  rfl
theorem s_most_swaps {b c : Bool} {rs : List Row} {es gone : List Str} (O : ShN rs) (hg : ∀ n ∈ gone, n ∈ nms rs) : F0_most_swaps [shB b rs es, sqD c (gone.map D.str)] = .ok (.int (gS (suitN rs (withoutN rs gone)) ones (nms rs))) := by
  have k1 : F_suiting.kw 1 ["without"] = some fun ds es => F0_suiting (sel [0, 1] (ds ++ es ++ [.tup []])) := rfl
  have k2 : ∀ x y : D, sel [0, 1] ([x] ++ [y] ++ [D.tup []]) = [x, y] := fun _ _ => rfl
  have k3 : ∀ (x y : D) (g : List D → List D → R D), callK 1 ["without"] g [x] [y] = g [x] [y] := fun _ _ _ => rfl
  show resD (q_most_swaps F_suiting F_most_paired F_households [some (false, shB b rs es), some (false, sqD c (gone.map D.str)), none]) = _
  simp only [q_most_swaps, qCons, qNil, sSet, sRet, sRetN, sIf, sFor, sOwn, sApp, sExt, sDrop, sNop, sPar2, sPar3, sTgt, sSub, sBrk, sCnt, vC, vTup, vLst, aNil, aCons, aStar, vBin, vCmp, tCmp', vAnd, vOr, tAnd', tOr', tNot', tTru, vNot, vNeg, vIf, vSli, oNo, oSo, mB, vB, vLc, vLc2, vDc, vCall, vCalF, vGet1, vGet2, g1, gNil', gCons', tYes', frzs, frz1, par2, par3, ownD, ownL, rdP_chk, rdV_chk, rdU_chk, chkP_f, chkV_f, chkU_f, gT2, gT2t, gT2l, List.getElem?_cons_zero, List.getElem?_cons_succ, List.set_cons_zero, List.set_cons_succ, isU_non, isU_bl, isU_int, isU_str, isU_lst, isU_tup, isU_dic, isU_sq, nuR_f, ok_bind, any_bind, liftS_ok, liftS_any, seqS_nx, seqS_rt, resD_rt, resD_nx, Bool.false_eq_true, reduceIte, iter_sq, items_sq, idx_sq0, idx_sq1, in_sq, len_sq, tup_sq, lst_sq, wipeE, capD_nil, capD_one, capD_two, capD_three, k1, k2, k3, s_suiting O.toShOk hg, c_hh, s_households O.cap, c_mp]
  rw [show D.tup ((nms rs).map D.str) = sqD true ((nms rs).map D.str) from rfl, s_most_paired O.nd (by unfold nms; rw [List.length_map]; exact O.few) O.ok fun p m => ?_]
  · rfl
  · obtain ⟨a, b, _⟩ := suitN_in m
    exact okPr_of (O.ok _ ((List.mem_filter.mp a).1)) (O.ok _ ((List.mem_filter.mp b).1))
end Fx

/-! what the laws' words come to -/
namespace Fx
open PySem PySem.Spec PyProof.Rows L2
/-! ### lists of it, and the same -/
def okL : Nat → D → Bool
  | n + 1, .lst ds => decide (ds.length ≤ cap) && ds.all (okL n)
  | n + 1, .tup ds => decide (ds.length ≤ cap) && ds.all (okL n)
  | _ + 1, .non => true
  | _ + 1, .bl _ => true
  | _ + 1, .int _ => true
  | _ + 1, .str _ => true
  | _, _ => false
def toL : Nat → D → D
  | n + 1, .lst ds => .lst (ds.map (toL n))
  | n + 1, .tup ds => .lst (ds.map (toL n))
  | _, d => d
def F_lists : Nat → Fun1
  | 0 => { n := 1, f := fun _ => .no }
  | n + 1 => { n := 1, f := fun ds => resD (q__law_lists (F_lists n) (argE N__law_lists ds)) }
def isSq : D → Bool
  | .lst _ => true
  | .tup _ => true
  | _ => false
theorem isi_lt {n : Nat} {d : D} (h : okL n d = true) : isiD [d, .tup [.ty "list", .ty "tuple"]] = .ok (.bl (isSq d)) := by
  cases n with
  | zero => cases d <;> cases h
  | succ n => cases d <;> first | rfl | cases h
theorem okL_nu {n : Nat} {d : D} (h : okL n d = true) : isU d = false := by
  cases n with
  | zero => cases d <;> cases h
  | succ n => cases d <;> first | rfl | cases h
theorem s_lists : ∀ {n : Nat} {d : D}, okL n d = true → (F_lists n).f [d] = .ok (toL n d)
  | 0, d, h => by cases d <;> cases h
  | n + 1, d, h => by
    have e0 : (F_lists (n + 1)).f [d] = resD (q__law_lists (F_lists n) [some (false, d), none]) := rfl
    have c0 : ∀ x, callF (F_lists n) [x] = (F_lists n).f [x] := fun x => by
      cases n <;> rfl
    rw [e0]
    simp only [q__law_lists, qCons, qNil, sSet, sRet, sRetN, sIf, sFor, sOwn, sApp, sExt, sDrop, sNop, sPar2, sPar3, sTgt, sSub, sBrk, sCnt, vC, vTup, vLst, aNil, aCons, aStar, vBin, vCmp, tCmp', vAnd, vOr, tAnd', tOr', tNot', tTru, vNot, vNeg, vIf, vSli, oNo, oSo, mB, vB, vLc, vLc2, vDc, vCall, vCalF, vGet1, vGet2, g1, gNil', gCons', tYes', frzs, frz1, par2, par3, ownD, ownL, rdP_chk, rdV_chk, rdU_chk, chkP_f, chkV_f, chkU_f, gT2, gT2t, gT2l, List.getElem?_cons_zero, List.getElem?_cons_succ, List.set_cons_zero, List.set_cons_succ, isU_non, isU_bl, isU_int, isU_str, isU_lst, isU_tup, isU_dic, isU_sq, nuR_f, ok_bind, any_bind, liftS_ok, liftS_any, seqS_nx, seqS_rt, resD_rt, resD_nx, Bool.false_eq_true, reduceIte, iter_sq, items_sq, idx_sq0, idx_sq1, in_sq, len_sq, tup_sq, lst_sq, wipeE, capD_nil, capD_one, capD_two, capD_three, isi_lt h, okL_nu h, c0]
    cases d with
    | lst ds =>
      unfold okL at h
      rw [Bool.and_eq_true] at h
      have i1 : iterD (.lst ds) = .ok ds := rfl
      have t1 : truD (.bl (isSq (.lst ds))) = .ok true := rfl
      simp only [qCons, qNil, sSet, sRet, sRetN, sIf, sFor, sOwn, sApp, sExt, sDrop, sNop, sPar2, sPar3, sTgt, sSub, sBrk, sCnt, vC, vTup, vLst, aNil, aCons, aStar, vBin, vCmp, tCmp', vAnd, vOr, tAnd', tOr', tNot', tTru, vNot, vNeg, vIf, vSli, oNo, oSo, mB, vB, vLc, vLc2, vDc, vCall, vCalF, vGet1, vGet2, g1, gNil', gCons', tYes', frzs, frz1, par2, par3, ownD, ownL, rdP_chk, rdV_chk, rdU_chk, chkP_f, chkV_f, chkU_f, gT2, gT2t, gT2l, List.getElem?_cons_zero, List.getElem?_cons_succ, List.set_cons_zero, List.set_cons_succ, isU_non, isU_bl, isU_int, isU_str, isU_lst, isU_tup, isU_dic, isU_sq, nuR_f, ok_bind, any_bind, liftS_ok, liftS_any, seqS_nx, seqS_rt, resD_rt, resD_nx, Bool.false_eq_true, reduceIte, iter_sq, items_sq, idx_sq0, idx_sq1, in_sq, len_sq, tup_sq, lst_sq, wipeE, capD_nil, capD_one, capD_two, capD_three, i1, t1, capD_ok (of_decide_eq_true h.1)]
      have e1 := compD_all (f := turnD (g1 1) tYes' (vCall (aCons (rdU 1) aNil) (F_lists n)) [some (false, .lst ds), none]) (h := id) (g := toL n) (l := ds) fun x m => by
        have hx := List.all_eq_true.mp h.2 x m
        simp only [turnD, qCons, qNil, sSet, sRet, sRetN, sIf, sFor, sOwn, sApp, sExt, sDrop, sNop, sPar2, sPar3, sTgt, sSub, sBrk, sCnt, vC, vTup, vLst, aNil, aCons, aStar, vBin, vCmp, tCmp', vAnd, vOr, tAnd', tOr', tNot', tTru, vNot, vNeg, vIf, vSli, oNo, oSo, mB, vB, vLc, vLc2, vDc, vCall, vCalF, vGet1, vGet2, g1, gNil', gCons', tYes', frzs, frz1, par2, par3, ownD, ownL, rdP_chk, rdV_chk, rdU_chk, chkP_f, chkV_f, chkU_f, gT2, gT2t, gT2l, List.getElem?_cons_zero, List.getElem?_cons_succ, List.set_cons_zero, List.set_cons_succ, isU_non, isU_bl, isU_int, isU_str, isU_lst, isU_tup, isU_dic, isU_sq, nuR_f, ok_bind, any_bind, liftS_ok, liftS_any, seqS_nx, seqS_rt, resD_rt, resD_nx, Bool.false_eq_true, reduceIte, iter_sq, items_sq, idx_sq0, idx_sq1, in_sq, len_sq, tup_sq, lst_sq, wipeE, capD_nil, capD_one, capD_two, capD_three, c0, id, s_lists hx, okL_nu hx]
      rw [List.map_id] at e1
      rw [e1]
      rfl
    | tup ds =>
      unfold okL at h
      rw [Bool.and_eq_true] at h
      have i1 : iterD (.tup ds) = .ok ds := rfl
      have t1 : truD (.bl (isSq (.tup ds))) = .ok true := rfl
      simp only [qCons, qNil, sSet, sRet, sRetN, sIf, sFor, sOwn, sApp, sExt, sDrop, sNop, sPar2, sPar3, sTgt, sSub, sBrk, sCnt, vC, vTup, vLst, aNil, aCons, aStar, vBin, vCmp, tCmp', vAnd, vOr, tAnd', tOr', tNot', tTru, vNot, vNeg, vIf, vSli, oNo, oSo, mB, vB, vLc, vLc2, vDc, vCall, vCalF, vGet1, vGet2, g1, gNil', gCons', tYes', frzs, frz1, par2, par3, ownD, ownL, rdP_chk, rdV_chk, rdU_chk, chkP_f, chkV_f, chkU_f, gT2, gT2t, gT2l, List.getElem?_cons_zero, List.getElem?_cons_succ, List.set_cons_zero, List.set_cons_succ, isU_non, isU_bl, isU_int, isU_str, isU_lst, isU_tup, isU_dic, isU_sq, nuR_f, ok_bind, any_bind, liftS_ok, liftS_any, seqS_nx, seqS_rt, resD_rt, resD_nx, Bool.false_eq_true, reduceIte, iter_sq, items_sq, idx_sq0, idx_sq1, in_sq, len_sq, tup_sq, lst_sq, wipeE, capD_nil, capD_one, capD_two, capD_three, i1, t1, capD_ok (of_decide_eq_true h.1)]
      have e1 := compD_all (f := turnD (g1 1) tYes' (vCall (aCons (rdU 1) aNil) (F_lists n)) [some (false, .tup ds), none]) (h := id) (g := toL n) (l := ds) fun x m => by
        have hx := List.all_eq_true.mp h.2 x m
        simp only [turnD, qCons, qNil, sSet, sRet, sRetN, sIf, sFor, sOwn, sApp, sExt, sDrop, sNop, sPar2, sPar3, sTgt, sSub, sBrk, sCnt, vC, vTup, vLst, aNil, aCons, aStar, vBin, vCmp, tCmp', vAnd, vOr, tAnd', tOr', tNot', tTru, vNot, vNeg, vIf, vSli, oNo, oSo, mB, vB, vLc, vLc2, vDc, vCall, vCalF, vGet1, vGet2, g1, gNil', gCons', tYes', frzs, frz1, par2, par3, ownD, ownL, rdP_chk, rdV_chk, rdU_chk, chkP_f, chkV_f, chkU_f, gT2, gT2t, gT2l, List.getElem?_cons_zero, List.getElem?_cons_succ, List.set_cons_zero, List.set_cons_succ, isU_non, isU_bl, isU_int, isU_str, isU_lst, isU_tup, isU_dic, isU_sq, nuR_f, ok_bind, any_bind, liftS_ok, liftS_any, seqS_nx, seqS_rt, resD_rt, resD_nx, Bool.false_eq_true, reduceIte, iter_sq, items_sq, idx_sq0, idx_sq1, in_sq, len_sq, tup_sq, lst_sq, wipeE, capD_nil, capD_one, capD_two, capD_three, c0, id, s_lists hx, okL_nu hx]
      rw [List.map_id] at e1
      rw [e1]
      rfl
    | _ => first | rfl | cases h
def F_same : Nat → Fun1
  | 0 => { n := 2, f := fun _ => .no }
  | n + 1 => { n := 2, f := fun ds => resD (q__law_same (F_same n) (argE N__law_same ds)) }
theorem pairsD_self : ∀ ds : List D, pairsD ds ds = ds.map fun d => .tup [d, d]
  | [] => rfl
  | d :: ds => by rw [pairsD, pairsD_self ds]; rfl
theorem bls_true : ∀ ds : List D, blsOf (ds.map fun _ => D.bl true) = some (ds.map fun _ => true)
  | [] => rfl
  | d :: ds => by rw [List.map_cons, blsOf, bls_true ds]; rfl
theorem all_true (ds : List D) : allD [.lst (ds.map fun _ => D.bl true)] = .ok (.bl true) := by
  show (match blsOf (ds.map fun _ => D.bl true) with | some bs => R.ok (D.bl (bs.all id)) | none => .no) = _
  rw [bls_true]
  simp
theorem s_same : ∀ {n : Nat} {d : D}, okL n d = true → (F_same n).f [d, d] = .ok (.bl true)
  | 0, d, h => by cases d <;> cases h
  | n + 1, d, h => by
    have e0 : (F_same (n + 1)).f [d, d] = resD (q__law_same (F_same n) [some (false, d), some (false, d), none, none]) := rfl
    have c0 : ∀ x y, callF (F_same n) [x, y] = (F_same n).f [x, y] := fun x y => by
      cases n <;> rfl
    rw [e0]
    have sq : ∀ (ds : List D) (g : Env), ds.all (okL n) = true → compD (turnD (gT 2 (gCons' (g1 2) (gCons' (g1 3) gNil'))) tYes' (vCall (aCons (rdU 2) (aCons (rdU 3) aNil)) (F_same n)) [some (false, d), some (false, d), none, none]) (pairsD ds ds) = .ok (ds.map fun _ => .bl true) := fun ds g hs => by
      rw [pairsD_self]
      exact compD_all (h := fun d => D.tup [d, d]) (g := fun _ => D.bl true) fun x m => by
        have hx := List.all_eq_true.mp hs x m
        simp only [turnD, qCons, qNil, sSet, sRet, sRetN, sIf, sFor, sOwn, sApp, sExt, sDrop, sNop, sPar2, sPar3, sTgt, sSub, sBrk, sCnt, vC, vTup, vLst, aNil, aCons, aStar, vBin, vCmp, tCmp', vAnd, vOr, tAnd', tOr', tNot', tTru, vNot, vNeg, vIf, vSli, oNo, oSo, mB, vB, vLc, vLc2, vDc, vCall, vCalF, vGet1, vGet2, g1, gNil', gCons', tYes', frzs, frz1, par2, par3, ownD, ownL, rdP_chk, rdV_chk, rdU_chk, chkP_f, chkV_f, chkU_f, gT2, gT2t, gT2l, List.getElem?_cons_zero, List.getElem?_cons_succ, List.set_cons_zero, List.set_cons_succ, isU_non, isU_bl, isU_int, isU_str, isU_lst, isU_tup, isU_dic, isU_sq, nuR_f, ok_bind, any_bind, liftS_ok, liftS_any, seqS_nx, seqS_rt, resD_rt, resD_nx, Bool.false_eq_true, reduceIte, iter_sq, items_sq, idx_sq0, idx_sq1, in_sq, len_sq, tup_sq, lst_sq, wipeE, capD_nil, capD_one, capD_two, capD_three, c0, s_same hx, okL_nu hx]
    cases d with
    | lst ds =>
      unfold okL at h
      rw [Bool.and_eq_true] at h
      have a1 : isiD [.lst ds, .tup [.ty "list", .ty "tuple"]] = .ok (.bl true) := rfl
      have a2 : isiD [.lst ds, .ty "list"] = .ok (.bl true) := rfl
      have a3 : isiD [.lst ds, .ty "tuple"] = .ok (.bl false) := rfl
      have a4 : ∀ b, truD (.bl b) = .ok b := fun _ => rfl
      have a5 : ∀ b c : Bool, eqD (.bl b) (.bl c) = .ok (decide (b = c)) := fun _ _ => rfl
      have a6 : lenD [.lst ds] = .ok (.int ds.length) := rfl
      have a7 : ∀ i : Int, eqD (.int i) (.int i) = .ok true := fun i => by show R.ok (decide (i = i)) = _; rw [decide_eq_true rfl]
      have a8 : zipD [.lst ds, .lst ds] = .ok (pairsD ds ds) := rfl
      have a9 : (pairsD ds ds).length ≤ cap := by rw [pairsD_self, List.length_map]; exact of_decide_eq_true h.1
      simp only [q__law_same, qCons, qNil, sSet, sRet, sRetN, sIf, sFor, sOwn, sApp, sExt, sDrop, sNop, sPar2, sPar3, sTgt, sSub, sBrk, sCnt, vC, vTup, vLst, aNil, aCons, aStar, vBin, vCmp, tCmp', vAnd, vOr, tAnd', tOr', tNot', tTru, vNot, vNeg, vIf, vSli, oNo, oSo, mB, vB, vLc, vLc2, vDc, vCall, vCalF, vGet1, vGet2, g1, gNil', gCons', tYes', frzs, frz1, par2, par3, ownD, ownL, rdP_chk, rdV_chk, rdU_chk, chkP_f, chkV_f, chkU_f, gT2, gT2t, gT2l, List.getElem?_cons_zero, List.getElem?_cons_succ, List.set_cons_zero, List.set_cons_succ, isU_non, isU_bl, isU_int, isU_str, isU_lst, isU_tup, isU_dic, isU_sq, nuR_f, ok_bind, any_bind, liftS_ok, liftS_any, seqS_nx, seqS_rt, resD_rt, resD_nx, Bool.false_eq_true, reduceIte, iter_sq, items_sq, idx_sq0, idx_sq1, in_sq, len_sq, tup_sq, lst_sq, wipeE, capD_nil, capD_one, capD_two, capD_three, a1, a2, a3, a4, a5, decide_true, Bool.not_true, a6, a7, a8, capD_ok a9, sq ds [] h.2, all_true]
    | tup ds =>
      unfold okL at h
      rw [Bool.and_eq_true] at h
      have a1 : isiD [.tup ds, .tup [.ty "list", .ty "tuple"]] = .ok (.bl true) := rfl
      have a2 : isiD [.tup ds, .ty "list"] = .ok (.bl false) := rfl
      have a3 : isiD [.tup ds, .ty "tuple"] = .ok (.bl true) := rfl
      have a4 : ∀ b, truD (.bl b) = .ok b := fun _ => rfl
      have a5 : ∀ b c : Bool, eqD (.bl b) (.bl c) = .ok (decide (b = c)) := fun _ _ => rfl
      have a6 : lenD [.tup ds] = .ok (.int ds.length) := rfl
      have a7 : ∀ i : Int, eqD (.int i) (.int i) = .ok true := fun i => by show R.ok (decide (i = i)) = _; rw [decide_eq_true rfl]
      have a8 : zipD [.tup ds, .tup ds] = .ok (pairsD ds ds) := rfl
      have a9 : (pairsD ds ds).length ≤ cap := by rw [pairsD_self, List.length_map]; exact of_decide_eq_true h.1
      simp only [q__law_same, qCons, qNil, sSet, sRet, sRetN, sIf, sFor, sOwn, sApp, sExt, sDrop, sNop, sPar2, sPar3, sTgt, sSub, sBrk, sCnt, vC, vTup, vLst, aNil, aCons, aStar, vBin, vCmp, tCmp', vAnd, vOr, tAnd', tOr', tNot', tTru, vNot, vNeg, vIf, vSli, oNo, oSo, mB, vB, vLc, vLc2, vDc, vCall, vCalF, vGet1, vGet2, g1, gNil', gCons', tYes', frzs, frz1, par2, par3, ownD, ownL, rdP_chk, rdV_chk, rdU_chk, chkP_f, chkV_f, chkU_f, gT2, gT2t, gT2l, List.getElem?_cons_zero, List.getElem?_cons_succ, List.set_cons_zero, List.set_cons_succ, isU_non, isU_bl, isU_int, isU_str, isU_lst, isU_tup, isU_dic, isU_sq, nuR_f, ok_bind, any_bind, liftS_ok, liftS_any, seqS_nx, seqS_rt, resD_rt, resD_nx, Bool.false_eq_true, reduceIte, iter_sq, items_sq, idx_sq0, idx_sq1, in_sq, len_sq, tup_sq, lst_sq, wipeE, capD_nil, capD_one, capD_two, capD_three, a1, a2, a3, a4, a5, decide_true, Bool.not_true, a6, a7, a8, capD_ok a9, sq ds [] h.2, all_true]
    | non => rfl
    | bl b => cases b <;> rfl
    | int i =>
      show R.ok (D.bl (decide (i = i))) = _
      rw [decide_eq_true rfl]
    | str z =>
      have a7 : eqD (.str z) (.str z) = .ok true := by show R.ok (decide (z = z)) = _; rw [decide_eq_true rfl]
      have a1 : isiD [.str z, .tup [.ty "list", .ty "tuple"]] = .ok (.bl false) := rfl
      have a2 : isiD [.str z, .tup [.ty "bool", .ty "str"]] = .ok (.bl true) := rfl
      have a3 : isiD [.str z, .ty "bool"] = .ok (.bl false) := rfl
      have a4 : ∀ b, truD (.bl b) = .ok b := fun _ => rfl
      have a5 : ∀ b c : Bool, eqD (.bl b) (.bl c) = .ok (decide (b = c)) := fun _ _ => rfl
      simp only [q__law_same, qCons, qNil, sSet, sRet, sRetN, sIf, sFor, sOwn, sApp, sExt, sDrop, sNop, sPar2, sPar3, sTgt, sSub, sBrk, sCnt, vC, vTup, vLst, aNil, aCons, aStar, vBin, vCmp, tCmp', vAnd, vOr, tAnd', tOr', tNot', tTru, vNot, vNeg, vIf, vSli, oNo, oSo, mB, vB, vLc, vLc2, vDc, vCall, vCalF, vGet1, vGet2, g1, gNil', gCons', tYes', frzs, frz1, par2, par3, ownD, ownL, rdP_chk, rdV_chk, rdU_chk, chkP_f, chkV_f, chkU_f, gT2, gT2t, gT2l, List.getElem?_cons_zero, List.getElem?_cons_succ, List.set_cons_zero, List.set_cons_succ, isU_non, isU_bl, isU_int, isU_str, isU_lst, isU_tup, isU_dic, isU_sq, nuR_f, ok_bind, any_bind, liftS_ok, liftS_any, seqS_nx, seqS_rt, resD_rt, resD_nx, Bool.false_eq_true, reduceIte, iter_sq, items_sq, idx_sq0, idx_sq1, in_sq, len_sq, tup_sq, lst_sq, wipeE, capD_nil, capD_one, capD_two, capD_three, a1, a2, a3, a4, a5, a7, decide_true, isND]
    | _ => cases h
/-! ### the urn -/
def takeF : List D → R D
  | [.urn, .int low] => if 0 < low ∧ low < 1000 then .any (fun d => ∃ r, d = .int r ∧ 0 ≤ r ∧ r < low) 1 .ok else .no
  | _ => .no
def F_take : Fun1 := { n := 2, f := takeF }
theorem c_take {k : Int} (h : 0 < k ∧ k < 1000) : callF F_take [.urn, .int k] = .any (fun d => ∃ r, d = .int r ∧ 0 ≤ r ∧ r < k) 1 .ok := by
  show (if 0 < k ∧ k < 1000 then _ else _) = _
  rw [if_pos h]
theorem R.calm_all {α : Type} {p : α → Prop} : ∀ {r : R α} {c : Nat}, r.all p c → r.calm.all p c
  | .ok a, _, h => h
  | .any P n k, c, h => ⟨h.1, fun d m => R.calm_all (h.2 d m)⟩
  | .ex _ _, _, h => False.elim h
  | .no, _, h => h
theorem compD_draw {α : Type} {h g : α → D} {f : D → R (Option D)} {c : Nat} : ∀ {l : List α}, (∀ x ∈ l, (f (h x)).all (fun o => o = none ∨ o = some (g x)) c) → (compD f (l.map h)).all (fun ds => ∃ ys : List α, ys.Sublist l ∧ ds = ys.map g) (l.length * c)
  | [], _ => ⟨[], .slnil, rfl⟩
  | x :: l, hx => by
    rw [List.map_cons, compD, List.length_cons, Nat.succ_mul, Nat.add_comm]
    refine R.all_bind (R.all_mono (fun o ho => ?_) (Nat.le_refl _) (R.calm_all (hx x List.mem_cons_self)))
    have ih := compD_draw (l := l) fun y m => hx y (List.mem_cons_of_mem _ m)
    rcases ho with rfl | rfl
    · exact R.all_mono (fun ds ⟨ys, s, e⟩ => ⟨ys, s.cons x, e⟩) (Nat.le_refl _) ih
    · show (compD f (l.map h) >>= fun ys => R.ok (g x :: ys)).all _ _
      rw [← Nat.add_zero (l.length * c)]
      exact R.all_bind (R.all_mono (fun ds ⟨ys, s, e⟩ => show ∃ zs : List α, zs.Sublist (x :: l) ∧ g x :: ds = zs.map g from ⟨x :: ys, s.cons_cons x, by rw [e]; rfl⟩) (Nat.le_refl _) ih)
def F_few : Fun1 where
  n := 3
  f := fun ds => resD (q__law_few F_take (argE N__law_few ds))
theorem c_few (x y z : D) : callF F_few [x, y, z] = F_few.f [x, y, z] := rfl
theorem s_few {c : Bool} {ns : List Str} {k : Int} (hl : ns.length ≤ cap) (hk : 0 < k ∧ k < 1000) : (F_few.f [.urn, sqD c (ns.map D.str), .int k]).all (fun d => ∃ ys : List Str, d = .tup (ys.map D.str) ∧ ys.Sublist ns) ns.length := by
  show (resD (q__law_few F_take [some (false, .urn), some (false, sqD c (ns.map D.str)), some (false, .int k), none])).all _ _
  simp only [q__law_few, qCons, qNil, sSet, sRet, sRetN, sIf, sFor, sOwn, sApp, sExt, sDrop, sNop, sPar2, sPar3, sTgt, sSub, sBrk, sCnt, vC, vTup, vLst, aNil, aCons, aStar, vBin, vCmp, tCmp', vAnd, vOr, tAnd', tOr', tNot', tTru, vNot, vNeg, vIf, vSli, oNo, oSo, mB, vB, vLc, vLc2, vDc, vCall, vCalF, vGet1, vGet2, g1, gNil', gCons', tYes', frzs, frz1, par2, par3, ownD, ownL, rdP_chk, rdV_chk, rdU_chk, chkP_f, chkV_f, chkU_f, gT2, gT2t, gT2l, List.getElem?_cons_zero, List.getElem?_cons_succ, List.set_cons_zero, List.set_cons_succ, isU_non, isU_bl, isU_int, isU_str, isU_lst, isU_tup, isU_dic, isU_sq, nuR_f, ok_bind, any_bind, liftS_ok, liftS_any, seqS_nx, seqS_rt, resD_rt, resD_nx, Bool.false_eq_true, reduceIte, iter_sq, items_sq, idx_sq0, idx_sq1, in_sq, len_sq, tup_sq, lst_sq, wipeE, capD_nil, capD_one, capD_two, capD_three, capD_ok (show (ns.map D.str).length ≤ cap by rw [List.length_map]; exact hl)]
  refine resD_all ?_
  rw [← Nat.add_zero ns.length]
  refine seqS_all ?_
  rw [← Nat.add_zero ns.length]
  refine liftS_all ?_
  rw [← Nat.add_zero ns.length]
  refine R.all_bind ?_
  rw [← Nat.add_zero ns.length]
  refine R.all_bind ?_
  rw [← Nat.add_zero ns.length]
  refine R.all_bind ?_
  have e := compD_draw (f := turnD (g1 3) (tCmp' (vCall (aCons (rdU 0) (aCons (rdU 2) aNil)) F_take) (vC (.int 0)) eqD) (rdV 3) (wipeE [some (false, .urn), some (false, sqD c (ns.map D.str)), some (false, .int k), none] [3])) (h := D.str) (g := D.str) (c := 1) (l := ns) fun x m => by
    simp only [turnD, qCons, qNil, sSet, sRet, sRetN, sIf, sFor, sOwn, sApp, sExt, sDrop, sNop, sPar2, sPar3, sTgt, sSub, sBrk, sCnt, vC, vTup, vLst, aNil, aCons, aStar, vBin, vCmp, tCmp', vAnd, vOr, tAnd', tOr', tNot', tTru, vNot, vNeg, vIf, vSli, oNo, oSo, mB, vB, vLc, vLc2, vDc, vCall, vCalF, vGet1, vGet2, g1, gNil', gCons', tYes', frzs, frz1, par2, par3, ownD, ownL, rdP_chk, rdV_chk, rdU_chk, chkP_f, chkV_f, chkU_f, gT2, gT2t, gT2l, List.getElem?_cons_zero, List.getElem?_cons_succ, List.set_cons_zero, List.set_cons_succ, isU_non, isU_bl, isU_int, isU_str, isU_lst, isU_tup, isU_dic, isU_sq, nuR_f, ok_bind, any_bind, liftS_ok, liftS_any, seqS_nx, seqS_rt, resD_rt, resD_nx, Bool.false_eq_true, reduceIte, iter_sq, items_sq, idx_sq0, idx_sq1, in_sq, len_sq, tup_sq, lst_sq, wipeE, capD_nil, capD_one, capD_two, capD_three, c_take hk]
    refine ⟨Nat.le_refl _, fun d ⟨r, e, _⟩ => ?_⟩
    subst e
    show R.all _ (if decide (r = 0) = true then _ else _) _
    cases decide (r = 0) with
    | true => exact .inr rfl
    | false => exact .inl rfl
  simp only [qCons, qNil, sSet, sRet, sRetN, sIf, sFor, sOwn, sApp, sExt, sDrop, sNop, sPar2, sPar3, sTgt, sSub, sBrk, sCnt, vC, vTup, vLst, aNil, aCons, aStar, vBin, vCmp, tCmp', vAnd, vOr, tAnd', tOr', tNot', tTru, vNot, vNeg, vIf, vSli, oNo, oSo, mB, vB, vLc, vLc2, vDc, vCall, vCalF, vGet1, vGet2, g1, gNil', gCons', tYes', frzs, frz1, par2, par3, ownD, ownL, rdP_chk, rdV_chk, rdU_chk, chkP_f, chkV_f, chkU_f, gT2, gT2t, gT2l, List.getElem?_cons_zero, List.getElem?_cons_succ, List.set_cons_zero, List.set_cons_succ, isU_non, isU_bl, isU_int, isU_str, isU_lst, isU_tup, isU_dic, isU_sq, nuR_f, ok_bind, any_bind, liftS_ok, liftS_any, seqS_nx, seqS_rt, resD_rt, resD_nx, Bool.false_eq_true, reduceIte, iter_sq, items_sq, idx_sq0, idx_sq1, in_sq, len_sq, tup_sq, lst_sq, wipeE, capD_nil, capD_one, capD_two, capD_three] at e
  rw [Nat.mul_one] at e
  refine R.all_mono (fun ds ⟨ys, s, e⟩ => ?_) (Nat.le_refl _) e
  subst e
  exact .inl ⟨_, rfl, ys, rfl, s⟩
/-! ### folk, apart -/
def F_folk : Fun1 where
  n := 1
  f := fun ds => resD (q__law_folk (argE N__law_folk ds))
theorem c_folk (x : D) : callF F_folk [x] = F_folk.f [x] := rfl
theorem s_folk {b : Bool} {rs : List Row} {es : List Str} (h : rs.length ≤ cap) : F_folk.f [shB b rs es] = .ok (.lst ((nms rs).map D.str)) := by
  show resD (q__law_folk [some (false, shB b rs es), none]) = _
  simp only [q__law_folk, qCons, qNil, sSet, sRet, sRetN, sIf, sFor, sOwn, sApp, sExt, sDrop, sNop, sPar2, sPar3, sTgt, sSub, sBrk, sCnt, vC, vTup, vLst, aNil, aCons, aStar, vBin, vCmp, tCmp', vAnd, vOr, tAnd', tOr', tNot', tTru, vNot, vNeg, vIf, vSli, oNo, oSo, mB, vB, vLc, vLc2, vDc, vCall, vCalF, vGet1, vGet2, g1, gNil', gCons', tYes', frzs, frz1, par2, par3, ownD, ownL, rdP_chk, rdV_chk, rdU_chk, chkP_f, chkV_f, chkU_f, gT2, gT2t, gT2l, List.getElem?_cons_zero, List.getElem?_cons_succ, List.set_cons_zero, List.set_cons_succ, isU_non, isU_bl, isU_int, isU_str, isU_lst, isU_tup, isU_dic, isU_sq, nuR_f, ok_bind, any_bind, liftS_ok, liftS_any, seqS_nx, seqS_rt, resD_rt, resD_nx, Bool.false_eq_true, reduceIte, iter_sq, items_sq, idx_sq0, idx_sq1, in_sq, len_sq, tup_sq, lst_sq, wipeE, capD_nil, capD_one, capD_two, capD_three, isU_sh, shB, capD_ok (show (rs.map (rowB b)).length ≤ cap by rw [List.length_map]; exact h)]
  rw [compD_all (h := rowB b) (g := fun r => .str r.1) fun r m => by
    simp only [turnD, qCons, qNil, sSet, sRet, sRetN, sIf, sFor, sOwn, sApp, sExt, sDrop, sNop, sPar2, sPar3, sTgt, sSub, sBrk, sCnt, vC, vTup, vLst, aNil, aCons, aStar, vBin, vCmp, tCmp', vAnd, vOr, tAnd', tOr', tNot', tTru, vNot, vNeg, vIf, vSli, oNo, oSo, mB, vB, vLc, vLc2, vDc, vCall, vCalF, vGet1, vGet2, g1, gNil', gCons', tYes', frzs, frz1, par2, par3, ownD, ownL, rdP_chk, rdV_chk, rdU_chk, chkP_f, chkV_f, chkU_f, gT2, gT2t, gT2l, List.getElem?_cons_zero, List.getElem?_cons_succ, List.set_cons_zero, List.set_cons_succ, isU_non, isU_bl, isU_int, isU_str, isU_lst, isU_tup, isU_dic, isU_sq, nuR_f, ok_bind, any_bind, liftS_ok, liftS_any, seqS_nx, seqS_rt, resD_rt, resD_nx, Bool.false_eq_true, reduceIte, iter_sq, items_sq, idx_sq0, idx_sq1, in_sq, len_sq, tup_sq, lst_sq, wipeE, capD_nil, capD_one, capD_two, capD_three, rowB]]
  simp only [qCons, qNil, sSet, sRet, sRetN, sIf, sFor, sOwn, sApp, sExt, sDrop, sNop, sPar2, sPar3, sTgt, sSub, sBrk, sCnt, vC, vTup, vLst, aNil, aCons, aStar, vBin, vCmp, tCmp', vAnd, vOr, tAnd', tOr', tNot', tTru, vNot, vNeg, vIf, vSli, oNo, oSo, mB, vB, vLc, vLc2, vDc, vCall, vCalF, vGet1, vGet2, g1, gNil', gCons', tYes', frzs, frz1, par2, par3, ownD, ownL, rdP_chk, rdV_chk, rdU_chk, chkP_f, chkV_f, chkU_f, gT2, gT2t, gT2l, List.getElem?_cons_zero, List.getElem?_cons_succ, List.set_cons_zero, List.set_cons_succ, isU_non, isU_bl, isU_int, isU_str, isU_lst, isU_tup, isU_dic, isU_sq, nuR_f, ok_bind, any_bind, liftS_ok, liftS_any, seqS_nx, seqS_rt, resD_rt, resD_nx, Bool.false_eq_true, reduceIte, iter_sq, items_sq, idx_sq0, idx_sq1, in_sq, len_sq, tup_sq, lst_sq, wipeE, capD_nil, capD_one, capD_two, capD_three, nms, List.map_map]
  rfl
theorem idx_pr0 (p : Pr) : idxD (prD p) (.int 0) = .ok (.str p.1) := idx_sq0 true _ _
theorem idx_pr1 (p : Pr) : idxD (prD p) (.int 1) = .ok (.str p.2) := idx_sq1 true _ _ _
theorem isU_pr (p : Pr) : isU (prD p) = false := rfl
def F_apart : Fun1 where
  n := 2
  f := fun ds => resD (q__law_apart (argE N__law_apart ds))
theorem c_apart (x y : D) : callF F_apart [x, y] = F_apart.f [x, y] := rfl
def apartN (ps : List Pr) (gone : List Str) : List Pr := ps.filter fun p => !decide (p.1 ∈ gone) && !decide (p.2 ∈ gone)
theorem s_apart {c : Bool} {ps : List Pr} {gone : List Str} (h : ps.length ≤ cap) : F_apart.f [.lst (ps.map prD), sqD c (gone.map D.str)] = .ok (.lst ((apartN ps gone).map prD)) := by
  have i1 : iterD (.lst (ps.map prD)) = .ok (ps.map prD) := rfl
  show resD (q__law_apart [some (false, .lst (ps.map prD)), some (false, sqD c (gone.map D.str)), none]) = _
  simp only [q__law_apart, qCons, qNil, sSet, sRet, sRetN, sIf, sFor, sOwn, sApp, sExt, sDrop, sNop, sPar2, sPar3, sTgt, sSub, sBrk, sCnt, vC, vTup, vLst, aNil, aCons, aStar, vBin, vCmp, tCmp', vAnd, vOr, tAnd', tOr', tNot', tTru, vNot, vNeg, vIf, vSli, oNo, oSo, mB, vB, vLc, vLc2, vDc, vCall, vCalF, vGet1, vGet2, g1, gNil', gCons', tYes', frzs, frz1, par2, par3, ownD, ownL, rdP_chk, rdV_chk, rdU_chk, chkP_f, chkV_f, chkU_f, gT2, gT2t, gT2l, List.getElem?_cons_zero, List.getElem?_cons_succ, List.set_cons_zero, List.set_cons_succ, isU_non, isU_bl, isU_int, isU_str, isU_lst, isU_tup, isU_dic, isU_sq, nuR_f, ok_bind, any_bind, liftS_ok, liftS_any, seqS_nx, seqS_rt, resD_rt, resD_nx, Bool.false_eq_true, reduceIte, iter_sq, items_sq, idx_sq0, idx_sq1, in_sq, len_sq, tup_sq, lst_sq, wipeE, capD_nil, capD_one, capD_two, capD_three, i1, capD_ok (show (ps.map prD).length ≤ cap by rw [List.length_map]; exact h)]
  rw [compD_flt (h := prD) (g := prD) (p := fun p => !decide (p.1 ∈ gone) && !decide (p.2 ∈ gone)) fun r m => ?_]
  · rfl
  · simp only [turnD, qCons, qNil, sSet, sRet, sRetN, sIf, sFor, sOwn, sApp, sExt, sDrop, sNop, sPar2, sPar3, sTgt, sSub, sBrk, sCnt, vC, vTup, vLst, aNil, aCons, aStar, vBin, vCmp, tCmp', vAnd, vOr, tAnd', tOr', tNot', tTru, vNot, vNeg, vIf, vSli, oNo, oSo, mB, vB, vLc, vLc2, vDc, vCall, vCalF, vGet1, vGet2, g1, gNil', gCons', tYes', frzs, frz1, par2, par3, ownD, ownL, rdP_chk, rdV_chk, rdU_chk, chkP_f, chkV_f, chkU_f, gT2, gT2t, gT2l, List.getElem?_cons_zero, List.getElem?_cons_succ, List.set_cons_zero, List.set_cons_succ, isU_non, isU_bl, isU_int, isU_str, isU_lst, isU_tup, isU_dic, isU_sq, nuR_f, ok_bind, any_bind, liftS_ok, liftS_any, seqS_nx, seqS_rt, resD_rt, resD_nx, Bool.false_eq_true, reduceIte, iter_sq, items_sq, idx_sq0, idx_sq1, in_sq, len_sq, tup_sq, lst_sq, wipeE, capD_nil, capD_one, capD_two, capD_three, isU_pr, idx_pr0, idx_pr1, in_strs]
    cases decide (r.1 ∈ gone) <;> cases decide (r.2 ∈ gone) <;> rfl
/-! ### matched -/
theorem forS_pre {α : Type} {h : α → D} {g : D → Env → R Env} {b : Env → RS} {I : List α → Env → Prop} : ∀ {l done : List α} {ε : Env}, I done ε → (∀ don x rest ε, done ++ l = don ++ x :: rest → I don ε → ∃ ε1 ε2, g (h x) ε = .ok ε1 ∧ (b ε1 = .nx ε2 ∨ b ε1 = .ct ε2) ∧ I (don ++ [x]) ε2) → ∃ ε', forS g b (l.map h) ε = .nx ε' ∧ I (done ++ l) ε'
  | [], done, ε, i0, _ => ⟨ε, rfl, by rw [List.append_nil]; exact i0⟩
  | x :: l, done, ε, i0, hx => by
    obtain ⟨ε1, ε2, e1, e2, i2⟩ := hx done x l ε rfl i0
    obtain ⟨ε', e3, i3⟩ := forS_pre (h := h) (g := g) (b := b) (l := l) i2 fun don y rest ε e => hx don y rest ε (by rw [← e, List.append_assoc]; rfl)
    refine ⟨ε', ?_, by rw [List.append_assoc] at i3; exact i3⟩
    rw [List.map_cons, forS, e1]
    show loopS (b ε1) _ = _
    rcases e2 with e2 | e2
    · rw [e2]
      exact e3
    · rw [e2]
      exact e3
def mD (M : List Pr) : D := .tup (M.map prD)
theorem isU_m (M : List Pr) : isU (mD M) = false := rfl
structure PsOk (ps : List Pr) (names : List Str) : Prop where
  nd : ps.Nodup
  ok : ∀ p ∈ ps, okPr p = true
  lt : ∀ p ∈ ps, Cx.sLt p.1 p.2 = true
  inN : ∀ p ∈ ps, p.1 ∈ names ∧ p.2 ∈ names
  asc : AscN names
  few : names.length ≤ 11
theorem PsOk.sub {ps qs : List Pr} {names : List Str} (O : PsOk ps names) (s : qs.Sublist ps) : PsOk qs names := ⟨O.nd.sublist s, fun p m => O.ok p (s.subset m), fun p m => O.lt p (s.subset m), fun p m => O.inN p (s.subset m), O.asc, O.few⟩
theorem PsOk.len {ps : List Pr} {names : List Str} (O : PsOk ps names) : (matched ps).length ≤ 40000 := Nat.le_trans (matched_len O.nd O.lt O.inN O.asc) (Nat.le_trans (cM_mono O.few) (by decide))
theorem m_len {ps M : List Pr} {names : List Str} (O : PsOk ps names) (m : M ∈ matched ps) : M.length ≤ names.length := by
  obtain ⟨s, pw⟩ := (matched_iff ps M).mp m
  rw [← List.length_map (f := (·.1))]
  refine nodup_le (List.pairwise_map.mpr (pw.imp fun {a b} d => d.1)) fun x mx => ?_
  obtain ⟨p, mp, e⟩ := List.mem_map.mp mx
  rw [← e]
  exact (O.inN p (s.subset mp)).1
def F_matched : Fun1 where
  n := 1
  f := fun ds => resD (q__law_matched (argE N__law_matched ds))
theorem c_matched (x : D) : callF F_matched [x] = F_matched.f [x] := rfl
theorem in_pr (z : Str) (p : Pr) : inD (.str z) (prD p) = .ok (decide (z ∈ [p.1, p.2])) := in_strs (ns := [p.1, p.2])
theorem dep_pr (p : Pr) : dep (prD p) ≤ 2 := by
  unfold prD
  simp [dep, deps]
theorem okE_prs {l : List Pr} (h : ∀ p ∈ l, okPr p = true) : okE (.lst (l.map prD)) = true := by
  show okEs (l.map prD) = true
  refine okEs_all.mpr fun d m => ?_
  obtain ⟨p, mp, rfl⟩ := List.mem_map.mp m
  exact okE_pr (h p mp)
theorem dep_prs (l : List Pr) : dep (.lst (l.map prD)) ≤ 4 := by
  refine Nat.succ_le_succ (Nat.le_trans (deps_le (n := 2) fun d m => ?_) (by decide))
  obtain ⟨p, mp, rfl⟩ := List.mem_map.mp m
  exact dep_pr p
theorem eq_nil {l : List Pr} (h : ∀ p ∈ l, okPr p = true) : eqD (.lst (l.map prD)) (.lst []) = .ok l.isEmpty := by
  rw [eqD_ok (okE_prs h) rfl (Nat.le_trans (dep_prs l) (by decide)) (by decide)]
  cases l <;> rfl
theorem flt_all {p : Pr} (M : List Pr) : (M.filter fun q => decide (q.1 ∈ [p.1, p.2]) || decide (q.2 ∈ [p.1, p.2])).isEmpty = M.all fun q => djB p q := by
  rw [Bool.eq_iff_iff, List.isEmpty_iff, List.filter_eq_nil_iff, List.all_eq_true]
  refine ⟨fun h q m => ?_, fun h q m => ?_⟩
  · have := h q m
    rw [djB_iff]
    unfold dj
    simp only [Bool.or_eq_true, decide_eq_true_eq, List.mem_cons, List.not_mem_nil, or_false, not_or] at this
    exact ⟨this.1.1, this.1.2, this.2.1, this.2.2⟩
  · have := djB_iff.mp (h q m)
    unfold dj at this
    simp only [Bool.or_eq_true, decide_eq_true_eq, List.mem_cons, List.not_mem_nil, or_false, not_or]
    exact ⟨⟨this.1, this.2.1⟩, this.2.2.1, this.2.2.2⟩
theorem s_matched {ps : List Pr} {names : List Str} (O : PsOk ps names) : F_matched.f [.lst (ps.map prD)] = .ok (.lst ((matched ps).map mD)) := by
  have i1 : ∀ l : List Pr, iterD (.lst (l.map prD)) = .ok (l.map prD) := fun _ => rfl
  have i2 : ∀ l : List (List Pr), iterD (.lst (l.map mD)) = .ok (l.map mD) := fun _ => rfl
  have i3 : ∀ l : List Pr, iterD (mD l) = .ok (l.map prD) := fun _ => rfl
  show resD (q__law_matched [some (false, .lst (ps.map prD)), none, none, none, none, none]) = _
  simp only [q__law_matched, qCons, qNil, sSet, sRet, sRetN, sIf, sFor, sOwn, sApp, sExt, sDrop, sNop, sPar2, sPar3, sTgt, sSub, sBrk, sCnt, vC, vTup, vLst, aNil, aCons, aStar, vBin, vCmp, tCmp', vAnd, vOr, tAnd', tOr', tNot', tTru, vNot, vNeg, vIf, vSli, oNo, oSo, mB, vB, vLc, vLc2, vDc, vCall, vCalF, vGet1, vGet2, g1, gNil', gCons', tYes', frzs, frz1, par2, par3, ownD, ownL, rdP_chk, rdV_chk, rdU_chk, chkP_f, chkV_f, chkU_f, gT2, gT2t, gT2l, List.getElem?_cons_zero, List.getElem?_cons_succ, List.set_cons_zero, List.set_cons_succ, isU_non, isU_bl, isU_int, isU_str, isU_lst, isU_tup, isU_dic, isU_sq, nuR_f, ok_bind, any_bind, liftS_ok, liftS_any, seqS_nx, seqS_rt, resD_rt, resD_nx, Bool.false_eq_true, reduceIte, iter_sq, items_sq, idx_sq0, idx_sq1, in_sq, len_sq, tup_sq, lst_sq, wipeE, capD_nil, capD_one, capD_two, capD_three, i1]
  obtain ⟨ε', e, o2, o3, o4, he⟩ := forS_pre (h := prD) (g := g1 2) (b := qCons (sSet (vLc (vBin (rdP 4) (vTup (aCons (rdV 2) aNil)) addD) (vB (rdV 1) iterD) (tCmp' (vLc (rdV 5) (vB (rdV 4) iterD) (tOr' (tCmp' (vBin (rdP 5) (vC (.int (0))) idxD) (rdP 2) inD) (tCmp' (vBin (rdP 5) (vC (.int (1))) idxD) (rdP 2) inD)) (g1 5) [5]) (vLst aNil) eqD) (g1 4) [4]) [] 3)
    (qCons (sSet (vBin (rdP 1) (rdP 3) addD) [] 1)
    qNil))
    (I := fun done ε => ∃ o2 o3 o4, ε = [some (false, .lst (ps.map prD)), some (false, .lst ((matched done).map mD)), o2, o3, o4, none]) (l := ps) (done := []) (ε := [some (false, .lst (ps.map prD)), some (false, .lst [.tup []]), none, none, none, none]) ⟨none, none, none, rfl⟩ (by
      rintro done p rest ε e ⟨o2, o3, o4, rfl⟩
      rw [List.nil_append] at e
      have s1 : (done ++ [p]).Sublist ps := by
        rw [e, show done ++ p :: rest = (done ++ [p]) ++ rest by rw [List.append_assoc]; rfl]
        exact List.sublist_append_left _ _
      have s0 : done.Sublist ps := (List.sublist_append_left _ _).trans s1
      have l0 := (O.sub s0).len
      have l1 := (O.sub s1).len
      rw [matched_snoc] at l1
      unfold mstep at l1
      rw [List.length_append, List.length_map] at l1
      refine ⟨_, [some (false, .lst (ps.map prD)), some (false, .lst ((matched (done ++ [p])).map mD)), some (false, prD p), some (false, .lst ((((matched done).filter fun m => m.all fun q => djB p q).map fun m => m ++ [p]).map mD)), o4, none], rfl, .inl ?_, ⟨_, _, _, rfl⟩⟩
      simp only [qCons, qNil, sSet, sRet, sRetN, sIf, sFor, sOwn, sApp, sExt, sDrop, sNop, sPar2, sPar3, sTgt, sSub, sBrk, sCnt, vC, vTup, vLst, aNil, aCons, aStar, vBin, vCmp, tCmp', vAnd, vOr, tAnd', tOr', tNot', tTru, vNot, vNeg, vIf, vSli, oNo, oSo, mB, vB, vLc, vLc2, vDc, vCall, vCalF, vGet1, vGet2, g1, gNil', gCons', tYes', frzs, frz1, par2, par3, ownD, ownL, rdP_chk, rdV_chk, rdU_chk, chkP_f, chkV_f, chkU_f, gT2, gT2t, gT2l, List.getElem?_cons_zero, List.getElem?_cons_succ, List.set_cons_zero, List.set_cons_succ, isU_non, isU_bl, isU_int, isU_str, isU_lst, isU_tup, isU_dic, isU_sq, nuR_f, ok_bind, any_bind, liftS_ok, liftS_any, seqS_nx, seqS_rt, resD_rt, resD_nx, Bool.false_eq_true, reduceIte, iter_sq, items_sq, idx_sq0, idx_sq1, in_sq, len_sq, tup_sq, lst_sq, wipeE, capD_nil, capD_one, capD_two, capD_three, isU_pr, i2, capD_ok (show ((matched done).map mD).length ≤ cap by rw [List.length_map]; exact Nat.le_trans l0 (by decide))]
      rw [compD_flt (h := mD) (g := fun m => mD (m ++ [p])) (p := fun m => m.all fun q => djB p q) fun M mM => ?hM]
      · have e4 : ∀ a b : List D, addD (.lst a) (.lst b) = if a.length + b.length ≤ cap then .ok (.lst (a ++ b)) else .no := fun _ _ => rfl
        simp only [qCons, qNil, sSet, sRet, sRetN, sIf, sFor, sOwn, sApp, sExt, sDrop, sNop, sPar2, sPar3, sTgt, sSub, sBrk, sCnt, vC, vTup, vLst, aNil, aCons, aStar, vBin, vCmp, tCmp', vAnd, vOr, tAnd', tOr', tNot', tTru, vNot, vNeg, vIf, vSli, oNo, oSo, mB, vB, vLc, vLc2, vDc, vCall, vCalF, vGet1, vGet2, g1, gNil', gCons', tYes', frzs, frz1, par2, par3, ownD, ownL, rdP_chk, rdV_chk, rdU_chk, chkP_f, chkV_f, chkU_f, gT2, gT2t, gT2l, List.getElem?_cons_zero, List.getElem?_cons_succ, List.set_cons_zero, List.set_cons_succ, isU_non, isU_bl, isU_int, isU_str, isU_lst, isU_tup, isU_dic, isU_sq, nuR_f, ok_bind, any_bind, liftS_ok, liftS_any, seqS_nx, seqS_rt, resD_rt, resD_nx, Bool.false_eq_true, reduceIte, iter_sq, items_sq, idx_sq0, idx_sq1, in_sq, len_sq, tup_sq, lst_sq, wipeE, capD_nil, capD_one, capD_two, capD_three, e4]
        rw [if_pos (by rw [List.length_map, List.length_map]; exact Nat.le_trans l1 (by decide))]
        simp only [qCons, qNil, sSet, sRet, sRetN, sIf, sFor, sOwn, sApp, sExt, sDrop, sNop, sPar2, sPar3, sTgt, sSub, sBrk, sCnt, vC, vTup, vLst, aNil, aCons, aStar, vBin, vCmp, tCmp', vAnd, vOr, tAnd', tOr', tNot', tTru, vNot, vNeg, vIf, vSli, oNo, oSo, mB, vB, vLc, vLc2, vDc, vCall, vCalF, vGet1, vGet2, g1, gNil', gCons', tYes', frzs, frz1, par2, par3, ownD, ownL, rdP_chk, rdV_chk, rdU_chk, chkP_f, chkV_f, chkU_f, gT2, gT2t, gT2l, List.getElem?_cons_zero, List.getElem?_cons_succ, List.set_cons_zero, List.set_cons_succ, isU_non, isU_bl, isU_int, isU_str, isU_lst, isU_tup, isU_dic, isU_sq, nuR_f, ok_bind, any_bind, liftS_ok, liftS_any, seqS_nx, seqS_rt, resD_rt, resD_nx, Bool.false_eq_true, reduceIte, iter_sq, items_sq, idx_sq0, idx_sq1, in_sq, len_sq, tup_sq, lst_sq, wipeE, capD_nil, capD_one, capD_two, capD_three, matched_snoc, mstep, List.map_append, List.map_map]
        rfl
      case hM =>
        have lM := m_len (O.sub s0) mM
        have okM : ∀ q ∈ M, okPr q = true := fun q mq => O.ok q (s0.subset (((matched_iff done M).mp mM).1.subset mq))
        have lM2 : M.length ≤ 11 := Nat.le_trans lM O.few
        simp only [turnD, qCons, qNil, sSet, sRet, sRetN, sIf, sFor, sOwn, sApp, sExt, sDrop, sNop, sPar2, sPar3, sTgt, sSub, sBrk, sCnt, vC, vTup, vLst, aNil, aCons, aStar, vBin, vCmp, tCmp', vAnd, vOr, tAnd', tOr', tNot', tTru, vNot, vNeg, vIf, vSli, oNo, oSo, mB, vB, vLc, vLc2, vDc, vCall, vCalF, vGet1, vGet2, g1, gNil', gCons', tYes', frzs, frz1, par2, par3, ownD, ownL, rdP_chk, rdV_chk, rdU_chk, chkP_f, chkV_f, chkU_f, gT2, gT2t, gT2l, List.getElem?_cons_zero, List.getElem?_cons_succ, List.set_cons_zero, List.set_cons_succ, isU_non, isU_bl, isU_int, isU_str, isU_lst, isU_tup, isU_dic, isU_sq, nuR_f, ok_bind, any_bind, liftS_ok, liftS_any, seqS_nx, seqS_rt, resD_rt, resD_nx, Bool.false_eq_true, reduceIte, iter_sq, items_sq, idx_sq0, idx_sq1, in_sq, len_sq, tup_sq, lst_sq, wipeE, capD_nil, capD_one, capD_two, capD_three, isU_m, isU_pr, i3, capD_ok (show (M.map prD).length ≤ cap by rw [List.length_map]; exact Nat.le_trans lM2 (by decide))]
        rw [compD_flt (h := prD) (g := prD) (p := fun q => decide (q.1 ∈ [p.1, p.2]) || decide (q.2 ∈ [p.1, p.2])) fun q mq => ?hq]
        · have e5 : addD (mD M) (.tup [prD p]) = .ok (mD (M ++ [p])) := by
            show (if (M.map prD).length + 1 ≤ cap then R.ok (D.tup (M.map prD ++ [prD p])) else .no) = _
            rw [if_pos (by rw [List.length_map]; exact Nat.le_trans (Nat.succ_le_succ lM2) (by decide))]
            unfold mD
            rw [List.map_append]
            rfl
          simp only [qCons, qNil, sSet, sRet, sRetN, sIf, sFor, sOwn, sApp, sExt, sDrop, sNop, sPar2, sPar3, sTgt, sSub, sBrk, sCnt, vC, vTup, vLst, aNil, aCons, aStar, vBin, vCmp, tCmp', vAnd, vOr, tAnd', tOr', tNot', tTru, vNot, vNeg, vIf, vSli, oNo, oSo, mB, vB, vLc, vLc2, vDc, vCall, vCalF, vGet1, vGet2, g1, gNil', gCons', tYes', frzs, frz1, par2, par3, ownD, ownL, rdP_chk, rdV_chk, rdU_chk, chkP_f, chkV_f, chkU_f, gT2, gT2t, gT2l, List.getElem?_cons_zero, List.getElem?_cons_succ, List.set_cons_zero, List.set_cons_succ, isU_non, isU_bl, isU_int, isU_str, isU_lst, isU_tup, isU_dic, isU_sq, nuR_f, ok_bind, any_bind, liftS_ok, liftS_any, seqS_nx, seqS_rt, resD_rt, resD_nx, Bool.false_eq_true, reduceIte, iter_sq, items_sq, idx_sq0, idx_sq1, in_sq, len_sq, tup_sq, lst_sq, wipeE, capD_nil, capD_one, capD_two, capD_three, eq_nil (l := M.filter fun q => decide (q.1 ∈ [p.1, p.2]) || decide (q.2 ∈ [p.1, p.2])) (fun q mq => okM q (List.mem_filter.mp mq).1), flt_all, e5]
          cases (M.all fun q => djB p q) <;> rfl
        case hq =>
          simp only [turnD, qCons, qNil, sSet, sRet, sRetN, sIf, sFor, sOwn, sApp, sExt, sDrop, sNop, sPar2, sPar3, sTgt, sSub, sBrk, sCnt, vC, vTup, vLst, aNil, aCons, aStar, vBin, vCmp, tCmp', vAnd, vOr, tAnd', tOr', tNot', tTru, vNot, vNeg, vIf, vSli, oNo, oSo, mB, vB, vLc, vLc2, vDc, vCall, vCalF, vGet1, vGet2, g1, gNil', gCons', tYes', frzs, frz1, par2, par3, ownD, ownL, rdP_chk, rdV_chk, rdU_chk, chkP_f, chkV_f, chkU_f, gT2, gT2t, gT2l, List.getElem?_cons_zero, List.getElem?_cons_succ, List.set_cons_zero, List.set_cons_succ, isU_non, isU_bl, isU_int, isU_str, isU_lst, isU_tup, isU_dic, isU_sq, nuR_f, ok_bind, any_bind, liftS_ok, liftS_any, seqS_nx, seqS_rt, resD_rt, resD_nx, Bool.false_eq_true, reduceIte, iter_sq, items_sq, idx_sq0, idx_sq1, in_sq, len_sq, tup_sq, lst_sq, wipeE, capD_nil, capD_one, capD_two, capD_three, isU_pr, idx_pr0, idx_pr1, in_pr]
          cases decide (q.1 ∈ [p.1, p.2]) <;> cases decide (q.2 ∈ [p.1, p.2]) <;> rfl)
  rw [e, he]
  rfl
end Fx

/-! the best of all -/
namespace Fx
open PySem PySem.Spec PyProof.Rows L2
theorem ints_map {α : Type} (f : α → Int) : ∀ l : List α, intsOf (l.map fun x => D.int (f x)) = some (l.map f)
  | [] => rfl
  | x :: l => by
    rw [List.map_cons, intsOf, ints_map f l]
    rfl
theorem max_map {α : Type} {f : α → Int} {l : List α} (h : l ≠ []) : maxD [.lst (l.map fun x => D.int (f x))] = .ok (.int (maxI (l.map f))) := by
  show (match intsOf (l.map fun x => D.int (f x)) with | some bs => if bs ≠ [] then R.ok (D.int (maxI bs)) else .no | none => .no) = _
  rw [ints_map]
  show (if l.map f ≠ [] then _ else _) = _
  rw [if_pos fun e => h (List.map_eq_nil_iff.mp e)]
theorem perm_pull {α β : Type} {f : α → β} {l m : List β} (h : l.Perm m) : ∀ {xs : List α}, l = xs.map f → ∃ ys, xs.Perm ys ∧ m = ys.map f := by
  induction h with
  | nil =>
    intro xs e
    exact ⟨xs, .refl _, e⟩
  | cons x _ ih =>
    intro xs e
    cases xs with
    | nil => cases e
    | cons a xs =>
      rw [List.map_cons] at e
      obtain ⟨e1, e2⟩ := List.cons.inj e
      obtain ⟨ys, p, e3⟩ := ih e2
      exact ⟨a :: ys, p.cons a, by rw [e1, e3]; rfl⟩
  | swap x y l =>
    intro xs e
    cases xs with
    | nil => cases e
    | cons a xs =>
      cases xs with
      | nil => cases e
      | cons b xs =>
        rw [List.map_cons, List.map_cons] at e
        obtain ⟨e1, e2⟩ := List.cons.inj e
        obtain ⟨e2, e3⟩ := List.cons.inj e2
        exact ⟨b :: a :: xs, .swap b a xs, by rw [e1, e2, e3]; rfl⟩
  | trans _ _ ih1 ih2 =>
    intro xs e
    obtain ⟨ys, p, e1⟩ := ih1 e
    obtain ⟨zs, q, e2⟩ := ih2 e1
    exact ⟨zs, p.trans q, e2⟩
def prP (p : Pr) : PyData := .tuple [.str p.1, .str p.2]
def mP (M : List Pr) : PyData := .tuple (M.map prP)
theorem toPy_pr (p : Pr) : toPy (prD p) = some (prP p) := rfl
theorem toPys_fam {α : Type} {f : α → D} {g : α → PyData} (h : ∀ x, toPy (f x) = some (g x)) : ∀ l : List α, toPys (l.map f) = some (l.map g)
  | [] => rfl
  | x :: l => by
    rw [List.map_cons, toPys, h, toPys_fam h l]
    rfl
theorem toPy_m (M : List Pr) : toPy (mD M) = some (mP M) := by
  show (toPys (M.map prD)).map PyData.tuple = _
  rw [toPys_fam toPy_pr]
  rfl
theorem alike_pr (p q : Pr) : PySem.W.alike (prP p) (prP q) = true := rfl
theorem alike_prs : ∀ l m : List Pr, PySem.W.alikeAll (l.map prP) (m.map prP) = true
  | [], [] => rfl
  | [], _ :: _ => rfl
  | _ :: _, [] => rfl
  | p :: l, q :: m => by
    show (PySem.W.alike (prP p) (prP q) && PySem.W.alikeAll (l.map prP) (m.map prP)) = true
    rw [alike_pr, alike_prs l m]
    rfl
theorem alike_m (M N : List Pr) : PySem.W.alike (mP M) (mP N) = true := alike_prs M N
theorem depthAll_le {k : Nat} : ∀ {l : List PyData}, (∀ p ∈ l, p.depth ≤ k) → PyData.depthAll l ≤ k
  | [], _ => Nat.zero_le _
  | p :: l, h => by
    show max p.depth (PyData.depthAll l) ≤ k
    exact Nat.max_le.mpr ⟨h p List.mem_cons_self, depthAll_le fun q m => h q (List.mem_cons_of_mem _ m)⟩
theorem srt_perm {l : List (D × PyData)} : (srtA leD l).Perm l := by
  rw [srtA_eq leD_tot]
  exact List.mergeSort_perm l leD
theorem sortG_fam {α : Type} {f : α → D} {g : α → PyData} (h : ∀ x, toPy (f x) = some (g x)) {l : List α} (ok : okP (l.map g) = true) : ∃ ys, l.Perm ys ∧ (ys.Pairwise fun x y => PySem.W.dataLt (g y) (g x) = false) ∧ sortedG [.lst (l.map f)] = .ok (.lst (ys.map f)) := by
  have e0 : sortedG [.lst (l.map f)] = match toPys (l.map f) with
    | some ps => if okP ps = true then R.ok (.lst ((srtA leD ((l.map f).zip ps)).map (·.1))) else .no
    | none => .no := rfl
  rw [toPys_fam h] at e0
  dsimp only at e0
  rw [if_pos ok] at e0
  have pm := srt_perm (l := (l.map f).zip (l.map g))
  have ez : (l.map f).zip (l.map g) = l.map fun x => (f x, g x) := by
    clear pm e0 ok
    induction l with
    | nil => rfl
    | cons x l ih => rw [List.map_cons, List.map_cons, List.zip_cons_cons, ih, List.map_cons]
  rw [ez] at pm e0
  obtain ⟨ys, p, e⟩ := perm_pull pm.symm rfl
  refine ⟨ys, p, ?_, by rw [e0, e, List.map_map]; rfl⟩
  have so := srtA_up leD_tot (l.map fun x => (f x, g x))
  rw [e] at so
  refine (List.pairwise_map.mp so).imp fun {x y} q => ?_
  have q' : (!PySem.W.dataLt (g y) (g x)) = true := q
  cases z : PySem.W.dataLt (g y) (g x) with
  | false => rfl
  | true =>
    rw [z] at q'
    cases q'
theorem prs_deep (M : List Pr) : (mP M).depth ≤ 4 := by
  refine Nat.succ_le_succ (Nat.le_trans (depthAll_le (k := 2) fun p m => ?_) (by decide))
  obtain ⟨q, _, rfl⟩ := List.mem_map.mp m
  unfold prP
  simp [PyData.depth, PyData.depthAll]
theorem sort_ms {Ms : List (List Pr)} {t : Nat} (hne : Ms ≠ []) (h : ∀ M ∈ Ms, M.length = t) (h0 : t = 0 → Ms.length = 1) : ∃ Ns, Ms.Perm Ns ∧ (Ns.Pairwise fun M N => PySem.W.dataLt (mP N) (mP M) = false) ∧ sortedX [.lst (Ms.map mD)] = .ok (.lst (Ns.map mD)) := by
  cases t with
  | zero =>
    match Ms, hne, h0 rfl, h with
    | [M], _, _, h =>
      have := List.length_eq_zero_iff.mp (h M List.mem_cons_self)
      subst this
      exact ⟨[[]], .refl _, List.pairwise_singleton _ _, rfl⟩
  | succ t =>
    cases Ms with
    | nil => exact absurd rfl hne
    | cons M Ms =>
      have e1 : sortedD [.lst ((M :: Ms).map mD)] = .no := rfl
      obtain ⟨Ns, pm, so, e2⟩ := sortG_fam (f := mD) (g := mP) toPy_m (l := M :: Ms) (by
        unfold okP
        rw [Bool.and_eq_true, Bool.and_eq_true]
        refine ⟨⟨List.all_eq_true.mpr fun p m => List.all_eq_true.mpr fun q m' => ?_, ?_⟩, List.all_eq_true.mpr fun p m => ?_⟩
        · obtain ⟨P, _, rfl⟩ := List.mem_map.mp m
          obtain ⟨Q, _, rfl⟩ := List.mem_map.mp m'
          exact alike_m P Q
        · rw [Bool.or_eq_true]
          refine .inl (List.all_eq_true.mpr fun p m => ?_)
          obtain ⟨P, mP, rfl⟩ := List.mem_map.mp m
          have := h P mP
          cases P with
          | nil => cases this
          | cons a P => rfl
        · obtain ⟨P, _, rfl⟩ := List.mem_map.mp m
          exact decide_eq_true (Nat.le_trans (prs_deep P) (by decide)))
      refine ⟨Ns, pm, so, ?_⟩
      unfold sortedX
      rw [e1]
      dsimp only
      rw [e2]
/-- what is best: of all sets of disjoint pairs those of the most pairs -/
def IsBest (ps : List Pr) (Ns : List (List Pr)) : Prop := Ns ≠ [] ∧ (∀ N, N ∈ Ns ↔ N ∈ matched ps ∧ ∀ M ∈ matched ps, M.length ≤ N.length) ∧ Ns.Nodup ∧ Ns.Pairwise fun M N => PySem.W.dataLt (mP N) (mP M) = false
def F_best : Fun1 where
  n := 1
  f := fun ds => resD (q__law_best F_matched (argE N__law_best ds))
theorem c_best (x : D) : callF F_best [x] = F_best.f [x] := rfl
theorem s_best {ps : List Pr} {names : List Str} (O : PsOk ps names) : ∃ Ns, F_best.f [.lst (ps.map prD)] = .ok (.lst (Ns.map mD)) ∧ IsBest ps Ns := by
  have i2 : ∀ l : List (List Pr), iterD (.lst (l.map mD)) = .ok (l.map mD) := fun _ => rfl
  have mne : matched ps ≠ [] := fun e => by
    have := nil_matched ps
    rw [e] at this
    cases this
  have l1 : ∀ M : List Pr, lenD [mD M] = .ok (.int M.length) := fun M => by
    show R.ok (D.int ((M.map prD).length : Nat)) = _
    rw [List.length_map]
  have e6 : ∀ i j : Int, eqD (.int i) (.int j) = .ok (decide (i = j)) := fun _ _ => rfl
  have hc := capD_ok (show ((matched ps).map mD).length ≤ cap by rw [List.length_map]; exact Nat.le_trans O.len (by decide))
  obtain ⟨top, tm, ta⟩ : ∃ t : Nat, maxI ((matched ps).map fun M => (M.length : Int)) = t ∧ (∃ M ∈ matched ps, M.length = t) ∧ ∀ M ∈ matched ps, M.length ≤ t := by
    obtain ⟨m1, m2⟩ := maxI_spec (is := (matched ps).map fun M => (M.length : Int)) fun e => mne (List.map_eq_nil_iff.mp e)
    obtain ⟨M, mM, e⟩ := List.mem_map.mp m1
    refine ⟨M.length, e.symm, ⟨M, mM, rfl⟩, fun N mN => ?_⟩
    have := m2 _ (List.mem_map.mpr ⟨N, mN, rfl⟩)
    rw [← e] at this
    exact Int.ofNat_le.mp this
  obtain ⟨⟨M0, mM0, eM0⟩, ta⟩ := ta
  obtain ⟨Ns, pm, so, es⟩ := sort_ms (Ms := (matched ps).filter fun M => decide (M.length = top)) (t := top) (fun e => by
      have : M0 ∈ (matched ps).filter fun M => decide (M.length = top) := List.mem_filter.mpr ⟨mM0, decide_eq_true eM0⟩
      rw [e] at this
      cases this) (fun M m => of_decide_eq_true (List.mem_filter.mp m).2) (fun e0 => by
      have nd := (matched_nd O.nd).sublist (List.filter_sublist (p := fun M => decide (M.length = top)))
      have al : ∀ M ∈ (matched ps).filter fun M => decide (M.length = top), M = [] := fun M m => List.length_eq_zero_iff.mp (by rw [of_decide_eq_true (List.mem_filter.mp m).2, e0])
      have m0 : M0 ∈ (matched ps).filter fun M => decide (M.length = top) := List.mem_filter.mpr ⟨mM0, decide_eq_true eM0⟩
      generalize (matched ps).filter (fun M => decide (M.length = top)) = L at nd al m0
      match L, nd, al, m0 with
      | [], _, _, m0 => cases m0
      | [_], _, _, _ => rfl
      | a :: b :: L, nd, al, _ =>
        have := (List.nodup_cons.mp nd).1
        rw [al a List.mem_cons_self, al b (List.mem_cons_of_mem _ List.mem_cons_self)] at this
        exact absurd List.mem_cons_self this)
  refine ⟨Ns, ?_, fun e => ?_, fun N => ?_, pm.nodup_iff.mp ((matched_nd O.nd).sublist List.filter_sublist), so⟩
  · show resD (q__law_best F_matched [some (false, .lst (ps.map prD)), none, none, none]) = _
    simp only [q__law_best, qCons, qNil, sSet, sRet, sRetN, sIf, sFor, sOwn, sApp, sExt, sDrop, sNop, sPar2, sPar3, sTgt, sSub, sBrk, sCnt, vC, vTup, vLst, aNil, aCons, aStar, vBin, vCmp, tCmp', vAnd, vOr, tAnd', tOr', tNot', tTru, vNot, vNeg, vIf, vSli, oNo, oSo, mB, vB, vLc, vLc2, vDc, vCall, vCalF, vGet1, vGet2, g1, gNil', gCons', tYes', frzs, frz1, par2, par3, ownD, ownL, rdP_chk, rdV_chk, rdU_chk, chkP_f, chkV_f, chkU_f, gT2, gT2t, gT2l, List.getElem?_cons_zero, List.getElem?_cons_succ, List.set_cons_zero, List.set_cons_succ, isU_non, isU_bl, isU_int, isU_str, isU_lst, isU_tup, isU_dic, isU_sq, nuR_f, ok_bind, any_bind, liftS_ok, liftS_any, seqS_nx, seqS_rt, resD_rt, resD_nx, Bool.false_eq_true, reduceIte, iter_sq, items_sq, idx_sq0, idx_sq1, in_sq, len_sq, tup_sq, lst_sq, wipeE, capD_nil, capD_one, capD_two, capD_three, c_matched, s_matched O, i2, hc]
    rw [compD_all (h := mD) (g := fun M => .int (M.length : Int)) fun M m => by simp only [turnD, qCons, qNil, sSet, sRet, sRetN, sIf, sFor, sOwn, sApp, sExt, sDrop, sNop, sPar2, sPar3, sTgt, sSub, sBrk, sCnt, vC, vTup, vLst, aNil, aCons, aStar, vBin, vCmp, tCmp', vAnd, vOr, tAnd', tOr', tNot', tTru, vNot, vNeg, vIf, vSli, oNo, oSo, mB, vB, vLc, vLc2, vDc, vCall, vCalF, vGet1, vGet2, g1, gNil', gCons', tYes', frzs, frz1, par2, par3, ownD, ownL, rdP_chk, rdV_chk, rdU_chk, chkP_f, chkV_f, chkU_f, gT2, gT2t, gT2l, List.getElem?_cons_zero, List.getElem?_cons_succ, List.set_cons_zero, List.set_cons_succ, isU_non, isU_bl, isU_int, isU_str, isU_lst, isU_tup, isU_dic, isU_sq, nuR_f, ok_bind, any_bind, liftS_ok, liftS_any, seqS_nx, seqS_rt, resD_rt, resD_nx, Bool.false_eq_true, reduceIte, iter_sq, items_sq, idx_sq0, idx_sq1, in_sq, len_sq, tup_sq, lst_sq, wipeE, capD_nil, capD_one, capD_two, capD_three, isU_m, l1]]
    simp only [qCons, qNil, sSet, sRet, sRetN, sIf, sFor, sOwn, sApp, sExt, sDrop, sNop, sPar2, sPar3, sTgt, sSub, sBrk, sCnt, vC, vTup, vLst, aNil, aCons, aStar, vBin, vCmp, tCmp', vAnd, vOr, tAnd', tOr', tNot', tTru, vNot, vNeg, vIf, vSli, oNo, oSo, mB, vB, vLc, vLc2, vDc, vCall, vCalF, vGet1, vGet2, g1, gNil', gCons', tYes', frzs, frz1, par2, par3, ownD, ownL, rdP_chk, rdV_chk, rdU_chk, chkP_f, chkV_f, chkU_f, gT2, gT2t, gT2l, List.getElem?_cons_zero, List.getElem?_cons_succ, List.set_cons_zero, List.set_cons_succ, isU_non, isU_bl, isU_int, isU_str, isU_lst, isU_tup, isU_dic, isU_sq, nuR_f, ok_bind, any_bind, liftS_ok, liftS_any, seqS_nx, seqS_rt, resD_rt, resD_nx, Bool.false_eq_true, reduceIte, iter_sq, items_sq, idx_sq0, idx_sq1, in_sq, len_sq, tup_sq, lst_sq, wipeE, capD_nil, capD_one, capD_two, capD_three, max_map (f := fun M : List Pr => (M.length : Int)) mne, tm, i2, hc]
    rw [compD_flt (h := mD) (g := mD) (p := fun M => decide (M.length = top)) fun M m => by
      simp only [turnD, qCons, qNil, sSet, sRet, sRetN, sIf, sFor, sOwn, sApp, sExt, sDrop, sNop, sPar2, sPar3, sTgt, sSub, sBrk, sCnt, vC, vTup, vLst, aNil, aCons, aStar, vBin, vCmp, tCmp', vAnd, vOr, tAnd', tOr', tNot', tTru, vNot, vNeg, vIf, vSli, oNo, oSo, mB, vB, vLc, vLc2, vDc, vCall, vCalF, vGet1, vGet2, g1, gNil', gCons', tYes', frzs, frz1, par2, par3, ownD, ownL, rdP_chk, rdV_chk, rdU_chk, chkP_f, chkV_f, chkU_f, gT2, gT2t, gT2l, List.getElem?_cons_zero, List.getElem?_cons_succ, List.set_cons_zero, List.set_cons_succ, isU_non, isU_bl, isU_int, isU_str, isU_lst, isU_tup, isU_dic, isU_sq, nuR_f, ok_bind, any_bind, liftS_ok, liftS_any, seqS_nx, seqS_rt, resD_rt, resD_nx, Bool.false_eq_true, reduceIte, iter_sq, items_sq, idx_sq0, idx_sq1, in_sq, len_sq, tup_sq, lst_sq, wipeE, capD_nil, capD_one, capD_two, capD_three, isU_m, l1, e6]
      by_cases c : M.length = top
      · rw [decide_eq_true c, decide_eq_true (by rw [c])]
        rfl
      · rw [decide_eq_false c, decide_eq_false fun z => c (Int.ofNat_inj.mp z)]
        rfl]
    simp only [qCons, qNil, sSet, sRet, sRetN, sIf, sFor, sOwn, sApp, sExt, sDrop, sNop, sPar2, sPar3, sTgt, sSub, sBrk, sCnt, vC, vTup, vLst, aNil, aCons, aStar, vBin, vCmp, tCmp', vAnd, vOr, tAnd', tOr', tNot', tTru, vNot, vNeg, vIf, vSli, oNo, oSo, mB, vB, vLc, vLc2, vDc, vCall, vCalF, vGet1, vGet2, g1, gNil', gCons', tYes', frzs, frz1, par2, par3, ownD, ownL, rdP_chk, rdV_chk, rdU_chk, chkP_f, chkV_f, chkU_f, gT2, gT2t, gT2l, List.getElem?_cons_zero, List.getElem?_cons_succ, List.set_cons_zero, List.set_cons_succ, isU_non, isU_bl, isU_int, isU_str, isU_lst, isU_tup, isU_dic, isU_sq, nuR_f, ok_bind, any_bind, liftS_ok, liftS_any, seqS_nx, seqS_rt, resD_rt, resD_nx, Bool.false_eq_true, reduceIte, iter_sq, items_sq, idx_sq0, idx_sq1, in_sq, len_sq, tup_sq, lst_sq, wipeE, capD_nil, capD_one, capD_two, capD_three, es]
  · have : M0 ∈ (matched ps).filter fun M => decide (M.length = top) := List.mem_filter.mpr ⟨mM0, decide_eq_true eM0⟩
    have := pm.mem_iff.mp this
    rw [e] at this
    cases this
  · rw [← pm.mem_iff, List.mem_filter]
    refine ⟨fun ⟨a, b⟩ => ⟨a, fun M m => by rw [of_decide_eq_true b]; exact ta M m⟩, fun ⟨a, b⟩ => ⟨a, decide_eq_true (Nat.le_antisymm (ta N a) ?_)⟩⟩
    rw [← eM0]
    exact b M0 mM0
/-- the first of the best ones -/
theorem best_0 {ps : List Pr} {Ns : List (List Pr)} (B : IsBest ps Ns) : ∃ N, idxD (.lst (Ns.map mD)) (.int 0) = .ok (mD N) ∧ N ∈ Ns := by
  cases Ns with
  | nil => exact absurd rfl B.1
  | cons N Ns => exact ⟨N, idx_sq0 false _ _, List.mem_cons_self⟩
end Fx

/-! drawn sheets -/
namespace Fx
open PySem PySem.Spec PyProof.Rows L2
abbrev RiseN (l : List Str) : Prop := l.Pairwise fun a b => Cx.sLt b a = false
theorem asc_rise {l : List Str} (h : AscN l) : RiseN l := h.imp fun {_ _} q => sLt_asym q
theorem up_asc {l : List Str} (u : Up l) (nd : l.Nodup) : AscN l := (u.and nd).imp fun {a b} h => by
  cases e : Cx.sLt a b with
  | true => rfl
  | false => exact absurd (str_ext (List.le_antisymm h.1 (List.not_lt.mp (of_decide_eq_false e)))) h.2
theorem rise_upN {l : List Str} : RiseN l ↔ Up l := by
  refine ⟨fun h => h.imp fun {a b} q => ?_, fun h => h.imp fun {a b} q => ?_⟩
  · unfold Cx.sLt at q
    exact List.not_lt.mp (of_decide_eq_false q)
  · unfold Cx.sLt
    exact decide_eq_false (List.not_lt.mpr q)
def nm11 : List Str := ["a", "ann", "bob", "cat", "dan", "eve", "fay", "new", "old", "x", "zzzzzzzz"]
def nm10 : List Str := ["a", "ann", "b", "bob", "c", "cat", "dan", "eve", "x", "zzzzzzzz"]
/-! ### mixed -/
def mixedF : List D → R D
  | [.urn, pool] => match strsD pool with
    | some xs => if xs.length ≤ 900 then .any (fun d => ∃ ys : List Str, d = .tup (ys.map D.str) ∧ ys.Perm xs) xs.length .ok else .no
    | none => .no
  | _ => .no
def F_mixed : Fun1 := { n := 2, f := mixedF }
theorem strsD_sq (b : Bool) (ns : List Str) : strsD (sqD b (ns.map D.str)) = some ns := by
  cases b <;> exact strsOf_map ns
theorem c_mixed {b : Bool} {xs : List Str} (h : xs.length ≤ 900) : callF F_mixed [.urn, sqD b (xs.map D.str)] = .any (fun d => ∃ ys : List Str, d = .tup (ys.map D.str) ∧ ys.Perm xs) xs.length .ok := by
  show (match strsD (sqD b (xs.map D.str)) with
    | some xs => if xs.length ≤ 900 then R.any (fun d => ∃ ys : List Str, d = D.tup (ys.map D.str) ∧ ys.Perm xs) xs.length .ok else .no
    | none => .no) = _
  rw [strsD_sq]
  dsimp only
  rw [if_pos h]
/-! ### sheets -/
def rowD (r : Row) : D := .tup [.str r.1, .tup (r.2.map D.str)]
def shD (rs : List Row) (es : List Str) : D := .tup [.tup (rs.map rowD), .tup (es.map D.str)]
theorem shD_eq (rs : List Row) (es : List Str) : shD rs es = shB true rs es := rfl
structure TomeOk (most free : Nat) (rs : List Row) (es : List Str) : Prop where
  l1 : rs.length ≤ most
  l2 : es.length ≤ free
  rows : ∀ r ∈ rs, r.2.length ≤ 11 ∧ r.1 ∈ nm11 ∧ (∀ y ∈ r.2, y ∈ nm11) ∧ AscN r.2
  em : ∀ z ∈ es, z ∈ nm11
  asc : AscN (rs.map (·.1))
def tomeF : List D → R D
  | [.urn, .int most, .int free] => if 1 ≤ most ∧ 0 ≤ free ∧ most + free ≤ 11 then .any (fun d => ∃ rs es, d = shD rs es ∧ TomeOk most.toNat free.toNat rs es) 1000 .ok else .no
  | _ => .no
def F_tome : Fun1 := { n := 3, f := tomeF }
theorem c_tome {m f : Int} (h : 1 ≤ m ∧ 0 ≤ f ∧ m + f ≤ 11) : callF F_tome [.urn, .int m, .int f] = .any (fun d => ∃ rs es, d = shD rs es ∧ TomeOk m.toNat f.toNat rs es) 1000 .ok := by
  show (if 1 ≤ m ∧ 0 ≤ f ∧ m + f ≤ 11 then _ else _) = _
  rw [if_pos h]
/-! ### linked -/
def sgnN (z : Str) : List Str := z.cps.toList.map fun c => ⟨#[c]⟩
def lineOf : D → Option (List Str)
  | .lst ds => strsOf ds
  | .str z => some (sgnN z)
  | _ => none
/-- whom the pairs join to z -/
def prtN (qs : List Pr) (z : Str) : List Str := qs.flatMap fun q => (if q.1 = z then [q.2] else []) ++ (if q.2 = z then [q.1] else [])
def linkRows (ln : List Str) (qs : List Pr) : List Row := (sortS ln).map fun z => (z, sortS (prtN qs z))
def linkedF : List D → R D
  | [l, .lst ps] => match lineOf l, prsOf ps with
    | some ln, some qs => if ln.Nodup ∧ ln.length ≤ 60 ∧ (∀ q ∈ qs, q.1 ∈ ln ∧ q.2 ∈ ln) ∧ qs.length ≤ 28 then .ok (shD (linkRows ln qs) []) else .no
    | _, _ => .no
  | _ => .no
def F_linked : Fun1 := { n := 2, f := linkedF }
theorem c_linked {l : D} {ln : List Str} {qs : List Pr} (hl : lineOf l = some ln) (h : ln.Nodup ∧ ln.length ≤ 60 ∧ (∀ q ∈ qs, q.1 ∈ ln ∧ q.2 ∈ ln) ∧ qs.length ≤ 28) : callF F_linked [l, .lst (qs.map prD)] = .ok (shD (linkRows ln qs) []) := by
  show (match lineOf l, prsOf (qs.map prD) with
    | some ln, some qs => if ln.Nodup ∧ ln.length ≤ 60 ∧ (∀ q ∈ qs, q.1 ∈ ln ∧ q.2 ∈ ln) ∧ qs.length ≤ 28 then R.ok (shD (linkRows ln qs) []) else .no
    | _, _ => .no) = _
  rw [hl, prsOf_map]
  dsimp only
  rw [if_pos h]
/-! ### suits -/
def rowOf : D → Option Row
  | .tup [.str n, .tup ws] => (strsOf ws).map (n, ·)
  | _ => none
theorem rowOf_eq {d : D} {r : Row} (h : rowOf d = some r) : d = rowD r := by
  unfold rowOf at h
  split at h
  · obtain ⟨ws, h1, h2⟩ := Option.map_eq_some_iff.mp h
    rw [← h2, strsOf_eq h1]
    rfl
  · cases h
def rowsOf : List D → Option (List Row)
  | [] => some []
  | d :: ds => match rowOf d, rowsOf ds with
    | some r, some rs => some (r :: rs)
    | _, _ => none
theorem rowsOf_eq : ∀ {ds : List D} {rs : List Row}, rowsOf ds = some rs → ds = rs.map rowD
  | [], _, h => by
    cases h
    rfl
  | d :: ds, rs, h => by
    rw [rowsOf] at h
    split at h
    · rename_i r qs h1 h2
      cases h
      rw [rowOf_eq h1, rowsOf_eq h2]
      rfl
    · cases h
theorem rowsOf_map : ∀ rs : List Row, rowsOf (rs.map rowD) = some rs
  | [] => rfl
  | r :: rs => by
    rw [List.map_cons, rowsOf, rowsOf_map rs, show rowOf (rowD r) = some r by show (strsOf (r.2.map D.str)).map (r.1, ·) = _; rw [strsOf_map]; rfl]
def shOk (rs : List Row) (es : List Str) : Prop := rs.length ≤ 60 ∧ (rs.map (·.1)).Nodup ∧ (∀ r ∈ rs, r.2.length ≤ 60) ∧ es.length ≤ 60 ∧ AscN (rs.map (·.1)) ∧ ∀ r ∈ rs, RiseN r.2
instance (rs : List Row) (es : List Str) : Decidable (shOk rs es) := by
  unfold shOk
  infer_instance
def suitsF : List D → R D
  | [.tup [.tup rows, .tup es]] => match rowsOf rows, strsOf es with
    | some rs, some es => if shOk rs es then .ok (.lst ((suitN rs (rs.map (·.1))).map prD)) else .no
    | _, _ => .no
  | _ => .no
def F_suits : Fun1 := { n := 1, f := suitsF }
theorem c_suits {rs : List Row} {es : List Str} (h : shOk rs es) : callF F_suits [shB true rs es] = .ok (.lst ((suitN rs (nms rs)).map prD)) := by
  show (match rowsOf (rs.map rowD), strsOf (es.map D.str) with
    | some rs, some es => if shOk rs es then R.ok (D.lst ((suitN rs (rs.map fun r : Row => r.1)).map prD)) else .no
    | _, _ => .no) = _
  rw [rowsOf_map, strsOf_map]
  dsimp only
  rw [if_pos h]
  rfl
/-! ### a sheet of eight at most -/
structure Sheet (k : Nat) (rs : List Row) (es : List Str) : Prop where
  len : rs.length ≤ k
  asc : AscN (nms rs)
  wl : ∀ r ∈ rs, r.2.length ≤ 60
  wnd : ∀ r ∈ rs, AscN r.2
  el : es.length ≤ 60
  ok : ∀ n ∈ nms rs, PyData.strOk n = true
  wok : ∀ r ∈ rs, ∀ y ∈ r.2, PyData.strOk y = true
  eok : ∀ z ∈ es, PyData.strOk z = true
theorem Sheet.shOk {k : Nat} {rs : List Row} {es : List Str} (S : Sheet k rs es) (h : k ≤ 60) : shOk rs es := ⟨Nat.le_trans S.len h, asc_nd S.asc, S.wl, S.el, S.asc, fun r m => asc_rise (S.wnd r m)⟩
theorem Sheet.shN {k : Nat} {rs : List Row} {es : List Str} (S : Sheet k rs es) (h : k ≤ 12) : ShN rs := ⟨⟨Nat.le_trans S.len (Nat.le_trans h (by decide)), asc_nd S.asc, S.wl⟩, Nat.le_trans S.len h, S.ok⟩
theorem nm11_ok : ∀ z ∈ nm11, PyData.strOk z = true := by decide +kernel
theorem tome_sheet {m f : Nat} {rs : List Row} {es : List Str} (T : TomeOk m f rs es) (hf : f ≤ 60) : Sheet m rs es := ⟨T.l1, T.asc, fun r m => Nat.le_trans (T.rows r m).1 (by decide), fun r m => (T.rows r m).2.2.2, Nat.le_trans T.l2 hf, fun n mn => by
  obtain ⟨r, mr, e⟩ := List.mem_map.mp mn
  have := (T.rows r mr).2.1
  rw [← e]
  exact nm11_ok _ this, fun r m y my => nm11_ok _ ((T.rows r m).2.2.1 y my), fun z m => nm11_ok _ (T.em z m)⟩
theorem wants_asc {k : Nat} {rs : List Row} {es : List Str} (S : Sheet k rs es) (n : Str) : AscN (wantsOf rs n) := by
  by_cases h : n ∈ nms rs
  · obtain ⟨r, m, rfl⟩ := List.mem_map.mp h
    rw [wantsOf_in (asc_nd S.asc) m]
    exact S.wnd r m
  · rw [wantsOf_out h]
    exact .nil
theorem flat_nd {f : Str → List Pr} (h1 : ∀ n, ∀ p ∈ f n, p.1 = n) (h2 : ∀ n, (f n).Nodup) : ∀ {l : List Str}, l.Nodup → ((l.map f).flatten).Nodup
  | [], _ => .nil
  | n :: l, nd => by
    obtain ⟨a, b⟩ := List.nodup_cons.mp nd
    rw [List.map_cons, List.flatten_cons]
    refine List.nodup_append.mpr ⟨h2 n, flat_nd h1 h2 b, fun p mp q mq e => ?_⟩
    subst e
    obtain ⟨k, mk, mq⟩ := List.mem_flatten.mp mq
    obtain ⟨z, mz, rfl⟩ := List.mem_map.mp mk
    have e1 := h1 n p mp
    have e2 := h1 z p mq
    rw [e1] at e2
    rw [e2] at a
    exact a mz
theorem suit_ok {k : Nat} {rs : List Row} {es : List Str} {nm : List Str} (S : Sheet k rs es) (hk : k ≤ 11) (hn : nm.Sublist (nms rs)) : PsOk (suitN rs nm) (nms rs) := by
  refine ⟨flat_nd (fun n p m => ?_) (fun n => ?_) ((asc_nd S.asc).sublist hn), fun p m => ?_, fun p m => (suitN_in m).2.2.2, fun p m => ?_, S.asc, ?_⟩
  · obtain ⟨o, _, rfl⟩ := List.mem_map.mp m
    rfl
  · exact List.pairwise_map.mpr (((asc_nd (wants_asc S n)).sublist (List.filter_sublist.trans List.filter_sublist)).imp fun {a b} q e => q (Prod.mk.inj e).2)
  · obtain ⟨a, b, _⟩ := suitN_in m
    exact okPr_of (S.ok _ (hn.subset a)) (S.ok _ (hn.subset b))
  · obtain ⟨a, b, _⟩ := suitN_in m
    exact ⟨hn.subset a, hn.subset b⟩
  · unfold nms
    rw [List.length_map]
    exact Nat.le_trans S.len hk
theorem suitN_mem {rs : List Row} {nm : List Str} {p : Pr} : p ∈ suitN rs nm ↔ p.1 ∈ nm ∧ p.2 ∈ nm ∧ p.2 ∈ suiN rs p.1 ∧ Cx.sLt p.1 p.2 = true := by
  refine ⟨suitN_in, fun ⟨a, b, c, d⟩ => List.mem_flatten.mpr ⟨_, List.mem_map.mpr ⟨p.1, a, rfl⟩, List.mem_map.mpr ⟨p.2, List.mem_filter.mpr ⟨c, ?_⟩, rfl⟩⟩⟩
  rw [d, decide_eq_true b]
  rfl
theorem apart_mem {rs : List Row} {gone : List Str} {p : Pr} : p ∈ apartN (suitN rs (nms rs)) gone ↔ p ∈ suitN rs (withoutN rs gone) := by
  unfold apartN withoutN
  rw [List.mem_filter, suitN_mem, suitN_mem, List.mem_filter, List.mem_filter, Bool.and_eq_true]
  exact ⟨fun ⟨⟨a, b, c, d⟩, e, f⟩ => ⟨⟨a, e⟩, ⟨b, f⟩, c, d⟩, fun ⟨⟨a, e⟩, ⟨b, f⟩, c, d⟩ => ⟨⟨a, b, c, d⟩, e, f⟩⟩
theorem without_nil (rs : List Row) : withoutN rs [] = nms rs := by
  unfold withoutN
  exact List.filter_eq_self.mpr fun a _ => rfl
end Fx

/-! the hand-made promises, as functions of data -/
namespace Fx
open PySem PySem.Spec PyProof.Rows L2
open Cx (SeqV UrnAt Keep hide RowAt PrT PrAt)
section
variable {K : PySem.W.Frag} {mg : Str → Option Value}
theorem hide_hid (a : Addr) (H : Hp) : hide a H = hid [a] H := by
  funext b
  unfold Cx.hide Fx.hid
  by_cases c : b = a
  · rw [if_pos c, if_pos (by rw [c]; exact List.mem_singleton.mpr rfl)]
  · rw [if_neg c, if_neg fun m => c (List.mem_singleton.mp m)]
theorem sm_keep {a : Addr} {n : Nat} {H H' : Hp} (kp : Keep a H H') (ua : UrnAt a H' n) : Sm (some a) H H' := ⟨fun b o nb e => kp b o (fun z => nb (by rw [z])) e, fun b nb => by
  by_cases c : b = a
  · obtain ⟨x, y, z, e, _⟩ := ua
    rw [c, e]
    exact fun z => nomatch z
  · cases q : H b with
    | none => exact absurd q nb
    | some o =>
      rw [kp b o c q]
      exact (fun z => nomatch z), fun b nb => by
  by_cases c : b = a
  · obtain ⟨x, y, z, e, _⟩ := ua
    rw [c, e]
    exact nt_lst
  · cases q : H b with
    | none => exact absurd q nb.1
    | some o =>
      rw [kp b o c q, ← q]
      exact nb⟩
theorem hide_sub {a : Addr} {us : List Addr} {H : Hp} (m : a ∈ us) : Same (hid us H) (hide a H) := by
  rw [hide_hid]
  exact hid_sub fun b mb => by
    rw [List.mem_singleton.mp mb]
    exact m
theorem rp_seq {H : Hp} {v : V} {d : D} {ds : List D} (r : Rp K H v d) (e : itemsD d = .ok ds) : ∃ xs, SeqV K H v xs ∧ RpA K H xs ds := by
  cases d with
  | lst es =>
    cases e
    cases r with
    | lst h a => exact ⟨_, ⟨_, rfl, .inl (SqL.of h)⟩, a⟩
  | tup es =>
    cases e
    cases r with
    | tup h a => exact ⟨_, ⟨_, rfl, .inr h.T⟩, a⟩
  | _ => cases e
theorem rp_strs {H : Hp} {v : V} {d : D} {ns : List Str} (r : Rp K H v d) (e : strsD d = some ns) : SeqV K H v (ns.map V.str) := by
  rcases strsD_eq e with z | z
  · subst z
    obtain ⟨xs, h, a⟩ := rp_seq r rfl
    rw [← a.of_strs]
    exact h
  · subst z
    obtain ⟨xs, h, a⟩ := rp_seq r rfl
    rw [← a.of_strs]
    exact h
theorem rpa_strs {H : Hp} : ∀ ns : List Str, RpA K H (ns.map V.str) (ns.map D.str)
  | [] => .nil
  | n :: ns => .cons (.str n) (rpa_strs ns)
theorem seq_same {H H' : Hp} {v : V} {xs : List V} (s : Same H H') (h : SeqV K H v xs) : SeqV K H' v xs := Cx.st_sv s h
/-- the urn and more -/
theorem urn_arg {u : Option Addr} {H : Hp} {v : V} (r : RpU K u H v .urn) : ∃ a, u = some a ∧ v = .ref a := by
  rcases r with r | ⟨_, a, h1, h2⟩
  · cases r
  · exact ⟨a, h1, h2⟩
theorem rpu_two {u : Option Addr} {H : Hp} {vs : List V} {d e : D} (h : RpUA K u H vs [d, e]) : ∃ v z, vs = [v, z] ∧ RpU K u H v d ∧ RpU K u H z e := by
  cases h with
  | cons a t =>
    cases t with
    | cons b t =>
      cases t
      exact ⟨_, _, rfl, a, b⟩
theorem rpu_three {u : Option Addr} {H : Hp} {vs : List V} {d e f : D} (h : RpUA K u H vs [d, e, f]) : ∃ v z y, vs = [v, z, y] ∧ RpU K u H v d ∧ RpU K u H z e ∧ RpU K u H y f := by
  cases h with
  | cons a t =>
    obtain ⟨v, z, e, h1, h2⟩ := rpu_two t
    rw [e]
    exact ⟨_, _, _, rfl, a, h1, h2⟩
theorem rpu_one {u : Option Addr} {H : Hp} {vs : List V} {d : D} (h : RpUA K u H vs [d]) : ∃ v, vs = [v] ∧ RpU K u H v d := by
  cases h with
  | cons a t =>
    cases t
    exact ⟨_, rfl, a⟩
theorem rpu_int {u : Option Addr} {H : Hp} {v : V} {i : Int} (h : RpU K u H v (.int i)) : v = .int i := by
  rcases h with h | ⟨z, _⟩
  · cases h
    rfl
  · cases z
theorem urn_at {u : Option Addr} {m : Nat} {us : List Addr} {H : Hp} {a : Addr} (hd : Hd u m us H) (e : u = some a) : UrnAt a H m := hd.ur a e
/-! ### take -/
theorem take_sp : ∀ vs H Q E, spF K mg 2 takeF vs H Q E → Cx.spTake vs H Q E := by
  intro vs H Q E ⟨u, us, m, ds, hl, hd, hr, w⟩
  unfold takeF at w
  split at w
  · rename_i low
    obtain ⟨⟨l0, l1⟩, w⟩ := RWG.ite w
    obtain ⟨v1, v2, rfl, h1, h2⟩ := rpu_two hr
    obtain ⟨a, ea, rfl⟩ := urn_arg h1
    have := rpu_int h2
    subst this
    subst ea
    refine ⟨a, low, m, rfl, urn_at hd rfl, ?_, l0, l1, fun r H' r0 r1 ua kp => ?_⟩
    · have := w.1
      have : lim = 1000000 := rfl
      omega
    · exact w.2 (.int r) ⟨r, rfl, r0, r1⟩ H' (sm_keep kp ua) (fun b eb => by cases eb; exact ua) _ (.int r)
  · exact False.elim w
/-! ### mixed -/
theorem mixed_sp : ∀ vs H Q E, spF K mg 2 mixedF vs H Q E → Cx.spMixed K vs H Q E := by
  intro vs H Q E ⟨u, us, m, ds, hl, hd, hr, w⟩
  unfold mixedF at w
  split at w
  · rename_i pool
    split at w
    · rename_i xs hx
      obtain ⟨l1, w⟩ := RWG.ite w
      obtain ⟨v1, v2, rfl, h1, h2⟩ := rpu_two hr
      obtain ⟨a, ea, rfl⟩ := urn_arg h1
      have h3 := h2.get fun e => by
        rcases strsD_eq hx with z | z <;> (rw [z] at e; cases e)
      subst ea
      refine ⟨a, v2, xs, m, rfl, urn_at hd rfl, ?_, seq_same (hide_sub (hd.uh a rfl)) (rp_strs h3 hx), l1, fun ys p H' pm ua kp np hn hp => ?_⟩
      · have := w.1
        have : lim = 1000000 := rfl
        omega
      · have sm := sm_keep kp ua
        refine w.2 (.tup (ys.map D.str)) ⟨ys, rfl, pm⟩ H' sm (fun b eb => by cases eb; exact ua) _ (.tup (.inl ?_) (rpa_strs ys))
        exact (hd.ain.same sm).tup hp
    · exact False.elim w
  · exact False.elim w
/-! ### sheets -/
theorem rpa_rows {us : List Addr} {H : Hp} (ain : AllIn us H) : ∀ {zs : List V} {rs : List (Str × List Str)}, Paired (RowAt H) zs rs → RpA K (hid us H) zs (rs.map rowD)
  | _, _, .nil => .nil
  | _, _, .cons h t => by
    obtain ⟨a, b, rfl, h1, h2⟩ := h
    exact .cons (.tup (.inl (ain.tup h1)) (.cons (.str _) (.cons (.tup (.inl (ain.tup h2)) (rpa_strs _)) .nil))) (rpa_rows ain t)
theorem rp_shN {us : List Addr} {H : Hp} {v : V} {rs : List (Str × List Str)} {es : List Str} (ain : AllIn us H) (h : Cx.ShN H v rs es) : Rp K (hid us H) v (shD rs es) := by
  obtain ⟨q, t1, t2, zs, rfl, h1, h2, h3, h4⟩ := h
  exact .tup (.inl (ain.tup h1)) (.cons (.tup (.inl (ain.tup h2)) (rpa_rows ain h3)) (.cons (.tup (.inl (ain.tup h4)) (rpa_strs es)) .nil))
theorem tome_sp : ∀ vs H Q E, spF K mg 3 tomeF vs H Q E → Cx.spTome K vs H Q E := by
  intro vs H Q E ⟨u, us, m, ds, hl, hd, hr, w⟩
  unfold tomeF at w
  split at w
  · rename_i most free
    obtain ⟨⟨l0, l1, l2⟩, w⟩ := RWG.ite w
    obtain ⟨v1, v2, v3, rfl, h1, h2, h3⟩ := rpu_three hr
    obtain ⟨a, ea, rfl⟩ := urn_arg h1
    have e2 := rpu_int h2
    have e3 := rpu_int h3
    subst ea
    refine ⟨a, most.toNat, free.toNat, m, ?_, urn_at hd rfl, ?_, by omega, by omega, fun q rs es H' ua kp sh g1 g2 g3 g4 g5 => ?_⟩
    · rw [e2, e3, Int.toNat_of_nonneg l1, Int.toNat_of_nonneg (by omega)]
    · have := w.1
      have : lim = 1000000 := rfl
      omega
    · have sm := sm_keep kp ua
      exact w.2 (shD rs es) ⟨rs, es, rfl, g1, g2, g3, g4, g5⟩ H' sm (fun b eb => by cases eb; exact ua) _ (rp_shN (hd.ain.same sm) sh)
  · exact False.elim w
/-! ### linked -/
theorem rise_up {l : List Str} : Cx.Rise l ↔ Up l := by
  unfold Cx.Rise Fx.Up
  refine ⟨fun h => h.imp fun {a b} q => ?_, fun h => h.imp fun {a b} q => ?_⟩
  · unfold Cx.sLt at q
    exact List.not_lt.mp (of_decide_eq_false q)
  · unfold Cx.sLt
    exact decide_eq_false (List.not_lt.mpr q)
theorem asc_up {l : List Str} (h : Cx.Asc l) : Up l := rise_up.mp (Cx.Asc.rise h)
theorem sort_is {l m : List Str} (p : m.Perm l) (u : Up m) : m = sortS l := up_one (p.trans (sortS_perm l).symm) u (sortS_up l)
theorem link_is {ln : List Str} {qs : List Pr} {rs : List (Str × List Str)} (h1 : (rs.map (·.1)).Perm ln) (h2 : Cx.Asc (rs.map (·.1))) (h3 : ∀ r ∈ rs, Cx.Rise r.2 ∧ r.2.Perm (Cx.prt qs r.1)) : rs = linkRows ln qs := by
  unfold linkRows
  rw [← sort_is h1 (asc_up h2), List.map_map]
  have : ∀ {l : List (Str × List Str)}, (∀ r ∈ l, Cx.Rise r.2 ∧ r.2.Perm (Cx.prt qs r.1)) → l = l.map ((fun z => (z, sortS (prtN qs z))) ∘ fun x => x.1) := by
    intro l
    induction l with
    | nil => intro _; rfl
    | cons r l ih =>
      intro h
      rw [List.map_cons, ← ih fun x m => h x (List.mem_cons_of_mem _ m)]
      obtain ⟨a, b⟩ := h r List.mem_cons_self
      rw [Function.comp_apply, show sortS (prtN qs r.1) = r.2 from (sort_is b (rise_up.mp a)).symm]
  exact this h3
theorem pairs_T {H : Hp} : ∀ {xs : List V} {qs : List Pr}, RpA K H xs (qs.map prD) → Paired (PrT K H) xs qs
  | _, [], .nil => .nil
  | _, q :: qs, .cons h t => by
    cases h with
    | tup h a =>
      cases a with
      | cons a1 a =>
        cases a with
        | cons a2 a =>
          cases a
          cases a1
          cases a2
          exact .cons ⟨_, rfl, h.T⟩ (pairs_T t)
theorem linked_sp : ∀ vs H Q E, spF K mg 2 linkedF vs H Q E → Cx.spLinked K vs H Q E := by
  intro vs H Q E ⟨u, us, m, ds, hl, hd, hr, w⟩
  unfold linkedF at w
  split at w
  · rename_i l ps
    split at w
    · rename_i ln qs hln hqs
      obtain ⟨⟨c1, c2, c3, c4⟩, w⟩ := RWG.ite w
      obtain ⟨v1, v2, rfl, h1, h2⟩ := rpu_two hr
      have h2 := h2.get fun e => nomatch e
      have eps := prsOf_eq hqs
      subst eps
      cases h2 with
      | lst hp ra =>
        rename_i pa xs
        have hl1 : Cx.LineAt K H v1 ln := by
          unfold lineOf at hln
          split at hln
          · have e := strsOf_eq hln
            subst e
            have h1 := h1.get fun e => nomatch e
            cases h1 with
            | lst h a =>
              rw [a.of_strs] at h
              exact .inl ⟨_, rfl, SqL.of (hid_le _ _ h)⟩
          · have h1 := h1.get fun e => nomatch e
            cases h1
            exact .inr ⟨_, rfl, Option.some.inj hln⟩
          · cases hln
        refine ⟨v1, pa, ln, xs, qs, rfl, hl1, c1, c2, SqL.of (hid_le _ _ hp), Paired.mapP (pairs_T ra) (fun v q ⟨a, e, h⟩ => ⟨a, e, Cx.st_tup hid_le h⟩), c3, c4, fun p H' rs s sh g1 g2 g3 => ?_⟩
        rw [link_is g1 g2 g3] at sh
        exact w H' (.of s) (hd.ur.same s) _ (rp_shN (hd.ain.same (u := none) (.of s)) sh)
    · exact False.elim w
  · exact False.elim w
/-! ### suits -/
theorem rp_rowsV {H : Hp} : ∀ {xs : List V} {rs : List (Str × List Str)}, RpA K H xs (rs.map rowD) → Cx.RowsV K H xs rs
  | _, [], .nil => .nil
  | _, r :: rs, .cons h t => by
    cases h with
    | tup h a =>
      cases a with
      | cons a1 a =>
        cases a with
        | cons a2 a =>
          cases a
          cases a1
          cases a2 with
          | tup h2 b =>
            rw [b.of_strs] at h2
            exact .cons ⟨_, ⟨_, rfl, .inr h.T⟩, ⟨_, rfl, .inr h2.T⟩⟩ (rp_rowsV t)
theorem rp_shV {H : Hp} {v : V} {rs : List (Str × List Str)} {es : List Str} (h : Rp K H v (shD rs es)) : Cx.ShV K H v rs es := by
  cases h with
  | tup h a =>
    cases a with
    | cons a1 a =>
      cases a with
      | cons a2 a =>
        cases a
        cases a1 with
        | tup h1 b1 =>
          cases a2 with
          | tup h2 b2 =>
            rw [b2.of_strs] at h2
            exact ⟨_, _, _, ⟨_, rfl, .inr h.T⟩, ⟨_, rfl, .inr h1.T⟩, rp_rowsV b1, ⟨_, rfl, .inr h2.T⟩⟩
theorem pairs_at {us : List Addr} {H : Hp} (ain : AllIn us H) : ∀ {xs : List V} {qs : List Pr}, Paired (PrAt H) xs qs → RpA K (hid us H) xs (qs.map prD)
  | _, _, .nil => .nil
  | _, _, .cons h t => by
    obtain ⟨a, rfl, h1⟩ := h
    exact .cons (.tup (.inl (ain.tup h1)) (.cons (.str _) (.cons (.str _) .nil))) (pairs_at ain t)
theorem suits_sp : ∀ vs H Q E, spF K mg 1 suitsF vs H Q E → Cx.spSuits K vs H Q E := by
  intro vs H Q E ⟨u, us, m, ds, hl, hd, hr, w⟩
  unfold suitsF at w
  split at w
  · rename_i rows es
    split at w
    · rename_i rs es' h1 h2
      obtain ⟨⟨c1, c2, c3, c4, c5, c6⟩, w⟩ := RWG.ite w
      obtain ⟨v, rfl, hv⟩ := rpu_one hr
      have e1 := rowsOf_eq h1
      have e2 := strsOf_eq h2
      subst e1
      subst e2
      have hv := hv.get fun e => nomatch e
      refine ⟨v, rs, es', rfl, Cx.st_sh hid_le (rp_shV hv), ⟨c1, c2, c3⟩, c4, c5, c6, fun p H' ps s np hp pp => ?_⟩
      have ain := hd.ain.same (u := none) (.of s)
      refine w H' (.of s) (hd.ur.same s) _ (.lst ?_ (pairs_at ain pp))
      rw [hid_out fun z => hd.ain.not np z]
      exact hp
    · exact False.elim w
  · exact False.elim w
end
end Fx

/-! the law, the head -/
namespace Cx
open PySem PySem.Spec PyProof.Rows L2
theorem no_callK {P : Program} {w : World} {K : PySem.W.Frag} {mg : Str → Option Value} {base : Heap} {k : Nat} {f : Addr} {fd : FuncData} {ps : List Str} {sp : Sp} (no : ∀ vs H Q E, ¬ sp vs H Q E) : FnOk P w K mg base CX0 k f fd ps sp :=
  ⟨fun vs H Q E h => absurd h (no vs H Q E), fun _ _ _ H _ _ vs Q E _ _ _ _ h => absurd h (no vs H Q E)⟩
theorem all_true (n : Nat) : (List.replicate n true).all id = true := by
  induction n with
  | zero => rfl
  | succ n ih =>
    rw [List.replicate_succ, List.all_cons, ih]
    rfl
def Cal (P : Program) (w : World) (K : PySem.W.Frag) (mg : Str → Option Value) (base : Heap) (x : Str) (k : Nat) (ps : List Str) (sp : Sp) : Prop := ∃ f fd, FnOk P w K mg base CX0 k f fd ps sp ∧ Binds K fd ps [] ∧ PySem.W.keepIn K (.ref f) = true ∧ mg x = some (.ref f)
structure TyLw (mg : Str → Option Value) : Prop where
  rng : mg "range" = none
  len : mg "len" = none
  all : mg "all" = none
section
variable {P : Program} {w : World} {K : PySem.W.Frag} {mg : Str → Option Value} {base : Heap}
def spRight : Sp := fun vs H Q _ => ∃ (u : Addr) (n : Nat), vs = [.ref u] ∧ UrnAt u H n ∧ n + 20000 ≤ 1000000 ∧ ∀ H', Keep u H H' → Q (.bl true) H'
theorem ask_right {F : List Fx.D → Fx.R Fx.D} {c : Nat} (h : (F [.urn]).all (fun d => d = .bl true) c) (hc : c ≤ 20000) : ∀ vs H Q E, spRight vs H Q E → Fx.spF K mg 1 F vs H Q E := by
  intro vs H Q E ⟨u, n, e, ua, le, k⟩
  subst e
  refine ⟨some u, [u], n, [.urn], rfl, ⟨fun v mv => ?_, fun a e => by cases e; exact List.mem_singleton.mpr rfl, fun a e => by cases e; exact ua⟩, .cons (.inr ⟨rfl, u, rfl, rfl⟩) .nil, ?_⟩
  · rw [List.mem_singleton.mp mv]
    obtain ⟨a, b, c, e, _⟩ := ua
    rw [e]
    exact Fx.nt_lst
  · have lm : Fx.lim = 1000000 := rfl
    refine Fx.R.all_run (fun d n' H' e sm ur v rv => ?_) h (by omega)
    subst e
    cases rv
    exact k H' fun b o nb e => sm.kp b o (fun z => nb (Option.some.inj z)) e
def spLaw (K : PySem.W.Frag) : Sp := fun vs H Q _ => ∃ (a : Addr) (ns : List Int), vs = [.ref a] ∧ SqL K H a (ns.map V.int) ∧ ns.length ≤ 63 ∧ ∀ H', Q (.bl true) H'
abbrev nLw : List Str := ["_law_script", "_law_cells_here", "_law_k"]
theorem scLw : FnScope nLw ["_law_script"] (defScope sLaw) := ⟨rfl, rfl, rfl, by decide +kernel, rfl, by decide +kernel, by decide +kernel⟩
theorem ok_law {f : Addr} {fd : FuncData} (F : Fun K "law" "law" sLaw f fd) (CC : Cal P w K mg base "_law_cells" 1 ["_law_script", "_law_top"] (spCells K)) (CX : Cal P w K mg base "_law_box" 1 ["_law_script", "_law_k"] (spBox K)) (CR : Cal P w K mg base "_law_right" 20 ["_law_urn"] spRight) (T : TyLw mg) :
    FnOk P w K mg base CX0 21 f fd ["_law_script"] (spLaw K) := by
  obtain ⟨fc, dc, GC, bC, kC, mC⟩ := CC
  obtain ⟨fb, db, GB, bB, kB, mB⟩ := CX
  obtain ⟨fr, dr, GR, bR, kR, mR⟩ := CR
  refine F.ok scLw (fun vs H Q E h => ?_) (fun cdv A outer s H vs Q E hr h => ?_)
  · obtain ⟨a, ns, rfl, _⟩ := h
    rfl
  obtain ⟨a, ns, rfl, hS, hl, k⟩ := h
  have hr1 := hr.mono (show 1 ≤ 20 by decide)
  refine ⟨_, pss_cons (ps_set (i := 1) scLw.nd rfl (.inr rfl) (pe_call GC hr1 (by rfl) mC kC bC .nil pass0 (pa_cons (pv 0) (pa_cons pe_int pa_nil))))
    (pss_one (ps_ret (pe_callB (cr_all rfl) (by rfl) T.all (by decide +kernel) (pa_cons
      (pe_lc (own := [("_law_k", 2)]) (g := gName 2) (tt := tYes) (te := tCall spRight [] E0 (tCons (tCall (spBox K) [] E0 (tCons (tVar 1) (tCons (tVar 2) tNil))) tNil)) rfl scLw.nd (pi_range1 (by rfl) T.rng (pa_cons (pe_callB call_len_seq (by rfl) T.len PySem.boot_len (pa_cons (pv 1) pa_nil)) pa_nil)) (blkOk_by (N := nLw) (sc := defScope sLaw) (by decide +kernel))
        (fun _ _ _ _ _ => pg_name (i := 2) scLw.nd rfl (.inl rfl)) (fun _ _ _ _ _ => pts_nil) (fun _ _ _ _ _ => pe_call GR hr (by rfl) mR kR bR .nil pass0 (pa_cons (pe_call GB hr1 (by rfl) mB kB bB .nil pass0 (pa_cons (pv 1) (pa_cons (pv 2) pa_nil))) pa_nil))) pa_nil)))), ?_⟩
  refine ⟨_, rfl, a, ns, 3, rfl, hS, by omega, by decide, by decide, fun L ms H1 s1 nL hL l1 l3 => ?_⟩
  refine ⟨_, rfl, L, _, rfl, .inl (SqL.of hL), _, rfl, by rw [List.length_map]; omega, by rw [List.length_map]; omega, fun D nD => ?_⟩
  refine lc_range (lo := 0) (n := (ms.map V.int).length) (fun i H' => Same H1 H' ∧ H' D = some (.lst ((List.replicate i true).map V.bl))) ⟨same_new nD, upd_same⟩ (fun i H' hi ⟨s2, hD⟩ => ?_) (fun H' ⟨s2, hD⟩ => ?_)
  · rw [List.length_map] at hi
    refine ⟨rfl, _, rfl, _, rfl, L, ms, _, rfl, SqL.of (s2 _ _ hL), by omega, by omega, fun u H2 s3 nu U2 => ?_⟩
    refine ⟨u, 0, rfl, U2, by decide, fun H3 k3 => ?_⟩
    have keep : ∀ b o, H' b = some o → H3 b = some o := fun b o e => k3 b o (ne_of_none e nu) (s3 b o e)
    refine ⟨_, keep _ _ hD, ?_, fun b o e => ?_, ?_⟩
    · rw [List.length_map, List.length_replicate]
      exact small1000 (by omega)
    · rw [upd_ne (ne_of_none e nD)]
      exact keep _ _ (s2 b o e)
    · rw [upd_same, List.replicate_succ', List.map_append]
      rfl
  · refine ⟨D, _, rfl, SqL.of hD, ?_⟩
    rw [all_true]
    exact k _
end
end Cx

namespace Fx
open PySem PySem.Spec PyProof.Rows L2
abbrev N__law_box : List Str := ["_law_script", "_law_k", "_law_cell"]
def q__law_box : Env → RS := (qCons (sSet (vIf (vBin (rdP 0) (rdP 1) idxD) (vC (.int (0))) (tCmp' (rdP 1) (mB (aCons (rdP 0) aNil) lenD) ltD)) [] 2)
    (qCons (sRet (vLst (aCons (vBin (mB (aCons (rdP 2) aNil) absD) (mB (aCons (vCmp (mB (aCons (rdP 2) aNil) absD) (vBin (vC (.int (10))) (vC (.int (18))) powD) (cmpI fun i j => decide (j ≤ i))) aNil) intF) mulD) (aCons (vBin (vBin (vBin (mB (aCons (rdP 2) aNil) intF) (vC (.int (2305843009213693951))) modD) (vBin (vC (.int (39373))) (rdP 1) mulD) addD) (vC (.int (807))) addD) (aCons (vC (.int (0))) aNil)))) [])
    qNil))
abbrev N__law_by_hand_right : List Str := ["_law_six_here", "_law_kite_here", "_law_fork_here", "_law_got", "_law_goal", "_law_crossed", "_law_late"]
def q__law_by_hand_right (F__law_six : Fun1) (F__law_kite : Fun1) (F__law_fork : Fun1) (F_least_swaps : Fun1) (F__law_linked : Fun1) (F__law_bloom : Fun1) (F__law_same : Fun1) : Env → RS := (qCons (sPar3 (aCons (vCall aNil F__law_six) (aCons (vCall aNil F__law_kite) (aCons (vCall aNil F__law_fork) aNil))) [] 0 1 2)
    (qCons (sSet (vLst (aCons (vCall (aCons (rdU 0) aNil) F_least_swaps) (aCons (vCalF (aCons (rdU 0) aNil) (aCons (vTup (aCons (vC (.str "ann")) aNil)) aNil) 1 ["without"] F_least_swaps) (aCons (vCall (aCons (rdU 1) aNil) F_least_swaps) (aCons (vCall (aCons (vTup (aCons (vTup aNil) (aCons (vTup aNil) aNil))) aNil) F_least_swaps) aNil))))) [] 3)
    (qCons (sSet (vLst (aCons (vTup (aCons (vTup (aCons (vC (.str "ann")) (aCons (vC (.str "bob")) aNil))) (aCons (vTup (aCons (vC (.str "cat")) (aCons (vC (.str "dan")) aNil))) aNil))) (aCons (vTup (aCons (vTup (aCons (vC (.str "bob")) (aCons (vC (.str "cat")) aNil))) (aCons (vTup (aCons (vC (.str "dan")) (aCons (vC (.str "eve")) aNil))) aNil))) (aCons (vTup (aCons (vTup (aCons (vC (.str "a")) (aCons (vC (.str "b")) aNil))) (aCons (vTup (aCons (vC (.str "c")) (aCons (vC (.str "d")) aNil))) aNil))) (aCons (vTup aNil) aNil))))) [] 4)
    (qCons (sSet (vBin (rdP 3) (vLst (aCons (vCall (aCons (rdU 2) aNil) F_least_swaps) (aCons (vCalF (aCons (rdU 2) aNil) (aCons (vTup (aCons (vC (.str "b")) aNil)) aNil) 1 ["without"] F_least_swaps) (aCons (vCalF (aCons (rdU 1) aNil) (aCons (vLst (aCons (vC (.str "d")) aNil)) aNil) 1 ["without"] F_least_swaps) aNil)))) addD) [] 3)
    (qCons (sSet (vBin (rdP 4) (vLst (aCons (vTup (aCons (vTup (aCons (vC (.str "a")) (aCons (vC (.str "b")) aNil))) (aCons (vTup (aCons (vC (.str "d")) (aCons (vC (.str "e")) aNil))) aNil))) (aCons (vTup (aCons (vTup (aCons (vC (.str "d")) (aCons (vC (.str "e")) aNil))) aNil)) (aCons (vTup (aCons (vTup (aCons (vC (.str "a")) (aCons (vC (.str "b")) aNil))) aNil)) aNil)))) addD) [] 4)
    (qCons (sSet (vCall (aCons (vC (.str "abcd")) (aCons (vLst (aCons (vTup (aCons (vC (.str "a")) (aCons (vC (.str "b")) aNil))) (aCons (vTup (aCons (vC (.str "a")) (aCons (vC (.str "c")) aNil))) (aCons (vTup (aCons (vC (.str "b")) (aCons (vC (.str "d")) aNil))) aNil)))) aNil)) F__law_linked) [] 5)
    (qCons (sSet (vCall (aCons (vC (.str "abcde")) (aCons (vLst (aCons (vTup (aCons (vC (.str "a")) (aCons (vC (.str "e")) aNil))) (aCons (vTup (aCons (vC (.str "b")) (aCons (vC (.str "c")) aNil))) (aCons (vTup (aCons (vC (.str "b")) (aCons (vC (.str "e")) aNil))) (aCons (vTup (aCons (vC (.str "d")) (aCons (vC (.str "e")) aNil))) aNil))))) aNil)) F__law_linked) [] 6)
    (qCons (sSet (vBin (rdP 4) (vLst (aCons (vTup (aCons (vTup (aCons (vC (.str "a")) (aCons (vC (.str "c")) aNil))) (aCons (vTup (aCons (vC (.str "b")) (aCons (vC (.str "d")) aNil))) aNil))) (aCons (vTup (aCons (vTup (aCons (vC (.str "a")) (aCons (vC (.str "e")) aNil))) (aCons (vTup (aCons (vC (.str "b")) (aCons (vC (.str "c")) aNil))) aNil))) aNil))) addD) [] 4)
    (qCons (sSet (vBin (rdP 3) (vLst (aCons (vCall (aCons (rdU 5) aNil) F_least_swaps) (aCons (vCall (aCons (rdU 6) aNil) F_least_swaps) aNil))) addD) [] 3)
    (qCons (sSet (vBin (rdP 3) (vLst (aCons (vCall (aCons (vCall (aCons (vC (.str "abcdef")) aNil) F__law_bloom) aNil) F_least_swaps) (aCons (vCall (aCons (vCall (aCons (vC (.str "fedcba")) aNil) F__law_bloom) aNil) F_least_swaps) aNil))) addD) [] 3)
    (qCons (sSet (vBin (rdP 4) (vLst (aCons (vTup (aCons (vTup (aCons (vC (.str "a")) (aCons (vC (.str "e")) aNil))) (aCons (vTup (aCons (vC (.str "b")) (aCons (vC (.str "d")) aNil))) (aCons (vTup (aCons (vC (.str "c")) (aCons (vC (.str "f")) aNil))) aNil)))) (aCons (vTup (aCons (vTup (aCons (vC (.str "a")) (aCons (vC (.str "d")) aNil))) (aCons (vTup (aCons (vC (.str "b")) (aCons (vC (.str "f")) aNil))) (aCons (vTup (aCons (vC (.str "c")) (aCons (vC (.str "e")) aNil))) aNil)))) aNil))) addD) [] 4)
    (qCons (sRet (vCall (aCons (rdU 3) (aCons (rdU 4) aNil)) F__law_same) [])
    qNil))))))))))))
abbrev N__law_right : List Str := ["_law_urn", "_law_turn", "_law_tale", "_law_gone", "_law_soft", "_law_pairs", "_law_goal", "_law_got"]
def q__law_right (F__law_by_hand_right : Fun1) (F__law_woven : Fun1) (F__law_few : Fun1) (F__law_folk : Fun1) (F__law_lists : Fun1) (F__law_suits : Fun1) (F__law_best : Fun1) (F__law_apart : Fun1) (F_least_swaps : Fun1) (F__law_same : Fun1) : Env → RS := (qCons (sIf (tNot' (tTru (vCall aNil F__law_by_hand_right))) [] (qCons (sRet (vC (.bl false)) [])
    qNil) qNil)
    (qCons (sFor (mB (aCons (vC (.int (6))) aNil) range1D) [] (qCons (sSet (vCall (aCons (rdU 0) aNil) F__law_woven) [] 2)
    (qCons (sPar2 (aCons (vCall (aCons (rdU 0) (aCons (vCall (aCons (rdU 2) aNil) F__law_folk) (aCons (vC (.int (4))) aNil))) F__law_few) (aCons (vCall (aCons (rdU 2) aNil) F__law_lists) aNil)) [] 3 4)
    (qCons (sSet (vCall (aCons (rdU 2) aNil) F__law_suits) [] 5)
    (qCons (sSet (vLst (aCons (vBin (vCall (aCons (rdU 5) aNil) F__law_best) (vC (.int (0))) idxD) (aCons (vBin (vCall (aCons (vCall (aCons (rdU 5) (aCons (rdU 3) aNil)) F__law_apart) aNil) F__law_best) (vC (.int (0))) idxD) aNil))) [] 6)
    (qCons (sSet (vLst (aCons (vCall (aCons (rdU 2) aNil) F_least_swaps) (aCons (vCalF (aCons (rdU 2) aNil) (aCons (rdU 3) aNil) 1 ["without"] F_least_swaps) aNil))) [] 7)
    (qCons (sSet (vBin (rdP 7) (vLst (aCons (vCalF aNil (aCons (rdU 4) aNil) 0 ["sheet"] F_least_swaps) (aCons (vCalF aNil (aCons (mB (aCons (rdP 3) aNil) lstD) (aCons (rdU 4) aNil)) 0 ["without", "sheet"] F_least_swaps) aNil))) addD) [] 7)
    (qCons (sIf (tOr' (tNot' (tTru (vCall (aCons (rdU 7) (aCons (vBin (rdP 6) (vC (.int (2))) mulD) aNil)) F__law_same))) (tCmp' (rdP 4) (vCall (aCons (rdU 2) aNil) F__law_lists) (fun d e => eqD d e >>= fun b => .ok (!b)))) [] (qCons (sRet (vC (.bl false)) [])
    qNil) qNil)
    qNil))))))) (g1 1))
    (qCons (sRet (vC (.bl true)) [])
    qNil)))
abbrev N_law : List Str := ["_law_script", "_law_cells_here", "_law_k"]
def q_law (F__law_cells : Fun1) (F__law_right : Fun1) (F__law_box : Fun1) : Env → RS := (qCons (sSet (vCall (aCons (rdU 0) (aCons (vC (.int (3))) aNil)) F__law_cells) [] 1)
    (qCons (sRet (mB (aCons (vLc (vCall (aCons (vCall (aCons (rdU 1) (aCons (rdU 2) aNil)) F__law_box) aNil) F__law_right) (mB (aCons (mB (aCons (rdP 1) aNil) lenD) aNil) range1D) tYes' (g1 2) [2]) aNil) allD) [])
    qNil))
end Fx

/-! the choices in their order -/
namespace Fx
open PySem PySem.Spec PyProof.Rows L2
theorem dlt_asym {a b : PyData} (h : PySem.W.dataLt a b = true) : PySem.W.dataLt b a = false := by
  have t := leD_tot.total ((.non : D), a) ((.non : D), b)
  have e1 : leD ((.non : D), a) ((.non : D), b) = !PySem.W.dataLt b a := rfl
  have e2 : leD ((.non : D), b) ((.non : D), a) = !PySem.W.dataLt a b := rfl
  rw [e1, e2, h] at t
  cases q : PySem.W.dataLt b a with
  | false => rfl
  | true =>
    rw [q] at t
    rcases t with t | t <;> cases t
theorem dlt_self (a : PyData) : PySem.W.dataLt a a = false := by
  cases q : PySem.W.dataLt a a with
  | false => rfl
  | true => rw [← q, dlt_asym q]
theorem eqv_ne {a b : PyData} (al : PySem.W.alike a b = true) (h : PySem.W.dataLt a b = true) : PyData.eqv a b = false := by
  cases q : PyData.eqv a b with
  | false => rfl
  | true =>
    have e := (PySem.W.toks_eqv a b al).1 q
    unfold PySem.W.dataLt at h
    rw [e] at h
    have := dlt_self b
    unfold PySem.W.dataLt at this
    rw [this] at h
    cases h
def pLt (p q : Pr) : Bool := PySem.W.dataLt (prP p) (prP q)
def mLt (M N : List Pr) : Bool := PySem.W.dataLt (mP M) (mP N)
theorem pLt_of {p q : Pr} (h : Cx.sLt p.1 q.1 = true ∨ (p.1 = q.1 ∧ Cx.sLt p.2 q.2 = true)) : pLt p q = true := by
  unfold pLt prP
  rw [PySem.W.dataLt_tuple]
  rcases h with h | ⟨e, h⟩
  · have l : PySem.W.dataLt (.str p.1) (.str q.1) = true := by
      rw [PySem.W.dataLt_str]
      exact h
    rw [PySem.W.dataLt_all_no rfl (eqv_ne rfl l)]
    exact l
  · have l : PySem.W.dataLt (.str p.2) (.str q.2) = true := by
      rw [PySem.W.dataLt_str]
      exact h
    rw [e, PySem.W.dataLt_all_yes rfl (by show decide (q.1 = q.1) = true; exact decide_eq_true rfl), PySem.W.dataLt_all_no rfl (eqv_ne rfl l)]
    exact l
theorem eqv_pr (p : Pr) : PyData.eqv (prP p) (prP p) = true := by
  cases q : PyData.eqv (prP p) (prP p) with
  | true => rfl
  | false =>
    have q' : (decide (p.1 = p.1) && (decide (p.2 = p.2) && true)) = false := q
    simp at q'
theorem mLt_same (p : Pr) (M N : List Pr) : mLt (p :: M) (p :: N) = mLt M N := by
  unfold mLt mP
  rw [PySem.W.dataLt_tuple, PySem.W.dataLt_tuple, List.map_cons, List.map_cons, PySem.W.dataLt_all_yes (alike_pr p p) (eqv_pr p)]
theorem mLt_diff {p q : Pr} (h : pLt p q = true) (M N : List Pr) : mLt (p :: M) (q :: N) = true := by
  unfold mLt mP
  rw [PySem.W.dataLt_tuple, List.map_cons, List.map_cons, PySem.W.dataLt_all_no (alike_pr p q) (eqv_ne (alike_pr p q) h)]
  exact h
/-! ### choices -/
def djC (p q : Pr) : Bool := !decide (p.1 ∈ [q.1, q.2]) && !decide (p.2 ∈ [q.1, q.2])
theorem djC_iff {p q : Pr} : djC p q = true ↔ dj p q := by
  unfold djC dj
  simp [and_assoc]
def chsGo (r : List Pr → List (List Pr)) : List Pr → List (List Pr)
  | [] => []
  | p :: ps => (r (ps.filter (djC p))).map (p :: ·) ++ chsGo r ps
def chs : Nat → List Pr → List (List Pr)
  | 0, _ => [[]]
  | m + 1, ps => chsGo (chs m) ps
theorem sub_flt_iff {f : Pr → Bool} {M ps : List Pr} : M.Sublist (ps.filter f) ↔ M.Sublist ps ∧ ∀ p ∈ M, f p = true := by
  refine ⟨fun h => ⟨h.trans List.filter_sublist, fun p m => (List.mem_filter.mp (h.subset m)).2⟩, fun ⟨h, g⟩ => ?_⟩
  have := h.filter f
  rw [show M.filter f = M from List.filter_eq_self.mpr g] at this
  exact this
theorem chs_iff : ∀ (m : Nat) (ps M : List Pr), M ∈ chs m ps ↔ M.Sublist ps ∧ M.Pairwise dj ∧ M.length = m
  | 0, ps, M => by
    constructor
    · intro h
      rw [List.mem_singleton.mp h]
      exact ⟨List.nil_sublist _, .nil, rfl⟩
    · rintro ⟨_, _, e⟩
      rw [List.length_eq_zero_iff.mp e]
      exact List.mem_singleton.mpr rfl
  | m + 1, [], M => by
    constructor
    · intro h
      cases h
    · rintro ⟨s, _, e⟩
      rw [List.sublist_nil.mp s] at e
      cases e
  | m + 1, p :: ps, M => by
    show M ∈ (chs m (ps.filter (djC p))).map (p :: ·) ++ chs (m + 1) ps ↔ _
    rw [List.mem_append, List.mem_map, chs_iff (m + 1) ps M]
    constructor
    · rintro (⟨N, mN, rfl⟩ | ⟨a, b, c⟩)
      · obtain ⟨a, b, c⟩ := (chs_iff m _ N).mp mN
        obtain ⟨a, a2⟩ := sub_flt_iff.mp a
        exact ⟨a.cons_cons p, List.pairwise_cons.mpr ⟨fun q mq => djC_iff.mp (a2 q mq), b⟩, by rw [List.length_cons, c]⟩
      · exact ⟨a.cons p, b, c⟩
    · rintro ⟨a, b, c⟩
      cases a with
      | cons _ a => exact .inr ⟨a, b, c⟩
      | cons_cons _ a =>
        rename_i N
        obtain ⟨b1, b2⟩ := List.pairwise_cons.mp b
        exact .inl ⟨N, (chs_iff m _ N).mpr ⟨sub_flt_iff.mpr ⟨a, fun q mq => djC_iff.mpr (b1 q mq)⟩, b2, Nat.succ.inj c⟩, rfl⟩
abbrev PAsc (ps : List Pr) : Prop := ps.Pairwise fun p q => pLt p q = true
theorem chs_asc : ∀ (m : Nat) {ps : List Pr}, PAsc ps → (chs m ps).Pairwise fun M N => mLt M N = true
  | 0, _, _ => List.pairwise_singleton _ _
  | m + 1, [], _ => .nil
  | m + 1, p :: ps, h => by
    obtain ⟨h1, h2⟩ := List.pairwise_cons.mp h
    refine List.pairwise_append.mpr ⟨List.pairwise_map.mpr ((chs_asc m (h2.sublist List.filter_sublist)).imp fun {M N} q => by rw [mLt_same]; exact q), chs_asc (m + 1) h2, fun M mM N mN => ?_⟩
    obtain ⟨M', _, rfl⟩ := List.mem_map.mp mM
    obtain ⟨s, _, l⟩ := (chs_iff (m + 1) ps N).mp mN
    cases N with
    | nil => cases l
    | cons q N => exact mLt_diff (h1 q (s.subset List.mem_cons_self)) _ _
theorem pasc_nd {ps : List Pr} (h : PAsc ps) : ps.Nodup := h.imp fun {a b} q e => by
  rw [e] at q
  unfold pLt at q
  rw [dlt_self] at q
  cases q
theorem pasc_eq {ps qs : List Pr} (h1 : PAsc ps) (h2 : PAsc qs) (hm : ∀ p, p ∈ ps ↔ p ∈ qs) : ps = qs := by
  refine List.Perm.eq_of_pairwise (le := fun p q => pLt p q = true) (fun a b _ _ l m => ?_) h1 h2 ((List.perm_ext_iff_of_nodup (pasc_nd h1) (pasc_nd h2)).mpr hm)
  unfold pLt at l m
  rw [dlt_asym l] at m
  cases m
theorem chs_nd (m : Nat) {ps : List Pr} (h : PAsc ps) : (chs m ps).Nodup := (chs_asc m h).imp fun {a b} q e => by
  rw [e] at q
  unfold mLt at q
  rw [dlt_self] at q
  cases q
/-- a sorted list of them all is the choices -/
theorem chs_is {m : Nat} {ps : List Pr} {Ns : List (List Pr)} (h : PAsc ps) (nd : Ns.Nodup) (so : Ns.Pairwise fun M N => mLt N M = false) (hm : ∀ N, N ∈ Ns ↔ N ∈ chs m ps) : Ns = chs m ps := by
  have lt := chs_asc m h
  refine List.Perm.eq_of_pairwise (le := fun M N => mLt N M = false) (fun a b ma mb l1 l2 => ?_) so (lt.imp fun {a b} q => dlt_asym q) ((List.perm_ext_iff_of_nodup nd (chs_nd m h)).mpr hm)
  by_cases e : a = b
  · exact e
  · exfalso
    have ma' := (hm a).mp ma
    have tri : mLt a b = true ∨ mLt b a = true := by
      have key : ∀ {L : List (List Pr)}, (L.Pairwise fun M N => mLt M N = true) → a ∈ L → b ∈ L → mLt a b = true ∨ mLt b a = true := by
        intro L
        induction L with
        | nil => intro _ m; cases m
        | cons c L ih =>
          intro hp m1 m2
          obtain ⟨p1, p2⟩ := List.pairwise_cons.mp hp
          rcases List.mem_cons.mp m1 with e1 | m1
          · rcases List.mem_cons.mp m2 with e2 | m2
            · exact absurd (e1.trans e2.symm) e
            · rw [e1]
              exact .inl (p1 b m2)
          · rcases List.mem_cons.mp m2 with e2 | m2
            · rw [e2]
              exact .inr (p1 a m1)
            · exact ih p2 m1 m2
      exact key lt ma' mb
    rcases tri with t | t
    · rw [l2] at t
      cases t
    · rw [l1] at t
      cases t
end Fx

/-! sheets that are woven -/
namespace Fx
open PySem PySem.Spec PyProof.Rows L2
theorem seqS_any {P : D → Prop} {n : Nat} {f : D → RS} {k : Env → RS} : seqS (.any P n f) k = .any P n fun d => seqS (f d) k := rfl
theorem resD_any {P : D → Prop} {n : Nat} {f : D → RS} : resD (.any P n f) = .any P n fun d => resD (f d) := rfl
theorem cut_to {α : Type} {f : α → D} {l : List α} (k : Nat) : cutD (l.map f) none (some (k : Int)) = (l.take k).map f := by
  unfold cutD
  rw [HT.sIx_none, HT.sIx_nat, Nat.sub_zero, List.drop_zero, List.length_map, ← List.map_take]
  congr 1
  by_cases h : k ≤ l.length
  · rw [Nat.min_eq_left h]
  · rw [Nat.min_eq_right (by omega), List.take_length, List.take_of_length_le (by omega)]
theorem cut_from {α : Type} {f : α → D} {l : List α} (k : Nat) : cutD (l.map f) (some (k : Int)) none = (l.drop k).map f := by
  unfold cutD
  rw [HT.sIx_none, HT.sIx_nat, List.length_map, ← List.map_drop, ← List.map_take]
  congr 1
  by_cases h : k ≤ l.length
  · rw [Nat.min_eq_left h]
    exact List.take_of_length_le (by rw [List.length_drop]; exact Nat.le_refl _)
  · rw [Nat.min_eq_right (by omega), List.drop_length, List.drop_of_length_le (by omega)]
    exact List.take_nil
theorem idx_at {α : Type} {f : α → D} {l : List α} {b : Bool} {i : Nat} {x : α} (h : l[i]? = some x) : idxD (sqD b (l.map f)) (.int (i : Int)) = .ok (f x) := by
  have hl : i < l.length := (List.getElem?_eq_some_iff.mp h).1
  have e : atI (l.map f) (i : Int) = some (f x) := by
    unfold L2.atI L2.ixN
    rw [if_pos (by omega), if_pos (by rw [List.length_map]; omega)]
    show (l.map f)[((i : Int)).toNat]? = _
    rw [Int.toNat_natCast, List.getElem?_map, h]
    rfl
  cases b <;> (unfold sqD idxD; dsimp only; rw [e])
theorem range_get {n j : Nat} {d : D} (h : (rgD 0 n)[j]? = some d) : d = .int (j : Int) ∧ j < n := by
  unfold rgD at h
  rw [List.getElem?_map] at h
  cases e : (List.range n)[j]? with
  | none =>
    rw [e] at h
    cases h
  | some i =>
    rw [e] at h
    obtain ⟨hl, hi⟩ := List.getElem?_eq_some_iff.mp e
    rw [List.length_range] at hl
    rw [List.getElem_range] at hi
    have := Option.some.inj h
    rw [← this, ← hi]
    show D.int (0 + (j : Int)) = _ ∧ _
    rw [Int.zero_add]
    exact ⟨rfl, hl⟩
theorem rgD_len (n : Nat) : (rgD 0 n).length = n := by
  unfold rgD
  rw [List.length_map, List.length_range]
/-! ### all pairs of a line -/
def allP : List Str → List Pr
  | [] => []
  | x :: r => r.map (fun y => (x, y)) ++ allP r
theorem allP_in : ∀ {l : List Str}, AscN l → ∀ p ∈ allP l, p.1 ∈ l ∧ p.2 ∈ l ∧ Cx.sLt p.1 p.2 = true
  | [], _, p, m => nomatch m
  | x :: r, ha, p, m => by
    obtain ⟨h1, h2⟩ := List.pairwise_cons.mp ha
    rcases List.mem_append.mp m with m | m
    · obtain ⟨y, my, rfl⟩ := List.mem_map.mp m
      exact ⟨List.mem_cons_self, List.mem_cons_of_mem _ my, h1 y my⟩
    · obtain ⟨a, b, c⟩ := allP_in h2 p m
      exact ⟨List.mem_cons_of_mem _ a, List.mem_cons_of_mem _ b, c⟩
theorem allP_nd : ∀ {l : List Str}, AscN l → (allP l).Nodup
  | [], _ => .nil
  | x :: r, ha => by
    obtain ⟨h1, h2⟩ := List.pairwise_cons.mp ha
    refine List.nodup_append.mpr ⟨List.pairwise_map.mpr ((asc_nd h2).imp fun {a b} q e => q (Prod.mk.inj e).2), allP_nd h2, fun p mp q mq e => ?_⟩
    obtain ⟨y, my, rfl⟩ := List.mem_map.mp mp
    subst e
    have := h1 _ (allP_in h2 _ mq).1
    rw [sLt_irr] at this
    cases this
def tri : Nat → Nat
  | 0 => 0
  | n + 1 => n + tri n
theorem tri_mono {a b : Nat} (h : a ≤ b) : tri a ≤ tri b := by
  induction h with
  | refl => exact Nat.le_refl _
  | step _ ih => exact Nat.le_trans ih (Nat.le_add_left _ _)
theorem allP_len : ∀ l : List Str, (allP l).length = tri l.length
  | [] => rfl
  | x :: r => by
    show (r.map _ ++ allP r).length = r.length + tri r.length
    rw [List.length_append, List.length_map, allP_len r]
theorem prt_mem {qs : List Pr} {z y : Str} : y ∈ prtN qs z ↔ (z, y) ∈ qs ∨ (y, z) ∈ qs := by
  unfold prtN
  rw [List.mem_flatMap]
  constructor
  · rintro ⟨q, mq, m⟩
    rcases List.mem_append.mp m with m | m
    · split at m
      · rename_i e
        rw [List.mem_singleton.mp m, ← e]
        exact .inl mq
      · cases m
    · split at m
      · rename_i e
        rw [List.mem_singleton.mp m, ← e]
        exact .inr mq
      · cases m
  · rintro (m | m)
    · exact ⟨_, m, List.mem_append_left _ (by rw [if_pos rfl]; exact List.mem_singleton.mpr rfl)⟩
    · exact ⟨_, m, List.mem_append_right _ (by rw [if_pos rfl]; exact List.mem_singleton.mpr rfl)⟩
theorem prt_nd {z : Str} : ∀ {qs : List Pr}, qs.Nodup → (∀ q ∈ qs, Cx.sLt q.1 q.2 = true) → (prtN qs z).Nodup
  | [], _, _ => .nil
  | q :: qs, nd, lt => by
    obtain ⟨n1, n2⟩ := List.nodup_cons.mp nd
    have ih := prt_nd (z := z) n2 fun p m => lt p (List.mem_cons_of_mem _ m)
    have l0 := lt q List.mem_cons_self
    show (((if q.1 = z then [q.2] else []) ++ (if q.2 = z then [q.1] else [])) ++ prtN qs z).Nodup
    by_cases c1 : q.1 = z
    · have c2 : q.2 ≠ z := fun c2 => by
        rw [c1, c2, sLt_irr] at l0
        cases l0
      rw [if_pos c1, if_neg c2]
      refine List.nodup_cons.mpr ⟨fun m => ?_, ih⟩
      rcases prt_mem.mp m with m | m
      · rw [← c1] at m
        exact n1 m
      · have := lt _ (List.mem_cons_of_mem _ m)
        rw [← c1] at this
        rw [sLt_asym l0] at this
        cases this
    · rw [if_neg c1]
      by_cases c2 : q.2 = z
      · rw [if_pos c2]
        refine List.nodup_cons.mpr ⟨fun m => ?_, ih⟩
        rcases prt_mem.mp m with m | m
        · have := lt _ (List.mem_cons_of_mem _ m)
          rw [← c2] at this
          rw [sLt_asym l0] at this
          cases this
        · rw [← c2] at m
          exact n1 m
      · rw [if_neg c2]
        exact ih
theorem prt_le (qs : List Pr) (z : Str) : (prtN qs z).length ≤ qs.length * 2 := flat_max fun q _ => by
  rw [List.length_append]
  have a : (if q.1 = z then [q.2] else []).length ≤ 1 := by split <;> simp
  have b : (if q.2 = z then [q.1] else []).length ≤ 1 := by split <;> simp
  omega
theorem link_sheet {k : Nat} {ln : List Str} {qs : List Pr} (hk : ln.length ≤ k) (ha : ln.Nodup) (nd : qs.Nodup) (lt : ∀ q ∈ qs, Cx.sLt q.1 q.2 = true) (hq : qs.length ≤ 28) (hi : ∀ q ∈ qs, q.1 ∈ ln ∧ q.2 ∈ ln) (ok : ∀ n ∈ ln, PyData.strOk n = true) : Sheet k (linkRows ln qs) [] := by
  have en : nms (linkRows ln qs) = sortS ln := by
    unfold nms linkRows
    rw [List.map_map]
    exact List.map_id _
  have nd2 : (sortS ln).Nodup := (sortS_perm ln).nodup_iff.mpr ha
  refine ⟨?_, by rw [en]; exact up_asc (sortS_up ln) nd2, fun r m => ?_, fun r m => ?_, Nat.zero_le _, fun n mn => ok n ((sortS_perm ln).mem_iff.mp (by rw [en] at mn; exact mn)), fun r m y my => ?_, fun z m => nomatch m⟩
  · unfold linkRows
    rw [List.length_map, (sortS_perm ln).length_eq]
    exact hk
  · obtain ⟨z, _, rfl⟩ := List.mem_map.mp m
    show (sortS (prtN qs z)).length ≤ 60
    rw [(sortS_perm _).length_eq]
    have := prt_le qs z
    omega
  · obtain ⟨z, _, rfl⟩ := List.mem_map.mp m
    exact up_asc (sortS_up _) ((sortS_perm _).nodup_iff.mpr (prt_nd nd lt))
  · obtain ⟨z, _, rfl⟩ := List.mem_map.mp m
    rcases prt_mem.mp ((sortS_perm _).mem_iff.mp my) with h | h
    · exact ok _ (hi _ h).2
    · exact ok _ (hi _ h).1
/-! ### woven -/
def F_woven : Fun1 where
  n := 1
  f := fun ds => resD (q__law_woven F_take F_tome F_mixed F_linked (argE N__law_woven ds))
theorem c_woven (x : D) : callF F_woven [x] = F_woven.f [x] := rfl
theorem sortX_strs {b : Bool} {l : List Str} (h : l.length < 64) : sortedX [sqD b (l.map D.str)] = .ok (.lst ((sortS l).map D.str)) := by
  have e : sortedD [sqD b (l.map D.str)] = .ok (.lst ((sortS l).map D.str)) := by
    cases b with
    | true =>
      show (match strsOf (l.map D.str) with | some xs => R.ok (D.lst ((sortS xs).map D.str)) | none => .no) = _
      rw [strsOf_map]
    | false =>
      show (match strsOf (l.map D.str) with | some xs => if xs.length < 64 then R.ok (D.lst ((sortS xs).map D.str)) else .no | none => _) = _
      rw [strsOf_map]
      dsimp only
      rw [if_pos h]
  unfold sortedX
  rw [e]
theorem s_woven : (F_woven.f [.urn]).all (fun d => ∃ rs es, d = shB true rs es ∧ Sheet 8 rs es) 1100 := by
  have e6 : ∀ i j : Int, eqD (.int i) (.int j) = .ok (decide (i = j)) := fun _ _ => rfl
  have e7 : ∀ i j : Int, addD (.int i) (.int j) = .ok (.int (i + j)) := fun _ _ => rfl
  have e8 : ∀ i : Int, intD (.int i) = .ok i := fun _ => rfl
  have h10 : ∀ F : Fun1, callF F [.urn, .lst [.str "a", .str "ann", .str "b", .str "bob", .str "c", .str "cat", .str "dan", .str "eve", .str "x", .str "zzzzzzzz"]] = callF F [.urn, sqD false (nm10.map D.str)] := fun _ => rfl
  have sl : ∀ (l : List Str) (k : Nat), sliD (.tup (l.map D.str)) none (some (k : Int)) = .ok (sqD true ((l.take k).map D.str)) := fun l k => by
    show R.ok (D.tup (cutD (l.map D.str) none (some (k : Int)))) = _
    rw [cut_to]
    rfl
  show (resD (q__law_woven F_take F_tome F_mixed F_linked [some (false, .urn), none, none, none, none, none])).all _ _
  simp only [q__law_woven, qCons, qNil, sSet, sRet, sRetN, sIf, sFor, sOwn, sApp, sExt, sDrop, sNop, sPar2, sPar3, sTgt, sSub, sBrk, sCnt, vC, vTup, vLst, aNil, aCons, aStar, vBin, vCmp, tCmp', vAnd, vOr, tAnd', tOr', tNot', tTru, vNot, vNeg, vIf, vSli, oNo, oSo, mB, vB, vLc, vLc2, vDc, vCall, vCalF, vGet1, vGet2, g1, gNil', gCons', tYes', frzs, frz1, par2, par3, ownD, ownL, rdP_chk, rdV_chk, rdU_chk, chkP_f, chkV_f, chkU_f, gT2, gT2t, gT2l, List.getElem?_cons_zero, List.getElem?_cons_succ, List.set_cons_zero, List.set_cons_succ, isU_non, isU_bl, isU_int, isU_str, isU_lst, isU_tup, isU_dic, isU_sq, nuR_f, ok_bind, any_bind, liftS_ok, liftS_any, seqS_nx, seqS_rt, resD_rt, resD_nx, Bool.false_eq_true, reduceIte, iter_sq, items_sq, idx_sq0, idx_sq1, in_sq, len_sq, tup_sq, lst_sq, wipeE, capD_nil, capD_one, capD_two, capD_three, c_take (show (0 : Int) < 3 ∧ (3 : Int) < 1000 by decide), seqS_any, resD_any, e6]
  refine ⟨by decide, fun d ⟨r, e, r0, r1⟩ => ?_⟩
  subst e
  simp only [qCons, qNil, sSet, sRet, sRetN, sIf, sFor, sOwn, sApp, sExt, sDrop, sNop, sPar2, sPar3, sTgt, sSub, sBrk, sCnt, vC, vTup, vLst, aNil, aCons, aStar, vBin, vCmp, tCmp', vAnd, vOr, tAnd', tOr', tNot', tTru, vNot, vNeg, vIf, vSli, oNo, oSo, mB, vB, vLc, vLc2, vDc, vCall, vCalF, vGet1, vGet2, g1, gNil', gCons', tYes', frzs, frz1, par2, par3, ownD, ownL, rdP_chk, rdV_chk, rdU_chk, chkP_f, chkV_f, chkU_f, gT2, gT2t, gT2l, List.getElem?_cons_zero, List.getElem?_cons_succ, List.set_cons_zero, List.set_cons_succ, isU_non, isU_bl, isU_int, isU_str, isU_lst, isU_tup, isU_dic, isU_sq, nuR_f, ok_bind, any_bind, liftS_ok, liftS_any, seqS_nx, seqS_rt, resD_rt, resD_nx, Bool.false_eq_true, reduceIte, iter_sq, items_sq, idx_sq0, idx_sq1, in_sq, len_sq, tup_sq, lst_sq, wipeE, capD_nil, capD_one, capD_two, capD_three, e6]
  by_cases c : r = 0
  · simp only [decide_eq_true c, qCons, qNil, sSet, sRet, sRetN, sIf, sFor, sOwn, sApp, sExt, sDrop, sNop, sPar2, sPar3, sTgt, sSub, sBrk, sCnt, vC, vTup, vLst, aNil, aCons, aStar, vBin, vCmp, tCmp', vAnd, vOr, tAnd', tOr', tNot', tTru, vNot, vNeg, vIf, vSli, oNo, oSo, mB, vB, vLc, vLc2, vDc, vCall, vCalF, vGet1, vGet2, g1, gNil', gCons', tYes', frzs, frz1, par2, par3, ownD, ownL, rdP_chk, rdV_chk, rdU_chk, chkP_f, chkV_f, chkU_f, gT2, gT2t, gT2l, List.getElem?_cons_zero, List.getElem?_cons_succ, List.set_cons_zero, List.set_cons_succ, isU_non, isU_bl, isU_int, isU_str, isU_lst, isU_tup, isU_dic, isU_sq, nuR_f, ok_bind, any_bind, liftS_ok, liftS_any, seqS_nx, seqS_rt, resD_rt, resD_nx, Bool.false_eq_true, reduceIte, iter_sq, items_sq, idx_sq0, idx_sq1, in_sq, len_sq, tup_sq, lst_sq, wipeE, capD_nil, capD_one, capD_two, capD_three, c_tome (show (1 : Int) ≤ 8 ∧ (0 : Int) ≤ 2 ∧ (8 : Int) + 2 ≤ 11 by decide), seqS_any, resD_any, ok_bind, if_true]
    refine ⟨by decide, fun d ⟨rs, es, e, T⟩ => ?_⟩
    subst e
    exact ⟨rs, es, shD_eq rs es, tome_sheet T (by decide)⟩
  simp only [decide_eq_false c, qCons, qNil, sSet, sRet, sRetN, sIf, sFor, sOwn, sApp, sExt, sDrop, sNop, sPar2, sPar3, sTgt, sSub, sBrk, sCnt, vC, vTup, vLst, aNil, aCons, aStar, vBin, vCmp, tCmp', vAnd, vOr, tAnd', tOr', tNot', tTru, vNot, vNeg, vIf, vSli, oNo, oSo, mB, vB, vLc, vLc2, vDc, vCall, vCalF, vGet1, vGet2, g1, gNil', gCons', tYes', frzs, frz1, par2, par3, ownD, ownL, rdP_chk, rdV_chk, rdU_chk, chkP_f, chkV_f, chkU_f, gT2, gT2t, gT2l, List.getElem?_cons_zero, List.getElem?_cons_succ, List.set_cons_zero, List.set_cons_succ, isU_non, isU_bl, isU_int, isU_str, isU_lst, isU_tup, isU_dic, isU_sq, nuR_f, ok_bind, any_bind, liftS_ok, liftS_any, seqS_nx, seqS_rt, resD_rt, resD_nx, Bool.false_eq_true, reduceIte, iter_sq, items_sq, idx_sq0, idx_sq1, in_sq, len_sq, tup_sq, lst_sq, wipeE, capD_nil, capD_one, capD_two, capD_three, seqS_any, resD_any, h10, c_mixed (b := false) (xs := nm10) (by decide)]
  refine ⟨by decide, fun d ⟨ys, e, pm⟩ => ?_⟩
  subst e
  simp only [qCons, qNil, sSet, sRet, sRetN, sIf, sFor, sOwn, sApp, sExt, sDrop, sNop, sPar2, sPar3, sTgt, sSub, sBrk, sCnt, vC, vTup, vLst, aNil, aCons, aStar, vBin, vCmp, tCmp', vAnd, vOr, tAnd', tOr', tNot', tTru, vNot, vNeg, vIf, vSli, oNo, oSo, mB, vB, vLc, vLc2, vDc, vCall, vCalF, vGet1, vGet2, g1, gNil', gCons', tYes', frzs, frz1, par2, par3, ownD, ownL, rdP_chk, rdV_chk, rdU_chk, chkP_f, chkV_f, chkU_f, gT2, gT2t, gT2l, List.getElem?_cons_zero, List.getElem?_cons_succ, List.set_cons_zero, List.set_cons_succ, isU_non, isU_bl, isU_int, isU_str, isU_lst, isU_tup, isU_dic, isU_sq, nuR_f, ok_bind, any_bind, liftS_ok, liftS_any, seqS_nx, seqS_rt, resD_rt, resD_nx, Bool.false_eq_true, reduceIte, iter_sq, items_sq, idx_sq0, idx_sq1, in_sq, len_sq, tup_sq, lst_sq, wipeE, capD_nil, capD_one, capD_two, capD_three, c_take (show (0 : Int) < 6 ∧ (6 : Int) < 1000 by decide), seqS_any, resD_any]
  refine ⟨by decide, fun d ⟨r2, e, r20, r21⟩ => ?_⟩
  subst e
  obtain ⟨k, hk⟩ : ∃ k : Nat, 3 + r2 = (k : Int) := ⟨(3 + r2).toNat, by omega⟩
  have k8 : k ≤ 8 := by omega
  have lt8 : (ys.take k).length ≤ 8 := by rw [List.length_take]; omega
  have nd10 : nm10.Nodup := by decide
  have ndl : (ys.take k).Nodup := (pm.nodup_iff.mpr nd10).sublist (List.take_sublist _ _)
  obtain ⟨ln, eln⟩ : ∃ ln, ln = sortS (ys.take k) := ⟨_, rfl⟩
  have pl : ln.Perm (ys.take k) := by rw [eln]; exact sortS_perm _
  have ll : ln.length ≤ 8 := by rw [pl.length_eq]; exact lt8
  have asc : AscN ln := up_asc (by rw [eln]; exact sortS_up _) (pl.nodup_iff.mpr ndl)
  have okn : ∀ n ∈ ln, PyData.strOk n = true := fun n m => (show ∀ z ∈ nm10, PyData.strOk z = true by decide +kernel) n (pm.mem_iff.mp ((List.take_sublist k ys).subset (pl.mem_iff.mp m)))
  simp only [qCons, qNil, sSet, sRet, sRetN, sIf, sFor, sOwn, sApp, sExt, sDrop, sNop, sPar2, sPar3, sTgt, sSub, sBrk, sCnt, vC, vTup, vLst, aNil, aCons, aStar, vBin, vCmp, tCmp', vAnd, vOr, tAnd', tOr', tNot', tTru, vNot, vNeg, vIf, vSli, oNo, oSo, mB, vB, vLc, vLc2, vDc, vCall, vCalF, vGet1, vGet2, g1, gNil', gCons', tYes', frzs, frz1, par2, par3, ownD, ownL, rdP_chk, rdV_chk, rdU_chk, chkP_f, chkV_f, chkU_f, gT2, gT2t, gT2l, List.getElem?_cons_zero, List.getElem?_cons_succ, List.set_cons_zero, List.set_cons_succ, isU_non, isU_bl, isU_int, isU_str, isU_lst, isU_tup, isU_dic, isU_sq, nuR_f, ok_bind, any_bind, liftS_ok, liftS_any, seqS_nx, seqS_rt, resD_rt, resD_nx, Bool.false_eq_true, reduceIte, iter_sq, items_sq, idx_sq0, idx_sq1, in_sq, len_sq, tup_sq, lst_sq, wipeE, capD_nil, capD_one, capD_two, capD_three, e7, e8, hk, sl, sortX_strs (b := true) (l := ys.take k) (by omega), ← eln, c_take (show (0 : Int) < 3 ∧ (3 : Int) < 1000 by decide), seqS_any, resD_any]
  refine ⟨by decide, fun d ⟨r3, e, r30, r31⟩ => ?_⟩
  subst e
  have hw : (0 : Int) < 2 + r3 ∧ 2 + r3 < 1000 := by omega
  have l1 : lenD [.lst (ln.map D.str)] = .ok (.int ln.length) := by
    show R.ok (D.int ((ln.map D.str).length : Nat)) = _
    rw [List.length_map]
  have rg : range1D [.int (ln.length : Int)] = .ok (rgD 0 ln.length) := by
    show (if -100000 ≤ (ln.length : Int) ∧ (ln.length : Int) ≤ 100000 then R.ok (rgD 0 ((ln.length : Int)).toNat) else .no) = _
    rw [if_pos (by omega), Int.toNat_natCast]
  simp only [qCons, qNil, sSet, sRet, sRetN, sIf, sFor, sOwn, sApp, sExt, sDrop, sNop, sPar2, sPar3, sTgt, sSub, sBrk, sCnt, vC, vTup, vLst, aNil, aCons, aStar, vBin, vCmp, tCmp', vAnd, vOr, tAnd', tOr', tNot', tTru, vNot, vNeg, vIf, vSli, oNo, oSo, mB, vB, vLc, vLc2, vDc, vCall, vCalF, vGet1, vGet2, g1, gNil', gCons', tYes', frzs, frz1, par2, par3, ownD, ownL, rdP_chk, rdV_chk, rdU_chk, chkP_f, chkV_f, chkU_f, gT2, gT2t, gT2l, List.getElem?_cons_zero, List.getElem?_cons_succ, List.set_cons_zero, List.set_cons_succ, isU_non, isU_bl, isU_int, isU_str, isU_lst, isU_tup, isU_dic, isU_sq, nuR_f, ok_bind, any_bind, liftS_ok, liftS_any, seqS_nx, seqS_rt, resD_rt, resD_nx, Bool.false_eq_true, reduceIte, iter_sq, items_sq, idx_sq0, idx_sq1, in_sq, len_sq, tup_sq, lst_sq, wipeE, capD_nil, capD_one, capD_two, capD_three, e7, l1, rg]
  refine resD_all ?_
  have lp := forS_draw (g := g1 4) (b := qCons (sSet (vBin (rdP 3) (vLc (vTup (aCons (vBin (rdP 1) (rdP 4) idxD) (aCons (rdV 5) aNil))) (vB (vSli (rdP 1) (oSo (vBin (rdP 4) (vC (.int (1))) addD)) oNo) iterD) (tCmp' (vCall (aCons (rdU 0) (aCons (rdU 2) aNil)) F_take) (vC (.int (0))) eqD) (g1 5) [5]) addD) [] 3) qNil)
    (I := fun i ε => ∃ A qs o4, A ++ allP (ln.drop i) = allP ln ∧ qs.Sublist A ∧ ε = [some (false, .urn), some (false, .lst (ln.map D.str)), some (false, .int (2 + r3)), some (false, .lst (qs.map prD)), o4, none])
    (c := 8) (ds := rgD 0 ln.length) (i := 0) (ε := [some (false, .urn), some (false, .lst (ln.map D.str)), some (false, .int (2 + r3)), some (false, .lst []), none, none]) ⟨[], [], none, rfl, .slnil, rfl⟩ (fun j d ε hj ⟨A, qs, o4, eA, sq, eε⟩ => by
      obtain ⟨rfl, hjn⟩ := range_get hj
      subst eε
      rw [Nat.zero_add] at eA ⊢
      obtain ⟨x, hx⟩ : ∃ x, ln[j]? = some x := ⟨_, List.getElem?_eq_getElem hjn⟩
      have ix : idxD (.lst (ln.map D.str)) (.int (j : Int)) = .ok (.str x) := idx_at (b := false) hx
      have sf : sliD (.lst (ln.map D.str)) (some ((j : Int) + 1)) none = .ok (.lst ((ln.drop (j + 1)).map D.str)) := by
        show R.ok (D.lst (cutD (ln.map D.str) (some ((j : Int) + 1)) none)) = _
        rw [show (j : Int) + 1 = ((j + 1 : Nat) : Int) from rfl, cut_from]
      have i2 : ∀ l : List Str, iterD (.lst (l.map D.str)) = .ok (l.map D.str) := fun _ => rfl
      have ld : (ln.drop (j + 1)).length ≤ 8 := by rw [List.length_drop]; omega
      have cd := compD_draw (f := turnD (g1 5) (tCmp' (vCall (aCons (rdU 0) (aCons (rdU 2) aNil)) F_take) (vC (.int (0))) eqD) (vTup (aCons (vBin (rdP 1) (rdP 4) idxD) (aCons (rdV 5) aNil))) [some (false, .urn), some (false, .lst (ln.map D.str)), some (false, .int (2 + r3)), some (false, .lst (qs.map prD)), some (false, .int (j : Int)), none]) (h := D.str) (g := fun y => prD (x, y)) (c := 1) (l := ln.drop (j + 1)) fun y m => by
        simp only [turnD, qCons, qNil, sSet, sRet, sRetN, sIf, sFor, sOwn, sApp, sExt, sDrop, sNop, sPar2, sPar3, sTgt, sSub, sBrk, sCnt, vC, vTup, vLst, aNil, aCons, aStar, vBin, vCmp, tCmp', vAnd, vOr, tAnd', tOr', tNot', tTru, vNot, vNeg, vIf, vSli, oNo, oSo, mB, vB, vLc, vLc2, vDc, vCall, vCalF, vGet1, vGet2, g1, gNil', gCons', tYes', frzs, frz1, par2, par3, ownD, ownL, rdP_chk, rdV_chk, rdU_chk, chkP_f, chkV_f, chkU_f, gT2, gT2t, gT2l, List.getElem?_cons_zero, List.getElem?_cons_succ, List.set_cons_zero, List.set_cons_succ, isU_non, isU_bl, isU_int, isU_str, isU_lst, isU_tup, isU_dic, isU_sq, nuR_f, ok_bind, any_bind, liftS_ok, liftS_any, seqS_nx, seqS_rt, resD_rt, resD_nx, Bool.false_eq_true, reduceIte, iter_sq, items_sq, idx_sq0, idx_sq1, in_sq, len_sq, tup_sq, lst_sq, wipeE, capD_nil, capD_one, capD_two, capD_three, c_take hw]
        refine ⟨Nat.le_refl _, fun d ⟨r, e, _⟩ => ?_⟩
        subst e
        simp only [qCons, qNil, sSet, sRet, sRetN, sIf, sFor, sOwn, sApp, sExt, sDrop, sNop, sPar2, sPar3, sTgt, sSub, sBrk, sCnt, vC, vTup, vLst, aNil, aCons, aStar, vBin, vCmp, tCmp', vAnd, vOr, tAnd', tOr', tNot', tTru, vNot, vNeg, vIf, vSli, oNo, oSo, mB, vB, vLc, vLc2, vDc, vCall, vCalF, vGet1, vGet2, g1, gNil', gCons', tYes', frzs, frz1, par2, par3, ownD, ownL, rdP_chk, rdV_chk, rdU_chk, chkP_f, chkV_f, chkU_f, gT2, gT2t, gT2l, List.getElem?_cons_zero, List.getElem?_cons_succ, List.set_cons_zero, List.set_cons_succ, isU_non, isU_bl, isU_int, isU_str, isU_lst, isU_tup, isU_dic, isU_sq, nuR_f, ok_bind, any_bind, liftS_ok, liftS_any, seqS_nx, seqS_rt, resD_rt, resD_nx, Bool.false_eq_true, reduceIte, iter_sq, items_sq, idx_sq0, idx_sq1, in_sq, len_sq, tup_sq, lst_sq, wipeE, capD_nil, capD_one, capD_two, capD_three, e6, ix]
        cases decide (r = 0) with
        | true => exact .inr rfl
        | false => exact .inl rfl
      have dr : ln.drop j = x :: ln.drop (j + 1) := by
        obtain ⟨h1, h2⟩ := List.getElem?_eq_some_iff.mp hx
        rw [← h2]
        exact List.drop_eq_getElem_cons h1
      have eA2 : (A ++ (ln.drop (j + 1)).map fun y => (x, y)) ++ allP (ln.drop (j + 1)) = allP ln := by
        rw [← eA, dr, List.append_assoc]
        rfl
      have big : (A ++ (ln.drop (j + 1)).map fun y => (x, y)).length ≤ 28 := by
        have e := congrArg List.length eA2
        rw [List.length_append, allP_len ln] at e
        have := Nat.le_trans (tri_mono ll) (show tri 8 ≤ 28 by decide)
        omega
      simp only [qCons, qNil, sSet, sRet, sRetN, sIf, sFor, sOwn, sApp, sExt, sDrop, sNop, sPar2, sPar3, sTgt, sSub, sBrk, sCnt, vC, vTup, vLst, aNil, aCons, aStar, vBin, vCmp, tCmp', vAnd, vOr, tAnd', tOr', tNot', tTru, vNot, vNeg, vIf, vSli, oNo, oSo, mB, vB, vLc, vLc2, vDc, vCall, vCalF, vGet1, vGet2, g1, gNil', gCons', tYes', frzs, frz1, par2, par3, ownD, ownL, rdP_chk, rdV_chk, rdU_chk, chkP_f, chkV_f, chkU_f, gT2, gT2t, gT2l, List.getElem?_cons_zero, List.getElem?_cons_succ, List.set_cons_zero, List.set_cons_succ, isU_non, isU_bl, isU_int, isU_str, isU_lst, isU_tup, isU_dic, isU_sq, nuR_f, ok_bind, any_bind, liftS_ok, liftS_any, seqS_nx, seqS_rt, resD_rt, resD_nx, Bool.false_eq_true, reduceIte, iter_sq, items_sq, idx_sq0, idx_sq1, in_sq, len_sq, tup_sq, lst_sq, wipeE, capD_nil, capD_one, capD_two, capD_three, e7, e8, sf, i2, capD_ok (show ((ln.drop (j + 1)).map D.str).length ≤ cap by rw [List.length_map]; exact Nat.le_trans ld (by decide))]
      refine seqS_all (c1 := 8) (c2 := 0) (liftS_all (c1 := 8) (c2 := 0) (R.all_bind (c1 := 8) (c2 := 0) (R.all_bind (c1 := 8) (c2 := 0) (R.all_mono (fun ds hds => ?_) (show (ln.drop (j + 1)).length * 1 ≤ 8 by rw [Nat.mul_one]; exact ld) cd))))
      obtain ⟨zs, sz, rfl⟩ := hds
      have sq2 : (qs ++ zs.map fun y => (x, y)).Sublist (A ++ (ln.drop (j + 1)).map fun y => (x, y)) := sq.append (sz.map _)
      have ad : addD (.lst (qs.map prD)) (.lst (zs.map fun y => prD (x, y))) = .ok (.lst ((qs ++ zs.map fun y => (x, y)).map prD)) := by
        have hb := Nat.le_trans sq2.length_le big
        rw [List.length_append, List.length_map] at hb
        show (if (qs.map prD).length + (zs.map fun y => prD (x, y)).length ≤ cap then R.ok (D.lst (qs.map prD ++ zs.map fun y => prD (x, y))) else .no) = _
        rw [if_pos (by rw [List.length_map, List.length_map]; exact Nat.le_trans hb (by decide)), List.map_append, List.map_map]
        rfl
      show R.all _ (addD (.lst (qs.map prD)) (.lst (zs.map fun y => prD (x, y)))) 0
      rw [ad]
      exact ⟨_, .inl rfl, _, _, _, eA2, sq2, rfl⟩)
  rw [rgD_len, Nat.zero_add, List.drop_length] at lp
  show RS.all _ _ (64 + 1023)
  refine seqS_all (RS.all_mono (fun l hl => ?_) (Nat.mul_le_mul_right 8 ll) lp)
  obtain ⟨ε', el, A, qs, o4, eA, sq, eε⟩ := hl
  subst el
  subst eε
  rw [show allP [] = [] from rfl, List.append_nil] at eA
  subst eA
  have ql : qs.length ≤ 28 := by
    have := sq.length_le
    rw [allP_len] at this
    exact Nat.le_trans this (Nat.le_trans (tri_mono ll) (by decide))
  have qi : ∀ q ∈ qs, q.1 ∈ ln ∧ q.2 ∈ ln ∧ Cx.sLt q.1 q.2 = true := fun q m => allP_in asc q (sq.subset m)
  show RS.all _ (qCons (sRet (vCall (aCons (rdU 1) (aCons (rdU 3) aNil)) F_linked) []) qNil [some (false, .urn), some (false, .lst (ln.map D.str)), some (false, .int (2 + r3)), some (false, .lst (qs.map prD)), o4, none]) 1023
  simp only [qCons, qNil, sSet, sRet, sRetN, sIf, sFor, sOwn, sApp, sExt, sDrop, sNop, sPar2, sPar3, sTgt, sSub, sBrk, sCnt, vC, vTup, vLst, aNil, aCons, aStar, vBin, vCmp, tCmp', vAnd, vOr, tAnd', tOr', tNot', tTru, vNot, vNeg, vIf, vSli, oNo, oSo, mB, vB, vLc, vLc2, vDc, vCall, vCalF, vGet1, vGet2, g1, gNil', gCons', tYes', frzs, frz1, par2, par3, ownD, ownL, rdP_chk, rdV_chk, rdU_chk, chkP_f, chkV_f, chkU_f, gT2, gT2t, gT2l, List.getElem?_cons_zero, List.getElem?_cons_succ, List.set_cons_zero, List.set_cons_succ, isU_non, isU_bl, isU_int, isU_str, isU_lst, isU_tup, isU_dic, isU_sq, nuR_f, ok_bind, any_bind, liftS_ok, liftS_any, seqS_nx, seqS_rt, resD_rt, resD_nx, Bool.false_eq_true, reduceIte, iter_sq, items_sq, idx_sq0, idx_sq1, in_sq, len_sq, tup_sq, lst_sq, wipeE, capD_nil, capD_one, capD_two, capD_three, c_linked (l := .lst (ln.map D.str)) (ln := ln) (qs := qs) (strsOf_map ln) ⟨asc_nd asc, by omega, fun q m => ⟨(qi q m).1, (qi q m).2.1⟩, ql⟩]
  exact .inl ⟨_, rfl, _, _, shD_eq _ _, link_sheet ll (asc_nd asc) ((allP_nd asc).sublist sq) (fun q m => (qi q m).2.2) ql (fun q m => ⟨(qi q m).1, (qi q m).2.1⟩) okn⟩
/-! ### a sheet as lists, and compared -/
theorem lists_sh {k n : Nat} {rs : List Row} {es : List Str} (S : Sheet k rs es) (hk : k ≤ 60) : (F_lists (n + 5)).f [shB true rs es] = .ok (shB false rs es) := by
  have ls : ∀ l : List Str, l.length ≤ 60 → ∀ m, okL (m + 2) (.tup (l.map D.str)) = true := fun l h m => by
    show (decide ((l.map D.str).length ≤ cap) && (l.map D.str).all (okL (m + 1))) = true
    rw [Bool.and_eq_true]
    refine ⟨decide_eq_true (by rw [List.length_map]; exact Nat.le_trans h (by decide)), List.all_eq_true.mpr fun d m => ?_⟩
    obtain ⟨z, _, rfl⟩ := List.mem_map.mp m
    rfl
  have ts : ∀ (l : List Str) (m : Nat), toL (m + 2) (.tup (l.map D.str)) = .lst (l.map D.str) := fun l m => by
    show D.lst ((l.map D.str).map (toL (m + 1))) = _
    rw [List.map_map]
    rfl
  have ok : okL (n + 5) (shB true rs es) = true := by
    have h1 : okL (n + 4) (.tup (rs.map (rowB true))) = true := by
      show (decide ((rs.map (rowB true)).length ≤ cap) && (rs.map (rowB true)).all (okL (n + 3))) = true
      rw [Bool.and_eq_true]
      refine ⟨decide_eq_true (by rw [List.length_map]; exact Nat.le_trans S.len (Nat.le_trans hk (by decide))), List.all_eq_true.mpr fun d m => ?_⟩
      obtain ⟨r, mr, rfl⟩ := List.mem_map.mp m
      have := ls r.2 (S.wl r mr) n
      show (decide (2 ≤ cap) && (okL (n + 2) (.str r.1) && (okL (n + 2) (.tup (r.2.map D.str)) && true))) = true
      rw [this]
      rfl
    have h2 := ls es S.el (n + 2)
    show (decide (2 ≤ cap) && (okL (n + 4) (.tup (rs.map (rowB true))) && (okL (n + 4) (.tup (es.map D.str)) && true))) = true
    rw [h1, h2]
    rfl
  rw [s_lists ok]
  have e1 : toL (n + 4) (.tup (rs.map (rowB true))) = .lst (rs.map (rowB false)) := by
    show D.lst ((rs.map (rowB true)).map (toL (n + 3))) = _
    rw [List.map_map]
    congr 1
    refine List.map_congr_left fun r _ => ?_
    show D.lst [toL (n + 2) (.str r.1), toL (n + 2) (.tup (r.2.map D.str))] = _
    rw [ts]
    rfl
  show R.ok (D.lst [toL (n + 4) (.tup (rs.map (rowB true))), toL (n + 4) (.tup (es.map D.str))]) = _
  rw [e1, ts]
  rfl
theorem okE_strs {b : Bool} {l : List Str} (h : ∀ z ∈ l, PyData.strOk z = true) : okE (sqD b (l.map D.str)) = true := by
  have : okEs (l.map D.str) = true := okEs_all.mpr fun d m => by
    obtain ⟨z, mz, rfl⟩ := List.mem_map.mp m
    exact h z mz
  cases b <;> exact this
theorem dep_sq {b : Bool} {l : List D} {k : Nat} (h : ∀ d ∈ l, dep d ≤ k) : dep (sqD b l) ≤ k + 1 := by
  cases b <;> exact Nat.succ_le_succ (deps_le h)
theorem okE_sh {k : Nat} {b : Bool} {rs : List Row} {es : List Str} (S : Sheet k rs es) : okE (shB b rs es) = true := by
  have two : ∀ x y : D, okE x = true → okE y = true → okE (sqD b [x, y]) = true := fun x y hx hy => by
    have : okEs [x, y] = true := okEs_all.mpr fun d m => by
      rcases List.mem_cons.mp m with e | m
      · rw [e]
        exact hx
      · rw [List.mem_singleton.mp m]
        exact hy
    cases b <;> exact this
  refine two _ _ ?_ (okE_strs S.eok)
  have : okEs (rs.map (rowB b)) = true := okEs_all.mpr fun d m => by
    obtain ⟨r, mr, rfl⟩ := List.mem_map.mp m
    exact two _ _ (S.ok _ (List.mem_map_of_mem mr)) (okE_strs (S.wok r mr))
  cases b <;> exact this
theorem dep_strs {b : Bool} (l : List Str) : dep (sqD b (l.map D.str)) ≤ 2 := dep_sq fun d m => by
  obtain ⟨z, _, rfl⟩ := List.mem_map.mp m
  exact Nat.zero_le _
theorem dep_sh {b : Bool} {rs : List Row} {es : List Str} : dep (shB b rs es) ≤ 5 := by
  refine dep_sq fun d m => ?_
  rcases List.mem_cons.mp m with e | m
  · rw [e]
    refine dep_sq fun d m => ?_
    obtain ⟨r, _, rfl⟩ := List.mem_map.mp m
    refine dep_sq fun d m => ?_
    rcases List.mem_cons.mp m with e | m
    · rw [e]
      exact Nat.zero_le _
    · rw [List.mem_singleton.mp m]
      exact dep_strs _
  · rw [List.mem_singleton.mp m]
    exact Nat.le_trans (dep_strs _) (by decide)
theorem eq_sh {k : Nat} {b : Bool} {rs : List Row} {es : List Str} (S : Sheet k rs es) : eqD (shB b rs es) (shB b rs es) = .ok true := by
  rw [eqD_ok (okE_sh S) (okE_sh S) (Nat.le_trans dep_sh (by decide)) (Nat.le_trans dep_sh (by decide)), eqT_refl (okE_sh S)]
/-- the best of them is as long as the recursion tells -/
theorem best_is {ps pr : List Pr} {names : List Str} {Ns : List (List Pr)} {N : List Pr} (O : PsOk ps names) (hm : ∀ p, p ∈ ps ↔ p ∈ pr) (B : IsBest ps Ns) (m : N ∈ Ns) : 2 * (N.length : Int) = gS pr ones names := by
  obtain ⟨a, M, mM, e⟩ := best_len hm O.lt O.inN O.asc
  obtain ⟨mN, top⟩ := (B.2.1 N).mp m
  have h1 := a N mN
  have h2 := top M mM
  omega
end Fx

/-! the choices, as the program makes them -/
namespace Fx
open PySem PySem.Spec PyProof.Rows L2
theorem forS_ix {g : D → Env → R Env} {b : Env → RS} {I : Nat → Env → Prop} : ∀ {ds : List D} {i : Nat} {ε : Env}, I i ε → (∀ j d ε, ds[j]? = some d → I (i + j) ε → ∃ ε1 ε2, g d ε = .ok ε1 ∧ (b ε1 = .nx ε2 ∨ b ε1 = .ct ε2) ∧ I (i + j + 1) ε2) → ∃ ε', forS g b ds ε = .nx ε' ∧ I (i + ds.length) ε'
  | [], i, ε, h, _ => ⟨ε, rfl, h⟩
  | d :: ds, i, ε, h, t => by
    obtain ⟨ε1, ε2, e1, e2, i2⟩ := t 0 d ε rfl h
    obtain ⟨ε', e3, i3⟩ := forS_ix (g := g) (b := b) (ds := ds) (i := i + 1) i2 fun j d ε e hi => by
      have := t (j + 1) d ε e (by rw [show i + (j + 1) = i + 1 + j from by omega]; exact hi)
      rw [show i + (j + 1) + 1 = i + 1 + j + 1 from by omega] at this
      exact this
    refine ⟨ε', ?_, by rw [List.length_cons, show i + (ds.length + 1) = i + 1 + ds.length from by omega]; exact i3⟩
    rw [forS, e1]
    show loopS (b ε1) _ = _
    rcases e2 with e2 | e2
    · rw [e2]
      exact e3
    · rw [e2]
      exact e3
theorem pairsD_get : ∀ {as bs : List D} {j : Nat} {d : D}, (pairsD as bs)[j]? = some d → ∃ a b, as[j]? = some a ∧ bs[j]? = some b ∧ d = .tup [a, b]
  | [], bs, j, d, h => by
    cases bs <;> cases h
  | a :: as, [], j, d, h => by
    cases h
  | a :: as, b :: bs, 0, d, h => by
    rw [pairsD] at h
    cases h
    exact ⟨a, b, rfl, rfl, rfl⟩
  | a :: as, b :: bs, j + 1, d, h => by
    rw [pairsD] at h
    exact pairsD_get (as := as) (bs := bs) (j := j) h
theorem map_get {α : Type} {f : α → D} {l : List α} {j : Nat} {d : D} (h : (l.map f)[j]? = some d) : ∃ x, l[j]? = some x ∧ d = f x := by
  rw [List.getElem?_map] at h
  cases e : l[j]? with
  | none =>
    rw [e] at h
    cases h
  | some x =>
    rw [e] at h
    exact ⟨x, rfl, (Option.some.inj h).symm⟩
theorem pairsD_len' {as bs : List D} (h : as.length = bs.length) : (pairsD as bs).length = bs.length := by
  rw [pairsD_len, h, Nat.min_self]
theorem chs_len {ps : List Pr} {names : List Str} (O : PsOk ps names) (a : PAsc ps) (m : Nat) : (chs m ps).length ≤ 40000 :=
  Nat.le_trans (nodup_le (chs_nd m a) fun M mM => by
    obtain ⟨s, p, _⟩ := (chs_iff m ps M).mp mM
    exact (matched_iff ps M).mpr ⟨s, p⟩) O.len
theorem q_step {s k : Env → RS} {ε ε2 : Env} {r : RS} (h : s ε = .nx ε2) (g : k ε2 = r) : qCons s k ε = r := by
  show seqS (s ε) k = r
  rw [h]
  exact g
theorem q_ret {s k : Env → RS} {ε : Env} {d : D} (h : s ε = .rt d) : qCons s k ε = .rt d := by
  show seqS (s ε) k = _
  rw [h]
  rfl
theorem PsOk.ps_len {ps : List Pr} {names : List Str} (O : PsOk ps names) : ps.length ≤ 121 := by
  refine Nat.le_trans (nodup_le O.nd (m := (names.map fun x => names.map fun y => (x, y)).flatten) fun p m => ?_) (Nat.le_trans (flat_max (k := names.length) fun x _ => by rw [List.length_map]; exact Nat.le_refl _) (Nat.mul_le_mul O.few O.few))
  obtain ⟨h1, h2⟩ := O.inN p m
  exact List.mem_flatten.mpr ⟨_, List.mem_map.mpr ⟨p.1, h1, rfl⟩, List.mem_map.mpr ⟨p.2, h2, rfl⟩⟩
def F_choices : Nat → Fun1
  | 0 => { n := 2, f := fun _ => .no }
  | n + 1 => { n := 2, f := fun ds => resD (q__choices (F_choices n) (argE N__choices ds)) }
theorem c_ch (n : Nat) (x y : D) : callF (F_choices n) [x, y] = (F_choices n).f [x, y] := by
  cases n <;> rfl
theorem resD_e {r : RS} {d : D} (h : r = .rt d) : resD r = .ok d := by
  rw [h]
  rfl
theorem s_choices : ∀ {n m : Nat} {ps : List Pr} {names : List Str}, m < n → PsOk ps names → PAsc ps → (F_choices n).f [.lst (ps.map prD), .int (m : Int)] = .ok (.lst ((chs m ps).map mD))
  | 0, m, _, _, h, _, _ => absurd h (Nat.not_lt_zero m)
  | n + 1, 0, ps, names, _, _, _ => by
    show resD (q__choices (F_choices n) [some (false, .lst (ps.map prD)), some (false, .int 0), none, none, none, none, none, none, none]) = _
    have e6 : eqD (.int 0) (.int 0) = .ok true := rfl
    simp only [q__choices, qCons, qNil, sSet, sRet, sRetN, sIf, sFor, sOwn, sApp, sExt, sDrop, sNop, sPar2, sPar3, sTgt, sSub, sBrk, sCnt, vC, vTup, vLst, aNil, aCons, aStar, vBin, vCmp, tCmp', vAnd, vOr, tAnd', tOr', tNot', tTru, vNot, vNeg, vIf, vSli, oNo, oSo, mB, vB, vLc, vLc2, vDc, vCall, vCalF, vGet1, vGet2, g1, gNil', gCons', tYes', frzs, frz1, par2, par3, ownD, ownL, rdP_chk, rdV_chk, rdU_chk, chkP_f, chkV_f, chkU_f, gT2, gT2t, gT2l, List.getElem?_cons_zero, List.getElem?_cons_succ, List.set_cons_zero, List.set_cons_succ, isU_non, isU_bl, isU_int, isU_str, isU_lst, isU_tup, isU_dic, isU_sq, nuR_f, ok_bind, any_bind, liftS_ok, liftS_any, seqS_nx, seqS_rt, resD_rt, resD_nx, Bool.false_eq_true, reduceIte, iter_sq, items_sq, idx_sq0, idx_sq1, in_sq, len_sq, tup_sq, lst_sq, wipeE, capD_nil, capD_one, capD_two, capD_three, e6]
    rfl
  | n + 1, m + 1, ps, names, hn, O, a => by
    have e6 : eqD (.int ((m + 1 : Nat) : Int)) (.int 0) = .ok false := by
      show R.ok (decide (((m + 1 : Nat) : Int) = 0)) = _
      rw [decide_eq_false (by omega)]
    have e7 : subD (.int ((m + 1 : Nat) : Int)) (.int 1) = .ok (.int (m : Int)) := by
      show R.ok (D.int (((m + 1 : Nat) : Int) - 1)) = _
      congr 2
      omega
    have e8 : ∀ i j : Int, addD (.int i) (.int j) = .ok (.int (i + j)) := fun _ _ => rfl
    have e9 : ∀ i : Int, intD (.int i) = .ok i := fun _ => rfl
    have i1 : ∀ l : List Pr, iterD (.lst (l.map prD)) = .ok (l.map prD) := fun _ => rfl
    have i2 : ∀ l : List (List Pr), iterD (.lst (l.map mD)) = .ok (l.map mD) := fun _ => rfl
    have i3 : ∀ p : Pr, iterD (prD p) = .ok [.str p.1, .str p.2] := fun _ => rfl
    have i4 : ∀ M : List Pr, itemsD (mD M) = .ok (M.map prD) := fun _ => rfl
    have i5 : enumD [.lst (ps.map prD)] = .ok (pairsD (rgD 0 ps.length) (ps.map prD)) := by
      show R.ok (pairsD (rgD 0 (ps.map prD).length) (ps.map prD)) = _
      rw [List.length_map]
    have g2 : ∀ (x y : D) (gs : List D → Env → R Env) (ε : Env), gT 2 gs (.tup [x, y]) ε = gs [x, y] ε := fun _ _ _ _ => rfl
    have g3 : ∀ (p : Pr) (gs : List D → Env → R Env) (ε : Env), gT 2 gs (prD p) ε = gs [.str p.1, .str p.2] ε := fun _ _ _ => rfl
    have up := chs_len O a (m + 1)
    show resD (q__choices (F_choices n) [some (false, .lst (ps.map prD)), some (false, .int ((m + 1 : Nat) : Int)), none, none, none, none, none, none, none]) = _
    unfold q__choices
    refine resD_e (q_step (ε2 := [some (false, .lst (ps.map prD)), some (false, .int ((m + 1 : Nat) : Int)), none, none, none, none, none, none, none]) ?_ (q_step (ε2 := [some (false, .lst (ps.map prD)), some (false, .int ((m + 1 : Nat) : Int)), some (true, .lst []), none, none, none, none, none, none]) ?_ ?_))
    · simp only [qCons, qNil, sSet, sRet, sRetN, sIf, sFor, sOwn, sApp, sExt, sDrop, sNop, sPar2, sPar3, sTgt, sSub, sBrk, sCnt, vC, vTup, vLst, aNil, aCons, aStar, vBin, vCmp, tCmp', vAnd, vOr, tAnd', tOr', tNot', tTru, vNot, vNeg, vIf, vSli, oNo, oSo, mB, vB, vLc, vLc2, vDc, vCall, vCalF, vGet1, vGet2, g1, gNil', gCons', tYes', frzs, frz1, par2, par3, ownD, ownL, rdP_chk, rdV_chk, rdU_chk, chkP_f, chkV_f, chkU_f, gT2, gT2t, gT2l, List.getElem?_cons_zero, List.getElem?_cons_succ, List.set_cons_zero, List.set_cons_succ, isU_non, isU_bl, isU_int, isU_str, isU_lst, isU_tup, isU_dic, isU_sq, nuR_f, ok_bind, any_bind, liftS_ok, liftS_any, seqS_nx, seqS_rt, resD_rt, resD_nx, Bool.false_eq_true, reduceIte, iter_sq, items_sq, idx_sq0, idx_sq1, in_sq, len_sq, tup_sq, lst_sq, wipeE, capD_nil, capD_one, capD_two, capD_three, e6]
    · simp only [qCons, qNil, sSet, sRet, sRetN, sIf, sFor, sOwn, sApp, sExt, sDrop, sNop, sPar2, sPar3, sTgt, sSub, sBrk, sCnt, vC, vTup, vLst, aNil, aCons, aStar, vBin, vCmp, tCmp', vAnd, vOr, tAnd', tOr', tNot', tTru, vNot, vNeg, vIf, vSli, oNo, oSo, mB, vB, vLc, vLc2, vDc, vCall, vCalF, vGet1, vGet2, g1, gNil', gCons', tYes', frzs, frz1, par2, par3, ownD, ownL, rdP_chk, rdV_chk, rdU_chk, chkP_f, chkV_f, chkU_f, gT2, gT2t, gT2l, List.getElem?_cons_zero, List.getElem?_cons_succ, List.set_cons_zero, List.set_cons_succ, isU_non, isU_bl, isU_int, isU_str, isU_lst, isU_tup, isU_dic, isU_sq, nuR_f, ok_bind, any_bind, liftS_ok, liftS_any, seqS_nx, seqS_rt, resD_rt, resD_nx, Bool.false_eq_true, reduceIte, iter_sq, items_sq, idx_sq0, idx_sq1, in_sq, len_sq, tup_sq, lst_sq, wipeE, capD_nil, capD_one, capD_two, capD_three, ownD]
    obtain ⟨ε', e, A, o3, o4, o5, o6, eA, he⟩ := forS_ix (g := gT 2 (gCons' (g1 3) (gCons' (gT 2 (gCons' (g1 4) (gCons' (g1 5) gNil'))) gNil')))
      (b := qCons (sSet (vLc (rdV 7) (vB (vSli (rdP 0) (oSo (vBin (rdP 3) (vC (.int (1))) addD)) oNo) iterD) (tAnd' (tCmp' (rdP 4) (rdP 7) (fun d e => inD d e >>= fun b => .ok (!b))) (tCmp' (rdP 5) (rdP 7) (fun d e => inD d e >>= fun b => .ok (!b)))) (g1 7) [7]) [] 6)
        (qCons (sExt (vLc (vTup (aCons (vTup (aCons (rdV 4) (aCons (rdV 5) aNil))) (aStar (rdP 8) aNil))) (vB (vCall (aCons (rdU 6) (aCons (vBin (rdP 1) (vC (.int (1))) subD) aNil)) (F_choices n)) iterD) tYes' (g1 8) [8]) [] 2)
        qNil))
      (I := fun i ε => ∃ A o3 o4 o5 o6, A ++ chs (m + 1) (ps.drop i) = chs (m + 1) ps ∧ ε = [some (false, .lst (ps.map prD)), some (false, .int ((m + 1 : Nat) : Int)), some (true, .lst (A.map mD)), o3, o4, o5, o6, none, none])
      (ds := pairsD (rgD 0 ps.length) (ps.map prD)) (i := 0) (ε := [some (false, .lst (ps.map prD)), some (false, .int ((m + 1 : Nat) : Int)), some (true, .lst []), none, none, none, none, none, none])
      ⟨[], none, none, none, none, rfl, rfl⟩ (by
        rintro j d ε hj ⟨A, o3, o4, o5, o6, eA, rfl⟩
        rw [Nat.zero_add] at eA ⊢
        obtain ⟨x, y, hx, hy, rfl⟩ := pairsD_get hj
        obtain ⟨rfl, _⟩ := range_get hx
        obtain ⟨p, hp, rfl⟩ := map_get hy
        have dr : ps.drop j = p :: ps.drop (j + 1) := by
          obtain ⟨h1, h2⟩ := List.getElem?_eq_some_iff.mp hp
          rw [← h2]
          exact List.drop_eq_getElem_cons h1
        have s1 : (ps.drop (j + 1)).Sublist ps := List.drop_sublist _ _
        have s2 : ((ps.drop (j + 1)).filter (djC p)).Sublist ps := List.filter_sublist.trans s1
        have ih := s_choices (n := n) (m := m) (Nat.lt_of_succ_lt_succ hn) (O.sub s2) (a.sublist s2)
        have eN : (A ++ ((chs m ((ps.drop (j + 1)).filter (djC p))).map (p :: ·))) ++ chs (m + 1) (ps.drop (j + 1)) = chs (m + 1) ps := by
          rw [← eA, dr, List.append_assoc]
          rfl
        have lN : (A ++ ((chs m ((ps.drop (j + 1)).filter (djC p))).map (p :: ·))).length ≤ 40000 := by
          have e := congrArg List.length eN
          rw [List.length_append] at e
          omega
        rw [List.length_append, List.length_map] at lN
        have sf : sliD (.lst (ps.map prD)) (some ((j : Int) + 1)) none = .ok (.lst ((ps.drop (j + 1)).map prD)) := by
          show R.ok (D.lst (cutD (ps.map prD) (some ((j : Int) + 1)) none)) = _
          rw [show (j : Int) + 1 = ((j + 1 : Nat) : Int) from rfl, cut_from]
        have l60 : ps.length ≤ cap := Nat.le_trans O.ps_len (by decide)
        refine ⟨[some (false, .lst (ps.map prD)), some (false, .int ((m + 1 : Nat) : Int)), some (true, .lst (A.map mD)), some (false, .int (j : Int)), some (false, .str p.1), some (false, .str p.2), o6, none, none], [some (false, .lst (ps.map prD)), some (false, .int ((m + 1 : Nat) : Int)), some (true, .lst ((A ++ ((chs m ((ps.drop (j + 1)).filter (djC p))).map (p :: ·))).map mD)), some (false, .int (j : Int)), some (false, .str p.1), some (false, .str p.2), some (false, .lst (((ps.drop (j + 1)).filter (djC p)).map prD)), none, none], rfl, .inl ?_, ⟨_, _, _, _, _, eN, rfl⟩⟩
        refine q_step (ε2 := [some (false, .lst (ps.map prD)), some (false, .int ((m + 1 : Nat) : Int)), some (true, .lst (A.map mD)), some (false, .int (j : Int)), some (false, .str p.1), some (false, .str p.2), some (false, .lst (((ps.drop (j + 1)).filter (djC p)).map prD)), none, none]) ?_ (q_step ?_ rfl)
        · simp only [qCons, qNil, sSet, sRet, sRetN, sIf, sFor, sOwn, sApp, sExt, sDrop, sNop, sPar2, sPar3, sTgt, sSub, sBrk, sCnt, vC, vTup, vLst, aNil, aCons, aStar, vBin, vCmp, tCmp', vAnd, vOr, tAnd', tOr', tNot', tTru, vNot, vNeg, vIf, vSli, oNo, oSo, mB, vB, vLc, vLc2, vDc, vCall, vCalF, vGet1, vGet2, g1, gNil', gCons', tYes', frzs, frz1, par2, par3, ownD, ownL, rdP_chk, rdV_chk, rdU_chk, chkP_f, chkV_f, chkU_f, gT2, gT2t, gT2l, List.getElem?_cons_zero, List.getElem?_cons_succ, List.set_cons_zero, List.set_cons_succ, isU_non, isU_bl, isU_int, isU_str, isU_lst, isU_tup, isU_dic, isU_sq, nuR_f, ok_bind, any_bind, liftS_ok, liftS_any, seqS_nx, seqS_rt, resD_rt, resD_nx, Bool.false_eq_true, reduceIte, iter_sq, items_sq, idx_sq0, idx_sq1, in_sq, len_sq, tup_sq, lst_sq, wipeE, capD_nil, capD_one, capD_two, capD_three, e8, e9, sf, i1, capD_ok (show ((ps.drop (j + 1)).map prD).length ≤ cap by rw [List.length_map]; exact Nat.le_trans s1.length_le l60)]
          rw [compD_flt (h := prD) (g := prD) (p := djC p) fun q mq => by
            simp only [turnD, qCons, qNil, sSet, sRet, sRetN, sIf, sFor, sOwn, sApp, sExt, sDrop, sNop, sPar2, sPar3, sTgt, sSub, sBrk, sCnt, vC, vTup, vLst, aNil, aCons, aStar, vBin, vCmp, tCmp', vAnd, vOr, tAnd', tOr', tNot', tTru, vNot, vNeg, vIf, vSli, oNo, oSo, mB, vB, vLc, vLc2, vDc, vCall, vCalF, vGet1, vGet2, g1, gNil', gCons', tYes', frzs, frz1, par2, par3, ownD, ownL, rdP_chk, rdV_chk, rdU_chk, chkP_f, chkV_f, chkU_f, gT2, gT2t, gT2l, List.getElem?_cons_zero, List.getElem?_cons_succ, List.set_cons_zero, List.set_cons_succ, isU_non, isU_bl, isU_int, isU_str, isU_lst, isU_tup, isU_dic, isU_sq, nuR_f, ok_bind, any_bind, liftS_ok, liftS_any, seqS_nx, seqS_rt, resD_rt, resD_nx, Bool.false_eq_true, reduceIte, iter_sq, items_sq, idx_sq0, idx_sq1, in_sq, len_sq, tup_sq, lst_sq, wipeE, capD_nil, capD_one, capD_two, capD_three, isU_pr, in_pr]
            unfold djC
            cases decide (p.1 ∈ [q.1, q.2]) <;> cases decide (p.2 ∈ [q.1, q.2]) <;> rfl]
          simp only [qCons, qNil, sSet, sRet, sRetN, sIf, sFor, sOwn, sApp, sExt, sDrop, sNop, sPar2, sPar3, sTgt, sSub, sBrk, sCnt, vC, vTup, vLst, aNil, aCons, aStar, vBin, vCmp, tCmp', vAnd, vOr, tAnd', tOr', tNot', tTru, vNot, vNeg, vIf, vSli, oNo, oSo, mB, vB, vLc, vLc2, vDc, vCall, vCalF, vGet1, vGet2, g1, gNil', gCons', tYes', frzs, frz1, par2, par3, ownD, ownL, rdP_chk, rdV_chk, rdU_chk, chkP_f, chkV_f, chkU_f, gT2, gT2t, gT2l, List.getElem?_cons_zero, List.getElem?_cons_succ, List.set_cons_zero, List.set_cons_succ, isU_non, isU_bl, isU_int, isU_str, isU_lst, isU_tup, isU_dic, isU_sq, nuR_f, ok_bind, any_bind, liftS_ok, liftS_any, seqS_nx, seqS_rt, resD_rt, resD_nx, Bool.false_eq_true, reduceIte, iter_sq, items_sq, idx_sq0, idx_sq1, in_sq, len_sq, tup_sq, lst_sq, wipeE, capD_nil, capD_one, capD_two, capD_three]
        · simp only [qCons, qNil, sSet, sRet, sRetN, sIf, sFor, sOwn, sApp, sExt, sDrop, sNop, sPar2, sPar3, sTgt, sSub, sBrk, sCnt, vC, vTup, vLst, aNil, aCons, aStar, vBin, vCmp, tCmp', vAnd, vOr, tAnd', tOr', tNot', tTru, vNot, vNeg, vIf, vSli, oNo, oSo, mB, vB, vLc, vLc2, vDc, vCall, vCalF, vGet1, vGet2, g1, gNil', gCons', tYes', frzs, frz1, par2, par3, ownD, ownL, rdP_chk, rdV_chk, rdU_chk, chkP_f, chkV_f, chkU_f, gT2, gT2t, gT2l, List.getElem?_cons_zero, List.getElem?_cons_succ, List.set_cons_zero, List.set_cons_succ, isU_non, isU_bl, isU_int, isU_str, isU_lst, isU_tup, isU_dic, isU_sq, nuR_f, ok_bind, any_bind, liftS_ok, liftS_any, seqS_nx, seqS_rt, resD_rt, resD_nx, Bool.false_eq_true, reduceIte, iter_sq, items_sq, idx_sq0, idx_sq1, in_sq, len_sq, tup_sq, lst_sq, wipeE, capD_nil, capD_one, capD_two, capD_three, e7, c_ch, ih, i2, capD_ok (show ((chs m ((ps.drop (j + 1)).filter (djC p))).map mD).length ≤ cap by rw [List.length_map]; exact Nat.le_trans (Nat.le_trans (Nat.le_add_left _ _) lN) (by decide))]
          rw [compD_all (h := mD) (g := fun M => mD (p :: M)) fun M mM => by
            have lM : M.length ≤ names.length := m_len O ((matched_iff ps M).mpr ⟨(((chs_iff _ _ _).mp mM).1).trans s2, ((chs_iff _ _ _).mp mM).2.1⟩)
            simp only [turnD, qCons, qNil, sSet, sRet, sRetN, sIf, sFor, sOwn, sApp, sExt, sDrop, sNop, sPar2, sPar3, sTgt, sSub, sBrk, sCnt, vC, vTup, vLst, aNil, aCons, aStar, vBin, vCmp, tCmp', vAnd, vOr, tAnd', tOr', tNot', tTru, vNot, vNeg, vIf, vSli, oNo, oSo, mB, vB, vLc, vLc2, vDc, vCall, vCalF, vGet1, vGet2, g1, gNil', gCons', tYes', frzs, frz1, par2, par3, ownD, ownL, rdP_chk, rdV_chk, rdU_chk, chkP_f, chkV_f, chkU_f, gT2, gT2t, gT2l, List.getElem?_cons_zero, List.getElem?_cons_succ, List.set_cons_zero, List.set_cons_succ, isU_non, isU_bl, isU_int, isU_str, isU_lst, isU_tup, isU_dic, isU_sq, nuR_f, ok_bind, any_bind, liftS_ok, liftS_any, seqS_nx, seqS_rt, resD_rt, resD_nx, Bool.false_eq_true, reduceIte, iter_sq, items_sq, idx_sq0, idx_sq1, in_sq, len_sq, tup_sq, lst_sq, wipeE, capD_nil, capD_one, capD_two, capD_three, isU_m, i4, List.append_nil]
            rw [capD_ok (by rw [List.length_cons, List.length_map]; exact Nat.le_trans (Nat.succ_le_succ (Nat.le_trans lM O.few)) (by decide))]
            rfl]
          simp only [qCons, qNil, sSet, sRet, sRetN, sIf, sFor, sOwn, sApp, sExt, sDrop, sNop, sPar2, sPar3, sTgt, sSub, sBrk, sCnt, vC, vTup, vLst, aNil, aCons, aStar, vBin, vCmp, tCmp', vAnd, vOr, tAnd', tOr', tNot', tTru, vNot, vNeg, vIf, vSli, oNo, oSo, mB, vB, vLc, vLc2, vDc, vCall, vCalF, vGet1, vGet2, g1, gNil', gCons', tYes', frzs, frz1, par2, par3, ownD, ownL, rdP_chk, rdV_chk, rdU_chk, chkP_f, chkV_f, chkU_f, gT2, gT2t, gT2l, List.getElem?_cons_zero, List.getElem?_cons_succ, List.set_cons_zero, List.set_cons_succ, isU_non, isU_bl, isU_int, isU_str, isU_lst, isU_tup, isU_dic, isU_sq, nuR_f, ok_bind, any_bind, liftS_ok, liftS_any, seqS_nx, seqS_rt, resD_rt, resD_nx, Bool.false_eq_true, reduceIte, iter_sq, items_sq, idx_sq0, idx_sq1, in_sq, len_sq, tup_sq, lst_sq, wipeE, capD_nil, capD_one, capD_two, capD_three]
          rw [if_pos (by rw [List.length_map, List.length_map]; exact Nat.le_trans lN (by decide)), List.map_append, List.map_map]
          rfl)
    refine q_step (ε2 := ε') ?_ ?_
    · simp only [qCons, qNil, sSet, sRet, sRetN, sIf, sFor, sOwn, sApp, sExt, sDrop, sNop, sPar2, sPar3, sTgt, sSub, sBrk, sCnt, vC, vTup, vLst, aNil, aCons, aStar, vBin, vCmp, tCmp', vAnd, vOr, tAnd', tOr', tNot', tTru, vNot, vNeg, vIf, vSli, oNo, oSo, mB, vB, vLc, vLc2, vDc, vCall, vCalF, vGet1, vGet2, g1, gNil', gCons', tYes', frzs, frz1, par2, par3, ownD, ownL, rdP_chk, rdV_chk, rdU_chk, chkP_f, chkV_f, chkU_f, gT2, gT2t, gT2l, List.getElem?_cons_zero, List.getElem?_cons_succ, List.set_cons_zero, List.set_cons_succ, isU_non, isU_bl, isU_int, isU_str, isU_lst, isU_tup, isU_dic, isU_sq, nuR_f, ok_bind, any_bind, liftS_ok, liftS_any, seqS_nx, seqS_rt, resD_rt, resD_nx, Bool.false_eq_true, reduceIte, iter_sq, items_sq, idx_sq0, idx_sq1, in_sq, len_sq, tup_sq, lst_sq, wipeE, capD_nil, capD_one, capD_two, capD_three, i5]
      exact e
    · rw [he]
      have ll : (pairsD (rgD 0 ps.length) (ps.map prD)).length = ps.length := by
        rw [pairsD_len' (by rw [rgD_len, List.length_map]), List.length_map]
      rw [ll, Nat.zero_add, List.drop_length] at eA
      rw [show chs (m + 1) [] = [] from rfl, List.append_nil] at eA
      rw [eA]
      refine q_ret ?_
      simp only [qCons, qNil, sSet, sRet, sRetN, sIf, sFor, sOwn, sApp, sExt, sDrop, sNop, sPar2, sPar3, sTgt, sSub, sBrk, sCnt, vC, vTup, vLst, aNil, aCons, aStar, vBin, vCmp, tCmp', vAnd, vOr, tAnd', tOr', tNot', tTru, vNot, vNeg, vIf, vSli, oNo, oSo, mB, vB, vLc, vLc2, vDc, vCall, vCalF, vGet1, vGet2, g1, gNil', gCons', tYes', frzs, frz1, par2, par3, ownD, ownL, rdP_chk, rdV_chk, rdU_chk, chkP_f, chkV_f, chkU_f, gT2, gT2t, gT2l, List.getElem?_cons_zero, List.getElem?_cons_succ, List.set_cons_zero, List.set_cons_succ, isU_non, isU_bl, isU_int, isU_str, isU_lst, isU_tup, isU_dic, isU_sq, nuR_f, ok_bind, any_bind, liftS_ok, liftS_any, seqS_nx, seqS_rt, resD_rt, resD_nx, Bool.false_eq_true, reduceIte, iter_sq, items_sq, idx_sq0, idx_sq1, in_sq, len_sq, tup_sq, lst_sq, wipeE, capD_nil, capD_one, capD_two, capD_three]
end Fx

/-! the best choices, as the program makes them -/
namespace Fx
open PySem PySem.Spec PyProof.Rows L2
theorem flat_asc {f : Str → List Pr} (h1 : ∀ n, ∀ p ∈ f n, p.1 = n) (h2 : ∀ n, PAsc (f n)) : ∀ {l : List Str}, AscN l → PAsc ((l.map f).flatten)
  | [], _ => .nil
  | n :: l, ha => by
    obtain ⟨a, b⟩ := List.pairwise_cons.mp ha
    rw [List.map_cons, List.flatten_cons]
    refine List.pairwise_append.mpr ⟨h2 n, flat_asc h1 h2 b, fun p mp q mq => ?_⟩
    obtain ⟨k, mk, mq⟩ := List.mem_flatten.mp mq
    obtain ⟨z, mz, rfl⟩ := List.mem_map.mp mk
    refine pLt_of (.inl ?_)
    rw [h1 n p mp, h1 z q mq]
    exact a z mz
theorem suitOf_asc {k : Nat} {rs : List Row} {es : List Str} {nm : List Str} (S : Sheet k rs es) (n : Str) : PAsc (suitOf rs nm n) :=
  List.pairwise_map.mpr (((wants_asc S n).sublist (List.filter_sublist.trans List.filter_sublist)).imp fun {a b} q => pLt_of (p := (n, a)) (q := (n, b)) (.inr ⟨rfl, q⟩))
theorem suit_asc {k : Nat} {rs : List Row} {es : List Str} {nm : List Str} (S : Sheet k rs es) (hn : nm.Sublist (nms rs)) : PAsc (suitN rs nm) :=
  flat_asc (f := suitOf rs nm) (fun n p m => by
    obtain ⟨o, _, rfl⟩ := List.mem_map.mp m
    rfl) (suitOf_asc S) (S.asc.sublist hn)
theorem apart_eq {k : Nat} {rs : List Row} {es : List Str} (S : Sheet k rs es) (gone : List Str) : apartN (suitN rs (nms rs)) gone = suitN rs (withoutN rs gone) :=
  pasc_eq ((suit_asc S (List.Sublist.refl _)).sublist List.filter_sublist) (suit_asc S List.filter_sublist) fun p => apart_mem
/-- all best choices are what the program's search gives -/
theorem best_chs {ps pr : List Pr} {names : List Str} {Ns : List (List Pr)} (O : PsOk ps names) (a : PAsc ps) (hm : ∀ p, p ∈ ps ↔ p ∈ pr) (B : IsBest ps Ns) : ∃ top : Nat, 2 * (top : Int) = gS pr ones names ∧ top ≤ 11 ∧ Ns = chs top ps := by
  obtain ⟨N, mN⟩ := List.exists_mem_of_ne_nil _ B.1
  have e := best_is O hm B mN
  have m1 := ((B.2.1 N).mp mN)
  refine ⟨N.length, e, Nat.le_trans (m_len O m1.1) O.few, chs_is a B.2.2.1 B.2.2.2 fun M => ?_⟩
  rw [chs_iff, B.2.1, matched_iff]
  constructor
  · rintro ⟨⟨h1, h2⟩, h3⟩
    refine ⟨h1, h2, Nat.le_antisymm (m1.2 M ((matched_iff ps M).mpr ⟨h1, h2⟩)) (h3 N m1.1)⟩
  · rintro ⟨h1, h2, h3⟩
    exact ⟨⟨h1, h2⟩, fun K mK => by rw [h3]; exact m1.2 K mK⟩
def F0_best_swaps (ds : List D) : R D := resD (q__best_swaps F_most_swaps (F_choices 12) F_suiting (argE N__best_swaps ds))
def F_best_swaps : Fun1 := { n := 2, f := F0_best_swaps }
theorem f_bs : F_best_swaps.f = F0_best_swaps := rfl
theorem c_bs (x y : D) : callF F_best_swaps [x, y] = F0_best_swaps [x, y] := by
  have e : callF F_best_swaps [x, y] = F_best_swaps.f [x, y] := if_pos (show [x, y].length = F_best_swaps.n from rfl)
  rw [e, f_bs]
theorem k_ms : F_most_swaps.kw 1 ["without"] = some fun ds es => F0_most_swaps (sel [0, 1] (ds ++ es ++ [.tup []])) := rfl
theorem k_sg : F_suiting.kw 1 ["without"] = some fun ds es => F0_suiting (sel [0, 1] (ds ++ es ++ [.tup []])) := rfl
theorem k_ms1 (x y : D) : callK 1 ["without"] (fun ds es => F0_most_swaps (sel [0, 1] (ds ++ es ++ [.tup []]))) [x] [y] = F0_most_swaps [x, y] := rfl
theorem k_sg1 (x y : D) : callK 1 ["without"] (fun ds es => F0_suiting (sel [0, 1] (ds ++ es ++ [.tup []]))) [x] [y] = F0_suiting [x, y] := rfl
theorem s_best_swaps {k : Nat} {b c : Bool} {rs : List Row} {es gone : List Str} {Ns : List (List Pr)} (S : Sheet k rs es) (hk : k ≤ 11) (hg : ∀ n ∈ gone, n ∈ nms rs) (B : IsBest (suitN rs (withoutN rs gone)) Ns) : F0_best_swaps [shB b rs es, sqD c (gone.map D.str)] = .ok (.lst (Ns.map mD)) := by
  have N12 := S.shN (show k ≤ 12 by omega)
  have O := suit_ok S hk (nm := withoutN rs gone) List.filter_sublist
  have a := suit_asc S (nm := withoutN rs gone) List.filter_sublist
  obtain ⟨top, e, l, eN⟩ := best_chs O a (fun _ => Iff.rfl) B
  have w1 : F0_most_swaps [shB b rs es, sqD c (gone.map D.str)] = .ok (.int (2 * (top : Int))) := by
    rw [e]
    exact s_most_swaps N12 hg
  have w2 : F0_suiting [shB b rs es, sqD c (gone.map D.str)] = .ok (.lst ((suitN rs (withoutN rs gone)).map prD)) := s_suiting N12.toShOk hg
  have w3 : fdivD (.int (2 * (top : Int))) (.int 2) = .ok (.int (top : Int)) := by
    show (if (0 : Int) < 2 ∧ (2 : Int) < 1073741824 then R.ok (D.int (2 * (top : Int) / 2)) else .no) = _
    rw [if_pos (by decide), Int.mul_ediv_cancel_left _ (by decide)]
  have w4 : callF (F_choices 12) [.lst ((suitN rs (withoutN rs gone)).map prD), .int (top : Int)] = .ok (.lst (Ns.map mD)) := by
    rw [c_ch, s_choices (by omega) O a, eN]
  unfold F0_best_swaps
  rw [show argE N__best_swaps [shB b rs es, sqD c (gone.map D.str)] = [some (false, shB b rs es), some (false, sqD c (gone.map D.str)), none] from rfl]
  unfold q__best_swaps
  refine resD_e (q_step (ε2 := [some (false, shB b rs es), some (false, sqD c (gone.map D.str)), some (false, .int (top : Int))]) ?_ (q_ret ?_))
  · simp only [qCons, qNil, sSet, sRet, sRetN, sIf, sFor, sOwn, sApp, sExt, sDrop, sNop, sPar2, sPar3, sTgt, sSub, sBrk, sCnt, vC, vTup, vLst, aNil, aCons, aStar, vBin, vCmp, tCmp', vAnd, vOr, tAnd', tOr', tNot', tTru, vNot, vNeg, vIf, vSli, oNo, oSo, mB, vB, vLc, vLc2, vDc, vCall, vCalF, vGet1, vGet2, g1, gNil', gCons', tYes', frzs, frz1, par2, par3, ownD, ownL, rdP_chk, rdV_chk, rdU_chk, chkP_f, chkV_f, chkU_f, gT2, gT2t, gT2l, List.getElem?_cons_zero, List.getElem?_cons_succ, List.set_cons_zero, List.set_cons_succ, isU_non, isU_bl, isU_int, isU_str, isU_lst, isU_tup, isU_dic, isU_sq, nuR_f, ok_bind, any_bind, liftS_ok, liftS_any, seqS_nx, seqS_rt, resD_rt, resD_nx, Bool.false_eq_true, reduceIte, iter_sq, items_sq, idx_sq0, idx_sq1, in_sq, len_sq, tup_sq, lst_sq, wipeE, capD_nil, capD_one, capD_two, capD_three, k_ms, k_ms1, w1, w3]
  · simp only [qCons, qNil, sSet, sRet, sRetN, sIf, sFor, sOwn, sApp, sExt, sDrop, sNop, sPar2, sPar3, sTgt, sSub, sBrk, sCnt, vC, vTup, vLst, aNil, aCons, aStar, vBin, vCmp, tCmp', vAnd, vOr, tAnd', tOr', tNot', tTru, vNot, vNeg, vIf, vSli, oNo, oSo, mB, vB, vLc, vLc2, vDc, vCall, vCalF, vGet1, vGet2, g1, gNil', gCons', tYes', frzs, frz1, par2, par3, ownD, ownL, rdP_chk, rdV_chk, rdU_chk, chkP_f, chkV_f, chkU_f, gT2, gT2t, gT2l, List.getElem?_cons_zero, List.getElem?_cons_succ, List.set_cons_zero, List.set_cons_succ, isU_non, isU_bl, isU_int, isU_str, isU_lst, isU_tup, isU_dic, isU_sq, nuR_f, ok_bind, any_bind, liftS_ok, liftS_any, seqS_nx, seqS_rt, resD_rt, resD_nx, Bool.false_eq_true, reduceIte, iter_sq, items_sq, idx_sq0, idx_sq1, in_sq, len_sq, tup_sq, lst_sq, wipeE, capD_nil, capD_one, capD_two, capD_three, k_sg, k_sg1, w2, w4]
def F0_least_swaps (ds : List D) : R D := resD (q_least_swaps F_best_swaps (argE N_least_swaps ds))
def F_least_swaps : Fun1 where
  n := 1
  f := fun ds => F0_least_swaps (ds ++ [.tup []])
  kw := kwT F0_least_swaps [.tup []] kwW
theorem s_least_swaps {k : Nat} {b c : Bool} {rs : List Row} {es gone : List Str} {Ns : List (List Pr)} {N : List Pr} (S : Sheet k rs es) (hk : k ≤ 11) (hg : ∀ n ∈ gone, n ∈ nms rs) (B : IsBest (suitN rs (withoutN rs gone)) Ns) (h0 : idxD (.lst (Ns.map mD)) (.int 0) = .ok (mD N)) : F0_least_swaps [shB b rs es, sqD c (gone.map D.str)] = .ok (mD N) := by
  show resD (q_least_swaps F_best_swaps [some (false, shB b rs es), some (false, sqD c (gone.map D.str))]) = _
  unfold q_least_swaps
  refine resD_e (q_ret ?_)
  simp only [qCons, qNil, sSet, sRet, sRetN, sIf, sFor, sOwn, sApp, sExt, sDrop, sNop, sPar2, sPar3, sTgt, sSub, sBrk, sCnt, vC, vTup, vLst, aNil, aCons, aStar, vBin, vCmp, tCmp', vAnd, vOr, tAnd', tOr', tNot', tTru, vNot, vNeg, vIf, vSli, oNo, oSo, mB, vB, vLc, vLc2, vDc, vCall, vCalF, vGet1, vGet2, g1, gNil', gCons', tYes', frzs, frz1, par2, par3, ownD, ownL, rdP_chk, rdV_chk, rdU_chk, chkP_f, chkV_f, chkU_f, gT2, gT2t, gT2l, List.getElem?_cons_zero, List.getElem?_cons_succ, List.set_cons_zero, List.set_cons_succ, isU_non, isU_bl, isU_int, isU_str, isU_lst, isU_tup, isU_dic, isU_sq, nuR_f, ok_bind, any_bind, liftS_ok, liftS_any, seqS_nx, seqS_rt, resD_rt, resD_nx, Bool.false_eq_true, reduceIte, iter_sq, items_sq, idx_sq0, idx_sq1, in_sq, len_sq, tup_sq, lst_sq, wipeE, capD_nil, capD_one, capD_two, capD_three, c_bs, s_best_swaps S hk hg B, h0]
theorem f_least : F_least_swaps.f = fun ds => F0_least_swaps (ds ++ [.tup []]) := rfl
theorem c_least (x : D) : callF F_least_swaps [x] = F0_least_swaps [x, .tup []] := by
  have e : callF F_least_swaps [x] = F_least_swaps.f [x] := if_pos (show [x].length = F_least_swaps.n from rfl)
  rw [e, f_least]
  exact congrArg F0_least_swaps (show [x] ++ [D.tup []] = [x, D.tup []] from rfl)
theorem k_ls1 : F_least_swaps.kw 1 ["without"] = some fun ds es => F0_least_swaps (sel [0, 1] (ds ++ es ++ [.tup []])) := rfl
theorem k_ls2 : F_least_swaps.kw 0 ["sheet"] = some fun ds es => F0_least_swaps (sel [0, 1] (ds ++ es ++ [.tup []])) := rfl
theorem k_ls3 : F_least_swaps.kw 0 ["without", "sheet"] = some fun ds es => F0_least_swaps (sel [1, 0] (ds ++ es ++ [.tup []])) := rfl
theorem c_ls1 (x y : D) : callK 1 ["without"] (fun ds es => F0_least_swaps (sel [0, 1] (ds ++ es ++ [.tup []]))) [x] [y] = F0_least_swaps [x, y] := rfl
theorem c_ls2 (x : D) : callK 0 ["sheet"] (fun ds es => F0_least_swaps (sel [0, 1] (ds ++ es ++ [.tup []]))) [] [x] = F0_least_swaps [x, .tup []] := rfl
theorem c_ls3 (x y : D) : callK 0 ["without", "sheet"] (fun ds es => F0_least_swaps (sel [1, 0] (ds ++ es ++ [.tup []]))) [] [y, x] = F0_least_swaps [x, y] := rfl
end Fx

/-! what the law itself comes to -/
namespace Fx
open PySem PySem.Spec PyProof.Rows L2
def F_six : Fun1 where
  n := 0
  f := fun ds => resD (q__law_six (argE N__law_six ds))
def F_kite : Fun1 where
  n := 0
  f := fun ds => resD (q__law_kite F_linked (argE N__law_kite ds))
def F_fork : Fun1 where
  n := 0
  f := fun ds => resD (q__law_fork F_linked (argE N__law_fork ds))
def F_bloom : Fun1 where
  n := 1
  f := fun ds => resD (q__law_bloom F_linked (argE N__law_bloom ds))
def F_hand : Fun1 where
  n := 0
  f := fun ds => resD (q__law_by_hand_right F_six F_kite F_fork F_least_swaps F_linked F_bloom (F_same 5) (argE N__law_by_hand_right ds))
theorem s_hand : callF F_hand [] = .ok (.bl true) := ok_run (by decide +kernel)
def F_right : Fun1 where
  n := 1
  f := fun ds => resD (q__law_right F_hand F_woven F_few F_folk (F_lists 6) F_suits F_best F_apart F_least_swaps (F_same 5) (argE N__law_right ds))
theorem okL_m {n : Nat} {M : List Pr} (h : M.length ≤ 11) : okL (n + 3) (mD M) = true := by
  show (decide ((M.map prD).length ≤ cap) && (M.map prD).all (okL (n + 2))) = true
  rw [Bool.and_eq_true]
  refine ⟨decide_eq_true (by rw [List.length_map]; exact Nat.le_trans h (by decide)), List.all_eq_true.mpr fun d m => ?_⟩
  obtain ⟨p, _, rfl⟩ := List.mem_map.mp m
  rfl
theorem R_eq {r r' : RS} {p : RS → Prop} {c : Nat} (e : r = r') (h : r'.all p c) : r.all p c := by
  rw [e]
  exact h
def turn3 : Env → RS := (qCons (sSet (vCall (aCons (rdU 2) aNil) F_suits) [] 5)
    (qCons (sSet (vLst (aCons (vBin (vCall (aCons (rdU 5) aNil) F_best) (vC (.int (0))) idxD) (aCons (vBin (vCall (aCons (vCall (aCons (rdU 5) (aCons (rdU 3) aNil)) F_apart) aNil) F_best) (vC (.int (0))) idxD) aNil))) [] 6)
    (qCons (sSet (vLst (aCons (vCall (aCons (rdU 2) aNil) F_least_swaps) (aCons (vCalF (aCons (rdU 2) aNil) (aCons (rdU 3) aNil) 1 ["without"] F_least_swaps) aNil))) [] 7)
    (qCons (sSet (vBin (rdP 7) (vLst (aCons (vCalF aNil (aCons (rdU 4) aNil) 0 ["sheet"] F_least_swaps) (aCons (vCalF aNil (aCons (mB (aCons (rdP 3) aNil) lstD) (aCons (rdU 4) aNil)) 0 ["without", "sheet"] F_least_swaps) aNil))) addD) [] 7)
    (qCons (sIf (tOr' (tNot' (tTru (vCall (aCons (rdU 7) (aCons (vBin (rdP 6) (vC (.int (2))) mulD) aNil)) (F_same 5)))) (tCmp' (rdP 4) (vCall (aCons (rdU 2) aNil) (F_lists 6)) (fun d e => eqD d e >>= fun b => .ok (!b)))) [] (qCons (sRet (vC (.bl false)) [])
    qNil) qNil)
    qNil)))))
theorem s_turn {rs : List Row} {es gs : List Str} {o0 o1 o5 o6 o7 : Option (Bool × D)} (S : Sheet 8 rs es) (sg : gs.Sublist (nms rs)) : ∃ p5 p6 p7, turn3 [o0, o1, some (false, shB true rs es), some (false, .tup (gs.map D.str)), some (false, shB false rs es), o5, o6, o7] = .nx [o0, o1, some (false, shB true rs es), some (false, .tup (gs.map D.str)), some (false, shB false rs es), p5, p6, p7] := by
  have t1 : truD (.bl true) = .ok true := rfl
  have N12 := S.shN (show 8 ≤ 12 by decide)
  have l8 : (nms rs).length ≤ 8 := by unfold nms; rw [List.length_map]; exact S.len
  have hsoft : callF (F_lists 6) [shB true rs es] = .ok (shB false rs es) := lists_sh (n := 1) S (by decide)
  have hsuits : callF F_suits [shB true rs es] = .ok (.lst ((suitN rs (nms rs)).map prD)) := c_suits (S.shOk (by decide))
  have O1 := suit_ok S (by decide) (List.Sublist.refl (nms rs))
  obtain ⟨Ns1, hb1, B1⟩ := s_best O1
  have O2 : PsOk (apartN (suitN rs (nms rs)) gs) (nms rs) := O1.sub List.filter_sublist
  obtain ⟨Ns2, hb2, B2⟩ := s_best O2
  obtain ⟨M1, hi1, m1⟩ := best_0 B1
  obtain ⟨M2, hi2, m2⟩ := best_0 B2
  have hgone : ∀ n ∈ gs, n ∈ nms rs := fun n m => sg.subset m
  have lp : (suitN rs (nms rs)).length ≤ cap := Nat.le_trans O1.ps_len (by decide)
  have hapart : callF F_apart [.lst ((suitN rs (nms rs)).map prD), .tup (gs.map D.str)] = .ok (.lst ((apartN (suitN rs (nms rs)) gs).map prD)) := (c_apart _ _).trans (s_apart (c := true) lp)
  have hbest1 : callF F_best [.lst ((suitN rs (nms rs)).map prD)] = .ok (.lst (Ns1.map mD)) := (c_best _).trans hb1
  have hbest2 : callF F_best [.lst ((apartN (suitN rs (nms rs)) gs).map prD)] = .ok (.lst (Ns2.map mD)) := (c_best _).trans hb2
  have B1' : IsBest (suitN rs (withoutN rs [])) Ns1 := by rw [without_nil]; exact B1
  have B2' : IsBest (suitN rs (withoutN rs gs)) Ns2 := by rw [← apart_eq S]; exact B2
  have w1 : ∀ b, F0_least_swaps [shB b rs es, .tup []] = .ok (mD M1) := fun b => s_least_swaps (c := true) (gone := []) S (by decide) (fun _ m => nomatch m) B1' hi1
  have w2 : ∀ b c, F0_least_swaps [shB b rs es, sqD c (gs.map D.str)] = .ok (mD M2) := fun b c => s_least_swaps S (by decide) hgone B2' hi2
  have q1 : callF F_least_swaps [shB true rs es] = .ok (mD M1) := (c_least _).trans (w1 true)
  have q2 : callK 1 ["without"] (fun ds es => F0_least_swaps (sel [0, 1] (ds ++ es ++ [.tup []]))) [shB true rs es] [.tup (gs.map D.str)] = .ok (mD M2) := (c_ls1 _ _).trans (w2 true true)
  have q3 : callK 0 ["sheet"] (fun ds es => F0_least_swaps (sel [0, 1] (ds ++ es ++ [.tup []]))) [] [shB false rs es] = .ok (mD M1) := (c_ls2 _).trans (w1 false)
  have q4 : callK 0 ["without", "sheet"] (fun ds es => F0_least_swaps (sel [1, 0] (ds ++ es ++ [.tup []]))) [] [.lst (gs.map D.str), shB false rs es] = .ok (mD M2) := (c_ls3 _ _).trans (w2 false false)
  have tl : lstD [.tup (gs.map D.str)] = .ok (.lst (gs.map D.str)) := rfl
  have ad : ∀ a b c d : D, addD (.lst [a, b]) (.lst [c, d]) = .ok (.lst [a, b, c, d]) := fun _ _ _ _ => rfl
  have tw : ∀ a b : D, mulD (.lst [a, b]) (.int 2) = .ok (.lst [a, b, a, b]) := fun _ _ => rfl
  have lM : ∀ {M Ns ps}, PsOk ps (nms rs) → IsBest ps Ns → M ∈ Ns → M.length ≤ 11 := fun O B m => Nat.le_trans (m_len O ((B.2.1 _).mp m).1) O.few
  have sm : callF (F_same 5) [.lst [mD M1, mD M2, mD M1, mD M2], .lst [mD M1, mD M2, mD M1, mD M2]] = .ok (.bl true) := by
    have e : callF (F_same 5) [.lst [mD M1, mD M2, mD M1, mD M2], .lst [mD M1, mD M2, mD M1, mD M2]] = (F_same 5).f [.lst [mD M1, mD M2, mD M1, mD M2], .lst [mD M1, mD M2, mD M1, mD M2]] := rfl
    rw [e]
    refine s_same (n := 5) ?_
    have k1 := okL_m (n := 1) (M := M1) (lM O1 B1 m1)
    have k2 := okL_m (n := 1) (M := M2) (lM O2 B2 m2)
    show (decide (4 ≤ cap) && (okL 4 (mD M1) && (okL 4 (mD M2) && (okL 4 (mD M1) && (okL 4 (mD M2) && true))))) = true
    rw [k1, k2]
    rfl
  refine ⟨some (false, .lst ((suitN rs (nms rs)).map prD)), some (false, .lst [mD M1, mD M2]), some (false, .lst [mD M1, mD M2, mD M1, mD M2]), ?_⟩
  unfold turn3
  apply q_step
  · simp only [qCons, qNil, sSet, sRet, sRetN, sIf, sFor, sOwn, sApp, sExt, sDrop, sNop, sPar2, sPar3, sTgt, sSub, sBrk, sCnt, vC, vTup, vLst, aNil, aCons, aStar, vBin, vCmp, tCmp', vAnd, vOr, tAnd', tOr', tNot', tTru, vNot, vNeg, vIf, vSli, oNo, oSo, mB, vB, vLc, vLc2, vDc, vCall, vCalF, vGet1, vGet2, g1, gNil', gCons', tYes', frzs, frz1, par2, par3, ownD, ownL, rdP_chk, rdV_chk, rdU_chk, chkP_f, chkV_f, chkU_f, gT2, gT2t, gT2l, List.getElem?_cons_zero, List.getElem?_cons_succ, List.set_cons_zero, List.set_cons_succ, isU_non, isU_bl, isU_int, isU_str, isU_lst, isU_tup, isU_dic, isU_sq, nuR_f, ok_bind, any_bind, liftS_ok, liftS_any, seqS_nx, seqS_rt, resD_rt, resD_nx, Bool.false_eq_true, reduceIte, iter_sq, items_sq, idx_sq0, idx_sq1, in_sq, len_sq, tup_sq, lst_sq, wipeE, capD_nil, capD_one, capD_two, capD_three, isU_sh, hsuits]
    rfl
  apply q_step
  · simp only [qCons, qNil, sSet, sRet, sRetN, sIf, sFor, sOwn, sApp, sExt, sDrop, sNop, sPar2, sPar3, sTgt, sSub, sBrk, sCnt, vC, vTup, vLst, aNil, aCons, aStar, vBin, vCmp, tCmp', vAnd, vOr, tAnd', tOr', tNot', tTru, vNot, vNeg, vIf, vSli, oNo, oSo, mB, vB, vLc, vLc2, vDc, vCall, vCalF, vGet1, vGet2, g1, gNil', gCons', tYes', frzs, frz1, par2, par3, ownD, ownL, rdP_chk, rdV_chk, rdU_chk, chkP_f, chkV_f, chkU_f, gT2, gT2t, gT2l, List.getElem?_cons_zero, List.getElem?_cons_succ, List.set_cons_zero, List.set_cons_succ, isU_non, isU_bl, isU_int, isU_str, isU_lst, isU_tup, isU_dic, isU_sq, nuR_f, ok_bind, any_bind, liftS_ok, liftS_any, seqS_nx, seqS_rt, resD_rt, resD_nx, Bool.false_eq_true, reduceIte, iter_sq, items_sq, idx_sq0, idx_sq1, in_sq, len_sq, tup_sq, lst_sq, wipeE, capD_nil, capD_one, capD_two, capD_three, hbest1, hapart, hbest2, hi1, hi2, isU_m]
    rfl
  apply q_step
  · simp only [qCons, qNil, sSet, sRet, sRetN, sIf, sFor, sOwn, sApp, sExt, sDrop, sNop, sPar2, sPar3, sTgt, sSub, sBrk, sCnt, vC, vTup, vLst, aNil, aCons, aStar, vBin, vCmp, tCmp', vAnd, vOr, tAnd', tOr', tNot', tTru, vNot, vNeg, vIf, vSli, oNo, oSo, mB, vB, vLc, vLc2, vDc, vCall, vCalF, vGet1, vGet2, g1, gNil', gCons', tYes', frzs, frz1, par2, par3, ownD, ownL, rdP_chk, rdV_chk, rdU_chk, chkP_f, chkV_f, chkU_f, gT2, gT2t, gT2l, List.getElem?_cons_zero, List.getElem?_cons_succ, List.set_cons_zero, List.set_cons_succ, isU_non, isU_bl, isU_int, isU_str, isU_lst, isU_tup, isU_dic, isU_sq, nuR_f, ok_bind, any_bind, liftS_ok, liftS_any, seqS_nx, seqS_rt, resD_rt, resD_nx, Bool.false_eq_true, reduceIte, iter_sq, items_sq, idx_sq0, idx_sq1, in_sq, len_sq, tup_sq, lst_sq, wipeE, capD_nil, capD_one, capD_two, capD_three, isU_sh, q1, k_ls1, q2]
    rfl
  apply q_step
  · simp only [qCons, qNil, sSet, sRet, sRetN, sIf, sFor, sOwn, sApp, sExt, sDrop, sNop, sPar2, sPar3, sTgt, sSub, sBrk, sCnt, vC, vTup, vLst, aNil, aCons, aStar, vBin, vCmp, tCmp', vAnd, vOr, tAnd', tOr', tNot', tTru, vNot, vNeg, vIf, vSli, oNo, oSo, mB, vB, vLc, vLc2, vDc, vCall, vCalF, vGet1, vGet2, g1, gNil', gCons', tYes', frzs, frz1, par2, par3, ownD, ownL, rdP_chk, rdV_chk, rdU_chk, chkP_f, chkV_f, chkU_f, gT2, gT2t, gT2l, List.getElem?_cons_zero, List.getElem?_cons_succ, List.set_cons_zero, List.set_cons_succ, isU_non, isU_bl, isU_int, isU_str, isU_lst, isU_tup, isU_dic, isU_sq, nuR_f, ok_bind, any_bind, liftS_ok, liftS_any, seqS_nx, seqS_rt, resD_rt, resD_nx, Bool.false_eq_true, reduceIte, iter_sq, items_sq, idx_sq0, idx_sq1, in_sq, len_sq, tup_sq, lst_sq, wipeE, capD_nil, capD_one, capD_two, capD_three, isU_sh, k_ls2, k_ls3, q3, q4, tl, ad]
    rfl
  apply q_step
  · simp only [qCons, qNil, sSet, sRet, sRetN, sIf, sFor, sOwn, sApp, sExt, sDrop, sNop, sPar2, sPar3, sTgt, sSub, sBrk, sCnt, vC, vTup, vLst, aNil, aCons, aStar, vBin, vCmp, tCmp', vAnd, vOr, tAnd', tOr', tNot', tTru, vNot, vNeg, vIf, vSli, oNo, oSo, mB, vB, vLc, vLc2, vDc, vCall, vCalF, vGet1, vGet2, g1, gNil', gCons', tYes', frzs, frz1, par2, par3, ownD, ownL, rdP_chk, rdV_chk, rdU_chk, chkP_f, chkV_f, chkU_f, gT2, gT2t, gT2l, List.getElem?_cons_zero, List.getElem?_cons_succ, List.set_cons_zero, List.set_cons_succ, isU_non, isU_bl, isU_int, isU_str, isU_lst, isU_tup, isU_dic, isU_sq, nuR_f, ok_bind, any_bind, liftS_ok, liftS_any, seqS_nx, seqS_rt, resD_rt, resD_nx, Bool.false_eq_true, reduceIte, iter_sq, items_sq, idx_sq0, idx_sq1, in_sq, len_sq, tup_sq, lst_sq, wipeE, capD_nil, capD_one, capD_two, capD_three, isU_sh, tw, sm, hsoft, eq_sh S, t1, Bool.not_true]
    rfl
  rfl
theorem all_step {s k : Env → RS} {ε : Env} {q : RS → Prop} {c1 c2 : Nat} {p : Env → Prop} (h : (s ε).all (fun l => ∃ ε', l = .nx ε' ∧ p ε') c1) (g : ∀ ε', p ε' → (k ε').all q c2) : (qCons s k ε).all q (c1 + c2) :=
  seqS_all (RS.all_mono (fun l ⟨ε', e, hp⟩ => by
    subst e
    exact g ε' hp) (Nat.le_refl _) h)
theorem s_right : (F_right.f [.urn]).all (fun d => d = .bl true) 10000 := by
  have t1 : truD (.bl true) = .ok true := rfl
  show (resD (q__law_right F_hand F_woven F_few F_folk (F_lists 6) F_suits F_best F_apart F_least_swaps (F_same 5) [some (false, .urn), none, none, none, none, none, none, none])).all _ _
  unfold q__law_right
  refine resD_all (all_step (c1 := 0) (c2 := 10000) (p := fun ε => ε = [some (false, .urn), none, none, none, none, none, none, none]) ?_ fun ε' e => ?_)
  · refine R_eq (r' := .nx [some (false, .urn), none, none, none, none, none, none, none]) ?_ ⟨_, rfl, rfl⟩
    simp only [qCons, qNil, sSet, sRet, sRetN, sIf, sFor, sOwn, sApp, sExt, sDrop, sNop, sPar2, sPar3, sTgt, sSub, sBrk, sCnt, vC, vTup, vLst, aNil, aCons, aStar, vBin, vCmp, tCmp', vAnd, vOr, tAnd', tOr', tNot', tTru, vNot, vNeg, vIf, vSli, oNo, oSo, mB, vB, vLc, vLc2, vDc, vCall, vCalF, vGet1, vGet2, g1, gNil', gCons', tYes', frzs, frz1, par2, par3, ownD, ownL, rdP_chk, rdV_chk, rdU_chk, chkP_f, chkV_f, chkU_f, gT2, gT2t, gT2l, List.getElem?_cons_zero, List.getElem?_cons_succ, List.set_cons_zero, List.set_cons_succ, isU_non, isU_bl, isU_int, isU_str, isU_lst, isU_tup, isU_dic, isU_sq, nuR_f, ok_bind, any_bind, liftS_ok, liftS_any, seqS_nx, seqS_rt, resD_rt, resD_nx, Bool.false_eq_true, reduceIte, iter_sq, items_sq, idx_sq0, idx_sq1, in_sq, len_sq, tup_sq, lst_sq, wipeE, capD_nil, capD_one, capD_two, capD_three, s_hand, t1, Bool.not_true]
  subst e
  refine all_step (c1 := (rgD 0 6).length * 1200) (c2 := 2800) (p := fun ε => ∃ o1 o2 o3 o4 o5 o6 o7, ε = [some (false, .urn), o1, o2, o3, o4, o5, o6, o7]) ?_ fun ε' h => ?_
  · refine forS_draw (I := fun _ ε => ∃ o1 o2 o3 o4 o5 o6 o7, ε = [some (false, .urn), o1, o2, o3, o4, o5, o6, o7]) (c := 1200) (ds := rgD 0 6) (i := 0) (ε := [some (false, .urn), none, none, none, none, none, none, none]) ⟨none, none, none, none, none, none, none, rfl⟩ fun j d ε hj ⟨o1, o2, o3, o4, o5, o6, o7, e⟩ => ?_
    subst e
    obtain ⟨rfl, _⟩ := range_get hj
    show RS.all _ (qCons _ (qCons _ turn3) [some (false, .urn), some (false, .int (j : Int)), o2, o3, o4, o5, o6, o7]) (1100 + 100)
    refine all_step (p := fun ε => ∃ rs es, Sheet 8 rs es ∧ ε = [some (false, .urn), some (false, .int (j : Int)), some (false, shB true rs es), o3, o4, o5, o6, o7]) ?_ fun ε' h => ?_
    · simp only [qCons, qNil, sSet, sRet, sRetN, sIf, sFor, sOwn, sApp, sExt, sDrop, sNop, sPar2, sPar3, sTgt, sSub, sBrk, sCnt, vC, vTup, vLst, aNil, aCons, aStar, vBin, vCmp, tCmp', vAnd, vOr, tAnd', tOr', tNot', tTru, vNot, vNeg, vIf, vSli, oNo, oSo, mB, vB, vLc, vLc2, vDc, vCall, vCalF, vGet1, vGet2, g1, gNil', gCons', tYes', frzs, frz1, par2, par3, ownD, ownL, rdP_chk, rdV_chk, rdU_chk, chkP_f, chkV_f, chkU_f, gT2, gT2t, gT2l, List.getElem?_cons_zero, List.getElem?_cons_succ, List.set_cons_zero, List.set_cons_succ, isU_non, isU_bl, isU_int, isU_str, isU_lst, isU_tup, isU_dic, isU_sq, nuR_f, ok_bind, any_bind, liftS_ok, liftS_any, seqS_nx, seqS_rt, resD_rt, resD_nx, Bool.false_eq_true, reduceIte, iter_sq, items_sq, idx_sq0, idx_sq1, in_sq, len_sq, tup_sq, lst_sq, wipeE, capD_nil, capD_one, capD_two, capD_three, c_woven]
      refine liftS_all (c1 := 1100) (c2 := 0) (R.all_mono (fun d hd => ?_) (Nat.le_refl _) s_woven)
      obtain ⟨rs, es, rfl, S⟩ := hd
      exact ⟨_, rfl, rs, es, S, rfl⟩
    obtain ⟨rs, es, S, e⟩ := h
    subst e
    have N12 := S.shN (show 8 ≤ 12 by decide)
    have l8 : (nms rs).length ≤ 8 := by unfold nms; rw [List.length_map]; exact S.len
    have hfolk : callF F_folk [shB true rs es] = .ok (.lst ((nms rs).map D.str)) := (c_folk _).trans (s_folk N12.cap)
    have hsoft : callF (F_lists 6) [shB true rs es] = .ok (shB false rs es) := lists_sh (n := 1) S (by decide)
    refine all_step (c1 := 60) (c2 := 40) (p := fun ε => ∃ gs : List Str, gs.Sublist (nms rs) ∧ ε = [some (false, .urn), some (false, .int (j : Int)), some (false, shB true rs es), some (false, .tup (gs.map D.str)), some (false, shB false rs es), o5, o6, o7]) ?_ fun ε' h => ?_
    · simp only [qCons, qNil, sSet, sRet, sRetN, sIf, sFor, sOwn, sApp, sExt, sDrop, sNop, sPar2, sPar3, sTgt, sSub, sBrk, sCnt, vC, vTup, vLst, aNil, aCons, aStar, vBin, vCmp, tCmp', vAnd, vOr, tAnd', tOr', tNot', tTru, vNot, vNeg, vIf, vSli, oNo, oSo, mB, vB, vLc, vLc2, vDc, vCall, vCalF, vGet1, vGet2, g1, gNil', gCons', tYes', frzs, frz1, par2, par3, ownD, ownL, rdP_chk, rdV_chk, rdU_chk, chkP_f, chkV_f, chkU_f, gT2, gT2t, gT2l, List.getElem?_cons_zero, List.getElem?_cons_succ, List.set_cons_zero, List.set_cons_succ, isU_non, isU_bl, isU_int, isU_str, isU_lst, isU_tup, isU_dic, isU_sq, nuR_f, ok_bind, any_bind, liftS_ok, liftS_any, seqS_nx, seqS_rt, resD_rt, resD_nx, Bool.false_eq_true, reduceIte, iter_sq, items_sq, idx_sq0, idx_sq1, in_sq, len_sq, tup_sq, lst_sq, wipeE, capD_nil, capD_one, capD_two, capD_three, isU_sh, hfolk, hsoft, c_few]
      refine liftS_all (c1 := 60) (c2 := 0) (R.all_bind (c1 := 60) (c2 := 0) (R.all_mono (fun d hd => ?_) (show (nms rs).length ≤ 60 by omega) (s_few (c := false) (ns := nms rs) (k := 4) (Nat.le_trans l8 (by decide)) (by decide))))
      obtain ⟨gs, rfl, sg⟩ := hd
      exact ⟨_, rfl, gs, sg, rfl⟩
    obtain ⟨gs, sg, e⟩ := h
    subst e
    obtain ⟨p5, p6, p7, e⟩ := s_turn (o0 := some (false, .urn)) (o1 := some (false, .int (j : Int))) (o5 := o5) (o6 := o6) (o7 := o7) S sg
    exact R_eq e ⟨_, .inl rfl, _, _, _, _, _, _, _, rfl⟩
  · obtain ⟨o1, o2, o3, o4, o5, o6, o7, e⟩ := h
    subst e
    exact .inl ⟨_, rfl, rfl⟩
end Fx

namespace Fx
open PySem PySem.Spec PyProof.Rows L2
def Φ_must_be_households (F_households : Fun1) : Fns := fun x => if x = "households" then some F_households else none
theorem e_must_be_households (F_households : Fun1) : fnD (Φ_must_be_households F_households) N_must_be_households (topS 3) = fun ds => resD (q_must_be_households F_households (argE N_must_be_households ds)) := rfl
theorem c_must_be_households (F_households : Fun1) : (defBody (topS 3)).all (cs (Φ_must_be_households F_households) N_must_be_households (defScope (topS 3)) 60 60) = true := rfl
def Φ_households : Fns := fun x => none
theorem e_households : fnD (Φ_households) N_households (topS 4) = fun ds => resD (q_households (argE N_households ds)) := rfl
theorem c_households : (defBody (topS 4)).all (cs (Φ_households) N_households (defScope (topS 4)) 60 60) = true := rfl
def Φ_wishes_by : Fns := fun x => none
theorem e_wishes_by : fnD (Φ_wishes_by) N_wishes_by (topS 5) = fun ds => resD (q_wishes_by (argE N_wishes_by ds)) := rfl
theorem c_wishes_by : (defBody (topS 5)).all (cs (Φ_wishes_by) N_wishes_by (defScope (topS 5)) 60 60) = true := rfl
def Φ_suited_to (F_must_be_households : Fun1) (F_wishes_by : Fun1) : Fns := fun x => if x = "must_be_households" then some F_must_be_households else if x = "wishes_by" then some F_wishes_by else none
theorem e_suited_to (F_must_be_households : Fun1) (F_wishes_by : Fun1) : fnD (Φ_suited_to F_must_be_households F_wishes_by) N_suited_to (topS 6) = fun ds => resD (q_suited_to F_must_be_households F_wishes_by (argE N_suited_to ds)) := rfl
theorem c_suited_to (F_must_be_households : Fun1) (F_wishes_by : Fun1) : (defBody (topS 6)).all (cs (Φ_suited_to F_must_be_households F_wishes_by) N_suited_to (defScope (topS 6)) 60 60) = true := rfl
def Φ_most_paired (F_greatest_sum : Fun1) : Fns := fun x => if x = "greatest_sum" then some F_greatest_sum else none
theorem e_most_paired (F_greatest_sum : Fun1) : fnD (Φ_most_paired F_greatest_sum) N_most_paired (topS 10) = fun ds => resD (q_most_paired F_greatest_sum (argE N_most_paired ds)) := rfl
theorem c_most_paired (F_greatest_sum : Fun1) : (defBody (topS 10)).all (cs (Φ_most_paired F_greatest_sum) N_most_paired (defScope (topS 10)) 60 60) = true := rfl
def Φ_suiting (F_must_be_households : Fun1) (F_households : Fun1) (F_suited_to : Fun1) : Fns := fun x => if x = "must_be_households" then some F_must_be_households else if x = "households" then some F_households else if x = "suited_to" then some F_suited_to else none
theorem e_suiting (F_must_be_households : Fun1) (F_households : Fun1) (F_suited_to : Fun1) : fnD (Φ_suiting F_must_be_households F_households F_suited_to) N_suiting (topS 12) = fun ds => resD (q_suiting F_must_be_households F_households F_suited_to (argE N_suiting ds)) := rfl
theorem c_suiting (F_must_be_households : Fun1) (F_households : Fun1) (F_suited_to : Fun1) : (defBody (topS 12)).all (cs (Φ_suiting F_must_be_households F_households F_suited_to) N_suiting (defScope (topS 12)) 60 60) = true := rfl
def Φ_most_swaps (F_suiting : Fun1) (F_most_paired : Fun1) (F_households : Fun1) : Fns := fun x => if x = "suiting" then some F_suiting else if x = "most_paired" then some F_most_paired else if x = "households" then some F_households else none
theorem e_most_swaps (F_suiting : Fun1) (F_most_paired : Fun1) (F_households : Fun1) : fnD (Φ_most_swaps F_suiting F_most_paired F_households) N_most_swaps (topS 13) = fun ds => resD (q_most_swaps F_suiting F_most_paired F_households (argE N_most_swaps ds)) := rfl
theorem c_most_swaps (F_suiting : Fun1) (F_most_paired : Fun1) (F_households : Fun1) : (defBody (topS 13)).all (cs (Φ_most_swaps F_suiting F_most_paired F_households) N_most_swaps (defScope (topS 13)) 60 60) = true := rfl
def Φ__choices (F__choices : Fun1) : Fns := fun x => if x = "_choices" then some F__choices else none
theorem e__choices (F__choices : Fun1) : fnD (Φ__choices F__choices) N__choices (topS 14) = fun ds => resD (q__choices F__choices (argE N__choices ds)) := rfl
theorem c__choices (F__choices : Fun1) : (defBody (topS 14)).all (cs (Φ__choices F__choices) N__choices (defScope (topS 14)) 60 60) = true := rfl
def Φ__best_swaps (F_most_swaps : Fun1) (F__choices : Fun1) (F_suiting : Fun1) : Fns := fun x => if x = "most_swaps" then some F_most_swaps else if x = "_choices" then some F__choices else if x = "suiting" then some F_suiting else none
theorem e__best_swaps (F_most_swaps : Fun1) (F__choices : Fun1) (F_suiting : Fun1) : fnD (Φ__best_swaps F_most_swaps F__choices F_suiting) N__best_swaps (topS 15) = fun ds => resD (q__best_swaps F_most_swaps F__choices F_suiting (argE N__best_swaps ds)) := rfl
theorem c__best_swaps (F_most_swaps : Fun1) (F__choices : Fun1) (F_suiting : Fun1) : (defBody (topS 15)).all (cs (Φ__best_swaps F_most_swaps F__choices F_suiting) N__best_swaps (defScope (topS 15)) 60 60) = true := rfl
def Φ_least_swaps (F__best_swaps : Fun1) : Fns := fun x => if x = "_best_swaps" then some F__best_swaps else none
theorem e_least_swaps (F__best_swaps : Fun1) : fnD (Φ_least_swaps F__best_swaps) N_least_swaps (topS 16) = fun ds => resD (q_least_swaps F__best_swaps (argE N_least_swaps ds)) := rfl
theorem c_least_swaps (F__best_swaps : Fun1) : (defBody (topS 16)).all (cs (Φ_least_swaps F__best_swaps) N_least_swaps (defScope (topS 16)) 60 60) = true := rfl
def Φ__law_lists (F__law_lists : Fun1) : Fns := fun x => if x = "_law_lists" then some F__law_lists else none
theorem e__law_lists (F__law_lists : Fun1) : fnD (Φ__law_lists F__law_lists) N__law_lists (topS 21) = fun ds => resD (q__law_lists F__law_lists (argE N__law_lists ds)) := rfl
theorem c__law_lists (F__law_lists : Fun1) : (defBody (topS 21)).all (cs (Φ__law_lists F__law_lists) N__law_lists (defScope (topS 21)) 60 60) = true := rfl
def Φ__law_same (F__law_same : Fun1) : Fns := fun x => if x = "_law_same" then some F__law_same else none
theorem e__law_same (F__law_same : Fun1) : fnD (Φ__law_same F__law_same) N__law_same (topS 22) = fun ds => resD (q__law_same F__law_same (argE N__law_same ds)) := rfl
theorem c__law_same (F__law_same : Fun1) : (defBody (topS 22)).all (cs (Φ__law_same F__law_same) N__law_same (defScope (topS 22)) 60 60) = true := rfl
def Φ__law_few (F__law_take : Fun1) : Fns := fun x => if x = "_law_take" then some F__law_take else none
theorem e__law_few (F__law_take : Fun1) : fnD (Φ__law_few F__law_take) N__law_few (topS 23) = fun ds => resD (q__law_few F__law_take (argE N__law_few ds)) := rfl
theorem c__law_few (F__law_take : Fun1) : (defBody (topS 23)).all (cs (Φ__law_few F__law_take) N__law_few (defScope (topS 23)) 60 60) = true := rfl
def Φ__law_folk : Fns := fun x => none
theorem e__law_folk : fnD (Φ__law_folk) N__law_folk (topS 26) = fun ds => resD (q__law_folk (argE N__law_folk ds)) := rfl
theorem c__law_folk : (defBody (topS 26)).all (cs (Φ__law_folk) N__law_folk (defScope (topS 26)) 60 60) = true := rfl
def Φ__law_matched : Fns := fun x => none
theorem e__law_matched : fnD (Φ__law_matched) N__law_matched (topS 29) = fun ds => resD (q__law_matched (argE N__law_matched ds)) := rfl
theorem c__law_matched : (defBody (topS 29)).all (cs (Φ__law_matched) N__law_matched (defScope (topS 29)) 60 60) = true := rfl
def Φ__law_six : Fns := fun x => none
theorem e__law_six : fnD (Φ__law_six) N__law_six (topS 30) = fun ds => resD (q__law_six (argE N__law_six ds)) := rfl
theorem c__law_six : (defBody (topS 30)).all (cs (Φ__law_six) N__law_six (defScope (topS 30)) 60 60) = true := rfl
def Φ__law_kite (F__law_linked : Fun1) : Fns := fun x => if x = "_law_linked" then some F__law_linked else none
theorem e__law_kite (F__law_linked : Fun1) : fnD (Φ__law_kite F__law_linked) N__law_kite (topS 32) = fun ds => resD (q__law_kite F__law_linked (argE N__law_kite ds)) := rfl
theorem c__law_kite (F__law_linked : Fun1) : (defBody (topS 32)).all (cs (Φ__law_kite F__law_linked) N__law_kite (defScope (topS 32)) 60 60) = true := rfl
def Φ__law_fork (F__law_linked : Fun1) : Fns := fun x => if x = "_law_linked" then some F__law_linked else none
theorem e__law_fork (F__law_linked : Fun1) : fnD (Φ__law_fork F__law_linked) N__law_fork (topS 33) = fun ds => resD (q__law_fork F__law_linked (argE N__law_fork ds)) := rfl
theorem c__law_fork (F__law_linked : Fun1) : (defBody (topS 33)).all (cs (Φ__law_fork F__law_linked) N__law_fork (defScope (topS 33)) 60 60) = true := rfl
def Φ__law_woven (F__law_take : Fun1) (F__law_tome : Fun1) (F__law_mixed : Fun1) (F__law_linked : Fun1) : Fns := fun x => if x = "_law_take" then some F__law_take else if x = "_law_tome" then some F__law_tome else if x = "_law_mixed" then some F__law_mixed else if x = "_law_linked" then some F__law_linked else none
theorem e__law_woven (F__law_take : Fun1) (F__law_tome : Fun1) (F__law_mixed : Fun1) (F__law_linked : Fun1) : fnD (Φ__law_woven F__law_take F__law_tome F__law_mixed F__law_linked) N__law_woven (topS 34) = fun ds => resD (q__law_woven F__law_take F__law_tome F__law_mixed F__law_linked (argE N__law_woven ds)) := rfl
theorem c__law_woven (F__law_take : Fun1) (F__law_tome : Fun1) (F__law_mixed : Fun1) (F__law_linked : Fun1) : (defBody (topS 34)).all (cs (Φ__law_woven F__law_take F__law_tome F__law_mixed F__law_linked) N__law_woven (defScope (topS 34)) 60 60) = true := rfl
def Φ__law_bloom (F__law_linked : Fun1) : Fns := fun x => if x = "_law_linked" then some F__law_linked else none
theorem e__law_bloom (F__law_linked : Fun1) : fnD (Φ__law_bloom F__law_linked) N__law_bloom (topS 35) = fun ds => resD (q__law_bloom F__law_linked (argE N__law_bloom ds)) := rfl
theorem c__law_bloom (F__law_linked : Fun1) : (defBody (topS 35)).all (cs (Φ__law_bloom F__law_linked) N__law_bloom (defScope (topS 35)) 60 60) = true := rfl
def Φ__law_best (F__law_matched : Fun1) : Fns := fun x => if x = "_law_matched" then some F__law_matched else none
theorem e__law_best (F__law_matched : Fun1) : fnD (Φ__law_best F__law_matched) N__law_best (topS 36) = fun ds => resD (q__law_best F__law_matched (argE N__law_best ds)) := rfl
theorem c__law_best (F__law_matched : Fun1) : (defBody (topS 36)).all (cs (Φ__law_best F__law_matched) N__law_best (defScope (topS 36)) 60 60) = true := rfl
def Φ__law_apart : Fns := fun x => none
theorem e__law_apart : fnD (Φ__law_apart) N__law_apart (topS 37) = fun ds => resD (q__law_apart (argE N__law_apart ds)) := rfl
theorem c__law_apart : (defBody (topS 37)).all (cs (Φ__law_apart) N__law_apart (defScope (topS 37)) 60 60) = true := rfl
def Φ__law_by_hand_right (F__law_six : Fun1) (F__law_kite : Fun1) (F__law_fork : Fun1) (F_least_swaps : Fun1) (F__law_linked : Fun1) (F__law_bloom : Fun1) (F__law_same : Fun1) : Fns := fun x => if x = "_law_six" then some F__law_six else if x = "_law_kite" then some F__law_kite else if x = "_law_fork" then some F__law_fork else if x = "least_swaps" then some F_least_swaps else if x = "_law_linked" then some F__law_linked else if x = "_law_bloom" then some F__law_bloom else if x = "_law_same" then some F__law_same else none
theorem e__law_by_hand_right (F__law_six : Fun1) (F__law_kite : Fun1) (F__law_fork : Fun1) (F_least_swaps : Fun1) (F__law_linked : Fun1) (F__law_bloom : Fun1) (F__law_same : Fun1) : fnD (Φ__law_by_hand_right F__law_six F__law_kite F__law_fork F_least_swaps F__law_linked F__law_bloom F__law_same) N__law_by_hand_right (topS 38) = fun ds => resD (q__law_by_hand_right F__law_six F__law_kite F__law_fork F_least_swaps F__law_linked F__law_bloom F__law_same (argE N__law_by_hand_right ds)) := rfl
theorem c__law_by_hand_right (F__law_six : Fun1) (F__law_kite : Fun1) (F__law_fork : Fun1) (F_least_swaps : Fun1) (F__law_linked : Fun1) (F__law_bloom : Fun1) (F__law_same : Fun1) : (defBody (topS 38)).all (cs (Φ__law_by_hand_right F__law_six F__law_kite F__law_fork F_least_swaps F__law_linked F__law_bloom F__law_same) N__law_by_hand_right (defScope (topS 38)) 60 60) = true := rfl
def Φ__law_right (F__law_by_hand_right : Fun1) (F__law_woven : Fun1) (F__law_few : Fun1) (F__law_folk : Fun1) (F__law_lists : Fun1) (F__law_suits : Fun1) (F__law_best : Fun1) (F__law_apart : Fun1) (F_least_swaps : Fun1) (F__law_same : Fun1) : Fns := fun x => if x = "_law_by_hand_right" then some F__law_by_hand_right else if x = "_law_woven" then some F__law_woven else if x = "_law_few" then some F__law_few else if x = "_law_folk" then some F__law_folk else if x = "_law_lists" then some F__law_lists else if x = "_law_suits" then some F__law_suits else if x = "_law_best" then some F__law_best else if x = "_law_apart" then some F__law_apart else if x = "least_swaps" then some F_least_swaps else if x = "_law_same" then some F__law_same else none
theorem e__law_right (F__law_by_hand_right : Fun1) (F__law_woven : Fun1) (F__law_few : Fun1) (F__law_folk : Fun1) (F__law_lists : Fun1) (F__law_suits : Fun1) (F__law_best : Fun1) (F__law_apart : Fun1) (F_least_swaps : Fun1) (F__law_same : Fun1) : fnD (Φ__law_right F__law_by_hand_right F__law_woven F__law_few F__law_folk F__law_lists F__law_suits F__law_best F__law_apart F_least_swaps F__law_same) N__law_right (topS 39) = fun ds => resD (q__law_right F__law_by_hand_right F__law_woven F__law_few F__law_folk F__law_lists F__law_suits F__law_best F__law_apart F_least_swaps F__law_same (argE N__law_right ds)) := rfl
theorem c__law_right (F__law_by_hand_right : Fun1) (F__law_woven : Fun1) (F__law_few : Fun1) (F__law_folk : Fun1) (F__law_lists : Fun1) (F__law_suits : Fun1) (F__law_best : Fun1) (F__law_apart : Fun1) (F_least_swaps : Fun1) (F__law_same : Fun1) : (defBody (topS 39)).all (cs (Φ__law_right F__law_by_hand_right F__law_woven F__law_few F__law_folk F__law_lists F__law_suits F__law_best F__law_apart F_least_swaps F__law_same) N__law_right (defScope (topS 39)) 60 60) = true := rfl
end Fx

/-! each def: from its text to calls -/
namespace Fx
open PySem PySem.Spec PyProof.Rows L2
section
variable {P : Program} {w : World} {K : PySem.W.Frag} {mg : Str → Option Value} {base : Heap}

theorem ok_must_be_households {k : Nat} {f : Addr} {fd : FuncData} (F : L2.Fun K "must_be_households" "must_be_households" (topS 3) f fd) (C0 : CalF CX0 k P w K mg base "households" F_households) (hb : ∀ y ∈ bltNames, mg y = none) : FnOk P w K mg base CX0 (k + 1) f fd ["sheet", "names"] (spF K mg 2 (F_must_be_households).f) := by
  have h := ok_fn (P := P) (w := w) (base := base) (Φ := Φ_must_be_households F_households) (N := N_must_be_households) (ps := ["sheet", "names"]) (k := k) F ⟨rfl, rfl, rfl, by decide +kernel, rfl, by decide +kernel, by decide +kernel⟩ (by decide) (c_must_be_households F_households) (fun y G h => by
    unfold Φ_must_be_households at h
    split at h
    · rename_i c
      subst c
      cases h
      exact C0
    cases h) hb
  rw [e_must_be_households] at h
  exact h
theorem ok_households {k : Nat} {f : Addr} {fd : FuncData} (F : L2.Fun K "households" "households" (topS 4) f fd)  (hb : ∀ y ∈ bltNames, mg y = none) : FnOk P w K mg base CX0 (k + 1) f fd ["sheet"] (spF K mg 1 (F_households).f) := by
  have h := ok_fn (P := P) (w := w) (base := base) (Φ := Φ_households) (N := N_households) (ps := ["sheet"]) (k := k) F ⟨rfl, rfl, rfl, by decide +kernel, rfl, by decide +kernel, by decide +kernel⟩ (by decide) (c_households) (fun y G h => by
    unfold Φ_households at h
    cases h) hb
  rw [e_households] at h
  exact h
theorem ok_wishes_by {k : Nat} {f : Addr} {fd : FuncData} (F : L2.Fun K "wishes_by" "wishes_by" (topS 5) f fd)  (hb : ∀ y ∈ bltNames, mg y = none) : FnOk P w K mg base CX0 (k + 1) f fd ["sheet"] (spF K mg 1 (F_wishes_by).f) := by
  have h := ok_fn (P := P) (w := w) (base := base) (Φ := Φ_wishes_by) (N := N_wishes_by) (ps := ["sheet"]) (k := k) F ⟨rfl, rfl, rfl, by decide +kernel, rfl, by decide +kernel, by decide +kernel⟩ (by decide) (c_wishes_by) (fun y G h => by
    unfold Φ_wishes_by at h
    cases h) hb
  rw [e_wishes_by] at h
  exact h
theorem ok_suited_to {k : Nat} {f : Addr} {fd : FuncData} (F : L2.Fun K "suited_to" "suited_to" (topS 6) f fd) (C0 : CalF CX0 k P w K mg base "must_be_households" F_must_be_households) (C1 : CalF CX0 k P w K mg base "wishes_by" F_wishes_by) (hb : ∀ y ∈ bltNames, mg y = none) : FnOk P w K mg base CX0 (k + 1) f fd ["sheet", "name"] (spF K mg 2 (F_suited_to).f) := by
  have h := ok_fn (P := P) (w := w) (base := base) (Φ := Φ_suited_to F_must_be_households F_wishes_by) (N := N_suited_to) (ps := ["sheet", "name"]) (k := k) F ⟨rfl, rfl, rfl, by decide +kernel, rfl, by decide +kernel, by decide +kernel⟩ (by decide) (c_suited_to F_must_be_households F_wishes_by) (fun y G h => by
    unfold Φ_suited_to at h
    split at h
    · rename_i c
      subst c
      cases h
      exact C0
    split at h
    · rename_i c
      subst c
      cases h
      exact C1
    cases h) hb
  rw [e_suited_to] at h
  exact h
theorem ok_most_paired {k : Nat} {f : Addr} {fd : FuncData} (F : L2.Fun K "most_paired" "most_paired" (topS 10) f fd) (C0 : CalF CX0 k P w K mg base "greatest_sum" F_greatest_sum) (hb : ∀ y ∈ bltNames, mg y = none) : FnOk P w K mg base CX0 (k + 1) f fd ["names", "pairs"] (spF K mg 2 (F_most_paired).f) := by
  have h := ok_fn (P := P) (w := w) (base := base) (Φ := Φ_most_paired F_greatest_sum) (N := N_most_paired) (ps := ["names", "pairs"]) (k := k) F ⟨rfl, rfl, rfl, by decide +kernel, rfl, by decide +kernel, by decide +kernel⟩ (by decide) (c_most_paired F_greatest_sum) (fun y G h => by
    unfold Φ_most_paired at h
    split at h
    · rename_i c
      subst c
      cases h
      exact C0
    cases h) hb
  rw [e_most_paired] at h
  exact h
theorem ok_suiting {k : Nat} {f : Addr} {fd : FuncData} {dvs : List V} {kws : List (Str × V)} (F : FunD K "suiting" "suiting" (defArgs (topS 12)) (defBody (topS 12)) (defScope (topS 12)) dvs kws f fd) (C0 : CalF CX0 k P w K mg base "must_be_households" F_must_be_households) (C1 : CalF CX0 k P w K mg base "households" F_households) (C2 : CalF CX0 k P w K mg base "suited_to" F_suited_to) (hb : ∀ y ∈ bltNames, mg y = none) : FnOk P w K mg base CX0 (k + 1) f fd ["sheet", "without"] (spF K mg 2 F0_suiting) := by
  have h := ok_fnD (P := P) (w := w) (base := base) (Φ := Φ_suiting F_must_be_households F_households F_suited_to) (N := N_suiting) (ps := ["sheet", "without"]) (k := k) F ⟨rfl, rfl, rfl, by decide +kernel, rfl, by decide +kernel, by decide +kernel⟩ (by decide) (c_suiting F_must_be_households F_households F_suited_to) (fun y G h => by
    unfold Φ_suiting at h
    split at h
    · rename_i c
      subst c
      cases h
      exact C0
    split at h
    · rename_i c
      subst c
      cases h
      exact C1
    split at h
    · rename_i c
      subst c
      cases h
      exact C2
    cases h) hb
  rw [e_suiting] at h
  exact h
theorem ok_most_swaps {k : Nat} {f : Addr} {fd : FuncData} {dvs : List V} {kws : List (Str × V)} (F : FunD K "most_swaps" "most_swaps" (defArgs (topS 13)) (defBody (topS 13)) (defScope (topS 13)) dvs kws f fd) (C0 : CalF CX0 k P w K mg base "suiting" F_suiting) (C1 : CalF CX0 k P w K mg base "most_paired" F_most_paired) (C2 : CalF CX0 k P w K mg base "households" F_households) (hb : ∀ y ∈ bltNames, mg y = none) : FnOk P w K mg base CX0 (k + 1) f fd ["sheet", "without"] (spF K mg 2 F0_most_swaps) := by
  have h := ok_fnD (P := P) (w := w) (base := base) (Φ := Φ_most_swaps F_suiting F_most_paired F_households) (N := N_most_swaps) (ps := ["sheet", "without"]) (k := k) F ⟨rfl, rfl, rfl, by decide +kernel, rfl, by decide +kernel, by decide +kernel⟩ (by decide) (c_most_swaps F_suiting F_most_paired F_households) (fun y G h => by
    unfold Φ_most_swaps at h
    split at h
    · rename_i c
      subst c
      cases h
      exact C0
    split at h
    · rename_i c
      subst c
      cases h
      exact C1
    split at h
    · rename_i c
      subst c
      cases h
      exact C2
    cases h) hb
  rw [e_most_swaps] at h
  exact h
theorem ok__choices {k : Nat} {n : Nat} {f : Addr} {fd : FuncData} (F : L2.Fun K "_choices" "_choices" (topS 14) f fd) (C0 : CalF CX0 k P w K mg base "_choices" (F_choices n)) (hb : ∀ y ∈ bltNames, mg y = none) : FnOk P w K mg base CX0 (k + 1) f fd ["pairs", "many"] (spF K mg 2 (F_choices (n + 1)).f) := by
  have h := ok_fn (P := P) (w := w) (base := base) (Φ := Φ__choices (F_choices n)) (N := N__choices) (ps := ["pairs", "many"]) (k := k) F ⟨rfl, rfl, rfl, by decide +kernel, rfl, by decide +kernel, by decide +kernel⟩ (by decide) (c__choices (F_choices n)) (fun y G h => by
    unfold Φ__choices at h
    split at h
    · rename_i c
      subst c
      cases h
      exact C0
    cases h) hb
  rw [e__choices] at h
  exact h
theorem cal__choices {f : Addr} {fd : FuncData} (F : L2.Fun K "_choices" "_choices" (topS 14) f fd) (b : Binds K fd ["pairs", "many"] []) (kp : PySem.W.keepIn K (.ref f) = true) (m : mg "_choices" = some (.ref f)) (hb : ∀ y ∈ bltNames, mg y = none) : ∀ n, CalF CX0 n P w K mg base "_choices" (F_choices n)
  | 0 => cal0 (Cx.no_callK spF_no) b kp m rfl
  | n + 1 => cal0 (ok__choices F (cal__choices F b kp m hb n) hb) b kp m rfl
theorem ok__best_swaps {k : Nat} {f : Addr} {fd : FuncData} (F : L2.Fun K "_best_swaps" "_best_swaps" (topS 15) f fd) (C0 : CalF CX0 k P w K mg base "most_swaps" F_most_swaps) (C1 : CalF CX0 k P w K mg base "_choices" (F_choices 12)) (C2 : CalF CX0 k P w K mg base "suiting" F_suiting) (hb : ∀ y ∈ bltNames, mg y = none) : FnOk P w K mg base CX0 (k + 1) f fd ["sheet", "without"] (spF K mg 2 (F_best_swaps).f) := by
  have h := ok_fn (P := P) (w := w) (base := base) (Φ := Φ__best_swaps F_most_swaps (F_choices 12) F_suiting) (N := N__best_swaps) (ps := ["sheet", "without"]) (k := k) F ⟨rfl, rfl, rfl, by decide +kernel, rfl, by decide +kernel, by decide +kernel⟩ (by decide) (c__best_swaps F_most_swaps (F_choices 12) F_suiting) (fun y G h => by
    unfold Φ__best_swaps at h
    split at h
    · rename_i c
      subst c
      cases h
      exact C0
    split at h
    · rename_i c
      subst c
      cases h
      exact C1
    split at h
    · rename_i c
      subst c
      cases h
      exact C2
    cases h) hb
  rw [e__best_swaps] at h
  exact h
theorem ok_least_swaps {k : Nat} {f : Addr} {fd : FuncData} {dvs : List V} {kws : List (Str × V)} (F : FunD K "least_swaps" "least_swaps" (defArgs (topS 16)) (defBody (topS 16)) (defScope (topS 16)) dvs kws f fd) (C0 : CalF CX0 k P w K mg base "_best_swaps" F_best_swaps) (hb : ∀ y ∈ bltNames, mg y = none) : FnOk P w K mg base CX0 (k + 1) f fd ["sheet", "without"] (spF K mg 2 F0_least_swaps) := by
  have h := ok_fnD (P := P) (w := w) (base := base) (Φ := Φ_least_swaps F_best_swaps) (N := N_least_swaps) (ps := ["sheet", "without"]) (k := k) F ⟨rfl, rfl, rfl, by decide +kernel, rfl, by decide +kernel, by decide +kernel⟩ (by decide) (c_least_swaps F_best_swaps) (fun y G h => by
    unfold Φ_least_swaps at h
    split at h
    · rename_i c
      subst c
      cases h
      exact C0
    cases h) hb
  rw [e_least_swaps] at h
  exact h
theorem ok__law_lists {k : Nat} {n : Nat} {f : Addr} {fd : FuncData} (F : L2.Fun K "_law_lists" "_law_lists" (topS 21) f fd) (C0 : CalF CX0 k P w K mg base "_law_lists" (F_lists n)) (hb : ∀ y ∈ bltNames, mg y = none) : FnOk P w K mg base CX0 (k + 1) f fd ["_law_matter"] (spF K mg 1 (F_lists (n + 1)).f) := by
  have h := ok_fn (P := P) (w := w) (base := base) (Φ := Φ__law_lists (F_lists n)) (N := N__law_lists) (ps := ["_law_matter"]) (k := k) F ⟨rfl, rfl, rfl, by decide +kernel, rfl, by decide +kernel, by decide +kernel⟩ (by decide) (c__law_lists (F_lists n)) (fun y G h => by
    unfold Φ__law_lists at h
    split at h
    · rename_i c
      subst c
      cases h
      exact C0
    cases h) hb
  rw [e__law_lists] at h
  exact h
theorem cal__law_lists {f : Addr} {fd : FuncData} (F : L2.Fun K "_law_lists" "_law_lists" (topS 21) f fd) (b : Binds K fd ["_law_matter"] []) (kp : PySem.W.keepIn K (.ref f) = true) (m : mg "_law_lists" = some (.ref f)) (hb : ∀ y ∈ bltNames, mg y = none) : ∀ n, CalF CX0 n P w K mg base "_law_lists" (F_lists n)
  | 0 => cal0 (Cx.no_callK spF_no) b kp m rfl
  | n + 1 => cal0 (ok__law_lists F (cal__law_lists F b kp m hb n) hb) b kp m rfl
theorem ok__law_same {k : Nat} {n : Nat} {f : Addr} {fd : FuncData} (F : L2.Fun K "_law_same" "_law_same" (topS 22) f fd) (C0 : CalF CX0 k P w K mg base "_law_same" (F_same n)) (hb : ∀ y ∈ bltNames, mg y = none) : FnOk P w K mg base CX0 (k + 1) f fd ["_law_got", "_law_goal"] (spF K mg 2 (F_same (n + 1)).f) := by
  have h := ok_fn (P := P) (w := w) (base := base) (Φ := Φ__law_same (F_same n)) (N := N__law_same) (ps := ["_law_got", "_law_goal"]) (k := k) F ⟨rfl, rfl, rfl, by decide +kernel, rfl, by decide +kernel, by decide +kernel⟩ (by decide) (c__law_same (F_same n)) (fun y G h => by
    unfold Φ__law_same at h
    split at h
    · rename_i c
      subst c
      cases h
      exact C0
    cases h) hb
  rw [e__law_same] at h
  exact h
theorem cal__law_same {f : Addr} {fd : FuncData} (F : L2.Fun K "_law_same" "_law_same" (topS 22) f fd) (b : Binds K fd ["_law_got", "_law_goal"] []) (kp : PySem.W.keepIn K (.ref f) = true) (m : mg "_law_same" = some (.ref f)) (hb : ∀ y ∈ bltNames, mg y = none) : ∀ n, CalF CX0 n P w K mg base "_law_same" (F_same n)
  | 0 => cal0 (Cx.no_callK spF_no) b kp m rfl
  | n + 1 => cal0 (ok__law_same F (cal__law_same F b kp m hb n) hb) b kp m rfl
theorem ok__law_few {k : Nat} {f : Addr} {fd : FuncData} (F : L2.Fun K "_law_few" "_law_few" (topS 23) f fd) (C0 : CalF CX0 k P w K mg base "_law_take" F_take) (hb : ∀ y ∈ bltNames, mg y = none) : FnOk P w K mg base CX0 (k + 1) f fd ["_law_urn", "_law_pool", "_law_one_of"] (spF K mg 3 (F_few).f) := by
  have h := ok_fn (P := P) (w := w) (base := base) (Φ := Φ__law_few F_take) (N := N__law_few) (ps := ["_law_urn", "_law_pool", "_law_one_of"]) (k := k) F ⟨rfl, rfl, rfl, by decide +kernel, rfl, by decide +kernel, by decide +kernel⟩ (by decide) (c__law_few F_take) (fun y G h => by
    unfold Φ__law_few at h
    split at h
    · rename_i c
      subst c
      cases h
      exact C0
    cases h) hb
  rw [e__law_few] at h
  exact h
theorem ok__law_folk {k : Nat} {f : Addr} {fd : FuncData} (F : L2.Fun K "_law_folk" "_law_folk" (topS 26) f fd)  (hb : ∀ y ∈ bltNames, mg y = none) : FnOk P w K mg base CX0 (k + 1) f fd ["_law_tome_here"] (spF K mg 1 (F_folk).f) := by
  have h := ok_fn (P := P) (w := w) (base := base) (Φ := Φ__law_folk) (N := N__law_folk) (ps := ["_law_tome_here"]) (k := k) F ⟨rfl, rfl, rfl, by decide +kernel, rfl, by decide +kernel, by decide +kernel⟩ (by decide) (c__law_folk) (fun y G h => by
    unfold Φ__law_folk at h
    cases h) hb
  rw [e__law_folk] at h
  exact h
theorem ok__law_matched {k : Nat} {f : Addr} {fd : FuncData} (F : L2.Fun K "_law_matched" "_law_matched" (topS 29) f fd)  (hb : ∀ y ∈ bltNames, mg y = none) : FnOk P w K mg base CX0 (k + 1) f fd ["_law_pairs"] (spF K mg 1 (F_matched).f) := by
  have h := ok_fn (P := P) (w := w) (base := base) (Φ := Φ__law_matched) (N := N__law_matched) (ps := ["_law_pairs"]) (k := k) F ⟨rfl, rfl, rfl, by decide +kernel, rfl, by decide +kernel, by decide +kernel⟩ (by decide) (c__law_matched) (fun y G h => by
    unfold Φ__law_matched at h
    cases h) hb
  rw [e__law_matched] at h
  exact h
theorem ok__law_six {k : Nat} {f : Addr} {fd : FuncData} (F : L2.Fun K "_law_six" "_law_six" (topS 30) f fd)  (hb : ∀ y ∈ bltNames, mg y = none) : FnOk P w K mg base CX0 (k + 1) f fd [] (spF K mg 0 (F_six).f) := by
  have h := ok_fn (P := P) (w := w) (base := base) (Φ := Φ__law_six) (N := N__law_six) (ps := []) (k := k) F ⟨rfl, rfl, rfl, by decide +kernel, rfl, by decide +kernel, by decide +kernel⟩ (by decide) (c__law_six) (fun y G h => by
    unfold Φ__law_six at h
    cases h) hb
  rw [e__law_six] at h
  exact h
theorem ok__law_kite {k : Nat} {f : Addr} {fd : FuncData} (F : L2.Fun K "_law_kite" "_law_kite" (topS 32) f fd) (C0 : CalF CX0 k P w K mg base "_law_linked" F_linked) (hb : ∀ y ∈ bltNames, mg y = none) : FnOk P w K mg base CX0 (k + 1) f fd [] (spF K mg 0 (F_kite).f) := by
  have h := ok_fn (P := P) (w := w) (base := base) (Φ := Φ__law_kite F_linked) (N := N__law_kite) (ps := []) (k := k) F ⟨rfl, rfl, rfl, by decide +kernel, rfl, by decide +kernel, by decide +kernel⟩ (by decide) (c__law_kite F_linked) (fun y G h => by
    unfold Φ__law_kite at h
    split at h
    · rename_i c
      subst c
      cases h
      exact C0
    cases h) hb
  rw [e__law_kite] at h
  exact h
theorem ok__law_fork {k : Nat} {f : Addr} {fd : FuncData} (F : L2.Fun K "_law_fork" "_law_fork" (topS 33) f fd) (C0 : CalF CX0 k P w K mg base "_law_linked" F_linked) (hb : ∀ y ∈ bltNames, mg y = none) : FnOk P w K mg base CX0 (k + 1) f fd [] (spF K mg 0 (F_fork).f) := by
  have h := ok_fn (P := P) (w := w) (base := base) (Φ := Φ__law_fork F_linked) (N := N__law_fork) (ps := []) (k := k) F ⟨rfl, rfl, rfl, by decide +kernel, rfl, by decide +kernel, by decide +kernel⟩ (by decide) (c__law_fork F_linked) (fun y G h => by
    unfold Φ__law_fork at h
    split at h
    · rename_i c
      subst c
      cases h
      exact C0
    cases h) hb
  rw [e__law_fork] at h
  exact h
theorem ok__law_woven {k : Nat} {f : Addr} {fd : FuncData} (F : L2.Fun K "_law_woven" "_law_woven" (topS 34) f fd) (C0 : CalF CX0 k P w K mg base "_law_take" F_take) (C1 : CalF CX0 k P w K mg base "_law_tome" F_tome) (C2 : CalF CX0 k P w K mg base "_law_mixed" F_mixed) (C3 : CalF CX0 k P w K mg base "_law_linked" F_linked) (hb : ∀ y ∈ bltNames, mg y = none) : FnOk P w K mg base CX0 (k + 1) f fd ["_law_urn"] (spF K mg 1 (F_woven).f) := by
  have h := ok_fn (P := P) (w := w) (base := base) (Φ := Φ__law_woven F_take F_tome F_mixed F_linked) (N := N__law_woven) (ps := ["_law_urn"]) (k := k) F ⟨rfl, rfl, rfl, by decide +kernel, rfl, by decide +kernel, by decide +kernel⟩ (by decide) (c__law_woven F_take F_tome F_mixed F_linked) (fun y G h => by
    unfold Φ__law_woven at h
    split at h
    · rename_i c
      subst c
      cases h
      exact C0
    split at h
    · rename_i c
      subst c
      cases h
      exact C1
    split at h
    · rename_i c
      subst c
      cases h
      exact C2
    split at h
    · rename_i c
      subst c
      cases h
      exact C3
    cases h) hb
  rw [e__law_woven] at h
  exact h
theorem ok__law_bloom {k : Nat} {f : Addr} {fd : FuncData} (F : L2.Fun K "_law_bloom" "_law_bloom" (topS 35) f fd) (C0 : CalF CX0 k P w K mg base "_law_linked" F_linked) (hb : ∀ y ∈ bltNames, mg y = none) : FnOk P w K mg base CX0 (k + 1) f fd ["_law_line"] (spF K mg 1 (F_bloom).f) := by
  have h := ok_fn (P := P) (w := w) (base := base) (Φ := Φ__law_bloom F_linked) (N := N__law_bloom) (ps := ["_law_line"]) (k := k) F ⟨rfl, rfl, rfl, by decide +kernel, rfl, by decide +kernel, by decide +kernel⟩ (by decide) (c__law_bloom F_linked) (fun y G h => by
    unfold Φ__law_bloom at h
    split at h
    · rename_i c
      subst c
      cases h
      exact C0
    cases h) hb
  rw [e__law_bloom] at h
  exact h
theorem ok__law_best {k : Nat} {f : Addr} {fd : FuncData} (F : L2.Fun K "_law_best" "_law_best" (topS 36) f fd) (C0 : CalF CX0 k P w K mg base "_law_matched" F_matched) (hb : ∀ y ∈ bltNames, mg y = none) : FnOk P w K mg base CX0 (k + 1) f fd ["_law_pairs"] (spF K mg 1 (F_best).f) := by
  have h := ok_fn (P := P) (w := w) (base := base) (Φ := Φ__law_best F_matched) (N := N__law_best) (ps := ["_law_pairs"]) (k := k) F ⟨rfl, rfl, rfl, by decide +kernel, rfl, by decide +kernel, by decide +kernel⟩ (by decide) (c__law_best F_matched) (fun y G h => by
    unfold Φ__law_best at h
    split at h
    · rename_i c
      subst c
      cases h
      exact C0
    cases h) hb
  rw [e__law_best] at h
  exact h
theorem ok__law_apart {k : Nat} {f : Addr} {fd : FuncData} (F : L2.Fun K "_law_apart" "_law_apart" (topS 37) f fd)  (hb : ∀ y ∈ bltNames, mg y = none) : FnOk P w K mg base CX0 (k + 1) f fd ["_law_pairs", "_law_gone"] (spF K mg 2 (F_apart).f) := by
  have h := ok_fn (P := P) (w := w) (base := base) (Φ := Φ__law_apart) (N := N__law_apart) (ps := ["_law_pairs", "_law_gone"]) (k := k) F ⟨rfl, rfl, rfl, by decide +kernel, rfl, by decide +kernel, by decide +kernel⟩ (by decide) (c__law_apart) (fun y G h => by
    unfold Φ__law_apart at h
    cases h) hb
  rw [e__law_apart] at h
  exact h
theorem ok__law_by_hand_right {k : Nat} {f : Addr} {fd : FuncData} (F : L2.Fun K "_law_by_hand_right" "_law_by_hand_right" (topS 38) f fd) (C0 : CalF CX0 k P w K mg base "_law_six" F_six) (C1 : CalF CX0 k P w K mg base "_law_kite" F_kite) (C2 : CalF CX0 k P w K mg base "_law_fork" F_fork) (C3 : CalF CX0 k P w K mg base "least_swaps" F_least_swaps) (C4 : CalF CX0 k P w K mg base "_law_linked" F_linked) (C5 : CalF CX0 k P w K mg base "_law_bloom" F_bloom) (C6 : CalF CX0 k P w K mg base "_law_same" (F_same 5)) (hb : ∀ y ∈ bltNames, mg y = none) : FnOk P w K mg base CX0 (k + 1) f fd [] (spF K mg 0 (F_hand).f) := by
  have h := ok_fn (P := P) (w := w) (base := base) (Φ := Φ__law_by_hand_right F_six F_kite F_fork F_least_swaps F_linked F_bloom (F_same 5)) (N := N__law_by_hand_right) (ps := []) (k := k) F ⟨rfl, rfl, rfl, by decide +kernel, rfl, by decide +kernel, by decide +kernel⟩ (by decide) (c__law_by_hand_right F_six F_kite F_fork F_least_swaps F_linked F_bloom (F_same 5)) (fun y G h => by
    unfold Φ__law_by_hand_right at h
    split at h
    · rename_i c
      subst c
      cases h
      exact C0
    split at h
    · rename_i c
      subst c
      cases h
      exact C1
    split at h
    · rename_i c
      subst c
      cases h
      exact C2
    split at h
    · rename_i c
      subst c
      cases h
      exact C3
    split at h
    · rename_i c
      subst c
      cases h
      exact C4
    split at h
    · rename_i c
      subst c
      cases h
      exact C5
    split at h
    · rename_i c
      subst c
      cases h
      exact C6
    cases h) hb
  rw [e__law_by_hand_right] at h
  exact h
theorem ok__law_right {k : Nat} {f : Addr} {fd : FuncData} (F : L2.Fun K "_law_right" "_law_right" (topS 39) f fd) (C0 : CalF CX0 k P w K mg base "_law_by_hand_right" F_hand) (C1 : CalF CX0 k P w K mg base "_law_woven" F_woven) (C2 : CalF CX0 k P w K mg base "_law_few" F_few) (C3 : CalF CX0 k P w K mg base "_law_folk" F_folk) (C4 : CalF CX0 k P w K mg base "_law_lists" (F_lists 6)) (C5 : CalF CX0 k P w K mg base "_law_suits" F_suits) (C6 : CalF CX0 k P w K mg base "_law_best" F_best) (C7 : CalF CX0 k P w K mg base "_law_apart" F_apart) (C8 : CalF CX0 k P w K mg base "least_swaps" F_least_swaps) (C9 : CalF CX0 k P w K mg base "_law_same" (F_same 5)) (hb : ∀ y ∈ bltNames, mg y = none) : FnOk P w K mg base CX0 (k + 1) f fd ["_law_urn"] (spF K mg 1 (F_right).f) := by
  have h := ok_fn (P := P) (w := w) (base := base) (Φ := Φ__law_right F_hand F_woven F_few F_folk (F_lists 6) F_suits F_best F_apart F_least_swaps (F_same 5)) (N := N__law_right) (ps := ["_law_urn"]) (k := k) F ⟨rfl, rfl, rfl, by decide +kernel, rfl, by decide +kernel, by decide +kernel⟩ (by decide) (c__law_right F_hand F_woven F_few F_folk (F_lists 6) F_suits F_best F_apart F_least_swaps (F_same 5)) (fun y G h => by
    unfold Φ__law_right at h
    split at h
    · rename_i c
      subst c
      cases h
      exact C0
    split at h
    · rename_i c
      subst c
      cases h
      exact C1
    split at h
    · rename_i c
      subst c
      cases h
      exact C2
    split at h
    · rename_i c
      subst c
      cases h
      exact C3
    split at h
    · rename_i c
      subst c
      cases h
      exact C4
    split at h
    · rename_i c
      subst c
      cases h
      exact C5
    split at h
    · rename_i c
      subst c
      cases h
      exact C6
    split at h
    · rename_i c
      subst c
      cases h
      exact C7
    split at h
    · rename_i c
      subst c
      cases h
      exact C8
    split at h
    · rename_i c
      subst c
      cases h
      exact C9
    cases h) hb
  rw [e__law_right] at h
  exact h
end
end Fx

/-! defs with a keyword -/
namespace Fx
open PySem PySem.Spec PyProof.Rows L2

abbrev fd_suiting (D : Addr) (doc pm : Value) (an : Option Addr) (cdv ct : Value) : FuncData := PySem.W.fnOf "suiting" "suiting" (defArgs (topS 12)) (defBody (topS 12)) (defScope (topS 12)) .none (.ref D) doc pm an cdv ct
theorem h1_suiting (D : Addr) (doc pm : Value) (an : Option Addr) (cdv ct u k : Value) : KwChain D [("without", k)] (bindArgs (fd_suiting D doc pm an cdv ct) ⟨[u], []⟩) [("sheet", u), ("without", k)] := ⟨_, _, _, _, _, _, rfl, rfl, rfl⟩
theorem h2_suiting (D : Addr) (doc pm : Value) (an : Option Addr) (cdv ct u k : Value) : KwChain D [("without", k)] (bindArgs (fd_suiting D doc pm an cdv ct) ⟨[], [("sheet", u)]⟩) [("sheet", u), ("without", k)] := ⟨_, _, _, _, _, _, rfl, rfl, rfl⟩
theorem h3_suiting (D : Addr) (doc pm : Value) (an : Option Addr) (cdv ct u k : Value) : bindArgs (fd_suiting D doc pm an cdv ct) ⟨[u], [("without", k)]⟩ = (pure [(("sheet" : Str), u), (("without" : Str), k)] : Sem (List (Str × Value))) := rfl
theorem h4_suiting (D : Addr) (doc pm : Value) (an : Option Addr) (cdv ct u k : Value) : bindArgs (fd_suiting D doc pm an cdv ct) ⟨[], [("without", k), ("sheet", u)]⟩ = (pure [(("sheet" : Str), u), (("without" : Str), k)] : Sem (List (Str × Value))) := rfl
theorem fun_suiting {K : PySem.W.Frag} {D T0 f : Addr} {doc pm cdv ct oc : Value} {an od : Option Addr} {osl : Array (Option Value)} (lk : K.lookup f = some ⟨oc, od, .func (fd_suiting D doc pm an cdv ct), osl⟩) (hc : PySem.W.codeIn K cdv "suiting" = true) (kp : PySem.W.keepIn K (.ref f) = true)
    (hw : PySem.W.nsIn K D "without" = some (some (.ref T0))) : FunD K "suiting" "suiting" (defArgs (topS 12)) (defBody (topS 12)) (defScope (topS 12)) [] [("without", V.ref T0)] f (fd_suiting D doc pm an cdv ct) :=
  ⟨⟨oc, od, .none, .ref D, doc, pm, an, cdv, ct, osl, rfl, lk, hc, .inl ⟨rfl, rfl⟩, .inr ⟨D, rfl, fun q m => ⟨.ref T0, by
    rw [List.mem_singleton.mp m]
    exact hw, by
    rw [List.mem_singleton.mp m]
    rfl⟩⟩⟩, kp⟩
theorem cal_suiting {P : Program} {w : World} {K : PySem.W.Frag} {mg : Str → Option Value} {base : Heap} {k : Nat} {D T0 f : Addr} {doc pm cdv ct : Value} {an td : Option Addr} {tsl : Array (Option Value)} {tn : Nat} (G : FnOk P w K mg base CX0 k f (fd_suiting D doc pm an cdv ct) ["sheet", "without"] (spF K mg 2 F0_suiting)) (kp : PySem.W.keepIn K (.ref f) = true) (m : mg "suiting" = some (.ref f))
    (hw : PySem.W.nsIn K D "without" = some (some (.ref T0))) (ht : K.lookup T0 = some ⟨.type "tuple", td, .seq #[] tn, tsl⟩) : CalF CX0 k P w K mg base "suiting" F_suiting := by
  have look : ∀ q ∈ ([(("without" : Str), Value.ref T0)] : List (Str × Value)), PySem.W.nsIn K D q.1 = some (some q.2) := fun q m => by
    rw [List.mem_singleton.mp m]
    exact hw
  have dv : Vals [V.ref T0] [Value.ref T0] := .cons rfl .nil
  have dr : ∀ (u : Option Addr) H, RpUA K u H [V.ref T0] [.tup []] := fun u H => .cons (.inl (.tup (.inr ⟨_, #[], tn, ht, rfl, rfl, Nat.zero_le _, .nil⟩) .nil)) .nil
  refine ⟨calP_of (n := 1) (dD := [.tup []]) G dv dr (fun s us X hl => ?_) kp m, kwT_ok fun e me => ?_⟩
  · have h1 : us.length = 1 := by
      rw [List.length_append] at hl
      exact Nat.succ.inj hl
    match us, h1 with
    | [u], _ => exact BindsTo.of_looks fun M => KwChain.looks X look (h1_suiting D doc pm an cdv ct u (.ref T0))
  · rcases List.mem_cons.mp me with rfl | me
    · refine calK_of (n := 2) (dV := [V.ref T0]) (dU := [Value.ref T0]) (dD := [.tup []]) G rfl (fun i m => le2 (n := 3) m (by decide) (by decide)) dv dr (fun s us ws X h1 h2 => ?_) kp m
      match us, ws, h1, h2 with
      | [u], [v], _, _ => exact .of_eq (h3_suiting D doc pm an cdv ct u v)
    rcases List.mem_cons.mp me with rfl | me
    · refine calK_of (n := 2) (dV := [V.ref T0]) (dU := [Value.ref T0]) (dD := [.tup []]) G rfl (fun i m => le2 (n := 2) m (by decide) (by decide)) dv dr (fun s us ws X h1 h2 => ?_) kp m
      match us, ws, h1, h2 with
      | [], [u], _, _ => exact BindsTo.of_looks fun M => KwChain.looks X look (h2_suiting D doc pm an cdv ct u (.ref T0))
    · have e := List.mem_singleton.mp me
      subst e
      refine calK_of (n := 2) (dV := [V.ref T0]) (dU := [Value.ref T0]) (dD := [.tup []]) G rfl (fun i m => le2 (n := 3) m (by decide) (by decide)) dv dr (fun s us ws X h1 h2 => ?_) kp m
      match us, ws, h1, h2 with
      | [], [a, b], _, _ => exact .of_eq (h4_suiting D doc pm an cdv ct b a)
abbrev fd_most_swaps (D : Addr) (doc pm : Value) (an : Option Addr) (cdv ct : Value) : FuncData := PySem.W.fnOf "most_swaps" "most_swaps" (defArgs (topS 13)) (defBody (topS 13)) (defScope (topS 13)) .none (.ref D) doc pm an cdv ct
theorem h1_most_swaps (D : Addr) (doc pm : Value) (an : Option Addr) (cdv ct u k : Value) : KwChain D [("without", k)] (bindArgs (fd_most_swaps D doc pm an cdv ct) ⟨[u], []⟩) [("sheet", u), ("without", k)] := ⟨_, _, _, _, _, _, rfl, rfl, rfl⟩
theorem h2_most_swaps (D : Addr) (doc pm : Value) (an : Option Addr) (cdv ct u k : Value) : KwChain D [("without", k)] (bindArgs (fd_most_swaps D doc pm an cdv ct) ⟨[], [("sheet", u)]⟩) [("sheet", u), ("without", k)] := ⟨_, _, _, _, _, _, rfl, rfl, rfl⟩
theorem h3_most_swaps (D : Addr) (doc pm : Value) (an : Option Addr) (cdv ct u k : Value) : bindArgs (fd_most_swaps D doc pm an cdv ct) ⟨[u], [("without", k)]⟩ = (pure [(("sheet" : Str), u), (("without" : Str), k)] : Sem (List (Str × Value))) := rfl
theorem h4_most_swaps (D : Addr) (doc pm : Value) (an : Option Addr) (cdv ct u k : Value) : bindArgs (fd_most_swaps D doc pm an cdv ct) ⟨[], [("without", k), ("sheet", u)]⟩ = (pure [(("sheet" : Str), u), (("without" : Str), k)] : Sem (List (Str × Value))) := rfl
theorem fun_most_swaps {K : PySem.W.Frag} {D T0 f : Addr} {doc pm cdv ct oc : Value} {an od : Option Addr} {osl : Array (Option Value)} (lk : K.lookup f = some ⟨oc, od, .func (fd_most_swaps D doc pm an cdv ct), osl⟩) (hc : PySem.W.codeIn K cdv "most_swaps" = true) (kp : PySem.W.keepIn K (.ref f) = true)
    (hw : PySem.W.nsIn K D "without" = some (some (.ref T0))) : FunD K "most_swaps" "most_swaps" (defArgs (topS 13)) (defBody (topS 13)) (defScope (topS 13)) [] [("without", V.ref T0)] f (fd_most_swaps D doc pm an cdv ct) :=
  ⟨⟨oc, od, .none, .ref D, doc, pm, an, cdv, ct, osl, rfl, lk, hc, .inl ⟨rfl, rfl⟩, .inr ⟨D, rfl, fun q m => ⟨.ref T0, by
    rw [List.mem_singleton.mp m]
    exact hw, by
    rw [List.mem_singleton.mp m]
    rfl⟩⟩⟩, kp⟩
theorem cal_most_swaps {P : Program} {w : World} {K : PySem.W.Frag} {mg : Str → Option Value} {base : Heap} {k : Nat} {D T0 f : Addr} {doc pm cdv ct : Value} {an td : Option Addr} {tsl : Array (Option Value)} {tn : Nat} (G : FnOk P w K mg base CX0 k f (fd_most_swaps D doc pm an cdv ct) ["sheet", "without"] (spF K mg 2 F0_most_swaps)) (kp : PySem.W.keepIn K (.ref f) = true) (m : mg "most_swaps" = some (.ref f))
    (hw : PySem.W.nsIn K D "without" = some (some (.ref T0))) (ht : K.lookup T0 = some ⟨.type "tuple", td, .seq #[] tn, tsl⟩) : CalF CX0 k P w K mg base "most_swaps" F_most_swaps := by
  have look : ∀ q ∈ ([(("without" : Str), Value.ref T0)] : List (Str × Value)), PySem.W.nsIn K D q.1 = some (some q.2) := fun q m => by
    rw [List.mem_singleton.mp m]
    exact hw
  have dv : Vals [V.ref T0] [Value.ref T0] := .cons rfl .nil
  have dr : ∀ (u : Option Addr) H, RpUA K u H [V.ref T0] [.tup []] := fun u H => .cons (.inl (.tup (.inr ⟨_, #[], tn, ht, rfl, rfl, Nat.zero_le _, .nil⟩) .nil)) .nil
  refine ⟨calP_of (n := 1) (dD := [.tup []]) G dv dr (fun s us X hl => ?_) kp m, kwT_ok fun e me => ?_⟩
  · have h1 : us.length = 1 := by
      rw [List.length_append] at hl
      exact Nat.succ.inj hl
    match us, h1 with
    | [u], _ => exact BindsTo.of_looks fun M => KwChain.looks X look (h1_most_swaps D doc pm an cdv ct u (.ref T0))
  · rcases List.mem_cons.mp me with rfl | me
    · refine calK_of (n := 2) (dV := [V.ref T0]) (dU := [Value.ref T0]) (dD := [.tup []]) G rfl (fun i m => le2 (n := 3) m (by decide) (by decide)) dv dr (fun s us ws X h1 h2 => ?_) kp m
      match us, ws, h1, h2 with
      | [u], [v], _, _ => exact .of_eq (h3_most_swaps D doc pm an cdv ct u v)
    rcases List.mem_cons.mp me with rfl | me
    · refine calK_of (n := 2) (dV := [V.ref T0]) (dU := [Value.ref T0]) (dD := [.tup []]) G rfl (fun i m => le2 (n := 2) m (by decide) (by decide)) dv dr (fun s us ws X h1 h2 => ?_) kp m
      match us, ws, h1, h2 with
      | [], [u], _, _ => exact BindsTo.of_looks fun M => KwChain.looks X look (h2_most_swaps D doc pm an cdv ct u (.ref T0))
    · have e := List.mem_singleton.mp me
      subst e
      refine calK_of (n := 2) (dV := [V.ref T0]) (dU := [Value.ref T0]) (dD := [.tup []]) G rfl (fun i m => le2 (n := 3) m (by decide) (by decide)) dv dr (fun s us ws X h1 h2 => ?_) kp m
      match us, ws, h1, h2 with
      | [], [a, b], _, _ => exact .of_eq (h4_most_swaps D doc pm an cdv ct b a)
abbrev fd_least_swaps (D : Addr) (doc pm : Value) (an : Option Addr) (cdv ct : Value) : FuncData := PySem.W.fnOf "least_swaps" "least_swaps" (defArgs (topS 16)) (defBody (topS 16)) (defScope (topS 16)) .none (.ref D) doc pm an cdv ct
theorem h1_least_swaps (D : Addr) (doc pm : Value) (an : Option Addr) (cdv ct u k : Value) : KwChain D [("without", k)] (bindArgs (fd_least_swaps D doc pm an cdv ct) ⟨[u], []⟩) [("sheet", u), ("without", k)] := ⟨_, _, _, _, _, _, rfl, rfl, rfl⟩
theorem h2_least_swaps (D : Addr) (doc pm : Value) (an : Option Addr) (cdv ct u k : Value) : KwChain D [("without", k)] (bindArgs (fd_least_swaps D doc pm an cdv ct) ⟨[], [("sheet", u)]⟩) [("sheet", u), ("without", k)] := ⟨_, _, _, _, _, _, rfl, rfl, rfl⟩
theorem h3_least_swaps (D : Addr) (doc pm : Value) (an : Option Addr) (cdv ct u k : Value) : bindArgs (fd_least_swaps D doc pm an cdv ct) ⟨[u], [("without", k)]⟩ = (pure [(("sheet" : Str), u), (("without" : Str), k)] : Sem (List (Str × Value))) := rfl
theorem h4_least_swaps (D : Addr) (doc pm : Value) (an : Option Addr) (cdv ct u k : Value) : bindArgs (fd_least_swaps D doc pm an cdv ct) ⟨[], [("without", k), ("sheet", u)]⟩ = (pure [(("sheet" : Str), u), (("without" : Str), k)] : Sem (List (Str × Value))) := rfl
theorem fun_least_swaps {K : PySem.W.Frag} {D T0 f : Addr} {doc pm cdv ct oc : Value} {an od : Option Addr} {osl : Array (Option Value)} (lk : K.lookup f = some ⟨oc, od, .func (fd_least_swaps D doc pm an cdv ct), osl⟩) (hc : PySem.W.codeIn K cdv "least_swaps" = true) (kp : PySem.W.keepIn K (.ref f) = true)
    (hw : PySem.W.nsIn K D "without" = some (some (.ref T0))) : FunD K "least_swaps" "least_swaps" (defArgs (topS 16)) (defBody (topS 16)) (defScope (topS 16)) [] [("without", V.ref T0)] f (fd_least_swaps D doc pm an cdv ct) :=
  ⟨⟨oc, od, .none, .ref D, doc, pm, an, cdv, ct, osl, rfl, lk, hc, .inl ⟨rfl, rfl⟩, .inr ⟨D, rfl, fun q m => ⟨.ref T0, by
    rw [List.mem_singleton.mp m]
    exact hw, by
    rw [List.mem_singleton.mp m]
    rfl⟩⟩⟩, kp⟩
theorem cal_least_swaps {P : Program} {w : World} {K : PySem.W.Frag} {mg : Str → Option Value} {base : Heap} {k : Nat} {D T0 f : Addr} {doc pm cdv ct : Value} {an td : Option Addr} {tsl : Array (Option Value)} {tn : Nat} (G : FnOk P w K mg base CX0 k f (fd_least_swaps D doc pm an cdv ct) ["sheet", "without"] (spF K mg 2 F0_least_swaps)) (kp : PySem.W.keepIn K (.ref f) = true) (m : mg "least_swaps" = some (.ref f))
    (hw : PySem.W.nsIn K D "without" = some (some (.ref T0))) (ht : K.lookup T0 = some ⟨.type "tuple", td, .seq #[] tn, tsl⟩) : CalF CX0 k P w K mg base "least_swaps" F_least_swaps := by
  have look : ∀ q ∈ ([(("without" : Str), Value.ref T0)] : List (Str × Value)), PySem.W.nsIn K D q.1 = some (some q.2) := fun q m => by
    rw [List.mem_singleton.mp m]
    exact hw
  have dv : Vals [V.ref T0] [Value.ref T0] := .cons rfl .nil
  have dr : ∀ (u : Option Addr) H, RpUA K u H [V.ref T0] [.tup []] := fun u H => .cons (.inl (.tup (.inr ⟨_, #[], tn, ht, rfl, rfl, Nat.zero_le _, .nil⟩) .nil)) .nil
  refine ⟨calP_of (n := 1) (dD := [.tup []]) G dv dr (fun s us X hl => ?_) kp m, kwT_ok fun e me => ?_⟩
  · have h1 : us.length = 1 := by
      rw [List.length_append] at hl
      exact Nat.succ.inj hl
    match us, h1 with
    | [u], _ => exact BindsTo.of_looks fun M => KwChain.looks X look (h1_least_swaps D doc pm an cdv ct u (.ref T0))
  · rcases List.mem_cons.mp me with rfl | me
    · refine calK_of (n := 2) (dV := [V.ref T0]) (dU := [Value.ref T0]) (dD := [.tup []]) G rfl (fun i m => le2 (n := 3) m (by decide) (by decide)) dv dr (fun s us ws X h1 h2 => ?_) kp m
      match us, ws, h1, h2 with
      | [u], [v], _, _ => exact .of_eq (h3_least_swaps D doc pm an cdv ct u v)
    rcases List.mem_cons.mp me with rfl | me
    · refine calK_of (n := 2) (dV := [V.ref T0]) (dU := [Value.ref T0]) (dD := [.tup []]) G rfl (fun i m => le2 (n := 2) m (by decide) (by decide)) dv dr (fun s us ws X h1 h2 => ?_) kp m
      match us, ws, h1, h2 with
      | [], [u], _, _ => exact BindsTo.of_looks fun M => KwChain.looks X look (h2_least_swaps D doc pm an cdv ct u (.ref T0))
    · have e := List.mem_singleton.mp me
      subst e
      refine calK_of (n := 2) (dV := [V.ref T0]) (dU := [Value.ref T0]) (dD := [.tup []]) G rfl (fun i m => le2 (n := 3) m (by decide) (by decide)) dv dr (fun s us ws X h1 h2 => ?_) kp m
      match us, ws, h1, h2 with
      | [], [a, b], _, _ => exact .of_eq (h4_least_swaps D doc pm an cdv ct b a)
end Fx

namespace Fx
open PySem PySem.Spec PyProof.Rows L2
theorem all_mk {l : PySem.W.OpenLaw} {w : World} {K : PySem.W.Frag} {h : Heap} {mg : Str → Option Value} {fa DS1 TS1 DS2 TS2 DS3 TS3 f1 f2 f3 f4 f5 f6 f7 f8 f9 f10 f11 f12 f13 f14 f15 f16 f17 f18 f19 f20 f21 f22 f23 f24 f25 f26 f27 f28 f29 f30 f31 f32 fS1 fS2 fS3 : Addr} (X : K.In h) (G : h.Ns mainGlobals mg) (hfa : mg "law" = some (.ref fa))
    {tdS1 tdS2 tdS3 od1 an1 od2 an2 od3 an3 od4 an4 od5 an5 od6 an6 od7 an7 od8 an8 od9 an9 od10 an10 od11 an11 od12 an12 od13 an13 od14 an14 od15 an15 od16 an16 od17 an17 od18 an18 od19 an19 od20 an20 od21 an21 od22 an22 od23 an23 od24 an24 od25 an25 od26 an26 od27 an27 od28 an28 od29 an29 od30 an30 od31 an31 od32 an32 odS1 anS1 odS2 anS2 odS3 anS3 : Option Addr} {tsS1 tsS2 tsS3 sl1 sl2 sl3 sl4 sl5 sl6 sl7 sl8 sl9 sl10 sl11 sl12 sl13 sl14 sl15 sl16 sl17 sl18 sl19 sl20 sl21 sl22 sl23 sl24 sl25 sl26 sl27 sl28 sl29 sl30 sl31 sl32 slS1 slS2 slS3 : Array (Option Value)} {tnS1 tnS2 tnS3 : Nat} {oc1 kV1 dc1 pm1 cd1 ct1 oc2 kV2 dc2 pm2 cd2 ct2 oc3 kV3 dc3 pm3 cd3 ct3 oc4 kV4 dc4 pm4 cd4 ct4 oc5 kV5 dc5 pm5 cd5 ct5 oc6 kV6 dc6 pm6 cd6 ct6 oc7 kV7 dc7 pm7 cd7 ct7 oc8 kV8 dc8 pm8 cd8 ct8 oc9 kV9 dc9 pm9 cd9 ct9 oc10 kV10 dc10 pm10 cd10 ct10 oc11 kV11 dc11 pm11 cd11 ct11 oc12 kV12 dc12 pm12 cd12 ct12 oc13 kV13 dc13 pm13 cd13 ct13 oc14 kV14 dc14 pm14 cd14 ct14 oc15 kV15 dc15 pm15 cd15 ct15 oc16 kV16 dc16 pm16 cd16 ct16 oc17 kV17 dc17 pm17 cd17 ct17 oc18 kV18 dc18 pm18 cd18 ct18 oc19 kV19 dc19 pm19 cd19 ct19 oc20 kV20 dc20 pm20 cd20 ct20 oc21 kV21 dc21 pm21 cd21 ct21 oc22 kV22 dc22 pm22 cd22 ct22 oc23 kV23 dc23 pm23 cd23 ct23 oc24 kV24 dc24 pm24 cd24 ct24 oc25 kV25 dc25 pm25 cd25 ct25 oc26 kV26 dc26 pm26 cd26 ct26 oc27 kV27 dc27 pm27 cd27 ct27 oc28 kV28 dc28 pm28 cd28 ct28 oc29 kV29 dc29 pm29 cd29 ct29 oc30 kV30 dc30 pm30 cd30 ct30 oc31 kV31 dc31 pm31 cd31 ct31 oc32 kV32 dc32 pm32 cd32 ct32 ocS1 dcS1 pmS1 cdS1 ctS1 ocS2 dcS2 pmS2 cdS2 ctS2 ocS3 dcS3 pmS3 cdS3 ctS3 : Value}
    (a1 : PySem.W.nsIn K mainGlobals "must_be_households" = some (some (.ref f1)))
    (l1 : K.lookup f1 = some ⟨oc1, od1, .func (PySem.W.fnOf "must_be_households" "must_be_households" (defArgs (topS 3)) (defBody (topS 3)) (defScope (topS 3)) .none kV1 dc1 pm1 an1 cd1 ct1), sl1⟩)
    (c1 : PySem.W.codeIn K cd1 "must_be_households" = true) (k1 : PySem.W.keepIn K (.ref f1) = true)
    (a2 : PySem.W.nsIn K mainGlobals "households" = some (some (.ref f2)))
    (l2 : K.lookup f2 = some ⟨oc2, od2, .func (PySem.W.fnOf "households" "households" (defArgs (topS 4)) (defBody (topS 4)) (defScope (topS 4)) .none kV2 dc2 pm2 an2 cd2 ct2), sl2⟩)
    (c2 : PySem.W.codeIn K cd2 "households" = true) (k2 : PySem.W.keepIn K (.ref f2) = true)
    (a3 : PySem.W.nsIn K mainGlobals "wishes_by" = some (some (.ref f3)))
    (l3 : K.lookup f3 = some ⟨oc3, od3, .func (PySem.W.fnOf "wishes_by" "wishes_by" (defArgs (topS 5)) (defBody (topS 5)) (defScope (topS 5)) .none kV3 dc3 pm3 an3 cd3 ct3), sl3⟩)
    (c3 : PySem.W.codeIn K cd3 "wishes_by" = true) (k3 : PySem.W.keepIn K (.ref f3) = true)
    (a4 : PySem.W.nsIn K mainGlobals "suited_to" = some (some (.ref f4)))
    (l4 : K.lookup f4 = some ⟨oc4, od4, .func (PySem.W.fnOf "suited_to" "suited_to" (defArgs (topS 6)) (defBody (topS 6)) (defScope (topS 6)) .none kV4 dc4 pm4 an4 cd4 ct4), sl4⟩)
    (c4 : PySem.W.codeIn K cd4 "suited_to" = true) (k4 : PySem.W.keepIn K (.ref f4) = true)
    (a5 : PySem.W.nsIn K mainGlobals "greatest_sum" = some (some (.ref f5)))
    (l5 : K.lookup f5 = some ⟨oc5, od5, .func (PySem.W.fnOf "greatest_sum" "greatest_sum" (defArgs (topS 8)) (defBody (topS 8)) (defScope (topS 8)) .none kV5 dc5 pm5 an5 cd5 ct5), sl5⟩)
    (c5 : PySem.W.codeIn K cd5 "greatest_sum" = true) (k5 : PySem.W.keepIn K (.ref f5) = true)
    (a6 : PySem.W.nsIn K mainGlobals "_greatest" = some (some (.ref f6)))
    (l6 : K.lookup f6 = some ⟨oc6, od6, .func (PySem.W.fnOf "_greatest" "_greatest" (defArgs (topS 9)) (defBody (topS 9)) (defScope (topS 9)) .none kV6 dc6 pm6 an6 cd6 ct6), sl6⟩)
    (c6 : PySem.W.codeIn K cd6 "_greatest" = true) (k6 : PySem.W.keepIn K (.ref f6) = true)
    (a7 : PySem.W.nsIn K mainGlobals "most_paired" = some (some (.ref f7)))
    (l7 : K.lookup f7 = some ⟨oc7, od7, .func (PySem.W.fnOf "most_paired" "most_paired" (defArgs (topS 10)) (defBody (topS 10)) (defScope (topS 10)) .none kV7 dc7 pm7 an7 cd7 ct7), sl7⟩)
    (c7 : PySem.W.codeIn K cd7 "most_paired" = true) (k7 : PySem.W.keepIn K (.ref f7) = true)
    (a8 : PySem.W.nsIn K mainGlobals "_choices" = some (some (.ref f8)))
    (l8 : K.lookup f8 = some ⟨oc8, od8, .func (PySem.W.fnOf "_choices" "_choices" (defArgs (topS 14)) (defBody (topS 14)) (defScope (topS 14)) .none kV8 dc8 pm8 an8 cd8 ct8), sl8⟩)
    (c8 : PySem.W.codeIn K cd8 "_choices" = true) (k8 : PySem.W.keepIn K (.ref f8) = true)
    (a9 : PySem.W.nsIn K mainGlobals "_best_swaps" = some (some (.ref f9)))
    (l9 : K.lookup f9 = some ⟨oc9, od9, .func (PySem.W.fnOf "_best_swaps" "_best_swaps" (defArgs (topS 15)) (defBody (topS 15)) (defScope (topS 15)) .none kV9 dc9 pm9 an9 cd9 ct9), sl9⟩)
    (c9 : PySem.W.codeIn K cd9 "_best_swaps" = true) (k9 : PySem.W.keepIn K (.ref f9) = true)
    (a10 : PySem.W.nsIn K mainGlobals "_law_box" = some (some (.ref f10)))
    (l10 : K.lookup f10 = some ⟨oc10, od10, .func (PySem.W.fnOf "_law_box" "_law_box" (defArgs (topS 18)) (defBody (topS 18)) (defScope (topS 18)) .none kV10 dc10 pm10 an10 cd10 ct10), sl10⟩)
    (c10 : PySem.W.codeIn K cd10 "_law_box" = true) (k10 : PySem.W.keepIn K (.ref f10) = true)
    (a11 : PySem.W.nsIn K mainGlobals "_law_take" = some (some (.ref f11)))
    (l11 : K.lookup f11 = some ⟨oc11, od11, .func (PySem.W.fnOf "_law_take" "_law_take" (defArgs (topS 19)) (defBody (topS 19)) (defScope (topS 19)) .none kV11 dc11 pm11 an11 cd11 ct11), sl11⟩)
    (c11 : PySem.W.codeIn K cd11 "_law_take" = true) (k11 : PySem.W.keepIn K (.ref f11) = true)
    (a12 : PySem.W.nsIn K mainGlobals "_law_cells" = some (some (.ref f12)))
    (l12 : K.lookup f12 = some ⟨oc12, od12, .func (PySem.W.fnOf "_law_cells" "_law_cells" (defArgs (topS 20)) (defBody (topS 20)) (defScope (topS 20)) .none kV12 dc12 pm12 an12 cd12 ct12), sl12⟩)
    (c12 : PySem.W.codeIn K cd12 "_law_cells" = true) (k12 : PySem.W.keepIn K (.ref f12) = true)
    (a13 : PySem.W.nsIn K mainGlobals "_law_lists" = some (some (.ref f13)))
    (l13 : K.lookup f13 = some ⟨oc13, od13, .func (PySem.W.fnOf "_law_lists" "_law_lists" (defArgs (topS 21)) (defBody (topS 21)) (defScope (topS 21)) .none kV13 dc13 pm13 an13 cd13 ct13), sl13⟩)
    (c13 : PySem.W.codeIn K cd13 "_law_lists" = true) (k13 : PySem.W.keepIn K (.ref f13) = true)
    (a14 : PySem.W.nsIn K mainGlobals "_law_same" = some (some (.ref f14)))
    (l14 : K.lookup f14 = some ⟨oc14, od14, .func (PySem.W.fnOf "_law_same" "_law_same" (defArgs (topS 22)) (defBody (topS 22)) (defScope (topS 22)) .none kV14 dc14 pm14 an14 cd14 ct14), sl14⟩)
    (c14 : PySem.W.codeIn K cd14 "_law_same" = true) (k14 : PySem.W.keepIn K (.ref f14) = true)
    (a15 : PySem.W.nsIn K mainGlobals "_law_few" = some (some (.ref f15)))
    (l15 : K.lookup f15 = some ⟨oc15, od15, .func (PySem.W.fnOf "_law_few" "_law_few" (defArgs (topS 23)) (defBody (topS 23)) (defScope (topS 23)) .none kV15 dc15 pm15 an15 cd15 ct15), sl15⟩)
    (c15 : PySem.W.codeIn K cd15 "_law_few" = true) (k15 : PySem.W.keepIn K (.ref f15) = true)
    (a16 : PySem.W.nsIn K mainGlobals "_law_mixed" = some (some (.ref f16)))
    (l16 : K.lookup f16 = some ⟨oc16, od16, .func (PySem.W.fnOf "_law_mixed" "_law_mixed" (defArgs (topS 24)) (defBody (topS 24)) (defScope (topS 24)) .none kV16 dc16 pm16 an16 cd16 ct16), sl16⟩)
    (c16 : PySem.W.codeIn K cd16 "_law_mixed" = true) (k16 : PySem.W.keepIn K (.ref f16) = true)
    (a17 : PySem.W.nsIn K mainGlobals "_law_tome" = some (some (.ref f17)))
    (l17 : K.lookup f17 = some ⟨oc17, od17, .func (PySem.W.fnOf "_law_tome" "_law_tome" (defArgs (topS 25)) (defBody (topS 25)) (defScope (topS 25)) .none kV17 dc17 pm17 an17 cd17 ct17), sl17⟩)
    (c17 : PySem.W.codeIn K cd17 "_law_tome" = true) (k17 : PySem.W.keepIn K (.ref f17) = true)
    (a18 : PySem.W.nsIn K mainGlobals "_law_folk" = some (some (.ref f18)))
    (l18 : K.lookup f18 = some ⟨oc18, od18, .func (PySem.W.fnOf "_law_folk" "_law_folk" (defArgs (topS 26)) (defBody (topS 26)) (defScope (topS 26)) .none kV18 dc18 pm18 an18 cd18 ct18), sl18⟩)
    (c18 : PySem.W.codeIn K cd18 "_law_folk" = true) (k18 : PySem.W.keepIn K (.ref f18) = true)
    (a19 : PySem.W.nsIn K mainGlobals "_law_wants" = some (some (.ref f19)))
    (l19 : K.lookup f19 = some ⟨oc19, od19, .func (PySem.W.fnOf "_law_wants" "_law_wants" (defArgs (topS 27)) (defBody (topS 27)) (defScope (topS 27)) .none kV19 dc19 pm19 an19 cd19 ct19), sl19⟩)
    (c19 : PySem.W.codeIn K cd19 "_law_wants" = true) (k19 : PySem.W.keepIn K (.ref f19) = true)
    (a20 : PySem.W.nsIn K mainGlobals "_law_suits" = some (some (.ref f20)))
    (l20 : K.lookup f20 = some ⟨oc20, od20, .func (PySem.W.fnOf "_law_suits" "_law_suits" (defArgs (topS 28)) (defBody (topS 28)) (defScope (topS 28)) .none kV20 dc20 pm20 an20 cd20 ct20), sl20⟩)
    (c20 : PySem.W.codeIn K cd20 "_law_suits" = true) (k20 : PySem.W.keepIn K (.ref f20) = true)
    (a21 : PySem.W.nsIn K mainGlobals "_law_matched" = some (some (.ref f21)))
    (l21 : K.lookup f21 = some ⟨oc21, od21, .func (PySem.W.fnOf "_law_matched" "_law_matched" (defArgs (topS 29)) (defBody (topS 29)) (defScope (topS 29)) .none kV21 dc21 pm21 an21 cd21 ct21), sl21⟩)
    (c21 : PySem.W.codeIn K cd21 "_law_matched" = true) (k21 : PySem.W.keepIn K (.ref f21) = true)
    (a22 : PySem.W.nsIn K mainGlobals "_law_six" = some (some (.ref f22)))
    (l22 : K.lookup f22 = some ⟨oc22, od22, .func (PySem.W.fnOf "_law_six" "_law_six" (defArgs (topS 30)) (defBody (topS 30)) (defScope (topS 30)) .none kV22 dc22 pm22 an22 cd22 ct22), sl22⟩)
    (c22 : PySem.W.codeIn K cd22 "_law_six" = true) (k22 : PySem.W.keepIn K (.ref f22) = true)
    (a23 : PySem.W.nsIn K mainGlobals "_law_linked" = some (some (.ref f23)))
    (l23 : K.lookup f23 = some ⟨oc23, od23, .func (PySem.W.fnOf "_law_linked" "_law_linked" (defArgs (topS 31)) (defBody (topS 31)) (defScope (topS 31)) .none kV23 dc23 pm23 an23 cd23 ct23), sl23⟩)
    (c23 : PySem.W.codeIn K cd23 "_law_linked" = true) (k23 : PySem.W.keepIn K (.ref f23) = true)
    (a24 : PySem.W.nsIn K mainGlobals "_law_kite" = some (some (.ref f24)))
    (l24 : K.lookup f24 = some ⟨oc24, od24, .func (PySem.W.fnOf "_law_kite" "_law_kite" (defArgs (topS 32)) (defBody (topS 32)) (defScope (topS 32)) .none kV24 dc24 pm24 an24 cd24 ct24), sl24⟩)
    (c24 : PySem.W.codeIn K cd24 "_law_kite" = true) (k24 : PySem.W.keepIn K (.ref f24) = true)
    (a25 : PySem.W.nsIn K mainGlobals "_law_fork" = some (some (.ref f25)))
    (l25 : K.lookup f25 = some ⟨oc25, od25, .func (PySem.W.fnOf "_law_fork" "_law_fork" (defArgs (topS 33)) (defBody (topS 33)) (defScope (topS 33)) .none kV25 dc25 pm25 an25 cd25 ct25), sl25⟩)
    (c25 : PySem.W.codeIn K cd25 "_law_fork" = true) (k25 : PySem.W.keepIn K (.ref f25) = true)
    (a26 : PySem.W.nsIn K mainGlobals "_law_woven" = some (some (.ref f26)))
    (l26 : K.lookup f26 = some ⟨oc26, od26, .func (PySem.W.fnOf "_law_woven" "_law_woven" (defArgs (topS 34)) (defBody (topS 34)) (defScope (topS 34)) .none kV26 dc26 pm26 an26 cd26 ct26), sl26⟩)
    (c26 : PySem.W.codeIn K cd26 "_law_woven" = true) (k26 : PySem.W.keepIn K (.ref f26) = true)
    (a27 : PySem.W.nsIn K mainGlobals "_law_bloom" = some (some (.ref f27)))
    (l27 : K.lookup f27 = some ⟨oc27, od27, .func (PySem.W.fnOf "_law_bloom" "_law_bloom" (defArgs (topS 35)) (defBody (topS 35)) (defScope (topS 35)) .none kV27 dc27 pm27 an27 cd27 ct27), sl27⟩)
    (c27 : PySem.W.codeIn K cd27 "_law_bloom" = true) (k27 : PySem.W.keepIn K (.ref f27) = true)
    (a28 : PySem.W.nsIn K mainGlobals "_law_best" = some (some (.ref f28)))
    (l28 : K.lookup f28 = some ⟨oc28, od28, .func (PySem.W.fnOf "_law_best" "_law_best" (defArgs (topS 36)) (defBody (topS 36)) (defScope (topS 36)) .none kV28 dc28 pm28 an28 cd28 ct28), sl28⟩)
    (c28 : PySem.W.codeIn K cd28 "_law_best" = true) (k28 : PySem.W.keepIn K (.ref f28) = true)
    (a29 : PySem.W.nsIn K mainGlobals "_law_apart" = some (some (.ref f29)))
    (l29 : K.lookup f29 = some ⟨oc29, od29, .func (PySem.W.fnOf "_law_apart" "_law_apart" (defArgs (topS 37)) (defBody (topS 37)) (defScope (topS 37)) .none kV29 dc29 pm29 an29 cd29 ct29), sl29⟩)
    (c29 : PySem.W.codeIn K cd29 "_law_apart" = true) (k29 : PySem.W.keepIn K (.ref f29) = true)
    (a30 : PySem.W.nsIn K mainGlobals "_law_by_hand_right" = some (some (.ref f30)))
    (l30 : K.lookup f30 = some ⟨oc30, od30, .func (PySem.W.fnOf "_law_by_hand_right" "_law_by_hand_right" (defArgs (topS 38)) (defBody (topS 38)) (defScope (topS 38)) .none kV30 dc30 pm30 an30 cd30 ct30), sl30⟩)
    (c30 : PySem.W.codeIn K cd30 "_law_by_hand_right" = true) (k30 : PySem.W.keepIn K (.ref f30) = true)
    (a31 : PySem.W.nsIn K mainGlobals "_law_right" = some (some (.ref f31)))
    (l31 : K.lookup f31 = some ⟨oc31, od31, .func (PySem.W.fnOf "_law_right" "_law_right" (defArgs (topS 39)) (defBody (topS 39)) (defScope (topS 39)) .none kV31 dc31 pm31 an31 cd31 ct31), sl31⟩)
    (c31 : PySem.W.codeIn K cd31 "_law_right" = true) (k31 : PySem.W.keepIn K (.ref f31) = true)
    (a32 : PySem.W.nsIn K mainGlobals "law" = some (some (.ref f32)))
    (l32 : K.lookup f32 = some ⟨oc32, od32, .func (PySem.W.fnOf "law" "law" (defArgs (topS 40)) (defBody (topS 40)) (defScope (topS 40)) .none kV32 dc32 pm32 an32 cd32 ct32), sl32⟩)
    (c32 : PySem.W.codeIn K cd32 "law" = true) (k32 : PySem.W.keepIn K (.ref f32) = true)
    (aS1 : PySem.W.nsIn K mainGlobals "suiting" = some (some (.ref fS1)))
    (lS1 : K.lookup fS1 = some ⟨ocS1, odS1, .func (fd_suiting DS1 dcS1 pmS1 anS1 cdS1 ctS1), slS1⟩)
    (cS1 : PySem.W.codeIn K cdS1 "suiting" = true) (kS1 : PySem.W.keepIn K (.ref fS1) = true)
    (wS1 : PySem.W.nsIn K DS1 "without" = some (some (.ref TS1))) (tS1 : K.lookup TS1 = some ⟨.type "tuple", tdS1, .seq #[] tnS1, tsS1⟩)
    (aS2 : PySem.W.nsIn K mainGlobals "most_swaps" = some (some (.ref fS2)))
    (lS2 : K.lookup fS2 = some ⟨ocS2, odS2, .func (fd_most_swaps DS2 dcS2 pmS2 anS2 cdS2 ctS2), slS2⟩)
    (cS2 : PySem.W.codeIn K cdS2 "most_swaps" = true) (kS2 : PySem.W.keepIn K (.ref fS2) = true)
    (wS2 : PySem.W.nsIn K DS2 "without" = some (some (.ref TS2))) (tS2 : K.lookup TS2 = some ⟨.type "tuple", tdS2, .seq #[] tnS2, tsS2⟩)
    (aS3 : PySem.W.nsIn K mainGlobals "least_swaps" = some (some (.ref fS3)))
    (lS3 : K.lookup fS3 = some ⟨ocS3, odS3, .func (fd_least_swaps DS3 dcS3 pmS3 anS3 cdS3 ctS3), slS3⟩)
    (cS3 : PySem.W.codeIn K cdS3 "least_swaps" = true) (kS3 : PySem.W.keepIn K (.ref fS3) = true)
    (wS3 : PySem.W.nsIn K DS3 "without" = some (some (.ref TS3))) (tS3 : K.lookup TS3 = some ⟨.type "tuple", tdS3, .seq #[] tnS3, tsS3⟩)
    (z1 : PySem.W.nsIn K mainGlobals "len" = some none) (z2 : PySem.W.nsIn K mainGlobals "tuple" = some none) (z3 : PySem.W.nsIn K mainGlobals "list" = some none) (z4 : PySem.W.nsIn K mainGlobals "all" = some none) (z5 : PySem.W.nsIn K mainGlobals "any" = some none) (z6 : PySem.W.nsIn K mainGlobals "sum" = some none) (z7 : PySem.W.nsIn K mainGlobals "max" = some none) (z8 : PySem.W.nsIn K mainGlobals "min" = some none) (z9 : PySem.W.nsIn K mainGlobals "sorted" = some none) (z10 : PySem.W.nsIn K mainGlobals "abs" = some none) (z11 : PySem.W.nsIn K mainGlobals "int" = some none) (z12 : PySem.W.nsIn K mainGlobals "bool" = some none) (z13 : PySem.W.nsIn K mainGlobals "isinstance" = some none) (z14 : PySem.W.nsIn K mainGlobals "str" = some none) (z15 : PySem.W.nsIn K mainGlobals "dict" = some none) (z16 : PySem.W.nsIn K mainGlobals "range" = some none) (z17 : PySem.W.nsIn K mainGlobals "enumerate" = some none) (z18 : PySem.W.nsIn K mainGlobals "zip" = some none) (z19 : PySem.W.nsIn K mainGlobals "set" = some none) :
    ∃ fd : FuncData, (∀ (s : Shared) (v : Value), BindsTo s fd ⟨[v], []⟩ [("_law_script", v)]) ∧ ∀ base : Heap, K.In base → base.Ns mainGlobals mg → FnOk l.prog w K mg base CX0 21 fa fd ["_law_script"] (Cx.spLaw K) := by
  have e := hfa.symm.trans (PySem.W.mg_of X G a32)
  cases e
  have n1 := PySem.W.mg_none_of X G z1
  have n2 := PySem.W.mg_none_of X G z2
  have n3 := PySem.W.mg_none_of X G z3
  have n4 := PySem.W.mg_none_of X G z4
  have n5 := PySem.W.mg_none_of X G z5
  have n6 := PySem.W.mg_none_of X G z6
  have n7 := PySem.W.mg_none_of X G z7
  have n8 := PySem.W.mg_none_of X G z8
  have n9 := PySem.W.mg_none_of X G z9
  have n10 := PySem.W.mg_none_of X G z10
  have n11 := PySem.W.mg_none_of X G z11
  have n12 := PySem.W.mg_none_of X G z12
  have n13 := PySem.W.mg_none_of X G z13
  have n14 := PySem.W.mg_none_of X G z14
  have n15 := PySem.W.mg_none_of X G z15
  have n16 := PySem.W.mg_none_of X G z16
  have n17 := PySem.W.mg_none_of X G z17
  have n18 := PySem.W.mg_none_of X G z18
  have n19 := PySem.W.mg_none_of X G z19
  have hb : ∀ y ∈ bltNames, mg y = none := fun y m => by
    unfold bltNames at m
    simp only [List.mem_cons, List.not_mem_nil, or_false] at m
    rcases m with rfl | rfl | rfl | rfl | rfl | rfl | rfl | rfl | rfl | rfl | rfl | rfl | rfl | rfl | rfl | rfl | rfl | rfl | rfl <;> assumption
  have m1 := PySem.W.mg_of X G a1
  have F1 := fun_mk (st := topS 3) l1 c1 k1
  have b1 := F1.binds (ps := ["sheet", "names"]) fun _ _ _ _ _ _ us hl => match us, hl with | [_, _], _ => rfl
  have m2 := PySem.W.mg_of X G a2
  have F2 := fun_mk (st := topS 4) l2 c2 k2
  have b2 := F2.binds (ps := ["sheet"]) fun _ _ _ _ _ _ us hl => match us, hl with | [_], _ => rfl
  have m3 := PySem.W.mg_of X G a3
  have F3 := fun_mk (st := topS 5) l3 c3 k3
  have b3 := F3.binds (ps := ["sheet"]) fun _ _ _ _ _ _ us hl => match us, hl with | [_], _ => rfl
  have m4 := PySem.W.mg_of X G a4
  have F4 := fun_mk (st := topS 6) l4 c4 k4
  have b4 := F4.binds (ps := ["sheet", "name"]) fun _ _ _ _ _ _ us hl => match us, hl with | [_, _], _ => rfl
  have m5 := PySem.W.mg_of X G a5
  have F5 := fun_mk (st := topS 8) l5 c5 k5
  have b5 := F5.binds (ps := ["names", "pairs", "worths"]) fun _ _ _ _ _ _ us hl => match us, hl with | [_, _, _], _ => rfl
  have m6 := PySem.W.mg_of X G a6
  have F6 := fun_mk (st := topS 9) l6 c6 k6
  have b6 := F6.binds (ps := ["names", "pairs", "worths", "known"]) fun _ _ _ _ _ _ us hl => match us, hl with | [_, _, _, _], _ => rfl
  have m7 := PySem.W.mg_of X G a7
  have F7 := fun_mk (st := topS 10) l7 c7 k7
  have b7 := F7.binds (ps := ["names", "pairs"]) fun _ _ _ _ _ _ us hl => match us, hl with | [_, _], _ => rfl
  have m8 := PySem.W.mg_of X G a8
  have F8 := fun_mk (st := topS 14) l8 c8 k8
  have b8 := F8.binds (ps := ["pairs", "many"]) fun _ _ _ _ _ _ us hl => match us, hl with | [_, _], _ => rfl
  have m9 := PySem.W.mg_of X G a9
  have F9 := fun_mk (st := topS 15) l9 c9 k9
  have b9 := F9.binds (ps := ["sheet", "without"]) fun _ _ _ _ _ _ us hl => match us, hl with | [_, _], _ => rfl
  have m10 := PySem.W.mg_of X G a10
  have F10 := fun_mk (st := topS 18) l10 c10 k10
  have b10 := F10.binds (ps := ["_law_script", "_law_k"]) fun _ _ _ _ _ _ us hl => match us, hl with | [_, _], _ => rfl
  have m11 := PySem.W.mg_of X G a11
  have F11 := fun_mk (st := topS 19) l11 c11 k11
  have b11 := F11.binds (ps := ["_law_urn", "_law_low_so"]) fun _ _ _ _ _ _ us hl => match us, hl with | [_, _], _ => rfl
  have m12 := PySem.W.mg_of X G a12
  have F12 := fun_mk (st := topS 20) l12 c12 k12
  have b12 := F12.binds (ps := ["_law_script", "_law_top"]) fun _ _ _ _ _ _ us hl => match us, hl with | [_, _], _ => rfl
  have m13 := PySem.W.mg_of X G a13
  have F13 := fun_mk (st := topS 21) l13 c13 k13
  have b13 := F13.binds (ps := ["_law_matter"]) fun _ _ _ _ _ _ us hl => match us, hl with | [_], _ => rfl
  have m14 := PySem.W.mg_of X G a14
  have F14 := fun_mk (st := topS 22) l14 c14 k14
  have b14 := F14.binds (ps := ["_law_got", "_law_goal"]) fun _ _ _ _ _ _ us hl => match us, hl with | [_, _], _ => rfl
  have m15 := PySem.W.mg_of X G a15
  have F15 := fun_mk (st := topS 23) l15 c15 k15
  have b15 := F15.binds (ps := ["_law_urn", "_law_pool", "_law_one_of"]) fun _ _ _ _ _ _ us hl => match us, hl with | [_, _, _], _ => rfl
  have m16 := PySem.W.mg_of X G a16
  have F16 := fun_mk (st := topS 24) l16 c16 k16
  have b16 := F16.binds (ps := ["_law_urn", "_law_pool"]) fun _ _ _ _ _ _ us hl => match us, hl with | [_, _], _ => rfl
  have m17 := PySem.W.mg_of X G a17
  have F17 := fun_mk (st := topS 25) l17 c17 k17
  have b17 := F17.binds (ps := ["_law_urn", "_law_most_so", "_law_free_so"]) fun _ _ _ _ _ _ us hl => match us, hl with | [_, _, _], _ => rfl
  have m18 := PySem.W.mg_of X G a18
  have F18 := fun_mk (st := topS 26) l18 c18 k18
  have b18 := F18.binds (ps := ["_law_tome_here"]) fun _ _ _ _ _ _ us hl => match us, hl with | [_], _ => rfl
  have m19 := PySem.W.mg_of X G a19
  have F19 := fun_mk (st := topS 27) l19 c19 k19
  have b19 := F19.binds (ps := ["_law_tome_here"]) fun _ _ _ _ _ _ us hl => match us, hl with | [_], _ => rfl
  have m20 := PySem.W.mg_of X G a20
  have F20 := fun_mk (st := topS 28) l20 c20 k20
  have b20 := F20.binds (ps := ["_law_tome_here"]) fun _ _ _ _ _ _ us hl => match us, hl with | [_], _ => rfl
  have m21 := PySem.W.mg_of X G a21
  have F21 := fun_mk (st := topS 29) l21 c21 k21
  have b21 := F21.binds (ps := ["_law_pairs"]) fun _ _ _ _ _ _ us hl => match us, hl with | [_], _ => rfl
  have m22 := PySem.W.mg_of X G a22
  have F22 := fun_mk (st := topS 30) l22 c22 k22
  have b22 := F22.binds (ps := []) fun _ _ _ _ _ _ us hl => match us, hl with | [], _ => rfl
  have m23 := PySem.W.mg_of X G a23
  have F23 := fun_mk (st := topS 31) l23 c23 k23
  have b23 := F23.binds (ps := ["_law_line", "_law_pairs"]) fun _ _ _ _ _ _ us hl => match us, hl with | [_, _], _ => rfl
  have m24 := PySem.W.mg_of X G a24
  have F24 := fun_mk (st := topS 32) l24 c24 k24
  have b24 := F24.binds (ps := []) fun _ _ _ _ _ _ us hl => match us, hl with | [], _ => rfl
  have m25 := PySem.W.mg_of X G a25
  have F25 := fun_mk (st := topS 33) l25 c25 k25
  have b25 := F25.binds (ps := []) fun _ _ _ _ _ _ us hl => match us, hl with | [], _ => rfl
  have m26 := PySem.W.mg_of X G a26
  have F26 := fun_mk (st := topS 34) l26 c26 k26
  have b26 := F26.binds (ps := ["_law_urn"]) fun _ _ _ _ _ _ us hl => match us, hl with | [_], _ => rfl
  have m27 := PySem.W.mg_of X G a27
  have F27 := fun_mk (st := topS 35) l27 c27 k27
  have b27 := F27.binds (ps := ["_law_line"]) fun _ _ _ _ _ _ us hl => match us, hl with | [_], _ => rfl
  have m28 := PySem.W.mg_of X G a28
  have F28 := fun_mk (st := topS 36) l28 c28 k28
  have b28 := F28.binds (ps := ["_law_pairs"]) fun _ _ _ _ _ _ us hl => match us, hl with | [_], _ => rfl
  have m29 := PySem.W.mg_of X G a29
  have F29 := fun_mk (st := topS 37) l29 c29 k29
  have b29 := F29.binds (ps := ["_law_pairs", "_law_gone"]) fun _ _ _ _ _ _ us hl => match us, hl with | [_, _], _ => rfl
  have m30 := PySem.W.mg_of X G a30
  have F30 := fun_mk (st := topS 38) l30 c30 k30
  have b30 := F30.binds (ps := []) fun _ _ _ _ _ _ us hl => match us, hl with | [], _ => rfl
  have m31 := PySem.W.mg_of X G a31
  have F31 := fun_mk (st := topS 39) l31 c31 k31
  have b31 := F31.binds (ps := ["_law_urn"]) fun _ _ _ _ _ _ us hl => match us, hl with | [_], _ => rfl
  have m32 := PySem.W.mg_of X G a32
  have F32 := fun_mk (st := topS 40) l32 c32 k32
  have mS1 := PySem.W.mg_of X G aS1
  have FS1 := fun_suiting lS1 cS1 kS1 wS1
  have mS2 := PySem.W.mg_of X G aS2
  have FS2 := fun_most_swaps lS2 cS2 kS2 wS2
  have mS3 := PySem.W.mg_of X G aS3
  have FS3 := fun_least_swaps lS3 cS3 kS3 wS3
  refine ⟨PySem.W.fnOf "law" "law" (defArgs (topS 40)) (defBody (topS 40)) (defScope (topS 40)) .none kV32 dc32 pm32 an32 cd32 ct32, fun s v => .of_eq rfl, fun base _ _ => ?_⟩
  have G_households : FnOk l.prog w K mg base CX0 1 f2 _ ["sheet"] (spF K mg 1 (F_households).f) := ok_households (k := 0) F2  hb
  have C_households : CalF CX0 1 l.prog w K mg base "households" F_households := cal0 G_households b2 k2 m2 rfl
  have G_wishes_by : FnOk l.prog w K mg base CX0 1 f3 _ ["sheet"] (spF K mg 1 (F_wishes_by).f) := ok_wishes_by (k := 0) F3  hb
  have C_wishes_by : CalF CX0 1 l.prog w K mg base "wishes_by" F_wishes_by := cal0 G_wishes_by b3 k3 m3 rfl
  have G_box : FnOk l.prog w K mg base CX0 1 f10 _ _ (Cx.spBox K) := Cx.ok_box F10 n11 n1 n10
  have GT : FnOk l.prog w K mg base CX0 1 f11 _ _ Cx.spTake := Cx.ok_take F11 n11
  have C__law_take : CalF CX0 1 l.prog w K mg base "_law_take" F_take := cal0 (GT.imp take_sp) b11 k11 m11 rfl
  have G_cells : FnOk l.prog w K mg base CX0 1 f12 _ _ (Cx.spCells K) := Cx.ok_cells F12 n11 n3 n17
  have G__law_folk : FnOk l.prog w K mg base CX0 1 f18 _ ["_law_tome_here"] (spF K mg 1 (F_folk).f) := ok__law_folk (k := 0) F18  hb
  have C__law_folk : CalF CX0 1 l.prog w K mg base "_law_folk" F_folk := cal0 G__law_folk b18 k18 m18 rfl
  have G__law_matched : FnOk l.prog w K mg base CX0 1 f21 _ ["_law_pairs"] (spF K mg 1 (F_matched).f) := ok__law_matched (k := 0) F21  hb
  have C__law_matched : CalF CX0 1 l.prog w K mg base "_law_matched" F_matched := cal0 G__law_matched b21 k21 m21 rfl
  have G__law_six : FnOk l.prog w K mg base CX0 1 f22 _ [] (spF K mg 0 (F_six).f) := ok__law_six (k := 0) F22  hb
  have C__law_six : CalF CX0 1 l.prog w K mg base "_law_six" F_six := cal0 G__law_six b22 k22 m22 rfl
  have GLk : FnOk l.prog w K mg base CX0 1 f23 _ ["_law_line", "_law_pairs"] (Cx.spLinked K) := Cx.ok_linked F23 n15 n2 n9
  have C__law_linked : CalF CX0 1 l.prog w K mg base "_law_linked" F_linked := cal0 (GLk.imp linked_sp) b23 k23 m23 rfl
  have G__law_apart : FnOk l.prog w K mg base CX0 1 f29 _ ["_law_pairs", "_law_gone"] (spF K mg 2 (F_apart).f) := ok__law_apart (k := 0) F29  hb
  have C__law_apart : CalF CX0 1 l.prog w K mg base "_law_apart" F_apart := cal0 G__law_apart b29 k29 m29 rfl
  have G_must_be_households : FnOk l.prog w K mg base CX0 2 f1 _ ["sheet", "names"] (spF K mg 2 (F_must_be_households).f) := ok_must_be_households (k := 1) F1 ((C_households).mono (show 1 ≤ 1 by decide)) hb
  have C_must_be_households : CalF CX0 2 l.prog w K mg base "must_be_households" F_must_be_households := cal0 G_must_be_households b1 k1 m1 rfl
  have G__law_few : FnOk l.prog w K mg base CX0 2 f15 _ ["_law_urn", "_law_pool", "_law_one_of"] (spF K mg 3 (F_few).f) := ok__law_few (k := 1) F15 ((C__law_take).mono (show 1 ≤ 1 by decide)) hb
  have C__law_few : CalF CX0 2 l.prog w K mg base "_law_few" F_few := cal0 G__law_few b15 k15 m15 rfl
  have GM : FnOk l.prog w K mg base CX0 2 f16 _ _ (Cx.spMixed K) := Cx.ok_mixed F16 GT b11 k11 m11 n2 n3 n16 n1
  have C__law_mixed : CalF CX0 2 l.prog w K mg base "_law_mixed" F_mixed := cal0 (GM.imp mixed_sp) b16 k16 m16 rfl
  have GFk : FnOk l.prog w K mg base CX0 1 f18 _ ["_law_tome_here"] (Cx.spFolk K) := Cx.ok_folk F18
  have GWt : FnOk l.prog w K mg base CX0 2 f19 _ ["_law_tome_here"] (Cx.spWants K) := Cx.ok_wants F19 GFk b18 k18 m18 n3 n15
  have G__law_kite : FnOk l.prog w K mg base CX0 2 f24 _ [] (spF K mg 0 (F_kite).f) := ok__law_kite (k := 1) F24 ((C__law_linked).mono (show 1 ≤ 1 by decide)) hb
  have C__law_kite : CalF CX0 2 l.prog w K mg base "_law_kite" F_kite := cal0 G__law_kite b24 k24 m24 rfl
  have G__law_fork : FnOk l.prog w K mg base CX0 2 f25 _ [] (spF K mg 0 (F_fork).f) := ok__law_fork (k := 1) F25 ((C__law_linked).mono (show 1 ≤ 1 by decide)) hb
  have C__law_fork : CalF CX0 2 l.prog w K mg base "_law_fork" F_fork := cal0 G__law_fork b25 k25 m25 rfl
  have G__law_bloom : FnOk l.prog w K mg base CX0 2 f27 _ ["_law_line"] (spF K mg 1 (F_bloom).f) := ok__law_bloom (k := 1) F27 ((C__law_linked).mono (show 1 ≤ 1 by decide)) hb
  have C__law_bloom : CalF CX0 2 l.prog w K mg base "_law_bloom" F_bloom := cal0 G__law_bloom b27 k27 m27 rfl
  have G__law_best : FnOk l.prog w K mg base CX0 2 f28 _ ["_law_pairs"] (spF K mg 1 (F_best).f) := ok__law_best (k := 1) F28 ((C__law_matched).mono (show 1 ≤ 1 by decide)) hb
  have C__law_best : CalF CX0 2 l.prog w K mg base "_law_best" F_best := cal0 G__law_best b28 k28 m28 rfl
  have G_suited_to : FnOk l.prog w K mg base CX0 3 f4 _ ["sheet", "name"] (spF K mg 2 (F_suited_to).f) := ok_suited_to (k := 2) F4 ((C_must_be_households).mono (show 2 ≤ 2 by decide)) ((C_wishes_by).mono (show 1 ≤ 2 by decide)) hb
  have C_suited_to : CalF CX0 3 l.prog w K mg base "suited_to" F_suited_to := cal0 G_suited_to b4 k4 m4 rfl
  have GFw : FnOk l.prog w K mg base CX0 2 f15 _ _ (Cx.spFew K) := Cx.ok_few F15 GT b11 k11 m11 n2
  have GTm : FnOk l.prog w K mg base CX0 3 f17 _ _ (Cx.spTome K) := Cx.ok_tome F17 GT b11 k11 m11 GFw b15 k15 m15 GM b16 k16 m16 ⟨n3, n2, n11, n16, n9, n19⟩
  have C__law_tome : CalF CX0 3 l.prog w K mg base "_law_tome" F_tome := cal0 (GTm.imp tome_sp) b17 k17 m17 rfl
  have GSt : FnOk l.prog w K mg base CX0 3 f20 _ ["_law_tome_here"] (Cx.spSuits K) := Cx.ok_suits F20 GWt b19 k19 m19 n9
  have C__law_suits : CalF CX0 3 l.prog w K mg base "_law_suits" F_suits := cal0 (GSt.imp suits_sp) b20 k20 m20 rfl
  have G_suiting : FnOk l.prog w K mg base CX0 4 fS1 _ ["sheet", "without"] (spF K mg 2 F0_suiting) := ok_suiting (k := 3) FS1 ((C_must_be_households).mono (show 2 ≤ 3 by decide)) ((C_households).mono (show 1 ≤ 3 by decide)) ((C_suited_to).mono (show 3 ≤ 3 by decide)) hb
  have C_suiting : CalF CX0 4 l.prog w K mg base "suiting" F_suiting := cal_suiting G_suiting kS1 mS1 wS1 tS1
  have G__law_woven : FnOk l.prog w K mg base CX0 4 f26 _ ["_law_urn"] (spF K mg 1 (F_woven).f) := ok__law_woven (k := 3) F26 ((C__law_take).mono (show 1 ≤ 3 by decide)) ((C__law_tome).mono (show 3 ≤ 3 by decide)) ((C__law_mixed).mono (show 2 ≤ 3 by decide)) ((C__law_linked).mono (show 1 ≤ 3 by decide)) hb
  have C__law_woven : CalF CX0 4 l.prog w K mg base "_law_woven" F_woven := cal0 G__law_woven b26 k26 m26 rfl
  have C__law_same : CalF CX0 5 l.prog w K mg base "_law_same" (F_same 5) := cal__law_same (P := l.prog) (w := w) (base := base) F14 b14 k14 m14 hb 5
  have C__law_lists : CalF CX0 6 l.prog w K mg base "_law_lists" (F_lists 6) := cal__law_lists (P := l.prog) (w := w) (base := base) F13 b13 k13 m13 hb 6
  have C__choices : CalF CX0 12 l.prog w K mg base "_choices" (F_choices 12) := cal__choices (P := l.prog) (w := w) (base := base) F8 b8 k8 m8 hb 12
  have GR : ∀ n, FnOk l.prog w K mg base CX0 n f6 _ pGr (spGr l.prog w K n) := fun n => by
    induction n with
    | zero => exact Cx.no_callK fun _ _ _ _ ⟨_, _, _, _, _, _, _, _, _, _, _, _, _, _, _, _, _, _, _, _, _, z, _⟩ => Nat.not_lt_zero _ z
    | succ n ih => exact ok_greatest F6 ih b6 m6 hb
  have GGs : FnOk l.prog w K mg base CX0 14 f5 _ nGs (spF K mg 3 gsF) := ok_gsum F5 (GR 13) b6 k6 m6 hb
  have C_greatest_sum : CalF CX0 14 l.prog w K mg base "greatest_sum" F_greatest_sum := cal0 GGs b5 k5 m5 rfl
  have G_most_paired : FnOk l.prog w K mg base CX0 15 f7 _ ["names", "pairs"] (spF K mg 2 (F_most_paired).f) := ok_most_paired (k := 14) F7 ((C_greatest_sum).mono (show 14 ≤ 14 by decide)) hb
  have C_most_paired : CalF CX0 15 l.prog w K mg base "most_paired" F_most_paired := cal0 G_most_paired b7 k7 m7 rfl
  have G_most_swaps : FnOk l.prog w K mg base CX0 16 fS2 _ ["sheet", "without"] (spF K mg 2 F0_most_swaps) := ok_most_swaps (k := 15) FS2 ((C_suiting).mono (show 4 ≤ 15 by decide)) ((C_most_paired).mono (show 15 ≤ 15 by decide)) ((C_households).mono (show 1 ≤ 15 by decide)) hb
  have C_most_swaps : CalF CX0 16 l.prog w K mg base "most_swaps" F_most_swaps := cal_most_swaps G_most_swaps kS2 mS2 wS2 tS2
  have G__best_swaps : FnOk l.prog w K mg base CX0 17 f9 _ ["sheet", "without"] (spF K mg 2 (F_best_swaps).f) := ok__best_swaps (k := 16) F9 ((C_most_swaps).mono (show 16 ≤ 16 by decide)) ((C__choices).mono (show 12 ≤ 16 by decide)) ((C_suiting).mono (show 4 ≤ 16 by decide)) hb
  have C__best_swaps : CalF CX0 17 l.prog w K mg base "_best_swaps" F_best_swaps := cal0 G__best_swaps b9 k9 m9 rfl
  have G_least_swaps : FnOk l.prog w K mg base CX0 18 fS3 _ ["sheet", "without"] (spF K mg 2 F0_least_swaps) := ok_least_swaps (k := 17) FS3 ((C__best_swaps).mono (show 17 ≤ 17 by decide)) hb
  have C_least_swaps : CalF CX0 18 l.prog w K mg base "least_swaps" F_least_swaps := cal_least_swaps G_least_swaps kS3 mS3 wS3 tS3
  have G__law_by_hand_right : FnOk l.prog w K mg base CX0 19 f30 _ [] (spF K mg 0 (F_hand).f) := ok__law_by_hand_right (k := 18) F30 ((C__law_six).mono (show 1 ≤ 18 by decide)) ((C__law_kite).mono (show 2 ≤ 18 by decide)) ((C__law_fork).mono (show 2 ≤ 18 by decide)) ((C_least_swaps).mono (show 18 ≤ 18 by decide)) ((C__law_linked).mono (show 1 ≤ 18 by decide)) ((C__law_bloom).mono (show 2 ≤ 18 by decide)) ((C__law_same).mono (show 5 ≤ 18 by decide)) hb
  have C__law_by_hand_right : CalF CX0 19 l.prog w K mg base "_law_by_hand_right" F_hand := cal0 G__law_by_hand_right b30 k30 m30 rfl
  have G__law_right : FnOk l.prog w K mg base CX0 20 f31 _ ["_law_urn"] (spF K mg 1 (F_right).f) := ok__law_right (k := 19) F31 ((C__law_by_hand_right).mono (show 19 ≤ 19 by decide)) ((C__law_woven).mono (show 4 ≤ 19 by decide)) ((C__law_few).mono (show 2 ≤ 19 by decide)) ((C__law_folk).mono (show 1 ≤ 19 by decide)) ((C__law_lists).mono (show 6 ≤ 19 by decide)) ((C__law_suits).mono (show 3 ≤ 19 by decide)) ((C__law_best).mono (show 2 ≤ 19 by decide)) ((C__law_apart).mono (show 1 ≤ 19 by decide)) ((C_least_swaps).mono (show 18 ≤ 19 by decide)) ((C__law_same).mono (show 5 ≤ 19 by decide)) hb
  have C__law_right : CalF CX0 20 l.prog w K mg base "_law_right" F_right := cal0 G__law_right b31 k31 m31 rfl
  exact Cx.ok_law F32 ⟨_, _, G_cells, b12, k12, m12⟩ ⟨_, _, G_box, b10, k10, m10⟩ ⟨_, _, G__law_right.imp (Cx.ask_right s_right (by decide)), b31, k31, m31⟩ ⟨n16, n1, n4⟩
theorem walk {l : PySem.W.OpenLaw} {q : Program} {loose : List Str} {XP : (Str → Option Value) → Heap → Prop} {YP : World → Heap → Prop} {d : DefRec} {K : Params → PySem.W.Frag} (hn : l.most = some 63) (hdf : d.params.defaults = [])
    (hY : ∀ (w : World) (h : Heap), YP w h → (K w.params).In h)
    (F : ∀ (w : World) (mg : Str → Option Value) (fa : Addr) (h : Heap), (K w.params).In h → h.Ns mainGlobals mg → mg d.name = some (.ref fa) →
      ∃ fd : FuncData, (∀ (s : Shared) (u : Value), BindsTo s fd ⟨[u], []⟩ [("_law_script", u)]) ∧ ∀ base : Heap, (K w.params).In base → base.Ns mainGlobals mg → FnOk l.prog w (K w.params) mg base CX0 21 fa fd ["_law_script"] (Cx.spLaw (K w.params))) :
    PySem.W.WalkO q loose XP YP l.row.toRowW d [] (fun f vs => PySem.call f vs) :=
  L2.walk_of (n := 63) (k := 21) (x := "_law_script") (CX := fun _ => CX0) (sp := fun w => Cx.spLaw (K w.params)) hn (by decide) hdf ⟨rfl, by decide, by decide⟩ hY F (fun _ _ a ns hl _ hS => ⟨a, ns, rfl, hS, hl, fun _ => rfl⟩) fun _ _ _ _ _ z => z
end Fx

open PySem PySem.W PyProof.Rows in
set_option maxRecDepth 100000 in
set_option maxHeartbeats 0 in
theorem PySem.Challenge.cw_crosshomes_k18_the_least_swaps_holds : PySem.Challenge.rw_crosshomes_k18_the_least_swaps.Holds := by
  w_on; o_law; k_head; (case hw => w_witness2)
  k_fill
  refine Fx.walk (l := PySem.Challenge.rw_crosshomes_k18_the_least_swaps) rfl rfl (fun w h Y => PySem.W.kIn_of Y) ?F
  case F =>
    intro w mg fa h KX G hmg
    refine' Fx.all_mk KX G hmg ?a1 ?l1 ?c1 ?k1 ?a2 ?l2 ?c2 ?k2 ?a3 ?l3 ?c3 ?k3 ?a4 ?l4 ?c4 ?k4 ?a5 ?l5 ?c5 ?k5 ?a6 ?l6 ?c6 ?k6 ?a7 ?l7 ?c7 ?k7 ?a8 ?l8 ?c8 ?k8 ?a9 ?l9 ?c9 ?k9 ?a10 ?l10 ?c10 ?k10 ?a11 ?l11 ?c11 ?k11 ?a12 ?l12 ?c12 ?k12 ?a13 ?l13 ?c13 ?k13 ?a14 ?l14 ?c14 ?k14 ?a15 ?l15 ?c15 ?k15 ?a16 ?l16 ?c16 ?k16 ?a17 ?l17 ?c17 ?k17 ?a18 ?l18 ?c18 ?k18 ?a19 ?l19 ?c19 ?k19 ?a20 ?l20 ?c20 ?k20 ?a21 ?l21 ?c21 ?k21 ?a22 ?l22 ?c22 ?k22 ?a23 ?l23 ?c23 ?k23 ?a24 ?l24 ?c24 ?k24 ?a25 ?l25 ?c25 ?k25 ?a26 ?l26 ?c26 ?k26 ?a27 ?l27 ?c27 ?k27 ?a28 ?l28 ?c28 ?k28 ?a29 ?l29 ?c29 ?k29 ?a30 ?l30 ?c30 ?k30 ?a31 ?l31 ?c31 ?k31 ?a32 ?l32 ?c32 ?k32 ?aS1 ?lS1 ?cS1 ?kS1 ?wS1 ?tS1 ?aS2 ?lS2 ?cS2 ?kS2 ?wS2 ?tS2 ?aS3 ?lS3 ?cS3 ?kS3 ?wS3 ?tS3 ?z1 ?z2 ?z3 ?z4 ?z5 ?z6 ?z7 ?z8 ?z9 ?z10 ?z11 ?z12 ?z13 ?z14 ?z15 ?z16 ?z17 ?z18 ?z19
    (case a1 => k_is)
    (case l1 => k_is)
    (case c1 => k_is)
    (case k1 => k_is)
    (case a2 => k_is)
    (case l2 => k_is)
    (case c2 => k_is)
    (case k2 => k_is)
    (case a3 => k_is)
    (case l3 => k_is)
    (case c3 => k_is)
    (case k3 => k_is)
    (case a4 => k_is)
    (case l4 => k_is)
    (case c4 => k_is)
    (case k4 => k_is)
    (case a5 => k_is)
    (case l5 => k_is)
    (case c5 => k_is)
    (case k5 => k_is)
    (case a6 => k_is)
    (case l6 => k_is)
    (case c6 => k_is)
    (case k6 => k_is)
    (case a7 => k_is)
    (case l7 => k_is)
    (case c7 => k_is)
    (case k7 => k_is)
    (case a8 => k_is)
    (case l8 => k_is)
    (case c8 => k_is)
    (case k8 => k_is)
    (case a9 => k_is)
    (case l9 => k_is)
    (case c9 => k_is)
    (case k9 => k_is)
    (case a10 => k_is)
    (case l10 => k_is)
    (case c10 => k_is)
    (case k10 => k_is)
    (case a11 => k_is)
    (case l11 => k_is)
    (case c11 => k_is)
    (case k11 => k_is)
    (case a12 => k_is)
    (case l12 => k_is)
    (case c12 => k_is)
    (case k12 => k_is)
    (case a13 => k_is)
    (case l13 => k_is)
    (case c13 => k_is)
    (case k13 => k_is)
    (case a14 => k_is)
    (case l14 => k_is)
    (case c14 => k_is)
    (case k14 => k_is)
    (case a15 => k_is)
    (case l15 => k_is)
    (case c15 => k_is)
    (case k15 => k_is)
    (case a16 => k_is)
    (case l16 => k_is)
    (case c16 => k_is)
    (case k16 => k_is)
    (case a17 => k_is)
    (case l17 => k_is)
    (case c17 => k_is)
    (case k17 => k_is)
    (case a18 => k_is)
    (case l18 => k_is)
    (case c18 => k_is)
    (case k18 => k_is)
    (case a19 => k_is)
    (case l19 => k_is)
    (case c19 => k_is)
    (case k19 => k_is)
    (case a20 => k_is)
    (case l20 => k_is)
    (case c20 => k_is)
    (case k20 => k_is)
    (case a21 => k_is)
    (case l21 => k_is)
    (case c21 => k_is)
    (case k21 => k_is)
    (case a22 => k_is)
    (case l22 => k_is)
    (case c22 => k_is)
    (case k22 => k_is)
    (case a23 => k_is)
    (case l23 => k_is)
    (case c23 => k_is)
    (case k23 => k_is)
    (case a24 => k_is)
    (case l24 => k_is)
    (case c24 => k_is)
    (case k24 => k_is)
    (case a25 => k_is)
    (case l25 => k_is)
    (case c25 => k_is)
    (case k25 => k_is)
    (case a26 => k_is)
    (case l26 => k_is)
    (case c26 => k_is)
    (case k26 => k_is)
    (case a27 => k_is)
    (case l27 => k_is)
    (case c27 => k_is)
    (case k27 => k_is)
    (case a28 => k_is)
    (case l28 => k_is)
    (case c28 => k_is)
    (case k28 => k_is)
    (case a29 => k_is)
    (case l29 => k_is)
    (case c29 => k_is)
    (case k29 => k_is)
    (case a30 => k_is)
    (case l30 => k_is)
    (case c30 => k_is)
    (case k30 => k_is)
    (case a31 => k_is)
    (case l31 => k_is)
    (case c31 => k_is)
    (case k31 => k_is)
    (case a32 => k_is)
    (case l32 => k_is)
    (case c32 => k_is)
    (case k32 => k_is)
    (case aS1 => k_is)
    (case lS1 => k_is)
    (case cS1 => k_is)
    (case kS1 => k_is)
    (case wS1 => k_is)
    (case tS1 => k_is)
    (case aS2 => k_is)
    (case lS2 => k_is)
    (case cS2 => k_is)
    (case kS2 => k_is)
    (case wS2 => k_is)
    (case tS2 => k_is)
    (case aS3 => k_is)
    (case lS3 => k_is)
    (case cS3 => k_is)
    (case kS3 => k_is)
    (case wS3 => k_is)
    (case tS3 => k_is)
    (case z1 => k_is)
    (case z2 => k_is)
    (case z3 => k_is)
    (case z4 => k_is)
    (case z5 => k_is)
    (case z6 => k_is)
    (case z7 => k_is)
    (case z8 => k_is)
    (case z9 => k_is)
    (case z10 => k_is)
    (case z11 => k_is)
    (case z12 => k_is)
    (case z13 => k_is)
    (case z14 => k_is)
    (case z15 => k_is)
    (case z16 => k_is)
    (case z17 => k_is)
    (case z18 => k_is)
    (case z19 => k_is)
