import PyProof.Rows.All
import Wide.All
import OpenK.AllK
import Wide.FinOn
import HandS.Base
import HandS.Call
import HandS.List
import HandS.Dict
import HandS.Sort
import HandS.SortOrd
import HandS.SortRule
import HandS.Set
import HandS.SetFor
import HandS.Zip0
import PyProof.Rows.SortShellAny
import HandS.ForMost
import HandS.IsInst
import HandS.Zip
import HandS.Star
import HandS.Flow
import HandS.NoneIn
import HandS.TupAny
import HandS.Walk
import KE.KSortTup
import PyProof.StrOps
import PyProof.CollectStr
import PySem.Challenge.RW_crosshomes_k16_who_suits_whom
import HandS.Evl
import HandS.DictComp
import HandS.Defaults
import HandS.Iter
set_option Elab.async false
set_option maxRecDepth 100000
set_option maxHeartbeats 1000000
/-! sorted of rows (a text and one more object each) whose texts part -/
namespace Cx
open PySem PySem.Spec PyProof.Rows L2
/-- texts in Python's order -/
def sLt (a b : Str) : Bool := decide (a.cps.toList < b.cps.toList)
theorem str_ext {a b : Str} (h : a.cps.toList = b.cps.toList) : a = b := by
  cases a
  cases b
  simp only [Str.mk.injEq]
  exact Array.toList_inj.mp h
theorem sLt_swo {α : Type} (k : α → Str) : SrtO.Swo fun x y => sLt (k x) (k y) := by
  refine ⟨fun x y h => ?_, fun x y z h1 h2 => ?_⟩
  · have a := of_decide_eq_true h
    exact decide_eq_false (List.lt_asymm a)
  · have a := List.not_lt.mp (of_decide_eq_false h1)
    have b := List.not_lt.mp (of_decide_eq_false h2)
    exact decide_eq_false (List.not_lt.mpr (List.le_trans a b))
/-- a tuple of a text and an object -/
def RowV (h : Heap) (v : Value) (n : Str) (t : Addr) : Prop :=
  ∃ a o tk c, v = Value.ref a ∧ h.get? a = some o ∧ o.cls = .type "tuple" ∧ o.data = .seq #[Value.str n tk, Value.ref t] c
theorem RowV.keeps {h h' : Heap} {v : Value} {n : Str} {t : Addr} (x : RowV h v n t) (k : ∀ b o, h.get? b = some o → o.cls = .type "tuple" → h'.get? b = some o) : RowV h' v n t := by
  obtain ⟨a, o, tk, c, e, ho, hc, hd⟩ := x
  exact ⟨a, o, tk, c, e, k a o ho hc, hc, hd⟩
section
variable {prog : Program} {w : World} {A : Around} {E : Value → Shared → Prop} {s : Shared}
theorem rows_cmp {vs : List Value} {k : Value → Str} {t : Value → Addr} (hp : ∀ v ∈ vs, RowV s.heap v (k v) (t v)) (one : ∀ v ∈ vs, ∀ u ∈ vs, k v = k u → t v = t u) :
    SrtO.Cmp prog w A s (tuples' true) (fun p => p.1 ∈ vs) (SrtO.lt2 fun v u => sLt (k v) (k u)) := by
  intro p q hm hm'
  have h1 := hp _ hm
  have h2 := hp _ hm'
  have h3 := one _ hm _ hm'
  show wpAny (model prog w) A (keyLt' (tuples' true) p.1 q.1) (fun r s' => s' = s ∧ r = sLt (k p.1) (k q.1)) (fun _ _ => False) s
  generalize k p.1 = x at h1 h3 ⊢
  generalize k q.1 = y at h2 h3 ⊢
  generalize t p.1 = m at h1 h3
  generalize t q.1 = n at h2 h3
  obtain ⟨a, o, t1, c1, e, ho, _, hd⟩ := h1
  obtain ⟨b, o2, t2, c2, e', ho', _, hd'⟩ := h2
  rw [e, e']
  refine PySem.W.kat_lt ho hd ho' hd' ?_
  show PySem.W.KatLex prog w A true (decide (2 < 2)) _ [(Value.str x t1, Value.str y t2), (Value.ref m, Value.ref n)] 0 s
  refine PySem.W.kat_cons (SeqAt.EqAt.str_str x t1 y t2 prog w _ _ ?_)
  refine PySem.W.kat_go (fun e1 => ?_) (fun e1 => ?_)
  · have ex : x = y := by simpa using e1
    have em := h3 ex
    subst ex
    subst em
    refine PySem.W.kat_yes (PySem.W.kat_cons (SeqAt.EqAt.same _ prog w _ _ ?_))
    refine PySem.W.kat_yes (PySem.W.kat_nil ⟨rfl, ?_⟩)
    exact (decide_eq_false (List.lt_irrefl _)).symm
  · exact PySem.W.kat_no (oneLt_str ⟨rfl, rfl⟩)
theorem rows_firsts {h : Heap} : ∀ {vs : List Value}, (∀ v ∈ vs, ∃ n t, RowV h v n t) → ∃ fs, PySem.W.KatTups h vs fs ∧ fs.length = vs.length ∧ ∀ f ∈ fs, ∃ x u, f = Value.str x u
  | [], _ => ⟨[], PySem.W.KatTups.nil, rfl, fun _ q => nomatch q⟩
  | v :: vs, hv => by
    obtain ⟨n, t, a, o, tk, c, e, ho, hc, hd⟩ := hv v List.mem_cons_self
    obtain ⟨fs, h1, h2, h3⟩ := rows_firsts (vs := vs) fun u hu => hv u (List.mem_cons_of_mem _ hu)
    subst e
    refine ⟨Value.str n tk :: fs, PySem.W.KatTups.cons ho hc hd rfl h1, congrArg (· + 1) h2, fun f hf => ?_⟩
    rcases List.mem_cons.mp hf with q | q
    · exact ⟨n, tk, q⟩
    · exact h3 f q
theorem rows_sortable {a : Addr} {vs : List Value} {k : Value → Str} {t : Value → Addr} (h0 : 0 < vs.length) (hp : ∀ v ∈ vs, RowV s.heap v (k v) (t v)) (one : ∀ v ∈ vs, ∀ u ∈ vs, k v = k u → t v = t u)
    (ha : ∀ o, s.heap.get? a = some o → o.cls ≠ .type "tuple") : SrtO.SortableO prog w A s a vs fun v u => sLt (k v) (k u) := by
  intro h' keep
  have hp' : ∀ v ∈ vs, RowV h' v (k v) (t v) := fun v hm => (hp v hm).keeps fun b o e c => keep b o (fun z => ha o (z ▸ e) c) e
  obtain ⟨fs, h1, h2, h3⟩ := rows_firsts fun v hm => ⟨_, _, hp' v hm⟩
  refine ⟨tuples' true, fun Q E hq => ?_, rows_cmp hp' one⟩
  refine PySem.W.kat_kind (T := .type "str") h1 (by omega) (fun f hm => ?_) (by rfl) ?_
  · obtain ⟨x, u, rfl⟩ := h3 f hm
    exact PySem.W.Looks.now
  · have e : (Value.type "str" != Value.type "tuple") = true := by decide +kernel
    rw [e]
    exact hq
theorem sorted_rows {l : Addr} {vs : List Value} {k : Value → Str} {t : Value → Addr} {Q : Value → Shared → Prop} (hl : s.heap.IsList l vs.toArray) (hz : vs.length ≤ sizeLine) (hp : ∀ v ∈ vs, RowV s.heap v (k v) (t v))
    (one : ∀ v ∈ vs, ∀ u ∈ vs, k v = k u → t v = t u)
    (h : ∀ (h' : Heap) (d : Addr) (out : List Value), SrtO.Srtd (fun v u => sLt (k v) (k u)) out → out.Perm vs → (∀ b o, s.heap.get? b = some o → h'.get? b = some o) → s.heap.objs.size ≤ d → (∃ n, h'.get? d = some (seqObj "list" out.toArray n)) → Q (.ref d) { s with heap := h' }) :
    wpAny (model prog w) A (call (.builtin "sorted") [.ref l]) Q E s := by
  refine SrtO.sorted_ord (sLt_swo k) hl hz (fun h2 g a ha kk => ?_) fun out hs hb => ?_
  · refine rows_sortable (s := { s with heap := g }) (by omega) (fun v hm => (hp v hm).keeps fun b o e _ => (kk b o e).2) one fun o e => ?_
    have e' : some o = some (seqObj "list" vs.toArray 0) := e.symm.trans ha
    cases e'
    intro c
    exact absurd (Value.type.inj c) (by decide)
  · exact h _ _ out hs hb.perm (fun b o e => sortedAll_old e) (Nat.le_succ _) (sortedAll_at s.heap vs out.toArray)
end
/-- sorted(xs) of such rows: a new list, in rising order of their texts -/
def rSortedRows (K : PySem.W.Frag) : List V → Hp → VK → Prop := fun vs H Q => ∃ (a : Addr) (xs : List V) (k : V → Str) (t : V → Addr), vs = [V.ref a] ∧ SqL K H a xs ∧
  (∀ x ∈ xs, ∃ p, x = V.ref p ∧ H p = some (.tup [.str (k x), .ref (t x)])) ∧ (∀ x ∈ xs, ∀ y ∈ xs, k x = k y → t x = t y) ∧
  ∀ ys p, ys.Perm xs → ys.Pairwise (fun x y => sLt (k y) (k x) = false) → H p = none → Q (.ref p) (upd H p (.lst ys))
section
variable {X : Cx}
theorem cr_sortedRows : CallR X (.builtin "sorted") (rSortedRows X.K) := by
  intro pins s σ H vs us Q I r h
  obtain ⟨a, xs, k, t, rfl, hs, hx, one, q⟩ := h
  obtain ⟨its, rv, hl, hz⟩ := I.list hs
  obtain ⟨u, rfl, ru⟩ := vals1 r
  obtain rfl : u = Value.ref a := ru
  obtain ⟨e1, e2⟩ := refs_back rv fun x m => by
    obtain ⟨p, e, _⟩ := hx x m
    exact ⟨p, e⟩
  have inn : ∀ v ∈ its, backV v ∈ xs := fun v hv => by
    rw [e1]
    exact List.mem_map.mpr ⟨v, hv, rfl⟩
  refine sorted_rows (k := fun u => k (backV u)) (t := fun u => t (backV u)) hl.isList (by rw [← rv.length]; exact hz) (fun v hv => ?_) (fun v hv u hu e => one _ (inn v hv) _ (inn u hu) e) fun h' d out h1 h2 kp hd hn => ?_
  · obtain ⟨p, rfl⟩ := e2 v hv
    obtain ⟨p', e, ht⟩ := hx _ (inn _ hv)
    cases e
    obtain ⟨_, its2, r2, o, ho, hc, n, hd⟩ := I.hok _ _ ht
    obtain ⟨u1, u2, rfl, ri, rj⟩ := vals2 r2
    obtain ⟨t1, rfl⟩ := ri
    obtain rfl : u2 = Value.ref _ := rj
    exact ⟨p, o, t1, n, rfl, ho, hc, hd⟩
  · have h3 : ∀ u ∈ out, ∃ a, u = Value.ref a := fun u hu => e2 u (h2.mem_iff.mp hu)
    obtain ⟨n, hn⟩ := hn
    have hb : (out.map backV).Perm xs := by
      rw [e1]
      exact h2.map backV
    refine ⟨.ref d, upd H d (.lst (out.map backV)), I.laid (t' := s.toks) kp hd ⟨?_, out, n, vals_back h3, hn⟩, rfl, q _ d hb (List.pairwise_map.mpr h1) (I.hok.fresh hd)⟩
    rw [hb.length_eq]
    exact hz
end
end Cx

/-! sets of texts: made of a list, sorted -/
namespace Cx
open PySem PySem.Spec PyProof.Rows L2
def GoodT (w : World) (e : Int × Value) : Prop := ∃ k tk, e.2 = Value.str k tk ∧ e.1 = hashStr w k
/-- the set of texts at a, in the order of its entries -/
structure TxTab (w : World) (es : Array (Int × Value)) (t : SetTable) (L : List Str) : Prop where
  good : ∀ e ∈ es.toList, GoodT w e
  keys : es.toList.map (fun e => strOf e.2) = L
  nd : L.Nodup
  low : es.size < scanBound
  fits : t.fits es.size = true
  ris : Ris t.place.toList
  led : w.params.followText "set-order" = true ∨ t.led = true
def TxSet (w : World) (h : Heap) (a : Addr) (L : List Str) : Prop :=
  ∃ o es ep t, h.get? a = some o ∧ o.ExactSet ∧ o.data = .set es ep t ∧ TxTab w es t L
theorem TxSet.at {w : World} {h h' : Heap} {a : Addr} {L : List Str} (R : TxSet w h a L) (k : ∀ o, h.get? a = some o → h'.get? a = some o) : TxSet w h' a L := by
  obtain ⟨o, es, ep, t, ho, r⟩ := R
  exact ⟨o, es, ep, t, k o ho, r⟩
theorem TxTab.size {w : World} {es : Array (Int × Value)} {t : SetTable} {L : List Str} (R : TxTab w es t L) : es.size = L.length := by
  rw [← R.keys, List.length_map, Array.length_toList]
section
variable {P : Program} {w : World} {A : Around} {E : Value → Shared → Prop} {s : Shared} {a : Addr} {L : List Str}
theorem TxTab.elems {es : Array (Int × Value)} {t : SetTable} (R : TxTab w es t L) : ElemsOf (PySem.strKind P w) es.toList := fun e he => by
  obtain ⟨k, tk, h1, h2⟩ := R.good e he
  refine ⟨⟨k, ?_, h2⟩, ?_⟩
  · rw [h1]
    exact strKind_is P w k tk
  · rw [h1]
    rfl
theorem goodT_is {e : Int × Value} (g : GoodT w e) (k : Str) : (PySem.strKind P w).is k e.2 = true ↔ strOf e.2 = k := by
  obtain ⟨j, tk, h1, _⟩ := g
  rw [h1]
  constructor
  · intro h
    obtain ⟨u, hu⟩ := Value.isStrOf_shape (show Value.isStrOf k (Value.str j tk) = true from h)
    injection hu
  · intro h
    have e : j = k := h
    rw [e]
    exact strKind_is P w k tk
/-- the store at the end of an addition -/
theorem tx_tail {g : Bool → Sem Unit} (hg : ∀ (b : Bool) (s1 : Shared) (R : Unit → Shared → Prop), R () s1 → wpAny (model P w) A (g b) R E s1)
    {o : Obj} {es e1 : Array (Int × Value)} {ep : Nat} {t t1 : SetTable} (ho : s.heap.get? a = some o) (hex : o.ExactSet) (hd : o.data = .set es ep t) (T : TxTab w e1 t1 L) {dm : Bool} {R : Option Bool → Shared → Prop}
    (hR : ∀ h' L', Heap.SameBut a s.heap h' → TxSet w h' a L' → L'.Perm L → R (some true) { s with heap := h' }) :
    wpAny (model P w) A (do
        storeSet a e1 t1
        if (!dm && t1.tooFull) = true then do
            g (relayAll t1 e1 (SetTable.grown e1.size)).2.2
            storeSet a (relayAll t1 e1 (SetTable.grown e1.size)).1 (relayAll t1 e1 (SetTable.grown e1.size)).2.1
            pure (some true)
          else pure (some true)) R E s := by
  have sb := Heap.SameBut.update s.heap a (Obj.putSet e1 t1)
  have h1 := store_at (es' := e1) (t' := t1) ho hd
  refine wpAny_bind (wpAny_storeSet_of ho hd ?_ (fits_of_scanBound T.low))
  by_cases c : (!dm && t1.tooFull) = true
  · rw [if_pos c]
    have q1 := relayAll_perm t1 e1 (SetTable.grown e1.size)
    have q2 := relayAll_fits t1 e1 (SetTable.grown e1.size)
    have q3 := relayAll_ris t1 e1 (SetTable.grown e1.size)
    have q4 := relayAll_led t1 e1 (SetTable.grown e1.size)
    generalize relayAll t1 e1 (SetTable.grown e1.size) = z at q1 q2 q3 q4 ⊢
    obtain ⟨e2, t2, gv⟩ := z
    dsimp only at q1 q2 q3 q4 ⊢
    have zs : e2.size = e1.size := by
      have := q1.length_eq
      rwa [Array.length_toList, Array.length_toList] at this
    have pk := q1.map (fun e : Int × Value => strOf e.2)
    rw [T.keys] at pk
    have T2 : TxTab w e2 t2 (e2.toList.map (fun e => strOf e.2)) :=
      ⟨fun e he => T.good e (q1.mem_iff.mp he), rfl, pk.nodup_iff.mpr T.nd, zs ▸ T.low, q2, q3, T.led.imp id fun y => q4.trans y⟩
    refine wpAny_bind (hg gv _ _ ?_)
    refine wpAny_bind (wpAny_storeSet_of h1 rfl ?_ (fits_of_scanBound T2.low))
    exact wpAny_pure (hR _ _ (sb.trans (Heap.SameBut.update _ a _)) ⟨_, e2, _, t2, store_at h1 rfl, hex, rfl, T2⟩ pk)
  · rw [if_neg c]
    exact wpAny_pure (hR _ L sb ⟨_, e1, _, t1, h1, hex, rfl, T⟩ (List.Perm.refl L))
theorem tx_add {k : Str} {tk : Tok} {Q : Bool → Shared → Prop} (R : TxSet w s.heap a L) (room : L.length + 1 < scanBound)
    (hQ : ∀ b h' L', Heap.SameBut a s.heap h' → TxSet w h' a L' → L'.length ≤ L.length + 1 → (∀ j, j ∈ L' ↔ j ∈ L ∨ j = k) → Q b { s with heap := h' }) :
    wpAny (model P w) A (setAddHashed a (.str k tk) (hashStr w k)) Q E s := by
  obtain ⟨o, es, ep, t, ho, hex, hd, T⟩ := R
  have el : ElemsOf (PySem.strKind P w) es.toList := T.elems
  have hk : (PySem.strKind P w).is k (.str k tk) = true := strKind_is P w k tk
  have hsc : (Value.str k tk).scannable = true := rfl
  have memk : k ∈ L ↔ ∃ e ∈ es.toList, (PySem.strKind P w).is k e.2 = true := by
    rw [← T.keys, List.mem_map]
    exact ⟨fun ⟨e, he, q⟩ => ⟨e, he, (goodT_is (T.good e he) k).2 q⟩, fun ⟨e, he, q⟩ => ⟨e, he, (goodT_is (T.good e he) k).1 q⟩⟩
  show wpAny (model P w) A (setAddHashed a (.str k tk) ((PySem.strKind P w).hash k)) Q E s
  unfold setAddHashed setAddHashedIn
  refine wpAny_holding (wpAny_bind (wpAny_setState_of ho hd T.fits ?_))
  dsimp only
  rw [byScan_of hsc T.low el, if_pos rfl]
  unfold setAddByScan
  refine wpAny_bind (wpAny_bind (wpAny_rule (wpAny_bind (wpAny_setScan_of hk ho hd T.fits el ?_))))
  cases hf : List.findIdx? (fun e => (PySem.strKind P w).is k e.2) es.toList with
  | some j =>
    dsimp only
    obtain ⟨hj, pj, _⟩ := List.findIdx?_eq_some_iff_getElem.mp hf
    have hm : k ∈ L := memk.mpr ⟨es.toList[j], List.getElem_mem hj, pj⟩
    refine wpAny_pure (wpAny_pure (hQ false s.heap L (Heap.SameBut.refl a s.heap) ⟨o, es, ep, t, ho, hex, hd, T⟩ (Nat.le_succ _) fun i => ⟨.inl, fun z => z.elim id fun e => e ▸ hm⟩))
  | none =>
    dsimp only
    have hm : k ∉ L := fun z => by
      obtain ⟨e, he, q⟩ := memk.mp z
      have c := List.findIdx?_eq_none_iff.mp hf e he
      rw [q] at c
      cases c
    have gw : ∀ (b : Bool) (s1 : Shared) (R : Unit → Shared → Prop), R () s1 → wpAny (model P w) A (match b with | true => rule "set.scan.the-table-gave-way" | false => pure ()) R E s1 := fun b s1 R q => by
      cases b
      · exact wpAny_pure q
      · exact wpAny_rule q
    have q1 := layNew_perm t es ((PySem.strKind P w).hash k) (.str k tk)
    have q2 := layNew_fits t es ((PySem.strKind P w).hash k) (.str k tk)
    have q3 := layNew_ris t es ((PySem.strKind P w).hash k) (.str k tk) T.ris
    have q4 := layNew_led t es ((PySem.strKind P w).hash k) (.str k tk)
    generalize layNew t es ((PySem.strKind P w).hash k) (.str k tk) = z at q1 q2 q3 q4 ⊢
    obtain ⟨e1, t1, dm, gv⟩ := z
    dsimp only at q1 q2 q3 q4 ⊢
    rw [Array.toList_push] at q1
    have pc := q1.trans (List.perm_append_singleton _ _)
    have pk := pc.map (fun e : Int × Value => strOf e.2)
    rw [List.map_cons, T.keys] at pk
    have zs : e1.size = L.length + 1 := by
      have z := pc.length_eq
      rwa [List.length_cons, Array.length_toList, Array.length_toList, T.size] at z
    have mk : ∀ t2 : SetTable, t2.fits e1.size = true → Ris t2.place.toList → t2.led = t.led → TxTab w e1 t2 (e1.toList.map (fun e => strOf e.2)) := fun t2 f2 r2 l2 =>
      ⟨fun e he => by
        rcases List.mem_cons.mp (pc.mem_iff.mp he) with y | y
        · exact ⟨k, tk, by rw [y], by rw [y]; rfl⟩
        · exact T.good e y, rfl, pk.nodup_iff.mpr (List.nodup_cons.mpr ⟨hm, T.nd⟩), by rw [zs]; exact room, f2, r2, T.led.imp id fun y => l2.trans y⟩
    have fin : ∀ h' L', Heap.SameBut a s.heap h' → TxSet w h' a L' → L'.Perm (e1.toList.map (fun e => strOf e.2)) → Q true { s with heap := h' } := fun h' L' sb r pm => by
      have pm2 := pm.trans pk
      refine hQ true h' L' sb r (Nat.le_of_eq pm2.length_eq) fun i => ?_
      rw [pm2.mem_iff, List.mem_cons]
      exact Or.comm
    refine wpAny_bind (gw gv _ _ ?_)
    split
    · refine wpAny_bind ?_
      rw [hashByValue_scannable 8 hsc]
      refine wpAny_pure ?_
      refine tx_tail gw ho hex hd (mk _ ?_ ?_ ?_) fun h' L' sb r pm => ?_
      · first | (split <;> first | exact q2 | exact SetTable.fits_plain_off q2) | exact q2 | exact SetTable.fits_plain_off q2
      · first | (split <;> exact q3) | exact q3
      · first | (split <;> exact q4) | exact q4
      · dsimp only
        exact wpAny_pure (fin h' L' sb r pm)
    · refine wpAny_bind (wpAny_pure ?_)
      rw [if_pos rfl]
      refine tx_tail gw ho hex hd (mk _ q2 q3 q4) fun h' L' sb r pm => ?_
      dsimp only
      exact wpAny_pure (fin h' L' sb r pm)
end
end Cx

/-! set(xs) of a list of texts, sorted of such a set -/
namespace Cx
open PySem PySem.Spec PyProof.Rows L2
/-- a set as it is born -/
abbrev bornSet (w : World) : Obj := { cls := .type "set", dict := none, data := .set #[] 0 (.fresh 0 0 (!w.params.followText "set-order")) }
theorem txSet_born {w : World} {h : Heap} {a : Addr} (ho : h.get? a = some (bornSet w)) : TxSet w h a [] := by
  refine ⟨_, #[], 0, _, ho, ⟨rfl, rfl, rfl⟩, rfl, ⟨fun e he => by simp at he, rfl, List.nodup_nil, by decide, rfl, List.Pairwise.nil, ?_⟩⟩
  show _ ∨ (!w.params.followText "set-order") = true
  cases w.params.followText "set-order"
  · exact .inr rfl
  · exact .inl rfl
section
variable {P : Program} {w : World} {A : Around} {E : Value → Shared → Prop} {s : Shared}
theorem tx_update {I : Addr} {fp wr : List Addr} {G : Array GenState → Array GenState → Prop} {n : Nat} {Pv : Nat → Value → Prop} {St : Nat → Shared → Prop} {R : Result → Shared → Prop}
    (W : WalksS P w A.in1 I fp wr G n Pv St) (S : Addr) (nf : S ∉ fp) (xs : List Str) (hn : n = xs.length) (low : n + 1 < scanBound) (val : ∀ i v, Pv i v → ∃ k t, xs[i]? = some k ∧ v = .str k t) :
    ∀ (d i : Nat) (s : Shared), d = n - i → i ≤ n → St i s → (∃ L, TxSet w s.heap S L ∧ L.length ≤ i ∧ ∀ j, j ∈ L ↔ j ∈ xs.take i) →
      (∀ s' L, Moved (S :: wr) G s s' → TxSet w s'.heap S L → L.length ≤ n → (∀ j, j ∈ L ↔ j ∈ xs) → R (.ok (.ret .none)) s') →
      codeAny (model P w) A (.builtin "set.update.loop" ⟨[.ref S, .ref I], []⟩) R s := by
  have nw : S ∉ wr := fun h => nf (W.sub _ h)
  have sub : ∀ b ∈ wr, b ∈ S :: wr := fun b hb => List.mem_cons_of_mem _ hb
  intro d
  induction d with
  | zero =>
    intro i s hd hi st ⟨L, hS, hl, hm⟩ hR
    have e : i = n := by omega
    subst e
    refine codeAny_builtin F.entry_set_update_loop ?_
    rw [Around.under_plainId F.plain_set_update_loop _]
    show wpAny _ A.in1 (pyNext (.ref I) >>= _) _ _ s
    refine wpAny_bind (W.done s _ _ st fun s' mv => ?_)
    show wpAny _ A.in1 (ret Value.none) _ _ s'
    refine wpAny_pure (hR s' L (mv.mono sub) (hS.at fun o q => mv.heap S o nw q) hl fun j => ?_)
    rw [hm j, List.take_of_length_le (by omega)]
  | succ d ih =>
    intro i s hd hi st ⟨L, hS, hl, hm⟩ hR
    have lt : i < n := by omega
    refine codeAny_builtin F.entry_set_update_loop ?_
    rw [Around.under_plainId F.plain_set_update_loop _]
    show wpAny _ A.in1 (pyNext (.ref I) >>= _) _ _ s
    refine wpAny_bind (W.item i s _ _ lt st fun v s' hP st' mv => ?_)
    obtain ⟨z, t, hz, rfl⟩ := val i v hP
    have hS' : TxSet w s'.heap S L := hS.at fun o q => mv.heap S o nw q
    show wpAny _ A.in1 (holding [Value.str z t] (setAdd S (.str z t)) >>= _) _ _ s'
    refine wpAny_bind (wpAny_holding ?_)
    unfold setAdd
    refine wpAny_holding (wpAny_bind ((PySem.strKind P w).pyHash (k := z) (strKind_is _ _ _ _) ?_))
    refine tx_add (s := { s' with toks := s'.toks + 1 }) hS' (by omega) fun b h' L' sb r h1 h2 => ?_
    have mem : ∀ j, j ∈ L' ↔ j ∈ xs.take (i + 1) := fun j => by
      rw [h2 j, hm j, List.take_add_one, hz]
      simp
    refine wpAny_pure ⟨plainId_quiet F.plain_set_update_loop _, ih (i + 1) _ (by omega) lt (W.frame _ s' _ _ st' (Nat.le_succ _) fun b hb o q => ?_) ⟨L', r, by omega, mem⟩ fun s2 L2 mv2 r2 l2 m2 => ?_⟩
    · exact (sb.2 b (fun y : b = S => nf (y ▸ hb))).trans q
    · refine hR s2 L2 (Moved.trans W.gtrans ((mv.mono sub).then_heap (Nat.le_succ _) fun b o hb q => ?_) mv2) r2 l2 m2
      exact (sb.2 b (fun y : b = S => hb (by rw [y]; exact List.mem_cons_self))).trans q
theorem call_set_txs {l : Addr} {items : Array Value} (xs : List Str) {Q : Value → Shared → Prop} (hh : A.handled = none) (hl : s.heap.IsList l items) (hit : StrsAre items.toList xs) (low : xs.length + 1 < scanBound)
    (h : ∀ (h' : Heap) (tk : Nat) (L : List Str), TxSet w h' s.heap.objs.size L → L.length ≤ xs.length → (∀ j, j ∈ L ↔ j ∈ xs) → (∀ b o, s.heap.get? b = some o → h'.get? b = some o) → Q (.ref s.heap.objs.size) { s with heap := h', toks := tk }) :
    wpAny (model P w) A (call (.type "set") [.ref l]) Q E s := by
  have hn : items.size = xs.length := by
    have q := StrsAre.len_eq hit
    rw [Array.length_toList] at q
    omega
  obtain ⟨c, tl, hmro⟩ := F.called_set.mro
  have hmade := F.called_set.made
  have hsub := F.called_set.sub
  refine wpAny_call (codeAny_of_tree ?_)
  show wpAny _ _ (callAny (.type "set") _) _ _ _
  refine wpAny_pure ⟨Code.quiet_builtin _ (by decide +kernel), codeAny_builtin F.entry_type_call ?_⟩
  rw [Around.under_plain (weight_type_call_type "set" [.ref l] []) rfl]
  have h1 := F.called_set.notType
  have h2 := F.called_set.canCreate
  have hct := F.typeCall_set_1 (.ref l)
  repeat (any_goals (first | assumption | wp_step))
  refine codeAny_mono (code_set_led1 (.ref l) (E := E) (Q₁ := fun obj s1 => obj = .ref s.heap.objs.size ∧ s1 = { s with heap := s.heap.push (bornSet w) }) ⟨rfl, rfl⟩) fun r s1 hr => ?_
  cases r with
  | error e => exact hr
  | ok fl =>
    cases fl with
    | ret obj =>
      obtain ⟨rfl, rfl⟩ := hr
      have hS : (s.heap.push (bornSet w)).get? s.heap.objs.size = some (bornSet w) := Heap.get?_push_size _ rfl
      have hT : Shared.TypeIs { s with heap := s.heap.push (bornSet w) } (.ref s.heap.objs.size) "set" := ⟨_, hS, rfl⟩
      have hli := F.called_set.init.lookup
      have hbi := F.called_set.init.bind (.ref s.heap.objs.size)
      repeat (any_goals (first | assumption | wp_step))
      refine codeAny_mono (codeAny_call_builtin (R := wants (fun r s2 => r = .none ∧ ∃ h' tk L, s2 = { s with heap := h', toks := tk } ∧ TxSet w h' s.heap.objs.size L ∧ L.length ≤ xs.length ∧ (∀ j, j ∈ L ↔ j ∈ xs) ∧
          (∀ b o, s.heap.get? b = some o → h'.get? b = some o)) E) F.called_set.init.plain F.entry_set_init (check_set_init_1 hT ?_)) fun r2 s2 hr2 => ?_
      · obtain ⟨ol, hol, hcl, nl, hdl⟩ := hl
        obtain ⟨ocls, odict, odata, oslots⟩ := ol
        simp only at hcl hdl
        subst hcl
        subst hdl
        have hol' := Heap.get?_push_of_some (bornSet w) hol
        have hsls := F.sub_list_set
        have hslf := F.sub_list_frozenset
        have hne : (Value.type "list" == Value.type "dict") = false := by decide
        have hl1 : (s.heap.push (bornSet w)).IsList l items := ⟨_, hol', rfl, nl, rfl⟩
        unfold Builtin.«set.__init__» noKeywords Builtin.Frozenset.updateFrom
        generalize hPI : pyIter = PI
        wp_walk
        subst hPI
        refine wpAny_pyIter_list hl1 (wpAny_bind (wpAny_runValue ?_))
        have hlS : l < s.heap.objs.size := Heap.lt_size hol
        have hh3 : A.in1.in1.in1.handled = none := by simp [hh]
        have sz1 : (s.heap.push (bornSet w)).objs.size = s.heap.objs.size + 1 := Heap.size_push ..
        have neI : l ≠ (s.heap.push (bornSet w)).objs.size := by
          rw [sz1]
          exact Nat.ne_of_lt (Nat.lt_succ_of_lt hlS)
        have nf : s.heap.objs.size ∉ [(s.heap.push (bornSet w)).objs.size, l] := by
          rw [sz1]
          simp only [List.mem_cons, List.not_mem_nil, or_false, not_or]
          exact ⟨Nat.ne_of_lt (Nat.lt_succ_self _), Nat.ne_of_gt hlS⟩
        have val : ∀ (i : Nat) (v : Value), items[i]? = some v → ∃ k t, xs[i]? = some k ∧ v = .str k t := fun i v hv => by
          have q : items.toList[i]? = some v := by rw [Array.getElem?_toList]; exact hv
          have hi : i < xs.length := by rw [← hn]; exact (Array.getElem?_eq_some_iff.mp hv).1
          have e := hit.strs
          have q2 := congrArg (fun z => z[i]?) e
          rw [List.getElem?_map, q] at q2
          obtain ⟨x, t, ex⟩ := hit.all v (List.mem_of_getElem? q)
          refine ⟨x, t, ?_, ex⟩
          rw [← q2, ex]
          rfl
        refine tx_update ((Walks.list hh3 _ l neI items).toS) s.heap.objs.size nf xs hn (by omega) val (items.size - 0) 0 _ rfl (Nat.zero_le _)
          ⟨⟨_, Heap.get?_push_size _ rfl, rfl, rfl⟩, (hl1.push _)⟩ ⟨[], txSet_born (Heap.get?_push_of_some _ hS), Nat.le_refl _, fun j => by simp⟩ fun s' L mv r hl2 hm => ?_
        obtain ⟨h', g2, d', tk', os'⟩ := s'
        obtain rfl : g2 = s.gens := mv.gens
        obtain rfl : d' = s.drawn := mv.drawn
        obtain rfl : os' = s.os := mv.os
        show wpAny _ _ _ _ _ _
        refine wpAny_pure ?_
        show wpAny _ _ (ret Value.none) _ _ _
        refine wpAny_pure ⟨rfl, h', tk', L, rfl, r, by omega, hm, fun b o e => ?_⟩
        have hb := Heap.lt_size e
        refine mv.heap b o ?_ (Heap.get?_push_of_some _ (Heap.get?_push_of_some _ e))
        rw [sz1]
        simp only [List.mem_cons, List.not_mem_nil, or_false, not_or]
        exact ⟨Nat.ne_of_lt hb, Nat.ne_of_lt (Nat.lt_succ_of_lt hb)⟩
      · cases r2 with
        | error e => exact hr2
        | ok fl2 =>
          cases fl2 with
          | ret r =>
            obtain ⟨rfl, h', tk, L, rfl, r, hl2, hm, hk⟩ := hr2
            repeat (any_goals (first | assumption | wp_step))
            exact h _ _ _ r hl2 hm hk
          | _ => exact hr2.elim
    | _ => exact hr.elim
/-- sorted of it: a new list of its texts, rising -/
theorem sorted_txs {a : Addr} {L : List Str} {Q : Value → Shared → Prop} (R : TxSet w s.heap a L) (hh : A.handled = none) (few : L.length < 64)
    (hQ : ∀ s' p (out : Array Value) (c : Nat) (ys : List Str), (∀ b o, s.heap.get? b = some o → s'.heap.get? b = some o) → s'.gens = s.gens → s'.os = s.os → s.heap.objs.size ≤ p →
      s'.heap.get? p = some (seqObj "list" out c) → StrsAre out.toList ys → ys.Perm L → sortedS ys = true → Q (.ref p) s') :
    wpAny (model P w) A (call (.builtin "sorted") [.ref a]) Q E s := by
  obtain ⟨o, es, ep, t, ho, hex, hd, T⟩ := R
  have hsz := T.size
  refine Calls.call_function_entry kind_sorted plain_sorted entry_sorted (args_sorted1 _) ?_
  unfold Builtin.«sorted»
  refine wpAny_bind (m := checkCount "sorted" 1 1 _) (wpAny_pure ?_)
  refine wpAny_bind (collect_set (A := A.in1) hh ⟨o, ho, hex.1, hd⟩ T.fits T.low T.ris T.led fun s1 vs k1 hz g1 o1 pm => ?_)
  have hvl : vs.length = L.length := by rw [pm.length_eq, List.length_map, Array.length_toList]; exact hsz
  have hst : StrsAre vs (vs.map strOf) := strsAre_map vs fun v hv => by
    obtain ⟨e, he, q⟩ := List.mem_map.mp (pm.mem_iff.mp hv)
    obtain ⟨k, tk, e1, _⟩ := T.good e he
    exact ⟨k, tk, q ▸ e1⟩
  have pk : (vs.map strOf).Perm L := by
    have q := pm.map strOf
    rw [List.map_map] at q
    rw [← T.keys]
    exact q
  refine wpAny_bind (wpAny_newList ?_ (by rw [hvl, sizeLine_eq]; omega))
  have hoL : (s1.heap.push (seqObj "list" vs.toArray 0)).get? s1.heap.objs.size = some (seqObj "list" vs.toArray 0) := Heap.get?_push_size _ rfl
  have hL : (s1.heap.push (seqObj "list" vs.toArray 0)).IsList s1.heap.objs.size vs.toArray := ⟨_, hoL, rfl, _, rfl⟩
  refine wpAny_bind (wpAny_holding (wpAny_call_entry slot_list_sort ⟨_, hoL, rfl⟩ entry_list_sort (list_sort_treeKAny strKind_oneLt hoL hst.keysOf (fun u v rest e => keyKind_strs (by rw [← e]; exact hst)) (by rw [hvl, sizeLine_eq]; omega) fun st pa sa => ?_) (args_list_sort _)))
  obtain ⟨ys, b1, b2, b3⟩ := sorted_out_str hst pa sa
  refine ⟨_, rfl, ?_⟩
  obtain ⟨c, hc⟩ := sortedHeap_at (vs := vs) (out := (arrOf st).map (·.2)) hoL
  refine wpAny_pure ⟨_, rfl, hQ _ s1.heap.objs.size _ c ys (fun b u e => ?_) g1 o1 hz hc b1 (b2.trans pk) b3⟩
  have q := k1 b u e
  have lt := Heap.lt_size q
  show (sortedHeap (s1.heap.push (seqObj "list" vs.toArray 0)) s1.heap.objs.size vs _).get? b = some u
  rw [sortedHeap_old (Nat.ne_of_lt lt) (by rw [size_push']; exact Nat.lt_succ_of_lt lt)]
  exact Heap.get?_push_of_some _ q
end
/-- the set of texts at a -/
def TxO (w : World) (a : Addr) (L : List Str) : HO := .ext fun h => TxSet w h a L
theorem txO_new {w : World} {P : Program} {H : Hp} {h : Heap} {a : Addr} {L : List Str} (R : TxSet w h a L) : ObjOk P w H h a (TxO w a L) := by
  have ⟨o, _, _, _, ho, _⟩ := R
  exact ⟨R, ⟨o, ho⟩, fun _ _ p k => TxSet.at p k⟩
theorem strsAre_vals : ∀ {xs : List Str} {us : List Value}, Vals (xs.map V.str) us → StrsAre us xs
  | [], _, .nil => .nil
  | x :: xs, _, .cons r t => by
    obtain ⟨k, rfl⟩ := r
    exact .cons x k (strsAre_vals t)
theorem vals_strsAre : ∀ {xs : List Str} {us : List Value}, StrsAre us xs → Vals (xs.map V.str) us
  | _, _, .nil => .nil
  | _, _, .cons x k t => .cons ⟨k, rfl⟩ (vals_strsAre t)
/-- set(xs), xs a list of texts -/
def rSetTx (K : PySem.W.Frag) (w : World) : List V → Hp → VK → Prop := fun vs H Q => ∃ (l : Addr) (xs : List Str), vs = [V.ref l] ∧ SqL K H l (xs.map V.str) ∧ xs.length < 1000 ∧
  ∀ p L, H p = none → L.Nodup → L.length ≤ xs.length → (∀ j, j ∈ L ↔ j ∈ xs) → Q (.ref p) (upd H p (TxO w p L))
/-- sorted(s), s a set of texts -/
def rSortTx (w : World) : List V → Hp → VK → Prop := fun vs H Q => ∃ (a : Addr) (L : List Str), vs = [V.ref a] ∧ H a = some (TxO w a L) ∧ L.length < 64 ∧
  ∀ (ys : List Str) (p : Addr), ys.Perm L → ys.Nodup → sortedS ys = true → H p = none → Q (.ref p) (upd H p (.lst (ys.map V.str)))
section
variable {X : Cx}
theorem cr_setTx (hc : X.calm = true) : CallR X (.type "set") (rSetTx X.K X.w) := by
  intro pins s σ H vs us Q I r h
  obtain ⟨l, xs, rfl, hl, few, q⟩ := h
  rw [Vals.ref1 r]
  obtain ⟨its, rv, pl, hz⟩ := I.list hl
  refine call_set_txs (P := X.prog) (w := X.w) xs (I.ok.hd hc) pl.isList (by simpa using strsAre_vals rv) (by unfold scanBound; omega) fun h' tk L R l1 m1 k => ?_
  have nd : L.Nodup := by
    obtain ⟨_, _, _, _, _, _, _, T⟩ := id R
    exact T.nd
  exact ⟨.ref s.heap.objs.size, upd H s.heap.objs.size (TxO X.w s.heap.objs.size L), I.laid (t' := tk) k (Nat.le_refl _) (txO_new R), rfl, q _ L (I.hok.fresh (Nat.le_refl _)) nd l1 m1⟩
theorem cr_sortTx (hc : X.calm = true) : CallR X (.builtin "sorted") (rSortTx X.w) := by
  intro pins s σ H vs us Q I r h
  obtain ⟨a, L, rfl, ha, few, q⟩ := h
  have R : TxSet X.w s.heap a L := (I.hok a _ ha).1
  rw [Vals.ref1 r]
  refine sorted_txs R (I.ok.hd hc) few fun s' p out c ys k g o hp hg hi pm so => ?_
  have hlen : (ys.map V.str).length ≤ sizeLine := by
    rw [List.length_map, pm.length_eq, sizeLine_eq]
    omega
  have hn : H p = none := I.hok.fresh hp
  have nd : ys.Nodup := by
    obtain ⟨_, _, _, _, _, _, _, T⟩ := R
    exact pm.nodup_iff.mpr T.nd
  have J : Inv X pins σ (upd H p (.lst (ys.map V.str))) { s with heap := s'.heap, gens := s'.gens, drawn := s'.drawn, toks := s'.toks } :=
    I.call (ch := []) (Un.laid k hp hn) (I.hok.laid k hp ⟨hlen, out.toList, c, vals_strsAre hi, hg⟩) (by rw [g]; exact I.bare) (fun _ z => nomatch z)
  have e : s' = { s with heap := s'.heap, gens := s'.gens, drawn := s'.drawn, toks := s'.toks } := by
    cases s'
    cases s
    cases o
    rfl
  rw [e]
  exact ⟨.ref p, _, J, rfl, q ys p pm nd so hn⟩
end
end Cx

/-! sorted of a tuple of texts -/
namespace Cx
open PySem PySem.Spec PyProof.Rows L2
section
variable {prog : Program} {w : World} {A : Around} {E : Value → Shared → Prop} {s : Shared}
theorem collect_tup {l : Addr} {vs : List Value} {Q : List Value → Shared → Prop} (hl : s.heap.IsTuple l vs.toArray) (hz : vs.length ≤ sizeLine)
    (h : Q vs { s with heap := (s.heap.push (seqObj "list" #[] 0)).update s.heap.objs.size (Obj.mapSeq (· ++ vs.toArray)) }) : wpAny (model prog w) A (collect (.ref l)) Q E s := by
  obtain ⟨o, ho, hc, n, hd⟩ := id hl
  have ho' : (s.heap.push (seqObj "list" #[] 0)).get? l = some o := Heap.get?_push_of_some _ ho
  unfold collect
  refine wpAny_bind (wpAny_runValue (codeAny_builtin entry_proto_collect' ?_))
  show wpAny _ _ (do again (.builtin "list.__iadd__" ⟨[← newList [], .ref l], []⟩)) _ _ s
  refine wpAny_bind (wpAny_newList (wpAny_pure ⟨Code.quiet_builtin _ (by decide +kernel), codeAny_builtin entry_list_iadd' ?_⟩))
  show wpAny _ _ (Builtin.List.listExtendWith (.ref s.heap.objs.size) (.ref l) (.ref s.heap.objs.size)) _ _ { s with heap := s.heap.push (seqObj "list" #[] 0) }
  unfold Builtin.List.listExtendWith
  refine wpAny_bind (wpAny_typeOf (T := "tuple") ⟨o, ho', hc⟩ ?_)
  have e1 : (Value.type "tuple" == Value.type "tuple") = true := by rfl
  rw [if_pos (by rw [e1, Bool.or_true])]
  refine wpAny_bind (listItems_at ho' hd ?_)
  refine wpAny_bind (listItems_at (xs := #[]) (n := 0) (Heap.get?_push_size _ rfl) rfl ?_)
  rw [if_neg (by simp)]
  refine wpAny_bind (listUpdate_at (xs := #[]) (n := 0) (Heap.get?_push_size _ rfl) rfl ?_ (Nat.zero_le _) (by simp only [Array.size_append, List.size_toArray, List.length_nil]; omega))
  refine wpAny_pure ?_
  show wpAny (model prog w) A (do
      let o ← load s.heap.objs.size
      match o.data with
      | .seq xs _ => pure xs.toList
      | _ => unsupported "internal:collect") Q E { s with heap := (s.heap.push (seqObj "list" #[] 0)).update s.heap.objs.size (Obj.mapSeq (· ++ vs.toArray)) }
  refine wpAny_bind (wpAny_load (get?_update_seq (Heap.get?_push_size _ rfl) _) ?_)
  show wpAny _ _ (pure ((#[] : Array Value) ++ vs.toArray).toList) Q E _
  rw [show ((#[] : Array Value) ++ vs.toArray).toList = vs by simp]
  exact wpAny_pure h
theorem sorted_tupS {l : Addr} {vs : List Value} {ss : List Str} {Q : Value → Shared → Prop} (hl : s.heap.IsTuple l vs.toArray) (hS : StrsAre vs ss) (hz : vs.length ≤ sizeLine)
    (h : ∀ (out : Array Value) (ys : List Str), StrsAre out.toList ys → ys.Perm ss → sortedS ys = true → Q (.ref (s.heap.objs.size + 1)) { s with heap := sortedAll s.heap vs out }) :
    wpAny (model prog w) A (call (.builtin "sorted") [.ref l]) Q E s := by
  refine Calls.call_function_entry kind_sorted plain_sorted entry_sorted (args_sorted1 _) ?_
  unfold Builtin.«sorted»
  refine wpAny_bind (m := checkCount "sorted" 1 1 _) (wpAny_pure ?_)
  refine wpAny_bind (collect_tup hl hz ?_)
  refine wpAny_bind (wpAny_newList ?_ hz)
  have sz : ((s.heap.push (seqObj "list" #[] 0)).update s.heap.objs.size (Obj.mapSeq (· ++ vs.toArray))).objs.size = s.heap.objs.size + 1 := by
    rw [Heap.size_update, size_push']
  have hoL : (((s.heap.push (seqObj "list" #[] 0)).update s.heap.objs.size (Obj.mapSeq (· ++ vs.toArray))).push (seqObj "list" vs.toArray 0)).get? (s.heap.objs.size + 1) = some (seqObj "list" vs.toArray 0) := by
    rw [← sz]
    exact Heap.get?_push_size _ rfl
  show wpAny _ _ _ _ _ { s with heap := ((s.heap.push (seqObj "list" #[] 0)).update s.heap.objs.size (Obj.mapSeq (· ++ vs.toArray))).push (seqObj "list" vs.toArray 0) }
  rw [sz]
  refine wpAny_bind (wpAny_holding (wpAny_call_entry slot_list_sort ⟨_, hoL, rfl⟩ entry_list_sort (list_sort_treeKAny strKind_oneLt hoL hS.keysOf (fun u v rest e => keyKind_strs (by rw [← e]; exact hS)) hz fun st pa sa => ?_) (args_list_sort _)))
  obtain ⟨ys, b1, b2, b3⟩ := sorted_out_str hS pa sa
  exact ⟨_, rfl, wpAny_pure ⟨_, rfl, h _ ys b1 b2 b3⟩⟩
end
/-- sorted(t), t a tuple of texts -/
def rSortTupS (K : PySem.W.Frag) : List V → Hp → VK → Prop := fun vs H Q => ∃ (a : Addr) (xs : List Str), vs = [V.ref a] ∧ SqT K H a (xs.map V.str) ∧
  ∀ (ys : List Str) (p : Addr), ys.Perm xs → sortedS ys = true → H p = none → Q (.ref p) (upd H p (.lst (ys.map V.str)))
section
variable {X : Cx}
theorem cr_sortTupS : CallR X (.builtin "sorted") (rSortTupS X.K) := by
  intro pins s σ H vs us Q I r h
  obtain ⟨a, xs, rfl, hs, q⟩ := h
  obtain ⟨its, rv, hl, hz⟩ := I.tuple hs
  rw [Vals.ref1 r]
  refine sorted_tupS hl rv.strs (by rw [← rv.length]; exact hz) fun out ys h1 h2 h3 => ?_
  obtain ⟨ep, he⟩ := sortedAll_at s.heap its out
  have hlen : (ys.map V.str).length ≤ sizeLine := by
    rw [List.length_map] at hz
    rw [List.length_map, h2.length_eq]
    exact hz
  exact ⟨.ref _, upd H (s.heap.objs.size + 1) (.lst (ys.map V.str)), I.laid (t' := s.toks) (fun _ _ => sortedAll_old) (Nat.le_succ _) ⟨hlen, out.toList, ep, vals_of_strs h1, he⟩, rfl, q ys _ h2 h3 (I.hok.fresh (Nat.le_succ _))⟩
end
end Cx

/-! lists or tuples, whichever; calls by keywords alone -/
namespace Cx
open PySem PySem.Spec PyProof.Rows L2
section
variable {X : Cx} {tg : Expr}
/-- a list or a tuple at x -/
def SeqV (K : PySem.W.Frag) (H : Hp) (x : V) (xs : List V) : Prop := ∃ a, x = .ref a ∧ (SqL K H a xs ∨ SqT K H a xs)
def iSeq (K : PySem.W.Frag) (tl : TE) : TI := fun σ H R => tl σ H fun x H1 => ∃ a, x = .ref a ∧ (((∃ xs, SqL K H1 a xs) ∧ R (Itl K a) H1) ∨ ((∃ xs, SqT K H1 a xs) ∧ R (Itt K a) H1))
theorem pi_seq {l : Expr} {tl : TE} (hl : PE X l tl) : PI X tg l (iSeq X.K tl) := by
  refine ⟨fun pins s σ H R I h => ?_⟩
  refine thn (hl.run pins s σ H _ I h) fun v s1 ⟨x, H1, I1, r1, a, e, q1⟩ => ?_
  subst e
  cases r1
  have one : ∀ b, b ∈ [s1.heap.objs.size] → FpOk X pins H1 b := fun b hb => by
    rw [List.mem_singleton.mp hb]
    exact I1.fpOk (Nat.le_refl _) (I1.hok.fresh (Nat.le_refl _))
  rcases q1 with ⟨⟨xs, hq⟩, q⟩ | ⟨⟨xs, hq⟩, q⟩
  · obtain ⟨its, rv, p, hz⟩ := I1.list hq
    exact wpAny_pyIter_list p.isList ⟨_, [s1.heap.objs.size], _, _, H1, rfl, I1.kept (t' := s1.toks) fun b o e => Heap.get?_push_of_some _ e, turn_list a _, ⟨_, Heap.get?_push_size _ rfl, rfl, rfl⟩, one, q⟩
  · obtain ⟨its, rv, p, hz⟩ := I1.tuple hq
    exact wpAny_pyIter_tuple (show s1.heap.IsTuple a its.toArray from p) ⟨_, [s1.heap.objs.size], _, _, H1, rfl, I1.kept (t' := s1.toks) fun b o e => Heap.get?_push_of_some _ e, turn_tuple a _, ⟨_, Heap.get?_push_size _ rfl, rfl, rfl⟩, one, q⟩
/-- a, b = a list or a tuple of that length -/
def gSeq (K : PySem.W.Frag) (n : Nat) (t : TGs) : TG := fun v σ H Q => ∃ xs, SeqV K H v xs ∧ xs.length = n ∧ t xs σ H Q
theorem pg_seq {es : List Expr} {k n : Nat} {t : TGs} {pos : Pos} (hc : X.calm = true) (h : PGs X es t)
    (hn : (assignEach es X.env).length = n := by rfl) (hst : (assignEach es X.env).findIdx? (·.1) = none := by rfl) : PG X (.Tuple es k pos) (gSeq X.K n t) := by
  refine ⟨fun pins s σ H v u Q I r hw => ?_⟩
  obtain ⟨xs, ⟨a, e, hq⟩, hl, q⟩ := hw
  rcases hq with hq | hq
  · exact (pg_unl hc h hn hst).run pins s σ H v u Q I r ⟨a, xs, e, hq, hl, q⟩
  · exact (pg_tup hc h hn hst).run pins s σ H v u Q I r ⟨a, xs, e, hq, hl, q⟩
/-- what a comprehension over J asks -/
def LcR (g : TG) (tt : TT) (te : TE) (vs : List Nat) (σ : L2.St) (Q : VK) : It → Hp → Prop := fun J H1 => ∀ D, H1 D = none → ∃ W : Nat → Nat → Hp → Prop, (∃ m, W 0 m (upd H1 D (.lst []))) ∧ ∀ i m H, W i m H →
  (J.stop i H ∧ Q (.ref D) H) ∨ (J.go i H ∧ ∃ Nx : Hp → Prop, (∀ H', Nx H' → ∃ m', m' < m ∧ W (i + 1) m' H') ∧ ∀ x H', J.yld i H x H' → g x (wipe σ vs) H' fun σ2 H2 => wipe σ2 vs = wipe σ vs ∧ tt σ2 H2 fun b H3 =>
    if b = true then te σ2 H3 fun y H4 => ∃ acc, H4 D = some (.lst acc) ∧ acc.length < sizeLine ∧ Nx (upd H4 D (.lst (acc ++ [y]))) else Nx H3)
/-- it stands as it stood -/
def Stays (K : PySem.W.Frag) (H1 H : Hp) (x : V) (xs : List V) : Prop := ∀ a, x = .ref a → (SqL K H1 a xs → SqL K H a xs) ∧ (SqT K H1 a xs → SqT K H a xs)
/-- what a comprehension asks of x, a list or a tuple -/
def LcA (K : PySem.W.Frag) (g : TG) (tt : TT) (te : TE) (vs : List Nat) (σ : L2.St) (Q : VK) (x : V) (H1 : Hp) : Prop :=
  ∃ a, x = .ref a ∧ (((∃ ys, SqL K H1 a ys) ∧ LcR g tt te vs σ Q (Itl K a) H1) ∨ ((∃ ys, SqT K H1 a ys) ∧ LcR g tt te vs σ Q (Itt K a) H1))
def tLcA (K : PySem.W.Frag) (wi : TE) (g : TG) (tt : TT) (te : TE) (vs : List Nat) : TE := fun σ H Q => wi σ H fun x H1 => LcA K g tt te vs σ Q x H1
theorem lc_any {K : PySem.W.Frag} {x : V} {xs : List V} {g : TG} {tt : TT} {te : TE} {vs : List Nat} {σ : L2.St} {H0 H1 : Hp} {Q : VK} (hx : SeqV K H0 x xs) (h01 : Stays K H0 H1 x xs) (Pv : Addr → Nat → Hp → Prop)
    (h0 : ∀ D, H1 D = none → Pv D 0 (upd H1 D (.lst []))) (hl : ∀ D i H, H1 D = none → Pv D i H → Stays K H0 H x xs)
    (hs : ∀ D i y H, H1 D = none → xs[i]? = some y → Pv D i H → g y (wipe σ vs) H fun σ2 H2 => wipe σ2 vs = wipe σ vs ∧ tt σ2 H2 fun b H3 =>
      if b = true then te σ2 H3 fun z H4 => ∃ acc, H4 D = some (.lst acc) ∧ acc.length < sizeLine ∧ Pv D (i + 1) (upd H4 D (.lst (acc ++ [z]))) else Pv D (i + 1) H3)
    (hd : ∀ D H, H1 D = none → Pv D xs.length H → Q (.ref D) H) : LcA K g tt te vs σ Q x H1 := by
  obtain ⟨a, e, hq⟩ := hx
  subst e
  refine ⟨a, rfl, ?_⟩
  rcases hq with hq | hq
  · exact .inl ⟨⟨xs, (h01 a rfl).1 hq⟩, fun D nD => lc_list (K := K) (a := a) (xs := xs) (Pv D) (h0 D nD) (fun i H _ q => (hl D i H nD q a rfl).1 hq) (fun i y H hy q => hs D i y H nD hy q) fun H q => hd D H nD q⟩
  · exact .inr ⟨⟨xs, (h01 a rfl).2 hq⟩, fun D nD => lc_tup (K := K) (a := a) (xs := xs) (Pv D) (h0 D nD) (fun i H _ q => (hl D i H nD q a rfl).2 hq) (fun i y H hy q => hs D i y H nD hy q) fun H q => hd D H nD q⟩
theorem pe_lcA {elt tg iter : Expr} {ifs : List Expr} {scope : Scope} {own : List (Str × Nat)} {pos : Pos} {wi : TE} {g : TG} {tt : TT} {te : TE} (hc : X.calm = true) (hN : X.N.Nodup) (hi : PE X iter wi) (ok : BlkOk X.N X.env.scope scope own)
    (hg : ∀ (s : Shared) (H : Hp) (C : Addr) (cl : List (Str × Addr)) (fp : List Addr), PG (X.blk s H scope (compEnvC scope cl C X.env) fp) tg g) (ht : ∀ (s : Shared) (H : Hp) (C : Addr) (cl : List (Str × Addr)) (fp : List Addr), PTs (X.blk s H scope (compEnvC scope cl C X.env) fp) ifs tt)
    (he : ∀ (s : Shared) (H : Hp) (C : Addr) (cl : List (Str × Addr)) (fp : List Addr), PE (X.blk s H scope (compEnvC scope cl C X.env) fp) elt te) (hs : ∀ x, foldedSetIterable iter X.env x = pure x := by intro _; rfl) :
    PE X (.ListComp elt [⟨tg, iter, ifs, 0⟩] scope pos) (tLcA X.K wi g tt te (own.map (·.2))) := pe_lc hc hN (pi_seq hi) ok hg ht he hs
theorem ps_setLcA {i : Nat} {y : Str} {py : Pos} {elt tg iter : Expr} {ifs : List Expr} {scope : Scope} {own : List (Str × Nat)} {pos spos : Pos} {wi : TE} {g : TG} {tt : TT} {te : TE} (hc : X.calm = true) (hN : X.N.Nodup) (hy : X.N[i]? = some y) (hyl : X.env.scope.names.lookup y = some .local)
    (hsw : swapsWith (.ListComp elt [⟨tg, iter, ifs, 0⟩] scope pos) (some (.Name y py)) spos.line X.env = pure true) (hi : PE X iter wi) (ok : BlkOk X.N X.env.scope scope own)
    (hg : ∀ (s : Shared) (H : Hp) (C : Addr) (cl : List (Str × Addr)) (fp : List Addr), PG (X.blk s H scope (compEnvC scope cl C X.env) fp) tg g) (ht : ∀ (s : Shared) (H : Hp) (C : Addr) (cl : List (Str × Addr)) (fp : List Addr), PTs (X.blk s H scope (compEnvC scope cl C X.env) fp) ifs tt)
    (he : ∀ (s : Shared) (H : Hp) (C : Addr) (cl : List (Str × Addr)) (fp : List Addr), PE (X.blk s H scope (compEnvC scope cl C X.env) fp) elt te) (hs : ∀ x, foldedSetIterable iter X.env x = pure x := by intro _; rfl) :
    PS X (.Assign [.Name y py] (.ListComp elt [⟨tg, iter, ifs, 0⟩] scope pos) spos) (tAsg (tLcA X.K wi g tt te (own.map (·.2))) (gName i)) := ps_setLc hc hN hy hyl hsw (pi_seq hi) ok hg ht he hs
end
section
variable {X : Cx} {CX : CXT} {k : Nat} {f : Addr} {fd : FuncData} {ps ks : List Str} {sp : Sp} {E : XK} {x : Str} {p pos : Pos} {kws : List Keyword} {tk : TA} {g : List Value → List Value → List Value} {gV : List V → List V → List V}
/-- f(k = v, ..), no positional argument -/
def tCallK0 (sp : Sp) (gV : List V → List V → List V) (E : XK) (tk : TA) : TE := fun σ H Q => tk σ H fun zs H2 => sp (gV [] zs) H2 Q E
theorem pe_callK0 (F : FnOk X.prog X.w X.K X.mg X.base CX k f fd ps sp) (hr : Room k X.A) (hg : Gl X x) (hm : X.mg x = some (.ref f)) (hk : PySem.W.keepIn X.K (.ref f) = true) (hb : KBinds X.K fd ps ks g gV) (hx : Passes CX X E)
    (hkw : PK X kws tk) (hall : (backToKw pos (keywordEach kws X.env)).all (·.1.isSome) = true := by rfl) (hks : (backToKw pos (keywordEach kws X.env)).filterMap (·.1) = ks := by rfl) (hdb : (x == ("__debug__" : Str)) = false := by decide)
    (hpl : ((backTo pos (starEach [] X.env)).any (·.1) || (backToKw pos (keywordEach kws X.env)).any (·.1.isNone)) = false := by rfl) : PE X (.Call (.Name x p) [] kws pos) (tCallK0 sp gV E tk) := by
  refine ⟨fun pins s σ H Q I h => ?_⟩
  refine wpAny_Call_Name_kw (ld_glob I hg hm ?_ hdb)
  refine PySem.W.callWith_KW0 (h₀ := X.base) I.ok.mod.kin hk hall (thn (hkw.run pos pins s σ H _ I h) fun ws s2 ⟨zs, H2, I2, rz, q2⟩ => ⟨I2.kIn, ?_⟩) hpl
  rw [hks]
  exact run_fnk (us := []) (vs := []) F hr hb hx I2 .nil rz q2
/-- one parameter, handed over by its name -/
def oneK {α : Type} : List α → List α → List α
  | [], zs => zs
  | _ :: _, _ => []
theorem kbind1 {K : PySem.W.Frag} {fd : FuncData} {x : Str} (h : ∀ u : Value, bindArgs fd ⟨[], [(x, u)]⟩ = pure [(x, u)]) : KBinds K fd [x] [x] oneK oneK where
  to := fun s us ws _ hl => by
    match us, ws, hl with
    | [], [w], _ => exact .of_eq (h w)
  rel := fun r rz => by
    cases r with
    | nil => exact rz
    | cons _ _ => exact .nil
end
end Cx

/-! sorted of pairs of texts -/
namespace Cx
open PySem PySem.Spec PyProof.Rows L2
/-- pairs of texts in Python's order -/
def pLt (a b : Str × Str) : Bool := if a.1 = b.1 then sLt a.2 b.2 else sLt a.1 b.1
theorem sLt_irr (a : Str) : sLt a a = false := decide_eq_false (List.lt_irrefl _)
theorem sLt_tot {a b : Str} (h1 : sLt a b = false) (h2 : sLt b a = false) : a = b := str_ext (List.le_antisymm (List.not_lt.mp (of_decide_eq_false h2)) (List.not_lt.mp (of_decide_eq_false h1)))
theorem sLt_asym {a b : Str} (h : sLt a b = true) : sLt b a = false := decide_eq_false (List.lt_asymm (of_decide_eq_true h))
theorem sLt_neg {a b c : Str} (h1 : sLt a b = false) (h2 : sLt b c = false) : sLt a c = false :=
  decide_eq_false (List.not_lt.mpr (List.le_trans (List.not_lt.mp (of_decide_eq_false h2)) (List.not_lt.mp (of_decide_eq_false h1))))
theorem pLt_asym {a b : Str × Str} (h : pLt a b = true) : pLt b a = false := by
  unfold pLt at h ⊢
  by_cases e : a.1 = b.1
  · rw [if_pos e] at h
    rw [if_pos e.symm]
    exact sLt_asym h
  · rw [if_neg e] at h
    rw [if_neg fun z => e z.symm]
    exact sLt_asym h
theorem pLt_neg {a b c : Str × Str} (h1 : pLt a b = false) (h2 : pLt b c = false) : pLt a c = false := by
  unfold pLt at h1 h2 ⊢
  by_cases e : a.1 = b.1
  · rw [if_pos e] at h1
    rw [← e] at h2
    by_cases f : a.1 = c.1
    · rw [if_pos f] at h2 ⊢
      exact sLt_neg h1 h2
    · rw [if_neg f] at h2 ⊢
      exact h2
  · rw [if_neg e] at h1
    by_cases f : b.1 = c.1
    · rw [← f, if_neg e]
      exact h1
    · rw [if_neg f] at h2
      have h3 := sLt_neg h1 h2
      by_cases g : a.1 = c.1
      · rw [← g] at h2
        exact absurd (sLt_tot h1 h2) e
      · rw [if_neg g]
        exact h3
theorem pLt_swo {α : Type} (k : α → Str × Str) : SrtO.Swo fun x y => pLt (k x) (k y) := ⟨fun _ _ h => pLt_asym h, fun _ _ _ h1 h2 => pLt_neg h2 h1⟩
theorem pLt_tot {a b : Str × Str} (h1 : pLt a b = false) (h2 : pLt b a = false) : a = b := by
  unfold pLt at h1 h2
  by_cases e : a.1 = b.1
  · rw [if_pos e] at h1
    rw [if_pos e.symm] at h2
    exact Prod.ext e (sLt_tot h1 h2)
  · rw [if_neg e] at h1
    rw [if_neg fun z => e z.symm] at h2
    exact absurd (sLt_tot h1 h2) e
/-- a tuple of two texts -/
def PairV (h : Heap) (v : Value) (n : Str × Str) : Prop :=
  ∃ a o t1 t2 c, v = Value.ref a ∧ h.get? a = some o ∧ o.cls = .type "tuple" ∧ o.data = .seq #[Value.str n.1 t1, Value.str n.2 t2] c
theorem PairV.keeps {h h' : Heap} {v : Value} {n : Str × Str} (x : PairV h v n) (k : ∀ b o, h.get? b = some o → o.cls = .type "tuple" → h'.get? b = some o) : PairV h' v n := by
  obtain ⟨a, o, t1, t2, c, e, ho, hc, hd⟩ := x
  exact ⟨a, o, t1, t2, c, e, k a o ho hc, hc, hd⟩
section
variable {prog : Program} {w : World} {A : Around} {E : Value → Shared → Prop} {s : Shared}
theorem pairs_cmp {vs : List Value} {k : Value → Str × Str} (hp : ∀ v ∈ vs, PairV s.heap v (k v)) :
    SrtO.Cmp prog w A s (tuples' true) (fun p => p.1 ∈ vs) (SrtO.lt2 fun v u => pLt (k v) (k u)) := by
  intro p q hm hm'
  have h1 := hp _ hm
  have h2 := hp _ hm'
  show wpAny (model prog w) A (keyLt' (tuples' true) p.1 q.1) (fun r s' => s' = s ∧ r = pLt (k p.1) (k q.1)) (fun _ _ => False) s
  generalize k p.1 = x at h1 ⊢
  generalize k q.1 = y at h2 ⊢
  obtain ⟨x1, x2⟩ := x
  obtain ⟨y1, y2⟩ := y
  obtain ⟨a, o, t1, t2, c1, e, ho, _, hd⟩ := h1
  obtain ⟨b, o2, t3, t4, c2, e', ho', _, hd'⟩ := h2
  rw [e, e']
  refine PySem.W.kat_lt ho hd ho' hd' ?_
  show PySem.W.KatLex prog w A true (decide (2 < 2)) _ [(Value.str x1 t1, Value.str y1 t3), (Value.str x2 t2, Value.str y2 t4)] 0 s
  refine PySem.W.kat_cons (SeqAt.EqAt.str_str x1 t1 y1 t3 prog w _ _ ?_)
  refine PySem.W.kat_go (fun e1 => ?_) (fun e1 => ?_)
  · have ex : x1 = y1 := by simpa using e1
    subst ex
    refine PySem.W.kat_yes (PySem.W.kat_cons (SeqAt.EqAt.str_str x2 t2 y2 t4 prog w _ _ ?_))
    refine PySem.W.kat_go (fun e2 => ?_) (fun e2 => ?_)
    · have ey : x2 = y2 := by simpa using e2
      subst ey
      refine PySem.W.kat_yes (PySem.W.kat_nil ⟨rfl, ?_⟩)
      show false = pLt (x1, x2) (x1, x2)
      unfold pLt
      rw [if_pos rfl]
      exact (sLt_irr _).symm
    · refine PySem.W.kat_no (PySem.W.kat_one _ _ (PySem.P.lt_str ⟨rfl, ?_⟩))
      show decide (x2.cps.toList < y2.cps.toList) = pLt (x1, x2) (x1, y2)
      unfold pLt
      rw [if_pos rfl]
      rfl
  · have ex : x1 ≠ y1 := by simpa using e1
    refine PySem.W.kat_no (oneLt_str ⟨rfl, ?_⟩)
    show decide (x1.cps.toList < y1.cps.toList) = pLt (x1, x2) (y1, y2)
    unfold pLt
    rw [if_neg ex]
    rfl
theorem pairs_firsts {h : Heap} : ∀ {vs : List Value}, (∀ v ∈ vs, ∃ n, PairV h v n) → ∃ fs, PySem.W.KatTups h vs fs ∧ fs.length = vs.length ∧ ∀ f ∈ fs, ∃ x u, f = Value.str x u
  | [], _ => ⟨[], PySem.W.KatTups.nil, rfl, fun _ q => nomatch q⟩
  | v :: vs, hv => by
    obtain ⟨n, a, o, tk, t2, c, e, ho, hc, hd⟩ := hv v List.mem_cons_self
    obtain ⟨fs, h1, h2, h3⟩ := pairs_firsts (vs := vs) fun u hu => hv u (List.mem_cons_of_mem _ hu)
    subst e
    refine ⟨Value.str n.1 tk :: fs, PySem.W.KatTups.cons ho hc hd rfl h1, congrArg (· + 1) h2, fun f hf => ?_⟩
    rcases List.mem_cons.mp hf with q | q
    · exact ⟨n.1, tk, q⟩
    · exact h3 f q
theorem pairs_sortable {a : Addr} {vs : List Value} {k : Value → Str × Str} (h0 : 0 < vs.length) (hp : ∀ v ∈ vs, PairV s.heap v (k v))
    (ha : ∀ o, s.heap.get? a = some o → o.cls ≠ .type "tuple") : SrtO.SortableO prog w A s a vs fun v u => pLt (k v) (k u) := by
  intro h' keep
  have hp' : ∀ v ∈ vs, PairV h' v (k v) := fun v hm => (hp v hm).keeps fun b o e c => keep b o (fun z => ha o (z ▸ e) c) e
  obtain ⟨fs, h1, h2, h3⟩ := pairs_firsts fun v hm => ⟨_, hp' v hm⟩
  refine ⟨tuples' true, fun Q E hq => ?_, pairs_cmp hp'⟩
  refine PySem.W.kat_kind (T := .type "str") h1 (by omega) (fun f hm => ?_) (by rfl) ?_
  · obtain ⟨x, u, rfl⟩ := h3 f hm
    exact PySem.W.Looks.now
  · have e : (Value.type "str" != Value.type "tuple") = true := by decide +kernel
    rw [e]
    exact hq
theorem sorted_pairs {l : Addr} {vs : List Value} {k : Value → Str × Str} {Q : Value → Shared → Prop} (hl : s.heap.IsList l vs.toArray) (hz : vs.length ≤ sizeLine) (hp : ∀ v ∈ vs, PairV s.heap v (k v))
    (h : ∀ (h' : Heap) (d : Addr) (out : List Value), SrtO.Srtd (fun v u => pLt (k v) (k u)) out → out.Perm vs → (∀ b o, s.heap.get? b = some o → h'.get? b = some o) → s.heap.objs.size ≤ d → (∃ n, h'.get? d = some (seqObj "list" out.toArray n)) → Q (.ref d) { s with heap := h' }) :
    wpAny (model prog w) A (call (.builtin "sorted") [.ref l]) Q E s := by
  refine SrtO.sorted_ord (pLt_swo k) hl hz (fun h2 g a ha kk => ?_) fun out hs hb => ?_
  · refine pairs_sortable (s := { s with heap := g }) (by omega) (fun v hm => (hp v hm).keeps fun b o e _ => (kk b o e).2) fun o e => ?_
    have e' : some o = some (seqObj "list" vs.toArray 0) := e.symm.trans ha
    cases e'
    intro c
    exact absurd (Value.type.inj c) (by decide)
  · exact h _ _ out hs hb.perm (fun b o e => sortedAll_old e) (Nat.le_succ _) (sortedAll_at s.heap vs out.toArray)
end
/-- sorted(xs) of pairs of texts: a new list, rising -/
def rSortedPr (K : PySem.W.Frag) : List V → Hp → VK → Prop := fun vs H Q => ∃ (a : Addr) (xs : List V) (k : V → Str × Str), vs = [V.ref a] ∧ SqL K H a xs ∧
  (∀ x ∈ xs, ∃ p, x = V.ref p ∧ H p = some (.tup [.str (k x).1, .str (k x).2])) ∧
  ∀ ys p, ys.Perm xs → ys.Pairwise (fun x y => pLt (k y) (k x) = false) → H p = none → Q (.ref p) (upd H p (.lst ys))
section
variable {X : Cx}
theorem cr_sortedPr : CallR X (.builtin "sorted") (rSortedPr X.K) := by
  intro pins s σ H vs us Q I r h
  obtain ⟨a, xs, k, rfl, hs, hx, q⟩ := h
  obtain ⟨its, rv, hl, hz⟩ := I.list hs
  obtain ⟨u, rfl, ru⟩ := vals1 r
  obtain rfl : u = Value.ref a := ru
  obtain ⟨e1, e2⟩ := refs_back rv fun x m => by
    obtain ⟨p, e, _⟩ := hx x m
    exact ⟨p, e⟩
  have inn : ∀ v ∈ its, backV v ∈ xs := fun v hv => by
    rw [e1]
    exact List.mem_map.mpr ⟨v, hv, rfl⟩
  refine sorted_pairs (k := fun u => k (backV u)) hl.isList (by rw [← rv.length]; exact hz) (fun v hv => ?_) fun h' d out h1 h2 kp hd hn => ?_
  · obtain ⟨p, rfl⟩ := e2 v hv
    obtain ⟨p', e, ht⟩ := hx _ (inn _ hv)
    cases e
    obtain ⟨_, its2, r2, o, ho, hc, n, hd⟩ := I.hok _ _ ht
    obtain ⟨u1, u2, rfl, ri, rj⟩ := vals2 r2
    obtain ⟨t1, rfl⟩ := ri
    obtain ⟨t2, rfl⟩ := rj
    exact ⟨p, o, t1, t2, n, rfl, ho, hc, hd⟩
  · have h3 : ∀ u ∈ out, ∃ a, u = Value.ref a := fun u hu => e2 u (h2.mem_iff.mp hu)
    obtain ⟨n, hn⟩ := hn
    have hb : (out.map backV).Perm xs := by
      rw [e1]
      exact h2.map backV
    refine ⟨.ref d, upd H d (.lst (out.map backV)), I.laid (t' := s.toks) kp hd ⟨?_, out, n, vals_back h3, hn⟩, rfl, q _ d hb (List.pairwise_map.mpr h1) (I.hok.fresh hd)⟩
    rw [hb.length_eq]
    exact hz
end
end Cx

/-! sorted of a text -/
namespace Cx
open PySem PySem.Spec PyProof.Rows L2
/-- the signs of a text, each a text -/
def sgn (z : Str) : List Str := z.cps.toList.map fun c => ⟨#[c]⟩
theorem strs_signs {acc : Array Value} {z : Str} (h : ItemsOf (SignAt z) acc z.cps.size) : StrsAre acc.toList (sgn z) := by
  have key : ∀ (l : List Value) (cs : List Nat), l.length = cs.length → (∀ (i : Nat) (v : Value), l[i]? = some v → ∃ (c : Nat) (u : Tok), cs[i]? = some c ∧ v = Value.str ⟨#[c]⟩ u) → StrsAre l (cs.map fun c => (⟨#[c]⟩ : Str)) := by
    intro l
    induction l with
    | nil =>
      intro cs hl _
      cases cs with
      | nil => exact .nil
      | cons c cs => cases hl
    | cons v l ih =>
      intro cs hl hi
      cases cs with
      | nil => cases hl
      | cons c cs =>
        obtain ⟨c', u, e1, e2⟩ := hi 0 v rfl
        have e1' : c = c' := Option.some.inj e1
        subst e1'
        subst e2
        exact .cons _ u (ih cs (Nat.succ.inj hl) fun i v e => hi (i + 1) v e)
  refine key acc.toList z.cps.toList (by rw [Array.length_toList, Array.length_toList]; exact h.1) fun i v e => ?_
  rw [Array.getElem?_toList] at e
  obtain ⟨c, u, e1, e2⟩ := h.2 i v e
  exact ⟨c, u, by rw [Array.getElem?_toList]; exact e1, e2⟩
section
variable {P : Program} {w : World} {A : Around} {E : Value → Shared → Prop} {s : Shared}
theorem collect_sgn {z : Str} {t : Tok} {Q : List Value → Shared → Prop} (hh : A.handled = none) (few : z.cps.size ≤ 1000)
    (q : ∀ s1 acc, (∀ b o, s.heap.get? b = some o → s1.heap.get? b = some o) → s.heap.objs.size ≤ s1.heap.objs.size → s1.gens = s.gens → s1.os = s.os → ItemsOf (SignAt z) acc z.cps.size → Q acc.toList s1) : wpAny (model P w) A (collect (.str z t)) Q E s := by
  have fits : z.cps.size ≤ sizeLine := by rw [sizeLine_eq]; omega
  unfold collect; refine wpAny_bind (wpAny_runValue (codeAny_builtin F.entry_proto_collect ?_)); rw [Around.under_plainId F.plain_proto_collect _]
  show wpAny _ A.in1 (do let l0 ← newList []; again (.builtin "list.__iadd__" ⟨[l0, .str z t], []⟩)) _ _ s
  refine wpAny_bind (wpAny_newObj_type ?_); refine wpAny_pure ⟨plainId_quiet F.plain_list_iadd _, codeAny_builtin F.entry_list_iadd ?_⟩; rw [Around.under_plainId F.plain_list_iadd _]
  show wpAny _ A.in1 (Builtin.List.listExtendWith (.ref s.heap.objs.size) (.str z t) (.ref s.heap.objs.size)) _ _ _
  unfold Builtin.List.listExtendWith; refine wpAny_bind (wpAny_typeOf (T := "str") (v := .str z t) rfl ?_)
  have b2 : Builtin.List.listSameRef (.ref s.heap.objs.size) (.str z t) = false := rfl
  have b3 : (Value.type "str" == Value.type "list") = false := by decide +kernel
  have b4 : (Value.type "str" == Value.type "tuple") = false := by decide +kernel
  simp only [b2, b3, b4, Bool.or_false, Bool.false_eq_true, if_false]
  refine wpAny_bind (wpAny_pyIter_str fun it St W st0 => wpAny_bind (wpAny_holding ?_))
  unfold Builtin.List.listLengthHint; refine wpAny_bind (wpAny_specialOf (T := "str") (v := .str z t) rfl F.str_len ?_)
  wp_delta
  refine wpAny_bind (wpAny_isInstance (T := "str") (v := .str z t) (b := true) rfl (by rw [isSubtype_type]; kernel_rfl) ?_)
  show wpAny _ A.in1 (typeOf (Value.str z t) >>= _) _ _ _
  refine wpAny_bind (wpAny_typeOf (T := "str") (v := .str z t) rfl (wpAny_pure ?_)); rw [if_neg (by decide)]
  generalize hG : s.heap.push { cls := .type "list", data := .seq ([] : List Value).toArray } = G at W st0 ⊢
  have sz : G.objs.size = s.heap.objs.size + 1 := by rw [← hG, Heap.size_push]
  have nS : s.heap.objs.size ∉ [G.objs.size] := fun hm => absurd (List.mem_singleton.mp hm) (by omega)
  have atS : (G.push it).get? s.heap.objs.size = some { cls := .type "list", data := .seq ([] : List Value).toArray } := Heap.get?_push_of_some _ (hG ▸ Heap.get?_push_size _ rfl)
  refine wpAny_pure ⟨plainId_quiet F.plain_extend_loop _, codeAny_extend_loopS (W A.in1 hh).toS fits _ nS _ z.cps.size 0 _ _ _ rfl (Nat.zero_le _) st0 atS (ItemsOf.nil _) fun s1 acc c1 mv at1 items => ?_⟩
  show wpAny _ A (load s.heap.objs.size >>= _) _ _ s1
  refine wpAny_bind (wpAny_load at1 (wpAny_pure (q s1 acc (fun b ob e => mv.heap b ob (fun hb => ?_) (Heap.get?_push_of_some _ (hG ▸ Heap.get?_push_of_some _ e))) (Nat.le_of_lt (Heap.lt_size at1)) mv.gens mv.os items)))
  have lt := Heap.lt_size e
  rcases List.mem_cons.mp hb with h | h
  · rw [h] at lt
    exact absurd lt (Nat.lt_irrefl _)
  · rw [List.mem_singleton.mp h, sz] at lt
    exact absurd lt (Nat.not_lt.mpr (Nat.le_succ _))
theorem sorted_sgn {z : Str} {t : Tok} {Q : Value → Shared → Prop} (hh : A.handled = none) (few : z.cps.size ≤ 1000)
    (hQ : ∀ s' p (out : Array Value) (c : Nat) (ys : List Str), (∀ b o, s.heap.get? b = some o → s'.heap.get? b = some o) → s'.gens = s.gens → s'.os = s.os → s.heap.objs.size ≤ p →
      s'.heap.get? p = some (seqObj "list" out c) → StrsAre out.toList ys → ys.Perm (sgn z) → sortedS ys = true → Q (.ref p) s') :
    wpAny (model P w) A (call (.builtin "sorted") [.str z t]) Q E s := by
  refine Calls.call_function_entry kind_sorted plain_sorted entry_sorted (args_sorted1 _) ?_
  unfold Builtin.«sorted»
  refine wpAny_bind (m := checkCount "sorted" 1 1 _) (wpAny_pure ?_)
  refine wpAny_bind (collect_sgn (A := A.in1) hh few fun s1 acc k1 z1 g1 o1 items => ?_)
  have hst := strs_signs items
  have hvl : acc.toList.length = z.cps.size := by
    rw [Array.length_toList]
    exact items.1
  refine wpAny_bind (wpAny_newList ?_ (by rw [hvl, sizeLine_eq]; omega))
  have hoL : (s1.heap.push (seqObj "list" acc.toList.toArray 0)).get? s1.heap.objs.size = some (seqObj "list" acc.toList.toArray 0) := Heap.get?_push_size _ rfl
  refine wpAny_bind (wpAny_holding (wpAny_call_entry slot_list_sort ⟨_, hoL, rfl⟩ entry_list_sort (list_sort_treeKAny strKind_oneLt hoL hst.keysOf (fun u v rest e => keyKind_strs (by rw [← e]; exact hst)) (by rw [hvl, sizeLine_eq]; omega) fun st pa sa => ?_) (args_list_sort _)))
  obtain ⟨ys, b1, b2, b3⟩ := sorted_out_str hst pa sa
  refine ⟨_, rfl, ?_⟩
  obtain ⟨c, hc⟩ := sortedHeap_at (vs := acc.toList) (out := (arrOf st).map (·.2)) hoL
  refine wpAny_pure ⟨_, rfl, hQ _ s1.heap.objs.size _ c ys (fun b u e => ?_) g1 o1 z1 hc b1 b2 b3⟩
  have q := k1 b u e
  have lt := Heap.lt_size q
  show (sortedHeap (s1.heap.push (seqObj "list" acc.toList.toArray 0)) s1.heap.objs.size acc.toList _).get? b = some u
  rw [sortedHeap_old (Nat.ne_of_lt lt) (by rw [size_push']; exact Nat.lt_succ_of_lt lt)]
  exact Heap.get?_push_of_some _ q
end
/-- sorted(z), z a text -/
def rSortSg : List V → Hp → VK → Prop := fun vs H Q => ∃ z : Str, vs = [V.str z] ∧ z.cps.size ≤ 1000 ∧ ∀ (ys : List Str) (p : Addr), ys.Perm (sgn z) → sortedS ys = true → H p = none → Q (.ref p) (upd H p (.lst (ys.map V.str)))
section
variable {X : Cx}
theorem cr_sortSg (hc : X.calm = true) : CallR X (.builtin "sorted") rSortSg := by
  intro pins s σ H vs us Q I r h
  obtain ⟨z, rfl, few, q⟩ := h
  obtain ⟨u, rfl, ru⟩ := vals1 r
  obtain ⟨tk, rfl⟩ := ru
  refine sorted_sgn (I.ok.hd hc) few fun s' p out c ys k g o hp hg hi pm so => ?_
  have hlen : (ys.map V.str).length ≤ sizeLine := by
    have e : (sgn z).length = z.cps.size := by
      unfold sgn
      rw [List.length_map, Array.length_toList]
    rw [List.length_map, pm.length_eq, e, sizeLine_eq]
    omega
  have hn : H p = none := I.hok.fresh hp
  have J : Inv X pins σ (upd H p (.lst (ys.map V.str))) { s with heap := s'.heap, gens := s'.gens, drawn := s'.drawn, toks := s'.toks } :=
    I.call (ch := []) (Un.laid k hp hn) (I.hok.laid k hp ⟨hlen, out.toList, c, vals_strsAre hi, hg⟩) (by rw [g]; exact I.bare) (fun _ z => nomatch z)
  have e : s' = { s with heap := s'.heap, gens := s'.gens, drawn := s'.drawn, toks := s'.toks } := by
    cases s'
    cases s
    cases o
    rfl
  rw [e]
  exact ⟨.ref p, _, J, rfl, q ys p pm so hn⟩
theorem cr_or {c : Value} {r1 r2 : List V → Hp → VK → Prop} (h1 : CallR X c r1) (h2 : CallR X c r2) : CallR X c (fun xs H Q => r1 xs H Q ∨ r2 xs H Q) := by
  intro pins s σ H vs us Q I r h
  rcases h with h | h
  · exact h1 pins s σ H vs us Q I r h
  · exact h2 pins s σ H vs us Q I r h
theorem pi_or {tg l : Expr} {w1 w2 : TI} (h1 : PI X tg l w1) (h2 : PI X tg l w2) : PI X tg l (fun σ H R => w1 σ H R ∨ w2 σ H R) := ⟨fun pins s σ H R I h => h.elim (h1.run pins s σ H R I) (h2.run pins s σ H R I)⟩
end
end Cx

namespace Cx
open PySem PySem.Spec PyProof.Rows L2
def topS (i : Nat) : Stmt := PySem.Challenge.pw_crosshomes_k16_who_suits_whom.main.body.getD i (.Pass ⟨0, 0, 0, 0⟩)
abbrev sMust : Stmt := topS 3
abbrev sHouseholds : Stmt := topS 4
abbrev sWishes : Stmt := topS 5
abbrev sSuited : Stmt := topS 6
abbrev sSuiting : Stmt := topS 8
abbrev sBox : Stmt := topS 10
abbrev sTake : Stmt := topS 11
abbrev sCells : Stmt := topS 12
abbrev sLists : Stmt := topS 13
abbrev sSame : Stmt := topS 14
abbrev sFew : Stmt := topS 15
abbrev sMixed : Stmt := topS 16
abbrev sTome : Stmt := topS 17
abbrev sFolk : Stmt := topS 18
abbrev sWants : Stmt := topS 19
abbrev sSuits : Stmt := topS 20
abbrev sSix : Stmt := topS 21
abbrev sLinked : Stmt := topS 22
abbrev sKite : Stmt := topS 23
abbrev sWoven : Stmt := topS 24
abbrev sApart : Stmt := topS 25
abbrev sByHand : Stmt := topS 26
abbrev sRight : Stmt := topS 27
abbrev sLaw : Stmt := topS 28
theorem Stays.of {K : PySem.W.Frag} {H1 H : Hp} {x : V} {xs : List V} (s : Same H1 H) : Stays K H1 H x xs := fun _ _ => ⟨fun h => s.seq h, fun h => by
  rcases h with (h | ⟨o, h⟩) | h
  · exact .inl (.inl (s _ _ h))
  · exact .inl (.inr ⟨o, s _ _ h⟩)
  · exact .inr h⟩
theorem st_tup {K : PySem.W.Frag} {H H' : Hp} {a : Addr} {xs : List V} (e : Same H H') (h : SqT K H a xs) : SqT K H' a xs := by
  rcases h with (h | ⟨o, h⟩) | h
  · exact .inl (.inl (e _ _ h))
  · exact .inl (.inr ⟨o, e _ _ h⟩)
  · exact .inr h
theorem st_sv {K : PySem.W.Frag} {H H' : Hp} {x : V} {xs : List V} (e : Same H H') (h : SeqV K H x xs) : SeqV K H' x xs := by
  obtain ⟨a, rfl, h⟩ := h
  exact ⟨a, rfl, h.imp (fun z => e.seq z) fun z => st_tup e z⟩
theorem same_new {H : Hp} {p : Addr} {o : HO} (h : H p = none) : Same H (upd H p o) := fun b x e => by
  rw [upd_ne (ne_of_none e h)]
  exact e
/-! ### what a sheet is, of lists or tuples -/
def RowsV (K : PySem.W.Frag) (H : Hp) : List V → List (Str × List Str) → Prop := Paired fun v q => ∃ w, SeqV K H v [.str q.1, w] ∧ SeqV K H w (q.2.map V.str)
structure ShV (K : PySem.W.Frag) (H : Hp) (x : V) (rs : List (Str × List Str)) (es : List Str) : Prop where
  ex : ∃ r e rows, SeqV K H x [r, e] ∧ SeqV K H r rows ∧ RowsV K H rows rs ∧ SeqV K H e (es.map V.str)
theorem RowsV.at {K : PySem.W.Frag} {H : Hp} : ∀ {rows : List V} {rs : List (Str × List Str)} {i : Nat} {y : V}, RowsV K H rows rs → rows[i]? = some y → ∃ q, rs[i]? = some q ∧ ∃ w, SeqV K H y [.str q.1, w] ∧ SeqV K H w (q.2.map V.str)
  | _, _, 0, y, .cons h _, e => by
    cases e
    exact ⟨_, rfl, h⟩
  | _, _, i + 1, y, .cons _ t, e => RowsV.at (i := i) t e
theorem st_rows {K : PySem.W.Frag} {H H' : Hp} (e : Same H H') {rows : List V} {rs : List (Str × List Str)} (h : RowsV K H rows rs) : RowsV K H' rows rs :=
  Paired.mapP h fun _ _ ⟨w, a, b⟩ => ⟨w, st_sv e a, st_sv e b⟩
theorem st_sh {K : PySem.W.Frag} {H H' : Hp} {x : V} {rs : List (Str × List Str)} {es : List Str} (e : Same H H') (h : ShV K H x rs es) : ShV K H' x rs es := by
  obtain ⟨r, m, rows, a, b, c, d⟩ := h.ex
  exact ⟨r, m, rows, st_sv e a, st_sv e b, st_rows e c, st_sv e d⟩
theorem ix_sv {K : PySem.W.Frag} {H : Hp} {x v : V} {xs : List V} {i : Int} {Q : VK} (h : SeqV K H x xs) (e : atI xs i = some v) (q : Q v H) : rIx K x (.int i) H Q := by
  obtain ⟨a, rfl, h | h⟩ := h
  · exact .inl ⟨a, xs, i, v, rfl, rfl, h, e, q⟩
  · exact .inr (.inl ⟨a, xs, i, v, rfl, rfl, h, e, q⟩)
section
variable {P : Program} {w : World} {K : PySem.W.Frag} {mg : Str → Option Value} {base : Heap}
/-! ### households -/
def spHouseholds (K : PySem.W.Frag) : Sp := fun vs H Q _ => ∃ x rs es, vs = [x] ∧ ShV K H x rs es ∧ rs.length ≤ 1000 ∧
  ∀ p H', Same H H' → H p = none → H' p = some (.tup (rs.map fun q => V.str q.1)) → Q (.ref p) H'
theorem scHs : FnScope ["sheet", "name", "wants"] ["sheet"] (defScope sHouseholds) := ⟨rfl, rfl, rfl, by decide +kernel, rfl, by decide +kernel, by decide +kernel⟩
theorem ok_households {f : Addr} {fd : FuncData} (F : Fun K "households" "households" sHouseholds f fd) (mt : mg "tuple" = none) : FnOk P w K mg base CX0 1 f fd ["sheet"] (spHouseholds K) := by
  refine F.ok scHs (fun vs H Q E h => ?_) (fun cdv A outer s H vs Q E hr h => ?_)
  · obtain ⟨x, rs, es, rfl, _⟩ := h
    rfl
  obtain ⟨x, rs, es, rfl, S, hz, k⟩ := h
  obtain ⟨r, e, rows, h1, h2, h3, h4⟩ := S.ex
  refine ⟨_, pss_one (ps_ret (pe_callTy call_tuple_of (by rfl) mt (by decide +kernel) (pa_cons
    (pe_lcA (own := [("name", 1), ("wants", 2)]) (g := gSeq K 2 (gCons (gName 1) (gCons (gName 2) gNil))) (tt := tYes) rfl scHs.nd (pe_ix ix_seq (pv 0) pe_int (fun _ _ => rfl)) (blkOk_by (N := ["sheet", "name", "wants"]) (sc := defScope sHouseholds) (by decide +kernel))
      (fun _ _ _ _ _ => pg_seq rfl (pgs_cons (pg_name (i := 1) scHs.nd rfl (.inl rfl)) (pgs_cons (pg_name (i := 2) scHs.nd rfl (.inl rfl)) pgs_nil))) (fun _ _ _ _ _ => pts_nil) (fun _ _ _ _ _ => pv 1)) pa_nil))), ?_⟩
  refine ⟨x, rfl, ?_⟩
  refine ix_sv h1 (atI_nat (j := 0) rfl) ?_
  refine lc_any h2 (Stays.of (Same.refl H)) (fun D i H' => Same H H' ∧ H' D = some (.lst ((rs.take i).map fun q => V.str q.1))) (fun D nD => ⟨same_new nD, upd_same⟩) (fun D i H' _ q => Stays.of q.1) (fun D i y H' nD hy ⟨sm, hD⟩ => ?_) (fun D H' nD ⟨sm, hD⟩ => ?_)
  · obtain ⟨q, hq, w2, hw, _⟩ := h3.at hy
    refine ⟨_, st_sv sm hw, rfl, _, _, rfl, _, _, rfl, rfl, rfl, ?_⟩
    refine ⟨_, rfl, _, hD, ?_, fun b o eb => ?_, ?_⟩
    · rw [List.length_map, List.length_take]
      exact Nat.lt_of_le_of_lt (Nat.min_le_right _ _) (small1000 hz)
    · rw [upd_ne (ne_of_none eb nD)]
      exact sm _ _ eb
    · rw [upd_same, List.take_add_one, hq]
      simp
  · refine ⟨D, _, rfl, .inl ⟨SqL.of hD, fun p np => ?_⟩⟩
    refine k p _ (sm.trans (same_new np)) (sm.free np) ?_
    rw [upd_same, List.take_of_length_le (by rw [Paired.length h3]; exact Nat.le_refl _)]
end
/-! ### the urn -/
def Keep (u : Addr) (H H' : Hp) : Prop := ∀ b o, b ≠ u → H b = some o → H' b = some o
def hide (u : Addr) (H : Hp) : Hp := fun b => if b = u then none else H b
def UrnAt (u : Addr) (H : Hp) (n : Nat) : Prop := ∃ a b c : Int, H u = some (.lst [.int a, .int b, .int c]) ∧ 0 ≤ c ∧ c ≤ n
theorem hide_at {u : Addr} {H : Hp} : hide u H u = none := if_pos rfl
theorem hide_ne {u b : Addr} {H : Hp} (h : b ≠ u) : hide u H b = H b := if_neg h
theorem hide_le {u : Addr} {H : Hp} : Same (hide u H) H := fun b o e => by
  by_cases c : b = u
  · rw [c, hide_at] at e
    cases e
  · rw [hide_ne c] at e
    exact e
theorem keep_refl (u : Addr) (H : Hp) : Keep u H H := fun _ _ _ e => e
theorem Keep.trans {u : Addr} {H H1 H2 : Hp} (a : Keep u H H1) (b : Keep u H1 H2) : Keep u H H2 := fun c o n e => b c o n (a c o n e)
theorem Keep.same {u : Addr} {H H' : Hp} (a : Keep u H H') : Same (hide u H) (hide u H') := fun b o e => by
  by_cases c : b = u
  · rw [c, hide_at] at e
    cases e
  · rw [hide_ne c] at e ⊢
    exact a b o c e
theorem keep_of_same {u : Addr} {H H' : Hp} (a : Same H H') : Keep u H H' := fun b o _ e => a b o e
theorem keep_new {u p : Addr} {H : Hp} {o : HO} (h : H p = none) : Keep u H (upd H p o) := keep_of_same (same_new h)
theorem keep_u {u : Addr} {H : Hp} {o : HO} : Keep u H (upd H u o) := fun b x n e => by
  rw [upd_ne n]
  exact e
/-- a store to what was not there ahead -/
theorem Keep.put {u p : Addr} {H H1 : Hp} {o : HO} (a : Keep u H H1) (h : H p = none) : Keep u H (upd H1 p o) := fun b x n e => by
  rw [upd_ne (ne_of_none e h)]
  exact a b x n e
theorem UrnAt.ne {u p : Addr} {H : Hp} {n : Nat} (U : UrnAt u H n) (h : H p = none) : p ≠ u := by
  obtain ⟨_, _, _, e, _⟩ := U
  exact (ne_of_none e h).symm
theorem UrnAt.upd {u p : Addr} {H : Hp} {n : Nat} {o : HO} (U : UrnAt u H n) (h : p ≠ u) : UrnAt u (upd H p o) n := by
  obtain ⟨a, b, c, e, r⟩ := U
  exact ⟨a, b, c, by rw [upd_ne h.symm]; exact e, r⟩
theorem UrnAt.le {u : Addr} {H : Hp} {n m : Nat} (U : UrnAt u H n) (h : n ≤ m) : UrnAt u H m := by
  obtain ⟨a, b, c, e, r1, r2⟩ := U
  exact ⟨a, b, c, e, r1, by omega⟩
theorem Keep.free {u p : Addr} {H H' : Hp} (a : Keep u H H') (n : p ≠ u) (h : H' p = none) : H p = none := by
  cases q : H p with
  | none => rfl
  | some o =>
    rw [a p o n q] at h
    cases h
theorem hide_upd {u p : Addr} {H : Hp} {o : HO} (h : p ≠ u) : hide u (upd H p o) = upd (hide u H) p o := by
  funext b
  by_cases c : b = u
  · subst c
    rw [hide_at, upd_ne h.symm, hide_at]
  · rw [hide_ne c]
    by_cases d : b = p
    · subst d
      rw [upd_same, upd_same]
    · rw [upd_ne d, upd_ne d, hide_ne c]
section
variable {P : Program} {w : World} {K : PySem.W.Frag} {mg : Str → Option Value} {base : Heap}
def spTake : Sp := fun vs H Q _ => ∃ (u : Addr) (low : Int) (n : Nat), vs = [.ref u, .int low] ∧ UrnAt u H n ∧ n ≤ 1000000 ∧ 0 < low ∧ low < 1000 ∧
  ∀ r H', 0 ≤ r → r < low → UrnAt u H' (n + 1) → Keep u H H' → Q (.int r) H'
theorem scTk : FnScope ["_law_urn", "_law_low_so", "_law_drawn", "_law_once", "_law_far", "_law_twice"] ["_law_urn", "_law_low_so"] (defScope sTake) := ⟨rfl, rfl, rfl, by decide +kernel, rfl, by decide +kernel, by decide +kernel⟩
theorem ok_take {f : Addr} {fd : FuncData} (F : Fun K "_law_take" "_law_take" sTake f fd) (mi : mg "int" = none) : FnOk P w K mg base CX0 1 f fd ["_law_urn", "_law_low_so"] spTake := by
  refine F.ok scTk (fun vs H Q E h => ?_) (fun cdv A outer s H vs Q E hr h => ?_)
  · obtain ⟨u, low, n, rfl, _⟩ := h
    rfl
  obtain ⟨u, low, n, rfl, ⟨a, b, c, hu, c0, c1⟩, hn, l0, l1, k⟩ := h
  refine ⟨_, pss_cons (ps_if (pt_cmpR op_gt (pe_ix ix_list (pv 0) pe_int (fun _ _ => rfl)) pe_int (nomark _))
      (pss_cons (ps_set (i := 2) scTk.nd rfl (.inl rfl) (pe_op op_mod (pe_callTy call_int1 (by rfl) mi (by decide +kernel) (pa_cons (pe_ix ix_list (pv 0) pe_int (fun _ _ => rfl)) pa_nil)) (pv 1)))
      (pss_cons (ps_asg (pe_op op_fdiv (pe_ix ix_list (pv 0) pe_int (fun _ _ => rfl)) (pv 1)) (pg_sub (pv 0) pe_int set_list))
      (pss_one (ps_ret (pv 2))))) pss_nil)
    (pss_cons (ps_asg (pe_op op_add (pe_ix ix_list (pv 0) pe_int (fun _ _ => rfl)) pe_int) (pg_sub (pv 0) pe_int set_list))
    (pss_cons (ps_set (i := 3) scTk.nd rfl (.inl rfl) (pe_op op_mod (pe_callTy call_int1 (by rfl) mi (by decide +kernel) (pa_cons (pe_op op_mul (pe_op op_add (pe_ix ix_list (pv 0) pe_int (fun _ _ => rfl)) (pe_op op_mul pe_int (pe_ix ix_list (pv 0) pe_int (fun _ _ => rfl)))) (pe_op op_add pe_int (pe_ix ix_list (pv 0) pe_int (fun _ _ => rfl)))) pa_nil)) pe_int))
    (pss_cons (ps_set (i := 4) scTk.nd rfl (.inl rfl) (pe_op op_add (pe_op op_mod (pe_callTy call_int1 (by rfl) mi (by decide +kernel) (pa_cons (pv 3) pa_nil)) pe_int) pe_int))
    (pss_cons (ps_set (i := 5) scTk.nd rfl (.inl rfl) (pe_op op_mod (pe_callTy call_int1 (by rfl) mi (by decide +kernel) (pa_cons (pe_op op_mul (pe_op op_add (pe_op op_add (pv 3) (pe_ix ix_list (pv 0) pe_int (fun _ _ => rfl))) (pe_op op_fdiv (pe_ix ix_list (pv 0) pe_int (fun _ _ => rfl)) pe_int)) (pv 4)) pa_nil)) pe_int))
    (pss_one (ps_ret (pe_op op_mod (pe_callTy call_int1 (by rfl) mi (by decide +kernel) (pa_cons (pe_op op_fdiv (pe_op op_mod (pe_callTy call_int1 (by rfl) mi (by decide +kernel) (pa_cons (pe_op op_add (pe_op op_mul (pv 5) pe_int) (pv 3)) pa_nil)) pe_int) pe_int) pa_nil)) (pv 1)))))))), ?_⟩
  refine ⟨_, rfl, u, _, _, _, rfl, rfl, SqL.of hu, atI_nat (j := 0) rfl, _, _, rfl, rfl, _, rfl, ite2 (fun _ => ?_) (fun _ => ?_)⟩
  · refine ⟨_, rfl, u, _, _, _, rfl, rfl, SqL.of hu, atI_nat (j := 0) rfl, .inl ⟨_, rfl, _, rfl, _, _, rfl, rfl, l0, ?_⟩⟩
    refine ⟨_, rfl, u, _, _, _, rfl, rfl, SqL.of hu, atI_nat (j := 0) rfl, _, rfl, _, _, rfl, rfl, ⟨l0, by omega⟩, _, rfl, u, _, _, 0, rfl, rfl, hu, rfl, ?_⟩
    refine ⟨_, rfl, ?_⟩
    exact k _ _ (Int.emod_nonneg _ (by omega)) (Int.emod_lt_of_pos _ l0) ⟨_, _, _, upd_same, c0, by omega⟩ keep_u
  · refine ⟨_, rfl, u, _, _, _, rfl, rfl, SqL.of hu, atI_nat (j := 2) rfl, _, _, rfl, rfl, _, rfl, u, _, _, 2, rfl, rfl, hu, rfl, ?_⟩
    have hv : upd H u (.lst [.int a, .int b, .int (c + 1)]) u = some (.lst [.int a, .int b, .int (c + 1)]) := upd_same
    have lu : SqL K (upd H u (.lst [.int a, .int b, .int (c + 1)])) u [.int a, .int b, .int (c + 1)] := SqL.of hv
    refine ⟨_, rfl, u, _, _, _, rfl, rfl, lu, atI_nat (j := 1) rfl, _, rfl, u, _, _, _, rfl, rfl, lu, atI_nat (j := 2) rfl, _, _, rfl, rfl, .inl (by omega), _, _, rfl, rfl, _, rfl, u, _, _, _, rfl, rfl, lu, atI_nat (j := 2) rfl, _, _, rfl, rfl, _, _, rfl, rfl, .inr (by omega), .inl ⟨_, rfl, _, _, rfl, rfl, (by show (0 : Int) < 2147483647; decide), ?_⟩⟩
    refine ⟨_, rfl, .inl ⟨_, rfl, _, _, rfl, rfl, (by show (0 : Int) < 40009; decide), _, _, rfl, rfl, ?_⟩⟩
    have m1 := Int.emod_nonneg ((b + 48271 * (c + 1)) * (39373 + (c + 1)) % 2147483647) (show (40009 : Int) ≠ 0 by decide)
    have m2 := Int.emod_lt_of_pos ((b + 48271 * (c + 1)) * (39373 + (c + 1)) % 2147483647) (show (0 : Int) < 40009 by decide)
    refine ⟨_, rfl, _, rfl, u, _, _, _, rfl, rfl, lu, atI_nat (j := 2) rfl, _, _, rfl, rfl, _, rfl, u, _, _, _, rfl, rfl, lu, atI_nat (j := 1) rfl, _, _, rfl, rfl, ⟨by decide, by decide⟩, _, _, rfl, rfl, _, rfl, _, _, rfl, rfl, .inr (by omega), .inl ⟨_, rfl, _, _, rfl, rfl, (by show (0 : Int) < 2147483629; decide), ?_⟩⟩
    refine ⟨_, rfl, _, _, rfl, rfl, .inr (by decide), _, rfl, _, _, rfl, rfl, .inl ⟨_, rfl, _, _, rfl, rfl, (by show (0 : Int) < 2147483587; decide), _, _, rfl, rfl, ⟨by decide, by decide⟩, .inl ⟨_, rfl, _, rfl, _, _, rfl, rfl, l0, ?_⟩⟩⟩
    exact k _ _ (Int.emod_nonneg _ (by omega)) (Int.emod_lt_of_pos _ l0) ⟨_, _, _, hv, by omega, by omega⟩ keep_u
end
end Cx

namespace Cx
open PySem PySem.Spec PyProof.Rows L2
theorem keep_under {u : Addr} {H H' : Hp} (k : Keep u H H') : Same (hide u H) H' := k.same.trans hide_le
theorem map_at {α β : Type} {f : α → β} {xs : List α} {i : Nat} {y : β} (h : (xs.map f)[i]? = some y) : ∃ z, xs[i]? = some z ∧ y = f z := by
  rw [List.getElem?_map] at h
  cases e : xs[i]? with
  | none =>
    rw [e] at h
    cases h
  | some z =>
    rw [e] at h
    exact ⟨z, rfl, (Option.some.inj h).symm⟩
theorem erase_map {α β : Type} (f : α → β) : ∀ (l : List α) (j : Nat), (l.map f).eraseIdx j = (l.eraseIdx j).map f
  | [], _ => rfl
  | _ :: _, 0 => rfl
  | x :: l, j + 1 => by
    show f x :: (l.map f).eraseIdx j = f x :: (l.eraseIdx j).map f
    rw [erase_map f l j]
theorem len_sv {K : PySem.W.Frag} {H : Hp} {x : V} {xs : List V} {Q : VK} (h : SeqV K H x xs) (q : Q (.int xs.length) H) : ∃ p ys, ([x] : List V) = [.ref p] ∧ (SqL K H p ys ∨ SqT K H p ys) ∧ Q (.int (ys.length : Nat)) H := by
  obtain ⟨a, rfl, h⟩ := h
  exact ⟨a, xs, rfl, h, q⟩
section
variable {P : Program} {w : World} {K : PySem.W.Frag} {mg : Str → Option Value} {base : Heap}
/-! ### few -/
def spFew (K : PySem.W.Frag) : Sp := fun vs H Q _ => ∃ (u : Addr) (x : V) (xs : List Str) (low : Int) (n : Nat), vs = [.ref u, x, .int low] ∧ UrnAt u H n ∧ n + xs.length ≤ 1000000 ∧ 0 < low ∧ low < 1000 ∧ SeqV K (hide u H) x (xs.map V.str) ∧ xs.length ≤ 1000 ∧
  ∀ (ys : List Str) p H', List.Sublist ys xs → UrnAt u H' (n + xs.length) → Keep u H H' → p ≠ u → H p = none → H' p = some (.tup (ys.map V.str)) → Q (.ref p) H'
theorem scFw : FnScope ["_law_urn", "_law_pool", "_law_one_of", "_law_own"] ["_law_urn", "_law_pool", "_law_one_of"] (defScope sFew) := ⟨rfl, rfl, rfl, by decide +kernel, rfl, by decide +kernel, by decide +kernel⟩
theorem ok_few {f g : Addr} {fd gd : FuncData} (F : Fun K "_law_few" "_law_few" sFew f fd) (G : FnOk P w K mg base CX0 1 g gd ["_law_urn", "_law_low_so"] spTake) (bG : Binds K gd ["_law_urn", "_law_low_so"] []) (kG : PySem.W.keepIn K (.ref g) = true) (mG : mg "_law_take" = some (.ref g))
    (mt : mg "tuple" = none) : FnOk P w K mg base CX0 2 f fd ["_law_urn", "_law_pool", "_law_one_of"] (spFew K) := by
  refine F.ok scFw (fun vs H Q E h => ?_) (fun cdv A outer s H vs Q E hr h => ?_)
  · obtain ⟨u, x, xs, low, n, rfl, _⟩ := h
    rfl
  obtain ⟨u, x, xs, low, n, rfl, U, hn, l0, l1, hx, hz, k⟩ := h
  refine ⟨_, pss_one (ps_ret (pe_callTy call_tuple_of (by rfl) mt (by decide +kernel) (pa_cons
    (pe_lcA (own := [("_law_own", 3)]) (g := gName 3) (tt := tTest (tOp rEq (tCall spTake [] E0 (tCons (tVar 0) (tCons (tVar 2) tNil))) (tC (.int 0)))) rfl scFw.nd (pv 1)
      (blkOk_by (N := ["_law_urn", "_law_pool", "_law_one_of", "_law_own"]) (sc := defScope sFew) (by decide +kernel))
      (fun _ _ _ _ _ => pg_name (i := 3) scFw.nd rfl (.inl rfl)) (fun _ _ _ _ _ => pts_one (pt_cmpR op_eq (pe_call G hr (by rfl) mG kG bG .nil pass0 (pa_cons (pv 0) (pa_cons (pv 2) pa_nil))) pe_int (nomark _))) (fun _ _ _ _ _ => pv 3)) pa_nil))), ?_⟩
  refine ⟨x, rfl, ?_⟩
  refine lc_any hx (Stays.of hide_le) (fun D i H' => ∃ ys : List Str, ys.Sublist (xs.take i) ∧ UrnAt u H' (n + i) ∧ Keep u H H' ∧ H' D = some (.lst (ys.map V.str)))
    (fun D nD => ⟨[], .slnil, U.upd (U.ne nD), keep_new nD, upd_same⟩) (fun D i H' _ ⟨_, _, _, kp, _⟩ => Stays.of (keep_under kp)) (fun D i y H' nD hy ⟨ys, sb, U1, kp, hD⟩ => ?_) (fun D H' nD ⟨ys, sb, U1, kp, hD⟩ => ?_)
  · obtain ⟨z, hz2, rfl⟩ := map_at hy
    have nu : D ≠ u := U.ne nD
    have hi : i < xs.length := (List.getElem?_eq_some_iff.mp hz2).1
    refine ⟨rfl, .ref u, rfl, .int low, rfl, u, low, n + i, rfl, U1, by omega, l0, l1, fun r H2 r0 r1 U2 k2 => ⟨rfl, _, rfl, ?_⟩⟩
    have hD2 := k2 D _ nu hD
    refine ite2 (fun _ => ?_) (fun _ => ?_)
    · refine ⟨_, rfl, _, hD2, ?_, ys ++ [z], ?_, U2.upd nu, (kp.trans k2).put nD, ?_⟩
      · rw [List.length_map]
        have := sb.length_le
        rw [List.length_take] at this
        exact small1000 (by omega)
      · rw [List.take_add_one, hz2]
        exact sb.append (List.Sublist.refl _)
      · rw [upd_same, List.map_append]
        rfl
    · refine ⟨ys, ?_, U2, kp.trans k2, hD2⟩
      rw [List.take_add_one]
      exact sb.trans (List.sublist_append_left _ _)
  · rw [List.length_map] at sb U1
    refine ⟨D, _, rfl, .inl ⟨SqL.of hD, fun p np => ?_⟩⟩
    have pu := U1.ne np
    rw [List.take_length] at sb
    exact k ys p _ sb (U1.upd pu) (kp.trans (keep_new np)) pu (kp.free pu np) upd_same
/-! ### mixed -/
def spMixed (K : PySem.W.Frag) : Sp := fun vs H Q _ => ∃ (u : Addr) (x : V) (xs : List Str) (n : Nat), vs = [.ref u, x] ∧ UrnAt u H n ∧ n + xs.length ≤ 1000000 ∧ SeqV K (hide u H) x (xs.map V.str) ∧ xs.length ≤ 900 ∧
  ∀ (ys : List Str) p H', ys.Perm xs → UrnAt u H' (n + xs.length) → Keep u H H' → p ≠ u → H p = none → H' p = some (.tup (ys.map V.str)) → Q (.ref p) H'
theorem scMx : FnScope ["_law_urn", "_law_pool", "_law_left", "_law_found", "_law_turn"] ["_law_urn", "_law_pool"] (defScope sMixed) := ⟨rfl, rfl, rfl, by decide +kernel, rfl, by decide +kernel, by decide +kernel⟩
theorem ok_mixed {f g : Addr} {fd gd : FuncData} (F : Fun K "_law_mixed" "_law_mixed" sMixed f fd) (G : FnOk P w K mg base CX0 1 g gd ["_law_urn", "_law_low_so"] spTake) (bG : Binds K gd ["_law_urn", "_law_low_so"] []) (kG : PySem.W.keepIn K (.ref g) = true) (mG : mg "_law_take" = some (.ref g))
    (mt : mg "tuple" = none) (ml : mg "list" = none) (mr : mg "range" = none) (mn : mg "len" = none) : FnOk P w K mg base CX0 2 f fd ["_law_urn", "_law_pool"] (spMixed K) := by
  refine F.ok scMx (fun vs H Q E h => ?_) (fun cdv A outer s H vs Q E hr h => ?_)
  · obtain ⟨u, x, xs, n, rfl, _⟩ := h
    rfl
  obtain ⟨u, x, xs, n, rfl, U, hn, hx, hz, k⟩ := h
  refine ⟨_, pss_cons (ps_par (i := 2) (j := 3) (by rfl) scMx.nd rfl rfl (by decide) rfl rfl (pa_cons (pe_callTy call_list_of (by rfl) ml (by decide +kernel) (pa_cons (pv 1) pa_nil)) (pa_cons (pe_lst pa_nil) pa_nil)) (by rfl))
    (pss_cons (ps_for PassesOwn.never rfl (pi_range1 (by rfl) mr (pa_cons (pe_callB call_len_seq (by rfl) mn PySem.boot_len (pa_cons (pv 1) pa_nil)) pa_nil)) (pg_name (i := 4) scMx.nd rfl (.inl rfl))
      (pss_one (ps_expr (pe_bm PySem.F.plainAttrs_list PySem.F.slot_list_append PySem.F.type_list_append mt_append (pv 3) (pa_cons
        (pe_bm PySem.F.plainAttrs_list PySem.F.slot_list_pop PySem.F.type_list_pop mt_popAt (pv 2) (pa_cons (pe_call G hr (by rfl) mG kG bG .nil pass0 (pa_cons (pv 0) (pa_cons (pe_callB call_len_seq (by rfl) mn PySem.boot_len (pa_cons (pv 2) pa_nil)) pa_nil))) pa_nil)) pa_nil)))))
    (pss_one (ps_ret (pe_callTy call_tuple_of (by rfl) mt (by decide +kernel) (pa_cons (pv 3) pa_nil))))), ?_⟩
  have hx1 := st_sv hide_le hx
  obtain ⟨a, rfl, ha⟩ := id hx1
  refine ⟨_, rfl, a, _, rfl, ha, fun L nL => ⟨Nat.zero_le _, fun F nF => ⟨_, _, rfl, ?_⟩⟩⟩
  have Lu := U.ne nL
  have U1 := U.upd (o := .lst (xs.map V.str)) Lu
  have Fu := U1.ne nF
  have FL : F ≠ L := fun e => by
    rw [e, upd_same] at nF
    cases nF
  have nF0 : H F = none := (same_new nL).free nF
  have k1 : Keep u H (upd (upd H L (.lst (xs.map V.str))) F (.lst [])) := (keep_new nL).trans (keep_new nF)
  have hx2 := st_sv (keep_under k1) hx
  obtain ⟨a', e', ha'⟩ := hx2
  cases e'
  refine ⟨_, rfl, a, _, rfl, ha', _, rfl, by rw [List.length_map]; omega, by rw [List.length_map]; omega, ?_⟩
  refine for_range (lo := 0) (n := (xs.map V.str).length) (fun i σ H' => ∃ (lf fo : List Str) (t : Option V), σ = [some (.ref u), some (.ref a), some (.ref L), some (.ref F), t] ∧ UrnAt u H' (n + i) ∧ Keep u H H' ∧ H' L = some (.lst (lf.map V.str)) ∧ H' F = some (.lst (fo.map V.str)) ∧ (fo ++ lf).Perm xs ∧ fo.length = i) ?_ ?_ ?_
  · exact ⟨xs, [], none, rfl, U1.upd Fu, k1, by rw [upd_ne FL.symm, upd_same], upd_same, List.Perm.refl _, rfl⟩
  · rintro i σ H' hi ⟨lf, fo, t, rfl, U2, k2, hL, hF, pm, fl⟩
    have pl := pm.length_eq
    rw [List.length_append, fl] at pl
    rw [List.length_map] at hi
    have hll : (lf.map V.str).length = lf.length := List.length_map _
    refine ⟨_, rfl, .inl ⟨rfl, _, SqL.of hF⟩, _, rfl, .inl ⟨rfl, _, SqL.of hL⟩, _, rfl, _, rfl, L, _, rfl, .inl (SqL.of hL), u, _, n + i, rfl, U2, by omega, by omega, by omega, fun r H2 r0 r1 U3 k3 => ?_⟩
    have hL2 := k3 L _ Lu hL
    have hF2 := k3 F _ Fu hF
    have hr2 : r.toNat < lf.length := by omega
    have gl : (lf.map V.str)[r.toNat]? = some (.str lf[r.toNat]) := by
      rw [List.getElem?_map, List.getElem?_eq_getElem hr2]
      rfl
    refine ⟨L, _, r, r.toNat, _, rfl, rfl, hL2, by omega, by omega, seqIndex_of r0 (by omega), gl, ?_⟩
    have hF3 : upd H2 L (.lst ((lf.map V.str).eraseIdx r.toNat)) F = some (.lst (fo.map V.str)) := by
      rw [upd_ne FL]
      exact hF2
    refine ⟨F, _, _, rfl, rfl, hF3, ?_, ?_⟩
    · rw [List.length_map]
      exact small1000 (by omega)
    refine ⟨lf.eraseIdx r.toNat, fo ++ [lf[r.toNat]], _, rfl, (U3.upd Lu).upd Fu, ((k2.trans k3).put nL).put nF0, ?_, ?_, ?_, ?_⟩
    · rw [upd_ne FL.symm, upd_same, erase_map]
    · rw [upd_same, List.map_append]
      rfl
    · refine List.Perm.trans ?_ pm
      rw [List.append_assoc]
      refine List.Perm.append_left fo ?_
      exact erase_perm lf r.toNat _ (List.getElem?_eq_getElem hr2)
    · rw [List.length_append, fl]
      rfl
  · rintro σ H' ⟨lf, fo, t, rfl, U2, k2, hL, hF, pm, fl⟩
    have pl := pm.length_eq
    rw [List.length_append, fl, List.length_map] at pl
    rw [List.length_map] at U2
    have e : lf = [] := List.eq_nil_of_length_eq_zero (by omega)
    subst e
    rw [List.append_nil] at pm
    refine ⟨_, rfl, F, _, rfl, .inl ⟨SqL.of hF, fun p np => ?_⟩⟩
    have pu := U2.ne np
    exact k fo p _ pm (U2.upd pu) (k2.trans (keep_new np)) pu (k2.free pu np) upd_same
end
end Cx

namespace Cx
open PySem PySem.Spec PyProof.Rows L2
theorem cut_map (ns : List Int) (lo hi : Option Int) : cutV (ns.map V.int) lo hi = ((ns.drop (HT.sIx ns.length 0 lo)).take (HT.sIx ns.length ns.length hi - HT.sIx ns.length 0 lo)).map V.int := by
  unfold cutV
  rw [List.length_map, List.map_take, List.map_drop]
theorem cut_1 (ns : List Int) (t : Nat) : cutV (ns.map V.int) none (some (t : Int)) = (ns.take t).map V.int := by
  rw [cut_map, HT.sIx_none, HT.sIx_nat, List.drop_zero, Nat.sub_zero]
  congr 1
  by_cases h : t ≤ ns.length
  · rw [Nat.min_eq_left h]
  · rw [Nat.min_eq_right (by omega), List.take_length, List.take_of_length_le (by omega)]
theorem cut_2 (ns : List Int) (t : Nat) : ∃ ks : List Int, cutV (ns.map V.int) (some (t : Int)) (some 63) = ks.map V.int ∧ ks.length ≤ ns.length ∧ (0 < ks.length → t < ns.length) := by
  refine ⟨_, cut_map ns (some (t : Int)) (some 63), ?_, fun h => ?_⟩
  · rw [List.length_take, List.length_drop]
    omega
  · rw [List.length_take, List.length_drop, HT.sIx_nat] at h
    omega
section
variable {P : Program} {w : World} {K : PySem.W.Frag} {mg : Str → Option Value} {base : Heap}
/-! ### box -/
def spBox (K : PySem.W.Frag) : Sp := fun vs H Q _ => ∃ (a : Addr) (ns : List Int) (k : Int), vs = [.ref a, .int k] ∧ SqL K H a (ns.map V.int) ∧ 0 ≤ k ∧ k < 100 ∧ ∀ u H', Same H H' → H u = none → UrnAt u H' 0 → Q (.ref u) H'
theorem scBx : FnScope ["_law_script", "_law_k", "_law_cell"] ["_law_script", "_law_k"] (defScope sBox) := ⟨rfl, rfl, rfl, by decide +kernel, rfl, by decide +kernel, by decide +kernel⟩
theorem ok_box {f : Addr} {fd : FuncData} (F : Fun K "_law_box" "_law_box" sBox f fd) (mi : mg "int" = none) (mn : mg "len" = none) (ma : mg "abs" = none) : FnOk P w K mg base CX0 1 f fd ["_law_script", "_law_k"] (spBox K) := by
  refine F.ok scBx (fun vs H Q E h => ?_) (fun cdv A outer s H vs Q E hr h => ?_)
  · obtain ⟨a, ns, k, rfl, _⟩ := h
    rfl
  obtain ⟨a, ns, k, rfl, hS, k0, k1, q⟩ := h
  refine ⟨_, pss_cons (ps_set (i := 2) scBx.nd rfl (.inl rfl) (pe_ifExp (pt_cmpR op_lt (pv 1) (pe_callB call_len_seq (by rfl) mn PySem.boot_len (pa_cons (pv 0) pa_nil)) (nomark _)) (pe_ix ix_list (pv 0) (pv 1) (fun _ _ => rfl)) pe_int))
    (pss_one (ps_ret (pe_lst (pa_cons (pe_op op_mul (pe_callB call_abs (by rfl) ma (by decide +kernel) (pa_cons (pv 2) pa_nil)) (pe_callTy call_int1 (by rfl) mi (by decide +kernel) (pa_cons (pe_cmpR op_ge (pe_callB call_abs (by rfl) ma (by decide +kernel) (pa_cons (pv 2) pa_nil)) (pe_op op_pow pe_int pe_int) (nomark _)) pa_nil)))
      (pa_cons (pe_op op_add (pe_op op_add (pe_op op_mod (pe_callTy call_int1 (by rfl) mi (by decide +kernel) (pa_cons (pv 2) pa_nil)) pe_int) (pe_op op_mul pe_int (pv 1))) pe_int) (pa_cons pe_int pa_nil)))))), ?_⟩
  have fin : ∀ c : Int, ∀ D : Ends, D.rt = Q → tRet (tLst (tCons (tOp (rI CMul fun i j => .int (i * j)) (tCB (fun xs H Q => ∃ i, xs = [.int i] ∧ Q (.int (if i < 0 then -i else i)) H) (tCons (tVar 2) tNil)) (tCB (fun xs H Q => (∃ i, xs = [.int i] ∧ Q (.int i) H) ∨ ∃ k, xs = [.bl k] ∧ Q (.int (if k then 1 else 0)) H) (tCons (tOp (rI0 fun i j => .bl (decide (j ≤ i))) (tCB (fun xs H Q => ∃ i, xs = [.int i] ∧ Q (.int (if i < 0 then -i else i)) H) (tCons (tVar 2) tNil)) (tOp (rI CPow fun i j => .int (i ^ j.toNat)) (tC (.int 10)) (tC (.int 18)))) tNil)))
      (tCons (tOp (rI0 fun i j => .int (i + j)) (tOp (rI0 fun i j => .int (i + j)) (tOp (rI (fun _ j => 0 < j) fun i j => .int (i % j)) (tCB (fun xs H Q => (∃ i, xs = [.int i] ∧ Q (.int i) H) ∨ ∃ k, xs = [.bl k] ∧ Q (.int (if k then 1 else 0)) H) (tCons (tVar 2) tNil)) (tC (.int 2305843009213693951))) (tOp (rI CMul fun i j => .int (i * j)) (tC (.int 39373)) (tVar 1))) (tC (.int 803))) (tCons (tC (.int 0)) tNil)))) D [some (.ref a), some (.int k), some (.int c)] H := fun c D hD => by
    refine ⟨_, rfl, _, rfl, _, rfl, _, rfl, _, _, rfl, rfl, ⟨by decide, by decide, by decide⟩, _, _, rfl, rfl, .inr ⟨_, rfl, _, _, rfl, rfl, .inr (by split <;> omega), ?_⟩⟩
    refine ⟨_, rfl, .inl ⟨_, rfl, _, _, rfl, rfl, (by show (0 : Int) < 2305843009213693951; decide), _, rfl, _, _, rfl, rfl, .inr (by omega), _, _, rfl, rfl, _, _, rfl, rfl, (by show 3 ≤ sizeLine; decide), fun u nu => ?_⟩⟩
    rw [hD]
    exact q u _ (same_new nu) nu ⟨_, _, _, upd_same, Int.le_refl 0, Int.le_refl 0⟩
  refine ⟨_, rfl, _, rfl, a, _, rfl, .inl hS, _, _, rfl, rfl, _, rfl, ite2 (fun c => ?_) (fun c => ?_)⟩
  · have c2 := of_decide_eq_true c
    rw [List.length_map] at c2
    have hk : k.toNat < ns.length := by omega
    have e : atI (ns.map V.int) ((k.toNat : Nat) : Int) = some (.int ns[k.toNat]) := atI_nat (by rw [List.getElem?_map, List.getElem?_eq_getElem hk]; rfl)
    rw [Int.toNat_of_nonneg k0] at e
    exact ⟨_, rfl, _, rfl, a, _, _, _, rfl, rfl, hS, e, fin _ _ rfl⟩
  · exact fin _ _ rfl
/-! ### cells -/
def spCells (K : PySem.W.Frag) : Sp := fun vs H Q _ => ∃ (a : Addr) (ns : List Int) (t : Nat), vs = [.ref a, .int (t : Int)] ∧ SqL K H a (ns.map V.int) ∧ ns.length ≤ 1000 ∧ 1 ≤ t ∧ t ≤ 60 ∧
  ∀ p (ms : List Int) H', Same H H' → H p = none → H' p = some (.lst (ms.map V.int)) → 1 ≤ ms.length → ms.length ≤ t → Q (.ref p) H'
theorem scCl : FnScope ["_law_script", "_law_top", "_law_cells_here", "_law_k", "_law_cell", "_law_at_so"] ["_law_script", "_law_top"] (defScope sCells) := ⟨rfl, rfl, rfl, by decide +kernel, rfl, by decide +kernel, by decide +kernel⟩
theorem ok_cells {f : Addr} {fd : FuncData} (F : Fun K "_law_cells" "_law_cells" sCells f fd) (mi : mg "int" = none) (ml : mg "list" = none) (me : mg "enumerate" = none) : FnOk P w K mg base CX0 1 f fd ["_law_script", "_law_top"] (spCells K) := by
  refine F.ok scCl (fun vs H Q E h => ?_) (fun cdv A outer s H vs Q E hr h => ?_)
  · obtain ⟨a, ns, t, rfl, _⟩ := h
    rfl
  obtain ⟨a, ns, t, rfl, hS, hz, t1, t2, q⟩ := h
  refine ⟨_, Evl.pss_cut (ps_set (i := 2) scCl.nd rfl (.inl rfl) (pe_orT (pe_callTy call_list_of (by rfl) ml (by decide +kernel) (pa_cons (pe_slice sl_list (pv 0) po_none (po_some (pv 1))) pa_nil)) (pe_one (pe_lst (pa_cons pe_int pa_nil)))))
    (pss_cons (ps_for PassesOwn.never rfl (pi_enum (by rfl) me (pa_cons (pe_slice sl_list (pv 0) (po_some (pv 1)) (po_some pe_int)) pa_nil)) (pg_tup rfl (pgs_cons (pg_name (i := 3) scCl.nd rfl (.inl rfl)) (pgs_cons (pg_name (i := 4) scCl.nd rfl (.inl rfl)) pgs_nil)))
      (pss_cons (ps_set (i := 5) scCl.nd rfl (.inl rfl) (pe_op op_mod (pe_callTy call_int1 (by rfl) mi (by decide +kernel) (pa_cons (pv 3) pa_nil)) (pv 1)))
      (pss_one (ps_asg (pe_op op_add (pe_ix ix_list (pv 2) (pv 5) (fun _ _ => rfl)) (pe_op op_mul (pv 4) (pe_op op_add (pv 3) pe_int))) (pg_sub (pv 2) (pv 5) set_list)))))
    (pss_one (ps_ret (pv 2)))), ?_⟩
  refine ⟨fun σ' H' => ∃ (L : Addr) (ms : List Int), σ' = [some (.ref a), some (.int (t : Int)), some (.ref L), none, none, none] ∧ Same H H' ∧ H L = none ∧ H' L = some (.lst (ms.map V.int)) ∧ 1 ≤ ms.length ∧ ms.length ≤ t ∧ (t < ns.length → ms.length = t), ?_, ?_⟩
  · refine ⟨_, rfl, _, rfl, _, rfl, a, _, rfl, hS, fun C nC => ⟨C, _, rfl, .inl (SqL.of upd_same), fun L nL => ?_⟩⟩
    rw [cut_1] at nL ⊢
    have s1 : Same H (upd (upd H C (.lst ((ns.take t).map V.int))) L (.lst ((ns.take t).map V.int))) := (same_new nC).trans (same_new nL)
    have hL : upd (upd H C (.lst ((ns.take t).map V.int))) L (.lst ((ns.take t).map V.int)) L = some (.lst ((ns.take t).map V.int)) := upd_same
    have hlen : (ns.take t).length = min t ns.length := List.length_take
    have nL0 := (same_new nC).free nL
    generalize ns.take t = ms at s1 hL hlen ⊢
    refine ⟨_, .inl ⟨_, SqL.of hL, rfl⟩, ?_⟩
    cases ms with
    | nil =>
      refine iteF ⟨by show 1 ≤ sizeLine; decide, fun M nM => ?_⟩
      exact ⟨M, [0], rfl, s1.trans (same_new nM), s1.free nM, upd_same, Nat.le_refl 1, t1, fun c => by rw [List.length_nil] at hlen; omega⟩
    | cons m ms =>
      refine iteT ?_
      exact ⟨L, m :: ms, rfl, s1, nL0, hL, by rw [List.length_cons]; omega, by omega, fun c => by omega⟩
  rintro σ' H1 ⟨L, ms, rfl, s1, nL, hL, m1, m2, m3⟩
  obtain ⟨ks, ek, hk, hk2⟩ := cut_2 ns t
  refine ⟨_, rfl, _, rfl, _, rfl, _, rfl, a, _, rfl, s1.seq hS, fun C nC => ?_⟩
  rw [ek]
  have CL : C ≠ L := fun e => by
    rw [e, hL] at nC
    cases nC
  refine ⟨C, _, rfl, SqL.of upd_same, ?_⟩
  refine for_it (walk_enum (K := K) (a := C) (xs := ks.map V.int)) (fun i σ H' => ∃ (ms : List Int) (x y z : Option V), σ = [some (.ref a), some (.int (t : Int)), some (.ref L), x, y, z] ∧ Same H H' ∧ H' C = some (.lst (ks.map V.int)) ∧ H' L = some (.lst (ms.map V.int)) ∧ 1 ≤ ms.length ∧ ms.length ≤ t ∧ (t < ns.length → ms.length = t)) ?_ (fun i σ H' _ ⟨_, _, _, _, _, _, hC, _⟩ => SqL.of hC) ?_ ?_
  · exact ⟨ms, none, none, none, rfl, s1.trans (same_new nC), upd_same, by rw [upd_ne CL.symm]; exact hL, m1, m2, m3⟩
  · rintro i x σ H2 H3 hi ⟨ms, y1, y2, y3, rfl, s2, hC, hL2, n1, n2, n3⟩ ⟨T, x1, x2, rfl, nT, rfl, e1, e2⟩
    cases e1
    obtain ⟨z, hz2, rfl⟩ := map_at e2
    rw [List.length_map] at hi
    have tn : t < ns.length := hk2 (by omega)
    have em := n3 tn
    have et : ((i : Nat) : Int) % (t : Int) = ((i % t : Nat) : Int) := (Int.natCast_emod i t).symm
    have it : i % t < ms.length := by
      rw [em]
      exact Nat.mod_lt _ (by omega)
    have LT : L ≠ T := ne_of_none hL2 nT
    have CT : C ≠ T := ne_of_none hC nT
    have hL3 : upd H2 T (.tup [.int (i : Nat), .int z]) L = some (.lst (ms.map V.int)) := by rw [upd_ne LT]; exact hL2
    have gl : (ms.map V.int)[i % t]? = some (.int ms[i % t]) := by
      rw [List.getElem?_map, List.getElem?_eq_getElem it]
      rfl
    refine ⟨T, _, rfl, .inl (.inl upd_same), rfl, _, _, rfl, _, _, rfl, rfl, ?_⟩
    refine ⟨_, rfl, .inl ⟨_, rfl, _, rfl, _, _, rfl, rfl, by omega, ?_⟩⟩
    have ga : atI (ms.map V.int) (((i : Nat) : Int) % (t : Int)) = some (.int ms[i % t]) := by
      rw [et]
      exact atI_nat gl
    refine ⟨_, rfl, _, rfl, L, _, _, _, rfl, rfl, SqL.of hL3, ga, _, rfl, _, rfl, _, _, rfl, rfl, _, _, rfl, rfl, .inr (by omega), _, _, rfl, rfl, _, rfl, _, rfl, L, _, _, i % t, rfl, rfl, hL3, ?_, ?_⟩
    · rw [et]
      unfold ixN
      rw [List.length_map, if_pos (by omega), if_pos (by omega), Int.toNat_natCast]
    · refine ⟨ms.set (i % t) (ms[i % t] + z * ((i : Nat) + 2)), _, _, _, rfl, fun b o e => ?_, ?_, ?_, by rw [List.length_set]; exact n1, by rw [List.length_set]; exact n2, fun c => by rw [List.length_set]; exact n3 c⟩
      · rw [upd_ne (ne_of_none e nL)]
        exact (s2.trans (same_new nT)) b o e
      · rw [upd_ne CL, upd_ne CT]
        exact hC
      · rw [upd_same, List.map_set]
  · rintro σ H2 ⟨ms, y1, y2, y3, rfl, s2, hC, hL2, n1, n2, n3⟩
    exact ⟨_, rfl, q L ms H2 s2 nL hL2 n1 n2⟩
end
end Cx

namespace Cx
open PySem PySem.Spec PyProof.Rows L2
/-! ### some addresses put aside -/
def hid (us : List Addr) (H : Hp) : Hp := fun b => if b ∈ us then none else H b
theorem hid_in {us : List Addr} {H : Hp} {b : Addr} (h : b ∈ us) : hid us H b = none := if_pos h
theorem hid_out {us : List Addr} {H : Hp} {b : Addr} (h : b ∉ us) : hid us H b = H b := if_neg h
theorem hid_some {us : List Addr} {H : Hp} {b : Addr} {o : HO} (h : hid us H b = some o) : b ∉ us ∧ H b = some o := by
  by_cases c : b ∈ us
  · rw [hid_in c] at h
    cases h
  · rw [hid_out c] at h
    exact ⟨c, h⟩
theorem hid_le {us : List Addr} {H : Hp} : Same (hid us H) H := fun _ _ e => (hid_some e).2
theorem hid_less {us : List Addr} {d : Addr} {H : Hp} : Same (hid (d :: us) H) (hid us H) := fun b o e => by
  obtain ⟨h1, h2⟩ := hid_some e
  rw [hid_out fun z => h1 (List.mem_cons_of_mem _ z)]
  exact h2
theorem hid_same {us : List Addr} {H H' : Hp} (s : Same H H') : Same (hid us H) (hid us H') := fun b o e => by
  obtain ⟨h1, h2⟩ := hid_some e
  rw [hid_out h1]
  exact s b o h2
theorem hid_keep {us : List Addr} {u : Addr} {H H' : Hp} (k : Keep u H H') (m : u ∈ us) : Same (hid us H) (hid us H') := fun b o e => by
  obtain ⟨h1, h2⟩ := hid_some e
  rw [hid_out h1]
  exact k b o (fun z => h1 (z ▸ m)) h2
theorem hid_more {us : List Addr} {d : Addr} {H H' : Hp} (s : Same (hid us H) (hid us H')) (n : H d = none) : Same (hid us H) (hid (d :: us) H') := fun b o e => by
  have e2 := s b o e
  obtain ⟨h1, h2⟩ := hid_some e
  obtain ⟨h3, h4⟩ := hid_some e2
  have h5 : b ≠ d := ne_of_none h2 n
  rw [hid_out fun z => (List.mem_cons.mp z).elim h5 h1]
  exact h4
theorem hid_put {us : List Addr} {d : Addr} {H : Hp} {o : HO} (m : d ∈ us) : hid us (upd H d o) = hid us H := by
  funext b
  by_cases c : b ∈ us
  · rw [hid_in c, hid_in c]
  · rw [hid_out c, hid_out c, upd_ne fun z => c (by rw [z]; exact m)]
def AllIn (us : List Addr) (H : Hp) : Prop := ∀ v ∈ us, H v ≠ none
theorem AllIn.not {us : List Addr} {H : Hp} {p : Addr} (a : AllIn us H) (h : H p = none) : p ∉ us := fun m => a p m h
theorem AllIn.cons {us : List Addr} {H H' : Hp} {d : Addr} {o : HO} (a : ∀ v ∈ us, H v ≠ none → H' v ≠ none) (b : AllIn us H) (h : H' d = some o) : AllIn (d :: us) H' := fun v m => by
  rcases List.mem_cons.mp m with e | e
  · rw [e, h]
    exact fun z => nomatch z
  · exact a v e (b v e)
theorem same_in {H H' : Hp} {v : Addr} (s : Same H H') (h : H v ≠ none) : H' v ≠ none := by
  cases e : H v with
  | none => exact absurd e h
  | some o =>
    rw [s v o e]
    exact fun z => nomatch z
theorem keep_in {u : Addr} {H H' : Hp} {v : Addr} {n : Nat} (s : Keep u H H') (U : UrnAt u H' n) (h : H v ≠ none) : H' v ≠ none := by
  by_cases c : v = u
  · obtain ⟨_, _, _, e, _⟩ := U
    rw [c, e]
    exact fun z => nomatch z
  · cases e : H v with
    | none => exact absurd e h
    | some o =>
      rw [s v o c e]
      exact fun z => nomatch z
theorem hide_hid {u : Addr} {H : Hp} : hide u H = hid [u] H := by
  funext b
  by_cases c : b = u
  · rw [c, hide_at, hid_in (List.mem_singleton.mpr rfl)]
  · rw [hide_ne c, hid_out fun m => c (List.mem_singleton.mp m)]
/-! ### data: lists and tuples of texts -/
mutual
def lstD : PyData → PyData
  | .list ds => .list (lstDs ds)
  | .tuple ds => .list (lstDs ds)
  | .none => .none
  | .bool b => .bool b
  | .int i => .int i
  | .str s => .str s
  | .dict kvs => .dict kvs
def lstDs : List PyData → List PyData
  | [] => []
  | d :: ds => lstD d :: lstDs ds
end
theorem lstDs_map : ∀ ds : List PyData, lstDs ds = ds.map lstD
  | [] => rfl
  | d :: ds => by
    show lstD d :: lstDs ds = lstD d :: ds.map lstD
    rw [lstDs_map ds]
mutual
def nodes : PyData → Nat
  | .list ds => 1 + nodesL ds
  | .tuple ds => 1 + nodesL ds
  | .none => 0
  | .bool _ => 0
  | .int _ => 0
  | .str _ => 0
  | .dict _ => 0
def nodesL : List PyData → Nat
  | [] => 0
  | d :: ds => nodes d + nodesL ds
end
theorem nodesL_app : ∀ (as bs : List PyData), nodesL (as ++ bs) = nodesL as + nodesL bs
  | [], bs => (Nat.zero_add _).symm
  | a :: as, bs => by
    show nodes a + nodesL (as ++ bs) = nodes a + nodesL as + nodesL bs
    rw [nodesL_app as bs, Nat.add_assoc]
theorem nodesL_take {ds : List PyData} {i : Nat} : nodesL (ds.take i) ≤ nodesL ds := by
  have h := nodesL_app (ds.take i) (ds.drop i)
  rw [List.take_append_drop] at h
  omega
theorem nodesL_next {ds : List PyData} {i : Nat} {d : PyData} (h : ds[i]? = some d) : nodesL (ds.take (i + 1)) = nodesL (ds.take i) + nodes d := by
  rw [List.take_add_one, h, nodesL_app]
  rfl
/-- texts, lists, tuples, below n deep -/
def SmD : Nat → PyData → Prop
  | 0, _ => False
  | n + 1, .list ds => ds.length ≤ 900 ∧ ∀ d ∈ ds, SmD n d
  | n + 1, .tuple ds => ds.length ≤ 900 ∧ ∀ d ∈ ds, SmD n d
  | _ + 1, .str _ => True
  | _ + 1, _ => False
section
variable {K : PySem.W.Frag} {H H' : Hp}
mutual
theorem dp_same (s : Same H H') : ∀ {x : V} {d : PyData}, Dp K H x d → Dp K H' x d
  | _, _, .non => .non
  | _, _, .bl b => .bl b
  | _, _, .int i => .int i
  | _, _, .str x => .str x
  | _, _, .lst h a => .lst (s.seq h) (dpa_same s a)
  | _, _, .tup h a => .tup (st_tup s h) (dpa_same s a)
theorem dpa_same (s : Same H H') : ∀ {xs : List V} {ds : List PyData}, DpAll K H xs ds → DpAll K H' xs ds
  | _, _, .nil => .nil
  | _, _, .cons h a => .cons (dp_same s h) (dpa_same s a)
end
theorem dpa_len : ∀ {xs : List V} {ds : List PyData}, DpAll K H xs ds → xs.length = ds.length
  | _, _, .nil => rfl
  | _, _, .cons _ a => congrArg (· + 1) (dpa_len a)
theorem dpa_at : ∀ {xs : List V} {ds : List PyData} {i : Nat} {x : V}, DpAll K H xs ds → xs[i]? = some x → ∃ d, ds[i]? = some d ∧ Dp K H x d
  | _, _, 0, _, .cons h _, e => by
    cases e
    exact ⟨_, rfl, h⟩
  | _, _, i + 1, _, .cons _ a, e => dpa_at (i := i) a e
theorem dpa_snoc {x : V} {d : PyData} (h : Dp K H x d) : ∀ {xs : List V} {ds : List PyData}, DpAll K H xs ds → DpAll K H (xs ++ [x]) (ds ++ [d])
  | _, _, .nil => .cons h .nil
  | _, _, .cons g a => .cons g (dpa_snoc h a)
theorem sql_ty {a : Addr} {xs : List V} (h : SqL K H a xs) : TyX K H (.ref a) (.type "list") := by
  rcases h with (h | ⟨o, h⟩) | ⟨o, its, n, h, c, _⟩
  · exact .base (.lst h)
  · exact .base (.frz h)
  · exact .kList h c
theorem sqt_ty {a : Addr} {xs : List V} (h : SqT K H a xs) : TyX K H (.ref a) (.type "tuple") := by
  rcases h with (h | ⟨o, h⟩) | ⟨o, its, n, h, c, _⟩
  · exact .base (.tup h)
  · exact .fTuple h
  · exact .kTuple h c
end
/-- isinstance(.., (list, tuple)) -/
theorem ty_lt_list {K : PySem.W.Frag} : PySem.W.kitAny K (.type "list") [.type "list", .type "tuple"] = some true := kitAny_cons (b := true) (kit_ty (by decide +kernel)) (fun h => nomatch h) (fun _ => rfl)
theorem ty_lt_tuple {K : PySem.W.Frag} : PySem.W.kitAny K (.type "tuple") [.type "list", .type "tuple"] = some true :=
  kitAny_cons (b := false) (kit_ty (by decide +kernel)) (fun _ => kitAny_cons (b := true) (kit_ty (by decide +kernel)) (fun h => nomatch h) (fun _ => rfl)) (fun h => nomatch h)
theorem ty_lt_str {K : PySem.W.Frag} : PySem.W.kitAny K (.type "str") [.type "list", .type "tuple"] = some false :=
  kitAny_cons (b := false) (kit_ty (by decide +kernel)) (fun _ => kitAny_cons (b := false) (kit_ty (by decide +kernel)) (fun _ => kitAny_nil) (fun h => nomatch h)) (fun h => nomatch h)
theorem ty_bs_str {K : PySem.W.Frag} : PySem.W.kitAny K (.type "str") [.type "bool", .type "str"] = some true :=
  kitAny_cons (b := false) (kit_ty (by decide +kernel)) (fun _ => kitAny_cons (b := true) (kit_ty (by decide +kernel)) (fun h => nomatch h) (fun _ => rfl)) (fun h => nomatch h)
theorem cls_lt : Paired ClsV [.ty "list", .ty "tuple"] [.type "list", .type "tuple"] := .cons (.ty _) (.cons (.ty _) .nil)
theorem cls_bs : Paired ClsV [.ty "bool", .ty "str"] [.type "bool", .type "str"] := .cons (.ty _) (.cons (.ty _) .nil)
/-! ### comprehensions over zip -/
section
variable {K : PySem.W.Frag}
theorem walk_zipT {a b : Addr} {xs ys : List V} {n : Nat} (hn : n = min xs.length ys.length) : Walk (RZ.ItzT K a b) n (fun H => SqT K H a xs ∧ SqT K H b ys) (YPair (fun i => xs[i]?) (fun i => ys[i]?)) := by
  subst hn
  refine ⟨fun i _ hi q => ?_, fun _ q => ⟨xs, ys, q.1, q.2, by omega⟩, fun i H v H' _ q y => ?_⟩
  · have h1 : i < xs.length := by omega
    have h2 : i < ys.length := by omega
    exact ⟨xs, ys, xs[i], ys[i], q.1, q.2, List.getElem?_eq_getElem h1, List.getElem?_eq_getElem h2⟩
  · obtain ⟨T, x, z, h1, h2, h3, h4, h5⟩ := y
    exact ⟨T, x, z, h1, h2, h3, h4 xs q.1, h5 ys q.2⟩
def LcZ (K : PySem.W.Frag) (g : TG) (tt : TT) (te : TE) (vs : List Nat) (σ : L2.St) (Q : VK) (zs : List V) (H1 : Hp) : Prop :=
  ∃ a b xs ys, zs = [.ref a, .ref b] ∧ ((SqL K H1 a xs ∧ SqL K H1 b ys ∧ LcR g tt te vs σ Q (Itz K a b) H1) ∨ (SqT K H1 a xs ∧ SqT K H1 b ys ∧ LcR g tt te vs σ Q (RZ.ItzT K a b) H1))
def tLcZ (K : PySem.W.Frag) (ta : TA) (g : TG) (tt : TT) (te : TE) (vs : List Nat) : TE := fun σ H Q => ta σ H fun zs H1 => LcZ K g tt te vs σ Q zs H1
theorem lc_zip {a b : Addr} {xs ys : List V} {g : TG} {tt : TT} {te : TE} {vs : List Nat} {σ : L2.St} {H1 : Hp} {Q : VK} (hl : xs.length = ys.length) (hx : (SqL K H1 a xs ∧ SqL K H1 b ys) ∨ (SqT K H1 a xs ∧ SqT K H1 b ys)) (Pv : Addr → Nat → Hp → Prop)
    (h0 : ∀ D, H1 D = none → Pv D 0 (upd H1 D (.lst []))) (hs1 : ∀ D i H, H1 D = none → Pv D i H → Same H1 H)
    (hs : ∀ D i x y T H, H1 D = none → xs[i]? = some x → ys[i]? = some y → H T = none → Pv D i H → g (.ref T) (wipe σ vs) (upd H T (.tup [x, y])) fun σ2 H2 => wipe σ2 vs = wipe σ vs ∧ tt σ2 H2 fun b H3 =>
      if b = true then te σ2 H3 fun z H4 => ∃ acc, H4 D = some (.lst acc) ∧ acc.length < sizeLine ∧ Pv D (i + 1) (upd H4 D (.lst (acc ++ [z]))) else Pv D (i + 1) H3)
    (hd : ∀ D H, H1 D = none → Pv D xs.length H → Q (.ref D) H) : LcZ K g tt te vs σ Q [.ref a, .ref b] H1 := by
  have hn : xs.length = min xs.length ys.length := by omega
  refine ⟨a, b, xs, ys, rfl, ?_⟩
  rcases hx with ⟨h1, h2⟩ | ⟨h1, h2⟩
  · refine .inl ⟨h1, h2, fun D nD => lc_it (walk_zip (K := K) (a := a) (b := b) hn) (Pv D) (h0 D nD) (fun i H _ q => ⟨(hs1 D i H nD q).seq h1, (hs1 D i H nD q).seq h2⟩) (fun i x H H' _ q y => ?_) fun H q => hd D H nD q⟩
    obtain ⟨T, x1, y1, rfl, nT, rfl, e1, e2⟩ := y
    exact hs D i x1 y1 T H nD e1 e2 nT q
  · refine .inr ⟨h1, h2, fun D nD => lc_it (walk_zipT (K := K) (a := a) (b := b) hn) (Pv D) (h0 D nD) (fun i H _ q => ⟨st_tup (hs1 D i H nD q) h1, st_tup (hs1 D i H nD q) h2⟩) (fun i x H H' _ q y => ?_) fun H q => hd D H nD q⟩
    obtain ⟨T, x1, y1, rfl, nT, rfl, e1, e2⟩ := y
    exact hs D i x1 y1 T H nD e1 e2 nT q
theorem pe_lcZ {X : Cx} {elt e e2 : Expr} {elts ifs : List Expr} {kk : Nat} {tpos p zpos : Pos} {scope : Scope} {own : List (Str × Nat)} {pos : Pos} {ta : TA} {g : TG} {tt : TT} {te : TE} (hc : X.calm = true) (hN : X.N.Nodup) (hgz : Gl X "zip") (hmz : X.mg "zip" = none) (ha : PA X [e, e2] ta) (ok : BlkOk X.N X.env.scope scope own)
    (hg : ∀ (s : Shared) (H : Hp) (C : Addr) (cl : List (Str × Addr)) (fp : List Addr), PG (X.blk s H scope (compEnvC scope cl C X.env) fp) (.Tuple elts kk tpos) g) (ht : ∀ (s : Shared) (H : Hp) (C : Addr) (cl : List (Str × Addr)) (fp : List Addr), PTs (X.blk s H scope (compEnvC scope cl C X.env) fp) ifs tt)
    (he : ∀ (s : Shared) (H : Hp) (C : Addr) (cl : List (Str × Addr)) (fp : List Addr), PE (X.blk s H scope (compEnvC scope cl C X.env) fp) elt te)
    (hs : starEach [e, e2] X.env = (false, eval e X.env) :: starEach [e2] X.env := by rfl) (hpl : (backTo zpos (starEach [e2] X.env)).any (·.1) = false := by rfl)
    (hf : ∀ x, foldedSetIterable (.Call (.Name "zip" p) [e, e2] [] zpos) X.env x = pure x := by intro _; rfl) :
    PE X (.ListComp elt [⟨.Tuple elts kk tpos, .Call (.Name "zip" p) [e, e2] [] zpos, ifs, 0⟩] scope pos) (tLcZ X.K ta g tt te (own.map (·.2))) := pe_lc hc hN (RZ.pi_zipA hgz hmz ha hs hpl) ok hg ht he hf
end
end Cx

namespace Cx
open PySem PySem.Spec PyProof.Rows L2
theorem no_call {P : Program} {w : World} {K : PySem.W.Frag} {mg : Str → Option Value} {base : Heap} {f : Addr} {fd : FuncData} {ps : List Str} {sp : Sp} (no : ∀ vs H Q E, ¬ sp vs H Q E) : FnOk P w K mg base CX0 0 f fd ps sp :=
  ⟨fun vs H Q E h => absurd h (no vs H Q E), fun _ _ _ H _ _ vs Q E _ _ _ _ h => absurd h (no vs H Q E)⟩
theorem all_true (n : Nat) : (List.replicate n true).all id = true := by
  induction n with
  | zero => rfl
  | succ n ih =>
    rw [List.replicate_succ, List.all_cons, ih]
    rfl
section
variable {P : Program} {w : World} {K : PySem.W.Frag} {mg : Str → Option Value} {base : Heap}
/-! ### same -/
def spSame (K : PySem.W.Frag) (n : Nat) : Sp := fun vs H Q _ => ∃ (x y : V) (D : PyData), vs = [x, y] ∧ Dp K H x D ∧ Dp K H y D ∧ SmD n D ∧ ∀ H', Same H H' → Q (.bl true) H'
theorem scSm : FnScope ["_law_got", "_law_goal", "_law_mine_so", "_law_own"] ["_law_got", "_law_goal"] (defScope sSame) := ⟨rfl, rfl, rfl, by decide +kernel, rfl, by decide +kernel, by decide +kernel⟩
structure TySm (mg : Str → Option Value) : Prop where
  isi : mg "isinstance" = none
  lst : mg "list" = none
  tup : mg "tuple" = none
  int : mg "int" = none
  bool : mg "bool" = none
  str : mg "str" = none
  len : mg "len" = none
  all : mg "all" = none
  zip : mg "zip" = none
theorem ok_same {f : Addr} {fd : FuncData} {n : Nat} (F : Fun K "_law_same" "_law_same" sSame f fd) (G : FnOk P w K mg base CX0 n f fd ["_law_got", "_law_goal"] (spSame K n)) (bG : Binds K fd ["_law_got", "_law_goal"] []) (mG : mg "_law_same" = some (.ref f)) (T : TySm mg) :
    FnOk P w K mg base CX0 (n + 1) f fd ["_law_got", "_law_goal"] (spSame K (n + 1)) := by
  refine F.ok scSm (fun vs H Q E h => ?_) (fun cdv A outer s H vs Q E hr h => ?_)
  · obtain ⟨x, y, D, rfl, _⟩ := h
    rfl
  obtain ⟨x, y, D, rfl, hx, hy, hD, k⟩ := h
  refine ⟨_, pss_cons (ps_if (pt_val (pe_callB call_isiT (by rfl) T.isi (by decide +kernel) (pa_cons (pv 1) (pa_cons (pe_tup (pa_cons (pe_bltn (v := .ty "list") (by rfl) T.lst (by decide +kernel) rfl) (pa_cons (pe_bltn (v := .ty "tuple") (by rfl) T.tup (by decide +kernel) rfl) pa_nil))) pa_nil))))
      (pss_cons (ps_if (PW.pt (pw_or
          (pt_cmpR op_ne (pe_callB call_isi (by rfl) T.isi (by decide +kernel) (pa_cons (pv 0) (pa_cons (pe_bltn (v := .ty "list") (by rfl) T.lst (by decide +kernel) rfl) pa_nil))) (pe_callB call_isi (by rfl) T.isi (by decide +kernel) (pa_cons (pv 1) (pa_cons (pe_bltn (v := .ty "list") (by rfl) T.lst (by decide +kernel) rfl) pa_nil))) (nomark _))
          (pw_or1 (pt_cmpR op_ne (pe_callB call_isi (by rfl) T.isi (by decide +kernel) (pa_cons (pv 0) (pa_cons (pe_bltn (v := .ty "tuple") (by rfl) T.tup (by decide +kernel) rfl) pa_nil))) (pe_callB call_isi (by rfl) T.isi (by decide +kernel) (pa_cons (pv 1) (pa_cons (pe_bltn (v := .ty "tuple") (by rfl) T.tup (by decide +kernel) rfl) pa_nil))) (nomark _)))))
        (pss_one (ps_ret pe_bl)) pss_nil)
      (pss_one (ps_ret (pe_and (pe_cmpR op_eq (pe_callB call_len_seq (by rfl) T.len PySem.boot_len (pa_cons (pv 0) pa_nil)) (pe_callB call_len_seq (by rfl) T.len PySem.boot_len (pa_cons (pv 1) pa_nil)) (nomark _))
        (pe_one (pe_callB (cr_all rfl) (by rfl) T.all (by decide +kernel) (pa_cons
          (pe_lcZ (own := [("_law_mine_so", 2), ("_law_own", 3)]) (g := gTup K 2 (gCons (gName 2) (gCons (gName 3) gNil))) (tt := tYes) rfl scSm.nd (by rfl) T.zip (pa_cons (pv 0) (pa_cons (pv 1) pa_nil)) (blkOk_by (N := ["_law_got", "_law_goal", "_law_mine_so", "_law_own"]) (sc := defScope sSame) (by decide +kernel))
            (fun _ _ _ _ _ => pg_tup rfl (pgs_cons (pg_name (i := 2) scSm.nd rfl (.inl rfl)) (pgs_cons (pg_name (i := 3) scSm.nd rfl (.inl rfl)) pgs_nil))) (fun _ _ _ _ _ => pts_nil) (fun _ _ _ _ _ => pe_call G hr (by rfl) mG F.kp bG .nil pass0 (pa_cons (pv 2) (pa_cons (pv 3) pa_nil)))) pa_nil))))))) pss_nil)
    (pss_cons (ps_if (PW.pt (pw_or (pt_cmpR op_isN (pv 1) pe_non (nomark _)) (pw_or1 (pt_val (pe_callB call_isiT (by rfl) T.isi (by decide +kernel) (pa_cons (pv 1) (pa_cons (pe_tup (pa_cons (pe_bltn (v := .ty "bool") (by rfl) T.bool (by decide +kernel) rfl) (pa_cons (pe_bltn (v := .ty "str") (by rfl) T.str (by decide +kernel) rfl) pa_nil))) pa_nil)))))))
      (pss_one (ps_ret (pe_and (pe_cmpR op_eq (pv 0) (pv 1) (nomark _)) (pe_and (pe_cmpR op_eq (pe_callB call_isi (by rfl) T.isi (by decide +kernel) (pa_cons (pv 0) (pa_cons (pe_bltn (v := .ty "bool") (by rfl) T.bool (by decide +kernel) rfl) pa_nil))) (pe_callB call_isi (by rfl) T.isi (by decide +kernel) (pa_cons (pv 1) (pa_cons (pe_bltn (v := .ty "bool") (by rfl) T.bool (by decide +kernel) rfl) pa_nil))) (nomark _))
        (pe_one (pe_cmpR op_eq (pe_cmpR op_isN (pv 0) pe_non (nomark _)) (pe_cmpR op_isN (pv 1) pe_non (nomark _)) (nomark _))))))) pss_nil)
    (pss_one (ps_ret (pe_and (pe_callB call_isi (by rfl) T.isi (by decide +kernel) (pa_cons (pv 0) (pa_cons (pe_bltn (v := .ty "int") (by rfl) T.int (by decide +kernel) rfl) pa_nil))) (pe_and (pe_not (pe_callB call_isi (by rfl) T.isi (by decide +kernel) (pa_cons (pv 0) (pa_cons (pe_bltn (v := .ty "bool") (by rfl) T.bool (by decide +kernel) rfl) pa_nil))))
      (pe_one (pe_cmpR op_eq (pv 0) (pv 1) (nomark _)))))))), ?_⟩
  refine ⟨y, rfl, by show 2 ≤ sizeLine; decide, fun t nt => ?_⟩
  have s1 : Same H (upd H t (.tup [.ty "list", .ty "tuple"])) := same_new nt
  have ht : upd H t (.tup [.ty "list", .ty "tuple"]) t = some (.tup [.ty "list", .ty "tuple"]) := upd_same
  generalize upd H t (.tup [.ty "list", .ty "tuple"]) = H1 at s1 ht ⊢
  have hx1 := dp_same s1 hx
  have hy1 := dp_same s1 hy
  have shape : (∃ z, x = .str z ∧ y = .str z) ∨ ∃ (a b : Addr) (xs ys : List V) (ds : List PyData) (tn : String) (l m : Bool), x = .ref a ∧ y = .ref b ∧ ((SqL K H1 a xs ∧ SqL K H1 b ys) ∨ (SqT K H1 a xs ∧ SqT K H1 b ys)) ∧ DpAll K H1 xs ds ∧ DpAll K H1 ys ds ∧ ds.length ≤ 900 ∧ (∀ d ∈ ds, SmD n d) ∧
      TyX K H1 (.ref a) (.type tn) ∧ TyX K H1 (.ref b) (.type tn) ∧ PySem.W.kitOne K (.type tn) (.type "list") = some l ∧ PySem.W.kitOne K (.type tn) (.type "tuple") = some m ∧ PySem.W.kitAny K (.type tn) [.type "list", .type "tuple"] = some true := by
    cases D with
    | str z =>
      cases hx1
      cases hy1
      exact .inl ⟨z, rfl, rfl⟩
    | list ds =>
      cases hx1 with
      | lst h1 a1 =>
        cases hy1 with
        | lst h2 a2 => exact .inr ⟨_, _, _, _, ds, "list", true, false, rfl, rfl, .inl ⟨h1, h2⟩, a1, a2, hD.1, hD.2, sql_ty h1, sql_ty h2, kit_ty (by decide +kernel), kit_ty (by decide +kernel), ty_lt_list⟩
    | tuple ds =>
      cases hx1 with
      | tup h1 a1 =>
        cases hy1 with
        | tup h2 a2 => exact .inr ⟨_, _, _, _, ds, "tuple", false, true, rfl, rfl, .inr ⟨h1, h2⟩, a1, a2, hD.1, hD.2, sqt_ty h1, sqt_ty h2, kit_ty (by decide +kernel), kit_ty (by decide +kernel), ty_lt_tuple⟩
    | none => exact False.elim hD
    | bool b => exact False.elim hD
    | int i => exact False.elim hD
    | dict kvs => exact False.elim hD
  rcases shape with ⟨z, rfl, rfl⟩ | ⟨a, b, xs, ys, ds, tn, l, m, rfl, rfl, hq, ax, ay, hlen, hall, tx, ty, k1, k2, k3⟩
  · refine ⟨_, t, _, _, _, _, rfl, ht, cls_lt, .base (.str z), ty_lt_str, _, rfl, iteF ?_⟩
    refine ⟨_, rfl, rfl, _, rfl, iteF ⟨_, rfl, by show 2 ≤ sizeLine; decide, fun v nv => ⟨_, v, _, _, _, _, rfl, upd_same, cls_bs, .base (.str z), ty_bs_str, _, rfl, iteT ?_⟩⟩⟩
    refine ⟨_, rfl, _, rfl, rfl, _, rfl, ite2 (fun _ => ?_) (fun c => absurd (decide_eq_true rfl) c)⟩
    refine ⟨_, rfl, _, _, _, _, false, rfl, .ty _, .base (.str z), kit_ty (by decide +kernel), _, rfl, _, _, _, _, false, rfl, .ty _, .base (.str z), kit_ty (by decide +kernel), rfl, _, rfl, ite2 (fun _ => ?_) (fun c => absurd (decide_eq_true rfl) c)⟩
    refine ⟨_, rfl, rfl, _, rfl, rfl, rfl, ?_⟩
    have q := k _ (s1.trans (same_new (o := .tup [.ty "bool", .ty "str"]) nv))
    exact q
  · refine ⟨_, t, _, _, _, _, rfl, ht, cls_lt, ty, k3, _, rfl, iteT ?_⟩
    refine ⟨_, rfl, _, _, _, _, l, rfl, .ty _, tx, k1, _, rfl, _, _, _, _, l, rfl, .ty _, ty, k1, rfl, _, rfl, iteNS rfl ?_⟩
    refine ⟨_, rfl, _, _, _, _, m, rfl, .ty _, tx, k2, _, rfl, _, _, _, _, m, rfl, .ty _, ty, k2, rfl, _, rfl, iteNS rfl ?_⟩
    have lx := dpa_len ax
    have ly := dpa_len ay
    refine ⟨_, rfl, a, xs, rfl, hq.imp (fun z => z.1) (fun z => z.1), _, rfl, b, ys, rfl, hq.imp (fun z => z.2) (fun z => z.2), rfl, _, rfl, ite2 (fun _ => ?_) (fun c => absurd (decide_eq_true (by rw [lx, ly])) c)⟩
    refine ⟨_, rfl, _, rfl, ?_⟩
    refine lc_zip (xs := xs) (ys := ys) (by rw [lx, ly]) hq (fun D i H' => Same H1 H' ∧ H' D = some (.lst ((List.replicate i true).map V.bl))) (fun D nD => ⟨same_new nD, upd_same⟩) (fun D i H' _ q => q.1) (fun D i x y T' H' nD ex ey nT ⟨s2, hD'⟩ => ?_) (fun D H' nD ⟨s2, hD'⟩ => ?_)
    · obtain ⟨d, ed, dx⟩ := dpa_at ax ex
      obtain ⟨d', ed', dy⟩ := dpa_at ay ey
      rw [ed] at ed'
      cases ed'
      have s3 := s2.trans (same_new (o := .tup [x, y]) nT)
      have hi := (List.getElem?_eq_some_iff.mp ed).1
      refine ⟨T', _, rfl, .inl (.inl upd_same), rfl, _, _, rfl, _, _, rfl, rfl, rfl, ?_⟩
      refine ⟨x, rfl, y, rfl, x, y, d, rfl, dp_same s3 dx, dp_same s3 dy, hall d (List.mem_of_getElem? ed), fun H4 s4 => ?_⟩
      have hD4 := s4 _ _ ((same_new (o := .tup [x, y]) nT) _ _ hD')
      refine ⟨_, hD4, ?_, fun c o e => ?_, ?_⟩
      · rw [List.length_map, List.length_replicate]
        exact small1000 (by omega)
      · rw [upd_ne (ne_of_none e nD)]
        exact s4 _ _ (s3 c o e)
      · rw [upd_same, List.replicate_succ', List.map_append]
        rfl
    · refine ⟨D, _, rfl, SqL.of hD', ?_⟩
      rw [all_true]
      exact k _ (s1.trans s2)
end
end Cx

namespace Cx
open PySem PySem.Spec PyProof.Rows L2
section
variable {P : Program} {w : World} {K : PySem.W.Frag} {mg : Str → Option Value} {base : Heap}
/-- a text, or a list or tuple -/
theorem dp_shape {H : Hp} {x : V} {D : PyData} {n : Nat} (hx : Dp K H x D) (hD : SmD (n + 1) D) : (∃ z, x = .str z ∧ D = .str z) ∨ ∃ (xs : List V) (ds : List PyData) (tn : String), SeqV K H x xs ∧ DpAll K H xs ds ∧ ds.length ≤ 900 ∧ (∀ d ∈ ds, SmD n d) ∧ (D = .list ds ∨ D = .tuple ds) ∧
    (∀ H', Same H H' → TyX K H' x (.type tn)) ∧ PySem.W.kitAny K (.type tn) [.type "list", .type "tuple"] = some true := by
  cases D with
  | str z =>
    cases hx
    exact .inl ⟨z, rfl, rfl⟩
  | list ds =>
    cases hx with
    | lst h1 a1 => exact .inr ⟨_, ds, "list", ⟨_, rfl, .inl h1⟩, a1, hD.1, hD.2, .inl rfl, fun _ s => sql_ty (s.seq h1), ty_lt_list⟩
  | tuple ds =>
    cases hx with
    | tup h1 a1 => exact .inr ⟨_, ds, "tuple", ⟨_, rfl, .inr h1⟩, a1, hD.1, hD.2, .inr rfl, fun _ s => sqt_ty (st_tup s h1), ty_lt_tuple⟩
  | none => exact False.elim hD
  | bool b => exact False.elim hD
  | int i => exact False.elim hD
  | dict kvs => exact False.elim hD
/-! ### lists -/
def spLists (K : PySem.W.Frag) (n : Nat) : Sp := fun vs H Q _ => ∃ (us : List Addr) (x : V) (D : PyData), vs = [x] ∧ AllIn us H ∧ Dp K (hid us H) x D ∧ SmD n D ∧ ∀ y H', Same H H' → Dp K (hid us H') y (lstD D) → Q y H'
theorem scLs : FnScope ["_law_matter", "_law_bit"] ["_law_matter"] (defScope sLists) := ⟨rfl, rfl, rfl, by decide +kernel, rfl, by decide +kernel, by decide +kernel⟩
theorem ok_lists {f : Addr} {fd : FuncData} {n : Nat} (F : Fun K "_law_lists" "_law_lists" sLists f fd) (G : FnOk P w K mg base CX0 n f fd ["_law_matter"] (spLists K n)) (bG : Binds K fd ["_law_matter"] []) (mG : mg "_law_lists" = some (.ref f)) (T : TySm mg) :
    FnOk P w K mg base CX0 (n + 1) f fd ["_law_matter"] (spLists K (n + 1)) := by
  refine F.ok scLs (fun vs H Q E h => ?_) (fun cdv A outer s H vs Q E hr h => ?_)
  · obtain ⟨us, x, D, rfl, _⟩ := h
    rfl
  obtain ⟨us, x, dd, rfl, ain, hx, hD, k⟩ := h
  refine ⟨_, pss_one (ps_ret (pe_ifExp (pt_val (pe_callB call_isiT (by rfl) T.isi (by decide +kernel) (pa_cons (pv 0) (pa_cons (pe_tup (pa_cons (pe_bltn (v := .ty "list") (by rfl) T.lst (by decide +kernel) rfl) (pa_cons (pe_bltn (v := .ty "tuple") (by rfl) T.tup (by decide +kernel) rfl) pa_nil))) pa_nil))))
    (pe_lcA (own := [("_law_bit", 1)]) (g := gName 1) (tt := tYes) rfl scLs.nd (pv 0) (blkOk_by (N := ["_law_matter", "_law_bit"]) (sc := defScope sLists) (by decide +kernel))
      (fun _ _ _ _ _ => pg_name (i := 1) scLs.nd rfl (.inl rfl)) (fun _ _ _ _ _ => pts_nil) (fun _ _ _ _ _ => pe_call G hr (by rfl) mG F.kp bG .nil pass0 (pa_cons (pv 1) pa_nil))) (pv 0))), ?_⟩
  refine ⟨x, rfl, by show 2 ≤ sizeLine; decide, fun t nt => ?_⟩
  have s1 : Same H (upd H t (.tup [.ty "list", .ty "tuple"])) := same_new nt
  have ht : upd H t (.tup [.ty "list", .ty "tuple"]) t = some (.tup [.ty "list", .ty "tuple"]) := upd_same
  generalize upd H t (.tup [.ty "list", .ty "tuple"]) = H1 at s1 ht ⊢
  have hx1 := dp_same (hid_same s1) hx
  have ain1 : AllIn us H1 := fun v m => same_in s1 (ain v m)
  rcases dp_shape hx1 hD with ⟨z, rfl, rfl⟩ | ⟨xs, ds, tn, hq, ax, hlen, hall, hd, tx, k3⟩
  · refine ⟨_, t, _, _, _, _, rfl, ht, cls_lt, .base (.str z), ty_lt_str, _, rfl, iteF ?_⟩
    exact ⟨_, rfl, k _ _ s1 (.str z)⟩
  · refine ⟨_, t, _, _, _, _, rfl, ht, cls_lt, tx _ hid_le, k3, _, rfl, iteT ?_⟩
    refine ⟨x, rfl, ?_⟩
    have lx := dpa_len ax
    refine lc_any hq (Stays.of hid_le) (fun D i H' => ∃ zs : List V, Same H1 H' ∧ H' D = some (.lst zs) ∧ DpAll K (hid (D :: us) H') zs ((ds.take i).map lstD)) (fun D nD => ⟨[], same_new nD, upd_same, .nil⟩) (fun D i H' _ ⟨_, s2, _⟩ => Stays.of ((hid_same s2).trans hid_le))
      (fun D i y H' nD ey ⟨zs, s2, hD', az⟩ => ?_) (fun D H' nD ⟨zs, s2, hD', az⟩ => ?_)
    · obtain ⟨d, ed, dx⟩ := dpa_at ax ey
      have hi := (List.getElem?_eq_some_iff.mp ed).1
      have lz := dpa_len az
      rw [List.length_map, List.length_take] at lz
      have dx2 : Dp K (hid (D :: us) H') y d := dp_same (hid_more (hid_same s2) nD) dx
      refine ⟨rfl, y, rfl, D :: us, y, d, rfl, AllIn.cons (fun v m => same_in s2) ain1 hD', dx2, hall d (List.mem_of_getElem? ed), fun y2 H2 s3 dy => ?_⟩
      refine ⟨zs, s3 _ _ hD', small1000 (by omega), zs ++ [y2], fun b o e => ?_, upd_same, ?_⟩
      · rw [upd_ne (ne_of_none e nD)]
        exact s3 _ _ (s2 b o e)
      · rw [hid_put List.mem_cons_self, List.take_add_one, ed, List.map_append]
        exact dpa_snoc dy (dpa_same (hid_same s3) az)
    · rw [lx, List.take_length] at az
      have nu : D ∉ us := ain1.not nD
      have e : lstD dd = .list (ds.map lstD) := by
        rcases hd with rfl | rfl
        · exact congrArg PyData.list (lstDs_map ds)
        · exact congrArg PyData.list (lstDs_map ds)
      refine k _ _ (s1.trans s2) ?_
      rw [e]
      exact .lst (.inl (.inl (by rw [hid_out nu]; exact hD'))) (dpa_same hid_less az)
end
end Cx

/-! the state of a sheet that is drawn -/
namespace Cx
open PySem PySem.Spec PyProof.Rows L2
theorem nodup_le : ∀ {L ys : List Str}, L.Nodup → (∀ j ∈ L, j ∈ ys) → L.length ≤ ys.length
  | [], _, _, _ => Nat.zero_le _
  | x :: L, ys, nd, h => by
    have hx : x ∈ ys := h x List.mem_cons_self
    have nd2 := List.nodup_cons.mp nd
    have ih := nodup_le (L := L) (ys := ys.erase x) nd2.2 fun j m => (List.mem_erase_of_ne fun (e : j = x) => nd2.1 (e ▸ m)).mpr (h j (List.mem_cons_of_mem _ m))
    rw [List.length_erase_of_mem hx] at ih
    have : 0 < ys.length := List.length_pos_of_mem hx
    rw [List.length_cons]
    omega
theorem rep01 {H : Hp} {l : Addr} {xs : List V} {b : Bool} {Q : VK} (hH : H l = some (.lst xs)) (hz : xs.length ≤ 1000) (q : ∀ p, H p = none → Q (.ref p) (upd H p (.lst (if b = true then xs else [])))) : rRep (.ref l) (.int (if b = true then 1 else 0)) H Q := by
  cases b with
  | true =>
    refine ⟨l, 1, xs, rfl, rfl, hH, by decide, by decide, by rw [Int.toNat_one, Nat.mul_one]; exact Nat.le_of_lt (small1000 hz), fun p np => ?_⟩
    have e : (List.replicate (1 : Int).toNat xs).flatten = xs := by
      show ([xs] : List (List V)).flatten = xs
      simp
    rw [e]
    exact q p np
  | false =>
    exact ⟨l, 0, xs, rfl, rfl, hH, by decide, by decide, Nat.zero_le _, fun p np => q p np⟩
theorem cut_str (ys : List Str) (lo hi : Option Int) : ∃ zs : List Str, cutV (ys.map V.str) lo hi = zs.map V.str ∧ zs.length ≤ ys.length ∧ ∀ z ∈ zs, z ∈ ys := by
  refine ⟨(ys.drop (HT.sIx ys.length 0 lo)).take (HT.sIx ys.length ys.length hi - HT.sIx ys.length 0 lo), ?_, ?_, fun z m => List.mem_of_mem_drop (List.mem_of_mem_take m)⟩
  · unfold cutV
    rw [List.length_map, List.map_take, List.map_drop]
  · rw [List.length_take, List.length_drop]
    omega
theorem cut_s1 (ys : List Str) (t : Nat) : cutV (ys.map V.str) none (some (t : Int)) = (ys.take t).map V.str := by
  unfold cutV
  rw [List.length_map, HT.sIx_none, HT.sIx_nat, List.drop_zero, Nat.sub_zero, ← List.map_take]
  congr 1
  by_cases h : t ≤ ys.length
  · rw [Nat.min_eq_left h]
  · rw [Nat.min_eq_right (by omega), List.take_length, List.take_of_length_le (by omega)]
theorem cut_s2 (ys : List Str) (m e : Nat) : ∃ zs : List Str, cutV (ys.map V.str) (some (m : Int)) (some ((m : Int) + (e : Int))) = zs.map V.str ∧ zs.length ≤ e ∧ zs.length ≤ ys.length ∧ ∀ z ∈ zs, z ∈ ys := by
  refine ⟨(ys.drop (HT.sIx ys.length 0 (some (m : Int)))).take (HT.sIx ys.length ys.length (some ((m + e : Nat) : Int)) - HT.sIx ys.length 0 (some (m : Int))), ?_, ?_, ?_, fun z h => List.mem_of_mem_drop (List.mem_of_mem_take h)⟩
  · unfold cutV
    rw [List.length_map, List.map_take, List.map_drop]
    rfl
  · rw [List.length_take, HT.sIx_nat, HT.sIx_nat]
    omega
  · rw [List.length_take, List.length_drop]
    omega
theorem if_map {b : Bool} {zs : List Str} : (if b = true then zs.map V.str else []) = (if b = true then zs else []).map V.str := by
  cases b
  · rfl
  · rfl
theorem if_le {α : Type} {b : Bool} {zs : List α} : (if b = true then zs else []).length ≤ zs.length := by
  cases b
  · exact Nat.zero_le _
  · exact Nat.le_refl _
theorem if_mem {α : Type} {b : Bool} {zs : List α} {z : α} (h : z ∈ (if b = true then zs else [])) : z ∈ zs := by
  cases b
  · cases h
  · exact h
theorem rep01s {H : Hp} {l : Addr} {xs : List Str} {b : Bool} {Q : VK} (hH : H l = some (.lst (xs.map V.str))) (hz : xs.length ≤ 1000) (q : ∀ p (zs : List Str), H p = none → zs.length ≤ xs.length → (∀ y ∈ zs, y ∈ xs) → Q (.ref p) (upd H p (.lst (zs.map V.str)))) :
    rRep (.ref l) (.int (if b = true then 1 else 0)) H Q := rep01 hH (by rw [List.length_map]; exact hz) fun p np => by
  rw [if_map]
  exact q p _ np if_le fun y m => if_mem m
theorem cats {H : Hp} {l b : Addr} {xs zs : List Str} {Q : VK} (h1 : H l = some (.lst (xs.map V.str))) (h2 : H b = some (.lst (zs.map V.str))) (hz : xs.length + zs.length ≤ 1000) (q : ∀ p, H p = none → Q (.ref p) (upd H p (.lst ((xs ++ zs).map V.str)))) : rCat (.ref l) (.ref b) H Q := by
  refine ⟨l, b, _, _, rfl, rfl, h1, h2, by rw [List.length_map, List.length_map]; exact Nat.le_of_lt (small1000 hz), fun p np => ?_⟩
  rw [← List.map_append]
  exact q p np
theorem sl_s {K : PySem.W.Frag} {H : Hp} {a : Addr} {ys : List Str} {lo hi : Option Int} {Q : VK} (h : H a = some (.lst (ys.map V.str))) (q : ∀ p (zs : List Str), H p = none → zs.length ≤ ys.length → (∀ z ∈ zs, z ∈ ys) → Q (.ref p) (upd H p (.lst (zs.map V.str)))) : rSlL K (.ref a) lo hi H Q := by
  refine ⟨a, _, rfl, SqL.of h, fun p np => ?_⟩
  obtain ⟨zs, e, l1, m1⟩ := cut_str ys lo hi
  rw [e]
  exact q p zs np l1 m1
theorem at_s {fo : List Str} {i : Nat} (h : i < fo.length) : atI (fo.map V.str) ((i : Nat) : Int) = some (.str fo[i]) := atI_nat (by rw [List.getElem?_map, List.getElem?_eq_getElem h]; rfl)
/-- what the dict at T holds: for each of these names a list of texts -/
def Tab (u T : Addr) (H0 : Hp) (fx : List (Addr × List Str)) (ys names : List Str) (B : Nat) (H : Hp) : Prop := ∃ kvs : List (Key × V), H T = some (.dK kvs) ∧ kvs.length ≤ names.length ∧
  ∀ z ∈ names, ∃ (a : Addr) (ws : List Str), valV kvs (.inr z) = some (.ref a) ∧ H a = some (.lst (ws.map V.str)) ∧ ws.length ≤ B ∧ (∀ y ∈ ws, y ∈ ys) ∧ H0 a = none ∧ a ≠ u ∧ a ≠ T ∧ ∀ p ∈ fx, a ≠ p.1
structure TmI (u T : Addr) (H0 : Hp) (fx : List (Addr × List Str)) (ys names : List Str) (c B : Nat) (H : Hp) : Prop where
  kp : Keep u H0 H
  U : UrnAt u H c
  Tu : T ≠ u
  T0 : H0 T = none
  fs : ∀ p ∈ fx, p.1 ≠ u ∧ p.1 ≠ T ∧ H p.1 = some (.lst (p.2.map V.str))
  tb : Tab u T H0 fx ys names B H
section
variable {u T : Addr} {H0 H H2 : Hp} {fx : List (Addr × List Str)} {ys names : List Str} {c c2 B B2 : Nat}
theorem TmI.keep (I : TmI u T H0 fx ys names c B H) (k : Keep u H H2) (U2 : UrnAt u H2 c2) : TmI u T H0 fx ys names c2 B H2 := by
  obtain ⟨kvs, ht, hl, h⟩ := I.tb
  refine ⟨I.kp.trans k, U2, I.Tu, I.T0, fun p m => ⟨(I.fs p m).1, (I.fs p m).2.1, k _ _ (I.fs p m).1 (I.fs p m).2.2⟩, kvs, k T _ I.Tu ht, hl, fun z m => ?_⟩
  obtain ⟨a, ws, e1, e2, e3, e4, e5, e6, r⟩ := h z m
  exact ⟨a, ws, e1, k a _ e6 e2, e3, e4, e5, e6, r⟩
theorem TmI.le (I : TmI u T H0 fx ys names c B H) (h1 : c ≤ c2) (h2 : B ≤ B2) : TmI u T H0 fx ys names c2 B2 H := by
  obtain ⟨kvs, ht, hl, h⟩ := I.tb
  refine ⟨I.kp, I.U.le h1, I.Tu, I.T0, I.fs, kvs, ht, hl, fun z m => ?_⟩
  obtain ⟨a, ws, e1, e2, e3, r⟩ := h z m
  exact ⟨a, ws, e1, e2, Nat.le_trans e3 h2, r⟩
theorem TmI.new {p : Addr} {o : HO} (I : TmI u T H0 fx ys names c B H) (np : H p = none) : TmI u T H0 fx ys names c B (upd H p o) := I.keep (keep_new np) (I.U.upd (I.U.ne np))
theorem TmI.ne (I : TmI u T H0 fx ys names c B H) {p : Addr} (np : H p = none) : p ≠ T := by
  obtain ⟨kvs, ht, _⟩ := I.tb
  exact (ne_of_none ht np).symm
theorem TmI.fne (I : TmI u T H0 fx ys names c B H) {p : Addr} (np : H p = none) : ∀ q ∈ fx, p ≠ q.1 := fun q m => (ne_of_none (I.fs q m).2.2 np).symm
theorem TmI.fix {p : Addr} {zs : List Str} (I : TmI u T H0 fx ys names c B H) (np : H p = none) : TmI u T H0 ((p, zs) :: fx) ys names c B (upd H p (.lst (zs.map V.str))) := by
  have J := I.new (o := .lst (zs.map V.str)) np
  obtain ⟨kvs, ht, hl, h⟩ := I.tb
  refine ⟨J.kp, J.U, J.Tu, J.T0, fun q m => ?_, kvs, by rw [upd_ne (I.ne np).symm]; exact ht, hl, fun z m => ?_⟩
  · rcases List.mem_cons.mp m with e | m
    · subst e
      exact ⟨I.U.ne np, I.ne np, upd_same⟩
    · exact J.fs q m
  · obtain ⟨a, ws, e1, e2, e3, e4, e5, e6, e7, e8⟩ := h z m
    have hne := ne_of_none e2 np
    refine ⟨a, ws, e1, by rw [upd_ne hne]; exact e2, e3, e4, e5, e6, e7, fun q m2 => ?_⟩
    rcases List.mem_cons.mp m2 with e | m2
    · subst e
      exact hne
    · exact e8 q m2
theorem TmI.drop {q : Addr × List Str} (I : TmI u T H0 (q :: fx) ys names c B H) : TmI u T H0 fx ys names c B H := by
  obtain ⟨kvs, ht, hl, h⟩ := I.tb
  refine ⟨I.kp, I.U, I.Tu, I.T0, fun p m => I.fs p (List.mem_cons_of_mem _ m), kvs, ht, hl, fun z m => ?_⟩
  obtain ⟨a, ws, e1, e2, e3, e4, e5, e6, e7, e8⟩ := h z m
  exact ⟨a, ws, e1, e2, e3, e4, e5, e6, e7, fun p m => e8 p (List.mem_cons_of_mem _ m)⟩
/-- a list of texts, new, put under one more name -/
theorem TmI.put {a : Addr} {ws : List Str} {z : Str} (I : TmI u T H0 fx ys names c B H) (na : H a = none) (hw : ws.length ≤ B) (hm : ∀ y ∈ ws, y ∈ ys) (hn : names.length ≤ 900) :
    ∃ H4, DPut (upd H a (.lst (ws.map V.str))) T (.str z) (.ref a) H4 ∧ TmI u T H0 fx ys (names ++ [z]) c B H4 := by
  have J := I.new (o := .lst (ws.map V.str)) na
  have nf := I.fne na
  have au := I.U.ne na
  have aT := I.ne na
  have a0 : H0 a = none := I.kp.free au na
  have ha : upd H a (.lst (ws.map V.str)) a = some (.lst (ws.map V.str)) := upd_same
  generalize upd H a (.lst (ws.map V.str)) = H1 at J ha ⊢
  obtain ⟨kvs, ht, hl, h⟩ := J.tb
  refine ⟨_, DPut.k (k := Sum.inr z) ht (small1000 (by omega)), J.kp.put J.T0, J.U.upd J.Tu, J.Tu, J.T0, fun p m => ⟨(J.fs p m).1, (J.fs p m).2.1, by rw [upd_ne (J.fs p m).2.1]; exact (J.fs p m).2.2⟩, _, upd_same, ?_, fun y m => ?_⟩
  · have := length_putK kvs (Sum.inr z) (V.ref a)
    rw [List.length_append]
    show _ ≤ names.length + 1
    omega
  · by_cases e : (Sum.inr y : Key) = Sum.inr z
    · refine ⟨a, ws, by rw [valV_put, if_pos e], by rw [upd_ne aT]; exact ha, hw, hm, a0, au, aT, nf⟩
    · have m2 : y ∈ names := by
        rcases List.mem_append.mp m with m | m
        · exact m
        · exact absurd (congrArg Sum.inr (List.mem_singleton.mp m)) e
      obtain ⟨b, vs, e1, e2, e3, e4, e5, e6, e7, e8⟩ := h y m2
      exact ⟨b, vs, by rw [valV_put, if_neg e]; exact e1, by rw [upd_ne e7]; exact e2, e3, e4, e5, e6, e7, e8⟩
/-- what stands under a name, and one text more at its end -/
theorem TmI.app {z : Str} (I : TmI u T H0 fx ys names c B H) (m : z ∈ names) : ∃ (a : Addr) (ws : List Str), DGet H T (.str z) (some (.ref a)) ∧ H a = some (.lst (ws.map V.str)) ∧ ws.length ≤ B ∧ (∀ y ∈ ws, y ∈ ys) ∧
    ∀ y ∈ ys, TmI u T H0 fx ys names c (B + 1) (upd H a (.lst (ws.map V.str ++ [.str y]))) := by
  obtain ⟨kvs, ht, hl, h⟩ := I.tb
  obtain ⟨a, ws, e1, e2, e3, e4, e5, e6, e7, e8⟩ := h z m
  refine ⟨a, ws, by rw [← e1]; exact DGet.k (k := Sum.inr z) ht, e2, e3, e4, fun y my => ?_⟩
  refine ⟨I.kp.put e5, I.U.upd e6, I.Tu, I.T0, fun p mp => ⟨(I.fs p mp).1, (I.fs p mp).2.1, by rw [upd_ne (e8 p mp).symm]; exact (I.fs p mp).2.2⟩, kvs, by rw [upd_ne e7.symm]; exact ht, hl, fun x mx => ?_⟩
  obtain ⟨b, vs, f1, f2, f3, f4, f5, f6, f7, f8⟩ := h x mx
  by_cases e : b = a
  · subst e
    rw [e2] at f2
    refine ⟨b, ws ++ [y], f1, by rw [upd_same, List.map_append]; rfl, by rw [List.length_append]; show ws.length + 1 ≤ _; omega, fun v mv => ?_, f5, f6, f7, f8⟩
    rcases List.mem_append.mp mv with mv | mv
    · exact e4 v mv
    · rw [List.mem_singleton.mp mv]
      exact my
  · exact ⟨b, vs, f1, by rw [upd_ne e]; exact f2, by omega, f4, f5, f6, f7, f8⟩
theorem TmI.at {p : Addr} {xs : List Str} (I : TmI u T H0 fx ys names c B H) (m : (p, xs) ∈ fx) : H p = some (.lst (xs.map V.str)) := (I.fs _ m).2.2
end
/-! ### rows of a sheet -/
def RowAt (H : Hp) (v : V) (q : Str × List Str) : Prop := ∃ a t, v = .ref a ∧ H a = some (.tup [.str q.1, .ref t]) ∧ H t = some (.tup (q.2.map V.str))
theorem RowAt.keep {H H' : Hp} {v : V} {q : Str × List Str} (k : ∀ b xs, H b = some (.tup xs) → H' b = some (.tup xs)) (r : RowAt H v q) : RowAt H' v q := by
  obtain ⟨a, t, e, h1, h2⟩ := r
  exact ⟨a, t, e, k _ _ h1, k _ _ h2⟩
theorem tup_lst {H : Hp} {D : Addr} {xs : List V} {o : HO} (h : H D = some (.lst xs)) : ∀ b ys, H b = some (.tup ys) → upd H D o b = some (.tup ys) := fun b ys e => by
  rw [upd_ne fun c => by rw [c, h] at e; cases e]
  exact e
theorem pair_at {α β : Type} {R : α → β → Prop} : ∀ {xs : List α} {ys : List β} {i : Nat} {x : α}, Paired R xs ys → xs[i]? = some x → ∃ y, ys[i]? = some y ∧ R x y
  | _, _, 0, _, .cons h _, e => by
    cases e
    exact ⟨_, rfl, h⟩
  | _, _, i + 1, _, .cons _ t, e => pair_at (i := i) t e
theorem pair_snoc {α β : Type} {R : α → β → Prop} {x : α} {y : β} (h : R x y) : ∀ {xs : List α} {ys : List β}, Paired R xs ys → Paired R (xs ++ [x]) (ys ++ [y])
  | _, _, .nil => .cons h .nil
  | _, _, .cons g t => .cons g (pair_snoc h t)
theorem pair_perm {α β : Type} {R : α → β → Prop} {xs zs : List α} (p : zs.Perm xs) : ∀ {ys : List β}, Paired R xs ys → ∃ ws : List β, ws.Perm ys ∧ Paired R zs ws := by
  induction p with
  | nil =>
    intro ys h
    exact ⟨ys, .refl _, h⟩
  | cons x p ih =>
    intro ys h
    cases h with
    | cons h t =>
      obtain ⟨ws, q, r⟩ := ih t
      exact ⟨_ :: ws, q.cons _, .cons h r⟩
  | swap x y l =>
    intro ys h
    cases h with
    | cons h t =>
      cases t with
      | cons g t => exact ⟨_, .swap _ _ _, .cons g (.cons h t)⟩
  | trans p1 p2 ih1 ih2 =>
    intro ys h
    obtain ⟨ws, q, r⟩ := ih2 h
    obtain ⟨vs, q2, r2⟩ := ih1 r
    exact ⟨vs, q2.trans q, r2⟩
theorem nodup_ix {xs : List Str} (h : xs.Nodup) : ∀ {i j : Nat} {x : Str}, xs[i]? = some x → xs[j]? = some x → i = j := by
  intro i j x h1 h2
  obtain ⟨hi, e1⟩ := List.getElem?_eq_some_iff.mp h1
  obtain ⟨hj, e2⟩ := List.getElem?_eq_some_iff.mp h2
  have pw := List.pairwise_iff_getElem.mp h
  rcases Nat.lt_trichotomy i j with c | c | c
  · exact absurd (e1.trans e2.symm) (pw i j hi hj c)
  · exact c
  · exact absurd (e2.trans e1.symm) (pw j i hj hi c)
def rowK (H : Hp) : V → Str
  | .ref a => match H a with
    | some (.tup (.str z :: _)) => z
    | _ => ""
  | _ => ""
def rowT (H : Hp) : V → Addr
  | .ref a => match H a with
    | some (.tup (_ :: .ref t :: _)) => t
    | _ => 0
  | _ => 0
theorem rowK_at {H : Hp} {a t : Addr} {z : Str} (h : H a = some (.tup [.str z, .ref t])) : rowK H (.ref a) = z := by
  unfold rowK
  simp only [h]
theorem rowT_at {H : Hp} {a t : Addr} {z : Str} (h : H a = some (.tup [.str z, .ref t])) : rowT H (.ref a) = t := by
  unfold rowT
  simp only [h]
theorem tup_hide {H : Hp} {u b : Addr} {us xs : List V} (hu : H u = some (.lst us)) (h : H b = some (.tup xs)) : hide u H b = some (.tup xs) := by
  rw [hide_ne fun c => by rw [c, hu] at h; cases h]
  exact h
theorem dpa_strs {K : PySem.W.Frag} {H : Hp} : ∀ xs : List Str, DpAll K H (xs.map V.str) (xs.map PyData.str)
  | [] => .nil
  | x :: xs => .cons (.str x) (dpa_strs xs)
theorem dpa_rows {K : PySem.W.Frag} {H : Hp} {u : Addr} {us : List V} (hu : H u = some (.lst us)) : ∀ {zs : List V} {rs : List (Str × List Str)}, Paired (RowAt H) zs rs → DpAll K (hide u H) zs (rs.map fun r => .tuple [.str r.1, .tuple (r.2.map PyData.str)])
  | _, _, .nil => .nil
  | _, _, .cons h t => by
    obtain ⟨a, b, rfl, h1, h2⟩ := h
    exact .cons (.tup (.inl (.inl (tup_hide hu h1))) (.cons (.str _) (.cons (.tup (.inl (.inl (tup_hide hu h2))) (dpa_strs _)) .nil))) (dpa_rows hu t)
end Cx

/-! rising texts -/
namespace Cx
open PySem PySem.Spec PyProof.Rows L2
def Asc (l : List Str) : Prop := l.Pairwise fun a b => sLt a b = true
theorem asc_of {l : List Str} (h : l.Pairwise fun a b => sLt b a = false) (nd : l.Nodup) : Asc l := by
  refine (h.and nd).imp fun {a b} q => ?_
  cases e : sLt a b with
  | true => rfl
  | false => exact absurd (sLt_tot e q.1) q.2
theorem rise_pw2 : ∀ {l : List Str} {p : Str}, risingS p l = true → (p :: l).Pairwise fun a b => sLt b a = false
  | [], p, _ => List.pairwise_singleton _ p
  | x :: r, p, h => by
    have h1 := Bool.and_eq_true_iff.mp (show (!ltCps x.cps.toList p.cps.toList && risingS x r) = true from h)
    have ih := rise_pw2 (l := r) (p := x) h1.2
    have px : sLt x p = false := by
      have q := h1.1
      rw [ltCps_eq] at q
      exact (Bool.not_eq_true' _).mp q
    refine List.pairwise_cons.mpr ⟨fun y m => ?_, ih⟩
    rcases List.mem_cons.mp m with e | m
    · rw [e]
      exact px
    · exact sLt_neg ((List.pairwise_cons.mp ih).1 y m) px
theorem asc_sorted {l : List Str} (h : sortedS l = true) (nd : l.Nodup) : Asc l := by
  cases l with
  | nil => exact .nil
  | cons x r => exact asc_of (rise_pw2 h) nd
theorem asc_nodup {l : List Str} (h : Asc l) : l.Nodup := h.imp fun {a b} q e => by
  rw [e, sLt_irr] at q
  cases q
theorem rows_keys {H : Hp} : ∀ {zs : List V} {rs : List (Str × List Str)}, Paired (RowAt H) zs rs → zs.map (rowK H) = rs.map (·.1)
  | _, _, .nil => rfl
  | _, _, .cons h t => by
    obtain ⟨a, b, rfl, h1, _⟩ := h
    rw [List.map_cons, List.map_cons, rows_keys t, rowK_at h1]
end Cx

namespace Cx
open PySem PySem.Spec PyProof.Rows L2
/-- a sheet of tuples -/
def shT (rs : List (Str × List Str)) (es : List Str) : PyData := .tuple [.tuple (rs.map fun r => .tuple [.str r.1, .tuple (r.2.map PyData.str)]), .tuple (es.map PyData.str)]
def names11 : List Str := ["a", "ann", "bob", "cat", "dan", "eve", "fay", "new", "old", "x", "zzzzzzzz"]
section
variable {P : Program} {w : World} {K : PySem.W.Frag} {mg : Str → Option Value} {base : Heap}
def spTome (K : PySem.W.Frag) : Sp := fun vs H Q _ => ∃ (u : Addr) (most free n : Nat), vs = [.ref u, .int (most : Int), .int (free : Int)] ∧ UrnAt u H n ∧ n + 1000 ≤ 1000000 ∧ 1 ≤ most ∧ most + free ≤ 11 ∧
  ∀ q rs es H', UrnAt u H' (n + 1000) → Keep u H H' → Dp K (hide u H') (.ref q) (shT rs es) → rs.length ≤ most → es.length ≤ free → (∀ r ∈ rs, r.2.length ≤ 11 ∧ r.1 ∈ names11 ∧ (∀ y ∈ r.2, y ∈ names11) ∧ Asc r.2) → (∀ z ∈ es, z ∈ names11) → Asc (rs.map (·.1)) → Q (.ref q) H'
abbrev nTm : List Str := ["_law_urn", "_law_most_so", "_law_free_so", "_law_left", "_law_many_so", "_law_empty_so", "_law_table", "_law_clan", "_law_free", "_law_style", "_law_wide", "_law_k", "_law_turn", "_law_far", "_law_way", "_law_rows_so", "_law_own", "_law_flat"]
theorem scTm : FnScope nTm ["_law_urn", "_law_most_so", "_law_free_so"] (defScope sTome) := ⟨rfl, rfl, rfl, by decide +kernel, rfl, by decide +kernel, by decide +kernel⟩
structure TyTm (mg : Str → Option Value) : Prop where
  lst : mg "list" = none
  tup : mg "tuple" = none
  int : mg "int" = none
  rng : mg "range" = none
  srt : mg "sorted" = none
  set : mg "set" = none
/-- tuple(..) of what is made here -/
def rTupOf (K : PySem.W.Frag) : List V → Hp → VK → Prop := fun xs H Q => ∃ p ys, xs = [.ref p] ∧ ((SqL K H p ys ∧ ∀ t, H t = none → Q (.ref t) (upd H t (.tup ys))) ∨ (SqT K H p ys ∧ Q (.ref p) H))
def scRow : Scope := { kind := .function, names := [(".0", .local), ("_law_own", .cell), ("tuple", .globalImplicit), ("sorted", .globalImplicit), ("set", .globalImplicit), ("_law_table", .cell)], isGenerator := false, isCoroutine := false }
abbrev stT (u : Addr) (most free : Nat) (L : Addr) (m e : Nat) (F E T : Addr) (st wd : Int) (k ws fa wy rw : Option V) : L2.St := [some (.ref u), some (.int (most : Int)), some (.int (free : Int)), some (.ref L), some (.int (m : Int)), some (.int (e : Int)), some (.ref T), some (.ref F), some (.ref E), some (.int st), some (.int wd), k, ws, fa, wy, rw, none, none]
/-- what a sheet is drawn of -/
structure TmF (most free m : Nat) (st wd : Int) (ys fo fr : List Str) : Prop where
  fm : fo.length = m
  m1 : 1 ≤ m
  mm : m ≤ most
  m11 : m ≤ 11
  fl : fr.length ≤ free
  f11 : fr.length ≤ 11
  nd : fo.Nodup
  yl : ys.length = 11
  fy : ∀ z ∈ fo, z ∈ ys
  ry : ∀ z ∈ fr, z ∈ ys
  yn : ∀ z ∈ ys, z ∈ names11
  w0 : 0 < wd
  w1 : wd < 1000
theorem ok_tome {f g1 g2 g3 : Addr} {fd gd1 gd2 gd3 : FuncData} (F : Fun K "_law_tome" "_law_tome" sTome f fd)
    (GT : FnOk P w K mg base CX0 1 g1 gd1 ["_law_urn", "_law_low_so"] spTake) (bT : Binds K gd1 ["_law_urn", "_law_low_so"] []) (kT : PySem.W.keepIn K (.ref g1) = true) (mT : mg "_law_take" = some (.ref g1))
    (GF : FnOk P w K mg base CX0 2 g2 gd2 ["_law_urn", "_law_pool", "_law_one_of"] (spFew K)) (bF : Binds K gd2 ["_law_urn", "_law_pool", "_law_one_of"] []) (kF : PySem.W.keepIn K (.ref g2) = true) (mF : mg "_law_few" = some (.ref g2))
    (GM : FnOk P w K mg base CX0 2 g3 gd3 ["_law_urn", "_law_pool"] (spMixed K)) (bM : Binds K gd3 ["_law_urn", "_law_pool"] []) (kM : PySem.W.keepIn K (.ref g3) = true) (mM : mg "_law_mixed" = some (.ref g3)) (T : TyTm mg) :
    FnOk P w K mg base CX0 3 f fd ["_law_urn", "_law_most_so", "_law_free_so"] (spTome K) := by
  refine F.ok scTm (fun vs H Q E h => ?_) (fun cdv A outer s H vs Q E hr h => ?_)
  · obtain ⟨u, most, free, n, rfl, _⟩ := h
    rfl
  have hr1 : Room 1 _ := hr.mono (by omega)
  have hu := Nat.lt_of_le_of_lt (Nat.add_le_add_left (show 1 ≤ 64 by decide) _) hr.units
  refine ⟨_, pss_cons (ps_set (i := 3) scTm.nd rfl (.inl rfl) (pe_lst (pa_cons pe_str (pa_cons pe_str (pa_cons pe_str (pa_cons pe_str (pa_cons pe_str (pa_cons pe_str (pa_cons pe_str (pa_cons pe_str (pa_cons pe_str (pa_cons pe_str (pa_cons pe_str pa_nil)))))))))))))
    (Evl.pss_cut (ps_par (i := 4) (j := 5) (by rfl) scTm.nd rfl rfl (by decide) rfl rfl (pa_cons (pe_op op_add pe_int (pe_call GT hr1 (by rfl) mT kT bT .nil pass0 (pa_cons (pv 0) (pa_cons (pv 1) pa_nil)))) (pa_cons (pe_call GT hr1 (by rfl) mT kT bT .nil pass0 (pa_cons (pv 0) (pa_cons (pe_op op_add (pv 2) pe_int) pa_nil))) pa_nil)) (by rfl))
    (Evl.pss_cut (ps_asg (pe_tup (pa_cons (pe_callTy call_list_of (by rfl) T.lst (by decide +kernel) (pa_cons (pe_call GM hr (by rfl) mM kM bM .nil pass0 (pa_cons (pv 0) (pa_cons (pv 3) pa_nil))) pa_nil)) (pa_cons pe_dnewK pa_nil)))
        (pg_tup rfl (pgs_cons (pg_name (i := 3) scTm.nd rfl (.inl rfl)) (pgs_cons (pg_name (i := 6) scTm.nd rfl (.inr rfl)) pgs_nil))))
    (pss_cons (ps_par (i := 7) (j := 8) (by rfl) scTm.nd rfl rfl (by decide) rfl rfl (pa_cons (pe_slice sl_list (pv 3) po_none (po_some (pv 4))) (pa_cons (pe_slice sl_list (pv 3) (po_some (pv 4)) (po_some (pe_op op_add (pv 4) (pv 5)))) pa_nil)) (by rfl))
    (Evl.pss_cut (ps_par (i := 9) (j := 10) (by rfl) scTm.nd rfl rfl (by decide) rfl rfl (pa_cons (pe_call GT hr1 (by rfl) mT kT bT .nil pass0 (pa_cons (pv 0) (pa_cons pe_int pa_nil))) (pa_cons (pe_op op_add pe_int (pe_call GT hr1 (by rfl) mT kT bT .nil pass0 (pa_cons (pv 0) (pa_cons pe_int pa_nil)))) pa_nil)) (by rfl))
    (Evl.pss_cut (ps_for PassesOwn.never rfl (pi_range1 (by rfl) T.rng (pa_cons (pv 4) pa_nil)) (pg_name (i := 11) scTm.nd rfl (.inl rfl))
      (Evl.pss_cut (ps_set (i := 12) scTm.nd rfl (.inl rfl) (pe_ifExp (pt_cmpR op_eq (pv 9) pe_int (nomark _)) (pe_lst (pa_cons (pe_ix ix_list (pv 7) (pe_op op_mod (pe_callTy call_int1 (by rfl) T.int (by decide +kernel) (pa_cons (pe_op op_add (pv 11) pe_int) pa_nil)) (pv 4)) (fun _ _ => rfl)) pa_nil)) (pe_lst pa_nil)))
      (pss_cons (ps_set (i := 12) scTm.nd rfl (.inl rfl) (pe_op op_cat (pv 12) (pe_callTy call_list_of (by rfl) T.lst (by decide +kernel) (pa_cons (pe_call GF hr (by rfl) mF kF bF .nil pass0 (pa_cons (pv 0) (pa_cons (pv 8) (pa_cons pe_int pa_nil)))) pa_nil))))
      (pss_one (ps_dput hu (pv 6) (pe_ix ix_list (pv 7) (pv 11) (fun _ _ => rfl)) (pe_op op_cat (pv 12) (pe_ifExp (pt_cmpR op_eq (pe_call GT hr1 (by rfl) mT kT bT .nil pass0 (pa_cons (pv 0) (pa_cons pe_int pa_nil))) pe_int (nomark _)) (pe_slice sl_list (pv 3) (po_some (pe_un un_neg pe_int)) po_none) (pe_lst pa_nil))) rfl)))))
    (Evl.pss_cut (ps_for PassesOwn.never rfl (pi_range1 (by rfl) T.rng (pa_cons (pv 4) pa_nil)) (pg_name (i := 11) scTm.nd rfl (.inl rfl))
      (pss_one (ps_for PassesOwn.never rfl (pi_list (pe_slice sl_list (pv 7) (po_some (pe_op op_add (pv 11) pe_int)) po_none)) (pg_name (i := 13) scTm.nd rfl (.inl rfl))
        (pss_cons (ps_set (i := 14) scTm.nd rfl (.inl rfl) (pe_call GT hr1 (by rfl) mT kT bT .nil pass0 (pa_cons (pv 0) (pa_cons (pv 10) pa_nil))))
        (Evl.pss_cut (ps_if (PW.pt (pw_or (pt_cmpR op_eq (pv 14) pe_int (nomark _)) (pw_or1 (PW.pt (pw_and (pt_cmpR op_eq (pv 14) pe_int (nomark _)) (pw_and1 (pt_cmpR op_gt (pv 9) pe_int (nomark _))))))))
          (pss_one (ps_expr (pe_bm PySem.F.plainAttrs_list PySem.F.slot_list_append PySem.F.type_list_append mt_append (pe_dget hu (pv 6) (pe_ix ix_list (pv 7) (pv 11) (fun _ _ => rfl)) (fun _ _ => rfl)) (pa_cons (pv 13) pa_nil)))) pss_nil)
        (pss_one (ps_if (PW.pt (pw_or (pt_cmpR op_eq (pv 14) pe_int (nomark _)) (pw_or1 (PW.pt (pw_and (pt_cmpR op_eq (pv 14) pe_int (nomark _)) (pw_and1 (pt_cmpR op_gt (pv 9) pe_int (nomark _))))))))
          (pss_one (ps_expr (pe_bm PySem.F.plainAttrs_list PySem.F.slot_list_append PySem.F.type_list_append mt_append (pe_dget hu (pv 6) (pv 13) (fun _ _ => rfl)) (pa_cons (pe_ix ix_list (pv 7) (pv 11) (fun _ _ => rfl)) pa_nil)))) pss_nil)))))))
    (Evl.pss_cut (ps_setLcA (i := 15) (own := [("_law_own", 16)]) (g := gName 16) (tt := tYes)
        (te := tTup (tCons (tVar 16) (tCons (tCB (rTupOf K) (tCons (tCB (rSortTx w) (tCons (tCB (rSetTx K w) (tCons (tLcA K (tDGet (tVar 6) (tVar 16)) (gName 17) (tTest (tOp rNe (tVar 17) (tVar 16))) (tVar 17) [17]) tNil)) tNil)) tNil)) tNil)))
        rfl scTm.nd rfl rfl (sw_true rfl rfl rfl (by decide +kernel)) (pv 7) (blkOk_by (N := nTm) (sc := defScope sTome) (by decide +kernel))
        (fun _ _ _ _ _ => pg_name (i := 16) scTm.nd rfl (.inr rfl)) (fun _ _ _ _ _ => pts_nil) (fun _ _ _ _ _ => pe_tup (pa_cons (pv 16) (pa_cons (pe_callTy call_tuple_of (by rfl) T.tup (by decide +kernel) (pa_cons (pe_callB (cr_sortTx rfl) (by rfl) T.srt (by decide +kernel) (pa_cons (pe_callTy (cr_setTx rfl) (by rfl) T.set (by decide +kernel) (pa_cons
          (pe_lcA (own := [("_law_flat", 17)]) (g := gName 17) (tt := tTest (tOp rNe (tVar 17) (tVar 16))) (te := tVar 17) rfl scTm.nd (pe_dget hu (pv 6) (pv 16) (fun _ _ => rfl)) (blkOk_by (N := nTm) (sc := scRow) (by decide +kernel))
            (fun _ _ _ _ _ => pg_name (i := 17) scTm.nd rfl (.inl rfl)) (fun _ _ _ _ _ => pts_one (pt_cmpR op_ne (pv 17) (pv 16) (nomark _))) (fun _ _ _ _ _ => pv 17)) pa_nil)) pa_nil)) pa_nil)) pa_nil))))
    (pss_one (ps_ret (pe_tup (pa_cons (pe_callTy call_tuple_of (by rfl) T.tup (by decide +kernel) (pa_cons (pe_callB cr_sortedRows (by rfl) T.srt (by decide +kernel) (pa_cons (pv 15) pa_nil)) pa_nil)) (pa_cons (pe_callTy call_tuple_of (by rfl) T.tup (by decide +kernel) (pa_cons (pe_callB cr_sortedS (by rfl) T.srt (by decide +kernel) (pa_cons (pv 8) pa_nil)) pa_nil)) pa_nil)))))))))))), ?_⟩
  obtain ⟨u, most, free, n, rfl, U, hn, m1, m2, k⟩ := h
  refine ⟨by show 11 ≤ sizeLine; decide, fun L0 nL0 => ?_⟩
  have U0 := U.upd (o := .lst (names11.map V.str)) (U.ne nL0)
  have k0 : Keep u H _ := keep_new (o := .lst (names11.map V.str)) nL0
  have L0u := U.ne nL0
  have hL0 : upd H L0 (.lst (names11.map V.str)) L0 = some (.lst (names11.map V.str)) := upd_same
  refine ⟨fun σ' H' => ∃ m e : Nat, σ' = [some (.ref u), some (.int (most : Int)), some (.int (free : Int)), some (.ref L0), some (.int (m : Int)), some (.int (e : Int)), none, none, none, none, none, none, none, none, none, none, none, none] ∧ 1 ≤ m ∧ m ≤ most ∧ e ≤ free ∧ UrnAt u H' (n + 2) ∧ Keep u H H' ∧ H' L0 = some (.lst (names11.map V.str)), ?_, ?_⟩
  · refine ⟨_, rfl, _, rfl, u, _, n, rfl, U0, by omega, by omega, by omega, fun r1 H2 r10 r11 U2 k2 => ⟨_, _, rfl, rfl, ?_⟩⟩
    refine ⟨_, rfl, _, rfl, _, _, rfl, rfl, u, _, n + 1, rfl, U2, by omega, by omega, by omega, fun r2 H3 r20 r21 U3 k3 => ⟨_, _, rfl, ?_⟩⟩
    obtain ⟨m, em⟩ := Int.eq_ofNat_of_zero_le (show 0 ≤ 1 + r1 by omega)
    obtain ⟨e, ee⟩ := Int.eq_ofNat_of_zero_le r20
    have hL3 := k3 L0 _ L0u (k2 L0 _ L0u hL0)
    refine ⟨m, e, ?_, by omega, by omega, by omega, U3, (k0.trans k2).trans k3, hL3⟩
    rw [← em, ← ee]
    rfl
  rintro σ1 H3 ⟨m, e, rfl, m3, m4, e3, U3, k3, hL3⟩
  refine ⟨fun σ' H' => ∃ (L T : Addr) (ys : List Str), σ' = [some (.ref u), some (.int (most : Int)), some (.int (free : Int)), some (.ref L), some (.int (m : Int)), some (.int (e : Int)), some (.ref T), none, none, none, none, none, none, none, none, none, none, none] ∧ ys.length = 11 ∧ ys.Nodup ∧ (∀ z ∈ ys, z ∈ names11) ∧ TmI u T H [(L, ys)] ys [] (n + 13) 0 H', ?_, ?_⟩
  · refine ⟨_, rfl, _, rfl, u, .ref L0, names11, n + 2, rfl, U3, by show n + 2 + 11 ≤ _; omega, ⟨L0, rfl, .inl (SqL.of (by rw [hide_ne L0u]; exact hL3))⟩, by decide, fun ys p H4 pm U4 k4 pu np0 hp => ?_⟩
    have hlen : ys.length = 11 := pm.length_eq
    have nd11 : ys.Nodup := pm.nodup_iff.mpr (by decide +kernel)
    refine ⟨p, _, rfl, .inr (.inl (.inl hp)), fun L nL T nT => ⟨by show 2 ≤ sizeLine; decide, fun q nq => ?_⟩⟩
    have kA : Keep u H (upd H4 L (.lst (ys.map V.str))) := (k3.trans k4).trans (keep_new nL)
    have Lu := U4.ne nL
    have UA := U4.upd (o := .lst (ys.map V.str)) Lu
    have hL : upd H4 L (.lst (ys.map V.str)) L = some (.lst (ys.map V.str)) := upd_same
    have Tu := UA.ne nT
    have LT := ne_of_none hL nT
    have I0 : TmI u T H [(L, ys)] ys [] (n + 13) 0 (upd (upd H4 L (.lst (ys.map V.str))) T (.dK [])) := by
      refine ⟨kA.trans (keep_new nT), UA.upd Tu, Tu, kA.free Tu nT, fun p mp => ?_, [], upd_same, Nat.le_refl _, fun z mz => nomatch mz⟩
      rw [List.mem_singleton.mp mp]
      exact ⟨Lu, LT, by show upd _ T _ L = _; rw [upd_ne LT]; exact hL⟩
    exact ⟨q, _, rfl, .inl (.inl upd_same), rfl, _, _, rfl, _, _, rfl, rfl, L, T, ys, rfl, hlen, nd11, fun z h => pm.mem_iff.mp h, I0.new nq⟩
  rintro σ5 H5 ⟨L, T, ys, rfl, hlen, nd11, yn, I0⟩
  refine ⟨_, rfl, _, rfl, _, rfl, L, _, rfl, SqL.of (I0.at List.mem_cons_self), fun F nF => ?_⟩
  rw [cut_s1]
  have I1 := I0.fix (zs := ys.take m) nF
  refine ⟨_, rfl, _, rfl, _, rfl, _, rfl, _, rfl, _, _, rfl, rfl, _, rfl, L, _, rfl, SqL.of (I1.at (List.mem_cons_of_mem _ List.mem_cons_self)), fun E' nE => ?_⟩
  obtain ⟨fr, efr, fr1, fr2, fr3⟩ := cut_s2 ys m e
  rw [efr]
  have I2 := I1.fix (zs := fr) nE
  refine ⟨_, _, rfl, ?_⟩
  have fc : ∀ st wd : Int, 0 < wd → wd < 1000 → TmF most free m st wd ys (ys.take m) fr := fun st wd a b => ⟨by rw [List.length_take]; omega, m3, m4, by omega, by omega, by omega, nd11.sublist (List.take_sublist _ _), hlen, fun z h => List.mem_of_mem_take h, fr3, yn, a, b⟩
  generalize upd (upd H5 F (.lst ((ys.take m).map V.str))) E' (.lst (fr.map V.str)) = HC at I2 ⊢
  refine ⟨fun σ' H' => ∃ (ys fo fr : List Str) (m e : Nat) (L F E T : Addr) (st wd : Int), σ' = stT u most free L m e F E T st wd none none none none none ∧ TmF most free m st wd ys fo fr ∧ TmI u T H [(E, fr), (F, fo), (L, ys)] ys [] (n + 15) 0 H', ?_, ?_⟩
  · refine ⟨_, rfl, u, 4, _, rfl, I2.U, by omega, by decide, by decide, fun r1 H6 r10 r11 U6 k6 => ?_⟩
    refine ⟨_, rfl, u, 4, _, rfl, U6, by omega, by decide, by decide, fun r2 H7 r20 r21 U7 k7 => ⟨_, _, rfl, rfl, _, _, rfl, ?_⟩⟩
    exact ⟨ys, ys.take m, fr, m, e, L, F, E', T, r1, 3 + r2, rfl, fc _ _ (by omega) (by omega), I2.keep (k6.trans k7) U7⟩
  clear fc
  rintro σ2 H8 ⟨ys, fo, fr, m, e, L, F, E, T, st, wd, rfl, fc, I⟩
  have fm := fc.fm
  have m1' := fc.m1
  have m11 := fc.m11
  have f11 := fc.f11
  have yl := fc.yl
  have mF : (F, fo) ∈ [(E, fr), (F, fo), (L, ys)] := List.mem_cons_of_mem _ List.mem_cons_self
  have mL : (L, ys) ∈ [(E, fr), (F, fo), (L, ys)] := List.mem_cons_of_mem _ (List.mem_cons_of_mem _ List.mem_cons_self)
  have mE : (E, fr) ∈ [(E, fr), (F, fo), (L, ys)] := List.mem_cons_self
  refine ⟨fun σ' H' => ∃ k ws : Option V, σ' = stT u most free L m e F E T st wd k ws none none none ∧ TmI u T H [(E, fr), (F, fo), (L, ys)] ys fo (n + 15 + 12 * m) 23 H', ?_, ?_⟩
  · refine ⟨_, rfl, _, rfl, by omega, by omega, ?_⟩
    refine for_range (lo := 0) (n := m) (fun i σ H' => ∃ k ws : Option V, σ = stT u most free L m e F E T st wd k ws none none none ∧ TmI u T H [(E, fr), (F, fo), (L, ys)] ys (fo.take i) (n + 15 + 12 * i) 23 H') ?_ ?_ ?_
    · exact ⟨none, none, rfl, I.le (by omega) (by omega)⟩
    · rintro i σ H' hi ⟨k1, w1, rfl, J⟩
      have hi2 : i < fo.length := by omega
      have hj : (i + 1) % m < fo.length := by rw [fm]; exact Nat.mod_lt _ (by omega)
      have ej : ((0 : Int) + (i : Nat) + 1) % (m : Int) = (((i + 1) % m : Nat) : Int) := by
        rw [Int.natCast_emod]
        congr 1
        omega
      have ei : (0 : Int) + (i : Nat) = ((i : Nat) : Int) := by omega
      refine ⟨fun σ' H2 => ∃ (p : Addr) (ws1 : List Str), σ' = stT u most free L m e F E T st wd (some (.int (0 + (i : Int)))) (some (.ref p)) none none none ∧ TmI u T H [(E, fr), (F, fo), (L, ys)] ys (fo.take i) (n + 15 + 12 * i) 23 H2 ∧ p ≠ u ∧ H2 p = some (.lst (ws1.map V.str)) ∧ ws1.length ≤ 1 ∧ ∀ y ∈ ws1, y ∈ ys, ?_, ?_⟩
      · refine ⟨_, rfl, rfl, _, rfl, ite2 (fun _ => ?_) (fun _ => ?_)⟩
        · refine ⟨_, rfl, _, rfl, _, _, rfl, rfl, .inl ⟨_, rfl, _, rfl, _, _, rfl, rfl, (by show (0 : Int) < (m : Int); omega), F, _, _, _, rfl, rfl, SqL.of (J.at mF), (by rw [ej]; exact at_s hj), by show 1 ≤ sizeLine; decide, fun a na => ?_⟩⟩
          exact ⟨a, [fo[(i + 1) % m]], rfl, J.new na, J.U.ne na, upd_same, Nat.le_refl _, fun y my => by rw [List.mem_singleton.mp my]; exact fc.fy _ (List.getElem_mem hj)⟩
        · refine ⟨Nat.zero_le _, fun a na => ?_⟩
          exact ⟨a, [], rfl, J.new na, J.U.ne na, upd_same, Nat.zero_le _, fun y my => nomatch my⟩
      rintro σ10 H10 ⟨p, ws1, rfl, J1, pu, hp, l1', mm2⟩
      refine ⟨_, rfl, _, rfl, _, rfl, u, .ref E, fr, 3, _, rfl, J1.U, by omega, by decide, by decide, ⟨E, rfl, .inl (SqL.of (by rw [hide_ne (J1.fs _ mE).1]; exact J1.at mE))⟩, by omega, fun zs q H11 sub U11 k11 qu nq0 hq => ?_⟩
      refine ⟨q, _, rfl, .inr (.inl (.inl hq)), fun l nl => ?_⟩
      have J2 := (J1.keep k11 U11).new (o := .lst (zs.map V.str)) nl
      have hp2 : upd H11 l (.lst (zs.map V.str)) p = some (.lst (ws1.map V.str)) := by
        have h1 := k11 p _ pu hp
        rw [upd_ne (ne_of_none h1 nl)]
        exact h1
      have zl := sub.length_le
      refine cats hp2 upd_same (by omega) fun p2 np2 => ?_
      have J3 := J2.new (o := .lst ((ws1 ++ zs).map V.str)) np2
      have p2u := J2.U.ne np2
      have hp3 : upd (upd H11 l (.lst (zs.map V.str))) p2 (.lst ((ws1 ++ zs).map V.str)) p2 = some (.lst ((ws1 ++ zs).map V.str)) := upd_same
      have mm3 : ∀ y ∈ ws1 ++ zs, y ∈ ys := fun y my => (List.mem_append.mp my).elim (mm2 y) fun h => fc.ry y (sub.subset h)
      have l3 : (ws1 ++ zs).length ≤ 12 := by rw [List.length_append]; omega
      generalize upd (upd H11 l (.lst (zs.map V.str))) p2 (.lst ((ws1 ++ zs).map V.str)) = H12 at J3 hp3 ⊢
      generalize ws1 ++ zs = ws2 at mm3 l3 hp3
      refine ⟨_, rfl, _, rfl, u, 6, _, rfl, J3.U, by omega, by decide, by decide, fun r H13 r0 r1 U13 k13 => ⟨rfl, _, rfl, ?_⟩⟩
      have J4 := J3.keep k13 U13
      have hp4 := k13 p2 _ p2u hp3
      refine ite2 (fun _ => ?_) (fun _ => ?_)
      · refine ⟨_, rfl, _, rfl, _, rfl, L, _, rfl, SqL.of (J4.at mL), fun p3 np3 => ?_⟩
        obtain ⟨zs3, e3, l4, mm4⟩ := cut_str ys (some (-1)) none
        rw [e3]
        have J5 := J4.new (o := .lst (zs3.map V.str)) np3
        have hp5 : upd H13 p3 (.lst (zs3.map V.str)) p2 = some (.lst (ws2.map V.str)) := by
          rw [upd_ne (ne_of_none hp4 np3)]
          exact hp4
        refine cats hp5 upd_same (by omega) fun p6 np6 => ?_
        have J6 := J5.new (o := .lst ((ws2 ++ zs3).map V.str)) np6
        refine ⟨_, rfl, _, rfl, _, rfl, F, _, _, _, rfl, rfl, SqL.of (J6.at mF), (by rw [ei]; exact at_s hi2), ?_⟩
        have tl : (fo.take i).length ≤ 900 := by rw [List.length_take]; omega
        obtain ⟨H14, dp, J7⟩ := J5.put (z := fo[i]) np6 (ws := ws2 ++ zs3) (by rw [List.length_append]; omega) (fun y my => (List.mem_append.mp my).elim (mm3 y) (mm4 y)) tl
        refine ⟨T, H14, rfl, dp, _, _, rfl, ?_⟩
        rw [List.take_add_one, List.getElem?_eq_getElem hi2]
        exact J7.le (by omega) (by omega)
      · refine ⟨Nat.zero_le _, fun p3 np3 => ?_⟩
        obtain ⟨zs3, e3, l4, mm4⟩ : ∃ zs3 : List Str, ([] : List V) = zs3.map V.str ∧ zs3.length ≤ ys.length ∧ ∀ z ∈ zs3, z ∈ ys := ⟨[], rfl, Nat.zero_le _, fun z mz => nomatch mz⟩
        rw [e3]
        have J5 := J4.new (o := .lst (zs3.map V.str)) np3
        have hp5 : upd H13 p3 (.lst (zs3.map V.str)) p2 = some (.lst (ws2.map V.str)) := by
          rw [upd_ne (ne_of_none hp4 np3)]
          exact hp4
        refine cats hp5 upd_same (by omega) fun p6 np6 => ?_
        have J6 := J5.new (o := .lst ((ws2 ++ zs3).map V.str)) np6
        refine ⟨_, rfl, _, rfl, _, rfl, F, _, _, _, rfl, rfl, SqL.of (J6.at mF), (by rw [ei]; exact at_s hi2), ?_⟩
        have tl : (fo.take i).length ≤ 900 := by rw [List.length_take]; omega
        obtain ⟨H14, dp, J7⟩ := J5.put (z := fo[i]) np6 (ws := ws2 ++ zs3) (by rw [List.length_append]; omega) (fun y my => (List.mem_append.mp my).elim (mm3 y) (mm4 y)) tl
        refine ⟨T, H14, rfl, dp, _, _, rfl, ?_⟩
        rw [List.take_add_one, List.getElem?_eq_getElem hi2]
        exact J7.le (by omega) (by omega)
    · rintro σ H' ⟨k1, w1, rfl, J⟩
      rw [List.take_of_length_le (by omega)] at J
      exact ⟨k1, w1, rfl, J⟩
  rintro σ3 H9 ⟨k9, w9, rfl, I9⟩
  refine ⟨fun σ' H' => ∃ k ws fa wy : Option V, σ' = stT u most free L m e F E T st wd k ws fa wy none ∧ TmI u T H [(E, fr), (F, fo), (L, ys)] ys fo (n + 15 + 12 * m + 11 * m) (23 + 22 * m) H', ?_, ?_⟩
  · refine ⟨_, rfl, _, rfl, by omega, by omega, ?_⟩
    refine for_range (lo := 0) (n := m) (fun i σ H' => ∃ k ws fa wy : Option V, σ = stT u most free L m e F E T st wd k ws fa wy none ∧ TmI u T H [(E, fr), (F, fo), (L, ys)] ys fo (n + 15 + 12 * m + 11 * i) (23 + 22 * i) H') ⟨_, _, _, _, rfl, I9⟩ ?_ ?_
    · rintro i σ H' hi ⟨k1, w1, f1, y1, rfl, J⟩
      have hi2 : i < fo.length := by omega
      have ei : (0 : Int) + (i : Nat) = ((i : Nat) : Int) := by omega
      refine ⟨_, rfl, _, rfl, _, _, rfl, rfl, _, rfl, F, _, rfl, SqL.of (J.at mF), fun C nC => ?_⟩
      obtain ⟨zs, ez, lz, mz⟩ := cut_str fo (some (0 + (i : Int) + 1)) none
      rw [ez]
      have J0 := J.fix (zs := zs) nC
      have mC : (C, zs) ∈ [(C, zs), (E, fr), (F, fo), (L, ys)] := List.mem_cons_self
      have mF2 : (F, fo) ∈ [(C, zs), (E, fr), (F, fo), (L, ys)] := List.mem_cons_of_mem _ mF
      refine ⟨C, rfl, ⟨_, SqL.of upd_same⟩, ?_⟩
      refine for_list (xs := zs.map V.str) (fun j σ H' => ∃ fa wy : Option V, σ = stT u most free L m e F E T st wd (some (.int (0 + (i : Int)))) w1 fa wy none ∧ TmI u T H [(C, zs), (E, fr), (F, fo), (L, ys)] ys fo (n + 15 + 12 * m + 11 * i + j) (23 + 22 * i + 2 * j) H')
        ⟨_, _, rfl, J0⟩ (fun j σ H' _ ⟨_, _, _, J⟩ => SqL.of (J.at mC)) ?_ ?_
      · rintro j x σ H' hj ⟨f2, y2, rfl, J⟩
        obtain ⟨z, hz, rfl⟩ := map_at hj
        have hj2 := (List.getElem?_eq_some_iff.mp hz).1
        have zf : z ∈ fo := mz z (List.mem_of_getElem? hz)
        have ff : fo[i] ∈ fo := List.getElem_mem hi2
        refine ⟨_, rfl, _, rfl, u, wd, _, rfl, J.U, by omega, fc.w0, fc.w1, fun r H2 r0 r1 U2 k2 => ?_⟩
        have J2 := J.keep k2 U2
        refine ⟨fun σ' H' => σ' = stT u most free L m e F E T st wd (some (.int (0 + (i : Int)))) w1 (some (.str z)) (some (.int r)) none ∧ TmI u T H [(C, zs), (E, fr), (F, fo), (L, ys)] ys fo (n + 15 + 12 * m + 11 * i + j + 1) (23 + 22 * i + 2 * j + 1) H', ?_, ?_⟩
        · obtain ⟨a, ws, dg, ha, hw, _, q⟩ := J2.app ff
          refine ⟨_, rfl, rfl, _, rfl, ite2 (fun _ => iteT ?b1) (fun _ => ⟨_, rfl, rfl, _, rfl, ite2 (fun _ => ⟨_, rfl, _, _, rfl, rfl, _, rfl, ite2 (fun _ => ?b2) (fun _ => ?s2)⟩) (fun _ => iteF ?s1)⟩)⟩
          case s1 => exact ⟨rfl, J2.le (by omega) (by omega)⟩
          case s2 => exact ⟨rfl, J2.le (by omega) (by omega)⟩
          all_goals
            refine ⟨_, rfl, _, rfl, _, rfl, F, _, _, _, rfl, rfl, SqL.of (J2.at mF2), (by rw [ei]; exact at_s hi2), T, _, rfl, dg, .inl ⟨rfl, _, SqL.of ha⟩, _, rfl, a, _, _, rfl, rfl, ha, ?_, ?_⟩
            · rw [List.length_map]
              exact small1000 (by omega)
            · exact ⟨rfl, q z (fc.fy z zf)⟩
        · rintro σ4 H4 ⟨rfl, J3⟩
          obtain ⟨a, ws, dg, ha, hw, _, q⟩ := J3.app zf
          refine ⟨_, rfl, rfl, _, rfl, ite2 (fun _ => iteT ?b3) (fun _ => ⟨_, rfl, rfl, _, rfl, ite2 (fun _ => ⟨_, rfl, _, _, rfl, rfl, _, rfl, ite2 (fun _ => ?b4) (fun _ => ?s4)⟩) (fun _ => iteF ?s3)⟩)⟩
          case s3 => exact ⟨_, _, rfl, J3.le (by omega) (by omega)⟩
          case s4 => exact ⟨_, _, rfl, J3.le (by omega) (by omega)⟩
          all_goals
            refine ⟨_, rfl, _, rfl, T, _, rfl, dg, .inl ⟨rfl, _, SqL.of ha⟩, _, rfl, _, rfl, F, _, _, _, rfl, rfl, SqL.of (J3.at mF2), (by rw [ei]; exact at_s hi2), a, _, _, rfl, rfl, ha, ?_, ?_⟩
            · rw [List.length_map]
              exact small1000 (by omega)
            · exact ⟨_, _, rfl, (q fo[i] (fc.fy _ ff)).le (by omega) (by omega)⟩
      · rintro σ H' ⟨f2, y2, rfl, J⟩
        rw [List.length_map] at J
        exact ⟨_, _, _, _, rfl, J.drop.le (by omega) (by omega)⟩
    · rintro σ H' ⟨k1, w1, f1, y1, rfl, J⟩
      exact ⟨_, _, _, _, rfl, J⟩
  rintro σ3 H10 ⟨k10, w10, f10, y10, rfl, I10⟩
  refine ⟨fun σ' H' => ∃ (D : Addr) (rows : List V) (rs : List (Str × List Str)), σ' = stT u most free L m e F E T st wd k10 w10 f10 y10 (some (.ref D)) ∧ Same H10 H' ∧ H' D = some (.lst rows) ∧ Paired (RowAt H') rows rs ∧ rs.map (·.1) = fo ∧ ∀ r ∈ rs, r.2.length ≤ 11 ∧ (∀ y ∈ r.2, y ∈ ys) ∧ Asc r.2, ?_, ?_⟩
  · refine ⟨_, rfl, ?_⟩
    refine lc_any (xs := fo.map V.str) ⟨F, rfl, .inl (SqL.of (I10.at mF))⟩ (Stays.of (Same.refl H10)) (fun D i H' => ∃ (rows : List V) (rs : List (Str × List Str)), Same H10 H' ∧ H' D = some (.lst rows) ∧ rows.length = i ∧ Paired (RowAt H') rows rs ∧ rs.map (·.1) = fo.take i ∧ ∀ r ∈ rs, r.2.length ≤ 11 ∧ (∀ y ∈ r.2, y ∈ ys) ∧ Asc r.2)
      (fun D nD => ⟨[], [], same_new nD, upd_same, rfl, .nil, rfl, fun r mr => nomatch mr⟩) (fun D i H' _ ⟨_, _, q, _⟩ => Stays.of q) (fun D i y H' nD hy ⟨rows, rs, s1, hD, len, pr, nm, l11⟩ => ?_) (fun D H' nD ⟨rows, rs, s1, hD, len, pr, nm, l11⟩ => ?_)
    · obtain ⟨z, hz, rfl⟩ := map_at hy
      have hi := (List.getElem?_eq_some_iff.mp hz).1
      have J := I10.keep (keep_of_same s1) (by obtain ⟨a, b, c, e, r⟩ := I10.U; exact ⟨a, b, c, s1 _ _ e, r⟩)
      obtain ⟨a, ws, dg, ha, hw, mw, _⟩ := J.app (List.mem_of_getElem? hz)
      refine ⟨rfl, _, rfl, _, rfl, _, rfl, T, _, rfl, dg, ?_⟩
      refine lc_any (xs := ws.map V.str) ⟨a, rfl, .inl (SqL.of ha)⟩ (Stays.of (Same.refl H')) (fun D2 j H2 => ∃ zs : List Str, Same H' H2 ∧ H2 D2 = some (.lst (zs.map V.str)) ∧ zs.length ≤ j ∧ ∀ y ∈ zs, y ∈ ys)
        (fun D2 nD2 => ⟨[], same_new nD2, upd_same, Nat.le_refl _, fun r mr => nomatch mr⟩) (fun D2 j H2 _ ⟨_, q, _⟩ => Stays.of q) (fun D2 j y H2 nD2 hy2 ⟨zs, s2, hD2, lz, mz⟩ => ?_) (fun D2 H2 nD2 ⟨zs, s2, hD2, lz, mz⟩ => ?_)
      · obtain ⟨v, hv, rfl⟩ := map_at hy2
        have hj := (List.getElem?_eq_some_iff.mp hv).1
        refine ⟨rfl, _, rfl, _, rfl, rfl, _, rfl, ite2 (fun _ => ?_) (fun _ => ?_)⟩
        · refine ⟨_, rfl, _, hD2, by rw [List.length_map]; exact small1000 (by omega), zs ++ [v], fun b o e => ?_, ?_, ?_, fun y my => ?_⟩
          · rw [upd_ne (ne_of_none e nD2)]
            exact s2 _ _ e
          · rw [upd_same, List.map_append]
            rfl
          · rw [List.length_append]
            show zs.length + 1 ≤ _
            omega
          · rcases List.mem_append.mp my with my | my
            · exact mz y my
            · rw [List.mem_singleton.mp my]
              exact mw v (List.mem_of_getElem? hv)
        · exact ⟨zs, s2, hD2, by omega, mz⟩
      · rw [List.length_map] at lz
        refine ⟨D2, zs, rfl, SqL.of hD2, by omega, fun p Ls np nd _ mem => ?_⟩
        have ll : Ls.length ≤ 11 := by
          rw [← yl]
          exact nodup_le nd fun j mj => mz j ((mem j).mp mj)
        refine ⟨p, Ls, rfl, upd_same, by omega, fun zs2 q pm2 nd2 so2 nq => ?_⟩
        refine ⟨q, _, rfl, .inl ⟨SqL.of upd_same, fun t nt => ⟨by show 2 ≤ sizeLine; decide, fun r nr => ?_⟩⟩⟩
        have rt : t ≠ r := fun c => by
          rw [← c, upd_same] at nr
          cases nr
        have s3 := ((s2.trans (same_new (o := TxO w p Ls) np)).trans (same_new (o := .lst (zs2.map V.str)) nq)).trans ((same_new (o := .tup (zs2.map V.str)) nt).trans (same_new (o := .tup [.str z, .ref t]) nr))
        have ht : upd (upd (upd (upd H2 p (TxO w p Ls)) q (.lst (zs2.map V.str))) t (.tup (zs2.map V.str))) r (.tup [.str z, .ref t]) t = some (.tup (zs2.map V.str)) := by rw [upd_ne rt, upd_same]
        have hr : upd (upd (upd (upd H2 p (TxO w p Ls)) q (.lst (zs2.map V.str))) t (.tup (zs2.map V.str))) r (.tup [.str z, .ref t]) r = some (.tup [.str z, .ref t]) := upd_same
        generalize upd (upd (upd (upd H2 p (TxO w p Ls)) q (.lst (zs2.map V.str))) t (.tup (zs2.map V.str))) r (.tup [.str z, .ref t]) = H20 at s3 ht hr ⊢
        have hD3 := s3 D _ hD
        refine ⟨rows, hD3, small1000 (by omega), rows ++ [.ref r], rs ++ [(z, zs2)], fun b o e => ?_, upd_same, ?_, ?_, ?_, fun x mx => ?_⟩
        · rw [upd_ne (ne_of_none e nD)]
          exact s3 _ _ (s1 b o e)
        · rw [List.length_append, len]
          rfl
        · exact pair_snoc ⟨r, t, rfl, tup_lst hD3 _ _ hr, tup_lst hD3 _ _ ht⟩ (Paired.mapP pr fun _ _ h => h.keep fun b xs e => tup_lst hD3 b xs (s3 b _ e))
        · rw [List.map_append, nm, List.take_add_one, hz]
          rfl
        · rcases List.mem_append.mp mx with mx | mx
          · exact l11 x mx
          · rw [List.mem_singleton.mp mx]
            refine ⟨?_, fun y my => mz y ((mem y).mp (pm2.mem_iff.mp my)), asc_sorted so2 nd2⟩
            show zs2.length ≤ 11
            rw [pm2.length_eq]
            exact ll
    · rw [List.length_map, List.take_length] at nm
      exact ⟨D, rows, rs, rfl, s1, hD, pr, nm, l11⟩
  rintro σ4 H11 ⟨D, rows, rs, rfl, s1, hD, pr, nm, l11⟩
  have J11 := I10.keep (keep_of_same s1) (by obtain ⟨a, b, c, e, r⟩ := I10.U; exact ⟨a, b, c, s1 _ _ e, r⟩)
  refine ⟨_, rfl, D, rows, rowK H11, rowT H11, rfl, SqL.of hD, fun x mx => ?_, fun x mx y my e => ?_, fun zs p pm pw np => ?_⟩
  · obtain ⟨i, ei⟩ := List.mem_iff_getElem?.mp mx
    obtain ⟨q, hq, a, t, rfl, h1, h2⟩ := pair_at pr ei
    refine ⟨a, rfl, ?_⟩
    rw [rowK_at h1, rowT_at h1]
    exact h1
  · obtain ⟨i, ei⟩ := List.mem_iff_getElem?.mp mx
    obtain ⟨j, ej⟩ := List.mem_iff_getElem?.mp my
    obtain ⟨q, hq, a, t, rfl, h1, h2⟩ := pair_at pr ei
    obtain ⟨q', hq', a', t', rfl, h1', h2'⟩ := pair_at pr ej
    rw [rowK_at h1, rowK_at h1'] at e
    have n1 : fo[i]? = some q.1 := by rw [← nm, List.getElem?_map, hq]; rfl
    have n2 : fo[j]? = some q'.1 := by rw [← nm, List.getElem?_map, hq']; rfl
    rw [← e] at n2
    have ij := nodup_ix fc.nd n1 n2
    subst ij
    rw [ei] at ej
    rw [Option.some.inj ej]
  obtain ⟨rs2, pm2, pr2⟩ := pair_perm pm pr
  refine ⟨p, _, rfl, .inl ⟨SqL.of upd_same, fun t1 nt1 => ?_⟩⟩
  have JB := (J11.new (o := .lst zs) np).new (o := .tup zs) nt1
  refine ⟨_, rfl, E, fr, rfl, SqL.of (JB.at mE), by omega, fun es q pm3 _ nq => ⟨q, _, rfl, .inl ⟨SqL.of upd_same, fun t2 nt2 => ⟨by show 2 ≤ sizeLine; decide, fun x nx => ?_⟩⟩⟩⟩
  have JE := ((JB.new (o := .lst (es.map V.str)) nq).new (o := .tup (es.map V.str)) nt2).new (o := .tup [.ref t1, .ref t2]) nx
  have sE := ((same_new (o := .lst zs) np).trans (same_new (o := .tup zs) nt1)).trans (((same_new (o := .lst (es.map V.str)) nq).trans (same_new (o := .tup (es.map V.str)) nt2)).trans (same_new (o := .tup [.ref t1, .ref t2]) nx))
  have h2 : upd (upd (upd (upd (upd H11 p (.lst zs)) t1 (.tup zs)) q (.lst (es.map V.str))) t2 (.tup (es.map V.str))) x (.tup [.ref t1, .ref t2]) t2 = some (.tup (es.map V.str)) := (same_new nx) _ _ upd_same
  have h1 : upd (upd (upd (upd (upd H11 p (.lst zs)) t1 (.tup zs)) q (.lst (es.map V.str))) t2 (.tup (es.map V.str))) x (.tup [.ref t1, .ref t2]) t1 = some (.tup zs) := (same_new nx) _ _ ((same_new nt2) _ _ ((same_new nq) _ _ upd_same))
  have hx : upd (upd (upd (upd (upd H11 p (.lst zs)) t1 (.tup zs)) q (.lst (es.map V.str))) t2 (.tup (es.map V.str))) x (.tup [.ref t1, .ref t2]) x = some (.tup [.ref t1, .ref t2]) := upd_same
  have pr3 := Paired.mapP pr2 fun _ _ h => RowAt.keep (fun b xs e => sE b _ e) h
  obtain ⟨ua, ub, uc, hu3, _⟩ := id JE.U
  have le1 := pm2.length_eq
  have le2 : rs.length = fo.length := by rw [← nm, List.length_map]
  have mm := fc.mm
  refine k x rs2 es _ (JE.U.le (by omega)) JE.kp ?_ (by omega) (by rw [pm3.length_eq]; exact fc.fl) (fun r mr => ⟨(l11 r (pm2.mem_iff.mp mr)).1, fc.yn _ (fc.fy _ (by rw [← nm]; exact List.mem_map.mpr ⟨r, pm2.mem_iff.mp mr, rfl⟩)), fun y my => fc.yn _ ((l11 r (pm2.mem_iff.mp mr)).2.1 y my), (l11 r (pm2.mem_iff.mp mr)).2.2⟩) (fun z mz => fc.yn _ (fc.ry _ (pm3.mem_iff.mp mz))) ?_
  rotate_left
  · refine asc_of ?_ ((pm2.map (·.1)).nodup_iff.mpr (by rw [nm]; exact fc.nd))
    rw [← rows_keys pr2]
    exact List.pairwise_map.mpr pw
  exact .tup (.inl (.inl (tup_hide hu3 hx))) (.cons (.tup (.inl (.inl (tup_hide hu3 h1))) (dpa_rows hu3 pr3)) (.cons (.tup (.inl (.inl (tup_hide hu3 h2))) (dpa_strs es)) .nil))
end
end Cx

/-! data of the law: sheets, goals -/
namespace Cx
open PySem PySem.Spec PyProof.Rows L2
def namesW : List Str := ["a", "ann", "bob", "cat", "dan", "eve", "fay", "new", "old", "x", "zzzzzzzz", "b", "c"]
theorem rise_pw : ∀ {l : List Str} {p : Str}, risingS p l = true → (p :: l).Pairwise fun x y : Str => x.cps.toList ≤ y.cps.toList
  | [], p, _ => List.pairwise_singleton _ p
  | x :: r, p, h => by
    have h1 := Bool.and_eq_true_iff.mp (show (!ltCps x.cps.toList p.cps.toList && risingS x r) = true from h)
    have ih := rise_pw (l := r) (p := x) h1.2
    have px : p.cps.toList ≤ x.cps.toList := by
      have q := h1.1
      rw [ltCps_eq] at q
      exact List.not_lt.mp (by simpa using q)
    refine List.pairwise_cons.mpr ⟨fun y m => ?_, ih⟩
    rcases List.mem_cons.mp m with e | m
    · rw [e]
      exact px
    · exact List.le_trans px ((List.pairwise_cons.mp ih).1 y m)
theorem sort_pw : ∀ {l : List Str}, sortedS l = true → l.Pairwise fun x y : Str => x.cps.toList ≤ y.cps.toList
  | [], _ => .nil
  | _ :: _, h => rise_pw h
theorem sorted_one {xs ys : List Str} (p : xs.Perm ys) (h1 : sortedS xs = true) (h2 : sortedS ys = true) : xs = ys :=
  List.Perm.eq_of_pairwise (fun a b _ _ l m => str_ext (List.le_antisymm l m)) (sort_pw h1) (sort_pw h2) p
theorem ok11 : ∀ z ∈ namesW, PyData.strOk z = true := by decide +kernel
theorem lay_all : ∀ {ds : List PyData}, (∀ d ∈ ds, PyData.canLay0 d = true) → PyData.canLayAll0 ds = true
  | [], _ => rfl
  | d :: ds, h => by
    rw [PyData.canLayAll0, h d List.mem_cons_self, lay_all fun x m => h x (List.mem_cons_of_mem _ m)]
    rfl
theorem depth_all {n : Nat} : ∀ {ds : List PyData}, (∀ d ∈ ds, PyData.depth d ≤ n) → PyData.depthAll ds ≤ n
  | [], _ => Nat.zero_le _
  | d :: ds, h => by
    rw [PyData.depthAll]
    exact Nat.max_le.mpr ⟨h d List.mem_cons_self, depth_all fun x m => h x (List.mem_cons_of_mem _ m)⟩
/-- the sheet as lists -/
theorem lst_sh (rs : List (Str × List Str)) (es : List Str) : lstD (shT rs es) = .list [.list (rs.map fun r => .list [.str r.1, .list (r.2.map PyData.str)]), .list (es.map PyData.str)] := by
  have hs : ∀ xs : List Str, lstDs (xs.map PyData.str) = xs.map PyData.str := fun xs => by
    rw [lstDs_map, List.map_map]
    rfl
  show PyData.list (lstDs [.tuple (rs.map fun r => .tuple [.str r.1, .tuple (r.2.map PyData.str)]), .tuple (es.map PyData.str)]) = _
  rw [lstDs_map]
  show PyData.list [.list (lstDs (rs.map fun r => .tuple [.str r.1, .tuple (r.2.map PyData.str)])), .list (lstDs (es.map PyData.str))] = _
  rw [hs, lstDs_map, List.map_map]
  congr 3
  refine List.map_congr_left fun r _ => ?_
  show PyData.list (lstDs [.str r.1, .tuple (r.2.map PyData.str)]) = _
  rw [lstDs_map]
  show PyData.list [.str r.1, .list (lstDs (r.2.map PyData.str))] = _
  rw [hs]
/-- texts of this sheet are of the eleven -/
def ShN (rs : List (Str × List Str)) (es : List Str) : Prop := (∀ r ∈ rs, r.2.length ≤ 56 ∧ r.1 ∈ namesW ∧ ∀ y ∈ r.2, y ∈ namesW) ∧ ∀ z ∈ es, z ∈ namesW
theorem shaped_sh {rs : List (Str × List Str)} {es : List Str} (h : ShN rs es) : SeqAt.shaped (lstD (shT rs es)) = true := by
  rw [lst_sh]
  have c2 : ∀ xs : List Str, (∀ z ∈ xs, z ∈ namesW) → PyData.canLay0 (.list (xs.map PyData.str)) = true := fun xs hx => by
    rw [PyData.canLay0]
    refine lay_all fun d m => ?_
    obtain ⟨z, mz, rfl⟩ := List.mem_map.mp m
    exact ok11 z (hx z mz)
  have d2 : ∀ xs : List Str, PyData.depth (.list (xs.map PyData.str)) ≤ 1 := fun xs => by
    rw [PyData.depth]
    refine Nat.succ_le_succ (depth_all fun d m => ?_)
    obtain ⟨z, mz, rfl⟩ := List.mem_map.mp m
    exact Nat.zero_le _
  refine Bool.and_eq_true_iff.mpr ⟨?_, decide_eq_true ?_⟩
  · rw [PyData.canLay0]
    refine lay_all fun d m => ?_
    rcases List.mem_cons.mp m with e | m
    · subst e
      rw [PyData.canLay0]
      refine lay_all fun d m => ?_
      obtain ⟨r, mr, rfl⟩ := List.mem_map.mp m
      rw [PyData.canLay0]
      refine lay_all fun d m => ?_
      rcases List.mem_cons.mp m with e | m
      · subst e
        exact ok11 _ (h.1 r mr).2.1
      · rw [List.mem_singleton.mp m]
        exact c2 _ (h.1 r mr).2.2
    · rw [List.mem_singleton.mp m]
      exact c2 _ h.2
  · refine Nat.le_trans (m := 4) ?_ (by decide)
    rw [PyData.depth]
    refine Nat.succ_le_succ (depth_all fun d m => ?_)
    rcases List.mem_cons.mp m with e | m
    · subst e
      rw [PyData.depth]
      refine Nat.succ_le_succ (depth_all fun d m => ?_)
      obtain ⟨r, mr, rfl⟩ := List.mem_map.mp m
      rw [PyData.depth]
      refine Nat.succ_le_succ (depth_all fun d m => ?_)
      rcases List.mem_cons.mp m with e | m
      · subst e
        exact Nat.zero_le _
      · rw [List.mem_singleton.mp m]
        exact d2 _
    · rw [List.mem_singleton.mp m]
      exact Nat.le_trans (d2 _) (by decide)
theorem eqv_sh {rs : List (Str × List Str)} {es : List Str} (h : ShN rs es) : PyData.eqv (lstD (shT rs es)) (lstD (shT rs es)) = true := SeqAt.eqv_refl _ (SeqAt.canLay_of_shaped (shaped_sh h))
theorem smd_strs {n : Nat} {xs : List Str} (h : xs.length ≤ 900) : SmD (n + 2) (.tuple (xs.map PyData.str)) := ⟨by rw [List.length_map]; exact h, fun d m => by
  obtain ⟨z, _, rfl⟩ := List.mem_map.mp m
  trivial⟩
theorem smd_sh {rs : List (Str × List Str)} {es : List Str} (h : ShN rs es) (h1 : rs.length ≤ 900) (h2 : es.length ≤ 900) : SmD 5 (shT rs es) := by
  refine ⟨by show 2 ≤ 900; decide, fun d m => ?_⟩
  rcases List.mem_cons.mp m with e | m
  · subst e
    refine ⟨by rw [List.length_map]; exact h1, fun d m => ?_⟩
    obtain ⟨r, mr, rfl⟩ := List.mem_map.mp m
    refine ⟨by show 2 ≤ 900; decide, fun d m => ?_⟩
    rcases List.mem_cons.mp m with e | m
    · subst e
      trivial
    · rw [List.mem_singleton.mp m]
      exact smd_strs (Nat.le_trans (h.1 r mr).1 (by decide))
  · rw [List.mem_singleton.mp m]
    exact smd_strs h2
theorem nodes_strs : ∀ xs : List Str, nodesL (xs.map PyData.str) = 0
  | [] => rfl
  | x :: xs => by
    show 0 + nodesL (xs.map PyData.str) = 0
    rw [nodes_strs xs]
theorem nodes_rows : ∀ rs : List (Str × List Str), nodesL (rs.map fun r => .tuple [.str r.1, .tuple (r.2.map PyData.str)]) = 2 * rs.length
  | [] => rfl
  | r :: rs => by
    show (1 + (0 + ((1 + nodesL (r.2.map PyData.str)) + 0))) + nodesL (rs.map fun r => .tuple [.str r.1, .tuple (r.2.map PyData.str)]) = 2 * (rs.length + 1)
    rw [nodes_rows rs, nodes_strs]
    omega
theorem nodes_sh (rs : List (Str × List Str)) (es : List Str) : nodes (shT rs es) = 3 + 2 * rs.length := by
  show 1 + ((1 + nodesL (rs.map fun r => .tuple [.str r.1, .tuple (r.2.map PyData.str)])) + ((1 + nodesL (es.map PyData.str)) + 0)) = _
  rw [nodes_rows, nodes_strs]
  omega
end Cx

namespace Cx
open PySem PySem.Spec PyProof.Rows L2
/-! ### a sheet, of lists or tuples at each depth -/
section
variable {K : PySem.W.Frag} {H : Hp}
theorem dp_strs : ∀ {xs : List V} {ds : List PyData} {es : List Str}, DpAll K H xs ds → ds.map lstD = es.map PyData.str → xs = es.map V.str
  | _, _, [], .nil, _ => rfl
  | _, _, _ :: _, .nil, e => nomatch e
  | _, _, [], .cons _ _, e => nomatch e
  | _, d :: _, z :: es, .cons h t, e => by
    injection e with e1 e2
    have q := dp_strs (es := es) t e2
    cases d with
    | str y =>
      cases h
      injection e1 with e1
      rw [q, e1]
      rfl
    | none => cases e1
    | bool b => cases e1
    | int i => cases e1
    | list l => cases e1
    | tuple l => cases e1
    | dict l => cases e1
theorem dp_seq {x : V} {d : PyData} {es : List PyData} (h : Dp K H x d) (e : lstD d = .list es) : ∃ xs ds, SeqV K H x xs ∧ DpAll K H xs ds ∧ ds.map lstD = es := by
  cases d with
  | list ds =>
    cases h with
    | lst h1 a1 =>
      injection e with e
      exact ⟨_, ds, ⟨_, rfl, .inl h1⟩, a1, by rw [← lstDs_map]; exact e⟩
  | tuple ds =>
    cases h with
    | tup h1 a1 =>
      injection e with e
      exact ⟨_, ds, ⟨_, rfl, .inr h1⟩, a1, by rw [← lstDs_map]; exact e⟩
  | none => cases e
  | bool b => cases e
  | int i => cases e
  | str z => cases e
  | dict l => cases e
theorem dp_two {x : V} {d e1 e2 : PyData} (h : Dp K H x d) (e : lstD d = .list [e1, e2]) : ∃ v w d1 d2, SeqV K H x [v, w] ∧ Dp K H v d1 ∧ Dp K H w d2 ∧ lstD d1 = e1 ∧ lstD d2 = e2 := by
  obtain ⟨xs, ds, hs, ha, e⟩ := dp_seq h e
  have l := congrArg List.length e
  rw [List.length_map] at l
  cases ha with
  | nil => exact absurd l (by show ¬ 0 = 2; decide)
  | cons h1 t =>
    cases t with
    | nil => exact absurd l (by show ¬ 1 = 2; decide)
    | cons h2 t =>
      cases t with
      | nil =>
        injection e with q1 e
        injection e with q2 e
        exact ⟨_, _, _, _, hs, h1, h2, q1, q2⟩
      | cons h3 t =>
        simp only [List.length_cons, List.length_nil] at l
        omega
theorem dp_str {x : V} {d : PyData} {z : Str} (h : Dp K H x d) (e : lstD d = .str z) : x = .str z := by
  cases d with
  | str y =>
    cases h
    injection e with e
    rw [e]
  | none => cases e
  | bool b => cases e
  | int i => cases e
  | list l => cases e
  | tuple l => cases e
  | dict l => cases e
theorem dp_rows : ∀ {xs : List V} {ds : List PyData} {rs : List (Str × List Str)}, DpAll K H xs ds → ds.map lstD = (rs.map fun r => PyData.list [.str r.1, .list (r.2.map PyData.str)]) → RowsV K H xs rs
  | _, _, [], .nil, _ => .nil
  | _, _, _ :: _, .nil, e => nomatch e
  | _, _, [], .cons _ _, e => nomatch e
  | _, d :: _, r :: rs, .cons h t, e => by
    injection e with e1 e2
    refine .cons ?_ (dp_rows t e2)
    obtain ⟨v, w, d1, d2, hs, h1, h2, q1, q2⟩ := dp_two h e1
    have ev := dp_str h1 q1
    subst ev
    obtain ⟨xs, ds, hs2, ha2, q3⟩ := dp_seq h2 q2
    rw [dp_strs ha2 q3] at hs2
    exact ⟨w, hs, hs2⟩
theorem sh_of {x : V} {d : PyData} {rs : List (Str × List Str)} {es : List Str} (h : Dp K H x d) (e : lstD d = lstD (shT rs es)) : ShV K H x rs es := by
  rw [lst_sh] at e
  obtain ⟨v, w, d1, d2, hs, h1, h2, q1, q2⟩ := dp_two h e
  obtain ⟨rows, ds, hs1, ha1, q3⟩ := dp_seq h1 q1
  obtain ⟨xs, ds2, hs2, ha2, q4⟩ := dp_seq h2 q2
  rw [dp_strs ha2 q4] at hs2
  exact ⟨v, w, rows, hs, hs1, dp_rows ha1 q3, hs2⟩
end
end Cx

/-! the program: who suits whom -/
namespace Cx
open PySem PySem.Spec PyProof.Rows L2
theorem pss_dead {X : Cx} {sts : List Stmt} : PSs X sts (fun _ _ _ => False) := ⟨fun _ _ _ _ _ _ h => h.elim⟩
/-! ### for over a list or tuple -/
def ForR (g : TG) (tb : TS) (D : Ends) (σ : L2.St) (H : Hp) (J : It) : Prop := ∃ W : Nat → Nat → L2.St → Hp → Prop, (∃ m, W 0 m σ H) ∧ ∀ i m σ H, W i m σ H →
  (J.stop i H ∧ D.nx σ H) ∨ (J.go i H ∧ ∃ N : L2.St → Hp → Prop, (∀ σ' H', N σ' H' → ∃ m', m' < m ∧ W (i + 1) m' σ' H') ∧ ∀ x H', J.yld i H x H' → g x σ H' fun σ2 H2 => tb { D with nx := N, ct := N, bk := D.nx } σ2 H2)
theorem for_any {K : PySem.W.Frag} {x : V} {xs : List V} {g : TG} {tb : TS} {D : Ends} {σ : L2.St} {H0 H : Hp} (hx : SeqV K H0 x xs) (h01 : Stays K H0 H x xs) (Pv : Nat → L2.St → Hp → Prop) (h0 : Pv 0 σ H) (hl : ∀ i σ H, Pv i σ H → Stays K H0 H x xs)
    (hs : ∀ i y σ H, xs[i]? = some y → Pv i σ H → g y σ H fun σ2 H2 => tb { D with nx := Pv (i + 1), ct := Pv (i + 1), bk := D.nx } σ2 H2) (hd : ∀ σ H, Pv xs.length σ H → D.nx σ H) :
    ∃ a, x = .ref a ∧ (((∃ xs, SqL K H a xs) ∧ ForR g tb D σ H (Itl K a)) ∨ ((∃ xs, SqT K H a xs) ∧ ForR g tb D σ H (Itt K a))) := by
  obtain ⟨a, e, hq⟩ := hx
  refine ⟨a, e, ?_⟩
  rcases hq with hq | hq
  · exact .inl ⟨⟨xs, (h01 a e).1 hq⟩, for_list (xs := xs) Pv h0 (fun i σ H _ q => (hl i σ H q a e).1 hq) hs hd⟩
  · exact .inr ⟨⟨xs, (h01 a e).2 hq⟩, for_tup (xs := xs) Pv h0 (fun i σ H _ q => (hl i σ H q a e).2 hq) hs hd⟩
/-! ### a dict comprehension over a list or tuple -/
def DcR (g : TG) (tt : TT) (tk tv : TE) (vs : List Nat) (σ : L2.St) (Q : VK) (H1 : Hp) (J : It) : Prop := ∀ D, H1 D = none → ∃ W : Nat → Nat → Hp → Prop, (∃ m, W 0 m (upd H1 D (.dK []))) ∧ ∀ i m H, W i m H →
  (J.stop i H ∧ Q (.ref D) H) ∨ (J.go i H ∧ ∃ Nx : Hp → Prop, (∀ H', Nx H' → ∃ m', m' < m ∧ W (i + 1) m' H') ∧ ∀ x H', J.yld i H x H' → g x (wipe σ vs) H' fun σ2 H2 => wipe σ2 vs = wipe σ vs ∧ tt σ2 H2 fun b H3 =>
    if b = true then tk σ2 H3 fun y H4 => tv σ2 H4 fun z H5 => ∃ kvs k, y = kV k ∧ H5 D = some (.dK kvs) ∧ kvs.length < sizeLine ∧ Nx (upd H5 D (.dK (putK kvs k z))) else Nx H3)
theorem dc_any {K : PySem.W.Frag} {x : V} {xs : List V} {g : TG} {tt : TT} {tk tv : TE} {vs : List Nat} {σ : L2.St} {H0 H1 : Hp} {Q : VK} (hx : SeqV K H0 x xs) (h01 : Stays K H0 H1 x xs) (Pv : Addr → Nat → Hp → Prop)
    (h0 : ∀ D, H1 D = none → Pv D 0 (upd H1 D (.dK []))) (hl : ∀ D i H, H1 D = none → Pv D i H → Stays K H0 H x xs)
    (hs : ∀ D i y H, H1 D = none → xs[i]? = some y → Pv D i H → g y (wipe σ vs) H fun σ2 H2 => wipe σ2 vs = wipe σ vs ∧ tt σ2 H2 fun b H3 =>
      if b = true then tk σ2 H3 fun y H4 => tv σ2 H4 fun z H5 => ∃ kvs k, y = kV k ∧ H5 D = some (.dK kvs) ∧ kvs.length < sizeLine ∧ Pv D (i + 1) (upd H5 D (.dK (putK kvs k z))) else Pv D (i + 1) H3)
    (hd : ∀ D H, H1 D = none → Pv D xs.length H → Q (.ref D) H) :
    ∃ a, x = .ref a ∧ (((∃ xs, SqL K H1 a xs) ∧ DcR g tt tk tv vs σ Q H1 (Itl K a)) ∨ ((∃ xs, SqT K H1 a xs) ∧ DcR g tt tk tv vs σ Q H1 (Itt K a))) := by
  obtain ⟨a, e, hq⟩ := hx
  refine ⟨a, e, ?_⟩
  rcases hq with hq | hq
  · refine .inl ⟨⟨xs, (h01 a e).1 hq⟩, fun D nD => ⟨fun i m H => m = xs.length - i ∧ i ≤ xs.length ∧ Pv D i H, ⟨xs.length, by simp, Nat.zero_le _, h0 D nD⟩, ?_⟩⟩
    rintro i m H ⟨rfl, hi, p⟩
    have q := (hl D i H nD p a e).1 hq
    by_cases hlt : i < xs.length
    · refine .inr ⟨⟨xs, xs[i], q, by simp [hlt]⟩, Pv D (i + 1), fun H' p' => ⟨xs.length - (i + 1), by omega, rfl, hlt, p'⟩, fun x H' y => ?_⟩
      obtain ⟨e, y⟩ := y
      subst e
      exact hs D i x _ nD (y xs q) p
    · have e : i = xs.length := by omega
      subst e
      exact .inl ⟨⟨xs, q, Nat.le_refl _⟩, hd D H nD p⟩
  · refine .inr ⟨⟨xs, (h01 a e).2 hq⟩, fun D nD => ⟨fun i m H => m = xs.length - i ∧ i ≤ xs.length ∧ Pv D i H, ⟨xs.length, by simp, Nat.zero_le _, h0 D nD⟩, ?_⟩⟩
    rintro i m H ⟨rfl, hi, p⟩
    have q := (hl D i H nD p a e).2 hq
    by_cases hlt : i < xs.length
    · refine .inr ⟨⟨xs, xs[i], q, by simp [hlt]⟩, Pv D (i + 1), fun H' p' => ⟨xs.length - (i + 1), by omega, rfl, hlt, p'⟩, fun x H' y => ?_⟩
      obtain ⟨e, y⟩ := y
      subst e
      exact hs D i x _ nD (y xs q) p
    · have e : i = xs.length := by omega
      subst e
      exact .inl ⟨⟨xs, q, Nat.le_refl _⟩, hd D H nD p⟩
theorem inV_str (z : Str) : ∀ ns : List Str, inV (.str z) (ns.map V.str) = decide (z ∈ ns)
  | [] => rfl
  | n :: ns => by
    have ih := inV_str z ns
    unfold inV at ih ⊢
    rw [List.map_cons, List.any_cons, ih]
    show ((n == z) || decide (z ∈ ns)) = decide (z ∈ n :: ns)
    by_cases e : z = n
    · subst e
      simp
    · have e2 : ¬ n = z := fun q => e q.symm
      simp [e, e2]
theorem flat_strs : ∀ ns : List Str, (ns.map V.str).all flatV = true
  | [] => rfl
  | n :: ns => by
    rw [List.map_cons, List.all_cons, flat_strs ns]
    rfl
theorem in_s {K : PySem.W.Frag} {H : Hp} {x : V} {z : Str} {ns : List Str} {Q : VK} (h : SeqV K H x (ns.map V.str)) (q : Q (.bl (decide (z ∈ ns))) H) : rIn K false (.str z) x H Q := by
  obtain ⟨a, rfl, h⟩ := h
  refine ⟨a, _, rfl, h, rfl, flat_strs ns, ?_⟩
  rw [inV_str]
  exact q
theorem nin_s {K : PySem.W.Frag} {H : Hp} {x : V} {z : Str} {ns : List Str} {Q : VK} (h : SeqV K H x (ns.map V.str)) (q : Q (.bl (!decide (z ∈ ns))) H) : rIn K true (.str z) x H Q := by
  obtain ⟨a, rfl, h⟩ := h
  refine ⟨a, _, rfl, h, rfl, flat_strs ns, ?_⟩
  rw [inV_str]
  exact q
theorem seq_tup {K : PySem.W.Frag} {H : Hp} {p : Addr} {xs : List V} (h : H p = some (.tup xs)) : SeqV K H (.ref p) xs := ⟨p, rfl, .inr (.inl (.inl h))⟩
section
variable {P : Program} {w : World} {K : PySem.W.Frag} {mg : Str → Option Value} {base : Heap}
/-! ### must_be_households -/
def spMust (K : PySem.W.Frag) : Sp := fun vs H Q _ => ∃ (x y : V) (rs : List (Str × List Str)) (es ns : List Str), vs = [x, y] ∧ ShV K H x rs es ∧ rs.length ≤ 1000 ∧ SeqV K H y (ns.map V.str) ∧ (∀ n ∈ ns, n ∈ rs.map (·.1)) ∧ ∀ H', Same H H' → Q .non H'
theorem scMu : FnScope ["sheet", "names", "known", "name"] ["sheet", "names"] (defScope sMust) := ⟨rfl, rfl, rfl, by decide +kernel, rfl, by decide +kernel, by decide +kernel⟩
theorem ok_must {f g : Addr} {fd gd : FuncData} (F : Fun K "must_be_households" "must_be_households" sMust f fd) (G : FnOk P w K mg base CX0 1 g gd ["sheet"] (spHouseholds K)) (bG : Binds K gd ["sheet"] []) (kG : PySem.W.keepIn K (.ref g) = true) (mG : mg "households" = some (.ref g)) :
    FnOk P w K mg base CX0 2 f fd ["sheet", "names"] (spMust K) := by
  refine F.ok scMu (fun vs H Q E h => ?_) (fun cdv A outer s H vs Q E hr h => ?_)
  · obtain ⟨x, y, rs, es, ns, rfl, _⟩ := h
    rfl
  obtain ⟨x, y, rs, es, ns, rfl, S, hz, hy, hm, k⟩ := h
  refine ⟨_, pss_cons (ps_set (i := 2) scMu.nd rfl (.inl rfl) (pe_call G hr (by rfl) mG kG bG .nil pass0 (pa_cons (pv 0) pa_nil)))
    (pss_one (ps_for PassesOwn.never rfl (pi_seq (pv 1)) (pg_name (i := 3) scMu.nd rfl (.inl rfl)) (pss_one (ps_if (pt_cmpR op_notIn_seq (pv 3) (pv 2) (by rfl)) pss_dead pss_nil)))), ?_⟩
  refine ⟨x, rfl, x, rs, es, rfl, S, hz, fun p H1 s1 np hp => ?_⟩
  have hp2 : SeqV K H1 (.ref p) ((rs.map (·.1)).map V.str) := by
    rw [List.map_map]
    exact seq_tup hp
  refine ⟨y, rfl, ?_⟩
  refine for_any (st_sv s1 hy) (Stays.of (Same.refl H1)) (fun i σ H' => ∃ a : Option V, σ = [some x, some y, some (.ref p), a] ∧ Same H1 H') ⟨none, rfl, Same.refl _⟩ (fun i σ H' ⟨_, _, q⟩ => Stays.of q) ?_ ?_
  · rintro i z σ H' hi ⟨a, rfl, s2⟩
    obtain ⟨n, hn, rfl⟩ := map_at hi
    refine ⟨_, rfl, _, rfl, nin_s (st_sv s2 hp2) ⟨_, rfl, ?_⟩⟩
    rw [decide_eq_true (hm n (List.mem_of_getElem? hn))]
    exact iteF ⟨_, rfl, s2⟩
  · rintro σ H' ⟨a, rfl, s2⟩
    exact k H' (s1.trans s2)
/-! ### wishes_by -/
def WishAt (K : PySem.W.Frag) (H : Hp) (D : Addr) (rs : List (Str × List Str)) : Prop := ∃ kvs : List (Key × V), H D = some (.dK kvs) ∧ kvs.length ≤ 900 ∧ (∀ r ∈ rs, ∃ t, valV kvs (.inr r.1) = some (.ref t) ∧ SqT K (hide D H) t (r.2.map V.str)) ∧ ∀ z, z ∉ rs.map (·.1) → valV kvs (.inr z) = none
def spWishes (K : PySem.W.Frag) : Sp := fun vs H Q _ => ∃ (x : V) (rs : List (Str × List Str)) (es : List Str), vs = [x] ∧ ShV K H x rs es ∧ rs.length ≤ 900 ∧ (rs.map (·.1)).Nodup ∧ ∀ D H', Same H H' → H D = none → WishAt K H' D rs → Q (.ref D) H'
theorem scWi : FnScope ["sheet", "name", "wants"] ["sheet"] (defScope sWishes) := ⟨rfl, rfl, rfl, by decide +kernel, rfl, by decide +kernel, by decide +kernel⟩
theorem ok_wishes {f : Addr} {fd : FuncData} (F : Fun K "wishes_by" "wishes_by" sWishes f fd) (mt : mg "tuple" = none) : FnOk P w K mg base CX0 1 f fd ["sheet"] (spWishes K) := by
  refine F.ok scWi (fun vs H Q E h => ?_) (fun cdv A outer s H vs Q E hr h => ?_)
  · obtain ⟨x, rs, es, rfl, _⟩ := h
    rfl
  obtain ⟨x, rs, es, rfl, S, hz, nd, k⟩ := h
  obtain ⟨r, e, rows, h1, h2, h3, h4⟩ := S.ex
  refine ⟨_, pss_one (ps_ret (pe_dc (own := [("name", 1), ("wants", 2)]) (g := gSeq K 2 (gCons (gName 1) (gCons (gName 2) gNil))) (tt := tYes) (tk := tVar 1) (tv := tCB (rTupOf K) (tCons (tVar 2) tNil)) rfl scWi.nd (pi_seq (pe_ix ix_seq (pv 0) pe_int (fun _ _ => rfl))) (blkOk_by (N := ["sheet", "name", "wants"]) (sc := defScope sWishes) (by decide +kernel))
      (fun _ _ _ _ _ => pg_seq rfl (pgs_cons (pg_name (i := 1) scWi.nd rfl (.inl rfl)) (pgs_cons (pg_name (i := 2) scWi.nd rfl (.inl rfl)) pgs_nil))) (fun _ _ _ _ _ => pts_nil) (fun _ _ _ _ _ => pv 1) (fun _ _ _ _ _ => pe_callTy call_tuple_of (by rfl) mt (by decide +kernel) (pa_cons (pv 2) pa_nil)))), ?_⟩
  refine ⟨x, rfl, ?_⟩
  refine ix_sv h1 (atI_nat (j := 0) rfl) ?_
  refine dc_any h2 (Stays.of (Same.refl H)) (fun D i H' => Same H H' ∧ ∃ kvs : List (Key × V), H' D = some (.dK kvs) ∧ kvs.length ≤ i ∧ (∀ r ∈ rs.take i, ∃ t, valV kvs (.inr r.1) = some (.ref t) ∧ SqT K (hide D H') t (r.2.map V.str)) ∧ ∀ z, z ∉ (rs.take i).map (·.1) → valV kvs (.inr z) = none)
    (fun D nD => ⟨same_new nD, [], upd_same, Nat.le_refl _, (by intro r mr; cases mr), (by intro z _; rfl)⟩) (fun D i H' _ q => Stays.of q.1) (fun D i y H' nD hy ⟨sm, kvs, hD, hk, hv, hn⟩ => ?_) (fun D H' nD ⟨sm, kvs, hD, hk, hv, hn⟩ => ?_)
  · obtain ⟨q, hq, w2, hw, hw2⟩ := h3.at hy
    have hi := (List.getElem?_eq_some_iff.mp hq).1
    refine ⟨_, st_sv sm hw, rfl, _, _, rfl, _, _, rfl, rfl, rfl, _, rfl, _, rfl, ?_⟩
    have et : rs.take (i + 1) = rs.take i ++ [q] := by
      rw [List.take_add_one, hq]
      rfl
    have fin : ∀ (t : Addr) (H2 : Hp), Same H' H2 → SqT K (hide D H2) t (q.2.map V.str) → ∃ (kvs : List (Key × V)) (k : Key), V.str q.1 = kV k ∧ H2 D = some (.dK kvs) ∧ kvs.length < sizeLine ∧
        (Same H (upd H2 D (.dK (putK kvs k (.ref t)))) ∧ ∃ kvs' : List (Key × V), upd H2 D (.dK (putK kvs k (.ref t))) D = some (.dK kvs') ∧ kvs'.length ≤ i + 1 ∧ (∀ r ∈ rs.take (i + 1), ∃ t', valV kvs' (.inr r.1) = some (.ref t') ∧ SqT K (hide D (upd H2 D (.dK (putK kvs k (.ref t))))) t' (r.2.map V.str)) ∧ ∀ z, z ∉ (rs.take (i + 1)).map (·.1) → valV kvs' (.inr z) = none) := fun t H2 s2 ht => by
      refine ⟨kvs, .inr q.1, rfl, s2 _ _ hD, small1000 (by omega), fun b o eb => ?_, _, upd_same, ?_, fun r2 m => ?_, fun z m => ?_⟩
      · rw [upd_ne (ne_of_none eb nD)]
        exact s2 _ _ (sm _ _ eb)
      · have := length_putK kvs (Sum.inr q.1) (V.ref t)
        omega
      · have eh : hide D (upd H2 D (.dK (putK kvs (.inr q.1) (.ref t)))) = hide D H2 := by
          funext b
          by_cases c : b = D
          · rw [c, hide_at, hide_at]
          · rw [hide_ne c, hide_ne c, upd_ne c]
        rw [eh, valV_put]
        by_cases c : (Sum.inr r2.1 : Key) = Sum.inr q.1
        · rw [if_pos c]
          have c2 : r2.1 = q.1 := Sum.inr.inj c
          rw [et] at m
          rcases List.mem_append.mp m with m | m
          · obtain ⟨j, ej⟩ := List.mem_iff_getElem?.mp m
            have hj := (List.getElem?_eq_some_iff.mp ej).1
            rw [List.length_take] at hj
            rw [List.getElem?_take_of_lt (by omega)] at ej
            have := nodup_ix nd (i := j) (j := i) (x := q.1) (by rw [List.getElem?_map, ej]; exact congrArg some c2) (by rw [List.getElem?_map, hq]; rfl)
            omega
          · rw [List.mem_singleton.mp m]
            exact ⟨t, rfl, ht⟩
        · rw [if_neg c]
          rw [et] at m
          rcases List.mem_append.mp m with m | m
          · obtain ⟨t', e1, e2⟩ := hv r2 m
            exact ⟨t', e1, st_tup (keep_of_same s2).same e2⟩
          · rw [List.mem_singleton.mp m] at c
            exact absurd rfl c
      · rw [et, List.map_append] at m
        rw [valV_put, if_neg]
        · exact hn z fun q => m (List.mem_append_left _ q)
        · intro c
          exact m (List.mem_append_right _ (by rw [Sum.inr.inj c]; exact List.mem_singleton.mpr rfl))
    obtain ⟨a, rfl, ha⟩ := hw2
    rcases ha with ha | ha
    · refine ⟨a, _, rfl, .inl ⟨sm.seq ha, fun t nt => ?_⟩⟩
      have tD : t ≠ D := (ne_of_none hD nt).symm
      exact fin t _ (same_new nt) (.inl (.inl (by rw [hide_ne tD, upd_same])))
    · refine ⟨a, _, rfl, .inr ⟨st_tup sm ha, ?_⟩⟩
      refine fin a _ (Same.refl _) (st_tup (fun b o eb => ?_) ha)
      rw [hide_ne (ne_of_none eb nD)]
      exact sm _ _ eb
  · rw [Paired.length h3, List.take_length] at hv hn
    rw [Paired.length h3] at hk
    exact k D H' sm nD ⟨kvs, hD, by omega, hv, hn⟩
end
end Cx

namespace Cx
open PySem PySem.Spec PyProof.Rows L2
/-! ### turns, whatever is asked of one -/
theorem it_lst {K : PySem.W.Frag} {a : Addr} {xs : List V} {B : V → Hp → (Hp → Prop) → Prop} {Qd : Hp → Prop} {Hs : Hp} (Pv : Nat → Hp → Prop) (h0 : Pv 0 Hs) (hl : ∀ i H, Pv i H → SqL K H a xs) (hs : ∀ i x H, xs[i]? = some x → Pv i H → B x H (Pv (i + 1))) (hd : ∀ H, Pv xs.length H → Qd H) :
    ∃ W : Nat → Nat → Hp → Prop, (∃ m, W 0 m Hs) ∧ ∀ i m H, W i m H → ((Itl K a).stop i H ∧ Qd H) ∨ ((Itl K a).go i H ∧ ∃ Nx : Hp → Prop, (∀ H', Nx H' → ∃ m', m' < m ∧ W (i + 1) m' H') ∧ ∀ x H', (Itl K a).yld i H x H' → B x H' Nx) := by
  refine ⟨fun i m H => m = xs.length - i ∧ i ≤ xs.length ∧ Pv i H, ⟨xs.length, by simp, Nat.zero_le _, h0⟩, ?_⟩
  rintro i m H ⟨rfl, hi, p⟩
  have q := hl i H p
  by_cases hlt : i < xs.length
  · refine .inr ⟨⟨xs, xs[i], q, by simp [hlt]⟩, Pv (i + 1), fun H' p' => ⟨xs.length - (i + 1), by omega, rfl, hlt, p'⟩, fun x H' y => ?_⟩
    obtain ⟨e, y⟩ := y
    subst e
    exact hs i x _ (y xs q) p
  · have e : i = xs.length := by omega
    subst e
    exact .inl ⟨⟨xs, q, Nat.le_refl _⟩, hd H p⟩
theorem it_tup {K : PySem.W.Frag} {a : Addr} {xs : List V} {B : V → Hp → (Hp → Prop) → Prop} {Qd : Hp → Prop} {Hs : Hp} (Pv : Nat → Hp → Prop) (h0 : Pv 0 Hs) (hl : ∀ i H, Pv i H → SqT K H a xs) (hs : ∀ i x H, xs[i]? = some x → Pv i H → B x H (Pv (i + 1))) (hd : ∀ H, Pv xs.length H → Qd H) :
    ∃ W : Nat → Nat → Hp → Prop, (∃ m, W 0 m Hs) ∧ ∀ i m H, W i m H → ((Itt K a).stop i H ∧ Qd H) ∨ ((Itt K a).go i H ∧ ∃ Nx : Hp → Prop, (∀ H', Nx H' → ∃ m', m' < m ∧ W (i + 1) m' H') ∧ ∀ x H', (Itt K a).yld i H x H' → B x H' Nx) := by
  refine ⟨fun i m H => m = xs.length - i ∧ i ≤ xs.length ∧ Pv i H, ⟨xs.length, by simp, Nat.zero_le _, h0⟩, ?_⟩
  rintro i m H ⟨rfl, hi, p⟩
  have q := hl i H p
  by_cases hlt : i < xs.length
  · refine .inr ⟨⟨xs, xs[i], q, by simp [hlt]⟩, Pv (i + 1), fun H' p' => ⟨xs.length - (i + 1), by omega, rfl, hlt, p'⟩, fun x H' y => ?_⟩
    obtain ⟨e, y⟩ := y
    subst e
    exact hs i x _ (y xs q) p
  · have e : i = xs.length := by omega
    subst e
    exact .inl ⟨⟨xs, q, Nat.le_refl _⟩, hd H p⟩
/-! ### wishes as a table -/
def wantsOf (rs : List (Str × List Str)) (o : Str) : List Str := ((rs.find? fun r => decide (r.1 = o)).map (·.2)).getD []
theorem wantsOf_in : ∀ {rs : List (Str × List Str)} {r : Str × List Str}, (rs.map (·.1)).Nodup → r ∈ rs → wantsOf rs r.1 = r.2
  | q :: rs, r, nd, m => by
    have nd2 := List.nodup_cons.mp nd
    unfold wantsOf
    rcases List.mem_cons.mp m with e | m
    · rw [e, List.find?_cons_of_pos (by simp)]
      rfl
    · have ne : ¬ q.1 = r.1 := fun e => nd2.1 (List.mem_map.mpr ⟨r, m, e.symm⟩)
      rw [List.find?_cons_of_neg (by simpa using ne)]
      exact wantsOf_in nd2.2 m
theorem wantsOf_out {rs : List (Str × List Str)} {o : Str} (h : o ∉ rs.map (·.1)) : wantsOf rs o = [] := by
  unfold wantsOf
  rw [List.find?_eq_none.mpr fun r m => by
    have : ¬ r.1 = o := fun e => h (List.mem_map.mpr ⟨r, m, e⟩)
    simpa using this]
  rfl
theorem filt_yes {α : Type} {f : α → Bool} {xs : List α} {i : Nat} {z : α} (h : xs[i]? = some z) (e : f z = true) : (xs.take (i + 1)).filter f = (xs.take i).filter f ++ [z] := by
  rw [List.take_add_one, h, List.filter_append]
  show _ ++ List.filter f [z] = _
  rw [List.filter_cons_of_pos e]
  rfl
theorem filt_no {α : Type} {f : α → Bool} {xs : List α} {i : Nat} {z : α} (h : xs[i]? = some z) (e : ¬ f z = true) : (xs.take (i + 1)).filter f = (xs.take i).filter f := by
  rw [List.take_add_one, h, List.filter_append]
  show _ ++ List.filter f [z] = _
  rw [List.filter_cons_of_neg e]
  exact List.append_nil _
def suiN (rs : List (Str × List Str)) (n : Str) : List Str := (wantsOf rs n).filter fun o => decide (n ∈ wantsOf rs o)
def suitN (rs : List (Str × List Str)) (nm : List Str) : List (Str × Str) := nm.flatMap fun n => ((suiN rs n).filter fun o => sLt n o && decide (o ∈ nm)).map fun o => (n, o)
def PrAt (H : Hp) (v : V) (q : Str × Str) : Prop := ∃ a, v = .ref a ∧ H a = some (.tup [.str q.1, .str q.2])
theorem PrAt.keep {H H' : Hp} {v : V} {q : Str × Str} (k : ∀ b xs, H b = some (.tup xs) → H' b = some (.tup xs)) (r : PrAt H v q) : PrAt H' v q := by
  obtain ⟨a, e, h⟩ := r
  exact ⟨a, e, k _ _ h⟩
/-- facts of a sheet that its functions ask for -/
structure Ok (rs : List (Str × List Str)) : Prop where
  len : rs.length ≤ 60
  nd : (rs.map (·.1)).Nodup
  wl : ∀ r ∈ rs, r.2.length ≤ 60
theorem Ok.wants {rs : List (Str × List Str)} (O : Ok rs) (n : Str) : (wantsOf rs n).length ≤ 60 := by
  by_cases h : n ∈ rs.map (·.1)
  · obtain ⟨r, m, rfl⟩ := List.mem_map.mp h
    rw [wantsOf_in O.nd m]
    exact O.wl r m
  · rw [wantsOf_out h]
    exact Nat.zero_le _
section
variable {P : Program} {w : World} {K : PySem.W.Frag} {mg : Str → Option Value} {base : Heap}
/-! ### suited_to -/
def spSuited (K : PySem.W.Frag) : Sp := fun vs H Q _ => ∃ (x : V) (n : Str) (rs : List (Str × List Str)) (es : List Str), vs = [x, .str n] ∧ ShV K H x rs es ∧ Ok rs ∧ n ∈ rs.map (·.1) ∧ ∀ p H', Same H H' → H p = none → H' p = some (.tup ((suiN rs n).map V.str)) → Q (.ref p) H'
abbrev nSt : List Str := ["sheet", "name", "wishes", "other"]
theorem scSt : FnScope nSt ["sheet", "name"] (defScope sSuited) := ⟨rfl, rfl, rfl, by decide +kernel, rfl, by decide +kernel, by decide +kernel⟩
theorem ok_suited {f g1 g2 : Addr} {fd gd1 gd2 : FuncData} (F : Fun K "suited_to" "suited_to" sSuited f fd) (GM : FnOk P w K mg base CX0 2 g1 gd1 ["sheet", "names"] (spMust K)) (bM : Binds K gd1 ["sheet", "names"] []) (kM : PySem.W.keepIn K (.ref g1) = true) (mM : mg "must_be_households" = some (.ref g1))
    (GW : FnOk P w K mg base CX0 1 g2 gd2 ["sheet"] (spWishes K)) (bW : Binds K gd2 ["sheet"] []) (kW : PySem.W.keepIn K (.ref g2) = true) (mW : mg "wishes_by" = some (.ref g2)) (mt : mg "tuple" = none) : FnOk P w K mg base CX0 3 f fd ["sheet", "name"] (spSuited K) := by
  refine F.ok scSt (fun vs H Q E h => ?_) (fun cdv A outer s H vs Q E hr h => ?_)
  · obtain ⟨x, n, rs, es, rfl, _⟩ := h
    rfl
  obtain ⟨x, n, rs, es, rfl, S, O, hn, k⟩ := h
  have hr1 := hr.mono (show 1 ≤ 2 by decide)
  have hu := Nat.lt_of_le_of_lt (Nat.add_le_add_left (show 1 ≤ 64 by decide) _) hr.units
  refine ⟨_, pss_cons (ps_expr (pe_call GM hr (by rfl) mM kM bM .nil pass0 (pa_cons (pv 0) (pa_cons (pe_tup (pa_cons (pv 1) pa_nil)) pa_nil))))
    (pss_cons (ps_set (i := 2) scSt.nd rfl (.inr rfl) (pe_call GW hr1 (by rfl) mW kW bW .nil pass0 (pa_cons (pv 0) pa_nil)))
    (pss_one (ps_ret (pe_callTy call_tuple_of (by rfl) mt (by decide +kernel) (pa_cons
      (pe_lcA (own := [("other", 3)]) (g := gName 3) (tt := tTest (tOp (rIn K false) (tVar 1) (tDGet2 (tVar 2) (tVar 3) (tTup tNil)))) (te := tVar 3) rfl scSt.nd (pe_dget hu (pv 2) (pv 1) (fun _ _ => rfl)) (blkOk_by (N := nSt) (sc := defScope sSuited) (by decide +kernel))
        (fun _ _ _ _ _ => pg_name (i := 3) scSt.nd rfl (.inl rfl)) (fun _ _ _ _ _ => pts_one (pt_cmpR op_in_seq (pv 1) (pe_dget2 hu (pv 2) (pv 3) (pe_tup pa_nil) ⟨rfl, rfl, rfl, rfl⟩) (by rfl))) (fun _ _ _ _ _ => pv 3)) pa_nil))))), ?_⟩
  obtain ⟨r, mr, rfl⟩ := List.mem_map.mp hn
  refine ⟨_, rfl, _, rfl, by show 1 ≤ sizeLine; decide, fun t nt => ?_⟩
  have ol := O.len
  refine ⟨x, .ref t, rs, es, [r.1], rfl, st_sh (same_new nt) S, by omega, seq_tup upd_same, fun n m => by rw [List.mem_singleton.mp m]; exact hn, fun H2 s2 => ?_⟩
  have s2' := (same_new (o := .tup [.str r.1]) nt).trans s2
  refine ⟨_, rfl, x, rs, es, rfl, st_sh s2' S, by omega, O.nd, fun D H3 s3 nD wa => ?_⟩
  obtain ⟨kvs, hD, hk, hv, hno⟩ := wa
  obtain ⟨a, ea, ha⟩ := hv r mr
  refine ⟨_, rfl, _, rfl, D, _, rfl, (by rw [← ea]; exact DGet.k (k := Sum.inr r.1) hD), ?_⟩
  have wl := O.wl r mr
  have ew := wantsOf_in O.nd mr
  refine lc_any (xs := r.2.map V.str) ⟨a, rfl, .inr (st_tup hide_le ha)⟩ (Stays.of (Same.refl H3)) (fun C i H' => Same H3 H' ∧ H' C = some (.lst (((r.2.take i).filter fun o => decide (r.1 ∈ wantsOf rs o)).map V.str))) (fun C nC => ⟨same_new nC, upd_same⟩) (fun C i H' _ q => Stays.of q.1) (fun C i y H' nC hy ⟨s4, hC⟩ => ?_) (fun C H' nC ⟨s4, hC⟩ => ?_)
  · obtain ⟨o, ho, rfl⟩ := map_at hy
    refine ⟨rfl, _, rfl, _, rfl, D, rfl, .inl ⟨kvs, .inl (s4 _ _ hD)⟩, _, rfl, Nat.zero_le _, fun e ne => ?_⟩
    have s5 := s4.trans (same_new (o := .tup []) ne)
    have hC2 := (same_new (o := .tup []) ne) _ _ hC
    have big : ((r.2.take i).filter fun o => decide (r.1 ∈ wantsOf rs o)).length ≤ 60 := Nat.le_trans (List.length_filter_le _ _) (by rw [List.length_take]; omega)
    have look : ∃ (ov : Option V), DGet (upd H' e (.tup [])) D (.str o) ov ∧ SeqV K (upd H' e (.tup [])) (ov.getD (.ref e)) ((wantsOf rs o).map V.str) := by
      by_cases c : o ∈ rs.map (·.1)
      · obtain ⟨r2, m2, rfl⟩ := List.mem_map.mp c
        obtain ⟨a2, ea2, ha2⟩ := hv r2 m2
        refine ⟨some (.ref a2), by rw [← ea2]; exact DGet.k (k := Sum.inr r2.1) (s5 _ _ hD), a2, rfl, .inr ?_⟩
        rw [wantsOf_in O.nd m2]
        exact st_tup (hide_le.trans s5) ha2
      · refine ⟨none, by rw [← hno o c]; exact DGet.k (k := Sum.inr o) (s5 _ _ hD), ?_⟩
        rw [wantsOf_out c]
        exact seq_tup upd_same
    obtain ⟨ov, dg, sv⟩ := look
    refine ⟨ov, dg, in_s sv ⟨_, rfl, ite2 (fun c => ?_) (fun c => ?_)⟩⟩
    · refine ⟨_, rfl, _, hC2, by rw [List.length_map]; exact small1000 (by omega), fun b ob eb => ?_, ?_⟩
      · rw [upd_ne (ne_of_none eb nC)]
        exact s5 _ _ eb
      · rw [upd_same, filt_yes ho c, List.map_append]
        rfl
    · refine ⟨s5, ?_⟩
      rw [filt_no ho c]
      exact hC2
  · rw [List.length_map, List.take_length, ← ew] at hC
    refine ⟨C, _, rfl, .inl ⟨SqL.of hC, fun p np => ?_⟩⟩
    have sf := (s2'.trans s3).trans s4
    exact k p _ (sf.trans (same_new np)) (sf.free np) upd_same
end
end Cx

namespace Cx
open PySem PySem.Spec PyProof.Rows L2
theorem flat_next {α β : Type} (f : α → List β) {xs : List α} {i : Nat} {z : α} (h : xs[i]? = some z) : (xs.take (i + 1)).flatMap f = (xs.take i).flatMap f ++ f z := by
  rw [List.take_add_one, h, List.flatMap_append]
  show _ ++ List.flatMap f [z] = _
  rw [List.flatMap_cons, List.flatMap_nil, List.append_nil]
theorem flat_len {α β : Type} (f : α → List β) (n : Nat) : ∀ (xs : List α), (∀ x ∈ xs, (f x).length ≤ n) → (xs.flatMap f).length ≤ n * xs.length
  | [], _ => Nat.zero_le _
  | x :: xs, h => by
    rw [List.flatMap_cons, List.length_append, List.length_cons, Nat.mul_add, Nat.mul_one, Nat.add_comm]
    exact Nat.add_le_add (flat_len f n xs fun y m => h y (List.mem_cons_of_mem _ m)) (h x List.mem_cons_self)
def without (rs : List (Str × List Str)) (gone : List Str) : List Str := (rs.map (·.1)).filter fun z => !decide (z ∈ gone)
def rLtS : R2 := fun x y H Q => ∃ i j, x = .str i ∧ y = .str j ∧ Q (.bl (decide (i.cps.toList < j.cps.toList))) H
section
variable {P : Program} {w : World} {K : PySem.W.Frag} {mg : Str → Option Value} {base : Heap}
def spSuiting (K : PySem.W.Frag) : Sp := fun vs H Q _ => ∃ (x y : V) (rs : List (Str × List Str)) (es gone : List Str), vs = [x, y] ∧ ShV K H x rs es ∧ Ok rs ∧ SeqV K H y (gone.map V.str) ∧ (∀ z ∈ gone, z ∈ rs.map (·.1)) ∧
  ∀ p H' (ps : List V), Same H H' → H p = none → H' p = some (.lst ps) → Paired (PrAt H') ps (suitN rs (without rs gone)) → Q (.ref p) H'
abbrev nSg : List Str := ["sheet", "without", "names", "name", "one", "other"]
theorem scSg : FnScope nSg ["sheet", "without"] (defScope sSuiting) := ⟨rfl, rfl, rfl, by decide +kernel, rfl, by decide +kernel, by decide +kernel⟩
theorem ok_suiting {f g1 g2 g3 : Addr} {fd gd1 gd2 gd3 : FuncData} {dvs : List V} {kws : List (Str × V)} (F : FunD K "suiting" "suiting" (defArgs sSuiting) (defBody sSuiting) (defScope sSuiting) dvs kws f fd)
    (GM : FnOk P w K mg base CX0 2 g1 gd1 ["sheet", "names"] (spMust K)) (bM : Binds K gd1 ["sheet", "names"] []) (kM : PySem.W.keepIn K (.ref g1) = true) (mM : mg "must_be_households" = some (.ref g1))
    (GH : FnOk P w K mg base CX0 1 g2 gd2 ["sheet"] (spHouseholds K)) (bH : Binds K gd2 ["sheet"] []) (kH : PySem.W.keepIn K (.ref g2) = true) (mH : mg "households" = some (.ref g2))
    (GS : FnOk P w K mg base CX0 3 g3 gd3 ["sheet", "name"] (spSuited K)) (bS : Binds K gd3 ["sheet", "name"] []) (kS : PySem.W.keepIn K (.ref g3) = true) (mS : mg "suited_to" = some (.ref g3)) : FnOk P w K mg base CX0 4 f fd ["sheet", "without"] (spSuiting K) := by
  refine F.ok scSg (fun vs H Q E h => ?_) (fun cdv A outer s H vs Q E hr h => ?_)
  · obtain ⟨x, y, rs, es, gone, rfl, _⟩ := h
    rfl
  obtain ⟨x, y, rs, es, gone, rfl, S, O, hy, hg, k⟩ := h
  have hr1 := hr.mono (show 1 ≤ 3 by decide)
  have hr2 := hr.mono (show 2 ≤ 3 by decide)
  refine ⟨_, PSs.nox (pss_cons (ps_expr (pe_call GM hr2 (by rfl) mM kM bM .nil pass0 (pa_cons (pv 0) (pa_cons (pv 1) pa_nil))))
    (Evl.pss_cut (ps_set (i := 2) scSg.nd rfl (.inr rfl) (pe_lcA (own := [("name", 3)]) (g := gName 3) (tt := tTest (tOp (rIn K true) (tVar 3) (tVar 1))) (te := tVar 3) rfl scSg.nd (pe_call GH hr1 (by rfl) mH kH bH .nil pass0 (pa_cons (pv 0) pa_nil)) (blkOk_by (N := nSg) (sc := defScope sSuiting) (by decide +kernel))
      (fun _ _ _ _ _ => pg_name (i := 3) scSg.nd rfl (.inl rfl)) (fun _ _ _ _ _ => pts_one (pt_cmpR op_notIn_seq (pv 3) (pv 1) (by rfl))) (fun _ _ _ _ _ => pv 3)))
    (pss_one (ps_ret (pe_lc2 (own := [("one", 4), ("other", 5)]) (vs1 := [5]) (g := gName 4) (tt := tYes) (wi1 := iTup K (tCall (spSuited K) [] E0 (tCons (tVar 0) (tCons (tVar 4) tNil)))) (g1 := gName 5) (tt1 := tAnd (tTest (tOp rLtS (tVar 4) (tVar 5))) (tTest (tOp (rIn K false) (tVar 5) (tVar 2)))) (te := tTup (tCons (tVar 4) (tCons (tVar 5) tNil)))
      rfl scSg.nd (pi_list (pv 2)) (blkOk_by (N := nSg) (sc := defScope sSuiting) (by decide +kernel)) (by decide) (fun _ _ _ _ _ => pg_name (i := 4) scSg.nd rfl (.inl rfl)) (fun _ _ _ _ _ => pts_nil)
      (fun _ _ _ _ _ => pi_tup (pe_call GS hr (by rfl) mS kS bS .nil pass0 (pa_cons (pv 0) (pa_cons (pv 4) pa_nil)))) (fun _ _ _ _ _ => pg_name (i := 5) scSg.nd rfl (.inl rfl))
      (fun _ _ _ _ _ => pts_one (PW.pt (pw_and (pt_cmpR op_lt_str (pv 4) (pv 5) (nomark _)) (pw_and1 (pt_cmpR op_in_seq (pv 5) (pv 2) (by rfl)))))) (fun _ _ _ _ _ => pe_tup (pa_cons (pv 4) (pa_cons (pv 5) pa_nil)))))))), ?_⟩
  have ol := O.len
  refine ⟨_, rfl, _, rfl, x, y, rs, es, gone, rfl, S, by omega, hy, hg, fun H1 s1 => ?_⟩
  have nl : (without rs gone).length ≤ 60 := Nat.le_trans (List.length_filter_le _ _) (by rw [List.length_map]; exact ol)
  refine ⟨fun σ' H' => ∃ L : Addr, σ' = [some x, some y, some (.ref L), none, none, none] ∧ Same H H' ∧ H' L = some (.lst ((without rs gone).map V.str)), ?_, ?_⟩
  · refine ⟨_, rfl, x, rs, es, rfl, st_sh s1 S, by omega, fun p H2 s2 np hp => ?_⟩
    have hp2 : SeqV K H2 (.ref p) ((rs.map (·.1)).map V.str) := by
      rw [List.map_map]
      exact seq_tup hp
    refine lc_any hp2 (Stays.of (Same.refl H2)) (fun C i H' => Same H2 H' ∧ H' C = some (.lst ((((rs.map (·.1)).take i).filter fun z => !decide (z ∈ gone)).map V.str))) (fun C nC => ⟨same_new nC, upd_same⟩) (fun C i H' _ q => Stays.of q.1) (fun C i z H' nC hz ⟨s4, hC⟩ => ?_) (fun C H' nC ⟨s4, hC⟩ => ?_)
    · obtain ⟨n, hn, rfl⟩ := map_at hz
      have big : (((rs.map (·.1)).take i).filter fun z => !decide (z ∈ gone)).length ≤ 60 := Nat.le_trans (List.length_filter_le _ _) (by rw [List.length_take, List.length_map]; omega)
      refine ⟨rfl, _, rfl, _, rfl, nin_s (st_sv ((s1.trans s2).trans s4) hy) ⟨_, rfl, ite2 (fun c => ?_) (fun c => ?_)⟩⟩
      · refine ⟨_, rfl, _, hC, by rw [List.length_map]; exact small1000 (by omega), fun b ob eb => ?_, ?_⟩
        · rw [upd_ne (ne_of_none eb nC)]
          exact s4 _ _ eb
        · rw [upd_same, filt_yes hn c, List.map_append]
          rfl
      · refine ⟨s4, ?_⟩
        rw [filt_no hn c]
        exact hC
    · rw [List.length_map, List.take_length] at hC
      exact ⟨C, rfl, (s1.trans s2).trans s4, hC⟩
  rintro σ1 H2 ⟨L, rfl, s2, hL⟩
  have subn : ∀ z ∈ without rs gone, z ∈ rs.map (·.1) := fun z m => (List.mem_filter.mp m).1
  have sl : ∀ n, (suiN rs n).length ≤ 60 := fun n => Nat.le_trans (List.length_filter_le _ _) (O.wants n)
  generalize en : without rs gone = nm at nl hL subn k ⊢
  have fl : ∀ n, (((suiN rs n).filter fun o => sLt n o && decide (o ∈ nm)).map fun o => (n, o)).length ≤ 60 := fun n => by
    rw [List.length_map]
    exact Nat.le_trans (List.length_filter_le _ _) (sl n)
  refine ⟨_, rfl, L, rfl, ⟨_, SqL.of hL⟩, fun D nD => ?_⟩
  refine it_lst (xs := nm.map V.str) (fun i H' => ∃ ps : List V, Same H2 H' ∧ H' D = some (.lst ps) ∧ Paired (PrAt H') ps ((nm.take i).flatMap fun n => ((suiN rs n).filter fun o => sLt n o && decide (o ∈ nm)).map fun o => (n, o))) ⟨[], same_new nD, upd_same, .nil⟩ (fun i H' ⟨_, q, _⟩ => q.seq (SqL.of hL)) (fun i z H' hz ⟨ps, s3, hD, pr⟩ => ?_) (fun H' ⟨ps, s3, hD, pr⟩ => ?_)
  · obtain ⟨n, hn, rfl⟩ := map_at hz
    have li := flat_len (fun n => ((suiN rs n).filter fun o => sLt n o && decide (o ∈ nm)).map fun o => (n, o)) 60 (nm.take i) fun n _ => fl n
    have li2 : (nm.take i).length ≤ 60 := by rw [List.length_take]; omega
    have hS := st_sh (s2.trans s3) S
    refine ⟨rfl, _, rfl, _, rfl, x, n, rs, es, rfl, hS, O, subn n (List.mem_of_getElem? hn), fun p H3 s4 np hp => ⟨p, rfl, ⟨_, .inl (.inl hp)⟩, ?_⟩⟩
    have nDp : D ≠ p := ne_of_none hD np
    refine it_tup (xs := (suiN rs n).map V.str) (fun j H' => ∃ ps : List V, Same H2 H' ∧ H' p = some (.tup ((suiN rs n).map V.str)) ∧ H' D = some (.lst ps) ∧ Paired (PrAt H') ps (((nm.take i).flatMap fun n => ((suiN rs n).filter fun o => sLt n o && decide (o ∈ nm)).map fun o => (n, o)) ++ (((suiN rs n).take j).filter fun o => sLt n o && decide (o ∈ nm)).map fun o => (n, o)))
      ⟨ps, s3.trans s4, hp, s4 _ _ hD, by rw [List.take_zero, List.filter_nil, List.map_nil, List.append_nil]; exact Paired.mapP pr fun _ _ h => h.keep fun b xs e => s4 b _ e⟩ (fun j H' ⟨_, _, q, _⟩ => .inl (.inl q)) (fun j z H' hz2 ⟨ps, s5, hp5, hD5, pr5⟩ => ?_) (fun H' ⟨ps, s5, hp5, hD5, pr5⟩ => ?_)
    · obtain ⟨o, ho, rfl⟩ := map_at hz2
      have lp := Paired.length pr5
      rw [List.length_append] at lp
      have l2 : ((((suiN rs n).take j).filter fun o => sLt n o && decide (o ∈ nm)).map fun o => (n, o)).length ≤ 60 := by
        rw [List.length_map]
        exact Nat.le_trans (List.length_filter_le _ _) (by rw [List.length_take]; have := sl n; omega)
      have hL5 := s5 _ _ hL
      refine ⟨rfl, _, rfl, _, rfl, _, _, rfl, rfl, _, rfl, ite2 (fun c1 => ⟨_, rfl, _, rfl, in_s (ns := nm) ⟨L, rfl, .inl (SqL.of hL5)⟩ ⟨_, rfl, ite2 (fun c2 => ?_) (fun c2 => ?_)⟩⟩) (fun c1 => iteF ?_)⟩
      · have cc : (sLt n o && decide (o ∈ nm)) = true := Bool.and_eq_true_iff.mpr ⟨c1, c2⟩
        refine ⟨_, rfl, _, rfl, by show 2 ≤ sizeLine; decide, fun q nq => ?_⟩
        have hD6 := (same_new (o := .tup [.str n, .str o]) nq) _ _ hD5
        refine ⟨ps, hD6, by rw [sizeLine_eq]; omega, ps ++ [.ref q], fun b ob eb => ?_, ?_, upd_same, ?_⟩
        · rw [upd_ne (ne_of_none eb nD)]
          exact (same_new nq) _ _ (s5 _ _ eb)
        · rw [upd_ne nDp.symm]
          exact (same_new nq) _ _ hp5
        · rw [filt_yes ho cc, List.map_append, ← List.append_assoc]
          refine pair_snoc ⟨q, rfl, tup_lst hD6 _ _ upd_same⟩ (Paired.mapP pr5 fun _ _ h => h.keep fun b xs e => tup_lst hD6 b xs ((same_new nq) b _ e))
      · refine ⟨ps, s5, hp5, hD5, ?_⟩
        rw [filt_no ho fun c => c2 (Bool.and_eq_true_iff.mp c).2]
        exact pr5
      · refine ⟨ps, s5, hp5, hD5, ?_⟩
        rw [filt_no ho fun c => c1 (Bool.and_eq_true_iff.mp c).1]
        exact pr5
    · rw [List.length_map, List.take_length] at pr5
      refine ⟨ps, s5, hD5, ?_⟩
      rw [flat_next _ hn]
      exact pr5
  · rw [List.length_map, List.take_length] at pr
    exact k D H' ps (s2.trans s3) ((s2.free nD)) hD pr
end
end Cx

/-! the law's own words: folk, wants -/
namespace Cx
open PySem PySem.Spec PyProof.Rows L2
theorem mergeK_app : ∀ (more acc : List (Key × V)), (more.map (·.1)).Nodup → (∀ k ∈ more.map (·.1), valV acc k = none) → mergeK acc more = acc ++ more
  | [], acc, _, _ => (List.append_nil _).symm
  | kv :: more, acc, nd, h => by
    have nd2 := List.nodup_cons.mp nd
    have h1 : valV acc kv.1 = none := h _ List.mem_cons_self
    show mergeK (putK acc kv.1 kv.2) more = acc ++ kv :: more
    rw [putK_new kv.2 h1, mergeK_app more _ nd2.2 fun k m => ?_, List.append_assoc]
    · rfl
    · have ne : ¬ k = kv.1 := fun e => nd2.1 (by show kv.1 ∈ _; rw [← e]; exact m)
      rw [valV_snoc kv.1 k kv.2 acc h1, if_neg ne]
      exact h k (List.mem_cons_of_mem _ m)
theorem mergeK_nil {more : List (Key × V)} (nd : (more.map (·.1)).Nodup) : mergeK [] more = more := mergeK_app more [] nd fun _ _ => rfl
theorem keys_nodup {rs : List (Str × List Str)} (nd : (rs.map (·.1)).Nodup) : (rs.map fun r => (Sum.inr r.1 : Key)).Nodup := by
  have e : (rs.map fun r => (Sum.inr r.1 : Key)) = (rs.map (·.1)).map Sum.inr := by
    rw [List.map_map]
    rfl
  rw [e]
  exact List.pairwise_map.mpr (nd.imp fun {a b} n c => n (Sum.inr.inj c))
/-- the dict at D: the sheet's names in their order, each with the homes of its that are in fl -/
def TabAt (H : Hp) (D : Addr) (rs : List (Str × List Str)) (fl : List Str) : Prop := ∃ kvs : List (Key × V), H D = some (.dK kvs) ∧ kvs.map (·.1) = (rs.map fun r => (Sum.inr r.1 : Key)) ∧
  ∀ r ∈ rs, ∃ l, valV kvs (.inr r.1) = some (.ref l) ∧ H l = some (.lst ((r.2.filter fun o => decide (o ∈ fl)).map V.str))
theorem val_pair {R : Key × V → Str × List Str → Prop} : ∀ {kvs : List (Key × V)} {rs : List (Str × List Str)}, Paired R kvs rs → kvs.map (·.1) = (rs.map fun r => (Sum.inr r.1 : Key)) → (rs.map (·.1)).Nodup → ∀ r ∈ rs, ∃ kv, valV kvs (.inr r.1) = some kv.2 ∧ R kv r
  | _, _, .nil, _, _, r, m => nomatch m
  | kv :: _, q :: rs, .cons h t, e, nd, r, m => by
    injection e with e1 e2
    have nd2 := List.nodup_cons.mp nd
    rcases List.mem_cons.mp m with c | m
    · subst c
      exact ⟨kv, valV_pos e1, h⟩
    · obtain ⟨kv2, h1, h2⟩ := val_pair t e2 nd2.2 r m
      refine ⟨kv2, ?_, h2⟩
      rw [valV_neg]
      · exact h1
      · rw [show kv.1 = Sum.inr q.1 from e1]
        intro c
        exact nd2.1 (List.mem_map.mpr ⟨r, m, (Sum.inr.inj c).symm⟩)
section
variable {P : Program} {w : World} {K : PySem.W.Frag} {mg : Str → Option Value} {base : Heap}
/-! ### folk -/
def spFolk (K : PySem.W.Frag) : Sp := fun vs H Q _ => ∃ (x : V) (rs : List (Str × List Str)) (es : List Str), vs = [x] ∧ ShV K H x rs es ∧ rs.length ≤ 900 ∧ ∀ p H', Same H H' → H p = none → H' p = some (.lst ((rs.map (·.1)).map V.str)) → Q (.ref p) H'
theorem scFk : FnScope ["_law_tome_here", "_law_own"] ["_law_tome_here"] (defScope sFolk) := ⟨rfl, rfl, rfl, by decide +kernel, rfl, by decide +kernel, by decide +kernel⟩
theorem ok_folk {f : Addr} {fd : FuncData} (F : Fun K "_law_folk" "_law_folk" sFolk f fd) : FnOk P w K mg base CX0 1 f fd ["_law_tome_here"] (spFolk K) := by
  refine F.ok scFk (fun vs H Q E h => ?_) (fun cdv A outer s H vs Q E hr h => ?_)
  · obtain ⟨x, rs, es, rfl, _⟩ := h
    rfl
  obtain ⟨x, rs, es, rfl, S, hz, k⟩ := h
  obtain ⟨r, e, rows, h1, h2, h3, h4⟩ := S.ex
  refine ⟨_, pss_one (ps_ret (pe_lcA (own := [("_law_own", 1)]) (g := gName 1) (tt := tYes) (te := tOp (rIx K) (tVar 1) (tC (.int 0))) rfl scFk.nd (pe_ix ix_seq (pv 0) pe_int (fun _ _ => rfl)) (blkOk_by (N := ["_law_tome_here", "_law_own"]) (sc := defScope sFolk) (by decide +kernel))
      (fun _ _ _ _ _ => pg_name (i := 1) scFk.nd rfl (.inl rfl)) (fun _ _ _ _ _ => pts_nil) (fun _ _ _ _ _ => pe_ix ix_seq (pv 1) pe_int (fun _ _ => rfl)))), ?_⟩
  refine ⟨x, rfl, ?_⟩
  refine ix_sv h1 (atI_nat (j := 0) rfl) ?_
  refine lc_any h2 (Stays.of (Same.refl H)) (fun D i H' => Same H H' ∧ H' D = some (.lst (((rs.take i).map (·.1)).map V.str))) (fun D nD => ⟨same_new nD, upd_same⟩) (fun D i H' _ q => Stays.of q.1) (fun D i y H' nD hy ⟨sm, hD⟩ => ?_) (fun D H' nD ⟨sm, hD⟩ => ?_)
  · obtain ⟨q, hq, w2, hw, _⟩ := h3.at hy
    refine ⟨rfl, _, rfl, ix_sv (st_sv sm hw) (atI_nat (j := 0) rfl) ⟨_, hD, ?_, fun b o eb => ?_, ?_⟩⟩
    · rw [List.length_map, List.length_map, List.length_take]
      exact small1000 (by omega)
    · rw [upd_ne (ne_of_none eb nD)]
      exact sm _ _ eb
    · rw [upd_same, List.take_add_one, hq]
      simp
  · rw [List.take_of_length_le (by rw [Paired.length h3]; exact Nat.le_refl _)] at hD
    exact k D H' sm nD hD
/-! ### wants -/
def spWants (K : PySem.W.Frag) : Sp := fun vs H Q _ => ∃ (x : V) (rs : List (Str × List Str)) (es : List Str), vs = [x] ∧ ShV K H x rs es ∧ Ok rs ∧ es.length ≤ 60 ∧ ∀ D H', Same H H' → H D = none → TabAt H' D rs (rs.map (·.1) ++ es) → Q (.ref D) H'
abbrev nWt : List Str := ["_law_tome_here", "_law_flats", "_law_own", "_law_flat"]
theorem scWt : FnScope nWt ["_law_tome_here"] (defScope sWants) := ⟨rfl, rfl, rfl, by decide +kernel, rfl, by decide +kernel, by decide +kernel⟩
def scWtIn : Scope := { kind := .function, names := [(".0", .local), ("_law_own", .local), ("_law_flats", .cell)], isGenerator := false, isCoroutine := false }
theorem ok_wants {f g : Addr} {fd gd : FuncData} (F : Fun K "_law_wants" "_law_wants" sWants f fd) (GF : FnOk P w K mg base CX0 1 g gd ["_law_tome_here"] (spFolk K)) (bF : Binds K gd ["_law_tome_here"] []) (kF : PySem.W.keepIn K (.ref g) = true) (mF : mg "_law_folk" = some (.ref g))
    (ml : mg "list" = none) (md : mg "dict" = none) : FnOk P w K mg base CX0 2 f fd ["_law_tome_here"] (spWants K) := by
  refine F.ok scWt (fun vs H Q E h => ?_) (fun cdv A outer s H vs Q E hr h => ?_)
  · obtain ⟨x, rs, es, rfl, _⟩ := h
    rfl
  obtain ⟨x, rs, es, rfl, S, O, hes, k⟩ := h
  refine ⟨_, pss_cons (ps_set (i := 1) scWt.nd rfl (.inr rfl) (pe_op op_cat (pe_call GF hr (by rfl) mF kF bF .nil pass0 (pa_cons (pv 0) pa_nil)) (pe_callTy call_list_of (by rfl) ml (by decide +kernel) (pa_cons (pe_ix ix_seq (pv 0) pe_int (fun _ _ => rfl)) pa_nil))))
    (pss_one (ps_ret (pe_callTy (call_dictP rfl) (by rfl) md (by decide +kernel) (pa_cons
      (pe_lcA (own := [("_law_own", 2)]) (g := gName 2) (tt := tYes) (te := tTup (tCons (tOp (rIx K) (tVar 2) (tC (.int 0))) (tCons (tLcA K (tOp (rIx K) (tVar 2) (tC (.int 1))) (gName 3) (tTest (tOp (rIn K false) (tVar 3) (tVar 1))) (tVar 3) [3]) tNil))) rfl scWt.nd (pe_ix ix_seq (pv 0) pe_int (fun _ _ => rfl)) (blkOk_by (N := nWt) (sc := defScope sWants) (by decide +kernel))
        (fun _ _ _ _ _ => pg_name (i := 2) scWt.nd rfl (.inl rfl)) (fun _ _ _ _ _ => pts_nil) (fun _ _ _ _ _ => pe_tup (pa_cons (pe_ix ix_seq (pv 2) pe_int (fun _ _ => rfl)) (pa_cons
          (pe_lcA (own := [("_law_flat", 3)]) (g := gName 3) (tt := tTest (tOp (rIn K false) (tVar 3) (tVar 1))) (te := tVar 3) rfl scWt.nd (pe_ix ix_seq (pv 2) pe_int (fun _ _ => rfl)) (blkOk_by (N := nWt) (sc := scWtIn) (by decide +kernel))
            (fun _ _ _ _ _ => pg_name (i := 3) scWt.nd rfl (.inl rfl)) (fun _ _ _ _ _ => pts_one (pt_cmpR op_in_seq (pv 3) (pv 1) (by rfl))) (fun _ _ _ _ _ => pv 3)) pa_nil)))) pa_nil)))), ?_⟩
  have ol := O.len
  refine ⟨_, rfl, x, rs, es, rfl, S, by omega, fun p1 H1 s1 n1 h1 => ?_⟩
  obtain ⟨r, e, rows, g1, g2, g3, g4⟩ := (st_sh s1 S).ex
  refine ⟨_, rfl, ix_sv g1 (atI_nat (j := 1) rfl) ?_⟩
  obtain ⟨b, rfl, hb⟩ := g4
  refine ⟨b, _, rfl, hb, fun l nl => ?_⟩
  have h1b := (same_new (o := .lst (es.map V.str)) nl) _ _ h1
  refine cats h1b upd_same (by rw [List.length_map]; omega) fun F nF => ?_
  have s2 : Same H (upd (upd H1 l (.lst (es.map V.str))) F (.lst ((rs.map (·.1) ++ es).map V.str))) := (s1.trans (same_new nl)).trans (same_new nF)
  have hF : upd (upd H1 l (.lst (es.map V.str))) F (.lst ((rs.map (·.1) ++ es).map V.str)) F = some (.lst ((rs.map (·.1) ++ es).map V.str)) := upd_same
  generalize upd (upd H1 l (.lst (es.map V.str))) F (.lst ((rs.map (·.1) ++ es).map V.str)) = H2 at s2 hF ⊢
  obtain ⟨r, e, rows, g1, g2, g3, g4⟩ := (st_sh s2 S).ex
  refine ⟨_, rfl, ix_sv g1 (atI_nat (j := 0) rfl) ?_⟩
  refine lc_any g2 (Stays.of (Same.refl H2)) (fun C i H' => Same H2 H' ∧ ∃ (ps : List Addr) (kvs : List (Key × V)), H' C = some (.lst (ps.map V.ref)) ∧ Paired (fun p kv => H' p = some (.tup [kV kv.1, kv.2])) ps kvs ∧ kvs.map (·.1) = ((rs.take i).map fun r => (Sum.inr r.1 : Key)) ∧
      Paired (fun kv r => ∃ l, kv.2 = V.ref l ∧ l ≠ C ∧ H' l = some (.lst ((r.2.filter fun o => decide (o ∈ rs.map (·.1) ++ es)).map V.str))) kvs (rs.take i))
    (fun C nC => ⟨same_new nC, [], [], upd_same, .nil, rfl, .nil⟩) (fun C i H' _ q => Stays.of q.1) (fun C i y H' nC hy ⟨s4, ps, kvs, hC, pp, ek, pk⟩ => ?_) (fun C H' nC ⟨s4, ps, kvs, hC, pp, ek, pk⟩ => ?_)
  · obtain ⟨q, hq, w2, hw, hw2⟩ := g3.at hy
    have wl := O.wl q (List.mem_of_getElem? hq)
    have hi := (List.getElem?_eq_some_iff.mp hq).1
    refine ⟨rfl, _, rfl, ix_sv (st_sv s4 hw) (atI_nat (j := 0) rfl) ⟨_, rfl, ix_sv (st_sv s4 hw) (atI_nat (j := 1) rfl) ?_⟩⟩
    refine lc_any (st_sv s4 hw2) (Stays.of (Same.refl H')) (fun D j H3 => Same H' H3 ∧ H3 D = some (.lst (((q.2.take j).filter fun o => decide (o ∈ rs.map (·.1) ++ es)).map V.str))) (fun D nD => ⟨same_new nD, upd_same⟩) (fun D j H3 _ q => Stays.of q.1) (fun D j y H3 nD hy2 ⟨s5, hD⟩ => ?_) (fun D H3 nD ⟨s5, hD⟩ => ?_)
    · obtain ⟨o, ho, rfl⟩ := map_at hy2
      have big : ((q.2.take j).filter fun o => decide (o ∈ rs.map (·.1) ++ es)).length ≤ 60 := Nat.le_trans (List.length_filter_le _ _) (by rw [List.length_take]; omega)
      refine ⟨rfl, _, rfl, _, rfl, in_s (ns := rs.map (·.1) ++ es) ⟨F, rfl, .inl (SqL.of (s5 _ _ (s4 _ _ hF)))⟩ ⟨_, rfl, ite2 (fun c => ?_) (fun c => ?_)⟩⟩
      · refine ⟨_, rfl, _, hD, by rw [List.length_map]; exact small1000 (by omega), fun b ob eb => ?_, ?_⟩
        · rw [upd_ne (ne_of_none eb nD)]
          exact s5 _ _ eb
        · rw [upd_same, filt_yes ho c, List.map_append]
          rfl
      · refine ⟨s5, ?_⟩
        rw [filt_no ho c]
        exact hD
    · rw [List.length_map, List.take_length] at hD
      refine ⟨by show 2 ≤ sizeLine; decide, fun T nT => ?_⟩
      have s6 := s5.trans (same_new (o := .tup [.str q.1, .ref D]) nT)
      have hC2 := s6 _ _ hC
      have hT : upd H3 T (.tup [.str q.1, .ref D]) T = some (.tup [.str q.1, .ref D]) := upd_same
      have hD2 := (same_new (o := .tup [.str q.1, .ref D]) nT) _ _ hD
      have DC : D ≠ C := (ne_of_none hC nD).symm
      have lp := Paired.length pp
      have lk := Paired.length pk
      rw [List.length_take] at lk
      generalize upd H3 T (.tup [.str q.1, .ref D]) = H4 at s6 hC2 hT hD2 ⊢
      refine ⟨_, hC2, by rw [List.length_map]; exact small1000 (by omega), fun b ob eb => ?_, ps ++ [T], kvs ++ [(Sum.inr q.1, .ref D)], ?_, ?_, ?_, ?_⟩
      · rw [upd_ne (ne_of_none eb nC)]
        exact s6 _ _ (s4 _ _ eb)
      · rw [upd_same, List.map_append]
        rfl
      · have pp2 : Paired (fun p (kv : Key × V) => upd H4 C (.lst (ps.map V.ref ++ [V.ref T])) p = some (.tup [kV kv.1, kv.2])) ps kvs := Paired.mapP pp fun p kv h => tup_lst hC2 p _ (s6 p _ h)
        exact pair_snoc (R := fun p (kv : Key × V) => upd H4 C (.lst (ps.map V.ref ++ [V.ref T])) p = some (.tup [kV kv.1, kv.2])) (x := T) (y := (Sum.inr q.1, .ref D)) (tup_lst hC2 _ _ hT) pp2
      · rw [List.map_append, ek, List.take_add_one, hq, List.map_append]
        rfl
      · rw [List.take_add_one, hq]
        refine pair_snoc ⟨D, rfl, DC, by rw [upd_ne DC]; exact hD2⟩ (Paired.mapP pk fun _ _ ⟨l, e1, e2, e3⟩ => ⟨l, e1, e2, by rw [upd_ne e2]; exact s6 _ _ e3⟩)
  · rw [Paired.length g3, List.take_length] at ek pk
    refine ⟨C, ps, kvs, rfl, SqL.of hC, Paired.mapP pp fun _ _ h => .inl (.inl h), fun D nD => ?_⟩
    have nk : (kvs.map (·.1)).Nodup := by
      rw [ek]
      exact keys_nodup O.nd
    rw [mergeK_nil nk]
    have sf := s2.trans s4
    refine k D _ (sf.trans (same_new nD)) (sf.free nD) ⟨kvs, upd_same, ek, fun r m => ?_⟩
    obtain ⟨kv, e1, l, e2, _, e3⟩ := val_pair pk ek O.nd r m
    exact ⟨l, by rw [e1, e2], (same_new nD) _ _ e3⟩
end
end Cx

/-! the law's own words: suits -/
namespace Cx
open PySem PySem.Spec PyProof.Rows L2
def Rise (l : List Str) : Prop := l.Pairwise fun a b => sLt b a = false
theorem Asc.rise {l : List Str} (h : Asc l) : Rise l := h.imp fun {_ _} q => sLt_asym q
theorem flat_pw {g : Str → List (Str × Str)} (h1 : ∀ n, ∀ q ∈ g n, q.1 = n) (h2 : ∀ n, (g n).Pairwise fun a b => pLt b a = false) : ∀ {nm : List Str}, Asc nm → (nm.flatMap g).Pairwise fun a b => pLt b a = false
  | [], _ => .nil
  | n :: nm, h => by
    have hc := List.pairwise_cons.mp h
    rw [List.flatMap_cons]
    refine List.pairwise_append.mpr ⟨h2 n, flat_pw h1 h2 hc.2, fun a ma b mb => ?_⟩
    obtain ⟨m, mm, mb⟩ := List.mem_flatMap.mp mb
    have e1 := h1 n a ma
    have e2 := h1 m b mb
    have lt := hc.1 m mm
    unfold pLt
    rw [e1, e2]
    rw [if_neg fun c => by rw [c, sLt_irr] at lt; cases lt]
    exact sLt_asym lt
theorem wants_rise {rs : List (Str × List Str)} (h : ∀ r ∈ rs, Rise r.2) (n : Str) : Rise (wantsOf rs n) := by
  unfold wantsOf
  cases e : rs.find? fun r => decide (r.1 = n) with
  | none => exact .nil
  | some r => exact h r (List.mem_of_find?_eq_some e)
theorem suit_pw {rs : List (Str × List Str)} {nm : List Str} (h : ∀ r ∈ rs, Rise r.2) (a : Asc nm) : (suitN rs nm).Pairwise fun a b => pLt b a = false := by
  refine flat_pw (fun n q m => ?_) (fun n => ?_) a
  · obtain ⟨o, _, rfl⟩ := List.mem_map.mp m
    rfl
  · refine List.pairwise_map.mpr ?_
    refine ((((wants_rise h n).sublist List.filter_sublist).sublist List.filter_sublist)).imp fun {a b} q => ?_
    show pLt (n, b) (n, a) = false
    unfold pLt
    rw [if_pos rfl]
    exact q
theorem suit_same {rs : List (Str × List Str)} {fl : List Str} {n : Str} (hn : n ∈ rs.map (·.1)) (hf : ∀ z ∈ rs.map (·.1), z ∈ fl) :
    ((wantsOf rs n).filter fun o => decide (o ∈ fl)).filter (fun o => sLt n o && (decide (o ∈ rs.map (·.1)) && decide (n ∈ (wantsOf rs o).filter fun o => decide (o ∈ fl)))) = (suiN rs n).filter fun o => sLt n o && decide (o ∈ rs.map (·.1)) := by
  unfold suiN
  rw [List.filter_filter, List.filter_filter]
  refine List.filter_congr fun o _ => ?_
  rw [Bool.eq_iff_iff]
  simp only [Bool.and_eq_true, decide_eq_true_eq, List.mem_filter]
  constructor
  · rintro ⟨⟨a, b, c, d⟩, e⟩
    exact ⟨⟨a, b⟩, c⟩
  · rintro ⟨⟨a, b⟩, c⟩
    exact ⟨⟨a, b, c, hf n hn⟩, hf o b⟩
def prK (H : Hp) : V → Str × Str
  | .ref a => match H a with
    | some (.tup (.str x :: .str y :: _)) => (x, y)
    | _ => ("", "")
  | _ => ("", "")
theorem prK_at {H : Hp} {a : Addr} {q : Str × Str} (h : H a = some (.tup [.str q.1, .str q.2])) : prK H (.ref a) = q := by
  unfold prK
  simp only [h]
theorem pairs_keys {H : Hp} : ∀ {zs : List V} {qs : List (Str × Str)}, Paired (PrAt H) zs qs → zs.map (prK H) = qs
  | _, _, .nil => rfl
  | _, _, .cons h t => by
    obtain ⟨a, rfl, h1⟩ := h
    rw [List.map_cons, pairs_keys t, prK_at h1]
theorem pair_app {α β : Type} {R : α → β → Prop} : ∀ {xs as : List α} {ys bs : List β}, Paired R xs ys → Paired R as bs → Paired R (xs ++ as) (ys ++ bs)
  | _, _, _, _, .nil, b => b
  | _, _, _, _, .cons h t, b => .cons h (pair_app t b)
theorem val_none {k : Key} : ∀ {kvs : List (Key × V)}, k ∉ kvs.map (·.1) → valV kvs k = none
  | [], _ => rfl
  | p :: r, h => by
    rw [valV_neg fun e => h (List.mem_cons.mpr (.inl e.symm))]
    exact val_none fun m => h (List.mem_cons_of_mem _ m)
section
variable {P : Program} {w : World} {K : PySem.W.Frag} {mg : Str → Option Value} {base : Heap}
def spSuits (K : PySem.W.Frag) : Sp := fun vs H Q _ => ∃ (x : V) (rs : List (Str × List Str)) (es : List Str), vs = [x] ∧ ShV K H x rs es ∧ Ok rs ∧ es.length ≤ 60 ∧ Asc (rs.map (·.1)) ∧ (∀ r ∈ rs, Rise r.2) ∧
  ∀ p H' (ps : List V), Same H H' → H p = none → H' p = some (.lst ps) → Paired (PrAt H') ps (suitN rs (rs.map (·.1))) → Q (.ref p) H'
abbrev nSu : List Str := ["_law_tome_here", "_law_table", "_law_found", "_law_own", "_law_far"]
theorem scSu : FnScope nSu ["_law_tome_here"] (defScope sSuits) := ⟨rfl, rfl, rfl, by decide +kernel, rfl, by decide +kernel, by decide +kernel⟩
theorem ok_suits {f g : Addr} {fd gd : FuncData} (F : Fun K "_law_suits" "_law_suits" sSuits f fd) (GW : FnOk P w K mg base CX0 2 g gd ["_law_tome_here"] (spWants K)) (bW : Binds K gd ["_law_tome_here"] []) (kW : PySem.W.keepIn K (.ref g) = true) (mW : mg "_law_wants" = some (.ref g))
    (ms : mg "sorted" = none) : FnOk P w K mg base CX0 3 f fd ["_law_tome_here"] (spSuits K) := by
  refine F.ok scSu (fun vs H Q E h => ?_) (fun cdv A outer s H vs Q E hr h => ?_)
  · obtain ⟨x, rs, es, rfl, _⟩ := h
    rfl
  obtain ⟨x, rs, es, rfl, S, O, hes, ha, hw, k⟩ := h
  have hu := Nat.lt_of_le_of_lt (Nat.add_le_add_left (show 1 ≤ 64 by decide) _) hr.units
  refine ⟨_, pss_cons (ps_asg (pe_tup (pa_cons (pe_call GW hr (by rfl) mW kW bW .nil pass0 (pa_cons (pv 0) pa_nil)) (pa_cons (pe_lst pa_nil) pa_nil))) (pg_tup rfl (pgs_cons (pg_name (i := 1) scSu.nd rfl (.inr rfl)) (pgs_cons (pg_name (i := 2) scSu.nd rfl (.inl rfl)) pgs_nil))))
    (Evl.pss_cut (ps_lock (ps_for PassesOwn.never rfl (pi_keys (pv 1)) (pg_name (i := 3) scSu.nd rfl (.inr rfl))
      (pss_one (ps_set (i := 2) scSu.nd rfl (.inl rfl) (pe_op op_cat (pv 2)
        (pe_lcA (own := [("_law_far", 4)]) (g := gName 4) (tt := tAnd (tTest (tOp rLtS (tVar 3) (tVar 4))) (tAnd (tB (tDIn (tVar 4) (tVar 1))) (tTest (tOp (rIn K false) (tVar 3) (tDGet (tVar 1) (tVar 4)))))) (te := tTup (tCons (tVar 3) (tCons (tVar 4) tNil))) rfl scSu.nd (pe_dget hu (pv 1) (pv 3) (fun _ _ => rfl)) (blkOk_by (N := nSu) (sc := defScope sSuits) (by decide +kernel))
          (fun _ _ _ _ _ => pg_name (i := 4) scSu.nd rfl (.inl rfl))
          (fun _ _ _ _ _ => pts_one (PW.pt (pw_and (pt_cmpR op_lt_str (pv 3) (pv 4) (nomark _)) (pw_and (pt_cmp (pc_din hu (pv 4) (pv 1)) (by rfl)) (pw_and1 (pt_cmpR op_in_seq (pv 3) (pe_dget hu (pv 1) (pv 4) (fun _ _ => rfl)) (by rfl)))))))
          (fun _ _ _ _ _ => pe_tup (pa_cons (pv 3) (pa_cons (pv 4) pa_nil)))))))))
    (pss_one (ps_ret (pe_callB cr_sortedPr (by rfl) ms (by decide +kernel) (pa_cons (pv 2) pa_nil))))), ?_⟩
  have ol := O.len
  refine ⟨_, rfl, x, rs, es, rfl, S, O, hes, fun D H1 s1 nD tb => ⟨Nat.zero_le _, fun F0 n0 => ⟨by show 2 ≤ sizeLine; decide, fun q nq => ⟨q, _, rfl, .inl (.inl upd_same), rfl, _, _, rfl, _, _, rfl, rfl, ?_⟩⟩⟩⟩
  have s2 : Same H1 (upd (upd H1 F0 (.lst [])) q (.tup [.ref D, .ref F0])) := (same_new n0).trans (same_new nq)
  have hF0 : upd (upd H1 F0 (.lst [])) q (.tup [.ref D, .ref F0]) F0 = some (.lst []) := (same_new nq) _ _ upd_same
  obtain ⟨kvs, hD, ek, hv⟩ := tb
  have hD2 := s2 _ _ hD
  have hv2 : ∀ r ∈ rs, ∃ l, valV kvs (.inr r.1) = some (.ref l) ∧ upd (upd H1 F0 (.lst [])) q (.tup [.ref D, .ref F0]) l = some (.lst ((r.2.filter fun o => decide (o ∈ rs.map (·.1) ++ es)).map V.str)) := fun r m => by
    obtain ⟨l, e1, e2⟩ := hv r m
    exact ⟨l, e1, s2 _ _ e2⟩
  have s02 := s1.trans s2
  generalize upd (upd H1 F0 (.lst [])) q (.tup [.ref D, .ref F0]) = H2 at hF0 hD2 hv2 s02 ⊢
  refine ⟨fun σ' H' => ∃ (Fd : Addr) (ps : List V) (a : Option V), σ' = [some x, some (.ref D), some (.ref Fd), a, none] ∧ Same H H' ∧ H' Fd = some (.lst ps) ∧ Paired (PrAt H') ps (suitN rs (rs.map (·.1))), ?_, ?_⟩
  · refine ⟨D, .dK kvs, hD2, trivial, fun od => ?_⟩
    have hf : ∀ b o, b ≠ D → H2 b = some o → upd H2 D (.frz od (.dK kvs)) b = some o := fun b o n e => by
      rw [upd_ne n]
      exact e
    have hDf : upd H2 D (.frz od (.dK kvs)) D = some (.frz od (.dK kvs)) := upd_same
    have FD : F0 ≠ D := fun c => by
      rw [c, hD2] at hF0
      cases hF0
    have hFf := hf F0 _ FD hF0
    have hvf : ∀ r ∈ rs, ∃ l, valV kvs (.inr r.1) = some (.ref l) ∧ upd H2 D (.frz od (.dK kvs)) l = some (.lst ((r.2.filter fun o => decide (o ∈ rs.map (·.1) ++ es)).map V.str)) := fun r m => by
      obtain ⟨l, e1, e2⟩ := hv2 r m
      exact ⟨l, e1, hf l _ (fun c => by rw [c, hD2] at e2; cases e2) e2⟩
    have back : ∀ b o, H b = some o → upd H2 D (.frz od (.dK kvs)) b = some o := fun b o e => hf b o (ne_of_none e nD) (s02 _ _ e)
    generalize upd H2 D (.frz od (.dK kvs)) = Hf at hDf hFf hvf back ⊢
    refine ⟨_, rfl, D, od, rfl, .inl ⟨kvs, hDf, ?_⟩⟩
    have lk : kvs.length = rs.length := by
      have := congrArg List.length ek
      rw [List.length_map, List.length_map] at this
      exact this
    refine for_it (walk_keys (d := D) (o := od) (kvs := kvs)) (fun i σ H' => ∃ (Fd : Addr) (ps : List V) (a : Option V), σ = [some x, some (.ref D), some (.ref Fd), a, none] ∧ Same Hf H' ∧ H' Fd = some (.lst ps) ∧ Paired (PrAt H') ps (((rs.map (·.1)).take i).flatMap fun n => ((suiN rs n).filter fun o => sLt n o && decide (o ∈ rs.map (·.1))).map fun o => (n, o)))
      ⟨F0, [], none, rfl, Same.refl _, hFf, .nil⟩ (fun i σ H' _ ⟨_, _, _, _, q, _⟩ => q _ _ hDf) ?_ ?_
    · rintro i z σ Hx H' hi ⟨Fd, ps, a, rfl, s3, hF, pr⟩ ⟨rfl, key, v, hk, rfl⟩
      have hk2 : (kvs.map (·.1))[i]? = some key := by
        rw [List.getElem?_map, hk]
        rfl
      rw [ek] at hk2
      obtain ⟨r, hr', rfl⟩ := map_at hk2
      have mr := List.mem_of_getElem? hr'
      have wl := O.wl r mr
      obtain ⟨l, e1, e2⟩ := hvf r mr
      have hDH := s3 _ _ hDf
      have li := flat_len (fun n => ((suiN rs n).filter fun o => sLt n o && decide (o ∈ rs.map (·.1))).map fun o => (n, o)) 60 ((rs.map (·.1)).take i) fun n _ => by
        rw [List.length_map]
        exact Nat.le_trans (List.length_filter_le _ _) (Nat.le_trans (List.length_filter_le _ _) (O.wants n))
      have li2 : ((rs.map (·.1)).take i).length ≤ 60 := by rw [List.length_take, List.length_map]; omega
      have lp := Paired.length pr
      have lT : (r.2.filter fun o => decide (o ∈ rs.map (·.1) ++ es)).length ≤ 60 := Nat.le_trans (List.length_filter_le _ _) wl
      refine ⟨_, rfl, _, rfl, _, rfl, D, _, rfl, (by rw [← e1]; exact .inl ⟨kvs, .inr r.1, .inr ⟨od, hDH⟩, rfl, rfl⟩), ?_⟩
      have ss := suit_same (rs := rs) (fl := rs.map (·.1) ++ es) (n := r.1) (List.mem_map.mpr ⟨r, mr, rfl⟩) fun z m => List.mem_append_left _ m
      rw [wantsOf_in O.nd mr] at ss
      refine lc_any (xs := (r.2.filter fun o => decide (o ∈ rs.map (·.1) ++ es)).map V.str) ⟨l, rfl, .inl (SqL.of (s3 _ _ e2))⟩ (Stays.of (Same.refl H')) (fun C j H3 => Same H' H3 ∧ ∃ qs : List V, H3 C = some (.lst qs) ∧ Paired (PrAt H3) qs ((((r.2.filter fun o => decide (o ∈ rs.map (·.1) ++ es)).take j).filter fun o => sLt r.1 o && (decide (o ∈ rs.map (·.1)) && decide (r.1 ∈ (wantsOf rs o).filter fun o => decide (o ∈ rs.map (·.1) ++ es)))).map fun o => (r.1, o)))
        (fun C nC => ⟨same_new nC, [], upd_same, .nil⟩) (fun C j H3 _ q => Stays.of q.1) (fun C j y H3 nC hy ⟨s4, qs, hC, pq⟩ => ?_) (fun C H3 nC ⟨s4, qs, hC, pq⟩ => ?_)
      · obtain ⟨o, ho, rfl⟩ := map_at hy
        have lq := Paired.length pq
        have l2 : ((((r.2.filter fun o => decide (o ∈ rs.map (·.1) ++ es)).take j).filter fun o => sLt r.1 o && (decide (o ∈ rs.map (·.1)) && decide (r.1 ∈ (wantsOf rs o).filter fun o => decide (o ∈ rs.map (·.1) ++ es)))).map fun o => (r.1, o)).length ≤ 60 := by
          rw [List.length_map]
          exact Nat.le_trans (List.length_filter_le _ _) (by rw [List.length_take]; omega)
        have hD3 := s4 _ _ hDH
        refine ⟨rfl, _, rfl, _, rfl, _, _, rfl, rfl, _, rfl, ite2 (fun c1 => ?_) (fun c1 => iteF ?_)⟩
        · by_cases c : o ∈ rs.map (·.1)
          · obtain ⟨r2, m2, rfl⟩ := List.mem_map.mp c
            obtain ⟨l2', f1, f2⟩ := hvf r2 m2
            have dg2 : DGet H3 D (.str r2.1) (some (.ref l2')) := by
              rw [← f1]
              exact .inl ⟨kvs, .inr r2.1, .inr ⟨od, hD3⟩, rfl, rfl⟩
            have sv : SeqV K H3 (.ref l2') (((wantsOf rs r2.1).filter fun o => decide (o ∈ rs.map (·.1) ++ es)).map V.str) := by
              rw [wantsOf_in O.nd m2]
              exact ⟨l2', rfl, .inl (SqL.of (s4 _ _ (s3 _ _ f2)))⟩
            refine ⟨_, rfl, _, rfl, D, some (.ref l2'), rfl, dg2, _, rfl, iteT ?_⟩
            refine ⟨_, rfl, _, rfl, _, rfl, D, _, rfl, dg2, in_s (ns := (wantsOf rs r2.1).filter fun o => decide (o ∈ rs.map (·.1) ++ es)) sv ⟨_, rfl, ite2 (fun c3 => ?_) (fun c3 => ?_)⟩⟩
            · have cc : (sLt r.1 r2.1 && (decide (r2.1 ∈ rs.map (·.1)) && decide (r.1 ∈ (wantsOf rs r2.1).filter fun o => decide (o ∈ rs.map (·.1) ++ es)))) = true := Bool.and_eq_true_iff.mpr ⟨c1, Bool.and_eq_true_iff.mpr ⟨decide_eq_true c, c3⟩⟩
              refine ⟨_, rfl, _, rfl, by show 2 ≤ sizeLine; decide, fun t nt => ?_⟩
              have hC3 := (same_new (o := .tup [.str r.1, .str r2.1]) nt) _ _ hC
              refine ⟨qs, hC3, small1000 (by omega), fun b ob eb => ?_, qs ++ [.ref t], upd_same, ?_⟩
              · rw [upd_ne (ne_of_none eb nC)]
                exact (same_new nt) _ _ (s4 _ _ eb)
              · rw [filt_yes ho cc, List.map_append]
                exact pair_snoc ⟨t, rfl, tup_lst hC3 _ _ upd_same⟩ (Paired.mapP pq fun _ _ h => h.keep fun b xs e => tup_lst hC3 b xs ((same_new nt) b _ e))
            · refine ⟨s4, qs, hC, ?_⟩
              rw [filt_no ho fun c => c3 (Bool.and_eq_true_iff.mp (Bool.and_eq_true_iff.mp c).2).2]
              exact pq
          · have dg0 : DGet H3 D (.str o) none := by
              have e0 : valV kvs (.inr o) = none := val_none fun m => by
                rw [ek] at m
                obtain ⟨r3, m3, e3⟩ := List.mem_map.mp m
                exact c (List.mem_map.mpr ⟨r3, m3, Sum.inr.inj e3⟩)
              rw [← e0]
              exact .inl ⟨kvs, .inr o, .inr ⟨od, hD3⟩, rfl, rfl⟩
            refine ⟨_, rfl, _, rfl, D, none, rfl, dg0, _, rfl, iteF (iteF ⟨s4, qs, hC, ?_⟩)⟩
            rw [filt_no ho fun d => c (of_decide_eq_true (Bool.and_eq_true_iff.mp (Bool.and_eq_true_iff.mp d).2).1)]
            exact pq
        · refine ⟨s4, qs, hC, ?_⟩
          rw [filt_no ho fun c => c1 (Bool.and_eq_true_iff.mp c).1]
          exact pq
      · rw [List.length_map, List.take_length, ss] at pq
        have lq := Paired.length pq
        have l2 : ((((suiN rs r.1).filter fun o => sLt r.1 o && decide (o ∈ rs.map (·.1))).map fun o => (r.1, o))).length ≤ 60 := by
          rw [List.length_map]
          exact Nat.le_trans (List.length_filter_le _ _) (Nat.le_trans (List.length_filter_le _ _) (O.wants r.1))
        refine ⟨Fd, C, ps, qs, rfl, rfl, s4 _ _ hF, hC, by rw [sizeLine_eq]; omega, fun F2 nF2 => ⟨F2, ps ++ qs, _, rfl, (s3.trans s4).trans (same_new nF2), upd_same, ?_⟩⟩
        rw [flat_next (i := i) (z := r.1) _ (by rw [List.getElem?_map, hr']; rfl)]
        exact pair_app (Paired.mapP pr fun _ _ h => h.keep fun b xs e => (same_new nF2) _ _ (s4 _ _ e)) (Paired.mapP pq fun _ _ h => h.keep fun b xs e => (same_new nF2) _ _ e)
    · rintro σ H' ⟨Fd, ps, a, rfl, s3, hF, pr⟩
      rw [lk, List.take_of_length_le (by rw [List.length_map]; exact Nat.le_refl _)] at pr
      have hDH := s3 _ _ hDf
      have nFD : Fd ≠ D := fun c => by
        rw [c, hDH] at hF
        cases hF
      refine ⟨hDH, Fd, ps, a, rfl, fun b o e => ?_, by rw [upd_ne nFD]; exact hF, Paired.mapP pr fun _ _ h => h.keep fun b xs e => ?_⟩
      · rw [upd_ne (ne_of_none e nD)]
        exact s3 _ _ (back b o e)
      · rw [upd_ne fun c => by rw [c, hDH] at e; cases e]
        exact e
  rintro σ3 H3 ⟨Fd, ps, a, rfl, s3, hF, pr⟩
  refine ⟨_, rfl, Fd, ps, prK H3, rfl, SqL.of hF, fun v m => ?_, fun ys p pm pw np => ?_⟩
  · obtain ⟨i, ei⟩ := List.mem_iff_getElem?.mp m
    obtain ⟨q', hq', b, rfl, hb⟩ := pair_at pr ei
    refine ⟨b, rfl, ?_⟩
    rw [prK_at hb]
    exact hb
  · obtain ⟨ws, q1, q2⟩ := pair_perm pm pr
    have e1 : ws.Pairwise fun a b => pLt b a = false := by
      rw [← pairs_keys q2]
      exact List.pairwise_map.mpr pw
    have e2 : ws = suitN rs (rs.map (·.1)) := List.Perm.eq_of_pairwise (fun a b _ _ l m => pLt_tot m l) e1 (suit_pw hw ha) q1
    rw [e2] at q2
    exact k p _ ys (s3.trans (same_new np)) (s3.free np) upd_same (Paired.mapP q2 fun _ _ h => h.keep fun b xs e => (same_new np) _ _ e)
end
end Cx

/-! the law's own words: linked -/
namespace Cx
open PySem PySem.Spec PyProof.Rows L2
/-- turns over xs, which stand in H1 -/
def Trn (J : It) (H1 : Hp) (xs : List V) : Prop := ∀ (B : V → Hp → (Hp → Prop) → Prop) (Qd : Hp → Prop) (Hs : Hp) (Pv : Nat → Hp → Prop), Pv 0 Hs → (∀ i H, Pv i H → Same H1 H) → (∀ i x H, xs[i]? = some x → Pv i H → B x H (Pv (i + 1))) → (∀ H, Pv xs.length H → Qd H) →
  ∃ W : Nat → Nat → Hp → Prop, (∃ m, W 0 m Hs) ∧ ∀ i m H, W i m H → (J.stop i H ∧ Qd H) ∨ (J.go i H ∧ ∃ Nx : Hp → Prop, (∀ H', Nx H' → ∃ m', m' < m ∧ W (i + 1) m' H') ∧ ∀ x H', J.yld i H x H' → B x H' Nx)
theorem trn_lst {K : PySem.W.Frag} {H1 : Hp} {a : Addr} {xs : List V} (h : SqL K H1 a xs) : Trn (Itl K a) H1 xs := fun _ _ _ Pv h0 hm hs hd => it_lst (xs := xs) Pv h0 (fun i H q => (hm i H q).seq h) hs hd
theorem trn_str {H1 : Hp} {z : Str} : Trn (Its z) H1 ((sgn z).map V.str) := fun B Qd Hs Pv h0 _ hs hd => by
  have len : ((sgn z).map V.str).length = z.cps.size := by
    unfold sgn
    rw [List.length_map, List.length_map, Array.length_toList]
  refine ⟨fun i m H => m = z.cps.size - i ∧ i ≤ z.cps.size ∧ Pv i H, ⟨z.cps.size, by simp, Nat.zero_le _, h0⟩, ?_⟩
  rintro i m H ⟨rfl, hi, p⟩
  by_cases hlt : i < z.cps.size
  · refine .inr ⟨hlt, Pv (i + 1), fun H' p' => ⟨z.cps.size - (i + 1), by omega, rfl, hlt, p'⟩, fun x H' y => ?_⟩
    obtain ⟨e, c, ec, ev⟩ := y
    subst e
    subst ev
    refine hs i _ _ ?_ p
    unfold sgn
    rw [List.getElem?_map, List.getElem?_map, Array.getElem?_toList, ec]
    rfl
  · have e : i = z.cps.size := by omega
    subst e
    exact .inl ⟨Nat.le_refl _, hd H (by rw [len]; exact p)⟩
def LineAt (K : PySem.W.Frag) (H : Hp) (y : V) (ln : List Str) : Prop := (∃ a, y = .ref a ∧ SqL K H a (ln.map V.str)) ∨ ∃ z, y = .str z ∧ sgn z = ln
theorem line_any {K : PySem.W.Frag} {H1 : Hp} {y : V} {ln : List Str} {R : It → Hp → Prop} (h : LineAt K H1 y ln) (f : ∀ J, Trn J H1 (ln.map V.str) → R J H1) : (∃ a, y = .ref a ∧ (∃ xs, SqL K H1 a xs) ∧ R (Itl K a) H1) ∨ ∃ z, y = .str z ∧ R (Its z) H1 := by
  rcases h with ⟨a, e, h⟩ | ⟨z, e, h⟩
  · exact .inl ⟨a, e, ⟨_, h⟩, f _ (trn_lst h)⟩
  · subst h
    exact .inr ⟨z, e, f _ trn_str⟩
theorem line_same {K : PySem.W.Frag} {H H' : Hp} {y : V} {ln : List Str} (s : Same H H') (h : LineAt K H y ln) : LineAt K H' y ln := h.imp (fun ⟨a, e, q⟩ => ⟨a, e, s.seq q⟩) fun q => q
theorem line_sort {K : PySem.W.Frag} {H : Hp} {y : V} {ln : List Str} {Q : VK} (h : LineAt K H y ln) (hl : ln.length ≤ 60) (q : ∀ (ys : List Str) (p : Addr), ys.Perm ln → sortedS ys = true → H p = none → Q (.ref p) (upd H p (.lst (ys.map V.str)))) : rSortedS K [y] H Q ∨ rSortSg [y] H Q := by
  rcases h with ⟨a, rfl, h⟩ | ⟨z, rfl, h⟩
  · exact .inl ⟨a, ln, rfl, h, by omega, q⟩
  · refine .inr ⟨z, rfl, ?_, fun ys p pm => q ys p (by rw [← h]; exact pm)⟩
    have e := congrArg List.length h
    unfold sgn at e
    rw [List.length_map, Array.length_toList] at e
    omega
/-- whom the pairs join to z -/
def prt (qs : List (Str × Str)) (z : Str) : List Str := qs.flatMap fun q => (if q.1 = z then [q.2] else []) ++ (if q.2 = z then [q.1] else [])
theorem prt_len (qs : List (Str × Str)) (z : Str) : (prt qs z).length ≤ 2 * qs.length := flat_len _ 2 qs fun q _ => by
  rw [List.length_append]
  have a : (if q.1 = z then [q.2] else []).length ≤ 1 := by split <;> simp
  have b : (if q.2 = z then [q.1] else []).length ≤ 1 := by split <;> simp
  omega
theorem prt_in {qs : List (Str × Str)} {ln : List Str} {z y : Str} (h : ∀ q ∈ qs, q.1 ∈ ln ∧ q.2 ∈ ln) (m : y ∈ prt qs z) : y ∈ ln := by
  obtain ⟨q, mq, my⟩ := List.mem_flatMap.mp m
  rcases List.mem_append.mp my with my | my
  · split at my
    · rw [List.mem_singleton.mp my]
      exact (h q mq).2
    · cases my
  · split at my
    · rw [List.mem_singleton.mp my]
      exact (h q mq).1
    · cases my
/-- the dict at T: for each of the names a list of names -/
def Lk (H0 : Hp) (T : Addr) (ln : List Str) (pl : Str → List Str) (H : Hp) : Prop := Same H0 H ∧ ∃ (kvs : List (Key × V)) (f : Str → Addr), H T = some (.dK kvs) ∧ (∀ z ∈ ln, valV kvs (.inr z) = some (.ref (f z)) ∧ H (f z) = some (.lst ((pl z).map V.str)) ∧ H0 (f z) = none) ∧ ∀ z ∈ ln, ∀ v ∈ ln, f z = f v → z = v
theorem Lk.app {H0 H : Hp} {T : Addr} {ln : List Str} {pl : Str → List Str} {z : Str} (I : Lk H0 T ln pl H) (m : z ∈ ln) : ∃ a : Addr, DGet H T (.str z) (some (.ref a)) ∧ H a = some (.lst ((pl z).map V.str)) ∧ ∀ y, Lk H0 T ln (fun v => if v = z then pl v ++ [y] else pl v) (upd H a (.lst ((pl z).map V.str ++ [.str y]))) := by
  obtain ⟨s0, kvs, f, hT, h, inj⟩ := I
  obtain ⟨e1, e2, e5⟩ := h z m
  refine ⟨f z, by rw [← e1]; exact DGet.k (k := Sum.inr z) hT, e2, fun y => ⟨fun b o e => ?_, kvs, f, ?_, fun v mv => ?_, inj⟩⟩
  · rw [upd_ne (ne_of_none e e5)]
    exact s0 _ _ e
  · rw [upd_ne fun c => by rw [c, e2] at hT; cases hT]
    exact hT
  · obtain ⟨f1, f2, f5⟩ := h v mv
    by_cases e : v = z
    · subst e
      refine ⟨f1, ?_, f5⟩
      rw [upd_same]
      simp
    · refine ⟨f1, ?_, f5⟩
      rw [upd_ne fun c => e (inj v mv z m c)]
      simp only [if_neg e]
      exact f2
theorem Lk.same {H0 H H' : Hp} {T : Addr} {ln : List Str} {pl : Str → List Str} (I : Lk H0 T ln pl H) (s : Same H H') : Lk H0 T ln pl H' := by
  obtain ⟨s0, kvs, f, hT, h, inj⟩ := I
  exact ⟨s0.trans s, kvs, f, s _ _ hT, fun z m => by
    obtain ⟨e1, e2, r⟩ := h z m
    exact ⟨e1, s _ _ e2, r⟩, inj⟩
theorem Lk.eq {H0 H : Hp} {T : Addr} {ln : List Str} {pl pl' : Str → List Str} (I : Lk H0 T ln pl H) (e : ∀ z, pl z = pl' z) : Lk H0 T ln pl' H := by
  have : pl = pl' := funext e
  rw [← this]
  exact I
theorem val_mem {k : Key} : ∀ {kvs : List (Key × V)}, k ∈ kvs.map (·.1) → ∃ kv ∈ kvs, valV kvs k = some kv.2
  | kv :: r, h => by
    by_cases e : kv.1 = k
    · exact ⟨kv, List.mem_cons_self, valV_pos e⟩
    · have m : k ∈ r.map (·.1) := (List.mem_cons.mp h).resolve_left fun c => e c.symm
      obtain ⟨kv2, m2, h2⟩ := val_mem m
      exact ⟨kv2, List.mem_cons_of_mem _ m2, by rw [valV_neg e]; exact h2⟩
def adr : Option V → Addr
  | some (.ref a) => a
  | _ => 0
theorem val_in {k : Key} {v : V} : ∀ {kvs : List (Key × V)}, valV kvs k = some v → (k, v) ∈ kvs
  | p :: r, h => by
    by_cases e : p.1 = k
    · rw [valV_pos e] at h
      rw [← e, ← Option.some.inj h]
      exact List.mem_cons_self
    · rw [valV_neg e] at h
      exact List.mem_cons_of_mem _ (val_in h)
theorem val_one {kvs : List (Key × V)} {k j : Key} {v : V} (nd : (kvs.map (·.2)).Nodup) (h1 : valV kvs k = some v) (h2 : valV kvs j = some v) : k = j := by
  have m1 := val_in h1
  have m2 := val_in h2
  clear h1 h2
  induction kvs with
  | nil => cases m1
  | cons p r ih =>
    have nd2 := List.nodup_cons.mp nd
    rcases List.mem_cons.mp m1 with e1 | m1 <;> rcases List.mem_cons.mp m2 with e2 | m2
    · exact congrArg Prod.fst (e1.trans e2.symm)
    · exact absurd (List.mem_map.mpr ⟨_, m2, by rw [← e1]⟩) nd2.1
    · exact absurd (List.mem_map.mpr ⟨_, m1, by rw [← e2]⟩) nd2.1
    · exact ih nd2.2 m1 m2
theorem rise_sorted {l : List Str} (h : sortedS l = true) : Rise l := by
  cases l with
  | nil => exact .nil
  | cons x r => exact rise_pw2 h
theorem dpa_rowsP {K : PySem.W.Frag} {H : Hp} : ∀ {zs : List V} {rs : List (Str × List Str)}, Paired (RowAt H) zs rs → DpAll K H zs (rs.map fun r => .tuple [.str r.1, .tuple (r.2.map PyData.str)])
  | _, _, .nil => .nil
  | _, _, .cons h t => by
    obtain ⟨a, b, rfl, h1, h2⟩ := h
    exact .cons (.tup (.inl (.inl h1)) (.cons (.str _) (.cons (.tup (.inl (.inl h2)) (dpa_strs _)) .nil))) (dpa_rowsP t)
section
variable {P : Program} {w : World} {K : PySem.W.Frag} {mg : Str → Option Value} {base : Heap}
def spLinked (K : PySem.W.Frag) : Sp := fun vs H Q _ => ∃ (y : V) (pa : Addr) (ln : List Str) (ps : List V) (qs : List (Str × Str)), vs = [y, .ref pa] ∧ LineAt K H y ln ∧ ln.Nodup ∧ ln.length ≤ 60 ∧ SqL K H pa ps ∧ Paired (PrAt H) ps qs ∧ (∀ q ∈ qs, q.1 ∈ ln ∧ q.2 ∈ ln) ∧ qs.length ≤ 28 ∧
  ∀ p H' (rs : List (Str × List Str)), Same H H' → Dp K H' (.ref p) (shT rs []) → (rs.map (·.1)).Perm ln → Asc (rs.map (·.1)) → (∀ r ∈ rs, Rise r.2 ∧ r.2.Perm (prt qs r.1)) → Q (.ref p) H'
abbrev nLk : List Str := ["_law_line", "_law_pairs", "_law_own", "_law_table", "_law_far"]
theorem scLk : FnScope nLk ["_law_line", "_law_pairs"] (defScope sLinked) := ⟨rfl, rfl, rfl, by decide +kernel, rfl, by decide +kernel, by decide +kernel⟩
theorem ok_linked {f : Addr} {fd : FuncData} (F : Fun K "_law_linked" "_law_linked" sLinked f fd) (md : mg "dict" = none) (mt : mg "tuple" = none) (ms : mg "sorted" = none) : FnOk P w K mg base CX0 1 f fd ["_law_line", "_law_pairs"] (spLinked K) := by
  refine F.ok scLk (fun vs H Q E h => ?_) (fun cdv A outer s H vs Q E hr h => ?_)
  · obtain ⟨y, pa, ln, ps, qs, rfl, _⟩ := h
    rfl
  obtain ⟨y, pa, ln, ps, qs, rfl, hy, nd, hl, hp, pr, mm, lq, k⟩ := h
  have hu := Nat.lt_of_le_of_lt (Nat.add_le_add_left (show 1 ≤ 64 by decide) _) hr.units
  refine ⟨_, Evl.pss_cut (ps_set (i := 3) scLk.nd rfl (.inr rfl) (pe_callTy (call_dictP rfl) (by rfl) md (by decide +kernel) (pa_cons (pe_lc (own := [("_law_own", 2)]) (g := gName 2) (tt := tYes) (te := tTup (tCons (tVar 2) (tCons (tLst tNil) tNil))) rfl scLk.nd (pi_or (pi_list (pv 0)) (pi_str (pv 0)))
      (blkOk_by (N := nLk) (sc := defScope sLinked) (by decide +kernel)) (fun _ _ _ _ _ => pg_name (i := 2) scLk.nd rfl (.inl rfl)) (fun _ _ _ _ _ => pts_nil) (fun _ _ _ _ _ => pe_tup (pa_cons (pv 2) (pa_cons (pe_lst pa_nil) pa_nil)))) pa_nil)))
    (Evl.pss_cut (ps_for PassesOwn.never rfl (pi_list (pv 1)) (pg_tup rfl (pgs_cons (pg_name (i := 2) scLk.nd rfl (.inl rfl)) (pgs_cons (pg_name (i := 4) scLk.nd rfl (.inl rfl)) pgs_nil)))
      (pss_cons (ps_expr (pe_bm PySem.F.plainAttrs_list PySem.F.slot_list_append PySem.F.type_list_append mt_append (pe_dget hu (pv 3) (pv 2) (fun _ _ => rfl)) (pa_cons (pv 4) pa_nil)))
      (pss_one (ps_expr (pe_bm PySem.F.plainAttrs_list PySem.F.slot_list_append PySem.F.type_list_append mt_append (pe_dget hu (pv 3) (pv 4) (fun _ _ => rfl)) (pa_cons (pv 2) pa_nil))))))
    (pss_one (ps_ret (pe_tup (pa_cons (pe_callTy call_tuple_of (by rfl) mt (by decide +kernel) (pa_cons
      (pe_lcA (own := [("_law_own", 2)]) (g := gName 2) (tt := tYes) (te := tTup (tCons (tVar 2) (tCons (tCB (rTupOf K) (tCons (tCB (rSortedS K) (tCons (tDGet (tVar 3) (tVar 2)) tNil)) tNil)) tNil))) rfl scLk.nd (pe_callB (cr_or cr_sortedS (cr_sortSg rfl)) (by rfl) ms (by decide +kernel) (pa_cons (pv 0) pa_nil))
        (blkOk_by (N := nLk) (sc := defScope sLinked) (by decide +kernel)) (fun _ _ _ _ _ => pg_name (i := 2) scLk.nd rfl (.inl rfl)) (fun _ _ _ _ _ => pts_nil)
        (fun _ _ _ _ _ => pe_tup (pa_cons (pv 2) (pa_cons (pe_callTy call_tuple_of (by rfl) mt (by decide +kernel) (pa_cons (pe_callB cr_sortedS (by rfl) ms (by decide +kernel) (pa_cons (pe_dget hu (pv 3) (pv 2) (fun _ _ => rfl)) pa_nil)) pa_nil)) pa_nil)))) pa_nil)) (pa_cons (pe_tup pa_nil) pa_nil)))))), ?_⟩
  refine ⟨fun σ' H' => ∃ T : Addr, σ' = [some y, some (.ref pa), none, some (.ref T), none] ∧ Lk H T ln (fun _ => []) H', ?_, ?_⟩
  · rcases id hy with ⟨a, ea, ha⟩ | ⟨z, ez, hz⟩
    · refine .inl ⟨_, rfl, a, ea, ⟨_, ha⟩, fun C nC => trn_lst ha _ _ _ (fun i H' => Same H H' ∧ ∃ (ts : List Addr) (kvs : List (Key × V)), H' C = some (.lst (ts.map V.ref)) ∧ Paired (fun p (kv : Key × V) => H' p = some (.tup [kV kv.1, kv.2])) ts kvs ∧ kvs.map (·.1) = (ln.take i).map (fun z => (Sum.inr z : Key)) ∧ (∀ kv ∈ kvs, ∃ a, kv.2 = V.ref a ∧ H' a = some (.lst []) ∧ H a = none ∧ a ≠ C) ∧ (kvs.map (·.2)).Nodup) ?_ ?_ ?_ ?_⟩
      · exact ⟨same_new nC, [], [], upd_same, .nil, rfl, (by intro kv m; cases m), .nil⟩
      · exact fun i H' q => q.1
      · rintro i v H' hv ⟨s1, ts, kvs, hC, pp, ek, pk, ndv⟩
        obtain ⟨n, hn, rfl⟩ := map_at hv
        have hi := (List.getElem?_eq_some_iff.mp hn).1
        refine ⟨rfl, _, rfl, Nat.zero_le _, fun l nl => ⟨by show 2 ≤ sizeLine; decide, fun T nT => ?_⟩⟩
        have s2 := (same_new (o := .lst []) nl).trans (same_new (o := .tup [.str n, .ref l]) nT)
        have hC2 := s2 _ _ hC
        have hT : upd (upd H' l (.lst [])) T (.tup [.str n, .ref l]) T = some (.tup [.str n, .ref l]) := upd_same
        have hl2 : upd (upd H' l (.lst [])) T (.tup [.str n, .ref l]) l = some (.lst []) := (same_new nT) _ _ upd_same
        have lC : l ≠ C := (ne_of_none hC nl).symm
        have l0 : H l = none := s1.free nl
        have lp := Paired.length pp
        have lk := congrArg List.length ek
        rw [List.length_map, List.length_map, List.length_take] at lk
        generalize upd (upd H' l (.lst [])) T (.tup [.str n, .ref l]) = H4 at s2 hC2 hT hl2 ⊢
        refine ⟨_, hC2, by rw [List.length_map]; exact small1000 (by omega), fun b ob eb => ?_, ts ++ [T], kvs ++ [(Sum.inr n, .ref l)], ?_, ?_, ?_, fun kv m => ?_, ?_⟩
        · rw [upd_ne (ne_of_none eb nC)]
          exact s2 _ _ (s1 _ _ eb)
        · rw [upd_same, List.map_append]
          rfl
        · have pp2 : Paired (fun p (kv : Key × V) => upd H4 C (.lst (ts.map V.ref ++ [V.ref T])) p = some (.tup [kV kv.1, kv.2])) ts kvs := Paired.mapP pp fun p kv h => tup_lst hC2 p _ (s2 p _ h)
          exact pair_snoc (R := fun p (kv : Key × V) => upd H4 C (.lst (ts.map V.ref ++ [V.ref T])) p = some (.tup [kV kv.1, kv.2])) (x := T) (y := (Sum.inr n, .ref l)) (tup_lst hC2 _ _ hT) pp2
        · rw [List.map_append, ek, List.take_add_one, hn, List.map_append]
          rfl
        · rcases List.mem_append.mp m with m | m
          · obtain ⟨a, f1, f2, f3, f4⟩ := pk kv m
            exact ⟨a, f1, by rw [upd_ne f4]; exact s2 _ _ f2, f3, f4⟩
          · rw [List.mem_singleton.mp m]
            exact ⟨l, rfl, by rw [upd_ne lC]; exact hl2, l0, lC⟩
        · rw [List.map_append]
          refine List.nodup_append.mpr ⟨ndv, List.pairwise_singleton _ _, fun a ma b mb => ?_⟩
          obtain ⟨kv, mk, rfl⟩ := List.mem_map.mp ma
          obtain ⟨a, f1, f2, _⟩ := pk kv mk
          rw [List.mem_singleton.mp mb]
          show kv.2 ≠ V.ref l
          rw [f1]
          intro c
          have c2 : a = l := V.ref.inj c
          rw [c2, nl] at f2
          cases f2
      · rintro H' ⟨s1, ts, kvs, hC, pp, ek, pk, ndv⟩
        rw [List.length_map, List.take_length] at ek
        refine ⟨C, ts, kvs, rfl, SqL.of hC, Paired.mapP pp fun _ _ h => .inl (.inl h), fun D nD => ?_⟩
        have nk : (kvs.map (·.1)).Nodup := by
          rw [ek]
          exact List.pairwise_map.mpr (nd.imp fun {a b} n c => n (Sum.inr.inj c))
        rw [mergeK_nil nk]
        have look : ∀ z ∈ ln, ∃ a, valV kvs (.inr z) = some (.ref a) ∧ H' a = some (.lst []) ∧ H a = none := fun z m => by
          obtain ⟨kv, m2, e2⟩ := val_mem (k := Sum.inr z) (kvs := kvs) (by rw [ek]; exact List.mem_map.mpr ⟨z, m, rfl⟩)
          obtain ⟨a, f1, f2, f3, _⟩ := pk kv m2
          exact ⟨a, by rw [e2, f1], f2, f3⟩
        refine ⟨D, rfl, s1.trans (same_new nD), kvs, fun z => adr (valV kvs (.inr z)), upd_same, fun z m => ?_, fun z m v mv c => ?_⟩
        · obtain ⟨a, e1, e2, e3⟩ := look z m
          have ea : adr (valV kvs (.inr z)) = a := by
            rw [e1]
            rfl
          show valV kvs (.inr z) = some (.ref (adr (valV kvs (.inr z)))) ∧ upd H' D (.dK kvs) (adr (valV kvs (.inr z))) = some (.lst []) ∧ H (adr (valV kvs (.inr z))) = none
          rw [ea]
          exact ⟨e1, (same_new nD) _ _ e2, e3⟩
        · obtain ⟨a, e1, _⟩ := look z m
          obtain ⟨b, e2, _⟩ := look v mv
          have c2 : adr (valV kvs (.inr z)) = adr (valV kvs (.inr v)) := c
          rw [e1, e2] at c2
          have c3 : a = b := c2
          rw [← c3] at e2
          exact Sum.inr.inj (val_one ndv e1 e2)
    · refine .inr ⟨_, rfl, z, ez, fun C nC => (show Trn (Its z) H (ln.map V.str) from hz ▸ trn_str) _ _ _ (fun i H' => Same H H' ∧ ∃ (ts : List Addr) (kvs : List (Key × V)), H' C = some (.lst (ts.map V.ref)) ∧ Paired (fun p (kv : Key × V) => H' p = some (.tup [kV kv.1, kv.2])) ts kvs ∧ kvs.map (·.1) = (ln.take i).map (fun z => (Sum.inr z : Key)) ∧ (∀ kv ∈ kvs, ∃ a, kv.2 = V.ref a ∧ H' a = some (.lst []) ∧ H a = none ∧ a ≠ C) ∧ (kvs.map (·.2)).Nodup) ?_ ?_ ?_ ?_⟩
      · exact ⟨same_new nC, [], [], upd_same, .nil, rfl, (by intro kv m; cases m), .nil⟩
      · exact fun i H' q => q.1
      · rintro i v H' hv ⟨s1, ts, kvs, hC, pp, ek, pk, ndv⟩
        obtain ⟨n, hn, rfl⟩ := map_at hv
        have hi := (List.getElem?_eq_some_iff.mp hn).1
        refine ⟨rfl, _, rfl, Nat.zero_le _, fun l nl => ⟨by show 2 ≤ sizeLine; decide, fun T nT => ?_⟩⟩
        have s2 := (same_new (o := .lst []) nl).trans (same_new (o := .tup [.str n, .ref l]) nT)
        have hC2 := s2 _ _ hC
        have hT : upd (upd H' l (.lst [])) T (.tup [.str n, .ref l]) T = some (.tup [.str n, .ref l]) := upd_same
        have hl2 : upd (upd H' l (.lst [])) T (.tup [.str n, .ref l]) l = some (.lst []) := (same_new nT) _ _ upd_same
        have lC : l ≠ C := (ne_of_none hC nl).symm
        have l0 : H l = none := s1.free nl
        have lp := Paired.length pp
        have lk := congrArg List.length ek
        rw [List.length_map, List.length_map, List.length_take] at lk
        generalize upd (upd H' l (.lst [])) T (.tup [.str n, .ref l]) = H4 at s2 hC2 hT hl2 ⊢
        refine ⟨_, hC2, by rw [List.length_map]; exact small1000 (by omega), fun b ob eb => ?_, ts ++ [T], kvs ++ [(Sum.inr n, .ref l)], ?_, ?_, ?_, fun kv m => ?_, ?_⟩
        · rw [upd_ne (ne_of_none eb nC)]
          exact s2 _ _ (s1 _ _ eb)
        · rw [upd_same, List.map_append]
          rfl
        · have pp2 : Paired (fun p (kv : Key × V) => upd H4 C (.lst (ts.map V.ref ++ [V.ref T])) p = some (.tup [kV kv.1, kv.2])) ts kvs := Paired.mapP pp fun p kv h => tup_lst hC2 p _ (s2 p _ h)
          exact pair_snoc (R := fun p (kv : Key × V) => upd H4 C (.lst (ts.map V.ref ++ [V.ref T])) p = some (.tup [kV kv.1, kv.2])) (x := T) (y := (Sum.inr n, .ref l)) (tup_lst hC2 _ _ hT) pp2
        · rw [List.map_append, ek, List.take_add_one, hn, List.map_append]
          rfl
        · rcases List.mem_append.mp m with m | m
          · obtain ⟨a, f1, f2, f3, f4⟩ := pk kv m
            exact ⟨a, f1, by rw [upd_ne f4]; exact s2 _ _ f2, f3, f4⟩
          · rw [List.mem_singleton.mp m]
            exact ⟨l, rfl, by rw [upd_ne lC]; exact hl2, l0, lC⟩
        · rw [List.map_append]
          refine List.nodup_append.mpr ⟨ndv, List.pairwise_singleton _ _, fun a ma b mb => ?_⟩
          obtain ⟨kv, mk, rfl⟩ := List.mem_map.mp ma
          obtain ⟨a, f1, f2, _⟩ := pk kv mk
          rw [List.mem_singleton.mp mb]
          show kv.2 ≠ V.ref l
          rw [f1]
          intro c
          have c2 : a = l := V.ref.inj c
          rw [c2, nl] at f2
          cases f2
      · rintro H' ⟨s1, ts, kvs, hC, pp, ek, pk, ndv⟩
        rw [List.length_map, List.take_length] at ek
        refine ⟨C, ts, kvs, rfl, SqL.of hC, Paired.mapP pp fun _ _ h => .inl (.inl h), fun D nD => ?_⟩
        have nk : (kvs.map (·.1)).Nodup := by
          rw [ek]
          exact List.pairwise_map.mpr (nd.imp fun {a b} n c => n (Sum.inr.inj c))
        rw [mergeK_nil nk]
        have look : ∀ z ∈ ln, ∃ a, valV kvs (.inr z) = some (.ref a) ∧ H' a = some (.lst []) ∧ H a = none := fun z m => by
          obtain ⟨kv, m2, e2⟩ := val_mem (k := Sum.inr z) (kvs := kvs) (by rw [ek]; exact List.mem_map.mpr ⟨z, m, rfl⟩)
          obtain ⟨a, f1, f2, f3, _⟩ := pk kv m2
          exact ⟨a, by rw [e2, f1], f2, f3⟩
        refine ⟨D, rfl, s1.trans (same_new nD), kvs, fun z => adr (valV kvs (.inr z)), upd_same, fun z m => ?_, fun z m v mv c => ?_⟩
        · obtain ⟨a, e1, e2, e3⟩ := look z m
          have ea : adr (valV kvs (.inr z)) = a := by
            rw [e1]
            rfl
          show valV kvs (.inr z) = some (.ref (adr (valV kvs (.inr z)))) ∧ upd H' D (.dK kvs) (adr (valV kvs (.inr z))) = some (.lst []) ∧ H (adr (valV kvs (.inr z))) = none
          rw [ea]
          exact ⟨e1, (same_new nD) _ _ e2, e3⟩
        · obtain ⟨a, e1, _⟩ := look z m
          obtain ⟨b, e2, _⟩ := look v mv
          have c2 : adr (valV kvs (.inr z)) = adr (valV kvs (.inr v)) := c
          rw [e1, e2] at c2
          have c3 : a = b := c2
          rw [← c3] at e2
          exact Sum.inr.inj (val_one ndv e1 e2)
  rintro σ1 H1 ⟨T, rfl, I1⟩
  refine ⟨fun σ' H' => ∃ a b : Option V, σ' = [some y, some (.ref pa), a, some (.ref T), b] ∧ Lk H T ln (prt qs) H', ?_, ?_⟩
  · refine ⟨_, rfl, pa, rfl, ⟨_, I1.1.seq hp⟩, ?_⟩
    have lps := Paired.length pr
    refine for_list (xs := ps) (fun i σ H' => ∃ a b : Option V, σ = [some y, some (.ref pa), a, some (.ref T), b] ∧ Lk H T ln (prt (qs.take i)) H') ⟨_, _, rfl, I1⟩ (fun i σ H' _ ⟨_, _, _, I⟩ => I.1.seq hp) ?_ ?_
    · rintro i v σ H' hi ⟨a0, b0, rfl, I⟩
      have hil := (List.getElem?_eq_some_iff.mp hi).1
      obtain ⟨q, hq, a, rfl, ha⟩ := pair_at pr hi
      obtain ⟨m1, m2⟩ := mm q (List.mem_of_getElem? hq)
      refine ⟨a, _, rfl, .inl (.inl (I.1 _ _ ha)), rfl, _, _, rfl, _, _, rfl, rfl, ?_⟩
      obtain ⟨c, dg, hc, f⟩ := I.app m1
      have lt : (qs.take i).length ≤ 28 := by rw [List.length_take]; omega
      have p1 := prt_len (qs.take i) q.1
      have p2 := prt_len (qs.take i) q.2
      refine ⟨_, rfl, _, rfl, T, _, rfl, dg, .inl ⟨rfl, _, SqL.of hc⟩, _, rfl, c, _, _, rfl, rfl, hc, by rw [List.length_map]; exact small1000 (by omega), ?_⟩
      obtain ⟨c2, dg2, hc2, f2⟩ := (f q.2).app m2
      refine ⟨_, rfl, _, rfl, T, _, rfl, dg2, .inl ⟨rfl, _, SqL.of hc2⟩, _, rfl, c2, _, _, rfl, rfl, hc2, ?_, ?_⟩
      · rw [List.length_map]
        split
        · rw [List.length_append]
          show _ + 1 < _
          rw [sizeLine_eq]
          omega
        · exact small1000 (by omega)
      · refine ⟨_, _, rfl, (f2 q.1).eq fun v => ?_⟩
        unfold prt
        rw [flat_next _ hq]
        show (if v = q.2 then (if v = q.1 then prt (qs.take i) v ++ [q.2] else prt (qs.take i) v) ++ [q.1] else if v = q.1 then prt (qs.take i) v ++ [q.2] else prt (qs.take i) v) = prt (qs.take i) v ++ ((if q.1 = v then [q.2] else []) ++ if q.2 = v then [q.1] else [])
        by_cases e1 : v = q.1
        · by_cases e2 : v = q.2
          · rw [if_pos e2, if_pos e1, if_pos e1.symm, if_pos e2.symm, List.append_assoc]
          · rw [if_neg e2, if_pos e1, if_pos e1.symm, if_neg fun c => e2 c.symm, List.append_nil]
        · by_cases e2 : v = q.2
          · rw [if_pos e2, if_neg e1, if_neg fun c => e1 c.symm, if_pos e2.symm, List.nil_append]
          · rw [if_neg e2, if_neg e1, if_neg fun c => e1 c.symm, if_neg fun c => e2 c.symm, List.append_nil, List.append_nil]
    · rintro σ H' ⟨a, b, rfl, I⟩
      rw [lps, List.take_length] at I
      exact ⟨a, b, rfl, I⟩
  rintro σ2 H2 ⟨a2, b2, rfl, I2⟩
  refine ⟨_, rfl, line_sort (line_same I2.1 hy) hl fun ls p pm so np => ?_⟩
  have I3 := I2.same (same_new (o := .lst (ls.map V.str)) np)
  have ndl : ls.Nodup := pm.nodup_iff.mpr nd
  refine lc_any (xs := ls.map V.str) ⟨p, rfl, .inl (SqL.of upd_same)⟩ (Stays.of (Same.refl _)) (fun D i H' => Same (upd H2 p (.lst (ls.map V.str))) H' ∧ ∃ (rows : List V) (rs : List (Str × List Str)), H' D = some (.lst rows) ∧ Paired (RowAt H') rows rs ∧ rs.map (·.1) = ls.take i ∧ ∀ r ∈ rs, Rise r.2 ∧ r.2.Perm (prt qs r.1))
    (fun D nD => ⟨same_new nD, [], [], upd_same, .nil, rfl, (by intro r m; cases m)⟩) (fun D i H' _ q => Stays.of q.1) (fun D i v H' nD hv ⟨s3, rows, rs, hD, pr2, nm, ok⟩ => ?_) (fun D H' nD ⟨s3, rows, rs, hD, pr2, nm, ok⟩ => ?_)
  · obtain ⟨n, hn, rfl⟩ := map_at hv
    have hi := (List.getElem?_eq_some_iff.mp hn).1
    obtain ⟨c, dg, hc, _⟩ := (I3.same s3).app (pm.mem_iff.mp (List.mem_of_getElem? hn))
    have p1 := prt_len qs n
    refine ⟨rfl, _, rfl, _, rfl, _, rfl, T, _, rfl, dg, c, prt qs n, rfl, SqL.of hc, by omega, fun zs q pm2 so2 nq => ⟨q, _, rfl, .inl ⟨SqL.of upd_same, fun t nt => ⟨by show 2 ≤ sizeLine; decide, fun r nr => ?_⟩⟩⟩⟩
    have s4 := ((same_new (o := .lst (zs.map V.str)) nq).trans (same_new (o := .tup (zs.map V.str)) nt)).trans (same_new (o := .tup [.str n, .ref t]) nr)
    have ht : upd (upd (upd H' q (.lst (zs.map V.str))) t (.tup (zs.map V.str))) r (.tup [.str n, .ref t]) t = some (.tup (zs.map V.str)) := (same_new nr) _ _ upd_same
    have hr : upd (upd (upd H' q (.lst (zs.map V.str))) t (.tup (zs.map V.str))) r (.tup [.str n, .ref t]) r = some (.tup [.str n, .ref t]) := upd_same
    generalize upd (upd (upd H' q (.lst (zs.map V.str))) t (.tup (zs.map V.str))) r (.tup [.str n, .ref t]) = H4 at s4 ht hr ⊢
    have hD2 := s4 _ _ hD
    have lp := Paired.length pr2
    have ln2 := congrArg List.length nm
    rw [List.length_map, List.length_take] at ln2
    have lls := pm.length_eq
    refine ⟨rows, hD2, small1000 (by omega), fun b ob eb => ?_, rows ++ [.ref r], rs ++ [(n, zs)], upd_same, ?_, ?_, fun x mx => ?_⟩
    · rw [upd_ne (ne_of_none eb nD)]
      exact s4 _ _ (s3 _ _ eb)
    · exact pair_snoc ⟨r, t, rfl, tup_lst hD2 _ _ hr, tup_lst hD2 _ _ ht⟩ (Paired.mapP pr2 fun _ _ h => h.keep fun b xs e => tup_lst hD2 b xs (s4 b _ e))
    · rw [List.map_append, nm, List.take_add_one, hn]
      rfl
    · rcases List.mem_append.mp mx with mx | mx
      · exact ok x mx
      · rw [List.mem_singleton.mp mx]
        exact ⟨rise_sorted so2, pm2⟩
  · rw [List.length_map, List.take_length] at nm
    refine ⟨D, _, rfl, .inl ⟨SqL.of hD, fun t1 n1 => ⟨Nat.zero_le _, fun t2 n2 => ⟨by show 2 ≤ sizeLine; decide, fun x nx => ?_⟩⟩⟩⟩
    have s5 := ((same_new (o := .tup rows) n1).trans (same_new (o := .tup []) n2)).trans (same_new (o := .tup [.ref t1, .ref t2]) nx)
    refine k x _ rs (((I2.1.trans (same_new np)).trans s3).trans s5) ?_ (by rw [nm]; exact pm) (by rw [nm]; exact asc_sorted so ndl) ok
    refine .tup (.inl (.inl upd_same)) (.cons (.tup (.inl (.inl ((same_new nx) _ _ ((same_new n2) _ _ upd_same)))) (dpa_rowsP (Paired.mapP pr2 fun _ _ h => h.keep fun b xs e => s5 b _ e))) (.cons (.tup (.inl (.inl ((same_new nx) _ _ upd_same))) .nil) .nil))
end
end Cx

/-! displays of texts; six, kite, apart -/
namespace Cx
open PySem PySem.Spec PyProof.Rows L2
mutual
theorem lst_idem : ∀ d : PyData, lstD (lstD d) = lstD d
  | .list ds => congrArg PyData.list (lsts_idem ds)
  | .tuple ds => congrArg PyData.list (lsts_idem ds)
  | .none => rfl
  | .bool _ => rfl
  | .int _ => rfl
  | .str _ => rfl
  | .dict _ => rfl
theorem lsts_idem : ∀ ds : List PyData, lstDs (lstDs ds) = lstDs ds
  | [] => rfl
  | d :: ds => by
    show lstD (lstD d) :: lstDs (lstDs ds) = lstD d :: lstDs ds
    rw [lst_idem d, lsts_idem ds]
end
theorem UrnAt.same {u : Addr} {H H' : Hp} {n : Nat} (U : UrnAt u H n) (s : Same H H') : UrnAt u H' n := by
  obtain ⟨a, b, c, e, r⟩ := U
  exact ⟨a, b, c, s _ _ e, r⟩
theorem dp_tup {K : PySem.W.Frag} {H : Hp} {x : V} {ds : List PyData} (h : Dp K H x (.tuple ds)) : ∃ a xs, x = .ref a ∧ SqT K H a xs ∧ DpAll K H xs ds := by
  cases h with
  | tup h1 a1 => exact ⟨_, _, rfl, h1, a1⟩
theorem sht_parts {K : PySem.W.Frag} {H : Hp} {q : Addr} {rs : List (Str × List Str)} {es : List Str} (h : Dp K H (.ref q) (shT rs es)) : ∃ r b, SqT K H q [r, .ref b] ∧ SqT K H b (es.map V.str) := by
  obtain ⟨a, xs, e, hs, ha⟩ := dp_tup h
  cases e
  cases ha with
  | cons h1 t =>
    cases t with
    | cons h2 t =>
      cases t with
      | nil =>
        obtain ⟨b, zs, rfl, hb, hz⟩ := dp_tup h2
        rw [dp_strs (es := es) hz (by rw [List.map_map]; rfl)] at hb
        exact ⟨_, b, hs, hb⟩
def Cal (P : Program) (w : World) (K : PySem.W.Frag) (mg : Str → Option Value) (base : Heap) (x : Str) (k : Nat) (ps : List Str) (sp : Sp) : Prop := ∃ f fd, FnOk P w K mg base CX0 k f fd ps sp ∧ Binds K fd ps [] ∧ PySem.W.keepIn K (.ref f) = true ∧ mg x = some (.ref f)
def CalK (P : Program) (w : World) (K : PySem.W.Frag) (mg : Str → Option Value) (base : Heap) (x : Str) (k : Nat) (ps : List Str) (sp : Sp) : Prop := ∃ f fd, FnOk P w K mg base CX0 k f fd ps sp ∧ Binds K fd ps [] ∧ KBinds K fd ps ps oneK oneK ∧ PySem.W.keepIn K (.ref f) = true ∧ mg x = some (.ref f)
section
variable {X : Cx}
theorem pe_weak {e : Expr} {t u : TE} (h : PE X e t) (k : ∀ σ H Q, u σ H Q → t σ H Q) : PE X e u := ⟨fun pins s σ H Q I q => h.run pins s σ H Q I (k σ H Q q)⟩
theorem pa_weak {es : List Expr} {t u : TA} (h : PA X es t) (k : ∀ σ H Q, u σ H Q → t σ H Q) : PA X es u := ⟨fun pos pins s σ H Q I q => h.run pos pins s σ H Q I (k σ H Q q)⟩
/-- what came anew -/
def nw (H H' : Hp) : Hp := fun b => if H b = none then H' b else none
theorem nw_some {H H' : Hp} {b : Addr} {o : HO} (h : nw H H' b = some o) : H b = none ∧ H' b = some o := by
  unfold nw at h
  by_cases c : H b = none
  · rw [if_pos c] at h
    exact ⟨c, h⟩
  · rw [if_neg c] at h
    cases h
theorem nw_of {H H' : Hp} {b : Addr} {o : HO} (c : H b = none) (h : H' b = some o) : nw H H' b = some o := by
  unfold nw
  rw [if_pos c]
  exact h
theorem nw_le {H H' : Hp} : Same (nw H H') H' := fun _ _ e => (nw_some e).2
theorem nw_put {H H' : Hp} {p : Addr} {o : HO} (h : H p ≠ none) : Same (nw H H') (upd H' p o) := fun b _ e => by
  rw [upd_ne fun c => h (by rw [← c]; exact (nw_some e).1)]
  exact (nw_some e).2
/-- new data, nothing else changed -/
def tLit (K : PySem.W.Frag) (d : PyData) : TE := fun _ H Q => ∀ x H', Same H H' → Dp K (nw H H') x d → Q x H'
def tLits (K : PySem.W.Frag) (ds : List PyData) : TA := fun _ H Q => ∀ xs H', Same H H' → DpAll K (nw H H') xs ds → Q xs H'
theorem pl_str {z : Str} {j : Nat} {pos : Pos} : PE X (.Constant (.str z) j pos) (tLit X.K (.str z)) := pe_weak pe_str fun _ H _ q => q _ H (Same.refl H) (.str z)
theorem pls_nil : PA X [] (tLits X.K []) := pa_weak pa_nil fun _ H _ q => q _ H (Same.refl H) .nil
theorem pls_cons {e : Expr} {es : List Expr} {d : PyData} {ds : List PyData} (h : PE X e (tLit X.K d)) (t : PA X es (tLits X.K ds)) (hs : starEach (e :: es) X.env = (false, eval e X.env) :: starEach es X.env := by rfl) : PA X (e :: es) (tLits X.K (d :: ds)) :=
  pa_weak (pa_cons h t hs) fun _ _ _ q _ _ s1 d1 _ _ s2 d2 => q _ _ (s1.trans s2) (.cons (dp_same (fun _ _ e => nw_of (nw_some e).1 (s2 _ _ (nw_some e).2)) d1) (dpa_same (fun _ _ e => nw_of (s1.free (nw_some e).1) (nw_some e).2) d2))
theorem nw_new {H H1 : Hp} {p : Addr} {o : HO} (np : H1 p = none) : Same (nw H H1) (nw H (upd H1 p o)) := fun _ _ e => nw_of (nw_some e).1 ((same_new np) _ _ (nw_some e).2)
theorem pl_tup {es : List Expr} {ds : List PyData} {j : Nat} {pos : Pos} (h : PA X es (tLits X.K ds)) (hl : ds.length ≤ 900 := by decide) : PE X (.Tuple es j pos) (tLit X.K (.tuple ds)) :=
  pe_weak (pe_tup h) fun _ _ _ q _ _ s1 a => ⟨by rw [dpa_len a]; exact Nat.le_of_lt (small1000 (by omega)), fun _ np => q _ _ (s1.trans (same_new np)) (.tup (.inl (.inl (nw_of (s1.free np) upd_same))) (dpa_same (nw_new np) a))⟩
theorem pl_lst {es : List Expr} {ds : List PyData} {pos : Pos} (h : PA X es (tLits X.K ds)) (hl : ds.length ≤ 900 := by decide) : PE X (.List es pos) (tLit X.K (.list ds)) :=
  pe_weak (pe_lst h) fun _ _ _ q _ _ s1 a => ⟨by rw [dpa_len a]; exact Nat.le_of_lt (small1000 (by omega)), fun _ np => q _ _ (s1.trans (same_new np)) (.lst (SqL.of (nw_of (s1.free np) upd_same)) (dpa_same (nw_new np) a))⟩
end
abbrev rs6 : List (Str × List Str) := [("ann", ["bob"]), ("bob", ["ann", "cat"]), ("cat", ["bob", "dan", "eve"]), ("dan", ["cat", "eve"]), ("eve", ["cat", "dan"]), ("fay", ["cat", "new"])]
theorem dpa_app {K : PySem.W.Frag} {H : Hp} : ∀ {xs ys : List V} {ds es : List PyData}, DpAll K H xs ds → DpAll K H ys es → DpAll K H (xs ++ ys) (ds ++ es)
  | _, _, _, _, .nil, b => b
  | _, _, _, _, .cons h t, b => .cons h (dpa_app t b)
section
variable {P : Program} {w : World} {K : PySem.W.Frag} {mg : Str → Option Value} {base : Heap}
def spSix (K : PySem.W.Frag) : Sp := fun vs H Q _ => vs = [] ∧ ∀ x H', Same H H' → Dp K H' x (shT rs6 ["new"]) → Q x H'
theorem sc6 : FnScope ["_law_rows_so"] [] (defScope sSix) := ⟨rfl, rfl, rfl, by decide +kernel, rfl, by decide +kernel, by decide +kernel⟩
theorem ok_six {f : Addr} {fd : FuncData} (F : Fun K "_law_six" "_law_six" sSix f fd) : FnOk P w K mg base CX0 1 f fd [] (spSix K) := by
  refine F.ok sc6 (fun vs H Q E h => ?_) (fun cdv A outer s H vs Q E hr h => ?_)
  · obtain ⟨rfl, _⟩ := h
    rfl
  obtain ⟨rfl, k⟩ := h
  refine ⟨_, pss_cons (ps_set (i := 0) sc6.nd rfl (.inl rfl) (pl_tup (pls_cons (pl_tup (pls_cons pl_str (pls_cons (pl_tup (pls_cons pl_str pls_nil)) pls_nil))) (pls_cons (pl_tup (pls_cons pl_str (pls_cons (pl_tup (pls_cons pl_str (pls_cons pl_str pls_nil))) pls_nil)))
      (pls_cons (pl_tup (pls_cons pl_str (pls_cons (pl_tup (pls_cons pl_str (pls_cons pl_str (pls_cons pl_str pls_nil)))) pls_nil))) (pls_cons (pl_tup (pls_cons pl_str (pls_cons (pl_tup (pls_cons pl_str (pls_cons pl_str pls_nil))) pls_nil))) pls_nil))))))
    (pss_one (ps_ret (pe_tup (pa_cons (pe_op op_catA (pv 0) (pl_tup (pls_cons (pl_tup (pls_cons pl_str (pls_cons (pl_tup (pls_cons pl_str (pls_cons pl_str pls_nil))) pls_nil))) (pls_cons (pl_tup (pls_cons pl_str (pls_cons (pl_tup (pls_cons pl_str (pls_cons pl_str pls_nil))) pls_nil))) pls_nil))))
      (pa_cons (pl_tup (pls_cons pl_str pls_nil)) pa_nil))))), ?_⟩
  intro x H1 s1 d1
  have d1 := dp_same nw_le d1
  refine ⟨_, rfl, fun y H2 s2 d2 => ?_⟩
  have d2 := dp_same nw_le d2
  obtain ⟨a, xs, rfl, ha, ax⟩ := dp_tup (dp_same s2 d1)
  obtain ⟨b, ys, rfl, hb, ay⟩ := dp_tup d2
  have lx := dpa_len ax
  have ly := dpa_len ay
  refine ⟨a, b, xs, ys, rfl, rfl, ha, hb, by rw [lx, ly]; exact Nat.le_of_lt (small1000 (by decide)), fun e => ?_, fun _ e => ?_, fun _ _ p np z H3 s3 d3 => ⟨by show 2 ≤ sizeLine; decide, fun q nq => ?_⟩⟩
  rotate_left 2
  · have d3 := dp_same nw_le d3
    have s4 := (same_new (o := .tup (xs ++ ys)) np).trans s3
    have s5 := s4.trans (same_new (o := .tup [.ref p, z]) nq)
    refine k _ _ (s1.trans (s2.trans s5)) ?_
    refine .tup (.inl (.inl upd_same)) (.cons (.tup (.inl (.inl ((same_new nq) _ _ (s3 _ _ upd_same)))) (dpa_same s5 (dpa_app ax ay))) (.cons (dp_same (same_new nq) d3) .nil))
  · rw [e] at lx
    exact absurd lx (by decide)
  · rw [e] at ly
    exact absurd ly (by decide)
/-! ### kite -/
theorem rise_one {xs ys : List Str} (p : xs.Perm ys) (h1 : Rise xs) (h2 : Rise ys) : xs = ys := List.Perm.eq_of_pairwise (fun _ _ _ _ l m => sLt_tot m l) h1 h2 p
theorem rows_eq {W : Str → List Str} : ∀ {rs : List (Str × List Str)}, (∀ r ∈ rs, r.2 = W r.1) → rs = (rs.map (·.1)).map fun n => (n, W n)
  | [], _ => rfl
  | r :: rs, h => by
    rw [List.map_cons, List.map_cons, ← rows_eq fun x m => h x (List.mem_cons_of_mem _ m), ← h r List.mem_cons_self]
abbrev kq : List (Str × Str) := [("a", "b"), ("a", "c"), ("b", "c"), ("c", "d")]
abbrev kiteRs : List (Str × List Str) := [("a", ["b", "c"]), ("b", ["a", "c"]), ("c", ["a", "b", "d"]), ("d", ["c"])]
def kW (n : Str) : List Str := if n = "a" then ["b", "c"] else if n = "b" then ["a", "c"] else if n = "c" then ["a", "b", "d"] else ["c"]
theorem kW_ok : ∀ n ∈ (["a", "b", "c", "d"] : List Str), (kW n).Perm (prt kq n) ∧ (kW n).Pairwise fun a b => sLt b a = false := by decide +kernel
theorem kq_ok : ∀ q ∈ kq, q.1 ∈ (["a", "b", "c", "d"] : List Str) ∧ q.2 ∈ (["a", "b", "c", "d"] : List Str) := by decide +kernel
theorem abcd : sgn "abcd" = (["a", "b", "c", "d"] : List Str) := by decide +kernel
theorem abcd_rise : (["a", "b", "c", "d"] : List Str).Pairwise fun a b => sLt b a = false := by decide +kernel
theorem kite_eq : ((["a", "b", "c", "d"] : List Str).map fun n => (n, kW n)) = kiteRs := by decide +kernel
def spKite (K : PySem.W.Frag) : Sp := fun vs H Q _ => vs = [] ∧ ∀ p H', Same H H' → Dp K H' (.ref p) (shT kiteRs []) → Q (.ref p) H'
theorem scKt : FnScope [] [] (defScope sKite) := ⟨rfl, rfl, rfl, by decide +kernel, rfl, by decide +kernel, by decide +kernel⟩
theorem ok_kite {f g : Addr} {fd gd : FuncData} (F : Fun K "_law_kite" "_law_kite" sKite f fd) (GL : FnOk P w K mg base CX0 1 g gd ["_law_line", "_law_pairs"] (spLinked K)) (bL : Binds K gd ["_law_line", "_law_pairs"] []) (kL : PySem.W.keepIn K (.ref g) = true) (mL : mg "_law_linked" = some (.ref g)) :
    FnOk P w K mg base CX0 2 f fd [] (spKite K) := by
  refine F.ok scKt (fun vs H Q E h => ?_) (fun cdv A outer s H vs Q E hr h => ?_)
  · obtain ⟨rfl, _⟩ := h
    rfl
  obtain ⟨rfl, k⟩ := h
  refine ⟨_, pss_one (ps_ret (pe_call GL hr (by rfl) mL kL bL .nil pass0 (pa_cons pe_str (pa_cons (pe_lst (pa_cons (pe_tup (pa_cons pe_str (pa_cons pe_str pa_nil))) (pa_cons (pe_tup (pa_cons pe_str (pa_cons pe_str pa_nil))) (pa_cons (pe_tup (pa_cons pe_str (pa_cons pe_str pa_nil))) (pa_cons (pe_tup (pa_cons pe_str (pa_cons pe_str pa_nil))) pa_nil))))) pa_nil)))), ?_⟩
  refine ⟨by show 2 ≤ sizeLine; decide, fun t1 n1 => ⟨by show 2 ≤ sizeLine; decide, fun t2 n2 => ⟨by show 2 ≤ sizeLine; decide, fun t3 n3 => ⟨by show 2 ≤ sizeLine; decide, fun t4 n4 => ⟨by show 4 ≤ sizeLine; decide, fun L nL => ?_⟩⟩⟩⟩⟩
  have s1 : Same H _ := same_new (o := .tup [.str "a", .str "b"]) n1
  have s2 := same_new (o := .tup [.str "a", .str "c"]) n2
  have s3 := same_new (o := .tup [.str "b", .str "c"]) n3
  have s4 := same_new (o := .tup [.str "c", .str "d"]) n4
  have s5 := same_new (o := .lst [.ref t1, .ref t2, .ref t3, .ref t4]) nL
  refine ⟨.str "abcd", L, ["a", "b", "c", "d"], [.ref t1, .ref t2, .ref t3, .ref t4], kq, rfl, .inr ⟨"abcd", rfl, abcd⟩, by decide +kernel, by decide, SqL.of upd_same, ?_, kq_ok, by decide, fun p H' rs s6 d pm asc hw => ?_⟩
  · exact .cons ⟨t1, rfl, s5 _ _ (s4 _ _ (s3 _ _ (s2 _ _ upd_same)))⟩ (.cons ⟨t2, rfl, s5 _ _ (s4 _ _ (s3 _ _ upd_same))⟩ (.cons ⟨t3, rfl, s5 _ _ (s4 _ _ upd_same)⟩ (.cons ⟨t4, rfl, s5 _ _ upd_same⟩ .nil)))
  · have en : rs.map (·.1) = (["a", "b", "c", "d"] : List Str) := rise_one pm asc.rise abcd_rise
    have er : rs = kiteRs := by
      rw [rows_eq (W := kW) (rs := rs) fun r m => ?_, en, kite_eq]
      obtain ⟨h1, h2⟩ := hw r m
      have mn : r.1 ∈ (["a", "b", "c", "d"] : List Str) := by
        rw [← en]
        exact List.mem_map.mpr ⟨r, m, rfl⟩
      exact rise_one (h2.trans (kW_ok r.1 mn).1.symm) h1 (kW_ok r.1 mn).2
    rw [er] at d
    exact k p H' ((((s1.trans s2).trans (s3.trans s4)).trans s5).trans s6) d
/-! ### apart -/
def spApart (K : PySem.W.Frag) : Sp := fun vs H Q _ => ∃ (a : Addr) (y : V) (ps : List V) (qs : List (Str × Str)) (gone : List Str), vs = [.ref a, y] ∧ SqL K H a ps ∧ Paired (PrAt H) ps qs ∧ qs.length ≤ 4000 ∧ SeqV K H y (gone.map V.str) ∧
  ∀ p H' (zs : List V), Same H H' → H p = none → H' p = some (.lst zs) → Paired (PrAt H') zs (qs.filter fun q => !decide (q.1 ∈ gone) && !decide (q.2 ∈ gone)) → Q (.ref p) H'
abbrev nAp : List Str := ["_law_pairs", "_law_gone", "_law_pair"]
theorem scAp : FnScope nAp ["_law_pairs", "_law_gone"] (defScope sApart) := ⟨rfl, rfl, rfl, by decide +kernel, rfl, by decide +kernel, by decide +kernel⟩
theorem ok_apart {f : Addr} {fd : FuncData} (F : Fun K "_law_apart" "_law_apart" sApart f fd) : FnOk P w K mg base CX0 1 f fd ["_law_pairs", "_law_gone"] (spApart K) := by
  refine F.ok scAp (fun vs H Q E h => ?_) (fun cdv A outer s H vs Q E hr h => ?_)
  · obtain ⟨a, y, ps, qs, gone, rfl, _⟩ := h
    rfl
  obtain ⟨a, y, ps, qs, gone, rfl, ha, pr, lq, hy, k⟩ := h
  refine ⟨_, pss_one (ps_ret (pe_lcA (own := [("_law_pair", 2)]) (g := gName 2) (tt := tAnd (tTest (tOp (rIn K true) (tOp (rIx K) (tVar 2) (tC (.int 0))) (tVar 1))) (tTest (tOp (rIn K true) (tOp (rIx K) (tVar 2) (tC (.int 1))) (tVar 1)))) (te := tVar 2) rfl scAp.nd (pv 0) (blkOk_by (N := nAp) (sc := defScope sApart) (by decide +kernel))
    (fun _ _ _ _ _ => pg_name (i := 2) scAp.nd rfl (.inl rfl)) (fun _ _ _ _ _ => pts_one (PW.pt (pw_and (pt_cmpR op_notIn_seq (pe_ix ix_seq (pv 2) pe_int (fun _ _ => rfl)) (pv 1) (by rfl)) (pw_and1 (pt_cmpR op_notIn_seq (pe_ix ix_seq (pv 2) pe_int (fun _ _ => rfl)) (pv 1) (by rfl)))))) (fun _ _ _ _ _ => pv 2))), ?_⟩
  refine ⟨_, rfl, ?_⟩
  refine lc_any (xs := ps) ⟨a, rfl, .inl ha⟩ (Stays.of (Same.refl H)) (fun D i H' => Same H H' ∧ ∃ zs : List V, H' D = some (.lst zs) ∧ Paired (PrAt H') zs ((qs.take i).filter fun q => !decide (q.1 ∈ gone) && !decide (q.2 ∈ gone))) (fun D nD => ⟨same_new nD, [], upd_same, .nil⟩) (fun D i H' _ q => Stays.of q.1) (fun D i v H' nD hv ⟨s1, zs, hD, pz⟩ => ?_) (fun D H' nD ⟨s1, zs, hD, pz⟩ => ?_)
  · obtain ⟨q, hq, b, rfl, hb⟩ := pair_at pr hv
    have hb2 : SeqV K H' (.ref b) [.str q.1, .str q.2] := seq_tup (s1 _ _ hb)
    have hy2 := st_sv s1 hy
    have lz := Paired.length pz
    have lf := List.length_filter_le (fun q : Str × Str => !decide (q.1 ∈ gone) && !decide (q.2 ∈ gone)) (qs.take i)
    rw [List.length_take] at lf
    refine ⟨rfl, _, rfl, ix_sv hb2 (atI_nat (j := 0) rfl) ⟨_, rfl, nin_s hy2 ⟨_, rfl, ite2 (fun c1 => ⟨_, rfl, ix_sv hb2 (atI_nat (j := 1) rfl) ⟨_, rfl, nin_s hy2 ⟨_, rfl, ite2 (fun c2 => ?_) (fun c2 => ?_)⟩⟩⟩) (fun c1 => iteF ?_)⟩⟩⟩
    · have cc : (!decide (q.1 ∈ gone) && !decide (q.2 ∈ gone)) = true := Bool.and_eq_true_iff.mpr ⟨c1, c2⟩
      refine ⟨_, rfl, _, hD, by rw [sizeLine_eq]; omega, fun b2 ob eb => ?_, zs ++ [.ref b], upd_same, ?_⟩
      · rw [upd_ne (ne_of_none eb nD)]
        exact s1 _ _ eb
      · rw [filt_yes hq cc]
        exact pair_snoc ⟨b, rfl, tup_lst hD _ _ (s1 _ _ hb)⟩ (Paired.mapP pz fun _ _ h => h.keep fun b2 xs e => tup_lst hD b2 xs e)
    · refine ⟨s1, zs, hD, ?_⟩
      rw [filt_no hq fun c => c2 (Bool.and_eq_true_iff.mp c).2]
      exact pz
    · refine ⟨s1, zs, hD, ?_⟩
      rw [filt_no hq fun c => c1 (Bool.and_eq_true_iff.mp c).1]
      exact pz
  · rw [Paired.length pr, List.take_length] at pz
    exact k D H' zs s1 nD hD pz
end
end Cx

/-! woven -/
namespace Cx
open PySem PySem.Spec PyProof.Rows L2
theorem sqt_hide {K : PySem.W.Frag} {H : Hp} {u a : Addr} {us xs : List V} (hu : H u = some (.lst us)) (h : SqT K H a xs) : SqT K (hide u H) a xs := by
  rcases h with (h | ⟨o, h⟩) | h
  · exact .inl (.inl (tup_hide hu h))
  · exact .inl (.inr ⟨o, by rw [hide_ne fun c => by rw [c, hu] at h; cases h]; exact h⟩)
  · exact .inr h
theorem dp_tupH {K : PySem.W.Frag} {H : Hp} {u : Addr} {us : List V} {x : V} {xs : List Str} (hu : H u = some (.lst us)) (h : Dp K H x (.tuple (xs.map PyData.str))) : Dp K (hide u H) x (.tuple (xs.map PyData.str)) := by
  obtain ⟨a, vs, rfl, hs, ha⟩ := dp_tup h
  rw [dp_strs (es := xs) ha (by rw [List.map_map]; rfl)] at hs
  exact .tup (sqt_hide hu hs) (dpa_strs _)
theorem dpa_rowH {K : PySem.W.Frag} {H : Hp} {u : Addr} {us : List V} (hu : H u = some (.lst us)) : ∀ {zs : List V} {rs : List (Str × List Str)}, DpAll K H zs (rs.map fun r => .tuple [.str r.1, .tuple (r.2.map PyData.str)]) → DpAll K (hide u H) zs (rs.map fun r => .tuple [.str r.1, .tuple (r.2.map PyData.str)])
  | _, [], .nil => .nil
  | _, r :: rs, .cons h t => by
    obtain ⟨a, vs, rfl, hs, ha⟩ := dp_tup h
    cases ha with
    | cons h1 t1 =>
      cases h1
      cases t1 with
      | cons h2 t2 =>
        cases t2
        exact .cons (.tup (sqt_hide hu hs) (.cons (.str _) (.cons (dp_tupH hu h2) .nil))) (dpa_rowH hu t)
theorem sh_hide {K : PySem.W.Frag} {H : Hp} {u : Addr} {us : List V} {x : V} {rs : List (Str × List Str)} {es : List Str} (hu : H u = some (.lst us)) (h : Dp K H x (shT rs es)) : Dp K (hide u H) x (shT rs es) := by
  obtain ⟨a, vs, rfl, hs, ha⟩ := dp_tup h
  cases ha with
  | cons h1 t1 =>
    cases t1 with
    | cons h2 t2 =>
      cases t2
      obtain ⟨b, zs, rfl, hb, hz⟩ := dp_tup h1
      exact .tup (sqt_hide hu hs) (.cons (.tup (sqt_hide hu hb) (dpa_rowH hu hz)) (.cons (dp_tupH hu h2) .nil))
theorem cut_d (ys : List Str) (t : Nat) : cutV (ys.map V.str) (some (t : Int)) none = (ys.drop t).map V.str := by
  unfold cutV
  rw [List.length_map, HT.sIx_none, HT.sIx_nat, ← List.map_drop]
  by_cases h : t ≤ ys.length
  · rw [Nat.min_eq_left h, ← List.length_drop (l := ys), ← List.length_map (f := V.str) (as := ys.drop t), List.take_length]
  · rw [Nat.min_eq_right (by omega), Nat.sub_self, List.take_zero, List.drop_of_length_le (by omega)]
    rfl
def tri : Nat → Nat
  | 0 => 0
  | m + 1 => tri m + m
theorem tri_mono {a b : Nat} (h : a ≤ b) : tri a ≤ tri b := by
  induction h with
  | refl => exact Nat.le_refl _
  | step _ ih => exact Nat.le_trans ih (Nat.le_add_right _ _)
def names10 : List Str := ["a", "ann", "b", "bob", "c", "cat", "dan", "eve", "x", "zzzzzzzz"]
theorem n10W : ∀ z ∈ names10, z ∈ namesW := by decide +kernel
theorem n11W : ∀ z ∈ names11, z ∈ namesW := by decide +kernel
/-- a sheet that the law draws -/
structure Gd (rs : List (Str × List Str)) (es : List Str) : Prop where
  rl : rs.length ≤ 10
  el : es.length ≤ 3
  sn : ShN rs es
  asc : Asc (rs.map (·.1))
  rise : ∀ r ∈ rs, Rise r.2
theorem Gd.ok {rs : List (Str × List Str)} {es : List Str} (G : Gd rs es) : Ok rs := ⟨by have := G.rl; omega, asc_nodup G.asc, fun r m => by have := (G.sn.1 r m).1; omega⟩
section
variable {P : Program} {w : World} {K : PySem.W.Frag} {mg : Str → Option Value} {base : Heap}
def spWoven (K : PySem.W.Frag) : Sp := fun vs H Q _ => ∃ (u : Addr) (n : Nat), vs = [.ref u] ∧ UrnAt u H n ∧ n + 2000 ≤ 1000000 ∧ ∀ q rs es H', UrnAt u H' (n + 2000) → Keep u H H' → Dp K (hide u H') (.ref q) (shT rs es) → Gd rs es → Q (.ref q) H'
abbrev nWv : List Str := ["_law_urn", "_law_line", "_law_wide", "_law_pairs", "_law_k", "_law_far"]
theorem scWv : FnScope nWv ["_law_urn"] (defScope sWoven) := ⟨rfl, rfl, rfl, by decide +kernel, rfl, by decide +kernel, by decide +kernel⟩
theorem ok_woven {f : Addr} {fd : FuncData} (F : Fun K "_law_woven" "_law_woven" sWoven f fd) (CT : Cal P w K mg base "_law_take" 1 ["_law_urn", "_law_low_so"] spTake) (CM : Cal P w K mg base "_law_mixed" 2 ["_law_urn", "_law_pool"] (spMixed K))
    (CO : Cal P w K mg base "_law_tome" 3 ["_law_urn", "_law_most_so", "_law_free_so"] (spTome K)) (CL : Cal P w K mg base "_law_linked" 1 ["_law_line", "_law_pairs"] (spLinked K)) (ms : mg "sorted" = none) (mr : mg "range" = none) (mn : mg "len" = none) : FnOk P w K mg base CX0 4 f fd ["_law_urn"] (spWoven K) := by
  obtain ⟨ft, dt, GT, bT, kT, mT⟩ := CT
  obtain ⟨fm, dm, GM, bM, kM, mM⟩ := CM
  obtain ⟨fo, do', GO, bO, kO, mO⟩ := CO
  obtain ⟨fl, dl, GL, bL, kL, mL⟩ := CL
  refine F.ok scWv (fun vs H Q E h => ?_) (fun cdv A outer s H vs Q E hr h => ?_)
  · obtain ⟨u, n, rfl, _⟩ := h
    rfl
  have hr1 := hr.mono (show 1 ≤ 3 by decide)
  have hr2 := hr.mono (show 2 ≤ 3 by decide)
  obtain ⟨u, n, rfl, U, hn, k⟩ := h
  refine ⟨_, pss_cons (ps_if (pt_cmpR op_eq (pe_call GT hr1 (by rfl) mT kT bT .nil pass0 (pa_cons (pv 0) (pa_cons pe_int pa_nil))) pe_int (nomark _)) (pss_one (ps_ret (pe_call GO hr (by rfl) mO kO bO .nil pass0 (pa_cons (pv 0) (pa_cons pe_int (pa_cons pe_int pa_nil)))))) pss_nil)
    (Evl.pss_cut (ps_set (i := 1) scWv.nd rfl (.inr rfl) (pe_call GM hr2 (by rfl) mM kM bM .nil pass0 (pa_cons (pv 0) (pa_cons (pe_lst (pa_cons pe_str (pa_cons pe_str (pa_cons pe_str (pa_cons pe_str (pa_cons pe_str (pa_cons pe_str (pa_cons pe_str (pa_cons pe_str (pa_cons pe_str (pa_cons pe_str pa_nil))))))))))) pa_nil))))
    (Evl.pss_cut (ps_set (i := 1) scWv.nd rfl (.inr rfl) (pe_callB cr_sortTupS (by rfl) ms (by decide +kernel) (pa_cons (pe_slice sl_tupA (pv 1) po_none (po_some (pe_op op_add pe_int (pe_call GT hr1 (by rfl) mT kT bT .nil pass0 (pa_cons (pv 0) (pa_cons pe_int pa_nil)))))) pa_nil)))
    (Evl.pss_cut (ps_asg (pe_tup (pa_cons (pe_op op_add pe_int (pe_call GT hr1 (by rfl) mT kT bT .nil pass0 (pa_cons (pv 0) (pa_cons pe_int pa_nil)))) (pa_cons (pe_lst pa_nil) pa_nil))) (pg_tup rfl (pgs_cons (pg_name (i := 2) scWv.nd rfl (.inr rfl)) (pgs_cons (pg_name (i := 3) scWv.nd rfl (.inl rfl)) pgs_nil))))
    (Evl.pss_cut (ps_for PassesOwn.never rfl (pi_range1 (by rfl) mr (pa_cons (pe_callB call_len_seq (by rfl) mn PySem.boot_len (pa_cons (pv 1) pa_nil)) pa_nil)) (pg_name (i := 4) scWv.nd rfl (.inr rfl))
      (pss_one (ps_set (i := 3) scWv.nd rfl (.inl rfl) (pe_op op_cat (pv 3)
        (pe_lcA (own := [("_law_far", 5)]) (g := gName 5) (tt := tTest (tOp rEq (tCall spTake [] E0 (tCons (tVar 0) (tCons (tVar 2) tNil))) (tC (.int 0)))) (te := tTup (tCons (tOp (rIxL K) (tVar 1) (tVar 4)) (tCons (tVar 5) tNil))) rfl scWv.nd (pe_slice sl_list (pv 1) (po_some (pe_op op_add (pv 4) pe_int)) po_none) (blkOk_by (N := nWv) (sc := defScope sWoven) (by decide +kernel))
          (fun _ _ _ _ _ => pg_name (i := 5) scWv.nd rfl (.inl rfl)) (fun _ _ _ _ _ => pts_one (pt_cmpR op_eq (pe_call GT hr1 (by rfl) mT kT bT .nil pass0 (pa_cons (pv 0) (pa_cons (pv 2) pa_nil))) pe_int (nomark _)))
          (fun _ _ _ _ _ => pe_tup (pa_cons (pe_ix ix_list (pv 1) (pv 4) (fun _ _ => rfl)) (pa_cons (pv 5) pa_nil))))))))
    (pss_one (ps_ret (pe_call GL hr1 (by rfl) mL kL bL .nil pass0 (pa_cons (pv 1) (pa_cons (pv 3) pa_nil))))))))), ?_⟩
  refine ⟨_, rfl, u, 3, n, rfl, U, by omega, by decide, by decide, fun r0 H0 r00 r01 U0 k0 => ⟨rfl, _, rfl, ite2 (fun _ => ?_) (fun _ => ?_)⟩⟩
  · refine ⟨_, rfl, u, 8, 2, _, rfl, U0, by omega, by decide, by decide, fun q rs es H2 U2 k2 hd lr le hn1 hn2 asc => k q rs es H2 (U2.le (by omega)) (k0.trans k2) hd ⟨by omega, by omega, ⟨fun r m => ?_, fun z m => n11W z (hn2 z m)⟩, asc, fun r m => (hn1 r m).2.2.2.rise⟩⟩
    obtain ⟨a, b, c, _⟩ := hn1 r m
    exact ⟨by omega, n11W _ b, fun y my => n11W y (c y my)⟩
  refine ⟨fun σ' H' => ∃ (p : Addr) (ys : List Str), σ' = [some (.ref u), some (.ref p), none, none, none, none] ∧ UrnAt u H' (n + 11) ∧ Keep u H H' ∧ H' p = some (.tup (ys.map V.str)) ∧ ys.Perm names10 ∧ p ≠ u, ?_, ?_⟩
  · refine ⟨_, rfl, by show 10 ≤ sizeLine; decide, fun L0 nL0 => ?_⟩
    have L0u := U0.ne nL0
    refine ⟨u, .ref L0, names10, n + 1, rfl, U0.upd L0u, by show n + 1 + 10 ≤ _; omega, ⟨L0, rfl, .inl (SqL.of (by rw [hide_ne L0u]; exact upd_same))⟩, by decide, fun ys p H3 pm U3 k3 pu np0 hp => ?_⟩
    exact ⟨p, ys, rfl, U3, (k0.trans (keep_new nL0)).trans k3, hp, pm, pu⟩
  rintro σ1 H1 ⟨p, ys, rfl, U1, k1, hp, pm, pu⟩
  have ly : ys.length = 10 := pm.length_eq
  refine ⟨fun σ' H' => ∃ (L : Addr) (ls : List Str), σ' = [some (.ref u), some (.ref L), none, none, none, none] ∧ UrnAt u H' (n + 12) ∧ Keep u H H' ∧ H' L = some (.lst (ls.map V.str)) ∧ ls.Nodup ∧ ls.length ≤ 8 ∧ (∀ z ∈ ls, z ∈ namesW) ∧ L ≠ u, ?_, ?_⟩
  · refine ⟨_, rfl, _, rfl, u, 6, _, rfl, U1, by omega, by decide, by decide, fun r H2 r00 r01 U2 k2 => ⟨_, _, rfl, rfl, _, rfl, ?_⟩⟩
    obtain ⟨m, em⟩ := Int.eq_ofNat_of_zero_le (show 0 ≤ 3 + r by omega)
    have hp2 := k2 p _ pu hp
    refine ⟨p, _, rfl, .inl (.inl hp2), fun c => ?_, fun _ z nz => ?_⟩
    · have c2 := c.2
      rw [List.length_map, em, HT.sIx_nat] at c2
      omega
    · rw [em, cut_s1]
      refine ⟨z, ys.take m, rfl, .inl (.inl upd_same), fun ls p2 pm2 so2 np2 => ?_⟩
      have zu := U2.ne nz
      have Uz := U2.upd (o := .tup ((ys.take m).map V.str)) zu
      refine ⟨p2, ls, rfl, Uz.upd (Uz.ne np2), ((k1.trans k2).trans (keep_new nz)).trans (keep_new np2), upd_same, pm2.nodup_iff.mpr ((pm.nodup_iff.mpr (by decide +kernel)).sublist (List.take_sublist _ _)), ?_, fun y my => n10W y (pm.mem_iff.mp (List.mem_of_mem_take (pm2.mem_iff.mp my))), Uz.ne np2⟩
      rw [pm2.length_eq, List.length_take]
      omega
  rintro σ2 H2 ⟨L, ls, rfl, U2, k2, hL, nd, ll, lw, Lu⟩
  refine ⟨fun σ' H' => ∃ (Fp : Addr) (wd : Int), σ' = [some (.ref u), some (.ref L), some (.int wd), some (.ref Fp), none, none] ∧ UrnAt u H' (n + 13) ∧ Keep u H H' ∧ H' L = some (.lst (ls.map V.str)) ∧ H' Fp = some (.lst []) ∧ 0 < wd ∧ wd < 1000, ?_, ?_⟩
  · refine ⟨_, rfl, u, 3, _, rfl, U2, by omega, by decide, by decide, fun r H3 r00 r01 U3 k3 => ⟨_, _, rfl, rfl, Nat.zero_le _, fun Fp nF => ⟨by show 2 ≤ sizeLine; decide, fun q nq => ?_⟩⟩⟩
    have Fu := U3.ne nF
    have U4 := U3.upd (o := .lst []) Fu
    refine ⟨q, _, rfl, .inl (.inl upd_same), rfl, _, _, rfl, _, _, rfl, rfl, Fp, 2 + r, rfl, U4.upd (U4.ne nq), (((k2.trans k3).trans (keep_new nF)).trans (keep_new nq)), (same_new nq) _ _ ((same_new nF) _ _ (k3 L _ Lu hL)), (same_new nq) _ _ upd_same, by omega, by omega⟩
  rintro σ3 H3 ⟨Fp, wd, rfl, U3, k3, hL3, hF3, w0, w1⟩
  have tup_keep : ∀ {Ha Hb : Hp} {m : Nat}, UrnAt u Ha m → Keep u Ha Hb → ∀ b xs, Ha b = some (.tup xs) → Hb b = some (.tup xs) := fun {Ha Hb m} Ua kk b xs e => by
    obtain ⟨a1, b1, c1, e1, _⟩ := Ua
    exact kk b _ (fun c => by rw [c, e1] at e; cases e) e
  refine ⟨fun σ' H' => ∃ (Fp : Addr) (a : Option V) (ps : List V) (qs : List (Str × Str)), σ' = [some (.ref u), some (.ref L), some (.int wd), some (.ref Fp), a, none] ∧ UrnAt u H' (n + 13 + 8 * 8) ∧ Keep u H H' ∧ H' L = some (.lst (ls.map V.str)) ∧ H' Fp = some (.lst ps) ∧ Paired (PrAt H') ps qs ∧ (∀ q ∈ qs, q.1 ∈ ls ∧ q.2 ∈ ls) ∧ qs.length ≤ 28, ?_, ?_⟩
  · refine ⟨_, rfl, L, _, rfl, .inl (SqL.of hL3), _, rfl, by rw [List.length_map]; omega, by rw [List.length_map]; omega, ?_⟩
    refine for_range (lo := 0) (n := (ls.map V.str).length) (fun i σ H' => ∃ (Fp : Addr) (a : Option V) (ps : List V) (qs : List (Str × Str)), σ = [some (.ref u), some (.ref L), some (.int wd), some (.ref Fp), a, none] ∧ UrnAt u H' (n + 13 + 8 * i) ∧ Keep u H H' ∧ H' L = some (.lst (ls.map V.str)) ∧ H' Fp = some (.lst ps) ∧ Fp ≠ u ∧ Paired (PrAt H') ps qs ∧ (∀ q ∈ qs, q.1 ∈ ls ∧ q.2 ∈ ls) ∧ qs.length + tri (ls.length - i) ≤ tri ls.length)
      ⟨Fp, none, [], [], rfl, U3, k3, hL3, hF3, (fun c => by obtain ⟨_, _, _, e, _⟩ := U3; rw [c, e] at hF3; cases hF3), .nil, (by intro q m; cases m), by simp⟩ ?_ ?_
    · rintro i σ H' hi ⟨Fp, a, ps, qs, rfl, U4, k4, hL4, hF4, Fu, pr, mm, lq⟩
      rw [List.length_map] at hi
      have ei : (0 : Int) + (i : Nat) + 1 = ((i + 1 : Nat) : Int) := by omega
      have ei0 : (0 : Int) + (i : Nat) = ((i : Nat) : Int) := by omega
      obtain ⟨m, hm⟩ : ∃ m, ls.length - i = m + 1 := ⟨ls.length - i - 1, by omega⟩
      have hm2 : ls.length - (i + 1) = m := by omega
      rw [hm] at lq
      have lq' : qs.length + (tri m + m) ≤ tri ls.length := lq
      have t8 := tri_mono ll
      have t8' : tri 8 = 28 := by decide
      refine ⟨_, rfl, _, rfl, _, rfl, _, _, rfl, rfl, _, rfl, L, _, rfl, SqL.of hL4, fun C nC => ?_⟩
      rw [ei, cut_d]
      have Cu := U4.ne nC
      have U5 := U4.upd (o := .lst ((ls.drop (i + 1)).map V.str)) Cu
      have k5 : Keep u H' (upd H' C (.lst ((ls.drop (i + 1)).map V.str))) := keep_new nC
      have hC5 : upd H' C (.lst ((ls.drop (i + 1)).map V.str)) C = some (.lst ((ls.drop (i + 1)).map V.str)) := upd_same
      generalize upd H' C (.lst ((ls.drop (i + 1)).map V.str)) = H5 at U5 k5 hC5 ⊢
      have ld : (ls.drop (i + 1)).length = m := by rw [List.length_drop]; exact hm2
      refine lc_any (xs := (ls.drop (i + 1)).map V.str) (H0 := hide u H5) ⟨C, rfl, .inl (SqL.of (by rw [hide_ne Cu]; exact hC5))⟩ (Stays.of hide_le) (fun D j H6 => UrnAt u H6 (n + 13 + 8 * i + j) ∧ Keep u H5 H6 ∧ ∃ (zs : List V) (q2 : List (Str × Str)), H6 D = some (.lst zs) ∧ Paired (PrAt H6) zs q2 ∧ (∀ q ∈ q2, q.1 ∈ ls ∧ q.2 ∈ ls) ∧ q2.length ≤ j)
        (fun D nD => ⟨U5.upd (U5.ne nD), keep_new nD, [], [], upd_same, .nil, (by intro q m; cases m), Nat.le_refl _⟩) (fun D j H6 _ q => Stays.of (keep_under q.2.1)) (fun D j v H6 nD hv ⟨U6, k6, zs, q2, hD, pz, m2, l2⟩ => ?_) (fun D H6 nD ⟨U6, k6, zs, q2, hD, pz, m2, l2⟩ => ?_)
      · obtain ⟨z, hz, rfl⟩ := map_at hv
        have hj := (List.getElem?_eq_some_iff.mp hz).1
        have Du := U5.ne nD
        refine ⟨rfl, _, rfl, _, rfl, u, wd, _, rfl, U6, by omega, w0, w1, fun r H7 r00 r01 U7 k7 => ⟨rfl, _, rfl, ite2 (fun _ => ?_) (fun _ => ?_)⟩⟩
        · have hD7 := k7 D _ Du hD
          have hL7 := k7 L _ Lu (k6 L _ Lu (k5 L _ Lu hL4))
          refine ⟨_, rfl, _, rfl, L, _, _, _, rfl, rfl, SqL.of hL7, (by rw [ei0]; exact at_s hi), _, rfl, by show 2 ≤ sizeLine; decide, fun t nt => ?_⟩
          have hD8 := (same_new (o := .tup [.str ls[i], .str z]) nt) _ _ hD7
          have lz := Paired.length pz
          refine ⟨zs, hD8, small1000 (by omega), (U7.upd (U7.ne nt)).upd Du, ((k6.trans k7).trans (keep_new nt)).put nD, zs ++ [.ref t], q2 ++ [(ls[i], z)], upd_same, ?_, fun q mq => ?_, by rw [List.length_append]; show q2.length + 1 ≤ _; omega⟩
          · exact pair_snoc ⟨t, rfl, tup_lst hD8 _ _ upd_same⟩ (Paired.mapP pz fun _ _ h => h.keep fun b xs e => tup_lst hD8 b xs ((same_new nt) _ _ (tup_keep U6 k7 b xs e)))
          · rcases List.mem_append.mp mq with mq | mq
            · exact m2 q mq
            · rw [List.mem_singleton.mp mq]
              exact ⟨List.getElem_mem hi, List.mem_of_mem_drop (List.mem_of_getElem? hz)⟩
        · exact ⟨U7, k6.trans k7, zs, q2, k7 D _ Du hD, Paired.mapP pz fun _ _ h => h.keep (tup_keep U6 k7), m2, by omega⟩
      · rw [List.length_map, ld] at l2 U6
        have hF6 := k6 Fp _ Fu (k5 Fp _ Fu hF4)
        have lp := Paired.length pr
        have lz := Paired.length pz
        refine ⟨Fp, D, ps, zs, rfl, rfl, hF6, hD, by rw [sizeLine_eq]; omega, fun F2 nF2 => ?_⟩
        refine ⟨F2, _, ps ++ zs, qs ++ q2, rfl, (U6.upd (U6.ne nF2)).le (by omega), (((k4.trans k5).trans k6).trans (keep_new nF2)), (same_new nF2) _ _ (k6 L _ Lu (k5 L _ Lu hL4)), upd_same, U6.ne nF2, ?_, fun q mq => (List.mem_append.mp mq).elim (mm q) (m2 q), by rw [hm2, List.length_append]; omega⟩
        exact pair_app (Paired.mapP pr fun _ _ h => h.keep fun b xs e => (same_new nF2) _ _ (tup_keep U5 k6 b xs (tup_keep U4 k5 b xs e))) (Paired.mapP pz fun _ _ h => h.keep fun b xs e => (same_new nF2) _ _ e)
    · rintro σ H' ⟨Fp, a, ps, qs, rfl, U4, k4, hL4, hF4, Fu, pr, mm, lq⟩
      rw [List.length_map] at U4
      have t8 := tri_mono ll
      have t8' : tri 8 = 28 := by decide
      exact ⟨Fp, a, ps, qs, rfl, U4.le (by omega), k4, hL4, hF4, pr, mm, by omega⟩
  rintro σ4 H4 ⟨Fp, a, ps, qs, rfl, U4, k4, hL4, hF4, pr, mm, lq⟩
  refine ⟨_, rfl, _, rfl, .ref L, Fp, ls, ps, qs, rfl, .inl ⟨L, rfl, SqL.of hL4⟩, nd, by omega, SqL.of hF4, pr, mm, lq, fun p H' rs s5 d pm5 asc hw => ?_⟩
  have U5 := U4.same s5
  obtain ⟨a1, b1, c1, e1, _⟩ := id U5
  have lr := pm5.length_eq
  rw [List.length_map] at lr
  refine k p rs [] H' (U5.le (by omega)) (k4.trans (keep_of_same s5)) (sh_hide e1 d) ⟨by omega, Nat.zero_le _, ⟨fun r m => ?_, (by intro z m; cases m)⟩, asc, fun r m => (hw r m).1⟩
  have pl := prt_len qs r.1
  refine ⟨by rw [(hw r m).2.length_eq]; omega, lw _ (pm5.mem_iff.mp (List.mem_map.mpr ⟨r, m, rfl⟩)), fun y my => lw y (prt_in mm ((hw r m).2.mem_iff.mp my))⟩
end
end Cx

/-! suiting, called in four ways; by hand -/
namespace Cx
open PySem PySem.Spec PyProof.Rows L2
def gPos {α : Type} (us ws : List α) : List α := us ++ ws
def gTurn {α : Type} : List α → List α → List α
  | [], [a, b] => [b, a]
  | _, _ => []
def gDef {α : Type} (c : α) : List α → List α → List α
  | [], ws => ws ++ [c]
  | _ :: _, _ => []
def prsD (qs : List (Str × Str)) : PyData := .list (qs.map fun q => .tuple [.str q.1, .str q.2])
theorem dpa_prs {K : PySem.W.Frag} {H : Hp} : ∀ {zs : List V} {qs : List (Str × Str)}, Paired (PrAt H) zs qs → DpAll K H zs (qs.map fun q => .tuple [.str q.1, .str q.2])
  | _, _, .nil => .nil
  | _, _, .cons h t => by
    obtain ⟨a, rfl, h1⟩ := h
    exact .cons (.tup (.inl (.inl h1)) (.cons (.str _) (.cons (.str _) .nil))) (dpa_prs t)
theorem sv_tup {K : PySem.W.Frag} {H : Hp} {x : V} {ns : List Str} (h : Dp K H x (.tuple (ns.map PyData.str))) : SeqV K H x (ns.map V.str) := by
  obtain ⟨a, vs, rfl, hs, ha⟩ := dp_tup h
  rw [dp_strs (es := ns) ha (by rw [List.map_map]; rfl)] at hs
  exact ⟨a, rfl, .inr hs⟩
theorem sv_lst {K : PySem.W.Frag} {H : Hp} {x : V} {ns : List Str} (h : Dp K H x (.list (ns.map PyData.str))) : SeqV K H x (ns.map V.str) := by
  cases h with
  | lst hs ha =>
    rw [dp_strs (es := ns) ha (by rw [List.map_map]; rfl)] at hs
    exact ⟨_, rfl, .inl hs⟩
section
variable {P : Program} {w : World} {K : PySem.W.Frag} {mg : Str → Option Value} {base : Heap}
structure Sgs (K : PySem.W.Frag) (fd : FuncData) (T0 : Addr) (ds : List Value) : Prop where
  dv : Vals [V.ref T0] ds
  bd : Binds K fd ["sheet", "without"] ds
  t0 : ∀ H, SqT K H T0 []
  kn : KBn K fd ["sheet", "without"] 1 ["without"] gPos gPos
  k1 : KBinds K fd ["sheet", "without"] ["sheet"] (gDef (Value.ref T0)) (gDef (V.ref T0))
  k2 : KBinds K fd ["sheet", "without"] ["without", "sheet"] gTurn gTurn
def CalS (P : Program) (w : World) (K : PySem.W.Frag) (mg : Str → Option Value) (base : Heap) : Prop := ∃ f fd T0 ds, FnOk P w K mg base CX0 4 f fd ["sheet", "without"] (spSuiting K) ∧ PySem.W.keepIn K (.ref f) = true ∧ mg "suiting" = some (.ref f) ∧ Sgs K fd T0 ds
theorem sui_dp {rs : List (Str × List Str)} {gone : List Str} {H' : Hp} {p : Addr} {ps : List V} {qs : List (Str × Str)} (e : suitN rs (without rs gone) = qs) (hp : H' p = some (.lst ps)) (pr : Paired (PrAt H') ps (suitN rs (without rs gone))) : Dp K H' (.ref p) (prsD qs) :=
  .lst (SqL.of hp) (dpa_prs (by rw [← e]; exact pr))
abbrev rsL : List (Str × List Str) := [("a", ["b", "n", "zz"]), ("b", ["c", "zz"]), ("c", ["a"])]
abbrev rsM : List (Str × List Str) := [("a", ["ann"]), ("ann", ["a", "b"]), ("b", ["ann"])]
abbrev q1 : List (Str × Str) := [("ann", "bob"), ("bob", "cat"), ("cat", "dan"), ("cat", "eve"), ("dan", "eve")]
abbrev q2 : List (Str × Str) := [("cat", "dan"), ("cat", "eve"), ("dan", "eve")]
abbrev q6 : List (Str × Str) := [("a", "ann"), ("ann", "b")]
abbrev q7 : List (Str × Str) := [("b", "c"), ("c", "d")]
theorem e1 : suitN rs6 (without rs6 []) = q1 := by decide +kernel
theorem e2 : suitN rs6 (without rs6 ["bob"]) = q2 := by decide +kernel
theorem e3 : suitN kiteRs (without kiteRs ["a", "c"]) = [] := by decide +kernel
theorem e4 : suitN [] (without [] []) = [] := by decide +kernel
theorem e5 : suitN rsL (without rsL []) = [] := by decide +kernel
theorem e6 : suitN rsM (without rsM []) = q6 := by decide +kernel
theorem e7 : suitN kiteRs (without kiteRs ["a"]) = q7 := by decide +kernel
theorem o6 : Ok rs6 := ⟨by decide, by decide +kernel, by decide +kernel⟩
theorem oK : Ok kiteRs := ⟨by decide, by decide +kernel, by decide +kernel⟩
theorem o0 : Ok [] := ⟨by decide, .nil, by intro r m; cases m⟩
theorem oL : Ok rsL := ⟨by decide, by decide +kernel, by decide +kernel⟩
theorem oM : Ok rsM := ⟨by decide, by decide +kernel, by decide +kernel⟩
def spHand : Sp := fun vs H Q _ => vs = [] ∧ ∀ H', Same H H' → Q (.bl true) H'
abbrev nHd : List Str := ["_law_six_here", "_law_kite_here", "_law_got", "_law_goal", "_law_lone"]
theorem scHd : FnScope nHd [] (defScope sByHand) := ⟨rfl, rfl, rfl, by decide +kernel, rfl, by decide +kernel, by decide +kernel⟩
theorem ok_hand {f : Addr} {fd : FuncData} (F : Fun K "_law_by_hand_right" "_law_by_hand_right" sByHand f fd) (CG : CalS P w K mg base) (CS : Cal P w K mg base "_law_same" 4 ["_law_got", "_law_goal"] (spSame K 4)) (C6 : Cal P w K mg base "_law_six" 1 [] (spSix K)) (CK : Cal P w K mg base "_law_kite" 2 [] (spKite K)) :
    FnOk P w K mg base CX0 5 f fd [] spHand := by
  obtain ⟨fg, dg, T0, ds, GG, kG, mG, SG⟩ := CG
  obtain ⟨fs, dse, GS, bS, kS, mS⟩ := CS
  obtain ⟨f6, d6, G6, b6, k6, m6⟩ := C6
  obtain ⟨fk, dk, GK, bK, kK, mK⟩ := CK
  refine F.ok scHd (fun vs H Q E h => ?_) (fun cdv A outer s H vs Q E hr h => ?_)
  · obtain ⟨rfl, _⟩ := h
    rfl
  obtain ⟨rfl, k⟩ := h
  have hr1 := hr.mono (show 1 ≤ 4 by decide)
  have hr2 := hr.mono (show 2 ≤ 4 by decide)
  have t0 := SG.t0
  refine ⟨_, Evl.pss_cut (ps_par (i := 0) (j := 1) (by rfl) scHd.nd rfl rfl (by decide) rfl rfl (pa_cons (pe_call0 G6 hr1 (by rfl) m6 k6 b6 .nil pass0) (pa_cons (pe_call0 GK hr2 (by rfl) mK kK bK .nil pass0) pa_nil)) (by rfl))
    (Evl.pss_cut (ps_set (i := 2) scHd.nd rfl (.inl rfl) (pe_lst (pa_cons (pe_call GG hr (by rfl) mG kG SG.bd SG.dv pass0 (pa_cons (pv 0) pa_nil)) (pa_cons (pe_callN GG hr (by rfl) mG kG SG.kn pass0 (pa_cons (pv 0) pa_nil) (pk_cons (pl_tup (pls_cons pl_str pls_nil)) pk_nil))
      (pa_cons (pe_callN GG hr (by rfl) mG kG SG.kn pass0 (pa_cons (pv 1) pa_nil) (pk_cons (pl_lst (pls_cons pl_str (pls_cons pl_str pls_nil))) pk_nil)) (pa_cons (pe_call GG hr (by rfl) mG kG SG.bd SG.dv pass0 (pa_cons (pl_tup (pls_cons (pl_tup pls_nil) (pls_cons (pl_tup pls_nil) pls_nil))) pa_nil)) pa_nil))))))
    (pss_cons (ps_set (i := 3) scHd.nd rfl (.inl rfl) (pe_lst (pls_cons (pl_lst (pls_cons (pl_tup (pls_cons pl_str (pls_cons pl_str pls_nil))) (pls_cons (pl_tup (pls_cons pl_str (pls_cons pl_str pls_nil))) (pls_cons (pl_tup (pls_cons pl_str (pls_cons pl_str pls_nil))) (pls_cons (pl_tup (pls_cons pl_str (pls_cons pl_str pls_nil))) (pls_cons (pl_tup (pls_cons pl_str (pls_cons pl_str pls_nil))) pls_nil)))))) pls_nil)))
    (Evl.pss_cut (ps_set (i := 3) scHd.nd rfl (.inl rfl) (pe_op op_cat (pv 3) (pe_lst (pls_cons (pl_lst (pls_cons (pl_tup (pls_cons pl_str (pls_cons pl_str pls_nil))) (pls_cons (pl_tup (pls_cons pl_str (pls_cons pl_str pls_nil))) (pls_cons (pl_tup (pls_cons pl_str (pls_cons pl_str pls_nil))) pls_nil)))) (pls_cons (pl_lst pls_nil) (pls_cons (pl_lst pls_nil) pls_nil))))))
    (Evl.pss_cut (ps_set (i := 4) scHd.nd rfl (.inl rfl) (pl_tup (pls_cons (pl_tup (pls_cons (pl_tup (pls_cons pl_str (pls_cons (pl_tup (pls_cons pl_str (pls_cons pl_str (pls_cons pl_str pls_nil)))) pls_nil))) (pls_cons (pl_tup (pls_cons pl_str (pls_cons (pl_tup (pls_cons pl_str (pls_cons pl_str pls_nil))) pls_nil))) (pls_cons (pl_tup (pls_cons pl_str (pls_cons (pl_tup (pls_cons pl_str pls_nil)) pls_nil))) pls_nil)))) (pls_cons (pl_tup (pls_cons pl_str pls_nil)) pls_nil))))
    (Evl.pss_cut (ps_set (i := 2) scHd.nd rfl (.inl rfl) (pe_op op_cat (pv 2) (pe_lst (pa_cons (pe_call GG hr (by rfl) mG kG SG.bd SG.dv pass0 (pa_cons (pv 4) pa_nil)) (pa_cons (pe_call GG hr (by rfl) mG kG SG.bd SG.dv pass0 (pa_cons (pl_tup (pls_cons (pl_tup (pls_cons (pl_tup (pls_cons pl_str (pls_cons (pl_tup (pls_cons pl_str pls_nil)) pls_nil))) (pls_cons (pl_tup (pls_cons pl_str (pls_cons (pl_tup (pls_cons pl_str (pls_cons pl_str pls_nil))) pls_nil))) (pls_cons (pl_tup (pls_cons pl_str (pls_cons (pl_tup (pls_cons pl_str pls_nil)) pls_nil))) pls_nil)))) (pls_cons (pl_tup pls_nil) pls_nil))) pa_nil)) pa_nil)))))
    (Evl.pss_cut (ps_set (i := 3) scHd.nd rfl (.inl rfl) (pe_op op_cat (pv 3) (pe_lst (pls_cons (pl_lst pls_nil) (pls_cons (pl_lst (pls_cons (pl_tup (pls_cons pl_str (pls_cons pl_str pls_nil))) (pls_cons (pl_tup (pls_cons pl_str (pls_cons pl_str pls_nil))) pls_nil))) pls_nil)))))
    (pss_one (ps_ret (pe_call GS hr (by rfl) mS kS bS .nil pass0 (pa_cons (pe_op op_cat (pv 2) (pe_lst (pa_cons (pe_callN GG hr (by rfl) mG kG SG.kn pass0 (pa_cons (pv 1) pa_nil) (pk_cons (pl_tup (pls_cons pl_str pls_nil)) pk_nil)) pa_nil))) (pa_cons (pe_op op_cat (pv 3) (pe_lst (pls_cons (pl_lst (pls_cons (pl_tup (pls_cons pl_str (pls_cons pl_str pls_nil))) (pls_cons (pl_tup (pls_cons pl_str (pls_cons pl_str pls_nil))) pls_nil))) pls_nil))) pa_nil))))))))))), ?_⟩
  have no : ∀ {rs : List (Str × List Str)}, ∀ z ∈ ([] : List Str), z ∈ rs.map (·.1) := by
    intro rs z m
    cases m
  have tv : ∀ Ha : Hp, SeqV K Ha (.ref T0) (([] : List Str).map V.str) := fun Ha => ⟨T0, rfl, .inr (t0 Ha)⟩
  refine ⟨fun σ' H' => ∃ x1 x2 : V, σ' = [some x1, some x2, none, none, none] ∧ Same H H' ∧ Dp K H' x1 (shT rs6 ["new"]) ∧ Dp K H' x2 (shT kiteRs []), ?_, ?_⟩
  · exact ⟨rfl, fun x1 H1 s1 d1 => ⟨rfl, fun p H2 s2 d2 => ⟨_, _, rfl, x1, .ref p, rfl, s1.trans s2, dp_same s2 d1, d2⟩⟩⟩
  rintro σ1 H1 ⟨x1, x2, rfl, s1, d1, d2⟩
  refine ⟨fun σ' H' => ∃ (G : Addr) (gs : List V), σ' = [some x1, some x2, some (.ref G), none, none] ∧ Same H1 H' ∧ H' G = some (.lst gs) ∧ DpAll K H' gs [prsD q1, prsD q2, prsD [], prsD []], ?_, ?_⟩
  · refine ⟨_, rfl, x1, .ref T0, rs6, ["new"], [], rfl, sh_of d1 rfl, o6, tv _, no, fun p1 Ha l1 sa _ hp1 pr1 => ?_⟩
    have da : Dp K Ha (.ref p1) (prsD q1) := sui_dp e1 hp1 pr1
    refine ⟨_, rfl, fun y2 Hy sy dy => ⟨rfl, rfl, x1, y2, rs6, ["new"], ["bob"], rfl, sh_of (dp_same (sa.trans sy) d1) rfl, o6, sv_tup (dp_same nw_le dy), (by decide +kernel), fun p2 Hb l2 sb _ hp2 pr2 => ?_⟩⟩
    have db : Dp K Hb (.ref p2) (prsD q2) := sui_dp e2 hp2 pr2
    refine ⟨_, rfl, fun y3 Hz sz dz => ⟨rfl, rfl, x2, y3, kiteRs, [], ["a", "c"], rfl, sh_of (dp_same ((sa.trans sy).trans (sb.trans sz)) d2) rfl, oK, sv_lst (dp_same nw_le dz), (by decide +kernel), fun p3 Hc l3 sc _ hp3 pr3 => ?_⟩⟩
    have dc : Dp K Hc (.ref p3) (prsD []) := sui_dp e3 hp3 pr3
    refine fun x4 Hx sx dx => ⟨x4, .ref T0, [], [], [], rfl, sh_of (d := shT [] []) (dp_same nw_le dx) rfl, o0, tv _, no, fun p4 Hd l4 sd _ hp4 pr4 => ?_⟩
    have dd : Dp K Hd (.ref p4) (prsD []) := sui_dp e4 hp4 pr4
    refine ⟨by show 4 ≤ sizeLine; decide, fun G nG => ?_⟩
    have sn := same_new (o := .lst [.ref p1, .ref p2, .ref p3, .ref p4]) nG
    have s4 := sd.trans sn
    have s3 := (sx.trans s4)
    have s2 := (sz.trans sc).trans s3
    have s0 := ((sa.trans sy).trans sb).trans s2
    exact ⟨G, _, rfl, s0, upd_same, .cons (dp_same ((sy.trans sb).trans s2) da) (.cons (dp_same s2 db) (.cons (dp_same s3 dc) (.cons (dp_same sn dd) .nil)))⟩
  rintro σ2 H2 ⟨G, gs, rfl, s2, hG, ag⟩
  intro g1 H3 s3 a3
  have l3 := dpa_len a3
  refine ⟨by rw [l3]; exact Nat.le_of_lt (small1000 (by decide)), fun G1 n1 => ?_⟩
  refine ⟨fun σ' H' => ∃ (Z : Addr) (hs : List V), σ' = [some x1, some x2, some (.ref G), some (.ref Z), none] ∧ Same H2 H' ∧ H' Z = some (.lst hs) ∧ DpAll K H' hs [prsD q1, prsD q2, prsD [], prsD []], ?_, ?_⟩
  · refine ⟨_, rfl, fun g2 H4 s4 a4 => ?_⟩
    have l4 := dpa_len a4
    refine ⟨by rw [l4]; exact Nat.le_of_lt (small1000 (by decide)), fun G2 n2 => ?_⟩
    have h1 := (same_new (o := .lst g2) n2) _ _ (s4 _ _ (upd_same (H := H3) (a := G1) (o := .lst g1)))
    refine ⟨G1, G2, g1, g2, rfl, rfl, h1, upd_same, by rw [l3, l4]; exact Nat.le_of_lt (small1000 (by decide)), fun G3 n3 => ?_⟩
    have sA := (same_new (o := .lst g2) n2).trans (same_new (o := .lst (g1 ++ g2)) n3)
    have sB := ((same_new (o := .lst g1) n1).trans s4).trans sA
    exact ⟨G3, _, rfl, s3.trans sB, upd_same, dpa_app (dpa_same (Same.trans nw_le sB) a3) (dpa_same (Same.trans nw_le sA) a4)⟩
  clear n1
  rintro σ3 H5 ⟨Z, hs, rfl, s5, hZ, ah⟩
  refine ⟨fun σ' H' => ∃ x5 : V, σ' = [some x1, some x2, some (.ref G), some (.ref Z), some x5] ∧ Same H5 H' ∧ Dp K H' x5 (shT rsL ["n"]), ?_, ?_⟩
  · exact fun x5 H6 s6 d6 => ⟨x5, rfl, s6, dp_same nw_le d6⟩
  rintro σ4 H6 ⟨x5, rfl, s6, d5⟩
  have s26 := s5.trans s6
  refine ⟨fun σ' H' => ∃ (G : Addr) (gs : List V), σ' = [some x1, some x2, some (.ref G), some (.ref Z), some x5] ∧ Same H6 H' ∧ H' G = some (.lst gs) ∧ DpAll K H' gs [prsD q1, prsD q2, prsD [], prsD [], prsD [], prsD q6], ?_, ?_⟩
  · refine ⟨_, rfl, _, rfl, x5, .ref T0, rsL, ["n"], [], rfl, sh_of d5 rfl, oL, tv _, no, fun p1 Ha l1 sa _ hp1 pr1 => ?_⟩
    have da : Dp K Ha (.ref p1) (prsD []) := sui_dp e5 hp1 pr1
    refine fun x6 Hx sx dx => ⟨x6, .ref T0, rsM, [], [], rfl, sh_of (d := shT rsM []) (dp_same nw_le dx) rfl, oM, tv _, no, fun p2 Hb l2 sb _ hp2 pr2 => ?_⟩
    have db : Dp K Hb (.ref p2) (prsD q6) := sui_dp e6 hp2 pr2
    refine ⟨by show 2 ≤ sizeLine; decide, fun G2 nG => ?_⟩
    have sn := same_new (o := .lst [.ref p1, .ref p2]) nG
    have sA := (sa.trans sx).trans sb
    refine ⟨G, G2, gs, _, rfl, rfl, sn _ _ (sA _ _ (s26 _ _ hG)), upd_same, by rw [dpa_len ag]; exact Nat.le_of_lt (small1000 (by show 6 ≤ 1000; decide)), fun G3 n3 => ?_⟩
    have sm := same_new (o := .lst (gs ++ [.ref p1, .ref p2])) n3
    have sC := sA.trans (sn.trans sm)
    exact ⟨G3, _, rfl, sC, upd_same, dpa_app (dpa_same (s26.trans sC) ag) (.cons (dp_same ((sx.trans sb).trans (sn.trans sm)) da) (.cons (dp_same (sn.trans sm) db) .nil))⟩
  rintro σ5 H7 ⟨G, gs, rfl, s7, hG7, ag7⟩
  have s57 := s6.trans s7
  refine ⟨fun σ' H' => ∃ (Z : Addr) (hs : List V), σ' = [some x1, some x2, some (.ref G), some (.ref Z), some x5] ∧ Same H7 H' ∧ H' Z = some (.lst hs) ∧ DpAll K H' hs [prsD q1, prsD q2, prsD [], prsD [], prsD [], prsD q6], ?_, ?_⟩
  · refine ⟨_, rfl, fun g2 H8 s8 a8 => ?_⟩
    have l8 := dpa_len a8
    refine ⟨by rw [l8]; exact Nat.le_of_lt (small1000 (by decide)), fun G2 n2 => ?_⟩
    have sn := same_new (o := .lst g2) n2
    refine ⟨Z, G2, hs, g2, rfl, rfl, sn _ _ (s8 _ _ (s57 _ _ hZ)), upd_same, by rw [dpa_len ah, l8]; exact Nat.le_of_lt (small1000 (by decide)), fun G3 n3 => ?_⟩
    have sm := same_new (o := .lst (hs ++ g2)) n3
    exact ⟨G3, _, rfl, s8.trans (sn.trans sm), upd_same, dpa_app (dpa_same (s57.trans (s8.trans (sn.trans sm))) ah) (dpa_same (Same.trans nw_le (sn.trans sm)) a8)⟩
  rintro σ6 H8 ⟨Z, hs, rfl, s8, hZ8, ah8⟩
  have d28 := dp_same ((s2.trans s26).trans (s7.trans s8)) d2
  refine ⟨_, rfl, _, rfl, fun y Hy sy dy => ⟨rfl, rfl, x2, y, kiteRs, [], ["a"], rfl, sh_of (dp_same sy d28) rfl, oK, sv_tup (dp_same nw_le dy), (by decide +kernel), fun p1 Ha l1 sa _ hp1 pr1 => ?_⟩⟩
  have da : Dp K Ha (.ref p1) (prsD q7) := sui_dp e7 hp1 pr1
  refine ⟨by show 1 ≤ sizeLine; decide, fun A1 nA => ?_⟩
  have sn := same_new (o := .lst [.ref p1]) nA
  have sAll := (sy.trans sa).trans sn
  refine ⟨G, A1, gs, _, rfl, rfl, sAll _ _ (s8 _ _ hG7), upd_same, by rw [dpa_len ag7]; exact Nat.le_of_lt (small1000 (by show 7 ≤ 1000; decide)), fun A2 nA2 => ?_⟩
  have sm := same_new (o := .lst (gs ++ [.ref p1])) nA2
  refine ⟨_, rfl, fun g2 H9 s9 a9 => ?_⟩
  have l9 := dpa_len a9
  refine ⟨by rw [l9]; exact Nat.le_of_lt (small1000 (by decide)), fun B1 nB => ?_⟩
  have sb := same_new (o := .lst g2) nB
  have s89 := (sAll.trans sm).trans (s9.trans sb)
  refine ⟨Z, B1, hs, g2, rfl, rfl, s89 _ _ hZ8, upd_same, by rw [dpa_len ah8, l9]; exact Nat.le_of_lt (small1000 (by decide)), fun B2 nB2 => ?_⟩
  have sc := same_new (o := .lst (hs ++ g2)) nB2
  have sE := (s9.trans sb).trans sc
  refine ⟨.ref A2, .ref B2, .list ([prsD q1, prsD q2, prsD [], prsD [], prsD [], prsD q6] ++ [prsD q7]), rfl, .lst (SqL.of (sE _ _ upd_same)) (dpa_app (dpa_same ((s8.trans (sAll.trans sm)).trans sE) ag7) (.cons (dp_same ((sn.trans sm).trans sE) da) .nil)), .lst (SqL.of upd_same) (dpa_app (dpa_same (s89.trans sc) ah8) (dpa_same (Same.trans nw_le (sb.trans sc)) a9)), ?_, fun H' s' => k H' ((((s1.trans s2).trans s26).trans (s7.trans s8)).trans ((s89.trans sc).trans s'))⟩
  refine ⟨by decide, fun d m => ?_⟩
  have ok : ∀ qs : List (Str × Str), qs.length ≤ 900 → SmD 3 (prsD qs) := fun qs hq => ⟨by rw [List.length_map]; exact hq, fun d m => by
    obtain ⟨q, _, rfl⟩ := List.mem_map.mp m
    refine ⟨by show 2 ≤ 900; decide, fun d m => ?_⟩
    rcases List.mem_cons.mp m with e | m
    · rw [e]
      trivial
    · rw [List.mem_singleton.mp m]
      trivial⟩
  have m2 : d ∈ ([q1, q2, [], [], [], q6, q7] : List (List (Str × Str))).map prsD := m
  obtain ⟨qs, mq, rfl⟩ := List.mem_map.mp m2
  refine ok qs ?_
  have all : ∀ qs ∈ ([q1, q2, [], [], [], q6, q7] : List (List (Str × Str))), qs.length ≤ 900 := by decide
  exact all qs mq
end
end Cx

/-! one urn -/
namespace Cx
open PySem PySem.Spec PyProof.Rows L2
theorem hid_nil {H : Hp} : hid [] H = H := funext fun _ => if_neg (List.not_mem_nil)
theorem without_nil (rs : List (Str × List Str)) : without rs [] = rs.map (·.1) := List.filter_eq_self.mpr fun z _ => by simp
theorem apart_go {rs : List (Str × List Str)} {nm gone : List Str} : ∀ l : List Str, (l.flatMap fun n => ((suiN rs n).filter fun o => sLt n o && decide (o ∈ nm)).map fun o => (n, o)).filter (fun q => !decide (q.1 ∈ gone) && !decide (q.2 ∈ gone)) =
    (l.filter fun z => !decide (z ∈ gone)).flatMap fun n => ((suiN rs n).filter fun o => sLt n o && decide (o ∈ nm.filter fun z => !decide (z ∈ gone))).map fun o => (n, o)
  | [] => rfl
  | n :: l => by
    rw [List.flatMap_cons, List.filter_append, apart_go l]
    by_cases c : n ∈ gone
    · rw [List.filter_cons_of_neg (by simpa using c), List.filter_eq_nil_iff.mpr fun q m => ?_, List.nil_append]
      obtain ⟨o, _, rfl⟩ := List.mem_map.mp m
      simp [c]
    · rw [List.filter_cons_of_pos (by simpa using c), List.flatMap_cons]
      congr 1
      rw [List.filter_map, List.filter_filter]
      congr 1
      refine List.filter_congr fun o _ => ?_
      rw [Bool.eq_iff_iff]
      simp only [Function.comp, Bool.and_eq_true, Bool.not_eq_true', decide_eq_true_eq, decide_eq_false_iff_not, List.mem_filter]
      constructor
      · rintro ⟨⟨_, a⟩, b, d⟩
        exact ⟨b, d, a⟩
      · rintro ⟨b, d, a⟩
        exact ⟨⟨c, a⟩, b, d⟩
theorem apart_eq (rs : List (Str × List Str)) (gone : List Str) : (suitN rs (rs.map (·.1))).filter (fun q => !decide (q.1 ∈ gone) && !decide (q.2 ∈ gone)) = suitN rs (without rs gone) := apart_go (rs.map (·.1))
theorem prs_sm {qs : List (Str × Str)} (h : qs.length ≤ 900) : SmD 3 (prsD qs) := ⟨by rw [List.length_map]; exact h, fun d m => by
  obtain ⟨q, _, rfl⟩ := List.mem_map.mp m
  refine ⟨by show 2 ≤ 900; decide, fun d m => ?_⟩
  rcases List.mem_cons.mp m with e | m
  · rw [e]
    trivial
  · rw [List.mem_singleton.mp m]
    trivial⟩
def twoD (a b : List (Str × Str)) : PyData := .list [prsD a, prsD b]
theorem two_sm {a b : List (Str × Str)} (h1 : a.length ≤ 900) (h2 : b.length ≤ 900) : SmD 4 (twoD a b) := ⟨by show 2 ≤ 900; decide, fun d m => by
  rcases List.mem_cons.mp m with e | m
  · rw [e]
    exact prs_sm h1
  · rw [List.mem_singleton.mp m]
    exact prs_sm h2⟩
theorem two_dp {K : PySem.W.Frag} {H : Hp} {l : Addr} {x y : V} {a b : List (Str × Str)} (nl : H l = none) (hx : Dp K H x (prsD a)) (hy : Dp K H y (prsD b)) : Dp K (upd H l (.lst [x, y])) (.ref l) (twoD a b) := .lst (SqL.of upd_same) (.cons (dp_same (same_new nl) hx) (.cons (dp_same (same_new nl) hy) .nil))
section
variable {P : Program} {w : World} {K : PySem.W.Frag} {mg : Str → Option Value} {base : Heap}
def spRight : Sp := fun vs H Q _ => ∃ (u : Addr) (n : Nat), vs = [.ref u] ∧ UrnAt u H n ∧ n + 20000 ≤ 1000000 ∧ ∀ H', Keep u H H' → Q (.bl true) H'
abbrev nRt : List Str := ["_law_urn", "_law_turn", "_law_tale", "_law_gone", "_law_soft", "_law_pairs", "_law_goal", "_law_got"]
theorem scRt : FnScope nRt ["_law_urn"] (defScope sRight) := ⟨rfl, rfl, rfl, by decide +kernel, rfl, by decide +kernel, by decide +kernel⟩
theorem ok_right {f : Addr} {fd : FuncData} (F : Fun K "_law_right" "_law_right" sRight f fd) (CG : CalS P w K mg base) (CS : Cal P w K mg base "_law_same" 4 ["_law_got", "_law_goal"] (spSame K 4)) (CY : Cal P w K mg base "_law_by_hand_right" 5 [] spHand) (CW : Cal P w K mg base "_law_woven" 4 ["_law_urn"] (spWoven K))
    (CF : Cal P w K mg base "_law_few" 2 ["_law_urn", "_law_pool", "_law_one_of"] (spFew K)) (CO : Cal P w K mg base "_law_folk" 1 ["_law_tome_here"] (spFolk K)) (CL : Cal P w K mg base "_law_lists" 5 ["_law_matter"] (spLists K 5)) (CU : Cal P w K mg base "_law_suits" 3 ["_law_tome_here"] (spSuits K))
    (CA : Cal P w K mg base "_law_apart" 1 ["_law_pairs", "_law_gone"] (spApart K)) (mr : mg "range" = none) (ml : mg "list" = none) : FnOk P w K mg base CX0 6 f fd ["_law_urn"] spRight := by
  obtain ⟨fg, dg, T0, ds, GG, kG, mG, SG⟩ := CG
  obtain ⟨fs, dse, GS, bS, kS, mS⟩ := CS
  obtain ⟨fy, dy, GY, bY, kY, mY⟩ := CY
  obtain ⟨fw, dw, GW, bW, kW, mW⟩ := CW
  obtain ⟨ff, df, GF, bF, kF, mF⟩ := CF
  obtain ⟨fo, do', GO, bO, kO, mO⟩ := CO
  obtain ⟨fl, dl, GL, bL, kL, mL⟩ := CL
  obtain ⟨fu, du, GU, bU, kU, mU⟩ := CU
  obtain ⟨fa, da, GA, bA, kA, mA⟩ := CA
  refine F.ok scRt (fun vs H Q E h => ?_) (fun cdv A outer s H vs Q E hr h => ?_)
  · obtain ⟨u, n, rfl, _⟩ := h
    rfl
  have hr1 := hr.mono (show 1 ≤ 5 by decide)
  have hr2 := hr.mono (show 2 ≤ 5 by decide)
  have hr3 := hr.mono (show 3 ≤ 5 by decide)
  have hr4 := hr.mono (show 4 ≤ 5 by decide)
  have hu := hr.units
  have t0 := SG.t0
  obtain ⟨u, n, rfl, U, hn, k⟩ := h
  refine ⟨_, pss_cons (ps_if (pt_not (pt_val (pe_call0 GY hr (by rfl) mY kY bY .nil pass0))) (pss_one (ps_ret pe_bl)) pss_nil)
    (pss_cons (ps_for PassesOwn.never rfl (pi_range1 (by rfl) mr (pa_cons pe_int pa_nil)) (pg_name (i := 1) scRt.nd rfl (.inl rfl))
      (pss_cons (ps_set (i := 2) scRt.nd rfl (.inl rfl) (pe_call GW hr4 (by rfl) mW kW bW .nil pass0 (pa_cons (pv 0) pa_nil)))
      (Evl.pss_cut (ps_par (i := 3) (j := 4) (by rfl) scRt.nd rfl rfl (by decide) rfl rfl (pa_cons (pe_call GF hr2 (by rfl) mF kF bF .nil pass0 (pa_cons (pv 0) (pa_cons (pe_call GO hr1 (by rfl) mO kO bO .nil pass0 (pa_cons (pv 2) pa_nil)) (pa_cons pe_int pa_nil)))) (pa_cons (pe_call GL hr (by rfl) mL kL bL .nil pass0 (pa_cons (pv 2) pa_nil)) pa_nil)) (by rfl))
      (Evl.pss_cut (ps_set (i := 5) scRt.nd rfl (.inl rfl) (pe_call GU hr3 (by rfl) mU kU bU .nil pass0 (pa_cons (pv 2) pa_nil)))
      (Evl.pss_cut (ps_set (i := 6) scRt.nd rfl (.inl rfl) (pe_lst (pa_cons (pv 5) (pa_cons (pe_call GA hr1 (by rfl) mA kA bA .nil pass0 (pa_cons (pv 5) (pa_cons (pv 3) pa_nil))) pa_nil))))
      (Evl.pss_cut (ps_set (i := 7) scRt.nd rfl (.inl rfl) (pe_lst (pa_cons (pe_call GG hr4 (by rfl) mG kG SG.bd SG.dv pass0 (pa_cons (pv 2) pa_nil)) (pa_cons (pe_callN GG hr4 (by rfl) mG kG SG.kn pass0 (pa_cons (pv 2) pa_nil) (pk_cons (pv 3) pk_nil)) pa_nil))))
      (Evl.pss_cut (ps_if (pt_not (pt_val (pe_call GS hr4 (by rfl) mS kS bS .nil pass0 (pa_cons (pv 7) (pa_cons (pv 6) pa_nil))))) (pss_one (ps_ret pe_bl)) pss_nil)
      (Evl.pss_cut (ps_expr (pe_bm PySem.F.plainAttrs_list PySem.F.slot_list_append PySem.F.type_list_append mt_append (pe_ix ix_list (pv 7) pe_int (fun _ _ => rfl)) (pa_cons pe_str pa_nil)))
      (Evl.pss_cut (ps_if (pt_not (pt_val (pe_call GS hr4 (by rfl) mS kS bS .nil pass0 (pa_cons (pe_lst (pa_cons (pe_callK0 GG hr4 (by rfl) mG kG SG.k1 pass0 (pk_cons (pv 4) pk_nil)) (pa_cons (pe_callK0 GG hr4 (by rfl) mG kG SG.k2 pass0 (pk_cons (pe_callTy call_list_of (by rfl) ml (by decide +kernel) (pa_cons (pv 3) pa_nil)) (pk_cons (pv 4) pk_nil))) pa_nil))) (pa_cons (pv 6) pa_nil))))) (pss_one (ps_ret pe_bl)) pss_nil)
      (pss_one (ps_if (pt_cmpR (op_neD hu) (pv 4) (pe_call GL hr (by rfl) mL kL bL .nil pass0 (pa_cons (pv 2) pa_nil)) (nomark _)) (pss_one (ps_ret pe_bl)) pss_nil)))))))))))
    (pss_one (ps_ret pe_bl))), ?_⟩
  have no : ∀ {rs : List (Str × List Str)}, ∀ z ∈ ([] : List Str), z ∈ rs.map (·.1) := by
    intro rs z m
    cases m
  have tv : ∀ Ha : Hp, SeqV K Ha (.ref T0) (([] : List Str).map V.str) := fun Ha => ⟨T0, rfl, .inr (t0 Ha)⟩
  have nin : ∀ Ha : Hp, AllIn [] Ha := by
    intro Ha v m
    cases m
  refine ⟨rfl, fun H0 s0 => ⟨_, rfl, iteF ?_⟩⟩
  refine ⟨_, rfl, by omega, by omega, ?_⟩
  refine for_range (lo := 0) (n := 6) (fun i σ H' => ∃ a b c d e g r : Option V, σ = [some (.ref u), a, b, c, d, e, g, r] ∧ UrnAt u H' (n + 2100 * i) ∧ Keep u H H') ⟨_, _, _, _, _, _, _, rfl, U.same s0, keep_of_same s0⟩ ?_ ?_
  · rintro i σ H1 hi ⟨a0, b0, c0, d0, e0, g0, r0, rfl, U1, k1⟩
    refine ⟨_, rfl, u, _, rfl, U1, by omega, fun q rs es H2 U2 k2 hd gd => ?_⟩
    have O := gd.ok
    have rl := gd.rl
    have el := gd.el
    have sm := smd_sh gd.sn (by omega) (by omega)
    have S2 : ShV K H2 (.ref q) rs es := sh_of (dp_same hide_le hd) rfl
    refine ⟨fun σ' H' => ∃ (g : Addr) (gone : List Str) (y : V), σ' = [some (.ref u), some (.int (0 + (i : Int))), some (.ref q), some (.ref g), some y, e0, g0, r0] ∧ UrnAt u H' (n + 2100 * i + 2010) ∧ Keep u H2 H' ∧ H' g = some (.tup (gone.map V.str)) ∧ (∀ z ∈ gone, z ∈ rs.map (·.1)) ∧ Dp K H' y (lstD (shT rs es)), ?_, ?_⟩
    · refine ⟨_, rfl, _, rfl, .ref q, rs, es, rfl, S2, by omega, fun p H3 s3 np hp => ?_⟩
      have U3 := U2.same s3
      have pu : p ≠ u := U2.ne np
      refine ⟨u, .ref p, rs.map (·.1), 3, _, rfl, U3, by rw [List.length_map]; omega, by decide, by decide, ⟨p, rfl, .inl (SqL.of (by rw [hide_ne pu]; exact hp))⟩, by rw [List.length_map]; omega, fun ys g H4 sub U4 k4 gu ng hg => ?_⟩
      rw [List.length_map] at U4
      have kk := (keep_of_same (u := u) s3).trans k4
      refine ⟨_, rfl, [], .ref q, shT rs es, rfl, nin _, by rw [hid_nil]; exact dp_same (Same.trans kk.same hide_le) hd, sm, fun y H5 s5 dy => ⟨_, _, rfl, ?_⟩⟩
      rw [hid_nil] at dy
      exact ⟨g, ys, y, rfl, (U4.same s5).le (by omega), kk.trans (keep_of_same s5), s5 _ _ hg, fun z m => sub.subset m, dy⟩
    rintro σ2 H3 ⟨g, gone, y, rfl, U3, k3, hg, hgs, dy⟩
    have hx3 : Dp K H3 (.ref q) (shT rs es) := dp_same (Same.trans k3.same hide_le) hd
    have S3 : ShV K H3 (.ref q) rs es := sh_of hx3 rfl
    have Sy : ShV K H3 y rs es := sh_of dy (lst_idem _)
    have slen : ∀ nm : List Str, nm.length ≤ 10 → (suitN rs nm).length ≤ 600 := fun nm h => by
      have := flat_len (fun n => ((suiN rs n).filter fun o => sLt n o && decide (o ∈ nm)).map fun o => (n, o)) 60 nm fun n _ => by
        rw [List.length_map]
        exact Nat.le_trans (List.length_filter_le _ _) (Nat.le_trans (List.length_filter_le _ _) (O.wants n))
      exact Nat.le_trans this (by omega)
    have l1 := slen (rs.map (·.1)) (by rw [List.length_map]; exact rl)
    have l2 := slen (without rs gone) (Nat.le_trans (List.length_filter_le _ _) (by rw [List.length_map]; exact rl))
    refine ⟨fun σ' H' => ∃ (p : Addr) (ps : List V), σ' = [some (.ref u), some (.int (0 + (i : Int))), some (.ref q), some (.ref g), some y, some (.ref p), g0, r0] ∧ Same H3 H' ∧ H' p = some (.lst ps) ∧ Paired (PrAt H') ps (suitN rs (rs.map (·.1))), ?_, ?_⟩
    · exact ⟨_, rfl, .ref q, rs, es, rfl, S3, O, by omega, gd.asc, gd.rise, fun p H' ps s _ hp pr => ⟨p, ps, rfl, s, hp, pr⟩⟩
    rintro σ3 H4 ⟨p, ps, rfl, s4, hp, pr⟩
    refine ⟨fun σ' H' => ∃ G : Addr, σ' = [some (.ref u), some (.int (0 + (i : Int))), some (.ref q), some (.ref g), some y, some (.ref p), some (.ref G), r0] ∧ Same H3 H' ∧ Dp K H' (.ref G) (twoD (suitN rs (rs.map (·.1))) (suitN rs (without rs gone))), ?_, ?_⟩
    · refine ⟨_, rfl, _, rfl, _, rfl, p, .ref g, ps, _, gone, rfl, SqL.of hp, pr, by omega, seq_tup (s4 _ _ hg), fun p2 H' zs s5 _ hp2 pz => ⟨by show 2 ≤ sizeLine; decide, fun G nG => ?_⟩⟩
      rw [apart_eq] at pz
      exact ⟨G, rfl, (s4.trans s5).trans (same_new nG), two_dp nG (.lst (SqL.of (s5 _ _ hp)) (dpa_prs (Paired.mapP pr fun _ _ h => h.keep fun b xs e => s5 b _ e))) (.lst (SqL.of hp2) (dpa_prs pz))⟩
    rintro σ4 H5 ⟨G, rfl, s5, dG⟩
    refine ⟨fun σ' H' => ∃ (R p1 p2 : Addr) (l2 : List V), σ' = [some (.ref u), some (.int (0 + (i : Int))), some (.ref q), some (.ref g), some y, some (.ref p), some (.ref G), some (.ref R)] ∧ Same H5 H' ∧ H' R = some (.lst [.ref p1, .ref p2]) ∧ Dp K H' (.ref R) (twoD (suitN rs (rs.map (·.1))) (suitN rs (without rs gone))) ∧ H' p2 = some (.lst l2) ∧ l2.length ≤ 1000 ∧ H5 p2 = none, ?_, ?_⟩
    · refine ⟨_, rfl, .ref q, .ref T0, rs, es, [], rfl, st_sh s5 S3, O, tv _, no, fun p1 Ha la sa _ hp1 pr1 => ?_⟩
      rw [without_nil] at pr1
      refine ⟨_, rfl, _, rfl, rfl, rfl, .ref q, .ref g, rs, es, gone, rfl, st_sh (s5.trans sa) S3, O, seq_tup (sa _ _ (s5 _ _ hg)), hgs, fun p2 Hb lb sb n2 hp2 pr2 => ⟨by show 2 ≤ sizeLine; decide, fun R nR => ?_⟩⟩
      refine ⟨R, p1, p2, lb, rfl, (sa.trans sb).trans (same_new nR), upd_same, two_dp nR (.lst (SqL.of (sb _ _ hp1)) (dpa_prs (Paired.mapP pr1 fun _ _ h => h.keep fun b xs e => sb b _ e))) (.lst (SqL.of hp2) (dpa_prs pr2)), (same_new nR) _ _ hp2, by rw [Paired.length pr2]; omega, sa.free n2⟩
    rintro σ5 H6 ⟨R, p1, p2, lb, rfl, s6, hR, dR, hp2, ll, n2⟩
    have sm2 := two_sm (a := suitN rs (rs.map (·.1))) (b := suitN rs (without rs gone)) (by omega) (by omega)
    refine ⟨fun σ' H' => σ' = [some (.ref u), some (.int (0 + (i : Int))), some (.ref q), some (.ref g), some y, some (.ref p), some (.ref G), some (.ref R)] ∧ Same H6 H', ?_, ?_⟩
    · exact ⟨_, rfl, _, rfl, .ref R, .ref G, _, rfl, dR, dp_same s6 dG, sm2, fun H' s' => ⟨_, rfl, iteF ⟨rfl, s'⟩⟩⟩
    rintro σ6 H7 ⟨rfl, s7⟩
    refine ⟨fun σ' H' => σ' = [some (.ref u), some (.int (0 + (i : Int))), some (.ref q), some (.ref g), some y, some (.ref p), some (.ref G), some (.ref R)] ∧ Same H5 H', ?_, ?_⟩
    · refine ⟨_, rfl, R, _, _, _, rfl, rfl, SqL.of (s7 _ _ hR), atI_nat (j := 1) rfl, .inl ⟨rfl, _, SqL.of (s7 _ _ hp2)⟩, p2, _, _, rfl, rfl, s7 _ _ hp2, small1000 ll, rfl, fun b o e => ?_⟩
      rw [upd_ne (ne_of_none e n2)]
      exact s7 _ _ (s6 _ _ e)
    rintro σ7 H8 ⟨rfl, s8⟩
    have s38 := s5.trans s8
    refine ⟨fun σ' H' => σ' = [some (.ref u), some (.int (0 + (i : Int))), some (.ref q), some (.ref g), some y, some (.ref p), some (.ref G), some (.ref R)] ∧ Same H8 H', ?_, ?_⟩
    · refine ⟨_, rfl, y, .ref T0, rs, es, [], rfl, st_sh s38 Sy, O, tv _, no, fun p3 Ha la sa _ hp3 pr3 => ?_⟩
      rw [without_nil] at pr3
      refine ⟨_, rfl, g, _, rfl, .inr (.inl (.inl (sa _ _ (s38 _ _ hg)))), fun l nl => ?_⟩
      have sl := sa.trans (same_new (o := .lst (gone.map V.str)) nl)
      refine ⟨_, rfl, y, .ref l, rs, es, gone, rfl, st_sh (s38.trans sl) Sy, O, ⟨l, rfl, .inl (SqL.of upd_same)⟩, hgs, fun p4 Hb lb2 sb _ hp4 pr4 => ⟨by show 2 ≤ sizeLine; decide, fun W nW => ?_⟩⟩
      have s3b := (same_new (o := .lst (gone.map V.str)) nl).trans sb
      have sW := (sl.trans sb).trans (same_new (o := .lst [.ref p3, .ref p4]) nW)
      exact ⟨_, rfl, .ref W, .ref G, _, rfl, two_dp nW (.lst (SqL.of (s3b _ _ hp3)) (dpa_prs (Paired.mapP pr3 fun _ _ h => h.keep fun b xs e => s3b b _ e))) (.lst (SqL.of hp4) (dpa_prs pr4)), dp_same (s8.trans sW) dG, sm2, fun H' s' => ⟨_, rfl, iteF ⟨rfl, sW.trans s'⟩⟩⟩
    rintro σ8 H9 ⟨rfl, s9⟩
    have s39 := s38.trans s9
    refine ⟨_, rfl, _, rfl, [], .ref q, shT rs es, rfl, nin _, by rw [hid_nil]; exact dp_same s39 hx3, sm, fun y2 H10 s10 dy2 => ?_⟩
    rw [hid_nil] at dy2
    refine ⟨_, _, dp_same (s39.trans s10) dy, dy2, shaped_sh gd.sn, shaped_sh gd.sn, _, rfl, ?_⟩
    rw [eqv_sh gd.sn]
    exact iteF ⟨_, _, _, _, _, _, _, rfl, (U3.same (s39.trans s10)).le (by omega), ((k1.trans k2).trans k3).trans (keep_of_same (s39.trans s10))⟩
  · rintro σ H' ⟨a0, b0, c0, d0, e0, g0, r0, rfl, U1, k1⟩
    exact k _ k1
end
end Cx

/-! the law, the head -/
namespace Cx
open PySem PySem.Spec PyProof.Rows L2
theorem no_callK {P : Program} {w : World} {K : PySem.W.Frag} {mg : Str → Option Value} {base : Heap} {k : Nat} {f : Addr} {fd : FuncData} {ps : List Str} {sp : Sp} (no : ∀ vs H Q E, ¬ sp vs H Q E) : FnOk P w K mg base CX0 k f fd ps sp :=
  ⟨fun vs H Q E h => absurd h (no vs H Q E), fun _ _ _ H _ _ vs Q E _ _ _ _ h => absurd h (no vs H Q E)⟩
structure TyLw (mg : Str → Option Value) : Prop where
  rng : mg "range" = none
  len : mg "len" = none
  all : mg "all" = none
section
variable {P : Program} {w : World} {K : PySem.W.Frag} {mg : Str → Option Value} {base : Heap}
def spLaw (K : PySem.W.Frag) : Sp := fun vs H Q _ => ∃ (a : Addr) (ns : List Int), vs = [.ref a] ∧ SqL K H a (ns.map V.int) ∧ ns.length ≤ 63 ∧ ∀ H', Q (.bl true) H'
abbrev nLw : List Str := ["_law_script", "_law_cells_here", "_law_k"]
theorem scLw : FnScope nLw ["_law_script"] (defScope sLaw) := ⟨rfl, rfl, rfl, by decide +kernel, rfl, by decide +kernel, by decide +kernel⟩
theorem ok_law {f : Addr} {fd : FuncData} (F : Fun K "law" "law" sLaw f fd) (CC : Cal P w K mg base "_law_cells" 1 ["_law_script", "_law_top"] (spCells K)) (CX : Cal P w K mg base "_law_box" 1 ["_law_script", "_law_k"] (spBox K)) (CR : Cal P w K mg base "_law_right" 6 ["_law_urn"] spRight) (T : TyLw mg) :
    FnOk P w K mg base CX0 7 f fd ["_law_script"] (spLaw K) := by
  obtain ⟨fc, dc, GC, bC, kC, mC⟩ := CC
  obtain ⟨fb, db, GB, bB, kB, mB⟩ := CX
  obtain ⟨fr, dr, GR, bR, kR, mR⟩ := CR
  refine F.ok scLw (fun vs H Q E h => ?_) (fun cdv A outer s H vs Q E hr h => ?_)
  · obtain ⟨a, ns, rfl, _⟩ := h
    rfl
  obtain ⟨a, ns, rfl, hS, hl, k⟩ := h
  have hr1 := hr.mono (show 1 ≤ 6 by decide)
  refine ⟨_, pss_cons (ps_set (i := 1) scLw.nd rfl (.inr rfl) (pe_call GC hr1 (by rfl) mC kC bC .nil pass0 (pa_cons (pv 0) (pa_cons pe_int pa_nil))))
    (pss_one (ps_ret (pe_callB (cr_all rfl) (by rfl) T.all (by decide +kernel) (pa_cons
      (pe_lc (own := [("_law_k", 2)]) (g := gName 2) (tt := tYes) (te := tCall spRight [] E0 (tCons (tCall (spBox K) [] E0 (tCons (tVar 1) (tCons (tVar 2) tNil))) tNil)) rfl scLw.nd (pi_range1 (by rfl) T.rng (pa_cons (pe_callB call_len_seq (by rfl) T.len PySem.boot_len (pa_cons (pv 1) pa_nil)) pa_nil)) (blkOk_by (N := nLw) (sc := defScope sLaw) (by decide +kernel))
        (fun _ _ _ _ _ => pg_name (i := 2) scLw.nd rfl (.inl rfl)) (fun _ _ _ _ _ => pts_nil) (fun _ _ _ _ _ => pe_call GR hr (by rfl) mR kR bR .nil pass0 (pa_cons (pe_call GB hr1 (by rfl) mB kB bB .nil pass0 (pa_cons (pv 1) (pa_cons (pv 2) pa_nil))) pa_nil))) pa_nil)))), ?_⟩
  refine ⟨_, rfl, a, ns, 3, rfl, hS, by omega, by decide, by decide, fun L ms H1 s1 nL hL l1 l3 => ?_⟩
  refine ⟨_, rfl, L, _, rfl, .inl (SqL.of hL), _, rfl, by rw [List.length_map]; omega, by rw [List.length_map]; omega, fun D nD => ?_⟩
  refine lc_range (lo := 0) (n := (ms.map V.int).length) (fun i H' => Same H1 H' ∧ H' D = some (.lst ((List.replicate i true).map V.bl))) ⟨same_new nD, upd_same⟩ (fun i H' hi ⟨s2, hD⟩ => ?_) (fun H' ⟨s2, hD⟩ => ?_)
  · rw [List.length_map] at hi
    refine ⟨rfl, _, rfl, _, rfl, L, ms, _, rfl, SqL.of (s2 _ _ hL), by omega, by omega, fun u H2 s3 nu U2 => ?_⟩
    refine ⟨u, 0, rfl, U2, by decide, fun H3 k3 => ?_⟩
    have keep : ∀ b o, H' b = some o → H3 b = some o := fun b o e => k3 b o (ne_of_none e nu) (s3 b o e)
    refine ⟨_, keep _ _ hD, ?_, fun b o e => ?_, ?_⟩
    · rw [List.length_map, List.length_replicate]
      exact small1000 (by omega)
    · rw [upd_ne (ne_of_none e nD)]
      exact keep _ _ (s2 b o e)
    · rw [upd_same, List.replicate_succ', List.map_append]
      rfl
  · refine ⟨D, _, rfl, SqL.of hD, ?_⟩
    rw [all_true]
    exact k _
end
end Cx

/-! how suiting binds -/
namespace Cx
open PySem PySem.Spec PyProof.Rows L2
abbrev fSg (D : Addr) (doc pm : Value) (an : Option Addr) (cdv ct : Value) : FuncData := PySem.W.fnOf "suiting" "suiting" (defArgs sSuiting) (defBody sSuiting) (defScope sSuiting) .none (.ref D) doc pm an cdv ct
theorem ch1 (D : Addr) (doc pm : Value) (an : Option Addr) (cdv ct u k : Value) : KwChain D [("without", k)] (bindArgs (fSg D doc pm an cdv ct) ⟨[u], []⟩) [("sheet", u), ("without", k)] := ⟨_, _, _, _, _, _, rfl, rfl, rfl⟩
theorem ch2 (D : Addr) (doc pm : Value) (an : Option Addr) (cdv ct u k : Value) : KwChain D [("without", k)] (bindArgs (fSg D doc pm an cdv ct) ⟨[], [("sheet", u)]⟩) [("sheet", u), ("without", k)] := ⟨_, _, _, _, _, _, rfl, rfl, rfl⟩
theorem ch3 (D : Addr) (doc pm : Value) (an : Option Addr) (cdv ct u k : Value) : bindArgs (fSg D doc pm an cdv ct) ⟨[u], [("without", k)]⟩ = (pure [(("sheet" : Str), u), (("without" : Str), k)] : Sem (List (Str × Value))) := rfl
theorem ch4 (D : Addr) (doc pm : Value) (an : Option Addr) (cdv ct u k : Value) : bindArgs (fSg D doc pm an cdv ct) ⟨[], [("without", k), ("sheet", u)]⟩ = (pure [(("sheet" : Str), u), (("without" : Str), k)] : Sem (List (Str × Value))) := rfl
theorem sgs_mk {K : PySem.W.Frag} {D T0 f : Addr} {doc pm cdv ct oc : Value} {an od td : Option Addr} {osl tsl : Array (Option Value)} {tn : Nat} (lk : K.lookup f = some ⟨oc, od, .func (fSg D doc pm an cdv ct), osl⟩) (hc : PySem.W.codeIn K cdv "suiting" = true) (kp : PySem.W.keepIn K (.ref f) = true)
    (hw : PySem.W.nsIn K D "without" = some (some (.ref T0))) (ht : K.lookup T0 = some ⟨.type "tuple", td, .seq #[] tn, tsl⟩) : FunD K "suiting" "suiting" (defArgs sSuiting) (defBody sSuiting) (defScope sSuiting) [] [("without", V.ref T0)] f (fSg D doc pm an cdv ct) ∧ Sgs K (fSg D doc pm an cdv ct) T0 [Value.ref T0] := by
  have look : ∀ q ∈ ([(("without" : Str), Value.ref T0)] : List (Str × Value)), PySem.W.nsIn K D q.1 = some (some q.2) := fun q m => by
    rw [List.mem_singleton.mp m]
    exact hw
  refine ⟨⟨⟨oc, od, .none, .ref D, doc, pm, an, cdv, ct, osl, rfl, lk, hc, .inl ⟨rfl, rfl⟩, .inr ⟨D, rfl, fun q m => ⟨.ref T0, ?_, ?_⟩⟩⟩, kp⟩, ?_⟩
  · rw [List.mem_singleton.mp m]
    exact hw
  · rw [List.mem_singleton.mp m]
    rfl
  refine ⟨.cons rfl .nil, fun s us X hl => ?_, fun H => .inr ⟨_, #[], tn, ht, rfl, rfl, Nat.zero_le _, .nil⟩, ⟨fun s us ws X h1 h2 => ?_, fun r1 r2 => r1.append r2⟩, ⟨fun s us ws X hl => ?_, fun r1 r2 => ?_⟩, ⟨fun s us ws X hl => ?_, fun r1 r2 => ?_⟩⟩
  · have h1 : us.length = 1 := by
      rw [List.length_append] at hl
      exact Nat.succ.inj hl
    match us, h1 with
    | [u], _ => exact BindsTo.of_looks fun M => KwChain.looks X look (ch1 D doc pm an cdv ct u (.ref T0))
  · match us, ws, h1, h2 with
    | [u], [v], _, _ => exact .of_eq (ch3 D doc pm an cdv ct u v)
  · cases us with
    | cons _ _ => exact absurd hl (by show ¬ 0 = 2; decide)
    | nil =>
      have h1 : ws.length = 1 := by
        have h2 : (ws ++ [Value.ref T0]).length = 2 := hl
        rw [List.length_append] at h2
        exact Nat.succ.inj h2
      match ws, h1 with
      | [u], _ => exact BindsTo.of_looks fun M => KwChain.looks X look (ch2 D doc pm an cdv ct u (.ref T0))
  · cases r1 with
    | nil => exact r2.append (.cons rfl .nil)
    | cons _ _ => exact .nil
  · match us, ws, hl with
    | [], [a, b], _ => exact .of_eq (ch4 D doc pm an cdv ct b a)
  · cases r1 with
    | nil =>
      cases r2 with
      | nil => exact .nil
      | cons a t =>
        cases t with
        | nil => exact .nil
        | cons b t =>
          cases t with
          | nil => exact .cons b (.cons a .nil)
          | cons _ _ => exact .nil
    | cons _ _ => exact .nil
end Cx

namespace Cx
open PySem PySem.Spec PyProof.Rows L2
theorem all_mk {l : PySem.W.OpenLaw} {w : World} {K : PySem.W.Frag} {h : Heap} {mg : Str → Option Value} {fa fS DS T0 f1 f2 f3 f4 f5 f6 f7 f8 f9 f10 f11 f12 f13 f14 f15 f16 f17 f18 f19 f20 f21 f22 f23 : Addr} (X : K.In h) (G : h.Ns mainGlobals mg) (hfa : mg "law" = some (.ref fa))
    {odS anS tdS od1 an1 od2 an2 od3 an3 od4 an4 od5 an5 od6 an6 od7 an7 od8 an8 od9 an9 od10 an10 od11 an11 od12 an12 od13 an13 od14 an14 od15 an15 od16 an16 od17 an17 od18 an18 od19 an19 od20 an20 od21 an21 od22 an22 od23 an23 : Option Addr} {slS tsS sl1 sl2 sl3 sl4 sl5 sl6 sl7 sl8 sl9 sl10 sl11 sl12 sl13 sl14 sl15 sl16 sl17 sl18 sl19 sl20 sl21 sl22 sl23 : Array (Option Value)} {tn : Nat} {ocS dcS pmS cdS ctS oc1 kV1 dc1 pm1 cd1 ct1 oc2 kV2 dc2 pm2 cd2 ct2 oc3 kV3 dc3 pm3 cd3 ct3 oc4 kV4 dc4 pm4 cd4 ct4 oc5 kV5 dc5 pm5 cd5 ct5 oc6 kV6 dc6 pm6 cd6 ct6 oc7 kV7 dc7 pm7 cd7 ct7 oc8 kV8 dc8 pm8 cd8 ct8 oc9 kV9 dc9 pm9 cd9 ct9 oc10 kV10 dc10 pm10 cd10 ct10 oc11 kV11 dc11 pm11 cd11 ct11 oc12 kV12 dc12 pm12 cd12 ct12 oc13 kV13 dc13 pm13 cd13 ct13 oc14 kV14 dc14 pm14 cd14 ct14 oc15 kV15 dc15 pm15 cd15 ct15 oc16 kV16 dc16 pm16 cd16 ct16 oc17 kV17 dc17 pm17 cd17 ct17 oc18 kV18 dc18 pm18 cd18 ct18 oc19 kV19 dc19 pm19 cd19 ct19 oc20 kV20 dc20 pm20 cd20 ct20 oc21 kV21 dc21 pm21 cd21 ct21 oc22 kV22 dc22 pm22 cd22 ct22 oc23 kV23 dc23 pm23 cd23 ct23 : Value}
    (aS : PySem.W.nsIn K mainGlobals "suiting" = some (some (.ref fS))) (lS : K.lookup fS = some ⟨ocS, odS, .func (fSg DS dcS pmS anS cdS ctS), slS⟩) (cS : PySem.W.codeIn K cdS "suiting" = true) (kS : PySem.W.keepIn K (.ref fS) = true) (wS : PySem.W.nsIn K DS "without" = some (some (.ref T0))) (tS : K.lookup T0 = some ⟨.type "tuple", tdS, .seq #[] tn, tsS⟩)
    (a1 : PySem.W.nsIn K mainGlobals "must_be_households" = some (some (.ref f1))) (l1 : K.lookup f1 = some ⟨oc1, od1, .func (PySem.W.fnOf "must_be_households" "must_be_households" (defArgs sMust) (defBody sMust) (defScope sMust) .none kV1 dc1 pm1 an1 cd1 ct1), sl1⟩) (c1 : PySem.W.codeIn K cd1 "must_be_households" = true) (k1 : PySem.W.keepIn K (.ref f1) = true)
    (a2 : PySem.W.nsIn K mainGlobals "households" = some (some (.ref f2))) (l2 : K.lookup f2 = some ⟨oc2, od2, .func (PySem.W.fnOf "households" "households" (defArgs sHouseholds) (defBody sHouseholds) (defScope sHouseholds) .none kV2 dc2 pm2 an2 cd2 ct2), sl2⟩) (c2 : PySem.W.codeIn K cd2 "households" = true) (k2 : PySem.W.keepIn K (.ref f2) = true)
    (a3 : PySem.W.nsIn K mainGlobals "wishes_by" = some (some (.ref f3))) (l3 : K.lookup f3 = some ⟨oc3, od3, .func (PySem.W.fnOf "wishes_by" "wishes_by" (defArgs sWishes) (defBody sWishes) (defScope sWishes) .none kV3 dc3 pm3 an3 cd3 ct3), sl3⟩) (c3 : PySem.W.codeIn K cd3 "wishes_by" = true) (k3 : PySem.W.keepIn K (.ref f3) = true)
    (a4 : PySem.W.nsIn K mainGlobals "suited_to" = some (some (.ref f4))) (l4 : K.lookup f4 = some ⟨oc4, od4, .func (PySem.W.fnOf "suited_to" "suited_to" (defArgs sSuited) (defBody sSuited) (defScope sSuited) .none kV4 dc4 pm4 an4 cd4 ct4), sl4⟩) (c4 : PySem.W.codeIn K cd4 "suited_to" = true) (k4 : PySem.W.keepIn K (.ref f4) = true)
    (a5 : PySem.W.nsIn K mainGlobals "_law_box" = some (some (.ref f5))) (l5 : K.lookup f5 = some ⟨oc5, od5, .func (PySem.W.fnOf "_law_box" "_law_box" (defArgs sBox) (defBody sBox) (defScope sBox) .none kV5 dc5 pm5 an5 cd5 ct5), sl5⟩) (c5 : PySem.W.codeIn K cd5 "_law_box" = true) (k5 : PySem.W.keepIn K (.ref f5) = true)
    (a6 : PySem.W.nsIn K mainGlobals "_law_take" = some (some (.ref f6))) (l6 : K.lookup f6 = some ⟨oc6, od6, .func (PySem.W.fnOf "_law_take" "_law_take" (defArgs sTake) (defBody sTake) (defScope sTake) .none kV6 dc6 pm6 an6 cd6 ct6), sl6⟩) (c6 : PySem.W.codeIn K cd6 "_law_take" = true) (k6 : PySem.W.keepIn K (.ref f6) = true)
    (a7 : PySem.W.nsIn K mainGlobals "_law_cells" = some (some (.ref f7))) (l7 : K.lookup f7 = some ⟨oc7, od7, .func (PySem.W.fnOf "_law_cells" "_law_cells" (defArgs sCells) (defBody sCells) (defScope sCells) .none kV7 dc7 pm7 an7 cd7 ct7), sl7⟩) (c7 : PySem.W.codeIn K cd7 "_law_cells" = true) (k7 : PySem.W.keepIn K (.ref f7) = true)
    (a8 : PySem.W.nsIn K mainGlobals "_law_lists" = some (some (.ref f8))) (l8 : K.lookup f8 = some ⟨oc8, od8, .func (PySem.W.fnOf "_law_lists" "_law_lists" (defArgs sLists) (defBody sLists) (defScope sLists) .none kV8 dc8 pm8 an8 cd8 ct8), sl8⟩) (c8 : PySem.W.codeIn K cd8 "_law_lists" = true) (k8 : PySem.W.keepIn K (.ref f8) = true)
    (a9 : PySem.W.nsIn K mainGlobals "_law_same" = some (some (.ref f9))) (l9 : K.lookup f9 = some ⟨oc9, od9, .func (PySem.W.fnOf "_law_same" "_law_same" (defArgs sSame) (defBody sSame) (defScope sSame) .none kV9 dc9 pm9 an9 cd9 ct9), sl9⟩) (c9 : PySem.W.codeIn K cd9 "_law_same" = true) (k9 : PySem.W.keepIn K (.ref f9) = true)
    (a10 : PySem.W.nsIn K mainGlobals "_law_few" = some (some (.ref f10))) (l10 : K.lookup f10 = some ⟨oc10, od10, .func (PySem.W.fnOf "_law_few" "_law_few" (defArgs sFew) (defBody sFew) (defScope sFew) .none kV10 dc10 pm10 an10 cd10 ct10), sl10⟩) (c10 : PySem.W.codeIn K cd10 "_law_few" = true) (k10 : PySem.W.keepIn K (.ref f10) = true)
    (a11 : PySem.W.nsIn K mainGlobals "_law_mixed" = some (some (.ref f11))) (l11 : K.lookup f11 = some ⟨oc11, od11, .func (PySem.W.fnOf "_law_mixed" "_law_mixed" (defArgs sMixed) (defBody sMixed) (defScope sMixed) .none kV11 dc11 pm11 an11 cd11 ct11), sl11⟩) (c11 : PySem.W.codeIn K cd11 "_law_mixed" = true) (k11 : PySem.W.keepIn K (.ref f11) = true)
    (a12 : PySem.W.nsIn K mainGlobals "_law_tome" = some (some (.ref f12))) (l12 : K.lookup f12 = some ⟨oc12, od12, .func (PySem.W.fnOf "_law_tome" "_law_tome" (defArgs sTome) (defBody sTome) (defScope sTome) .none kV12 dc12 pm12 an12 cd12 ct12), sl12⟩) (c12 : PySem.W.codeIn K cd12 "_law_tome" = true) (k12 : PySem.W.keepIn K (.ref f12) = true)
    (a13 : PySem.W.nsIn K mainGlobals "_law_folk" = some (some (.ref f13))) (l13 : K.lookup f13 = some ⟨oc13, od13, .func (PySem.W.fnOf "_law_folk" "_law_folk" (defArgs sFolk) (defBody sFolk) (defScope sFolk) .none kV13 dc13 pm13 an13 cd13 ct13), sl13⟩) (c13 : PySem.W.codeIn K cd13 "_law_folk" = true) (k13 : PySem.W.keepIn K (.ref f13) = true)
    (a14 : PySem.W.nsIn K mainGlobals "_law_wants" = some (some (.ref f14))) (l14 : K.lookup f14 = some ⟨oc14, od14, .func (PySem.W.fnOf "_law_wants" "_law_wants" (defArgs sWants) (defBody sWants) (defScope sWants) .none kV14 dc14 pm14 an14 cd14 ct14), sl14⟩) (c14 : PySem.W.codeIn K cd14 "_law_wants" = true) (k14 : PySem.W.keepIn K (.ref f14) = true)
    (a15 : PySem.W.nsIn K mainGlobals "_law_suits" = some (some (.ref f15))) (l15 : K.lookup f15 = some ⟨oc15, od15, .func (PySem.W.fnOf "_law_suits" "_law_suits" (defArgs sSuits) (defBody sSuits) (defScope sSuits) .none kV15 dc15 pm15 an15 cd15 ct15), sl15⟩) (c15 : PySem.W.codeIn K cd15 "_law_suits" = true) (k15 : PySem.W.keepIn K (.ref f15) = true)
    (a16 : PySem.W.nsIn K mainGlobals "_law_six" = some (some (.ref f16))) (l16 : K.lookup f16 = some ⟨oc16, od16, .func (PySem.W.fnOf "_law_six" "_law_six" (defArgs sSix) (defBody sSix) (defScope sSix) .none kV16 dc16 pm16 an16 cd16 ct16), sl16⟩) (c16 : PySem.W.codeIn K cd16 "_law_six" = true) (k16 : PySem.W.keepIn K (.ref f16) = true)
    (a17 : PySem.W.nsIn K mainGlobals "_law_linked" = some (some (.ref f17))) (l17 : K.lookup f17 = some ⟨oc17, od17, .func (PySem.W.fnOf "_law_linked" "_law_linked" (defArgs sLinked) (defBody sLinked) (defScope sLinked) .none kV17 dc17 pm17 an17 cd17 ct17), sl17⟩) (c17 : PySem.W.codeIn K cd17 "_law_linked" = true) (k17 : PySem.W.keepIn K (.ref f17) = true)
    (a18 : PySem.W.nsIn K mainGlobals "_law_kite" = some (some (.ref f18))) (l18 : K.lookup f18 = some ⟨oc18, od18, .func (PySem.W.fnOf "_law_kite" "_law_kite" (defArgs sKite) (defBody sKite) (defScope sKite) .none kV18 dc18 pm18 an18 cd18 ct18), sl18⟩) (c18 : PySem.W.codeIn K cd18 "_law_kite" = true) (k18 : PySem.W.keepIn K (.ref f18) = true)
    (a19 : PySem.W.nsIn K mainGlobals "_law_woven" = some (some (.ref f19))) (l19 : K.lookup f19 = some ⟨oc19, od19, .func (PySem.W.fnOf "_law_woven" "_law_woven" (defArgs sWoven) (defBody sWoven) (defScope sWoven) .none kV19 dc19 pm19 an19 cd19 ct19), sl19⟩) (c19 : PySem.W.codeIn K cd19 "_law_woven" = true) (k19 : PySem.W.keepIn K (.ref f19) = true)
    (a20 : PySem.W.nsIn K mainGlobals "_law_apart" = some (some (.ref f20))) (l20 : K.lookup f20 = some ⟨oc20, od20, .func (PySem.W.fnOf "_law_apart" "_law_apart" (defArgs sApart) (defBody sApart) (defScope sApart) .none kV20 dc20 pm20 an20 cd20 ct20), sl20⟩) (c20 : PySem.W.codeIn K cd20 "_law_apart" = true) (k20 : PySem.W.keepIn K (.ref f20) = true)
    (a21 : PySem.W.nsIn K mainGlobals "_law_by_hand_right" = some (some (.ref f21))) (l21 : K.lookup f21 = some ⟨oc21, od21, .func (PySem.W.fnOf "_law_by_hand_right" "_law_by_hand_right" (defArgs sByHand) (defBody sByHand) (defScope sByHand) .none kV21 dc21 pm21 an21 cd21 ct21), sl21⟩) (c21 : PySem.W.codeIn K cd21 "_law_by_hand_right" = true) (k21 : PySem.W.keepIn K (.ref f21) = true)
    (a22 : PySem.W.nsIn K mainGlobals "_law_right" = some (some (.ref f22))) (l22 : K.lookup f22 = some ⟨oc22, od22, .func (PySem.W.fnOf "_law_right" "_law_right" (defArgs sRight) (defBody sRight) (defScope sRight) .none kV22 dc22 pm22 an22 cd22 ct22), sl22⟩) (c22 : PySem.W.codeIn K cd22 "_law_right" = true) (k22 : PySem.W.keepIn K (.ref f22) = true)
    (a23 : PySem.W.nsIn K mainGlobals "law" = some (some (.ref f23))) (l23 : K.lookup f23 = some ⟨oc23, od23, .func (PySem.W.fnOf "law" "law" (defArgs sLaw) (defBody sLaw) (defScope sLaw) .none kV23 dc23 pm23 an23 cd23 ct23), sl23⟩) (c23 : PySem.W.codeIn K cd23 "law" = true) (k23 : PySem.W.keepIn K (.ref f23) = true)
    (z1 : PySem.W.nsIn K mainGlobals "isinstance" = some none) (z2 : PySem.W.nsIn K mainGlobals "list" = some none) (z3 : PySem.W.nsIn K mainGlobals "tuple" = some none) (z4 : PySem.W.nsIn K mainGlobals "int" = some none) (z5 : PySem.W.nsIn K mainGlobals "bool" = some none) (z6 : PySem.W.nsIn K mainGlobals "str" = some none) (z7 : PySem.W.nsIn K mainGlobals "len" = some none) (z8 : PySem.W.nsIn K mainGlobals "all" = some none) (z9 : PySem.W.nsIn K mainGlobals "zip" = some none) (z10 : PySem.W.nsIn K mainGlobals "range" = some none) (z11 : PySem.W.nsIn K mainGlobals "sorted" = some none) (z12 : PySem.W.nsIn K mainGlobals "set" = some none) (z13 : PySem.W.nsIn K mainGlobals "abs" = some none) (z14 : PySem.W.nsIn K mainGlobals "enumerate" = some none) (z15 : PySem.W.nsIn K mainGlobals "dict" = some none) :
    ∃ fd : FuncData, (∀ (s : Shared) (v : Value), BindsTo s fd ⟨[v], []⟩ [("_law_script", v)]) ∧ ∀ base : Heap, K.In base → base.Ns mainGlobals mg → FnOk l.prog w K mg base CX0 7 fa fd ["_law_script"] (spLaw K) := by
  have e := hfa.symm.trans (PySem.W.mg_of X G a23)
  cases e
  have F1 := fun_mk (st := sMust) l1 c1 k1
  have m1 := PySem.W.mg_of X G a1
  have b1 := F1.binds (ps := ["sheet", "names"]) fun _ _ _ _ _ _ us hl => match us, hl with | [_, _], _ => rfl
  have F2 := fun_mk (st := sHouseholds) l2 c2 k2
  have m2 := PySem.W.mg_of X G a2
  have b2 := F2.binds (ps := ["sheet"]) fun _ _ _ _ _ _ us hl => match us, hl with | [_], _ => rfl
  have F3 := fun_mk (st := sWishes) l3 c3 k3
  have m3 := PySem.W.mg_of X G a3
  have b3 := F3.binds (ps := ["sheet"]) fun _ _ _ _ _ _ us hl => match us, hl with | [_], _ => rfl
  have F4 := fun_mk (st := sSuited) l4 c4 k4
  have m4 := PySem.W.mg_of X G a4
  have b4 := F4.binds (ps := ["sheet", "name"]) fun _ _ _ _ _ _ us hl => match us, hl with | [_, _], _ => rfl
  have F5 := fun_mk (st := sBox) l5 c5 k5
  have m5 := PySem.W.mg_of X G a5
  have b5 := F5.binds (ps := ["_law_script", "_law_k"]) fun _ _ _ _ _ _ us hl => match us, hl with | [_, _], _ => rfl
  have F6 := fun_mk (st := sTake) l6 c6 k6
  have m6 := PySem.W.mg_of X G a6
  have b6 := F6.binds (ps := ["_law_urn", "_law_low_so"]) fun _ _ _ _ _ _ us hl => match us, hl with | [_, _], _ => rfl
  have F7 := fun_mk (st := sCells) l7 c7 k7
  have m7 := PySem.W.mg_of X G a7
  have b7 := F7.binds (ps := ["_law_script", "_law_top"]) fun _ _ _ _ _ _ us hl => match us, hl with | [_, _], _ => rfl
  have F8 := fun_mk (st := sLists) l8 c8 k8
  have m8 := PySem.W.mg_of X G a8
  have b8 := F8.binds (ps := ["_law_matter"]) fun _ _ _ _ _ _ us hl => match us, hl with | [_], _ => rfl
  have F9 := fun_mk (st := sSame) l9 c9 k9
  have m9 := PySem.W.mg_of X G a9
  have b9 := F9.binds (ps := ["_law_got", "_law_goal"]) fun _ _ _ _ _ _ us hl => match us, hl with | [_, _], _ => rfl
  have F10 := fun_mk (st := sFew) l10 c10 k10
  have m10 := PySem.W.mg_of X G a10
  have b10 := F10.binds (ps := ["_law_urn", "_law_pool", "_law_one_of"]) fun _ _ _ _ _ _ us hl => match us, hl with | [_, _, _], _ => rfl
  have F11 := fun_mk (st := sMixed) l11 c11 k11
  have m11 := PySem.W.mg_of X G a11
  have b11 := F11.binds (ps := ["_law_urn", "_law_pool"]) fun _ _ _ _ _ _ us hl => match us, hl with | [_, _], _ => rfl
  have F12 := fun_mk (st := sTome) l12 c12 k12
  have m12 := PySem.W.mg_of X G a12
  have b12 := F12.binds (ps := ["_law_urn", "_law_most_so", "_law_free_so"]) fun _ _ _ _ _ _ us hl => match us, hl with | [_, _, _], _ => rfl
  have F13 := fun_mk (st := sFolk) l13 c13 k13
  have m13 := PySem.W.mg_of X G a13
  have b13 := F13.binds (ps := ["_law_tome_here"]) fun _ _ _ _ _ _ us hl => match us, hl with | [_], _ => rfl
  have F14 := fun_mk (st := sWants) l14 c14 k14
  have m14 := PySem.W.mg_of X G a14
  have b14 := F14.binds (ps := ["_law_tome_here"]) fun _ _ _ _ _ _ us hl => match us, hl with | [_], _ => rfl
  have F15 := fun_mk (st := sSuits) l15 c15 k15
  have m15 := PySem.W.mg_of X G a15
  have b15 := F15.binds (ps := ["_law_tome_here"]) fun _ _ _ _ _ _ us hl => match us, hl with | [_], _ => rfl
  have F16 := fun_mk (st := sSix) l16 c16 k16
  have m16 := PySem.W.mg_of X G a16
  have b16 := F16.binds (ps := []) fun _ _ _ _ _ _ us hl => match us, hl with | [], _ => rfl
  have F17 := fun_mk (st := sLinked) l17 c17 k17
  have m17 := PySem.W.mg_of X G a17
  have b17 := F17.binds (ps := ["_law_line", "_law_pairs"]) fun _ _ _ _ _ _ us hl => match us, hl with | [_, _], _ => rfl
  have F18 := fun_mk (st := sKite) l18 c18 k18
  have m18 := PySem.W.mg_of X G a18
  have b18 := F18.binds (ps := []) fun _ _ _ _ _ _ us hl => match us, hl with | [], _ => rfl
  have F19 := fun_mk (st := sWoven) l19 c19 k19
  have m19 := PySem.W.mg_of X G a19
  have b19 := F19.binds (ps := ["_law_urn"]) fun _ _ _ _ _ _ us hl => match us, hl with | [_], _ => rfl
  have F20 := fun_mk (st := sApart) l20 c20 k20
  have m20 := PySem.W.mg_of X G a20
  have b20 := F20.binds (ps := ["_law_pairs", "_law_gone"]) fun _ _ _ _ _ _ us hl => match us, hl with | [_, _], _ => rfl
  have F21 := fun_mk (st := sByHand) l21 c21 k21
  have m21 := PySem.W.mg_of X G a21
  have b21 := F21.binds (ps := []) fun _ _ _ _ _ _ us hl => match us, hl with | [], _ => rfl
  have F22 := fun_mk (st := sRight) l22 c22 k22
  have m22 := PySem.W.mg_of X G a22
  have b22 := F22.binds (ps := ["_law_urn"]) fun _ _ _ _ _ _ us hl => match us, hl with | [_], _ => rfl
  have F23 := fun_mk (st := sLaw) l23 c23 k23
  have m23 := PySem.W.mg_of X G a23
  have mS := PySem.W.mg_of X G aS
  obtain ⟨FS, SG⟩ := sgs_mk lS cS kS wS tS
  have n1 := PySem.W.mg_none_of X G z1
  have n2 := PySem.W.mg_none_of X G z2
  have n3 := PySem.W.mg_none_of X G z3
  have n4 := PySem.W.mg_none_of X G z4
  have n5 := PySem.W.mg_none_of X G z5
  have n6 := PySem.W.mg_none_of X G z6
  have n7 := PySem.W.mg_none_of X G z7
  have n8 := PySem.W.mg_none_of X G z8
  have n9 := PySem.W.mg_none_of X G z9
  have n10 := PySem.W.mg_none_of X G z10
  have n11 := PySem.W.mg_none_of X G z11
  have n12 := PySem.W.mg_none_of X G z12
  have n13 := PySem.W.mg_none_of X G z13
  have n14 := PySem.W.mg_none_of X G z14
  have n15 := PySem.W.mg_none_of X G z15
  have Ts : TySm mg := ⟨n1, n2, n3, n4, n5, n6, n7, n8, n9⟩
  refine ⟨PySem.W.fnOf "law" "law" (defArgs sLaw) (defBody sLaw) (defScope sLaw) .none kV23 dc23 pm23 an23 cd23 ct23, fun s v => .of_eq rfl, fun base _ _ => ?_⟩
  have GH : FnOk l.prog w K mg base CX0 1 f2 _ ["sheet"] (spHouseholds K) := ok_households F2 n3
  have GMu : FnOk l.prog w K mg base CX0 2 f1 _ ["sheet", "names"] (spMust K) := ok_must F1 GH b2 k2 m2
  have GWi : FnOk l.prog w K mg base CX0 1 f3 _ ["sheet"] (spWishes K) := ok_wishes F3 n3
  have GSu : FnOk l.prog w K mg base CX0 3 f4 _ ["sheet", "name"] (spSuited K) := ok_suited F4 GMu b1 k1 m1 GWi b3 k3 m3 n3
  have GSg : FnOk l.prog w K mg base CX0 4 fS _ ["sheet", "without"] (spSuiting K) := ok_suiting FS GMu b1 k1 m1 GH b2 k2 m2 GSu b4 k4 m4
  have CG : CalS l.prog w K mg base := ⟨_, _, T0, _, GSg, kS, mS, SG⟩
  have GB : FnOk l.prog w K mg base CX0 1 f5 _ _ (spBox K) := ok_box F5 n4 n7 n13
  have GT : FnOk l.prog w K mg base CX0 1 f6 _ _ spTake := ok_take F6 n4
  have GC : FnOk l.prog w K mg base CX0 1 f7 _ _ (spCells K) := ok_cells F7 n4 n2 n14
  have S1 := ok_same (P := l.prog) (w := w) (base := base) (n := 0) F9 (no_callK fun _ _ _ _ ⟨_, _, _, _, _, _, z, _⟩ => z) b9 m9 Ts
  have S2 := ok_same F9 S1 b9 m9 Ts
  have S3 := ok_same F9 S2 b9 m9 Ts
  have S4 := ok_same F9 S3 b9 m9 Ts
  have GF : FnOk l.prog w K mg base CX0 2 f10 _ _ (spFew K) := ok_few F10 GT b6 k6 m6 n3
  have GM : FnOk l.prog w K mg base CX0 2 f11 _ _ (spMixed K) := ok_mixed F11 GT b6 k6 m6 n3 n2 n10 n7
  have GTm : FnOk l.prog w K mg base CX0 3 f12 _ _ (spTome K) := ok_tome F12 GT b6 k6 m6 GF b10 k10 m10 GM b11 k11 m11 ⟨n2, n3, n4, n10, n11, n12⟩
  have L1 := ok_lists (P := l.prog) (w := w) (base := base) (n := 0) F8 (no_callK fun _ _ _ _ ⟨_, _, _, _, _, _, z, _⟩ => z) b8 m8 Ts
  have L2 := ok_lists F8 L1 b8 m8 Ts
  have L3 := ok_lists F8 L2 b8 m8 Ts
  have L4 := ok_lists F8 L3 b8 m8 Ts
  have L5 := ok_lists F8 L4 b8 m8 Ts
  have GFk : FnOk l.prog w K mg base CX0 1 f13 _ ["_law_tome_here"] (spFolk K) := ok_folk F13
  have GWt : FnOk l.prog w K mg base CX0 2 f14 _ ["_law_tome_here"] (spWants K) := ok_wants F14 GFk b13 k13 m13 n2 n15
  have GSt : FnOk l.prog w K mg base CX0 3 f15 _ ["_law_tome_here"] (spSuits K) := ok_suits F15 GWt b14 k14 m14 n11
  have G6 : FnOk l.prog w K mg base CX0 1 f16 _ [] (spSix K) := ok_six F16
  have GLk : FnOk l.prog w K mg base CX0 1 f17 _ ["_law_line", "_law_pairs"] (spLinked K) := ok_linked F17 n15 n3 n11
  have GKt : FnOk l.prog w K mg base CX0 2 f18 _ [] (spKite K) := ok_kite F18 GLk b17 k17 m17
  have GWv : FnOk l.prog w K mg base CX0 4 f19 _ ["_law_urn"] (spWoven K) := ok_woven F19 ⟨_, _, GT, b6, k6, m6⟩ ⟨_, _, GM, b11, k11, m11⟩ ⟨_, _, GTm, b12, k12, m12⟩ ⟨_, _, GLk, b17, k17, m17⟩ n11 n10 n7
  have GAp : FnOk l.prog w K mg base CX0 1 f20 _ ["_law_pairs", "_law_gone"] (spApart K) := ok_apart F20
  have CS : Cal l.prog w K mg base "_law_same" 4 ["_law_got", "_law_goal"] (spSame K 4) := ⟨_, _, S4, b9, k9, m9⟩
  have GY := ok_hand F21 CG CS ⟨_, _, G6, b16, k16, m16⟩ ⟨_, _, GKt, b18, k18, m18⟩
  have GR := ok_right F22 CG CS ⟨_, _, GY, b21, k21, m21⟩ ⟨_, _, GWv, b19, k19, m19⟩ ⟨_, _, GF, b10, k10, m10⟩ ⟨_, _, GFk, b13, k13, m13⟩ ⟨_, _, L5, b8, k8, m8⟩ ⟨_, _, GSt, b15, k15, m15⟩ ⟨_, _, GAp, b20, k20, m20⟩ n10 n2
  exact ok_law F23 ⟨_, _, GC, b7, k7, m7⟩ ⟨_, _, GB, b5, k5, m5⟩ ⟨_, _, GR, b22, k22, m22⟩ ⟨n10, n7, n8⟩
theorem walk {l : PySem.W.OpenLaw} {q : Program} {loose : List Str} {XP : (Str → Option Value) → Heap → Prop} {YP : World → Heap → Prop} {d : DefRec} {K : Params → PySem.W.Frag} (hn : l.most = some 63) (hdf : d.params.defaults = [])
    (hY : ∀ (w : World) (h : Heap), YP w h → (K w.params).In h)
    (F : ∀ (w : World) (mg : Str → Option Value) (fa : Addr) (h : Heap), (K w.params).In h → h.Ns mainGlobals mg → mg d.name = some (.ref fa) →
      ∃ fd : FuncData, (∀ (s : Shared) (u : Value), BindsTo s fd ⟨[u], []⟩ [("_law_script", u)]) ∧ ∀ base : Heap, (K w.params).In base → base.Ns mainGlobals mg → FnOk l.prog w (K w.params) mg base CX0 7 fa fd ["_law_script"] (spLaw (K w.params))) :
    PySem.W.WalkO q loose XP YP l.row.toRowW d [] (fun f vs => PySem.call f vs) :=
  L2.walk_of (n := 63) (k := 7) (x := "_law_script") (CX := fun _ => CX0) (sp := fun w => spLaw (K w.params)) hn (by decide) hdf ⟨rfl, by decide, by decide⟩ hY F (fun _ _ a ns hl _ hS => ⟨a, ns, rfl, hS, hl, fun _ => rfl⟩) fun _ _ _ _ _ z => z
end Cx

open PySem PySem.W PyProof.Rows in
set_option maxRecDepth 100000 in
set_option maxHeartbeats 0 in
theorem PySem.Challenge.cw_crosshomes_k16_who_suits_whom_holds : PySem.Challenge.rw_crosshomes_k16_who_suits_whom.Holds := by
  w_on; o_law; k_head; (case hw => w_witness2)
  k_fill
  refine Cx.walk (l := PySem.Challenge.rw_crosshomes_k16_who_suits_whom) rfl rfl (fun w h Y => PySem.W.kIn_of Y) ?F
  case F =>
    intro w mg fa h KX G hmg
    refine' Cx.all_mk KX G hmg ?aS ?lS ?cS ?kS ?wS ?tS ?a1 ?l1 ?c1 ?k1 ?a2 ?l2 ?c2 ?k2 ?a3 ?l3 ?c3 ?k3 ?a4 ?l4 ?c4 ?k4 ?a5 ?l5 ?c5 ?k5 ?a6 ?l6 ?c6 ?k6 ?a7 ?l7 ?c7 ?k7 ?a8 ?l8 ?c8 ?k8 ?a9 ?l9 ?c9 ?k9 ?a10 ?l10 ?c10 ?k10 ?a11 ?l11 ?c11 ?k11 ?a12 ?l12 ?c12 ?k12 ?a13 ?l13 ?c13 ?k13 ?a14 ?l14 ?c14 ?k14 ?a15 ?l15 ?c15 ?k15 ?a16 ?l16 ?c16 ?k16 ?a17 ?l17 ?c17 ?k17 ?a18 ?l18 ?c18 ?k18 ?a19 ?l19 ?c19 ?k19 ?a20 ?l20 ?c20 ?k20 ?a21 ?l21 ?c21 ?k21 ?a22 ?l22 ?c22 ?k22 ?a23 ?l23 ?c23 ?k23 ?z1 ?z2 ?z3 ?z4 ?z5 ?z6 ?z7 ?z8 ?z9 ?z10 ?z11 ?z12 ?z13 ?z14 ?z15
    (case aS => k_is)
    (case lS => k_is)
    (case cS => k_is)
    (case kS => k_is)
    (case wS => k_is)
    (case tS => k_is)
    (case a1 => k_is)
    (case l1 => k_is)
    (case c1 => k_is)
    (case k1 => k_is)
    (case a2 => k_is)
    (case l2 => k_is)
    (case c2 => k_is)
    (case k2 => k_is)
    (case a3 => k_is)
    (case l3 => k_is)
    (case c3 => k_is)
    (case k3 => k_is)
    (case a4 => k_is)
    (case l4 => k_is)
    (case c4 => k_is)
    (case k4 => k_is)
    (case a5 => k_is)
    (case l5 => k_is)
    (case c5 => k_is)
    (case k5 => k_is)
    (case a6 => k_is)
    (case l6 => k_is)
    (case c6 => k_is)
    (case k6 => k_is)
    (case a7 => k_is)
    (case l7 => k_is)
    (case c7 => k_is)
    (case k7 => k_is)
    (case a8 => k_is)
    (case l8 => k_is)
    (case c8 => k_is)
    (case k8 => k_is)
    (case a9 => k_is)
    (case l9 => k_is)
    (case c9 => k_is)
    (case k9 => k_is)
    (case a10 => k_is)
    (case l10 => k_is)
    (case c10 => k_is)
    (case k10 => k_is)
    (case a11 => k_is)
    (case l11 => k_is)
    (case c11 => k_is)
    (case k11 => k_is)
    (case a12 => k_is)
    (case l12 => k_is)
    (case c12 => k_is)
    (case k12 => k_is)
    (case a13 => k_is)
    (case l13 => k_is)
    (case c13 => k_is)
    (case k13 => k_is)
    (case a14 => k_is)
    (case l14 => k_is)
    (case c14 => k_is)
    (case k14 => k_is)
    (case a15 => k_is)
    (case l15 => k_is)
    (case c15 => k_is)
    (case k15 => k_is)
    (case a16 => k_is)
    (case l16 => k_is)
    (case c16 => k_is)
    (case k16 => k_is)
    (case a17 => k_is)
    (case l17 => k_is)
    (case c17 => k_is)
    (case k17 => k_is)
    (case a18 => k_is)
    (case l18 => k_is)
    (case c18 => k_is)
    (case k18 => k_is)
    (case a19 => k_is)
    (case l19 => k_is)
    (case c19 => k_is)
    (case k19 => k_is)
    (case a20 => k_is)
    (case l20 => k_is)
    (case c20 => k_is)
    (case k20 => k_is)
    (case a21 => k_is)
    (case l21 => k_is)
    (case c21 => k_is)
    (case k21 => k_is)
    (case a22 => k_is)
    (case l22 => k_is)
    (case c22 => k_is)
    (case k22 => k_is)
    (case a23 => k_is)
    (case l23 => k_is)
    (case c23 => k_is)
    (case k23 => k_is)
    (case z1 => k_is)
    (case z2 => k_is)
    (case z3 => k_is)
    (case z4 => k_is)
    (case z5 => k_is)
    (case z6 => k_is)
    (case z7 => k_is)
    (case z8 => k_is)
    (case z9 => k_is)
    (case z10 => k_is)
    (case z11 => k_is)
    (case z12 => k_is)
    (case z13 => k_is)
    (case z14 => k_is)
    (case z15 => k_is)
