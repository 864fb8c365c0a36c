import PyProof.Rows.All
import Wide.All
import OpenK.AllK
import Wide.FinOn
import HandS.Base
import HandS.Call
import HandS.List
import HandS.Dict
import HandS.Sort
import HandS.SortOrd
import HandS.SortRule
import HandS.Set
import HandS.SetFor
import HandS.Zip0
import PyProof.Rows.SortShellAny
import HandS.ForMost
import HandS.IsInst
import HandS.Zip
import HandS.Star
import HandS.Flow
import HandS.NoneIn
import HandS.TupAny
import HandS.Walk
import PySem.Challenge.RW_crosshomes_k01_households_and_homes
import HandS.Evl
set_option Elab.async false
set_option maxRecDepth 100000
set_option maxHeartbeats 1000000
/-! sorted of rows (a text and one more object each) whose texts part -/
namespace Cx
open PySem PySem.Spec PyProof.Rows L2
/-- texts in Python's order -/
def sLt (a b : Str) : Bool := decide (a.cps.toList < b.cps.toList)
theorem str_ext {a b : Str} (h : a.cps.toList = b.cps.toList) : a = b := by
  cases a
  cases b
  simp only [Str.mk.injEq]
  exact Array.toList_inj.mp h
theorem sLt_swo {α : Type} (k : α → Str) : SrtO.Swo fun x y => sLt (k x) (k y) := by
  refine ⟨fun x y h => ?_, fun x y z h1 h2 => ?_⟩
  · have a := of_decide_eq_true h
    exact decide_eq_false (List.lt_asymm a)
  · have a := List.not_lt.mp (of_decide_eq_false h1)
    have b := List.not_lt.mp (of_decide_eq_false h2)
    exact decide_eq_false (List.not_lt.mpr (List.le_trans a b))
/-- a tuple of a text and an object -/
def RowV (h : Heap) (v : Value) (n : Str) (t : Addr) : Prop :=
  ∃ a o tk c, v = Value.ref a ∧ h.get? a = some o ∧ o.cls = .type "tuple" ∧ o.data = .seq #[Value.str n tk, Value.ref t] c
theorem RowV.keeps {h h' : Heap} {v : Value} {n : Str} {t : Addr} (x : RowV h v n t) (k : ∀ b o, h.get? b = some o → o.cls = .type "tuple" → h'.get? b = some o) : RowV h' v n t := by
  obtain ⟨a, o, tk, c, e, ho, hc, hd⟩ := x
  exact ⟨a, o, tk, c, e, k a o ho hc, hc, hd⟩
section
variable {prog : Program} {w : World} {A : Around} {E : Value → Shared → Prop} {s : Shared}
theorem rows_cmp {vs : List Value} {k : Value → Str} {t : Value → Addr} (hp : ∀ v ∈ vs, RowV s.heap v (k v) (t v)) (one : ∀ v ∈ vs, ∀ u ∈ vs, k v = k u → t v = t u) :
    SrtO.Cmp prog w A s (tuples' true) (fun p => p.1 ∈ vs) (SrtO.lt2 fun v u => sLt (k v) (k u)) := by
  intro p q hm hm'
  have h1 := hp _ hm
  have h2 := hp _ hm'
  have h3 := one _ hm _ hm'
  show wpAny (model prog w) A (keyLt' (tuples' true) p.1 q.1) (fun r s' => s' = s ∧ r = sLt (k p.1) (k q.1)) (fun _ _ => False) s
  generalize k p.1 = x at h1 h3 ⊢
  generalize k q.1 = y at h2 h3 ⊢
  generalize t p.1 = m at h1 h3
  generalize t q.1 = n at h2 h3
  obtain ⟨a, o, t1, c1, e, ho, _, hd⟩ := h1
  obtain ⟨b, o2, t2, c2, e', ho', _, hd'⟩ := h2
  rw [e, e']
  refine PySem.W.kat_lt ho hd ho' hd' ?_
  show PySem.W.KatLex prog w A true (decide (2 < 2)) _ [(Value.str x t1, Value.str y t2), (Value.ref m, Value.ref n)] 0 s
  refine PySem.W.kat_cons (SeqAt.EqAt.str_str x t1 y t2 prog w _ _ ?_)
  refine PySem.W.kat_go (fun e1 => ?_) (fun e1 => ?_)
  · have ex : x = y := by simpa using e1
    have em := h3 ex
    subst ex
    subst em
    refine PySem.W.kat_yes (PySem.W.kat_cons (SeqAt.EqAt.same _ prog w _ _ ?_))
    refine PySem.W.kat_yes (PySem.W.kat_nil ⟨rfl, ?_⟩)
    exact (decide_eq_false (List.lt_irrefl _)).symm
  · exact PySem.W.kat_no (oneLt_str ⟨rfl, rfl⟩)
theorem rows_firsts {h : Heap} : ∀ {vs : List Value}, (∀ v ∈ vs, ∃ n t, RowV h v n t) → ∃ fs, PySem.W.KatTups h vs fs ∧ fs.length = vs.length ∧ ∀ f ∈ fs, ∃ x u, f = Value.str x u
  | [], _ => ⟨[], PySem.W.KatTups.nil, rfl, fun _ q => nomatch q⟩
  | v :: vs, hv => by
    obtain ⟨n, t, a, o, tk, c, e, ho, hc, hd⟩ := hv v List.mem_cons_self
    obtain ⟨fs, h1, h2, h3⟩ := rows_firsts (vs := vs) fun u hu => hv u (List.mem_cons_of_mem _ hu)
    subst e
    refine ⟨Value.str n tk :: fs, PySem.W.KatTups.cons ho hc hd rfl h1, congrArg (· + 1) h2, fun f hf => ?_⟩
    rcases List.mem_cons.mp hf with q | q
    · exact ⟨n, tk, q⟩
    · exact h3 f q
theorem rows_sortable {a : Addr} {vs : List Value} {k : Value → Str} {t : Value → Addr} (h0 : 0 < vs.length) (hp : ∀ v ∈ vs, RowV s.heap v (k v) (t v)) (one : ∀ v ∈ vs, ∀ u ∈ vs, k v = k u → t v = t u)
    (ha : ∀ o, s.heap.get? a = some o → o.cls ≠ .type "tuple") : SrtO.SortableO prog w A s a vs fun v u => sLt (k v) (k u) := by
  intro h' keep
  have hp' : ∀ v ∈ vs, RowV h' v (k v) (t v) := fun v hm => (hp v hm).keeps fun b o e c => keep b o (fun z => ha o (z ▸ e) c) e
  obtain ⟨fs, h1, h2, h3⟩ := rows_firsts fun v hm => ⟨_, _, hp' v hm⟩
  refine ⟨tuples' true, fun Q E hq => ?_, rows_cmp hp' one⟩
  refine PySem.W.kat_kind (T := .type "str") h1 (by omega) (fun f hm => ?_) (by rfl) ?_
  · obtain ⟨x, u, rfl⟩ := h3 f hm
    exact PySem.W.Looks.now
  · have e : (Value.type "str" != Value.type "tuple") = true := by decide +kernel
    rw [e]
    exact hq
theorem sorted_rows {l : Addr} {vs : List Value} {k : Value → Str} {t : Value → Addr} {Q : Value → Shared → Prop} (hl : s.heap.IsList l vs.toArray) (hz : vs.length ≤ sizeLine) (hp : ∀ v ∈ vs, RowV s.heap v (k v) (t v))
    (one : ∀ v ∈ vs, ∀ u ∈ vs, k v = k u → t v = t u)
    (h : ∀ (h' : Heap) (d : Addr) (out : List Value), SrtO.Srtd (fun v u => sLt (k v) (k u)) out → out.Perm vs → (∀ b o, s.heap.get? b = some o → h'.get? b = some o) → s.heap.objs.size ≤ d → (∃ n, h'.get? d = some (seqObj "list" out.toArray n)) → Q (.ref d) { s with heap := h' }) :
    wpAny (model prog w) A (call (.builtin "sorted") [.ref l]) Q E s := by
  refine SrtO.sorted_ord (sLt_swo k) hl hz (fun h2 g a ha kk => ?_) fun out hs hb => ?_
  · refine rows_sortable (s := { s with heap := g }) (by omega) (fun v hm => (hp v hm).keeps fun b o e _ => (kk b o e).2) one fun o e => ?_
    have e' : some o = some (seqObj "list" vs.toArray 0) := e.symm.trans ha
    cases e'
    intro c
    exact absurd (Value.type.inj c) (by decide)
  · exact h _ _ out hs hb.perm (fun b o e => sortedAll_old e) (Nat.le_succ _) (sortedAll_at s.heap vs out.toArray)
end
/-- sorted(xs) of such rows: a new list, in rising order of their texts -/
def rSortedRows (K : PySem.W.Frag) : List V → Hp → VK → Prop := fun vs H Q => ∃ (a : Addr) (xs : List V) (k : V → Str) (t : V → Addr), vs = [V.ref a] ∧ SqL K H a xs ∧
  (∀ x ∈ xs, ∃ p, x = V.ref p ∧ H p = some (.tup [.str (k x), .ref (t x)])) ∧ (∀ x ∈ xs, ∀ y ∈ xs, k x = k y → t x = t y) ∧
  ∀ ys p, ys.Perm xs → ys.Pairwise (fun x y => sLt (k y) (k x) = false) → H p = none → Q (.ref p) (upd H p (.lst ys))
section
variable {X : Cx}
theorem cr_sortedRows : CallR X (.builtin "sorted") (rSortedRows X.K) := by
  intro pins s σ H vs us Q I r h
  obtain ⟨a, xs, k, t, rfl, hs, hx, one, q⟩ := h
  obtain ⟨its, rv, hl, hz⟩ := I.list hs
  obtain ⟨u, rfl, ru⟩ := vals1 r
  obtain rfl : u = Value.ref a := ru
  obtain ⟨e1, e2⟩ := refs_back rv fun x m => by
    obtain ⟨p, e, _⟩ := hx x m
    exact ⟨p, e⟩
  have inn : ∀ v ∈ its, backV v ∈ xs := fun v hv => by
    rw [e1]
    exact List.mem_map.mpr ⟨v, hv, rfl⟩
  refine sorted_rows (k := fun u => k (backV u)) (t := fun u => t (backV u)) hl.isList (by rw [← rv.length]; exact hz) (fun v hv => ?_) (fun v hv u hu e => one _ (inn v hv) _ (inn u hu) e) fun h' d out h1 h2 kp hd hn => ?_
  · obtain ⟨p, rfl⟩ := e2 v hv
    obtain ⟨p', e, ht⟩ := hx _ (inn _ hv)
    cases e
    obtain ⟨_, its2, r2, o, ho, hc, n, hd⟩ := I.hok _ _ ht
    obtain ⟨u1, u2, rfl, ri, rj⟩ := vals2 r2
    obtain ⟨t1, rfl⟩ := ri
    obtain rfl : u2 = Value.ref _ := rj
    exact ⟨p, o, t1, n, rfl, ho, hc, hd⟩
  · have h3 : ∀ u ∈ out, ∃ a, u = Value.ref a := fun u hu => e2 u (h2.mem_iff.mp hu)
    obtain ⟨n, hn⟩ := hn
    have hb : (out.map backV).Perm xs := by
      rw [e1]
      exact h2.map backV
    refine ⟨.ref d, upd H d (.lst (out.map backV)), I.laid (t' := s.toks) kp hd ⟨?_, out, n, vals_back h3, hn⟩, rfl, q _ d hb (List.pairwise_map.mpr h1) (I.hok.fresh hd)⟩
    rw [hb.length_eq]
    exact hz
end
end Cx

/-! sets of texts: made of a list, sorted -/
namespace Cx
open PySem PySem.Spec PyProof.Rows L2
def GoodT (w : World) (e : Int × Value) : Prop := ∃ k tk, e.2 = Value.str k tk ∧ e.1 = hashStr w k
/-- the set of texts at a, in the order of its entries -/
structure TxTab (w : World) (es : Array (Int × Value)) (t : SetTable) (L : List Str) : Prop where
  good : ∀ e ∈ es.toList, GoodT w e
  keys : es.toList.map (fun e => strOf e.2) = L
  nd : L.Nodup
  low : es.size < scanBound
  fits : t.fits es.size = true
  ris : Ris t.place.toList
  led : w.params.followText "set-order" = true ∨ t.led = true
def TxSet (w : World) (h : Heap) (a : Addr) (L : List Str) : Prop :=
  ∃ o es ep t, h.get? a = some o ∧ o.ExactSet ∧ o.data = .set es ep t ∧ TxTab w es t L
theorem TxSet.at {w : World} {h h' : Heap} {a : Addr} {L : List Str} (R : TxSet w h a L) (k : ∀ o, h.get? a = some o → h'.get? a = some o) : TxSet w h' a L := by
  obtain ⟨o, es, ep, t, ho, r⟩ := R
  exact ⟨o, es, ep, t, k o ho, r⟩
theorem TxTab.size {w : World} {es : Array (Int × Value)} {t : SetTable} {L : List Str} (R : TxTab w es t L) : es.size = L.length := by
  rw [← R.keys, List.length_map, Array.length_toList]
section
variable {P : Program} {w : World} {A : Around} {E : Value → Shared → Prop} {s : Shared} {a : Addr} {L : List Str}
theorem TxTab.elems {es : Array (Int × Value)} {t : SetTable} (R : TxTab w es t L) : ElemsOf (PySem.strKind P w) es.toList := fun e he => by
  obtain ⟨k, tk, h1, h2⟩ := R.good e he
  refine ⟨⟨k, ?_, h2⟩, ?_⟩
  · rw [h1]
    exact strKind_is P w k tk
  · rw [h1]
    rfl
theorem goodT_is {e : Int × Value} (g : GoodT w e) (k : Str) : (PySem.strKind P w).is k e.2 = true ↔ strOf e.2 = k := by
  obtain ⟨j, tk, h1, _⟩ := g
  rw [h1]
  constructor
  · intro h
    obtain ⟨u, hu⟩ := Value.isStrOf_shape (show Value.isStrOf k (Value.str j tk) = true from h)
    injection hu
  · intro h
    have e : j = k := h
    rw [e]
    exact strKind_is P w k tk
/-- the store at the end of an addition -/
theorem tx_tail {g : Bool → Sem Unit} (hg : ∀ (b : Bool) (s1 : Shared) (R : Unit → Shared → Prop), R () s1 → wpAny (model P w) A (g b) R E s1)
    {o : Obj} {es e1 : Array (Int × Value)} {ep : Nat} {t t1 : SetTable} (ho : s.heap.get? a = some o) (hex : o.ExactSet) (hd : o.data = .set es ep t) (T : TxTab w e1 t1 L) {dm : Bool} {R : Option Bool → Shared → Prop}
    (hR : ∀ h' L', Heap.SameBut a s.heap h' → TxSet w h' a L' → L'.Perm L → R (some true) { s with heap := h' }) :
    wpAny (model P w) A (do
        storeSet a e1 t1
        if (!dm && t1.tooFull) = true then do
            g (relayAll t1 e1 (SetTable.grown e1.size)).2.2
            storeSet a (relayAll t1 e1 (SetTable.grown e1.size)).1 (relayAll t1 e1 (SetTable.grown e1.size)).2.1
            pure (some true)
          else pure (some true)) R E s := by
  have sb := Heap.SameBut.update s.heap a (Obj.putSet e1 t1)
  have h1 := store_at (es' := e1) (t' := t1) ho hd
  refine wpAny_bind (wpAny_storeSet_of ho hd ?_ (fits_of_scanBound T.low))
  by_cases c : (!dm && t1.tooFull) = true
  · rw [if_pos c]
    have q1 := relayAll_perm t1 e1 (SetTable.grown e1.size)
    have q2 := relayAll_fits t1 e1 (SetTable.grown e1.size)
    have q3 := relayAll_ris t1 e1 (SetTable.grown e1.size)
    have q4 := relayAll_led t1 e1 (SetTable.grown e1.size)
    generalize relayAll t1 e1 (SetTable.grown e1.size) = z at q1 q2 q3 q4 ⊢
    obtain ⟨e2, t2, gv⟩ := z
    dsimp only at q1 q2 q3 q4 ⊢
    have zs : e2.size = e1.size := by
      have := q1.length_eq
      rwa [Array.length_toList, Array.length_toList] at this
    have pk := q1.map (fun e : Int × Value => strOf e.2)
    rw [T.keys] at pk
    have T2 : TxTab w e2 t2 (e2.toList.map (fun e => strOf e.2)) :=
      ⟨fun e he => T.good e (q1.mem_iff.mp he), rfl, pk.nodup_iff.mpr T.nd, zs ▸ T.low, q2, q3, T.led.imp id fun y => q4.trans y⟩
    refine wpAny_bind (hg gv _ _ ?_)
    refine wpAny_bind (wpAny_storeSet_of h1 rfl ?_ (fits_of_scanBound T2.low))
    exact wpAny_pure (hR _ _ (sb.trans (Heap.SameBut.update _ a _)) ⟨_, e2, _, t2, store_at h1 rfl, hex, rfl, T2⟩ pk)
  · rw [if_neg c]
    exact wpAny_pure (hR _ L sb ⟨_, e1, _, t1, h1, hex, rfl, T⟩ (List.Perm.refl L))
theorem tx_add {k : Str} {tk : Tok} {Q : Bool → Shared → Prop} (R : TxSet w s.heap a L) (room : L.length + 1 < scanBound)
    (hQ : ∀ b h' L', Heap.SameBut a s.heap h' → TxSet w h' a L' → L'.length ≤ L.length + 1 → (∀ j, j ∈ L' ↔ j ∈ L ∨ j = k) → Q b { s with heap := h' }) :
    wpAny (model P w) A (setAddHashed a (.str k tk) (hashStr w k)) Q E s := by
  obtain ⟨o, es, ep, t, ho, hex, hd, T⟩ := R
  have el : ElemsOf (PySem.strKind P w) es.toList := T.elems
  have hk : (PySem.strKind P w).is k (.str k tk) = true := strKind_is P w k tk
  have hsc : (Value.str k tk).scannable = true := rfl
  have memk : k ∈ L ↔ ∃ e ∈ es.toList, (PySem.strKind P w).is k e.2 = true := by
    rw [← T.keys, List.mem_map]
    exact ⟨fun ⟨e, he, q⟩ => ⟨e, he, (goodT_is (T.good e he) k).2 q⟩, fun ⟨e, he, q⟩ => ⟨e, he, (goodT_is (T.good e he) k).1 q⟩⟩
  show wpAny (model P w) A (setAddHashed a (.str k tk) ((PySem.strKind P w).hash k)) Q E s
  unfold setAddHashed setAddHashedIn
  refine wpAny_holding (wpAny_bind (wpAny_setState_of ho hd T.fits ?_))
  dsimp only
  rw [byScan_of hsc T.low el, if_pos rfl]
  unfold setAddByScan
  refine wpAny_bind (wpAny_bind (wpAny_rule (wpAny_bind (wpAny_setScan_of hk ho hd T.fits el ?_))))
  cases hf : List.findIdx? (fun e => (PySem.strKind P w).is k e.2) es.toList with
  | some j =>
    dsimp only
    obtain ⟨hj, pj, _⟩ := List.findIdx?_eq_some_iff_getElem.mp hf
    have hm : k ∈ L := memk.mpr ⟨es.toList[j], List.getElem_mem hj, pj⟩
    refine wpAny_pure (wpAny_pure (hQ false s.heap L (Heap.SameBut.refl a s.heap) ⟨o, es, ep, t, ho, hex, hd, T⟩ (Nat.le_succ _) fun i => ⟨.inl, fun z => z.elim id fun e => e ▸ hm⟩))
  | none =>
    dsimp only
    have hm : k ∉ L := fun z => by
      obtain ⟨e, he, q⟩ := memk.mp z
      have c := List.findIdx?_eq_none_iff.mp hf e he
      rw [q] at c
      cases c
    have gw : ∀ (b : Bool) (s1 : Shared) (R : Unit → Shared → Prop), R () s1 → wpAny (model P w) A (match b with | true => rule "set.scan.the-table-gave-way" | false => pure ()) R E s1 := fun b s1 R q => by
      cases b
      · exact wpAny_pure q
      · exact wpAny_rule q
    have q1 := layNew_perm t es ((PySem.strKind P w).hash k) (.str k tk)
    have q2 := layNew_fits t es ((PySem.strKind P w).hash k) (.str k tk)
    have q3 := layNew_ris t es ((PySem.strKind P w).hash k) (.str k tk) T.ris
    have q4 := layNew_led t es ((PySem.strKind P w).hash k) (.str k tk)
    generalize layNew t es ((PySem.strKind P w).hash k) (.str k tk) = z at q1 q2 q3 q4 ⊢
    obtain ⟨e1, t1, dm, gv⟩ := z
    dsimp only at q1 q2 q3 q4 ⊢
    rw [Array.toList_push] at q1
    have pc := q1.trans (List.perm_append_singleton _ _)
    have pk := pc.map (fun e : Int × Value => strOf e.2)
    rw [List.map_cons, T.keys] at pk
    have zs : e1.size = L.length + 1 := by
      have z := pc.length_eq
      rwa [List.length_cons, Array.length_toList, Array.length_toList, T.size] at z
    have mk : ∀ t2 : SetTable, t2.fits e1.size = true → Ris t2.place.toList → t2.led = t.led → TxTab w e1 t2 (e1.toList.map (fun e => strOf e.2)) := fun t2 f2 r2 l2 =>
      ⟨fun e he => by
        rcases List.mem_cons.mp (pc.mem_iff.mp he) with y | y
        · exact ⟨k, tk, by rw [y], by rw [y]; rfl⟩
        · exact T.good e y, rfl, pk.nodup_iff.mpr (List.nodup_cons.mpr ⟨hm, T.nd⟩), by rw [zs]; exact room, f2, r2, T.led.imp id fun y => l2.trans y⟩
    have fin : ∀ h' L', Heap.SameBut a s.heap h' → TxSet w h' a L' → L'.Perm (e1.toList.map (fun e => strOf e.2)) → Q true { s with heap := h' } := fun h' L' sb r pm => by
      have pm2 := pm.trans pk
      refine hQ true h' L' sb r (Nat.le_of_eq pm2.length_eq) fun i => ?_
      rw [pm2.mem_iff, List.mem_cons]
      exact Or.comm
    refine wpAny_bind (gw gv _ _ ?_)
    split
    · refine wpAny_bind ?_
      rw [hashByValue_scannable 8 hsc]
      refine wpAny_pure ?_
      refine tx_tail gw ho hex hd (mk _ ?_ ?_ ?_) fun h' L' sb r pm => ?_
      · first | (split <;> first | exact q2 | exact SetTable.fits_plain_off q2) | exact q2 | exact SetTable.fits_plain_off q2
      · first | (split <;> exact q3) | exact q3
      · first | (split <;> exact q4) | exact q4
      · dsimp only
        exact wpAny_pure (fin h' L' sb r pm)
    · refine wpAny_bind (wpAny_pure ?_)
      rw [if_pos rfl]
      refine tx_tail gw ho hex hd (mk _ q2 q3 q4) fun h' L' sb r pm => ?_
      dsimp only
      exact wpAny_pure (fin h' L' sb r pm)
end
end Cx

/-! set(xs) of a list of texts, sorted of such a set -/
namespace Cx
open PySem PySem.Spec PyProof.Rows L2
/-- a set as it is born -/
abbrev bornSet (w : World) : Obj := { cls := .type "set", dict := none, data := .set #[] 0 (.fresh 0 0 (!w.params.followText "set-order")) }
theorem txSet_born {w : World} {h : Heap} {a : Addr} (ho : h.get? a = some (bornSet w)) : TxSet w h a [] := by
  refine ⟨_, #[], 0, _, ho, ⟨rfl, rfl, rfl⟩, rfl, ⟨fun e he => by simp at he, rfl, List.nodup_nil, by decide, rfl, List.Pairwise.nil, ?_⟩⟩
  show _ ∨ (!w.params.followText "set-order") = true
  cases w.params.followText "set-order"
  · exact .inr rfl
  · exact .inl rfl
section
variable {P : Program} {w : World} {A : Around} {E : Value → Shared → Prop} {s : Shared}
theorem tx_update {I : Addr} {fp wr : List Addr} {G : Array GenState → Array GenState → Prop} {n : Nat} {Pv : Nat → Value → Prop} {St : Nat → Shared → Prop} {R : Result → Shared → Prop}
    (W : WalksS P w A.in1 I fp wr G n Pv St) (S : Addr) (nf : S ∉ fp) (xs : List Str) (hn : n = xs.length) (low : n + 1 < scanBound) (val : ∀ i v, Pv i v → ∃ k t, xs[i]? = some k ∧ v = .str k t) :
    ∀ (d i : Nat) (s : Shared), d = n - i → i ≤ n → St i s → (∃ L, TxSet w s.heap S L ∧ L.length ≤ i ∧ ∀ j, j ∈ L ↔ j ∈ xs.take i) →
      (∀ s' L, Moved (S :: wr) G s s' → TxSet w s'.heap S L → L.length ≤ n → (∀ j, j ∈ L ↔ j ∈ xs) → R (.ok (.ret .none)) s') →
      codeAny (model P w) A (.builtin "set.update.loop" ⟨[.ref S, .ref I], []⟩) R s := by
  have nw : S ∉ wr := fun h => nf (W.sub _ h)
  have sub : ∀ b ∈ wr, b ∈ S :: wr := fun b hb => List.mem_cons_of_mem _ hb
  intro d
  induction d with
  | zero =>
    intro i s hd hi st ⟨L, hS, hl, hm⟩ hR
    have e : i = n := by omega
    subst e
    refine codeAny_builtin F.entry_set_update_loop ?_
    rw [Around.under_plainId F.plain_set_update_loop _]
    show wpAny _ A.in1 (pyNext (.ref I) >>= _) _ _ s
    refine wpAny_bind (W.done s _ _ st fun s' mv => ?_)
    show wpAny _ A.in1 (ret Value.none) _ _ s'
    refine wpAny_pure (hR s' L (mv.mono sub) (hS.at fun o q => mv.heap S o nw q) hl fun j => ?_)
    rw [hm j, List.take_of_length_le (by omega)]
  | succ d ih =>
    intro i s hd hi st ⟨L, hS, hl, hm⟩ hR
    have lt : i < n := by omega
    refine codeAny_builtin F.entry_set_update_loop ?_
    rw [Around.under_plainId F.plain_set_update_loop _]
    show wpAny _ A.in1 (pyNext (.ref I) >>= _) _ _ s
    refine wpAny_bind (W.item i s _ _ lt st fun v s' hP st' mv => ?_)
    obtain ⟨z, t, hz, rfl⟩ := val i v hP
    have hS' : TxSet w s'.heap S L := hS.at fun o q => mv.heap S o nw q
    show wpAny _ A.in1 (holding [Value.str z t] (setAdd S (.str z t)) >>= _) _ _ s'
    refine wpAny_bind (wpAny_holding ?_)
    unfold setAdd
    refine wpAny_holding (wpAny_bind ((PySem.strKind P w).pyHash (k := z) (strKind_is _ _ _ _) ?_))
    refine tx_add (s := { s' with toks := s'.toks + 1 }) hS' (by omega) fun b h' L' sb r h1 h2 => ?_
    have mem : ∀ j, j ∈ L' ↔ j ∈ xs.take (i + 1) := fun j => by
      rw [h2 j, hm j, List.take_add_one, hz]
      simp
    refine wpAny_pure ⟨plainId_quiet F.plain_set_update_loop _, ih (i + 1) _ (by omega) lt (W.frame _ s' _ _ st' (Nat.le_succ _) fun b hb o q => ?_) ⟨L', r, by omega, mem⟩ fun s2 L2 mv2 r2 l2 m2 => ?_⟩
    · exact (sb.2 b (fun y : b = S => nf (y ▸ hb))).trans q
    · refine hR s2 L2 (Moved.trans W.gtrans ((mv.mono sub).then_heap (Nat.le_succ _) fun b o hb q => ?_) mv2) r2 l2 m2
      exact (sb.2 b (fun y : b = S => hb (by rw [y]; exact List.mem_cons_self))).trans q
theorem call_set_txs {l : Addr} {items : Array Value} (xs : List Str) {Q : Value → Shared → Prop} (hh : A.handled = none) (hl : s.heap.IsList l items) (hit : StrsAre items.toList xs) (low : xs.length + 1 < scanBound)
    (h : ∀ (h' : Heap) (tk : Nat) (L : List Str), TxSet w h' s.heap.objs.size L → L.length ≤ xs.length → (∀ j, j ∈ L ↔ j ∈ xs) → (∀ b o, s.heap.get? b = some o → h'.get? b = some o) → Q (.ref s.heap.objs.size) { s with heap := h', toks := tk }) :
    wpAny (model P w) A (call (.type "set") [.ref l]) Q E s := by
  have hn : items.size = xs.length := by
    have q := StrsAre.len_eq hit
    rw [Array.length_toList] at q
    omega
  obtain ⟨c, tl, hmro⟩ := F.called_set.mro
  have hmade := F.called_set.made
  have hsub := F.called_set.sub
  refine wpAny_call (codeAny_of_tree ?_)
  show wpAny _ _ (callAny (.type "set") _) _ _ _
  refine wpAny_pure ⟨Code.quiet_builtin _ (by decide +kernel), codeAny_builtin F.entry_type_call ?_⟩
  rw [Around.under_plain (weight_type_call_type "set" [.ref l] []) rfl]
  have h1 := F.called_set.notType
  have h2 := F.called_set.canCreate
  have hct := F.typeCall_set_1 (.ref l)
  repeat (any_goals (first | assumption | wp_step))
  refine codeAny_mono (code_set_led1 (.ref l) (E := E) (Q₁ := fun obj s1 => obj = .ref s.heap.objs.size ∧ s1 = { s with heap := s.heap.push (bornSet w) }) ⟨rfl, rfl⟩) fun r s1 hr => ?_
  cases r with
  | error e => exact hr
  | ok fl =>
    cases fl with
    | ret obj =>
      obtain ⟨rfl, rfl⟩ := hr
      have hS : (s.heap.push (bornSet w)).get? s.heap.objs.size = some (bornSet w) := Heap.get?_push_size _ rfl
      have hT : Shared.TypeIs { s with heap := s.heap.push (bornSet w) } (.ref s.heap.objs.size) "set" := ⟨_, hS, rfl⟩
      have hli := F.called_set.init.lookup
      have hbi := F.called_set.init.bind (.ref s.heap.objs.size)
      repeat (any_goals (first | assumption | wp_step))
      refine codeAny_mono (codeAny_call_builtin (R := wants (fun r s2 => r = .none ∧ ∃ h' tk L, s2 = { s with heap := h', toks := tk } ∧ TxSet w h' s.heap.objs.size L ∧ L.length ≤ xs.length ∧ (∀ j, j ∈ L ↔ j ∈ xs) ∧
          (∀ b o, s.heap.get? b = some o → h'.get? b = some o)) E) F.called_set.init.plain F.entry_set_init (check_set_init_1 hT ?_)) fun r2 s2 hr2 => ?_
      · obtain ⟨ol, hol, hcl, nl, hdl⟩ := hl
        obtain ⟨ocls, odict, odata, oslots⟩ := ol
        simp only at hcl hdl
        subst hcl
        subst hdl
        have hol' := Heap.get?_push_of_some (bornSet w) hol
        have hsls := F.sub_list_set
        have hslf := F.sub_list_frozenset
        have hne : (Value.type "list" == Value.type "dict") = false := by decide
        have hl1 : (s.heap.push (bornSet w)).IsList l items := ⟨_, hol', rfl, nl, rfl⟩
        unfold Builtin.«set.__init__» noKeywords Builtin.Frozenset.updateFrom
        generalize hPI : pyIter = PI
        wp_walk
        subst hPI
        refine wpAny_pyIter_list hl1 (wpAny_bind (wpAny_runValue ?_))
        have hlS : l < s.heap.objs.size := Heap.lt_size hol
        have hh3 : A.in1.in1.in1.handled = none := by simp [hh]
        have sz1 : (s.heap.push (bornSet w)).objs.size = s.heap.objs.size + 1 := Heap.size_push ..
        have neI : l ≠ (s.heap.push (bornSet w)).objs.size := by
          rw [sz1]
          exact Nat.ne_of_lt (Nat.lt_succ_of_lt hlS)
        have nf : s.heap.objs.size ∉ [(s.heap.push (bornSet w)).objs.size, l] := by
          rw [sz1]
          simp only [List.mem_cons, List.not_mem_nil, or_false, not_or]
          exact ⟨Nat.ne_of_lt (Nat.lt_succ_self _), Nat.ne_of_gt hlS⟩
        have val : ∀ (i : Nat) (v : Value), items[i]? = some v → ∃ k t, xs[i]? = some k ∧ v = .str k t := fun i v hv => by
          have q : items.toList[i]? = some v := by rw [Array.getElem?_toList]; exact hv
          have hi : i < xs.length := by rw [← hn]; exact (Array.getElem?_eq_some_iff.mp hv).1
          have e := hit.strs
          have q2 := congrArg (fun z => z[i]?) e
          rw [List.getElem?_map, q] at q2
          obtain ⟨x, t, ex⟩ := hit.all v (List.mem_of_getElem? q)
          refine ⟨x, t, ?_, ex⟩
          rw [← q2, ex]
          rfl
        refine tx_update ((Walks.list hh3 _ l neI items).toS) s.heap.objs.size nf xs hn (by omega) val (items.size - 0) 0 _ rfl (Nat.zero_le _)
          ⟨⟨_, Heap.get?_push_size _ rfl, rfl, rfl⟩, (hl1.push _)⟩ ⟨[], txSet_born (Heap.get?_push_of_some _ hS), Nat.le_refl _, fun j => by simp⟩ fun s' L mv r hl2 hm => ?_
        obtain ⟨h', g2, d', tk', os'⟩ := s'
        obtain rfl : g2 = s.gens := mv.gens
        obtain rfl : d' = s.drawn := mv.drawn
        obtain rfl : os' = s.os := mv.os
        show wpAny _ _ _ _ _ _
        refine wpAny_pure ?_
        show wpAny _ _ (ret Value.none) _ _ _
        refine wpAny_pure ⟨rfl, h', tk', L, rfl, r, by omega, hm, fun b o e => ?_⟩
        have hb := Heap.lt_size e
        refine mv.heap b o ?_ (Heap.get?_push_of_some _ (Heap.get?_push_of_some _ e))
        rw [sz1]
        simp only [List.mem_cons, List.not_mem_nil, or_false, not_or]
        exact ⟨Nat.ne_of_lt hb, Nat.ne_of_lt (Nat.lt_succ_of_lt hb)⟩
      · cases r2 with
        | error e => exact hr2
        | ok fl2 =>
          cases fl2 with
          | ret r =>
            obtain ⟨rfl, h', tk, L, rfl, r, hl2, hm, hk⟩ := hr2
            repeat (any_goals (first | assumption | wp_step))
            exact h _ _ _ r hl2 hm hk
          | _ => exact hr2.elim
    | _ => exact hr.elim
/-- sorted of it: a new list of its texts, rising -/
theorem sorted_txs {a : Addr} {L : List Str} {Q : Value → Shared → Prop} (R : TxSet w s.heap a L) (hh : A.handled = none) (few : L.length < 64)
    (hQ : ∀ s' p (out : Array Value) (c : Nat) (ys : List Str), (∀ b o, s.heap.get? b = some o → s'.heap.get? b = some o) → s'.gens = s.gens → s'.os = s.os → s.heap.objs.size ≤ p →
      s'.heap.get? p = some (seqObj "list" out c) → StrsAre out.toList ys → ys.Perm L → sortedS ys = true → Q (.ref p) s') :
    wpAny (model P w) A (call (.builtin "sorted") [.ref a]) Q E s := by
  obtain ⟨o, es, ep, t, ho, hex, hd, T⟩ := R
  have hsz := T.size
  refine Calls.call_function_entry kind_sorted plain_sorted entry_sorted (args_sorted1 _) ?_
  unfold Builtin.«sorted»
  refine wpAny_bind (m := checkCount "sorted" 1 1 _) (wpAny_pure ?_)
  refine wpAny_bind (collect_set (A := A.in1) hh ⟨o, ho, hex.1, hd⟩ T.fits T.low T.ris T.led fun s1 vs k1 hz g1 o1 pm => ?_)
  have hvl : vs.length = L.length := by rw [pm.length_eq, List.length_map, Array.length_toList]; exact hsz
  have hst : StrsAre vs (vs.map strOf) := strsAre_map vs fun v hv => by
    obtain ⟨e, he, q⟩ := List.mem_map.mp (pm.mem_iff.mp hv)
    obtain ⟨k, tk, e1, _⟩ := T.good e he
    exact ⟨k, tk, q ▸ e1⟩
  have pk : (vs.map strOf).Perm L := by
    have q := pm.map strOf
    rw [List.map_map] at q
    rw [← T.keys]
    exact q
  refine wpAny_bind (wpAny_newList ?_ (by rw [hvl, sizeLine_eq]; omega))
  have hoL : (s1.heap.push (seqObj "list" vs.toArray 0)).get? s1.heap.objs.size = some (seqObj "list" vs.toArray 0) := Heap.get?_push_size _ rfl
  have hL : (s1.heap.push (seqObj "list" vs.toArray 0)).IsList s1.heap.objs.size vs.toArray := ⟨_, hoL, rfl, _, rfl⟩
  refine wpAny_bind (wpAny_holding (wpAny_call_entry slot_list_sort ⟨_, hoL, rfl⟩ entry_list_sort (list_sort_treeKAny strKind_oneLt hoL hst.keysOf (fun u v rest e => keyKind_strs (by rw [← e]; exact hst)) (by rw [hvl, sizeLine_eq]; omega) fun st pa sa => ?_) (args_list_sort _)))
  obtain ⟨ys, b1, b2, b3⟩ := sorted_out_str hst pa sa
  refine ⟨_, rfl, ?_⟩
  obtain ⟨c, hc⟩ := sortedHeap_at (vs := vs) (out := (arrOf st).map (·.2)) hoL
  refine wpAny_pure ⟨_, rfl, hQ _ s1.heap.objs.size _ c ys (fun b u e => ?_) g1 o1 hz hc b1 (b2.trans pk) b3⟩
  have q := k1 b u e
  have lt := Heap.lt_size q
  show (sortedHeap (s1.heap.push (seqObj "list" vs.toArray 0)) s1.heap.objs.size vs _).get? b = some u
  rw [sortedHeap_old (Nat.ne_of_lt lt) (by rw [size_push']; exact Nat.lt_succ_of_lt lt)]
  exact Heap.get?_push_of_some _ q
end
/-- the set of texts at a -/
def TxO (w : World) (a : Addr) (L : List Str) : HO := .ext fun h => TxSet w h a L
theorem txO_new {w : World} {P : Program} {H : Hp} {h : Heap} {a : Addr} {L : List Str} (R : TxSet w h a L) : ObjOk P w H h a (TxO w a L) := by
  have ⟨o, _, _, _, ho, _⟩ := R
  exact ⟨R, ⟨o, ho⟩, fun _ _ p k => TxSet.at p k⟩
theorem strsAre_vals : ∀ {xs : List Str} {us : List Value}, Vals (xs.map V.str) us → StrsAre us xs
  | [], _, .nil => .nil
  | x :: xs, _, .cons r t => by
    obtain ⟨k, rfl⟩ := r
    exact .cons x k (strsAre_vals t)
theorem vals_strsAre : ∀ {xs : List Str} {us : List Value}, StrsAre us xs → Vals (xs.map V.str) us
  | _, _, .nil => .nil
  | _, _, .cons x k t => .cons ⟨k, rfl⟩ (vals_strsAre t)
/-- set(xs), xs a list of texts -/
def rSetTx (K : PySem.W.Frag) (w : World) : List V → Hp → VK → Prop := fun vs H Q => ∃ (l : Addr) (xs : List Str), vs = [V.ref l] ∧ SqL K H l (xs.map V.str) ∧ xs.length < 1000 ∧
  ∀ p L, H p = none → L.Nodup → L.length ≤ xs.length → (∀ j, j ∈ L ↔ j ∈ xs) → Q (.ref p) (upd H p (TxO w p L))
/-- sorted(s), s a set of texts -/
def rSortTx (w : World) : List V → Hp → VK → Prop := fun vs H Q => ∃ (a : Addr) (L : List Str), vs = [V.ref a] ∧ H a = some (TxO w a L) ∧ L.length < 64 ∧
  ∀ (ys : List Str) (p : Addr), ys.Perm L → ys.Nodup → sortedS ys = true → H p = none → Q (.ref p) (upd H p (.lst (ys.map V.str)))
section
variable {X : Cx}
theorem cr_setTx (hc : X.calm = true) : CallR X (.type "set") (rSetTx X.K X.w) := by
  intro pins s σ H vs us Q I r h
  obtain ⟨l, xs, rfl, hl, few, q⟩ := h
  rw [Vals.ref1 r]
  obtain ⟨its, rv, pl, hz⟩ := I.list hl
  refine call_set_txs (P := X.prog) (w := X.w) xs (I.ok.hd hc) pl.isList (by simpa using strsAre_vals rv) (by unfold scanBound; omega) fun h' tk L R l1 m1 k => ?_
  have nd : L.Nodup := by
    obtain ⟨_, _, _, _, _, _, _, T⟩ := id R
    exact T.nd
  exact ⟨.ref s.heap.objs.size, upd H s.heap.objs.size (TxO X.w s.heap.objs.size L), I.laid (t' := tk) k (Nat.le_refl _) (txO_new R), rfl, q _ L (I.hok.fresh (Nat.le_refl _)) nd l1 m1⟩
theorem cr_sortTx (hc : X.calm = true) : CallR X (.builtin "sorted") (rSortTx X.w) := by
  intro pins s σ H vs us Q I r h
  obtain ⟨a, L, rfl, ha, few, q⟩ := h
  have R : TxSet X.w s.heap a L := (I.hok a _ ha).1
  rw [Vals.ref1 r]
  refine sorted_txs R (I.ok.hd hc) few fun s' p out c ys k g o hp hg hi pm so => ?_
  have hlen : (ys.map V.str).length ≤ sizeLine := by
    rw [List.length_map, pm.length_eq, sizeLine_eq]
    omega
  have hn : H p = none := I.hok.fresh hp
  have nd : ys.Nodup := by
    obtain ⟨_, _, _, _, _, _, _, T⟩ := R
    exact pm.nodup_iff.mpr T.nd
  have J : Inv X pins σ (upd H p (.lst (ys.map V.str))) { s with heap := s'.heap, gens := s'.gens, drawn := s'.drawn, toks := s'.toks } :=
    I.call (ch := []) (Un.laid k hp hn) (I.hok.laid k hp ⟨hlen, out.toList, c, vals_strsAre hi, hg⟩) (by rw [g]; exact I.bare) (fun _ z => nomatch z)
  have e : s' = { s with heap := s'.heap, gens := s'.gens, drawn := s'.drawn, toks := s'.toks } := by
    cases s'
    cases s
    cases o
    rfl
  rw [e]
  exact ⟨.ref p, _, J, rfl, q ys p pm nd so hn⟩
end
end Cx

/-! sorted of a tuple of texts -/
namespace Cx
open PySem PySem.Spec PyProof.Rows L2
section
variable {prog : Program} {w : World} {A : Around} {E : Value → Shared → Prop} {s : Shared}
theorem collect_tup {l : Addr} {vs : List Value} {Q : List Value → Shared → Prop} (hl : s.heap.IsTuple l vs.toArray) (hz : vs.length ≤ sizeLine)
    (h : Q vs { s with heap := (s.heap.push (seqObj "list" #[] 0)).update s.heap.objs.size (Obj.mapSeq (· ++ vs.toArray)) }) : wpAny (model prog w) A (collect (.ref l)) Q E s := by
  obtain ⟨o, ho, hc, n, hd⟩ := id hl
  have ho' : (s.heap.push (seqObj "list" #[] 0)).get? l = some o := Heap.get?_push_of_some _ ho
  unfold collect
  refine wpAny_bind (wpAny_runValue (codeAny_builtin entry_proto_collect' ?_))
  show wpAny _ _ (do again (.builtin "list.__iadd__" ⟨[← newList [], .ref l], []⟩)) _ _ s
  refine wpAny_bind (wpAny_newList (wpAny_pure ⟨Code.quiet_builtin _ (by decide +kernel), codeAny_builtin entry_list_iadd' ?_⟩))
  show wpAny _ _ (Builtin.List.listExtendWith (.ref s.heap.objs.size) (.ref l) (.ref s.heap.objs.size)) _ _ { s with heap := s.heap.push (seqObj "list" #[] 0) }
  unfold Builtin.List.listExtendWith
  refine wpAny_bind (wpAny_typeOf (T := "tuple") ⟨o, ho', hc⟩ ?_)
  have e1 : (Value.type "tuple" == Value.type "tuple") = true := by rfl
  rw [if_pos (by rw [e1, Bool.or_true])]
  refine wpAny_bind (listItems_at ho' hd ?_)
  refine wpAny_bind (listItems_at (xs := #[]) (n := 0) (Heap.get?_push_size _ rfl) rfl ?_)
  rw [if_neg (by simp)]
  refine wpAny_bind (listUpdate_at (xs := #[]) (n := 0) (Heap.get?_push_size _ rfl) rfl ?_ (Nat.zero_le _) (by simp only [Array.size_append, List.size_toArray, List.length_nil]; omega))
  refine wpAny_pure ?_
  show wpAny (model prog w) A (do
      let o ← load s.heap.objs.size
      match o.data with
      | .seq xs _ => pure xs.toList
      | _ => unsupported "internal:collect") Q E { s with heap := (s.heap.push (seqObj "list" #[] 0)).update s.heap.objs.size (Obj.mapSeq (· ++ vs.toArray)) }
  refine wpAny_bind (wpAny_load (get?_update_seq (Heap.get?_push_size _ rfl) _) ?_)
  show wpAny _ _ (pure ((#[] : Array Value) ++ vs.toArray).toList) Q E _
  rw [show ((#[] : Array Value) ++ vs.toArray).toList = vs by simp]
  exact wpAny_pure h
theorem sorted_tupS {l : Addr} {vs : List Value} {ss : List Str} {Q : Value → Shared → Prop} (hl : s.heap.IsTuple l vs.toArray) (hS : StrsAre vs ss) (hz : vs.length ≤ sizeLine)
    (h : ∀ (out : Array Value) (ys : List Str), StrsAre out.toList ys → ys.Perm ss → sortedS ys = true → Q (.ref (s.heap.objs.size + 1)) { s with heap := sortedAll s.heap vs out }) :
    wpAny (model prog w) A (call (.builtin "sorted") [.ref l]) Q E s := by
  refine Calls.call_function_entry kind_sorted plain_sorted entry_sorted (args_sorted1 _) ?_
  unfold Builtin.«sorted»
  refine wpAny_bind (m := checkCount "sorted" 1 1 _) (wpAny_pure ?_)
  refine wpAny_bind (collect_tup hl hz ?_)
  refine wpAny_bind (wpAny_newList ?_ hz)
  have sz : ((s.heap.push (seqObj "list" #[] 0)).update s.heap.objs.size (Obj.mapSeq (· ++ vs.toArray))).objs.size = s.heap.objs.size + 1 := by
    rw [Heap.size_update, size_push']
  have hoL : (((s.heap.push (seqObj "list" #[] 0)).update s.heap.objs.size (Obj.mapSeq (· ++ vs.toArray))).push (seqObj "list" vs.toArray 0)).get? (s.heap.objs.size + 1) = some (seqObj "list" vs.toArray 0) := by
    rw [← sz]
    exact Heap.get?_push_size _ rfl
  show wpAny _ _ _ _ _ { s with heap := ((s.heap.push (seqObj "list" #[] 0)).update s.heap.objs.size (Obj.mapSeq (· ++ vs.toArray))).push (seqObj "list" vs.toArray 0) }
  rw [sz]
  refine wpAny_bind (wpAny_holding (wpAny_call_entry slot_list_sort ⟨_, hoL, rfl⟩ entry_list_sort (list_sort_treeKAny strKind_oneLt hoL hS.keysOf (fun u v rest e => keyKind_strs (by rw [← e]; exact hS)) hz fun st pa sa => ?_) (args_list_sort _)))
  obtain ⟨ys, b1, b2, b3⟩ := sorted_out_str hS pa sa
  exact ⟨_, rfl, wpAny_pure ⟨_, rfl, h _ ys b1 b2 b3⟩⟩
end
/-- sorted(t), t a tuple of texts -/
def rSortTupS (K : PySem.W.Frag) : List V → Hp → VK → Prop := fun vs H Q => ∃ (a : Addr) (xs : List Str), vs = [V.ref a] ∧ SqT K H a (xs.map V.str) ∧
  ∀ (ys : List Str) (p : Addr), ys.Perm xs → sortedS ys = true → H p = none → Q (.ref p) (upd H p (.lst (ys.map V.str)))
section
variable {X : Cx}
theorem cr_sortTupS : CallR X (.builtin "sorted") (rSortTupS X.K) := by
  intro pins s σ H vs us Q I r h
  obtain ⟨a, xs, rfl, hs, q⟩ := h
  obtain ⟨its, rv, hl, hz⟩ := I.tuple hs
  rw [Vals.ref1 r]
  refine sorted_tupS hl rv.strs (by rw [← rv.length]; exact hz) fun out ys h1 h2 h3 => ?_
  obtain ⟨ep, he⟩ := sortedAll_at s.heap its out
  have hlen : (ys.map V.str).length ≤ sizeLine := by
    rw [List.length_map] at hz
    rw [List.length_map, h2.length_eq]
    exact hz
  exact ⟨.ref _, upd H (s.heap.objs.size + 1) (.lst (ys.map V.str)), I.laid (t' := s.toks) (fun _ _ => sortedAll_old) (Nat.le_succ _) ⟨hlen, out.toList, ep, vals_of_strs h1, he⟩, rfl, q ys _ h2 h3 (I.hok.fresh (Nat.le_succ _))⟩
end
end Cx

/-! lists or tuples, whichever; calls by keywords alone -/
namespace Cx
open PySem PySem.Spec PyProof.Rows L2
section
variable {X : Cx} {tg : Expr}
/-- a list or a tuple at x -/
def SeqV (K : PySem.W.Frag) (H : Hp) (x : V) (xs : List V) : Prop := ∃ a, x = .ref a ∧ (SqL K H a xs ∨ SqT K H a xs)
def iSeq (K : PySem.W.Frag) (tl : TE) : TI := fun σ H R => tl σ H fun x H1 => ∃ a, x = .ref a ∧ (((∃ xs, SqL K H1 a xs) ∧ R (Itl K a) H1) ∨ ((∃ xs, SqT K H1 a xs) ∧ R (Itt K a) H1))
theorem pi_seq {l : Expr} {tl : TE} (hl : PE X l tl) : PI X tg l (iSeq X.K tl) := by
  refine ⟨fun pins s σ H R I h => ?_⟩
  refine thn (hl.run pins s σ H _ I h) fun v s1 ⟨x, H1, I1, r1, a, e, q1⟩ => ?_
  subst e
  cases r1
  have one : ∀ b, b ∈ [s1.heap.objs.size] → FpOk X pins H1 b := fun b hb => by
    rw [List.mem_singleton.mp hb]
    exact I1.fpOk (Nat.le_refl _) (I1.hok.fresh (Nat.le_refl _))
  rcases q1 with ⟨⟨xs, hq⟩, q⟩ | ⟨⟨xs, hq⟩, q⟩
  · obtain ⟨its, rv, p, hz⟩ := I1.list hq
    exact wpAny_pyIter_list p.isList ⟨_, [s1.heap.objs.size], _, _, H1, rfl, I1.kept (t' := s1.toks) fun b o e => Heap.get?_push_of_some _ e, turn_list a _, ⟨_, Heap.get?_push_size _ rfl, rfl, rfl⟩, one, q⟩
  · obtain ⟨its, rv, p, hz⟩ := I1.tuple hq
    exact wpAny_pyIter_tuple (show s1.heap.IsTuple a its.toArray from p) ⟨_, [s1.heap.objs.size], _, _, H1, rfl, I1.kept (t' := s1.toks) fun b o e => Heap.get?_push_of_some _ e, turn_tuple a _, ⟨_, Heap.get?_push_size _ rfl, rfl, rfl⟩, one, q⟩
/-- a, b = a list or a tuple of that length -/
def gSeq (K : PySem.W.Frag) (n : Nat) (t : TGs) : TG := fun v σ H Q => ∃ xs, SeqV K H v xs ∧ xs.length = n ∧ t xs σ H Q
theorem pg_seq {es : List Expr} {k n : Nat} {t : TGs} {pos : Pos} (hc : X.calm = true) (h : PGs X es t)
    (hn : (assignEach es X.env).length = n := by rfl) (hst : (assignEach es X.env).findIdx? (·.1) = none := by rfl) : PG X (.Tuple es k pos) (gSeq X.K n t) := by
  refine ⟨fun pins s σ H v u Q I r hw => ?_⟩
  obtain ⟨xs, ⟨a, e, hq⟩, hl, q⟩ := hw
  rcases hq with hq | hq
  · exact (pg_unl hc h hn hst).run pins s σ H v u Q I r ⟨a, xs, e, hq, hl, q⟩
  · exact (pg_tup hc h hn hst).run pins s σ H v u Q I r ⟨a, xs, e, hq, hl, q⟩
/-- what a comprehension over J asks -/
def LcR (g : TG) (tt : TT) (te : TE) (vs : List Nat) (σ : L2.St) (Q : VK) : It → Hp → Prop := fun J H1 => ∀ D, H1 D = none → ∃ W : Nat → Nat → Hp → Prop, (∃ m, W 0 m (upd H1 D (.lst []))) ∧ ∀ i m H, W i m H →
  (J.stop i H ∧ Q (.ref D) H) ∨ (J.go i H ∧ ∃ Nx : Hp → Prop, (∀ H', Nx H' → ∃ m', m' < m ∧ W (i + 1) m' H') ∧ ∀ x H', J.yld i H x H' → g x (wipe σ vs) H' fun σ2 H2 => wipe σ2 vs = wipe σ vs ∧ tt σ2 H2 fun b H3 =>
    if b = true then te σ2 H3 fun y H4 => ∃ acc, H4 D = some (.lst acc) ∧ acc.length < sizeLine ∧ Nx (upd H4 D (.lst (acc ++ [y]))) else Nx H3)
/-- it stands as it stood -/
def Stays (K : PySem.W.Frag) (H1 H : Hp) (x : V) (xs : List V) : Prop := ∀ a, x = .ref a → (SqL K H1 a xs → SqL K H a xs) ∧ (SqT K H1 a xs → SqT K H a xs)
/-- what a comprehension asks of x, a list or a tuple -/
def LcA (K : PySem.W.Frag) (g : TG) (tt : TT) (te : TE) (vs : List Nat) (σ : L2.St) (Q : VK) (x : V) (H1 : Hp) : Prop :=
  ∃ a, x = .ref a ∧ (((∃ ys, SqL K H1 a ys) ∧ LcR g tt te vs σ Q (Itl K a) H1) ∨ ((∃ ys, SqT K H1 a ys) ∧ LcR g tt te vs σ Q (Itt K a) H1))
def tLcA (K : PySem.W.Frag) (wi : TE) (g : TG) (tt : TT) (te : TE) (vs : List Nat) : TE := fun σ H Q => wi σ H fun x H1 => LcA K g tt te vs σ Q x H1
theorem lc_any {K : PySem.W.Frag} {x : V} {xs : List V} {g : TG} {tt : TT} {te : TE} {vs : List Nat} {σ : L2.St} {H0 H1 : Hp} {Q : VK} (hx : SeqV K H0 x xs) (h01 : Stays K H0 H1 x xs) (Pv : Addr → Nat → Hp → Prop)
    (h0 : ∀ D, H1 D = none → Pv D 0 (upd H1 D (.lst []))) (hl : ∀ D i H, H1 D = none → Pv D i H → Stays K H0 H x xs)
    (hs : ∀ D i y H, H1 D = none → xs[i]? = some y → Pv D i H → g y (wipe σ vs) H fun σ2 H2 => wipe σ2 vs = wipe σ vs ∧ tt σ2 H2 fun b H3 =>
      if b = true then te σ2 H3 fun z H4 => ∃ acc, H4 D = some (.lst acc) ∧ acc.length < sizeLine ∧ Pv D (i + 1) (upd H4 D (.lst (acc ++ [z]))) else Pv D (i + 1) H3)
    (hd : ∀ D H, H1 D = none → Pv D xs.length H → Q (.ref D) H) : LcA K g tt te vs σ Q x H1 := by
  obtain ⟨a, e, hq⟩ := hx
  subst e
  refine ⟨a, rfl, ?_⟩
  rcases hq with hq | hq
  · exact .inl ⟨⟨xs, (h01 a rfl).1 hq⟩, fun D nD => lc_list (K := K) (a := a) (xs := xs) (Pv D) (h0 D nD) (fun i H _ q => (hl D i H nD q a rfl).1 hq) (fun i y H hy q => hs D i y H nD hy q) fun H q => hd D H nD q⟩
  · exact .inr ⟨⟨xs, (h01 a rfl).2 hq⟩, fun D nD => lc_tup (K := K) (a := a) (xs := xs) (Pv D) (h0 D nD) (fun i H _ q => (hl D i H nD q a rfl).2 hq) (fun i y H hy q => hs D i y H nD hy q) fun H q => hd D H nD q⟩
theorem pe_lcA {elt tg iter : Expr} {ifs : List Expr} {scope : Scope} {own : List (Str × Nat)} {pos : Pos} {wi : TE} {g : TG} {tt : TT} {te : TE} (hc : X.calm = true) (hN : X.N.Nodup) (hi : PE X iter wi) (ok : BlkOk X.N X.env.scope scope own)
    (hg : ∀ (s : Shared) (H : Hp) (C : Addr) (cl : List (Str × Addr)) (fp : List Addr), PG (X.blk s H scope (compEnvC scope cl C X.env) fp) tg g) (ht : ∀ (s : Shared) (H : Hp) (C : Addr) (cl : List (Str × Addr)) (fp : List Addr), PTs (X.blk s H scope (compEnvC scope cl C X.env) fp) ifs tt)
    (he : ∀ (s : Shared) (H : Hp) (C : Addr) (cl : List (Str × Addr)) (fp : List Addr), PE (X.blk s H scope (compEnvC scope cl C X.env) fp) elt te) (hs : ∀ x, foldedSetIterable iter X.env x = pure x := by intro _; rfl) :
    PE X (.ListComp elt [⟨tg, iter, ifs, 0⟩] scope pos) (tLcA X.K wi g tt te (own.map (·.2))) := pe_lc hc hN (pi_seq hi) ok hg ht he hs
theorem ps_setLcA {i : Nat} {y : Str} {py : Pos} {elt tg iter : Expr} {ifs : List Expr} {scope : Scope} {own : List (Str × Nat)} {pos spos : Pos} {wi : TE} {g : TG} {tt : TT} {te : TE} (hc : X.calm = true) (hN : X.N.Nodup) (hy : X.N[i]? = some y) (hyl : X.env.scope.names.lookup y = some .local)
    (hsw : swapsWith (.ListComp elt [⟨tg, iter, ifs, 0⟩] scope pos) (some (.Name y py)) spos.line X.env = pure true) (hi : PE X iter wi) (ok : BlkOk X.N X.env.scope scope own)
    (hg : ∀ (s : Shared) (H : Hp) (C : Addr) (cl : List (Str × Addr)) (fp : List Addr), PG (X.blk s H scope (compEnvC scope cl C X.env) fp) tg g) (ht : ∀ (s : Shared) (H : Hp) (C : Addr) (cl : List (Str × Addr)) (fp : List Addr), PTs (X.blk s H scope (compEnvC scope cl C X.env) fp) ifs tt)
    (he : ∀ (s : Shared) (H : Hp) (C : Addr) (cl : List (Str × Addr)) (fp : List Addr), PE (X.blk s H scope (compEnvC scope cl C X.env) fp) elt te) (hs : ∀ x, foldedSetIterable iter X.env x = pure x := by intro _; rfl) :
    PS X (.Assign [.Name y py] (.ListComp elt [⟨tg, iter, ifs, 0⟩] scope pos) spos) (tAsg (tLcA X.K wi g tt te (own.map (·.2))) (gName i)) := ps_setLc hc hN hy hyl hsw (pi_seq hi) ok hg ht he hs
end
section
variable {X : Cx} {CX : CXT} {k : Nat} {f : Addr} {fd : FuncData} {ps ks : List Str} {sp : Sp} {E : XK} {x : Str} {p pos : Pos} {kws : List Keyword} {tk : TA} {g : List Value → List Value → List Value} {gV : List V → List V → List V}
/-- f(k = v, ..), no positional argument -/
def tCallK0 (sp : Sp) (gV : List V → List V → List V) (E : XK) (tk : TA) : TE := fun σ H Q => tk σ H fun zs H2 => sp (gV [] zs) H2 Q E
theorem pe_callK0 (F : FnOk X.prog X.w X.K X.mg X.base CX k f fd ps sp) (hr : Room k X.A) (hg : Gl X x) (hm : X.mg x = some (.ref f)) (hk : PySem.W.keepIn X.K (.ref f) = true) (hb : KBinds X.K fd ps ks g gV) (hx : Passes CX X E)
    (hkw : PK X kws tk) (hall : (backToKw pos (keywordEach kws X.env)).all (·.1.isSome) = true := by rfl) (hks : (backToKw pos (keywordEach kws X.env)).filterMap (·.1) = ks := by rfl) (hdb : (x == ("__debug__" : Str)) = false := by decide)
    (hpl : ((backTo pos (starEach [] X.env)).any (·.1) || (backToKw pos (keywordEach kws X.env)).any (·.1.isNone)) = false := by rfl) : PE X (.Call (.Name x p) [] kws pos) (tCallK0 sp gV E tk) := by
  refine ⟨fun pins s σ H Q I h => ?_⟩
  refine wpAny_Call_Name_kw (ld_glob I hg hm ?_ hdb)
  refine PySem.W.callWith_KW0 (h₀ := X.base) I.ok.mod.kin hk hall (thn (hkw.run pos pins s σ H _ I h) fun ws s2 ⟨zs, H2, I2, rz, q2⟩ => ⟨I2.kIn, ?_⟩) hpl
  rw [hks]
  exact run_fnk (us := []) (vs := []) F hr hb hx I2 .nil rz q2
/-- one parameter, handed over by its name -/
def oneK {α : Type} : List α → List α → List α
  | [], zs => zs
  | _ :: _, _ => []
theorem kbind1 {K : PySem.W.Frag} {fd : FuncData} {x : Str} (h : ∀ u : Value, bindArgs fd ⟨[], [(x, u)]⟩ = pure [(x, u)]) : KBinds K fd [x] [x] oneK oneK where
  to := fun s us ws _ hl => by
    match us, ws, hl with
    | [], [w], _ => exact .of_eq (h w)
  rel := fun r rz => by
    cases r with
    | nil => exact rz
    | cons _ _ => exact .nil
end
end Cx

namespace Cx
open PySem PySem.Spec PyProof.Rows L2
def topS (i : Nat) : Stmt := PySem.Challenge.pw_crosshomes_k01_households_and_homes.main.body.getD i (.Pass ⟨0, 0, 0, 0⟩)
abbrev sHouseholds : Stmt := topS 1
abbrev sHomes : Stmt := topS 2
abbrev sBox : Stmt := topS 4
abbrev sTake : Stmt := topS 5
abbrev sCells : Stmt := topS 6
abbrev sSame : Stmt := topS 8
abbrev sFew : Stmt := topS 9
abbrev sMixed : Stmt := topS 10
abbrev sTome : Stmt := topS 11
abbrev sLists : Stmt := topS 12
abbrev sSix : Stmt := topS 13
abbrev sBlend : Stmt := topS 14
abbrev sByHand : Stmt := topS 15
abbrev sRight : Stmt := topS 16
abbrev sLaw : Stmt := topS 17
theorem Stays.of {K : PySem.W.Frag} {H1 H : Hp} {x : V} {xs : List V} (s : Same H1 H) : Stays K H1 H x xs := fun _ _ => ⟨fun h => s.seq h, fun h => by
  rcases h with (h | ⟨o, h⟩) | h
  · exact .inl (.inl (s _ _ h))
  · exact .inl (.inr ⟨o, s _ _ h⟩)
  · exact .inr h⟩
theorem st_tup {K : PySem.W.Frag} {H H' : Hp} {a : Addr} {xs : List V} (e : Same H H') (h : SqT K H a xs) : SqT K H' a xs := by
  rcases h with (h | ⟨o, h⟩) | h
  · exact .inl (.inl (e _ _ h))
  · exact .inl (.inr ⟨o, e _ _ h⟩)
  · exact .inr h
theorem st_sv {K : PySem.W.Frag} {H H' : Hp} {x : V} {xs : List V} (e : Same H H') (h : SeqV K H x xs) : SeqV K H' x xs := by
  obtain ⟨a, rfl, h⟩ := h
  exact ⟨a, rfl, h.imp (fun z => e.seq z) fun z => st_tup e z⟩
theorem same_new {H : Hp} {p : Addr} {o : HO} (h : H p = none) : Same H (upd H p o) := fun b x e => by
  rw [upd_ne (ne_of_none e h)]
  exact e
/-! ### what a sheet is, of lists or tuples -/
def RowsV (K : PySem.W.Frag) (H : Hp) : List V → List (Str × List Str) → Prop := Paired fun v q => ∃ w, SeqV K H v [.str q.1, w] ∧ SeqV K H w (q.2.map V.str)
structure ShV (K : PySem.W.Frag) (H : Hp) (x : V) (rs : List (Str × List Str)) (es : List Str) : Prop where
  ex : ∃ r e rows, SeqV K H x [r, e] ∧ SeqV K H r rows ∧ RowsV K H rows rs ∧ SeqV K H e (es.map V.str)
theorem RowsV.at {K : PySem.W.Frag} {H : Hp} : ∀ {rows : List V} {rs : List (Str × List Str)} {i : Nat} {y : V}, RowsV K H rows rs → rows[i]? = some y → ∃ q, rs[i]? = some q ∧ ∃ w, SeqV K H y [.str q.1, w] ∧ SeqV K H w (q.2.map V.str)
  | _, _, 0, y, .cons h _, e => by
    cases e
    exact ⟨_, rfl, h⟩
  | _, _, i + 1, y, .cons _ t, e => RowsV.at (i := i) t e
theorem st_rows {K : PySem.W.Frag} {H H' : Hp} (e : Same H H') {rows : List V} {rs : List (Str × List Str)} (h : RowsV K H rows rs) : RowsV K H' rows rs :=
  Paired.mapP h fun _ _ ⟨w, a, b⟩ => ⟨w, st_sv e a, st_sv e b⟩
theorem st_sh {K : PySem.W.Frag} {H H' : Hp} {x : V} {rs : List (Str × List Str)} {es : List Str} (e : Same H H') (h : ShV K H x rs es) : ShV K H' x rs es := by
  obtain ⟨r, m, rows, a, b, c, d⟩ := h.ex
  exact ⟨r, m, rows, st_sv e a, st_sv e b, st_rows e c, st_sv e d⟩
theorem ix_sv {K : PySem.W.Frag} {H : Hp} {x v : V} {xs : List V} {i : Int} {Q : VK} (h : SeqV K H x xs) (e : atI xs i = some v) (q : Q v H) : rIx K x (.int i) H Q := by
  obtain ⟨a, rfl, h | h⟩ := h
  · exact .inl ⟨a, xs, i, v, rfl, rfl, h, e, q⟩
  · exact .inr (.inl ⟨a, xs, i, v, rfl, rfl, h, e, q⟩)
section
variable {P : Program} {w : World} {K : PySem.W.Frag} {mg : Str → Option Value} {base : Heap}
/-! ### households -/
def spHouseholds (K : PySem.W.Frag) : Sp := fun vs H Q _ => ∃ x rs es, vs = [x] ∧ ShV K H x rs es ∧ rs.length ≤ 1000 ∧
  ∀ p H', Same H H' → H p = none → H' p = some (.tup (rs.map fun q => V.str q.1)) → Q (.ref p) H'
theorem scHs : FnScope ["sheet", "name", "wants"] ["sheet"] (defScope sHouseholds) := ⟨rfl, rfl, rfl, by decide +kernel, rfl, by decide +kernel, by decide +kernel⟩
theorem ok_households {f : Addr} {fd : FuncData} (F : Fun K "households" "households" sHouseholds f fd) (mt : mg "tuple" = none) : FnOk P w K mg base CX0 1 f fd ["sheet"] (spHouseholds K) := by
  refine F.ok scHs (fun vs H Q E h => ?_) (fun cdv A outer s H vs Q E hr h => ?_)
  · obtain ⟨x, rs, es, rfl, _⟩ := h
    rfl
  obtain ⟨x, rs, es, rfl, S, hz, k⟩ := h
  obtain ⟨r, e, rows, h1, h2, h3, h4⟩ := S.ex
  refine ⟨_, pss_one (ps_ret (pe_callTy call_tuple_of (by rfl) mt (by decide +kernel) (pa_cons
    (pe_lcA (own := [("name", 1), ("wants", 2)]) (g := gSeq K 2 (gCons (gName 1) (gCons (gName 2) gNil))) (tt := tYes) rfl scHs.nd (pe_ix ix_seq (pv 0) pe_int (fun _ _ => rfl)) (blkOk_by (N := ["sheet", "name", "wants"]) (sc := defScope sHouseholds) (by decide +kernel))
      (fun _ _ _ _ _ => pg_seq rfl (pgs_cons (pg_name (i := 1) scHs.nd rfl (.inl rfl)) (pgs_cons (pg_name (i := 2) scHs.nd rfl (.inl rfl)) pgs_nil))) (fun _ _ _ _ _ => pts_nil) (fun _ _ _ _ _ => pv 1)) pa_nil))), ?_⟩
  refine ⟨x, rfl, ?_⟩
  refine ix_sv h1 (atI_nat (j := 0) rfl) ?_
  refine lc_any h2 (Stays.of (Same.refl H)) (fun D i H' => Same H H' ∧ H' D = some (.lst ((rs.take i).map fun q => V.str q.1))) (fun D nD => ⟨same_new nD, upd_same⟩) (fun D i H' _ q => Stays.of q.1) (fun D i y H' nD hy ⟨sm, hD⟩ => ?_) (fun D H' nD ⟨sm, hD⟩ => ?_)
  · obtain ⟨q, hq, w2, hw, _⟩ := h3.at hy
    refine ⟨_, st_sv sm hw, rfl, _, _, rfl, _, _, rfl, rfl, rfl, ?_⟩
    refine ⟨_, rfl, _, hD, ?_, fun b o eb => ?_, ?_⟩
    · rw [List.length_map, List.length_take]
      exact Nat.lt_of_le_of_lt (Nat.min_le_right _ _) (small1000 hz)
    · rw [upd_ne (ne_of_none eb nD)]
      exact sm _ _ eb
    · rw [upd_same, List.take_add_one, hq]
      simp
  · refine ⟨D, _, rfl, .inl ⟨SqL.of hD, fun p np => ?_⟩⟩
    refine k p _ (sm.trans (same_new np)) (sm.free np) ?_
    rw [upd_same, List.take_of_length_le (by rw [Paired.length h3]; exact Nat.le_refl _)]
/-! ### homes -/
def spHomes (K : PySem.W.Frag) : Sp := fun vs H Q _ => ∃ x rs es, vs = [x] ∧ ShV K H x rs es ∧ rs.length + es.length < 64 ∧
  ∀ p ys H', Same H H' → H p = none → ys.Perm (rs.map (·.1) ++ es) → sortedS ys = true → H' p = some (.tup (ys.map V.str)) → Q (.ref p) H'
theorem scHo : FnScope ["sheet"] ["sheet"] (defScope sHomes) := ⟨rfl, rfl, rfl, by decide +kernel, rfl, by decide +kernel, by decide +kernel⟩
theorem ok_homes {f g : Addr} {fd gd : FuncData} (F : Fun K "homes" "homes" sHomes f fd) (G : FnOk P w K mg base CX0 1 g gd ["sheet"] (spHouseholds K)) (bG : Binds K gd ["sheet"] []) (kG : PySem.W.keepIn K (.ref g) = true) (mG : mg "households" = some (.ref g))
    (mt : mg "tuple" = none) (ms : mg "sorted" = none) : FnOk P w K mg base CX0 2 f fd ["sheet"] (spHomes K) := by
  refine F.ok scHo (fun vs H Q E h => ?_) (fun cdv A outer s H vs Q E hr h => ?_)
  · obtain ⟨x, rs, es, rfl, _⟩ := h
    rfl
  obtain ⟨x, rs, es, rfl, S, hz, k⟩ := h
  refine ⟨_, pss_one (ps_ret (pe_callTy call_tuple_of (by rfl) mt (by decide +kernel) (pa_cons (pe_callB cr_sortedS (by rfl) ms (by decide +kernel) (pa_cons
    (pe_lst (StX.pa_star (pe_call G hr (by rfl) mG kG bG .nil pass0 (pa_cons (pv 0) pa_nil)) (StX.pa_star (pe_ix ix_seq (pv 0) pe_int (fun _ _ => rfl)) pa_nil))) pa_nil)) pa_nil))), ?_⟩
  refine ⟨x, rfl, x, rs, es, rfl, S, by omega, fun p H1 s1 np hp => ?_⟩
  obtain ⟨r, e, rows, h1, h2, h3, h4⟩ := (st_sh s1 S).ex
  refine ⟨p, _, rfl, .inl (.inl (.inl hp)), x, rfl, ix_sv h1 (atI_nat (j := 1) rfl) ?_⟩
  obtain ⟨b, rfl, hb⟩ := h4
  refine ⟨b, _, rfl, hb.symm, ?_⟩
  have el : (rs.map fun q : Str × List Str => V.str q.1) ++ (es.map V.str ++ []) = (rs.map (·.1) ++ es).map V.str := by
    rw [List.append_nil, List.map_append, List.map_map]
    rfl
  have hl : (rs.map (·.1) ++ es).length = rs.length + es.length := by
    rw [List.length_append, List.length_map]
  show ((rs.map fun q : Str × List Str => V.str q.1) ++ (es.map V.str ++ [])).length ≤ sizeLine ∧ _
  rw [el]
  refine ⟨?_, fun l nl => ?_⟩
  · rw [List.length_map, hl]
    exact Nat.le_of_lt (small1000 (by omega))
  refine ⟨l, _, rfl, .inl (.inl upd_same), by rw [hl]; exact hz, fun ys q pm so nq => ?_⟩
  refine ⟨q, _, rfl, .inl ⟨SqL.of upd_same, fun d nd => ?_⟩⟩
  have s3 : Same H (upd (upd H1 l (.lst ((rs.map (·.1) ++ es).map V.str))) q (.lst (ys.map V.str))) := s1.trans ((same_new nl).trans (same_new nq))
  exact k d ys _ (s3.trans (same_new nd)) (s3.free nd) pm so upd_same
end
/-! ### the urn -/
def Keep (u : Addr) (H H' : Hp) : Prop := ∀ b o, b ≠ u → H b = some o → H' b = some o
def hide (u : Addr) (H : Hp) : Hp := fun b => if b = u then none else H b
def UrnAt (u : Addr) (H : Hp) (n : Nat) : Prop := ∃ a b c : Int, H u = some (.lst [.int a, .int b, .int c]) ∧ 0 ≤ c ∧ c ≤ n
theorem hide_at {u : Addr} {H : Hp} : hide u H u = none := if_pos rfl
theorem hide_ne {u b : Addr} {H : Hp} (h : b ≠ u) : hide u H b = H b := if_neg h
theorem hide_le {u : Addr} {H : Hp} : Same (hide u H) H := fun b o e => by
  by_cases c : b = u
  · rw [c, hide_at] at e
    cases e
  · rw [hide_ne c] at e
    exact e
theorem keep_refl (u : Addr) (H : Hp) : Keep u H H := fun _ _ _ e => e
theorem Keep.trans {u : Addr} {H H1 H2 : Hp} (a : Keep u H H1) (b : Keep u H1 H2) : Keep u H H2 := fun c o n e => b c o n (a c o n e)
theorem Keep.same {u : Addr} {H H' : Hp} (a : Keep u H H') : Same (hide u H) (hide u H') := fun b o e => by
  by_cases c : b = u
  · rw [c, hide_at] at e
    cases e
  · rw [hide_ne c] at e ⊢
    exact a b o c e
theorem keep_of_same {u : Addr} {H H' : Hp} (a : Same H H') : Keep u H H' := fun b o _ e => a b o e
theorem keep_new {u p : Addr} {H : Hp} {o : HO} (h : H p = none) : Keep u H (upd H p o) := keep_of_same (same_new h)
theorem keep_u {u : Addr} {H : Hp} {o : HO} : Keep u H (upd H u o) := fun b x n e => by
  rw [upd_ne n]
  exact e
/-- a store to what was not there ahead -/
theorem Keep.put {u p : Addr} {H H1 : Hp} {o : HO} (a : Keep u H H1) (h : H p = none) : Keep u H (upd H1 p o) := fun b x n e => by
  rw [upd_ne (ne_of_none e h)]
  exact a b x n e
theorem UrnAt.ne {u p : Addr} {H : Hp} {n : Nat} (U : UrnAt u H n) (h : H p = none) : p ≠ u := by
  obtain ⟨_, _, _, e, _⟩ := U
  exact (ne_of_none e h).symm
theorem UrnAt.upd {u p : Addr} {H : Hp} {n : Nat} {o : HO} (U : UrnAt u H n) (h : p ≠ u) : UrnAt u (upd H p o) n := by
  obtain ⟨a, b, c, e, r⟩ := U
  exact ⟨a, b, c, by rw [upd_ne h.symm]; exact e, r⟩
theorem UrnAt.le {u : Addr} {H : Hp} {n m : Nat} (U : UrnAt u H n) (h : n ≤ m) : UrnAt u H m := by
  obtain ⟨a, b, c, e, r1, r2⟩ := U
  exact ⟨a, b, c, e, r1, by omega⟩
theorem Keep.free {u p : Addr} {H H' : Hp} (a : Keep u H H') (n : p ≠ u) (h : H' p = none) : H p = none := by
  cases q : H p with
  | none => rfl
  | some o =>
    rw [a p o n q] at h
    cases h
theorem hide_upd {u p : Addr} {H : Hp} {o : HO} (h : p ≠ u) : hide u (upd H p o) = upd (hide u H) p o := by
  funext b
  by_cases c : b = u
  · subst c
    rw [hide_at, upd_ne h.symm, hide_at]
  · rw [hide_ne c]
    by_cases d : b = p
    · subst d
      rw [upd_same, upd_same]
    · rw [upd_ne d, upd_ne d, hide_ne c]
section
variable {P : Program} {w : World} {K : PySem.W.Frag} {mg : Str → Option Value} {base : Heap}
def spTake : Sp := fun vs H Q _ => ∃ (u : Addr) (low : Int) (n : Nat), vs = [.ref u, .int low] ∧ UrnAt u H n ∧ n ≤ 1000000 ∧ 0 < low ∧ low < 1000 ∧
  ∀ r H', 0 ≤ r → r < low → UrnAt u H' (n + 1) → Keep u H H' → Q (.int r) H'
theorem scTk : FnScope ["_law_urn", "_law_low_so", "_law_drawn", "_law_once", "_law_far", "_law_twice"] ["_law_urn", "_law_low_so"] (defScope sTake) := ⟨rfl, rfl, rfl, by decide +kernel, rfl, by decide +kernel, by decide +kernel⟩
theorem ok_take {f : Addr} {fd : FuncData} (F : Fun K "_law_take" "_law_take" sTake f fd) (mi : mg "int" = none) : FnOk P w K mg base CX0 1 f fd ["_law_urn", "_law_low_so"] spTake := by
  refine F.ok scTk (fun vs H Q E h => ?_) (fun cdv A outer s H vs Q E hr h => ?_)
  · obtain ⟨u, low, n, rfl, _⟩ := h
    rfl
  obtain ⟨u, low, n, rfl, ⟨a, b, c, hu, c0, c1⟩, hn, l0, l1, k⟩ := h
  refine ⟨_, pss_cons (ps_if (pt_cmpR op_gt (pe_ix ix_list (pv 0) pe_int (fun _ _ => rfl)) pe_int (nomark _))
      (pss_cons (ps_set (i := 2) scTk.nd rfl (.inl rfl) (pe_op op_mod (pe_callTy call_int1 (by rfl) mi (by decide +kernel) (pa_cons (pe_ix ix_list (pv 0) pe_int (fun _ _ => rfl)) pa_nil)) (pv 1)))
      (pss_cons (ps_asg (pe_op op_fdiv (pe_ix ix_list (pv 0) pe_int (fun _ _ => rfl)) (pv 1)) (pg_sub (pv 0) pe_int set_list))
      (pss_one (ps_ret (pv 2))))) pss_nil)
    (pss_cons (ps_asg (pe_op op_add (pe_ix ix_list (pv 0) pe_int (fun _ _ => rfl)) pe_int) (pg_sub (pv 0) pe_int set_list))
    (pss_cons (ps_set (i := 3) scTk.nd rfl (.inl rfl) (pe_op op_mod (pe_callTy call_int1 (by rfl) mi (by decide +kernel) (pa_cons (pe_op op_mul (pe_op op_add (pe_ix ix_list (pv 0) pe_int (fun _ _ => rfl)) (pe_op op_mul pe_int (pe_ix ix_list (pv 0) pe_int (fun _ _ => rfl)))) (pe_op op_add pe_int (pe_ix ix_list (pv 0) pe_int (fun _ _ => rfl)))) pa_nil)) pe_int))
    (pss_cons (ps_set (i := 4) scTk.nd rfl (.inl rfl) (pe_op op_add (pe_op op_mod (pe_callTy call_int1 (by rfl) mi (by decide +kernel) (pa_cons (pv 3) pa_nil)) pe_int) pe_int))
    (pss_cons (ps_set (i := 5) scTk.nd rfl (.inl rfl) (pe_op op_mod (pe_callTy call_int1 (by rfl) mi (by decide +kernel) (pa_cons (pe_op op_mul (pe_op op_add (pe_op op_add (pv 3) (pe_ix ix_list (pv 0) pe_int (fun _ _ => rfl))) (pe_op op_fdiv (pe_ix ix_list (pv 0) pe_int (fun _ _ => rfl)) pe_int)) (pv 4)) pa_nil)) pe_int))
    (pss_one (ps_ret (pe_op op_mod (pe_callTy call_int1 (by rfl) mi (by decide +kernel) (pa_cons (pe_op op_fdiv (pe_op op_mod (pe_callTy call_int1 (by rfl) mi (by decide +kernel) (pa_cons (pe_op op_add (pe_op op_mul (pv 5) pe_int) (pv 3)) pa_nil)) pe_int) pe_int) pa_nil)) (pv 1)))))))), ?_⟩
  refine ⟨_, rfl, u, _, _, _, rfl, rfl, SqL.of hu, atI_nat (j := 0) rfl, _, _, rfl, rfl, _, rfl, ite2 (fun _ => ?_) (fun _ => ?_)⟩
  · refine ⟨_, rfl, u, _, _, _, rfl, rfl, SqL.of hu, atI_nat (j := 0) rfl, .inl ⟨_, rfl, _, rfl, _, _, rfl, rfl, l0, ?_⟩⟩
    refine ⟨_, rfl, u, _, _, _, rfl, rfl, SqL.of hu, atI_nat (j := 0) rfl, _, rfl, _, _, rfl, rfl, ⟨l0, by omega⟩, _, rfl, u, _, _, 0, rfl, rfl, hu, rfl, ?_⟩
    refine ⟨_, rfl, ?_⟩
    exact k _ _ (Int.emod_nonneg _ (by omega)) (Int.emod_lt_of_pos _ l0) ⟨_, _, _, upd_same, c0, by omega⟩ keep_u
  · refine ⟨_, rfl, u, _, _, _, rfl, rfl, SqL.of hu, atI_nat (j := 2) rfl, _, _, rfl, rfl, _, rfl, u, _, _, 2, rfl, rfl, hu, rfl, ?_⟩
    have hv : upd H u (.lst [.int a, .int b, .int (c + 1)]) u = some (.lst [.int a, .int b, .int (c + 1)]) := upd_same
    have lu : SqL K (upd H u (.lst [.int a, .int b, .int (c + 1)])) u [.int a, .int b, .int (c + 1)] := SqL.of hv
    refine ⟨_, rfl, u, _, _, _, rfl, rfl, lu, atI_nat (j := 1) rfl, _, rfl, u, _, _, _, rfl, rfl, lu, atI_nat (j := 2) rfl, _, _, rfl, rfl, .inl (by omega), _, _, rfl, rfl, _, rfl, u, _, _, _, rfl, rfl, lu, atI_nat (j := 2) rfl, _, _, rfl, rfl, _, _, rfl, rfl, .inr (by omega), .inl ⟨_, rfl, _, _, rfl, rfl, (by show (0 : Int) < 2147483647; decide), ?_⟩⟩
    refine ⟨_, rfl, .inl ⟨_, rfl, _, _, rfl, rfl, (by show (0 : Int) < 40009; decide), _, _, rfl, rfl, ?_⟩⟩
    have m1 := Int.emod_nonneg ((b + 48271 * (c + 1)) * (39373 + (c + 1)) % 2147483647) (show (40009 : Int) ≠ 0 by decide)
    have m2 := Int.emod_lt_of_pos ((b + 48271 * (c + 1)) * (39373 + (c + 1)) % 2147483647) (show (0 : Int) < 40009 by decide)
    refine ⟨_, rfl, _, rfl, u, _, _, _, rfl, rfl, lu, atI_nat (j := 2) rfl, _, _, rfl, rfl, _, rfl, u, _, _, _, rfl, rfl, lu, atI_nat (j := 1) rfl, _, _, rfl, rfl, ⟨by decide, by decide⟩, _, _, rfl, rfl, _, rfl, _, _, rfl, rfl, .inr (by omega), .inl ⟨_, rfl, _, _, rfl, rfl, (by show (0 : Int) < 2147483629; decide), ?_⟩⟩
    refine ⟨_, rfl, _, _, rfl, rfl, .inr (by decide), _, rfl, _, _, rfl, rfl, .inl ⟨_, rfl, _, _, rfl, rfl, (by show (0 : Int) < 2147483587; decide), _, _, rfl, rfl, ⟨by decide, by decide⟩, .inl ⟨_, rfl, _, rfl, _, _, rfl, rfl, l0, ?_⟩⟩⟩
    exact k _ _ (Int.emod_nonneg _ (by omega)) (Int.emod_lt_of_pos _ l0) ⟨_, _, _, hv, by omega, by omega⟩ keep_u
end
end Cx

namespace Cx
open PySem PySem.Spec PyProof.Rows L2
theorem keep_under {u : Addr} {H H' : Hp} (k : Keep u H H') : Same (hide u H) H' := k.same.trans hide_le
theorem map_at {α β : Type} {f : α → β} {xs : List α} {i : Nat} {y : β} (h : (xs.map f)[i]? = some y) : ∃ z, xs[i]? = some z ∧ y = f z := by
  rw [List.getElem?_map] at h
  cases e : xs[i]? with
  | none =>
    rw [e] at h
    cases h
  | some z =>
    rw [e] at h
    exact ⟨z, rfl, (Option.some.inj h).symm⟩
theorem erase_map {α β : Type} (f : α → β) : ∀ (l : List α) (j : Nat), (l.map f).eraseIdx j = (l.eraseIdx j).map f
  | [], _ => rfl
  | _ :: _, 0 => rfl
  | x :: l, j + 1 => by
    show f x :: (l.map f).eraseIdx j = f x :: (l.eraseIdx j).map f
    rw [erase_map f l j]
theorem len_sv {K : PySem.W.Frag} {H : Hp} {x : V} {xs : List V} {Q : VK} (h : SeqV K H x xs) (q : Q (.int xs.length) H) : ∃ p ys, ([x] : List V) = [.ref p] ∧ (SqL K H p ys ∨ SqT K H p ys) ∧ Q (.int (ys.length : Nat)) H := by
  obtain ⟨a, rfl, h⟩ := h
  exact ⟨a, xs, rfl, h, q⟩
section
variable {P : Program} {w : World} {K : PySem.W.Frag} {mg : Str → Option Value} {base : Heap}
/-! ### few -/
def spFew (K : PySem.W.Frag) : Sp := fun vs H Q _ => ∃ (u : Addr) (x : V) (xs : List Str) (low : Int) (n : Nat), vs = [.ref u, x, .int low] ∧ UrnAt u H n ∧ n + xs.length ≤ 1000000 ∧ 0 < low ∧ low < 1000 ∧ SeqV K (hide u H) x (xs.map V.str) ∧ xs.length ≤ 1000 ∧
  ∀ (ys : List Str) p H', List.Sublist ys xs → UrnAt u H' (n + xs.length) → Keep u H H' → p ≠ u → H p = none → H' p = some (.tup (ys.map V.str)) → Q (.ref p) H'
theorem scFw : FnScope ["_law_urn", "_law_pool", "_law_one_of", "_law_own"] ["_law_urn", "_law_pool", "_law_one_of"] (defScope sFew) := ⟨rfl, rfl, rfl, by decide +kernel, rfl, by decide +kernel, by decide +kernel⟩
theorem ok_few {f g : Addr} {fd gd : FuncData} (F : Fun K "_law_few" "_law_few" sFew f fd) (G : FnOk P w K mg base CX0 1 g gd ["_law_urn", "_law_low_so"] spTake) (bG : Binds K gd ["_law_urn", "_law_low_so"] []) (kG : PySem.W.keepIn K (.ref g) = true) (mG : mg "_law_take" = some (.ref g))
    (mt : mg "tuple" = none) : FnOk P w K mg base CX0 2 f fd ["_law_urn", "_law_pool", "_law_one_of"] (spFew K) := by
  refine F.ok scFw (fun vs H Q E h => ?_) (fun cdv A outer s H vs Q E hr h => ?_)
  · obtain ⟨u, x, xs, low, n, rfl, _⟩ := h
    rfl
  obtain ⟨u, x, xs, low, n, rfl, U, hn, l0, l1, hx, hz, k⟩ := h
  refine ⟨_, pss_one (ps_ret (pe_callTy call_tuple_of (by rfl) mt (by decide +kernel) (pa_cons
    (pe_lcA (own := [("_law_own", 3)]) (g := gName 3) (tt := tTest (tOp rEq (tCall spTake [] E0 (tCons (tVar 0) (tCons (tVar 2) tNil))) (tC (.int 0)))) rfl scFw.nd (pv 1)
      (blkOk_by (N := ["_law_urn", "_law_pool", "_law_one_of", "_law_own"]) (sc := defScope sFew) (by decide +kernel))
      (fun _ _ _ _ _ => pg_name (i := 3) scFw.nd rfl (.inl rfl)) (fun _ _ _ _ _ => pts_one (pt_cmpR op_eq (pe_call G hr (by rfl) mG kG bG .nil pass0 (pa_cons (pv 0) (pa_cons (pv 2) pa_nil))) pe_int (nomark _))) (fun _ _ _ _ _ => pv 3)) pa_nil))), ?_⟩
  refine ⟨x, rfl, ?_⟩
  refine lc_any hx (Stays.of hide_le) (fun D i H' => ∃ ys : List Str, ys.Sublist (xs.take i) ∧ UrnAt u H' (n + i) ∧ Keep u H H' ∧ H' D = some (.lst (ys.map V.str)))
    (fun D nD => ⟨[], .slnil, U.upd (U.ne nD), keep_new nD, upd_same⟩) (fun D i H' _ ⟨_, _, _, kp, _⟩ => Stays.of (keep_under kp)) (fun D i y H' nD hy ⟨ys, sb, U1, kp, hD⟩ => ?_) (fun D H' nD ⟨ys, sb, U1, kp, hD⟩ => ?_)
  · obtain ⟨z, hz2, rfl⟩ := map_at hy
    have nu : D ≠ u := U.ne nD
    have hi : i < xs.length := (List.getElem?_eq_some_iff.mp hz2).1
    refine ⟨rfl, .ref u, rfl, .int low, rfl, u, low, n + i, rfl, U1, by omega, l0, l1, fun r H2 r0 r1 U2 k2 => ⟨rfl, _, rfl, ?_⟩⟩
    have hD2 := k2 D _ nu hD
    refine ite2 (fun _ => ?_) (fun _ => ?_)
    · refine ⟨_, rfl, _, hD2, ?_, ys ++ [z], ?_, U2.upd nu, (kp.trans k2).put nD, ?_⟩
      · rw [List.length_map]
        have := sb.length_le
        rw [List.length_take] at this
        exact small1000 (by omega)
      · rw [List.take_add_one, hz2]
        exact sb.append (List.Sublist.refl _)
      · rw [upd_same, List.map_append]
        rfl
    · refine ⟨ys, ?_, U2, kp.trans k2, hD2⟩
      rw [List.take_add_one]
      exact sb.trans (List.sublist_append_left _ _)
  · rw [List.length_map] at sb U1
    refine ⟨D, _, rfl, .inl ⟨SqL.of hD, fun p np => ?_⟩⟩
    have pu := U1.ne np
    rw [List.take_length] at sb
    exact k ys p _ sb (U1.upd pu) (kp.trans (keep_new np)) pu (kp.free pu np) upd_same
/-! ### mixed -/
def spMixed (K : PySem.W.Frag) : Sp := fun vs H Q _ => ∃ (u : Addr) (x : V) (xs : List Str) (n : Nat), vs = [.ref u, x] ∧ UrnAt u H n ∧ n + xs.length ≤ 1000000 ∧ SeqV K (hide u H) x (xs.map V.str) ∧ xs.length ≤ 900 ∧
  ∀ (ys : List Str) p H', ys.Perm xs → UrnAt u H' (n + xs.length) → Keep u H H' → p ≠ u → H p = none → H' p = some (.tup (ys.map V.str)) → Q (.ref p) H'
theorem scMx : FnScope ["_law_urn", "_law_pool", "_law_left", "_law_found", "_law_turn"] ["_law_urn", "_law_pool"] (defScope sMixed) := ⟨rfl, rfl, rfl, by decide +kernel, rfl, by decide +kernel, by decide +kernel⟩
theorem ok_mixed {f g : Addr} {fd gd : FuncData} (F : Fun K "_law_mixed" "_law_mixed" sMixed f fd) (G : FnOk P w K mg base CX0 1 g gd ["_law_urn", "_law_low_so"] spTake) (bG : Binds K gd ["_law_urn", "_law_low_so"] []) (kG : PySem.W.keepIn K (.ref g) = true) (mG : mg "_law_take" = some (.ref g))
    (mt : mg "tuple" = none) (ml : mg "list" = none) (mr : mg "range" = none) (mn : mg "len" = none) : FnOk P w K mg base CX0 2 f fd ["_law_urn", "_law_pool"] (spMixed K) := by
  refine F.ok scMx (fun vs H Q E h => ?_) (fun cdv A outer s H vs Q E hr h => ?_)
  · obtain ⟨u, x, xs, n, rfl, _⟩ := h
    rfl
  obtain ⟨u, x, xs, n, rfl, U, hn, hx, hz, k⟩ := h
  refine ⟨_, pss_cons (ps_par (i := 2) (j := 3) (by rfl) scMx.nd rfl rfl (by decide) rfl rfl (pa_cons (pe_callTy call_list_of (by rfl) ml (by decide +kernel) (pa_cons (pv 1) pa_nil)) (pa_cons (pe_lst pa_nil) pa_nil)) (by rfl))
    (pss_cons (ps_for PassesOwn.never rfl (pi_range1 (by rfl) mr (pa_cons (pe_callB call_len_seq (by rfl) mn PySem.boot_len (pa_cons (pv 1) pa_nil)) pa_nil)) (pg_name (i := 4) scMx.nd rfl (.inl rfl))
      (pss_one (ps_expr (pe_bm PySem.F.plainAttrs_list PySem.F.slot_list_append PySem.F.type_list_append mt_append (pv 3) (pa_cons
        (pe_bm PySem.F.plainAttrs_list PySem.F.slot_list_pop PySem.F.type_list_pop mt_popAt (pv 2) (pa_cons (pe_call G hr (by rfl) mG kG bG .nil pass0 (pa_cons (pv 0) (pa_cons (pe_callB call_len_seq (by rfl) mn PySem.boot_len (pa_cons (pv 2) pa_nil)) pa_nil))) pa_nil)) pa_nil)))))
    (pss_one (ps_ret (pe_callTy call_tuple_of (by rfl) mt (by decide +kernel) (pa_cons (pv 3) pa_nil))))), ?_⟩
  have hx1 := st_sv hide_le hx
  obtain ⟨a, rfl, ha⟩ := id hx1
  refine ⟨_, rfl, a, _, rfl, ha, fun L nL => ⟨Nat.zero_le _, fun F nF => ⟨_, _, rfl, ?_⟩⟩⟩
  have Lu := U.ne nL
  have U1 := U.upd (o := .lst (xs.map V.str)) Lu
  have Fu := U1.ne nF
  have FL : F ≠ L := fun e => by
    rw [e, upd_same] at nF
    cases nF
  have nF0 : H F = none := (same_new nL).free nF
  have k1 : Keep u H (upd (upd H L (.lst (xs.map V.str))) F (.lst [])) := (keep_new nL).trans (keep_new nF)
  have hx2 := st_sv (keep_under k1) hx
  obtain ⟨a', e', ha'⟩ := hx2
  cases e'
  refine ⟨_, rfl, a, _, rfl, ha', _, rfl, by rw [List.length_map]; omega, by rw [List.length_map]; omega, ?_⟩
  refine for_range (lo := 0) (n := (xs.map V.str).length) (fun i σ H' => ∃ (lf fo : List Str) (t : Option V), σ = [some (.ref u), some (.ref a), some (.ref L), some (.ref F), t] ∧ UrnAt u H' (n + i) ∧ Keep u H H' ∧ H' L = some (.lst (lf.map V.str)) ∧ H' F = some (.lst (fo.map V.str)) ∧ (fo ++ lf).Perm xs ∧ fo.length = i) ?_ ?_ ?_
  · exact ⟨xs, [], none, rfl, U1.upd Fu, k1, by rw [upd_ne FL.symm, upd_same], upd_same, List.Perm.refl _, rfl⟩
  · rintro i σ H' hi ⟨lf, fo, t, rfl, U2, k2, hL, hF, pm, fl⟩
    have pl := pm.length_eq
    rw [List.length_append, fl] at pl
    rw [List.length_map] at hi
    have hll : (lf.map V.str).length = lf.length := List.length_map _
    refine ⟨_, rfl, .inl ⟨rfl, _, SqL.of hF⟩, _, rfl, .inl ⟨rfl, _, SqL.of hL⟩, _, rfl, _, rfl, L, _, rfl, .inl (SqL.of hL), u, _, n + i, rfl, U2, by omega, by omega, by omega, fun r H2 r0 r1 U3 k3 => ?_⟩
    have hL2 := k3 L _ Lu hL
    have hF2 := k3 F _ Fu hF
    have hr2 : r.toNat < lf.length := by omega
    have gl : (lf.map V.str)[r.toNat]? = some (.str lf[r.toNat]) := by
      rw [List.getElem?_map, List.getElem?_eq_getElem hr2]
      rfl
    refine ⟨L, _, r, r.toNat, _, rfl, rfl, hL2, by omega, by omega, seqIndex_of r0 (by omega), gl, ?_⟩
    have hF3 : upd H2 L (.lst ((lf.map V.str).eraseIdx r.toNat)) F = some (.lst (fo.map V.str)) := by
      rw [upd_ne FL]
      exact hF2
    refine ⟨F, _, _, rfl, rfl, hF3, ?_, ?_⟩
    · rw [List.length_map]
      exact small1000 (by omega)
    refine ⟨lf.eraseIdx r.toNat, fo ++ [lf[r.toNat]], _, rfl, (U3.upd Lu).upd Fu, ((k2.trans k3).put nL).put nF0, ?_, ?_, ?_, ?_⟩
    · rw [upd_ne FL.symm, upd_same, erase_map]
    · rw [upd_same, List.map_append]
      rfl
    · refine List.Perm.trans ?_ pm
      rw [List.append_assoc]
      refine List.Perm.append_left fo ?_
      exact erase_perm lf r.toNat _ (List.getElem?_eq_getElem hr2)
    · rw [List.length_append, fl]
      rfl
  · rintro σ H' ⟨lf, fo, t, rfl, U2, k2, hL, hF, pm, fl⟩
    have pl := pm.length_eq
    rw [List.length_append, fl, List.length_map] at pl
    rw [List.length_map] at U2
    have e : lf = [] := List.eq_nil_of_length_eq_zero (by omega)
    subst e
    rw [List.append_nil] at pm
    refine ⟨_, rfl, F, _, rfl, .inl ⟨SqL.of hF, fun p np => ?_⟩⟩
    have pu := U2.ne np
    exact k fo p _ pm (U2.upd pu) (k2.trans (keep_new np)) pu (k2.free pu np) upd_same
end
end Cx

namespace Cx
open PySem PySem.Spec PyProof.Rows L2
theorem cut_map (ns : List Int) (lo hi : Option Int) : cutV (ns.map V.int) lo hi = ((ns.drop (HT.sIx ns.length 0 lo)).take (HT.sIx ns.length ns.length hi - HT.sIx ns.length 0 lo)).map V.int := by
  unfold cutV
  rw [List.length_map, List.map_take, List.map_drop]
theorem cut_1 (ns : List Int) (t : Nat) : cutV (ns.map V.int) none (some (t : Int)) = (ns.take t).map V.int := by
  rw [cut_map, HT.sIx_none, HT.sIx_nat, List.drop_zero, Nat.sub_zero]
  congr 1
  by_cases h : t ≤ ns.length
  · rw [Nat.min_eq_left h]
  · rw [Nat.min_eq_right (by omega), List.take_length, List.take_of_length_le (by omega)]
theorem cut_2 (ns : List Int) (t : Nat) : ∃ ks : List Int, cutV (ns.map V.int) (some (t : Int)) (some 63) = ks.map V.int ∧ ks.length ≤ ns.length ∧ (0 < ks.length → t < ns.length) := by
  refine ⟨_, cut_map ns (some (t : Int)) (some 63), ?_, fun h => ?_⟩
  · rw [List.length_take, List.length_drop]
    omega
  · rw [List.length_take, List.length_drop, HT.sIx_nat] at h
    omega
section
variable {P : Program} {w : World} {K : PySem.W.Frag} {mg : Str → Option Value} {base : Heap}
/-! ### box -/
def spBox (K : PySem.W.Frag) : Sp := fun vs H Q _ => ∃ (a : Addr) (ns : List Int) (k : Int), vs = [.ref a, .int k] ∧ SqL K H a (ns.map V.int) ∧ 0 ≤ k ∧ k < 100 ∧ ∀ u H', Same H H' → H u = none → UrnAt u H' 0 → Q (.ref u) H'
theorem scBx : FnScope ["_law_script", "_law_k", "_law_cell"] ["_law_script", "_law_k"] (defScope sBox) := ⟨rfl, rfl, rfl, by decide +kernel, rfl, by decide +kernel, by decide +kernel⟩
theorem ok_box {f : Addr} {fd : FuncData} (F : Fun K "_law_box" "_law_box" sBox f fd) (mi : mg "int" = none) (mn : mg "len" = none) (ma : mg "abs" = none) : FnOk P w K mg base CX0 1 f fd ["_law_script", "_law_k"] (spBox K) := by
  refine F.ok scBx (fun vs H Q E h => ?_) (fun cdv A outer s H vs Q E hr h => ?_)
  · obtain ⟨a, ns, k, rfl, _⟩ := h
    rfl
  obtain ⟨a, ns, k, rfl, hS, k0, k1, q⟩ := h
  refine ⟨_, pss_cons (ps_set (i := 2) scBx.nd rfl (.inl rfl) (pe_ifExp (pt_cmpR op_lt (pv 1) (pe_callB call_len_seq (by rfl) mn PySem.boot_len (pa_cons (pv 0) pa_nil)) (nomark _)) (pe_ix ix_list (pv 0) (pv 1) (fun _ _ => rfl)) pe_int))
    (pss_one (ps_ret (pe_lst (pa_cons (pe_op op_mul (pe_callB call_abs (by rfl) ma (by decide +kernel) (pa_cons (pv 2) pa_nil)) (pe_callTy call_int1 (by rfl) mi (by decide +kernel) (pa_cons (pe_cmpR op_ge (pe_callB call_abs (by rfl) ma (by decide +kernel) (pa_cons (pv 2) pa_nil)) (pe_op op_pow pe_int pe_int) (nomark _)) pa_nil)))
      (pa_cons (pe_op op_add (pe_op op_add (pe_op op_mod (pe_callTy call_int1 (by rfl) mi (by decide +kernel) (pa_cons (pv 2) pa_nil)) pe_int) (pe_op op_mul pe_int (pv 1))) pe_int) (pa_cons pe_int pa_nil)))))), ?_⟩
  have fin : ∀ c : Int, ∀ D : Ends, D.rt = Q → tRet (tLst (tCons (tOp (rI CMul fun i j => .int (i * j)) (tCB (fun xs H Q => ∃ i, xs = [.int i] ∧ Q (.int (if i < 0 then -i else i)) H) (tCons (tVar 2) tNil)) (tCB (fun xs H Q => (∃ i, xs = [.int i] ∧ Q (.int i) H) ∨ ∃ k, xs = [.bl k] ∧ Q (.int (if k then 1 else 0)) H) (tCons (tOp (rI0 fun i j => .bl (decide (j ≤ i))) (tCB (fun xs H Q => ∃ i, xs = [.int i] ∧ Q (.int (if i < 0 then -i else i)) H) (tCons (tVar 2) tNil)) (tOp (rI CPow fun i j => .int (i ^ j.toNat)) (tC (.int 10)) (tC (.int 18)))) tNil)))
      (tCons (tOp (rI0 fun i j => .int (i + j)) (tOp (rI0 fun i j => .int (i + j)) (tOp (rI (fun _ j => 0 < j) fun i j => .int (i % j)) (tCB (fun xs H Q => (∃ i, xs = [.int i] ∧ Q (.int i) H) ∨ ∃ k, xs = [.bl k] ∧ Q (.int (if k then 1 else 0)) H) (tCons (tVar 2) tNil)) (tC (.int 2305843009213693951))) (tOp (rI CMul fun i j => .int (i * j)) (tC (.int 39373)) (tVar 1))) (tC (.int 772))) (tCons (tC (.int 0)) tNil)))) D [some (.ref a), some (.int k), some (.int c)] H := fun c D hD => by
    refine ⟨_, rfl, _, rfl, _, rfl, _, rfl, _, _, rfl, rfl, ⟨by decide, by decide, by decide⟩, _, _, rfl, rfl, .inr ⟨_, rfl, _, _, rfl, rfl, .inr (by split <;> omega), ?_⟩⟩
    refine ⟨_, rfl, .inl ⟨_, rfl, _, _, rfl, rfl, (by show (0 : Int) < 2305843009213693951; decide), _, rfl, _, _, rfl, rfl, .inr (by omega), _, _, rfl, rfl, _, _, rfl, rfl, (by show 3 ≤ sizeLine; decide), fun u nu => ?_⟩⟩
    rw [hD]
    exact q u _ (same_new nu) nu ⟨_, _, _, upd_same, Int.le_refl 0, Int.le_refl 0⟩
  refine ⟨_, rfl, _, rfl, a, _, rfl, .inl hS, _, _, rfl, rfl, _, rfl, ite2 (fun c => ?_) (fun c => ?_)⟩
  · have c2 := of_decide_eq_true c
    rw [List.length_map] at c2
    have hk : k.toNat < ns.length := by omega
    have e : atI (ns.map V.int) ((k.toNat : Nat) : Int) = some (.int ns[k.toNat]) := atI_nat (by rw [List.getElem?_map, List.getElem?_eq_getElem hk]; rfl)
    rw [Int.toNat_of_nonneg k0] at e
    exact ⟨_, rfl, _, rfl, a, _, _, _, rfl, rfl, hS, e, fin _ _ rfl⟩
  · exact fin _ _ rfl
/-! ### cells -/
def spCells (K : PySem.W.Frag) : Sp := fun vs H Q _ => ∃ (a : Addr) (ns : List Int) (t : Nat), vs = [.ref a, .int (t : Int)] ∧ SqL K H a (ns.map V.int) ∧ ns.length ≤ 1000 ∧ 1 ≤ t ∧ t ≤ 60 ∧
  ∀ p (ms : List Int) H', Same H H' → H p = none → H' p = some (.lst (ms.map V.int)) → 1 ≤ ms.length → ms.length ≤ t → Q (.ref p) H'
theorem scCl : FnScope ["_law_script", "_law_top", "_law_cells_here", "_law_k", "_law_cell", "_law_at_so"] ["_law_script", "_law_top"] (defScope sCells) := ⟨rfl, rfl, rfl, by decide +kernel, rfl, by decide +kernel, by decide +kernel⟩
theorem ok_cells {f : Addr} {fd : FuncData} (F : Fun K "_law_cells" "_law_cells" sCells f fd) (mi : mg "int" = none) (ml : mg "list" = none) (me : mg "enumerate" = none) : FnOk P w K mg base CX0 1 f fd ["_law_script", "_law_top"] (spCells K) := by
  refine F.ok scCl (fun vs H Q E h => ?_) (fun cdv A outer s H vs Q E hr h => ?_)
  · obtain ⟨a, ns, t, rfl, _⟩ := h
    rfl
  obtain ⟨a, ns, t, rfl, hS, hz, t1, t2, q⟩ := h
  refine ⟨_, Evl.pss_cut (ps_set (i := 2) scCl.nd rfl (.inl rfl) (pe_orT (pe_callTy call_list_of (by rfl) ml (by decide +kernel) (pa_cons (pe_slice sl_list (pv 0) po_none (po_some (pv 1))) pa_nil)) (pe_one (pe_lst (pa_cons pe_int pa_nil)))))
    (pss_cons (ps_for PassesOwn.never rfl (pi_enum (by rfl) me (pa_cons (pe_slice sl_list (pv 0) (po_some (pv 1)) (po_some pe_int)) pa_nil)) (pg_tup rfl (pgs_cons (pg_name (i := 3) scCl.nd rfl (.inl rfl)) (pgs_cons (pg_name (i := 4) scCl.nd rfl (.inl rfl)) pgs_nil)))
      (pss_cons (ps_set (i := 5) scCl.nd rfl (.inl rfl) (pe_op op_mod (pe_callTy call_int1 (by rfl) mi (by decide +kernel) (pa_cons (pv 3) pa_nil)) (pv 1)))
      (pss_one (ps_asg (pe_op op_add (pe_ix ix_list (pv 2) (pv 5) (fun _ _ => rfl)) (pe_op op_mul (pv 4) (pe_op op_add (pv 3) pe_int))) (pg_sub (pv 2) (pv 5) set_list)))))
    (pss_one (ps_ret (pv 2)))), ?_⟩
  refine ⟨fun σ' H' => ∃ (L : Addr) (ms : List Int), σ' = [some (.ref a), some (.int (t : Int)), some (.ref L), none, none, none] ∧ Same H H' ∧ H L = none ∧ H' L = some (.lst (ms.map V.int)) ∧ 1 ≤ ms.length ∧ ms.length ≤ t ∧ (t < ns.length → ms.length = t), ?_, ?_⟩
  · refine ⟨_, rfl, _, rfl, _, rfl, a, _, rfl, hS, fun C nC => ⟨C, _, rfl, .inl (SqL.of upd_same), fun L nL => ?_⟩⟩
    rw [cut_1] at nL ⊢
    have s1 : Same H (upd (upd H C (.lst ((ns.take t).map V.int))) L (.lst ((ns.take t).map V.int))) := (same_new nC).trans (same_new nL)
    have hL : upd (upd H C (.lst ((ns.take t).map V.int))) L (.lst ((ns.take t).map V.int)) L = some (.lst ((ns.take t).map V.int)) := upd_same
    have hlen : (ns.take t).length = min t ns.length := List.length_take
    have nL0 := (same_new nC).free nL
    generalize ns.take t = ms at s1 hL hlen ⊢
    refine ⟨_, .inl ⟨_, SqL.of hL, rfl⟩, ?_⟩
    cases ms with
    | nil =>
      refine iteF ⟨by show 1 ≤ sizeLine; decide, fun M nM => ?_⟩
      exact ⟨M, [0], rfl, s1.trans (same_new nM), s1.free nM, upd_same, Nat.le_refl 1, t1, fun c => by rw [List.length_nil] at hlen; omega⟩
    | cons m ms =>
      refine iteT ?_
      exact ⟨L, m :: ms, rfl, s1, nL0, hL, by rw [List.length_cons]; omega, by omega, fun c => by omega⟩
  rintro σ' H1 ⟨L, ms, rfl, s1, nL, hL, m1, m2, m3⟩
  obtain ⟨ks, ek, hk, hk2⟩ := cut_2 ns t
  refine ⟨_, rfl, _, rfl, _, rfl, _, rfl, a, _, rfl, s1.seq hS, fun C nC => ?_⟩
  rw [ek]
  have CL : C ≠ L := fun e => by
    rw [e, hL] at nC
    cases nC
  refine ⟨C, _, rfl, SqL.of upd_same, ?_⟩
  refine for_it (walk_enum (K := K) (a := C) (xs := ks.map V.int)) (fun i σ H' => ∃ (ms : List Int) (x y z : Option V), σ = [some (.ref a), some (.int (t : Int)), some (.ref L), x, y, z] ∧ Same H H' ∧ H' C = some (.lst (ks.map V.int)) ∧ H' L = some (.lst (ms.map V.int)) ∧ 1 ≤ ms.length ∧ ms.length ≤ t ∧ (t < ns.length → ms.length = t)) ?_ (fun i σ H' _ ⟨_, _, _, _, _, _, hC, _⟩ => SqL.of hC) ?_ ?_
  · exact ⟨ms, none, none, none, rfl, s1.trans (same_new nC), upd_same, by rw [upd_ne CL.symm]; exact hL, m1, m2, m3⟩
  · rintro i x σ H2 H3 hi ⟨ms, y1, y2, y3, rfl, s2, hC, hL2, n1, n2, n3⟩ ⟨T, x1, x2, rfl, nT, rfl, e1, e2⟩
    cases e1
    obtain ⟨z, hz2, rfl⟩ := map_at e2
    rw [List.length_map] at hi
    have tn : t < ns.length := hk2 (by omega)
    have em := n3 tn
    have et : ((i : Nat) : Int) % (t : Int) = ((i % t : Nat) : Int) := (Int.natCast_emod i t).symm
    have it : i % t < ms.length := by
      rw [em]
      exact Nat.mod_lt _ (by omega)
    have LT : L ≠ T := ne_of_none hL2 nT
    have CT : C ≠ T := ne_of_none hC nT
    have hL3 : upd H2 T (.tup [.int (i : Nat), .int z]) L = some (.lst (ms.map V.int)) := by rw [upd_ne LT]; exact hL2
    have gl : (ms.map V.int)[i % t]? = some (.int ms[i % t]) := by
      rw [List.getElem?_map, List.getElem?_eq_getElem it]
      rfl
    refine ⟨T, _, rfl, .inl (.inl upd_same), rfl, _, _, rfl, _, _, rfl, rfl, ?_⟩
    refine ⟨_, rfl, .inl ⟨_, rfl, _, rfl, _, _, rfl, rfl, by omega, ?_⟩⟩
    have ga : atI (ms.map V.int) (((i : Nat) : Int) % (t : Int)) = some (.int ms[i % t]) := by
      rw [et]
      exact atI_nat gl
    refine ⟨_, rfl, _, rfl, L, _, _, _, rfl, rfl, SqL.of hL3, ga, _, rfl, _, rfl, _, _, rfl, rfl, _, _, rfl, rfl, .inr (by omega), _, _, rfl, rfl, _, rfl, _, rfl, L, _, _, i % t, rfl, rfl, hL3, ?_, ?_⟩
    · rw [et]
      unfold ixN
      rw [List.length_map, if_pos (by omega), if_pos (by omega), Int.toNat_natCast]
    · refine ⟨ms.set (i % t) (ms[i % t] + z * ((i : Nat) + 2)), _, _, _, rfl, fun b o e => ?_, ?_, ?_, by rw [List.length_set]; exact n1, by rw [List.length_set]; exact n2, fun c => by rw [List.length_set]; exact n3 c⟩
      · rw [upd_ne (ne_of_none e nL)]
        exact (s2.trans (same_new nT)) b o e
      · rw [upd_ne CL, upd_ne CT]
        exact hC
      · rw [upd_same, List.map_set]
  · rintro σ H2 ⟨ms, y1, y2, y3, rfl, s2, hC, hL2, n1, n2, n3⟩
    exact ⟨_, rfl, q L ms H2 s2 nL hL2 n1 n2⟩
end
end Cx

namespace Cx
open PySem PySem.Spec PyProof.Rows L2
/-! ### some addresses put aside -/
def hid (us : List Addr) (H : Hp) : Hp := fun b => if b ∈ us then none else H b
theorem hid_in {us : List Addr} {H : Hp} {b : Addr} (h : b ∈ us) : hid us H b = none := if_pos h
theorem hid_out {us : List Addr} {H : Hp} {b : Addr} (h : b ∉ us) : hid us H b = H b := if_neg h
theorem hid_some {us : List Addr} {H : Hp} {b : Addr} {o : HO} (h : hid us H b = some o) : b ∉ us ∧ H b = some o := by
  by_cases c : b ∈ us
  · rw [hid_in c] at h
    cases h
  · rw [hid_out c] at h
    exact ⟨c, h⟩
theorem hid_le {us : List Addr} {H : Hp} : Same (hid us H) H := fun _ _ e => (hid_some e).2
theorem hid_less {us : List Addr} {d : Addr} {H : Hp} : Same (hid (d :: us) H) (hid us H) := fun b o e => by
  obtain ⟨h1, h2⟩ := hid_some e
  rw [hid_out fun z => h1 (List.mem_cons_of_mem _ z)]
  exact h2
theorem hid_same {us : List Addr} {H H' : Hp} (s : Same H H') : Same (hid us H) (hid us H') := fun b o e => by
  obtain ⟨h1, h2⟩ := hid_some e
  rw [hid_out h1]
  exact s b o h2
theorem hid_keep {us : List Addr} {u : Addr} {H H' : Hp} (k : Keep u H H') (m : u ∈ us) : Same (hid us H) (hid us H') := fun b o e => by
  obtain ⟨h1, h2⟩ := hid_some e
  rw [hid_out h1]
  exact k b o (fun z => h1 (z ▸ m)) h2
theorem hid_more {us : List Addr} {d : Addr} {H H' : Hp} (s : Same (hid us H) (hid us H')) (n : H d = none) : Same (hid us H) (hid (d :: us) H') := fun b o e => by
  have e2 := s b o e
  obtain ⟨h1, h2⟩ := hid_some e
  obtain ⟨h3, h4⟩ := hid_some e2
  have h5 : b ≠ d := ne_of_none h2 n
  rw [hid_out fun z => (List.mem_cons.mp z).elim h5 h1]
  exact h4
theorem hid_put {us : List Addr} {d : Addr} {H : Hp} {o : HO} (m : d ∈ us) : hid us (upd H d o) = hid us H := by
  funext b
  by_cases c : b ∈ us
  · rw [hid_in c, hid_in c]
  · rw [hid_out c, hid_out c, upd_ne fun z => c (by rw [z]; exact m)]
def AllIn (us : List Addr) (H : Hp) : Prop := ∀ v ∈ us, H v ≠ none
theorem AllIn.not {us : List Addr} {H : Hp} {p : Addr} (a : AllIn us H) (h : H p = none) : p ∉ us := fun m => a p m h
theorem AllIn.cons {us : List Addr} {H H' : Hp} {d : Addr} {o : HO} (a : ∀ v ∈ us, H v ≠ none → H' v ≠ none) (b : AllIn us H) (h : H' d = some o) : AllIn (d :: us) H' := fun v m => by
  rcases List.mem_cons.mp m with e | e
  · rw [e, h]
    exact fun z => nomatch z
  · exact a v e (b v e)
theorem same_in {H H' : Hp} {v : Addr} (s : Same H H') (h : H v ≠ none) : H' v ≠ none := by
  cases e : H v with
  | none => exact absurd e h
  | some o =>
    rw [s v o e]
    exact fun z => nomatch z
theorem keep_in {u : Addr} {H H' : Hp} {v : Addr} {n : Nat} (s : Keep u H H') (U : UrnAt u H' n) (h : H v ≠ none) : H' v ≠ none := by
  by_cases c : v = u
  · obtain ⟨_, _, _, e, _⟩ := U
    rw [c, e]
    exact fun z => nomatch z
  · cases e : H v with
    | none => exact absurd e h
    | some o =>
      rw [s v o c e]
      exact fun z => nomatch z
theorem hide_hid {u : Addr} {H : Hp} : hide u H = hid [u] H := by
  funext b
  by_cases c : b = u
  · rw [c, hide_at, hid_in (List.mem_singleton.mpr rfl)]
  · rw [hide_ne c, hid_out fun m => c (List.mem_singleton.mp m)]
/-! ### data: lists and tuples of texts -/
mutual
def lstD : PyData → PyData
  | .list ds => .list (lstDs ds)
  | .tuple ds => .list (lstDs ds)
  | .none => .none
  | .bool b => .bool b
  | .int i => .int i
  | .str s => .str s
  | .dict kvs => .dict kvs
def lstDs : List PyData → List PyData
  | [] => []
  | d :: ds => lstD d :: lstDs ds
end
theorem lstDs_map : ∀ ds : List PyData, lstDs ds = ds.map lstD
  | [] => rfl
  | d :: ds => by
    show lstD d :: lstDs ds = lstD d :: ds.map lstD
    rw [lstDs_map ds]
mutual
def nodes : PyData → Nat
  | .list ds => 1 + nodesL ds
  | .tuple ds => 1 + nodesL ds
  | .none => 0
  | .bool _ => 0
  | .int _ => 0
  | .str _ => 0
  | .dict _ => 0
def nodesL : List PyData → Nat
  | [] => 0
  | d :: ds => nodes d + nodesL ds
end
theorem nodesL_app : ∀ (as bs : List PyData), nodesL (as ++ bs) = nodesL as + nodesL bs
  | [], bs => (Nat.zero_add _).symm
  | a :: as, bs => by
    show nodes a + nodesL (as ++ bs) = nodes a + nodesL as + nodesL bs
    rw [nodesL_app as bs, Nat.add_assoc]
theorem nodesL_take {ds : List PyData} {i : Nat} : nodesL (ds.take i) ≤ nodesL ds := by
  have h := nodesL_app (ds.take i) (ds.drop i)
  rw [List.take_append_drop] at h
  omega
theorem nodesL_next {ds : List PyData} {i : Nat} {d : PyData} (h : ds[i]? = some d) : nodesL (ds.take (i + 1)) = nodesL (ds.take i) + nodes d := by
  rw [List.take_add_one, h, nodesL_app]
  rfl
/-- texts, lists, tuples, below n deep -/
def SmD : Nat → PyData → Prop
  | 0, _ => False
  | n + 1, .list ds => ds.length ≤ 900 ∧ ∀ d ∈ ds, SmD n d
  | n + 1, .tuple ds => ds.length ≤ 900 ∧ ∀ d ∈ ds, SmD n d
  | _ + 1, .str _ => True
  | _ + 1, _ => False
section
variable {K : PySem.W.Frag} {H H' : Hp}
mutual
theorem dp_same (s : Same H H') : ∀ {x : V} {d : PyData}, Dp K H x d → Dp K H' x d
  | _, _, .non => .non
  | _, _, .bl b => .bl b
  | _, _, .int i => .int i
  | _, _, .str x => .str x
  | _, _, .lst h a => .lst (s.seq h) (dpa_same s a)
  | _, _, .tup h a => .tup (st_tup s h) (dpa_same s a)
theorem dpa_same (s : Same H H') : ∀ {xs : List V} {ds : List PyData}, DpAll K H xs ds → DpAll K H' xs ds
  | _, _, .nil => .nil
  | _, _, .cons h a => .cons (dp_same s h) (dpa_same s a)
end
theorem dpa_len : ∀ {xs : List V} {ds : List PyData}, DpAll K H xs ds → xs.length = ds.length
  | _, _, .nil => rfl
  | _, _, .cons _ a => congrArg (· + 1) (dpa_len a)
theorem dpa_at : ∀ {xs : List V} {ds : List PyData} {i : Nat} {x : V}, DpAll K H xs ds → xs[i]? = some x → ∃ d, ds[i]? = some d ∧ Dp K H x d
  | _, _, 0, _, .cons h _, e => by
    cases e
    exact ⟨_, rfl, h⟩
  | _, _, i + 1, _, .cons _ a, e => dpa_at (i := i) a e
theorem dpa_snoc {x : V} {d : PyData} (h : Dp K H x d) : ∀ {xs : List V} {ds : List PyData}, DpAll K H xs ds → DpAll K H (xs ++ [x]) (ds ++ [d])
  | _, _, .nil => .cons h .nil
  | _, _, .cons g a => .cons g (dpa_snoc h a)
theorem sql_ty {a : Addr} {xs : List V} (h : SqL K H a xs) : TyX K H (.ref a) (.type "list") := by
  rcases h with (h | ⟨o, h⟩) | ⟨o, its, n, h, c, _⟩
  · exact .base (.lst h)
  · exact .base (.frz h)
  · exact .kList h c
theorem sqt_ty {a : Addr} {xs : List V} (h : SqT K H a xs) : TyX K H (.ref a) (.type "tuple") := by
  rcases h with (h | ⟨o, h⟩) | ⟨o, its, n, h, c, _⟩
  · exact .base (.tup h)
  · exact .fTuple h
  · exact .kTuple h c
end
/-- isinstance(.., (list, tuple)) -/
theorem ty_lt_list {K : PySem.W.Frag} : PySem.W.kitAny K (.type "list") [.type "list", .type "tuple"] = some true := kitAny_cons (b := true) (kit_ty (by decide +kernel)) (fun h => nomatch h) (fun _ => rfl)
theorem ty_lt_tuple {K : PySem.W.Frag} : PySem.W.kitAny K (.type "tuple") [.type "list", .type "tuple"] = some true :=
  kitAny_cons (b := false) (kit_ty (by decide +kernel)) (fun _ => kitAny_cons (b := true) (kit_ty (by decide +kernel)) (fun h => nomatch h) (fun _ => rfl)) (fun h => nomatch h)
theorem ty_lt_str {K : PySem.W.Frag} : PySem.W.kitAny K (.type "str") [.type "list", .type "tuple"] = some false :=
  kitAny_cons (b := false) (kit_ty (by decide +kernel)) (fun _ => kitAny_cons (b := false) (kit_ty (by decide +kernel)) (fun _ => kitAny_nil) (fun h => nomatch h)) (fun h => nomatch h)
theorem ty_bs_str {K : PySem.W.Frag} : PySem.W.kitAny K (.type "str") [.type "bool", .type "str"] = some true :=
  kitAny_cons (b := false) (kit_ty (by decide +kernel)) (fun _ => kitAny_cons (b := true) (kit_ty (by decide +kernel)) (fun h => nomatch h) (fun _ => rfl)) (fun h => nomatch h)
theorem cls_lt : Paired ClsV [.ty "list", .ty "tuple"] [.type "list", .type "tuple"] := .cons (.ty _) (.cons (.ty _) .nil)
theorem cls_bs : Paired ClsV [.ty "bool", .ty "str"] [.type "bool", .type "str"] := .cons (.ty _) (.cons (.ty _) .nil)
/-! ### comprehensions over zip -/
section
variable {K : PySem.W.Frag}
theorem walk_zipT {a b : Addr} {xs ys : List V} {n : Nat} (hn : n = min xs.length ys.length) : Walk (RZ.ItzT K a b) n (fun H => SqT K H a xs ∧ SqT K H b ys) (YPair (fun i => xs[i]?) (fun i => ys[i]?)) := by
  subst hn
  refine ⟨fun i _ hi q => ?_, fun _ q => ⟨xs, ys, q.1, q.2, by omega⟩, fun i H v H' _ q y => ?_⟩
  · have h1 : i < xs.length := by omega
    have h2 : i < ys.length := by omega
    exact ⟨xs, ys, xs[i], ys[i], q.1, q.2, List.getElem?_eq_getElem h1, List.getElem?_eq_getElem h2⟩
  · obtain ⟨T, x, z, h1, h2, h3, h4, h5⟩ := y
    exact ⟨T, x, z, h1, h2, h3, h4 xs q.1, h5 ys q.2⟩
def LcZ (K : PySem.W.Frag) (g : TG) (tt : TT) (te : TE) (vs : List Nat) (σ : L2.St) (Q : VK) (zs : List V) (H1 : Hp) : Prop :=
  ∃ a b xs ys, zs = [.ref a, .ref b] ∧ ((SqL K H1 a xs ∧ SqL K H1 b ys ∧ LcR g tt te vs σ Q (Itz K a b) H1) ∨ (SqT K H1 a xs ∧ SqT K H1 b ys ∧ LcR g tt te vs σ Q (RZ.ItzT K a b) H1))
def tLcZ (K : PySem.W.Frag) (ta : TA) (g : TG) (tt : TT) (te : TE) (vs : List Nat) : TE := fun σ H Q => ta σ H fun zs H1 => LcZ K g tt te vs σ Q zs H1
theorem lc_zip {a b : Addr} {xs ys : List V} {g : TG} {tt : TT} {te : TE} {vs : List Nat} {σ : L2.St} {H1 : Hp} {Q : VK} (hl : xs.length = ys.length) (hx : (SqL K H1 a xs ∧ SqL K H1 b ys) ∨ (SqT K H1 a xs ∧ SqT K H1 b ys)) (Pv : Addr → Nat → Hp → Prop)
    (h0 : ∀ D, H1 D = none → Pv D 0 (upd H1 D (.lst []))) (hs1 : ∀ D i H, H1 D = none → Pv D i H → Same H1 H)
    (hs : ∀ D i x y T H, H1 D = none → xs[i]? = some x → ys[i]? = some y → H T = none → Pv D i H → g (.ref T) (wipe σ vs) (upd H T (.tup [x, y])) fun σ2 H2 => wipe σ2 vs = wipe σ vs ∧ tt σ2 H2 fun b H3 =>
      if b = true then te σ2 H3 fun z H4 => ∃ acc, H4 D = some (.lst acc) ∧ acc.length < sizeLine ∧ Pv D (i + 1) (upd H4 D (.lst (acc ++ [z]))) else Pv D (i + 1) H3)
    (hd : ∀ D H, H1 D = none → Pv D xs.length H → Q (.ref D) H) : LcZ K g tt te vs σ Q [.ref a, .ref b] H1 := by
  have hn : xs.length = min xs.length ys.length := by omega
  refine ⟨a, b, xs, ys, rfl, ?_⟩
  rcases hx with ⟨h1, h2⟩ | ⟨h1, h2⟩
  · refine .inl ⟨h1, h2, fun D nD => lc_it (walk_zip (K := K) (a := a) (b := b) hn) (Pv D) (h0 D nD) (fun i H _ q => ⟨(hs1 D i H nD q).seq h1, (hs1 D i H nD q).seq h2⟩) (fun i x H H' _ q y => ?_) fun H q => hd D H nD q⟩
    obtain ⟨T, x1, y1, rfl, nT, rfl, e1, e2⟩ := y
    exact hs D i x1 y1 T H nD e1 e2 nT q
  · refine .inr ⟨h1, h2, fun D nD => lc_it (walk_zipT (K := K) (a := a) (b := b) hn) (Pv D) (h0 D nD) (fun i H _ q => ⟨st_tup (hs1 D i H nD q) h1, st_tup (hs1 D i H nD q) h2⟩) (fun i x H H' _ q y => ?_) fun H q => hd D H nD q⟩
    obtain ⟨T, x1, y1, rfl, nT, rfl, e1, e2⟩ := y
    exact hs D i x1 y1 T H nD e1 e2 nT q
theorem pe_lcZ {X : Cx} {elt e e2 : Expr} {elts ifs : List Expr} {kk : Nat} {tpos p zpos : Pos} {scope : Scope} {own : List (Str × Nat)} {pos : Pos} {ta : TA} {g : TG} {tt : TT} {te : TE} (hc : X.calm = true) (hN : X.N.Nodup) (hgz : Gl X "zip") (hmz : X.mg "zip" = none) (ha : PA X [e, e2] ta) (ok : BlkOk X.N X.env.scope scope own)
    (hg : ∀ (s : Shared) (H : Hp) (C : Addr) (cl : List (Str × Addr)) (fp : List Addr), PG (X.blk s H scope (compEnvC scope cl C X.env) fp) (.Tuple elts kk tpos) g) (ht : ∀ (s : Shared) (H : Hp) (C : Addr) (cl : List (Str × Addr)) (fp : List Addr), PTs (X.blk s H scope (compEnvC scope cl C X.env) fp) ifs tt)
    (he : ∀ (s : Shared) (H : Hp) (C : Addr) (cl : List (Str × Addr)) (fp : List Addr), PE (X.blk s H scope (compEnvC scope cl C X.env) fp) elt te)
    (hs : starEach [e, e2] X.env = (false, eval e X.env) :: starEach [e2] X.env := by rfl) (hpl : (backTo zpos (starEach [e2] X.env)).any (·.1) = false := by rfl)
    (hf : ∀ x, foldedSetIterable (.Call (.Name "zip" p) [e, e2] [] zpos) X.env x = pure x := by intro _; rfl) :
    PE X (.ListComp elt [⟨.Tuple elts kk tpos, .Call (.Name "zip" p) [e, e2] [] zpos, ifs, 0⟩] scope pos) (tLcZ X.K ta g tt te (own.map (·.2))) := pe_lc hc hN (RZ.pi_zipA hgz hmz ha hs hpl) ok hg ht he hf
end
end Cx

namespace Cx
open PySem PySem.Spec PyProof.Rows L2
theorem no_call {P : Program} {w : World} {K : PySem.W.Frag} {mg : Str → Option Value} {base : Heap} {f : Addr} {fd : FuncData} {ps : List Str} {sp : Sp} (no : ∀ vs H Q E, ¬ sp vs H Q E) : FnOk P w K mg base CX0 0 f fd ps sp :=
  ⟨fun vs H Q E h => absurd h (no vs H Q E), fun _ _ _ H _ _ vs Q E _ _ _ _ h => absurd h (no vs H Q E)⟩
theorem all_true (n : Nat) : (List.replicate n true).all id = true := by
  induction n with
  | zero => rfl
  | succ n ih =>
    rw [List.replicate_succ, List.all_cons, ih]
    rfl
section
variable {P : Program} {w : World} {K : PySem.W.Frag} {mg : Str → Option Value} {base : Heap}
/-! ### same -/
def spSame (K : PySem.W.Frag) (n : Nat) : Sp := fun vs H Q _ => ∃ (x y : V) (D : PyData), vs = [x, y] ∧ Dp K H x D ∧ Dp K H y D ∧ SmD n D ∧ ∀ H', Same H H' → Q (.bl true) H'
theorem scSm : FnScope ["_law_got", "_law_goal", "_law_mine_so", "_law_own"] ["_law_got", "_law_goal"] (defScope sSame) := ⟨rfl, rfl, rfl, by decide +kernel, rfl, by decide +kernel, by decide +kernel⟩
structure TySm (mg : Str → Option Value) : Prop where
  isi : mg "isinstance" = none
  lst : mg "list" = none
  tup : mg "tuple" = none
  int : mg "int" = none
  bool : mg "bool" = none
  str : mg "str" = none
  len : mg "len" = none
  all : mg "all" = none
  zip : mg "zip" = none
theorem ok_same {f : Addr} {fd : FuncData} {n : Nat} (F : Fun K "_law_same" "_law_same" sSame f fd) (G : FnOk P w K mg base CX0 n f fd ["_law_got", "_law_goal"] (spSame K n)) (bG : Binds K fd ["_law_got", "_law_goal"] []) (mG : mg "_law_same" = some (.ref f)) (T : TySm mg) :
    FnOk P w K mg base CX0 (n + 1) f fd ["_law_got", "_law_goal"] (spSame K (n + 1)) := by
  refine F.ok scSm (fun vs H Q E h => ?_) (fun cdv A outer s H vs Q E hr h => ?_)
  · obtain ⟨x, y, D, rfl, _⟩ := h
    rfl
  obtain ⟨x, y, D, rfl, hx, hy, hD, k⟩ := h
  refine ⟨_, pss_cons (ps_if (pt_val (pe_callB call_isiT (by rfl) T.isi (by decide +kernel) (pa_cons (pv 1) (pa_cons (pe_tup (pa_cons (pe_bltn (v := .ty "list") (by rfl) T.lst (by decide +kernel) rfl) (pa_cons (pe_bltn (v := .ty "tuple") (by rfl) T.tup (by decide +kernel) rfl) pa_nil))) pa_nil))))
      (pss_cons (ps_if (PW.pt (pw_or
          (pt_cmpR op_ne (pe_callB call_isi (by rfl) T.isi (by decide +kernel) (pa_cons (pv 0) (pa_cons (pe_bltn (v := .ty "list") (by rfl) T.lst (by decide +kernel) rfl) pa_nil))) (pe_callB call_isi (by rfl) T.isi (by decide +kernel) (pa_cons (pv 1) (pa_cons (pe_bltn (v := .ty "list") (by rfl) T.lst (by decide +kernel) rfl) pa_nil))) (nomark _))
          (pw_or1 (pt_cmpR op_ne (pe_callB call_isi (by rfl) T.isi (by decide +kernel) (pa_cons (pv 0) (pa_cons (pe_bltn (v := .ty "tuple") (by rfl) T.tup (by decide +kernel) rfl) pa_nil))) (pe_callB call_isi (by rfl) T.isi (by decide +kernel) (pa_cons (pv 1) (pa_cons (pe_bltn (v := .ty "tuple") (by rfl) T.tup (by decide +kernel) rfl) pa_nil))) (nomark _)))))
        (pss_one (ps_ret pe_bl)) pss_nil)
      (pss_one (ps_ret (pe_and (pe_cmpR op_eq (pe_callB call_len_seq (by rfl) T.len PySem.boot_len (pa_cons (pv 0) pa_nil)) (pe_callB call_len_seq (by rfl) T.len PySem.boot_len (pa_cons (pv 1) pa_nil)) (nomark _))
        (pe_one (pe_callB (cr_all rfl) (by rfl) T.all (by decide +kernel) (pa_cons
          (pe_lcZ (own := [("_law_mine_so", 2), ("_law_own", 3)]) (g := gTup K 2 (gCons (gName 2) (gCons (gName 3) gNil))) (tt := tYes) rfl scSm.nd (by rfl) T.zip (pa_cons (pv 0) (pa_cons (pv 1) pa_nil)) (blkOk_by (N := ["_law_got", "_law_goal", "_law_mine_so", "_law_own"]) (sc := defScope sSame) (by decide +kernel))
            (fun _ _ _ _ _ => pg_tup rfl (pgs_cons (pg_name (i := 2) scSm.nd rfl (.inl rfl)) (pgs_cons (pg_name (i := 3) scSm.nd rfl (.inl rfl)) pgs_nil))) (fun _ _ _ _ _ => pts_nil) (fun _ _ _ _ _ => pe_call G hr (by rfl) mG F.kp bG .nil pass0 (pa_cons (pv 2) (pa_cons (pv 3) pa_nil)))) pa_nil))))))) pss_nil)
    (pss_cons (ps_if (PW.pt (pw_or (pt_cmpR op_isN (pv 1) pe_non (nomark _)) (pw_or1 (pt_val (pe_callB call_isiT (by rfl) T.isi (by decide +kernel) (pa_cons (pv 1) (pa_cons (pe_tup (pa_cons (pe_bltn (v := .ty "bool") (by rfl) T.bool (by decide +kernel) rfl) (pa_cons (pe_bltn (v := .ty "str") (by rfl) T.str (by decide +kernel) rfl) pa_nil))) pa_nil)))))))
      (pss_one (ps_ret (pe_and (pe_cmpR op_eq (pv 0) (pv 1) (nomark _)) (pe_and (pe_cmpR op_eq (pe_callB call_isi (by rfl) T.isi (by decide +kernel) (pa_cons (pv 0) (pa_cons (pe_bltn (v := .ty "bool") (by rfl) T.bool (by decide +kernel) rfl) pa_nil))) (pe_callB call_isi (by rfl) T.isi (by decide +kernel) (pa_cons (pv 1) (pa_cons (pe_bltn (v := .ty "bool") (by rfl) T.bool (by decide +kernel) rfl) pa_nil))) (nomark _))
        (pe_one (pe_cmpR op_eq (pe_cmpR op_isN (pv 0) pe_non (nomark _)) (pe_cmpR op_isN (pv 1) pe_non (nomark _)) (nomark _))))))) pss_nil)
    (pss_one (ps_ret (pe_and (pe_callB call_isi (by rfl) T.isi (by decide +kernel) (pa_cons (pv 0) (pa_cons (pe_bltn (v := .ty "int") (by rfl) T.int (by decide +kernel) rfl) pa_nil))) (pe_and (pe_not (pe_callB call_isi (by rfl) T.isi (by decide +kernel) (pa_cons (pv 0) (pa_cons (pe_bltn (v := .ty "bool") (by rfl) T.bool (by decide +kernel) rfl) pa_nil))))
      (pe_one (pe_cmpR op_eq (pv 0) (pv 1) (nomark _)))))))), ?_⟩
  refine ⟨y, rfl, by show 2 ≤ sizeLine; decide, fun t nt => ?_⟩
  have s1 : Same H (upd H t (.tup [.ty "list", .ty "tuple"])) := same_new nt
  have ht : upd H t (.tup [.ty "list", .ty "tuple"]) t = some (.tup [.ty "list", .ty "tuple"]) := upd_same
  generalize upd H t (.tup [.ty "list", .ty "tuple"]) = H1 at s1 ht ⊢
  have hx1 := dp_same s1 hx
  have hy1 := dp_same s1 hy
  have shape : (∃ z, x = .str z ∧ y = .str z) ∨ ∃ (a b : Addr) (xs ys : List V) (ds : List PyData) (tn : String) (l m : Bool), x = .ref a ∧ y = .ref b ∧ ((SqL K H1 a xs ∧ SqL K H1 b ys) ∨ (SqT K H1 a xs ∧ SqT K H1 b ys)) ∧ DpAll K H1 xs ds ∧ DpAll K H1 ys ds ∧ ds.length ≤ 900 ∧ (∀ d ∈ ds, SmD n d) ∧
      TyX K H1 (.ref a) (.type tn) ∧ TyX K H1 (.ref b) (.type tn) ∧ PySem.W.kitOne K (.type tn) (.type "list") = some l ∧ PySem.W.kitOne K (.type tn) (.type "tuple") = some m ∧ PySem.W.kitAny K (.type tn) [.type "list", .type "tuple"] = some true := by
    cases D with
    | str z =>
      cases hx1
      cases hy1
      exact .inl ⟨z, rfl, rfl⟩
    | list ds =>
      cases hx1 with
      | lst h1 a1 =>
        cases hy1 with
        | lst h2 a2 => exact .inr ⟨_, _, _, _, ds, "list", true, false, rfl, rfl, .inl ⟨h1, h2⟩, a1, a2, hD.1, hD.2, sql_ty h1, sql_ty h2, kit_ty (by decide +kernel), kit_ty (by decide +kernel), ty_lt_list⟩
    | tuple ds =>
      cases hx1 with
      | tup h1 a1 =>
        cases hy1 with
        | tup h2 a2 => exact .inr ⟨_, _, _, _, ds, "tuple", false, true, rfl, rfl, .inr ⟨h1, h2⟩, a1, a2, hD.1, hD.2, sqt_ty h1, sqt_ty h2, kit_ty (by decide +kernel), kit_ty (by decide +kernel), ty_lt_tuple⟩
    | none => exact False.elim hD
    | bool b => exact False.elim hD
    | int i => exact False.elim hD
    | dict kvs => exact False.elim hD
  rcases shape with ⟨z, rfl, rfl⟩ | ⟨a, b, xs, ys, ds, tn, l, m, rfl, rfl, hq, ax, ay, hlen, hall, tx, ty, k1, k2, k3⟩
  · refine ⟨_, t, _, _, _, _, rfl, ht, cls_lt, .base (.str z), ty_lt_str, _, rfl, iteF ?_⟩
    refine ⟨_, rfl, rfl, _, rfl, iteF ⟨_, rfl, by show 2 ≤ sizeLine; decide, fun v nv => ⟨_, v, _, _, _, _, rfl, upd_same, cls_bs, .base (.str z), ty_bs_str, _, rfl, iteT ?_⟩⟩⟩
    refine ⟨_, rfl, _, rfl, rfl, _, rfl, ite2 (fun _ => ?_) (fun c => absurd (decide_eq_true rfl) c)⟩
    refine ⟨_, rfl, _, _, _, _, false, rfl, .ty _, .base (.str z), kit_ty (by decide +kernel), _, rfl, _, _, _, _, false, rfl, .ty _, .base (.str z), kit_ty (by decide +kernel), rfl, _, rfl, ite2 (fun _ => ?_) (fun c => absurd (decide_eq_true rfl) c)⟩
    refine ⟨_, rfl, rfl, _, rfl, rfl, rfl, ?_⟩
    have q := k _ (s1.trans (same_new (o := .tup [.ty "bool", .ty "str"]) nv))
    exact q
  · refine ⟨_, t, _, _, _, _, rfl, ht, cls_lt, ty, k3, _, rfl, iteT ?_⟩
    refine ⟨_, rfl, _, _, _, _, l, rfl, .ty _, tx, k1, _, rfl, _, _, _, _, l, rfl, .ty _, ty, k1, rfl, _, rfl, iteNS rfl ?_⟩
    refine ⟨_, rfl, _, _, _, _, m, rfl, .ty _, tx, k2, _, rfl, _, _, _, _, m, rfl, .ty _, ty, k2, rfl, _, rfl, iteNS rfl ?_⟩
    have lx := dpa_len ax
    have ly := dpa_len ay
    refine ⟨_, rfl, a, xs, rfl, hq.imp (fun z => z.1) (fun z => z.1), _, rfl, b, ys, rfl, hq.imp (fun z => z.2) (fun z => z.2), rfl, _, rfl, ite2 (fun _ => ?_) (fun c => absurd (decide_eq_true (by rw [lx, ly])) c)⟩
    refine ⟨_, rfl, _, rfl, ?_⟩
    refine lc_zip (xs := xs) (ys := ys) (by rw [lx, ly]) hq (fun D i H' => Same H1 H' ∧ H' D = some (.lst ((List.replicate i true).map V.bl))) (fun D nD => ⟨same_new nD, upd_same⟩) (fun D i H' _ q => q.1) (fun D i x y T' H' nD ex ey nT ⟨s2, hD'⟩ => ?_) (fun D H' nD ⟨s2, hD'⟩ => ?_)
    · obtain ⟨d, ed, dx⟩ := dpa_at ax ex
      obtain ⟨d', ed', dy⟩ := dpa_at ay ey
      rw [ed] at ed'
      cases ed'
      have s3 := s2.trans (same_new (o := .tup [x, y]) nT)
      have hi := (List.getElem?_eq_some_iff.mp ed).1
      refine ⟨T', _, rfl, .inl (.inl upd_same), rfl, _, _, rfl, _, _, rfl, rfl, rfl, ?_⟩
      refine ⟨x, rfl, y, rfl, x, y, d, rfl, dp_same s3 dx, dp_same s3 dy, hall d (List.mem_of_getElem? ed), fun H4 s4 => ?_⟩
      have hD4 := s4 _ _ ((same_new (o := .tup [x, y]) nT) _ _ hD')
      refine ⟨_, hD4, ?_, fun c o e => ?_, ?_⟩
      · rw [List.length_map, List.length_replicate]
        exact small1000 (by omega)
      · rw [upd_ne (ne_of_none e nD)]
        exact s4 _ _ (s3 c o e)
      · rw [upd_same, List.replicate_succ', List.map_append]
        rfl
    · refine ⟨D, _, rfl, SqL.of hD', ?_⟩
      rw [all_true]
      exact k _ (s1.trans s2)
end
end Cx

namespace Cx
open PySem PySem.Spec PyProof.Rows L2
section
variable {P : Program} {w : World} {K : PySem.W.Frag} {mg : Str → Option Value} {base : Heap}
/-- a text, or a list or tuple -/
theorem dp_shape {H : Hp} {x : V} {D : PyData} {n : Nat} (hx : Dp K H x D) (hD : SmD (n + 1) D) : (∃ z, x = .str z ∧ D = .str z) ∨ ∃ (xs : List V) (ds : List PyData) (tn : String), SeqV K H x xs ∧ DpAll K H xs ds ∧ ds.length ≤ 900 ∧ (∀ d ∈ ds, SmD n d) ∧ (D = .list ds ∨ D = .tuple ds) ∧
    (∀ H', Same H H' → TyX K H' x (.type tn)) ∧ PySem.W.kitAny K (.type tn) [.type "list", .type "tuple"] = some true := by
  cases D with
  | str z =>
    cases hx
    exact .inl ⟨z, rfl, rfl⟩
  | list ds =>
    cases hx with
    | lst h1 a1 => exact .inr ⟨_, ds, "list", ⟨_, rfl, .inl h1⟩, a1, hD.1, hD.2, .inl rfl, fun _ s => sql_ty (s.seq h1), ty_lt_list⟩
  | tuple ds =>
    cases hx with
    | tup h1 a1 => exact .inr ⟨_, ds, "tuple", ⟨_, rfl, .inr h1⟩, a1, hD.1, hD.2, .inr rfl, fun _ s => sqt_ty (st_tup s h1), ty_lt_tuple⟩
  | none => exact False.elim hD
  | bool b => exact False.elim hD
  | int i => exact False.elim hD
  | dict kvs => exact False.elim hD
/-! ### lists -/
def spLists (K : PySem.W.Frag) (n : Nat) : Sp := fun vs H Q _ => ∃ (us : List Addr) (x : V) (D : PyData), vs = [x] ∧ AllIn us H ∧ Dp K (hid us H) x D ∧ SmD n D ∧ ∀ y H', Same H H' → Dp K (hid us H') y (lstD D) → Q y H'
theorem scLs : FnScope ["_law_matter", "_law_bit"] ["_law_matter"] (defScope sLists) := ⟨rfl, rfl, rfl, by decide +kernel, rfl, by decide +kernel, by decide +kernel⟩
theorem ok_lists {f : Addr} {fd : FuncData} {n : Nat} (F : Fun K "_law_lists" "_law_lists" sLists f fd) (G : FnOk P w K mg base CX0 n f fd ["_law_matter"] (spLists K n)) (bG : Binds K fd ["_law_matter"] []) (mG : mg "_law_lists" = some (.ref f)) (T : TySm mg) :
    FnOk P w K mg base CX0 (n + 1) f fd ["_law_matter"] (spLists K (n + 1)) := by
  refine F.ok scLs (fun vs H Q E h => ?_) (fun cdv A outer s H vs Q E hr h => ?_)
  · obtain ⟨us, x, D, rfl, _⟩ := h
    rfl
  obtain ⟨us, x, dd, rfl, ain, hx, hD, k⟩ := h
  refine ⟨_, pss_one (ps_ret (pe_ifExp (pt_val (pe_callB call_isiT (by rfl) T.isi (by decide +kernel) (pa_cons (pv 0) (pa_cons (pe_tup (pa_cons (pe_bltn (v := .ty "list") (by rfl) T.lst (by decide +kernel) rfl) (pa_cons (pe_bltn (v := .ty "tuple") (by rfl) T.tup (by decide +kernel) rfl) pa_nil))) pa_nil))))
    (pe_lcA (own := [("_law_bit", 1)]) (g := gName 1) (tt := tYes) rfl scLs.nd (pv 0) (blkOk_by (N := ["_law_matter", "_law_bit"]) (sc := defScope sLists) (by decide +kernel))
      (fun _ _ _ _ _ => pg_name (i := 1) scLs.nd rfl (.inl rfl)) (fun _ _ _ _ _ => pts_nil) (fun _ _ _ _ _ => pe_call G hr (by rfl) mG F.kp bG .nil pass0 (pa_cons (pv 1) pa_nil))) (pv 0))), ?_⟩
  refine ⟨x, rfl, by show 2 ≤ sizeLine; decide, fun t nt => ?_⟩
  have s1 : Same H (upd H t (.tup [.ty "list", .ty "tuple"])) := same_new nt
  have ht : upd H t (.tup [.ty "list", .ty "tuple"]) t = some (.tup [.ty "list", .ty "tuple"]) := upd_same
  generalize upd H t (.tup [.ty "list", .ty "tuple"]) = H1 at s1 ht ⊢
  have hx1 := dp_same (hid_same s1) hx
  have ain1 : AllIn us H1 := fun v m => same_in s1 (ain v m)
  rcases dp_shape hx1 hD with ⟨z, rfl, rfl⟩ | ⟨xs, ds, tn, hq, ax, hlen, hall, hd, tx, k3⟩
  · refine ⟨_, t, _, _, _, _, rfl, ht, cls_lt, .base (.str z), ty_lt_str, _, rfl, iteF ?_⟩
    exact ⟨_, rfl, k _ _ s1 (.str z)⟩
  · refine ⟨_, t, _, _, _, _, rfl, ht, cls_lt, tx _ hid_le, k3, _, rfl, iteT ?_⟩
    refine ⟨x, rfl, ?_⟩
    have lx := dpa_len ax
    refine lc_any hq (Stays.of hid_le) (fun D i H' => ∃ zs : List V, Same H1 H' ∧ H' D = some (.lst zs) ∧ DpAll K (hid (D :: us) H') zs ((ds.take i).map lstD)) (fun D nD => ⟨[], same_new nD, upd_same, .nil⟩) (fun D i H' _ ⟨_, s2, _⟩ => Stays.of ((hid_same s2).trans hid_le))
      (fun D i y H' nD ey ⟨zs, s2, hD', az⟩ => ?_) (fun D H' nD ⟨zs, s2, hD', az⟩ => ?_)
    · obtain ⟨d, ed, dx⟩ := dpa_at ax ey
      have hi := (List.getElem?_eq_some_iff.mp ed).1
      have lz := dpa_len az
      rw [List.length_map, List.length_take] at lz
      have dx2 : Dp K (hid (D :: us) H') y d := dp_same (hid_more (hid_same s2) nD) dx
      refine ⟨rfl, y, rfl, D :: us, y, d, rfl, AllIn.cons (fun v m => same_in s2) ain1 hD', dx2, hall d (List.mem_of_getElem? ed), fun y2 H2 s3 dy => ?_⟩
      refine ⟨zs, s3 _ _ hD', small1000 (by omega), zs ++ [y2], fun b o e => ?_, upd_same, ?_⟩
      · rw [upd_ne (ne_of_none e nD)]
        exact s3 _ _ (s2 b o e)
      · rw [hid_put List.mem_cons_self, List.take_add_one, ed, List.map_append]
        exact dpa_snoc dy (dpa_same (hid_same s3) az)
    · rw [lx, List.take_length] at az
      have nu : D ∉ us := ain1.not nD
      have e : lstD dd = .list (ds.map lstD) := by
        rcases hd with rfl | rfl
        · exact congrArg PyData.list (lstDs_map ds)
        · exact congrArg PyData.list (lstDs_map ds)
      refine k _ _ (s1.trans s2) ?_
      rw [e]
      exact .lst (.inl (.inl (by rw [hid_out nu]; exact hD'))) (dpa_same hid_less az)
/-! ### blend -/
def spBlend (K : PySem.W.Frag) (n : Nat) : Sp := fun vs H Q _ => ∃ (u : Addr) (us : List Addr) (x : V) (dd : PyData) (m : Nat), vs = [.ref u, x] ∧ u ∈ us ∧ AllIn us H ∧ UrnAt u H m ∧ m + nodes dd ≤ 1000000 ∧ Dp K (hid us H) x dd ∧ SmD n dd ∧
  ∀ y d2 H', UrnAt u H' (m + nodes dd) → Keep u H H' → Dp K (hid us H') y d2 → lstD d2 = lstD dd → Q y H'
theorem scBl : FnScope ["_law_urn", "_law_matter", "_law_bits", "_law_bit"] ["_law_urn", "_law_matter"] (defScope sBlend) := ⟨rfl, rfl, rfl, by decide +kernel, rfl, by decide +kernel, by decide +kernel⟩
theorem ok_blend {f g : Addr} {fd gd : FuncData} {n : Nat} (F : Fun K "_law_blend" "_law_blend" sBlend f fd) (G : FnOk P w K mg base CX0 (n + 1) f fd ["_law_urn", "_law_matter"] (spBlend K n)) (bG : Binds K fd ["_law_urn", "_law_matter"] []) (mG : mg "_law_blend" = some (.ref f))
    (GT : FnOk P w K mg base CX0 1 g gd ["_law_urn", "_law_low_so"] spTake) (bT : Binds K gd ["_law_urn", "_law_low_so"] []) (kT : PySem.W.keepIn K (.ref g) = true) (mT : mg "_law_take" = some (.ref g)) (T : TySm mg) :
    FnOk P w K mg base CX0 (n + 2) f fd ["_law_urn", "_law_matter"] (spBlend K (n + 1)) := by
  refine F.ok scBl (fun vs H Q E h => ?_) (fun cdv A outer s H vs Q E hr h => ?_)
  · obtain ⟨u, us, x, dd, m, rfl, _⟩ := h
    rfl
  obtain ⟨u, us, x, dd, m, rfl, um, ain, U, hm, hx, hD, k⟩ := h
  have hr1 : Room 1 _ := hr.mono (by omega)
  refine ⟨_, pss_cons (ps_if (pt_not (pt_val (pe_callB call_isiT (by rfl) T.isi (by decide +kernel) (pa_cons (pv 1) (pa_cons (pe_tup (pa_cons (pe_bltn (v := .ty "list") (by rfl) T.lst (by decide +kernel) rfl) (pa_cons (pe_bltn (v := .ty "tuple") (by rfl) T.tup (by decide +kernel) rfl) pa_nil))) pa_nil)))))
      (pss_one (ps_ret (pv 1))) pss_nil)
    (pss_cons (ps_setLcA (i := 2) (own := [("_law_bit", 3)]) (g := gName 3) (tt := tYes) rfl scBl.nd rfl rfl (sw_true rfl rfl rfl (by decide +kernel)) (pv 1) (blkOk_by (N := ["_law_urn", "_law_matter", "_law_bits", "_law_bit"]) (sc := defScope sBlend) (by decide +kernel))
      (fun _ _ _ _ _ => pg_name (i := 3) scBl.nd rfl (.inl rfl)) (fun _ _ _ _ _ => pts_nil) (fun _ _ _ _ _ => pe_call G hr (by rfl) mG F.kp bG .nil pass0 (pa_cons (pv 0) (pa_cons (pv 3) pa_nil))))
    (pss_one (ps_ret (pe_ifExp (pt_cmpR op_eq (pe_call GT hr1 (by rfl) mT kT bT .nil pass0 (pa_cons (pv 0) (pa_cons pe_int pa_nil))) pe_int (nomark _)) (pv 2) (pe_callTy call_tuple_of (by rfl) T.tup (by decide +kernel) (pa_cons (pv 2) pa_nil)))))), ?_⟩
  refine ⟨x, rfl, by show 2 ≤ sizeLine; decide, fun t nt => ?_⟩
  have s1 : Same H (upd H t (.tup [.ty "list", .ty "tuple"])) := same_new nt
  have ht : upd H t (.tup [.ty "list", .ty "tuple"]) t = some (.tup [.ty "list", .ty "tuple"]) := upd_same
  have U1 : UrnAt u (upd H t (.tup [.ty "list", .ty "tuple"])) m := U.upd (U.ne nt)
  generalize upd H t (.tup [.ty "list", .ty "tuple"]) = H1 at s1 ht U1 ⊢
  have hx1 := dp_same (hid_same s1) hx
  have ain1 : AllIn us H1 := fun v m => same_in s1 (ain v m)
  rcases dp_shape hx1 hD with ⟨z, rfl, rfl⟩ | ⟨xs, ds, tn, hq, ax, hlen, hall, hd, tx, k3⟩
  · refine ⟨_, t, _, _, _, _, rfl, ht, cls_lt, .base (.str z), ty_lt_str, _, rfl, iteT ?_⟩
    exact ⟨_, rfl, k _ (.str z) _ U1 (keep_of_same s1) (.str z) rfl⟩
  · refine ⟨_, t, _, _, _, _, rfl, ht, cls_lt, tx _ hid_le, k3, _, rfl, iteF ?_⟩
    have nd : nodes dd = 1 + nodesL ds := by
      rcases hd with rfl | rfl
      · rfl
      · rfl
    have ld : lstD dd = .list (ds.map lstD) := by
      rcases hd with rfl | rfl
      · exact congrArg PyData.list (lstDs_map ds)
      · exact congrArg PyData.list (lstDs_map ds)
    refine ⟨x, rfl, ?_⟩
    have lx := dpa_len ax
    refine lc_any hq (Stays.of hid_le) (fun D i H' => ∃ (zs : List V) (es : List PyData), Keep u H1 H' ∧ UrnAt u H' (m + nodesL (ds.take i)) ∧ H' D = some (.lst zs) ∧ DpAll K (hid (D :: us) H') zs es ∧ es.map lstD = (ds.take i).map lstD)
      (fun D nD => ⟨[], [], keep_new nD, U1.upd (U1.ne nD), upd_same, .nil, rfl⟩) (fun D i H' _ ⟨_, _, k2, _⟩ => Stays.of ((hid_keep k2 um).trans hid_le))
      (fun D i y H' nD ey ⟨zs, es, k2, U2, hD', az, ez⟩ => ?_) (fun D H' nD ⟨zs, es, k2, U2, hD', az, ez⟩ => ?_)
    · obtain ⟨d, ed, dx⟩ := dpa_at ax ey
      have hi := (List.getElem?_eq_some_iff.mp ed).1
      have lz := dpa_len az
      have le := congrArg List.length ez
      rw [List.length_map, List.length_map, List.length_take] at le
      have Du : D ≠ u := U1.ne nD
      have hn := nodesL_next ed
      have hn2 : nodesL (ds.take (i + 1)) ≤ nodesL ds := nodesL_take
      have dx2 : Dp K (hid (D :: us) H') y d := dp_same (hid_more (hid_keep k2 um) nD) dx
      refine ⟨rfl, _, rfl, y, rfl, u, D :: us, y, d, _, rfl, List.mem_cons_of_mem _ um, AllIn.cons (fun v _ => keep_in k2 U2) ain1 hD', U2, by omega, dx2, hall d (List.mem_of_getElem? ed), fun y2 d2 H2 U3 k3 dy e2 => ?_⟩
      have hD2 := k3 D _ Du hD'
      refine ⟨zs, hD2, small1000 (by omega), zs ++ [y2], es ++ [d2], (k2.trans k3).put nD, ?_, upd_same, ?_, ?_⟩
      · rw [hn, ← Nat.add_assoc]
        exact U3.upd Du
      · rw [hid_put List.mem_cons_self]
        exact dpa_snoc dy (dpa_same (hid_keep k3 (List.mem_cons_of_mem _ um)) az)
      · rw [List.map_append, ez, List.take_add_one, ed, List.map_append]
        show _ ++ [lstD d2] = _ ++ [lstD d]
        rw [e2]
    · rw [lx, List.take_length] at ez U2
      have nu : D ∉ us := ain1.not nD
      have Du : D ≠ u := U1.ne nD
      refine ⟨_, rfl, u, 2, _, rfl, U2, by omega, by decide, by decide, fun r H2 r0 r1 U3 k4 => ⟨rfl, _, rfl, ?_⟩⟩
      have hD2 := k4 D _ Du hD'
      have az2 : DpAll K (hid us H2) zs es := dpa_same hid_less (dpa_same (hid_keep k4 (List.mem_cons_of_mem _ um)) az)
      have U4 : UrnAt u H2 (m + nodes dd) := U3.le (by omega)
      have kk := (keep_of_same (u := u) s1).trans (k2.trans k4)
      have em : lstD (.list es) = lstD dd := by
        rw [ld]
        exact congrArg PyData.list ((lstDs_map es).trans ez)
      refine ite2 (fun _ => ?_) (fun _ => ?_)
      · exact ⟨_, rfl, k _ (.list es) _ U4 kk (.lst (.inl (.inl (by rw [hid_out nu]; exact hD2))) az2) em⟩
      · refine ⟨_, rfl, D, _, rfl, .inl ⟨SqL.of hD2, fun p np => ?_⟩⟩
        have pu := U4.ne np
        have ain2 : AllIn us H2 := fun v mm => keep_in (k2.trans k4) U4 (ain1 v mm)
        have nup : p ∉ us := ain2.not np
        refine k _ (.tuple es) _ (U4.upd pu) (kk.trans (keep_new np)) (.tup (.inl (.inl (by rw [hid_out nup]; exact upd_same))) ?_) em
        exact dpa_same (hid_same (same_new np)) az2
end
end Cx

/-! the state of a sheet that is drawn -/
namespace Cx
open PySem PySem.Spec PyProof.Rows L2
theorem nodup_le : ∀ {L ys : List Str}, L.Nodup → (∀ j ∈ L, j ∈ ys) → L.length ≤ ys.length
  | [], _, _, _ => Nat.zero_le _
  | x :: L, ys, nd, h => by
    have hx : x ∈ ys := h x List.mem_cons_self
    have nd2 := List.nodup_cons.mp nd
    have ih := nodup_le (L := L) (ys := ys.erase x) nd2.2 fun j m => (List.mem_erase_of_ne fun (e : j = x) => nd2.1 (e ▸ m)).mpr (h j (List.mem_cons_of_mem _ m))
    rw [List.length_erase_of_mem hx] at ih
    have : 0 < ys.length := List.length_pos_of_mem hx
    rw [List.length_cons]
    omega
theorem rep01 {H : Hp} {l : Addr} {xs : List V} {b : Bool} {Q : VK} (hH : H l = some (.lst xs)) (hz : xs.length ≤ 1000) (q : ∀ p, H p = none → Q (.ref p) (upd H p (.lst (if b = true then xs else [])))) : rRep (.ref l) (.int (if b = true then 1 else 0)) H Q := by
  cases b with
  | true =>
    refine ⟨l, 1, xs, rfl, rfl, hH, by decide, by decide, by rw [Int.toNat_one, Nat.mul_one]; exact Nat.le_of_lt (small1000 hz), fun p np => ?_⟩
    have e : (List.replicate (1 : Int).toNat xs).flatten = xs := by
      show ([xs] : List (List V)).flatten = xs
      simp
    rw [e]
    exact q p np
  | false =>
    exact ⟨l, 0, xs, rfl, rfl, hH, by decide, by decide, Nat.zero_le _, fun p np => q p np⟩
theorem cut_str (ys : List Str) (lo hi : Option Int) : ∃ zs : List Str, cutV (ys.map V.str) lo hi = zs.map V.str ∧ zs.length ≤ ys.length ∧ ∀ z ∈ zs, z ∈ ys := by
  refine ⟨(ys.drop (HT.sIx ys.length 0 lo)).take (HT.sIx ys.length ys.length hi - HT.sIx ys.length 0 lo), ?_, ?_, fun z m => List.mem_of_mem_drop (List.mem_of_mem_take m)⟩
  · unfold cutV
    rw [List.length_map, List.map_take, List.map_drop]
  · rw [List.length_take, List.length_drop]
    omega
theorem cut_s1 (ys : List Str) (t : Nat) : cutV (ys.map V.str) none (some (t : Int)) = (ys.take t).map V.str := by
  unfold cutV
  rw [List.length_map, HT.sIx_none, HT.sIx_nat, List.drop_zero, Nat.sub_zero, ← List.map_take]
  congr 1
  by_cases h : t ≤ ys.length
  · rw [Nat.min_eq_left h]
  · rw [Nat.min_eq_right (by omega), List.take_length, List.take_of_length_le (by omega)]
theorem cut_s2 (ys : List Str) (m e : Nat) : ∃ zs : List Str, cutV (ys.map V.str) (some (m : Int)) (some ((m : Int) + (e : Int))) = zs.map V.str ∧ zs.length ≤ e ∧ zs.length ≤ ys.length ∧ ∀ z ∈ zs, z ∈ ys := by
  refine ⟨(ys.drop (HT.sIx ys.length 0 (some (m : Int)))).take (HT.sIx ys.length ys.length (some ((m + e : Nat) : Int)) - HT.sIx ys.length 0 (some (m : Int))), ?_, ?_, ?_, fun z h => List.mem_of_mem_drop (List.mem_of_mem_take h)⟩
  · unfold cutV
    rw [List.length_map, List.map_take, List.map_drop]
    rfl
  · rw [List.length_take, HT.sIx_nat, HT.sIx_nat]
    omega
  · rw [List.length_take, List.length_drop]
    omega
theorem if_map {b : Bool} {zs : List Str} : (if b = true then zs.map V.str else []) = (if b = true then zs else []).map V.str := by
  cases b
  · rfl
  · rfl
theorem if_le {α : Type} {b : Bool} {zs : List α} : (if b = true then zs else []).length ≤ zs.length := by
  cases b
  · exact Nat.zero_le _
  · exact Nat.le_refl _
theorem if_mem {α : Type} {b : Bool} {zs : List α} {z : α} (h : z ∈ (if b = true then zs else [])) : z ∈ zs := by
  cases b
  · cases h
  · exact h
theorem rep01s {H : Hp} {l : Addr} {xs : List Str} {b : Bool} {Q : VK} (hH : H l = some (.lst (xs.map V.str))) (hz : xs.length ≤ 1000) (q : ∀ p (zs : List Str), H p = none → zs.length ≤ xs.length → (∀ y ∈ zs, y ∈ xs) → Q (.ref p) (upd H p (.lst (zs.map V.str)))) :
    rRep (.ref l) (.int (if b = true then 1 else 0)) H Q := rep01 hH (by rw [List.length_map]; exact hz) fun p np => by
  rw [if_map]
  exact q p _ np if_le fun y m => if_mem m
theorem cats {H : Hp} {l b : Addr} {xs zs : List Str} {Q : VK} (h1 : H l = some (.lst (xs.map V.str))) (h2 : H b = some (.lst (zs.map V.str))) (hz : xs.length + zs.length ≤ 1000) (q : ∀ p, H p = none → Q (.ref p) (upd H p (.lst ((xs ++ zs).map V.str)))) : rCat (.ref l) (.ref b) H Q := by
  refine ⟨l, b, _, _, rfl, rfl, h1, h2, by rw [List.length_map, List.length_map]; exact Nat.le_of_lt (small1000 hz), fun p np => ?_⟩
  rw [← List.map_append]
  exact q p np
theorem sl_s {K : PySem.W.Frag} {H : Hp} {a : Addr} {ys : List Str} {lo hi : Option Int} {Q : VK} (h : H a = some (.lst (ys.map V.str))) (q : ∀ p (zs : List Str), H p = none → zs.length ≤ ys.length → (∀ z ∈ zs, z ∈ ys) → Q (.ref p) (upd H p (.lst (zs.map V.str)))) : rSlL K (.ref a) lo hi H Q := by
  refine ⟨a, _, rfl, SqL.of h, fun p np => ?_⟩
  obtain ⟨zs, e, l1, m1⟩ := cut_str ys lo hi
  rw [e]
  exact q p zs np l1 m1
theorem at_s {fo : List Str} {i : Nat} (h : i < fo.length) : atI (fo.map V.str) ((i : Nat) : Int) = some (.str fo[i]) := atI_nat (by rw [List.getElem?_map, List.getElem?_eq_getElem h]; rfl)
/-- what the dict at T holds: for each of these names a list of texts -/
def Tab (u T : Addr) (H0 : Hp) (fx : List (Addr × List Str)) (ys names : List Str) (B : Nat) (H : Hp) : Prop := ∃ kvs : List (Key × V), H T = some (.dK kvs) ∧ kvs.length ≤ names.length ∧
  ∀ z ∈ names, ∃ (a : Addr) (ws : List Str), valV kvs (.inr z) = some (.ref a) ∧ H a = some (.lst (ws.map V.str)) ∧ ws.length ≤ B ∧ (∀ y ∈ ws, y ∈ ys) ∧ H0 a = none ∧ a ≠ u ∧ a ≠ T ∧ ∀ p ∈ fx, a ≠ p.1
structure TmI (u T : Addr) (H0 : Hp) (fx : List (Addr × List Str)) (ys names : List Str) (c B : Nat) (H : Hp) : Prop where
  kp : Keep u H0 H
  U : UrnAt u H c
  Tu : T ≠ u
  T0 : H0 T = none
  fs : ∀ p ∈ fx, p.1 ≠ u ∧ p.1 ≠ T ∧ H p.1 = some (.lst (p.2.map V.str))
  tb : Tab u T H0 fx ys names B H
section
variable {u T : Addr} {H0 H H2 : Hp} {fx : List (Addr × List Str)} {ys names : List Str} {c c2 B B2 : Nat}
theorem TmI.keep (I : TmI u T H0 fx ys names c B H) (k : Keep u H H2) (U2 : UrnAt u H2 c2) : TmI u T H0 fx ys names c2 B H2 := by
  obtain ⟨kvs, ht, hl, h⟩ := I.tb
  refine ⟨I.kp.trans k, U2, I.Tu, I.T0, fun p m => ⟨(I.fs p m).1, (I.fs p m).2.1, k _ _ (I.fs p m).1 (I.fs p m).2.2⟩, kvs, k T _ I.Tu ht, hl, fun z m => ?_⟩
  obtain ⟨a, ws, e1, e2, e3, e4, e5, e6, r⟩ := h z m
  exact ⟨a, ws, e1, k a _ e6 e2, e3, e4, e5, e6, r⟩
theorem TmI.le (I : TmI u T H0 fx ys names c B H) (h1 : c ≤ c2) (h2 : B ≤ B2) : TmI u T H0 fx ys names c2 B2 H := by
  obtain ⟨kvs, ht, hl, h⟩ := I.tb
  refine ⟨I.kp, I.U.le h1, I.Tu, I.T0, I.fs, kvs, ht, hl, fun z m => ?_⟩
  obtain ⟨a, ws, e1, e2, e3, r⟩ := h z m
  exact ⟨a, ws, e1, e2, Nat.le_trans e3 h2, r⟩
theorem TmI.new {p : Addr} {o : HO} (I : TmI u T H0 fx ys names c B H) (np : H p = none) : TmI u T H0 fx ys names c B (upd H p o) := I.keep (keep_new np) (I.U.upd (I.U.ne np))
theorem TmI.ne (I : TmI u T H0 fx ys names c B H) {p : Addr} (np : H p = none) : p ≠ T := by
  obtain ⟨kvs, ht, _⟩ := I.tb
  exact (ne_of_none ht np).symm
theorem TmI.fne (I : TmI u T H0 fx ys names c B H) {p : Addr} (np : H p = none) : ∀ q ∈ fx, p ≠ q.1 := fun q m => (ne_of_none (I.fs q m).2.2 np).symm
theorem TmI.fix {p : Addr} {zs : List Str} (I : TmI u T H0 fx ys names c B H) (np : H p = none) : TmI u T H0 ((p, zs) :: fx) ys names c B (upd H p (.lst (zs.map V.str))) := by
  have J := I.new (o := .lst (zs.map V.str)) np
  obtain ⟨kvs, ht, hl, h⟩ := I.tb
  refine ⟨J.kp, J.U, J.Tu, J.T0, fun q m => ?_, kvs, by rw [upd_ne (I.ne np).symm]; exact ht, hl, fun z m => ?_⟩
  · rcases List.mem_cons.mp m with e | m
    · subst e
      exact ⟨I.U.ne np, I.ne np, upd_same⟩
    · exact J.fs q m
  · obtain ⟨a, ws, e1, e2, e3, e4, e5, e6, e7, e8⟩ := h z m
    have hne := ne_of_none e2 np
    refine ⟨a, ws, e1, by rw [upd_ne hne]; exact e2, e3, e4, e5, e6, e7, fun q m2 => ?_⟩
    rcases List.mem_cons.mp m2 with e | m2
    · subst e
      exact hne
    · exact e8 q m2
theorem TmI.drop {q : Addr × List Str} (I : TmI u T H0 (q :: fx) ys names c B H) : TmI u T H0 fx ys names c B H := by
  obtain ⟨kvs, ht, hl, h⟩ := I.tb
  refine ⟨I.kp, I.U, I.Tu, I.T0, fun p m => I.fs p (List.mem_cons_of_mem _ m), kvs, ht, hl, fun z m => ?_⟩
  obtain ⟨a, ws, e1, e2, e3, e4, e5, e6, e7, e8⟩ := h z m
  exact ⟨a, ws, e1, e2, e3, e4, e5, e6, e7, fun p m => e8 p (List.mem_cons_of_mem _ m)⟩
/-- a list of texts, new, put under one more name -/
theorem TmI.put {a : Addr} {ws : List Str} {z : Str} (I : TmI u T H0 fx ys names c B H) (na : H a = none) (hw : ws.length ≤ B) (hm : ∀ y ∈ ws, y ∈ ys) (hn : names.length ≤ 900) :
    ∃ H4, DPut (upd H a (.lst (ws.map V.str))) T (.str z) (.ref a) H4 ∧ TmI u T H0 fx ys (names ++ [z]) c B H4 := by
  have J := I.new (o := .lst (ws.map V.str)) na
  have nf := I.fne na
  have au := I.U.ne na
  have aT := I.ne na
  have a0 : H0 a = none := I.kp.free au na
  have ha : upd H a (.lst (ws.map V.str)) a = some (.lst (ws.map V.str)) := upd_same
  generalize upd H a (.lst (ws.map V.str)) = H1 at J ha ⊢
  obtain ⟨kvs, ht, hl, h⟩ := J.tb
  refine ⟨_, DPut.k (k := Sum.inr z) ht (small1000 (by omega)), J.kp.put J.T0, J.U.upd J.Tu, J.Tu, J.T0, fun p m => ⟨(J.fs p m).1, (J.fs p m).2.1, by rw [upd_ne (J.fs p m).2.1]; exact (J.fs p m).2.2⟩, _, upd_same, ?_, fun y m => ?_⟩
  · have := length_putK kvs (Sum.inr z) (V.ref a)
    rw [List.length_append]
    show _ ≤ names.length + 1
    omega
  · by_cases e : (Sum.inr y : Key) = Sum.inr z
    · refine ⟨a, ws, by rw [valV_put, if_pos e], by rw [upd_ne aT]; exact ha, hw, hm, a0, au, aT, nf⟩
    · have m2 : y ∈ names := by
        rcases List.mem_append.mp m with m | m
        · exact m
        · exact absurd (congrArg Sum.inr (List.mem_singleton.mp m)) e
      obtain ⟨b, vs, e1, e2, e3, e4, e5, e6, e7, e8⟩ := h y m2
      exact ⟨b, vs, by rw [valV_put, if_neg e]; exact e1, by rw [upd_ne e7]; exact e2, e3, e4, e5, e6, e7, e8⟩
/-- what stands under a name, and one text more at its end -/
theorem TmI.app {z : Str} (I : TmI u T H0 fx ys names c B H) (m : z ∈ names) : ∃ (a : Addr) (ws : List Str), DGet H T (.str z) (some (.ref a)) ∧ H a = some (.lst (ws.map V.str)) ∧ ws.length ≤ B ∧ (∀ y ∈ ws, y ∈ ys) ∧
    ∀ y ∈ ys, TmI u T H0 fx ys names c (B + 1) (upd H a (.lst (ws.map V.str ++ [.str y]))) := by
  obtain ⟨kvs, ht, hl, h⟩ := I.tb
  obtain ⟨a, ws, e1, e2, e3, e4, e5, e6, e7, e8⟩ := h z m
  refine ⟨a, ws, by rw [← e1]; exact DGet.k (k := Sum.inr z) ht, e2, e3, e4, fun y my => ?_⟩
  refine ⟨I.kp.put e5, I.U.upd e6, I.Tu, I.T0, fun p mp => ⟨(I.fs p mp).1, (I.fs p mp).2.1, by rw [upd_ne (e8 p mp).symm]; exact (I.fs p mp).2.2⟩, kvs, by rw [upd_ne e7.symm]; exact ht, hl, fun x mx => ?_⟩
  obtain ⟨b, vs, f1, f2, f3, f4, f5, f6, f7, f8⟩ := h x mx
  by_cases e : b = a
  · subst e
    rw [e2] at f2
    refine ⟨b, ws ++ [y], f1, by rw [upd_same, List.map_append]; rfl, by rw [List.length_append]; show ws.length + 1 ≤ _; omega, fun v mv => ?_, f5, f6, f7, f8⟩
    rcases List.mem_append.mp mv with mv | mv
    · exact e4 v mv
    · rw [List.mem_singleton.mp mv]
      exact my
  · exact ⟨b, vs, f1, by rw [upd_ne e]; exact f2, by omega, f4, f5, f6, f7, f8⟩
theorem TmI.at {p : Addr} {xs : List Str} (I : TmI u T H0 fx ys names c B H) (m : (p, xs) ∈ fx) : H p = some (.lst (xs.map V.str)) := (I.fs _ m).2.2
end
/-! ### rows of a sheet -/
def RowAt (H : Hp) (v : V) (q : Str × List Str) : Prop := ∃ a t, v = .ref a ∧ H a = some (.tup [.str q.1, .ref t]) ∧ H t = some (.tup (q.2.map V.str))
theorem RowAt.keep {H H' : Hp} {v : V} {q : Str × List Str} (k : ∀ b xs, H b = some (.tup xs) → H' b = some (.tup xs)) (r : RowAt H v q) : RowAt H' v q := by
  obtain ⟨a, t, e, h1, h2⟩ := r
  exact ⟨a, t, e, k _ _ h1, k _ _ h2⟩
theorem tup_lst {H : Hp} {D : Addr} {xs : List V} {o : HO} (h : H D = some (.lst xs)) : ∀ b ys, H b = some (.tup ys) → upd H D o b = some (.tup ys) := fun b ys e => by
  rw [upd_ne fun c => by rw [c, h] at e; cases e]
  exact e
theorem pair_at {α β : Type} {R : α → β → Prop} : ∀ {xs : List α} {ys : List β} {i : Nat} {x : α}, Paired R xs ys → xs[i]? = some x → ∃ y, ys[i]? = some y ∧ R x y
  | _, _, 0, _, .cons h _, e => by
    cases e
    exact ⟨_, rfl, h⟩
  | _, _, i + 1, _, .cons _ t, e => pair_at (i := i) t e
theorem pair_snoc {α β : Type} {R : α → β → Prop} {x : α} {y : β} (h : R x y) : ∀ {xs : List α} {ys : List β}, Paired R xs ys → Paired R (xs ++ [x]) (ys ++ [y])
  | _, _, .nil => .cons h .nil
  | _, _, .cons g t => .cons g (pair_snoc h t)
theorem pair_perm {α β : Type} {R : α → β → Prop} {xs zs : List α} (p : zs.Perm xs) : ∀ {ys : List β}, Paired R xs ys → ∃ ws : List β, ws.Perm ys ∧ Paired R zs ws := by
  induction p with
  | nil =>
    intro ys h
    exact ⟨ys, .refl _, h⟩
  | cons x p ih =>
    intro ys h
    cases h with
    | cons h t =>
      obtain ⟨ws, q, r⟩ := ih t
      exact ⟨_ :: ws, q.cons _, .cons h r⟩
  | swap x y l =>
    intro ys h
    cases h with
    | cons h t =>
      cases t with
      | cons g t => exact ⟨_, .swap _ _ _, .cons g (.cons h t)⟩
  | trans p1 p2 ih1 ih2 =>
    intro ys h
    obtain ⟨ws, q, r⟩ := ih2 h
    obtain ⟨vs, q2, r2⟩ := ih1 r
    exact ⟨vs, q2.trans q, r2⟩
theorem nodup_ix {xs : List Str} (h : xs.Nodup) : ∀ {i j : Nat} {x : Str}, xs[i]? = some x → xs[j]? = some x → i = j := by
  intro i j x h1 h2
  obtain ⟨hi, e1⟩ := List.getElem?_eq_some_iff.mp h1
  obtain ⟨hj, e2⟩ := List.getElem?_eq_some_iff.mp h2
  have pw := List.pairwise_iff_getElem.mp h
  rcases Nat.lt_trichotomy i j with c | c | c
  · exact absurd (e1.trans e2.symm) (pw i j hi hj c)
  · exact c
  · exact absurd (e2.trans e1.symm) (pw j i hj hi c)
def rowK (H : Hp) : V → Str
  | .ref a => match H a with
    | some (.tup (.str z :: _)) => z
    | _ => ""
  | _ => ""
def rowT (H : Hp) : V → Addr
  | .ref a => match H a with
    | some (.tup (_ :: .ref t :: _)) => t
    | _ => 0
  | _ => 0
theorem rowK_at {H : Hp} {a t : Addr} {z : Str} (h : H a = some (.tup [.str z, .ref t])) : rowK H (.ref a) = z := by
  unfold rowK
  simp only [h]
theorem rowT_at {H : Hp} {a t : Addr} {z : Str} (h : H a = some (.tup [.str z, .ref t])) : rowT H (.ref a) = t := by
  unfold rowT
  simp only [h]
theorem tup_hide {H : Hp} {u b : Addr} {us xs : List V} (hu : H u = some (.lst us)) (h : H b = some (.tup xs)) : hide u H b = some (.tup xs) := by
  rw [hide_ne fun c => by rw [c, hu] at h; cases h]
  exact h
theorem dpa_strs {K : PySem.W.Frag} {H : Hp} : ∀ xs : List Str, DpAll K H (xs.map V.str) (xs.map PyData.str)
  | [] => .nil
  | x :: xs => .cons (.str x) (dpa_strs xs)
theorem dpa_rows {K : PySem.W.Frag} {H : Hp} {u : Addr} {us : List V} (hu : H u = some (.lst us)) : ∀ {zs : List V} {rs : List (Str × List Str)}, Paired (RowAt H) zs rs → DpAll K (hide u H) zs (rs.map fun r => .tuple [.str r.1, .tuple (r.2.map PyData.str)])
  | _, _, .nil => .nil
  | _, _, .cons h t => by
    obtain ⟨a, b, rfl, h1, h2⟩ := h
    exact .cons (.tup (.inl (.inl (tup_hide hu h1))) (.cons (.str _) (.cons (.tup (.inl (.inl (tup_hide hu h2))) (dpa_strs _)) .nil))) (dpa_rows hu t)
end Cx

namespace Cx
open PySem PySem.Spec PyProof.Rows L2
/-- a sheet of tuples -/
def shT (rs : List (Str × List Str)) (es : List Str) : PyData := .tuple [.tuple (rs.map fun r => .tuple [.str r.1, .tuple (r.2.map PyData.str)]), .tuple (es.map PyData.str)]
def names11 : List Str := ["a", "ann", "bob", "cat", "dan", "eve", "fay", "new", "old", "x", "zzzzzzzz"]
section
variable {P : Program} {w : World} {K : PySem.W.Frag} {mg : Str → Option Value} {base : Heap}
def spTome (K : PySem.W.Frag) : Sp := fun vs H Q _ => ∃ (u : Addr) (most free n : Nat), vs = [.ref u, .int (most : Int), .int (free : Int)] ∧ UrnAt u H n ∧ n + 1000 ≤ 1000000 ∧ 1 ≤ most ∧ most + free ≤ 11 ∧
  ∀ q rs es H', UrnAt u H' (n + 1000) → Keep u H H' → Dp K (hide u H') (.ref q) (shT rs es) → rs.length ≤ most → es.length ≤ free → (∀ r ∈ rs, r.2.length ≤ 11 ∧ r.1 ∈ names11 ∧ ∀ y ∈ r.2, y ∈ names11) → (∀ z ∈ es, z ∈ names11) → Q (.ref q) H'
abbrev nTm : List Str := ["_law_urn", "_law_most_so", "_law_free_so", "_law_left", "_law_many_so", "_law_empty_so", "_law_folk", "_law_free", "_law_table", "_law_style", "_law_wide", "_law_k", "_law_wants", "_law_far", "_law_way", "_law_rows_so", "_law_own", "_law_flat"]
theorem scTm : FnScope nTm ["_law_urn", "_law_most_so", "_law_free_so"] (defScope sTome) := ⟨rfl, rfl, rfl, by decide +kernel, rfl, by decide +kernel, by decide +kernel⟩
structure TyTm (mg : Str → Option Value) : Prop where
  lst : mg "list" = none
  tup : mg "tuple" = none
  int : mg "int" = none
  rng : mg "range" = none
  srt : mg "sorted" = none
  set : mg "set" = none
/-- tuple(..) of what is made here -/
def rTupOf (K : PySem.W.Frag) : List V → Hp → VK → Prop := fun xs H Q => ∃ p ys, xs = [.ref p] ∧ ((SqL K H p ys ∧ ∀ t, H t = none → Q (.ref t) (upd H t (.tup ys))) ∨ (SqT K H p ys ∧ Q (.ref p) H))
def scRow : Scope := { kind := .function, names := [(".0", .local), ("_law_own", .cell), ("tuple", .globalImplicit), ("sorted", .globalImplicit), ("set", .globalImplicit), ("_law_table", .cell)], isGenerator := false, isCoroutine := false }
abbrev stT (u : Addr) (most free : Nat) (L : Addr) (m e : Nat) (F E T : Addr) (st wd : Int) (k ws fa wy rw : Option V) : L2.St := [some (.ref u), some (.int (most : Int)), some (.int (free : Int)), some (.ref L), some (.int (m : Int)), some (.int (e : Int)), some (.ref F), some (.ref E), some (.ref T), some (.int st), some (.int wd), k, ws, fa, wy, rw, none, none]
/-- what a sheet is drawn of -/
structure TmF (most free m : Nat) (st wd : Int) (ys fo fr : List Str) : Prop where
  fm : fo.length = m
  m1 : 1 ≤ m
  mm : m ≤ most
  m11 : m ≤ 11
  fl : fr.length ≤ free
  f11 : fr.length ≤ 11
  nd : fo.Nodup
  yl : ys.length = 11
  fy : ∀ z ∈ fo, z ∈ ys
  ry : ∀ z ∈ fr, z ∈ ys
  yn : ∀ z ∈ ys, z ∈ names11
  w0 : 0 < wd
  w1 : wd < 1000
theorem ok_tome {f g1 g2 g3 : Addr} {fd gd1 gd2 gd3 : FuncData} (F : Fun K "_law_tome" "_law_tome" sTome f fd)
    (GT : FnOk P w K mg base CX0 1 g1 gd1 ["_law_urn", "_law_low_so"] spTake) (bT : Binds K gd1 ["_law_urn", "_law_low_so"] []) (kT : PySem.W.keepIn K (.ref g1) = true) (mT : mg "_law_take" = some (.ref g1))
    (GF : FnOk P w K mg base CX0 2 g2 gd2 ["_law_urn", "_law_pool", "_law_one_of"] (spFew K)) (bF : Binds K gd2 ["_law_urn", "_law_pool", "_law_one_of"] []) (kF : PySem.W.keepIn K (.ref g2) = true) (mF : mg "_law_few" = some (.ref g2))
    (GM : FnOk P w K mg base CX0 2 g3 gd3 ["_law_urn", "_law_pool"] (spMixed K)) (bM : Binds K gd3 ["_law_urn", "_law_pool"] []) (kM : PySem.W.keepIn K (.ref g3) = true) (mM : mg "_law_mixed" = some (.ref g3)) (T : TyTm mg) :
    FnOk P w K mg base CX0 3 f fd ["_law_urn", "_law_most_so", "_law_free_so"] (spTome K) := by
  refine F.ok scTm (fun vs H Q E h => ?_) (fun cdv A outer s H vs Q E hr h => ?_)
  · obtain ⟨u, most, free, n, rfl, _⟩ := h
    rfl
  have hr1 : Room 1 _ := hr.mono (by omega)
  have hu := Nat.lt_of_le_of_lt (Nat.add_le_add_left (show 1 ≤ 64 by decide) _) hr.units
  refine ⟨_, pss_cons (ps_set (i := 3) scTm.nd rfl (.inl rfl) (pe_lst (pa_cons pe_str (pa_cons pe_str (pa_cons pe_str (pa_cons pe_str (pa_cons pe_str (pa_cons pe_str (pa_cons pe_str (pa_cons pe_str (pa_cons pe_str (pa_cons pe_str (pa_cons pe_str pa_nil)))))))))))))
    (Evl.pss_cut (ps_par (i := 4) (j := 5) (by rfl) scTm.nd rfl rfl (by decide) rfl rfl (pa_cons (pe_op op_add pe_int (pe_call GT hr1 (by rfl) mT kT bT .nil pass0 (pa_cons (pv 0) (pa_cons (pv 1) pa_nil)))) (pa_cons (pe_call GT hr1 (by rfl) mT kT bT .nil pass0 (pa_cons (pv 0) (pa_cons (pe_op op_add (pv 2) pe_int) pa_nil))) pa_nil)) (by rfl))
    (pss_cons (ps_set (i := 3) scTm.nd rfl (.inl rfl) (pe_callTy call_list_of (by rfl) T.lst (by decide +kernel) (pa_cons (pe_call GM hr (by rfl) mM kM bM .nil pass0 (pa_cons (pv 0) (pa_cons (pv 3) pa_nil))) pa_nil)))
    (pss_cons (ps_par (i := 6) (j := 7) (by rfl) scTm.nd rfl rfl (by decide) rfl rfl (pa_cons (pe_slice sl_list (pv 3) po_none (po_some (pv 4))) (pa_cons (pe_slice sl_list (pv 3) (po_some (pv 4)) (po_some (pe_op op_add (pv 4) (pv 5)))) pa_nil)) (by rfl))
    (Evl.pss_cut (ps_asg (pe_tup (pa_cons pe_dnewK (pa_cons (pe_call GT hr1 (by rfl) mT kT bT .nil pass0 (pa_cons (pv 0) (pa_cons pe_int pa_nil))) (pa_cons (pe_op op_add pe_int (pe_call GT hr1 (by rfl) mT kT bT .nil pass0 (pa_cons (pv 0) (pa_cons pe_int pa_nil)))) pa_nil))))
        (pg_tup rfl (pgs_cons (pg_name (i := 8) scTm.nd rfl (.inr rfl)) (pgs_cons (pg_name (i := 9) scTm.nd rfl (.inl rfl)) (pgs_cons (pg_name (i := 10) scTm.nd rfl (.inl rfl)) pgs_nil)))))
    (Evl.pss_cut (ps_for PassesOwn.never rfl (pi_range1 (by rfl) T.rng (pa_cons (pv 4) pa_nil)) (pg_name (i := 11) scTm.nd rfl (.inl rfl))
      (pss_cons (ps_set (i := 12) scTm.nd rfl (.inl rfl) (pe_op op_rep (pe_lst (pa_cons (pe_ix ix_list (pv 6) (pe_op op_mod (pe_callTy call_int1 (by rfl) T.int (by decide +kernel) (pa_cons (pe_op op_add (pv 11) pe_int) pa_nil)) (pv 4)) (fun _ _ => rfl)) pa_nil)) (pe_callTy call_int1 (by rfl) T.int (by decide +kernel) (pa_cons (pe_cmpR op_eq (pv 9) pe_int (nomark _)) pa_nil))))
      (pss_cons (ps_set (i := 12) scTm.nd rfl (.inl rfl) (pe_op op_cat (pv 12) (pe_callTy call_list_of (by rfl) T.lst (by decide +kernel) (pa_cons (pe_call GF hr (by rfl) mF kF bF .nil pass0 (pa_cons (pv 0) (pa_cons (pv 7) (pa_cons pe_int pa_nil)))) pa_nil))))
      (pss_one (ps_dput hu (pv 8) (pe_ix ix_list (pv 6) (pv 11) (fun _ _ => rfl)) (pe_op op_cat (pv 12) (pe_op op_rep (pe_slice sl_list (pv 3) (po_some (pe_un un_neg pe_int)) po_none) (pe_callTy call_int1 (by rfl) T.int (by decide +kernel) (pa_cons (pe_cmpR op_eq (pe_call GT hr1 (by rfl) mT kT bT .nil pass0 (pa_cons (pv 0) (pa_cons pe_int pa_nil))) pe_int (nomark _)) pa_nil)))) rfl)))))
    (Evl.pss_cut (ps_for PassesOwn.never rfl (pi_range1 (by rfl) T.rng (pa_cons (pv 4) pa_nil)) (pg_name (i := 11) scTm.nd rfl (.inl rfl))
      (pss_one (ps_for PassesOwn.never rfl (pi_list (pe_slice sl_list (pv 6) (po_some (pe_op op_add (pv 11) pe_int)) po_none)) (pg_name (i := 13) scTm.nd rfl (.inl rfl))
        (pss_cons (ps_set (i := 14) scTm.nd rfl (.inl rfl) (pe_call GT hr1 (by rfl) mT kT bT .nil pass0 (pa_cons (pv 0) (pa_cons (pv 10) pa_nil))))
        (Evl.pss_cut (ps_if (PW.pt (pw_or (pt_cmpR op_eq (pv 14) pe_int (nomark _)) (pw_or1 (PW.pt (pw_and (pt_cmpR op_eq (pv 14) pe_int (nomark _)) (pw_and1 (pt_cmpR op_gt (pv 9) pe_int (nomark _))))))))
          (pss_one (ps_expr (pe_bm PySem.F.plainAttrs_list PySem.F.slot_list_append PySem.F.type_list_append mt_append (pe_dget hu (pv 8) (pe_ix ix_list (pv 6) (pv 11) (fun _ _ => rfl)) (fun _ _ => rfl)) (pa_cons (pv 13) pa_nil)))) pss_nil)
        (pss_one (ps_if (PW.pt (pw_or (pt_cmpR op_eq (pv 14) pe_int (nomark _)) (pw_or1 (PW.pt (pw_and (pt_cmpR op_eq (pv 14) pe_int (nomark _)) (pw_and1 (pt_cmpR op_gt (pv 9) pe_int (nomark _))))))))
          (pss_one (ps_expr (pe_bm PySem.F.plainAttrs_list PySem.F.slot_list_append PySem.F.type_list_append mt_append (pe_dget hu (pv 8) (pv 13) (fun _ _ => rfl)) (pa_cons (pe_ix ix_list (pv 6) (pv 11) (fun _ _ => rfl)) pa_nil)))) pss_nil)))))))
    (Evl.pss_cut (ps_setLcA (i := 15) (own := [("_law_own", 16)]) (g := gName 16) (tt := tYes)
        (te := tTup (tCons (tVar 16) (tCons (tCB (rTupOf K) (tCons (tCB (rSortTx w) (tCons (tCB (rSetTx K w) (tCons (tLcA K (tDGet (tVar 8) (tVar 16)) (gName 17) (tTest (tOp rNe (tVar 17) (tVar 16))) (tVar 17) [17]) tNil)) tNil)) tNil)) tNil)))
        rfl scTm.nd rfl rfl (sw_true rfl rfl rfl (by decide +kernel)) (pv 6) (blkOk_by (N := nTm) (sc := defScope sTome) (by decide +kernel))
        (fun _ _ _ _ _ => pg_name (i := 16) scTm.nd rfl (.inr rfl)) (fun _ _ _ _ _ => pts_nil) (fun _ _ _ _ _ => pe_tup (pa_cons (pv 16) (pa_cons (pe_callTy call_tuple_of (by rfl) T.tup (by decide +kernel) (pa_cons (pe_callB (cr_sortTx rfl) (by rfl) T.srt (by decide +kernel) (pa_cons (pe_callTy (cr_setTx rfl) (by rfl) T.set (by decide +kernel) (pa_cons
          (pe_lcA (own := [("_law_flat", 17)]) (g := gName 17) (tt := tTest (tOp rNe (tVar 17) (tVar 16))) (te := tVar 17) rfl scTm.nd (pe_dget hu (pv 8) (pv 16) (fun _ _ => rfl)) (blkOk_by (N := nTm) (sc := scRow) (by decide +kernel))
            (fun _ _ _ _ _ => pg_name (i := 17) scTm.nd rfl (.inl rfl)) (fun _ _ _ _ _ => pts_one (pt_cmpR op_ne (pv 17) (pv 16) (nomark _))) (fun _ _ _ _ _ => pv 17)) pa_nil)) pa_nil)) pa_nil)) pa_nil))))
    (pss_one (ps_ret (pe_tup (pa_cons (pe_callTy call_tuple_of (by rfl) T.tup (by decide +kernel) (pa_cons (pe_callB cr_sortedRows (by rfl) T.srt (by decide +kernel) (pa_cons (pv 15) pa_nil)) pa_nil)) (pa_cons (pe_callTy call_tuple_of (by rfl) T.tup (by decide +kernel) (pa_cons (pe_callB cr_sortedS (by rfl) T.srt (by decide +kernel) (pa_cons (pv 7) pa_nil)) pa_nil)) pa_nil)))))))))))), ?_⟩
  obtain ⟨u, most, free, n, rfl, U, hn, m1, m2, k⟩ := h
  refine ⟨by show 11 ≤ sizeLine; decide, fun L0 nL0 => ?_⟩
  have U0 := U.upd (o := .lst (names11.map V.str)) (U.ne nL0)
  have k0 : Keep u H _ := keep_new (o := .lst (names11.map V.str)) nL0
  have L0u := U.ne nL0
  have hL0 : upd H L0 (.lst (names11.map V.str)) L0 = some (.lst (names11.map V.str)) := upd_same
  refine ⟨fun σ' H' => ∃ m e : Nat, σ' = [some (.ref u), some (.int (most : Int)), some (.int (free : Int)), some (.ref L0), some (.int (m : Int)), some (.int (e : Int)), none, none, none, none, none, none, none, none, none, none, none, none] ∧ 1 ≤ m ∧ m ≤ most ∧ e ≤ free ∧ UrnAt u H' (n + 2) ∧ Keep u H H' ∧ H' L0 = some (.lst (names11.map V.str)), ?_, ?_⟩
  · refine ⟨_, rfl, _, rfl, u, _, n, rfl, U0, by omega, by omega, by omega, fun r1 H2 r10 r11 U2 k2 => ⟨_, _, rfl, rfl, ?_⟩⟩
    refine ⟨_, rfl, _, rfl, _, _, rfl, rfl, u, _, n + 1, rfl, U2, by omega, by omega, by omega, fun r2 H3 r20 r21 U3 k3 => ⟨_, _, rfl, ?_⟩⟩
    obtain ⟨m, em⟩ := Int.eq_ofNat_of_zero_le (show 0 ≤ 1 + r1 by omega)
    obtain ⟨e, ee⟩ := Int.eq_ofNat_of_zero_le r20
    have hL3 := k3 L0 _ L0u (k2 L0 _ L0u hL0)
    refine ⟨m, e, ?_, by omega, by omega, by omega, U3, (k0.trans k2).trans k3, hL3⟩
    rw [← em, ← ee]
    rfl
  rintro σ1 H3 ⟨m, e, rfl, m3, m4, e3, U3, k3, hL3⟩
  refine ⟨_, rfl, _, rfl, u, .ref L0, names11, n + 2, rfl, U3, by show n + 2 + 11 ≤ _; omega, ⟨L0, rfl, .inl (SqL.of (by rw [hide_ne L0u]; exact hL3))⟩, by decide, fun ys p H4 pm U4 k4 pu np0 hp => ?_⟩
  have hlen : ys.length = 11 := pm.length_eq
  have nd11 : ys.Nodup := pm.nodup_iff.mpr (by decide +kernel)
  refine ⟨p, _, rfl, .inr (.inl (.inl hp)), fun L nL => ?_⟩
  have kA : Keep u H (upd H4 L (.lst (ys.map V.str))) := (k3.trans k4).trans (keep_new nL)
  have Lu := U4.ne nL
  have UA := U4.upd (o := .lst (ys.map V.str)) Lu
  have hL : upd H4 L (.lst (ys.map V.str)) L = some (.lst (ys.map V.str)) := upd_same
  refine ⟨_, rfl, _, rfl, _, rfl, L, _, rfl, SqL.of hL, fun F nF => ?_⟩
  have Fu := UA.ne nF
  rw [cut_s1]
  have kB := kA.trans (keep_new (o := .lst ((ys.take m).map V.str)) nF)
  have UB := UA.upd (o := .lst ((ys.take m).map V.str)) Fu
  have hLB : upd _ F (.lst ((ys.take m).map V.str)) L = some (.lst (ys.map V.str)) := (upd_ne (ne_of_none hL nF)).trans hL
  have hFB : upd _ F (.lst ((ys.take m).map V.str)) F = some (.lst ((ys.take m).map V.str)) := upd_same (H := upd H4 L (.lst (ys.map V.str)))
  refine ⟨_, rfl, _, rfl, _, rfl, _, rfl, _, rfl, _, _, rfl, rfl, _, rfl, L, _, rfl, SqL.of hLB, fun E' nE => ?_⟩
  obtain ⟨fr, efr, fr1, fr2, fr3⟩ := cut_s2 ys m e
  rw [efr]
  have Eu := UB.ne nE
  have kC := kB.trans (keep_new (o := .lst (fr.map V.str)) nE)
  have UC := UB.upd (o := .lst (fr.map V.str)) Eu
  have hLC : upd _ E' (.lst (fr.map V.str)) L = some (.lst (ys.map V.str)) := (upd_ne (ne_of_none hLB nE)).trans hLB
  have hFC : upd _ E' (.lst (fr.map V.str)) F = some (.lst ((ys.take m).map V.str)) := (upd_ne (ne_of_none hFB nE)).trans hFB
  have hEC : upd (upd (upd H4 L (.lst (ys.map V.str))) F (.lst ((ys.take m).map V.str))) E' (.lst (fr.map V.str)) E' = some (.lst (fr.map V.str)) := upd_same
  refine ⟨_, _, rfl, ?_⟩
  have fc : ∀ st wd : Int, 0 < wd → wd < 1000 → TmF most free m st wd ys (ys.take m) fr := fun st wd a b => ⟨by rw [List.length_take]; omega, m3, m4, by omega, by omega, by omega, nd11.sublist (List.take_sublist _ _), hlen, fun z h => List.mem_of_mem_take h, fr3, fun z h => pm.mem_iff.mp h, a, b⟩
  generalize upd (upd (upd H4 L (.lst (ys.map V.str))) F (.lst ((ys.take m).map V.str))) E' (.lst (fr.map V.str)) = HC at kC UC hLC hFC hEC ⊢
  refine ⟨fun σ' H' => ∃ (ys fo fr : List Str) (m e : Nat) (L F E T : Addr) (st wd : Int), σ' = stT u most free L m e F E T st wd none none none none none ∧ TmF most free m st wd ys fo fr ∧ TmI u T H [(L, ys), (F, fo), (E, fr)] ys [] (n + 15) 0 H', ?_, ?_⟩
  · intro T nT
    have I0 : TmI u T H [(L, ys), (F, ys.take m), (E', fr)] ys [] (n + 13) 0 (upd HC T (.dK [])) := by
      refine ⟨kC.trans (keep_new nT), UC.upd (UC.ne nT), UC.ne nT, kC.free (UC.ne nT) nT, fun p mp => ?_, [], upd_same, Nat.le_refl _, fun z mz => nomatch mz⟩
      have hp : p.1 ≠ u ∧ HC p.1 = some (.lst (p.2.map V.str)) := by
        rcases List.mem_cons.mp mp with e | mp
        · subst e
          exact ⟨Lu, hLC⟩
        rcases List.mem_cons.mp mp with e | mp
        · subst e
          exact ⟨Fu, hFC⟩
        rw [List.mem_singleton.mp mp]
        exact ⟨Eu, hEC⟩
      have ne := ne_of_none hp.2 nT
      exact ⟨hp.1, ne, by rw [upd_ne ne]; exact hp.2⟩
    refine ⟨_, rfl, u, 4, _, rfl, I0.U, by omega, by decide, by decide, fun r1 H6 r10 r11 U6 k6 => ?_⟩
    refine ⟨_, rfl, u, 4, _, rfl, U6, by omega, by decide, by decide, fun r2 H7 r20 r21 U7 k7 => ⟨_, _, rfl, rfl, by show 3 ≤ sizeLine; decide, fun q nq => ?_⟩⟩
    have I1 := (I0.keep (k6.trans k7) U7).new (o := .tup [.ref T, .int r1, .int (3 + r2)]) nq
    refine ⟨q, _, rfl, .inl (.inl upd_same), rfl, _, _, rfl, _, _, rfl, _, _, rfl, rfl, ?_⟩
    exact ⟨ys, ys.take m, fr, m, e, L, F, E', T, r1, 3 + r2, rfl, fc _ _ (by omega) (by omega), I1⟩
  clear fc
  rintro σ2 H8 ⟨ys, fo, fr, m, e, L, F, E, T, st, wd, rfl, fc, I⟩
  have fm := fc.fm
  have m1' := fc.m1
  have m11 := fc.m11
  have f11 := fc.f11
  have yl := fc.yl
  have mF : (F, fo) ∈ [(L, ys), (F, fo), (E, fr)] := List.mem_cons_of_mem _ List.mem_cons_self
  have mL : (L, ys) ∈ [(L, ys), (F, fo), (E, fr)] := List.mem_cons_self
  have mE : (E, fr) ∈ [(L, ys), (F, fo), (E, fr)] := List.mem_cons_of_mem _ (List.mem_cons_of_mem _ List.mem_cons_self)
  refine ⟨fun σ' H' => ∃ k ws : Option V, σ' = stT u most free L m e F E T st wd k ws none none none ∧ TmI u T H [(L, ys), (F, fo), (E, fr)] ys fo (n + 15 + 12 * m) 23 H', ?_, ?_⟩
  · refine ⟨_, rfl, _, rfl, by omega, by omega, ?_⟩
    refine for_range (lo := 0) (n := m) (fun i σ H' => ∃ k ws : Option V, σ = stT u most free L m e F E T st wd k ws none none none ∧ TmI u T H [(L, ys), (F, fo), (E, fr)] ys (fo.take i) (n + 15 + 12 * i) 23 H') ?_ ?_ ?_
    · exact ⟨none, none, rfl, I.le (by omega) (by omega)⟩
    · rintro i σ H' hi ⟨k1, w1, rfl, J⟩
      have hi2 : i < fo.length := by omega
      have hj : (i + 1) % m < fo.length := by rw [fm]; exact Nat.mod_lt _ (by omega)
      have ej : ((0 : Int) + (i : Nat) + 1) % (m : Int) = (((i + 1) % m : Nat) : Int) := by
        rw [Int.natCast_emod]
        congr 1
        omega
      have ei : (0 : Int) + (i : Nat) = ((i : Nat) : Int) := by omega
      refine ⟨_, rfl, _, rfl, _, _, rfl, rfl, .inl ⟨_, rfl, _, rfl, _, _, rfl, rfl, (by show (0 : Int) < (m : Int); omega), F, _, _, _, rfl, rfl, SqL.of (J.at mF), (by rw [ej]; exact at_s hj), by show 1 ≤ sizeLine; decide, fun a na => ?_⟩⟩
      refine ⟨_, rfl, rfl, .inr ⟨_, rfl, rep01s (xs := [fo[(i + 1) % m]]) upd_same (by show 1 ≤ 1000; decide) fun p ws1 np l1 mm1 => ?_⟩⟩
      have J1 := (J.new (o := .lst [.str fo[(i + 1) % m]]) na).new (o := .lst (ws1.map V.str)) np
      have pu := (J.new (o := .lst [.str fo[(i + 1) % m]]) na).U.ne np
      have hp : upd (upd H' a (.lst [.str fo[(i + 1) % m]])) p (.lst (ws1.map V.str)) p = some (.lst (ws1.map V.str)) := upd_same
      have mm2 : ∀ y ∈ ws1, y ∈ ys := fun y my => by
        rw [List.mem_singleton.mp (mm1 y my)]
        exact fc.fy _ (List.getElem_mem hj)
      have l1' : ws1.length ≤ 1 := l1
      generalize upd (upd H' a (.lst [.str fo[(i + 1) % m]])) p (.lst (ws1.map V.str)) = H10 at J1 hp ⊢
      refine ⟨_, rfl, _, rfl, _, rfl, u, .ref E, fr, 3, _, rfl, J1.U, by omega, by decide, by decide, ⟨E, rfl, .inl (SqL.of (by rw [hide_ne (J1.fs _ mE).1]; exact J1.at mE))⟩, by omega, fun zs q H11 sub U11 k11 qu nq0 hq => ?_⟩
      refine ⟨q, _, rfl, .inr (.inl (.inl hq)), fun l nl => ?_⟩
      have J2 := (J1.keep k11 U11).new (o := .lst (zs.map V.str)) nl
      have hp2 : upd H11 l (.lst (zs.map V.str)) p = some (.lst (ws1.map V.str)) := by
        have h1 := k11 p _ pu hp
        rw [upd_ne (ne_of_none h1 nl)]
        exact h1
      have zl := sub.length_le
      refine cats hp2 upd_same (by omega) fun p2 np2 => ?_
      have J3 := J2.new (o := .lst ((ws1 ++ zs).map V.str)) np2
      have p2u := J2.U.ne np2
      have hp3 : upd (upd H11 l (.lst (zs.map V.str))) p2 (.lst ((ws1 ++ zs).map V.str)) p2 = some (.lst ((ws1 ++ zs).map V.str)) := upd_same
      have mm3 : ∀ y ∈ ws1 ++ zs, y ∈ ys := fun y my => (List.mem_append.mp my).elim (mm2 y) fun h => fc.ry y (sub.subset h)
      have l3 : (ws1 ++ zs).length ≤ 12 := by rw [List.length_append]; omega
      generalize upd (upd H11 l (.lst (zs.map V.str))) p2 (.lst ((ws1 ++ zs).map V.str)) = H12 at J3 hp3 ⊢
      generalize ws1 ++ zs = ws2 at mm3 l3 hp3
      refine ⟨_, rfl, _, rfl, _, rfl, _, rfl, L, _, rfl, SqL.of (J3.at mL), fun p3 np3 => ?_⟩
      obtain ⟨zs3, e3, l4, mm4⟩ := cut_str ys (some (-1)) none
      rw [e3]
      have J4 := J3.new (o := .lst (zs3.map V.str)) np3
      have hp4 : upd H12 p3 (.lst (zs3.map V.str)) p2 = some (.lst (ws2.map V.str)) := by
        rw [upd_ne (ne_of_none hp3 np3)]
        exact hp3
      have p3u := J3.U.ne np3
      refine ⟨_, rfl, u, 6, _, rfl, J4.U, by omega, by decide, by decide, fun r H13 r0 r1 U13 k13 => ⟨rfl, .inr ⟨_, rfl, rep01s (k13 p3 _ p3u upd_same) (by omega) fun p5 zs5 np5 l5 mm5 => ?_⟩⟩⟩
      have J5 := (J4.keep k13 U13).new (o := .lst (zs5.map V.str)) np5
      have hp5 : upd H13 p5 (.lst (zs5.map V.str)) p2 = some (.lst (ws2.map V.str)) := by
        have h1 := k13 p2 _ p2u hp4
        rw [upd_ne (ne_of_none h1 np5)]
        exact h1
      refine cats hp5 upd_same (by omega) fun p6 np6 => ?_
      have J6 := J5.new (o := .lst ((ws2 ++ zs5).map V.str)) np6
      refine ⟨_, rfl, _, rfl, _, rfl, F, _, _, _, rfl, rfl, SqL.of (J6.at mF), (by rw [ei]; exact at_s hi2), ?_⟩
      have tl : (fo.take i).length ≤ 900 := by rw [List.length_take]; omega
      obtain ⟨H14, dp, J7⟩ := J5.put (z := fo[i]) np6 (ws := ws2 ++ zs5) (by rw [List.length_append]; omega) (fun y my => (List.mem_append.mp my).elim (mm3 y) fun h => mm4 y (mm5 y h)) tl
      refine ⟨T, H14, rfl, dp, _, _, rfl, ?_⟩
      rw [List.take_add_one, List.getElem?_eq_getElem hi2]
      exact J7.le (by omega) (by omega)
    · rintro σ H' ⟨k1, w1, rfl, J⟩
      rw [List.take_of_length_le (by omega)] at J
      exact ⟨k1, w1, rfl, J⟩
  rintro σ3 H9 ⟨k9, w9, rfl, I9⟩
  refine ⟨fun σ' H' => ∃ k ws fa wy : Option V, σ' = stT u most free L m e F E T st wd k ws fa wy none ∧ TmI u T H [(L, ys), (F, fo), (E, fr)] ys fo (n + 15 + 12 * m + 11 * m) (23 + 22 * m) H', ?_, ?_⟩
  · refine ⟨_, rfl, _, rfl, by omega, by omega, ?_⟩
    refine for_range (lo := 0) (n := m) (fun i σ H' => ∃ k ws fa wy : Option V, σ = stT u most free L m e F E T st wd k ws fa wy none ∧ TmI u T H [(L, ys), (F, fo), (E, fr)] ys fo (n + 15 + 12 * m + 11 * i) (23 + 22 * i) H') ⟨_, _, _, _, rfl, I9⟩ ?_ ?_
    · rintro i σ H' hi ⟨k1, w1, f1, y1, rfl, J⟩
      have hi2 : i < fo.length := by omega
      have ei : (0 : Int) + (i : Nat) = ((i : Nat) : Int) := by omega
      refine ⟨_, rfl, _, rfl, _, _, rfl, rfl, _, rfl, F, _, rfl, SqL.of (J.at mF), fun C nC => ?_⟩
      obtain ⟨zs, ez, lz, mz⟩ := cut_str fo (some (0 + (i : Int) + 1)) none
      rw [ez]
      have J0 := J.fix (zs := zs) nC
      have mC : (C, zs) ∈ [(C, zs), (L, ys), (F, fo), (E, fr)] := List.mem_cons_self
      have mF2 : (F, fo) ∈ [(C, zs), (L, ys), (F, fo), (E, fr)] := List.mem_cons_of_mem _ mF
      refine ⟨C, rfl, ⟨_, SqL.of upd_same⟩, ?_⟩
      refine for_list (xs := zs.map V.str) (fun j σ H' => ∃ fa wy : Option V, σ = stT u most free L m e F E T st wd (some (.int (0 + (i : Int)))) w1 fa wy none ∧ TmI u T H [(C, zs), (L, ys), (F, fo), (E, fr)] ys fo (n + 15 + 12 * m + 11 * i + j) (23 + 22 * i + 2 * j) H')
        ⟨_, _, rfl, J0⟩ (fun j σ H' _ ⟨_, _, _, J⟩ => SqL.of (J.at mC)) ?_ ?_
      · rintro j x σ H' hj ⟨f2, y2, rfl, J⟩
        obtain ⟨z, hz, rfl⟩ := map_at hj
        have hj2 := (List.getElem?_eq_some_iff.mp hz).1
        have zf : z ∈ fo := mz z (List.mem_of_getElem? hz)
        have ff : fo[i] ∈ fo := List.getElem_mem hi2
        refine ⟨_, rfl, _, rfl, u, wd, _, rfl, J.U, by omega, fc.w0, fc.w1, fun r H2 r0 r1 U2 k2 => ?_⟩
        have J2 := J.keep k2 U2
        refine ⟨fun σ' H' => σ' = stT u most free L m e F E T st wd (some (.int (0 + (i : Int)))) w1 (some (.str z)) (some (.int r)) none ∧ TmI u T H [(C, zs), (L, ys), (F, fo), (E, fr)] ys fo (n + 15 + 12 * m + 11 * i + j + 1) (23 + 22 * i + 2 * j + 1) H', ?_, ?_⟩
        · obtain ⟨a, ws, dg, ha, hw, _, q⟩ := J2.app ff
          refine ⟨_, rfl, rfl, _, rfl, ite2 (fun _ => iteT ?b1) (fun _ => ⟨_, rfl, rfl, _, rfl, ite2 (fun _ => ⟨_, rfl, _, _, rfl, rfl, _, rfl, ite2 (fun _ => ?b2) (fun _ => ?s2)⟩) (fun _ => iteF ?s1)⟩)⟩
          case s1 => exact ⟨rfl, J2.le (by omega) (by omega)⟩
          case s2 => exact ⟨rfl, J2.le (by omega) (by omega)⟩
          all_goals
            refine ⟨_, rfl, _, rfl, _, rfl, F, _, _, _, rfl, rfl, SqL.of (J2.at mF2), (by rw [ei]; exact at_s hi2), T, _, rfl, dg, .inl ⟨rfl, _, SqL.of ha⟩, _, rfl, a, _, _, rfl, rfl, ha, ?_, ?_⟩
            · rw [List.length_map]
              exact small1000 (by omega)
            · exact ⟨rfl, q z (fc.fy z zf)⟩
        · rintro σ4 H4 ⟨rfl, J3⟩
          obtain ⟨a, ws, dg, ha, hw, _, q⟩ := J3.app zf
          refine ⟨_, rfl, rfl, _, rfl, ite2 (fun _ => iteT ?b3) (fun _ => ⟨_, rfl, rfl, _, rfl, ite2 (fun _ => ⟨_, rfl, _, _, rfl, rfl, _, rfl, ite2 (fun _ => ?b4) (fun _ => ?s4)⟩) (fun _ => iteF ?s3)⟩)⟩
          case s3 => exact ⟨_, _, rfl, J3.le (by omega) (by omega)⟩
          case s4 => exact ⟨_, _, rfl, J3.le (by omega) (by omega)⟩
          all_goals
            refine ⟨_, rfl, _, rfl, T, _, rfl, dg, .inl ⟨rfl, _, SqL.of ha⟩, _, rfl, _, rfl, F, _, _, _, rfl, rfl, SqL.of (J3.at mF2), (by rw [ei]; exact at_s hi2), a, _, _, rfl, rfl, ha, ?_, ?_⟩
            · rw [List.length_map]
              exact small1000 (by omega)
            · exact ⟨_, _, rfl, (q fo[i] (fc.fy _ ff)).le (by omega) (by omega)⟩
      · rintro σ H' ⟨f2, y2, rfl, J⟩
        rw [List.length_map] at J
        exact ⟨_, _, _, _, rfl, J.drop.le (by omega) (by omega)⟩
    · rintro σ H' ⟨k1, w1, f1, y1, rfl, J⟩
      exact ⟨_, _, _, _, rfl, J⟩
  rintro σ3 H10 ⟨k10, w10, f10, y10, rfl, I10⟩
  refine ⟨fun σ' H' => ∃ (D : Addr) (rows : List V) (rs : List (Str × List Str)), σ' = stT u most free L m e F E T st wd k10 w10 f10 y10 (some (.ref D)) ∧ Same H10 H' ∧ H' D = some (.lst rows) ∧ Paired (RowAt H') rows rs ∧ rs.map (·.1) = fo ∧ ∀ r ∈ rs, r.2.length ≤ 11 ∧ ∀ y ∈ r.2, y ∈ ys, ?_, ?_⟩
  · refine ⟨_, rfl, ?_⟩
    refine lc_any (xs := fo.map V.str) ⟨F, rfl, .inl (SqL.of (I10.at mF))⟩ (Stays.of (Same.refl H10)) (fun D i H' => ∃ (rows : List V) (rs : List (Str × List Str)), Same H10 H' ∧ H' D = some (.lst rows) ∧ rows.length = i ∧ Paired (RowAt H') rows rs ∧ rs.map (·.1) = fo.take i ∧ ∀ r ∈ rs, r.2.length ≤ 11 ∧ ∀ y ∈ r.2, y ∈ ys)
      (fun D nD => ⟨[], [], same_new nD, upd_same, rfl, .nil, rfl, fun r mr => nomatch mr⟩) (fun D i H' _ ⟨_, _, q, _⟩ => Stays.of q) (fun D i y H' nD hy ⟨rows, rs, s1, hD, len, pr, nm, l11⟩ => ?_) (fun D H' nD ⟨rows, rs, s1, hD, len, pr, nm, l11⟩ => ?_)
    · obtain ⟨z, hz, rfl⟩ := map_at hy
      have hi := (List.getElem?_eq_some_iff.mp hz).1
      have J := I10.keep (keep_of_same s1) (by obtain ⟨a, b, c, e, r⟩ := I10.U; exact ⟨a, b, c, s1 _ _ e, r⟩)
      obtain ⟨a, ws, dg, ha, hw, mw, _⟩ := J.app (List.mem_of_getElem? hz)
      refine ⟨rfl, _, rfl, _, rfl, _, rfl, T, _, rfl, dg, ?_⟩
      refine lc_any (xs := ws.map V.str) ⟨a, rfl, .inl (SqL.of ha)⟩ (Stays.of (Same.refl H')) (fun D2 j H2 => ∃ zs : List Str, Same H' H2 ∧ H2 D2 = some (.lst (zs.map V.str)) ∧ zs.length ≤ j ∧ ∀ y ∈ zs, y ∈ ys)
        (fun D2 nD2 => ⟨[], same_new nD2, upd_same, Nat.le_refl _, fun r mr => nomatch mr⟩) (fun D2 j H2 _ ⟨_, q, _⟩ => Stays.of q) (fun D2 j y H2 nD2 hy2 ⟨zs, s2, hD2, lz, mz⟩ => ?_) (fun D2 H2 nD2 ⟨zs, s2, hD2, lz, mz⟩ => ?_)
      · obtain ⟨v, hv, rfl⟩ := map_at hy2
        have hj := (List.getElem?_eq_some_iff.mp hv).1
        refine ⟨rfl, _, rfl, _, rfl, rfl, _, rfl, ite2 (fun _ => ?_) (fun _ => ?_)⟩
        · refine ⟨_, rfl, _, hD2, by rw [List.length_map]; exact small1000 (by omega), zs ++ [v], fun b o e => ?_, ?_, ?_, fun y my => ?_⟩
          · rw [upd_ne (ne_of_none e nD2)]
            exact s2 _ _ e
          · rw [upd_same, List.map_append]
            rfl
          · rw [List.length_append]
            show zs.length + 1 ≤ _
            omega
          · rcases List.mem_append.mp my with my | my
            · exact mz y my
            · rw [List.mem_singleton.mp my]
              exact mw v (List.mem_of_getElem? hv)
        · exact ⟨zs, s2, hD2, by omega, mz⟩
      · rw [List.length_map] at lz
        refine ⟨D2, zs, rfl, SqL.of hD2, by omega, fun p Ls np nd _ mem => ?_⟩
        have ll : Ls.length ≤ 11 := by
          rw [← yl]
          exact nodup_le nd fun j mj => mz j ((mem j).mp mj)
        refine ⟨p, Ls, rfl, upd_same, by omega, fun zs2 q pm2 _ _ nq => ?_⟩
        refine ⟨q, _, rfl, .inl ⟨SqL.of upd_same, fun t nt => ⟨by show 2 ≤ sizeLine; decide, fun r nr => ?_⟩⟩⟩
        have rt : t ≠ r := fun c => by
          rw [← c, upd_same] at nr
          cases nr
        have s3 := ((s2.trans (same_new (o := TxO w p Ls) np)).trans (same_new (o := .lst (zs2.map V.str)) nq)).trans ((same_new (o := .tup (zs2.map V.str)) nt).trans (same_new (o := .tup [.str z, .ref t]) nr))
        have ht : upd (upd (upd (upd H2 p (TxO w p Ls)) q (.lst (zs2.map V.str))) t (.tup (zs2.map V.str))) r (.tup [.str z, .ref t]) t = some (.tup (zs2.map V.str)) := by rw [upd_ne rt, upd_same]
        have hr : upd (upd (upd (upd H2 p (TxO w p Ls)) q (.lst (zs2.map V.str))) t (.tup (zs2.map V.str))) r (.tup [.str z, .ref t]) r = some (.tup [.str z, .ref t]) := upd_same
        generalize upd (upd (upd (upd H2 p (TxO w p Ls)) q (.lst (zs2.map V.str))) t (.tup (zs2.map V.str))) r (.tup [.str z, .ref t]) = H20 at s3 ht hr ⊢
        have hD3 := s3 D _ hD
        refine ⟨rows, hD3, small1000 (by omega), rows ++ [.ref r], rs ++ [(z, zs2)], fun b o e => ?_, upd_same, ?_, ?_, ?_, fun x mx => ?_⟩
        · rw [upd_ne (ne_of_none e nD)]
          exact s3 _ _ (s1 b o e)
        · rw [List.length_append, len]
          rfl
        · exact pair_snoc ⟨r, t, rfl, tup_lst hD3 _ _ hr, tup_lst hD3 _ _ ht⟩ (Paired.mapP pr fun _ _ h => h.keep fun b xs e => tup_lst hD3 b xs (s3 b _ e))
        · rw [List.map_append, nm, List.take_add_one, hz]
          rfl
        · rcases List.mem_append.mp mx with mx | mx
          · exact l11 x mx
          · rw [List.mem_singleton.mp mx]
            refine ⟨?_, fun y my => mz y ((mem y).mp (pm2.mem_iff.mp my))⟩
            show zs2.length ≤ 11
            rw [pm2.length_eq]
            exact ll
    · rw [List.length_map, List.take_length] at nm
      exact ⟨D, rows, rs, rfl, s1, hD, pr, nm, l11⟩
  rintro σ4 H11 ⟨D, rows, rs, rfl, s1, hD, pr, nm, l11⟩
  have J11 := I10.keep (keep_of_same s1) (by obtain ⟨a, b, c, e, r⟩ := I10.U; exact ⟨a, b, c, s1 _ _ e, r⟩)
  refine ⟨_, rfl, D, rows, rowK H11, rowT H11, rfl, SqL.of hD, fun x mx => ?_, fun x mx y my e => ?_, fun zs p pm _ np => ?_⟩
  · obtain ⟨i, ei⟩ := List.mem_iff_getElem?.mp mx
    obtain ⟨q, hq, a, t, rfl, h1, h2⟩ := pair_at pr ei
    refine ⟨a, rfl, ?_⟩
    rw [rowK_at h1, rowT_at h1]
    exact h1
  · obtain ⟨i, ei⟩ := List.mem_iff_getElem?.mp mx
    obtain ⟨j, ej⟩ := List.mem_iff_getElem?.mp my
    obtain ⟨q, hq, a, t, rfl, h1, h2⟩ := pair_at pr ei
    obtain ⟨q', hq', a', t', rfl, h1', h2'⟩ := pair_at pr ej
    rw [rowK_at h1, rowK_at h1'] at e
    have n1 : fo[i]? = some q.1 := by rw [← nm, List.getElem?_map, hq]; rfl
    have n2 : fo[j]? = some q'.1 := by rw [← nm, List.getElem?_map, hq']; rfl
    rw [← e] at n2
    have ij := nodup_ix fc.nd n1 n2
    subst ij
    rw [ei] at ej
    rw [Option.some.inj ej]
  obtain ⟨rs2, pm2, pr2⟩ := pair_perm pm pr
  refine ⟨p, _, rfl, .inl ⟨SqL.of upd_same, fun t1 nt1 => ?_⟩⟩
  have JB := (J11.new (o := .lst zs) np).new (o := .tup zs) nt1
  refine ⟨_, rfl, E, fr, rfl, SqL.of (JB.at mE), by omega, fun es q pm3 _ nq => ⟨q, _, rfl, .inl ⟨SqL.of upd_same, fun t2 nt2 => ⟨by show 2 ≤ sizeLine; decide, fun x nx => ?_⟩⟩⟩⟩
  have JE := ((JB.new (o := .lst (es.map V.str)) nq).new (o := .tup (es.map V.str)) nt2).new (o := .tup [.ref t1, .ref t2]) nx
  have sE := ((same_new (o := .lst zs) np).trans (same_new (o := .tup zs) nt1)).trans (((same_new (o := .lst (es.map V.str)) nq).trans (same_new (o := .tup (es.map V.str)) nt2)).trans (same_new (o := .tup [.ref t1, .ref t2]) nx))
  have h2 : upd (upd (upd (upd (upd H11 p (.lst zs)) t1 (.tup zs)) q (.lst (es.map V.str))) t2 (.tup (es.map V.str))) x (.tup [.ref t1, .ref t2]) t2 = some (.tup (es.map V.str)) := (same_new nx) _ _ upd_same
  have h1 : upd (upd (upd (upd (upd H11 p (.lst zs)) t1 (.tup zs)) q (.lst (es.map V.str))) t2 (.tup (es.map V.str))) x (.tup [.ref t1, .ref t2]) t1 = some (.tup zs) := (same_new nx) _ _ ((same_new nt2) _ _ ((same_new nq) _ _ upd_same))
  have hx : upd (upd (upd (upd (upd H11 p (.lst zs)) t1 (.tup zs)) q (.lst (es.map V.str))) t2 (.tup (es.map V.str))) x (.tup [.ref t1, .ref t2]) x = some (.tup [.ref t1, .ref t2]) := upd_same
  have pr3 := Paired.mapP pr2 fun _ _ h => RowAt.keep (fun b xs e => sE b _ e) h
  obtain ⟨ua, ub, uc, hu3, _⟩ := id JE.U
  have le1 := pm2.length_eq
  have le2 : rs.length = fo.length := by rw [← nm, List.length_map]
  have mm := fc.mm
  refine k x rs2 es _ (JE.U.le (by omega)) JE.kp ?_ (by omega) (by rw [pm3.length_eq]; exact fc.fl) (fun r mr => ⟨(l11 r (pm2.mem_iff.mp mr)).1, fc.yn _ (fc.fy _ (by rw [← nm]; exact List.mem_map.mpr ⟨r, pm2.mem_iff.mp mr, rfl⟩)), fun y my => fc.yn _ ((l11 r (pm2.mem_iff.mp mr)).2 y my)⟩) fun z mz => fc.yn _ (fc.ry _ (pm3.mem_iff.mp mz))
  exact .tup (.inl (.inl (tup_hide hu3 hx))) (.cons (.tup (.inl (.inl (tup_hide hu3 h1))) (dpa_rows hu3 pr3)) (.cons (.tup (.inl (.inl (tup_hide hu3 h2))) (dpa_strs es)) .nil))
end
end Cx

/-! data of the law: sheets, goals -/
namespace Cx
open PySem PySem.Spec PyProof.Rows L2
theorem rise_pw : ∀ {l : List Str} {p : Str}, risingS p l = true → (p :: l).Pairwise fun x y : Str => x.cps.toList ≤ y.cps.toList
  | [], p, _ => List.pairwise_singleton _ p
  | x :: r, p, h => by
    have h1 := Bool.and_eq_true_iff.mp (show (!ltCps x.cps.toList p.cps.toList && risingS x r) = true from h)
    have ih := rise_pw (l := r) (p := x) h1.2
    have px : p.cps.toList ≤ x.cps.toList := by
      have q := h1.1
      rw [ltCps_eq] at q
      exact List.not_lt.mp (by simpa using q)
    refine List.pairwise_cons.mpr ⟨fun y m => ?_, ih⟩
    rcases List.mem_cons.mp m with e | m
    · rw [e]
      exact px
    · exact List.le_trans px ((List.pairwise_cons.mp ih).1 y m)
theorem sort_pw : ∀ {l : List Str}, sortedS l = true → l.Pairwise fun x y : Str => x.cps.toList ≤ y.cps.toList
  | [], _ => .nil
  | _ :: _, h => rise_pw h
theorem sorted_one {xs ys : List Str} (p : xs.Perm ys) (h1 : sortedS xs = true) (h2 : sortedS ys = true) : xs = ys :=
  List.Perm.eq_of_pairwise (fun a b _ _ l m => str_ext (List.le_antisymm l m)) (sort_pw h1) (sort_pw h2) p
theorem ok11 : ∀ z ∈ names11, PyData.strOk z = true := by decide +kernel
theorem lay_all : ∀ {ds : List PyData}, (∀ d ∈ ds, PyData.canLay0 d = true) → PyData.canLayAll0 ds = true
  | [], _ => rfl
  | d :: ds, h => by
    rw [PyData.canLayAll0, h d List.mem_cons_self, lay_all fun x m => h x (List.mem_cons_of_mem _ m)]
    rfl
theorem depth_all {n : Nat} : ∀ {ds : List PyData}, (∀ d ∈ ds, PyData.depth d ≤ n) → PyData.depthAll ds ≤ n
  | [], _ => Nat.zero_le _
  | d :: ds, h => by
    rw [PyData.depthAll]
    exact Nat.max_le.mpr ⟨h d List.mem_cons_self, depth_all fun x m => h x (List.mem_cons_of_mem _ m)⟩
/-- the sheet as lists -/
theorem lst_sh (rs : List (Str × List Str)) (es : List Str) : lstD (shT rs es) = .list [.list (rs.map fun r => .list [.str r.1, .list (r.2.map PyData.str)]), .list (es.map PyData.str)] := by
  have hs : ∀ xs : List Str, lstDs (xs.map PyData.str) = xs.map PyData.str := fun xs => by
    rw [lstDs_map, List.map_map]
    rfl
  show PyData.list (lstDs [.tuple (rs.map fun r => .tuple [.str r.1, .tuple (r.2.map PyData.str)]), .tuple (es.map PyData.str)]) = _
  rw [lstDs_map]
  show PyData.list [.list (lstDs (rs.map fun r => .tuple [.str r.1, .tuple (r.2.map PyData.str)])), .list (lstDs (es.map PyData.str))] = _
  rw [hs, lstDs_map, List.map_map]
  congr 3
  refine List.map_congr_left fun r _ => ?_
  show PyData.list (lstDs [.str r.1, .tuple (r.2.map PyData.str)]) = _
  rw [lstDs_map]
  show PyData.list [.str r.1, .list (lstDs (r.2.map PyData.str))] = _
  rw [hs]
/-- texts of this sheet are of the eleven -/
def ShN (rs : List (Str × List Str)) (es : List Str) : Prop := (∀ r ∈ rs, r.2.length ≤ 11 ∧ r.1 ∈ names11 ∧ ∀ y ∈ r.2, y ∈ names11) ∧ ∀ z ∈ es, z ∈ names11
theorem shaped_sh {rs : List (Str × List Str)} {es : List Str} (h : ShN rs es) : SeqAt.shaped (lstD (shT rs es)) = true := by
  rw [lst_sh]
  have c2 : ∀ xs : List Str, (∀ z ∈ xs, z ∈ names11) → PyData.canLay0 (.list (xs.map PyData.str)) = true := fun xs hx => by
    rw [PyData.canLay0]
    refine lay_all fun d m => ?_
    obtain ⟨z, mz, rfl⟩ := List.mem_map.mp m
    exact ok11 z (hx z mz)
  have d2 : ∀ xs : List Str, PyData.depth (.list (xs.map PyData.str)) ≤ 1 := fun xs => by
    rw [PyData.depth]
    refine Nat.succ_le_succ (depth_all fun d m => ?_)
    obtain ⟨z, mz, rfl⟩ := List.mem_map.mp m
    exact Nat.zero_le _
  refine Bool.and_eq_true_iff.mpr ⟨?_, decide_eq_true ?_⟩
  · rw [PyData.canLay0]
    refine lay_all fun d m => ?_
    rcases List.mem_cons.mp m with e | m
    · subst e
      rw [PyData.canLay0]
      refine lay_all fun d m => ?_
      obtain ⟨r, mr, rfl⟩ := List.mem_map.mp m
      rw [PyData.canLay0]
      refine lay_all fun d m => ?_
      rcases List.mem_cons.mp m with e | m
      · subst e
        exact ok11 _ (h.1 r mr).2.1
      · rw [List.mem_singleton.mp m]
        exact c2 _ (h.1 r mr).2.2
    · rw [List.mem_singleton.mp m]
      exact c2 _ h.2
  · refine Nat.le_trans (m := 4) ?_ (by decide)
    rw [PyData.depth]
    refine Nat.succ_le_succ (depth_all fun d m => ?_)
    rcases List.mem_cons.mp m with e | m
    · subst e
      rw [PyData.depth]
      refine Nat.succ_le_succ (depth_all fun d m => ?_)
      obtain ⟨r, mr, rfl⟩ := List.mem_map.mp m
      rw [PyData.depth]
      refine Nat.succ_le_succ (depth_all fun d m => ?_)
      rcases List.mem_cons.mp m with e | m
      · subst e
        exact Nat.zero_le _
      · rw [List.mem_singleton.mp m]
        exact d2 _
    · rw [List.mem_singleton.mp m]
      exact Nat.le_trans (d2 _) (by decide)
theorem eqv_sh {rs : List (Str × List Str)} {es : List Str} (h : ShN rs es) : PyData.eqv (lstD (shT rs es)) (lstD (shT rs es)) = true := SeqAt.eqv_refl _ (SeqAt.canLay_of_shaped (shaped_sh h))
theorem smd_strs {n : Nat} {xs : List Str} (h : xs.length ≤ 900) : SmD (n + 2) (.tuple (xs.map PyData.str)) := ⟨by rw [List.length_map]; exact h, fun d m => by
  obtain ⟨z, _, rfl⟩ := List.mem_map.mp m
  trivial⟩
theorem smd_sh {rs : List (Str × List Str)} {es : List Str} (h : ShN rs es) (h1 : rs.length ≤ 900) (h2 : es.length ≤ 900) : SmD 5 (shT rs es) := by
  refine ⟨by show 2 ≤ 900; decide, fun d m => ?_⟩
  rcases List.mem_cons.mp m with e | m
  · subst e
    refine ⟨by rw [List.length_map]; exact h1, fun d m => ?_⟩
    obtain ⟨r, mr, rfl⟩ := List.mem_map.mp m
    refine ⟨by show 2 ≤ 900; decide, fun d m => ?_⟩
    rcases List.mem_cons.mp m with e | m
    · subst e
      trivial
    · rw [List.mem_singleton.mp m]
      exact smd_strs (Nat.le_trans (h.1 r mr).1 (by decide))
  · rw [List.mem_singleton.mp m]
    exact smd_strs h2
theorem nodes_strs : ∀ xs : List Str, nodesL (xs.map PyData.str) = 0
  | [] => rfl
  | x :: xs => by
    show 0 + nodesL (xs.map PyData.str) = 0
    rw [nodes_strs xs]
theorem nodes_rows : ∀ rs : List (Str × List Str), nodesL (rs.map fun r => .tuple [.str r.1, .tuple (r.2.map PyData.str)]) = 2 * rs.length
  | [] => rfl
  | r :: rs => by
    show (1 + (0 + ((1 + nodesL (r.2.map PyData.str)) + 0))) + nodesL (rs.map fun r => .tuple [.str r.1, .tuple (r.2.map PyData.str)]) = 2 * (rs.length + 1)
    rw [nodes_rows rs, nodes_strs]
    omega
theorem nodes_sh (rs : List (Str × List Str)) (es : List Str) : nodes (shT rs es) = 3 + 2 * rs.length := by
  show 1 + ((1 + nodesL (rs.map fun r => .tuple [.str r.1, .tuple (r.2.map PyData.str)])) + ((1 + nodesL (es.map PyData.str)) + 0)) = _
  rw [nodes_rows, nodes_strs]
  omega
end Cx

namespace Cx
open PySem PySem.Spec PyProof.Rows L2
/-! ### a sheet, of lists or tuples at each depth -/
section
variable {K : PySem.W.Frag} {H : Hp}
theorem dp_strs : ∀ {xs : List V} {ds : List PyData} {es : List Str}, DpAll K H xs ds → ds.map lstD = es.map PyData.str → xs = es.map V.str
  | _, _, [], .nil, _ => rfl
  | _, _, _ :: _, .nil, e => nomatch e
  | _, _, [], .cons _ _, e => nomatch e
  | _, d :: _, z :: es, .cons h t, e => by
    injection e with e1 e2
    have q := dp_strs (es := es) t e2
    cases d with
    | str y =>
      cases h
      injection e1 with e1
      rw [q, e1]
      rfl
    | none => cases e1
    | bool b => cases e1
    | int i => cases e1
    | list l => cases e1
    | tuple l => cases e1
    | dict l => cases e1
theorem dp_seq {x : V} {d : PyData} {es : List PyData} (h : Dp K H x d) (e : lstD d = .list es) : ∃ xs ds, SeqV K H x xs ∧ DpAll K H xs ds ∧ ds.map lstD = es := by
  cases d with
  | list ds =>
    cases h with
    | lst h1 a1 =>
      injection e with e
      exact ⟨_, ds, ⟨_, rfl, .inl h1⟩, a1, by rw [← lstDs_map]; exact e⟩
  | tuple ds =>
    cases h with
    | tup h1 a1 =>
      injection e with e
      exact ⟨_, ds, ⟨_, rfl, .inr h1⟩, a1, by rw [← lstDs_map]; exact e⟩
  | none => cases e
  | bool b => cases e
  | int i => cases e
  | str z => cases e
  | dict l => cases e
theorem dp_two {x : V} {d e1 e2 : PyData} (h : Dp K H x d) (e : lstD d = .list [e1, e2]) : ∃ v w d1 d2, SeqV K H x [v, w] ∧ Dp K H v d1 ∧ Dp K H w d2 ∧ lstD d1 = e1 ∧ lstD d2 = e2 := by
  obtain ⟨xs, ds, hs, ha, e⟩ := dp_seq h e
  have l := congrArg List.length e
  rw [List.length_map] at l
  cases ha with
  | nil => exact absurd l (by show ¬ 0 = 2; decide)
  | cons h1 t =>
    cases t with
    | nil => exact absurd l (by show ¬ 1 = 2; decide)
    | cons h2 t =>
      cases t with
      | nil =>
        injection e with q1 e
        injection e with q2 e
        exact ⟨_, _, _, _, hs, h1, h2, q1, q2⟩
      | cons h3 t =>
        simp only [List.length_cons, List.length_nil] at l
        omega
theorem dp_str {x : V} {d : PyData} {z : Str} (h : Dp K H x d) (e : lstD d = .str z) : x = .str z := by
  cases d with
  | str y =>
    cases h
    injection e with e
    rw [e]
  | none => cases e
  | bool b => cases e
  | int i => cases e
  | list l => cases e
  | tuple l => cases e
  | dict l => cases e
theorem dp_rows : ∀ {xs : List V} {ds : List PyData} {rs : List (Str × List Str)}, DpAll K H xs ds → ds.map lstD = (rs.map fun r => PyData.list [.str r.1, .list (r.2.map PyData.str)]) → RowsV K H xs rs
  | _, _, [], .nil, _ => .nil
  | _, _, _ :: _, .nil, e => nomatch e
  | _, _, [], .cons _ _, e => nomatch e
  | _, d :: _, r :: rs, .cons h t, e => by
    injection e with e1 e2
    refine .cons ?_ (dp_rows t e2)
    obtain ⟨v, w, d1, d2, hs, h1, h2, q1, q2⟩ := dp_two h e1
    have ev := dp_str h1 q1
    subst ev
    obtain ⟨xs, ds, hs2, ha2, q3⟩ := dp_seq h2 q2
    rw [dp_strs ha2 q3] at hs2
    exact ⟨w, hs, hs2⟩
theorem sh_of {x : V} {d : PyData} {rs : List (Str × List Str)} {es : List Str} (h : Dp K H x d) (e : lstD d = lstD (shT rs es)) : ShV K H x rs es := by
  rw [lst_sh] at e
  obtain ⟨v, w, d1, d2, hs, h1, h2, q1, q2⟩ := dp_two h e
  obtain ⟨rows, ds, hs1, ha1, q3⟩ := dp_seq h1 q1
  obtain ⟨xs, ds2, hs2, ha2, q4⟩ := dp_seq h2 q2
  rw [dp_strs ha2 q4] at hs2
  exact ⟨v, w, rows, hs, hs1, dp_rows ha1 q3, hs2⟩
end
end Cx

/-! one urn of the law -/
namespace Cx
open PySem PySem.Spec PyProof.Rows L2
def goalD (as ys : List Str) : PyData := .list [.tuple (as.map PyData.str), .tuple (ys.map PyData.str)]
theorem goal_sm {n : Nat} {as ys : List Str} (h1 : as.length ≤ 900) (h2 : ys.length ≤ 900) : SmD (n + 3) (goalD as ys) := by
  refine ⟨by show 2 ≤ 900; decide, fun d m => ?_⟩
  rcases List.mem_cons.mp m with e | m
  · subst e
    exact smd_strs h1
  · rw [List.mem_singleton.mp m]
    exact smd_strs h2
theorem dp_pair {K : PySem.W.Frag} {H : Hp} {l p1 p2 : Addr} {as ys : List Str} (nl : H l = none) (h1 : H p1 = some (.tup (as.map V.str))) (h2 : H p2 = some (.tup (ys.map V.str))) : Dp K (upd H l (.lst [.ref p1, .ref p2])) (.ref l) (goalD as ys) :=
  .lst (SqL.of upd_same) (.cons (.tup (.inl (.inl ((same_new nl) _ _ h1))) (dpa_strs as)) (.cons (.tup (.inl (.inl ((same_new nl) _ _ h2))) (dpa_strs ys)) .nil))
mutual
theorem lst_idem : ∀ d : PyData, lstD (lstD d) = lstD d
  | .list ds => congrArg PyData.list (lsts_idem ds)
  | .tuple ds => congrArg PyData.list (lsts_idem ds)
  | .none => rfl
  | .bool _ => rfl
  | .int _ => rfl
  | .str _ => rfl
  | .dict _ => rfl
theorem lsts_idem : ∀ ds : List PyData, lstDs (lstDs ds) = lstDs ds
  | [] => rfl
  | d :: ds => by
    show lstD (lstD d) :: lstDs (lstDs ds) = lstD d :: lstDs ds
    rw [lst_idem d, lsts_idem ds]
end
theorem UrnAt.same {u : Addr} {H H' : Hp} {n : Nat} (U : UrnAt u H n) (s : Same H H') : UrnAt u H' n := by
  obtain ⟨a, b, c, e, r⟩ := U
  exact ⟨a, b, c, s _ _ e, r⟩
theorem dp_pairH {K : PySem.W.Frag} {H : Hp} {u l p1 p2 : Addr} {n : Nat} {as ys : List Str} (U : UrnAt u H n) (nl : H l = none) (h1 : H p1 = some (.tup (as.map V.str))) (h2 : H p2 = some (.tup (ys.map V.str))) : Dp K (hide u (upd H l (.lst [.ref p1, .ref p2]))) (.ref l) (goalD as ys) := by
  obtain ⟨a, b, c, e, _⟩ := (U.upd (o := .lst [.ref p1, .ref p2]) (U.ne nl))
  exact .lst (SqL.of (by rw [hide_ne (U.ne nl), upd_same])) (.cons (.tup (.inl (.inl (tup_hide e ((same_new nl) _ _ h1)))) (dpa_strs as)) (.cons (.tup (.inl (.inl (tup_hide e ((same_new nl) _ _ h2)))) (dpa_strs ys)) .nil))
theorem dp_tup {K : PySem.W.Frag} {H : Hp} {x : V} {ds : List PyData} (h : Dp K H x (.tuple ds)) : ∃ a xs, x = .ref a ∧ SqT K H a xs ∧ DpAll K H xs ds := by
  cases h with
  | tup h1 a1 => exact ⟨_, _, rfl, h1, a1⟩
theorem sht_parts {K : PySem.W.Frag} {H : Hp} {q : Addr} {rs : List (Str × List Str)} {es : List Str} (h : Dp K H (.ref q) (shT rs es)) : ∃ r b, SqT K H q [r, .ref b] ∧ SqT K H b (es.map V.str) := by
  obtain ⟨a, xs, e, hs, ha⟩ := dp_tup h
  cases e
  cases ha with
  | cons h1 t =>
    cases t with
    | cons h2 t =>
      cases t with
      | nil =>
        obtain ⟨b, zs, rfl, hb, hz⟩ := dp_tup h2
        rw [dp_strs (es := es) hz (by rw [List.map_map]; rfl)] at hb
        exact ⟨_, b, hs, hb⟩
theorem catA_s {K : PySem.W.Frag} {H : Hp} {a b : Addr} {xs zs : List Str} {Q : VK} (ha : SqT K H a (xs.map V.str)) (hb : SqT K H b (zs.map V.str)) (hz : xs.length + zs.length ≤ 1000) (q : ∀ c H', Same H H' → SqT K H' c ((xs ++ zs).map V.str) → Q (.ref c) H') :
    rCatA K (.ref a) (.ref b) H Q := by
  refine ⟨a, b, _, _, rfl, rfl, ha, hb, by rw [List.length_map, List.length_map]; exact Nat.le_of_lt (small1000 hz), fun e => q b H (Same.refl H) ?_, fun _ e => q a H (Same.refl H) ?_, fun _ _ p np => q p _ (same_new np) (.inl (.inl (by rw [upd_same, List.map_append])))⟩
  · rw [List.map_eq_nil_iff.mp e]
    exact hb
  · rw [List.map_eq_nil_iff.mp e, List.append_nil]
    exact ha
section
variable {P : Program} {w : World} {K : PySem.W.Frag} {mg : Str → Option Value} {base : Heap}
def Cal (P : Program) (w : World) (K : PySem.W.Frag) (mg : Str → Option Value) (base : Heap) (x : Str) (k : Nat) (ps : List Str) (sp : Sp) : Prop := ∃ f fd, FnOk P w K mg base CX0 k f fd ps sp ∧ Binds K fd ps [] ∧ PySem.W.keepIn K (.ref f) = true ∧ mg x = some (.ref f)
def CalK (P : Program) (w : World) (K : PySem.W.Frag) (mg : Str → Option Value) (base : Heap) (x : Str) (k : Nat) (ps : List Str) (sp : Sp) : Prop := ∃ f fd, FnOk P w K mg base CX0 k f fd ps sp ∧ Binds K fd ps [] ∧ KBinds K fd ps ps oneK oneK ∧ PySem.W.keepIn K (.ref f) = true ∧ mg x = some (.ref f)
def spHand : Sp := fun vs H Q _ => vs = [] ∧ ∀ H', Same H H' → Q (.bl true) H'
def spRight : Sp := fun vs H Q _ => ∃ (u : Addr) (n : Nat), vs = [.ref u] ∧ UrnAt u H n ∧ n + 20000 ≤ 1000000 ∧ ∀ H', Keep u H H' → Q (.bl true) H'
abbrev nRt : List Str := ["_law_urn", "_law_turn", "_law_tome_here", "_law_soft", "_law_folk", "_law_goal", "_law_some", "_law_own"]
theorem scRt : FnScope nRt ["_law_urn"] (defScope sRight) := ⟨rfl, rfl, rfl, by decide +kernel, rfl, by decide +kernel, by decide +kernel⟩
structure TyRt (mg : Str → Option Value) : Prop where
  tup : mg "tuple" = none
  rng : mg "range" = none
  srt : mg "sorted" = none
theorem ok_right {f : Addr} {fd : FuncData} (F : Fun K "_law_right" "_law_right" sRight f fd) (CH : CalK P w K mg base "households" 1 ["sheet"] (spHouseholds K)) (CO : CalK P w K mg base "homes" 2 ["sheet"] (spHomes K)) (CS : Cal P w K mg base "_law_same" 4 ["_law_got", "_law_goal"] (spSame K 4))
    (CT : Cal P w K mg base "_law_tome" 3 ["_law_urn", "_law_most_so", "_law_free_so"] (spTome K)) (CL : Cal P w K mg base "_law_lists" 5 ["_law_matter"] (spLists K 5)) (CB : Cal P w K mg base "_law_blend" 6 ["_law_urn", "_law_matter"] (spBlend K 5)) (CY : Cal P w K mg base "_law_by_hand_right" 5 [] spHand) (T : TyRt mg) :
    FnOk P w K mg base CX0 7 f fd ["_law_urn"] spRight := by
  obtain ⟨fh, dh, GH, bH, kbH, kH, mH⟩ := CH
  obtain ⟨fo, do', GO, bO, kbO, kO, mO⟩ := CO
  obtain ⟨fs, ds, GS, bS, kS, mS⟩ := CS
  obtain ⟨ft, dt, GT, bT, kT, mT⟩ := CT
  obtain ⟨fl, dl, GL, bL, kL, mL⟩ := CL
  obtain ⟨fb, db, GB, bB, kB, mB⟩ := CB
  obtain ⟨fy, dy, GY, bY, kY, mY⟩ := CY
  refine F.ok scRt (fun vs H Q E h => ?_) (fun cdv A outer s H vs Q E hr h => ?_)
  · obtain ⟨u, n, rfl, _⟩ := h
    rfl
  have hr1 := hr.mono (show 1 ≤ 6 by decide)
  have hr2 := hr.mono (show 2 ≤ 6 by decide)
  have hr3 := hr.mono (show 3 ≤ 6 by decide)
  have hr4 := hr.mono (show 4 ≤ 6 by decide)
  have hr5 := hr.mono (show 5 ≤ 6 by decide)
  have hu := hr.units
  obtain ⟨u, n, rfl, U, hn, k⟩ := h
  refine ⟨_, pss_cons (ps_if (pt_not (pt_val (pe_call0 GY hr5 (by rfl) mY kY bY .nil pass0))) (pss_one (ps_ret pe_bl)) pss_nil)
    (pss_cons (ps_for PassesOwn.never rfl (pi_range1 (by rfl) T.rng (pa_cons pe_int pa_nil)) (pg_name (i := 1) scRt.nd rfl (.inl rfl))
      (pss_cons (ps_set (i := 2) scRt.nd rfl (.inl rfl) (pe_call GT hr3 (by rfl) mT kT bT .nil pass0 (pa_cons (pv 0) (pa_cons pe_int (pa_cons pe_int pa_nil)))))
      (pss_cons (ps_par (i := 3) (j := 4) (by rfl) scRt.nd rfl rfl (by decide) rfl rfl (pa_cons (pe_call GL hr5 (by rfl) mL kL bL .nil pass0 (pa_cons (pv 2) pa_nil)) (pa_cons (pe_callTy call_tuple_of (by rfl) T.tup (by decide +kernel) (pa_cons
          (pe_lcA (own := [("_law_own", 7)]) (g := gName 7) (tt := tYes) (te := tOp (rIx K) (tVar 7) (tC (.int 0))) rfl scRt.nd (pe_ix ix_seq (pv 2) pe_int (fun _ _ => rfl)) (blkOk_by (N := nRt) (sc := defScope sRight) (by decide +kernel))
            (fun _ _ _ _ _ => pg_name (i := 7) scRt.nd rfl (.inl rfl)) (fun _ _ _ _ _ => pts_nil) (fun _ _ _ _ _ => pe_ix ix_seq (pv 7) pe_int (fun _ _ => rfl))) pa_nil)) pa_nil)) (by rfl))
      (Evl.pss_cut (ps_set (i := 5) scRt.nd rfl (.inl rfl) (pe_lst (pa_cons (pv 4) (pa_cons (pe_callTy call_tuple_of (by rfl) T.tup (by decide +kernel) (pa_cons (pe_callB cr_sortTupS (by rfl) T.srt (by decide +kernel) (pa_cons (pe_op op_catA (pv 4) (pe_ix ix_seq (pv 2) pe_int (fun _ _ => rfl))) pa_nil)) pa_nil)) pa_nil))))
      (Evl.pss_cut (ps_if (pt_not (pt_val (pe_call GS hr4 (by rfl) mS kS bS .nil pass0 (pa_cons (pe_lst (pa_cons (pe_call GH hr1 (by rfl) mH kH bH .nil pass0 (pa_cons (pv 2) pa_nil)) (pa_cons (pe_call GO hr2 (by rfl) mO kO bO .nil pass0 (pa_cons (pv 2) pa_nil)) pa_nil))) (pa_cons (pv 5) pa_nil)))))
        (pss_one (ps_ret pe_bl)) pss_nil)
      (Evl.pss_cut (ps_if (PW.pt (pw_or (pt_not (pt_val (pe_call GS hr4 (by rfl) mS kS bS .nil pass0 (pa_cons (pe_lst (pa_cons (pe_callK0 GH hr1 (by rfl) mH kH kbH pass0 (pk_cons (pv 3) pk_nil)) (pa_cons (pe_callK0 GO hr2 (by rfl) mO kO kbO pass0 (pk_cons (pv 3) pk_nil)) pa_nil))) (pa_cons (pv 5) pa_nil)))))
          (pw_or1 (pt_cmpR (op_neD hu) (pv 3) (pe_call GL hr5 (by rfl) mL kL bL .nil pass0 (pa_cons (pv 2) pa_nil)) (nomark _)))))
        (pss_one (ps_ret pe_bl)) pss_nil)
      (pss_cons (ps_set (i := 6) scRt.nd rfl (.inl rfl) (pe_call GB hr (by rfl) mB kB bB .nil pass0 (pa_cons (pv 0) (pa_cons (pv 2) pa_nil))))
      (pss_one (ps_if (pt_not (pt_val (pe_call GS hr4 (by rfl) mS kS bS .nil pass0 (pa_cons (pe_lst (pa_cons (pe_call GH hr1 (by rfl) mH kH bH .nil pass0 (pa_cons (pv 6) pa_nil)) (pa_cons (pe_call GO hr2 (by rfl) mO kO bO .nil pass0 (pa_cons (pv 6) pa_nil)) pa_nil))) (pa_cons (pv 5) pa_nil)))))
        (pss_one (ps_ret pe_bl)) pss_nil)))))))))
    (pss_one (ps_ret pe_bl))), ?_⟩
  refine ⟨rfl, fun H0 s0 => ⟨_, rfl, iteF ?_⟩⟩
  refine ⟨_, rfl, by omega, by omega, ?_⟩
  refine for_range (lo := 0) (n := 12) (fun i σ H' => ∃ a b c d e g : Option V, σ = [some (.ref u), a, b, c, d, e, g, none] ∧ UrnAt u H' (n + 1100 * i) ∧ Keep u H H') ⟨_, _, _, _, _, _, rfl, U.same s0, keep_of_same s0⟩ ?_ ?_
  · rintro i σ H1 hi ⟨a0, b0, c0, d0, e0, g0, rfl, U1, k1⟩
    refine ⟨_, rfl, u, 8, 3, _, rfl, U1, by omega, by decide, by decide, fun q rs es H2 U2 k2 hd lr le hn1 hn2 => ?_⟩
    have sn : ShN rs es := ⟨hn1, hn2⟩
    have hx : Dp K (hid [u] H2) (.ref q) (shT rs es) := by
      rw [← hide_hid]
      exact hd
    have ain : AllIn [u] H2 := fun v m => by
      rw [List.mem_singleton.mp m]
      obtain ⟨a, b, c, e, _⟩ := U2
      rw [e]
      exact fun z => nomatch z
    have sm := smd_sh sn (by omega) (by omega)
    refine ⟨_, rfl, [u], .ref q, shT rs es, rfl, ain, hx, sm, fun y1 H3 s3 hy1 => ?_⟩
    have hx3 := dp_same (hid_same s3) hx
    have S3 : ShV K H3 (.ref q) rs es := sh_of (dp_same hid_le hx3) rfl
    obtain ⟨r, e, rows, g1, g2, g3, g4⟩ := id S3.ex
    refine ⟨_, rfl, ix_sv g1 (atI_nat (j := 0) rfl) ?_⟩
    refine lc_any g2 (Stays.of (Same.refl H3)) (fun D i H' => Same H3 H' ∧ H' D = some (.lst ((rs.take i).map fun q => V.str q.1))) (fun D nD => ⟨same_new nD, upd_same⟩) (fun D i H' _ q => Stays.of q.1) (fun D i y H' nD hy ⟨s4, hD⟩ => ?_) (fun D H' nD ⟨s4, hD⟩ => ?_)
    · obtain ⟨q2, hq, w2, hw, _⟩ := g3.at hy
      refine ⟨rfl, _, rfl, ix_sv (st_sv s4 hw) (atI_nat (j := 0) rfl) ⟨_, hD, ?_, fun b o eb => ?_, ?_⟩⟩
      · rw [List.length_map, List.length_take]
        exact small1000 (by omega)
      · rw [upd_ne (ne_of_none eb nD)]
        exact s4 _ _ eb
      · rw [upd_same, List.take_add_one, hq]
        simp
    rw [List.take_of_length_le (by rw [Paired.length g3]; exact Nat.le_refl _)] at hD
    refine ⟨D, _, rfl, .inl ⟨SqL.of hD, fun p np => ⟨_, _, rfl, ?_⟩⟩⟩
    have s5 : Same H3 (upd H' p (.tup (rs.map fun q => V.str q.1))) := s4.trans (same_new np)
    have hp : upd H' p (.tup (rs.map fun q => V.str q.1)) p = some (.tup ((rs.map (·.1)).map V.str)) := by
      rw [upd_same, List.map_map]
      rfl
    generalize upd H' p (.tup (rs.map fun q => V.str q.1)) = H5 at s5 hp ⊢
    have U5 := (U2.same s3).same s5
    refine ⟨fun σ' H' => ∃ (G : Addr) (ys : List Str), σ' = [some (.ref u), some (.int (0 + (i : Int))), some (.ref q), some y1, some (.ref p), some (.ref G), g0, none] ∧ Same H5 H' ∧ Dp K (hide u H') (.ref G) (goalD (rs.map (·.1)) ys) ∧ ys.Perm (rs.map (·.1) ++ es) ∧ sortedS ys = true, ?_, ?_⟩
    · obtain ⟨r2, b2, q1, q2⟩ := sht_parts (dp_same ((Same.trans hid_le s3).trans s5) hx)
      refine ⟨_, rfl, _, rfl, _, rfl, ix_sv ⟨q, rfl, .inr q1⟩ (atI_nat (j := 1) rfl) ?_⟩
      refine catA_s (.inl (.inl hp)) q2 (by rw [List.length_map]; omega) fun c H6 s6 hc => ?_
      refine ⟨c, _, rfl, hc, fun ys p2 pm so np2 => ⟨p2, _, rfl, .inl ⟨SqL.of upd_same, fun t nt => ⟨by show 2 ≤ sizeLine; decide, fun G nG => ?_⟩⟩⟩⟩
      have s7 := (same_new (o := .lst (ys.map V.str)) np2).trans (same_new (o := .tup (ys.map V.str)) nt)
      exact ⟨G, ys, rfl, (s6.trans s7).trans (same_new nG), dp_pairH ((U5.same s6).same s7) nG ((s6.trans s7) _ _ hp) upd_same, pm, so⟩
    rintro σ5 H7 ⟨G, ys, rfl, s7, hG, pm, so⟩
    have yl := pm.length_eq
    rw [List.length_append, List.length_map] at yl
    have gsm : SmD 4 (goalD (rs.map (·.1)) ys) := goal_sm (by rw [List.length_map]; omega) (by omega)
    have one : ∀ {ys2 : List Str}, ys2.Perm (rs.map (·.1) ++ es) → sortedS ys2 = true → ys2 = ys := fun pm2 so2 => sorted_one (pm2.trans pm.symm) so2 so
    refine ⟨fun σ' H' => σ' = [some (.ref u), some (.int (0 + (i : Int))), some (.ref q), some y1, some (.ref p), some (.ref G), g0, none] ∧ Same H7 H', ?_, ?_⟩
    · have Sm : ShV K H7 (.ref q) rs es := st_sh (s5.trans s7) S3
      refine ⟨_, rfl, .ref q, rs, es, rfl, Sm, by omega, fun p1 H8 s8 n8 h8 => ⟨_, rfl, .ref q, rs, es, rfl, st_sh s8 Sm, by omega, fun p2 ys2 H9 s9 n9 pm2 so2 h9 => ⟨by show 2 ≤ sizeLine; decide, fun l nl => ⟨_, rfl, .ref l, .ref G, _, rfl, ?_, ?_, gsm, fun H10 s10 => ⟨_, rfl, iteF ?_⟩⟩⟩⟩⟩
      · rw [one pm2 so2] at h9
        exact dp_pair nl (s9 _ _ (by rw [List.map_map]; exact h8)) h9
      · exact dp_same (((Same.trans hide_le s8).trans s9).trans (same_new nl)) hG
      · exact ⟨rfl, ((s8.trans s9).trans (same_new nl)).trans s10⟩
    rintro σ6 H8 ⟨rfl, s8⟩
    refine ⟨fun σ' H' => σ' = [some (.ref u), some (.int (0 + (i : Int))), some (.ref q), some y1, some (.ref p), some (.ref G), g0, none] ∧ Same H7 H', ?_, ?_⟩
    · have hyA := dp_same ((Same.trans hid_le s5).trans (s7.trans s8)) hy1
      have Sm : ShV K H8 y1 rs es := sh_of hyA (lst_idem _)
      refine ⟨_, rfl, y1, rs, es, rfl, Sm, by omega, fun p1 H9 s9 n9 h9 => ⟨_, rfl, y1, rs, es, rfl, st_sh s9 Sm, by omega, fun p2 ys2 H10 s10 n10 pm2 so2 h10 => ⟨by show 2 ≤ sizeLine; decide, fun l nl => ⟨_, rfl, .ref l, .ref G, _, rfl, ?_, ?_, gsm, fun H11 s11 => ⟨_, rfl, iteF ?_⟩⟩⟩⟩⟩
      · rw [one pm2 so2] at h10
        exact dp_pair nl (s10 _ _ (by rw [List.map_map]; exact h9)) h10
      · exact dp_same ((((Same.trans hide_le s8).trans s9).trans s10).trans (same_new nl)) hG
      · have sA := ((s9.trans s10).trans (same_new (o := .lst [.ref p1, .ref p2]) nl)).trans s11
        have sB := ((s5.trans s7).trans s8).trans sA
        refine ⟨_, rfl, _, rfl, [u], .ref q, shT rs es, rfl, fun v m => same_in (s3.trans sB) (ain v m), dp_same (hid_same sB) hx3, sm, fun y2 H12 s12 hy2 => ?_⟩
        refine ⟨_, _, dp_same (sA.trans s12) hyA, dp_same hid_le hy2, shaped_sh sn, shaped_sh sn, _, rfl, ?_⟩
        rw [eqv_sh sn]
        exact iteF ⟨rfl, (s8.trans sA).trans s12⟩
    clear s8
    rintro σ7 H9 ⟨rfl, s9⟩
    have sB := (s5.trans s7).trans s9
    have nn := nodes_sh rs es
    refine ⟨_, rfl, _, rfl, u, [u], .ref q, shT rs es, n + 1100 * i + 1000, rfl, List.mem_singleton.mpr rfl, fun v m => same_in (s3.trans sB) (ain v m), U2.same (s3.trans sB), by omega, dp_same (hid_same sB) hx3, sm, fun y3 d3 H10 U10 k10 hy3 ed => ?_⟩
    have Sm : ShV K H10 y3 rs es := sh_of (dp_same hid_le hy3) ed
    refine ⟨_, rfl, y3, rs, es, rfl, Sm, by omega, fun p1 H11 s11 n11 h11 => ⟨_, rfl, y3, rs, es, rfl, st_sh s11 Sm, by omega, fun p2 ys2 H12 s12 n12 pm2 so2 h12 => ⟨by show 2 ≤ sizeLine; decide, fun l nl => ⟨_, rfl, .ref l, .ref G, _, rfl, ?_, ?_, gsm, fun H13 s13 => ⟨_, rfl, iteF ?_⟩⟩⟩⟩⟩
    · rw [one pm2 so2] at h12
      exact dp_pair nl (s12 _ _ (by rw [List.map_map]; exact h11)) h12
    · have hG2 := dp_same k10.same (dp_same (Keep.same (keep_of_same (u := u) s9)) hG)
      exact dp_same (((Same.trans hide_le s11).trans s12).trans (same_new nl)) hG2
    · have sA := ((s11.trans s12).trans (same_new (o := .lst [.ref p1, .ref p2]) nl)).trans s13
      exact ⟨_, _, _, _, _, _, rfl, (U10.same sA).le (by omega), ((((k1.trans k2).trans (keep_of_same (s3.trans sB))).trans k10).trans (keep_of_same sA))⟩
  · rintro σ H' ⟨a0, b0, c0, d0, e0, g0, rfl, U1, k1⟩
    exact k _ k1
end
end Cx

/-! displays of texts; the sheets by hand -/
namespace Cx
open PySem PySem.Spec PyProof.Rows L2
section
variable {X : Cx}
theorem pe_weak {e : Expr} {t u : TE} (h : PE X e t) (k : ∀ σ H Q, u σ H Q → t σ H Q) : PE X e u := ⟨fun pins s σ H Q I q => h.run pins s σ H Q I (k σ H Q q)⟩
theorem pa_weak {es : List Expr} {t u : TA} (h : PA X es t) (k : ∀ σ H Q, u σ H Q → t σ H Q) : PA X es u := ⟨fun pos pins s σ H Q I q => h.run pos pins s σ H Q I (k σ H Q q)⟩
/-- what came anew -/
def nw (H H' : Hp) : Hp := fun b => if H b = none then H' b else none
theorem nw_some {H H' : Hp} {b : Addr} {o : HO} (h : nw H H' b = some o) : H b = none ∧ H' b = some o := by
  unfold nw at h
  by_cases c : H b = none
  · rw [if_pos c] at h
    exact ⟨c, h⟩
  · rw [if_neg c] at h
    cases h
theorem nw_of {H H' : Hp} {b : Addr} {o : HO} (c : H b = none) (h : H' b = some o) : nw H H' b = some o := by
  unfold nw
  rw [if_pos c]
  exact h
theorem nw_le {H H' : Hp} : Same (nw H H') H' := fun _ _ e => (nw_some e).2
theorem nw_put {H H' : Hp} {p : Addr} {o : HO} (h : H p ≠ none) : Same (nw H H') (upd H' p o) := fun b _ e => by
  rw [upd_ne fun c => h (by rw [← c]; exact (nw_some e).1)]
  exact (nw_some e).2
/-- new data, nothing else changed -/
def tLit (K : PySem.W.Frag) (d : PyData) : TE := fun _ H Q => ∀ x H', Same H H' → Dp K (nw H H') x d → Q x H'
def tLits (K : PySem.W.Frag) (ds : List PyData) : TA := fun _ H Q => ∀ xs H', Same H H' → DpAll K (nw H H') xs ds → Q xs H'
theorem pl_str {z : Str} {j : Nat} {pos : Pos} : PE X (.Constant (.str z) j pos) (tLit X.K (.str z)) := pe_weak pe_str fun _ H _ q => q _ H (Same.refl H) (.str z)
theorem pls_nil : PA X [] (tLits X.K []) := pa_weak pa_nil fun _ H _ q => q _ H (Same.refl H) .nil
theorem pls_cons {e : Expr} {es : List Expr} {d : PyData} {ds : List PyData} (h : PE X e (tLit X.K d)) (t : PA X es (tLits X.K ds)) (hs : starEach (e :: es) X.env = (false, eval e X.env) :: starEach es X.env := by rfl) : PA X (e :: es) (tLits X.K (d :: ds)) :=
  pa_weak (pa_cons h t hs) fun _ _ _ q _ _ s1 d1 _ _ s2 d2 => q _ _ (s1.trans s2) (.cons (dp_same (fun _ _ e => nw_of (nw_some e).1 (s2 _ _ (nw_some e).2)) d1) (dpa_same (fun _ _ e => nw_of (s1.free (nw_some e).1) (nw_some e).2) d2))
theorem nw_new {H H1 : Hp} {p : Addr} {o : HO} (np : H1 p = none) : Same (nw H H1) (nw H (upd H1 p o)) := fun _ _ e => nw_of (nw_some e).1 ((same_new np) _ _ (nw_some e).2)
theorem pl_tup {es : List Expr} {ds : List PyData} {j : Nat} {pos : Pos} (h : PA X es (tLits X.K ds)) (hl : ds.length ≤ 900 := by decide) : PE X (.Tuple es j pos) (tLit X.K (.tuple ds)) :=
  pe_weak (pe_tup h) fun _ _ _ q _ _ s1 a => ⟨by rw [dpa_len a]; exact Nat.le_of_lt (small1000 (by omega)), fun _ np => q _ _ (s1.trans (same_new np)) (.tup (.inl (.inl (nw_of (s1.free np) upd_same))) (dpa_same (nw_new np) a))⟩
theorem pl_lst {es : List Expr} {ds : List PyData} {pos : Pos} (h : PA X es (tLits X.K ds)) (hl : ds.length ≤ 900 := by decide) : PE X (.List es pos) (tLit X.K (.list ds)) :=
  pe_weak (pe_lst h) fun _ _ _ q _ _ s1 a => ⟨by rw [dpa_len a]; exact Nat.le_of_lt (small1000 (by omega)), fun _ np => q _ _ (s1.trans (same_new np)) (.lst (SqL.of (nw_of (s1.free np) upd_same)) (dpa_same (nw_new np) a))⟩
end
abbrev rs6 : List (Str × List Str) := [("ann", ["bob"]), ("bob", ["ann", "cat"]), ("cat", ["bob", "dan", "eve"]), ("dan", ["cat", "eve"]), ("eve", ["cat", "dan"]), ("fay", ["cat", "new"])]
theorem dpa_app {K : PySem.W.Frag} {H : Hp} : ∀ {xs ys : List V} {ds es : List PyData}, DpAll K H xs ds → DpAll K H ys es → DpAll K H (xs ++ ys) (ds ++ es)
  | _, _, _, _, .nil, b => b
  | _, _, _, _, .cons h t, b => .cons h (dpa_app t b)
section
variable {P : Program} {w : World} {K : PySem.W.Frag} {mg : Str → Option Value} {base : Heap}
def spSix (K : PySem.W.Frag) : Sp := fun vs H Q _ => vs = [] ∧ ∀ x H', Same H H' → Dp K H' x (shT rs6 ["new"]) → Q x H'
theorem sc6 : FnScope ["_law_rows_so"] [] (defScope sSix) := ⟨rfl, rfl, rfl, by decide +kernel, rfl, by decide +kernel, by decide +kernel⟩
theorem ok_six {f : Addr} {fd : FuncData} (F : Fun K "_law_six" "_law_six" sSix f fd) : FnOk P w K mg base CX0 1 f fd [] (spSix K) := by
  refine F.ok sc6 (fun vs H Q E h => ?_) (fun cdv A outer s H vs Q E hr h => ?_)
  · obtain ⟨rfl, _⟩ := h
    rfl
  obtain ⟨rfl, k⟩ := h
  refine ⟨_, pss_cons (ps_set (i := 0) sc6.nd rfl (.inl rfl) (pl_tup (pls_cons (pl_tup (pls_cons pl_str (pls_cons (pl_tup (pls_cons pl_str pls_nil)) pls_nil))) (pls_cons (pl_tup (pls_cons pl_str (pls_cons (pl_tup (pls_cons pl_str (pls_cons pl_str pls_nil))) pls_nil)))
      (pls_cons (pl_tup (pls_cons pl_str (pls_cons (pl_tup (pls_cons pl_str (pls_cons pl_str (pls_cons pl_str pls_nil)))) pls_nil))) (pls_cons (pl_tup (pls_cons pl_str (pls_cons (pl_tup (pls_cons pl_str (pls_cons pl_str pls_nil))) pls_nil))) pls_nil))))))
    (pss_one (ps_ret (pe_tup (pa_cons (pe_op op_catA (pv 0) (pl_tup (pls_cons (pl_tup (pls_cons pl_str (pls_cons (pl_tup (pls_cons pl_str (pls_cons pl_str pls_nil))) pls_nil))) (pls_cons (pl_tup (pls_cons pl_str (pls_cons (pl_tup (pls_cons pl_str (pls_cons pl_str pls_nil))) pls_nil))) pls_nil))))
      (pa_cons (pl_tup (pls_cons pl_str pls_nil)) pa_nil))))), ?_⟩
  intro x H1 s1 d1
  have d1 := dp_same nw_le d1
  refine ⟨_, rfl, fun y H2 s2 d2 => ?_⟩
  have d2 := dp_same nw_le d2
  obtain ⟨a, xs, rfl, ha, ax⟩ := dp_tup (dp_same s2 d1)
  obtain ⟨b, ys, rfl, hb, ay⟩ := dp_tup d2
  have lx := dpa_len ax
  have ly := dpa_len ay
  refine ⟨a, b, xs, ys, rfl, rfl, ha, hb, by rw [lx, ly]; exact Nat.le_of_lt (small1000 (by decide)), fun e => ?_, fun _ e => ?_, fun _ _ p np z H3 s3 d3 => ⟨by show 2 ≤ sizeLine; decide, fun q nq => ?_⟩⟩
  rotate_left 2
  · have d3 := dp_same nw_le d3
    have s4 := (same_new (o := .tup (xs ++ ys)) np).trans s3
    have s5 := s4.trans (same_new (o := .tup [.ref p, z]) nq)
    refine k _ _ (s1.trans (s2.trans s5)) ?_
    refine .tup (.inl (.inl upd_same)) (.cons (.tup (.inl (.inl ((same_new nq) _ _ (s3 _ _ upd_same)))) (dpa_same s5 (dpa_app ax ay))) (.cons (dp_same (same_new nq) d3) .nil))
  · rw [e] at lx
    exact absurd lx (by decide)
  · rw [e] at ly
    exact absurd ly (by decide)
/-! ### by hand -/
abbrev Five : Type := List (Str × List Str) × List Str × List Str
def five : List Five := [([], [], []), ([("b", [])], ["a"], ["a", "b"]), ([], ["a", "zz"], ["a", "zz"]), (rs6, ["new"], ["ann", "bob", "cat", "dan", "eve", "fay", "new"]), ([("a", ["q"]), ("c", ["a"])], ["b", "d"], ["a", "b", "c", "d"])]
abbrev goalF (s : Five) : PyData := goalD (s.1.map (·.1)) s.2.2
theorem five_ok : ∀ s ∈ five, s.1.length ≤ 6 ∧ s.2.1.length ≤ 6 ∧ s.2.2.length ≤ 7 ∧ s.2.2.Perm (s.1.map (·.1) ++ s.2.1) ∧ sortedS s.2.2 = true := by decide +kernel
theorem hide_put {u : Addr} {H : Hp} {o : HO} : hide u (upd H u o) = hide u H := by
  funext b
  by_cases c : b = u
  · rw [c, hide_at, hide_at]
  · rw [hide_ne c, hide_ne c, upd_ne c]
theorem dp_pairL {K : PySem.W.Frag} {H : Hp} {u l p1 p2 : Addr} {us : List V} {as ys : List Str} (hu : H u = some (.lst us)) (nl : H l = none) (h1 : H p1 = some (.tup (as.map V.str))) (h2 : H p2 = some (.tup (ys.map V.str))) : Dp K (hide u (upd H l (.lst [.ref p1, .ref p2]))) (.ref l) (goalD as ys) := by
  have e := (same_new (o := .lst [.ref p1, .ref p2]) nl) _ _ hu
  have n : l ≠ u := (ne_of_none hu nl).symm
  exact .lst (SqL.of (by rw [hide_ne n, upd_same])) (.cons (.tup (.inl (.inl (tup_hide e ((same_new nl) _ _ h1)))) (dpa_strs as)) (.cons (.tup (.inl (.inl (tup_hide e ((same_new nl) _ _ h2)))) (dpa_strs ys)) .nil))
abbrev nHd : List Str := ["_law_some", "_law_got", "_law_goal", "_law_own"]
theorem scHd : FnScope nHd [] (defScope sByHand) := ⟨rfl, rfl, rfl, by decide +kernel, rfl, by decide +kernel, by decide +kernel⟩
theorem ok_hand {f : Addr} {fd : FuncData} (F : Fun K "_law_by_hand_right" "_law_by_hand_right" sByHand f fd) (CH : CalK P w K mg base "households" 1 ["sheet"] (spHouseholds K)) (CO : CalK P w K mg base "homes" 2 ["sheet"] (spHomes K)) (CS : Cal P w K mg base "_law_same" 4 ["_law_got", "_law_goal"] (spSame K 4))
    (C6 : Cal P w K mg base "_law_six" 1 [] (spSix K)) : FnOk P w K mg base CX0 5 f fd [] spHand := by
  obtain ⟨fh, dh, GH, bH, _, kH, mH⟩ := CH
  obtain ⟨fo, do', GO, bO, _, kO, mO⟩ := CO
  obtain ⟨fs, ds, GS, bS, kS, mS⟩ := CS
  obtain ⟨f6, d6, G6, b6, k6, m6⟩ := C6
  refine F.ok scHd (fun vs H Q E h => ?_) (fun cdv A outer s H vs Q E hr h => ?_)
  · obtain ⟨rfl, _⟩ := h
    rfl
  obtain ⟨rfl, k⟩ := h
  have hr1 := hr.mono (show 1 ≤ 4 by decide)
  have hr2 := hr.mono (show 2 ≤ 4 by decide)
  refine ⟨_, pss_cons (ps_set (i := 0) scHd.nd rfl (.inl rfl) (pe_lst (pa_cons (pl_tup (pls_cons (pl_tup pls_nil) (pls_cons (pl_tup pls_nil) pls_nil))) (pa_cons (pl_tup (pls_cons (pl_tup (pls_cons (pl_tup (pls_cons pl_str (pls_cons (pl_tup pls_nil) pls_nil))) pls_nil)) (pls_cons (pl_tup (pls_cons pl_str pls_nil)) pls_nil)))
      (pa_cons (pl_tup (pls_cons (pl_tup pls_nil) (pls_cons (pl_tup (pls_cons pl_str (pls_cons pl_str pls_nil))) pls_nil))) (pa_cons (pe_call0 G6 hr1 (by rfl) m6 k6 b6 .nil pass0) pa_nil))))))
    (Evl.pss_cut (ps_expr (pe_bm PySem.F.plainAttrs_list PySem.F.slot_list_append PySem.F.type_list_append mt_append (pv 0) (pa_cons (pl_tup (pls_cons (pl_tup (pls_cons (pl_tup (pls_cons pl_str (pls_cons (pl_tup (pls_cons pl_str pls_nil)) pls_nil))) (pls_cons (pl_tup (pls_cons pl_str (pls_cons (pl_tup (pls_cons pl_str pls_nil)) pls_nil))) pls_nil)))
        (pls_cons (pl_tup (pls_cons pl_str (pls_cons pl_str pls_nil))) pls_nil))) pa_nil)))
    (Evl.pss_cut (ps_setLcA (i := 1) (own := [("_law_own", 3)]) (g := gName 3) (tt := tYes) rfl scHd.nd rfl rfl (sw_true rfl rfl rfl (by decide +kernel)) (pv 0) (blkOk_by (N := nHd) (sc := defScope sByHand) (by decide +kernel))
        (fun _ _ _ _ _ => pg_name (i := 3) scHd.nd rfl (.inl rfl)) (fun _ _ _ _ _ => pts_nil) (fun _ _ _ _ _ => pe_lst (pa_cons (pe_call GH hr1 (by rfl) mH kH bH .nil pass0 (pa_cons (pv 3) pa_nil)) (pa_cons (pe_call GO hr2 (by rfl) mO kO bO .nil pass0 (pa_cons (pv 3) pa_nil)) pa_nil))))
    (pss_cons (ps_set (i := 2) scHd.nd rfl (.inl rfl) (pe_lst (pls_cons (pl_lst (pls_cons (pl_tup pls_nil) (pls_cons (pl_tup pls_nil) pls_nil))) (pls_cons (pl_lst (pls_cons (pl_tup (pls_cons pl_str pls_nil)) (pls_cons (pl_tup (pls_cons pl_str (pls_cons pl_str pls_nil))) pls_nil)))
        (pls_cons (pl_lst (pls_cons (pl_tup pls_nil) (pls_cons (pl_tup (pls_cons pl_str (pls_cons pl_str pls_nil))) pls_nil))) pls_nil)))))
    (pss_cons (ps_set (i := 2) scHd.nd rfl (.inl rfl) (pe_op op_cat (pv 2) (pe_lst (pls_cons (pl_lst (pls_cons (pl_tup (pls_cons pl_str (pls_cons pl_str (pls_cons pl_str (pls_cons pl_str (pls_cons pl_str (pls_cons pl_str pls_nil)))))))
        (pls_cons (pl_tup (pls_cons pl_str (pls_cons pl_str (pls_cons pl_str (pls_cons pl_str (pls_cons pl_str (pls_cons pl_str (pls_cons pl_str pls_nil)))))))) pls_nil))) pls_nil))))
    (pss_one (ps_ret (pe_call GS hr (by rfl) mS kS bS .nil pass0 (pa_cons (pv 1) (pa_cons (pe_op op_cat (pv 2) (pe_lst (pls_cons (pl_lst (pls_cons (pl_tup (pls_cons pl_str (pls_cons pl_str pls_nil))) (pls_cons (pl_tup (pls_cons pl_str (pls_cons pl_str (pls_cons pl_str (pls_cons pl_str pls_nil))))) pls_nil))) pls_nil))) pa_nil))))))))), ?_⟩
  intro x1 H1 s1 d1 x2 H2 s2 d2 x3 H3 s3 d3
  refine ⟨rfl, fun x4 H4 s4 d4 => ⟨by show 4 ≤ sizeLine; decide, fun S nS => ?_⟩⟩
  have sA : Same H H4 := (s1.trans s2).trans (s3.trans s4)
  have all4 : DpAll K H4 [x1, x2, x3, x4] ((five.take 4).map fun s => shT s.1 s.2.1) := .cons (dp_same (Same.trans nw_le (s2.trans (s3.trans s4))) d1) (.cons (dp_same (Same.trans nw_le (s3.trans s4)) d2) (.cons (dp_same (Same.trans nw_le s4) d3) (.cons d4 .nil)))
  refine ⟨fun σ' H' => ∃ (xs : List V), σ' = [some (.ref S), none, none, none] ∧ Same H H' ∧ H' S = some (.lst xs) ∧ DpAll K H' xs (five.map fun s => shT s.1 s.2.1), ?_, ?_⟩
  · refine ⟨_, rfl, .inl ⟨rfl, _, SqL.of upd_same⟩, fun x5 H6 s6 d6 => ?_⟩
    have hS := s6 _ _ (upd_same (H := H4) (a := S) (o := .lst [x1, x2, x3, x4]))
    have sB : Same H4 (upd H6 S (.lst ([x1, x2, x3, x4] ++ [x5]))) := fun b o e => by
      rw [upd_ne (ne_of_none e nS)]
      exact s6 _ _ ((same_new nS) _ _ e)
    refine ⟨S, _, _, rfl, rfl, hS, by show 4 < sizeLine; decide, _, rfl, sA.trans sB, upd_same, ?_⟩
    exact dpa_app (dpa_same sB all4) (.cons (dp_same (nw_put (by rw [upd_same]; exact fun z => nomatch z)) d6) .nil)
  rintro σ1 H5 ⟨xs, rfl, sC, hS, ax⟩
  refine ⟨fun σ' H' => ∃ (G : Addr) (zs : List V), σ' = [some (.ref S), some (.ref G), none, none] ∧ Same H H' ∧ H' G = some (.lst zs) ∧ DpAll K H' zs (five.map goalF), ?_, ?_⟩
  · refine ⟨_, rfl, ?_⟩
    have lx := dpa_len ax
    rw [List.length_map] at lx
    refine lc_any (xs := xs) ⟨S, rfl, .inl (SqL.of hS)⟩ (Stays.of (Same.refl H5)) (fun D i H' => ∃ zs : List V, Same H5 H' ∧ H' D = some (.lst zs) ∧ DpAll K (hide D H') zs ((five.take i).map goalF)) (fun D nD => ⟨[], same_new nD, upd_same, .nil⟩) (fun D i H' _ ⟨_, q, _⟩ => Stays.of q)
      (fun D i y H' nD hy ⟨zs, s7, hD, az⟩ => ?_) (fun D H' nD ⟨zs, s7, hD, az⟩ => ?_)
    · obtain ⟨d, ed, dx⟩ := dpa_at ax hy
      obtain ⟨s5, es, rfl⟩ := map_at ed
      have hi := (List.getElem?_eq_some_iff.mp es).1
      obtain ⟨l1, l2, l3, pm5, so5⟩ := five_ok s5 (List.mem_of_getElem? es)
      have Sm : ShV K H' y s5.1 s5.2.1 := sh_of (dp_same s7 dx) rfl
      refine ⟨rfl, _, rfl, y, s5.1, s5.2.1, rfl, Sm, by omega, fun p1 H8 s8 n8 h8 => ⟨_, rfl, y, s5.1, s5.2.1, rfl, st_sh s8 Sm, by omega, fun p2 ys2 H9 s9 n9 pm2 so2 h9 => ⟨by show 2 ≤ sizeLine; decide, fun l nl => ?_⟩⟩⟩
      have e2 : ys2 = s5.2.2 := sorted_one (pm2.trans pm5.symm) so2 so5
      rw [e2] at h9
      have hD2 := s9 _ _ (s8 _ _ hD)
      have hD3 := (same_new (o := .lst [.ref p1, .ref p2]) nl) _ _ hD2
      have lz := dpa_len az
      rw [List.length_map, List.length_take] at lz
      have l5 : five.length = 5 := rfl
      have s10 := (s8.trans s9).trans (same_new (o := .lst [.ref p1, .ref p2]) nl)
      refine ⟨zs, hD3, small1000 (by omega), zs ++ [.ref l], fun b o e => ?_, upd_same, ?_⟩
      · rw [upd_ne (ne_of_none e nD)]
        exact s10 _ _ (s7 b o e)
      · rw [hide_put, List.take_add_one, es, List.map_append]
        exact dpa_app (dpa_same (keep_of_same s10).same az) (.cons (dp_pairL hD2 nl (s9 _ _ (by rw [List.map_map]; exact h8)) h9) .nil)
    · rw [lx, List.take_length] at az
      exact ⟨D, zs, rfl, sC.trans s7, hD, dpa_same hide_le az⟩
  rintro σ2 H6 ⟨G, zs, rfl, sD, hG, az⟩
  intro g1 H7 s7 a7
  have l7 := dpa_len a7
  refine ⟨by rw [l7]; exact Nat.le_of_lt (small1000 (by decide)), fun G1 n1 => ?_⟩
  refine ⟨_, rfl, fun g2 H8 s8 a8 => ?_⟩
  have l8 := dpa_len a8
  refine ⟨by rw [l8]; exact Nat.le_of_lt (small1000 (by decide)), fun G2 n2 => ?_⟩
  have h1 := (same_new (o := .lst g2) n2) _ _ (s8 _ _ (upd_same (H := H7) (a := G1) (o := .lst g1)))
  refine ⟨G1, G2, g1, g2, rfl, rfl, h1, upd_same, by rw [l7, l8]; exact Nat.le_of_lt (small1000 (by decide)), fun G3 n3 => ?_⟩
  refine ⟨_, rfl, _, rfl, fun g3 H9 s9 a9 => ?_⟩
  have l9 := dpa_len a9
  refine ⟨by rw [l9]; exact Nat.le_of_lt (small1000 (by decide)), fun G4 n4 => ?_⟩
  have h3 := (same_new (o := .lst g3) n4) _ _ (s9 _ _ (upd_same (H := upd H8 G2 (.lst g2)) (a := G3) (o := .lst (g1 ++ g2))))
  refine ⟨G3, G4, _, g3, rfl, rfl, h3, upd_same, by rw [List.length_append, l7, l8, l9]; exact Nat.le_of_lt (small1000 (by decide)), fun G5 n5 => ?_⟩
  have t9 := (same_new (o := .lst g3) n4).trans (same_new (o := .lst ((g1 ++ g2) ++ g3)) n5)
  have t8 := ((same_new (o := .lst g2) n2).trans (same_new (o := .lst (g1 ++ g2)) n3)).trans (s9.trans t9)
  have t7 := ((same_new (o := .lst g1) n1).trans s8).trans t8
  refine ⟨.ref G, .ref G5, .list (five.map goalF), rfl, .lst (SqL.of (t7 _ _ (s7 _ _ hG))) (dpa_same (s7.trans t7) az), ?_, ?_, fun H' s' => k H' ((sD.trans s7).trans (t7.trans s'))⟩
  · exact .lst (SqL.of upd_same) (dpa_app (dpa_app (dpa_same (Same.trans nw_le t7) a7) (dpa_same (Same.trans nw_le t8) a8)) (dpa_same (Same.trans nw_le t9) a9))
  · refine ⟨by show 5 ≤ 900; decide, fun d m => ?_⟩
    obtain ⟨s5, ms, rfl⟩ := List.mem_map.mp m
    obtain ⟨l1, l2, l3, _, _⟩ := five_ok s5 ms
    exact goal_sm (by rw [List.length_map]; omega) (by omega)
end
end Cx

/-! the law, the head -/
namespace Cx
open PySem PySem.Spec PyProof.Rows L2
theorem no_callK {P : Program} {w : World} {K : PySem.W.Frag} {mg : Str → Option Value} {base : Heap} {k : Nat} {f : Addr} {fd : FuncData} {ps : List Str} {sp : Sp} (no : ∀ vs H Q E, ¬ sp vs H Q E) : FnOk P w K mg base CX0 k f fd ps sp :=
  ⟨fun vs H Q E h => absurd h (no vs H Q E), fun _ _ _ H _ _ vs Q E _ _ _ _ h => absurd h (no vs H Q E)⟩
structure TyLw (mg : Str → Option Value) : Prop where
  rng : mg "range" = none
  len : mg "len" = none
  all : mg "all" = none
section
variable {P : Program} {w : World} {K : PySem.W.Frag} {mg : Str → Option Value} {base : Heap}
def spLaw (K : PySem.W.Frag) : Sp := fun vs H Q _ => ∃ (a : Addr) (ns : List Int), vs = [.ref a] ∧ SqL K H a (ns.map V.int) ∧ ns.length ≤ 63 ∧ ∀ H', Q (.bl true) H'
abbrev nLw : List Str := ["_law_script", "_law_cells_here", "_law_k"]
theorem scLw : FnScope nLw ["_law_script"] (defScope sLaw) := ⟨rfl, rfl, rfl, by decide +kernel, rfl, by decide +kernel, by decide +kernel⟩
theorem ok_law {f : Addr} {fd : FuncData} (F : Fun K "law" "law" sLaw f fd) (CC : Cal P w K mg base "_law_cells" 1 ["_law_script", "_law_top"] (spCells K)) (CX : Cal P w K mg base "_law_box" 1 ["_law_script", "_law_k"] (spBox K)) (CR : Cal P w K mg base "_law_right" 7 ["_law_urn"] spRight) (T : TyLw mg) :
    FnOk P w K mg base CX0 8 f fd ["_law_script"] (spLaw K) := by
  obtain ⟨fc, dc, GC, bC, kC, mC⟩ := CC
  obtain ⟨fb, db, GB, bB, kB, mB⟩ := CX
  obtain ⟨fr, dr, GR, bR, kR, mR⟩ := CR
  refine F.ok scLw (fun vs H Q E h => ?_) (fun cdv A outer s H vs Q E hr h => ?_)
  · obtain ⟨a, ns, rfl, _⟩ := h
    rfl
  obtain ⟨a, ns, rfl, hS, hl, k⟩ := h
  have hr1 := hr.mono (show 1 ≤ 7 by decide)
  refine ⟨_, pss_cons (ps_set (i := 1) scLw.nd rfl (.inr rfl) (pe_call GC hr1 (by rfl) mC kC bC .nil pass0 (pa_cons (pv 0) (pa_cons pe_int pa_nil))))
    (pss_one (ps_ret (pe_callB (cr_all rfl) (by rfl) T.all (by decide +kernel) (pa_cons
      (pe_lc (own := [("_law_k", 2)]) (g := gName 2) (tt := tYes) (te := tCall spRight [] E0 (tCons (tCall (spBox K) [] E0 (tCons (tVar 1) (tCons (tVar 2) tNil))) tNil)) rfl scLw.nd (pi_range1 (by rfl) T.rng (pa_cons (pe_callB call_len_seq (by rfl) T.len PySem.boot_len (pa_cons (pv 1) pa_nil)) pa_nil)) (blkOk_by (N := nLw) (sc := defScope sLaw) (by decide +kernel))
        (fun _ _ _ _ _ => pg_name (i := 2) scLw.nd rfl (.inl rfl)) (fun _ _ _ _ _ => pts_nil) (fun _ _ _ _ _ => pe_call GR hr (by rfl) mR kR bR .nil pass0 (pa_cons (pe_call GB hr1 (by rfl) mB kB bB .nil pass0 (pa_cons (pv 1) (pa_cons (pv 2) pa_nil))) pa_nil))) pa_nil)))), ?_⟩
  refine ⟨_, rfl, a, ns, 3, rfl, hS, by omega, by decide, by decide, fun L ms H1 s1 nL hL l1 l3 => ?_⟩
  refine ⟨_, rfl, L, _, rfl, .inl (SqL.of hL), _, rfl, by rw [List.length_map]; omega, by rw [List.length_map]; omega, fun D nD => ?_⟩
  refine lc_range (lo := 0) (n := (ms.map V.int).length) (fun i H' => Same H1 H' ∧ H' D = some (.lst ((List.replicate i true).map V.bl))) ⟨same_new nD, upd_same⟩ (fun i H' hi ⟨s2, hD⟩ => ?_) (fun H' ⟨s2, hD⟩ => ?_)
  · rw [List.length_map] at hi
    refine ⟨rfl, _, rfl, _, rfl, L, ms, _, rfl, SqL.of (s2 _ _ hL), by omega, by omega, fun u H2 s3 nu U2 => ?_⟩
    refine ⟨u, 0, rfl, U2, by decide, fun H3 k3 => ?_⟩
    have keep : ∀ b o, H' b = some o → H3 b = some o := fun b o e => k3 b o (ne_of_none e nu) (s3 b o e)
    refine ⟨_, keep _ _ hD, ?_, fun b o e => ?_, ?_⟩
    · rw [List.length_map, List.length_replicate]
      exact small1000 (by omega)
    · rw [upd_ne (ne_of_none e nD)]
      exact keep _ _ (s2 b o e)
    · rw [upd_same, List.replicate_succ', List.map_append]
      rfl
  · refine ⟨D, _, rfl, SqL.of hD, ?_⟩
    rw [all_true]
    exact k _
end
end Cx

namespace Cx
open PySem PySem.Spec PyProof.Rows L2
theorem all_mk {l : PySem.W.OpenLaw} {w : World} {K : PySem.W.Frag} {h : Heap} {mg : Str → Option Value} {fa f1 f2 f3 f4 f5 f6 f7 f8 f9 f10 f11 f12 f13 f14 f15 : Addr} (X : K.In h) (G : h.Ns mainGlobals mg) (hfa : mg "law" = some (.ref fa))
    {od1 an1 od2 an2 od3 an3 od4 an4 od5 an5 od6 an6 od7 an7 od8 an8 od9 an9 od10 an10 od11 an11 od12 an12 od13 an13 od14 an14 od15 an15 : Option Addr} {sl1 sl2 sl3 sl4 sl5 sl6 sl7 sl8 sl9 sl10 sl11 sl12 sl13 sl14 sl15 : Array (Option Value)} {oc1 kV1 dc1 pm1 cd1 ct1 oc2 kV2 dc2 pm2 cd2 ct2 oc3 kV3 dc3 pm3 cd3 ct3 oc4 kV4 dc4 pm4 cd4 ct4 oc5 kV5 dc5 pm5 cd5 ct5 oc6 kV6 dc6 pm6 cd6 ct6 oc7 kV7 dc7 pm7 cd7 ct7 oc8 kV8 dc8 pm8 cd8 ct8 oc9 kV9 dc9 pm9 cd9 ct9 oc10 kV10 dc10 pm10 cd10 ct10 oc11 kV11 dc11 pm11 cd11 ct11 oc12 kV12 dc12 pm12 cd12 ct12 oc13 kV13 dc13 pm13 cd13 ct13 oc14 kV14 dc14 pm14 cd14 ct14 oc15 kV15 dc15 pm15 cd15 ct15 : Value}
    (a1 : PySem.W.nsIn K mainGlobals "households" = some (some (.ref f1))) (l1 : K.lookup f1 = some ⟨oc1, od1, .func (PySem.W.fnOf "households" "households" (defArgs sHouseholds) (defBody sHouseholds) (defScope sHouseholds) .none kV1 dc1 pm1 an1 cd1 ct1), sl1⟩) (c1 : PySem.W.codeIn K cd1 "households" = true) (k1 : PySem.W.keepIn K (.ref f1) = true)
    (a2 : PySem.W.nsIn K mainGlobals "homes" = some (some (.ref f2))) (l2 : K.lookup f2 = some ⟨oc2, od2, .func (PySem.W.fnOf "homes" "homes" (defArgs sHomes) (defBody sHomes) (defScope sHomes) .none kV2 dc2 pm2 an2 cd2 ct2), sl2⟩) (c2 : PySem.W.codeIn K cd2 "homes" = true) (k2 : PySem.W.keepIn K (.ref f2) = true)
    (a3 : PySem.W.nsIn K mainGlobals "_law_box" = some (some (.ref f3))) (l3 : K.lookup f3 = some ⟨oc3, od3, .func (PySem.W.fnOf "_law_box" "_law_box" (defArgs sBox) (defBody sBox) (defScope sBox) .none kV3 dc3 pm3 an3 cd3 ct3), sl3⟩) (c3 : PySem.W.codeIn K cd3 "_law_box" = true) (k3 : PySem.W.keepIn K (.ref f3) = true)
    (a4 : PySem.W.nsIn K mainGlobals "_law_take" = some (some (.ref f4))) (l4 : K.lookup f4 = some ⟨oc4, od4, .func (PySem.W.fnOf "_law_take" "_law_take" (defArgs sTake) (defBody sTake) (defScope sTake) .none kV4 dc4 pm4 an4 cd4 ct4), sl4⟩) (c4 : PySem.W.codeIn K cd4 "_law_take" = true) (k4 : PySem.W.keepIn K (.ref f4) = true)
    (a5 : PySem.W.nsIn K mainGlobals "_law_cells" = some (some (.ref f5))) (l5 : K.lookup f5 = some ⟨oc5, od5, .func (PySem.W.fnOf "_law_cells" "_law_cells" (defArgs sCells) (defBody sCells) (defScope sCells) .none kV5 dc5 pm5 an5 cd5 ct5), sl5⟩) (c5 : PySem.W.codeIn K cd5 "_law_cells" = true) (k5 : PySem.W.keepIn K (.ref f5) = true)
    (a6 : PySem.W.nsIn K mainGlobals "_law_same" = some (some (.ref f6))) (l6 : K.lookup f6 = some ⟨oc6, od6, .func (PySem.W.fnOf "_law_same" "_law_same" (defArgs sSame) (defBody sSame) (defScope sSame) .none kV6 dc6 pm6 an6 cd6 ct6), sl6⟩) (c6 : PySem.W.codeIn K cd6 "_law_same" = true) (k6 : PySem.W.keepIn K (.ref f6) = true)
    (a7 : PySem.W.nsIn K mainGlobals "_law_few" = some (some (.ref f7))) (l7 : K.lookup f7 = some ⟨oc7, od7, .func (PySem.W.fnOf "_law_few" "_law_few" (defArgs sFew) (defBody sFew) (defScope sFew) .none kV7 dc7 pm7 an7 cd7 ct7), sl7⟩) (c7 : PySem.W.codeIn K cd7 "_law_few" = true) (k7 : PySem.W.keepIn K (.ref f7) = true)
    (a8 : PySem.W.nsIn K mainGlobals "_law_mixed" = some (some (.ref f8))) (l8 : K.lookup f8 = some ⟨oc8, od8, .func (PySem.W.fnOf "_law_mixed" "_law_mixed" (defArgs sMixed) (defBody sMixed) (defScope sMixed) .none kV8 dc8 pm8 an8 cd8 ct8), sl8⟩) (c8 : PySem.W.codeIn K cd8 "_law_mixed" = true) (k8 : PySem.W.keepIn K (.ref f8) = true)
    (a9 : PySem.W.nsIn K mainGlobals "_law_tome" = some (some (.ref f9))) (l9 : K.lookup f9 = some ⟨oc9, od9, .func (PySem.W.fnOf "_law_tome" "_law_tome" (defArgs sTome) (defBody sTome) (defScope sTome) .none kV9 dc9 pm9 an9 cd9 ct9), sl9⟩) (c9 : PySem.W.codeIn K cd9 "_law_tome" = true) (k9 : PySem.W.keepIn K (.ref f9) = true)
    (a10 : PySem.W.nsIn K mainGlobals "_law_lists" = some (some (.ref f10))) (l10 : K.lookup f10 = some ⟨oc10, od10, .func (PySem.W.fnOf "_law_lists" "_law_lists" (defArgs sLists) (defBody sLists) (defScope sLists) .none kV10 dc10 pm10 an10 cd10 ct10), sl10⟩) (c10 : PySem.W.codeIn K cd10 "_law_lists" = true) (k10 : PySem.W.keepIn K (.ref f10) = true)
    (a11 : PySem.W.nsIn K mainGlobals "_law_six" = some (some (.ref f11))) (l11 : K.lookup f11 = some ⟨oc11, od11, .func (PySem.W.fnOf "_law_six" "_law_six" (defArgs sSix) (defBody sSix) (defScope sSix) .none kV11 dc11 pm11 an11 cd11 ct11), sl11⟩) (c11 : PySem.W.codeIn K cd11 "_law_six" = true) (k11 : PySem.W.keepIn K (.ref f11) = true)
    (a12 : PySem.W.nsIn K mainGlobals "_law_blend" = some (some (.ref f12))) (l12 : K.lookup f12 = some ⟨oc12, od12, .func (PySem.W.fnOf "_law_blend" "_law_blend" (defArgs sBlend) (defBody sBlend) (defScope sBlend) .none kV12 dc12 pm12 an12 cd12 ct12), sl12⟩) (c12 : PySem.W.codeIn K cd12 "_law_blend" = true) (k12 : PySem.W.keepIn K (.ref f12) = true)
    (a13 : PySem.W.nsIn K mainGlobals "_law_by_hand_right" = some (some (.ref f13))) (l13 : K.lookup f13 = some ⟨oc13, od13, .func (PySem.W.fnOf "_law_by_hand_right" "_law_by_hand_right" (defArgs sByHand) (defBody sByHand) (defScope sByHand) .none kV13 dc13 pm13 an13 cd13 ct13), sl13⟩) (c13 : PySem.W.codeIn K cd13 "_law_by_hand_right" = true) (k13 : PySem.W.keepIn K (.ref f13) = true)
    (a14 : PySem.W.nsIn K mainGlobals "_law_right" = some (some (.ref f14))) (l14 : K.lookup f14 = some ⟨oc14, od14, .func (PySem.W.fnOf "_law_right" "_law_right" (defArgs sRight) (defBody sRight) (defScope sRight) .none kV14 dc14 pm14 an14 cd14 ct14), sl14⟩) (c14 : PySem.W.codeIn K cd14 "_law_right" = true) (k14 : PySem.W.keepIn K (.ref f14) = true)
    (a15 : PySem.W.nsIn K mainGlobals "law" = some (some (.ref f15))) (l15 : K.lookup f15 = some ⟨oc15, od15, .func (PySem.W.fnOf "law" "law" (defArgs sLaw) (defBody sLaw) (defScope sLaw) .none kV15 dc15 pm15 an15 cd15 ct15), sl15⟩) (c15 : PySem.W.codeIn K cd15 "law" = true) (k15 : PySem.W.keepIn K (.ref f15) = true)
    (z1 : PySem.W.nsIn K mainGlobals "isinstance" = some none) (z2 : PySem.W.nsIn K mainGlobals "list" = some none) (z3 : PySem.W.nsIn K mainGlobals "tuple" = some none) (z4 : PySem.W.nsIn K mainGlobals "int" = some none) (z5 : PySem.W.nsIn K mainGlobals "bool" = some none) (z6 : PySem.W.nsIn K mainGlobals "str" = some none) (z7 : PySem.W.nsIn K mainGlobals "len" = some none) (z8 : PySem.W.nsIn K mainGlobals "all" = some none) (z9 : PySem.W.nsIn K mainGlobals "zip" = some none) (z10 : PySem.W.nsIn K mainGlobals "range" = some none) (z11 : PySem.W.nsIn K mainGlobals "sorted" = some none) (z12 : PySem.W.nsIn K mainGlobals "set" = some none) (z13 : PySem.W.nsIn K mainGlobals "abs" = some none) (z14 : PySem.W.nsIn K mainGlobals "enumerate" = some none) :
    ∃ fd : FuncData, (∀ (s : Shared) (v : Value), BindsTo s fd ⟨[v], []⟩ [("_law_script", v)]) ∧ ∀ base : Heap, K.In base → base.Ns mainGlobals mg → FnOk l.prog w K mg base CX0 8 fa fd ["_law_script"] (spLaw K) := by
  have e := hfa.symm.trans (PySem.W.mg_of X G a15)
  cases e
  have F1 := fun_mk (st := sHouseholds) l1 c1 k1
  have m1 := PySem.W.mg_of X G a1
  have b1 := F1.binds (ps := ["sheet"]) fun _ _ _ _ _ _ us hl => match us, hl with | [_], _ => rfl
  have F2 := fun_mk (st := sHomes) l2 c2 k2
  have m2 := PySem.W.mg_of X G a2
  have b2 := F2.binds (ps := ["sheet"]) fun _ _ _ _ _ _ us hl => match us, hl with | [_], _ => rfl
  have F3 := fun_mk (st := sBox) l3 c3 k3
  have m3 := PySem.W.mg_of X G a3
  have b3 := F3.binds (ps := ["_law_script", "_law_k"]) fun _ _ _ _ _ _ us hl => match us, hl with | [_, _], _ => rfl
  have F4 := fun_mk (st := sTake) l4 c4 k4
  have m4 := PySem.W.mg_of X G a4
  have b4 := F4.binds (ps := ["_law_urn", "_law_low_so"]) fun _ _ _ _ _ _ us hl => match us, hl with | [_, _], _ => rfl
  have F5 := fun_mk (st := sCells) l5 c5 k5
  have m5 := PySem.W.mg_of X G a5
  have b5 := F5.binds (ps := ["_law_script", "_law_top"]) fun _ _ _ _ _ _ us hl => match us, hl with | [_, _], _ => rfl
  have F6 := fun_mk (st := sSame) l6 c6 k6
  have m6 := PySem.W.mg_of X G a6
  have b6 := F6.binds (ps := ["_law_got", "_law_goal"]) fun _ _ _ _ _ _ us hl => match us, hl with | [_, _], _ => rfl
  have F7 := fun_mk (st := sFew) l7 c7 k7
  have m7 := PySem.W.mg_of X G a7
  have b7 := F7.binds (ps := ["_law_urn", "_law_pool", "_law_one_of"]) fun _ _ _ _ _ _ us hl => match us, hl with | [_, _, _], _ => rfl
  have F8 := fun_mk (st := sMixed) l8 c8 k8
  have m8 := PySem.W.mg_of X G a8
  have b8 := F8.binds (ps := ["_law_urn", "_law_pool"]) fun _ _ _ _ _ _ us hl => match us, hl with | [_, _], _ => rfl
  have F9 := fun_mk (st := sTome) l9 c9 k9
  have m9 := PySem.W.mg_of X G a9
  have b9 := F9.binds (ps := ["_law_urn", "_law_most_so", "_law_free_so"]) fun _ _ _ _ _ _ us hl => match us, hl with | [_, _, _], _ => rfl
  have F10 := fun_mk (st := sLists) l10 c10 k10
  have m10 := PySem.W.mg_of X G a10
  have b10 := F10.binds (ps := ["_law_matter"]) fun _ _ _ _ _ _ us hl => match us, hl with | [_], _ => rfl
  have F11 := fun_mk (st := sSix) l11 c11 k11
  have m11 := PySem.W.mg_of X G a11
  have b11 := F11.binds (ps := []) fun _ _ _ _ _ _ us hl => match us, hl with | [], _ => rfl
  have F12 := fun_mk (st := sBlend) l12 c12 k12
  have m12 := PySem.W.mg_of X G a12
  have b12 := F12.binds (ps := ["_law_urn", "_law_matter"]) fun _ _ _ _ _ _ us hl => match us, hl with | [_, _], _ => rfl
  have F13 := fun_mk (st := sByHand) l13 c13 k13
  have m13 := PySem.W.mg_of X G a13
  have b13 := F13.binds (ps := []) fun _ _ _ _ _ _ us hl => match us, hl with | [], _ => rfl
  have F14 := fun_mk (st := sRight) l14 c14 k14
  have m14 := PySem.W.mg_of X G a14
  have b14 := F14.binds (ps := ["_law_urn"]) fun _ _ _ _ _ _ us hl => match us, hl with | [_], _ => rfl
  have F15 := fun_mk (st := sLaw) l15 c15 k15
  have m15 := PySem.W.mg_of X G a15
  have n1 := PySem.W.mg_none_of X G z1
  have n2 := PySem.W.mg_none_of X G z2
  have n3 := PySem.W.mg_none_of X G z3
  have n4 := PySem.W.mg_none_of X G z4
  have n5 := PySem.W.mg_none_of X G z5
  have n6 := PySem.W.mg_none_of X G z6
  have n7 := PySem.W.mg_none_of X G z7
  have n8 := PySem.W.mg_none_of X G z8
  have n9 := PySem.W.mg_none_of X G z9
  have n10 := PySem.W.mg_none_of X G z10
  have n11 := PySem.W.mg_none_of X G z11
  have n12 := PySem.W.mg_none_of X G z12
  have n13 := PySem.W.mg_none_of X G z13
  have n14 := PySem.W.mg_none_of X G z14
  have Ts : TySm mg := ⟨n1, n2, n3, n4, n5, n6, n7, n8, n9⟩
  refine ⟨PySem.W.fnOf "law" "law" (defArgs sLaw) (defBody sLaw) (defScope sLaw) .none kV15 dc15 pm15 an15 cd15 ct15, fun s v => .of_eq rfl, fun base _ _ => ?_⟩
  have GH : FnOk l.prog w K mg base CX0 1 f1 _ ["sheet"] (spHouseholds K) := ok_households F1 n3
  have GO : FnOk l.prog w K mg base CX0 2 f2 _ ["sheet"] (spHomes K) := ok_homes F2 GH b1 k1 m1 n3 n11
  have GB : FnOk l.prog w K mg base CX0 1 f3 _ _ (spBox K) := ok_box F3 n4 n7 n13
  have GT : FnOk l.prog w K mg base CX0 1 f4 _ _ spTake := ok_take F4 n4
  have GC : FnOk l.prog w K mg base CX0 1 f5 _ _ (spCells K) := ok_cells F5 n4 n2 n14
  have S1 := ok_same (P := l.prog) (w := w) (base := base) (n := 0) F6 (no_callK fun _ _ _ _ ⟨_, _, _, _, _, _, z, _⟩ => z) b6 m6 Ts
  have S2 := ok_same F6 S1 b6 m6 Ts
  have S3 := ok_same F6 S2 b6 m6 Ts
  have S4 := ok_same F6 S3 b6 m6 Ts
  have GF : FnOk l.prog w K mg base CX0 2 f7 _ _ (spFew K) := ok_few F7 GT b4 k4 m4 n3
  have GM : FnOk l.prog w K mg base CX0 2 f8 _ _ (spMixed K) := ok_mixed F8 GT b4 k4 m4 n3 n2 n10 n7
  have GM3 : FnOk l.prog w K mg base CX0 3 f9 _ _ (spTome K) := ok_tome F9 GT b4 k4 m4 GF b7 k7 m7 GM b8 k8 m8 ⟨n2, n3, n4, n10, n11, n12⟩
  have L1 := ok_lists (P := l.prog) (w := w) (base := base) (n := 0) F10 (no_callK fun _ _ _ _ ⟨_, _, _, _, _, _, z, _⟩ => z) b10 m10 Ts
  have L2 := ok_lists F10 L1 b10 m10 Ts
  have L3 := ok_lists F10 L2 b10 m10 Ts
  have L4 := ok_lists F10 L3 b10 m10 Ts
  have L5 := ok_lists F10 L4 b10 m10 Ts
  have B1 := ok_blend (P := l.prog) (w := w) (base := base) (n := 0) F12 (no_callK fun _ _ _ _ ⟨_, _, _, _, _, _, _, _, _, _, _, z, _⟩ => z) b12 m12 GT b4 k4 m4 Ts
  have B2 := ok_blend F12 B1 b12 m12 GT b4 k4 m4 Ts
  have B3 := ok_blend F12 B2 b12 m12 GT b4 k4 m4 Ts
  have B4 := ok_blend F12 B3 b12 m12 GT b4 k4 m4 Ts
  have B5 := ok_blend F12 B4 b12 m12 GT b4 k4 m4 Ts
  have G6 : FnOk l.prog w K mg base CX0 1 f11 _ [] (spSix K) := ok_six F11
  have CH : CalK l.prog w K mg base "households" 1 ["sheet"] (spHouseholds K) := ⟨_, _, GH, b1, kbind1 fun _ => rfl, k1, m1⟩
  have CO : CalK l.prog w K mg base "homes" 2 ["sheet"] (spHomes K) := ⟨_, _, GO, b2, kbind1 fun _ => rfl, k2, m2⟩
  have CS : Cal l.prog w K mg base "_law_same" 4 ["_law_got", "_law_goal"] (spSame K 4) := ⟨_, _, S4, b6, k6, m6⟩
  have GY := ok_hand F13 CH CO CS ⟨_, _, G6, b11, k11, m11⟩
  have GR := ok_right F14 CH CO CS ⟨_, _, GM3, b9, k9, m9⟩ ⟨_, _, L5, b10, k10, m10⟩ ⟨_, _, B5, b12, k12, m12⟩ ⟨_, _, GY, b13, k13, m13⟩ ⟨n3, n10, n11⟩
  exact ok_law F15 ⟨_, _, GC, b5, k5, m5⟩ ⟨_, _, GB, b3, k3, m3⟩ ⟨_, _, GR, b14, k14, m14⟩ ⟨n10, n7, n8⟩
theorem walk {l : PySem.W.OpenLaw} {q : Program} {loose : List Str} {XP : (Str → Option Value) → Heap → Prop} {YP : World → Heap → Prop} {d : DefRec} {K : Params → PySem.W.Frag} (hn : l.most = some 63) (hdf : d.params.defaults = [])
    (hY : ∀ (w : World) (h : Heap), YP w h → (K w.params).In h)
    (F : ∀ (w : World) (mg : Str → Option Value) (fa : Addr) (h : Heap), (K w.params).In h → h.Ns mainGlobals mg → mg d.name = some (.ref fa) →
      ∃ fd : FuncData, (∀ (s : Shared) (u : Value), BindsTo s fd ⟨[u], []⟩ [("_law_script", u)]) ∧ ∀ base : Heap, (K w.params).In base → base.Ns mainGlobals mg → FnOk l.prog w (K w.params) mg base CX0 8 fa fd ["_law_script"] (spLaw (K w.params))) :
    PySem.W.WalkO q loose XP YP l.row.toRowW d [] (fun f vs => PySem.call f vs) :=
  L2.walk_of (n := 63) (k := 8) (x := "_law_script") (CX := fun _ => CX0) (sp := fun w => spLaw (K w.params)) hn (by decide) hdf ⟨rfl, by decide, by decide⟩ hY F (fun _ _ a ns hl _ hS => ⟨a, ns, rfl, hS, hl, fun _ => rfl⟩) fun _ _ _ _ _ z => z
end Cx

open PySem PySem.W PyProof.Rows in
set_option maxRecDepth 100000 in
set_option maxHeartbeats 0 in
theorem PySem.Challenge.cw_crosshomes_k01_households_and_homes_holds : PySem.Challenge.rw_crosshomes_k01_households_and_homes.Holds := by
  w_on; o_law; k_head; (case hw => w_witness2)
  k_fill
  refine Cx.walk (l := PySem.Challenge.rw_crosshomes_k01_households_and_homes) rfl rfl (fun w h Y => PySem.W.kIn_of Y) ?F
  case F =>
    intro w mg fa h KX G hmg
    refine' Cx.all_mk KX G hmg ?a1 ?l1 ?c1 ?k1 ?a2 ?l2 ?c2 ?k2 ?a3 ?l3 ?c3 ?k3 ?a4 ?l4 ?c4 ?k4 ?a5 ?l5 ?c5 ?k5 ?a6 ?l6 ?c6 ?k6 ?a7 ?l7 ?c7 ?k7 ?a8 ?l8 ?c8 ?k8 ?a9 ?l9 ?c9 ?k9 ?a10 ?l10 ?c10 ?k10 ?a11 ?l11 ?c11 ?k11 ?a12 ?l12 ?c12 ?k12 ?a13 ?l13 ?c13 ?k13 ?a14 ?l14 ?c14 ?k14 ?a15 ?l15 ?c15 ?k15 ?z1 ?z2 ?z3 ?z4 ?z5 ?z6 ?z7 ?z8 ?z9 ?z10 ?z11 ?z12 ?z13 ?z14
    (case a1 => k_is)
    (case l1 => k_is)
    (case c1 => k_is)
    (case k1 => k_is)
    (case a2 => k_is)
    (case l2 => k_is)
    (case c2 => k_is)
    (case k2 => k_is)
    (case a3 => k_is)
    (case l3 => k_is)
    (case c3 => k_is)
    (case k3 => k_is)
    (case a4 => k_is)
    (case l4 => k_is)
    (case c4 => k_is)
    (case k4 => k_is)
    (case a5 => k_is)
    (case l5 => k_is)
    (case c5 => k_is)
    (case k5 => k_is)
    (case a6 => k_is)
    (case l6 => k_is)
    (case c6 => k_is)
    (case k6 => k_is)
    (case a7 => k_is)
    (case l7 => k_is)
    (case c7 => k_is)
    (case k7 => k_is)
    (case a8 => k_is)
    (case l8 => k_is)
    (case c8 => k_is)
    (case k8 => k_is)
    (case a9 => k_is)
    (case l9 => k_is)
    (case c9 => k_is)
    (case k9 => k_is)
    (case a10 => k_is)
    (case l10 => k_is)
    (case c10 => k_is)
    (case k10 => k_is)
    (case a11 => k_is)
    (case l11 => k_is)
    (case c11 => k_is)
    (case k11 => k_is)
    (case a12 => k_is)
    (case l12 => k_is)
    (case c12 => k_is)
    (case k12 => k_is)
    (case a13 => k_is)
    (case l13 => k_is)
    (case c13 => k_is)
    (case k13 => k_is)
    (case a14 => k_is)
    (case l14 => k_is)
    (case c14 => k_is)
    (case k14 => k_is)
    (case a15 => k_is)
    (case l15 => k_is)
    (case c15 => k_is)
    (case k15 => k_is)
    (case z1 => k_is)
    (case z2 => k_is)
    (case z3 => k_is)
    (case z4 => k_is)
    (case z5 => k_is)
    (case z6 => k_is)
    (case z7 => k_is)
    (case z8 => k_is)
    (case z9 => k_is)
    (case z10 => k_is)
    (case z11 => k_is)
    (case z12 => k_is)
    (case z13 => k_is)
    (case z14 => k_is)
