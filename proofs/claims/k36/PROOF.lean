import PyProof.Rows.All
import Wide.All
import OpenK.AllK
import Wide.FinOn
import HandS.TupSets
import KE.KeyNested
import KE.SortData
import HandS.ForMost
import HandS.Star
import PyProof.ReprRoads
import HandS.Dict
import HandS.Style
import HandS.Evl
import HandS.IsInst
import HandS.StrMore
import HandS.Strs
import HandS.TupAny
import HandS.Lambda
import HandS.Nested
import HandS.SortKw
import KE.SortKeyHeap
import KE.DataFind
import KE.DataMinMax
import HandS.Defaults
import KE.KDictZip
import KE.KDictKeyed
import KE.GoesZip
import KE.GoesMore
import KE.GoesEnum
import HandS.More
import PyProof.EqKinds
import PyProof.FactsAll.dict_1
import PyProof.ListNew
import PyProof.CollectWalk
import HandS.ExcInit
import HandS.ExcSuper
import HandS.ExcIs
import HandS.ExcField
import KE.KExcInit
import HandS.Zip
import HandS.Comp
import HandS.ExcValue
import HandS.ForExc
import HandS.SlotsOwn
import HandS.OwnEq
import HandS.Deep
import HandS.ClsMeth
import PyProof.StrLawsRepr
import PyProof.NeKinds
import HandS.DictComp
import HandS.Codes
import KE.DataEq
import HandS.DictTup
import KE.KDictCopyH
import KE.KDictSum
import HandS.Ends
import PySem.Challenge.RW_clashnumber_k36_closings_returned
set_option Elab.async false
set_option linter.all false
set_option maxRecDepth 100000
set_option maxHeartbeats 16000000
/-! Sets of texts, sets of tuples of texts and numbers: what they hold, the small questions asked of a key, adding a text. -/
namespace KS
open PySem PySem.Spec PyProof.Rows L2

/-- a member: its value, its key -/
abbrev Mem := Value × NestedKey
/-- of a set of texts (false), of a set of tuples (true) -/
def Fit : Bool → Mem → Prop
  | false, m => ∃ x t, m = (Value.str x t, NestedKey.text x)
  | true, m => ∃ c ks, m.1 = Value.ref c ∧ m.2 = NestedKey.tup ks ∧ m.2.depth ≤ 8
def ents (w : World) (L : List Mem) : List (Int × Value) := L.map fun m => (m.2.hash w, m.1)
abbrev hs (w : World) (L : List Mem) : List Int := L.map fun m => m.2.hash w
/-- the set at a: its members in the table's order -/
structure SetK (b : Bool) (w : World) (h : Heap) (a : Addr) (L : List Mem) (es : Array (Int × Value)) (ep : Nat) (t : SetTable) : Prop where
  ob : ∃ o, h.get? a = some o ∧ o.ExactSet ∧ o.data = .set es ep t
  eq : es.toList = ents w L
  nd : (L.map (·.2)).Nodup
  fit : ∀ m ∈ L, Fit b m
  key : ∀ m ∈ L, NestedIs h m.2 m.1
  ris : Ris t.place.toList
  full : t.fits es.size = true
  led : w.params.followText "set-order" = true ∨ t.led = true
  few : L.length < 64
  tab : b = true → TabOk t (hs w L) ∧ L.length * 5 < t.mask * 3
section
variable {P : Program} {w : World} {A : Around} {E : Value → Shared → Prop} {s : Shared} {b : Bool} {a : Addr} {L : List Mem} {es : Array (Int × Value)} {ep : Nat} {t : SetTable}
theorem SetK.size (R : SetK b w s.heap a L es ep t) : es.size = L.length := by
  rw [← Array.length_toList, R.eq, ents, List.length_map]
theorem ents_perm {w : World} {L L' : List Mem} (h : L.Perm L') : (ents w L).Perm (ents w L') := h.map _
theorem ents_get {w : World} {L : List Mem} {es : Array (Int × Value)} (h : es.toList = ents w L) {i : Nat} {m : Mem} (e : L[i]? = some m) : es[i]? = some (m.2.hash w, m.1) := by
  rw [← Array.getElem?_toList, h, ents, List.getElem?_map, e]
  rfl

/-! the small questions -/
theorem all_mem {h : Heap} : ∀ {ks : List NestedKey} {vs : List Value}, NestedAll h ks vs → ∀ v ∈ vs, ∃ k, NestedIs h k v ∧ k.depth ≤ NestedKey.depthAll ks
  | [], _, x, v, hv => by
    cases x
    cases hv
  | k :: ks, _, x, v, hv => by
    cases x with
    | cons x1 x2 =>
      rcases List.mem_cons.mp hv with e | hv
      · rw [e]
        exact ⟨k, x1, Nat.le_max_left _ _⟩
      · obtain ⟨k', y1, y2⟩ := all_mem x2 v hv
        exact ⟨k', y1, Nat.le_trans y2 (Nat.le_max_right _ _)⟩
theorem cls_key : ∀ (n : Nat) (k : NestedKey) (v : Value) (A : Around) (s : Shared) (Q : Bool → Shared → Prop), NestedIs s.heap k v → k.depth ≤ n → Q false s → wpAny (model P w) A (ofAClassStatement n v) Q E s
  | n, .none, _, A, s, Q, x, _, q => by
    cases x
    cases n <;> exact wpAny_pure q
  | n, .num i, _, A, s, Q, x, _, q => by
    cases x <;> cases n <;> exact wpAny_pure q
  | n, .text y, _, A, s, Q, x, _, q => by
    cases x
    cases n <;> exact wpAny_pure q
  | 0, .tup ks, _, A, s, Q, x, hd, q => by
    simp only [NestedKey.depth] at hd
    omega
  | n + 1, .tup ks, _, A, s, Q, x, hd, q => by
    cases x with
    | @tup c o vs m _ h1 h2 h3 h4 =>
      simp only [NestedKey.depth] at hd
      have ty : s.TypeIs (.ref c) "tuple" := ⟨o, h1, h2⟩
      unfold ofAClassStatement
      refine wpAny_bind (wpAny_typeOf ty ?_)
      dsimp only
      have e : (("tuple" : String) == "tuple") = true := by decide
      simp only [e, if_true, Bool.not_true, Bool.false_eq_true, if_false]
      try refine wpAny_bind (wpAny_pure ?_)
      try simp only [Bool.not_true, Bool.false_eq_true, if_false]
      show wpAny _ _ (seqItems? (.ref c) >>= _) _ _ s
      refine wpAny_bind (wpAny_seqItems h1 h3 ?_)
      dsimp only
      refine wpAny_bind ?_
      show wpAny _ _ (forIn vs _ _) _ _ s
      rw [← Array.forIn_toList]
      refine wpAny_forIn_list _ (fun rest r s' => r.1 = none ∧ s' = s ∧ ∀ u ∈ rest, u ∈ vs.toList) _ ?_ ?_ _ _ ⟨rfl, rfl, fun _ hu => hu⟩
      · rintro u rest r s' ⟨hr, rfl, hall⟩
        obtain ⟨k', y1, y2⟩ := all_mem h4 u (hall u List.mem_cons_self)
        refine wpAny_bind (cls_key n k' u A s' _ y1 (by omega) ?_)
        simp only [Bool.false_eq_true, if_false]
        exact wpAny_pure ⟨rfl, rfl, fun z hz => hall z (List.mem_cons_of_mem _ hz)⟩
      · rintro ⟨r1, r2⟩ s' ⟨hr, rfl, _⟩
        simp only at hr
        subst hr
        exact wpAny_pure q
theorem byVal_key : ∀ (n : Nat) (k : NestedKey) (v : Value) (A : Around) (s : Shared) (Q : Bool → Shared → Prop), NestedIs s.heap k v → (∀ c, Q c s) → wpAny (model P w) A (hashByValue n v) Q E s
  | n, .none, _, A, s, Q, x, q => by
    cases x
    cases n <;> exact wpAny_pure (q _)
  | n, .num i, _, A, s, Q, x, q => by
    cases x <;> cases n <;> exact wpAny_pure (q _)
  | n, .text y, _, A, s, Q, x, q => by
    cases x
    cases n <;> exact wpAny_pure (q _)
  | 0, .tup ks, _, A, s, Q, x, q => by
    cases x
    exact wpAny_pure (q _)
  | n + 1, .tup ks, _, A, s, Q, x, q => by
    cases x with
    | @tup c o vs m _ h1 h2 h3 h4 =>
      have ty : s.TypeIs (.ref c) "tuple" := ⟨o, h1, h2⟩
      unfold hashByValue
      refine wpAny_bind (wpAny_specialOf ty F.slot_tuple_hash.lookup ?_)
      show wpAny _ _ (seqItems? (.ref c) >>= _) _ _ s
      refine wpAny_bind (wpAny_seqItems h1 h3 ?_)
      refine wpAny_bind ?_
      show wpAny _ _ (forIn vs _ _) _ _ s
      rw [← Array.forIn_toList]
      refine wpAny_forIn_list _ (fun rest r s' => r.1 = none ∧ s' = s ∧ ∀ u ∈ rest, u ∈ vs.toList) _ ?_ ?_ _ _ ⟨rfl, rfl, fun _ hu => hu⟩
      · rintro u rest r s' ⟨hr, rfl, hall⟩
        obtain ⟨k', y1, y2⟩ := all_mem h4 u (hall u List.mem_cons_self)
        refine wpAny_bind (byVal_key n k' u A s' _ y1 fun c => ?_)
        cases c
        · simp only [Bool.not_false, if_true]
          exact wpAny_pure (wpAny_pure (q _))
        · simp only [Bool.not_true, Bool.false_eq_true, if_false]
          exact wpAny_pure ⟨rfl, rfl, fun z hz => hall z (List.mem_cons_of_mem _ hz)⟩
      · rintro ⟨r1, r2⟩ s' ⟨hr, rfl, _⟩
        simp only at hr
        subst hr
        exact wpAny_pure (q _)
theorem wp_two {α : Type} {M : Model} {c : Prop} [Decidable c] {x y : Sem α} {Q : α → Shared → Prop} (h1 : c → wpAny M A x Q E s) (h2 : ¬ c → wpAny M A y Q E s) : wpAny M A (if c then x else y) Q E s := by
  split
  · exact h1 (by assumption)
  · exact h2 (by assumption)
/-- a search among tuples shows nothing -/
theorem seen_key {k : NestedKey} {c : Addr} {Q : Bool → Shared → Prop} (hk : NestedIs s.heap k (.ref c)) (hd : k.depth ≤ 8) {ys : List Value} (hy : ∀ y ∈ ys, ∃ k', NestedIs s.heap k' y ∧ k'.depth ≤ 8) (q : Q false s) :
    wpAny (model P w) A (searchCouldBeSeen (.ref c) ys) Q E s := by
  unfold searchCouldBeSeen
  refine wpAny_bind ?_
  refine wpAny_forIn_list _ (fun (rest : List Value) r s' => r.1 = none ∧ s' = s ∧ ∀ y ∈ rest, y ∈ ys) _ ?_ ?_ _ _ ⟨rfl, rfl, fun _ h => h⟩
  · intro y rest r s' hI
    obtain ⟨hr, rfl, hall⟩ := hI
    obtain ⟨k', y1, y2⟩ := hy y (hall y List.mem_cons_self)
    have keep : ∀ z ∈ rest, z ∈ ys := fun z hz => hall z (List.mem_cons_of_mem _ hz)
    dsimp only
    refine wp_two (fun _ => ?_) fun _ => ?_
    · exact wpAny_pure ⟨rfl, rfl, keep⟩
    · refine wpAny_bind (quiet_key k _ 8 s' hk hd A E _ ?_)
      simp only [Bool.not_true, Bool.false_eq_true, if_false]
      refine wpAny_bind (quiet_key k' _ 8 s' y1 y2 A E _ ?_)
      simp only [Bool.not_true, Bool.false_eq_true, if_false]
      refine wpAny_bind (cls_key 8 k _ A s' _ hk hd ?_)
      simp only [Bool.false_eq_true, if_false]
      refine wpAny_bind (cls_key 8 k' _ A s' _ y1 y2 ?_)
      simp only [Bool.false_eq_true, if_false]
      exact wpAny_pure ⟨rfl, rfl, keep⟩
  · rintro ⟨r1, r2⟩ s' ⟨hr, rfl, _⟩
    simp only at hr
    subst hr
    exact wpAny_pure q
/-- what the set's own writing leaves -/
theorem key_but {h h' : Heap} {o : Obj} (ho : h.get? a = some o) (hd : o.data = .set es ep t) (sb : Heap.SameBut a h h') {k : NestedKey} {v : Value} (x : NestedIs h k v) : NestedIs h' k v :=
  NestedIs.at (fun c o2 vs n e1 e2 => (sb.2 c fun z => by
    rw [z, ho] at e1
    rw [← Option.some.inj e1, hd] at e2
    cases e2).trans e1) k v x
theorem SetK.keep {h h' : Heap} (R : SetK b w h a L es ep t) (ha : ∀ o, h.get? a = some o → h'.get? a = some o) (hk : ∀ m ∈ L, NestedIs h' m.2 m.1) : SetK b w h' a L es ep t := by
  obtain ⟨o, ho, r⟩ := R.ob
  exact { R with ob := ⟨o, ha o ho, r⟩, key := hk }
theorem setK_new {h : Heap} (b : Bool) (ho : h.get? a = some { cls := .type "set", dict := none, data := .set #[] 0 (.fresh 0 0 (!w.params.followText "set-order")) }) : SetK b w h a [] #[] 0 (.fresh 0 0 (!w.params.followText "set-order")) where
  ob := ⟨_, ho, ⟨rfl, rfl, rfl⟩, rfl⟩
  eq := rfl
  nd := List.nodup_nil
  fit := fun _ z => nomatch z
  key := fun _ z => nomatch z
  ris := List.Pairwise.nil
  full := rfl
  led := by
    show _ ∨ (!w.params.followText "set-order") = true
    cases w.params.followText "set-order"
    · exact .inr rfl
    · exact .inl rfl
  few := by decide
  tab := fun _ => ⟨⟨List.Pairwise.nil, rfl, rfl, .inl rfl, fun _ z => (by cases z), fun i h j z => (by simp at z)⟩, by show 0 * 5 < 7 * 3; decide⟩

/-! adding a text -/
theorem text_elems (h : ∀ m ∈ L, Fit false m) : ElemsOf (PySem.strKind P w) (ents w L) := fun e he => by
  obtain ⟨m, hm, rfl⟩ := List.mem_map.mp he
  obtain ⟨x, tk, rfl⟩ := h m hm
  exact ⟨⟨x, strKind_is _ _ _ _, rfl⟩, rfl⟩
theorem text_is (h : ∀ m ∈ L, Fit false m) {y : Str} : (∃ e ∈ ents w L, (PySem.strKind P w).is y e.2 = true) ↔ NestedKey.text y ∈ L.map (·.2) := by
  constructor
  · rintro ⟨e, he, q⟩
    obtain ⟨m, hm, rfl⟩ := List.mem_map.mp he
    obtain ⟨x, tk, rfl⟩ := h m hm
    have e2 : x = y := beq_iff_eq.mp (show (x == y) = true from q)
    exact List.mem_map.mpr ⟨_, hm, by rw [e2]⟩
  · intro hm
    obtain ⟨m, hm, e⟩ := List.mem_map.mp hm
    obtain ⟨x, tk, rfl⟩ := h m hm
    have e2 : x = y := NestedKey.text.inj e
    exact ⟨_, List.mem_map.mpr ⟨_, hm, rfl⟩, by
      show (x == y) = true
      rw [e2]
      exact beq_self_eq_true y⟩
/-- what adding leaves -/
def Added (b : Bool) (w : World) (s : Shared) (a : Addr) (L : List Mem) (m : Mem) (Q : Bool → Shared → Prop) : Prop := ∀ c h' L' es' ep' t', Heap.SameBut a s.heap h' → SetK b w h' a L' es' ep' t' →
  (m.2 ∈ L.map (·.2) → L' = L) → (m.2 ∉ L.map (·.2) → L'.Perm (m :: L)) → Q c { s with heap := h' }
theorem perm_back {α β : Type} (f : α → β) : ∀ (l : List β) (M : List α), l.Perm (M.map f) → ∃ M' : List α, l = M'.map f ∧ M'.Perm M
  | [], M, h => by
    have e : M.map f = [] := List.nil_perm.mp h
    have e2 : M = [] := List.map_eq_nil_iff.mp e
    exact ⟨[], rfl, by rw [e2]⟩
  | y :: r, M, h => by
    obtain ⟨x, hx, e⟩ := List.mem_map.mp (h.mem_iff.mp List.mem_cons_self)
    obtain ⟨A, B, rfl⟩ := List.append_of_mem hx
    subst e
    have pm : (A ++ x :: B).Perm (x :: (A ++ B)) := List.perm_middle
    have h2 := h.trans (pm.map f)
    rw [List.map_cons] at h2
    obtain ⟨M', e1, p⟩ := perm_back f r (A ++ B) (List.Perm.cons_inv h2)
    exact ⟨x :: M', by rw [List.map_cons, e1], (p.cons x).trans pm.symm⟩
theorem ents_of_perm {w : World} {l : List (Int × Value)} {M : List Mem} (h : l.Perm (ents w M)) : ∃ L', l = ents w L' ∧ L'.Perm M := perm_back _ l M h
theorem SetK.perm {h' : Heap} {L' : List Mem} {m : Mem} (R : SetK b w s.heap a L es ep t) (hm : m.2 ∉ L.map (·.2)) (pm : L'.Perm (m :: L)) : (L'.map (·.2)).Nodup ∧ L'.length = L.length + 1 :=
  ⟨(pm.map (·.2)).nodup_iff.mpr (by
    rw [List.map_cons]
    exact List.nodup_cons.mpr ⟨hm, R.nd⟩), by rw [pm.length_eq, List.length_cons]⟩
/-- behind a new text's storing: the table laid anew, if it is too full -/
theorem text_tail {g : Bool → Sem Unit} (hg : ∀ (c : Bool) (s1 : Shared) (Q' : Unit → Shared → Prop), Q' () s1 → wpAny (model P w) A (g c) Q' E s1)
    {o : Obj} (ho : s.heap.get? a = some o) (hex : o.ExactSet) (hd : o.data = .set es ep t) {L1 : List Mem} {es1 : Array (Int × Value)} {t1 : SetTable}
    (e1 : es1.toList = ents w L1) (nd : (L1.map (·.2)).Nodup) (fit : ∀ m ∈ L1, Fit false m) (key : ∀ m ∈ L1, NestedIs s.heap m.2 m.1) (few : L1.length < 64)
    (full : t1.fits es1.size = true) (ris : Ris t1.place.toList) (led : w.params.followText "set-order" = true ∨ t1.led = true) {d : Bool} {R : Option Bool → Shared → Prop}
    (q : ∀ h' L' es' ep' t', Heap.SameBut a s.heap h' → SetK false w h' a L' es' ep' t' → L'.Perm L1 → R (some true) { s with heap := h' }) :
    wpAny (model P w) A (do
        storeSet a es1 t1
        if (!d && t1.tooFull) = true then do
            g (relayAll t1 es1 (SetTable.grown es1.size)).2.2
            storeSet a (relayAll t1 es1 (SetTable.grown es1.size)).1 (relayAll t1 es1 (SetTable.grown es1.size)).2.1
            pure (some true)
          else pure (some true)) R E s := by
  have z1 : es1.size = L1.length := by rw [← Array.length_toList, e1, ents, List.length_map]
  refine wpAny_bind (wpAny_storeSet_of ho hd ?_ (by rw [z1, sizeLine_eq]; omega))
  have ho1 := L2.store_at (es' := es1) (t' := t1) ho hd
  have sb1 := Heap.SameBut.update s.heap a (Obj.putSet es1 t1)
  have key1 : ∀ m ∈ L1, NestedIs (s.heap.update a (Obj.putSet es1 t1)) m.2 m.1 := fun m hm => key_but ho hd sb1 (key m hm)
  split
  · have pm := relayAll_perm t1 es1 (SetTable.grown es1.size)
    have f2 := relayAll_fits t1 es1 (SetTable.grown es1.size)
    have r2 := relayAll_ris t1 es1 (SetTable.grown es1.size)
    have l2 := relayAll_led t1 es1 (SetTable.grown es1.size)
    generalize relayAll t1 es1 (SetTable.grown es1.size) = Z at pm f2 r2 l2 ⊢
    obtain ⟨es2, t2, gave⟩ := Z
    dsimp only at pm f2 r2 l2 ⊢
    rw [e1] at pm
    obtain ⟨L2', e2, p2⟩ := ents_of_perm pm
    have z2 : es2.size = L2'.length := by rw [← Array.length_toList, e2, ents, List.length_map]
    refine wpAny_bind (hg _ _ _ (wpAny_bind (wpAny_storeSet_of ho1 rfl ?_ (by rw [z2, p2.length_eq, sizeLine_eq]; omega))))
    have ho2 := L2.store_at (es' := es2) (t' := t2) ho1 rfl
    have sb2 := Heap.SameBut.update (s.heap.update a (Obj.putSet es1 t1)) a (Obj.putSet es2 t2)
    exact wpAny_pure (q _ L2' es2 _ t2 (sb1.trans sb2) ⟨⟨_, ho2, hex, rfl⟩, e2, (p2.map (·.2)).nodup_iff.mpr nd, fun m hm => fit m (p2.mem_iff.mp hm), fun m hm => key_but ho1 rfl sb2 (key1 m (p2.mem_iff.mp hm)),
      r2, f2, led.imp id fun z => by rw [l2]; exact z, by rw [p2.length_eq]; exact few, fun z => by cases z⟩ p2)
  · exact wpAny_pure (q _ L1 es1 _ t1 sb1 ⟨⟨_, ho1, hex, rfl⟩, e1, nd, fit, key1, ris, full, led, few, fun z => by cases z⟩ (List.Perm.refl _))
theorem add_text {x : Str} {tk : Tok} {Q : Bool → Shared → Prop} (R : SetK false w s.heap a L es ep t) (room : L.length + 1 < 64) (q : Added false w s a L (.str x tk, .text x) Q) :
    wpAny (model P w) A (setAddHashed a (.str x tk) (hashStr w x)) Q E s := by
  obtain ⟨o, ho, hex, hd⟩ := R.ob
  have hf := R.full
  have hel : ElemsOf (PySem.strKind P w) es.toList := by rw [R.eq]; exact text_elems R.fit
  have sc : (Value.str x tk).scannable = true := rfl
  have ki : (PySem.strKind P w).is x (.str x tk) = true := strKind_is _ _ _ _
  have zs : es.size < scanBound := by
    rw [R.size]
    show L.length < 4096
    omega
  unfold setAddHashed setAddHashedIn
  refine wpAny_holding (wpAny_bind (wpAny_setState_of ho hd hf ?_))
  dsimp only
  rw [byScan_of sc zs hel]
  simp only [↓reduceIte]
  unfold setAddByScan
  refine wpAny_bind (wpAny_bind (wpAny_rule (wpAny_bind ?_)))
  show wpAny _ _ (setScan a (.str x tk) ((PySem.strKind P w).hash x) true es) _ _ s
  refine wpAny_setScan_of ki ho hd hf hel ?_
  cases hfi : List.findIdx? (fun e => (PySem.strKind P w).is x e.2) es.toList with
  | some j =>
    dsimp only
    obtain ⟨hj, pj, _⟩ := List.findIdx?_eq_some_iff_getElem.mp hfi
    have hm : NestedKey.text x ∈ L.map (·.2) := (text_is (P := P) R.fit).1 ⟨_, by rw [← R.eq]; exact List.getElem_mem hj, pj⟩
    exact wpAny_pure (wpAny_pure (q _ s.heap L es ep t (Heap.SameBut.refl a s.heap) R (fun _ => rfl) fun z => absurd hm z))
  | none =>
    dsimp only
    have hm : NestedKey.text x ∉ L.map (·.2) := fun z => by
      obtain ⟨e, he, c1⟩ := (text_is (P := P) R.fit).2 z
      rw [← R.eq] at he
      have c2 := List.findIdx?_eq_none_iff.mp hfi e he
      rw [c1] at c2
      cases c2
    have pm := layNew_perm t es (hashStr w x) (.str x tk)
    have f1 := layNew_fits t es (hashStr w x) (.str x tk)
    have r1 := layNew_ris t es (hashStr w x) (.str x tk) R.ris
    have l1 := layNew_led t es (hashStr w x) (.str x tk)
    generalize layNew t es (hashStr w x) (.str x tk) = Z at pm f1 r1 l1 ⊢
    obtain ⟨es1, t1, was, gave⟩ := Z
    dsimp only at pm f1 r1 l1 ⊢
    have pc : es1.toList.Perm (ents w ((Value.str x tk, NestedKey.text x) :: L)) := by
      rw [Array.toList_push, R.eq] at pm
      exact pm.trans (List.perm_append_singleton _ _)
    obtain ⟨L1, e1, p1⟩ := ents_of_perm pc
    obtain ⟨nd1, n1⟩ := R.perm (h' := s.heap) hm p1
    have fit1 : ∀ m ∈ L1, Fit false m := fun m hm => by
      rcases List.mem_cons.mp (p1.mem_iff.mp hm) with z | z
      · rw [z]
        exact ⟨x, tk, rfl⟩
      · exact R.fit m z
    have key1 : ∀ m ∈ L1, NestedIs s.heap m.2 m.1 := fun m hm => by
      rcases List.mem_cons.mp (p1.mem_iff.mp hm) with z | z
      · rw [z]
        exact .text _ _
      · exact R.key m z
    have led1 : w.params.followText "set-order" = true ∨ t1.led = true := R.led.imp id fun z => by rw [l1]; exact z
    have fin : ∀ h' L' es' ep' t', Heap.SameBut a s.heap h' → SetK false w h' a L' es' ep' t' → L'.Perm L1 → Q true { s with heap := h' } := fun h' L' es' ep' t' sb r p => q true h' L' es' ep' t' sb r (fun z => absurd z hm) fun _ => p.trans p1
    have gw : ∀ (c : Bool) {s1 : Shared} {Q' : Unit → Shared → Prop}, Q' () s1 → wpAny (model P w) A (match c with | true => rule "set.scan.the-table-gave-way" | false => pure ()) Q' E s1 :=
      fun c s1 Q' h => by cases c <;> first | exact wpAny_pure h | exact wpAny_rule h
    refine wpAny_bind (gw _ ?_)
    split
    · refine wpAny_bind ?_
      rw [hashByValue_scannable 8 sc]
      refine wpAny_pure ?_
      refine text_tail (L1 := L1) ?_ ho hex hd e1 nd1 fit1 key1 (by omega) ?_ ?_ ?_ ?_
      · intro c s1 Q' h; cases c <;> first | exact wpAny_pure h | exact wpAny_rule h
      · first | (split <;> first | exact f1 | exact SetTable.fits_plain_off f1) | exact f1
      · first | (split <;> exact r1) | exact r1
      · first | (split <;> exact led1) | exact led1
      · intro h' L' es' ep' t' sb r p; dsimp only; exact wpAny_pure (fin h' L' es' ep' t' sb r p)
    · refine wpAny_bind (wpAny_pure ?_)
      simp only [↓reduceIte]
      refine text_tail (L1 := L1) ?_ ho hex hd e1 nd1 fit1 key1 (by omega) f1 r1 led1 ?_
      · intro c s1 Q' h; cases c <;> first | exact wpAny_pure h | exact wpAny_rule h
      · intro h' L' es' ep' t' sb r p; dsimp only; exact wpAny_pure (fin h' L' es' ep' t' sb r p)
end
end KS
/-! Sets of tuples: the search, adding a tuple; one promise of adding for both kinds. -/
namespace KS
open PySem PySem.Spec PyProof.Rows L2
section
variable {P : Program} {w : World} {A : Around} {E : Value → Shared → Prop} {s : Shared} {a : Addr} {L : List Mem} {es : Array (Int × Value)} {ep : Nat} {t : SetTable}
/-- the walk from the start of hash h in a table of mask m -/
abbrev go (m : Nat) (h : Int) (c : Nat) : SetTable.Probe := nth m (runAt m (SetTable.bits h % (m + 1)) (SetTable.bits h)) c
theorem go_add (m : Nat) (h : Int) (c q : Nat) : nth m (go m h c) q = go m h (c + q) := (nth_add m c _ q).symm
theorem go_j (m : Nat) (h : Int) (c q : Nat) : (nth m (go m h c) q).j = way m h (c + q) := congrArg SetTable.Probe.j (go_add m h c q)
theorem nth_dummy (m : Nat) : ∀ (n : Nat) (p : SetTable.Probe), p.dummy = none → (nth m p n).dummy = none
  | 0, _, h => h
  | n + 1, p, h => nth_dummy m n (adv m p) (by
    unfold adv
    split <;> exact h)
theorem odd_gw {t : SetTable} (h : MaskOk t.mask) : ¬ t.gaveWay = true := by
  unfold SetTable.gaveWay
  rw [mask_odd h]
  decide
/-- the search among tuples from the c-th step on; the way's first empty slot is step K -/
theorem hunt (R : SetK true w s.heap a L es ep t) {x : Addr} {k : NestedKey} (hx : NestedIs s.heap k (.ref x)) (kd : k.depth ≤ 8) (hu : A.units + 8 < cLine) {K : Nat} (hKf : K < 10 * SetTable.turns t.mask)
    (hK : way t.mask (k.hash w) K ∉ t.place.toList) (hKb : ∀ c, c < K → way t.mask (k.hash w) c ∈ t.place.toList) {Q : SetFound → Shared → Prop}
    (hin : k ∈ L.map (·.2) → Q (.there none) s) (hout : k ∉ L.map (·.2) → Q (.free (way t.mask (k.hash w) K) false) s) :
    ∀ (f c : Nat) (st : Option SetTable.Probe), st.getD (t.probeStart (k.hash w)) = go t.mask (k.hash w) c → c ≤ K → K - c < f →
      (∀ (i : Nat) m, L[i]? = some m → m.2 = k → ∃ c', c ≤ c' ∧ c' < K ∧ t.place.toList[i]? = some (way t.mask (k.hash w) c')) →
      wpAny (model P w) A (setSearchFrom a (.ref x) (k.hash w) true f st) Q E s
  | 0, c, st, _, _, hf, _ => absurd hf (Nat.not_lt_zero _)
  | f + 1, c, st, hst, hc, hf, left => by
    obtain ⟨o, ho, _, hd⟩ := R.ob
    have tb := (R.tab rfl).1
    have fin2 : ∀ (i : Nat) (m : Mem), L[i]? = some m → (fun i => (es[i]?.map (·.1)).getD 0) i = m.2.hash w := fun i m e => by
      show (es[i]?.map (·.1)).getD 0 = _
      rw [ents_get R.eq e]
      rfl
    rw [setSearchFrom_succ]
    refine wpAny_bind (wpAny_setState_of ho hd R.full ?_)
    dsimp only
    refine wp_if_neg (odd_gw tb.mok) ?_
    try refine wpAny_bind (wpAny_pure ?_)
    have sp := go_spec t R.ris tb.dm (fun i => (es[i]?.map (·.1)).getD 0) (k.hash w) (10 * SetTable.turns t.mask) (K - c) (go t.mask (k.hash w) c) (nth_dummy _ c _ rfl) (by omega)
      (fun q hq => by rw [go_j]; exact hKb (c + q) (by omega)) (by rw [go_j, show c + (K - c) = K by omega]; exact hK)
    rcases sp with ⟨q, i, hq, hi, hh, hno, hpr⟩ | ⟨hno, hpr⟩
    · rw [go_add, go_add, ← hst] at hpr
      rw [show t.probe (fun i => (es[i]?.map (·.1)).getD 0) (k.hash w) (st.getD (t.probeStart (k.hash w))) = _ from hpr]
      dsimp only
      rw [go_j] at hi
      have il : i < L.length := by
        have n1 : i < t.place.toList.length := (List.getElem?_eq_some_iff.mp hi).1
        have n2 := tb.sz
        rw [List.length_map] at n2
        rw [Array.length_toList] at n1
        omega
      have hp : L[i]? = some L[i] := List.getElem?_eq_getElem il
      generalize L[i] = m at hp
      have mm : m ∈ L := List.mem_of_getElem? hp
      obtain ⟨y, ks, e1, e2, d2⟩ := R.fit m mm
      have my := R.key m mm
      rw [e1] at my
      have slot : t.slot (way t.mask (k.hash w) (c + q)) = .live i := slot_live R.ris hi
      have rest : wpAny (model P w) A (searchRest a (.ref x) (k.hash w) true f es t (way t.mask (k.hash w) (c + q)) i (go t.mask (k.hash w) (c + (q + 1)))) Q E s := by
        unfold searchRest
        rw [ents_get R.eq hp, e1]
        dsimp only
        refine wpAny_bind (wpAny_holding (eqAt_key m.2 k A s _ _ my hx (by omega) P w _ _ ?_))
        refine wpAny_bind (wpAny_setState_of ho hd R.full ?_)
        dsimp only
        rw [← NestedKey.decide_eq]
        by_cases hkk : m.2 = k
        · refine wp_if_pos (by simp [hkk]) ?_
          exact wpAny_pure (hin (List.mem_map.mpr ⟨m, mm, hkk⟩))
        · refine wp_if_neg (by simp [hkk]) ?_
          try refine wpAny_bind (wpAny_pure ?_)
          rw [sameMem]
          dsimp only
          simp only [if_true, slot, ents_get R.eq hp, e1]
          refine wpAny_bind (wpAny_isSame_ref_self (wpAny_bind (wpAny_pure ?_)))
          simp only [if_true]
          refine wp_if_neg (by simp [hkk]) ?_
          refine hunt R hx kd hu hKf hK hKb hin hout f (c + (q + 1)) _ rfl (by omega) (by omega) fun j m' e' k' => ?_
          obtain ⟨c', a1, a2, a3⟩ := left j m' e' k'
          refine ⟨c', ?_, a2, a3⟩
          rcases Nat.lt_trichotomy c' (c + q) with z | z | z
          · exact absurd ((fin2 j m' e').trans (congrArg (NestedKey.hash w) k')) (hno (c' - c) j (by omega) (by rw [go_j, show c + (c' - c) = c' by omega]; exact a3))
          · rw [z] at a3
            have s0 := slot_live R.ris a3
            rw [slot] at s0
            injection s0 with s0
            rw [← s0, hp] at e'
            exact absurd ((congrArg Prod.snd (Option.some.inj e')).trans k') hkk
          · omega
      by_cases hl : t.led = true
      · refine wp_if_neg (by simp [hl]) ?_
        try refine wpAny_bind (wpAny_pure ?_)
        exact rest
      · refine wp_if_pos (by simp [hl]) (wpAny_bind (seen_key hx kd (fun z hz => ?_) ?_))
        · obtain ⟨e, he, ee⟩ := List.mem_map.mp hz
          have he1 : e ∈ es ∧ e.1 = k.hash w := by simpa using he
          have he2 : e ∈ es.toList := by simpa using he1.1
          rw [R.eq] at he2
          obtain ⟨m2, hm2, e3⟩ := List.mem_map.mp he2
          obtain ⟨_, _, _, _, d3⟩ := R.fit m2 hm2
          refine ⟨m2.2, ?_, d3⟩
          rw [← ee, ← e3]
          exact R.key m2 hm2
        · refine wp_if_neg (by decide) ?_
          try refine wpAny_bind (wpAny_pure ?_)
          exact rest
    · rw [go_j, show c + (K - c) = K by omega, ← hst] at hpr
      rw [show t.probe (fun i => (es[i]?.map (·.1)).getD 0) (k.hash w) (st.getD (t.probeStart (k.hash w))) = _ from hpr]
      dsimp only
      refine wpAny_pure (hout fun hm => ?_)
      obtain ⟨m0, h0, hk0⟩ := List.mem_map.mp hm
      obtain ⟨j, hj⟩ := List.mem_iff_getElem?.mp h0
      obtain ⟨c', a1, a2, a3⟩ := left j m0 hj hk0
      exact absurd ((fin2 j m0 hj).trans (congrArg (NestedKey.hash w) hk0)) (hno (c' - c) j (by omega) (by rw [go_j, show c + (c' - c) = c' by omega]; exact a3))
theorem hunt_at (R : SetK true w s.heap a L es ep t) {x : Addr} {k : NestedKey} (hx : NestedIs s.heap k (.ref x)) (kd : k.depth ≤ 8) (hu : A.units + 8 < cLine) {Q : SetFound → Shared → Prop}
    (hin : k ∈ L.map (·.2) → Q (.there none) s)
    (hout : ∀ K, k ∉ L.map (·.2) → way t.mask (k.hash w) K ∉ t.place.toList → (∀ c, c < K → way t.mask (k.hash w) c ∈ t.place.toList) → Q (.free (way t.mask (k.hash w) K) false) s) :
    wpAny (model P w) A (setSearch a (.ref x) (k.hash w) true) Q E s := by
  obtain ⟨tb, room⟩ := R.tab rfl
  have n2 := tb.sz
  rw [List.length_map] at n2
  obtain ⟨K, hKf, hK, hKb⟩ := tb.first (by rw [List.length_map]; omega) (k.hash w)
  have big : K < 100000 := by
    have : 10 * SetTable.turns t.mask ≤ 1420 := by
      unfold SetTable.turns
      rcases tb.mok with e | e | e <;> omega
    omega
  unfold setSearch
  refine hunt R hx kd hu hKf hK hKb hin (fun hn => hout K hn hK hKb) 100000 0 none rfl (Nat.zero_le _) (by omega) fun i m e ek => ?_
  have hi : (hs w L)[i]? = some (k.hash w) := by
    rw [List.getElem?_map, e, ← ek]
    rfl
  have il : i < t.place.toList.length := by
    have := (List.getElem?_eq_some_iff.mp e).1
    rw [Array.length_toList]
    omega
  obtain ⟨c, hc, ec⟩ := tb.before hK hi (List.getElem?_eq_getElem il)
  exact ⟨c, Nat.zero_le _, hc, by rw [List.getElem?_eq_getElem il, ec]⟩
end
end KS
/-! Sets of tuples: the table laid anew, adding a tuple. -/
namespace KS
open PySem PySem.Spec PyProof.Rows L2
section
variable {P : Program} {w : World} {A : Around} {E : Value → Shared → Prop} {s : Shared} {a : Addr} {L : List Mem} {es : Array (Int × Value)} {ep : Nat} {t : SetTable}
theorem range_get {α : Type} (z : α) : ∀ l : List α, (List.range l.length).map (fun i => l.getD i z) = l := fun l => by
  apply List.ext_getElem?
  intro i
  rw [List.getElem?_map]
  by_cases h : i < l.length
  · rw [List.getElem?_range h, List.getElem?_eq_getElem h]
    simp [List.getD, h]
  · rw [List.getElem?_eq_none (by rw [List.length_range]; omega), List.getElem?_eq_none (by omega)]
    rfl
theorem some_map {α β : Type} {f : α → Option β} {g : α → β} : ∀ l : List α, (∀ x ∈ l, f x = some (g x)) → l.filterMap f = l.map g
  | [], _ => rfl
  | x :: l, h => by
    rw [List.filterMap_cons_some (h x List.mem_cons_self), List.map_cons, some_map l fun y hy => h y (List.mem_cons_of_mem _ hy)]
theorem in_order {es : Array (Int × Value)} (he : es.toList = ents w L) {order : Array Nat} (hp : order.toList.Perm (List.range L.length)) :
    ∃ L2 : List Mem, (order.filterMap (es[·]?)).toList = ents w L2 ∧ L2.Perm L ∧ hs w L2 = order.toList.map fun i => (es.map (·.1)).getD i 0 := by
  have lt : ∀ i ∈ order.toList, i < L.length := fun i hi => List.mem_range.mp (hp.mem_iff.mp hi)
  have g1 : ∀ i ∈ order.toList, es[i]? = some ((fun m : Mem => (m.2.hash w, m.1)) (L.getD i (Value.none, NestedKey.none))) := fun i hi => by
    have e : L[i]? = some (L.getD i (Value.none, NestedKey.none)) := by
      rw [List.getElem?_eq_getElem (lt i hi)]
      simp [List.getD, lt i hi]
    exact ents_get he e
  refine ⟨order.toList.map fun i => L.getD i (Value.none, NestedKey.none), ?_, ?_, ?_⟩
  · rw [Array.toList_filterMap, some_map order.toList g1, ents, List.map_map]
    rfl
  · have p2 := hp.map fun i => L.getD i (Value.none, NestedKey.none)
    rw [range_get] at p2
    exact p2
  · unfold hs
    rw [List.map_map]
    refine List.map_congr_left fun i hi => ?_
    have e := g1 i hi
    have e2 : (es.map (·.1))[i]? = some ((L.getD i (Value.none, NestedKey.none)).2.hash w) := by
      rw [Array.getElem?_map, e]
      rfl
    show _ = (es.map (·.1)).getD i 0
    rw [Array.getD_eq_getD_getElem?, e2]
    rfl
theorem tups_relay {o : Obj} (ho : s.heap.get? a = some o) (hex : o.ExactSet) (hd : o.data = .set es ep t) (he : es.toList = ents w L) (full : t.fits es.size = true)
    (nd : (L.map (·.2)).Nodup) (fit : ∀ m ∈ L, Fit true m) (key : ∀ m ∈ L, NestedIs s.heap m.2 m.1) (led : w.params.followText "set-order" = true ∨ t.led = true) (few : L.length < 64) {wanted M : Nat}
    (hw : SetTable.sizeAbove wanted - 1 = M) (hM : MaskOk M) (h128 : SetTable.sizeAbove wanted ≤ 128) (hn : L.length * 5 < M * 3) {Q : Unit → Shared → Prop}
    (q : ∀ h' L' es' ep' t', Heap.SameBut a s.heap h' → SetK true w h' a L' es' ep' t' → L'.Perm L → Q () { s with heap := h' }) : wpAny (model P w) A (setRelay a wanted) Q E s := by
  have z1 : es.size = L.length := by rw [← Array.length_toList, he, ents, List.length_map]
  obtain ⟨t2, order, e, hp, T, em, el, _, ed⟩ := relaid_ok t (hs := es.map (·.1)) (wanted := wanted) hw hM (by rw [Array.size_map, z1]; omega)
  rw [Array.size_map, z1] at hp
  obtain ⟨LL, r1, r2, r3⟩ := in_order he hp
  rw [← r3] at T
  have z2 : (order.filterMap (es[·]?)).size = LL.length := by rw [← Array.length_toList, r1, ents, List.length_map]
  have z3 := r2.length_eq
  rw [setRelay_eq]
  refine wpAny_bind (wpAny_setState_of ho hd full ?_)
  dsimp only
  refine wp_if_neg (by rw [sizeLine_eq]; omega) ?_
  try refine wpAny_bind (wpAny_pure ?_)
  rw [e]
  dsimp only
  refine wpAny_bind ?_
  refine wp_if_neg (by rw [z2, z3, z1]; simp) ?_
  try refine wpAny_bind (wpAny_pure ?_)
  refine wpAny_pure ?_
  dsimp only
  refine wpAny_storeSet_of ho hd ?_ (by rw [z2, z3, sizeLine_eq]; omega)
  have sb := Heap.SameBut.update s.heap a (Obj.putSet (order.filterMap (es[·]?)) t2)
  have sz2 := T.sz
  rw [List.length_map] at sz2
  exact q _ LL _ _ t2 sb ⟨⟨_, L2.store_at ho hd, hex, rfl⟩, r1, (r2.map (·.2)).nodup_iff.mpr nd, fun m hm => fit m (r2.mem_iff.mp hm), fun m hm => key_but ho hd sb (key m (r2.mem_iff.mp hm)), T.ris, by
    unfold SetTable.fits SetTable.fill
    rw [ed, Bool.and_eq_true, beq_iff_eq, decide_eq_true_eq, z2, sz2]
    show LL.length = LL.length ∧ LL.length + 0 ≤ t2.mask
    omega, led.imp id fun z => by rw [el]; exact z, by rw [z3]; exact few, fun _ => ⟨T, by rw [z3, em]; exact hn⟩⟩ r2
theorem tab_plain {hs : List Int} {t : SetTable} (T : TabOk t hs) (c : Bool) : TabOk (if c = true then t else { t with plain := false }) hs := by
  split
  · exact T
  · exact ⟨T.ris, T.dm, T.sz, T.mok, T.bd, T.reach⟩
theorem add_tup {x : Addr} {k : NestedKey} {Q : Bool → Shared → Prop} (R : SetK true w s.heap a L es ep t) (hx : NestedIs s.heap k (.ref x)) (ft : Fit true (Value.ref x, k)) (hu : A.units + 8 < cLine) (room : L.length + 1 < 64)
    (q : Added true w s a L (.ref x, k) Q) : wpAny (model P w) A (setAddHashed a (.ref x) (k.hash w)) Q E s := by
  obtain ⟨o, ho, hex, hd⟩ := R.ob
  obtain ⟨tb, rm⟩ := R.tab rfl
  obtain ⟨_, _, _, _, kd⟩ := ft
  have zs := R.size
  unfold setAddHashed
  refine wpAny_holding ?_
  rw [show (100000 : Nat) = 99999 + 1 from rfl, setAddHashedIn_succ]
  refine wpAny_bind (wpAny_setState_of ho hd R.full ?_)
  dsimp only
  refine wp_if_neg (by simp [byScan, Value.scannable]) ?_
  try refine wpAny_bind (wpAny_pure ?_)
  refine wpAny_bind (hunt_at R hx kd hu (fun hm => ?_) fun K hm hK hb => ?_)
  · dsimp only
    exact wpAny_pure (q false s.heap L es ep t (Heap.SameBut.refl a s.heap) R (fun _ => rfl) fun z => absurd hm z)
  · dsimp only
    refine wpAny_bind (wpAny_setState_of ho hd R.full ?_)
    dsimp only
    obtain ⟨q1, q2, q3, q4, q5, q6, q7, q8, q9⟩ := tb.put hK hb
    generalize t.put (way t.mask (k.hash w) K) = pt at q1 q3 q4 q5 q6 q7 q8 q9 ⊢
    obtain ⟨t1, p⟩ := pt
    dsimp only at q1 q3 q4 q5 q6 q7 q8 q9 ⊢
    subst q1
    have fork : ∀ (G : Bool → Sem Bool) (Q' : Bool → Shared → Prop), (∀ c, wpAny (model P w) A (G c) Q' E s) → wpAny (model P w) A (do
        let c ← if t1.plain = true then hashByValue 8 (.ref x) else pure true
        G c) Q' E s := fun G Q' h => by
      dsimp only
      exact wp_two (fun _ => wpAny_bind (byVal_key 8 k _ A s _ hx h)) fun _ => wpAny_bind (wpAny_pure (h _))
    have hin : (SetTable.insertAt es (SetTable.below t.place (way t.mask (k.hash w) K)) (k.hash w, Value.ref x)).toList = ents w (L.take (SetTable.below t.place (way t.mask (k.hash w) K)) ++ (Value.ref x, k) :: L.drop (SetTable.below t.place (way t.mask (k.hash w) K))) := by
      rw [SetTable.toList_insertAt, R.eq, ents, ents, List.map_append, List.map_cons, List.map_take, List.map_drop]
    generalize SetTable.below t.place (way t.mask (k.hash w) K) = p at q2 q3 hin ⊢
    have pm := put_perm L p (Value.ref x, k)
    have hh : (hs w L).take p ++ k.hash w :: (hs w L).drop p = hs w (L.take p ++ (Value.ref x, k) :: L.drop p) := by
      unfold hs
      rw [List.map_append, List.map_cons, List.map_take, List.map_drop]
    rw [hh] at q3
    obtain ⟨nd1, n1⟩ := R.perm (h' := s.heap) hm pm
    have z1 : (SetTable.insertAt es p (k.hash w, Value.ref x)).size = L.length + 1 := by rw [← Array.length_toList, hin, ents, List.length_map, n1]
    generalize SetTable.insertAt es p (k.hash w, Value.ref x) = es1 at hin z1 ⊢
    generalize L.take p ++ (Value.ref x, k) :: L.drop p = L1 at pm q3 nd1 n1 hin
    have key0 : ∀ m ∈ L1, NestedIs s.heap m.2 m.1 := fun m hm1 => by
      rcases List.mem_cons.mp (pm.mem_iff.mp hm1) with e | z
      · rw [e]
        exact hx
      · exact R.key m z
    have fit1 : ∀ m ∈ L1, Fit true m := fun m hm1 => by
      rcases List.mem_cons.mp (pm.mem_iff.mp hm1) with e | z
      · rw [e]
        exact ⟨_, _, by assumption, by assumption, kd⟩
      · exact R.fit m z
    refine fork _ _ fun c => ?_
    have T2 := tab_plain q3 c
    have led2 : w.params.followText "set-order" = true ∨ (if c = true then t1 else { t1 with plain := false }).led = true := by
      have := R.led
      rw [← q5] at this
      cases c <;> exact this
    have m2 : (if c = true then t1 else { t1 with plain := false }).mask = t.mask := by
      rw [← q4]
      cases c <;> rfl
    have f2 : (if c = true then t1 else { t1 with plain := false }).fill = L.length + 1 := by
      rw [List.length_map] at q9
      rw [← q9]
      cases c <;> rfl
    generalize (if c = true then t1 else { t1 with plain := false }) = t2 at T2 led2 m2 f2 ⊢
    have sz2 := T2.sz
    rw [List.length_map, n1] at sz2
    have full2 : t2.fits es1.size = true := by
      unfold SetTable.fits
      rw [f2, Bool.and_eq_true, beq_iff_eq, decide_eq_true_eq, z1, sz2]
      refine ⟨rfl, ?_⟩
      have := tb.mok
      rw [m2]
      rcases this with e | e | e <;> rw [e] at rm ⊢ <;> omega
    refine wpAny_bind (wpAny_storeSet_of ho hd ?_ (by rw [z1, sizeLine_eq]; omega))
    have sb := Heap.SameBut.update s.heap a (Obj.putSet es1 t2)
    have ho1 := L2.store_at (es' := es1) (t' := t2) ho hd
    have key1 : ∀ m ∈ L1, NestedIs (s.heap.update a (Obj.putSet es1 t2)) m.2 m.1 := fun m hm1 => key_but ho hd sb (key0 m hm1)
    generalize s.heap.update a (Obj.putSet es1 t2) = h1 at sb ho1 key1 ⊢
    by_cases hf : t2.tooFull = true
    · have hfull : (L.length + 1) * 5 ≥ t2.mask * 3 := by
        have h := hf
        unfold SetTable.tooFull at h
        rw [decide_eq_true_eq, f2] at h
        exact h
      have two : (t.mask = 7 ∧ L.length = 4) ∨ (t.mask = 31 ∧ L.length = 18) := by
        rw [m2] at hfull
        rcases tb.mok with e | e | e <;> rw [e] at hfull rm
        · exact .inl ⟨e, by omega⟩
        · exact .inr ⟨e, by omega⟩
        · omega
      have lay : ∀ M, SetTable.sizeAbove (SetTable.grown (L.length + 1)) - 1 = M → MaskOk M → SetTable.sizeAbove (SetTable.grown (L.length + 1)) ≤ 128 → (L.length + 1) * 5 < M * 3 →
          wpAny (model P w) A (setRelay a (SetTable.grown (L.length + 1))) (fun _ s' => wpAny (model P w) A (pure true) Q E s') E { s with heap := h1 } := fun M h1' h2' h3' h4' =>
        tups_relay (s := { s with heap := h1 }) ho1 hex rfl hin full2 nd1 fit1 key1 led2 (by omega) h1' h2' h3' (by rw [n1]; exact h4') fun h2 L2 es2 ep2 t3 sb2 R2 pm2 =>
          wpAny_pure (q true h2 L2 es2 ep2 t3 (sb.trans sb2) R2 (fun z => absurd z hm) fun _ => pm2.trans pm)
      rw [zs]
      first
        | (refine wpAny_bind ?_; refine wp_if_pos (by simp [hf]) ?_)
        | (refine wp_if_pos (by simp [hf]) ?_; refine wpAny_bind ?_)
      rcases two with ⟨_, e2⟩ | ⟨_, e2⟩
      · exact lay 31 (by rw [e2, size_20]) (.inr (.inl rfl)) (by rw [e2, size_20]; decide) (by omega)
      · exact lay 127 (by rw [e2, size_76]) (.inr (.inr rfl)) (by rw [e2, size_76]; decide) (by omega)
    · first
        | refine wp_if_neg (by simp [hf]) ?_
        | (refine wpAny_bind ?_; refine wp_if_neg (by simp [hf]) ?_; refine wpAny_pure ?_)
      refine wpAny_pure (q true h1 L1 es1 (ep + 1) t2 sb ⟨⟨_, ho1, hex, rfl⟩, hin, nd1, fit1, key1, T2.ris, full2, led2, by omega, fun _ => ⟨T2, ?_⟩⟩ (fun z => absurd z hm) fun _ => pm)
      have h := hf
      unfold SetTable.tooFull at h
      rw [decide_eq_true_eq, f2] at h
      rw [n1]
      omega
end
end KS
/-! set(xs): xs a list or a tuple of texts, or of tuples of texts and numbers. -/
namespace KS
open PySem PySem.Spec PyProof.Rows L2
/-- what stands in the set behind the first i items -/
structure Has (ks : List Mem) (i : Nat) (L : List Mem) : Prop where
  sub : ∀ m ∈ L, m ∈ ks.take i
  all : ∀ m ∈ ks.take i, m.2 ∈ L.map (·.2)
  len : L.length ≤ i
theorem Has.nil (ks : List Mem) : Has ks 0 [] := ⟨fun _ z => (by cases z), fun m z => (by simp at z), Nat.le_refl _⟩
theorem Has.next {ks L L' : List Mem} {i : Nat} {m : Mem} (g : Has ks i L) (h : ks[i]? = some m) (c1 : m.2 ∈ L.map (·.2) → L' = L) (c2 : m.2 ∉ L.map (·.2) → L'.Perm (m :: L)) : Has ks (i + 1) L' := by
  have tn : ks.take (i + 1) = ks.take i ++ [m] := take_next h
  rcases Classical.em (m.2 ∈ L.map (·.2)) with c | c
  · rw [c1 c]
    refine ⟨fun x hx => ?_, fun x hx => ?_, Nat.le_succ_of_le g.len⟩
    · rw [tn]
      exact List.mem_append_left _ (g.sub x hx)
    · rw [tn] at hx
      rcases List.mem_append.mp hx with z | z
      · exact g.all x z
      · rw [List.mem_singleton.mp z]
        exact c
  · have pm := c2 c
    refine ⟨fun x hx => ?_, fun x hx => ?_, by rw [pm.length_eq]; exact Nat.succ_le_succ g.len⟩
    · rw [tn]
      rcases List.mem_cons.mp (pm.mem_iff.mp hx) with z | z
      · rw [z]
        exact List.mem_append_right _ (List.mem_singleton.mpr rfl)
      · exact List.mem_append_left _ (g.sub x z)
    · rw [tn] at hx
      refine (pm.map (·.2)).mem_iff.mpr ?_
      rw [List.map_cons]
      rcases List.mem_append.mp hx with z | z
      · exact List.mem_cons_of_mem _ (g.all x z)
      · rw [List.mem_singleton.mp z]
        exact List.mem_cons_self
section
variable {P : Program} {w : World} {A : Around} {E : Value → Shared → Prop} {s : Shared} {a : Addr} {b : Bool} {L : List Mem} {es : Array (Int × Value)} {ep : Nat} {t : SetTable}
theorem add_key {m : Mem} {Q : Bool → Shared → Prop} (R : SetK b w s.heap a L es ep t) (hx : NestedIs s.heap m.2 m.1) (ft : Fit b m) (hu : A.units + 8 < cLine) (room : L.length + 1 < 64)
    (q : Added b w s a L m Q) : wpAny (model P w) A (setAddHashed a m.1 (m.2.hash w)) Q E s := by
  cases b with
  | false =>
    obtain ⟨x, tk, rfl⟩ := ft
    exact add_text R room q
  | true =>
    have ft2 := ft
    obtain ⟨v, k⟩ := m
    obtain ⟨c, ks, e1, e2, d⟩ := ft
    dsimp only at e1 e2 d hx
    subst e1
    exact add_tup R hx ft2 hu room q
theorem fit_depth {m : Mem} (h : Fit b m) : m.2.depth ≤ 8 := by
  cases b with
  | false =>
    obtain ⟨x, tk, rfl⟩ := h
    exact Nat.zero_le _
  | true =>
    obtain ⟨_, _, _, _, d⟩ := h
    exact d
theorem key_keep {h h' : Heap} {k : NestedKey} {v : Value} (x : NestedIs h k v) (hk : ∀ c o, h.get? c = some o → h'.get? c = some o) : NestedIs h' k v := NestedIs.at (fun c o vs n e _ => hk c o e) k v x
theorem update_loop {I : Addr} {fp wr : List Addr} {G : Array GenState → Array GenState → Prop} {n : Nat} {Pv : Nat → Value → Prop} {St : Nat → Shared → Prop} {R : Result → Shared → Prop}
    (W : WalksS P w A.in1 I fp wr G n Pv St) (S : Addr) (hSf : S ∉ fp) (ks : List Mem) (hn : n = ks.length) (h64 : ks.length < 64) (hv : ∀ i v, Pv i v → ∃ m, ks[i]? = some m ∧ v = m.1)
    (h0 : Heap) (hk : ∀ m ∈ ks, NestedIs h0 m.2 m.1) (hf : ∀ m ∈ ks, Fit b m) (hS0 : h0.get? S = none) (hw0 : ∀ c ∈ wr, h0.get? c = none) (hu : A.in1.units + 8 < cLine) :
    ∀ (k i : Nat) (s : Shared), n - i = k → i ≤ n → St i s → (∀ c o, h0.get? c = some o → s.heap.get? c = some o) → (∃ L es ep t, SetK b w s.heap S L es ep t ∧ Has ks i L) →
      (∀ s' L es ep t, Moved (S :: wr) G s s' → SetK b w s'.heap S L es ep t → Has ks n L → (∀ c o, h0.get? c = some o → s'.heap.get? c = some o) → R (.ok (.ret .none)) s') →
      codeAny (model P w) A (.builtin "set.update.loop" ⟨[.ref S, .ref I], []⟩) R s := by
  have hSw : S ∉ wr := fun h => hSf (W.sub _ h)
  have up : ∀ c ∈ wr, c ∈ S :: wr := fun c hc => List.mem_cons_of_mem _ hc
  have stay : ∀ {s s' : Shared}, Moved wr G s s' → (∀ c o, h0.get? c = some o → s.heap.get? c = some o) → ∀ c o, h0.get? c = some o → s'.heap.get? c = some o := fun mv hp c o e =>
    mv.heap c o (fun z => by rw [hw0 c z] at e; cases e) (hp c o e)
  intro k
  induction k with
  | zero =>
    intro i s hk' hi hst hp ⟨L, es, ep, t, hS, g⟩ hR
    have e0 : i = n := by omega
    subst e0
    refine codeAny_builtin F.entry_set_update_loop ?_
    rw [Around.under_plainId F.plain_set_update_loop _]
    show wpAny _ A.in1 (pyNext (.ref I) >>= _) _ _ s
    refine wpAny_bind (W.done s _ _ hst fun s' mv => ?_)
    show wpAny _ A.in1 (ret Value.none) _ _ s'
    have hp' := stay mv hp
    exact wpAny_pure (hR s' L es ep t (mv.mono up) (hS.keep (fun o e => mv.heap S o hSw e) fun m hm => key_keep (hk m (List.mem_of_mem_take (g.sub m hm))) hp') g hp')
  | succ k ih =>
    intro i s hk' hi hst hp ⟨L, es, ep, t, hS, g⟩ hR
    have lt : i < n := by omega
    refine codeAny_builtin F.entry_set_update_loop ?_
    rw [Around.under_plainId F.plain_set_update_loop _]
    show wpAny _ A.in1 (pyNext (.ref I) >>= _) _ _ s
    refine wpAny_bind (W.item i s _ _ lt hst fun v s' hP hst' mv => ?_)
    obtain ⟨m, hm, rfl⟩ := hv i v hP
    have mk := List.mem_of_getElem? hm
    have hp' := stay mv hp
    have hS' : SetK b w s'.heap S L es ep t := hS.keep (fun o e => mv.heap S o hSw e) fun q hq => key_keep (hk q (List.mem_of_mem_take (g.sub q hq))) hp'
    have hx : NestedIs s'.heap m.2 m.1 := key_keep (hk m mk) hp'
    show wpAny _ A.in1 (holding [m.1] (setAdd S m.1) >>= _) _ _ s'
    refine wpAny_bind (wpAny_holding ?_)
    unfold setAdd
    refine wpAny_holding ?_
    refine wpAny_bind (pyHash_key m.2 m.1 A.in1 s' _ hx (by have := fit_depth (hf m mk); omega) ?_)
    refine add_key (s := { s' with toks := s'.toks + m.2.draws }) (m := m) hS' hx (hf m mk) hu (by have := g.len; omega) fun c h' L' es' ep' t' sb hS2 c1 c2 => ?_
    have g' := g.next hm c1 c2
    have hp2 : ∀ c o, h0.get? c = some o → h'.get? c = some o := fun c o e => (sb.2 c (fun z => by rw [z, hS0] at e; cases e)).trans (hp' c o e)
    refine wpAny_pure ⟨plainId_quiet F.plain_set_update_loop _, ih (i + 1) _ (by omega) lt (W.frame _ s' _ _ hst' (Nat.le_add_right _ _) fun d hd o e => ?_) hp2 ⟨L', es', ep', t', hS2, g'⟩ fun s2 L2 es2 ep2 t2 mv2 hS3 g2 hp3 => ?_⟩
    · rw [sb.2 d (fun z => hSf (by rw [← z]; exact hd))]
      exact e
    · refine hR s2 L2 es2 ep2 t2 (Moved.trans W.gtrans ((mv.mono up).then_heap (Nat.le_add_right _ _) fun d o hd e => ?_) mv2) hS3 g2 hp3
      rw [sb.2 d (fun z => hd (by rw [z]; exact List.mem_cons_self))]
      exact e
theorem gone {h : Heap} {c : Addr} (hc : h.objs.size ≤ c) : h.get? c = none := by
  cases q : h.get? c with
  | none => rfl
  | some o => exact absurd (Nat.lt_of_lt_of_le (Heap.lt_size q) hc) (Nat.lt_irrefl _)
theorem item_of {items : Array Value} {ks : List Mem} (hi : items.toList = ks.map (·.1)) : ∀ (i : Nat) (v : Value), items[i]? = some v → ∃ m, ks[i]? = some m ∧ v = m.1 := fun i v e => by
  rw [← Array.getElem?_toList, hi, List.getElem?_map] at e
  cases q : ks[i]? with
  | none =>
    rw [q] at e
    cases e
  | some m =>
    rw [q] at e
    exact ⟨m, rfl, (Option.some.inj e).symm⟩
/-- what set(xs) leaves -/
def Made (b : Bool) (w : World) (s : Shared) (ks : List Mem) (Q : Value → Shared → Prop) : Prop := ∀ (h' : Heap) (tk : Nat) L es ep t, SetK b w h' s.heap.objs.size L es ep t → Has ks ks.length L →
  (∀ c o, s.heap.get? c = some o → h'.get? c = some o) → Q (.ref s.heap.objs.size) { s with heap := h', toks := tk }
/-- the new set's object -/
abbrev newO (w : World) : Obj := { cls := .type "set", dict := none, data := .set #[] 0 (.fresh 0 0 (!w.params.followText "set-order")) }
set_option maxHeartbeats 8000000 in
theorem set_of_list {l : Addr} {items : Array Value} (b : Bool) (ks : List Mem) {Q : Value → Shared → Prop} (hh : A.handled = none) (hl : s.heap.IsList l items) (hi : items.toList = ks.map (·.1))
    (hk : ∀ m ∈ ks, NestedIs s.heap m.2 m.1) (hf : ∀ m ∈ ks, Fit b m) (h64 : ks.length < 64) (hu : A.units + 16 < cLine) (q : Made b w s ks Q) :
    wpAny (model P w) A (call (.type "set") [.ref l]) Q E s := by
  have zi : items.size = ks.length := by rw [← Array.length_toList, hi, List.length_map]
  obtain ⟨mc, mt, hmro⟩ := F.called_set.mro
  have d1 := F.called_set.made
  have d2 := F.called_set.sub
  refine wpAny_call (codeAny_of_tree ?_)
  show wpAny _ _ (callAny (.type "set") _) _ _ _
  refine wpAny_pure ⟨Code.quiet_builtin _ (by decide +kernel), codeAny_builtin F.entry_type_call ?_⟩
  rw [Around.under_plain (weight_type_call_type "set" [.ref l] []) rfl]
  have d3 := F.called_set.notType
  have d4 := F.called_set.canCreate
  have d5 := F.typeCall_set_1 (.ref l)
  repeat (any_goals (first | assumption | wp_step))
  refine codeAny_mono (code_set_led1 (.ref l) (E := E) (Q₁ := fun v s1 => v = .ref s.heap.objs.size ∧ s1 = { s with heap := s.heap.push (newO w) }) ⟨rfl, rfl⟩) fun r s1 hr => ?_
  cases r with
  | error e => exact hr
  | ok fl =>
    cases fl with
    | ret v =>
      obtain ⟨rfl, rfl⟩ := hr
      have gS : (s.heap.push (newO w)).get? s.heap.objs.size = some (newO w) := Heap.get?_push_size _ rfl
      have tS : Shared.TypeIs { s with heap := s.heap.push (newO w) } (.ref s.heap.objs.size) "set" := ⟨_, gS, rfl⟩
      have d6 := F.called_set.init.lookup
      have d7 := F.called_set.init.bind (.ref s.heap.objs.size)
      repeat (any_goals (first | assumption | wp_step))
      refine codeAny_mono (codeAny_call_builtin (R := wants (fun r s2 => r = .none ∧ ∃ h' tk L es ep t, s2 = { s with heap := h', toks := tk } ∧ SetK b w h' s.heap.objs.size L es ep t ∧ Has ks ks.length L ∧
          (∀ c o, s.heap.get? c = some o → h'.get? c = some o)) E) F.called_set.init.plain F.entry_set_init (check_set_init_1 tS ?_)) fun r2 s2 hr2 => ?_
      · obtain ⟨⟨oc, od, ot, os⟩, hol, hcl, nl, hdl⟩ := hl
        simp only at hcl hdl
        subst hcl; subst hdl
        have hol2 : (s.heap.push (newO w)).get? l = some { cls := .type "list", dict := od, data := .seq items nl, slots := os } := Heap.get?_push_of_some _ hol
        have d8 := F.sub_list_set
        have d9 := F.sub_list_frozenset
        have dA : (Value.type "list" == Value.type "dict") = false := by decide
        have hl2 : (s.heap.push (newO w)).IsList l items := ⟨_, hol2, rfl, nl, rfl⟩
        unfold Builtin.«set.__init__» noKeywords Builtin.Frozenset.updateFrom
        generalize hPI : pyIter = PI
        wp_walk
        subst hPI
        refine wpAny_pyIter_list hl2 (wpAny_bind (wpAny_runValue ?_))
        have ls : l < s.heap.objs.size := Heap.lt_size hol
        have zp : (s.heap.push (newO w)).objs.size = s.heap.objs.size + 1 := Heap.size_push ..
        have hne : l ≠ (s.heap.push (newO w)).objs.size := by
          rw [zp]
          exact Nat.ne_of_lt (Nat.lt_succ_of_lt ls)
        have hSf : s.heap.objs.size ∉ [(s.heap.push (newO w)).objs.size, l] := by
          rw [zp]
          simp only [List.mem_cons, List.mem_singleton, List.not_mem_nil, or_false, not_or]
          exact ⟨Nat.ne_of_lt (Nat.lt_succ_self _), Nat.ne_of_gt ls⟩
        refine update_loop ((Walks.list (by simp [hh]) _ l hne items).toS) s.heap.objs.size
          hSf ks zi h64 (item_of hi) s.heap hk hf (gone (Nat.le_refl _)) (fun c hc => gone (by
            rw [List.mem_singleton.mp hc, zp]
            exact Nat.le_succ _)) (by simp only [Around.in1_units]; omega) (items.size - 0) 0 _ (by omega) (Nat.zero_le _)
          ⟨⟨_, Heap.get?_push_size _ rfl, rfl, rfl⟩, hl2.push _⟩ (fun c o e => Heap.get?_push_of_some _ (Heap.get?_push_of_some _ e)) ⟨[], #[], 0, _, setK_new b (Heap.get?_push_of_some _ gS), Has.nil ks⟩ ?_
        intro s3 L es ep t mv hS g hp
        obtain ⟨h3, g3, d3, t3, o3⟩ := s3
        have eg : g3 = s.gens := mv.gens
        have ed : d3 = s.drawn := mv.drawn
        have eo : o3 = s.os := mv.os
        subst eg; subst ed; subst eo
        show wpAny _ _ _ _ _ _
        refine wpAny_pure ?_
        show wpAny _ _ (ret Value.none) _ _ _
        rw [zi] at g
        exact wpAny_pure ⟨rfl, h3, t3, L, es, ep, t, rfl, hS, g, hp⟩
      · cases r2 with
        | error e => exact hr2
        | ok fl2 =>
          cases fl2 with
          | ret r =>
            obtain ⟨rfl, h3, t3, L, es, ep, t, rfl, hS, g, hp⟩ := hr2
            repeat (any_goals (first | assumption | wp_step))
            exact q _ _ _ _ _ _ hS g hp
          | _ => exact hr2.elim
    | _ => exact hr.elim
set_option maxHeartbeats 8000000 in
theorem set_of_tuple {l : Addr} {items : Array Value} (b : Bool) (ks : List Mem) {Q : Value → Shared → Prop} (hh : A.handled = none) (hl : s.heap.IsTuple l items) (hi : items.toList = ks.map (·.1))
    (hk : ∀ m ∈ ks, NestedIs s.heap m.2 m.1) (hf : ∀ m ∈ ks, Fit b m) (h64 : ks.length < 64) (hu : A.units + 16 < cLine) (q : Made b w s ks Q) :
    wpAny (model P w) A (call (.type "set") [.ref l]) Q E s := by
  have zi : items.size = ks.length := by rw [← Array.length_toList, hi, List.length_map]
  obtain ⟨mc, mt, hmro⟩ := F.called_set.mro
  have d1 := F.called_set.made
  have d2 := F.called_set.sub
  refine wpAny_call (codeAny_of_tree ?_)
  show wpAny _ _ (callAny (.type "set") _) _ _ _
  refine wpAny_pure ⟨Code.quiet_builtin _ (by decide +kernel), codeAny_builtin F.entry_type_call ?_⟩
  rw [Around.under_plain (weight_type_call_type "set" [.ref l] []) rfl]
  have d3 := F.called_set.notType
  have d4 := F.called_set.canCreate
  have d5 := F.typeCall_set_1 (.ref l)
  repeat (any_goals (first | assumption | wp_step))
  refine codeAny_mono (code_set_led1 (.ref l) (E := E) (Q₁ := fun v s1 => v = .ref s.heap.objs.size ∧ s1 = { s with heap := s.heap.push (newO w) }) ⟨rfl, rfl⟩) fun r s1 hr => ?_
  cases r with
  | error e => exact hr
  | ok fl =>
    cases fl with
    | ret v =>
      obtain ⟨rfl, rfl⟩ := hr
      have gS : (s.heap.push (newO w)).get? s.heap.objs.size = some (newO w) := Heap.get?_push_size _ rfl
      have tS : Shared.TypeIs { s with heap := s.heap.push (newO w) } (.ref s.heap.objs.size) "set" := ⟨_, gS, rfl⟩
      have d6 := F.called_set.init.lookup
      have d7 := F.called_set.init.bind (.ref s.heap.objs.size)
      repeat (any_goals (first | assumption | wp_step))
      refine codeAny_mono (codeAny_call_builtin (R := wants (fun r s2 => r = .none ∧ ∃ h' tk L es ep t, s2 = { s with heap := h', toks := tk } ∧ SetK b w h' s.heap.objs.size L es ep t ∧ Has ks ks.length L ∧
          (∀ c o, s.heap.get? c = some o → h'.get? c = some o)) E) F.called_set.init.plain F.entry_set_init (check_set_init_1 tS ?_)) fun r2 s2 hr2 => ?_
      · obtain ⟨⟨oc, od, ot, os⟩, hol, hcl, nl, hdl⟩ := hl
        simp only at hcl hdl
        subst hcl; subst hdl
        have hol2 : (s.heap.push (newO w)).get? l = some { cls := .type "tuple", dict := od, data := .seq items nl, slots := os } := Heap.get?_push_of_some _ hol
        have d8 := F.sub_tuple_set
        have d9 := F.sub_tuple_frozenset
        have dA : (Value.type "tuple" == Value.type "dict") = false := by decide
        have hl2 : (s.heap.push (newO w)).IsTuple l items := ⟨_, hol2, rfl, nl, rfl⟩
        unfold Builtin.«set.__init__» noKeywords Builtin.Frozenset.updateFrom
        generalize hPI : pyIter = PI
        wp_walk
        subst hPI
        refine wpAny_pyIter_tuple hl2 (wpAny_bind (wpAny_runValue ?_))
        have ls : l < s.heap.objs.size := Heap.lt_size hol
        have zp : (s.heap.push (newO w)).objs.size = s.heap.objs.size + 1 := Heap.size_push ..
        have hne : l ≠ (s.heap.push (newO w)).objs.size := by
          rw [zp]
          exact Nat.ne_of_lt (Nat.lt_succ_of_lt ls)
        have hSf : s.heap.objs.size ∉ [(s.heap.push (newO w)).objs.size, l] := by
          rw [zp]
          simp only [List.mem_cons, List.mem_singleton, List.not_mem_nil, or_false, not_or]
          exact ⟨Nat.ne_of_lt (Nat.lt_succ_self _), Nat.ne_of_gt ls⟩
        refine update_loop ((Walks.tuple (by simp [hh]) _ l hne items).toS) s.heap.objs.size
          hSf ks zi h64 (item_of hi) s.heap hk hf (gone (Nat.le_refl _)) (fun c hc => gone (by
            rw [List.mem_singleton.mp hc, zp]
            exact Nat.le_succ _)) (by simp only [Around.in1_units]; omega) (items.size - 0) 0 _ (by omega) (Nat.zero_le _)
          ⟨⟨_, Heap.get?_push_size _ rfl, rfl, rfl⟩, hl2.push _⟩ (fun c o e => Heap.get?_push_of_some _ (Heap.get?_push_of_some _ e)) ⟨[], #[], 0, _, setK_new b (Heap.get?_push_of_some _ gS), Has.nil ks⟩ ?_
        intro s3 L es ep t mv hS g hp
        obtain ⟨h3, g3, d3, t3, o3⟩ := s3
        have eg : g3 = s.gens := mv.gens
        have ed : d3 = s.drawn := mv.drawn
        have eo : o3 = s.os := mv.os
        subst eg; subst ed; subst eo
        show wpAny _ _ _ _ _ _
        refine wpAny_pure ?_
        show wpAny _ _ (ret Value.none) _ _ _
        rw [zi] at g
        exact wpAny_pure ⟨rfl, h3, t3, L, es, ep, t, rfl, hS, g, hp⟩
      · cases r2 with
        | error e => exact hr2
        | ok fl2 =>
          cases fl2 with
          | ret r =>
            obtain ⟨rfl, h3, t3, L, es, ep, t, rfl, hS, g, hp⟩ := hr2
            repeat (any_goals (first | assumption | wp_step))
            exact q _ _ _ _ _ _ hS g hp
          | _ => exact hr2.elim
    | _ => exact hr.elim
end
end KS
/-! set(xs), len(set), sorted(set) as rules of the walk. -/
namespace KS
open PySem PySem.Spec PyProof.Rows L2
mutual
/-- v is the key k -/
inductive Kv (K : PySem.W.Frag) (H : Hp) : V → NestedKey → Prop
  | int (i : Int) : Kv K H (.int i) (.num i)
  | str (x : Str) : Kv K H (.str x) (.text x)
  | tup {a : Addr} {xs : List V} {ks : List NestedKey} : SqT K H a xs → KvAll K H xs ks → Kv K H (.ref a) (.tup ks)
inductive KvAll (K : PySem.W.Frag) (H : Hp) : List V → List NestedKey → Prop
  | nil : KvAll K H [] []
  | cons {v : V} {vs : List V} {k : NestedKey} {ks : List NestedKey} : Kv K H v k → KvAll K H vs ks → KvAll K H (v :: vs) (k :: ks)
end
section
variable {X : Cx} {pins : List (Addr × Obj)} {σ : L2.St} {H : Hp} {s : Shared}
mutual
theorem Kv.reads (I : Inv X pins σ H s) : ∀ (k : NestedKey) (v : V) (u : Value), Kv X.K H v k → RelV v u → NestedIs s.heap k u ∧ Reads s.heap u k.data []
  | .none, _, _, h, _ => by cases h
  | .num i, _, _, h, r => by
    cases h
    obtain ⟨t, rfl⟩ := r
    exact ⟨.int i t, .int i t⟩
  | .text x, _, _, h, r => by
    cases h
    obtain ⟨t, rfl⟩ := r
    exact ⟨.text x t, .str x t⟩
  | .tup ks, _, _, h, r => by
    cases h with
    | tup hs ha =>
      cases r
      obtain ⟨its, rv, ⟨o, ho, hc, n, hd⟩, _⟩ := I.tuple hs
      obtain ⟨q1, q2⟩ := Kv.readsAll I ks _ its ha rv
      exact ⟨.tup ho hc hd (by simpa using q1), .tuple ho hc hd (by simpa using q2)⟩
theorem Kv.readsAll (I : Inv X pins σ H s) : ∀ (ks : List NestedKey) (vs : List V) (us : List Value), KvAll X.K H vs ks → Vals vs us → NestedAll s.heap ks us ∧ ReadsAll s.heap us (NestedKey.datas ks) []
  | [], _, _, h, r => by
    cases h
    cases r
    exact ⟨.nil, .nil⟩
  | k :: ks, _, _, h, r => by
    cases h with
    | cons h1 h2 =>
      cases r with
      | cons r1 r2 =>
        obtain ⟨a1, b1⟩ := Kv.reads I k _ _ h1 r1
        obtain ⟨a2, b2⟩ := Kv.readsAll I ks _ _ h2 r2
        exact ⟨.cons a1 a2, .cons (as := []) (bs := []) b1 b2⟩
end
end
mutual
theorem Kv.dp {K : PySem.W.Frag} {H : Hp} : ∀ (k : NestedKey) (v : V), Kv K H v k → Dp K H v k.data
  | .none, _, h => by cases h
  | .num i, _, h => by
    cases h
    exact .int i
  | .text x, _, h => by
    cases h
    exact .str x
  | .tup ks, _, h => by
    cases h with
    | tup hs ha => exact .tup hs (Kv.dpAll ks _ ha)
theorem Kv.dpAll {K : PySem.W.Frag} {H : Hp} : ∀ (ks : List NestedKey) (vs : List V), KvAll K H vs ks → DpAll K H vs (NestedKey.datas ks)
  | [], _, h => by
    cases h
    exact .nil
  | k :: ks, _, h => by
    cases h with
    | cons h1 h2 => exact .cons (Kv.dp k _ h1) (Kv.dpAll ks _ h2)
end
mutual
theorem Kv.up {K : PySem.W.Frag} {H H' : Hp} (e : ∀ a xs, SqT K H a xs → SqT K H' a xs) : ∀ (k : NestedKey) (v : V), Kv K H v k → Kv K H' v k
  | .none, _, h => by cases h
  | .num i, _, h => by
    cases h
    exact .int i
  | .text x, _, h => by
    cases h
    exact .str x
  | .tup ks, _, h => by
    cases h with
    | tup hs ha => exact .tup (e _ _ hs) (Kv.upAll e ks _ ha)
theorem Kv.upAll {K : PySem.W.Frag} {H H' : Hp} (e : ∀ a xs, SqT K H a xs → SqT K H' a xs) : ∀ (ks : List NestedKey) (vs : List V), KvAll K H vs ks → KvAll K H' vs ks
  | [], _, h => by
    cases h
    exact .nil
  | k :: ks, _, h => by
    cases h with
    | cons h1 h2 => exact .cons (Kv.up e k _ h1) (Kv.upAll e ks _ h2)
end
/-- a member as it stands in the walk -/
abbrev MemV := V × NestedKey
def FitV : Bool → MemV → Prop
  | false, m => ∃ x, m = (V.str x, NestedKey.text x)
  | true, m => ∃ c ks, m.1 = V.ref c ∧ m.2 = NestedKey.tup ks ∧ m.2.depth ≤ 8
theorem FitV.fit {b : Bool} {p : MemV} {m : Mem} (h : FitV b p) (r : RelV p.1 m.1) (e : m.2 = p.2) : Fit b m := by
  cases b with
  | false =>
    obtain ⟨x, rfl⟩ := h
    obtain ⟨t, r⟩ := r
    exact ⟨x, t, Prod.ext r e⟩
  | true =>
    obtain ⟨c, ks, e1, e2, d⟩ := h
    rw [e1] at r
    exact ⟨c, ks, r, e.trans e2, by rw [e]; exact d⟩
/-- two lists of members, one of values -/
def Twin (L : List MemV) (M : List Mem) : Prop := Vals (L.map (·.1)) (M.map (·.1)) ∧ M.map (·.2) = L.map (·.2)
theorem Twin.nil : Twin [] [] := ⟨.nil, rfl⟩
theorem Twin.cons {p : MemV} {m : Mem} {L : List MemV} {M : List Mem} (r : RelV p.1 m.1) (e : m.2 = p.2) (t : Twin L M) : Twin (p :: L) (m :: M) := ⟨.cons r t.1, by rw [List.map_cons, List.map_cons, e, t.2]⟩
theorem Twin.mem : ∀ {L : List MemV} {M : List Mem}, Twin L M → ∀ m ∈ M, ∃ p ∈ L, RelV p.1 m.1 ∧ m.2 = p.2
  | [], [], _, _, h => by cases h
  | [], _ :: _, ⟨r, _⟩, _, _ => by cases r
  | _ :: _, [], ⟨r, _⟩, _, _ => by cases r
  | p :: L, m :: M, ⟨r, e⟩, x, h => by
    cases r with
    | cons r1 r2 =>
      rw [List.map_cons, List.map_cons] at e
      injection e with e1 e2
      rcases List.mem_cons.mp h with z | z
      · rw [z]
        exact ⟨p, List.mem_cons_self, r1, e1⟩
      · obtain ⟨q, hq, a, b⟩ := Twin.mem (L := L) (M := M) ⟨r2, e2⟩ x z
        exact ⟨q, List.mem_cons_of_mem _ hq, a, b⟩
theorem Twin.make : ∀ {L : List MemV} {us : List Value}, Vals (L.map (·.1)) us → ∃ M : List Mem, M.map (·.1) = us ∧ Twin L M
  | [], _, r => by
    cases r
    exact ⟨[], rfl, .nil⟩
  | p :: L, _, r => by
    cases r with
    | @cons _ u _ us r1 r2 =>
      obtain ⟨M, e, t⟩ := Twin.make (L := L) r2
      exact ⟨(u, p.2) :: M, by rw [List.map_cons, e], .cons r1 rfl t⟩
theorem Twin.pick {L : List MemV} {M : List Mem} (t : Twin L M) : ∀ {N : List Mem}, (∀ m ∈ N, m ∈ M) → ∃ L' : List MemV, Twin L' N ∧ ∀ p ∈ L', p ∈ L
  | [], _ => ⟨[], .nil, fun _ z => (by cases z)⟩
  | m :: N, h => by
    obtain ⟨p, hp, r, e⟩ := t.mem m (h m List.mem_cons_self)
    obtain ⟨L', t', hs⟩ := Twin.pick t (N := N) fun x hx => h x (List.mem_cons_of_mem _ hx)
    refine ⟨p :: L', .cons r e t', fun q hq => ?_⟩
    rcases List.mem_cons.mp hq with z | z
    · rw [z]
      exact hp
    · exact hs q z
/-- the set at a, without what its members are -/
def SetV0 (b : Bool) (w : World) (h : Heap) (a : Addr) (L : List MemV) : Prop := ∃ (M : List Mem) (es : Array (Int × Value)) (ep : Nat) (t : SetTable), Twin L M ∧
  (∃ o, h.get? a = some o ∧ o.ExactSet ∧ o.data = .set es ep t) ∧ es.toList = ents w M ∧ (M.map (·.2)).Nodup ∧ (∀ m ∈ M, Fit b m) ∧ Ris t.place.toList ∧ t.fits es.size = true ∧
  (w.params.followText "set-order" = true ∨ t.led = true) ∧ M.length < 64 ∧ (b = true → TabOk t (hs w M) ∧ M.length * 5 < t.mask * 3)
def SetV (b : Bool) (w : World) (a : Addr) (L : List MemV) : HO := .ext fun h => SetV0 b w h a L
theorem setV_ok {b : Bool} {P : Program} {w : World} {H : Hp} {h : Heap} {a : Addr} {L : List MemV} (R : SetV0 b w h a L) : ObjOk P w H h a (SetV b w a L) := by
  obtain ⟨_, _, _, _, _, ⟨o, ho, _⟩, _⟩ := id R
  refine ⟨R, ⟨o, ho⟩, fun h1 h2 p k => ?_⟩
  obtain ⟨M, es, ep, t, tw, ⟨o2, ho2, r⟩, q⟩ := (show SetV0 b w h1 a L from p)
  exact ⟨M, es, ep, t, tw, ⟨o2, k o2 ho2, r⟩, q⟩
section
variable {X : Cx}
/-- set(xs) -/
def rSetOf (X : Cx) : List V → Hp → VK → Prop := fun xs H Q => ∃ (b : Bool) (l : Addr) (ms : List MemV), xs = [V.ref l] ∧ (SqL X.K H l (ms.map (·.1)) ∨ SqT X.K H l (ms.map (·.1))) ∧ (∀ p ∈ ms, Kv X.K H p.1 p.2 ∧ FitV b p) ∧ ms.length < 64 ∧
  ∀ a L, H a = none → (∀ p ∈ L, p ∈ ms) → (∀ p ∈ ms, p.2 ∈ L.map (·.2)) → (L.map (·.2)).Nodup → Q (.ref a) (upd H a (SetV b X.w a L))
theorem cr_setOf (hc : X.calm = true) (hu : X.A.units + 64 < cLine) : CallR X (.type "set") (rSetOf X) := by
  intro pins s σ H xs us Q I r h
  obtain ⟨b, l, ms, rfl, hl, hk, h64, q⟩ := h
  rw [Vals.ref1 r]
  have hn : H s.heap.objs.size = none := I.hok.fresh (Nat.le_refl _)
  have fin : ∀ M : List Mem, Twin ms M → Made b X.w s M (EP X pins σ Q) := fun M tw h' tk L es ep t R g k => by
    obtain ⟨L', t', sub⟩ := tw.pick (N := L) fun m hm => List.mem_of_mem_take (g.sub m hm)
    refine ⟨.ref s.heap.objs.size, upd H s.heap.objs.size (SetV b X.w s.heap.objs.size L'), I.laid (t' := tk) k (Nat.le_refl _) (setV_ok ⟨L, es, ep, t, t', R.ob, R.eq, R.nd, R.fit, R.ris, R.full, R.led, R.few, R.tab⟩), rfl, q _ L' hn sub (fun p hp => ?_) ?_⟩
    · rw [← t'.2]
      have e : p.2 ∈ M.map (·.2) := by
        rw [tw.2]
        exact List.mem_map.mpr ⟨p, hp, rfl⟩
      obtain ⟨m, hm, em⟩ := List.mem_map.mp e
      rw [← em]
      exact g.all m (by rw [List.take_length]; exact hm)
    · rw [← t'.2]
      exact R.nd
  have pre : ∀ M : List Mem, Twin ms M → (∀ m ∈ M, NestedIs s.heap m.2 m.1) ∧ (∀ m ∈ M, Fit b m) ∧ M.length < 64 := fun M tw => by
    refine ⟨fun m hm => ?_, fun m hm => ?_, ?_⟩
    · obtain ⟨p, hp, r1, e1⟩ := tw.mem m hm
      rw [e1]
      exact (Kv.reads I p.2 p.1 m.1 (hk p hp).1 r1).1
    · obtain ⟨p, hp, r1, e1⟩ := tw.mem m hm
      exact (hk p hp).2.fit r1 e1
    · have z := congrArg List.length tw.2
      rw [List.length_map, List.length_map] at z
      omega
  rcases hl with hl | hl
  · obtain ⟨its, rv, pl, hz⟩ := I.list hl
    obtain ⟨M, eM, tw⟩ := Twin.make rv
    obtain ⟨p1, p2, p3⟩ := pre M tw
    exact set_of_list b M (I.ok.hd hc) pl.isList (by simpa using eM.symm) p1 p2 p3 (by omega) (fin M tw)
  · obtain ⟨its, rv, pl, hz⟩ := I.tuple hl
    obtain ⟨M, eM, tw⟩ := Twin.make rv
    obtain ⟨p1, p2, p3⟩ := pre M tw
    exact set_of_tuple b M (I.ok.hd hc) pl (by simpa using eM.symm) p1 p2 p3 (by omega) (fin M tw)
/-- len(a set) -/
def rLenSet (X : Cx) : List V → Hp → VK → Prop := fun xs H Q => ∃ (b : Bool) (a : Addr) (L : List MemV), xs = [V.ref a] ∧ H a = some (SetV b X.w a L) ∧ Q (.int L.length) H
theorem cr_lenSet : CallR X (.builtin "len") (rLenSet X) := by
  intro pins s σ H xs us Q I r h
  obtain ⟨b, a, L, rfl, ha, q⟩ := h
  rw [Vals.ref1 r]
  obtain ⟨M, es, ep, t, tw, ⟨o, ho, hex, hd⟩, eq, _, _, _, full, _, few, _⟩ := (show SetV0 b X.w s.heap a L from (I.hok a _ ha).1)
  have z1 : es.size = M.length := by rw [← Array.length_toList, eq, ents, List.length_map]
  have z2 := congrArg List.length tw.2
  rw [List.length_map, List.length_map] at z2
  exact call_len_set ho hex hd full (by rw [z1]; omega) ⟨.int L.length, H, I.tok _, ⟨_, by rw [z1, z2]⟩, q⟩
end
end KS
/-! sorted(a set) -/
namespace KS
open PySem PySem.Spec PyProof.Rows L2
theorem same_keys {α β : Type} (f : α → β) {L L' : List α} (sub : ∀ x ∈ L', x ∈ L) (pm : (L'.map f).Perm (L.map f)) (nd : (L.map f).Nodup) : L'.Perm L := by
  have inj : ∀ x ∈ L, ∀ y ∈ L, f x = f y → x = y := fun x hx y hy e => by
    obtain ⟨i, hi, rfl⟩ := List.getElem_of_mem hx
    obtain ⟨j, hj, rfl⟩ := List.getElem_of_mem hy
    have e2 : (L.map f)[i]? = (L.map f)[j]? := by
      rw [List.getElem?_map, List.getElem?_map, List.getElem?_eq_getElem hi, List.getElem?_eq_getElem hj]
      show some _ = some _
      rw [e]
    have ij : i = j := (List.getElem?_inj (by rw [List.length_map]; exact hi) nd).mp e2
    subst ij
    rfl
  have n1 : L'.Nodup := nodup_of_map (pm.nodup_iff.mpr nd)
  have n2 : L.Nodup := nodup_of_map nd
  refine (List.perm_ext_iff_of_nodup n1 n2).mpr fun x => ⟨sub x, fun hx => ?_⟩
  obtain ⟨y, hy, e⟩ := List.mem_map.mp (pm.mem_iff.mpr (List.mem_map.mpr ⟨x, hx, rfl⟩))
  rw [← inj y (sub y hy) x hx e]
  exact hy
/-- x stands behind y -/
def Aft (p q : MemV) : Prop := W.dataLt q.2.data p.2.data = false
mutual
theorem data_depth : ∀ k : NestedKey, k.data.depth = k.depth
  | .none => rfl
  | .num _ => rfl
  | .text _ => rfl
  | .tup ks => by
    show PyData.depthAll (NestedKey.datas ks) + 1 = NestedKey.depthAll ks + 1
    rw [datas_depth ks]
theorem datas_depth : ∀ ks : List NestedKey, PyData.depthAll (NestedKey.datas ks) = NestedKey.depthAll ks
  | [] => rfl
  | k :: ks => by
    show max k.data.depth (PyData.depthAll (NestedKey.datas ks)) = max k.depth (NestedKey.depthAll ks)
    rw [data_depth k, datas_depth ks]
end
section
variable {X : Cx}
/-- sorted(a set): a new list, ascending -/
def rSortSet (X : Cx) : List V → Hp → VK → Prop := fun xs H Q => ∃ (b : Bool) (a : Addr) (L : List MemV), xs = [V.ref a] ∧ H a = some (SetV b X.w a L) ∧ (∀ p ∈ L, Kv X.K H p.1 p.2) ∧
  W.AllAlike (L.map (·.2.data)) ∧ W.Sortable (L.map (·.2.data)) ∧
  ∀ (L' : List MemV) (p : Addr), L'.Perm L → L'.Pairwise Aft → H p = none → Q (.ref p) (upd H p (.lst (L'.map (·.1))))
theorem vals_each : ∀ {L : List MemV} {us : List Value}, Vals (L.map (·.1)) us → W.EachIs (fun v (p : MemV) => RelV p.1 v) us L
  | [], _, r => by
    cases r
    exact .nil
  | p :: L, _, r => by
    cases r with
    | cons r1 r2 => exact .cons r1 (vals_each r2)
theorem each_vals : ∀ {us : List Value} {L : List MemV}, W.EachIs (fun v (p : MemV) => RelV p.1 v) us L → Vals (L.map (·.1)) us
  | _, _, .nil => .nil
  | _, _, .cons r t => .cons r (each_vals t)
theorem each_and {α β : Type} {R S : α → β → Prop} : ∀ {as : List α} {bs : List β}, W.EachIs R as bs → (∀ a, ∀ b ∈ bs, R a b → S a b) → W.EachIs S as bs
  | _, _, .nil, _ => .nil
  | _, _, .cons r t, h => .cons (h _ _ List.mem_cons_self r) (each_and t fun a b hb => h a b (List.mem_cons_of_mem _ hb))
theorem cr_sortSet (hc : X.calm = true) (hu : X.A.units + 64 < cLine) : CallR X (.builtin "sorted") (rSortSet X) := by
  intro pins s σ H xs us Q I r h
  obtain ⟨b, a, L, rfl, ha, hk, al, so, q⟩ := h
  rw [Vals.ref1 r]
  obtain ⟨M, es, ep, t, tw, ⟨o, ho, hex, hd⟩, eq, nd, fit, ris, full, led, few, _⟩ := (show SetV0 b X.w s.heap a L from (I.hok a _ ha).1)
  have z1 : es.size = M.length := by rw [← Array.length_toList, eq, ents, List.length_map]
  have z2 := congrArg List.length tw.2
  rw [List.length_map, List.length_map] at z2
  have ndL : (L.map (·.2)).Nodup := by
    rw [← tw.2]
    exact nd
  refine Calls.call_function_entry kind_sorted plain_sorted entry_sorted (args_sorted1 _) ?_
  unfold Builtin.«sorted»
  refine wpAny_bind (m := checkCount "sorted" 1 1 _) (wpAny_pure (wpAny_bind (collect_set (A := X.A.in1) (I.ok.hd hc) ⟨o, ho, hex.1, hd⟩ full (by rw [z1]; show M.length < 4096; omega) ris led fun s1 vs k1 hz g1 o1 pm => ?_)))
  rw [eq, ents, List.map_map] at pm
  obtain ⟨M1, e1, p1⟩ := perm_back (fun m : Mem => m.1) vs M pm
  obtain ⟨L1, t1, sub⟩ := tw.pick (N := M1) fun m hm => p1.mem_iff.mp hm
  have pL : L1.Perm L := same_keys (fun p : MemV => p.2) sub (by rw [← t1.2, ← tw.2]; exact p1.map _) ndL
  have zL : L1.length < 64 := by
    rw [pL.length_eq]
    omega
  have rv : Vals (L1.map (·.1)) vs := by
    rw [e1]
    exact t1.1
  have zv : vs.length = L1.length := by rw [← rv.length, List.length_map]
  refine wpAny_bind (wpAny_newList ?_ (by rw [zv, sizeLine_eq]; omega))
  have hoL : (s1.heap.push (seqObj "list" vs.toArray 0)).get? s1.heap.objs.size = some (seqObj "list" vs.toArray 0) := Heap.get?_push_size _ rfl
  have pd : (L1.map (·.2.data)).Perm (L.map (·.2.data)) := pL.map _
  have al1 : W.AllAlike (L1.map (·.2.data)) := fun d hd d' hd' => al d (pd.mem_iff.mp hd) d' (pd.mem_iff.mp hd')
  have so1 : W.Sortable (L1.map (·.2.data)) := so.imp (fun h d hd => h d (pd.mem_iff.mp hd)) fun h d hd => h d (pd.mem_iff.mp hd)
  have dep : ∀ p ∈ L1, p.2.data.depth ≤ 8 := fun p hp => by
    have e : p.2 ∈ M.map (·.2) := by
      rw [tw.2]
      exact List.mem_map.mpr ⟨p, sub p hp, rfl⟩
    obtain ⟨m, hm, em⟩ := List.mem_map.mp e
    rw [data_depth, ← em]
    exact fit_depth (fit m hm)
  refine wpAny_bind (wpAny_holding (W.list_sort_data (s := { s1 with heap := s1.heap.push (seqObj "list" vs.toArray 0) }) hoL (vals_each rv) (each_and (vals_each rv) fun v p hp r0 => ⟨[], ?_, by simp⟩) al1 so1 (by rw [sizeLine_eq]; omega) (fun p hp => by have := dep p hp; simp only [Around.in1_units]; omega) fun out zo eo => ?_))
  · exact PyProof.Rows.Reads.keeps (fun b u e => Heap.get?_push_of_some _ (k1 b u e)) (Kv.reads I p.2 p.1 v (hk p (sub p hp)) r0).2
  · obtain ⟨c, hc2⟩ := sortedHeap_at (vs := vs) (out := List.toArray out) hoL
    have pS := List.mergeSort_perm L1 (W.dataLe false fun p : MemV => p.2.data)
    have oS : (L1.mergeSort (W.dataLe false fun p : MemV => p.2.data)).Pairwise Aft := by
      refine (W.sort_pairwise (W.sortLe_total _ false _) L1).imp fun {p q} hle => ?_
      have h2 : (!W.dataLt q.2.data p.2.data) = true := hle
      show W.dataLt q.2.data p.2.data = false
      cases e : W.dataLt q.2.data p.2.data with
      | false => rfl
      | true =>
        rw [e] at h2
        cases h2
    have rS := each_vals eo
    generalize L1.mergeSort (W.dataLe false fun p : MemV => p.2.data) = S at pS oS rS
    have hn : H s1.heap.objs.size = none := I.hok.fresh hz
    have keep : ∀ b u, s.heap.get? b = some u → (sortedHeap (s1.heap.push (seqObj "list" vs.toArray 0)) s1.heap.objs.size vs (List.toArray out)).get? b = some u := fun b u e => by
      have e2 := k1 b u e
      have lt := Heap.lt_size e2
      rw [sortedHeap_old (Nat.ne_of_lt lt) (by rw [size_push']; exact Nat.lt_succ_of_lt lt)]
      exact Heap.get?_push_of_some _ e2
    have len : (S.map (·.1)).length ≤ sizeLine := by
      rw [List.length_map, pS.length_eq, sizeLine_eq]
      omega
    have J : Inv X pins σ (upd H s1.heap.objs.size (.lst (S.map (·.1)))) { s with heap := sortedHeap (s1.heap.push (seqObj "list" vs.toArray 0)) s1.heap.objs.size vs (List.toArray out), gens := s1.gens, drawn := s1.drawn, toks := s1.toks } :=
      I.call (ch := []) (Un.laid keep hz hn) (I.hok.laid keep hz ⟨len, out, c, rS, by simpa using hc2⟩) (by rw [g1]; exact I.bare) (fun _ z => nomatch z)
    obtain ⟨hp1, gn1, dr1, tk1, os1⟩ := s1
    have eo1 : os1 = s.os := o1
    subst eo1
    exact wpAny_pure ⟨_, rfl, ⟨.ref hp1.objs.size, _, J, rfl, q S hp1.objs.size (pS.trans pL) oS hn⟩⟩
end
end KS
/-! Defs that are called where no repr is under way: their promise may lean on repr. -/
namespace KG
open PySem PySem.Spec PyProof.Rows L2

/-- a def's promise where nothing is being shown -/
structure FnG (P : Program) (w : World) (K : PySem.W.Frag) (mg : Str → Option Value) (base : Heap) (CX : CXT) (k : Nat) (f : Addr) (fd : FuncData) (ps : List Str) (sp : Sp) : Prop where
  size : ∀ vs H Q E, sp vs H Q E → vs.length = ps.length
  go : ∀ (A : Around) (outer : List Env) (s : Shared) (H : Hp) (args : Args) (us : List Value) (vs : List V) (Q : VK) (E : XK),
    A.guards = some [] → Room k A → Env0 P w K mg base A outer s H → BindsTo s fd args (ps.zip us) → Vals vs us → sp vs H Q E →
    codeAny (model P w) A (.call (.ref f) args) (CR CX outer P w H s Q E) s

section
variable {P : Program} {w : World} {K : PySem.W.Frag} {mg : Str → Option Value} {base : Heap} {CX : CXT} {k : Nat} {f : Addr} {fd : FuncData} {ps : List Str} {sp : Sp}
theorem FnG.of (F : FnOk P w K mg base CX k f fd ps sp) : FnG P w K mg base CX k f fd ps sp :=
  ⟨F.len, fun A outer s H args us vs Q E _ => F.run A outer s H args us vs Q E⟩
theorem FnG.up {j : Nat} (F : FnG P w K mg base CX j f fd ps sp) (h : j ≤ k) : FnG P w K mg base CX k f fd ps sp :=
  ⟨F.size, fun A outer s H args us vs Q E g hr => F.go A outer s H args us vs Q E g (hr.mono h)⟩

/-- the body's rule, where nothing is being shown -/
theorem okG {x qual : Str} {st : Stmt} {N : List Str} (F : Fun K x qual st f fd) (S : FnScope N ps (defScope st)) (len : ∀ vs H Q E, sp vs H Q E → vs.length = ps.length)
    (hbody : ∀ (cdv : Value) (A : Around) (outer : List Env) (s : Shared) (H : Hp) (vs : List V) (Q : VK) (E : XK),
      (A.deeper (envOfC qual (defScope st) s.heap.objs.size f cdv)).guards = some [] → Room k (A.deeper (envOfC qual (defScope st) s.heap.objs.size f cdv)) → sp vs H Q E →
      ∃ t, PSs (cxOf CX P w K mg base N qual (defScope st) f cdv A outer s H E) (defBody st) t ∧ t { nx := fun _ H' => Q .non H', rt := Q } (start N vs) H) :
    FnG P w K mg base CX (k + 1) f fd ps sp := by
  obtain ⟨oc, od, kV, doc, pm, an, cdv, ct, osl, rfl, lk, hcd⟩ := F.ex
  refine ⟨len, fun A outer s H args us vs Q E hg hr e0 hb rv h => ?_⟩
  refine StX.run_bnd (G := fun xs H2 => xs = vs ∧ H2 = H) lk hcd S hr e0 (fun A' Ex Q' hq => ?_) ?_
  · exact hb _ _ _ _ (hq s H vs us e0 Un.refl rfl (fun _ _ z => z) rv (len _ _ _ _ h) ⟨rfl, rfl⟩)
  · rintro s2 H2 xs ⟨ex, eH⟩ hr2
    rw [ex, eH]
    have hg2 : (A.deeper (envOfC qual (defScope st) s2.heap.objs.size f cdv)).guards = some [] := hg
    rw [eH] at *
    exact hbody cdv A outer s2 H vs Q E hg2 hr2 h
end

section
variable {X : Cx} {CX : CXT} {k : Nat} {f : Addr} {fd : FuncData} {ps : List Str} {sp : Sp} {dvs : List V} {ds : List Value} {E : XK} {x : Str} {p pos : Pos} {e : Expr} {es : List Expr} {t : TA}
/-- f(e, ..) where nothing is being shown -/
theorem pe_callG (F : FnG X.prog X.w X.K X.mg X.base CX k f fd ps sp) (hgu : X.A.guards = some []) (hr : Room k X.A) (hg : Gl X x) (hm : X.mg x = some (.ref f)) (hk : PySem.W.keepIn X.K (.ref f) = true)
    (hb : Binds X.K fd ps ds) (hd : Vals dvs ds) (hx : Passes CX X E) (ha : PA X (e :: es) t) (hdb : (x == ("__debug__" : Str)) = false := by decide)
    (he : starEach (e :: es) X.env = (false, eval e X.env) :: starEach es X.env := by rfl) (hpl : (backTo pos (starEach es X.env)).any (·.1) = false := by rfl) :
    PE X (.Call (.Name x p) (e :: es) [] pos) (tCall sp dvs E t) := by
  constructor
  intro pins s σ H Q I h
  apply wpAny_Call_Name_kw (ld_glob I hg hm ?_ hdb)
  apply PySem.W.callWith_K (h₀ := X.base) I.ok.mod.kin hk ?_ he hpl
  apply thn (ha.run pos pins s σ H _ I h)
  rintro us s1 ⟨vs, H1, I1, r, q⟩
  refine ⟨I1.kIn, ?_⟩
  have r2 : Vals (vs ++ dvs) (us ++ ds) := Vals.append r hd
  have hl : (us ++ ds).length = ps.length := by
    rw [← Paired.length r2]
    exact F.size _ _ _ _ q
  show wpAny _ _ (call (.ref f) us) _ _ _
  refine wpAny_call (codeAny_mono (F.go X.A X.stack s1 H1 ⟨us, []⟩ (us ++ ds) (vs ++ dvs) Q E hgu hr I1.env0 (hb s1 us I1.kIn hl) r2 q) ?_)
  rintro (er | fl) s' hq
  · exact hx pins σ H1 s1 er s' I1 hq
  · cases fl with
    | ret u => exact Inv.after I1 hq
    | next => exact hq.elim
    | brk => exact hq.elim
    | cont => exact hq.elim
end
end KG
namespace KG
open PySem PySem.Spec PyProof.Rows L2

mutual
/-- what is built of None, bools, ints, texts, lists, tuples and dicts that stand in the abstract heap, at addresses of Z alone -/
inductive Dq (Z : Addr → Prop) (H : Hp) : V → PyData → Prop
  | non : Dq Z H .non .none
  | bl (b : Bool) : Dq Z H (.bl b) (.bool b)
  | int (i : Int) : Dq Z H (.int i) (.int i)
  | str (x : Str) : Dq Z H (.str x) (.str x)
  | lst {a : Addr} {xs : List V} {ds : List PyData} : Z a → H a = some (.lst xs) → DqAll Z H xs ds → Dq Z H (.ref a) (.list ds)
  | tup {a : Addr} {xs : List V} {ds : List PyData} : Z a → H a = some (.tup xs) → DqAll Z H xs ds → Dq Z H (.ref a) (.tuple ds)
  | dct {a : Addr} {kvs : List (Key × V)} {ps : List (PyData × PyData)} : Z a → H a = some (.dK kvs) →
      DqAll Z H (kvs.map fun p => kV p.1) (ps.map (·.1)) → DqAll Z H (kvs.map fun p => p.2) (ps.map (·.2)) → Dq Z H (.ref a) (.dict ps)
inductive DqAll (Z : Addr → Prop) (H : Hp) : List V → List PyData → Prop
  | nil : DqAll Z H [] []
  | cons {v : V} {vs : List V} {d : PyData} {ds : List PyData} : Dq Z H v d → DqAll Z H vs ds → DqAll Z H (v :: vs) (d :: ds)
end

section
variable {Z : Addr → Prop} {H H' : Hp}
mutual
theorem Dq.keep (e : ∀ b o, Z b → H b = some o → H' b = some o) : ∀ {v : V} {d : PyData}, Dq Z H v d → Dq Z H' v d
  | _, _, .non => .non
  | _, _, .bl b => .bl b
  | _, _, .int i => .int i
  | _, _, .str x => .str x
  | _, _, .lst z h a => .lst z (e _ _ z h) (DqAll.keep e a)
  | _, _, .tup z h a => .tup z (e _ _ z h) (DqAll.keep e a)
  | _, _, .dct z h a b => .dct z (e _ _ z h) (DqAll.keep e a) (DqAll.keep e b)
theorem DqAll.keep (e : ∀ b o, Z b → H b = some o → H' b = some o) : ∀ {vs : List V} {ds : List PyData}, DqAll Z H vs ds → DqAll Z H' vs ds
  | _, _, .nil => .nil
  | _, _, .cons a b => .cons (Dq.keep e a) (DqAll.keep e b)
end
mutual
theorem Dq.mono {Z' : Addr → Prop} (e : ∀ b, Z b → Z' b) : ∀ {v : V} {d : PyData}, Dq Z H v d → Dq Z' H v d
  | _, _, .non => .non
  | _, _, .bl b => .bl b
  | _, _, .int i => .int i
  | _, _, .str x => .str x
  | _, _, .lst z h a => .lst (e _ z) h (DqAll.mono e a)
  | _, _, .tup z h a => .tup (e _ z) h (DqAll.mono e a)
  | _, _, .dct z h a b => .dct (e _ z) h (DqAll.mono e a) (DqAll.mono e b)
theorem DqAll.mono {Z' : Addr → Prop} (e : ∀ b, Z b → Z' b) : ∀ {vs : List V} {ds : List PyData}, DqAll Z H vs ds → DqAll Z' H vs ds
  | _, _, .nil => .nil
  | _, _, .cons a b => .cons (Dq.mono e a) (DqAll.mono e b)
end
theorem Dq.same (e : Same H H') {v : V} {d : PyData} (h : Dq Z H v d) : Dq Z H' v d := h.keep fun b o _ q => e b o q
theorem DqAll.same (e : Same H H') {vs : List V} {ds : List PyData} (h : DqAll Z H vs ds) : DqAll Z H' vs ds := h.keep fun b o _ q => e b o q
theorem DqAll.length : ∀ {vs : List V} {ds : List PyData}, DqAll Z H vs ds → vs.length = ds.length
  | _, _, .nil => rfl
  | _, _, .cons _ b => congrArg (· + 1) (DqAll.length b)
theorem DqAll.snoc {v : V} {d : PyData} (h : Dq Z H v d) : ∀ {vs : List V} {ds : List PyData}, DqAll Z H vs ds → DqAll Z H (vs ++ [v]) (ds ++ [d])
  | _, _, .nil => .cons h .nil
  | _, _, .cons a b => .cons a (DqAll.snoc h b)
end
mutual
/-- at most how long the text of data is -/
def cost : PyData → Nat
  | .none => 4
  | .bool _ => 5
  | .int i => i.natAbs.log2 + 3
  | .str x => (reprText x).length
  | .list xs => costAll xs + 4
  | .tuple xs => costAll xs + 6
  | .dict kvs => costKv kvs + 4
def costAll : List PyData → Nat
  | [] => 0
  | x :: xs => cost x + 2 + costAll xs
def costKv : List (PyData × PyData) → Nat
  | [] => 0
  | (k, v) :: r => cost k + cost v + 4 + costKv r
end
theorem list_len (ts : List Str) : (listText ts).length ≤ piled ts + 2 := by
  have h : (listText ts).length = (textFrom 0 "[" ts).length + 1 := by
    show (textFrom 0 "[" ts ++ "]").length = _
    rw [strLen_append]; rfl
  cases ts with
  | nil => rw [h]; exact Nat.le_refl _
  | cons t r =>
    have e : textFrom 0 "[" (t :: r) = textFrom 1 (("[" : Str) ++ (if 0 > 0 then ", " else "" : String) ++ t) r := rfl
    rw [h, e, textFrom_length_pos r 1 _ (by decide), strLen_append, strLen_append]
    show 1 + 0 + t.length + piled r + 1 ≤ t.length + 2 + piled r + 2
    omega
theorem tuple_len (ts : List Str) : (tupleText ts).length ≤ piled ts + 4 := by
  have h : (tupleText ts).length ≤ 1 + (Str.join ", " ts).length + 2 := by
    unfold tupleText
    rw [strLen_append, strLen_append]
    have : (Str.ofString (if ts.length == 1 then ",)" else ")" : String)).length ≤ 2 := by
      split <;> decide
    have e : (("(" : Str)).length = 1 := rfl
    omega
  cases ts with
  | nil => exact Nat.le_trans h (by decide)
  | cons t r =>
    have := join_length_add (t :: r) (by simp)
    omega
theorem dict_len (ts : List Str) : (dictText ts).length ≤ piled ts + 2 := by
  have h : (dictText ts).length = 1 + (Str.join ", " ts).length + 1 := by
    unfold dictText
    rw [strLen_append, strLen_append]
    rfl
  cases ts with
  | nil => exact Nat.le_trans (Nat.le_of_eq h) (by decide)
  | cons t r =>
    have := join_length_add (t :: r) (by simp)
    omega
mutual
theorem shown_cost : ∀ d : PyData, d.shown.length ≤ cost d
  | .none => by simp only [PyData.shown, cost]; decide
  | .bool b => by cases b <;> simp only [PyData.shown, cost] <;> decide
  | .int i => by
    simp only [PyData.shown, cost]
    have := int_text_length_le (a := i) (k := i.natAbs.log2 + 1) (by omega) (by omega)
    rw [PySem.ofString_length]
    omega
  | .str x => by simp only [PyData.shown, cost]; exact Nat.le_refl _
  | .list xs => by
    simp only [PyData.shown, cost]
    have := list_len (PyData.shownAll xs)
    have := shownAll_cost xs
    omega
  | .tuple xs => by
    simp only [PyData.shown, cost]
    have := tuple_len (PyData.shownAll xs)
    have := shownAll_cost xs
    omega
  | .dict kvs => by
    simp only [PyData.shown, cost]
    have := dict_len (PyData.shownKv kvs)
    have := shownKv_cost kvs
    omega
theorem shownAll_cost : ∀ xs : List PyData, piled (PyData.shownAll xs) ≤ costAll xs
  | [] => by simp only [PyData.shownAll, costAll]; exact Nat.le_refl _
  | x :: xs => by
    have := shown_cost x
    have := shownAll_cost xs
    have e : piled (PyData.shownAll (x :: xs)) = (x.shown.length + 2) + piled (PyData.shownAll xs) := by simp only [PyData.shownAll, piled, List.map_cons, List.sum_cons]
    rw [e]
    simp only [costAll]
    omega
theorem shownKv_cost : ∀ kvs : List (PyData × PyData), piled (PyData.shownKv kvs) ≤ costKv kvs
  | [] => by simp only [PyData.shownKv, costKv]; exact Nat.le_refl _
  | (k, v) :: r => by
    have h1 := shown_cost k
    have h2 := shown_cost v
    have h3 := shownKv_cost r
    have e : ((": " : Str)).length = 2 := rfl
    have q : piled (PyData.shownKv ((k, v) :: r)) = ((k.shown ++ ": " ++ v.shown).length + 2) + piled (PyData.shownKv r) := by simp only [PyData.shownKv, piled, List.map_cons, List.sum_cons]
    rw [q, strLen_append, strLen_append, e]
    simp only [costKv]
    omega
end

theorem rel_key {P : Program} {w : World} {k : Key} {u : Value} (h : (mixKind P w).is k u = true) : RelV (kV k) u := by
  rcases keyIs_shape h with ⟨i, t, rfl, rfl⟩ | ⟨x, t, rfl, rfl⟩
  · exact ⟨t, rfl⟩
  · exact ⟨t, rfl⟩
theorem pairs_keys {P : Program} {w : World} : ∀ {es : List DictEntry} {vs : List (Key × Value)} {kvs : List (Key × V)}, Pairs (mixKind P w) es vs → KV kvs vs →
    Vals (kvs.map fun p => kV p.1) (es.map (·.key)) ∧ Vals (kvs.map fun p => p.2) (es.map (·.val))
  | _, _, _, .nil, .nil => ⟨.nil, .nil⟩
  | _, _, _, .cons h1 h2 h3, .cons h4 h5 => by
    obtain ⟨e1, e2⟩ := h4
    obtain ⟨i1, i2⟩ := pairs_keys h3 h5
    refine ⟨.cons ?_ i1, .cons ?_ i2⟩
    · show RelV (kV _) _
      rw [e1]
      exact rel_key h1
    · show L2.RelV _ (DictEntry.val _)
      rw [h2]
      exact e2

section
variable {X : Cx} {pins : List (Addr × Obj)} {σ : L2.St} {H : Hp} {s : Shared} {Z : Addr → Prop}
theorem shown_mem {ds : List PyData} {n : Nat} (f : List Str → Str) (hf : ∀ {ts : List Str} {t : Str}, t ∈ ts → t.length ≤ (f ts).length) (h : (f (PyData.shownAll ds)).length ≤ n) : ∀ t ∈ PyData.shownAll ds, t.length ≤ n :=
  fun _ ht => Nat.le_trans (hf ht) h
mutual
theorem Dq.shows (I : Inv X pins σ H s) : ∀ {v : V} {d : PyData}, Dq Z H v d → ∀ (u : Value), RelV v u → d.showable = true → d.shown.length ≤ sizeLine →
    ∃ as bs, Reads s.heap u d as ∧ ReadAtMost s.heap d.depth bs ∧ ReprK X.prog X.w bs s.heap d.depth u d.shown
  | _, _, .non, u, r, _, _ => by
    obtain rfl : u = Value.none := r
    exact ⟨[], [], .none, (fun _ h => nomatch h), by simp only [PyData.shown]; exact .of_is ReprIs.none _ _ _⟩
  | _, _, .bl b, u, r, _, _ => by
    obtain rfl : u = Value.bool b := r
    exact ⟨[], [], .bool b, (fun _ h => nomatch h), by simp only [PyData.shown]; exact .of_is (ReprIs.bool b) _ _ _⟩
  | _, _, .int i, u, r, hs, _ => by
    obtain ⟨t, rfl⟩ := r
    exact ⟨[], [], .int i t, (fun _ h => nomatch h), by simp only [PyData.shown]; exact .of_is (ReprIs.int t (by simpa [PyData.showable] using hs)) _ _ _⟩
  | _, _, .str x, u, r, _, hz => by
    obtain ⟨t, rfl⟩ := r
    exact ⟨[], [], .str x t, (fun _ h => nomatch h), by simp only [PyData.shown] at hz ⊢; exact .of_is (ReprIs.str x t hz) _ _ _⟩
  | _, _, .lst (a := a) (ds := ds) _ ha hd, u, r, hs, hz => by
    obtain rfl : u = Value.ref a := r
    simp only [PyData.shown, PyData.showable] at hs hz
    obtain ⟨_, its, n, rv, ho⟩ := (show ObjOk X.prog X.w H s.heap a (.lst _) from I.hok a _ ha)
    obtain ⟨as, bs, q1, q2, q3⟩ := DqAll.shows I hd its rv hs (shown_mem listText listText_mem_le hz)
    have rr : Reads s.heap (.ref a) (.list ds) (a :: as) := .list ho rfl rfl (by simpa using q1)
    have hna : a ∉ bs := not_mem_of_deeper rr (by simp only [PyData.depth]; omega) q2
    refine ⟨_, a :: bs, rr, ReadAtMost.cons rr (by simp only [PyData.depth]; omega) q2, ?_⟩
    simp only [PyData.depth, PyData.shown]
    cases its with
    | nil =>
      cases q1
      simp only [PyData.shownAll, listText_nil]
      exact ReprK.listEmpty ho rfl rfl
    | cons x l => exact ReprK.list ho rfl rfl hna (by simpa using q3.length_eq) (fun i y e => q3.item i y (by simpa using e))
  | _, _, .tup (a := a) (ds := ds) _ ha hd, u, r, hs, hz => by
    obtain rfl : u = Value.ref a := r
    simp only [PyData.shown, PyData.showable] at hs hz
    obtain ⟨_, its, rv, o, ho, hc, n, hdat⟩ := (show ObjOk X.prog X.w H s.heap a (.tup _) from I.hok a _ ha)
    obtain ⟨as, bs, q1, q2, q3⟩ := DqAll.shows I hd its rv hs (shown_mem tupleText tupleText_mem_le hz)
    have rr : Reads s.heap (.ref a) (.tuple ds) as := .tuple ho hc hdat (by simpa using q1)
    have hna : a ∉ bs := not_mem_of_deeper rr (by simp only [PyData.depth]; omega) q2
    refine ⟨_, a :: bs, rr, ReadAtMost.cons rr (by simp only [PyData.depth]; omega) q2, ?_⟩
    simp only [PyData.depth, PyData.shown]
    exact ReprK.tuple ho hc hdat hna (by simpa using q3)
  | _, _, .dct (a := a) (ps := ps) _ ha hk hv, u, r, hs, hz => by
    obtain rfl : u = Value.ref a := r
    simp only [PyData.shown, PyData.showable] at hs hz
    obtain ⟨_, hsy, vs, rel, o, es, ep, ho, hx, hdat, _, prs, _⟩ := dk_of I.hok ha
    obtain ⟨r1, r2⟩ := pairs_keys prs rel
    obtain ⟨hs1, hs2⟩ := PyData.showableKv_split ps hs
    obtain ⟨as1, b1, q1, q2, q3⟩ := DqAll.shows I hk _ r1 hs1 (fun t ht => let ⟨p, hp, hl⟩ := PyData.shownKv_key_le ps t ht; Nat.le_trans hl (Nat.le_trans (dictText_mem_le hp) hz))
    obtain ⟨as2, b2, p1, p2, p3⟩ := DqAll.shows I hv _ r2 hs2 (fun t ht => let ⟨p, hp, hl⟩ := PyData.shownKv_val_le ps t ht; Nat.le_trans hl (Nat.le_trans (dictText_mem_le hp) hz))
    have hb : ReadAtMost s.heap (PyData.depthKv ps) (b1 ++ b2) := (q2.mono (PyData.depthAll_keys_le ps)).append (p2.mono (PyData.depthAll_vals_le ps))
    have rr : Reads s.heap (.ref a) (.dict ps) (a :: as1 ++ as2) := .dict ho hx.1 hdat q1 p1
    have hna : a ∉ b1 ++ b2 := not_mem_of_deeper rr (by simp only [PyData.depth]; omega) hb
    refine ⟨_, a :: (b1 ++ b2), rr, ReadAtMost.cons rr (by simp only [PyData.depth]; omega) hb, ?_⟩
    simp only [PyData.depth, PyData.shown, PyData.shownKv_eq]
    exact ReprK.dict ho hx.1 hdat hsy hna (ReprEntriesK.of_two es.toList _ _ (q3.more_le (fun b hb => List.mem_append_left _ hb) (PyData.depthAll_keys_le ps))
      (p3.more_le (fun b hb => List.mem_append_right _ hb) (PyData.depthAll_vals_le ps)))
theorem DqAll.shows (I : Inv X pins σ H s) : ∀ {xs : List V} {ds : List PyData}, DqAll Z H xs ds → ∀ (us : List Value), Vals xs us → PyData.showableAll ds = true → (∀ t ∈ PyData.shownAll ds, t.length ≤ sizeLine) →
    ∃ as bs, ReadsAll s.heap us ds as ∧ ReadAtMost s.heap (PyData.depthAll ds) bs ∧ ReprAllK X.prog X.w bs s.heap (PyData.depthAll ds) us (PyData.shownAll ds)
  | _, _, .nil, us, r, _, _ => by
    cases r
    exact ⟨[], [], .nil, (fun _ h => nomatch h), by simp only [PyData.shownAll]; exact .nil⟩
  | _, _, .cons (d := d) (ds := ds) h1 h2, us, r, hs, hz => by
    cases r with
    | cons r1 r2 =>
      simp only [PyData.showableAll, Bool.and_eq_true] at hs
      obtain ⟨as1, b1, q1, q2, q3⟩ := Dq.shows I h1 _ r1 hs.1 (hz _ (by simp only [PyData.shownAll]; exact List.mem_cons_self ..))
      obtain ⟨as2, b2, p1, p2, p3⟩ := DqAll.shows I h2 _ r2 hs.2 (fun t ht => hz t (by simp only [PyData.shownAll]; exact List.mem_cons_of_mem _ ht))
      refine ⟨as1 ++ as2, b1 ++ b2, .cons q1 p1, ?_, ?_⟩
      · simp only [PyData.depthAll]
        exact (q2.mono (Nat.le_max_left _ _)).append (p2.mono (Nat.le_max_right _ _))
      · simp only [PyData.depthAll, PyData.shownAll]
        exact .cons ((q3.more fun b hb => List.mem_append_left _ hb).level_le (Nat.le_max_left _ _)) (p3.more_le (fun b hb => List.mem_append_right _ hb) (Nat.le_max_right _ _))
end

/-- repr(x) of data -/
def rRepr : List V → Hp → VK → Prop := fun xs H Q => ∃ (Z : Addr → Prop) (x : V) (d : PyData), xs = [x] ∧ Dq Z H x d ∧ d.showable = true ∧ d.depth ≤ 60 ∧ d.shown.length ≤ sizeLine ∧ Q (.str d.shown) H
theorem call_repr (hg : X.A.guards = some []) (hu : X.A.units + 64 < cLine) : CallR X (.builtin "repr") rRepr := by
  intro pins s σ H xs us Q I r h
  obtain ⟨Z, x, d, rfl, hd, hs, hdp, hz, q⟩ := h
  obtain ⟨u, rfl, rx⟩ := vals1 r
  have fin : ∀ (h' : Heap) (tu : Tok) (tk : Nat), (∀ b o, s.heap.get? b = some o → h'.get? b = some o) → EP X pins σ Q (.str d.shown tu) { s with heap := h', toks := tk } := fun h' tu tk k =>
    ⟨.str d.shown, H, I.kept k, ⟨tu, rfl⟩, q⟩
  have hu2 : X.A.units + 1 < cLine := by omega
  have big : ∀ {n : Nat}, n + 1 ≤ 60 → X.A.in1.units + (n + 1) < cLine := fun {n} hn => by
    show X.A.units + 1 + (n + 1) < cLine
    omega
  obtain ⟨as, bs, rd, ra, rk⟩ := Dq.shows I hd u rx hs hz
  cases hd with
  | non =>
    obtain rfl : u = Value.none := rx
    simp only [PyData.shown] at fin
    exact PySem.P.repr_of_none (fin s.heap _ _ fun _ _ e => e)
  | bl b =>
    obtain rfl : u = Value.bool b := rx
    simp only [PyData.shown] at fin
    exact PySem.P.repr_of_bool (fin s.heap _ _ fun _ _ e => e)
  | int i =>
    obtain ⟨t, rfl⟩ := rx
    simp only [PyData.shown, PyData.showable] at fin hs
    exact PySem.P.repr_of_int (by simpa using hs) (fin s.heap _ _ fun _ _ e => e)
  | str y =>
    obtain ⟨t, rfl⟩ := rx
    simp only [PyData.shown] at fin hz
    exact PySem.P.repr_of_str (fin s.heap _ _ fun _ _ e => e) hz
  | @lst a xs ds _ ha hd =>
    obtain rfl : u = Value.ref a := rx
    simp only [PyData.shown, PyData.showable, PyData.depth] at fin hs hz hdp
    obtain ⟨_, its, n, rv, ho⟩ := (show ObjOk X.prog X.w H s.heap a (.lst _) from I.hok a _ ha)
    obtain ⟨as1, b1, q1, q2, q3⟩ := DqAll.shows I hd its rv hs (shown_mem listText listText_mem_le hz)
    have rr : Reads s.heap (.ref a) (.list ds) (a :: as1) := .list ho rfl rfl (by simpa using q1)
    have hna : a ∉ b1 := not_mem_of_deeper rr (by simp only [PyData.depth]; omega) q2
    cases its with
    | nil =>
      cases q1
      simp only [PyData.shownAll, listText_nil] at fin
      exact call_repr_slot hu2 ⟨_, ho, rfl⟩ F.slot_list_repr.toG (call_list_repr_empty ⟨_, ho, rfl⟩ ho rfl ⟨_, _, rfl, fin s.heap _ _ fun _ _ e => e⟩)
    | cons x l =>
      exact call_repr_slot hu2 ⟨_, ho, rfl⟩ F.slot_list_repr.toG (call_list_reprK (h₀ := s.heap) ho rfl rfl hna (by simpa using q3.length_eq) (fun i y e => q3.item i y (by simpa using e)) hg (fun b _ => Clear.nil b) (big hdp)
        (fun _ _ e => e) (fun h' t tk k => ⟨_, _, rfl, fin h' _ _ k⟩) hz)
  | @tup a xs ds _ ha hd =>
    obtain rfl : u = Value.ref a := rx
    simp only [PyData.shown, PyData.showable, PyData.depth] at fin hs hz hdp
    obtain ⟨_, its, rv, o, ho, hc, n, hdat⟩ := (show ObjOk X.prog X.w H s.heap a (.tup _) from I.hok a _ ha)
    obtain ⟨as1, b1, q1, q2, q3⟩ := DqAll.shows I hd its rv hs (shown_mem tupleText tupleText_mem_le hz)
    have rr : Reads s.heap (.ref a) (.tuple ds) as1 := .tuple ho hc hdat (by simpa using q1)
    have hna : a ∉ b1 := not_mem_of_deeper rr (by simp only [PyData.depth]; omega) q2
    exact call_repr_slot hu2 ⟨_, ho, hc⟩ F.slot_tuple_repr (call_tuple_reprK (h₀ := s.heap) ho hc hdat hna (by simpa using q3) hg (fun b _ => Clear.nil b) (big hdp) (fun _ _ e => e) (fun h' t tk k => ⟨_, _, rfl, fin h' _ _ k⟩) hz)
  | @dct a kvs ps _ ha hk hv =>
    obtain rfl : u = Value.ref a := rx
    simp only [PyData.shown, PyData.showable, PyData.depth, PyData.shownKv_eq] at fin hs hz hdp
    rw [← PyData.shownKv_eq] at hz
    obtain ⟨_, hsy, vs, rel, o, es, ep, ho, hx, hdat, _, prs, _⟩ := dk_of I.hok ha
    obtain ⟨r1, r2⟩ := pairs_keys prs rel
    obtain ⟨hs1, hs2⟩ := PyData.showableKv_split ps hs
    obtain ⟨as1, b1, q1, q2, q3⟩ := DqAll.shows I hk _ r1 hs1 (fun t ht => let ⟨p, hp, hl⟩ := PyData.shownKv_key_le ps t ht; Nat.le_trans hl (Nat.le_trans (dictText_mem_le hp) hz))
    obtain ⟨as2, b2, p1, p2, p3⟩ := DqAll.shows I hv _ r2 hs2 (fun t ht => let ⟨p, hp, hl⟩ := PyData.shownKv_val_le ps t ht; Nat.le_trans hl (Nat.le_trans (dictText_mem_le hp) hz))
    have hb : ReadAtMost s.heap (PyData.depthKv ps) (b1 ++ b2) := (q2.mono (PyData.depthAll_keys_le ps)).append (p2.mono (PyData.depthAll_vals_le ps))
    have rr : Reads s.heap (.ref a) (.dict ps) (a :: as1 ++ as2) := .dict ho hx.1 hdat q1 p1
    have hna : a ∉ b1 ++ b2 := not_mem_of_deeper rr (by simp only [PyData.depth]; omega) hb
    exact call_repr_slot hu2 ⟨_, ho, hx.1⟩ F.slot_dict_repr (call_dict_reprK (h₀ := s.heap) ho hx.1 hdat hsy hna (ReprEntriesK.of_two es.toList _ _ (q3.more_le (fun b hb => List.mem_append_left _ hb) (PyData.depthAll_keys_le ps))
      (p3.more_le (fun b hb => List.mem_append_right _ hb) (PyData.depthAll_vals_le ps))) hg (fun b _ => Clear.nil b) (big hdp) (fun _ _ e => e) (fun h' t tk k => ⟨_, _, rfl, fin h' _ _ k⟩) (by rw [← PyData.shownKv_eq]; exact hz))
end
end KG
/-! The deck: a dict with cells to come, a mixed number, a count of draws. -/
namespace K01
open PySem PySem.Spec PyProof.Rows L2 KG

def top (i : Nat) : Stmt := PySem.Challenge.pw_clashnumber_k36_closings_returned.main.body.getD i (.Pass ⟨0, 0, 0, 0⟩)
/-- a def of the text: where it stands -/
structure FnF (K : PySem.W.Frag) (mg : Str → Option Value) (name qual : Str) (st : Stmt) where
  a : Addr
  d : FuncData
  F : Fun K name qual st a d
  g : mg name = some (.ref a)
/-- the names that are still built in -/
structure Bi (mg : Str → Option Value) : Prop where
  n_list : mg "list" = none
  n_int : mg "int" = none
  n_len : mg "len" = none
  n_range : mg "range" = none
  n_tuple : mg "tuple" = none
  n_repr : mg "repr" = none
  n_isinstance : mg "isinstance" = none
abbrev s__law_deck : Stmt := top 30
abbrev s__law_draw : Stmt := top 31
abbrev s__law_pick : Stmt := top 32

/-! ### the deck in the heap -/
def dkv (l : Addr) (m n : Int) : List (Key × V) := [(.inr "items", .ref l), (.inr "total", .int m), (.inr "draws", .int n)]
structure DeckAt (H : Hp) (a l : Addr) (k : Nat) : Prop where
  ex : ∃ (cs : List Int) (m : Int) (n : Nat), H a = some (.dK (dkv l m n)) ∧ H l = some (.lst (cs.map .int)) ∧ cs.length ≤ 63 ∧ 0 ≤ m ∧ m < 2147483629 ∧ n ≤ k
/-- all but the deck's two objects stands -/
def Off (a l : Addr) (H H' : Hp) : Prop := ∀ b o, H b = some o → b ≠ a → b ≠ l → H' b = some o
theorem Off.refl {a l : Addr} {H : Hp} : Off a l H H := fun _ _ h _ _ => h
theorem Off.trans {a l : Addr} {H H1 H2 : Hp} (x : Off a l H H1) (y : Off a l H1 H2) : Off a l H H2 := fun b o h h1 h2 => y b o (x b o h h1 h2) h1 h2
theorem Off.of {a l : Addr} {H H' : Hp} (x : Same H H') : Off a l H H' := fun b o h _ _ => x b o h
theorem DeckAt.up {H : Hp} {a l : Addr} {j k : Nat} (x : DeckAt H a l j) (h : j ≤ k) : DeckAt H a l k := by
  obtain ⟨cs, m, n, h1, h2, h3, h4, h5, h6⟩ := x.ex
  exact ⟨cs, m, n, h1, h2, h3, h4, h5, Nat.le_trans h6 h⟩
theorem DeckAt.same {H H' : Hp} {a l : Addr} {k : Nat} (x : DeckAt H a l k) (e : Same H H') : DeckAt H' a l k := by
  obtain ⟨cs, m, n, h1, h2, h3⟩ := x.ex
  exact ⟨cs, m, n, e _ _ h1, e _ _ h2, h3⟩

theorem val_cells (l : Addr) (m n : Int) : valV (dkv l m n) (.inr "items") = some (.ref l) := by
  show valV [_, _, _] _ = _
  simp [valV]
theorem val_mixed (l : Addr) (m n : Int) : valV (dkv l m n) (.inr "total") = some (.int m) := by
  have h1 : ¬ ("items" : Str) = "total" := by decide +kernel
  show valV [_, _, _] _ = _
  simp [valV, h1]
theorem val_draws (l : Addr) (m n : Int) : valV (dkv l m n) (.inr "draws") = some (.int n) := by
  have h1 : ¬ ("items" : Str) = "draws" := by decide +kernel
  have h2 : ¬ ("total" : Str) = "draws" := by decide +kernel
  show valV [_, _, _] _ = _
  simp [valV, h1, h2]
theorem put_draws (l : Addr) (m n k : Int) : putK (dkv l m n) (.inr "draws") (.int k) = dkv l m k := by
  have h1 : ¬ ("items" : Str) = "draws" := by decide +kernel
  have h2 : ¬ ("total" : Str) = "draws" := by decide +kernel
  show putK [_, _, _] _ _ = _
  simp [putK, h1, h2, dkv]
theorem put_mixed (l : Addr) (m n k : Int) : putK (dkv l m n) (.inr "total") (.int k) = dkv l k n := by
  have h1 : ¬ ("items" : Str) = "total" := by decide +kernel
  have h2 : ¬ ("draws" : Str) = "total" := by decide +kernel
  show putK [_, _, _] _ _ = _
  simp [putK, h1, h2, dkv]
theorem merge_deck (l : Addr) (m n : Int) : mergeK [] (dkv l m n) = dkv l m n := by
  have h1 : ¬ ("items" : Str) = "total" := by decide +kernel
  have h2 : ¬ ("items" : Str) = "draws" := by decide +kernel
  have h3 : ¬ ("total" : Str) = "draws" := by decide +kernel
  simp [mergeK, dkv, putK, h1, h2, h3]

/-! ### _law_deck -/
def spDeck (K : PySem.W.Frag) : Sp := fun vs H Q _ => ∃ (a : Addr) (ns : List Int), vs = [.ref a] ∧ SqL K H a (ns.map V.int) ∧ ns.length ≤ 63 ∧
  ∀ (d l : Addr) (H' : Hp), H d = none → H l = none → Same H H' → DeckAt H' d l 0 → Q (.ref d) H'
theorem cut_len {xs : List V} {i : Int} (h : xs.length ≤ 63) : (cutV xs none (some i)).length ≤ 63 := by
  unfold cutV
  rw [List.length_take, List.length_drop]
  omega
theorem cut_map {ns : List Int} {lo hi : Option Int} : ∃ ms : List Int, cutV (ns.map V.int) lo hi = ms.map V.int := by
  unfold cutV
  exact ⟨(ns.drop _).take _, by rw [List.map_take, List.map_drop]⟩
section
variable {P : Program} {w : World} {K : PySem.W.Frag} {mg : Str → Option Value} {base : Heap}
theorem sc__law_deck : FnScope ["_law_script", "_law_items", "_law_total", "_law_item"] ["_law_script"] (defScope s__law_deck) := ⟨rfl, rfl, rfl, by decide +kernel, rfl, by decide +kernel, by decide +kernel⟩
theorem ok__law_deck (B : Bi mg) (f : FnF K mg "_law_deck" "_law_deck" s__law_deck) : FnOk P w K mg base CX0 1 f.a f.d ["_law_script"] (spDeck K) := by
  refine f.F.ok sc__law_deck (fun vs H Q E h => ?_) (fun cdv A outer s H vs Q E hr h => ?_)
  · obtain ⟨a, ns, rfl, _⟩ := h
    rfl
  · obtain ⟨a, ns, rfl, hS, hlen, k⟩ := h
    have hu := hu_of hr
    refine ⟨_, (pss_cons
      (ps_par (i := 1) (j := 2) (by rfl) sc__law_deck.nd rfl rfl (by decide) rfl rfl (pa_cons (pe_callTy call_list_of (by rfl) B.n_list (by decide +kernel) (pa_cons (pe_slice sl_list (pv 0) po_none (po_some pe_int)) pa_nil)) (pa_cons pe_int pa_nil)) (by rfl))
    (pss_cons
      (ps_for PassesOwn.never rfl (pi_list (pv 1)) (pg_name (i := 3) sc__law_deck.nd rfl (Or.inl rfl))
        (pss_one
          (ps_set (i := 2) sc__law_deck.nd rfl (Or.inl rfl) (pe_op op_mod (pe_callTy call_int1 (by rfl) B.n_int (by decide +kernel) (pa_cons (pe_op op_add (pe_op op_add (pe_op op_mul (pv 2) pe_int) (pe_op op_mod (pe_callTy call_int1 (by rfl) B.n_int (by decide +kernel) (pa_cons (pv 3) pa_nil)) pe_int)) pe_int) pa_nil)) pe_int))))
    (pss_one
      (ps_ret (pe_disp (pps_cons pe_str (pe_revL (pv 1)) (pps_cons pe_str (pv 2) (pps_cons pe_str pe_int pps_nil))) (by rfl) (by rfl) (fun z => by cases z) (by decide)))))), ?_⟩
    -- list(script[:63]), 36007
    refine ⟨_, rfl, 63, rfl, a, _, rfl, hS, fun p hp => ⟨p, _, rfl, .inl (SqL.of upd_same), fun l hl => ⟨_, _, rfl, ?_⟩⟩⟩
    obtain ⟨ms, ems⟩ := cut_map (ns := ns) (lo := none) (hi := some 63)
    have lms : ms.length ≤ 63 := by
      have := cut_len (xs := ns.map V.int) (i := 63) (by rw [List.length_map]; exact hlen)
      rw [ems, List.length_map] at this
      exact this
    rw [ems] at hl ⊢
    have e1 : Same H (upd H p (.lst (ms.map V.int))) := fun b o e => by rw [upd_ne (ne_of_none e hp)]; exact e
    have e2 : Same H (upd (upd H p (.lst (ms.map V.int))) l (.lst (ms.map V.int))) := fun b o e => by rw [upd_ne (ne_of_none (e1 b o e) hl)]; exact e1 b o e
    have hl2 : upd (upd H p (.lst (ms.map V.int))) l (.lst (ms.map V.int)) l = some (.lst (ms.map V.int)) := upd_same
    have hl0 : H l = none := e1.free hl
    -- for item in items
    refine ⟨_, rfl, l, rfl, ⟨_, SqL.of hl2⟩, ?_⟩
    generalize upd (upd H p (.lst (ms.map V.int))) l (.lst (ms.map V.int)) = H3 at hl2 e2 ⊢
    refine for_list (K := K) (a := l) (xs := ms.map V.int) (fun i σ H' => ∃ (m : Int) (v : Option V), σ = [some (.ref a), some (.ref l), some (.int m), v] ∧ 0 ≤ m ∧ m < 2147483629 ∧ H' = H3) ⟨36007, none, rfl, by decide, by decide, rfl⟩
      (fun i σ H' _ ⟨_, _, _, _, _, e⟩ => by rw [e]; exact SqL.of hl2) ?_ ?_
    · rintro i y σ H' hi ⟨m, v, rfl, m0, m1, rfl⟩
      obtain ⟨z, rfl⟩ : ∃ z, y = V.int z := by
        rw [List.getElem?_map] at hi
        cases e : ms[i]? with
        | none => rw [e] at hi; cases hi
        | some z => rw [e] at hi; exact ⟨z, (Option.some.inj hi).symm⟩
      refine ⟨_, rfl, _, _, rfl, rfl, .inl (by omega), _, rfl, .inl ⟨_, rfl, _, _, rfl, rfl, (by show (0 : Int) < 2147483563; decide), _, _, rfl, rfl, _, _, rfl, rfl, .inl ⟨_, rfl, _, _, rfl, rfl, (by show (0 : Int) < 2147483629; decide), ?_⟩⟩⟩
      exact ⟨_, _, rfl, Int.emod_nonneg _ (by decide), Int.emod_lt_of_pos _ (by decide), rfl⟩
    · rintro σ H' ⟨m, v, rfl, m0, m1, rfl⟩
      -- return {'cells': cells[::-1], 'mixed': mixed, 'draws': 0}
      refine fun d hd => ⟨_, rfl, l, _, rfl, SqL.of (by rw [upd_ne (ne_of_none hl2 hd)]; exact hl2), fun c hc => ⟨_, rfl, ?_⟩⟩
      have ndc : d ≠ c := ne_of_none upd_same hc
      have hc3 : H' c = none := by rw [upd_ne (Ne.symm ndc)] at hc; exact hc
      refine ⟨by rw [upd_ne ndc, upd_same], dkv c m 0, rfl, (by show 3 ≤ 15; decide), ?_⟩
      rw [merge_deck, ← List.map_reverse]
      refine k d c _ (e2.free hd) (e2.free hc3) (fun b o e => ?_) ⟨ms.reverse, m, 0, upd_same, by rw [upd_ne (Ne.symm ndc), upd_same], by rw [List.length_reverse]; exact lms, m0, m1, Nat.le_refl _⟩
      have e4 := e2 b o e
      rw [upd_ne (ne_of_none e4 hd), upd_ne (ne_of_none e4 hc3), upd_ne (ne_of_none e4 hd)]
      exact e4

/-! ### _law_draw -/
def spDraw : Sp := fun vs H Q _ => ∃ (d l : Addr) (many : Int) (k : Nat), vs = [.ref d, .int many] ∧ DeckAt H d l k ∧ 0 < many ∧ many < 1000000 ∧ k < 1000000000 ∧
  ∀ (i : Int) (H' : Hp), 0 ≤ i → i < many → DeckAt H' d l (k + 1) → Off d l H H' → Q (.int i) H'
theorem ints_eqv : ∀ cs : List Int, PyData.eqv (.list (cs.map .int)) (.list []) = cs.isEmpty
  | [] => by decide
  | c :: r => by simp [PyData.eqv, PyData.eqvAll]
theorem ints_shaped (cs : List Int) : SeqAt.shaped (.list (cs.map .int)) = true := by
  have h : ∀ l : List Int, PyData.canLayAll0 (l.map .int) = true ∧ PyData.depthAll (l.map .int) ≤ 1 := by
    intro l
    induction l with
    | nil => exact ⟨rfl, by decide⟩
    | cons c r ih =>
      refine ⟨?_, ?_⟩
      · simp only [List.map_cons, PyData.canLayAll0, PyData.canLay0, Bool.true_and]
        exact ih.1
      · simp only [List.map_cons, PyData.depthAll, PyData.depth]
        have := ih.2
        omega
  obtain ⟨h1, h2⟩ := h cs
  unfold SeqAt.shaped
  have e1 : (PyData.list (cs.map .int)).canLay0 = true := by simpa [PyData.canLay0] using h1
  have e2 : (PyData.list (cs.map .int)).depth ≤ 64 := by
    simp only [PyData.depth]
    omega
  rw [e1, decide_eq_true e2]
  rfl
theorem ints_dp {K : PySem.W.Frag} {H : Hp} : ∀ cs : List Int, L2.DpAll K H (cs.map V.int) (cs.map .int)
  | [] => .nil
  | c :: r => .cons (.int c) (ints_dp r)
theorem sc__law_draw : FnScope ["_law_deck_here", "_law_many", "_law_turn", "_law_item", "_law_mixed"] ["_law_deck_here", "_law_many"] (defScope s__law_draw) := ⟨rfl, rfl, rfl, by decide +kernel, rfl, by decide +kernel, by decide +kernel⟩
theorem ok__law_draw (B : Bi mg) (f : FnF K mg "_law_draw" "_law_draw" s__law_draw) : FnOk P w K mg base CX0 1 f.a f.d ["_law_deck_here", "_law_many"] spDraw := by
  refine f.F.ok sc__law_draw (fun vs H Q E h => ?_) (fun cdv A outer s H vs Q E hr h => ?_)
  · obtain ⟨d, l, many, k, rfl, _⟩ := h
    rfl
  · obtain ⟨d, l, many, k, rfl, D, hm0, hm1, hk, q⟩ := h
    have hu := hu_of hr
    have hu64 := hr.units
    obtain ⟨cs, m, n, hd, hl, lcs, m0, m1, hn⟩ := D.ex
    refine ⟨_, (pss_cons
      (ps_dput hu (pv 0) pe_str (pe_op op_add (pe_dget hu (pv 0) pe_str (fun _ _ => rfl)) pe_int) rfl)
    (pss_cons
      (ps_par (i := 2) (j := 3) (by rfl) sc__law_draw.nd rfl rfl (by decide) rfl rfl (pa_cons (pe_dget hu (pv 0) pe_str (fun _ _ => rfl)) (pa_cons (pe_dget hu (pv 0) pe_str (fun _ _ => rfl)) pa_nil)) (by rfl))
    (Evl.pss_cut
      (ps_if (pt_cmpR (op_neD hu64) (pe_dget hu (pv 0) pe_str (fun _ _ => rfl)) (pe_lst pa_nil) (nomark _))
        (pss_cons
          (ps_set (i := 3) sc__law_draw.nd rfl (Or.inl rfl) (pe_bm0 PySem.F.plainAttrs_list PySem.F.slot_list_pop PySem.F.type_list_pop mt_pop (pe_dget hu (pv 0) pe_str (fun _ _ => rfl))))
        (pss_cons
          (ps_if (pt_cmpR op_ge (pv 3) (pe_op op_pow pe_int pe_int) (nomark _))
            (pss_cons
              (ps_expr (pe_bm PySem.F.plainAttrs_list PySem.F.slot_list_append PySem.F.type_list_append mt_append (pe_dget hu (pv 0) pe_str (fun _ _ => rfl)) (pa_cons (pe_op op_fdiv (pv 3) (pv 1)) pa_nil)))
            (pss_one
              (ps_ret (pe_op op_mod (pe_callTy call_int1 (by rfl) B.n_int (by decide +kernel) (pa_cons (pv 3) pa_nil)) (pv 1)))))
            pss_nil)
        (pss_one
          (ps_set (i := 3) sc__law_draw.nd rfl (Or.inl rfl) (pe_op op_add (pv 3) (pe_dget hu (pv 0) pe_str (fun _ _ => rfl)))))))
        pss_nil)
    (Evl.pss_cut
      (ps_set (i := 4) sc__law_draw.nd rfl (Or.inl rfl) (pe_op op_mod (pe_op op_mul (pe_callTy call_int1 (by rfl) B.n_int (by decide +kernel) (pa_cons (pe_op op_add (pe_op op_add (pe_op op_mod (pe_callTy call_int1 (by rfl) B.n_int (by decide +kernel) (pa_cons (pv 3) pa_nil)) pe_int) (pe_op op_mul (pe_op op_mul pe_int (pv 2)) (pv 2))) pe_int) pa_nil)) pe_int) pe_int))
    (pss_cons
      (ps_set (i := 4) sc__law_draw.nd rfl (Or.inl rfl) (pe_op op_mod (pe_callTy call_int1 (by rfl) B.n_int (by decide +kernel) (pa_cons (pe_op op_add (pe_op op_add (pe_op op_mul (pv 4) (pv 4)) (pe_op op_mul pe_int (pv 2))) pe_int) pa_nil)) pe_int))
    (pss_one
      (ps_ret (pe_op op_mod (pe_op op_fdiv (pe_op op_mod (pe_callTy call_int1 (by rfl) B.n_int (by decide +kernel) (pa_cons (pe_op op_mul (pv 4) pe_int) pa_nil)) pe_int) pe_int) (pv 1))))))))), ?_⟩
    -- deck['draws'] = deck['draws'] + 1
    have e1 : putK (dkv l m n) (.inr "draws") (.int ((n : Int) + 1)) = dkv l m ((n + 1 : Nat) : Int) := put_draws l m n _
    have nld : l ≠ d := ne_of hl hd (by intro z; cases z)
    refine ⟨_, rfl, d, _, rfl, val_draws l m n ▸ DGet.k (k := Sum.inr "draws") hd, _, _, rfl, rfl, _, rfl, d, _, rfl, DPut.k (k := Sum.inr "draws") hd (by show 3 < sizeLine; rw [sizeLine_eq]; decide), ?_⟩
    rw [e1]
    have hd1 : upd H d (.dK (dkv l m ((n + 1 : Nat) : Int))) d = some (.dK (dkv l m ((n + 1 : Nat) : Int))) := upd_same
    have hl1 : upd H d (.dK (dkv l m ((n + 1 : Nat) : Int))) l = some (.lst (cs.map .int)) := by rw [upd_ne nld]; exact hl
    have o1 : Off d l H (upd H d (.dK (dkv l m ((n + 1 : Nat) : Int)))) := fun b o e h1 _ => by rw [upd_ne h1]; exact e
    have hn1 : n + 1 ≤ k + 1 := by omega
    have hn2 : n + 1 < 1000000001 := by omega
    generalize upd H d (.dK (dkv l m ((n + 1 : Nat) : Int))) = H1 at hd1 hl1 o1 ⊢
    generalize n + 1 = t at hd1 hn1 hn2 ⊢
    -- turn, cell = deck['draws'], deck['mixed']
    refine ⟨_, rfl, d, _, rfl, val_draws l m t ▸ DGet.k (k := Sum.inr "draws") hd1, _, rfl, d, _, rfl, val_mixed l m t ▸ DGet.k (k := Sum.inr "total") hd1, _, _, rfl, ?_⟩
    -- if deck['cells'] != []: ..; behind it some int stands in cell
    refine ⟨fun σ' H2 => ∃ c : Int, σ' = [some (.ref d), some (.int many), some (.int (t : Int)), some (.int c), none] ∧ DeckAt H2 d l (k + 1) ∧ Off d l H H2, ?_, ?_⟩
    · refine ⟨_, rfl, d, .ref l, rfl, val_cells l m t ▸ DGet.k (k := Sum.inr "items") hd1, ⟨by show 0 ≤ sizeLine; exact Nat.zero_le _, fun p hp => ?_⟩⟩
      have hd2 : upd H1 p (.lst []) d = some (.dK (dkv l m (t : Int))) := by rw [upd_ne (ne_of_none hd1 hp)]; exact hd1
      have hl2 : upd H1 p (.lst []) l = some (.lst (cs.map .int)) := by rw [upd_ne (ne_of_none hl1 hp)]; exact hl1
      have hp2 : upd H1 p (.lst []) p = some (.lst []) := upd_same
      have o2 : Off d l H (upd H1 p (.lst [])) := fun b o e h1 h2 => by
        have := o1 b o e h1 h2
        rw [upd_ne (ne_of_none this hp)]
        exact this
      have npd : p ≠ d := Ne.symm (ne_of_none hd1 hp)
      have npl : p ≠ l := Ne.symm (ne_of_none hl1 hp)
      generalize upd H1 p (.lst []) = H2 at hd2 hl2 hp2 o2 ⊢
      refine ⟨.list (cs.map .int), .list [], .lst (SqL.of hl2) (ints_dp cs), .lst (SqL.of hp2) .nil, ints_shaped cs, by decide, _, rfl, ?_⟩
      rw [ints_eqv cs]
      cases cs with
      | nil => exact iteF ⟨m, rfl, ⟨[], m, t, hd2, hl2, Nat.zero_le _, m0, m1, hn1⟩, o2⟩
      | cons c0 r0 =>
        refine iteT ?_
        -- cell = deck['cells'].pop()
        obtain ⟨c, hc⟩ : ∃ c, (c0 :: r0)[(c0 :: r0).length - 1]? = some c := ⟨_, List.getElem?_eq_getElem (by simp)⟩
        generalize c0 :: r0 = cs at *
        refine ⟨_, rfl, d, .ref l, rfl, val_cells l m t ▸ DGet.k (k := Sum.inr "items") hd2, Or.inl ⟨rfl, _, SqL.of hl2⟩, l, _, .int c, rfl, rfl, hl2, by rw [List.length_map, List.getElem?_map, hc]; rfl, ?_⟩
        rw [← List.map_dropLast]
        have ldl : cs.dropLast.length ≤ 62 := by rw [List.length_dropLast]; omega
        generalize cs.dropLast = ds at ldl ⊢
        have hd3 : upd H2 l (.lst (ds.map .int)) d = some (.dK (dkv l m (t : Int))) := by rw [upd_ne (Ne.symm nld)]; exact hd2
        have hl3 : upd H2 l (.lst (ds.map .int)) l = some (.lst (ds.map .int)) := upd_same
        have o3 : Off d l H (upd H2 l (.lst (ds.map .int))) := fun b o e h1 h2 => by rw [upd_ne h2]; exact o2 b o e h1 h2
        generalize upd H2 l (.lst (ds.map .int)) = H3 at hd3 hl3 o3 ⊢
        -- if cell >= 10 ** 18
        refine ⟨_, rfl, _, _, rfl, rfl, ⟨by decide, by decide, by decide⟩, _, _, rfl, rfl, _, rfl, ite2 (fun _ => ?_) fun _ => ?_⟩
        · -- deck['cells'].append(cell // many); return int(cell) % many
          refine ⟨_, rfl, d, .ref l, rfl, val_cells l m t ▸ DGet.k (k := Sum.inr "items") hd3, Or.inl ⟨rfl, _, SqL.of hl3⟩, _, rfl, _, rfl, _, _, rfl, rfl, ⟨hm0, by omega⟩, l, _, _, rfl, rfl, hl3, by rw [List.length_map, sizeLine_eq]; omega, ?_⟩
          refine ⟨_, rfl, Or.inl ⟨_, rfl, _, rfl, _, _, rfl, rfl, hm0, ?_⟩⟩
          refine q _ _ (Int.emod_nonneg _ (by omega)) (Int.emod_lt_of_pos _ hm0) ⟨ds ++ [c / many], m, t, ?_, ?_, ?_, m0, m1, hn1⟩ fun b o e h1 h2 => ?_
          · rw [upd_ne (Ne.symm nld)]
            exact hd3
          · rw [upd_same, List.map_append]
            rfl
          · rw [List.length_append]
            show ds.length + 1 ≤ 63
            omega
          · rw [upd_ne h2]
            exact o3 b o e h1 h2
        · -- cell = cell + deck['mixed']
          refine ⟨_, rfl, _, rfl, d, _, rfl, val_mixed l m t ▸ DGet.k (k := Sum.inr "total") hd3, _, _, rfl, rfl, ?_⟩
          exact ⟨_, rfl, ⟨ds, m, t, hd3, hl3, by omega, m0, m1, hn1⟩, o3⟩
    · rintro σ' H2 ⟨c, rfl, D2, o2⟩
      have ht : (-(2 ^ 64 : Int) < (t : Int) ∧ (t : Int) < 2 ^ 64) := by omega
      -- mixed = int(int(item) % .. + .. * turn * turn + ..) * .. % ..
      refine ⟨fun σ' H' => ∃ x : Int, σ' = [some (.ref d), some (.int many), some (.int (t : Int)), some (.int c), some (.int x)] ∧ 0 ≤ x ∧ x < 2147483647 ∧ H' = H2, ?_, ?_⟩
      · refine ⟨_, rfl, Or.inl ⟨_, rfl, _, _, rfl, rfl, (by show (0 : Int) < 2147483563; decide), _, rfl, _, _, rfl, rfl, .inr ht, _, rfl, _, _, rfl, rfl, .inr ht, _, _, rfl, rfl, _, _, rfl, rfl, ?_⟩⟩
        exact Or.inl ⟨_, rfl, _, _, rfl, rfl, .inr (by decide), _, _, rfl, rfl, (by show (0 : Int) < 2147483647; decide), _, rfl, Int.emod_nonneg _ (by decide), Int.emod_lt_of_pos _ (by decide), rfl⟩
      rintro σ' H' ⟨x, rfl, hx0, hx1, rfl⟩
      -- mixed = int(mixed * mixed + .. * turn + ..) % ..
      refine ⟨_, rfl, _, rfl, _, _, rfl, rfl, .inl (by omega), _, rfl, _, _, rfl, rfl, .inr ht, _, _, rfl, rfl, _, _, rfl, rfl, Or.inl ⟨_, rfl, _, _, rfl, rfl, (by show (0 : Int) < 2147483549; decide), ?_⟩⟩
      -- return ..
      refine ⟨_, rfl, _, _, rfl, rfl, .inr (by decide), Or.inl ⟨_, rfl, _, _, rfl, rfl, (by show (0 : Int) < 2147483587; decide), _, _, rfl, rfl, ⟨by decide, by decide⟩, _, rfl, _, _, rfl, rfl, hm0, ?_⟩⟩
      exact q _ _ (Int.emod_nonneg _ (by omega)) (Int.emod_lt_of_pos _ hm0) D2 o2
end
end K01
/-! Names, ascending tuples, domains. -/
namespace K01
open PySem PySem.Spec PyProof.Rows L2 KG KS
abbrev s_is_integer : Stmt := top 8
abbrev s_is_name : Stmt := top 9
abbrev s_are_names : Stmt := top 10
abbrev s_ascending : Stmt := top 11
abbrev s_is_domain : Stmt := top 12
/-- the names of the basics -/
structure Bs (mg : Str → Option Value) : Prop extends Bi mg where
  n_all : mg "all" = none
  n_sorted : mg "sorted" = none
  n_set : mg "set" = none
  n_str : mg "str" = none
  n_bool : mg "bool" = none
  c_name : ∃ t, mg "LONGEST_NAME" = some (.int 8 t)
  c_vals : ∃ t, mg "MOST_VALUES" = some (.int 3 t)
  c_width : ∃ t, mg "MOST_WIDTH" = some (.int 3 t)
def spInt : Sp := fun vs H Q _ => ∃ n, vs = [.int n] ∧ Q (.bl true) H
def nameOk (x : Str) : Bool := decide (x.length ≤ 8) && (Txt.isascii x && (Txt.isalpha x && Txt.islower x))
def spName : Sp := fun vs H Q _ => ∃ x, vs = [.str x] ∧ nameOk x = true ∧ Q (.bl true) H
def spNames (K : PySem.W.Frag) : Sp := fun vs H Q _ => ∃ (a : Addr) (xs : List Str), vs = [.ref a] ∧ H a = some (.tup (xs.map V.str)) ∧ (∀ x ∈ xs, nameOk x = true) ∧ xs.Nodup ∧ xs.length < 64 ∧ ∀ H', Same H H' → Q (.bl true) H'
/-- ascending(xs) -/
def spAsc (K : PySem.W.Frag) : Sp := fun vs H Q _ => ∃ (b : Bool) (l : Addr) (ms : List MemV), vs = [V.ref l] ∧ (SqL K H l (ms.map (·.1)) ∨ SqT K H l (ms.map (·.1))) ∧ (∀ p ∈ ms, Kv K H p.1 p.2 ∧ FitV b p) ∧ ms.length < 64 ∧
  W.AllAlike (ms.map (·.2.data)) ∧ W.Sortable (ms.map (·.2.data)) ∧
  ∀ (L : List MemV) (p : Addr) (H' : Hp), (∀ m ∈ L, m ∈ ms) → (∀ m ∈ ms, m.2 ∈ L.map (·.2)) → (L.map (·.2)).Nodup → L.Pairwise Aft → H p = none → Same H H' → H' p = some (.tup (L.map (·.1))) → Q (.ref p) H'
theorem same_new {H : Hp} {p : Addr} {o : HO} (h : H p = none) : Same H (upd H p o) := fun b u e => by
  rw [upd_ne (ne_of_none e h)]
  exact e
theorem same_trans {H H1 H2 : Hp} (x : Same H H1) (y : Same H1 H2) : Same H H2 := fun b u e => y b u (x b u e)
theorem same_seqT {K : PySem.W.Frag} {H H' : Hp} {a : Addr} {xs : List V} (e : Same H H') (h : SqT K H a xs) : SqT K H' a xs := by
  rcases h with (h | ⟨o, h⟩) | h
  · exact .inl (.inl (e _ _ h))
  · exact .inl (.inr ⟨o, e _ _ h⟩)
  · exact .inr h
section
variable {P : Program} {w : World} {K : PySem.W.Frag} {mg : Str → Option Value} {base : Heap}
theorem sc_is_integer : FnScope ["thing"] ["thing"] (defScope s_is_integer) := ⟨rfl, rfl, rfl, by decide +kernel, rfl, by decide +kernel, by decide +kernel⟩
theorem ok_is_integer (B : Bs mg) (f : FnF K mg "is_integer" "is_integer" s_is_integer) : FnOk P w K mg base CX0 1 f.a f.d ["thing"] spInt := by
  refine f.F.ok sc_is_integer (fun vs H Q E h => ?_) (fun cdv A outer s H vs Q E hr h => ?_)
  · obtain ⟨n, rfl, _⟩ := h
    rfl
  · obtain ⟨n, rfl, q⟩ := h
    refine ⟨_, (pss_one
      (ps_ret (pe_and (pe_callB call_isi (by rfl) B.n_isinstance (by decide +kernel) (pa_cons (pv 0) (pa_cons (pe_bltn (v := .ty "int") rfl B.n_int (by decide +kernel) rfl) pa_nil)))
        (pe_one (pe_not (pe_callB call_isi (by rfl) B.n_isinstance (by decide +kernel) (pa_cons (pv 0) (pa_cons (pe_bltn (v := .ty "bool") rfl B.n_bool (by decide +kernel) rfl) pa_nil)))))))), ?_⟩
    refine ⟨_, rfl, _, _, _, _, true, rfl, .ty "int", .base (.int n), kit_ty (by decide +kernel), true, rfl, iteT ?_⟩
    exact ⟨_, rfl, _, _, _, _, false, rfl, .ty "bool", .base (.int n), kit_ty (by decide +kernel), false, rfl, q⟩
theorem sc_is_name : FnScope ["thing"] ["thing"] (defScope s_is_name) := ⟨rfl, rfl, rfl, by decide +kernel, rfl, by decide +kernel, by decide +kernel⟩
theorem ok_is_name (B : Bs mg) (f : FnF K mg "is_name" "is_name" s_is_name) : FnOk P w K mg base CX0 1 f.a f.d ["thing"] spName := by
  obtain ⟨tn, cn⟩ := B.c_name
  refine f.F.ok sc_is_name (fun vs H Q E h => ?_) (fun cdv A outer s H vs Q E hr h => ?_)
  · obtain ⟨n, rfl, _⟩ := h
    rfl
  · obtain ⟨x, rfl, hn, q⟩ := h
    unfold nameOk at hn
    rw [Bool.and_eq_true, Bool.and_eq_true, Bool.and_eq_true, decide_eq_true_eq] at hn
    obtain ⟨h8, h1, h2, h3⟩ := hn
    refine ⟨_, (pss_cons
      (ps_if (PW.pt (pw_or (pt_not (pt_val (pe_callB call_isi (by rfl) B.n_isinstance (by decide +kernel) (pa_cons (pv 0) (pa_cons (pe_bltn (v := .ty "str") rfl B.n_str (by decide +kernel) rfl) pa_nil)))))
        (pw_or1 (pt_cmpR op_gt (pe_callB call_len (by rfl) B.n_len (by decide +kernel) (pa_cons (pv 0) pa_nil)) (pe_glob (v := .int 8) rfl cn ⟨_, rfl⟩) (nomark _)))))
        (pss_one
          (ps_ret pe_bl))
        pss_nil)
    (pss_one
      (ps_ret (pe_and (pe_bm0 PySem.F.plainAttrs_str PySem.F.slot_str_isascii PySem.F.type_str_isascii mt_isascii (pv 0)) (pe_and (pe_bm0 PySem.F.plainAttrs_str PySem.F.slot_str_isalpha PySem.F.type_str_isalpha mt_isalpha (pv 0)) (pe_one (pe_bm0 PySem.F.plainAttrs_str PySem.F.slot_str_islower PySem.F.type_str_islower mt_islower (pv 0)))))))), ?_⟩
    refine ⟨_, rfl, _, _, _, _, true, rfl, .ty "str", .base (.str x), kit_ty (by decide +kernel), true, rfl, iteF ?_⟩
    refine ⟨_, rfl, .str x, x.length, rfl, ⟨by rw [sizeLine_eq]; omega, rfl⟩, _, _, rfl, rfl, _, rfl, ite2 (fun c => absurd (of_decide_eq_true c) (by omega)) fun _ => ?_⟩
    refine ⟨_, rfl, rfl, x, rfl, rfl, trivial, _, congrArg V.bl h1, iteT ?_⟩
    refine ⟨_, rfl, rfl, x, rfl, rfl, trivial, _, congrArg V.bl h2, iteT ?_⟩
    refine ⟨_, rfl, rfl, x, rfl, rfl, trivial, ?_⟩
    rw [h3]
    exact q
theorem sc_are_names : FnScope ["thing", "item"] ["thing"] (defScope s_are_names) := ⟨rfl, rfl, rfl, by decide +kernel, rfl, by decide +kernel, by decide +kernel⟩
theorem bls_all : ∀ (n : Nat), (List.replicate n true).all id = true
  | 0 => rfl
  | n + 1 => by
    rw [List.replicate_succ, List.all_cons, bls_all n]
    rfl
theorem texts_mem (xs : List Str) : (xs.map fun x => ((V.str x, NestedKey.text x) : MemV)).map (·.1) = xs.map V.str := by
  rw [List.map_map]
  rfl
theorem texts_len {xs : List Str} (nd : xs.Nodup) {L : List MemV} (h1 : ∀ p ∈ L, p ∈ xs.map fun x => ((V.str x, NestedKey.text x) : MemV)) (h2 : ∀ p ∈ xs.map fun x => ((V.str x, NestedKey.text x) : MemV), p.2 ∈ L.map (·.2)) (h3 : (L.map (·.2)).Nodup) : L.length = xs.length := by
  have nk : ((xs.map fun x => ((V.str x, NestedKey.text x) : MemV)).map (·.2)).Nodup := by
    rw [List.map_map]
    exact List.Pairwise.map _ (fun a b hne e => hne (NestedKey.text.inj e)) nd
  have pm : (L.map (·.2)).Perm ((xs.map fun x => ((V.str x, NestedKey.text x) : MemV)).map (·.2)) := by
    refine (List.perm_ext_iff_of_nodup h3 nk).mpr fun k => ⟨fun hk => ?_, fun hk => ?_⟩
    · obtain ⟨p, hp, e⟩ := List.mem_map.mp hk
      exact List.mem_map.mpr ⟨p, h1 p hp, e⟩
    · obtain ⟨p, hp, e⟩ := List.mem_map.mp hk
      rw [← e]
      exact h2 p hp
  have e := pm.length_eq
  rw [List.length_map, List.length_map, List.length_map] at e
  exact e
theorem ok_are_names (B : Bs mg) (f : FnF K mg "are_names" "are_names" s_are_names) (fn : FnF K mg "is_name" "is_name" s_is_name) : FnOk P w K mg base CX0 2 f.a f.d ["thing"] (spNames K) := by
  have G := ok_is_name (P := P) (w := w) (base := base) B fn
  have bn : Binds K fn.d ["thing"] [] := fn.F.binds fun _ _ _ _ _ _ us hl => match us, hl with | [_], _ => rfl
  refine f.F.ok sc_are_names (fun vs H Q E h => ?_) (fun cdv A outer s H vs Q E hr h => ?_)
  · obtain ⟨a, xs, rfl, _⟩ := h
    rfl
  · obtain ⟨a, xs, rfl, ha, ok, nd, h64, q⟩ := h
    have hu64 := hr.units
    refine ⟨_, (pss_one
      (ps_ret (pe_and (pe_callB call_isi (by rfl) B.n_isinstance (by decide +kernel) (pa_cons (pv 0) (pa_cons (pe_bltn (v := .ty "tuple") rfl B.n_tuple (by decide +kernel) rfl) pa_nil)))
        (pe_and (pe_callB (cr_all rfl) (by rfl) B.n_all (by decide +kernel) (pa_cons (pe_lc (own := [("item", 1)]) (g := gName 1) (by rfl) sc_are_names.nd (pi_tup (pv 0)) (blkOk_by (own := [("item", 1)]) (N := ["thing", "item"]) (sc := defScope s_are_names) (by decide +kernel))
            (fun _ _ _ _ _ => (pg_name (i := 1) sc_are_names.nd rfl (Or.inl rfl))) (fun _ _ _ _ _ => pts_nil) (fun _ _ _ _ _ => (pe_call G hr rfl fn.g fn.F.kp bn .nil pass0 (pa_cons (pv 1) pa_nil)))) pa_nil))
        (pe_one (pe_cmpR op_eq (pe_callB cr_lenSet (by rfl) B.n_len (by decide +kernel) (pa_cons (pe_callTy (cr_setOf rfl hu64) (by rfl) B.n_set (by decide +kernel) (pa_cons (pv 0) pa_nil)) pa_nil)) (pe_callB call_len (by rfl) B.n_len (by decide +kernel) (pa_cons (pv 0) pa_nil)) (nomark _))))))), ?_⟩
    refine ⟨_, rfl, _, _, _, _, true, rfl, .ty "tuple", .base (.tup ha), kit_ty (by decide +kernel), true, rfl, iteT ?_⟩
    -- all([is_name(item) for item in thing])
    refine ⟨_, rfl, a, rfl, ⟨_, SqT.of ha⟩, fun D hD => ?_⟩
    refine lc_tup (K := K) (xs := xs.map V.str) (fun i H' => Same H H' ∧ H' D = some (.lst (List.replicate i (V.bl true)))) ⟨same_new hD, upd_same⟩ (fun i H' _ p => SqT.of (p.1 _ _ ha)) ?_ ?_
    · rintro i y H' hi ⟨e1, eD⟩
      rw [List.getElem?_map] at hi
      cases hx : xs[i]? with
      | none =>
        rw [hx] at hi
        cases hi
      | some x =>
        rw [hx] at hi
        obtain rfl : V.str x = y := Option.some.inj hi
        have il : i < xs.length := (List.getElem?_eq_some_iff.mp hx).1
        refine ⟨rfl, _, rfl, x, rfl, ok x (List.mem_of_getElem? hx), _, eD, by rw [List.length_replicate, sizeLine_eq]; omega, fun b u e => ?_, ?_⟩
        · rw [upd_ne (by rintro rfl; rw [hD] at e; cases e)]
          exact e1 b u e
        · rw [upd_same, ← List.replicate_succ']
    · rintro H1 ⟨e1, eD⟩
      rw [List.length_map] at eD
      refine ⟨D, List.replicate xs.length true, rfl, SqL.of (by rw [List.map_replicate]; exact eD), true, congrArg V.bl (bls_all _), iteT ?_⟩
      -- len(set(thing)) == len(thing)
      have fm : ∀ p ∈ xs.map fun x => ((V.str x, NestedKey.text x) : MemV), Kv K H1 p.1 p.2 ∧ FitV false p := fun p hp => by
        obtain ⟨x, _, rfl⟩ := List.mem_map.mp hp
        exact ⟨.str x, x, rfl⟩
      refine ⟨_, rfl, false, a, xs.map fun x => ((V.str x, NestedKey.text x) : MemV), rfl, .inr (SqT.of (by rw [texts_mem]; exact e1 _ _ ha)), fm, by rw [List.length_map]; exact h64, fun S L hS h1 h2 h3 => ?_⟩
      have eS := same_trans e1 (same_new (o := SetV false w S L) hS)
      refine ⟨false, S, L, rfl, upd_same, _, rfl, _, _, rfl, .inr ⟨_, SqT.of (eS _ _ ha), rfl⟩, ?_⟩
      have el := texts_len nd h1 h2 h3
      refine ⟨rfl, ?_⟩
      rw [el, List.length_map]
      rw [decide_eq_true rfl]
      exact q _ eS
theorem sc_ascending : FnScope ["things"] ["things"] (defScope s_ascending) := ⟨rfl, rfl, rfl, by decide +kernel, rfl, by decide +kernel, by decide +kernel⟩
theorem ok_ascending (B : Bs mg) (f : FnF K mg "ascending" "ascending" s_ascending) : FnOk P w K mg base CX0 1 f.a f.d ["things"] (spAsc K) := by
  refine f.F.ok sc_ascending (fun vs H Q E h => ?_) (fun cdv A outer s H vs Q E hr h => ?_)
  · obtain ⟨b, l, ms, rfl, _⟩ := h
    rfl
  · obtain ⟨b, l, ms, rfl, hl, hk, h64, al, so, q⟩ := h
    have hu64 := hr.units
    refine ⟨_, (pss_one
      (ps_ret (pe_callTy call_tuple_of (by rfl) B.n_tuple (by decide +kernel) (pa_cons (pe_callB (cr_sortSet rfl hu64) (by rfl) B.n_sorted (by decide +kernel) (pa_cons (pe_callTy (cr_setOf rfl hu64) (by rfl) B.n_set (by decide +kernel) (pa_cons (pv 0) pa_nil)) pa_nil)) pa_nil)))), ?_⟩
    refine ⟨_, rfl, b, l, ms, rfl, hl, hk, h64, fun S L hS h1 h2 h3 => ?_⟩
    have e1 : Same H (upd H S (SetV b w S L)) := same_new hS
    have sub : ∀ d ∈ L.map (·.2.data), d ∈ ms.map (·.2.data) := fun d hd => by
      obtain ⟨p, hp, e⟩ := List.mem_map.mp hd
      exact List.mem_map.mpr ⟨p, h1 p hp, e⟩
    refine ⟨b, S, L, rfl, upd_same, fun p hp => Kv.up (fun a xs => same_seqT e1) _ _ (hk p (h1 p hp)).1, fun d hd d' hd' => al d (sub d hd) d' (sub d' hd'), so.imp (fun h d hd => h d (sub d hd)) fun h d hd => h d (sub d hd), fun L' p pm pw hp => ?_⟩
    have e2 := same_trans e1 (same_new (o := .lst (L'.map (·.1))) hp)
    refine ⟨p, L'.map (·.1), rfl, .inl ⟨SqL.of upd_same, fun t ht => ?_⟩⟩
    exact q L' t _ (fun m hm => h1 m (pm.mem_iff.mp hm)) (fun m hm => (pm.map (·.2)).mem_iff.mpr (h2 m hm)) ((pm.map (·.2)).nodup_iff.mpr h3) pw (e2.free ht) (same_trans e2 (same_new ht)) upd_same
/-- strictly ascending -/
def Bef (p q : MemV) : Prop := W.dataLt p.2.data q.2.data = true
theorem lt_asym {x y : PyData} (h : W.dataLt x y = true) : W.dataLt y x = false := by
  cases e : W.dataLt y x with
  | false => rfl
  | true =>
    have z := lex_trans _ _ _ h e
    rw [lex_irrefl] at z
    cases z
theorem bef_nodup {ms : List MemV} (h : ms.Pairwise Bef) : (ms.map (·.2)).Nodup := List.Pairwise.map _ (fun a b hb e => by
  have hb2 : W.dataLt a.2.data b.2.data = true := hb
  rw [e] at hb2
  rw [lt_asym hb2] at hb2
  cases hb2) h
/-- what ascends stays as it is -/
theorem asc_same {ms L : List MemV} (h : ms.Pairwise Bef) (h1 : ∀ m ∈ L, m ∈ ms) (h2 : ∀ m ∈ ms, m.2 ∈ L.map (·.2)) (h3 : (L.map (·.2)).Nodup) (h4 : L.Pairwise Aft) : L = ms := by
  have nd := bef_nodup h
  have pk : (L.map (·.2)).Perm (ms.map (·.2)) := (List.perm_ext_iff_of_nodup h3 nd).mpr fun k => by
    refine ⟨fun hk => ?_, fun hk => ?_⟩
    · obtain ⟨p, hp, e⟩ := List.mem_map.mp hk
      exact List.mem_map.mpr ⟨p, h1 p hp, e⟩
    · obtain ⟨p, hp, e⟩ := List.mem_map.mp hk
      rw [← e]
      exact h2 p hp
  refine List.Perm.eq_of_pairwise (le := Aft) (fun p q hp hq a1 a2 => ?_) h4 (h.imp fun {p q} hb => lt_asym hb) (same_keys (fun p : MemV => p.2) h1 pk nd)
  have mp := h1 p hp
  rcases List.getElem_of_mem mp with ⟨i, hi, rfl⟩
  rcases List.getElem_of_mem hq with ⟨j, hj, rfl⟩
  rcases Nat.lt_trichotomy i j with z | z | z
  · have b : W.dataLt ms[i].2.data ms[j].2.data = true := List.pairwise_iff_getElem.mp h i j hi hj z
    have a : W.dataLt ms[i].2.data ms[j].2.data = false := a2
    rw [b] at a
    cases a
  · subst z
    rfl
  · have b : W.dataLt ms[j].2.data ms[i].2.data = true := List.pairwise_iff_getElem.mp h j i hj hi z
    have a : W.dataLt ms[j].2.data ms[i].2.data = false := a1
    rw [b] at a
    cases a
end
end K01
/-! Domains, rows, all rows. -/
namespace K01
open PySem PySem.Spec PyProof.Rows L2 KG KS
abbrev s_is_row : Stmt := top 13
abbrev s_all_rows : Stmt := top 15
abbrev s_column_of : Stmt := top 23
/-- two for's in a list, the inner walk over a tuple -/
theorem lc2_lt {K : PySem.W.Frag} {a : Addr} {xs : List V} {g g1 : TG} {wi1 : TI} {te : TE} {vs vs1 : List Nat} {σ : L2.St} {H1 : Hp} {D : Addr} {Qd : Hp → Prop} (Pv : Nat → Nat → Hp → Prop) (h0 : Pv 0 0 (upd H1 D (.lst [])))
    (hl : ∀ i H, i ≤ xs.length → Pv i 0 H → SqL K H a xs)
    (hs : ∀ i x H, xs[i]? = some x → Pv i 0 H → g x (wipe σ vs) H fun σ2 H2 => wipe σ2 vs = wipe σ vs ∧ wi1 σ2 H2 fun J1 H4 => ∃ (c : Addr) (ys : List V), J1 = Itt K c ∧ Pv i 0 H4 ∧ (∀ j H, j ≤ ys.length → Pv i j H → SqT K H c ys) ∧
      (∀ j y H, ys[j]? = some y → Pv i j H → g1 y (wipe σ2 vs1) H fun σ3 H5 => wipe σ3 vs1 = wipe σ2 vs1 ∧ te σ3 H5 fun y H7 => ∃ acc, H7 D = some (.lst acc) ∧ acc.length < sizeLine ∧ Pv i (j + 1) (upd H7 D (.lst (acc ++ [y])))) ∧
      ∀ H, Pv i ys.length H → Pv (i + 1) 0 H)
    (mono : ∀ x, ∀ (σ : L2.St) (H : Hp) (Q R : L2.St → Hp → Prop), (∀ σ H, Q σ H → R σ H) → g x σ H Q → g x σ H R) (mono1 : ∀ x, ∀ (σ : L2.St) (H : Hp) (Q R : L2.St → Hp → Prop), (∀ σ H, Q σ H → R σ H) → g1 x σ H Q → g1 x σ H R)
    (monoI : ∀ (σ : L2.St) (H : Hp) (Q R : It → Hp → Prop), (∀ J H, Q J H → R J H) → wi1 σ H Q → wi1 σ H R)
    (hd : ∀ H, Pv xs.length 0 H → Qd H) :
    ∃ W : Nat → Nat → Hp → Prop, (∃ m, W 0 m (upd H1 D (.lst []))) ∧ ∀ i m H, W i m H →
      ((Itl K a).stop i H ∧ Qd H) ∨ ((Itl K a).go i H ∧ ∃ Nx : Hp → Prop, (∀ H', Nx H' → ∃ m', m' < m ∧ W (i + 1) m' H') ∧ ∀ x H', (Itl K a).yld i H x H' → g x (wipe σ vs) H' fun σ2 H2 => wipe σ2 vs = wipe σ vs ∧ tYes σ2 H2 fun b H3 =>
        if b = true then wi1 σ2 H3 fun J1 H4 => ∃ W1 : Nat → Nat → Hp → Prop, (∃ m, W1 0 m H4) ∧ ∀ j k H, W1 j k H →
          (J1.stop j H ∧ Nx H) ∨ (J1.go j H ∧ ∃ Nx1 : Hp → Prop, (∀ H', Nx1 H' → ∃ k', k' < k ∧ W1 (j + 1) k' H') ∧ ∀ x H', J1.yld j H x H' → g1 x (wipe σ2 vs1) H' fun σ3 H5 => wipe σ3 vs1 = wipe σ2 vs1 ∧ tYes σ3 H5 fun b H6 =>
            if b = true then te σ3 H6 fun y H7 => ∃ acc, H7 D = some (.lst acc) ∧ acc.length < sizeLine ∧ Nx1 (upd H7 D (.lst (acc ++ [y]))) else Nx1 H6)
        else Nx H3) := by
  refine ⟨fun i m H => m = xs.length - i ∧ i ≤ xs.length ∧ Pv i 0 H, ⟨xs.length, by simp, Nat.zero_le _, h0⟩, ?_⟩
  rintro i m H ⟨rfl, hi, p⟩
  have q := hl i H hi p
  by_cases lt : i < xs.length
  · refine .inr ⟨⟨xs, xs[i], q, by simp [lt]⟩, Pv (i + 1) 0, fun H' p' => ⟨xs.length - (i + 1), by omega, rfl, lt, p'⟩, ?_⟩
    rintro x H' ⟨rfl, y⟩
    refine mono _ _ _ _ _ (fun σ2 H2 r => ?_) (hs i x _ (y xs q) p)
    refine ⟨r.1, ?_⟩
    simp only [tYes, if_true]
    refine monoI _ _ _ _ (fun J1 H4 r1 => ?_) r.2
    obtain ⟨c, ys, rfl, p4, hT, hin, hfin⟩ := r1
    refine ⟨fun j k H => k = ys.length - j ∧ j ≤ ys.length ∧ Pv i j H, ⟨ys.length, by simp, Nat.zero_le _, p4⟩, ?_⟩
    rintro j k H ⟨rfl, hj, pj⟩
    have qj := hT j H hj pj
    by_cases ltj : j < ys.length
    · refine .inr ⟨⟨ys, ys[j], qj, by simp [ltj]⟩, Pv i (j + 1), fun H' p' => ⟨ys.length - (j + 1), by omega, rfl, ltj, p'⟩, ?_⟩
      rintro z H' ⟨rfl, yz⟩
      refine mono1 _ _ _ _ _ (fun σ3 H5 r3 => ⟨r3.1, ?_⟩) (hin j z _ (yz ys qj) pj)
      exact r3.2
    · have e : j = ys.length := by omega
      subst e
      exact .inl ⟨⟨ys, qj, Nat.le_refl _⟩, hfin H pj⟩
  · have e : i = xs.length := by omega
    subst e
    exact .inl ⟨⟨xs, q, Nat.le_refl _⟩, hd H p⟩
section
variable {P : Program} {w : World} {K : PySem.W.Frag} {mg : Str → Option Value} {base : Heap}
abbrev tx (x : Str) : MemV := (V.str x, NestedKey.text x)
def txd (xs : List Str) : PyData := .tuple (xs.map PyData.str)
theorem texts_dp {H : Hp} : ∀ xs : List Str, DpAll K H (xs.map V.str) (xs.map PyData.str)
  | [] => .nil
  | x :: r => .cons (.str x) (texts_dp r)
theorem texts_eqv : ∀ xs : List Str, PyData.eqvAll (xs.map PyData.str) (xs.map PyData.str) = true
  | [] => rfl
  | x :: r => by
    rw [List.map_cons, PyData.eqvAll, texts_eqv r]
    simp [PyData.eqv]
theorem txd_shaped {xs : List Str} (hx : ∀ x ∈ xs, PyData.strOk x = true) : SeqAt.shaped (txd xs) = true := by
  have h : ∀ l : List Str, (∀ x ∈ l, PyData.strOk x = true) → PyData.canLayAll0 (l.map PyData.str) = true ∧ PyData.depthAll (l.map PyData.str) ≤ 1 := by
    intro l hl
    induction l with
    | nil => exact ⟨rfl, by decide⟩
    | cons c r ih =>
      have ih := ih fun x hx => hl x (List.mem_cons_of_mem _ hx)
      refine ⟨?_, ?_⟩
      · simp only [List.map_cons, PyData.canLayAll0, PyData.canLay0]
        rw [hl c List.mem_cons_self, ih.1]
        rfl
      · simp only [List.map_cons, PyData.depthAll, PyData.depth]
        have := ih.2
        omega
  obtain ⟨h1, h2⟩ := h xs hx
  unfold SeqAt.shaped
  have e1 : (txd xs).canLay0 = true := by simpa [txd, PyData.canLay0] using h1
  have e2 : (txd xs).depth ≤ 64 := by
    simp only [txd, PyData.depth]
    omega
  rw [e1, decide_eq_true e2]
  rfl
theorem name_strOk {x : Str} (h : nameOk x = true) : PyData.strOk x = true := by
  unfold nameOk at h
  rw [Bool.and_eq_true, Bool.and_eq_true] at h
  have h1 := h.2.1
  unfold Txt.isascii at h1
  unfold PyData.strOk
  rw [Array.all_eq_true] at h1 ⊢
  intro i hi
  have := of_decide_eq_true (h1 i hi)
  exact decide_eq_true (Nat.lt_trans this (by decide))
/-- is_domain(xs) of names that ascend -/
def spDom : Sp := fun vs H Q _ => ∃ (a : Addr) (xs : List Str), vs = [.ref a] ∧ H a = some (.tup (xs.map V.str)) ∧ (∀ x ∈ xs, nameOk x = true) ∧ (xs.map tx).Pairwise Bef ∧ 1 ≤ xs.length ∧ xs.length ≤ 3 ∧ ∀ H', Same H H' → Q (.bl true) H'
theorem bef_texts {xs : List Str} (h : (xs.map tx).Pairwise Bef) : xs.Nodup := by
  have e := nodup_of_map (bef_nodup h)
  exact nodup_of_map e
theorem texts_al (xs : List Str) : W.AllAlike ((xs.map tx).map (·.2.data)) ∧ W.Sortable ((xs.map tx).map (·.2.data)) := by
  rw [List.map_map]
  exact ⟨W.AllAlike.of fun a b => rfl, W.Sortable.others fun a => ⟨fun z => (by cases z), fun _ z => (by cases z)⟩⟩
theorem texts_kv {H : Hp} (xs : List Str) : ∀ p ∈ xs.map tx, Kv K H p.1 p.2 ∧ FitV false p := fun p hp => by
  obtain ⟨x, _, rfl⟩ := List.mem_map.mp hp
  exact ⟨.str x, x, rfl⟩
theorem sc_is_domain : FnScope ["thing"] ["thing"] (defScope s_is_domain) := ⟨rfl, rfl, rfl, by decide +kernel, rfl, by decide +kernel, by decide +kernel⟩
theorem ok_is_domain (B : Bs mg) (f : FnF K mg "is_domain" "is_domain" s_is_domain) (fa : FnF K mg "are_names" "are_names" s_are_names) (fn : FnF K mg "is_name" "is_name" s_is_name) (fs : FnF K mg "ascending" "ascending" s_ascending) :
    FnOk P w K mg base CX0 3 f.a f.d ["thing"] spDom := by
  obtain ⟨tv, cv⟩ := B.c_vals
  have G1 := ok_are_names (P := P) (w := w) (base := base) B fa fn
  have b1 : Binds K fa.d ["thing"] [] := fa.F.binds fun _ _ _ _ _ _ us hl => match us, hl with | [_], _ => rfl
  have G2 := ok_ascending (P := P) (w := w) (base := base) B fs
  have b2 : Binds K fs.d ["things"] [] := fs.F.binds fun _ _ _ _ _ _ us hl => match us, hl with | [_], _ => rfl
  refine f.F.ok sc_is_domain (fun vs H Q E h => ?_) (fun cdv A outer s H vs Q E hr h => ?_)
  · obtain ⟨a, xs, rfl, _⟩ := h
    rfl
  · obtain ⟨a, xs, rfl, ha, ok, asc, l1, l3, q⟩ := h
    have hu64 := hr.units
    have hr1 : Room 1 _ := hr.mono (by omega)
    have hr2 : Room 2 _ := hr.mono (by omega)
    refine ⟨_, (pss_one
      (ps_ret (pe_and (pe_call G1 hr2 rfl fa.g fa.F.kp b1 .nil pass0 (pa_cons (pv 0) pa_nil)) (pe_and (pe_chain op_le op_le pe_int (pe_callB call_len (by rfl) B.n_len (by decide +kernel) (pa_cons (pv 0) pa_nil)) (pe_glob (v := .int 3) rfl cv ⟨_, rfl⟩))
        (pe_one (pe_cmpR (op_eqD hu64) (pv 0) (pe_call G2 hr1 rfl fs.g fs.F.kp b2 .nil pass0 (pa_cons (pv 0) pa_nil)) (nomark _))))))), ?_⟩
    refine ⟨_, rfl, a, xs, rfl, ha, ok, bef_texts asc, by omega, fun H1 e1 => ⟨true, rfl, iteT ?_⟩⟩
    refine ⟨_, rfl, .ref a, xs.length, rfl, .inr ⟨_, SqT.of (e1 _ _ ha), by rw [List.length_map]⟩, _, _, rfl, rfl, _, rfl, ite2 (fun _ => ?_) fun c => absurd (decide_eq_true (by omega)) c⟩
    refine ⟨_, _, rfl, rfl, _, rfl, ite2 (fun _ => ?_) fun c => absurd (decide_eq_true (by omega)) c⟩
    refine ⟨_, rfl, _, rfl, false, a, xs.map tx, rfl, .inr (SqT.of (by rw [texts_mem]; exact e1 _ _ ha)), texts_kv xs, by rw [List.length_map]; omega, (texts_al xs).1, (texts_al xs).2, fun L p H2 h1 h2 h3 h4 hp e2 hL => ?_⟩
    have eL := asc_same asc h1 h2 h3 h4
    rw [eL, texts_mem] at hL
    refine ⟨txd xs, txd xs, .tup (SqT.of (e2 _ _ (e1 _ _ ha))) (texts_dp xs), .tup (SqT.of hL) (texts_dp xs), txd_shaped fun x hx => name_strOk (ok x hx), txd_shaped fun x hx => name_strOk (ok x hx), ?_⟩
    have ev : PyData.eqv (txd xs) (txd xs) = true := by
      simp only [txd, PyData.eqv]
      exact texts_eqv xs
    rw [ev]
    exact q H2 (same_trans e1 e2)
/-- is_row(row, domain, length) of a row -/
def spRow : Sp := fun vs H Q _ => ∃ (r d : Addr) (rs ds : List Str), vs = [.ref r, .ref d, .int (rs.length : Nat)] ∧ H r = some (.tup (rs.map V.str)) ∧ H d = some (.tup (ds.map V.str)) ∧ (∀ x ∈ rs, x ∈ ds) ∧ rs.length ≤ 1000 ∧ ∀ H', Same H H' → Q (.bl true) H'
theorem in_texts {x : Str} {ds : List Str} (h : x ∈ ds) : inV (.str x) (ds.map V.str) = true := by
  unfold inV
  rw [List.any_eq_true]
  exact ⟨.str x, List.mem_map.mpr ⟨x, h, rfl⟩, by show (x == x) = true; exact beq_self_eq_true x⟩
theorem sc_is_row : FnScope ["thing", "domain", "length", "value"] ["thing", "domain", "length"] (defScope s_is_row) := ⟨rfl, rfl, rfl, by decide +kernel, rfl, by decide +kernel, by decide +kernel⟩
theorem ok_is_row (B : Bs mg) (f : FnF K mg "is_row" "is_row" s_is_row) : FnOk P w K mg base CX0 1 f.a f.d ["thing", "domain", "length"] spRow := by
  refine f.F.ok sc_is_row (fun vs H Q E h => ?_) (fun cdv A outer s H vs Q E hr h => ?_)
  · obtain ⟨r, d, rs, ds, rfl, _⟩ := h
    rfl
  · obtain ⟨r, d, rs, ds, rfl, ha, hd, sub, few, q⟩ := h
    refine ⟨_, (pss_one
      (ps_ret (pe_and (pe_callB call_isi (by rfl) B.n_isinstance (by decide +kernel) (pa_cons (pv 0) (pa_cons (pe_bltn (v := .ty "tuple") rfl B.n_tuple (by decide +kernel) rfl) pa_nil)))
        (pe_and (pe_cmpR op_eq (pe_callB call_len (by rfl) B.n_len (by decide +kernel) (pa_cons (pv 0) pa_nil)) (pv 2) (nomark _))
          (pe_one (pe_callB (cr_all rfl) (by rfl) B.n_all (by decide +kernel) (pa_cons (pe_lc (own := [("value", 3)]) (g := gName 3) (by rfl) sc_is_row.nd (pi_tup (pv 0)) (blkOk_by (own := [("value", 3)]) (N := ["thing", "domain", "length", "value"]) (sc := defScope s_is_row) (by decide +kernel))
            (fun _ _ _ _ _ => (pg_name (i := 3) sc_is_row.nd rfl (Or.inl rfl))) (fun _ _ _ _ _ => pts_nil) (fun _ _ _ _ _ => (pe_cmpR (show OpR _ (compareOp .In) (rIn K false) from op_in_seq) (pv 3) (pv 1) (by rfl)))) pa_nil))))))), ?_⟩
    refine ⟨_, rfl, _, _, _, _, true, rfl, .ty "tuple", .base (.tup ha), kit_ty (by decide +kernel), true, rfl, iteT ?_⟩
    refine ⟨_, rfl, .ref r, rs.length, rfl, .inr ⟨_, SqT.of ha, by rw [List.length_map]⟩, _, rfl, rfl, true, congrArg V.bl (decide_eq_true rfl), iteT ?_⟩
    refine ⟨_, rfl, r, rfl, ⟨_, SqT.of ha⟩, fun D hD => ?_⟩
    refine lc_tup (K := K) (xs := rs.map V.str) (fun i H' => Same H H' ∧ H' D = some (.lst (List.replicate i (V.bl true)))) ⟨same_new hD, upd_same⟩ (fun i H' _ p => SqT.of (p.1 _ _ ha)) ?_ ?_
    · rintro i y H' hi ⟨e1, eD⟩
      rw [List.getElem?_map] at hi
      cases hx : rs[i]? with
      | none =>
        rw [hx] at hi
        cases hi
      | some x =>
        rw [hx] at hi
        obtain rfl : V.str x = y := Option.some.inj hi
        have il : i < rs.length := (List.getElem?_eq_some_iff.mp hx).1
        refine ⟨rfl, _, rfl, _, rfl, d, ds.map V.str, rfl, .inr (SqT.of (e1 _ _ hd)), rfl, flat_strs ds, ?_⟩
        refine ⟨_, eD, by rw [List.length_replicate, sizeLine_eq]; omega, fun b u e => ?_, ?_⟩
        · rw [upd_ne (by rintro rfl; rw [hD] at e; cases e)]
          exact e1 b u e
        · rw [upd_same, if_neg (by decide), in_texts (sub x (List.mem_of_getElem? hx)), ← List.replicate_succ']
    · rintro H1 ⟨e1, eD⟩
      rw [List.length_map] at eD
      refine ⟨D, List.replicate rs.length true, rfl, SqL.of (by rw [List.map_replicate]; exact eD), ?_⟩
      rw [bls_all]
      exact q _ e1
end
end K01
/-! All rows; a column. -/
namespace K01
open PySem PySem.Spec PyProof.Rows L2 KG KS
/-- the rows one column longer -/
def step (R : List (List Str)) (col : List Str) : List (List Str) := R.flatMap fun r => col.map fun c => r ++ [c]
def prods (cols : List (List Str)) : List (List Str) := cols.foldl step [[]]
/-- values that are rows -/
abbrev RowsAt (H : Hp) : List V → List (List Str) → Prop := W.EachIs fun v ts => ∃ a, v = V.ref a ∧ H a = some (.tup (ts.map V.str))
theorem each_snoc {α β : Type} {R : α → β → Prop} {x : α} {y : β} : ∀ {as : List α} {bs : List β}, W.EachIs R as bs → R x y → W.EachIs R (as ++ [x]) (bs ++ [y])
  | _, _, .nil, h => .cons h .nil
  | _, _, .cons r t, h => .cons r (each_snoc t h)
theorem each_get {α β : Type} {R : α → β → Prop} : ∀ {as : List α} {bs : List β}, W.EachIs R as bs → ∀ {i : Nat} {x : α}, as[i]? = some x → ∃ y, bs[i]? = some y ∧ R x y
  | _, _, .nil, _, _, e => by cases e
  | _, _, .cons r t, 0, x, e => by
    cases e
    exact ⟨_, rfl, r⟩
  | _, _, .cons r t, i + 1, x, e => each_get t e
theorem RowsAt.up {H H' : Hp} (e : Same H H') {vs : List V} {R : List (List Str)} (h : RowsAt H vs R) : RowsAt H' vs R := each_and h fun v ts _ ⟨a, e1, e2⟩ => ⟨a, e1, e _ _ e2⟩
theorem step_take {R : List (List Str)} {col : List Str} {i : Nat} {r : List Str} (h : R[i]? = some r) : step (R.take (i + 1)) col = step (R.take i) col ++ col.map fun c => r ++ [c] := by
  unfold step
  rw [take_next h, List.flatMap_append, List.flatMap_singleton]
theorem step_len : ∀ (R : List (List Str)) (col : List Str), (step R col).length = R.length * col.length
  | [], col => by simp [step]
  | r :: R, col => by
    have ih := step_len R col
    unfold step at ih ⊢
    rw [List.flatMap_cons, List.length_append, List.length_map, ih, List.length_cons, Nat.succ_mul, Nat.add_comm]
theorem step_prefix {R : List (List Str)} {col : List Str} (i : Nat) : (step (R.take i) col).length ≤ (step R col).length := by
  rw [step_len, step_len]
  exact Nat.mul_le_mul_right _ (by rw [List.length_take]; omega)
theorem prods_next {cols : List (List Str)} {i : Nat} {col : List Str} (h : cols[i]? = some col) : prods (cols.take (i + 1)) = step (prods (cols.take i)) col := by
  unfold prods
  rw [take_next h, List.foldl_append]
  rfl
theorem rows_len (_ : List (List Str)) : ∀ (R : List (List Str)) (n : Nat), (∀ r ∈ R, r.length = n) → ∀ (cols : List (List Str)) {full : List (List Str)}, List.Sublist cols full → ∀ r ∈ cols.foldl step R, r.length = n + cols.length
  | R, n, h, [], _, _, r, hr => h r hr
  | R, n, h, c :: cols, full, sl, r, hr => by
    have z := rows_len [] (step R c) (n + 1) (fun q hq => by
      unfold step at hq
      obtain ⟨r0, h0, h1⟩ := List.mem_flatMap.mp hq
      obtain ⟨x, _, rfl⟩ := List.mem_map.mp h1
      rw [List.length_append, h r0 h0]
      rfl) cols (List.Sublist.refl cols) r hr
    rw [z, List.length_cons]
    omega
theorem same_put {H H1 : Hp} {D : Addr} {o : HO} (hD : H D = none) (e : Same H H1) : Same H (upd H1 D o) := fun b u h => by
  rw [upd_ne (by rintro rfl; rw [hD] at h; cases h)]
  exact e b u h
def spRows : Sp := fun vs H Q _ => ∃ (c : Addr) (ds : List Addr) (cols : List (List Str)), vs = [.ref c] ∧ H c = some (.lst (ds.map V.ref)) ∧ RowsAt H (ds.map V.ref) cols ∧ (∀ i, (prods (cols.take i)).length ≤ 100000) ∧ cols.length ≤ 1000 ∧
  ∀ (p : Addr) (rs : List V) (H' : Hp), H p = none → Same H H' → H' p = some (.tup rs) → RowsAt H' rs (prods cols) → Q (.ref p) H'
section
variable {P : Program} {w : World} {K : PySem.W.Frag} {mg : Str → Option Value} {base : Heap}
theorem sc_all_rows : FnScope ["columns", "rows", "column", "row", "item"] ["columns"] (defScope s_all_rows) := ⟨rfl, rfl, rfl, by decide +kernel, rfl, by decide +kernel, by decide +kernel⟩
theorem ok_all_rows (B : Bs mg) (f : FnF K mg "all_rows" "all_rows" s_all_rows) : FnOk P w K mg base CX0 1 f.a f.d ["columns"] spRows := by
  refine f.F.ok sc_all_rows (fun vs H Q E h => ?_) (fun cdv A outer s H vs Q E hr h => ?_)
  · obtain ⟨c, ds, cols, rfl, _⟩ := h
    rfl
  · obtain ⟨c, ds, cols, rfl, hc, hcol, few, wide, q⟩ := h
    refine ⟨_, (pss_cons
      (ps_set (i := 1) sc_all_rows.nd rfl (Or.inl rfl) (pe_lst (pa_cons (pe_tup pa_nil) pa_nil)))
    (pss_cons
      (ps_for PassesOwn.never rfl (pi_list (pv 0)) (pg_name (i := 2) sc_all_rows.nd rfl (Or.inr rfl))
        (pss_one
          (ps_setLc2 (i := 1) (own := [("row", 3), ("item", 4)]) (vs1 := [4]) (g := gName 3) (g1 := gName 4) (by rfl) sc_all_rows.nd rfl rfl (sw_true rfl rfl rfl (by decide +kernel)) (pi_list (pv 1)) (blkOk_by (own := [("row", 3), ("item", 4)]) (N := ["columns", "rows", "column", "row", "item"]) (sc := defScope s_all_rows) (by decide +kernel)) (by decide)
            (fun _ _ _ _ _ => (pg_name (i := 3) sc_all_rows.nd rfl (Or.inl rfl))) (fun _ _ _ _ _ => pts_nil)
            (fun _ _ _ _ _ => (show PI _ _ _ (iTup K (tVar 2)) from pi_tup (pv 2))) (fun _ _ _ _ _ => (pg_name (i := 4) sc_all_rows.nd rfl (Or.inl rfl))) (fun _ _ _ _ _ => pts_nil)
            (fun _ _ _ _ _ => (pe_op (show OpR _ (binaryOp .Add) (rCatA K) from op_catA) (pv 3) (pe_tup (pa_cons (pv 4) pa_nil)))))))
    (pss_one
      (ps_ret (pe_callTy call_tuple_of (by rfl) B.n_tuple (by decide +kernel) (pa_cons (pv 1) pa_nil)))))), ?_⟩
    refine ⟨by show 0 ≤ sizeLine; exact Nat.zero_le _, fun t ht => ⟨by show 1 ≤ sizeLine; decide, fun l hl => ?_⟩⟩
    have e0 : Same H (upd (upd H t (.tup [])) l (.lst [V.ref t])) := same_trans (same_new ht) (same_new hl)
    refine ⟨_, rfl, c, rfl, ⟨_, SqL.of (e0 _ _ hc)⟩, ?_⟩
    refine for_list (K := K) (a := c) (xs := ds.map V.ref) (fun i σ H' => ∃ (l : Addr) (rs : List V) (v2 : Option V), σ = [some (.ref c), some (.ref l), v2, none, none] ∧ Same H H' ∧ H' l = some (.lst rs) ∧ RowsAt H' rs (prods (cols.take i)))
      ⟨l, _, none, rfl, e0, upd_same, .cons ⟨t, rfl, by rw [upd_ne (ne_of_none upd_same hl), upd_same]; rfl⟩ .nil⟩ (fun i σ H' _ ⟨_, _, _, _, e, _⟩ => SqL.of (e _ _ hc)) ?_ ?_
    · rintro i0 y σ H0 hi ⟨l, rs, v2, rfl, e1, hl1, hR⟩
      obtain ⟨col, hci, d, rfl, hd0⟩ := each_get hcol hi
      generalize hRR : prods (cols.take i0) = R at hR
      have pn := prods_next hci
      rw [hRR] at pn
      have lim := few (i0 + 1)
      rw [pn] at lim
      refine ⟨_, rfl, l, rfl, ⟨_, SqL.of hl1⟩, fun D hD => ?_⟩
      have hDH : H D = none := e1.free hD
      have nDl : D ≠ l := (ne_of_none hl1 hD).symm
      refine lc2_lt (K := K) (a := l) (xs := rs) (fun i j H2 => ∃ acc, Same H0 H2 ∧ H2 D = some (.lst acc) ∧ RowsAt H2 acc (step (R.take i) col ++ (col.take j).map fun c => R.getD i [] ++ [c]))
        ⟨[], same_new hD, upd_same, .nil⟩ (fun i H2 _ ⟨_, e, _⟩ => SqL.of (e _ _ hl1)) ?_ (fun x σ H Q R h q => h _ _ q) (fun x σ H Q R h q => h _ _ q) (fun σ H Q R h ⟨x, e, a, e2, q0, q1⟩ => ⟨x, e, a, e2, q0, h _ _ q1⟩) ?_
      · rintro i x H2 hx ⟨acc, e2, hacc, hA⟩
        obtain ⟨ts, hRi, a, rfl, ha0⟩ := each_get hR hx
        have gd : R.getD i [] = ts := by rw [List.getD_eq_getElem?_getD, hRi]; rfl
        have ha2 := e2 _ _ ha0
        refine ⟨rfl, _, rfl, d, rfl, ⟨_, SqT.of (e2 _ _ (e1 _ _ hd0))⟩, d, col.map V.str, rfl, ⟨acc, e2, hacc, hA⟩, fun j H3 _ ⟨_, e3, _⟩ => SqT.of (e3 _ _ (e1 _ _ hd0)), ?_, ?_⟩
        · rintro j z H3 hz ⟨ac, e3, hac, hB⟩
          rw [List.getElem?_map] at hz
          cases hcj : col[j]? with
          | none =>
            rw [hcj] at hz
            cases hz
          | some cj =>
            rw [hcj] at hz
            obtain rfl : V.str cj = z := Option.some.inj hz
            have jl : j < col.length := (List.getElem?_eq_some_iff.mp hcj).1
            have il : i < R.length := (List.getElem?_eq_some_iff.mp hRi).1
            have lac : ac.length < 100000 := by
              have l1 := hB.length
              rw [List.length_append, List.length_map, List.length_take] at l1
              have l2 := step_prefix (R := R) (col := col) (i + 1)
              rw [step_take hRi, List.length_append, List.length_map] at l2
              omega
            rw [gd] at hB
            have hrow : ∀ {H4 : Hp} {v : V}, Same H3 H4 → (∃ b, v = V.ref b ∧ H4 b = some (.tup ((ts ++ [cj]).map V.str))) → RowsAt H4 (ac ++ [v]) (step (R.take i) col ++ (col.take (j + 1)).map fun c => R.getD i [] ++ [c]) := fun e4 hv => by
              rw [gd, take_next hcj, List.map_append, ← List.append_assoc]
              exact each_snoc (hB.up e4) hv
            have fin : ∀ {H4 : Hp} {v : V}, Same H3 H4 → H4 D = some (.lst ac) → (∃ b, v = V.ref b ∧ H4 b = some (.tup ((ts ++ [cj]).map V.str))) →
                ∃ acc, H4 D = some (.lst acc) ∧ acc.length < sizeLine ∧ ∃ acc', Same H0 (upd H4 D (.lst (acc ++ [v]))) ∧ upd H4 D (.lst (acc ++ [v])) D = some (.lst acc') ∧
                  RowsAt (upd H4 D (.lst (acc ++ [v]))) acc' (step (R.take i) col ++ (col.take (j + 1)).map fun c => R.getD i [] ++ [c]) := fun {H4 v} e4 h4 hv => by
              refine ⟨ac, h4, by rw [sizeLine_eq]; omega, ac ++ [v], same_put hD (same_trans e3 e4), upd_same, ?_⟩
              refine each_and (hrow e4 hv) fun v ts _ ⟨b, e5, e6⟩ => ⟨b, e5, ?_⟩
              rw [upd_ne (ne_of e6 h4 (by intro z; cases z))]
              exact e6
            refine ⟨rfl, _, rfl, _, rfl, by show 1 ≤ sizeLine; decide, fun b hb => ?_⟩
            have e4 : Same H3 (upd H3 b (.tup [V.str cj])) := same_new hb
            refine ⟨a, b, ts.map V.str, [V.str cj], rfl, rfl, SqT.of (e4 _ _ (e3 _ _ ha0)), SqT.of upd_same, ?_, fun z => ?_, fun _ z => (nomatch z), fun _ _ p hp => ?_⟩
            · have rl := rows_len [] [[]] 0 (by simp) (cols.take i0) (List.Sublist.refl _) ts (by rw [show (cols.take i0).foldl step [[]] = R from hRR]; exact List.mem_of_getElem? hRi)
              have tl : (cols.take i0).length ≤ cols.length := (List.take_sublist _ _).length_le
              rw [List.length_map, sizeLine_eq]
              show ts.length + 1 ≤ _
              omega
            · have z2 : ts = [] := List.map_eq_nil_iff.mp z
              exact fin e4 (e4 _ _ hac) ⟨b, rfl, by rw [upd_same, z2]; rfl⟩
            · have e5 := same_trans e4 (same_new (o := .tup (ts.map V.str ++ [V.str cj])) hp)
              exact fin e5 (e5 _ _ hac) ⟨p, rfl, by rw [upd_same, List.map_append]; rfl⟩
        · rintro H3 ⟨ac, e3, hac, hB⟩
          rw [List.length_map, List.take_length, gd, ← step_take hRi] at hB
          exact ⟨ac, e3, hac, by simpa using hB⟩
      · rintro H2 ⟨acc, e2, hacc, hA⟩
        refine ⟨D, acc, _, rfl, same_trans e1 e2, hacc, ?_⟩
        rw [pn]
        rw [hR.length] at hA
        simpa using hA
    · rintro σ H1 ⟨l, rs, v2, rfl, e1, hl1, hR⟩
      refine ⟨_, rfl, l, rs, rfl, .inl ⟨SqL.of hl1, fun p hp => ?_⟩⟩
      have le : cols.length = ds.length := by rw [← hcol.length, List.length_map]
      rw [List.length_map, ← le, List.take_length] at hR
      exact q p rs _ (e1.free hp) (same_trans e1 (same_new hp)) upd_same (hR.up (same_new hp))
end
end K01
/-! A column; a table made of what is valid. -/
namespace K01
open PySem PySem.Spec PyProof.Rows L2 KG KS
def inCls (i j : Nat) : Stmt := match top i with
  | .ClassDef _ _ _ body _ _ _ _ _ _ _ => body.getD j (.Pass ⟨0, 0, 0, 0⟩)
  | s => s
/-- a method of a class: where it stands -/
structure MtF (K : PySem.W.Frag) (name qual : Str) (st : Stmt) where
  a : Addr
  d : FuncData
  F : Fun K name qual st a d
abbrev s_tabInit : Stmt := inCls 22 0
/-- the facts of Table -/
structure TabC (K : PySem.W.Frag) (mg : Str → Option Value) (f : Addr) where
  C : Addr
  g : mg "Table" = some (.ref C)
  cl : Cls K C
  made : Mk K C f
  nd : NoAttr K C "domain"
  nw : NoAttr K C "width"
  nr : NoAttr K C "rows"
  nf : NoAttr K C "is_full"
  np : NoAttr K C "is_product"
/-- no statement is reached here -/
theorem ps_dead {X : Cx} {st : Stmt} : PS X st (fun _ _ _ => False) := ⟨fun _ _ _ _ _ _ h => h.elim⟩
theorem tx_list : ∀ {ys : List Str} {L : List MemV}, (∀ m ∈ L, m ∈ ys.map tx) → ∃ xs : List Str, L = xs.map tx ∧ ∀ x ∈ xs, x ∈ ys
  | _, [], _ => ⟨[], rfl, fun _ z => (nomatch z)⟩
  | ys, m :: L, h => by
    obtain ⟨x, hx, rfl⟩ := List.mem_map.mp (h m List.mem_cons_self)
    obtain ⟨xs, e, s⟩ := tx_list (ys := ys) (L := L) fun q hq => h q (List.mem_cons_of_mem _ hq)
    refine ⟨x :: xs, by rw [List.map_cons, e], fun z hz => ?_⟩
    rcases List.mem_cons.mp hz with e | hz
    · rw [e]
      exact hx
    · exact s z hz
def colv (R : List (List Str)) (pl : Nat) : List Str := R.map fun row => row.getD pl Str.empty
/-- column_of(rows, place) -/
def spCol : Sp := fun vs H Q _ => ∃ (r : Addr) (rs : List V) (R : List (List Str)) (pl : Nat), vs = [.ref r, .int (pl : Nat)] ∧ H r = some (.tup rs) ∧ RowsAt H rs R ∧ (∀ row ∈ R, pl < row.length) ∧ R.length < 64 ∧ pl < 1000 ∧
  ∀ (p : Addr) (xs : List Str) (H' : Hp), H p = none → Same H H' → H' p = some (.tup (xs.map V.str)) → (∀ x, x ∈ xs ↔ ∃ row ∈ R, row[pl]? = some x) → ((xs.map tx).map (·.2)).Nodup → (xs.map tx).Pairwise Aft → Q (.ref p) H'
section
variable {P : Program} {w : World} {K : PySem.W.Frag} {mg : Str → Option Value} {base : Heap}
theorem sc_column_of : FnScope ["rows", "place", "row"] ["rows", "place"] (defScope s_column_of) := ⟨rfl, rfl, rfl, by decide +kernel, rfl, by decide +kernel, by decide +kernel⟩
theorem ok_column_of (B : Bs mg) (f : FnF K mg "column_of" "column_of" s_column_of) (fs : FnF K mg "ascending" "ascending" s_ascending) : FnOk P w K mg base CX0 2 f.a f.d ["rows", "place"] spCol := by
  have G2 := ok_ascending (P := P) (w := w) (base := base) B fs
  have b2 : Binds K fs.d ["things"] [] := fs.F.binds fun _ _ _ _ _ _ us hl => match us, hl with | [_], _ => rfl
  refine f.F.ok sc_column_of (fun vs H Q E h => ?_) (fun cdv A outer s H vs Q E hr h => ?_)
  · obtain ⟨r, rs, R, pl, rfl, _⟩ := h
    rfl
  · obtain ⟨r, rs, R, pl, rfl, hr0, hR, hpl, h64, h1000, q⟩ := h
    have hr1 : Room 1 _ := hr.mono (by omega)
    refine ⟨_, (pss_one
      (ps_ret (pe_call G2 hr1 rfl fs.g fs.F.kp b2 .nil pass0 (pa_cons (pe_lc (own := [("row", 2)]) (g := gName 2) (by rfl) sc_column_of.nd (pi_tup (pv 0)) (blkOk_by (own := [("row", 2)]) (N := ["rows", "place", "row"]) (sc := defScope s_column_of) (by decide +kernel))
        (fun _ _ _ _ _ => (pg_name (i := 2) sc_column_of.nd rfl (Or.inl rfl))) (fun _ _ _ _ _ => pts_nil) (fun _ _ _ _ _ => (pe_ix (show IxR _ (rIxT K) from ix_tup) (pv 2) (pv 1) (fun _ _ => rfl)))) pa_nil)))), ?_⟩
    refine ⟨_, rfl, r, rfl, ⟨_, SqT.of hr0⟩, fun D hD => ?_⟩
    refine lc_tup (K := K) (xs := rs) (fun i H' => Same H H' ∧ H' D = some (.lst (((colv R pl).take i).map V.str))) ⟨same_new hD, upd_same⟩ (fun i H' _ p => SqT.of (p.1 _ _ hr0)) ?_ ?_
    · rintro i y H' hi ⟨e1, eD⟩
      obtain ⟨row, hrow, a, rfl, ha⟩ := each_get hR hi
      have lp := hpl row (List.mem_of_getElem? hrow)
      have gp : row[pl]? = some (row.getD pl Str.empty) := by
        rw [List.getElem?_eq_getElem lp]
        simp [List.getD, lp]
      have cp : (colv R pl)[i]? = some (row.getD pl Str.empty) := by
        unfold colv
        rw [List.getElem?_map, hrow]
        rfl
      have il : i < R.length := (List.getElem?_eq_some_iff.mp hrow).1
      refine ⟨rfl, _, rfl, _, rfl, a, row.map V.str, (pl : Nat), .str (row.getD pl Str.empty), rfl, rfl, SqT.of (e1 _ _ ha), atI_nat (by rw [List.getElem?_map, gp]; rfl), _, eD, by rw [List.length_map, List.length_take, sizeLine_eq]; omega, same_put hD e1, ?_⟩
      rw [upd_same, take_next cp, List.map_append]
      rfl
    · rintro H1 ⟨e1, eD⟩
      rw [hR.length] at eD
      have ct : (colv R pl).take R.length = colv R pl := by
        rw [← List.length_map (f := fun row : List Str => row.getD pl Str.empty)]
        exact List.take_length
      rw [ct] at eD
      have cl : (colv R pl).length = R.length := List.length_map ..
      refine ⟨false, D, (colv R pl).map tx, rfl, .inl (SqL.of (by rw [texts_mem]; exact eD)), texts_kv _, by rw [List.length_map, cl]; exact h64, (texts_al _).1, (texts_al _).2, fun L p H2 h1 h2 h3 h4 hp e2 hL => ?_⟩
      obtain ⟨xs, rfl, hx⟩ := tx_list h1
      rw [texts_mem] at hL
      refine q p xs H2 (e1.free hp) (same_trans e1 e2) hL (fun x => ⟨fun hm => ?_, fun ⟨row, hm, e⟩ => ?_⟩) h3 h4
      · obtain ⟨row, hrow, e⟩ := List.mem_map.mp (hx x hm)
        refine ⟨row, hrow, ?_⟩
        have lp := hpl row hrow
        rw [← e, List.getElem?_eq_getElem lp]
        simp [List.getD, lp]
      · have mc : x ∈ colv R pl := List.mem_map.mpr ⟨row, hm, by rw [List.getD_eq_getElem?_getD, e]; rfl⟩
        have z := h2 (tx x) (List.mem_map.mpr ⟨x, mc, rfl⟩)
        rw [List.map_map] at z
        obtain ⟨y, hy, e3⟩ := List.mem_map.mp z
        have e4 : y = x := NestedKey.text.inj e3
        rw [← e4]
        exact hy
end
end K01
/-! Rows as data; Table(domain, width, rows) of what is valid. -/
namespace K01
open PySem PySem.Spec PyProof.Rows L2 KG KS
/-- a row as a key -/
def kr (ts : List Str) : NestedKey := .tup (ts.map NestedKey.text)
theorem kr_inj {a b : List Str} (h : kr a = kr b) : a = b := by
  have e : a.map NestedKey.text = b.map NestedKey.text := NestedKey.tup.inj h
  exact (List.map_inj_right fun x y z => NestedKey.text.inj z).mp e
theorem datas_texts : ∀ ts : List Str, NestedKey.datas (ts.map NestedKey.text) = ts.map PyData.str
  | [] => rfl
  | t :: ts => by
    rw [List.map_cons, List.map_cons, NestedKey.datas, datas_texts ts]
    rfl
theorem kr_data (ts : List Str) : (kr ts).data = txd ts := by
  show PyData.tuple (NestedKey.datas (ts.map NestedKey.text)) = txd ts
  rw [datas_texts]
  rfl
theorem depth_texts : ∀ ts : List Str, NestedKey.depthAll (ts.map NestedKey.text) = 0
  | [] => rfl
  | t :: ts => by
    rw [List.map_cons, NestedKey.depthAll, depth_texts ts]
    rfl
theorem kv_texts {K : PySem.W.Frag} {H : Hp} : ∀ ts : List Str, KvAll K H (ts.map V.str) (ts.map NestedKey.text)
  | [] => .nil
  | t :: ts => .cons (.str t) (kv_texts ts)
theorem kv_row {K : PySem.W.Frag} {H : Hp} {a : Addr} {ts : List Str} (h : H a = some (.tup (ts.map V.str))) : Kv K H (.ref a) (kr ts) ∧ FitV true (V.ref a, kr ts) := by
  refine ⟨.tup (SqT.of h) (kv_texts ts), a, _, rfl, rfl, ?_⟩
  show NestedKey.depthAll (ts.map NestedKey.text) + 1 ≤ 8
  rw [depth_texts]
  decide
/-- rows as members -/
theorem rows_mem {K : PySem.W.Frag} {H : Hp} : ∀ {vs : List V} {R : List (List Str)}, RowsAt H vs R → ∃ ms : List MemV, ms.map (·.1) = vs ∧ ms.map (·.2) = R.map kr ∧ ∀ p ∈ ms, (Kv K H p.1 p.2 ∧ FitV true p) ∧ ∃ ts ∈ R, p.2 = kr ts ∧ ∃ a, p.1 = V.ref a ∧ H a = some (.tup (ts.map V.str))
  | _, _, .nil => ⟨[], rfl, rfl, fun _ z => (nomatch z)⟩
  | _, _, .cons ⟨a, e1, e2⟩ t => by
    obtain ⟨ms, h1, h2, h3⟩ := rows_mem (K := K) t
    subst e1
    refine ⟨(V.ref a, kr _) :: ms, by rw [List.map_cons, h1], by rw [List.map_cons, List.map_cons, h2], fun p hp => ?_⟩
    rcases List.mem_cons.mp hp with z | z
    · rw [z]
      exact ⟨kv_row e2, _, List.mem_cons_self, rfl, a, rfl, e2⟩
    · obtain ⟨q, ts, hts, q2⟩ := h3 p z
      exact ⟨q, ts, List.mem_cons_of_mem _ hts, q2⟩
theorem rows_back {H : Hp} {R : List (List Str)} : ∀ {L : List MemV}, (∀ p ∈ L, ∃ ts ∈ R, p.2 = kr ts ∧ ∃ a, p.1 = V.ref a ∧ H a = some (.tup (ts.map V.str))) → ∃ R', RowsAt H (L.map (·.1)) R' ∧ L.map (·.2) = R'.map kr ∧ ∀ ts ∈ R', ts ∈ R
  | [], _ => ⟨[], .nil, rfl, fun _ z => (nomatch z)⟩
  | p :: L, h => by
    obtain ⟨ts, hts, e, a, e1, e2⟩ := h p List.mem_cons_self
    obtain ⟨R', h1, h2, h3⟩ := rows_back (L := L) fun q hq => h q (List.mem_cons_of_mem _ hq)
    refine ⟨ts :: R', .cons ⟨a, e1, e2⟩ h1, by rw [List.map_cons, List.map_cons, h2, e], fun x hx => ?_⟩
    rcases List.mem_cons.mp hx with z | z
    · rw [z]
      exact hts
    · exact h3 x z
/-- rows as data -/
def rowsD (R : List (List Str)) : PyData := .tuple (R.map txd)
theorem rows_dp {K : PySem.W.Frag} {H : Hp} : ∀ {vs : List V} {R : List (List Str)}, RowsAt H vs R → DpAll K H vs (R.map txd)
  | _, _, .nil => .nil
  | _, _, .cons ⟨a, e1, e2⟩ t => by
    subst e1
    exact .cons (.tup (SqT.of e2) (texts_dp _)) (rows_dp t)
theorem txd_flat {xs : List Str} (hx : ∀ x ∈ xs, PyData.strOk x = true) : (txd xs).canLay0 = true ∧ (txd xs).depth ≤ 1 := by
  induction xs with
  | nil => exact ⟨rfl, by decide⟩
  | cons c r ih =>
    obtain ⟨i1, i2⟩ := ih fun x hx' => hx x (List.mem_cons_of_mem _ hx')
    simp only [txd, PyData.canLay0, PyData.depth] at i1 i2 ⊢
    refine ⟨?_, ?_⟩
    · simp only [List.map_cons, PyData.canLayAll0, PyData.canLay0]
      rw [hx c List.mem_cons_self, i1]
      rfl
    · simp only [List.map_cons, PyData.depthAll, PyData.depth]
      omega
theorem rows_shaped {R : List (List Str)} (h : ∀ r ∈ R, ∀ x ∈ r, PyData.strOk x = true) : SeqAt.shaped (rowsD R) = true := by
  have key : ∀ l : List (List Str), (∀ r ∈ l, ∀ x ∈ r, PyData.strOk x = true) → PyData.canLayAll0 (l.map txd) = true ∧ PyData.depthAll (l.map txd) ≤ 1 := by
    intro l hl
    induction l with
    | nil => exact ⟨rfl, by decide⟩
    | cons c r ih =>
      obtain ⟨i1, i2⟩ := ih fun x hx => hl x (List.mem_cons_of_mem _ hx)
      obtain ⟨c1, c2⟩ := txd_flat (hl c List.mem_cons_self)
      refine ⟨?_, ?_⟩
      · simp only [List.map_cons, PyData.canLayAll0]
        rw [c1, i1]
        rfl
      · simp only [List.map_cons, PyData.depthAll]
        omega
  obtain ⟨h1, h2⟩ := key R h
  unfold SeqAt.shaped
  have e1 : (rowsD R).canLay0 = true := by simpa [rowsD, PyData.canLay0] using h1
  have e2 : (rowsD R).depth ≤ 64 := by
    simp only [rowsD, PyData.depth]
    omega
  rw [e1, decide_eq_true e2]
  rfl
theorem alike_texts : ∀ xs ys : List Str, W.alikeAll (xs.map PyData.str) (ys.map PyData.str) = true
  | [], _ => by simp [W.alikeAll]
  | _ :: _, [] => by simp [W.alikeAll]
  | x :: xs, y :: ys => by
    rw [List.map_cons, List.map_cons, W.alikeAll, alike_texts xs ys]
    rfl
theorem rows_al {ms : List MemV} {R : List (List Str)} (h : ∀ p ∈ ms, ∃ ts ∈ R, p.2 = kr ts) (h1 : ∀ r ∈ R, 1 ≤ r.length) : W.AllAlike (ms.map (·.2.data)) ∧ W.Sortable (ms.map (·.2.data)) := by
  have g : ∀ d ∈ ms.map (·.2.data), ∃ ts ∈ R, d = txd ts := fun d hd => by
    obtain ⟨p, hp, rfl⟩ := List.mem_map.mp hd
    obtain ⟨ts, hts, e⟩ := h p hp
    exact ⟨ts, hts, by rw [e, kr_data]⟩
  refine ⟨fun d hd d' hd' => ?_, .inl fun d hd => ?_⟩
  · obtain ⟨ts, _, rfl⟩ := g d hd
    obtain ⟨us, _, rfl⟩ := g d' hd'
    exact alike_texts ts us
  · obtain ⟨ts, hts, rfl⟩ := g d hd
    have := h1 ts hts
    cases ts with
    | nil => exact absurd this (by decide)
    | cons x r => exact ⟨.str x, r.map PyData.str, rfl⟩
theorem prods_mem : ∀ (cols R : List (List Str)), ∀ r ∈ cols.foldl step R, ∀ x ∈ r, (∃ c ∈ cols, x ∈ c) ∨ ∃ r0 ∈ R, x ∈ r0
  | [], R, r, hr, x, hx => .inr ⟨r, hr, hx⟩
  | c :: cols, R, r, hr, x, hx => by
    rcases prods_mem cols (step R c) r hr x hx with ⟨c', h1, h2⟩ | ⟨r0, h1, h2⟩
    · exact .inl ⟨c', List.mem_cons_of_mem _ h1, h2⟩
    · unfold step at h1
      obtain ⟨r1, a1, a2⟩ := List.mem_flatMap.mp h1
      obtain ⟨y, b1, rfl⟩ := List.mem_map.mp a2
      rcases List.mem_append.mp h2 with z | z
      · exact .inr ⟨r1, a1, z⟩
      · rw [List.mem_singleton.mp z]
        exact .inl ⟨c, List.mem_cons_self, b1⟩
theorem prods_ok {cols : List (List Str)} (h : ∀ c ∈ cols, ∀ x ∈ c, PyData.strOk x = true) : ∀ r ∈ prods cols, ∀ x ∈ r, PyData.strOk x = true := fun r hr x hx => by
  rcases prods_mem cols [[]] r hr x hx with ⟨c, h1, h2⟩ | ⟨r0, h1, h2⟩
  · exact h c h1 x h2
  · rw [List.mem_singleton.mp h1] at h2
    cases h2
theorem prods_few : ∀ (cols R : List (List Str)), (∀ c ∈ cols, c.length ≤ 3) → (cols.foldl step R).length ≤ R.length * 3 ^ cols.length
  | [], R, _ => by simp
  | c :: cols, R, h => by
    have z := prods_few cols (step R c) fun x hx => h x (List.mem_cons_of_mem _ hx)
    rw [step_len] at z
    have l := h c List.mem_cons_self
    rw [List.length_cons, Nat.pow_succ]
    refine Nat.le_trans (show _ ≤ _ from z) ?_
    rw [Nat.mul_assoc, Nat.mul_comm (3 ^ cols.length) 3]
    exact Nat.mul_le_mul_left _ (Nat.mul_le_mul_right _ l)
theorem few_of {cols : List (List Str)} (h : ∀ c ∈ cols, c.length ≤ 3) (n : cols.length ≤ 3) (i : Nat) : (prods (cols.take i)).length ≤ 100000 := by
  have z := prods_few (cols.take i) [[]] fun c hc => h c (List.mem_of_mem_take hc)
  have l : (cols.take i).length ≤ 3 := by
    rw [List.length_take]
    omega
  have p : 3 ^ (cols.take i).length ≤ 3 ^ 3 := Nat.pow_le_pow_right (by decide) l
  unfold prods
  have e : ([[]] : List (List Str)).length = 1 := rfl
  rw [e] at z
  omega
end K01
/-! The order of rows of texts; products ascend; a part of as many is the whole. -/
namespace KA
open PySem PySem.Spec PyProof.Rows L2 KS K01
/-- one row ahead of another -/
def ltR (xs ys : List Str) : Bool := W.dataLt (txd xs) (txd ys)
def ltT (x y : Str) : Bool := W.dataLt (.str x) (.str y)
theorem ltR_row (xs ys : List Str) : ltR xs ys = W.rowLt (xs.map PyData.str) (ys.map PyData.str) := W.dataLt_tuple ..
theorem eqv_str (x y : Str) : PyData.eqv (.str x) (.str y) = decide (x = y) := by
  by_cases h : x = y
  · subst h
    simp [PyData.eqv]
  · simp [PyData.eqv, h]
theorem ltR_cons (x y : Str) (xs ys : List Str) : ltR (x :: xs) (y :: ys) = if x = y then ltR xs ys else ltT x y := by
  rw [ltR_row, ltR_row]
  show PyProof.Rows.lexLt itemOrd (W.keyToksAll (.str x :: xs.map PyData.str)) (W.keyToksAll (.str y :: ys.map PyData.str)) = _
  rw [W.dataLt_cons (by rfl), eqv_str]
  by_cases h : x = y
  · rw [decide_eq_true h, if_pos rfl, if_pos h]
    rfl
  · rw [decide_eq_false h, if_neg Bool.false_ne_true, if_neg h]
    rfl
theorem ltR_irr (xs : List Str) : ltR xs xs = false := lex_irrefl _
theorem ltR_trans {a b c : List Str} (h : ltR a b = true) (k : ltR b c = true) : ltR a c = true := lex_trans _ _ _ h k
theorem ltT_irr (x : Str) : ltT x x = false := lex_irrefl _
theorem ltT_total {x y : Str} (h : ltT x y = false) (k : ltT y x = false) : x = y := by
  by_cases e : x = y
  · exact e
  · have z := ltR_cons x y [] []
    have z2 := ltR_cons y x [] []
    rw [if_neg e] at z
    rw [if_neg fun q => e q.symm] at z2
    have t := lex_total _ _ (show W.dataLt (.str x) (.str y) = false from h) (show W.dataLt (.str y) (.str x) = false from k)
    have t2 : W.keyToks (.str x) = W.keyToks (.str y) := t
    simp [W.keyToks] at t2
    exact W.str_of_cps (by rw [t2])
theorem ltR_total : ∀ {xs ys : List Str}, xs.length = ys.length → ltR xs ys = false → ltR ys xs = false → xs = ys
  | [], [], _, _, _ => rfl
  | x :: xs, y :: ys, l, h, k => by
    rw [ltR_cons] at h k
    by_cases e : x = y
    · subst e
      rw [if_pos rfl] at h k
      rw [ltR_total (Nat.succ.inj l) h k]
    · rw [if_neg e] at h
      rw [if_neg fun z => e z.symm] at k
      exact absurd (ltT_total h k) e
/-- one sign more at the end -/
theorem ltR_snoc : ∀ {xs ys : List Str} (x y : Str), xs.length = ys.length → ltR (xs ++ [x]) (ys ++ [y]) = if xs = ys then ltT x y else ltR xs ys
  | [], [], x, y, _ => by
    rw [if_pos rfl]
    show ltR [x] [y] = _
    rw [ltR_cons]
    by_cases e : x = y
    · rw [if_pos e, e, ltT_irr, ltR_irr]
    · rw [if_neg e]
  | a :: xs, b :: ys, x, y, l => by
    rw [List.cons_append, List.cons_append, ltR_cons, ltR_cons, ltR_snoc x y (Nat.succ.inj l)]
    by_cases e : a = b
    · subst e
      rw [if_pos rfl, if_pos rfl]
      by_cases e2 : xs = ys
      · subst e2
        rw [if_pos rfl, if_pos rfl]
      · rw [if_neg e2, if_neg fun z => e2 (List.cons.inj z).2]
    · rw [if_neg e, if_neg e, if_neg fun z => e (List.cons.inj z).1]
/-- rows that ascend, each once -/
abbrev Asc (R : List (List Str)) : Prop := R.Pairwise fun a b => ltR a b = true
abbrev AscT (c : List Str) : Prop := c.Pairwise fun a b => ltT a b = true
theorem step_asc {R : List (List Str)} {c : List Str} {n : Nat} (hR : Asc R) (hl : ∀ r ∈ R, r.length = n) (hc : AscT c) : Asc (K01.step R c) := by
  unfold K01.step
  refine List.pairwise_flatMap.mpr ⟨fun r _ => ?_, ?_⟩
  · refine List.pairwise_map.mpr (hc.imp fun {x y} h => ?_)
    rw [ltR_snoc x y rfl, if_pos rfl]
    exact h
  · refine hR.imp_of_mem fun {r q} hr hq h => ?_
    intro a ha b hb
    obtain ⟨x, _, rfl⟩ := List.mem_map.mp ha
    obtain ⟨y, _, rfl⟩ := List.mem_map.mp hb
    rw [ltR_snoc x y ((hl r hr).trans (hl q hq).symm)]
    by_cases e : r = q
    · rw [e, ltR_irr] at h
      cases h
    · rw [if_neg e]
      exact h
theorem prods_asc : ∀ (cols R : List (List Str)) (n : Nat), Asc R → (∀ r ∈ R, r.length = n) → (∀ c ∈ cols, AscT c) → Asc (cols.foldl K01.step R)
  | [], R, n, h, _, _ => h
  | c :: cols, R, n, h, hl, hc => by
    refine prods_asc cols (K01.step R c) (n + 1) (step_asc h hl (hc c List.mem_cons_self)) (fun q hq => ?_) fun x hx => hc x (List.mem_cons_of_mem _ hx)
    unfold K01.step at hq
    obtain ⟨r, hr, h1⟩ := List.mem_flatMap.mp hq
    obtain ⟨x, _, rfl⟩ := List.mem_map.mp h1
    rw [List.length_append, hl r hr]
    rfl
theorem asc_nodup {R : List (List Str)} (h : Asc R) : R.Nodup := h.imp fun {a b} l e => by
  rw [e, ltR_irr] at l
  cases l
theorem asc_eq {A B : List (List Str)} (hA : Asc A) (hB : Asc B) (h : A.Perm B) : A = B :=
  List.Perm.eq_of_pairwise (le := fun a b => ltR a b = true) (fun a b _ _ h1 h2 => by
    have z := ltR_trans h1 h2
    rw [ltR_irr] at z
    cases z) hA hB h
theorem perm_of_sub {α : Type} : ∀ (l D : List α), l.Nodup → (∀ x ∈ l, x ∈ D) → D.length ≤ l.length → l.Perm D
  | [], D, _, _, h => by
    have e : D = [] := List.length_eq_zero_iff.mp (Nat.le_zero.mp h)
    rw [e]
  | x :: l, D, nd, sub, h => by
    obtain ⟨A, B, rfl⟩ := List.append_of_mem (sub x List.mem_cons_self)
    obtain ⟨n1, n2⟩ := List.nodup_cons.mp nd
    have pm : (A ++ x :: B).Perm (x :: (A ++ B)) := List.perm_middle
    refine (List.Perm.cons x (perm_of_sub l (A ++ B) n2 (fun y hy => ?_) ?_)).trans pm.symm
    · rcases List.mem_cons.mp (pm.mem_iff.mp (sub y (List.mem_cons_of_mem _ hy))) with e | z
      · rw [e] at hy
        exact absurd hy n1
      · exact z
    · have z := pm.length_eq
      rw [z, List.length_cons, List.length_cons] at h
      omega
/-- a part of as many is the whole -/
theorem part_whole {A B : List (List Str)} (hA : Asc A) (hB : Asc B) (sub : ∀ x ∈ A, x ∈ B) : A = B ↔ A.length = B.length :=
  ⟨fun e => by rw [e], fun l => asc_eq hA hB (perm_of_sub A B (asc_nodup hA) sub (Nat.le_of_eq l.symm))⟩
theorem eqv_texts : ∀ xs ys : List Str, PyData.eqvAll (xs.map PyData.str) (ys.map PyData.str) = decide (xs = ys)
  | [], [] => rfl
  | [], _ :: _ => rfl
  | _ :: _, [] => rfl
  | x :: xs, y :: ys => by
    rw [List.map_cons, List.map_cons, PyData.eqvAll, eqv_str, eqv_texts xs ys]
    by_cases h : x = y <;> by_cases k : xs = ys <;> simp [h, k]
theorem eqv_row (xs ys : List Str) : PyData.eqv (txd xs) (txd ys) = decide (xs = ys) := by
  rw [← eqv_texts]
  simp only [txd, PyData.eqv]
theorem eqv_rows : ∀ A B : List (List Str), PyData.eqvAll (A.map txd) (B.map txd) = decide (A = B)
  | [], [] => rfl
  | [], _ :: _ => rfl
  | _ :: _, [] => rfl
  | x :: xs, y :: ys => by
    rw [List.map_cons, List.map_cons, PyData.eqvAll, eqv_row, eqv_rows xs ys]
    by_cases h : x = y <;> by_cases k : xs = ys <;> simp [h, k]
theorem eqv_rowsD (A B : List (List Str)) : PyData.eqv (rowsD A) (rowsD B) = decide (A = B) := by
  rw [← eqv_rows]
  simp only [rowsD, PyData.eqv]
end KA
/-! sorted(rows, key=lambda x: (len(x), x)), x a tuple of texts. -/
namespace KLm
open PySem PySem.Spec PySem.W PyProof.Rows L2 LamX
/-- the function at f is this lambda -/
def LamO (f : Addr) (o : Obj) : HO := .ext fun h => h.get? f = some o
theorem lamO_ne {f : Addr} {o : Obj} (ps : Array Value) : LamO f o ≠ .tbl ps := fun z => by
  unfold LamO at z
  cases z
/-- (len(x), x) of a row -/
def kd (ts : List Str) : PyData := .tuple [.int (ts.length : Nat), .tuple (ts.map PyData.str)]
theorem reads_texts {h : Heap} : ∀ {vs : List Value} {ts : List Str} , Vals (ts.map V.str) vs → ReadsAll h vs (ts.map PyData.str) []
  | _, [], r => by
    cases r
    exact .nil
  | _, t :: ts, r => by
    rw [List.map_cons] at r
    cases r with
    | cons r1 r2 =>
      obtain ⟨k, rfl⟩ := r1
      exact .cons (as := []) (bs := []) (.str _ _) (reads_texts r2)
/-- the lambda's body: (len(x), x) -/
abbrev lamBody (x : Str) (p1 p2 p3 p4 p5 : Pos) (k : Nat) : Expr := .Tuple [.Call (.Name "len" p1) [.Name x p2] [] p3, .Name x p4] k p5
/-- what the lambda must be -/
structure LamOk (x : Str) (params : Arguments) (body : Expr) (scope : Scope) : Prop where
  S : NdefX.NScope [x] [x] [] scope
  free : ∀ y ∈ scope.names, y.2 ≠ .free
  gl : ∀ (q : Str) (L f : Addr) (c : Value), (envX q scope L f c []).kindOf ("len" : Str) = some .globalImplicit
  nd : (x == ("__debug__" : Str)) = false
  bind : ∀ (qual : Str) (pm cdv ctv u : Value), bindArgs (kla_fn "<lambda>" qual params body scope [] pm cdv ctv) ⟨[u], []⟩ = pure [(x, u)]
section
variable {X : Cx} {pins : List (Addr × Obj)} {σ : L2.St} {H : Hp} {s : Shared}
theorem lam_turn {f c' a : Addr} {pm ctv : Value} {x qual : Str} {p1 p2 p3 p4 p5 : Pos} {k : Nat} {params : Arguments} {scope : Scope} {ts : List Str} (I : Inv X pins σ H s) (hr : Room 3 X.A) (hlen : X.mg "len" = none) (L : LamOk x params (lamBody x p1 p2 p3 p4 p5 k) scope)
    (hof : s.heap.get? f = some (kla_obj "<lambda>" qual params (lamBody x p1 p2 p3 p4 p5 k) scope [] pm c' ctv)) (hco : H c' = some (CodeO c' qual)) (ha : SqT X.K H a (ts.map V.str)) (h : Heap) (tk : Nat) (kp : ∀ b o, s.heap.get? b = some o → h.get? b = some o) :
    wpAny (model X.prog X.w) X.A.in1.in1 (call (.ref f) [.ref a]) (KeyPure (kd ts) { s with heap := h, toks := tk }) (fun _ _ => False) { s with heap := h, toks := tk } := by
  have I1 : Inv X pins σ H { s with heap := h, toks := tk } := I.kept kp
  have hr1 : Room 1 X.A.in1.in1 := hr.in1.in1
  have of1 : h.get? f = some (kla_obj "<lambda>" qual params (lamBody x p1 p2 p3 p4 p5 k) scope [] pm c' ctv) := kp _ _ hof
  obtain ⟨⟨oc, vs, t, hoc, hdc, hvc⟩, _, _⟩ := I1.hok c' _ hco
  refine wpAny_call (kla_callFunE (s := { s with heap := h, toks := tk }) hr1.depth of1 rfl L.S.co L.S.gen rfl ⟨c', oc, vs, t, rfl, hoc, hdc, hvc⟩ ?_)
  rw [L.bind]
  refine wpAny_pure (wpAny_newFunctionEnv L.S.nocell (fun ⟨n, _⟩ hy => L.S.par n (by
    have z := List.mem_singleton.mp hy
    rw [show n = x from congrArg Prod.fst z]
    exact List.mem_singleton.mpr rfl)) (fun h₁ hns hsb => ⟨I1.nolimit.fresh _ hsb, ?_⟩) L.S.kind)
  have kp1 : ∀ b o, h.get? b = some o → h₁.get? b = some o := fun b o e => hsb.extBut b o (Nat.ne_of_lt (Heap.lt_size e)) (Heap.get?_push_of_some _ e)
  have e0 : Env0 X.prog X.w X.K X.mg X.base X.A.in1.in1 X.stack { s with heap := h, toks := tk } H := by
    have e := I1.env0
    exact ⟨e.frames, e.mod, e.bs, e.bsz, e.funs, e.frf, e.hok, e.bare⟩
  have J := NdefX.inv_startN (CX := fun _ _ _ _ _ _ => True) (N := [x]) (ps := [x]) (fr := []) (F := ⟨"<lambda>", qual, params, [], scope, [], c'⟩) (f := f) (E := fun _ _ _ => True) (us := [.ref a]) (vs := [.ref a]) (ws := []) (tk := tk + 1) L.S hr1.hd e0 rfl (.cons rfl .nil) ⟨rfl, fun _ _ z => (nomatch z), fun _ _ _ z => (nomatch z), fun _ _ z => (nomatch z)⟩ hns kp1
  obtain ⟨its, rv, pl, hz⟩ := J.tuple ha
  have name : ∀ {M : Model} {A : Around} {p : Pos} {Q : Value → Shared → Prop} {E : Value → Shared → Prop} {tk : Nat}, Q (.ref a) { s with heap := h₁, toks := tk } → wpAny M A (eval (.Name x p) (envX qual scope h.objs.size f (.ref c') [])) Q E { s with heap := h₁, toks := tk } := fun {M A p Q E tk} q => by
    refine wpAny_Name (wpAny_loadName_local L.S.kind (L.S.par x (List.mem_singleton.mpr rfl)) hns ?_ q) L.nd
    show List.lookup x [(x, Value.ref a)] = some (.ref a)
    simp [List.lookup]
  refine kla_codeExpr ?_
  show wpAny _ _ (eval (lamBody x p1 p2 p3 p4 p5 k) (envX qual scope h.objs.size f (.ref c') [])) _ _ _
  refine wpAny_Tuple_spliced ?_
  show wpAny _ _ (spliced [(false, eval (.Call (.Name "len" p1) [.Name x p2] [] p3) (envX qual scope h.objs.size f (.ref c') [])), (false, eval (.Name x p4) (envX qual scope h.objs.size f (.ref c') []))]) _ _ _
  refine Calls.spliced_cons (wpAny_Call_Name_kw (ld_blt J (L.gl _ _ _ _) hlen rfl ?_ (by decide) (by decide)))
  refine PyProof.Rows.callWith_builtin1 ?_ rfl rfl
  show wpAny _ _ (spliced [(false, eval (.Name x p2) (envX qual scope h.objs.size f (.ref c') []))]) _ _ _
  refine Calls.spliced_cons (name (Calls.spliced_nil ?_))
  have fit : (its.toArray.size : Int) < 2 ^ 63 := by
    rw [List.size_toArray, ← rv.length]
    rw [sizeLine_eq] at hz
    omega
  refine len_tuple pl fit ?_
  refine Calls.spliced_cons (name (Calls.spliced_nil ⟨by show 2 ≤ sizeLine; decide, ?_⟩))
  have el : its.toArray.size = ts.length := by
    rw [List.size_toArray, ← rv.length, List.length_map]
  rw [el]
  refine ⟨_, _, rfl, fun b o e => Heap.get?_push_of_some _ (kp1 b o e), ?_⟩
  obtain ⟨o, ho, hc, n, hd⟩ := pl
  refine .tuple (as := []) (Heap.get?_push_size _ rfl) rfl rfl (.cons (as := []) (bs := []) (.int _ _) (.cons (as := []) (bs := []) (.tuple (Heap.get?_push_of_some _ ho) hc hd (by simpa using reads_texts rv)) .nil))
theorem ExtN.upd {H1 H2 : Hp} {g : Addr} {o : HO} (e : ExtN H1 H2) (n : H2 g = none) : ExtN H1 (upd H2 g o) := e.trans (ExtN.of fun b u h => by rw [upd_ne (ne_of_none h n)]; exact h)
theorem ExtN.sqL {K : PySem.W.Frag} {H1 H2 : Hp} {a : Addr} {xs : List V} (e : ExtN H1 H2) (h : SqL K H1 a xs) : SqL K H2 a xs :=
  h.elim (fun h => .inl (h.elim (fun h => .inl (e _ _ h (fun _ z => by cases z))) fun ⟨o, h⟩ => .inr ⟨o, e _ _ h (fun _ z => by cases z)⟩)) fun h => .inr h
theorem ExtN.sqT {K : PySem.W.Frag} {H1 H2 : Hp} {a : Addr} {xs : List V} (e : ExtN H1 H2) (h : SqT K H1 a xs) : SqT K H2 a xs :=
  h.elim (fun h => .inl (h.elim (fun h => .inl (e _ _ h (fun _ z => by cases z))) fun ⟨o, h⟩ => .inr ⟨o, e _ _ h (fun _ z => by cases z)⟩)) fun h => .inr h
theorem alike_strs : ∀ xs ys : List Str, alikeAll (xs.map PyData.str) (ys.map PyData.str) = true
  | [], _ => by simp [alikeAll]
  | _ :: _, [] => by simp [alikeAll]
  | x :: xs, y :: ys => by
    rw [List.map_cons, List.map_cons, alikeAll, alike_strs xs ys]
    rfl
theorem depth_strs : ∀ xs : List Str, PyData.depthAll (xs.map PyData.str) ≤ 1
  | [] => by decide
  | x :: xs => by
    have := depth_strs xs
    simp only [List.map_cons, PyData.depthAll, PyData.depth]
    omega
theorem each_refs {R : Addr × List Str → Prop} : ∀ {ps : List (Addr × List Str)} {us : List Value}, Vals (ps.map fun p => V.ref p.1) us → (∀ p ∈ ps, R p) → EachIs (fun v p => v = .ref p.1 ∧ R p) us ps
  | [], us, r, _ => by
    cases r
    exact .nil
  | p :: ps, us, r, h => by
    rw [List.map_cons] at r
    cases r with
    | cons r1 r2 => exact .cons ⟨r1, h p List.mem_cons_self⟩ (each_refs r2 fun q hq => h q (List.mem_cons_of_mem _ hq))
theorem refs_each {R : Addr × List Str → Prop} : ∀ {ps : List (Addr × List Str)} {us : List Value}, EachIs (fun v p => v = .ref p.1 ∧ R p) us ps → Vals (ps.map fun p => V.ref p.1) us
  | _, _, .nil => .nil
  | _, _, .cons h t => .cons h.1 (refs_each t)
/-- sorted(e, key=lambda x: (len(x), x)) -/
def tSortLam (K : PySem.W.Frag) (T : List (Addr × Str)) (ta : TE) : TE := fun σ H Q => ta σ H fun v H1 => ∃ (l : Addr) (ps : List (Addr × List Str)), v = .ref l ∧ SqL K H1 l (ps.map fun p => V.ref p.1) ∧ (∀ p ∈ ps, SqT K H1 p.1 (p.2.map V.str)) ∧ ps.length ≤ 100000 ∧ Tabs T H1 ∧
  ∀ (g : Addr) (H2 : Hp), ExtN H1 H2 → Tabs T H2 → H2 g = none → Q (.ref g) (upd H2 g (.lst ((ps.mergeSort (dataLe false fun p => kd p.2)).map fun p => V.ref p.1)))
/-- what is asked of the items -/
def SortIn (K : PySem.W.Frag) (T : List (Addr × Str)) (Q : VK) : List V → Hp → Prop
  | [v], H1 => ∃ (l : Addr) (ps : List (Addr × List Str)), v = .ref l ∧ SqL K H1 l (ps.map fun p => V.ref p.1) ∧ (∀ p ∈ ps, SqT K H1 p.1 (p.2.map V.str)) ∧ ps.length ≤ 100000 ∧ Tabs T H1 ∧
    ∀ (g : Addr) (H2 : Hp), ExtN H1 H2 → Tabs T H2 → H2 g = none → Q (.ref g) (upd H2 g (.lst ((ps.mergeSort (dataLe false fun p => kd p.2)).map fun p => V.ref p.1)))
  | _, _ => False
theorem pe_sortLam {T : List (Addr × Str)} {c P : Addr} {x qual : Str} {p p1 p2 p3 p4 p5 pos lpos kpos : Pos} {k : Nat} {params : Arguments} {scope : Scope} {e : Expr} {ta : TE} (TB : TabB X.base X.mg c P) (hcode : X.env.code = .ref c) (hq : X.env.qual ++ "<lambda>" = qual)
    (hm : (P, qual) ∈ T) (hu : ∀ p ∈ T, p.1 = P → p.2 = qual) (hg : Gl X "sorted") (hmg : X.mg "sorted" = none) (hlen : X.mg "len" = none) (hr : Room 3 X.A) (L : LamOk x params (lamBody x p1 p2 p3 p4 p5 k) scope) (he : PE X e ta)
    (hdef : defaultsOf params X.env = ([], []) := by rfl) (hst : starEach [e] X.env = [(false, eval e X.env)] := by rfl)
    (hks : backToKw pos (keywordEach [⟨some "key", .Lambda params (lamBody x p1 p2 p3 p4 p5 k) scope lpos, kpos⟩] X.env) = [(some ("key" : Str), do let v ← eval (.Lambda params (lamBody x p1 p2 p3 p4 p5 k) scope lpos) X.env; standAt pos; pure v)] := by rfl) :
    PE X (.Call (.Name "sorted" p) [e] [⟨some "key", .Lambda params (lamBody x p1 p2 p3 p4 p5 k) scope lpos, kpos⟩] pos) (tSortLam X.K T ta) := by
  subst hq
  have clo : cloFrom X.env.cells scope.names [] = [] := by
    cases e : cloFrom X.env.cells scope.names [] with
    | nil => rfl
    | cons p r =>
      rcases cloFrom_mem (show p ∈ cloFrom X.env.cells scope.names [] by rw [e]; exact List.mem_cons_self) with z | ⟨z, _⟩
      · cases z
      · exact absurd rfl (L.free _ z)
  refine ⟨fun pins s σ H Q I h => ?_⟩
  refine wpAny_Call_Name_kw (ld_blt I hg hmg rfl ?_ (by decide) (by decide))
  have ha : PA X [e] (tCons ta tNil) := pa_cons he pa_nil hst
  have h0 : (tCons ta tNil) σ H (SortIn X.K T Q) := h
  refine PyProof.Rows.callWith_kw (thn (ha.run pos pins s σ H _ I h0) fun us s1 ⟨vs, H1, I1, r1, q1⟩ => ?_) (by rw [hst]; rfl) (by rw [hst]; rfl) (by rw [hks]; rfl) (by rw [hks]; rfl)
  obtain ⟨v, rfl⟩ : ∃ v, vs = [v] := by
    match vs, q1 with
    | [v], _ => exact ⟨v, rfl⟩
  obtain ⟨l, ps, rfl, hl, hps, few, hT, q⟩ := q1
  obtain ⟨u, rfl, ru⟩ := vals1 r1
  obtain rfl : u = Value.ref l := ru
  rw [hks]
  show wpAny _ _ (evalAll [do let v ← eval (.Lambda params (lamBody x p1 p2 p3 p4 p5 k) scope lpos) X.env; standAt pos; pure v]) _ _ s1
  refine wpAny_evalAll_cons (wpAny_bind (lam_make2 I1 TB hcode hm hu hT hdef (fun y hy e => absurd e (L.free y hy)) fun f c' pm ctv H2 s2 I2 ext hT2 hof hfn hfr hco => wpAny_bind (wpAny_standAt (wpAny_pure (wpAny_evalAll_nil ?_)))))
  rw [clo] at hof
  show wpAny _ _ (call (.builtin "sorted") [.ref l] [(Str.ofString "key", .ref f)]) _ _ _
  obtain ⟨its, rv, pl, hz⟩ := I2.list (ExtN.sqL ext hl)
  have e0 := each_refs (R := fun p => SqT X.K H2 p.1 (p.2.map V.str)) rv fun p hp => ExtN.sqT ext (hps p hp)
  refine sorted_key_data (b := false) (fun p : Addr × List Str => kd p.2) pl.isList e0 (AllAlike.of fun a b => ?_) (Sortable.tuples fun _ => ⟨_, _, rfl⟩) (by rw [sizeLine_eq]; omega) (fun p _ => ?_) (ksk_s1 _ _) (fun _ => ksk_l1 _ _) (fun _ => ksk_t1 _ _)
    (fun v p ⟨ev, hp⟩ _ h tk kp => by rw [ev]; exact lam_turn I2 hr hlen L hof hco hp h tk kp) fun out c h' tk kp _ hD ol eo => ?_
  · simp [kd, alike, alikeAll, alike_strs]
  · have d1 := depth_strs p.2
    have d2 : (kd p.2).depth ≤ 4 := by
      simp only [kd, PyData.depth, PyData.depthAll]
      omega
    have := hr.un
    omega
  · have rv2 := refs_each (R := fun p => SqT X.K H2 p.1 (p.2.map V.str)) eo
    have n0 : H2 (s2.heap.objs.size + 1) = none := I2.hok.fresh (Nat.le_succ _)
    refine ⟨.ref (s2.heap.objs.size + 1), upd H2 (s2.heap.objs.size + 1) (.lst ((ps.mergeSort (dataLe false fun p => kd p.2)).map fun p => V.ref p.1)), I2.laid (t' := tk) kp (Nat.le_succ _) ?_, rfl, q _ _ ext hT2 n0⟩
    refine ⟨by rw [List.length_map, List.length_mergeSort, sizeLine_eq]; omega, out, c, rv2, ?_⟩
    rw [hD]
end
end KLm
/-! Of texts: t.count(x), l.remove(x), min(t), max(t). -/
namespace KTc
open PySem PySem.Spec PySem.W PySem.SeqAt PyProof.Rows L2
theorem plain_txs : ∀ ts : List Str, PyData.plainAll (ts.map PyData.str) = true
  | [] => rfl
  | t :: ts => by
    rw [List.map_cons]
    simp only [PyData.plainAll, PyData.plain, Bool.true_and]
    exact plain_txs ts
theorem dep_txs : ∀ ts : List Str, PyData.depthAll (ts.map PyData.str) = 0
  | [] => rfl
  | t :: ts => by
    rw [List.map_cons]
    simp only [PyData.depthAll, PyData.depth]
    rw [dep_txs ts]
    rfl
theorem eqv_tx (a b : Str) : PyData.eqv (.str a) (.str b) = decide (a = b) := by
  simp only [PyData.eqv]
  by_cases e : a = b
  · rw [decide_eq_true e, e]; exact beq_self_eq_true b
  · rw [decide_eq_false e]; exact beq_eq_false_iff_ne.mpr e
theorem count_txs (u : Str) : ∀ ts : List Str, (ts.map PyData.str).countP (fun y => PyData.eqv y (.str u)) = ts.count u
  | [] => rfl
  | t :: ts => by
    rw [List.map_cons, List.countP_cons, count_txs u ts, List.count_cons, eqv_tx]
    by_cases e : t = u
    · simp [e]
    · simp [e]
/-- where a text stands first -/
theorem place_txs (u : Str) : ∀ (ts : List Str) (j : Nat), ts[j]? = some u → (∀ i, i < j → ts[i]? ≠ some u) → dataPlace (ts.map PyData.str) (.str u) = some j
  | t :: ts, 0, h, _ => by
    obtain rfl := Option.some.inj (show some t = some u from h)
    unfold dataPlace
    rw [List.map_cons, List.findIdx?_cons, eqv_tx, decide_eq_true rfl]
    rfl
  | t :: ts, j + 1, h, no => by
    have n0 : ¬ t = u := fun e => no 0 (Nat.succ_pos _) (by rw [← e]; rfl)
    have ih := place_txs u ts j h fun i hi => no (i + 1) (Nat.succ_lt_succ hi)
    unfold dataPlace at ih ⊢
    rw [List.map_cons, List.findIdx?_cons, eqv_tx, decide_eq_false n0, ih]
    rfl
def rCntT (K : PySem.W.Frag) : V → List V → Hp → VK → Prop := fun x xs H Q => ∃ (p : Addr) (ts : List Str) (u : Str), x = .ref p ∧ xs = [.str u] ∧ SqT K H p (ts.map V.str) ∧ Q (.int (ts.count u : Nat)) H
def rRemT : V → List V → Hp → VK → Prop := fun x xs H Q => ∃ (l : Addr) (ts : List Str) (u : Str) (j : Nat), x = .ref l ∧ xs = [.str u] ∧ H l = some (.lst (ts.map V.str)) ∧ ts[j]? = some u ∧ (∀ i, i < j → ts[i]? ≠ some u) ∧ Q .non (upd H l (.lst ((ts.eraseIdx j).map V.str)))
/-- the least text -/
def minS (t : Str) (ts : List Str) : Str := ts.foldl (fun a y => if dataLt (.str y) (.str a) then y else a) t
def maxS (t : Str) (ts : List Str) : Str := ts.foldl (fun a y => if dataLt (.str a) (.str y) then y else a) t
theorem min_txs : ∀ (ts : List Str) (t : Str), minD (.str t) (ts.map PyData.str) = .str (minS t ts)
  | [], _ => rfl
  | y :: ts, t => by
    show minD (if dataLt (.str y) (.str t) then .str y else .str t) (ts.map PyData.str) = .str (minS (if dataLt (.str y) (.str t) then y else t) ts)
    by_cases e : dataLt (.str y) (.str t) = true
    · rw [if_pos e, if_pos e]
      exact min_txs ts y
    · rw [if_neg e, if_neg e]
      exact min_txs ts t
theorem max_txs : ∀ (ts : List Str) (t : Str), maxD (.str t) (ts.map PyData.str) = .str (maxS t ts)
  | [], _ => rfl
  | y :: ts, t => by
    show maxD (if dataLt (.str t) (.str y) then .str y else .str t) (ts.map PyData.str) = .str (maxS (if dataLt (.str t) (.str y) then y else t) ts)
    by_cases e : dataLt (.str t) (.str y) = true
    · rw [if_pos e, if_pos e]
      exact max_txs ts y
    · rw [if_neg e, if_neg e]
      exact max_txs ts t
def rMinT (K : PySem.W.Frag) : List V → Hp → VK → Prop := fun vs H Q => ∃ (p : Addr) (t : Str) (ts : List Str), vs = [.ref p] ∧ SqT K H p ((t :: ts).map V.str) ∧ Q (.str (minS t ts)) H
def rMaxT (K : PySem.W.Frag) : List V → Hp → VK → Prop := fun vs H Q => ∃ (p : Addr) (t : Str) (ts : List Str), vs = [.ref p] ∧ SqT K H p ((t :: ts).map V.str) ∧ Q (.str (maxS t ts)) H
section
variable {X : Cx}
theorem mt_tcount (hu : X.A.units + 64 < cLine) : MtR X "tuple.count" (rCntT X.K) := by
  intro pins s σ H x xs v us Q I rx rxs h
  obtain ⟨p, ts, u, rfl, rfl, hs, q⟩ := h
  cases rx
  obtain ⟨v1, rfl, t, rfl⟩ := rxs.one
  obtain ⟨its, rv, pl, _⟩ := I.tuple hs
  refine count_tuple_data (d := .str u) pl (KLm.reads_texts (by simpa using rv)) (.str u t) (plain_txs ts) rfl (by rw [dep_txs]; omega) ?_
  rw [count_txs]
  exact ⟨.int (ts.count u : Nat), H, I.tok _, ⟨s.toks, rfl⟩, q⟩
theorem mt_tremove (hu : X.A.units + 64 < cLine) : MtM X "list.remove" rRemT := by
  intro pins s σ H x xs v us Q I rx rxs h
  obtain ⟨l, ts, u, j, rfl, rfl, hH, hj, hno, q⟩ := h
  cases rx
  obtain ⟨v1, rfl, t, rfl⟩ := rxs.one
  obtain ⟨z, its, n, r, hl, e⟩ := I.lstM hH
  rw [List.length_map] at hl z
  refine remove_list_data (d := .str u) (vs := its.toArray) (j := j) ⟨_, e, rfl, n, rfl⟩ (KLm.reads_texts (by simpa using r)) (.str u t) (plain_txs ts) rfl (by rw [dep_txs]; omega) (place_txs u ts j hj hno) (by rw [List.size_toArray]; omega) ?_
  have rr := r.eraseIdx j
  have em : (ts.map V.str).eraseIdx j = (ts.eraseIdx j).map V.str := by
    rw [List.eraseIdx_eq_take_drop_succ, List.eraseIdx_eq_take_drop_succ, List.map_append, List.map_take, List.map_drop]
  rw [em] at rr
  refine ⟨.non, _, I.lset (its' := its.eraseIdx j) (t' := s.toks) hH e ?_ rr ?_, rfl, q⟩
  · show its.toArray.eraseIdxIfInBounds j = (its.eraseIdx j).toArray
    rw [List.eraseIdxIfInBounds_toArray]
  · have z2 := len_erase ts j
    rw [List.length_map]
    omega
theorem alike_txs (ts : List Str) : AlikeAll (ts.map PyData.str) := by
  refine ⟨fun x hx y hy => ?_, fun x hx => ?_⟩
  · obtain ⟨a, _, rfl⟩ := List.mem_map.mp hx
    obtain ⟨b, _, rfl⟩ := List.mem_map.mp hy
    rfl
  · obtain ⟨a, _, rfl⟩ := List.mem_map.mp hx
    exact fun z => nomatch z
theorem cr_minT (hc : X.A.handled = none) (hu : X.A.units + 64 < cLine) : CallR X (.builtin "min") (rMinT X.K) := by
  intro pins s σ H vs us Q I r h
  obtain ⟨p, t, ts, rfl, hs, q⟩ := h
  obtain ⟨its, rv, pl, _⟩ := I.tuple hs
  rw [Vals.ref1 r]
  refine min_tuple_data (x := .str t) (xs := ts.map PyData.str) hc pl (KLm.reads_texts (ts := t :: ts) (by simpa using rv)) (alike_txs (t :: ts)) (by rw [show PyData.depthAll (.str t :: ts.map PyData.str) = 0 from dep_txs (t :: ts)]; omega) fun i v h' tk bs hi hr kp => ?_
  rw [min_txs] at hr
  obtain ⟨z, rfl⟩ : ∃ t', v = Value.str (minS t ts) t' := by
    cases hr with
    | str x t => exact ⟨_, rfl⟩
  exact ⟨.str (minS t ts), H, I.kept kp, ⟨z, rfl⟩, q⟩
theorem cr_maxT (hc : X.A.handled = none) (hu : X.A.units + 64 < cLine) : CallR X (.builtin "max") (rMaxT X.K) := by
  intro pins s σ H vs us Q I r h
  obtain ⟨p, t, ts, rfl, hs, q⟩ := h
  obtain ⟨its, rv, pl, _⟩ := I.tuple hs
  rw [Vals.ref1 r]
  refine max_tuple_data (x := .str t) (xs := ts.map PyData.str) hc pl (KLm.reads_texts (ts := t :: ts) (by simpa using rv)) (alike_txs (t :: ts)) (by rw [show PyData.depthAll (.str t :: ts.map PyData.str) = 0 from dep_txs (t :: ts)]; omega) fun i v h' tk bs hi hr kp => ?_
  rw [max_txs] at hr
  obtain ⟨z, rfl⟩ : ∃ t', v = Value.str (maxS t ts) t' := by
    cases hr with
    | str x t => exact ⟨_, rfl⟩
  exact ⟨.str (maxS t ts), H, I.kept kp, ⟨z, rfl⟩, q⟩
end
end KTc
/-! Tuples of which it is known that they are just tuples: made by a display or by +; methods of theirs. -/
namespace KFz
open PySem PySem.Spec PyProof.Rows L2
/-- a tuple known to the object, without a dict -/
def Fz (H : Hp) (a : Addr) (xs : List V) : Prop := ∃ o : Obj, H a = some (.frz o (.tup xs)) ∧ o.cls = .type "tuple" ∧ o.dict = none
theorem Fz.same {H H' : Hp} {a : Addr} {xs : List V} (e : ∀ b u, H b = some u → H' b = some u) (h : Fz H a xs) : Fz H' a xs := let ⟨o, h1, h2⟩ := h; ⟨o, e _ _ h1, h2⟩
theorem Fz.sqT {K : PySem.W.Frag} {H : Hp} {a : Addr} {xs : List V} (h : Fz H a xs) : SqT K H a xs := let ⟨o, h1, _⟩ := h; .inl (.inr ⟨o, h1⟩)
theorem Fz.put {H : Hp} {a D : Addr} {xs ys zs : List V} (h : Fz H a xs) (hD : H D = some (.lst ys)) : Fz (upd H D (.lst zs)) a xs := by
  obtain ⟨o, h1, h2⟩ := h
  exact ⟨o, by rw [upd_ne (ne_of h1 hD (by intro z; cases z))]; exact h1, h2⟩
def tTupF (t : TA) : TE := fun σ H Q => t σ H fun xs H1 => xs.length ≤ sizeLine ∧ ∀ (p : Addr) (o : Obj), H1 p = none → o.cls = .type "tuple" → o.dict = none → Q (.ref p) (upd H1 p (.frz o (.tup xs)))
def rCatF (K : PySem.W.Frag) : R2 := fun x y H Q => ∃ a b xs ys, x = .ref a ∧ y = .ref b ∧ SqT K H a xs ∧ SqT K H b ys ∧ xs.length + ys.length ≤ sizeLine ∧ ys ≠ [] ∧
  (xs = [] → Q (.ref b) H) ∧ (xs ≠ [] → ∀ (p : Addr) (o : Obj), H p = none → o.cls = .type "tuple" → o.dict = none → Q (.ref p) (upd H p (.frz o (.tup (xs ++ ys)))))
def tBMF (T : String) (r : V → List V → Hp → VK → Prop) (to : TE) (t : TA) : TE := fun σ H Q => to σ H fun x H1 => (∃ (a : Addr) (o : Obj) (u : HO), x = .ref a ∧ H1 a = some (.frz o u) ∧ o.cls = .type T ∧ o.dict = none) ∧ t σ H1 fun xs H2 => r x xs H2 Q
section
variable {X : Cx} {es : List Expr} {t : TA} {pos : Pos}
theorem pe_tupF {x1} (h : PA X es t) : PE X (.Tuple es x1 pos) (tTupF t) := by
  refine ⟨fun pins s σ H Q I hq => ?_⟩
  refine wpAny_Tuple_spliced (thn (h.run pos pins s σ H _ I hq) fun us s1 ⟨xs, H1, I1, r, z, q⟩ => ⟨by rw [← r.length]; exact z, ?_⟩)
  have hf : H1 s1.heap.objs.size = none := I1.hok.fresh (Nat.le_refl _)
  refine ⟨.ref s1.heap.objs.size, upd H1 s1.heap.objs.size (.frz { cls := .type "tuple", data := .seq us.toArray } (.tup xs)), I1.laid (t' := s1.toks) (fun b u e => Heap.get?_push_of_some _ e) (Nat.le_refl _) ?_, rfl, q _ _ hf rfl rfl⟩
  exact ⟨Heap.get?_push_size _ rfl, z, us, r, ⟨_, Heap.get?_push_size _ rfl, rfl, _, rfl⟩⟩
theorem op_catF : OpR X (binaryOp .Add) (rCatF X.K) := by
  intro pins s σ H x y v u Q I rx ry h
  obtain ⟨a, b, xs, ys, rfl, rfl, ha, hb, hz, hy, q1, q2⟩ := h
  cases rx
  cases ry
  obtain ⟨its, r1, p1, _⟩ := I.tuple ha
  obtain ⟨its2, r2, p2, _⟩ := I.tuple hb
  by_cases hx : xs = []
  · subst hx
    cases r1
    exact cat_tup0 p1 p2 ⟨.ref b, H, I, rfl, q1 rfl⟩
  · refine HT.cat_tup p1 p2 (fun z => hx (r1.nil_iff.mp z)) (fun z => absurd (r2.nil_iff.mp z) hy) (fun z => ?_) (by rw [← r1.length, ← r2.length]; exact hz)
    refine ⟨.ref s.heap.objs.size, _, I.laid (t' := s.toks) (o := .frz { cls := .type "tuple", data := .seq (its ++ its2).toArray } (.tup (xs ++ ys))) (fun b ob q => Heap.get?_push_of_some _ q) (Nat.le_refl _) ?_, rfl, q2 hx _ _ (I.hok.fresh (Nat.le_refl _)) rfl rfl⟩
    exact ⟨Heap.get?_push_size _ rfl, by rw [List.length_append]; exact hz, _, r1.append r2, IsTup.new _ _⟩
variable {o e : Expr} {to : TE} {name : Str} {apos cpos : Pos} {T id : String} {r : V → List V → Hp → VK → Prop}
theorem pe_bmF (pa : PlainAttrs T) (slot : Slot T name id) (hty : typeOf (.builtin id) = pure (.type "method_descriptor")) (hm : MtR X id r) (ho : PE X o to) (ha : PA X (e :: es) t)
    (hbase : attributeBase o name X.env (eval o X.env) = eval o X.env := by rfl)
    (hfew : ((backTo cpos (starEach (e :: es) X.env)).all (fun x => !x.1) && (backToKw cpos (keywordEach [] X.env)).all (fun x => x.1.isSome)
      && decide ((e :: es).length + ([] : List Keyword).length + (if ([] : List Keyword).isEmpty then 0 else 1) < 30)) = true := by rfl)
    (hline : (apos.endLine == cpos.line) = true := by rfl) (hs : starEach (e :: es) X.env = (false, eval e X.env) :: starEach es X.env := by rfl) (hplain : (backTo cpos (starEach es X.env)).any (·.1) = false := by rfl) :
    PE X (.Call (.Attribute o name apos) (e :: es) [] cpos) (tBMF T r to t) := by
  refine ⟨fun pins s σ H Q I h => ?_⟩
  refine wpAny_Call_method_late hbase hfew hline rfl (thn (ho.run pins s σ H _ I h) fun v s1 ⟨x, H1, I1, r1, ⟨a, ob, u, ex, hH, hc, hd⟩, q1⟩ => ?_)
  subst ex
  obtain rfl : v = Value.ref a := r1
  obtain ⟨hg, _⟩ := I1.hok a _ hH
  refine ⟨T, id, pa, slot, hty, ⟨ob, hg, hc⟩, fun b eb => by cases eb; exact ⟨ob, hg, hd⟩, ?_⟩
  have hA := ha.run cpos pins s1 σ H1 _ I1 q1
  rw [hs] at hA ⊢
  refine Calls.callWith_builtin (by show (false || (backTo cpos (starEach es X.env)).any (·.1)) = false; rw [hplain] <;> rfl) (Calls.evalArgs_plain ?_)
  exact thn hA fun us s2 ⟨vs, H2, I2, r2, q2⟩ => hm pins s2 σ H2 (.ref a) vs (.ref a) us Q I2 rfl r2 q2
end
end KFz
/-! all_rows: the rows are just tuples. -/
namespace K01
open PySem PySem.Spec PyProof.Rows L2 KG KS KFz
/-- rows known to the object -/
abbrev RowsF (H0 H : Hp) : List V → List (List Str) → Prop := W.EachIs fun v ts => ∃ a, v = .ref a ∧ H0 a = none ∧ Fz H a (ts.map V.str)
theorem RowsF.up {H0 H H' : Hp} (e : Same H H') {vs : List V} {R : List (List Str)} (h : RowsF H0 H vs R) : RowsF H0 H' vs R := each_and h fun v ts _ ⟨a, e1, e0, e2⟩ => ⟨a, e1, e0, e2.same e⟩
def spRowsF : Sp := fun vs H Q _ => ∃ (c : Addr) (ds : List Addr) (cols : List (List Str)), vs = [.ref c] ∧ H c = some (.lst (ds.map V.ref)) ∧ RowsAt H (ds.map V.ref) cols ∧ (∀ i, (prods (cols.take i)).length ≤ 100000) ∧ cols.length ≤ 1000 ∧
  ∀ (p : Addr) (rs : List V) (H' : Hp), H p = none → Same H H' → H' p = some (.tup rs) → RowsF H H' rs (prods cols) → Q (.ref p) H'
section
variable {P : Program} {w : World} {K : PySem.W.Frag} {mg : Str → Option Value} {base : Heap}
theorem sc_all_rowsF : FnScope ["columns", "rows", "column", "row", "item"] ["columns"] (defScope s_all_rows) := ⟨rfl, rfl, rfl, by decide +kernel, rfl, by decide +kernel, by decide +kernel⟩
theorem ok_all_rowsF (B : Bs mg) (f : FnF K mg "all_rows" "all_rows" s_all_rows) : FnOk P w K mg base CX0 1 f.a f.d ["columns"] spRowsF := by
  refine f.F.ok sc_all_rowsF (fun vs H Q E h => ?_) (fun cdv A outer s H vs Q E hr h => ?_)
  · obtain ⟨c, ds, cols, rfl, _⟩ := h
    rfl
  · obtain ⟨c, ds, cols, rfl, hc, hcol, few, wide, q⟩ := h
    refine ⟨_, (pss_cons
      (ps_set (i := 1) sc_all_rowsF.nd rfl (Or.inl rfl) (pe_lst (pa_cons (pe_tupF pa_nil) pa_nil)))
    (pss_cons
      (ps_for PassesOwn.never rfl (pi_list (pv 0)) (pg_name (i := 2) sc_all_rowsF.nd rfl (Or.inr rfl))
        (pss_one
          (ps_setLc2 (i := 1) (own := [("row", 3), ("item", 4)]) (vs1 := [4]) (g := gName 3) (g1 := gName 4) (by rfl) sc_all_rowsF.nd rfl rfl (sw_true rfl rfl rfl (by decide +kernel)) (pi_list (pv 1)) (blkOk_by (own := [("row", 3), ("item", 4)]) (N := ["columns", "rows", "column", "row", "item"]) (sc := defScope s_all_rows) (by decide +kernel)) (by decide)
            (fun _ _ _ _ _ => (pg_name (i := 3) sc_all_rowsF.nd rfl (Or.inl rfl))) (fun _ _ _ _ _ => pts_nil)
            (fun _ _ _ _ _ => (show PI _ _ _ (iTup K (tVar 2)) from pi_tup (pv 2))) (fun _ _ _ _ _ => (pg_name (i := 4) sc_all_rowsF.nd rfl (Or.inl rfl))) (fun _ _ _ _ _ => pts_nil)
            (fun _ _ _ _ _ => (pe_op (show OpR _ (binaryOp .Add) (rCatF K) from op_catF) (pv 3) (pe_tupF (pa_cons (pv 4) pa_nil)))))))
    (pss_one
      (ps_ret (pe_callTy call_tuple_of (by rfl) B.n_tuple (by decide +kernel) (pa_cons (pv 1) pa_nil)))))), ?_⟩
    refine ⟨by show 0 ≤ sizeLine; exact Nat.zero_le _, fun t ot ht ct dt => ⟨by show 1 ≤ sizeLine; decide, fun l hl => ?_⟩⟩
    have e0 : Same H (upd (upd H t (.frz ot (.tup []))) l (.lst [V.ref t])) := same_trans (same_new ht) (same_new hl)
    refine ⟨_, rfl, c, rfl, ⟨_, SqL.of (e0 _ _ hc)⟩, ?_⟩
    refine for_list (K := K) (a := c) (xs := ds.map V.ref) (fun i σ H' => ∃ (l : Addr) (rs : List V) (v2 : Option V), σ = [some (.ref c), some (.ref l), v2, none, none] ∧ Same H H' ∧ H' l = some (.lst rs) ∧ RowsF H H' rs (prods (cols.take i)))
      ⟨l, _, none, rfl, e0, upd_same, .cons ⟨t, rfl, ht, ot, by rw [upd_ne (ne_of_none upd_same hl), upd_same]; rfl, ct, dt⟩ .nil⟩ (fun i σ H' _ ⟨_, _, _, _, e, _⟩ => SqL.of (e _ _ hc)) ?_ ?_
    · rintro i0 y σ H0 hi ⟨l, rs, v2, rfl, e1, hl1, hR⟩
      obtain ⟨col, hci, d, rfl, hd0⟩ := each_get hcol hi
      generalize hRR : prods (cols.take i0) = R at hR
      have pn := prods_next hci
      rw [hRR] at pn
      have lim := few (i0 + 1)
      rw [pn] at lim
      refine ⟨_, rfl, l, rfl, ⟨_, SqL.of hl1⟩, fun D hD => ?_⟩
      have hDH : H D = none := e1.free hD
      have nDl : D ≠ l := (ne_of_none hl1 hD).symm
      refine lc2_lt (K := K) (a := l) (xs := rs) (fun i j H2 => ∃ acc, Same H0 H2 ∧ H2 D = some (.lst acc) ∧ RowsF H H2 acc (step (R.take i) col ++ (col.take j).map fun c => R.getD i [] ++ [c]))
        ⟨[], same_new hD, upd_same, .nil⟩ (fun i H2 _ ⟨_, e, _⟩ => SqL.of (e _ _ hl1)) ?_ (fun x σ H Q R h q => h _ _ q) (fun x σ H Q R h q => h _ _ q) (fun σ H Q R h ⟨x, e, a, e2, q0, q1⟩ => ⟨x, e, a, e2, q0, h _ _ q1⟩) ?_
      · rintro i x H2 hx ⟨acc, e2, hacc, hA⟩
        obtain ⟨ts, hRi, a, rfl, _, ha0⟩ := each_get hR hx
        have gd : R.getD i [] = ts := by rw [List.getD_eq_getElem?_getD, hRi]; rfl
        have ha2 := ha0.same e2
        refine ⟨rfl, _, rfl, d, rfl, ⟨_, SqT.of (e2 _ _ (e1 _ _ hd0))⟩, d, col.map V.str, rfl, ⟨acc, e2, hacc, hA⟩, fun j H3 _ ⟨_, e3, _⟩ => SqT.of (e3 _ _ (e1 _ _ hd0)), ?_, ?_⟩
        · rintro j z H3 hz ⟨ac, e3, hac, hB⟩
          rw [List.getElem?_map] at hz
          cases hcj : col[j]? with
          | none =>
            rw [hcj] at hz
            cases hz
          | some cj =>
            rw [hcj] at hz
            obtain rfl : V.str cj = z := Option.some.inj hz
            have jl : j < col.length := (List.getElem?_eq_some_iff.mp hcj).1
            have il : i < R.length := (List.getElem?_eq_some_iff.mp hRi).1
            have lac : ac.length < 100000 := by
              have l1 := hB.length
              rw [List.length_append, List.length_map, List.length_take] at l1
              have l2 := step_prefix (R := R) (col := col) (i + 1)
              rw [step_take hRi, List.length_append, List.length_map] at l2
              omega
            rw [gd] at hB
            have hrow : ∀ {H4 : Hp} {v : V}, Same H3 H4 → (∃ b, v = V.ref b ∧ H b = none ∧ Fz H4 b ((ts ++ [cj]).map V.str)) → RowsF H H4 (ac ++ [v]) (step (R.take i) col ++ (col.take (j + 1)).map fun c => R.getD i [] ++ [c]) := fun e4 hv => by
              rw [gd, take_next hcj, List.map_append, ← List.append_assoc]
              exact each_snoc (hB.up e4) hv
            have fin : ∀ {H4 : Hp} {v : V}, Same H3 H4 → H4 D = some (.lst ac) → (∃ b, v = V.ref b ∧ H b = none ∧ Fz H4 b ((ts ++ [cj]).map V.str)) →
                ∃ acc, H4 D = some (.lst acc) ∧ acc.length < sizeLine ∧ ∃ acc', Same H0 (upd H4 D (.lst (acc ++ [v]))) ∧ upd H4 D (.lst (acc ++ [v])) D = some (.lst acc') ∧
                  RowsF H (upd H4 D (.lst (acc ++ [v]))) acc' (step (R.take i) col ++ (col.take (j + 1)).map fun c => R.getD i [] ++ [c]) := fun {H4 v} e4 h4 hv => by
              refine ⟨ac, h4, by rw [sizeLine_eq]; omega, ac ++ [v], same_put hD (same_trans e3 e4), upd_same, ?_⟩
              refine each_and (hrow e4 hv) fun v ts _ ⟨b, e5, e7, e6⟩ => ⟨b, e5, e7, e6.put h4⟩
            refine ⟨rfl, _, rfl, _, rfl, by show 1 ≤ sizeLine; decide, fun b ob hb cb db => ?_⟩
            have e4 : Same H3 (upd H3 b (.frz ob (.tup [V.str cj]))) := same_new hb
            have fb : Fz (upd H3 b (.frz ob (.tup [V.str cj]))) b [V.str cj] := ⟨ob, upd_same, cb, db⟩
            refine ⟨a, b, ts.map V.str, [V.str cj], rfl, rfl, ((ha0.same e3).same e4).sqT, fb.sqT, ?_, (fun z => nomatch z), fun z => ?_, fun _ p op hp cp dp => ?_⟩
            · have rl := rows_len [] [[]] 0 (by simp) (cols.take i0) (List.Sublist.refl _) ts (by rw [show (cols.take i0).foldl step [[]] = R from hRR]; exact List.mem_of_getElem? hRi)
              have tl : (cols.take i0).length ≤ cols.length := (List.take_sublist _ _).length_le
              rw [List.length_map, sizeLine_eq]
              show ts.length + 1 ≤ _
              omega
            · have z2 : ts = [] := List.map_eq_nil_iff.mp z
              exact fin e4 (e4 _ _ hac) ⟨b, rfl, (same_trans e1 e3).free hb, by rw [z2]; exact fb⟩
            · have e5 := same_trans e4 (same_new (o := .frz op (.tup (ts.map V.str ++ [V.str cj]))) hp)
              exact fin e5 (e5 _ _ hac) ⟨p, rfl, (same_trans (same_trans e1 e3) e4).free hp, op, by rw [upd_same, List.map_append]; rfl, cp, dp⟩
        · rintro H3 ⟨ac, e3, hac, hB⟩
          rw [List.length_map, List.take_length, gd, ← step_take hRi] at hB
          exact ⟨ac, e3, hac, by simpa using hB⟩
      · rintro H2 ⟨acc, e2, hacc, hA⟩
        refine ⟨D, acc, _, rfl, same_trans e1 e2, hacc, ?_⟩
        rw [pn]
        rw [hR.length] at hA
        simpa using hA
    · rintro σ H1 ⟨l, rs, v2, rfl, e1, hl1, hR⟩
      refine ⟨_, rfl, l, rs, rfl, .inl ⟨SqL.of hl1, fun p hp => ?_⟩⟩
      have le : cols.length = ds.length := by rw [← hcol.length, List.length_map]
      rw [List.length_map, ← le, List.take_length] at hR
      exact q p rs _ (e1.free hp) (same_trans e1 (same_new hp)) upd_same (hR.up (same_new hp))
end
end K01
/-! winner. -/
namespace K01
open PySem PySem.Spec PyProof.Rows L2 KG KS KA KTc KFz
abbrev s_winner : Stmt := top 19
abbrev s_without : Stmt := top 16
/-- these without the one -/
def wo (ts : List Str) (x : Str) : List Str := ts.filter fun y => decide (y ≠ x)
def spWo (K : PySem.W.Frag) : Sp := fun vs H Q _ => ∃ (a : Addr) (x : Str) (ts : List Str), vs = [.ref a, .str x] ∧ SqT K H a (ts.map V.str) ∧ ts.length ≤ 1000 ∧ ∀ (p : Addr) (H' : Hp), Same H H' → H' p = some (.tup ((wo ts x).map V.str)) → Q (.ref p) H'
theorem wo_count (x : Str) : ∀ ts : List Str, (wo ts x).length + ts.count x = ts.length
  | [] => rfl
  | y :: ts => by
    have ih := wo_count x ts
    unfold wo at ih ⊢
    rw [List.count_cons, List.length_cons, List.filter_cons]
    by_cases e : y = x
    · subst e
      rw [if_neg (by simp), if_pos (beq_self_eq_true y)]
      omega
    · rw [if_pos (decide_eq_true e), if_neg (by rw [beq_eq_false_iff_ne.mpr e]; exact Bool.false_ne_true), List.length_cons]
      omega
/-- the value that all, or all but one, of these are -/
def winS (ts : List Str) : Option Str := ts.find? fun v => decide (ts.length ≤ ts.count v + 1)
def optV : Option Str → V
  | some u => .str u
  | none => .non
def spWin : Sp := fun vs H Q _ => ∃ (a : Addr) (ts : List Str), vs = [.ref a] ∧ Fz H a (ts.map V.str) ∧ 1 ≤ ts.length ∧ ts.length ≤ 1000 ∧ ∀ H', Same H H' → Q (optV (winS ts)) H'
section
variable {P : Program} {w : World} {K : PySem.W.Frag} {mg : Str → Option Value} {base : Heap}
theorem sc_without : FnScope ["items", "item", "other"] ["items", "item"] (defScope s_without) := ⟨rfl, rfl, rfl, by decide +kernel, rfl, by decide +kernel, by decide +kernel⟩
theorem ok_without (B : Bs mg) (f : FnF K mg "without" "without" s_without) : FnOk P w K mg base CX0 1 f.a f.d ["items", "item"] (spWo K) := by
  refine f.F.ok sc_without (fun vs H Q E h => ?_) (fun cdv A outer s H vs Q E hr h => ?_)
  · obtain ⟨a, x, ts, rfl, _⟩ := h
    rfl
  · obtain ⟨a, x, ts, rfl, ha, few, q⟩ := h
    refine ⟨_, (pss_one
      (ps_ret (pe_callTy call_tuple_of (by rfl) B.n_tuple (by decide +kernel) (pa_cons (pe_lc (own := [("other", 2)]) (g := gName 2) (by rfl) sc_without.nd (pi_tup (pv 0)) (blkOk_by (own := [("other", 2)]) (N := ["items", "item", "other"]) (sc := defScope s_without) (by decide +kernel))
        (fun _ _ _ _ _ => (pg_name (i := 2) sc_without.nd rfl (Or.inl rfl))) (fun _ _ _ _ _ => (pts_one (pt_cmpR op_ne (pv 2) (pv 1) (nomark _)))) (fun _ _ _ _ _ => (pv 2))) pa_nil)))), ?_⟩
    refine ⟨_, rfl, a, rfl, ⟨_, ha⟩, fun D hD => ?_⟩
    refine lc_tup (K := K) (xs := ts.map V.str) (fun i H' => Same H H' ∧ H' D = some (.lst ((wo (ts.take i) x).map V.str))) ⟨same_new hD, upd_same⟩ (fun i H' _ z => same_seqT z.1 ha) ?_ ?_
    · rintro i y H1 hy ⟨e1, hD1⟩
      rw [List.getElem?_map] at hy
      cases hi : ts[i]? with
      | none =>
        rw [hi] at hy
        cases hy
      | some u =>
        rw [hi] at hy
        obtain rfl : V.str u = y := Option.some.inj hy
        have ln : (wo (ts.take i) x).length ≤ 1000 := by
          have z := List.length_filter_le (fun y => decide (y ≠ x)) (ts.take i)
          rw [List.length_take] at z
          show (List.filter _ _).length ≤ 1000
          omega
        refine ⟨rfl, _, rfl, _, rfl, rfl, _, rfl, ite2 (fun c => ?_) fun c => ?_⟩
        · have n : u ≠ x := fun z => by
            subst z
            rw [decide_eq_true rfl] at c
            cases c
          refine ⟨_, rfl, _, hD1, by rw [List.length_map, sizeLine_eq]; omega, same_put hD e1, ?_⟩
          rw [upd_same]
          unfold wo
          rw [take_next hi, List.filter_append, List.map_append, List.filter_cons, if_pos (decide_eq_true n)]
          rfl
        · have n : u = x := Classical.byContradiction fun z => c (by
            rw [decide_eq_false (fun y => z (by injection y))]
            rfl)
          refine ⟨e1, ?_⟩
          rw [hD1]
          unfold wo
          rw [take_next hi, List.filter_append, List.filter_cons, if_neg (by simp [n]), List.filter_nil, List.append_nil]
    · rintro H1 ⟨e1, hD1⟩
      rw [List.length_map, List.take_length] at hD1
      exact ⟨D, _, rfl, .inl ⟨SqL.of hD1, fun p hp => q p _ (same_trans e1 (same_new hp)) upd_same⟩⟩
theorem sc_winner : FnScope ["some", "value"] ["some"] (defScope s_winner) := ⟨rfl, rfl, rfl, by decide +kernel, rfl, by decide +kernel, by decide +kernel⟩
theorem find_take {α : Type} {p : α → Bool} {xs : List α} {i : Nat} {x : α} (h : xs[i]? = some x) (no : ∀ j y, j < i → xs[j]? = some y → p y = false) (hp : p x = true) : xs.find? p = some x := by
  induction xs generalizing i with
  | nil => simp at h
  | cons y ys ih =>
    cases i with
    | zero =>
      cases h
      rw [List.find?_cons, hp]
    | succ i =>
      rw [List.find?_cons, no 0 y (Nat.succ_pos _) rfl]
      exact ih h fun j z hj hz => no (j + 1) z (Nat.succ_lt_succ hj) hz
theorem ok_winner (B : Bs mg) (f : FnF K mg "winner" "winner" s_winner) (fw : FnF K mg "without" "without" s_without) : FnOk P w K mg base CX0 2 f.a f.d ["some"] spWin := by
  have GW := ok_without (P := P) (w := w) (base := base) B fw
  have bW : L2.Binds K fw.d ["items", "item"] [] := fw.F.binds fun _ _ _ _ _ _ us hl => match us, hl with | [_, _], _ => rfl
  refine f.F.ok sc_winner (fun vs H Q E h => ?_) (fun cdv A outer s H vs Q E hr h => ?_)
  · obtain ⟨a, ts, rfl, _⟩ := h
    rfl
  · obtain ⟨a, ts, rfl, ha, pos, few, q⟩ := h
    have hu64 := hr.units
    refine ⟨_, (pss_cons
      (ps_for PassesOwn.never rfl (pi_tup (pv 0)) (pg_name (i := 1) sc_winner.nd rfl (Or.inl rfl))
        (pss_one
          (ps_if (pt_cmpR op_lt (pe_callB call_len (by rfl) B.n_len (by decide +kernel) (pa_cons (pe_call GW hr rfl fw.g fw.F.kp bW .nil pass0 (pa_cons (pv 0) (pa_cons (pv 1) pa_nil))) pa_nil)) pe_int (nomark _))
            (pss_one
              (ps_ret (pv 1)))
            pss_nil)))
    (pss_one
      (ps_ret pe_non))), ?_⟩
    refine ⟨_, rfl, a, rfl, ⟨_, ha.sqT⟩, ?_⟩
    have fs : ∀ {H'}, Same H H' → SqT K H' a (ts.map V.str) := fun e => (ha.same e).sqT
    refine for_tup (K := K) (a := a) (xs := ts.map V.str) (fun i σ H' => ∃ v1 : Option V, σ = [some (.ref a), v1] ∧ Same H H' ∧ ∀ j y, j < i → ts[j]? = some y → decide (ts.length ≤ ts.count y + 1) = false) ⟨none, rfl, fun _ _ z => z, fun _ _ z => absurd z (Nat.not_lt_zero _)⟩ (fun i σ H' _ ⟨_, _, e, _⟩ => fs e) ?_ ?_
    · rintro i y σ H1 hy ⟨v1, rfl, e1, no⟩
      rw [List.getElem?_map] at hy
      cases hi : ts[i]? with
      | none =>
        rw [hi] at hy
        cases hy
      | some x =>
        rw [hi] at hy
        obtain rfl : V.str x = y := Option.some.inj hy
        have wc := wo_count x ts
        refine ⟨_, rfl, _, rfl, a, x, ts, rfl, fs e1, few, fun p H2 e2 hp => ⟨.ref p, (wo ts x).length, rfl, .inr ⟨_, SqT.of hp, by rw [List.length_map]⟩, _, _, rfl, rfl, _, rfl, ite2 (fun c => ?_) fun c => ?_⟩⟩
        · have c := of_decide_eq_true c
          have e := find_take (p := fun v => decide (ts.length ≤ ts.count v + 1)) hi no (decide_eq_true (by omega))
          refine ⟨_, rfl, ?_⟩
          have q2 := q H2 (same_trans e1 e2)
          unfold winS at q2
          rw [e] at q2
          exact q2
        · refine ⟨_, rfl, same_trans e1 e2, fun j y hj hy => ?_⟩
          by_cases z : j < i
          · exact no j y z hy
          · obtain rfl : j = i := by omega
            obtain rfl := Option.some.inj (hi.symm.trans hy)
            refine decide_eq_false fun z2 => c (decide_eq_true ?_)
            omega
    · rintro σ H1 ⟨v1, rfl, e1, no⟩
      rw [List.length_map] at no
      have e : winS ts = none := by
        unfold winS
        rw [List.find?_eq_none]
        intro y hy z
        obtain ⟨j, hj⟩ := List.mem_iff_getElem?.mp hy
        have z2 := no j y (List.getElem?_eq_some_iff.mp hj).1 hj
        rw [z2] at z
        cases z
      have q2 := q H1 e1
      rw [e] at q2
      exact q2
end
end K01
/-! Table(domain, width, rows) of what is valid. -/
namespace K01
open PySem PySem.Spec PyProof.Rows L2 KG KS KA
theorem nodup_len {α : Type} : ∀ (l D : List α), l.Nodup → (∀ x ∈ l, x ∈ D) → l.length ≤ D.length
  | [], _, _, _ => Nat.zero_le _
  | x :: l, D, nd, sub => by
    obtain ⟨A, B, rfl⟩ := List.append_of_mem (sub x List.mem_cons_self)
    obtain ⟨n1, n2⟩ := List.nodup_cons.mp nd
    have z := nodup_len l (A ++ B) n2 fun y hy => by
      rcases List.mem_append.mp (sub y (List.mem_cons_of_mem _ hy)) with c | c
      · exact List.mem_append_left _ c
      · rcases List.mem_cons.mp c with e | c
        · rw [e] at hy
          exact absurd hy n1
        · exact List.mem_append_right _ c
    rw [List.length_append] at z ⊢
    rw [List.length_cons, List.length_cons]
    omega
theorem flat_rep {α : Type} (v : α) : ∀ n, (List.replicate n [v]).flatten = List.replicate n v
  | 0 => rfl
  | n + 1 => by
    rw [List.replicate_succ, List.flatten_cons, flat_rep v n]
    rfl
/-- all but the object at x stands -/
def But (x : Addr) (H H' : Hp) : Prop := ∀ b o, H b = some o → b ≠ x → H' b = some o
theorem But.put {x : Addr} {H H1 : Hp} {o : HO} (e : But x H H1) : But x H (upd H1 x o) := fun b u h n => by
  rw [upd_ne n]
  exact e b u h n
theorem But.then {x : Addr} {H H1 H2 : Hp} (e : But x H H1) (f : Same H1 H2) : But x H H2 := fun b u h n => f _ _ (e b u h n)
theorem But.of {x : Addr} {H H1 : Hp} (e : Same H H1) : But x H H1 := fun b u h _ => e b u h
theorem RowsAt.but {x : Addr} {H H' : Hp} {o : HO} (e : But x H H') (hx : H x = some o) (no : ∀ ts : List Str, o ≠ .tup (ts.map V.str)) {vs : List V} {R : List (List Str)} (h : RowsAt H vs R) : RowsAt H' vs R :=
  each_and h fun v ts _ ⟨a, e1, e2⟩ => ⟨a, e1, e _ _ e2 fun z => by
    rw [z, hx] at e2
    exact no ts (Option.some.inj e2)⟩
theorem putF_new {f : Str} {v : V} : ∀ fs : List (Str × V), (fs.all fun p => decide (p.1 ≠ f)) = true → putF f v fs = fs ++ [(f, v)]
  | [], _ => rfl
  | (g, x) :: r, h => by
    rw [List.all_cons, Bool.and_eq_true, decide_eq_true_eq] at h
    show (if g = f then _ else _) = _
    rw [if_neg h.1, putF_new r h.2]
    rfl
abbrev F1 (d : Addr) : List (Str × V) := [("domain", V.ref d)]
abbrev F2 (d : Addr) (n : Nat) : List (Str × V) := F1 d ++ [(("width" : Str), V.int (n : Nat))]
abbrev F3 (d : Addr) (n : Nat) (p : Addr) : List (Str × V) := F2 d n ++ [(("rows" : Str), V.ref p)]
abbrev F4 (d : Addr) (n : Nat) (p : Addr) (b : Bool) : List (Str × V) := F3 d n p ++ [(("is_full" : Str), V.bl b)]
abbrev tabFs (d p : Addr) (n : Nat) (b1 b2 : Bool) : List (Str × V) := [("domain", .ref d), ("width", .int (n : Nat)), ("rows", .ref p), ("is_full", .bl b1), ("is_product", .bl b2)]
/-- the columns of rows: each ascending, each once -/
def ColsOf (R : List (List Str)) (n : Nat) (cols : List (List Str)) : Prop := cols.length = n ∧ ∀ (i : Nat) c, cols[i]? = some c → AscT c ∧ ∀ x, x ∈ c ↔ ∃ row ∈ R, row[i]? = some x
theorem aft_texts {xs : List Str} (h : (xs.map tx).Pairwise Aft) (nd : ((xs.map tx).map (·.2)).Nodup) : AscT xs := by
  have nx : xs.Nodup := nodup_of_map (nodup_of_map nd)
  refine List.Pairwise.imp₂ (R := fun x y => x ≠ y) (S := fun x y => ltT y x = false) (fun x y h1 h2 => ?_) nx (List.pairwise_map.mp h)
  cases e : ltT x y with
  | true => rfl
  | false => exact absurd (ltT_total e h2) h1
theorem aft_rows {L : List MemV} {R : List (List Str)} {n : Nat} (e : L.map (·.2) = R.map kr) (h : L.Pairwise Aft) (nd : (L.map (·.2)).Nodup) (len : ∀ r ∈ R, r.length = n) : Asc R := by
  have h1 : (L.map (·.2)).Pairwise fun k l => W.dataLt l.data k.data = false := List.pairwise_map.mpr h
  rw [e] at h1 nd
  have h2 := List.pairwise_map.mp h1
  have nR : R.Nodup := nodup_of_map nd
  refine List.Pairwise.imp_of_mem (fun {a b} ha hb z => ?_) (List.Pairwise.and nR h2)
  obtain ⟨z1, z2⟩ := z
  rw [kr_data, kr_data] at z2
  cases q : ltR a b with
  | true => rfl
  | false => exact absurd (ltR_total ((len a ha).trans (len b hb).symm) q z2) z1
/-- a tuple, laid here or written in the text -/
def TupAt (K : PySem.W.Frag) (H : Hp) (r : Addr) (rs : List V) : Prop := ∀ H', Same H H' → SqT K H' r rs ∧ TyX K H' (.ref r) (.type "tuple")
theorem TupAt.of {K : PySem.W.Frag} {H : Hp} {r : Addr} {rs : List V} (h : H r = some (.tup rs)) : TupAt K H r rs := fun H' e => ⟨SqT.of (e _ _ h), .base (.tup (e _ _ h))⟩
def spTabS (K : PySem.W.Frag) (C : Addr) : Sp := fun vs H Q _ => ∃ (x dx d r : Addr) (n : Nat) (ds : List Str) (rs : List V) (R : List (List Str)), vs = [.ref x, .ref d, .int (n : Nat), .ref r] ∧ H x = some (.ins C dx []) ∧
  H d = some (.tup (ds.map V.str)) ∧ (∀ y ∈ ds, nameOk y = true) ∧ (ds.map tx).Pairwise Bef ∧ 1 ≤ ds.length ∧ ds.length ≤ 3 ∧ 1 ≤ n ∧ n ≤ 3 ∧
  TupAt K H r rs ∧ RowsAt H rs R ∧ (∀ row ∈ R, row.length = n ∧ ∀ y ∈ row, y ∈ ds) ∧ R.length < 64 ∧
  ∀ (H' : Hp) (p : Addr) (ks : List V) (R' cols : List (List Str)), But x H H' → H' x = some (.ins C dx (tabFs d p n (decide (R' = prods (List.replicate n ds))) (decide (R' = prods cols)))) → H' p = some (.tup ks) → H p = none → RowsAt H' ks R' →
    (∀ row, row ∈ R' ↔ row ∈ R) → Asc R' → ColsOf R' n cols → Q .non H'
def spTab (C : Addr) : Sp := fun vs H Q _ => ∃ (x dx d r : Addr) (n : Nat) (ds : List Str) (rs : List V) (R : List (List Str)), vs = [.ref x, .ref d, .int (n : Nat), .ref r] ∧ H x = some (.ins C dx []) ∧
  H d = some (.tup (ds.map V.str)) ∧ (∀ y ∈ ds, nameOk y = true) ∧ (ds.map tx).Pairwise Bef ∧ 1 ≤ ds.length ∧ ds.length ≤ 3 ∧ 1 ≤ n ∧ n ≤ 3 ∧
  H r = some (.tup rs) ∧ RowsAt H rs R ∧ (∀ row ∈ R, row.length = n ∧ ∀ y ∈ row, y ∈ ds) ∧ R.length < 64 ∧
  ∀ (H' : Hp) (p : Addr) (ks : List V) (R' cols : List (List Str)), But x H H' → H' x = some (.ins C dx (tabFs d p n (decide (R' = prods (List.replicate n ds))) (decide (R' = prods cols)))) → H' p = some (.tup ks) → H p = none → RowsAt H' ks R' →
    (∀ row, row ∈ R' ↔ row ∈ R) → Asc R' → ColsOf R' n cols → Q .non H'
section
variable {P : Program} {w : World} {K : PySem.W.Frag} {mg : Str → Option Value} {base : Heap}
theorem sc_tabInit : FnScope ["self", "domain", "width", "rows", "kept", "row", "place"] ["self", "domain", "width", "rows"] (defScope s_tabInit) := ⟨rfl, rfl, rfl, by decide +kernel, rfl, by decide +kernel, by decide +kernel⟩
/-- a method with one default -/
structure MtD (K : PySem.W.Frag) (name qual : Str) (st : Stmt) where
  a : Addr
  d : FuncData
  v : V
  F : FunD K name qual (defArgs st) (defBody st) (defScope st) [v] [] a d
theorem okD {name qual : Str} {st : Stmt} {N ps : List Str} {k : Nat} {sp : Sp} (f : MtD K name qual st) (S : FnScope N ps (defScope st)) (len : ∀ vs H Q E, sp vs H Q E → vs.length = ps.length)
    (body : ∀ (cdv : Value) (A : Around) (outer : List Env) (s : Shared) (H : Hp) (vs : List V) (Q : VK) (E : XK), Room k (A.deeper (envOfC qual (defScope st) s.heap.objs.size f.a cdv)) → sp vs H Q E →
      ∃ t, PSs (cxOf CX0 P w K mg base N qual (defScope st) f.a cdv A outer s H E).nox (defBody st) t ∧ t { nx := fun _ H' => Q .non H', rt := Q } (L2.start N vs) H) : FnOk P w K mg base CX0 (k + 1) f.a f.d ps sp :=
  f.F.ok S len fun cdv A outer s H vs Q E hr h => by
    obtain ⟨t, h1, h2⟩ := body cdv A outer s H vs Q E hr h
    exact ⟨t, h1.nox, h2⟩
/-- the defs that Table's making reaches -/
structure TabF (K : PySem.W.Frag) (mg : Str → Option Value) where
  dom : FnF K mg "is_domain" "is_domain" s_is_domain
  nms : FnF K mg "are_names" "are_names" s_are_names
  nm : FnF K mg "is_name" "is_name" s_is_name
  asc : FnF K mg "ascending" "ascending" s_ascending
  int : FnF K mg "is_integer" "is_integer" s_is_integer
  row : FnF K mg "is_row" "is_row" s_is_row
  all : FnF K mg "all_rows" "all_rows" s_all_rows
  col : FnF K mg "column_of" "column_of" s_column_of
theorem ok_tabInitS (B : Bs mg) (f : MtD K "__init__" "Table.__init__" s_tabInit) (F : TabF K mg) (T : TabC K mg f.a) : FnOk P w K mg base CX0 4 f.a f.d ["self", "domain", "width", "rows"] (spTabS K T.C) := by
  obtain ⟨tw, cw⟩ := B.c_width
  have G1 := ok_is_domain (P := P) (w := w) (base := base) B F.dom F.nms F.nm F.asc
  have b1 : Binds K F.dom.d ["thing"] [] := F.dom.F.binds fun _ _ _ _ _ _ us hl => match us, hl with | [_], _ => rfl
  have G2 := ok_is_integer (P := P) (w := w) (base := base) B F.int
  have b2 : Binds K F.int.d ["thing"] [] := F.int.F.binds fun _ _ _ _ _ _ us hl => match us, hl with | [_], _ => rfl
  have G3 := ok_is_row (P := P) (w := w) (base := base) B F.row
  have b3 : Binds K F.row.d ["thing", "domain", "length"] [] := F.row.F.binds fun _ _ _ _ _ _ us hl => match us, hl with | [_, _, _], _ => rfl
  have G4 := ok_ascending (P := P) (w := w) (base := base) B F.asc
  have b4 : Binds K F.asc.d ["things"] [] := F.asc.F.binds fun _ _ _ _ _ _ us hl => match us, hl with | [_], _ => rfl
  have G5 := ok_all_rows (P := P) (w := w) (base := base) B F.all
  have b5 : Binds K F.all.d ["columns"] [] := F.all.F.binds fun _ _ _ _ _ _ us hl => match us, hl with | [_], _ => rfl
  have G6 := ok_column_of (P := P) (w := w) (base := base) B F.col F.asc
  have b6 : Binds K F.col.d ["rows", "place"] [] := F.col.F.binds fun _ _ _ _ _ _ us hl => match us, hl with | [_, _], _ => rfl
  refine okD f sc_tabInit (fun vs H Q E h => ?_) (fun cdv A outer s H vs Q E hr h => ?_)
  · obtain ⟨x, dx, d, r, n, ds, rs, R, rfl, _⟩ := h
    rfl
  · obtain ⟨x, dx, d, r, n, ds, rs, R, rfl, hx, hd, ok, asc, l1, l3, n1, n3, hr0, hR, hrow, h64, q⟩ := h
    have hu64 := hr.units
    have hr1 : Room 1 _ := hr.mono (by omega)
    have hr2 : Room 2 _ := hr.mono (by omega)
    have hr3 : Room 3 _ := hr.mono (by omega)
    refine ⟨_, (pss_cons
      (ps_if (pt_not (pt_val (pe_call G1 hr3 rfl F.dom.g F.dom.F.kp b1 .nil pass0 (pa_cons (pv 1) pa_nil))))
        (pss_one
          ps_dead)
        pss_nil)
    (pss_cons
      (ps_if (PW.pt (pw_or (pt_not (pt_val (pe_call G2 hr1 rfl F.int.g F.int.F.kp b2 .nil pass0 (pa_cons (pv 2) pa_nil)))) (pw_or1 (pt_not (pt_chain op_le op_le pe_int (pv 2) (pe_glob (v := .int 3) rfl cw ⟨_, rfl⟩))))))
        (pss_one
          ps_dead)
        pss_nil)
    (pss_cons
      (ps_if (PW.pt (pw_or (pt_not (pt_val (pe_callB call_isi (by rfl) B.n_isinstance (by decide +kernel) (pa_cons (pv 3) (pa_cons (pe_bltn (v := .ty "tuple") rfl B.n_tuple (by decide +kernel) rfl) pa_nil)))))
          (pw_or1 (pt_not (pt_val (pe_callB (cr_all rfl) (by rfl) B.n_all (by decide +kernel) (pa_cons (pe_lc (own := [("row", 5)]) (g := gName 5) (by rfl) sc_tabInit.nd (pi_tup (pv 3)) (blkOk_by (own := [("row", 5)]) (N := ["self", "domain", "width", "rows", "kept", "row", "place"]) (sc := defScope s_tabInit) (by decide +kernel))
            (fun _ _ _ _ _ => (pg_name (i := 5) sc_tabInit.nd rfl (Or.inl rfl))) (fun _ _ _ _ _ => pts_nil) (fun _ _ _ _ _ => (pe_call G3 hr1 rfl F.row.g F.row.F.kp b3 .nil pass0 (pa_cons (pv 5) (pa_cons (pv 1) (pa_cons (pv 2) pa_nil)))))) pa_nil)))))))
        (pss_one
          ps_dead)
        pss_nil)
    (pss_cons
      (ps_set (i := 4) sc_tabInit.nd rfl (Or.inr rfl) (pe_call G4 hr1 rfl F.asc.g F.asc.F.kp b4 .nil pass0 (pa_cons (pv 3) pa_nil)))
    (pss_cons
      (ps_fld (pv 0) (pv 1) rfl)
    (pss_cons
      (ps_fld (pv 0) (pv 2) rfl)
    (pss_cons
      (ps_fld (pv 0) (pv 4) rfl)
    (pss_cons
      (ps_fld (pv 0) (pe_cmpR (op_eqD hu64) (pv 4) (pe_call G5 hr1 rfl F.all.g F.all.F.kp b5 .nil pass0 (pa_cons (pe_op op_rep (pe_lst (pa_cons (pv 1) pa_nil)) (pv 2)) pa_nil)) (nomark _)) rfl)
    (pss_one
      (ps_fld (pv 0) (pe_cmpR (op_eqD hu64) (pv 4) (pe_call G5 hr1 rfl F.all.g F.all.F.kp b5 .nil pass0 (pa_cons (pe_lc (own := [("place", 6)]) (g := gName 6) (by rfl) sc_tabInit.nd (pi_range1 rfl B.n_range (pa_cons (pv 2) pa_nil)) (blkOk_by (own := [("place", 6)]) (N := ["self", "domain", "width", "rows", "kept", "row", "place"]) (sc := defScope s_tabInit) (by decide +kernel))
        (fun _ _ _ _ _ => (pg_name (i := 6) sc_tabInit.nd rfl (Or.inl rfl))) (fun _ _ _ _ _ => pts_nil) (fun _ _ _ _ _ => (pe_call G6 hr2 rfl F.col.g F.col.F.kp b6 .nil pass0 (pa_cons (pv 4) (pa_cons (pv 6) pa_nil))))) pa_nil)) (nomark _)) rfl)))))))))), ?_⟩
    -- is_domain(domain)
    refine ⟨_, rfl, d, ds, rfl, hd, ok, asc, l1, l3, fun H1 e1 => ⟨true, rfl, iteF ?_⟩⟩
    -- is_integer(width), 1 <= width <= MOST_WIDTH
    refine ⟨_, rfl, _, rfl, true, rfl, iteF ?_⟩
    refine ⟨_, rfl, _, _, rfl, rfl, _, rfl, ite2 (fun _ => ?_) fun c => absurd (decide_eq_true (by omega)) c⟩
    refine ⟨_, _, rfl, rfl, _, rfl, iteNS (by omega) ?_⟩
    -- isinstance(rows, tuple) and all([is_row(row, domain, width) for row in rows])
    refine ⟨_, rfl, _, _, _, _, true, rfl, .ty "tuple", (hr0 H1 e1).2, kit_ty (by decide +kernel), true, rfl, iteF ?_⟩
    refine ⟨_, rfl, r, rfl, ⟨_, (hr0 H1 e1).1⟩, fun D hD => ?_⟩
    refine lc_tup (K := K) (xs := rs) (fun i H' => Same H1 H' ∧ H' D = some (.lst (List.replicate i (V.bl true)))) ⟨same_new hD, upd_same⟩ (fun i H' _ p => (hr0 H' (same_trans e1 p.1)).1) ?_ ?_
    · rintro i y H' hi ⟨e2, eD⟩
      obtain ⟨row, hri, a, rfl, ha⟩ := each_get hR hi
      have mr := List.mem_of_getElem? hri
      obtain ⟨len, sub⟩ := hrow row mr
      have il : i < R.length := (List.getElem?_eq_some_iff.mp hri).1
      refine ⟨rfl, _, rfl, _, rfl, _, rfl, a, d, row, ds, by rw [len]; rfl, e2 _ _ (e1 _ _ ha), e2 _ _ (e1 _ _ hd), sub, by omega, fun H3 e3 => ?_⟩
      refine ⟨_, e3 _ _ eD, by rw [List.length_replicate, sizeLine_eq]; omega, same_put hD (same_trans e2 e3), ?_⟩
      rw [upd_same, ← List.replicate_succ']
    rintro H2 ⟨e2, eD⟩
    refine ⟨D, List.replicate rs.length true, rfl, SqL.of (by rw [List.map_replicate]; exact eD), true, congrArg V.bl (bls_all _), iteF ?_⟩
    have e02 := same_trans e1 e2
    have hR2 := hR.up e02
    -- kept = ascending(rows)
    obtain ⟨ms, m1, m2, m3⟩ := rows_mem (K := K) hR2
    have row1 : ∀ t ∈ R, 1 ≤ t.length := fun t ht => by rw [(hrow t ht).1]; exact n1
    have mal := rows_al (ms := ms) (R := R) (fun p hp => by obtain ⟨_, ts, h1, h2, _⟩ := m3 p hp; exact ⟨ts, h1, h2⟩) row1
    have ml : ms.length = R.length := by
      have z := congrArg List.length m2
      rw [List.length_map, List.length_map] at z
      exact z
    refine ⟨_, rfl, true, r, ms, rfl, .inr (by rw [m1]; exact (hr0 H2 e02).1), fun p hp => (m3 p hp).1, by omega, mal.1, mal.2, fun L p H3 h1 h2 h3 h4 hp e3 hL => ?_⟩
    have e03 := same_trans e02 e3
    obtain ⟨R', a1, a2, a3⟩ := rows_back (H := H3) (R := R) (L := L) fun m hm => by
      obtain ⟨_, ts, z1, z2, a, z3, z4⟩ := m3 m (h1 m hm)
      exact ⟨ts, z1, z2, a, z3, e3 _ _ z4⟩
    have rows_iff : ∀ row, row ∈ R' ↔ row ∈ R := fun row => ⟨a3 row, fun hm => by
      have z : kr row ∈ ms.map (·.2) := by
        rw [m2]
        exact List.mem_map.mpr ⟨row, hm, rfl⟩
      obtain ⟨m, hm2, e⟩ := List.mem_map.mp z
      have z2 := h2 m hm2
      rw [e, a2] at z2
      obtain ⟨row2, hm3, e2⟩ := List.mem_map.mp z2
      rw [← kr_inj e2]
      exact hm3⟩
    have rows_asc : Asc R' := aft_rows a2 h4 h3 fun r hm => (hrow r (a3 r hm)).1
    have rlen : R'.length < 64 := by
      have z := congrArg List.length a2
      rw [List.length_map, List.length_map] at z
      have z2 : L.length ≤ ms.length := by
        have := nodup_of_map h3
        exact nodup_len _ _ this h1
      omega
    -- self.domain, self.width, self.rows
    have hx3 := e03 _ _ hx
    refine ⟨_, rfl, _, rfl, x, T.C, dx, _, rfl, hx3, T.cl, T.nd, by decide, ?_⟩
    rw [show putF "domain" (V.ref d) [] = F1 d from putF_new _ rfl]
    refine ⟨_, rfl, _, rfl, x, T.C, dx, _, rfl, upd_same, T.cl, T.nw, (by show 1 < 1000; decide), ?_⟩
    rw [show putF "width" (V.int (n : Nat)) (F1 d) = F2 d n from putF_new _ rfl]
    refine ⟨_, rfl, _, rfl, x, T.C, dx, _, rfl, upd_same, T.cl, T.nr, (by show 2 < 1000; decide), ?_⟩
    rw [show putF "rows" (V.ref p) (F2 d n) = F3 d n p from putF_new _ rfl]
    have npx : p ≠ x := fun z => by
      rw [z] at hp
      rw [e02 _ _ hx] at hp
      cases hp
    have h34 : But x H3 (upd (upd (upd H3 x (.ins T.C dx (F1 d))) x (.ins T.C dx (F2 d n))) x (.ins T.C dx (F3 d n p))) :=
      But.put (But.put (But.put (But.of (Same.refl H3))))
    have hx4 : upd (upd (upd H3 x (.ins T.C dx (F1 d))) x (.ins T.C dx (F2 d n))) x (.ins T.C dx (F3 d n p)) x = some (.ins T.C dx (F3 d n p)) := upd_same
    generalize upd (upd (upd H3 x (.ins T.C dx (F1 d))) x (.ins T.C dx (F2 d n))) x (.ins T.C dx (F3 d n p)) = H4 at h34 hx4 ⊢
    have ndx : d ≠ x := ne_of hd hx (by intro z; cases z)
    have hd4 : H4 d = some (.tup (ds.map V.str)) := h34 _ _ (e03 _ _ hd) ndx
    have hp4 : H4 p = some (.tup (L.map (·.1))) := h34 _ _ hL npx
    have hR4 : RowsAt H4 (L.map (·.1)) R' := RowsAt.but h34 hx3 (fun ts z => by cases z) a1
    have ok3 : ∀ y ∈ ds, PyData.strOk y = true := fun y hy => name_strOk (ok y hy)
    have okR : ∀ t ∈ R', ∀ y ∈ t, PyData.strOk y = true := fun t ht y hy => ok3 y ((hrow t (a3 t ht)).2 y hy)
    -- self.is_full
    refine ⟨_, rfl, _, rfl, by show 1 ≤ sizeLine; decide, fun l hl => ⟨_, rfl, l, (n : Nat), [V.ref d], rfl, rfl, upd_same, by omega, by omega, (by rw [sizeLine_eq]; show 1 * _ ≤ _; omega), fun u hu => ?_⟩⟩
    have e45 : Same H4 (upd (upd H4 l (.lst [V.ref d])) u (.lst (List.replicate (n : Int).toNat [V.ref d]).flatten)) := same_trans (same_new hl) (same_new hu)
    have hu5 : upd (upd H4 l (.lst [V.ref d])) u (.lst (List.replicate (n : Int).toNat [V.ref d]).flatten) u = some (.lst ((List.replicate n d).map V.ref)) := by
      rw [upd_same, flat_rep, List.map_replicate]
      rfl
    generalize upd (upd H4 l (.lst [V.ref d])) u (.lst (List.replicate (n : Int).toNat [V.ref d]).flatten) = H5 at e45 hu5 ⊢
    have hR5 : RowsAt H5 ((List.replicate n d).map V.ref) (List.replicate n ds) := by
      rw [List.map_replicate]
      have key : ∀ k, RowsAt H5 (List.replicate k (V.ref d)) (List.replicate k ds) := fun k => by
        induction k with
        | zero => exact .nil
        | succ k ih => exact .cons ⟨d, rfl, e45 _ _ hd4⟩ ih
      exact key n
    refine ⟨u, List.replicate n d, List.replicate n ds, rfl, hu5, hR5, few_of (fun c hc => by rw [List.eq_of_mem_replicate hc]; exact l3) (by rw [List.length_replicate]; exact n3), by rw [List.length_replicate]; omega, fun pf fs H6 hpf e56 hpf6 hRf => ?_⟩
    have e46 := same_trans e45 e56
    refine ⟨rowsD R', rowsD (prods (List.replicate n ds)), .tup (SqT.of (e46 _ _ hp4)) (rows_dp (hR4.up e46)), .tup (SqT.of hpf6) (rows_dp hRf), rows_shaped okR, rows_shaped (prods_ok fun c hc => by rw [List.eq_of_mem_replicate hc]; exact ok3), ?_⟩
    rw [eqv_rowsD]
    generalize hb1 : decide (R' = prods (List.replicate n ds)) = b1
    have hx6 := e46 _ _ hx4
    refine ⟨_, rfl, x, T.C, dx, _, rfl, hx6, T.cl, T.nf, (by show 3 < 1000; decide), ?_⟩
    rw [show putF "is_full" (V.bl b1) (F3 d n p) = F4 d n p b1 from putF_new _ rfl]
    have h67 : But x H6 (upd H6 x (.ins T.C dx (F4 d n p b1))) := But.put (But.of (Same.refl H6))
    have hx7 : upd H6 x (.ins T.C dx (F4 d n p b1)) x = some (.ins T.C dx (F4 d n p b1)) := upd_same
    generalize upd H6 x (.ins T.C dx (F4 d n p b1)) = H7 at h67 hx7 ⊢
    have hp7 : H7 p = some (.tup (L.map (·.1))) := h67 _ _ (e46 _ _ hp4) npx
    have hR7 : RowsAt H7 (L.map (·.1)) R' := RowsAt.but h67 hx6 (fun ts z => by cases z) (hR4.up e46)
    -- self.is_product
    refine ⟨_, rfl, _, rfl, (n : Nat), rfl, by omega, by omega, fun D2 hD2 => ?_⟩
    refine lc_range (lo := 0) (n := ((n : Nat) : Int).toNat) (fun i H' => ∃ (cs : List Addr) (cols : List (List Str)), Same H7 H' ∧ H' D2 = some (.lst (cs.map V.ref)) ∧ RowsAt H' (cs.map V.ref) cols ∧ cols.length = i ∧ (∀ c ∈ cols, c.length ≤ 3) ∧ (∀ c ∈ cols, ∀ y ∈ c, y ∈ ds) ∧ ∀ (j : Nat) c, cols[j]? = some c → AscT c ∧ ∀ x, x ∈ c ↔ ∃ row ∈ R', row[j]? = some x)
      ⟨[], [], same_new hD2, upd_same, .nil, rfl, fun _ z => (nomatch z), fun _ z => (nomatch z), fun _ _ z => (nomatch z)⟩ ?_ ?_
    · rintro i H' hi ⟨cs, cols, e8, hD8, hR8, len, c3, cds, cdef⟩
      refine ⟨rfl, _, rfl, _, rfl, p, L.map (·.1), R', i, by rw [Int.zero_add]; rfl, e8 _ _ hp7, hR7.up e8, fun row hm => by rw [(hrow row (a3 row hm)).1]; omega, rlen, by omega, fun pc xs H9 hpc e9 hpc9 iff nd aft => ?_⟩
      have xds : ∀ y ∈ xs, y ∈ ds := fun y hy => by
        obtain ⟨row, hm, e⟩ := (iff y).1 hy
        exact (hrow row (a3 row hm)).2 y (List.mem_of_getElem? e)
      have xnd : xs.Nodup := nodup_of_map (nodup_of_map nd)
      have x3 : xs.length ≤ 3 := Nat.le_trans (nodup_len _ _ xnd xds) l3
      have cl : cs.length = i := by rw [← len, ← hR8.length, List.length_map]
      refine ⟨_, e9 _ _ hD8, by rw [List.length_map, sizeLine_eq]; omega, cs ++ [pc], cols ++ [xs], same_put hD2 (same_trans e8 e9), by rw [upd_same, List.map_append]; rfl, ?_, by rw [List.length_append, len]; rfl, fun c hc => ?_, fun c hc => ?_, fun j c hc => ?_⟩
      · rw [List.map_append]
        refine each_and (each_snoc (hR8.up e9) ⟨pc, rfl, hpc9⟩) fun v ts _ ⟨b, e5, e6⟩ => ⟨b, e5, ?_⟩
        rw [upd_ne (ne_of e6 (e9 _ _ hD8) (by intro z; cases z))]
        exact e6
      · rcases List.mem_append.mp hc with z | z
        · exact c3 c z
        · rw [List.mem_singleton.mp z]
          exact x3
      · rcases List.mem_append.mp hc with z | z
        · exact cds c z
        · rw [List.mem_singleton.mp z]
          exact xds
      · by_cases jl : j < cols.length
        · rw [List.getElem?_append_left jl] at hc
          exact cdef j c hc
        · rw [List.getElem?_append_right (by omega)] at hc
          have j0 : j - cols.length = 0 := by
            have z := (List.getElem?_eq_some_iff.mp hc).1
            rw [List.length_singleton] at z
            omega
          rw [j0] at hc
          cases hc
          have ji : j = i := by omega
          rw [ji]
          exact ⟨aft_texts aft nd, iff⟩
    · rintro H8 ⟨cs, cols, e8, hD8, hR8, len, c3, cds, cdef⟩
      refine ⟨D2, cs, cols, rfl, hD8, hR8, few_of c3 (by omega), by omega, fun pg gs H9 hpg e9 hpg9 hRg => ?_⟩
      have e79 := same_trans e8 e9
      refine ⟨rowsD R', rowsD (prods cols), .tup (SqT.of (e79 _ _ hp7)) (rows_dp (hR7.up e79)), .tup (SqT.of hpg9) (rows_dp hRg), rows_shaped okR, rows_shaped (prods_ok fun c hc y hy => ok3 y (cds c hc y hy)), ?_⟩
      rw [eqv_rowsD]
      generalize hb2 : decide (R' = prods cols) = b2
      have hx9 := e79 _ _ hx7
      refine ⟨_, rfl, x, T.C, dx, _, rfl, hx9, T.cl, T.np, (by show 4 < 1000; decide), ?_⟩
      rw [show putF "is_product" (V.bl b2) (F4 d n p b1) = tabFs d p n b1 b2 from putF_new _ rfl]
      have h9 : But x H9 (upd H9 x (.ins T.C dx (tabFs d p n b1 b2))) := But.put (But.of (Same.refl H9))
      subst hb1 hb2
      refine q _ p (L.map (·.1)) R' cols (fun b o e nx => h9 _ _ (e79 _ _ (h67 _ _ (e46 _ _ (h34 _ _ (e03 _ _ e) nx)) nx)) nx) upd_same (h9 _ _ (e79 _ _ hp7) npx) (e02.free hp) (RowsAt.but h9 hx9 (fun ts z => by cases z) (hR7.up e79)) rows_iff rows_asc ⟨by rw [len]; omega, cdef⟩
theorem ok_tabInit (B : Bs mg) (f : MtD K "__init__" "Table.__init__" s_tabInit) (F : TabF K mg) (T : TabC K mg f.a) : FnOk P w K mg base CX0 4 f.a f.d ["self", "domain", "width", "rows"] (spTab T.C) :=
  (ok_tabInitS B f F T).imp fun vs H Q E h => by
    obtain ⟨x, dx, d, r, n, ds, rs, R, e, hx, hd, ok, asc, l1, l3, n1, n3, hr0, rest⟩ := h
    exact ⟨x, dx, d, r, n, ds, rs, R, e, hx, hd, ok, asc, l1, l3, n1, n3, .of hr0, rest⟩
end
end K01
/-! A tuple that is known to be just a tuple is a tuple again. -/
namespace KFz
open PySem PySem.Spec PyProof.Rows L2
def Thaw (X : Cx) (H H' : Hp) : Prop := ∀ b, H' b = H b ∨ (X.H_0 b = none ∧ ∃ o xs, H b = some (.frz o (.tup xs)) ∧ H' b = some (.tup xs))
section
variable {X : Cx} {pins : List (Addr × Obj)} {σ : L2.St} {H H' : Hp} {s : Shared}
theorem Thaw.none (t : Thaw X H H') {b : Addr} (h : H b = none) : H' b = none := by
  rcases t b with e | ⟨_, o, xs, e, _⟩
  · rw [e]; exact h
  · rw [h] at e; cases e
theorem Thaw.some (t : Thaw X H H') {b : Addr} {u : HO} (h : H b = some u) (n : ∀ o xs, u ≠ .frz o (.tup xs)) : H' b = some u := by
  rcases t b with e | ⟨_, o, xs, e, _⟩
  · rw [e]; exact h
  · rw [h] at e
    exact absurd (Option.some.inj e) (n o xs)
theorem Inv.thaw (I : L2.Inv X pins σ H s) (t : Thaw X H H') : L2.Inv X pins σ H' s := by
  refine ⟨I.ok, I.os, I.bare, ⟨I.base.keep, I.base.slot, fun b o h n hx => t.none (I.base.free b o h n hx), I.base.there, fun b xs q => t.some (I.base.tups b xs q) (fun _ _ z => nomatch z), fun b o u q => ?_, fun b ps q => ?_⟩, I.loc, I.cell, t.none I.free, fun x c h => t.none (I.freeC x c h), fun p hp => ?_, fun b u q => ?_, I.len⟩
  · rcases t b with e | ⟨n, _⟩
    · rw [e]; exact I.base.frzs b o u q
    · rw [n] at q; cases q
  · obtain ⟨more, e⟩ := I.base.tbls b ps q
    exact ⟨more, t.some e (fun _ _ z => nomatch z)⟩
  · obtain ⟨a1, a2, a3⟩ := I.pin p hp
    exact ⟨a1, t.none a2, a3⟩
  · have st : ∀ {o : HO}, ObjOk X.prog X.w H s.heap b o → ObjOk X.prog X.w H' s.heap b o := fun x => x.stay (fun _ _ _ e => e) (fun c e => t.some e (fun _ _ z => nomatch z)) fun c xs e => t.some e (fun _ _ z => nomatch z)
    rcases t b with e | ⟨_, o, xs, e1, e2⟩
    · rw [e] at q
      exact st (I.hok b u q)
    · rw [e2] at q
      cases q
      exact st (I.hok b _ e1).2
/-- said between two statements -/
theorem pss_thaw {st : List Stmt} {t : TS} (h : PSs X st t) : PSs X st (fun D σ H => ∃ H', Thaw X H H' ∧ t D σ H') := ⟨fun pins s σ H D I ⟨H', th, q⟩ => h.run pins s σ H' D (Inv.thaw I th) q⟩
theorem ps_thaw {st : Stmt} {t : TS} (h : PS X st t) : PS X st (fun D σ H => ∃ H', Thaw X H H' ∧ t D σ H') := ⟨fun pins s σ H D I ⟨H', th, q⟩ => h.run pins s σ H' D (Inv.thaw I th) q⟩
/-- one of them -/
theorem thaw_one {H : Hp} {a : Addr} {o : Obj} {xs : List V} (h : H a = Option.some (HO.frz o (.tup xs))) (n : X.H_0 a = Option.none) : Thaw X H (upd H a (.tup xs)) := fun b => by
  by_cases e : b = a
  · subst e
    exact .inr ⟨n, o, xs, h, upd_same⟩
  · exact .inl (upd_ne e)
end
end KFz
/-! zip over two iterators of any kind whose pairs are kept. -/
namespace KZp
open PySem
section
variable {prog : Program} {w : World} {A : Around} {E : Value → Shared → Prop} {s : Shared} {z TI TO i1 i2 T : Addr} {fp1 fp2 : List Addr} {n1 n2 i : Nat} {P1 P2 : Nat → Value → Prop} {St1 St2 : Nat → Heap → Prop} {f : Bool} {oT : Obj}
/-- the pair handed out before is still there: a new one is made -/
theorem held_item {Q : Value → Shared → Prop} (S : ZipSep2 z TI TO i1 i2 fp1 fp2) (D1 : Draws prog w A i1 fp1 n1 P1 St1) (D2 : Draws prog w A i2 fp2 n2 P2 St2) (hz : IsZipHeld s.heap z TI TO T f) (hT : s.heap.get? T = some oT)
    (hTI : IsTupOf2 s.heap TI (.ref i1) (.ref i2)) (st1 : St1 i s.heap) (st2 : St2 i s.heap) (l1 : i < n1) (l2 : i < n2)
    (hQ : ∀ x1 x2 h' tk, P1 i x1 → P2 i x2 → IsZipHeld h' z TI TO T true → St1 (i + 1) h' → St2 (i + 1) h' → IsTupOf2 h' s.heap.objs.size x1 x2 → (∀ c o, c ≠ z → c ≠ i1 → c ≠ i2 → s.heap.get? c = some o → h'.get? c = some o) → Q (.ref s.heap.objs.size) { s with heap := h', toks := tk }) :
    wpAny (model prog w) A (Builtin.«zip.__next__» ⟨[.ref z], []⟩) (fun fin s' => ∃ v, fin = .done (.ret v) ∧ Q v s') E s := by
  obtain ⟨hp, g, dr, t0, os⟩ := s
  refine wpAny_bind (m := field (.ref z) 2) (wpAny_field hz rfl (x := .bool false) rfl (wpAny_bind (m := field (.ref z) 3) (wpAny_field hz rfl (x := .ref TI) rfl (wpAny_bind (wpAny_seqItems hTI rfl (wpAny_bind (m := Builtin.SmallTypes.ownedTupleIsFree (.ref z)) (wpAny_tupleHeld_zip hz hT fun ha hza hsa => ?_)))))))
  replace hsa : Heap.SameBut z hp ha := hsa
  simp only [Bool.false_eq_true, if_false]
  refine wpAny_bind ?_
  rw [← Array.forIn_toList]
  simp only [List.forIn_cons, List.forIn_nil]
  refine wpAny_bind (wpAny_bind (wpAny_holding (wpAny_bind (m := Builtin.SmallTypes.nextOf (.ref i1)) (D1.item i ⟨ha, g, dr, t0, os⟩ _ _ l1 (D1.over st1 hsa S.zf1) fun x1 hb tb p1 sb1 hsb => wpAny_pure (wpAny_pure ?_)))))
  replace hsb : Heap.SameBut i1 ha hb := hsb
  refine wpAny_bind (wpAny_bind (wpAny_holding (wpAny_bind (m := Builtin.SmallTypes.nextOf (.ref i2)) (D2.item i ⟨hb, g, dr, tb, os⟩ _ _ l2 (D2.over (D2.over st2 hsa S.zf2) hsb S.sep1_2) fun x2 hc tc p2 sc2 hsc => wpAny_pure (wpAny_pure (wpAny_pure ?_))))))
  replace hsc : Heap.SameBut i2 hb hc := hsc
  have size : hc.objs.size = hp.objs.size := (hsc.1.trans hsb.1).trans hsa.1
  have keep : ∀ c o, c ≠ z → c ≠ i1 → c ≠ i2 → hp.get? c = some o → hc.get? c = some o := fun c o a b d e => hsc.extBut c o d (hsb.extBut c o b (hsa.extBut c o a e))
  have zc : IsZipHeld hc z TI TO T true := hsc.extBut z _ S.zi2 (hsb.extBut z _ S.zi1 hza)
  refine wpAny_bind (m := newTuple [x1, x2]) (wpAny_newTuple (wpAny_pure ⟨_, rfl, ?_⟩))
  show Q (.ref hc.objs.size) ⟨hc.push { cls := .type "tuple", data := .seq #[x1, x2] }, g, dr, tc, os⟩
  have pair : IsTupOf2 (hc.push { cls := .type "tuple", data := .seq #[x1, x2] }) hc.objs.size x1 x2 := Heap.get?_push_size _ rfl
  rw [size] at pair ⊢
  exact hQ x1 x2 _ tc p1 p2 (Heap.get?_push_of_some _ zc) (D1.frame _ _ _ (D1.over sb1 hsc S.sep2_1) fun b _ o e => Heap.get?_push_of_some _ e) (D2.frame _ _ _ sc2 fun b _ o e => Heap.get?_push_of_some _ e) pair fun c o a b d e => Heap.get?_push_of_some _ (keep c o a b d e)
theorem held_end {Q : Fin → Shared → Prop} (S : ZipSep2 z TI TO i1 i2 fp1 fp2) (D1 : Draws prog w A i1 fp1 n1 P1 St1) (hz : IsZipHeld s.heap z TI TO T f) (hT : s.heap.get? T = some oT) (hTI : IsTupOf2 s.heap TI (.ref i1) (.ref i2)) (st1 : St1 n1 s.heap)
    (hE : ∀ h' e, (∀ c o, c ≠ z → c ≠ i1 → s.heap.get? c = some o → h'.get? c = some o) → (∃ o, h'.get? e = some o ∧ o.cls = .type "StopIteration") → E (.ref e) { s with heap := h' }) : wpAny (model prog w) A (Builtin.«zip.__next__» ⟨[.ref z], []⟩) Q E s := by
  obtain ⟨hp, g, dr, t0, os⟩ := s
  refine wpAny_bind (m := field (.ref z) 2) (wpAny_field hz rfl (x := .bool false) rfl (wpAny_bind (m := field (.ref z) 3) (wpAny_field hz rfl (x := .ref TI) rfl (wpAny_bind (wpAny_seqItems hTI rfl (wpAny_bind (m := Builtin.SmallTypes.ownedTupleIsFree (.ref z)) (wpAny_tupleHeld_zip hz hT fun ha hza hsa => ?_)))))))
  replace hsa : Heap.SameBut z hp ha := hsa
  simp only [Bool.false_eq_true, if_false]
  refine wpAny_bind ?_
  rw [← Array.forIn_toList]
  simp only [List.forIn_cons, List.forIn_nil]
  exact wpAny_bind (wpAny_bind (wpAny_holding (wpAny_bind (m := Builtin.SmallTypes.nextOf (.ref i1)) (D1.done ⟨ha, g, dr, t0, os⟩ _ _ (D1.over st1 hsa S.zf1) fun h' e ext ex => hE h' e (fun c o a b q => ext c o b (hsa.extBut c o a q)) ex))))
/-- a zip as it stands after some turns; X: what is said of the pair that is out -/
def ZSt (z TI TO i1 i2 : Addr) (St1 St2 : Nat → Heap → Prop) (X : Addr → Prop) (i : Nat) (h : Heap) : Prop :=
  IsTupOf2 h TI (.ref i1) (.ref i2) ∧ St1 i h ∧ St2 i h ∧ ((IsZip h z TI TO .none ∧ ∃ a b, IsTupOf2 h TO a b) ∨ ∃ T f oT, IsZipHeld h z TI TO T f ∧ h.get? T = some oT ∧ T ≠ z ∧ T ≠ i1 ∧ T ≠ i2 ∧ X T)
theorem pn_item {X : Addr → Prop} {Q : Option Value → Shared → Prop} (S : ZipSep2 z TI TO i1 i2 fp1 fp2) (D1 : Draws prog w A.in1 i1 fp1 n1 P1 St1) (D2 : Draws prog w A.in1 i2 fp2 n2 P2 St2) (st : ZSt z TI TO i1 i2 St1 St2 X i s.heap) (l1 : i < n1) (l2 : i < n2) (hX : X s.heap.objs.size)
    (hQ : ∀ x1 x2 h' tk, P1 i x1 → P2 i x2 → IsTupOf2 h' s.heap.objs.size x1 x2 → ZSt z TI TO i1 i2 St1 St2 X (i + 1) h' → (∀ c o, c ≠ z → c ≠ TO → c ≠ i1 → c ≠ i2 → s.heap.get? c = some o → h'.get? c = some o) → Q (some (.ref s.heap.objs.size)) { s with heap := h', toks := tk }) :
    wpAny (model prog w) A (pyNext (.ref z)) Q E s := by
  obtain ⟨hTI, st1, st2, hz⟩ := st
  have new : ∀ {c : Addr} {o : Obj}, s.heap.get? c = some o → s.heap.objs.size ≠ c := fun e => Nat.ne_of_gt (Heap.lt_size e)
  have m1 : s.heap.objs.size ≠ i1 := let ⟨_, e⟩ := D1.live _ _ st1; new e
  have m2 : s.heap.objs.size ≠ i2 := let ⟨_, e⟩ := D2.live _ _ st2; new e
  rcases hz with ⟨hz, a, b, hTO⟩ | ⟨T, f, oT, hz, hT, r1, r2, r3, r4⟩
  · exact wpAny_pyNext_zipD2_item S D1 D2 hz hTI hTO st1 st2 l1 l2 fun x1 x2 h' tk p1 p2 z' _ s1 s2 pr _ k => hQ x1 x2 h' tk p1 p2 pr ⟨k _ _ S.TIz S.TITO S.TIi1 S.TIi2 hTI, s1, s2, .inr ⟨s.heap.objs.size, false, _, z', pr, new hz, m1, m2, hX⟩⟩ k
  · have ty : s.TypeIs (.ref z) "zip" := ⟨_, hz, rfl⟩
    unfold pyNext
    exact wpAny_bind (wpAny_attempt (wpAny_callSpecial?_slot (name := Str.ofString "__next__") ty F.slot_zip_next (wpAny_call_entry F.slot_zip_next ty F.entry_zip_next
      (held_item S D1 D2 hz hT hTI st1 st2 l1 l2 fun x1 x2 h' tk p1 p2 z' s1 s2 pr k => wpAny_pure (hQ x1 x2 h' tk p1 p2 pr ⟨k _ _ S.TIz S.TIi1 S.TIi2 hTI, s1, s2, .inr ⟨T, true, oT, z', k _ _ r1 r2 r3 hT, r1, r2, r3, r4⟩⟩ fun c o a _ c1 c2 e => k c o a c1 c2 e)) (F.args_zip_next_1 _))))
theorem pn_end {X : Addr → Prop} {Q : Option Value → Shared → Prop} (S : ZipSep2 z TI TO i1 i2 fp1 fp2) (D1 : Draws prog w A.in1 i1 fp1 n1 P1 St1) (D2 : Draws prog w A.in1 i2 fp2 n1 P2 St2) (st : ZSt z TI TO i1 i2 St1 St2 X n1 s.heap)
    (hQ : ∀ h' tk, (∀ c o, c ≠ z → c ≠ TO → c ≠ i1 → c ≠ i2 → s.heap.get? c = some o → h'.get? c = some o) → Q none { s with heap := h', toks := tk }) : wpAny (model prog w) A (pyNext (.ref z)) Q E s := by
  obtain ⟨hTI, st1, st2, hz⟩ := st
  rcases hz with ⟨hz, a, b, hTO⟩ | ⟨T, f, oT, hz, hT, r1, r2, r3, r4⟩
  · exact wpAny_pyNext_zipD2_end S D1 D2 hz hTI hTO st1 st2 (Nat.le_refl _) (Nat.le_refl _) (.inl rfl) hQ
  · have ty : s.TypeIs (.ref z) "zip" := ⟨_, hz, rfl⟩
    unfold pyNext
    refine wpAny_bind (wpAny_attempt (wpAny_callSpecial?_slot (name := Str.ofString "__next__") ty F.slot_zip_next (wpAny_call_entry F.slot_zip_next ty F.entry_zip_next (held_end S D1 hz hT hTI st1 fun h' e k he => ?_) (F.args_zip_next_1 _))))
    obtain ⟨o, ho, hc⟩ := he
    exact wpAny_bind (wpAny_isInstance (T := "StopIteration") (b := true) ⟨o, ho, hc⟩ isSubtype_stop (wpAny_pure (hQ _ _ fun c o a _ c1 _ e => k c o a c1 e)))
end
section
variable {prog : Program} {w : World}
/-- zip(..) as the argument of dict() -/
theorem pairZip {z TI TO i1 i2 : Addr} {fp1 fp2 : List Addr} {n : Nat} {P1 P2 : Nat → Value → Prop} {St1 St2 : Nat → Heap → Prop} (S : ZipSep2 z TI TO i1 i2 fp1 fp2) (D1 : ∀ A : Around, A.handled = none → Draws prog w A i1 fp1 n P1 St1) (D2 : ∀ A : Around, A.handled = none → Draws prog w A i2 fp2 n P2 St2)
    (t1 : ∀ h, St1 0 h → ∀ b ∈ fp1, ∃ o, h.get? b = some o) (t2 : ∀ h, St2 0 h → ∀ b ∈ fp2, ∃ o, h.get? b = some o) (A0 : Around) (hA0 : A0.handled = none) :
    PairArg prog w "zip" z (z :: TI :: TO :: (fp1 ++ fp2)) [z, TO, i1, i2] n (fun i k v => P1 i k ∧ P2 i v) (fun h => IsZip h z TI TO .none ∧ IsTupOf2 h TI (.ref i1) (.ref i2) ∧ (∃ a b, IsTupOf2 h TO a b) ∧ St1 0 h ∧ St2 0 h) where
  type := fun s ok => ⟨_, ok.1, rfl⟩
  notDict := by decide
  keep := fun h h' ok k => by
    obtain ⟨hz, hTI, ⟨a, b, hTO⟩, s1, s2⟩ := ok
    exact ⟨k _ _ hz, k _ _ hTI, ⟨a, b, k _ _ hTO⟩, (D1 A0 hA0).frame 0 h h' s1 fun b _ o e => k b o e, (D2 A0 hA0).frame 0 h h' s2 fun b _ o e => k b o e⟩
  there := fun h ok b hb => by
    obtain ⟨hz, hTI, ⟨a, c, hTO⟩, s1, s2⟩ := ok
    rcases List.mem_cons.mp hb with rfl | hb
    · exact ⟨_, hz⟩
    rcases List.mem_cons.mp hb with rfl | hb
    · exact ⟨_, hTI⟩
    rcases List.mem_cons.mp hb with rfl | hb
    · exact ⟨_, hTO⟩
    rcases List.mem_append.mp hb with hb | hb
    · exact t1 h s1 b hb
    · exact t2 h s2 b hb
  sub := fun b hb => by
    have e1 := S.mem1
    have e2 := S.mem2
    simp only [List.mem_cons, List.not_mem_nil, or_false] at hb
    rcases hb with rfl | rfl | rfl | rfl <;> simp [e1, e2]
  noKeys := fun A s Q E hA ok h => getAttrOr_miss_zip ok.1 rfl rfl rfl zip_no_keys (by decide +kernel) hA h
  iter := fun A s d Q E hA ok hd hdf h => by
    obtain ⟨hz, hTI, ⟨a, b, hTO⟩, s1, s2⟩ := ok
    have off : ∀ b, b ∈ z :: TI :: TO :: (fp1 ++ fp2) → b ≠ d := fun b hb e => hdf (e ▸ hb)
    have o1 : ∀ b ∈ fp1, b ≠ d := fun b hb => off b (by simp [hb])
    have o2 : ∀ b ∈ fp2, b ≠ d := fun b hb => off b (by simp [hb])
    refine wpAny_pyIter_zip hz (h z [z, TO, i1, i2] (ZSt z TI TO i1 i2 St1 St2 fun T => T ≠ d) s.heap s.toks ?_ ⟨hTI, s1, s2, .inl ⟨hz, a, b, hTO⟩⟩ (fun _ _ e => e) fun b hb => .inl hb)
    refine ⟨fun hm => ?_, fun i h1 h2 st k => ?_, fun i s1 Q1 E1 hi st hds hQ => ?_, fun s1 Q1 E1 st hQ => ?_⟩
    · simp only [List.mem_cons, List.not_mem_nil, or_false] at hm
      rcases hm with e | e | e | e
      · exact off z (by simp) e.symm
      · exact off TO (by simp) e.symm
      · exact o1 i1 S.mem1 e.symm
      · exact o2 i2 S.mem2 e.symm
    · obtain ⟨hTI, s1, s2, hz⟩ := st
      refine ⟨k _ _ (off TI (by simp)) hTI, (D1 A hA).frame i h1 h2 s1 fun b hb o e => k b o (o1 b hb) e, (D2 A hA).frame i h1 h2 s2 fun b hb o e => k b o (o2 b hb) e, ?_⟩
      rcases hz with ⟨hz, a, b, hTO⟩ | ⟨T, f, oT, hz, hT, r1, r2, r3, r4⟩
      · exact .inl ⟨k _ _ (off z (by simp)) hz, a, b, k _ _ (off TO (by simp)) hTO⟩
      · exact .inr ⟨T, f, oT, k _ _ (off z (by simp)) hz, k _ _ r4 hT, r1, r2, r3, r4⟩
    · exact pn_item S (D1 A.in1 hA) (D2 A.in1 hA) st hi hi (Nat.ne_of_gt hds) fun x1 x2 h' tk p1 p2 pr st' k => hQ _ x1 x2 h' tk ⟨p1, p2⟩ (.inl ⟨_, pr, rfl, _, rfl⟩) st' fun c o hc e => k c o (fun x => hc (by simp [x])) (fun x => hc (by simp [x])) (fun x => hc (by simp [x])) (fun x => hc (by simp [x])) e
    · exact pn_end S (D1 A.in1 hA) (D2 A.in1 hA) st fun h' tk k => hQ h' tk fun c o hc e => k c o (fun x => hc (by simp [x])) (fun x => hc (by simp [x])) (fun x => hc (by simp [x])) (fun x => hc (by simp [x])) e
end
end KZp
/-! dict(zip(t, u)), t a tuple of rows of texts, u a tuple. -/
namespace KDz
open PySem PySem.Spec PyProof.Rows L2
/-- the entries -/
def entK (ts : List Str) : List Key := ts.map Sum.inr
theorem entK_kV (ts : List Str) : (entK ts).map kV = ts.map V.str := by
  unfold entK
  rw [List.map_map]
  rfl
theorem entK_inj {a b : List Str} (h : entK a = entK b) : a = b := (List.map_inj_right fun _ _ z => Sum.inr.inj z).mp h
def dtOf (ks : List (Addr × List Str)) (vs : List V) : List (List Key × V) := (ks.map fun p => entK p.2).zip vs
def rawOf (ks : List (Addr × List Str)) (us : List Value) : List (List Key × Addr × Value) := (ks.zip us).map fun q => (entK q.1.2, q.1.1, q.2)
theorem rawOf_len {ks : List (Addr × List Str)} {us : List Value} (l : ks.length = us.length) : (rawOf ks us).length = ks.length := by
  unfold rawOf
  rw [List.length_map, List.length_zip, l, Nat.min_self]
theorem rawOf_keys {ks : List (Addr × List Str)} {us : List Value} (l : ks.length = us.length) : (rawOf ks us).map (·.1) = ks.map fun p => entK p.2 := by
  induction ks generalizing us with
  | nil => rfl
  | cons p ks ih =>
    match us, l with
    | u :: us, l =>
      have z := ih (us := us) (by simpa using l)
      simp only [rawOf, List.zip_cons_cons, List.map_cons] at z ⊢
      rw [z]
theorem kt_of {H : Hp} : ∀ {ks : List (Addr × List Str)} {vs : List V} {us : List Value}, ks.length = vs.length → Vals vs us → (∀ p ∈ ks, H p.1 = some (.tup (p.2.map V.str))) → KT H (dtOf ks vs) (rawOf ks us)
  | [], _, _, _, _, _ => .nil
  | p :: ks, [], _, l, _, _ => by cases l
  | p :: ks, v :: vs, _, l, r, h => by
    cases r with
    | cons r1 r2 =>
      refine .cons ⟨rfl, ?_, r1⟩ (kt_of (ks := ks) (by simpa using l) r2 fun q hq => h q (List.mem_cons_of_mem _ hq))
      show H p.1 = some (HO.tup ((entK p.2).map kV))
      rw [entK_kV]
      exact h p List.mem_cons_self
def tDictZip (K : PySem.W.Frag) (t1 t2 : TE) : TE := fun σ H Q => t1 σ H fun x H1 => t2 σ H1 fun y H2 => ∃ (a b : Addr) (ks : List (Addr × List Str)) (vs : List V), x = .ref a ∧ y = .ref b ∧ SqT K H2 a (ks.map fun p => V.ref p.1) ∧ SqT K H2 b vs ∧
  (∀ p ∈ ks, H2 p.1 = some (.tup (p.2.map V.str))) ∧ ks.length = vs.length ∧ (ks.map (·.2)).Nodup ∧ ks.length ≤ 100000 ∧ ∀ d, H2 d = none → Q (.ref d) (upd H2 d (.dT (dtOf ks vs)))
/-- what is asked of the two -/
def ZipIn (K : PySem.W.Frag) (Q : VK) : List V → Hp → Prop
  | [x, y], H2 => ∃ (a b : Addr) (ks : List (Addr × List Str)) (vs : List V), x = .ref a ∧ y = .ref b ∧ SqT K H2 a (ks.map fun p => V.ref p.1) ∧ SqT K H2 b vs ∧
    (∀ p ∈ ks, H2 p.1 = some (.tup (p.2.map V.str))) ∧ ks.length = vs.length ∧ (ks.map (·.2)).Nodup ∧ ks.length ≤ 100000 ∧ ∀ d, H2 d = none → Q (.ref d) (upd H2 d (.dT (dtOf ks vs)))
  | _, _ => False
section
variable {X : Cx} {e1 e2 : Expr} {t1 t2 : TE} {p p1 p2 pos : Pos}
theorem keep_key {w : World} {P : Program} {h h' : Heap} {k : List Key} {b : Addr} (e : ∀ o, h.get? b = some o → h'.get? b = some o) (x : (tupleKind (mixKind P w)).is h k b) : (tupleKind (mixKind P w)).is h' k b := by
  obtain ⟨o, its, n, h1, r⟩ := x
  exact ⟨o, its, n, e _ h1, r⟩
theorem pe_dictZip (ha : PA X [e1, e2] (tCons t1 (tCons t2 tNil))) (gd : Gl X "dict") (md : X.mg "dict" = none) (gz : Gl X "zip") (mz : X.mg "zip" = none) (hc : X.calm = true) (hr : Room 3 X.A)
    (he0 : starEach [Expr.Call (.Name "zip" p1) [e1, e2] [] p2] X.env = (false, eval (.Call (.Name "zip" p1) [e1, e2] [] p2) X.env) :: starEach [] X.env := by rfl)
    (he : starEach [e1, e2] X.env = (false, eval e1 X.env) :: starEach [e2] X.env := by rfl) (hpl : (backTo p2 (starEach [e2] X.env)).any (·.1) = false := by rfl) :
    PE X (.Call (.Name "dict" p) [.Call (.Name "zip" p1) [e1, e2] [] p2] [] pos) (tDictZip X.K t1 t2) := by
  refine ⟨fun pins s σ H Q I h => ?_⟩
  have h0 : (tCons t1 (tCons t2 tNil)) σ H (ZipIn X.K Q) := h
  refine wpAny_Call_Name_kw (ld_blt I gd md rfl ?_ (by decide) (by decide))
  refine PyProof.Rows.callWith_type1 ?_ he0 rfl
  rw [he0]
  refine Calls.spliced_cons (wpAny_Call_Name_kw (ld_blt I gz mz rfl ?_ (by decide) (by decide)))
  refine PyProof.Rows.callWith_type1 (thn (ha.run p2 pins s σ H _ I h0) fun us s1 ⟨vs, H1, I1, r1, q1⟩ => ?_) he hpl
  obtain ⟨x, y, rfl⟩ : ∃ x y, vs = [x, y] := by
    match vs, q1 with
    | [x, y], _ => exact ⟨x, y, rfl⟩
  obtain ⟨a, b, ks, vs, rfl, rfl, sa, sb, hk, len, nd, few, q⟩ := q1
  obtain ⟨u, v, rfl, ru, rv⟩ := vals2 r1
  obtain rfl : u = Value.ref a := ru
  obtain rfl : v = Value.ref b := rv
  obtain ⟨ia, va, pa, _⟩ := I1.tuple sa
  obtain ⟨ib, vb, pb, _⟩ := I1.tuple sb
  have la := va.length
  have lb := vb.length
  rw [List.length_map] at la
  have lta : a < s1.heap.objs.size := let ⟨_, e, _⟩ := pa; Heap.lt_size e
  have ltb : b < s1.heap.objs.size := let ⟨_, e, _⟩ := pb; Heap.lt_size e
  refine zip_begins2 (begins_tuple a ia.toArray) (begins_tuple b ib.toArray) pa pb fun h' z1 z2 z3 z4 z5 _ kp => ?_
  refine Calls.spliced_nil ?_
  have S := zip_sep2 (N := s1.heap.objs.size) (fp1 := [a]) (fp2 := [b]) (by simpa using lta) (by simpa using ltb)
  have hd : X.A.handled = none := hr.hd
  have P := KZp.pairZip (prog := X.prog) (w := X.w) S (fun A hA => Draws.tuple hA s1.heap.objs.size a (Nat.ne_of_lt lta) ia.toArray) (n := ia.toArray.size)
    (fun A hA => by
      have D := Draws.tuple (prog := X.prog) (w := X.w) hA (s1.heap.objs.size + 1) b (Nat.ne_of_lt (Nat.lt_succ_of_lt ltb)) ib.toArray
      rw [show ib.toArray.size = ia.toArray.size by rw [List.size_toArray, List.size_toArray]; omega] at D
      exact D)
    (fun g st c hc => by
      rcases List.mem_cons.mp hc with rfl | hc
      · exact let ⟨o, e, _⟩ := st.1; ⟨o, e⟩
      · rw [List.mem_singleton.mp hc]
        exact let ⟨o, e, _⟩ := st.2; ⟨o, e⟩)
    (fun g st c hc => by
      rcases List.mem_cons.mp hc with rfl | hc
      · exact let ⟨o, e, _⟩ := st.1; ⟨o, e⟩
      · rw [List.mem_singleton.mp hc]
        exact let ⟨o, e, _⟩ := st.2; ⟨o, e⟩) X.A hd
  have lu : ks.length = ib.length := by omega
  have old : ∀ {c : Addr} {o : Obj}, s1.heap.get? c = some o → c < s1.heap.objs.size := fun e => Heap.lt_size e
  have off : ∀ {c : Addr}, c < s1.heap.objs.size → c ∉ [s1.heap.objs.size + 4, s1.heap.objs.size + 3, s1.heap.objs.size, s1.heap.objs.size + 1] := fun {c} l m => by
    simp only [List.mem_cons, List.not_mem_nil, or_false] at m
    rcases m with e | e | e | e
    · exact Nat.lt_irrefl c (Nat.lt_of_lt_of_le l (e ▸ Nat.le_add_right _ _))
    · exact Nat.lt_irrefl c (Nat.lt_of_lt_of_le l (e ▸ Nat.le_add_right _ _))
    · exact Nat.lt_irrefl c (Nat.lt_of_lt_of_le l (Nat.le_of_eq e.symm))
    · exact Nat.lt_irrefl c (Nat.lt_of_lt_of_le l (e ▸ Nat.le_add_right _ _))
  have keys : ∀ x ∈ rawOf ks ib, ∃ p ∈ ks, x.1 = entK p.2 ∧ x.2.1 = p.1 := fun x hx => by
    obtain ⟨r, hr, rfl⟩ := List.mem_map.mp hx
    exact ⟨r.1, (List.of_mem_zip hr).1, rfl, rfl⟩
  have key : ∀ p ∈ ks, (tupleKind (mixKind X.prog X.w)).is s1.heap (entK p.2) p.1 := fun p hp => key_of I1.hok (by rw [entK_kV]; exact hk p hp)
  have keyLt : ∀ p ∈ ks, p.1 < s1.heap.objs.size := fun p hp => let ⟨_, _, _, e, _⟩ := key p hp; old e
  have sz : s1.heap.objs.size ≤ h'.objs.size := Nat.le_of_lt (Nat.lt_of_le_of_lt (Nat.le_add_right _ 4) (Heap.lt_size z1))
  refine call_dict_pairsH (knd := tupleKind (mixKind X.prog X.w)) (ps := rawOf ks ib) P hd ?_ ⟨z1, z2, ⟨_, _, z3⟩, ⟨⟨_, z4, rfl, rfl⟩, pa.keeps kp⟩, ⟨⟨_, z5, rfl, rfl⟩, pb.keeps kp⟩⟩ ⟨?_, fun i k v ⟨e1, e2⟩ => ?_⟩ (fun g kg x hx => ?_) ?_ fun g tk hg kg => ?_
  · exact hr.in1.in1.units0
  · rw [rawOf_len lu, List.size_toArray]
    omega
  · have f1 : ia[i]? = some k := by simpa using e1
    have f2 : ib[i]? = some v := by simpa using e2
    have li : i < ks.length := by
      have := (List.getElem?_eq_some_iff.mp f1).1
      omega
    have g0 : ks[i]? = some ks[i] := List.getElem?_eq_getElem li
    obtain ⟨u, hu, ru⟩ := va.get (show (ks.map fun p => V.ref p.1)[i]? = some (V.ref ks[i].1) by rw [List.getElem?_map, g0]; rfl)
    rw [f1] at hu
    obtain rfl : k = u := Option.some.inj hu
    refine ⟨entK ks[i].2, ks[i].1, ?_, ru⟩
    show ((ks.zip ib).map fun q => (entK q.1.2, q.1.1, q.2))[i]? = _
    rw [List.getElem?_map, (List.getElem?_zip_eq_some (z := (ks[i], v))).mpr ⟨g0, f2⟩]
    rfl
  · obtain ⟨p, hp, e1, e2⟩ := keys x hx
    rw [e1, e2]
    have lp := keyLt p hp
    exact keep_key (fun o e => kg _ _ (Nat.ne_of_lt (Nat.lt_of_lt_of_le lp sz)) (off lp) (kp _ _ e)) (key p hp)
  · rw [sizeLine_eq, List.size_toArray]
    omega
  · have ndk : ((rawOf ks ib).map (·.1)).Nodup := by
      rw [rawOf_keys lu, show (ks.map fun p => entK p.2) = (ks.map (·.2)).map entK by rw [List.map_map]; rfl]
      exact List.Pairwise.map _ (fun _ _ ne z => ne (entK_inj z)) nd
    rw [storedAllH_nil_of_nodup _ ndk] at hg
    obtain ⟨o, es, ep, g1, g2, g3, g4, _, g5⟩ := hg
    have kept : ∀ c o, s1.heap.get? c = some o → g.get? c = some o := fun c o e => kg c o (off (old e)) (kp c o e)
    have fresh : H1 h'.objs.size = none := I1.hok.fresh sz
    refine ⟨.ref h'.objs.size, upd H1 h'.objs.size (.dT (dtOf ks vs)), I1.laid (t' := tk) kept sz ?_, rfl, q _ fresh⟩
    refine ⟨?_, beq_eq_false_iff_ne.mpr (Nat.ne_of_gt (Nat.lt_of_lt_of_le I1.big sz)), rawOf ks ib, kt_of (by omega) vb fun p hp => ?_, o, es, ep, g1, g2, g3, g4, g5⟩
    · unfold dtOf
      rw [List.length_zip, List.length_map, sizeLine_eq]
      omega
    · rw [upd_ne (Nat.ne_of_lt (Nat.lt_of_lt_of_le (keyLt p hp) sz))]
      exact hk p hp
end
end KDz
/-! Drawn: one of a list. -/
namespace K01
open PySem PySem.Spec PyProof.Rows L2 KG

theorem DeckAt.back {H H' : Hp} {d l : Addr} {k : Nat} (D : DeckAt H' d l k) (o : Off d l H H') {b : Addr} (h : H' b = none) : H b = none := by
  obtain ⟨cs, m, n, h1, h2, _⟩ := D.ex
  cases q : H b with
  | none => rfl
  | some u =>
    by_cases e1 : b = d
    · rw [e1, h1] at h; cases h
    · by_cases e2 : b = l
      · rw [e2, h2] at h; cases h
      · rw [o b u q e1 e2] at h; cases h

/-! ### _law_pick -/
def spPick (K : PySem.W.Frag) : Sp := fun vs H Q _ => ∃ (d l a : Addr) (xs : List V) (k : Nat), vs = [.ref d, .ref a] ∧ DeckAt H d l k ∧ H a = some (.lst xs) ∧ a ≠ l ∧ 0 < xs.length ∧ xs.length < 1000000 ∧ k < 1000000000 ∧
  ∀ (v : V) (H' : Hp), v ∈ xs → DeckAt H' d l (k + 1) → Off d l H H' → Q v H'
section
variable {P : Program} {w : World} {K : PySem.W.Frag} {mg : Str → Option Value} {base : Heap}
theorem sc__law_pick : FnScope ["_law_deck_here", "_law_options"] ["_law_deck_here", "_law_options"] (defScope s__law_pick) := ⟨rfl, rfl, rfl, by decide +kernel, rfl, by decide +kernel, by decide +kernel⟩
theorem ok__law_pick (B : Bi mg) (f : FnF K mg "_law_pick" "_law_pick" s__law_pick) (fd : FnF K mg "_law_draw" "_law_draw" s__law_draw) : FnOk P w K mg base CX0 2 f.a f.d ["_law_deck_here", "_law_options"] (spPick K) := by
  have G := ok__law_draw (P := P) (w := w) (base := base) B fd
  have bd : Binds K fd.d ["_law_deck_here", "_law_many"] [] := fd.F.binds fun _ _ _ _ _ _ us hl => match us, hl with | [_, _], _ => rfl
  refine f.F.ok sc__law_pick (fun vs H Q E h => ?_) (fun cdv A outer s H vs Q E hr h => ?_)
  · obtain ⟨d, l, a, xs, k, rfl, _⟩ := h
    rfl
  · obtain ⟨d, l, a, xs, k, rfl, D, ha, nal, h0, h1, hk, q⟩ := h
    refine ⟨_, (pss_one
      (ps_ret (pe_ix ix_list (pv 1) (pe_call G hr rfl fd.g fd.F.kp bd .nil pass0 (pa_cons (pv 0) (pa_cons (pe_callB call_len (by rfl) B.n_len (by decide +kernel) (pa_cons (pv 1) pa_nil)) pa_nil))) (fun _ _ => rfl)))), ?_⟩
    refine ⟨_, rfl, _, rfl, _, rfl, .ref a, xs.length, rfl, Or.inl ⟨xs, SqL.of ha, rfl⟩, d, l, (xs.length : Int), k, rfl, D, by omega, by omega, hk, fun i H' i0 i1 D' o' => ?_⟩
    have nad : a ≠ d := by
      obtain ⟨cs, m, n, hd, _⟩ := D.ex
      exact ne_of ha hd (by intro z; cases z)
    have hi : i.toNat < xs.length := by omega
    have hx : xs[i.toNat]? = some xs[i.toNat] := List.getElem?_eq_getElem hi
    exact ⟨a, xs, i, xs[i.toNat], rfl, rfl, SqL.of (o' a _ ha nad nal), at_of (j := i.toNat) (by omega) hx, q _ H' (List.getElem_mem hi) D' o'⟩

end
end K01
/-! A text beside a dict: not equal. -/
namespace KDq
open PySem PySem.SeqAt
theorem sub_dict_str : isSubtype (.type "dict") (.type "str") = pure false := by first | exact F.sub_dict_str | kernel_rfl
theorem sub_str_dict : isSubtype (.type "str") (.type "dict") = pure false := by first | exact F.sub_str_dict | kernel_rfl
theorem str_eq_declines_dict (b : Str) (u : Tok) (l : Addr) (es : Array DictEntry) (n : Nat) (dd : Option Addr) (sl : Array (Option Value)) :
    Meets (Builtin.«str.__eq__» ⟨[.str b u, .ref l], []⟩) (fun _ R s => s.heap.get? l = some { cls := .type "dict", dict := dd, data := .dict es n, slots := sl } ∧ R (.ok (.ret .notImplemented)) s) :=
  .of_wp fun prog w A R s h => by obtain ⟨hp, g, d, tk, os⟩ := s; obtain ⟨hl, h⟩ := h; wp_walk using wpAny_load hl; exact ⟨_, rfl, h⟩
theorem dict_eq_declines_str (l : Addr) (es : Array DictEntry) (n : Nat) (dd : Option Addr) (sl : Array (Option Value)) (b : Str) (u : Tok) :
    Meets (Builtin.«dict.__eq__» ⟨[.ref l, .str b u], []⟩) (fun _ R s => s.heap.get? l = some { cls := .type "dict", dict := dd, data := .dict es n, slots := sl } ∧ R (.ok (.ret .notImplemented)) s) :=
  .of_wp fun prog w A R s h => by obtain ⟨hp, g, d, tk, os⟩ := s; obtain ⟨hl, h⟩ := h; have f1 := sub_str_dict; wp_walk using wpAny_load hl; exact ⟨_, rfl, h⟩
section
variable {A : Around} {s : Shared}
theorem RcAt.str_dict {l : Addr} {o : Obj} {es : Array DictEntry} {n : Nat} (b : Str) (u : Tok) (ho : s.heap.get? l = some o) (hc : o.cls = .type "dict") (hd : o.data = .dict es n) (hu : A.units < cLine) : RcAt A s (.str b u) (.ref l) false := fun prog w E Q h => by
  obtain ⟨cls, dd, data, sl⟩ := o
  simp only at hc hd
  subst hc hd
  exact rc_eq_decline_or (k := false) (typeIs_str s b u) ⟨_, ho, rfl⟩ (by decide) sub_dict_str F.slot_str_eq F.slot_dict_eq_refl
    (fun _ hq => call_meets F.slot_str_eq (typeIs_str s b u) F.entry_str_eq (F.args_str_eq_2 _ _) (str_eq_declines_dict b u l es n dd sl) ⟨ho, hq⟩)
    (fun _ hq => call_meets F.slot_dict_eq_refl ⟨_, ho, rfl⟩ F.entry_dict_eq (F.args_dict_eq_2 _ _) (dict_eq_declines_str l es n dd sl b u) ⟨ho, hq⟩)
    (fun _ hq => wpAny_of_eq (rfl : isSame (.str b u) (.ref l) = pure false) hq) (.inr hu) h
theorem EqAt.str_dict {l : Addr} {o : Obj} {es : Array DictEntry} {n : Nat} (b : Str) (u : Tok) (ho : s.heap.get? l = some o) (hc : o.cls = .type "dict") (hd : o.data = .dict es n) (hu : A.units < cLine) : EqAt A s (.str b u) (.ref l) false := fun prog w E Q h => by
  unfold eqBool
  refine wpAny_holding ?_
  refine wpAny_ite_split (fun hab => absurd (eq_of_beq hab) nofun) (fun _ => ?_)
  exact wpAny_bind (RcAt.str_dict b u ho hc hd hu prog w E _ (wpAny_truthy_bool h))
end
end KDq
/-! x in a tuple of texts, x any value. -/
namespace KIa
open PySem PySem.Spec PyProof.Rows L2 PySem.SeqAt
/-- a text, or another value -/
inductive ItK (K : PySem.W.Frag) (H : Hp) : V → Option Str → Prop
  | str (x : Str) : ItK K H (.str x) (some x)
  | int (n : Int) : ItK K H (.int n) none
  | bl (b : Bool) : ItK K H (.bl b) none
  | non : ItK K H .non none
  | lst {a : Addr} {xs : List V} : SqL K H a xs → ItK K H (.ref a) none
  | tup {a : Addr} {xs : List V} : SqT K H a xs → ItK K H (.ref a) none
  | dct {a : Addr} {kvs : List (Key × V)} : H a = some (.dK kvs) → ItK K H (.ref a) none
def inIt (o : Option Str) (ds : List Str) : Bool := ds.any fun t => decide (o = some t)
theorem inIt_some (x : Str) (ds : List Str) : inIt (some x) ds = decide (x ∈ ds) := by
  unfold inIt
  rw [Bool.eq_iff_iff, List.any_eq_true, decide_eq_true_eq]
  refine ⟨fun ⟨t, ht, e⟩ => ?_, fun h => ⟨x, h, decide_eq_true rfl⟩⟩
  rw [Option.some.inj (of_decide_eq_true e)]
  exact ht
theorem inIt_none (ds : List Str) : inIt none ds = false := by
  unfold inIt
  rw [List.any_eq_false]
  intro t ht e
  cases of_decide_eq_true e
def rInIt (K : PySem.W.Frag) : R2 := fun x y H Q => ∃ (o : Option Str) (d : Addr) (ds : List Str), ItK K H x o ∧ y = .ref d ∧ SqT K H d (ds.map V.str) ∧ Q (.bl (inIt o ds)) H
/-- the text that a value is -/
def txtOf : Value → Option Str
  | .str t _ => some t
  | _ => none
theorem any_txt {o : Option Str} : ∀ {ds : List Str} {us : List Value}, Vals (ds.map V.str) us → (us.any fun y => decide (o = txtOf y) && (txtOf y).isSome) = inIt o ds
  | [], _, r => by
    cases r
    rfl
  | t :: ds, us, r => by
    rw [List.map_cons] at r
    cases r with
    | cons r1 r2 =>
      obtain ⟨k, rfl⟩ := r1
      have z := any_txt (o := o) r2
      unfold inIt at z ⊢
      rw [List.any_cons, List.any_cons, z]
      show (decide (o = some t) && true || _) = _
      rw [Bool.and_true]
theorem vals_txt : ∀ {ds : List Str} {us : List Value}, Vals (ds.map V.str) us → ∀ u ∈ us, ∃ t k, u = .str t k
  | [], _, r, u, h => by
    cases r
    cases h
  | t :: ds, _, r, u, h => by
    rw [List.map_cons] at r
    cases r with
    | cons r1 r2 =>
      rcases List.mem_cons.mp h with rfl | h
      · exact let ⟨k, e⟩ := r1; ⟨t, k, e⟩
      · exact vals_txt r2 u h
section
variable {X : Cx}
theorem op_inIt (hu : X.A.units + 64 < cLine) : OpR X (compareOp .In) (rInIt X.K) := by
  intro pins s σ H x y v u Q I rx ry h
  obtain ⟨o, d, ds, hx, rfl, hd, q⟩ := h
  obtain rfl : u = Value.ref d := ry
  obtain ⟨its, rv, pl, _⟩ := I.tuple hd
  have hu1 : X.A.in1.units < cLine := by
    show X.A.units + 1 < cLine
    omega
  refine in_tupleAt (fun y => decide (o = txtOf y) && (txtOf y).isSome) pl (fun y hy => ?_) ⟨.bl _, H, I, rfl, ?_⟩
  · obtain ⟨t, k, rfl⟩ := vals_txt rv y (by simpa using hy)
    show EqAt _ _ _ _ (decide (o = some t) && true)
    rw [Bool.and_true]
    cases hx with
    | str x =>
      obtain ⟨kx, rfl⟩ := rx
      have z := EqAt.str_str (A := X.A.in1) (s := s) t k x kx
      have e : (t == x) = decide (some x = some t) := by
        by_cases e : x = t
        · subst e
          simp
        · have : ¬ t = x := fun z => e z.symm
          simp [e, this]
      rw [e] at z
      exact z
    | int n =>
      obtain ⟨kx, rfl⟩ := rx
      exact EqAt.str_int t k n kx
    | bl b =>
      obtain rfl := rx
      exact EqAt.str_bool t k b
    | non =>
      obtain rfl := rx
      exact EqAt.str_none t k
    | lst hl =>
      obtain rfl := rx
      obtain ⟨is2, rv2, pl2, _⟩ := I.list hl
      exact EqAt.str_list t k pl2.isList hu1
    | tup ht =>
      obtain rfl := rx
      obtain ⟨is2, rv2, pl2, _⟩ := I.tuple ht
      exact EqAt.str_tuple t k pl2 hu1
    | dct hk =>
      obtain rfl := rx
      obtain ⟨_, _, vs, _, ob, es, ep, e1, e2, e3, e4⟩ := I.hok _ _ hk
      exact KDq.EqAt.str_dict t k e1 e2.1 e3 hu1
  · rw [show its.toArray.any (fun y => decide (o = txtOf y) && (txtOf y).isSome) = its.any (fun y => decide (o = txtOf y) && (txtOf y).isSome) by simp, any_txt rv]
    exact q
end
end KIa
/-! is_row of any values. -/
namespace K01
open PySem PySem.Spec PyProof.Rows L2 KG KS KIa
/-- is_row(row, domain, length), the row a tuple of any values -/
def spRowA (K : PySem.W.Frag) : Sp := fun vs H Q _ => ∃ (r d : Addr) (xs : List V) (os : List (Option Str)) (ds : List Str), vs = [.ref r, .ref d, .int (xs.length : Nat)] ∧ SqT K H r xs ∧ W.EachIs (ItK K H) xs os ∧ SqT K H d (ds.map V.str) ∧ xs.length ≤ 1000 ∧
  ∀ H', Same H H' → Q (.bl (os.all fun o => inIt o ds)) H'
theorem same_sqL {K : PySem.W.Frag} {H H' : Hp} {a : Addr} {xs : List V} (e : Same H H') (h : SqL K H a xs) : SqL K H' a xs :=
  h.elim (fun h => .inl (h.elim (fun h => .inl (e _ _ h)) fun ⟨o, h⟩ => .inr ⟨o, e _ _ h⟩)) fun h => .inr h
theorem _root_.KIa.ItK.same {K : PySem.W.Frag} {H H' : Hp} (e : Same H H') {v : V} {o : Option Str} (h : ItK K H v o) : ItK K H' v o := by
  cases h with
  | str x => exact .str x
  | int n => exact .int n
  | bl b => exact .bl b
  | non => exact .non
  | lst h => exact .lst (same_sqL e h)
  | tup h => exact .tup (same_seqT e h)
  | dct h => exact .dct (e _ _ h)
theorem tyT {K : PySem.W.Frag} {H : Hp} {a : Addr} {xs : List V} (h : SqT K H a xs) : TyX K H (.ref a) (.type "tuple") := by
  rcases h with (h | ⟨o, h⟩) | ⟨o, its, h1, h2⟩
  · exact .base (.tup h)
  · exact .fTuple h
  · obtain ⟨h2, h3, _⟩ := h2
    exact .kTuple h2 h3
theorem its_texts {K : PySem.W.Frag} {H : Hp} : ∀ xs : List Str, W.EachIs (ItK K H) (xs.map V.str) (xs.map some)
  | [] => .nil
  | x :: xs => .cons (.str x) (its_texts xs)
theorem all_texts (xs ds : List Str) : ((xs.map some).all fun o => inIt o ds) = decide (∀ x ∈ xs, x ∈ ds) := by
  rw [Bool.eq_iff_iff, List.all_eq_true, decide_eq_true_eq]
  refine ⟨fun h x hx => ?_, fun h o ho => ?_⟩
  · have z := h (some x) (List.mem_map.mpr ⟨x, hx, rfl⟩)
    rw [inIt_some] at z
    exact of_decide_eq_true z
  · obtain ⟨x, hx, rfl⟩ := List.mem_map.mp ho
    rw [inIt_some]
    exact decide_eq_true (h x hx)
section
variable {P : Program} {w : World} {K : PySem.W.Frag} {mg : Str → Option Value} {base : Heap}
theorem ok_is_rowA (B : Bs mg) (f : FnF K mg "is_row" "is_row" s_is_row) : FnOk P w K mg base CX0 1 f.a f.d ["thing", "domain", "length"] (spRowA K) := by
  refine f.F.ok sc_is_row (fun vs H Q E h => ?_) (fun cdv A outer s H vs Q E hr h => ?_)
  · obtain ⟨r, d, xs, os, ds, rfl, _⟩ := h
    rfl
  · obtain ⟨r, d, xs, os, ds, rfl, ha, hi, hd, few, q⟩ := h
    have hu64 := hr.units
    refine ⟨_, (pss_one
      (ps_ret (pe_and (pe_callB call_isi (by rfl) B.n_isinstance (by decide +kernel) (pa_cons (pv 0) (pa_cons (pe_bltn (v := .ty "tuple") rfl B.n_tuple (by decide +kernel) rfl) pa_nil)))
        (pe_and (pe_cmpR op_eq (pe_callB call_len (by rfl) B.n_len (by decide +kernel) (pa_cons (pv 0) pa_nil)) (pv 2) (nomark _))
          (pe_one (pe_callB (cr_all rfl) (by rfl) B.n_all (by decide +kernel) (pa_cons (pe_lc (own := [("value", 3)]) (g := gName 3) (by rfl) sc_is_row.nd (pi_tup (pv 0)) (blkOk_by (own := [("value", 3)]) (N := ["thing", "domain", "length", "value"]) (sc := defScope s_is_row) (by decide +kernel))
            (fun _ _ _ _ _ => (pg_name (i := 3) sc_is_row.nd rfl (Or.inl rfl))) (fun _ _ _ _ _ => pts_nil) (fun _ _ _ _ _ => (pe_cmpR (show OpR _ (compareOp .In) (rInIt K) from op_inIt hu64) (pv 3) (pv 1) (by rfl)))) pa_nil))))))), ?_⟩
    refine ⟨_, rfl, _, _, _, _, true, rfl, .ty "tuple", tyT ha, kit_ty (by decide +kernel), true, rfl, iteT ?_⟩
    refine ⟨_, rfl, .ref r, xs.length, rfl, .inr ⟨_, ha, rfl⟩, _, rfl, rfl, true, congrArg V.bl (decide_eq_true rfl), iteT ?_⟩
    refine ⟨_, rfl, r, rfl, ⟨_, ha⟩, fun D hD => ?_⟩
    refine lc_tup (K := K) (xs := xs) (fun i H' => Same H H' ∧ H' D = some (.lst ((os.take i).map fun o => V.bl (inIt o ds)))) ⟨same_new hD, upd_same⟩ (fun i H' _ p => same_seqT p.1 ha) ?_ ?_
    · rintro i y H' hy ⟨e1, eD⟩
      obtain ⟨o, ho, it⟩ := each_get hi hy
      have il : i < xs.length := (List.getElem?_eq_some_iff.mp hy).1
      refine ⟨rfl, _, rfl, _, rfl, o, d, ds, it.same e1, rfl, same_seqT e1 hd, ?_⟩
      refine ⟨_, eD, by rw [List.length_map, List.length_take, sizeLine_eq]; omega, same_put hD e1, ?_⟩
      rw [upd_same, take_next ho, List.map_append]
      rfl
    · rintro H1 ⟨e1, eD⟩
      rw [hi.length, List.take_length] at eD
      refine ⟨D, os.map fun o => inIt o ds, rfl, SqL.of (by rw [List.map_map]; exact eD), ?_⟩
      rw [List.all_map]
      exact q _ e1
end
end K01
/-! list(zip(..)). -/
namespace KZp
open PySem
theorem zip_no_len : typeLookup (.type "zip") "__len__" = pure none := by rw [typeLookup_type, builtinLookup_eq_fast]; kernel_rfl
theorem zip_no_hint : typeLookup (.type "zip") "__length_hint__" = pure none := by rw [typeLookup_type, builtinLookup_eq_fast]; kernel_rfl
section
variable {prog : Program} {w : World} {z TI TO i1 i2 : Addr} {fp1 fp2 : List Addr} {n : Nat} {P1 P2 : Nat → Value → Prop} {St1 St2 : Nat → Heap → Prop}
/-- the pairs that a list has got -/
def Got (z TO i1 i2 L : Addr) (P1 P2 : Nat → Value → Prop) (acc : Array Value) (i : Nat) (h : Heap) : Prop := acc.size = i ∧ ∀ (j : Nat) v, acc[j]? = some v → ∃ T x1 x2, v = .ref T ∧ IsTupOf2 h T x1 x2 ∧ P1 j x1 ∧ P2 j x2 ∧ T ≠ z ∧ T ≠ TO ∧ T ≠ i1 ∧ T ≠ i2 ∧ T ≠ L
theorem Got.keep {L : Addr} {acc : Array Value} {i : Nat} {h h' : Heap} (g : Got z TO i1 i2 L P1 P2 acc i h) (k : ∀ c o, c ≠ z → c ≠ TO → c ≠ i1 → c ≠ i2 → c ≠ L → h.get? c = some o → h'.get? c = some o) : Got z TO i1 i2 L P1 P2 acc i h' :=
  ⟨g.1, fun j v e => let ⟨T, x1, x2, a, b, c, d, r1, r2, r3, r4, r5⟩ := g.2 j v e; ⟨T, x1, x2, a, k _ _ r1 r2 r3 r4 r5 b, c, d, r1, r2, r3, r4, r5⟩⟩
theorem Got.push {L T : Addr} {x1 x2 : Value} {acc : Array Value} {i : Nat} {h : Heap} (g : Got z TO i1 i2 L P1 P2 acc i h) (t : IsTupOf2 h T x1 x2) (p1 : P1 i x1) (p2 : P2 i x2) (r1 : T ≠ z) (r2 : T ≠ TO) (r3 : T ≠ i1) (r4 : T ≠ i2) (r5 : T ≠ L) : Got z TO i1 i2 L P1 P2 (acc.push (.ref T)) (i + 1) h := by
  refine ⟨by rw [Array.size_push, g.1], fun j v e => ?_⟩
  rw [Array.getElem?_push] at e
  split at e
  · rename_i q
    cases e
    rw [q, g.1]
    exact ⟨T, x1, x2, rfl, t, p1, p2, r1, r2, r3, r4, r5⟩
  · exact g.2 j v e
/-- apart from a list -/
structure Apart (z TI TO : Addr) (fp1 fp2 : List Addr) (L : Addr) : Prop where
  z : z ≠ L
  TI : TI ≠ L
  TO : TO ≠ L
  f1 : ∀ b ∈ fp1, b ≠ L
  f2 : ∀ b ∈ fp2, b ≠ L
theorem ZSt.keep {A : Around} {L : Addr} {i : Nat} {h h' : Heap} (D1 : Draws prog w A i1 fp1 n P1 St1) (D2 : Draws prog w A i2 fp2 n P2 St2) (ap : Apart z TI TO fp1 fp2 L) (st : ZSt z TI TO i1 i2 St1 St2 (fun T => T ≠ L) i h) (k : ∀ b o, b ≠ L → h.get? b = some o → h'.get? b = some o) :
    ZSt z TI TO i1 i2 St1 St2 (fun T => T ≠ L) i h' := by
  obtain ⟨hTI, s1, s2, hz⟩ := st
  refine ⟨k _ _ ap.TI hTI, D1.frame i h h' s1 fun b hb o e => k b o (ap.f1 b hb) e, D2.frame i h h' s2 fun b hb o e => k b o (ap.f2 b hb) e, ?_⟩
  rcases hz with ⟨hz, a, b, hTO⟩ | ⟨T, f, oT, hz, hT, r1, r2, r3, r4⟩
  · exact .inl ⟨k _ _ ap.z hz, a, b, k _ _ ap.TO hTO⟩
  · exact .inr ⟨T, f, oT, k _ _ ap.z hz, k _ _ r4 hT, r1, r2, r3, r4⟩
abbrev lstO (acc : Array Value) (c : Nat) : Obj := { cls := .type "list", dict := none, data := .seq acc c, slots := #[] }
theorem zip_loop {A : Around} {R : Result → Shared → Prop} {L : Addr} {res : Value} (hn : n ≤ sizeLine) (S : ZipSep2 z TI TO i1 i2 fp1 fp2) (D1 : ∀ A : Around, A.handled = none → Draws prog w A i1 fp1 n P1 St1) (D2 : ∀ A : Around, A.handled = none → Draws prog w A i2 fp2 n P2 St2) (hA : A.handled = none) (ap : Apart z TI TO fp1 fp2 L) :
    ∀ (k i : Nat) (s : Shared) (acc : Array Value) (c : Nat), n - i = k → i ≤ n → ZSt z TI TO i1 i2 St1 St2 (fun T => T ≠ L) i s.heap → TO < s.heap.objs.size → s.heap.get? L = some (lstO acc c) → Got z TO i1 i2 L P1 P2 acc i s.heap →
    (∀ h' tk acc' c', (∀ b o, b ≠ z → b ≠ TO → b ≠ i1 → b ≠ i2 → b ≠ L → s.heap.get? b = some o → h'.get? b = some o) → h'.get? L = some (lstO acc' c') → Got z TO i1 i2 L P1 P2 acc' n h' → R (.ok (.ret res)) { s with heap := h', toks := tk }) →
    codeAny (model prog w) A (.builtin "list.extend.loop" ⟨[.ref L, .ref z, res], []⟩) R s := by
  intro k
  induction k with
  | zero =>
    intro i s acc c hk hi st _ hL g hR
    obtain rfl : i = n := by omega
    refine codeAny_builtin F.entry_extend_loop ?_
    rw [Around.under_plainId F.plain_extend_loop _]
    refine wpAny_bind (m := pyNext (.ref z)) (pn_end S (D1 _ hA) (D2 _ hA) st fun h' tk kp => wpAny_pure ?_)
    have e1 := ap.f1 i1 S.mem1
    have e2 := ap.f2 i2 S.mem2
    exact hR h' tk acc c (fun b o a1 a2 a3 a4 _ e => kp b o a1 a2 a3 a4 e) (kp _ _ ap.z.symm ap.TO.symm e1.symm e2.symm hL) (g.keep fun b o a1 a2 a3 a4 _ e => kp b o a1 a2 a3 a4 e)
  | succ k ih =>
    intro i s acc c hk hi st hTO hL g hR
    have lt : i < n := by omega
    have e1 := ap.f1 i1 S.mem1
    have e2 := ap.f2 i2 S.mem2
    have lL := Heap.lt_size hL
    refine codeAny_builtin F.entry_extend_loop ?_
    rw [Around.under_plainId F.plain_extend_loop _]
    obtain ⟨hp, gg, dr, t0, os⟩ := s
    have live1 := (D1 A hA).live _ _ st.2.1
    have live2 := (D2 A hA).live _ _ st.2.2.1
    have zin : ∃ o, hp.get? z = some o := by
      rcases st.2.2.2 with ⟨hz, _⟩ | ⟨_, _, _, hz, _⟩
      · exact ⟨_, hz⟩
      · exact ⟨_, hz⟩
    have m0 : hp.objs.size ≠ z := let ⟨_, e⟩ := zin; Nat.ne_of_gt (Heap.lt_size e)
    have m1 : hp.objs.size ≠ i1 := let ⟨_, e⟩ := live1; Nat.ne_of_gt (Heap.lt_size e)
    have m2 : hp.objs.size ≠ i2 := let ⟨_, e⟩ := live2; Nat.ne_of_gt (Heap.lt_size e)
    have m3 : hp.objs.size ≠ TO := Nat.ne_of_gt hTO
    have m4 : hp.objs.size ≠ L := Nat.ne_of_gt lL
    refine wpAny_bind (m := pyNext (.ref z)) (pn_item (s := ⟨hp, gg, dr, t0, os⟩) S (D1 _ hA) (D2 _ hA) st lt lt m4 fun x1 x2 h' tk p1 p2 pr st' kp => ?_)
    have hL' : h'.get? L = some (lstO acc c) := kp _ _ ap.z.symm ap.TO.symm e1.symm e2.symm hL
    have g' : Got z TO i1 i2 L P1 P2 (acc.push (.ref hp.objs.size)) (i + 1) h' := (g.keep fun b o a1 a2 a3 a4 _ e => kp b o a1 a2 a3 a4 e).push pr p1 p2 m0 m3 m1 m2 m4
    refine wpAny_bind (m := updateSeq L (·.push (.ref hp.objs.size))) (wpAny_updateSeq hL' rfl (wpAny_pure ⟨plainId_quiet F.plain_extend_loop _, ih (i + 1) _ (acc.push (.ref hp.objs.size)) _ (by omega) lt (st'.keep (D1 A hA) (D2 A hA) ap fun b o hb e => (Heap.get?_update_other _ _ (Ne.symm hb)).trans e) ?_ (Heap.get?_update_self _ hL' rfl)
      (g'.keep fun b o _ _ _ _ a e => (Heap.get?_update_other _ _ (Ne.symm a)).trans e) fun h2 tk2 acc' c' kp2 hL2 g2 => hR h2 tk2 acc' c' (fun b o a1 a2 a3 a4 a5 e => kp2 b o a1 a2 a3 a4 a5 ((Heap.get?_update_other _ _ (Ne.symm a5)).trans (kp b o a1 a2 a3 a4 e))) hL2 g2⟩) ?_ ?_)
    · show TO < (h'.update L _).objs.size
      rw [(Heap.SameBut.update h' L _).1]
      exact Nat.lt_trans hTO (Heap.lt_size pr)
    · rw [g.1]
      omega
    · show (acc.push (.ref hp.objs.size)).size ≤ sizeLine + 1
      rw [Array.size_push, g.1]
      omega
theorem zip_extend {A : Around} {R : Result → Shared → Prop} {L : Addr} {res : Value} {s : Shared} {c : Nat} (hn : n ≤ sizeLine) (S : ZipSep2 z TI TO i1 i2 fp1 fp2) (D1 : ∀ A : Around, A.handled = none → Draws prog w A i1 fp1 n P1 St1) (D2 : ∀ A : Around, A.handled = none → Draws prog w A i2 fp2 n P2 St2) (hA : A.handled = none) (ap : Apart z TI TO fp1 fp2 L)
    (hz : IsZip s.heap z TI TO .none) (st : ZSt z TI TO i1 i2 St1 St2 (fun T => T ≠ L) 0 s.heap) (hTO : TO < s.heap.objs.size) (hL : s.heap.get? L = some (lstO #[] c))
    (hR : ∀ h' tk acc' c', (∀ b o, b ≠ z → b ≠ TO → b ≠ i1 → b ≠ i2 → b ≠ L → s.heap.get? b = some o → h'.get? b = some o) → h'.get? L = some (lstO acc' c') → Got z TO i1 i2 L P1 P2 acc' n h' → R (.ok (.ret res)) { s with heap := h', toks := tk }) :
    wpAny (model prog w) A.in1 (Builtin.List.listExtendWith (.ref L) (.ref z) res) (fun fin s' => match fin with | .done f => R (.ok f) s' | .again c' => c'.quiet = true ∧ codeAny (model prog w) A c' R s') (fun e s' => R (.error e) s') s := by
  have ty : s.TypeIs (.ref z) "zip" := ⟨_, hz, rfl⟩
  have differ : Builtin.List.listSameRef (.ref L) (.ref z) = false := by simp [Builtin.List.listSameRef, ap.z.symm]
  unfold Builtin.List.listExtendWith
  refine wpAny_bind (wpAny_typeOf ty ?_)
  simp only [differ, show (Value.type "zip" == Value.type "list") = false by decide, show (Value.type "zip" == Value.type "tuple") = false by decide, Bool.or_false, Bool.false_eq_true, if_false]
  refine wpAny_bind (wpAny_pyIter_zip hz (wpAny_bind (wpAny_holding ?_)))
  unfold Builtin.List.listLengthHint
  refine wpAny_bind (wpAny_specialOf ty zip_no_len (wpAny_bind (m := specialOf (Value.ref z) (Str.ofString "__length_hint__")) (wpAny_specialOf ty zip_no_hint (wpAny_pure ?_))))
  show wpAny _ A.in1 (rule "list.extend.makes-room" >>= fun _ => Builtin.List.listTouch (.ref L) >>= fun _ => again (.builtin "list.extend.loop" ⟨[.ref L, .ref z, res], []⟩)) _ _ _
  have hL2 := Heap.get?_update_self (Obj.mapSeq (·.push Value.none)) hL rfl
  have hL3 := Heap.get?_update_self (Obj.mapSeq (·.pop)) hL2 rfl
  have oth : ∀ b o, b ≠ L → s.heap.get? b = some o → ((s.heap.update L (Obj.mapSeq (·.push Value.none))).update L (Obj.mapSeq (·.pop))).get? b = some o := fun b o hb e => (Heap.get?_update_other _ _ (Ne.symm hb)).trans ((Heap.get?_update_other _ _ (Ne.symm hb)).trans e)
  refine wpAny_bind (wpAny_rule (wpAny_bind (m := updateSeq L (·.push .none) >>= fun _ => updateSeq L (·.pop)) (wpAny_bind (wpAny_updateSeq hL rfl (wpAny_updateSeq (hz := by seq_fits) hL2 rfl ?_)))))
  refine wpAny_pure ⟨plainId_quiet F.plain_extend_loop _, zip_loop (R := R) hn S D1 D2 hA ap n 0 _ #[] _ rfl (Nat.zero_le _) (st.keep (D1 A hA) (D2 A hA) ap oth) ?_ hL3 ⟨rfl, fun j v e => by simp at e⟩ fun h' tk acc' c' k a b => hR h' tk acc' c' (fun b o a1 a2 a3 a4 a5 e => k b o a1 a2 a3 a4 a5 (oth b o a5 e)) a b⟩
  show TO < ((s.heap.update L _).update L _).objs.size
  rw [(Heap.SameBut.update _ L _).1, (Heap.SameBut.update _ L _).1]
  exact hTO
/-- list(z), z a zip just made -/
theorem call_list_zip {A : Around} {E : Value → Shared → Prop} {s : Shared} {Q : Value → Shared → Prop} (hn : n ≤ sizeLine) (S : ZipSep2 z TI TO i1 i2 fp1 fp2) (D1 : ∀ A : Around, A.handled = none → Draws prog w A i1 fp1 n P1 St1) (D2 : ∀ A : Around, A.handled = none → Draws prog w A i2 fp2 n P2 St2) (hA : A.handled = none)
    (hz : IsZip s.heap z TI TO .none) (hTI : IsTupOf2 s.heap TI (.ref i1) (.ref i2)) (hTO : ∃ a b, IsTupOf2 s.heap TO a b) (s1 : St1 0 s.heap) (s2 : St2 0 s.heap) (f1 : ∀ b ∈ fp1, b < s.heap.objs.size) (f2 : ∀ b ∈ fp2, b < s.heap.objs.size)
    (hQ : ∀ h' tk acc c, (∀ b o, b ≠ z → b ≠ TO → b ≠ i1 → b ≠ i2 → s.heap.get? b = some o → h'.get? b = some o) → h'.get? s.heap.objs.size = some (lstO acc c) → Got z TO i1 i2 s.heap.objs.size P1 P2 acc n h' → Q (.ref s.heap.objs.size) { s with heap := h', toks := tk }) :
    wpAny (model prog w) A (call (.type "list") [.ref z]) Q E s := by
  obtain ⟨a, b, hTO⟩ := hTO
  have ap : Apart z TI TO fp1 fp2 s.heap.objs.size := ⟨Nat.ne_of_lt (Heap.lt_size hz), Nat.ne_of_lt (Heap.lt_size hTI), Nat.ne_of_lt (Heap.lt_size hTO), fun b hb => Nat.ne_of_lt (f1 b hb), fun b hb => Nat.ne_of_lt (f2 b hb)⟩
  have up : ∀ b o, s.heap.get? b = some o → (s.heap.push { cls := .type "list", data := .seq #[] }).get? b = some o := fun b o e => Heap.get?_push_of_some _ e
  have st : ZSt z TI TO i1 i2 St1 St2 (fun T => T ≠ s.heap.objs.size) 0 (s.heap.push { cls := .type "list", data := .seq #[] }) :=
    ⟨up _ _ hTI, (D1 A hA).frame 0 _ _ s1 fun b _ o e => up b o e, (D2 A hA).frame 0 _ _ s2 fun b _ o e => up b o e, .inl ⟨up _ _ hz, a, b, up _ _ hTO⟩⟩
  have hL : (s.heap.push { cls := .type "list", data := .seq #[] }).get? s.heap.objs.size = some (lstO #[] 0) := Heap.get?_push_size _ rfl
  refine callType_codes (Q₁ := fun obj t => obj = .ref s.heap.objs.size ∧ t = { s with heap := s.heap.push { cls := .type "list", data := .seq #[] } }) F.called_list (F.typeCall_list_1 _) F.entry_list_init (code_list_new _ ⟨rfl, rfl⟩) fun obj t ht => ?_
  obtain ⟨rfl, rfl⟩ := ht
  refine ⟨⟨_, hL, rfl⟩, F.args_list_init_2 _ _, ?_⟩
  show wpAny _ A.in1.in1 (do let old ← Builtin.List.listItems (.ref s.heap.objs.size); Builtin.List.listUpdate (.ref s.heap.objs.size) (fun _ => #[]); letGo old.toList.reverse; Builtin.List.listExtendWith (.ref s.heap.objs.size) (.ref z) .none) _ _ _
  unfold Builtin.List.listItems
  refine wpAny_bind (wpAny_bind (m := seqItems? (.ref s.heap.objs.size)) (wpAny_seqItems hL rfl (wpAny_pure ?_)))
  have hL2 := Heap.get?_update_self (Obj.mapSeq (fun _ => (#[] : Array Value))) hL rfl
  have oth : ∀ b o, b ≠ s.heap.objs.size → (s.heap.push { cls := .type "list", data := .seq #[] }).get? b = some o → ((s.heap.push { cls := .type "list", data := .seq #[] }).update s.heap.objs.size (Obj.mapSeq (fun _ => (#[] : Array Value)))).get? b = some o := fun b o hb e => (Heap.get?_update_other _ _ (Ne.symm hb)).trans e
  refine wpAny_bind (m := updateSeq s.heap.objs.size (fun _ => #[])) (wpAny_updateSeq hL rfl (wpAny_bind (m := letGo (#[] : Array Value).toList.reverse) (wpAny_letGo ?_)))
  refine zip_extend (A := A.in1) hn S D1 D2 hA ap (oth _ _ ap.z (up _ _ hz)) (st.keep (D1 A hA) (D2 A hA) ap oth) ?_ hL2 fun h' tk acc' c' k a b => ⟨rfl, hQ h' tk acc' c' (fun b o a1 a2 a3 a4 e => k b o a1 a2 a3 a4 (Nat.ne_of_lt (Heap.lt_size e)) (oth b o (Nat.ne_of_lt (Heap.lt_size e)) (up b o e))) a b⟩
  show TO < ((s.heap.push _).update _ _).objs.size
  rw [(Heap.SameBut.update _ _ _).1]
  exact Heap.lt_size (up _ _ hTO)
end
end KZp
/-! dict(list(zip(l, u))), l a list of rows of texts, u a tuple. -/
namespace KDz
open PySem PySem.Spec PyProof.Rows L2
def tDictLZ (K : PySem.W.Frag) (t1 t2 : TE) : TE := fun σ H Q => t1 σ H fun x H1 => t2 σ H1 fun y H2 => ∃ (a b : Addr) (ks : List (Addr × List Str)) (vs : List V), x = .ref a ∧ y = .ref b ∧ SqL K H2 a (ks.map fun p => V.ref p.1) ∧ SqT K H2 b vs ∧
  (∀ p ∈ ks, H2 p.1 = some (.tup (p.2.map V.str))) ∧ ks.length = vs.length ∧ (ks.map (·.2)).Nodup ∧ ks.length ≤ 100000 ∧ ∀ d, H2 d = none → Q (.ref d) (upd H2 d (.dT (dtOf ks vs)))
/-- what is asked of the two -/
def ZipInL (K : PySem.W.Frag) (Q : VK) : List V → Hp → Prop
  | [x, y], H2 => ∃ (a b : Addr) (ks : List (Addr × List Str)) (vs : List V), x = .ref a ∧ y = .ref b ∧ SqL K H2 a (ks.map fun p => V.ref p.1) ∧ SqT K H2 b vs ∧
    (∀ p ∈ ks, H2 p.1 = some (.tup (p.2.map V.str))) ∧ ks.length = vs.length ∧ (ks.map (·.2)).Nodup ∧ ks.length ≤ 100000 ∧ ∀ d, H2 d = none → Q (.ref d) (upd H2 d (.dT (dtOf ks vs)))
  | _, _ => False
/-- the address of the j-th item -/
def refAt (acc : Array Value) (j : Nat) : Addr := match acc[j]? with
  | some (.ref T) => T
  | _ => 0
theorem refAt_eq {acc : Array Value} {j : Nat} {T : Addr} (h : acc[j]? = some (.ref T)) : refAt acc j = T := by
  unfold refAt
  rw [h]
section
variable {X : Cx} {e1 e2 : Expr} {t1 t2 : TE} {p p0 p1 p2 p3 pos : Pos}
theorem pe_dictLZ (ha : PA X [e1, e2] (tCons t1 (tCons t2 tNil))) (gd : Gl X "dict") (md : X.mg "dict" = none) (gl : Gl X "list") (ml : X.mg "list" = none) (gz : Gl X "zip") (mz : X.mg "zip" = none) (hr : Room 3 X.A)
    (he00 : starEach [Expr.Call (.Name "list" p0) [.Call (.Name "zip" p1) [e1, e2] [] p2] [] p3] X.env = (false, eval (.Call (.Name "list" p0) [.Call (.Name "zip" p1) [e1, e2] [] p2] [] p3) X.env) :: starEach [] X.env := by rfl)
    (he0 : starEach [Expr.Call (.Name "zip" p1) [e1, e2] [] p2] X.env = (false, eval (.Call (.Name "zip" p1) [e1, e2] [] p2) X.env) :: starEach [] X.env := by rfl)
    (he : starEach [e1, e2] X.env = (false, eval e1 X.env) :: starEach [e2] X.env := by rfl) (hpl : (backTo p2 (starEach [e2] X.env)).any (·.1) = false := by rfl) :
    PE X (.Call (.Name "dict" p) [.Call (.Name "list" p0) [.Call (.Name "zip" p1) [e1, e2] [] p2] [] p3] [] pos) (tDictLZ X.K t1 t2) := by
  refine ⟨fun pins s σ H Q I h => ?_⟩
  have h0 : (tCons t1 (tCons t2 tNil)) σ H (ZipInL X.K Q) := h
  refine wpAny_Call_Name_kw (ld_blt I gd md rfl ?_ (by decide) (by decide))
  refine PyProof.Rows.callWith_type1 ?_ he00 rfl
  rw [he00]
  refine Calls.spliced_cons (wpAny_Call_Name_kw (ld_blt I gl ml rfl ?_ (by decide) (by decide)))
  refine PyProof.Rows.callWith_type1 ?_ he0 rfl
  rw [he0]
  refine Calls.spliced_cons (wpAny_Call_Name_kw (ld_blt I gz mz rfl ?_ (by decide) (by decide)))
  refine PyProof.Rows.callWith_type1 (thn (ha.run p2 pins s σ H _ I h0) fun us s1 ⟨vs, H1, I1, r1, q1⟩ => ?_) he hpl
  obtain ⟨x, y, rfl⟩ : ∃ x y, vs = [x, y] := by
    match vs, q1 with
    | [x, y], _ => exact ⟨x, y, rfl⟩
  obtain ⟨a, b, ks, vs, rfl, rfl, sa, sb, hk, len, nd, few, q⟩ := q1
  obtain ⟨u, v, rfl, ru, rv⟩ := vals2 r1
  obtain rfl : u = Value.ref a := ru
  obtain rfl : v = Value.ref b := rv
  obtain ⟨ia, va, pa, _⟩ := I1.list sa
  obtain ⟨ib, vb, pb, _⟩ := I1.tuple sb
  have pa := pa.isList
  have la := va.length
  have lb := vb.length
  rw [List.length_map] at la
  have lta : a < s1.heap.objs.size := let ⟨_, e, _⟩ := pa; Heap.lt_size e
  have ltb : b < s1.heap.objs.size := let ⟨_, e, _⟩ := pb; Heap.lt_size e
  refine zip_begins2 (begins_list a ia.toArray) (begins_tuple b ib.toArray) pa pb fun h' z1 z2 z3 z4 z5 _ kp => ?_
  refine Calls.spliced_nil ?_
  have S := zip_sep2 (N := s1.heap.objs.size) (fp1 := [a]) (fp2 := [b]) (by simpa using lta) (by simpa using ltb)
  have hd : X.A.handled = none := hr.hd
  have lu : ks.length = ib.length := by omega
  have old : ∀ {c : Addr} {o : Obj}, s1.heap.get? c = some o → c < s1.heap.objs.size := fun e => Heap.lt_size e
  have off : ∀ {c : Addr}, c < s1.heap.objs.size → c ≠ s1.heap.objs.size + 4 ∧ c ≠ s1.heap.objs.size + 3 ∧ c ≠ s1.heap.objs.size ∧ c ≠ s1.heap.objs.size + 1 := fun {c} l =>
    ⟨Nat.ne_of_lt (Nat.lt_of_lt_of_le l (Nat.le_add_right _ _)), Nat.ne_of_lt (Nat.lt_of_lt_of_le l (Nat.le_add_right _ _)), Nat.ne_of_lt l, Nat.ne_of_lt (Nat.lt_of_lt_of_le l (Nat.le_add_right _ _))⟩
  have sz : s1.heap.objs.size ≤ h'.objs.size := Nat.le_of_lt (Nat.lt_of_le_of_lt (Nat.le_add_right _ 4) (Heap.lt_size z1))
  have n16 : ia.toArray.size ≤ sizeLine := by
    rw [List.size_toArray, sizeLine_eq]
    omega
  refine KZp.call_list_zip (n := ia.toArray.size) (St1 := fun i h => h.IsListIter s1.heap.objs.size a i ∧ h.IsList a ia.toArray) (St2 := fun i h => h.IsTupleIter (s1.heap.objs.size + 1) b i ∧ h.IsTuple b ib.toArray) (P1 := fun i v => ia.toArray[i]? = some v) (P2 := fun i v => ib.toArray[i]? = some v) n16 S (fun A hA => Draws.list hA s1.heap.objs.size a (Nat.ne_of_lt lta) ia.toArray)
    (fun A hA => by
      have D := Draws.tuple (prog := X.prog) (w := X.w) hA (s1.heap.objs.size + 1) b (Nat.ne_of_lt (Nat.lt_succ_of_lt ltb)) ib.toArray
      rw [show ib.toArray.size = ia.toArray.size by rw [List.size_toArray, List.size_toArray]; omega] at D
      exact D)
    hd z1 z2 ⟨_, _, z3⟩ ⟨⟨_, z4, rfl, rfl⟩, pa.at fun o e => kp _ _ e⟩ ⟨⟨_, z5, rfl, rfl⟩, pb.keeps kp⟩
    (fun c hc => by
      rcases List.mem_cons.mp hc with rfl | hc
      · exact Heap.lt_size z4
      · rw [List.mem_singleton.mp hc]
        exact Nat.lt_of_lt_of_le lta sz)
    (fun c hc => by
      rcases List.mem_cons.mp hc with rfl | hc
      · exact Heap.lt_size z5
      · rw [List.mem_singleton.mp hc]
        exact Nat.lt_of_lt_of_le ltb sz)
    fun g tk acc c kg gL got => ?_
  refine Calls.spliced_nil ?_
  have kept0 : ∀ c o, s1.heap.get? c = some o → g.get? c = some o := fun c o e => by
    obtain ⟨o1, o2, o3, o4⟩ := off (old e)
    exact kg c o o1 o2 o3 o4 (kp c o e)
  have keys : ∀ x ∈ rawOf ks ib, ∃ p ∈ ks, x.1 = entK p.2 ∧ x.2.1 = p.1 := fun x hx => by
    obtain ⟨r, hr, rfl⟩ := List.mem_map.mp hx
    exact ⟨r.1, (List.of_mem_zip hr).1, rfl, rfl⟩
  have key : ∀ p ∈ ks, (tupleKind (mixKind X.prog X.w)).is s1.heap (entK p.2) p.1 := fun p hp => key_of I1.hok (by rw [entK_kV]; exact hk p hp)
  have keyLt : ∀ p ∈ ks, p.1 < s1.heap.objs.size := fun p hp => let ⟨_, _, _, e, _⟩ := key p hp; old e
  have sg : s1.heap.objs.size ≤ g.objs.size := Nat.le_trans sz (Nat.le_of_lt (Heap.lt_size gL))
  have zl : (ia.zip ib).length = ia.length := by
    rw [List.length_zip]
    omega
  refine call_dict_pairsH (knd := tupleKind (mixKind X.prog X.w)) (ps := rawOf ks ib) (PairArg.list (prog := X.prog) (w := X.w) h'.objs.size acc (refAt acc) (ia.zip ib)) hd ?_ ⟨⟨_, c, gL, rfl, rfl, rfl⟩, ?_, fun j k v e => ?_⟩ ⟨?_, fun i k v e => ?_⟩ (fun g2 k2 x hx => ?_) ?_ fun g2 tk2 hg k2 => ?_
  · exact hr.in1.in1.units0
  · rw [got.1, zl, List.size_toArray]
  · obtain ⟨e1, e2⟩ := List.getElem?_zip_eq_some.mp e
    have lj : j < acc.size := by
      rw [got.1, List.size_toArray]
      exact (List.getElem?_eq_some_iff.mp e1).1
    obtain ⟨T, x1, x2, ev, tp, q1, q2, _⟩ := got.2 j _ (Array.getElem?_eq_getElem lj)
    have ev : acc[j]? = some (.ref T) := by rw [Array.getElem?_eq_getElem lj, ev]
    have g1 : ia[j]? = some x1 := by simpa using q1
    have g2 : ib[j]? = some x2 := by simpa using q2
    rw [e1] at g1
    rw [e2] at g2
    cases g1
    cases g2
    rw [refAt_eq ev]
    exact ⟨ev, .inl ⟨_, tp, rfl, _, rfl⟩⟩
  · rw [rawOf_len lu, zl]
    omega
  · obtain ⟨f1, f2⟩ := List.getElem?_zip_eq_some.mp e
    have f1 : ia[i]? = some k := f1
    have f2 : ib[i]? = some v := f2
    have li : i < ks.length := by
      have := (List.getElem?_eq_some_iff.mp f1).1
      omega
    have g0 : ks[i]? = some ks[i] := List.getElem?_eq_getElem li
    obtain ⟨u, hu, ru⟩ := va.get (show (ks.map fun p => V.ref p.1)[i]? = some (V.ref ks[i].1) by rw [List.getElem?_map, g0]; rfl)
    rw [f1] at hu
    obtain rfl : k = u := Option.some.inj hu
    refine ⟨entK ks[i].2, ks[i].1, ?_, ru⟩
    show ((ks.zip ib).map fun q => (entK q.1.2, q.1.1, q.2))[i]? = _
    rw [List.getElem?_map, (List.getElem?_zip_eq_some (z := (ks[i], v))).mpr ⟨g0, f2⟩]
    rfl
  · obtain ⟨p, hp, e1, e2⟩ := keys x hx
    rw [e1, e2]
    have lp := keyLt p hp
    exact keep_key (fun o e => k2 _ _ (Nat.ne_of_lt (Nat.lt_of_lt_of_le lp sg)) (by simp) (kept0 _ _ e)) (key p hp)
  · rw [zl, sizeLine_eq]
    omega
  · have ndk : ((rawOf ks ib).map (·.1)).Nodup := by
      rw [rawOf_keys lu, show (ks.map fun p => entK p.2) = (ks.map (·.2)).map entK by rw [List.map_map]; rfl]
      exact List.Pairwise.map _ (fun _ _ ne z => ne (entK_inj z)) nd
    rw [storedAllH_nil_of_nodup _ ndk] at hg
    obtain ⟨o, es, ep, g1, g2', g3, g4, _, g5⟩ := hg
    have kept : ∀ c o, s1.heap.get? c = some o → g2.get? c = some o := fun c o e => k2 c o (by simp) (kept0 c o e)
    have fresh : H1 g.objs.size = none := I1.hok.fresh sg
    refine ⟨.ref g.objs.size, upd H1 g.objs.size (.dT (dtOf ks vs)), I1.laid (t' := tk2) kept sg ?_, rfl, q _ fresh⟩
    refine ⟨?_, beq_eq_false_iff_ne.mpr (Nat.ne_of_gt (Nat.lt_of_lt_of_le I1.big sg)), rawOf ks ib, kt_of (by omega) vb fun p hp => ?_, o, es, ep, g1, g2', g3, g4, g5⟩
    · unfold dtOf
      rw [List.length_zip, List.length_map, sizeLine_eq]
      omega
    · rw [upd_ne (Nat.ne_of_lt (Nat.lt_of_lt_of_le (keyLt p hp) sg))]
      exact hk p hp
end
end KDz
/-! dict(pairs), the keys rows of texts. -/
namespace KDz
open PySem PySem.Spec PyProof.Rows L2
/-- pairs (row, value) -/
inductive PairsT (K : PySem.W.Frag) (H : Hp) : List Addr → List (Addr × List Str) → List V → Prop
  | nil : PairsT K H [] [] []
  | cons {p : Addr} {k : Addr × List Str} {v : V} {ps : List Addr} {ks : List (Addr × List Str)} {vs : List V} : SqT K H p [.ref k.1, v] → PairsT K H ps ks vs → PairsT K H (p :: ps) (k :: ks) (v :: vs)
theorem PairsT.len {K : PySem.W.Frag} {H : Hp} : ∀ {ps : List Addr} {ks : List (Addr × List Str)} {vs : List V}, PairsT K H ps ks vs → ps.length = ks.length ∧ ks.length = vs.length
  | _, _, _, .nil => ⟨rfl, rfl⟩
  | _, _, _, .cons _ t => by
    obtain ⟨a, b⟩ := t.len
    exact ⟨congrArg (· + 1) a, congrArg (· + 1) b⟩
theorem PairsT.snoc {K : PySem.W.Frag} {H : Hp} {p : Addr} {k : Addr × List Str} {v : V} (h : SqT K H p [.ref k.1, v]) : ∀ {ps : List Addr} {ks : List (Addr × List Str)} {vs : List V}, PairsT K H ps ks vs → PairsT K H (ps ++ [p]) (ks ++ [k]) (vs ++ [v])
  | _, _, _, .nil => .cons h .nil
  | _, _, _, .cons a t => .cons a (t.snoc h)
section
variable {X : Cx} {pins : List (Addr × Obj)} {σ : L2.St} {H : Hp} {s : Shared}
theorem PairsT.vals (I : Inv X pins σ H s) : ∀ {ps : List Addr} {ks : List (Addr × List Str)} {vs : List V}, PairsT X.K H ps ks vs → ∃ us : List Value, Vals vs us ∧ ∀ (i : Nat) (p : Addr), ps[i]? = some p → ∃ (k : Addr × List Str) (u : Value), ks[i]? = some k ∧ us[i]? = some u ∧ IsTup s.heap p #[.ref k.1, u]
  | _, _, _, .nil => ⟨[], .nil, fun i p e => by simp at e⟩
  | _, _, _, .cons (k := k) (v := v) h t => by
    obtain ⟨us, r, q⟩ := t.vals I
    obtain ⟨its, rv, pl, _⟩ := I.tuple h
    obtain ⟨u1, u2, rfl, e1, e2⟩ := vals2 rv
    obtain rfl : u1 = Value.ref k.1 := e1
    refine ⟨u2 :: us, .cons e2 r, fun i p e => ?_⟩
    cases i with
    | zero =>
      cases e
      exact ⟨k, u2, rfl, rfl, pl⟩
    | succ i => exact q i p e
/-- dict(pairs) -/
theorem call_dictPT (hd : X.A.handled = none) (hr : Room 3 X.A) : CallR X (.type "dict") (fun xs H Q => ∃ (a : Addr) (ps : List Addr) (ks : List (Addr × List Str)) (vs : List V), xs = [.ref a] ∧ SqL X.K H a (ps.map V.ref) ∧ PairsT X.K H ps ks vs ∧
    (∀ p ∈ ks, H p.1 = some (.tup (p.2.map V.str))) ∧ (ks.map (·.2)).Nodup ∧ ks.length ≤ 100000 ∧ ∀ d, H d = none → Q (.ref d) (upd H d (.dT (dtOf ks vs)))) := by
  intro pins s σ H xs us0 Q I r h
  obtain ⟨a, ps, ks, vs, rfl, hl, pt, hk, nd, few, q⟩ := h
  obtain ⟨u0, rfl, ru⟩ := vals1 r
  obtain rfl : u0 = Value.ref a := ru
  obtain ⟨l1, l2⟩ := pt.len
  obtain ⟨us, vu, pq⟩ := pt.vals I
  have l3 := vu.length
  obtain ⟨its, rv, pl, _⟩ := I.list hl
  have ei := refs_at rv
  subst ei
  obtain ⟨o, n, ho, hc, hdc, hdat⟩ := pl
  have lu : ks.length = us.length := by omega
  have old : ∀ {c : Addr} {o : Obj}, s.heap.get? c = some o → c < s.heap.objs.size := fun e => Heap.lt_size e
  have keys : ∀ x ∈ rawOf ks us, ∃ p ∈ ks, x.1 = entK p.2 ∧ x.2.1 = p.1 := fun x hx => by
    obtain ⟨r, hr, rfl⟩ := List.mem_map.mp hx
    exact ⟨r.1, (List.of_mem_zip hr).1, rfl, rfl⟩
  have key : ∀ p ∈ ks, (tupleKind (mixKind X.prog X.w)).is s.heap (entK p.2) p.1 := fun p hp => key_of I.hok (by rw [entK_kV]; exact hk p hp)
  have keyLt : ∀ p ∈ ks, p.1 < s.heap.objs.size := fun p hp => let ⟨_, _, _, e, _⟩ := key p hp; old e
  have zl : ((ks.map fun p => Value.ref p.1).zip us).length = ks.length := by
    rw [List.length_zip, List.length_map]
    omega
  refine call_dict_pairsH (knd := tupleKind (mixKind X.prog X.w)) (ps := rawOf ks us) (PairArg.list (prog := X.prog) (w := X.w) a (ps.map Value.ref).toArray (fun j => ps.getD j 0) ((ks.map fun p => Value.ref p.1).zip us)) hd hr.in1.in1.units0 ⟨⟨o, n, ho, hc, hdc, hdat⟩, ?_, fun j k v e => ?_⟩ ⟨?_, fun i k v e => ?_⟩ (fun g kg x hx => ?_) ?_ fun g tk hg kg => ?_
  · rw [List.size_toArray, List.length_map, zl]
    omega
  · obtain ⟨e1, e2⟩ := List.getElem?_zip_eq_some.mp e
    have e1 : (ks.map fun p => Value.ref p.1)[j]? = some k := e1
    have e2 : us[j]? = some v := e2
    have lj : j < ps.length := by
      have := (List.getElem?_eq_some_iff.mp e2).1
      omega
    have gp : ps[j]? = some ps[j] := List.getElem?_eq_getElem lj
    obtain ⟨k', u', g1, g2, tp⟩ := pq j _ gp
    rw [List.getElem?_map, g1] at e1
    rw [e2] at g2
    cases e1
    cases g2
    have gd : ps.getD j 0 = ps[j] := by rw [List.getD_eq_getElem?_getD, gp]; rfl
    refine ⟨?_, .inl ?_⟩
    · show (ps.map Value.ref).toArray[j]? = some (.ref (ps.getD j 0))
      rw [gd]
      simp [gp]
    · show s.heap.IsTuple (ps.getD j 0) _
      rw [gd]
      exact tp
  · rw [rawOf_len lu, zl]
  · obtain ⟨f1, f2⟩ := List.getElem?_zip_eq_some.mp e
    have f1 : (ks.map fun p => Value.ref p.1)[i]? = some k := f1
    have f2 : us[i]? = some v := f2
    have li : i < ks.length := by
      have := (List.getElem?_eq_some_iff.mp f2).1
      omega
    have g0 : ks[i]? = some ks[i] := List.getElem?_eq_getElem li
    rw [List.getElem?_map, g0] at f1
    cases f1
    refine ⟨entK ks[i].2, ks[i].1, ?_, rfl⟩
    show ((ks.zip us).map fun q => (entK q.1.2, q.1.1, q.2))[i]? = _
    rw [List.getElem?_map, (List.getElem?_zip_eq_some (z := (ks[i], v))).mpr ⟨g0, f2⟩]
    rfl
  · obtain ⟨p, hp, e1, e2⟩ := keys x hx
    rw [e1, e2]
    exact keep_key (fun o e => kg _ _ (Nat.ne_of_lt (keyLt p hp)) (by simp) e) (key p hp)
  · rw [zl, sizeLine_eq]
    omega
  · have ndk : ((rawOf ks us).map (·.1)).Nodup := by
      rw [rawOf_keys lu, show (ks.map fun p => entK p.2) = (ks.map (·.2)).map entK by rw [List.map_map]; rfl]
      exact List.Pairwise.map _ (fun _ _ ne z => ne (entK_inj z)) nd
    rw [storedAllH_nil_of_nodup _ ndk] at hg
    obtain ⟨o, es, ep, g1, g2, g3, g4, _, g5⟩ := hg
    have fresh : H s.heap.objs.size = none := I.hok.fresh (Nat.le_refl _)
    refine ⟨.ref s.heap.objs.size, upd H s.heap.objs.size (.dT (dtOf ks vs)), I.laid (t' := tk) (fun c o e => kg c o (by simp) e) (Nat.le_refl _) ?_, rfl, q _ fresh⟩
    refine ⟨?_, beq_eq_false_iff_ne.mpr (Nat.ne_of_gt I.big), rawOf ks us, kt_of (by omega) vu fun p hp => ?_, o, es, ep, g1, g2, g3, g4, g5⟩
    · unfold dtOf
      rw [List.length_zip, List.length_map, sizeLine_eq]
      omega
    · rw [upd_ne (Nat.ne_of_lt (keyLt p hp))]
      exact hk p hp
end
end KDz
/-! _law_names. -/
namespace K01
open PySem PySem.Spec PyProof.Rows L2 KG KS KA
abbrev s__law_names : Stmt := top 33
def pool : List Str := ["a", "ab", "b", "closure", "maybe", "no", "row", "steps", "values", "yes", "zzzzzzzz"]
theorem pool_len : pool.length = 11 := by decide +kernel
theorem pool_ok : ∀ x ∈ pool, nameOk x = true := by decide +kernel
theorem pool_nd : pool.Nodup := by decide +kernel
theorem rising_asc : ∀ (l : List Str) (p : Str), risingS p l = true → (p :: l).Nodup → AscT (p :: l)
  | [], p, _, _ => List.pairwise_singleton _ _
  | x :: r, p, h, nd => by
    have h1 : (!ltCps x.cps.toList p.cps.toList && risingS x r) = true := h
    rw [Bool.and_eq_true] at h1
    have nd2 := (List.nodup_cons.mp nd).2
    have ne : p ≠ x := fun e => (List.nodup_cons.mp nd).1 (by rw [e]; exact List.mem_cons_self)
    have ih := rising_asc r x h1.2 nd2
    have lt : ltT p x = true := by
      cases e : ltT p x with
      | true => rfl
      | false =>
        refine absurd (ltT_total e ?_) ne
        have z : W.dataLt (.str x) (.str p) = ltCps x.cps.toList p.cps.toList := (W.dataLt_str _ _).trans (lt_meets _ _)
        show W.dataLt (.str x) (.str p) = false
        rw [z]
        simpa using h1.1
    refine List.pairwise_cons.mpr ⟨fun y hy => ?_, ih⟩
    rcases List.mem_cons.mp hy with e | hy
    · rw [e]
      exact lt
    · exact lex_trans _ _ _ lt (List.rel_of_pairwise_cons ih hy)
theorem sorted_asc {l : List Str} (h : sortedS l = true) (nd : l.Nodup) : AscT l := by
  cases l with
  | nil => exact .nil
  | cons x r => exact rising_asc r x h nd
theorem erase_map {α β : Type} (f : α → β) (xs : List α) (k : Nat) : (xs.map f).eraseIdx k = (xs.eraseIdx k).map f := by
  rw [List.eraseIdx_eq_take_drop_succ, List.eraseIdx_eq_take_drop_succ, List.map_append, List.map_take, List.map_drop]
theorem erase_perm {α : Type} {xs ys : List α} {k : Nat} (h : k < xs.length) : (xs.eraseIdx k ++ (ys ++ [xs[k]])).Perm (xs ++ ys) := by
  have e : xs = xs.take k ++ xs[k] :: xs.drop (k + 1) := by rw [List.getElem_cons_drop, List.take_append_drop]
  have p1 : (xs ++ ys).Perm (xs[k] :: (xs.eraseIdx k) ++ ys) := by
    rw [List.eraseIdx_eq_take_drop_succ]
    have p2 : xs.Perm (xs[k] :: (xs.take k ++ xs.drop (k + 1))) := (List.Perm.of_eq e).trans List.perm_middle
    exact p2.append_right ys
  refine List.Perm.trans ?_ p1.symm
  rw [← List.append_assoc]
  exact List.perm_append_comm
/-- len(x), K said -/
abbrev rLen (K : PySem.W.Frag) : List V → Hp → VK → Prop := fun xs H Q => ∃ x n, xs = [x] ∧ LenV K x H n ∧ Q (.int (n : Nat)) H
/-- so many distinct names, ascending -/
def spNames2 : Sp := fun vs H Q _ => ∃ (d l : Addr) (m k : Nat), vs = [.ref d, .int (m : Nat)] ∧ DeckAt H d l k ∧ m ≤ 11 ∧ k + m < 1000000000 ∧
  ∀ (p : Addr) (ds : List Str) (H' : Hp), H p = none → DeckAt H' d l (k + m) → Off d l H H' → H' p = some (.tup (ds.map V.str)) → ds.length = m → (∀ x ∈ ds, x ∈ pool) → AscT ds → Q (.ref p) H'
section
variable {P : Program} {w : World} {K : PySem.W.Frag} {mg : Str → Option Value} {base : Heap}
theorem sc__law_names : FnScope ["_law_deck_here", "_law_many", "_law_pool", "_law_k"] ["_law_deck_here", "_law_many"] (defScope s__law_names) := ⟨rfl, rfl, rfl, by decide +kernel, rfl, by decide +kernel, by decide +kernel⟩
theorem ok__law_names (B : Bs mg) (f : FnF K mg "_law_names" "_law_names" s__law_names) (fd : FnF K mg "_law_draw" "_law_draw" s__law_draw) : FnOk P w K mg base CX0 2 f.a f.d ["_law_deck_here", "_law_many"] spNames2 := by
  have G := ok__law_draw (P := P) (w := w) (base := base) B.toBi fd
  have bd : L2.Binds K fd.d ["_law_deck_here", "_law_many"] [] := fd.F.binds fun _ _ _ _ _ _ us hl => match us, hl with | [_, _], _ => rfl
  refine f.F.ok sc__law_names (fun vs H Q E h => ?_) (fun cdv A outer s H vs Q E hr h => ?_)
  · obtain ⟨d, l, m, k, rfl, _⟩ := h
    rfl
  · obtain ⟨d, l, m, k, rfl, D, hm, hk, q⟩ := h
    have hr1 : Room 1 _ := hr.mono (by omega)
    refine ⟨_, (pss_cons
      (ps_set (i := 2) sc__law_names.nd rfl (Or.inr rfl) (pe_lst (pa_cons pe_str (pa_cons pe_str (pa_cons pe_str (pa_cons pe_str (pa_cons pe_str (pa_cons pe_str (pa_cons pe_str (pa_cons pe_str (pa_cons pe_str (pa_cons pe_str (pa_cons pe_str pa_nil)))))))))))))
    (pss_one
      (ps_ret (pe_callTy call_tuple_of (by rfl) B.n_tuple (by decide +kernel) (pa_cons (pe_callB cr_sortedS (by rfl) B.n_sorted (by decide +kernel) (pa_cons (pe_lc (own := [("_law_k", 3)]) (g := gName 3) (by rfl) sc__law_names.nd (pi_range1 rfl B.n_range (pa_cons (pv 1) pa_nil)) (blkOk_by (own := [("_law_k", 3)]) (N := ["_law_deck_here", "_law_many", "_law_pool", "_law_k"]) (sc := defScope s__law_names) (by decide +kernel))
        (fun _ _ _ _ _ => (pg_name (i := 3) sc__law_names.nd rfl (Or.inl rfl))) (fun _ _ _ _ _ => pts_nil)
        (fun _ _ _ _ _ => (show PE _ _ (tBM K "list" rPopAt (tVar 2) _) from pe_bm PySem.F.plainAttrs_list PySem.F.slot_list_pop PySem.F.type_list_pop mt_popAt (pv 2) (pa_cons (pe_call G hr1 rfl fd.g fd.F.kp bd .nil pass0 (pa_cons (pv 0) (pa_cons (pe_callB (show CallR _ (.builtin "len") (rLen K) from call_len) (by rfl) B.n_len (by decide +kernel) (pa_cons (pv 2) pa_nil)) pa_nil))) pa_nil)))) pa_nil)) pa_nil))))), ?_⟩
    refine ⟨by show 11 ≤ sizeLine; decide, fun L hL => ?_⟩
    obtain ⟨cs0, mm0, n0, hd0, hl0, _⟩ := D.ex
    have nLd : L ≠ d := (ne_of_none hd0 hL).symm
    have nLl : L ≠ l := (ne_of_none hl0 hL).symm
    have e0 : Same H (upd H L (.lst (pool.map V.str))) := same_new hL
    refine ⟨_, rfl, (m : Int), rfl, by omega, by omega, fun g hg => ?_⟩
    have nLg : L ≠ g := ne_of_none upd_same hg
    have gH : H g = none := by rw [upd_ne nLg.symm] at hg; exact hg
    have ngd : g ≠ d := (ne_of_none hd0 gH).symm
    have ngl : g ≠ l := (ne_of_none hl0 gH).symm
    have e1 : Same H (upd (upd H L (.lst (pool.map V.str))) g (.lst [])) := same_trans e0 (same_new hg)
    refine lc_range (lo := 0) (n := ((m : Nat) : Int).toNat) (fun i H' => ∃ (left got : List Str), DeckAt H' d l (k + i) ∧ Off d l H H' ∧
        H' L = some (.lst (left.map V.str)) ∧ H' g = some (.lst (got.map V.str)) ∧ (left ++ got).Perm pool ∧ got.length = i)
      ⟨pool, [], D.same e1, Off.of e1, by rw [upd_ne nLg, upd_same]; rfl, upd_same, by rw [List.append_nil], rfl⟩ ?_ ?_
    · rintro i H1 hi ⟨left, got, D1, o1, hL1, hg1, pm, hgl⟩
      have hi2 : i < m := by simpa using hi
      have pl := pm.length_eq
      rw [List.length_append, pool_len] at pl
      refine ⟨rfl, _, rfl, Or.inl ⟨rfl, _, SqL.of hL1⟩, _, rfl, _, rfl, .ref L, left.length, rfl, Or.inl ⟨left.map V.str, SqL.of hL1, by rw [List.length_map]⟩, d, l, (left.length : Int), k + i, rfl, D1, by omega, by omega, by omega, fun j H2 j0 j1 D2 o2 => ?_⟩
      have jl : j.toNat < left.length := by omega
      have hL2 := o2 L _ hL1 nLd nLl
      have hg2 := o2 g _ hg1 ngd ngl
      have hx : (left.map V.str)[j.toNat]? = some (V.str left[j.toNat]) := by rw [List.getElem?_map, List.getElem?_eq_getElem jl]; rfl
      refine ⟨L, left.map V.str, j, j.toNat, _, rfl, rfl, hL2, by omega, by omega, ?_, hx, got.map V.str, by rw [upd_ne nLg.symm]; exact hg2, by rw [List.length_map, sizeLine_eq]; omega, ?_⟩
      · unfold seqIndex?
        have n1 : ¬ j < 0 := by omega
        rw [List.length_map]
        simp [n1, j0, j1]
      · refine ⟨left.eraseIdx j.toNat, got ++ [left[j.toNat]], ?_, ?_, ?_, ?_, ?_, by rw [List.length_append, hgl]; rfl⟩
        · obtain ⟨cs, mm, n, h1, h2, h3⟩ := D2.ex
          exact ⟨cs, mm, n, by rw [upd_ne ngd.symm, upd_ne nLd.symm]; exact h1, by rw [upd_ne ngl.symm, upd_ne nLl.symm]; exact h2, h3.1, h3.2.1, h3.2.2.1, by omega⟩
        · intro b u hb n1 n2
          have z := o2 b u (o1 b u hb n1 n2) n1 n2
          rw [upd_ne (ne_of_none hb gH), upd_ne (ne_of_none hb hL)]
          exact z
        · rw [upd_ne nLg, upd_same, erase_map]
        · rw [upd_same, List.map_append]
          rfl
        · exact (erase_perm jl).trans pm
    · rintro H1 ⟨left, got, D1, o1, hL1, hg1, pm, hgl⟩
      have hm2 : got.length = m := by simpa using hgl
      have nd : got.Nodup := ((pm.nodup_iff).mpr pool_nd).sublist (List.sublist_append_right _ _)
      refine ⟨g, got, rfl, SqL.of hg1, by omega, fun ys p pm2 so hp => ⟨p, ys.map V.str, rfl, .inl ⟨SqL.of upd_same, fun t ht => ?_⟩⟩⟩
      have e2 : Same H1 (upd (upd H1 p (.lst (ys.map V.str))) t (.tup (ys.map V.str))) := same_trans (same_new hp) (same_new ht)
      refine q t ys _ ?_ (D1.same e2 |>.up (by simp)) (o1.trans (Off.of e2)) upd_same (by rw [pm2.length_eq, hm2]) (fun x hx => pm.mem_iff.mp (List.mem_append_right _ (pm2.mem_iff.mp hx))) (sorted_asc so (pm2.nodup_iff.mpr nd))
      exact D1.back o1 ((same_new hp).free ht)
end
end K01
/-! Exceptions of the program's own classes (over Exception, at any depth) as values: made, a field stored and read, isinstance. -/
namespace KX
open PySem PySem.Spec PySem.W PyProof.Rows

abbrev exTl : List Value := [.type "Exception", .type "BaseException", .type "object"]
/-- what the written part says of such a class -/
structure ExC (K : Frag) (C : Addr) : Prop where
  cls : ∃ nm q N bs bm sn sub ab col dd k0 k1 k2 k3 k5, K.lookup C = some (excClassObj nm q C N bs bm true sn sub ab col dd k0 k1 k2 k3 k5 "Exception.__new__") ∧ excTail exTl bm = true
  sa : findIn K (.ref C) "__setattr__" = some (some (.builtin "object.__setattr__"))
  ga : findIn K (.ref C) "__getattribute__" = some (some (.builtin "BaseException.__getattribute__"))
  gg : findIn K (.ref C) "__getattr__" = some none
  bx : subIn K (.ref C) (.type "BaseException") = some true
  kp : keepIn K (.ref C) = true
  hd : hasDictIn K C = true
  cl : findIn K (.ref C) "__class__" = some (some (.builtin "object.__class__"))
  gn : specialIn K (.builtin "object.__class__") "__get__" = some (some (.builtin "getset_descriptor.__get__"))
  tk : takesIn K (.builtin "object.__class__") = some true
  mo : mroIn K C (.type "object") = some true

section
open Builtin Builtin.ObjectAttr
variable {prog : Program} {w : World} {A : Around} {E : Value → Shared → Prop} {R : Result → Shared → Prop} {hp : Heap} {g : Array GenState} {d : Drawn} {t : Nat} {os : OsState}
theorem tail_mro {K : Frag} {C : Addr} {cd : ClassData} {bm : List Value} (hcd : clsIn K C = some cd) (hm : cd.mro = .ref C :: bm) (ht : excTail exTl bm = true) : mroIn K C (.type "object") = some true := by
  have q : (Value.ref C :: bm).contains (.type "object") = true := by
    rw [List.contains_cons, excTail_contains "object" bm ht, show exTl.contains (.type "object") = true from by decide +kernel, Bool.or_true]
  unfold mroIn
  rw [hcd, Option.bind_some, hm, if_neg (by simp), q]
/-- self.name = v on an exception that has no dict as yet -/
theorem first_store {K : Frag} {name : Str} {tk : Tok} {v : Value} {x C : Addr} {fv : Array Value} {cd : ClassData} {bm : List Value}
    (X : K.In hp) (hx : hp.get? x = some { cls := .ref C, data := .fields fv }) (hcd : clsIn K C = some cd) (hm : cd.mro = .ref C :: bm) (ht : excTail exTl bm = true) (hh : cd.hasDict = true) (ha : findIn K (.ref C) name = some none)
    (hq : ∀ h' tk' dx, (∀ b o, b ≠ x → hp.get? b = some o → h'.get? b = some o) → hp.objs.size ≤ dx → dx ≠ x → h'.get? x = some { cls := .ref C, dict := some dx, data := .fields fv } →
      h'.Ns1 dx (fun y => if y = name then some v else none) → R (.ok (.ret .none)) ⟨h', g, d, tk', os⟩) :
    codeAny (model prog w) A (.call (.builtin "object.__setattr__") ⟨[.ref x, .str name tk, v], []⟩) R ⟨hp, g, d, t, os⟩ := by
  have J : InstAt hp x { cls := .ref C, data := .fields fv } C none := ⟨hx, rfl, rfl, trivial⟩
  have ne : x ≠ hp.objs.size := Nat.ne_of_lt (Heap.lt_size hx)
  have isO : Looks (model prog w) hp (isInstance (.ref x) (.type "object")) true := J.type.andThen (looks_mroIn X (tail_mro hcd hm ht))
  have S := F.store_object
  have pass : refuseLoop (.ref x) "__setattr__" cd.mro = pure () := by
    rw [hm, refuseLoop_ref]
    exact excTail_pass _ (F.store_Exception.passes _) bm ht
  have lm : Looks (model prog w) hp (mroOf (.ref C)) cd.mro := (looks_clsIn X hcd).andThen .now
  have lt : Looks (model prog w) hp (storeTaker? none) none := .now
  have lc : Looks (model prog w) hp (classData C) cd := looks_clsIn X hcd
  refine codeAny_call_builtin S.slot.plain S.entry (@check_slot (model prog w) _ _ ⟨hp, g, d, t, os⟩ "object.__setattr__" "object" "__setattr__" (.ref x) [.str name tk, v] [] _ S.kind S.split isO (S.args (.ref x) (.str name tk) v) ?_)
  rw [osa_eq, refuse_eq]
  apply wpAny_bind
  apply wpAny_bind
  apply J.type.at
  apply wpAny_bind
  apply lm.at
  rw [pass]
  apply wpAny_pure
  apply wpAny_bind
  apply J.type.at
  apply wpAny_bind
  apply (looks_findIn X ha).at
  apply wpAny_bind
  apply lt.at
  show wpAny _ _ (storeInOwnDict (.ref x) (.ref C) (.str name tk) name v false) _ _ _
  obtain ⟨nm, bs, mro, ns, qn, hd, sn, sb, ab, col, del⟩ := cd
  have hh' : hd = true := hh
  subst hh'
  unfold storeInOwnDict ownDictForStores
  repeat (first | with_reducible apply HandSPX.store_in_new | with_reducible apply wpAny_loadPart_at hx | with_reducible apply lc.at | wp_step)
  · exact ⟨_, #[], _, (Heap.get?_update_ne _ _ _ _ ne.symm).trans (Heap.get?_push_at rfl rfl), rfl, fun e he => absurd he (by simp), fun _ => rfl⟩
  · intro h' tk' hn' hs
    have hx1 : (hp.push { cls := .type "dict", data := .dict #[] }).get? x = some { cls := .ref C, data := .fields fv } := Heap.get?_push_of_some _ hx
    exact hq h' tk' hp.objs.size (fun b o hb ho => (hs.2 b (Nat.ne_of_lt (Heap.lt_size ho))).trans ((Heap.get?_update_ne _ _ _ _ hb).trans (Heap.get?_push_of_some _ ho))) (Nat.le_refl _) ne.symm
      ((hs.2 x ne).trans (Heap.get?_update_self _ hx1 rfl)) hn'
end

open L2 KG
section
variable {X : Cx} {pins : List (Addr × Obj)} {σ : L2.St} {H : Hp} {s : Shared} {a C : Addr} {f : Str} {y : V} {u : Value} {fs : List (Str × V)}
/-- an exception of the class at C with the fields fs, made -/
def ExAt (H : Hp) (a C : Addr) (fs : List (Str × V)) : Prop := (∃ dx, H a = some (exo a C (some dx)) ∧ H dx = some (exd dx fs)) ∨ (fs = [] ∧ H a = some (exo a C none))
theorem ExAt.keep {H' : Hp} (x : ExAt H a C fs) (e : Same H H') : ExAt H' a C fs := by
  rcases x with ⟨dx, h1, h2⟩ | ⟨h0, h1⟩
  · exact .inl ⟨dx, e _ _ h1, e _ _ h2⟩
  · exact .inr ⟨h0, e _ _ h1⟩
theorem set_first {Q : Unit → Shared → Prop} {E : Value → Shared → Prop} {A : Around} (T : ExC X.K C) (I : Inv X pins σ H s) (e : H a = some (exo a C none)) (hno : findIn X.K (.ref C) f = some none) (ry : RelV y u)
    (h : ∀ dx s', H dx = none → dx ≠ a → Inv X pins σ (upd (upd H dx (exd dx [(f, y)])) a (exo a C (some dx))) s' → Q () s') : wpAny (model X.prog X.w) A (setAttr (.ref a) f u) Q E s := by
  obtain ⟨nm, q, N, bs, bm, sn, sub, ab, col, dd, k0, k1, k2, k3, k5, hC, hbm⟩ := T.cls
  have hcl : clsIn X.K C = some { name := nm, bases := bs, mro := .ref C :: bm, ns := N, qualname := q, hasDict := true, slotNames := sn, subclasses := sub, abstract := ab, collection := col, hasDel := false } := by
    unfold clsIn
    rw [hC]
    all_goals rfl
  obtain ⟨t1, ho⟩ := exo_at I.hok e
  obtain ⟨hp, g, dr, tk, os⟩ := s
  apply set_plain I.kIn (ox := { cls := .ref C, dict := none, data := .fields #[.ref t1, .none, .none, .none, .bool false, .none] }) (od := none) ⟨ho, rfl, rfl, trivial⟩ T.sa
  apply first_store I.kIn ho hcl rfl hbm rfl hno
  intro h' tk' dx kp dn dne hx hn
  have fr : H dx = none := I.hok.fresh dn
  have ndx : ∀ {b : Addr} {o : Obj}, hp.get? b = some o → b ≠ dx := fun {b o} q => Nat.ne_of_lt (Nat.lt_of_lt_of_le (Heap.lt_size q) dn)
  have nda : ∀ {b : Addr}, H b = none → b ≠ a := fun {b} n z => by rw [z, e] at n; cases n
  have there : ∀ b o, hp.get? b = some o → ∃ o', h'.get? b = some o' := fun b o q => by
    by_cases hb : b = a
    · rw [hb]; exact ⟨_, hx⟩
    · exact ⟨o, kp b o hb q⟩
  have stay : ∀ {b : Addr} {o : HO}, H b = some o → o ≠ exo a C none → upd (upd H dx (exd dx [(f, y)])) a (exo a C (some dx)) b = some o := fun {b o} q z => by
    have h1 : b ≠ a := fun w => by rw [w, e] at q; exact z (Option.some.inj q).symm
    rw [upd_ne h1, upd_ne (ne_of_none q fr)]
    exact q
  have U : Un X.fs [] H (upd (upd H dx (exd dx [(f, y)])) a (exo a C (some dx))) hp h' :=
    ⟨fun b o q n _ _ => kp b o (nda n) q, fun b o q n _ _ => ⟨o.slots, kp b o (nda n) q⟩, fun b o q n _ => by rw [upd_ne (nda n), upd_ne (ndx q)]; exact n, fun b o q _ => there b o q,
      fun b xs q => stay q exo_tup.symm, fun b o v q => stay q exo_frz.symm, fun b ps q => ⟨#[], by rw [stay q exo_tbl.symm]; simp⟩⟩
  have ok : HOk X.prog X.w (upd (upd H dx (exd dx [(f, y)])) a (exo a C (some dx))) h' := fun b o q => by
    by_cases hb : b = a
    · subst hb
      rw [upd_same] at q
      obtain rfl := Option.some.inj q
      exact exo_ok hx
    · rw [upd_ne hb] at q
      by_cases hd : b = dx
      · subst hd
        rw [upd_same] at q
        obtain rfl := Option.some.inj q
        exact exd_ok hn (relO_put (fs := []) ry fun g => True.intro)
      · rw [upd_ne hd] at q
        refine (I.hok b o q).stay (fun c v hc z => kp c v ?_ z) (fun c hc => stay hc exo_own.symm) (fun c xs hc => stay hc exo_tup.symm)
        rcases hc with hc | hc
        · rw [hc]; exact hb
        · exact fun w => by rw [w, e] at hc; exact exo_own (Option.some.inj hc)
  exact h dx _ fr dne (I.un (t' := tk') U ok)

/-- self.f = e, the first field of an exception that is being made -/
def tExSet (K : Frag) (f : Str) (to te : TE) : TS := fun D σ H => te σ H fun y H1 => to σ H1 fun x H2 => ∃ a C : Addr, x = .ref a ∧ ExC K C ∧ findIn K (.ref C) f = some none ∧ H2 a = some (exo a C none) ∧
  ∀ dx, H2 dx = none → dx ≠ a → D.nx σ (upd (upd H2 dx (exd dx [(f, y)])) a (exo a C (some dx)))
theorem ps_exset {o e : Expr} {to te : TE} {p p2 : Pos} (ho : PE X o to) (he : PE X e te) (hs : swapsWith e (some (.Attribute o f p)) p2.line X.env = pure false := by rfl) : PS X (.Assign [.Attribute o f p] e p2) (tExSet X.K f to te) := by
  constructor
  intro pins s σ H D I h
  apply plainObj_wpAny_Assign_Attribute (hs := hs)
  apply thn (he.run pins s σ H _ I h)
  rintro v s1 ⟨y, H1, I1, r1, q1⟩
  apply thn (ho.run pins s1 σ H1 _ I1 q1)
  rintro u s2 ⟨x, H2, I2, r2, a, C, ex, T, hno, ea, q⟩
  subst ex
  obtain rfl : u = Value.ref a := r2
  exact set_first T I2 ea hno r1 fun dx s' n ne J => ⟨σ, _, J, q dx n ne⟩

/-! ### C(e): the exception, its own __init__ keeping sp -/
def tExMk (C : Addr) (sp : Sp) (ta : TA) : TE := fun σ H Q => ta σ H fun vs H1 => vs.length ≤ 1000 ∧ ∀ a, H1 a = none → sp (.ref a :: vs) (upd H1 a (exo a C none)) (fun v H2 => v = .non ∧ Q (.ref a) H2) E0
theorem run_exmk {CX : CXT} {fI : Addr} {k : Nat} {fd : FuncData} {ps : List Str} {sp : Sp} {Q : VK} {us : List Value} {vs : List V} (T : ExC X.K C) (iC : findIn X.K (.ref C) "__init__" = some (some (.ref fI))) (tI : typeIn X.K (.ref fI) = some (.type "function"))
    (F1 : FnOk X.prog X.w X.K X.mg X.base CX k fI fd ps sp) (hr : Room (k + 1) X.A) (hb : L2.Binds X.K fd ps []) (hx : Passes CX X E0) (I : Inv X pins σ H s) (r : Vals vs us) (hl : vs.length ≤ 1000)
    (h : ∀ a, H a = none → sp (.ref a :: vs) (upd H a (exo a C none)) (fun v H2 => v = .non ∧ Q (.ref a) H2) E0) : wpAny (model X.prog X.w) X.A (call (.ref C) us) (EP X pins σ Q) X.xe s := by
  obtain ⟨nm, q, N, bs, bm, sn, sub, ab, col, dd, k0, k1, k2, k3, k5, hC, hbm⟩ := T.cls
  obtain ⟨hp, g, dr, tk, os⟩ := s
  have hz : us.length ≤ sizeLine := by
    rw [← Paired.length r, sizeLine_eq]
    omega
  have new : hp.objs.size ≤ hp.objs.size + 1 := Nat.le_succ _
  have kp : ∀ b o, hp.get? b = some o → ((hp.push (kdv_tup us)).push (HandSPX.excO C hp.objs.size)).get? b = some o := fun b o e => Heap.get?_push_of_some _ (Heap.get?_push_of_some _ e)
  have at_ : ((hp.push (kdv_tup us)).push (HandSPX.excO C hp.objs.size)).get? (hp.objs.size + 1) = some (HandSPX.excO C hp.objs.size) := by heap_get
  have J : Inv X pins σ (upd H (hp.objs.size + 1) (exo (hp.objs.size + 1) C none)) ⟨(hp.push (kdv_tup us)).push (HandSPX.excO C hp.objs.size), g, dr, tk, os⟩ :=
    I.laid (a := hp.objs.size + 1) (o := exo (hp.objs.size + 1) C none) (h' := (hp.push (kdv_tup us)).push (HandSPX.excO C hp.objs.size)) (t' := tk) kp new (exo_ok at_)
  have hq := h (hp.objs.size + 1) (I.hok.fresh new)
  have r2 : Vals (V.ref (hp.objs.size + 1) :: vs) (Value.ref (hp.objs.size + 1) :: us) := .cons rfl r
  have len : ((Value.ref (hp.objs.size + 1) :: us) ++ []).length = ps.length := by
    rw [List.append_nil, ← F1.len _ _ _ _ hq]
    exact (Paired.length r2).symm
  have bnd := hb ⟨(hp.push (kdv_tup us)).push (HandSPX.excO C hp.objs.size), g, dr, tk, os⟩ (Value.ref (hp.objs.size + 1) :: us) J.kIn len
  rw [List.append_nil] at bnd
  apply wpAny_call
  apply HandSPX.call_own PySem.F.excBase_Exception (fun Y => excTail_contains Y bm hbm) (I.kIn _ _ hC) (looks_findIn I.kIn iC) (fun self => bind_fn I.kIn self tI) hz
  refine codeAny_mono (F1.run _ X.stack _ _ ⟨Value.ref (hp.objs.size + 1) :: us, []⟩ (Value.ref (hp.objs.size + 1) :: us) _ _ E0 (hr.make C us []) (J.env0.make C us []) bnd r2 hq) ?_
  rintro (er | fl) s' z
  · exact hx pins σ _ _ er s' J z
  · cases fl with
    | ret u =>
      obtain ⟨v, H', I3, rv, ev, q3⟩ := Inv.after J z
      subst ev
      exact ⟨rv, ⟨V.ref (hp.objs.size + 1), H', I3, rfl, q3⟩⟩
    | next => exact z.elim
    | brk => exact z.elim
    | cont => exact z.elim
theorem pe_exmk {CX : CXT} {x : Str} {fI : Addr} {k : Nat} {fd : FuncData} {ps : List Str} {sp : Sp} {e : Expr} {es : List Expr} {ta : TA} {p pos : Pos} (T : ExC X.K C) (iC : findIn X.K (.ref C) "__init__" = some (some (.ref fI))) (tI : typeIn X.K (.ref fI) = some (.type "function"))
    (F1 : FnOk X.prog X.w X.K X.mg X.base CX k fI fd ps sp) (hr : Room (k + 1) X.A) (hb : L2.Binds X.K fd ps []) (hx : Passes CX X E0) (hg : Gl X x) (hm : X.mg x = some (.ref C)) (ha : PA X (e :: es) ta) (hdb : (x == ("__debug__" : Str)) = false := by decide)
    (he : starEach (e :: es) X.env = (false, eval e X.env) :: starEach es X.env := by rfl) (hpl : (backTo pos (starEach es X.env)).any (·.1) = false := by rfl) :
    PE X (.Call (.Name x p) (e :: es) [] pos) (tExMk C sp ta) := by
  constructor
  intro pins s σ H Q I h
  apply wpAny_Call_Name_kw (ld_glob I hg hm ?_ hdb)
  apply callWith_K (h₀ := X.base) I.ok.mod.kin T.kp ?_ he hpl
  apply thn (ha.run pos pins s σ H _ I h)
  rintro us s1 ⟨vs, H1, I1, r, hl, q⟩
  exact ⟨I1.kIn, run_exmk T iC tI F1 hr hb hx I1 r hl q⟩
end
end KX
/-! Vote.__init__ of what is valid. -/
namespace K01
open PySem PySem.Spec PyProof.Rows L2 KG KS KA KX KTc KFz
theorem lc_zipT {K : PySem.W.Frag} {a b : Addr} {xs ys : List V} {g : TG} {tt : TT} {te : TE} {vs : List Nat} {σ : L2.St} {H1 : Hp} {D : Addr} {Qd : Hp → Prop} (hl : xs.length = ys.length) (Pv : Nat → Hp → Prop) (h0 : Pv 0 (upd H1 D (.lst []))) (hq : ∀ i H, Pv i H → SqT K H a xs ∧ SqT K H b ys)
    (hs : ∀ i x y T H, xs[i]? = some x → ys[i]? = some y → Pv i H → H T = none → g (.ref T) (wipe σ vs) (upd H T (.tup [x, y])) fun σ2 H2 => wipe σ2 vs = wipe σ vs ∧ tt σ2 H2 fun b H3 =>
      if b = true then te σ2 H3 fun y H4 => ∃ acc, H4 D = some (.lst acc) ∧ acc.length < sizeLine ∧ Pv (i + 1) (upd H4 D (.lst (acc ++ [y]))) else Pv (i + 1) H3) (hd : ∀ H, Pv xs.length H → Qd H) :
    ∃ W : Nat → Nat → Hp → Prop, (∃ m, W 0 m (upd H1 D (.lst []))) ∧ ∀ i m H, W i m H →
      ((RZ.ItzT K a b).stop i H ∧ Qd H) ∨ ((RZ.ItzT K a b).go i H ∧ ∃ Nx : Hp → Prop, (∀ H', Nx H' → ∃ m', m' < m ∧ W (i + 1) m' H') ∧ ∀ x H', (RZ.ItzT K a b).yld i H x H' → g x (wipe σ vs) H' fun σ2 H2 => wipe σ2 vs = wipe σ vs ∧ tt σ2 H2 fun b H3 =>
        if b = true then te σ2 H3 fun y H4 => ∃ acc, H4 D = some (.lst acc) ∧ acc.length < sizeLine ∧ Nx (upd H4 D (.lst (acc ++ [y]))) else Nx H3) := by
  refine ⟨fun i m H => m = xs.length - i ∧ i ≤ xs.length ∧ Pv i H, ⟨xs.length, by simp, Nat.zero_le _, h0⟩, ?_⟩
  rintro i m H ⟨rfl, hi, p⟩
  obtain ⟨q1, q2⟩ := hq i H p
  by_cases hlt : i < xs.length
  · have hlt2 : i < ys.length := by omega
    refine .inr ⟨⟨xs, ys, xs[i], ys[i], q1, q2, by simp [hlt], by simp [hlt2]⟩, Pv (i + 1), fun H' p' => ⟨xs.length - (i + 1), by omega, rfl, hlt, p'⟩, fun v H' y => ?_⟩
    obtain ⟨T, x, y, rfl, hT, rfl, hx, hy⟩ := y
    exact hs i x y T H (hx xs q1) (hy ys q2) p hT
  · have e : i = xs.length := by omega
    subst e
    exact .inl ⟨⟨xs, ys, q1, q2, .inl (Nat.le_refl _)⟩, hd H p⟩
abbrev s_vtInit : Stmt := inCls 18 0
abbrev s_vtMid : Stmt := inCls 18 1
abbrev s_vtEq : Stmt := inCls 18 2
abbrev s_vtCall : Stmt := inCls 18 3
abbrev s_vtRows : Stmt := inCls 18 4
/-- the facts of Vote -/
structure VtC (K : PySem.W.Frag) (mg : Str → Option Value) (f : Addr) where
  C : Addr
  g : mg "Vote" = some (.ref C)
  cl : Cls K C
  made : Mk K C f
  nd : NoAttr K C "domain"
  nn : NoAttr K C "count"
  nr : NoAttr K C "results"
  no : NoAttr K C "result_of"
/-- what heaps keep but for the object at x -/
def ButO (x : Addr) (H H' : Hp) : Prop := ∀ b o, H b = some o → b ≠ x → H' b = some o
theorem ButO.of {x : Addr} {H H' : Hp} (e : Same H H') : ButO x H H' := fun b o h _ => e b o h
theorem ButO.put {x : Addr} {H H1 : Hp} {o : HO} (e : ButO x H H1) : ButO x H (upd H1 x o) := fun b u h z => by
  rw [upd_ne z]
  exact e b u h z
theorem ButO.then {x : Addr} {H H1 H2 : Hp} (e : ButO x H H1) (f : Same H1 H2) : ButO x H H2 := fun b u h z => f _ _ (e b u h z)
theorem ButO.fresh {x : Addr} {H H1 H2 : Hp} (hx : H x = none) (e : Same H H1) (f : ButO x H1 H2) : Same H H2 := fun b o h => f b o (e _ _ h) fun z => by
  rw [z, hx] at h
  cases h
abbrev vtFs (d : Addr) (n : Int) (r t : Addr) : List (Str × V) := [("domain", .ref d), ("count", .int n), ("results", .ref r), ("result_of", .ref t)]
/-- all tuples of so many values -/
def ptsL (k : Nat) (xs : List Str) : List (List Str) := prods (List.replicate k xs)
/-- values, a number and results that go together -/
structure VGood (xs : List Str) (k : Nat) (rs : List Str) : Prop where
  asc : AscT xs
  ok : ∀ x ∈ xs, nameOk x = true
  l1 : 1 ≤ xs.length
  l3 : xs.length ≤ 3
  hk : k = 3 ∨ k = 4
  len : rs.length = (ptsL k xs).length
  sub : ∀ x ∈ rs, x ∈ xs
  win : ∀ p ∈ (ptsL k xs).zip rs, winS p.1 = none ∨ winS p.1 = some p.2
/-- a vote on the heap, beside what stands at x itself -/
structure VtIn (H : Hp) (d r t : Addr) (xs : List Str) (k : Nat) (rs : List Str) : Prop where
  ex : ∃ ks : List (Addr × List Str), H d = some (.tup (xs.map V.str)) ∧ H r = some (.tup (rs.map V.str)) ∧ H t = some (.dT (KDz.dtOf ks (rs.map V.str))) ∧ ks.map (·.2) = ptsL k xs
def spVI (C : Addr) : Sp := fun vs H Q _ => ∃ (x dx d r : Addr) (xs rs : List Str) (k : Nat), vs = [.ref x, .ref d, .int (k : Nat), .ref r] ∧ H x = some (.ins C dx []) ∧ H d = some (.tup (xs.map V.str)) ∧ H r = some (.tup (rs.map V.str)) ∧ VGood xs k rs ∧
  ∀ (H' : Hp) (t : Addr), ButO x H H' → H t = none → H' x = some (.ins C dx (vtFs d k r t)) → VtIn H' d r t xs k rs → Q .non H'
/-- the names dict and zip -/
structure Bz (mg : Str → Option Value) : Prop extends Bs mg where
  n_dict : mg "dict" = none
  n_zip : mg "zip" = none
structure VtF (K : PySem.W.Frag) (mg : Str → Option Value) where
  dom : FnF K mg "is_domain" "is_domain" s_is_domain
  nms : FnF K mg "are_names" "are_names" s_are_names
  nm : FnF K mg "is_name" "is_name" s_is_name
  asc : FnF K mg "ascending" "ascending" s_ascending
  row : FnF K mg "is_row" "is_row" s_is_row
  all : FnF K mg "all_rows" "all_rows" s_all_rows
  win : FnF K mg "winner" "winner" s_winner
  wo : FnF K mg "without" "without" s_without
theorem pts_len (xs : List Str) : ∀ k, (prods (List.replicate k xs)).length = xs.length ^ k
  | 0 => rfl
  | k + 1 => by
    unfold prods
    rw [List.replicate_succ', List.foldl_append]
    show (step (prods (List.replicate k xs)) xs).length = _
    rw [step_len, pts_len xs k, Nat.pow_succ]
theorem pts_wid (xs : List Str) : ∀ k, ∀ r ∈ prods (List.replicate k xs), r.length = k
  | 0, r, h => by
    rw [List.mem_singleton.mp h]
    rfl
  | k + 1, r, h => by
    unfold prods at h
    rw [List.replicate_succ', List.foldl_append] at h
    obtain ⟨q, hq, h2⟩ := List.mem_flatMap.mp (show r ∈ step (prods (List.replicate k xs)) xs from h)
    obtain ⟨c, _, rfl⟩ := List.mem_map.mp h2
    rw [List.length_append, pts_wid xs k q hq]
    rfl
theorem pts_nodup {xs : List Str} (hx : xs.Nodup) : ∀ k, (prods (List.replicate k xs)).Nodup
  | 0 => by
    show ([[]] : List (List Str)).Nodup
    simp
  | k + 1 => by
    have ih := pts_nodup hx k
    unfold prods
    rw [List.replicate_succ', List.foldl_append]
    show (step (prods (List.replicate k xs)) xs).Nodup
    refine List.pairwise_flatMap.mpr ⟨fun r _ => List.pairwise_map.mpr (hx.imp fun {a b} ne z => ne ?_), ih.imp fun {r q} ne x hx y hy z => ne ?_⟩
    · exact List.cons.inj (List.append_cancel_left z) |>.1
    · obtain ⟨c, _, rfl⟩ := List.mem_map.mp hx
      obtain ⟨d, _, rfl⟩ := List.mem_map.mp hy
      exact (List.append_inj' z rfl).1
theorem pts_few {xs : List Str} (h : xs.length ≤ 3) {k : Nat} (hk : k ≤ 4) (i : Nat) : (prods ((List.replicate k xs).take i)).length ≤ 100 := by
  rw [List.take_replicate, pts_len]
  calc xs.length ^ min i k ≤ 3 ^ min i k := Nat.pow_le_pow_left h _
    _ ≤ 3 ^ 4 := Nat.pow_le_pow_right (by decide) (by omega)
    _ ≤ 100 := by decide
theorem flat_repV {α : Type} {x : α} : ∀ k : Nat, (List.replicate k [x]).flatten = List.replicate k x
  | 0 => rfl
  | k + 1 => by
    rw [List.replicate_succ, List.flatten_cons, flat_repV k, List.replicate_succ]
    rfl
theorem rows_rep {H : Hp} {d : Addr} {xs : List Str} (h : H d = some (.tup (xs.map V.str))) : ∀ k : Nat, RowsAt H ((List.replicate k d).map V.ref) (List.replicate k xs)
  | 0 => .nil
  | k + 1 => .cons ⟨d, rfl, h⟩ (rows_rep h k)
/-- rows and their addresses -/
theorem rows_frz {H0 H : Hp} : ∀ {vs : List V} {R : List (List Str)}, RowsF H0 H vs R → ∃ ks : List (Addr × List Str), vs = ks.map (fun p => V.ref p.1) ∧ ks.map (·.2) = R ∧ ∀ p ∈ ks, H0 p.1 = none ∧ Fz H p.1 (p.2.map V.str)
  | _, _, .nil => ⟨[], rfl, rfl, fun _ z => nomatch z⟩
  | _, _, .cons (b := r) ⟨a, e1, e0, e2⟩ t => by
    obtain ⟨ks, h1, h2, h3⟩ := rows_frz t
    refine ⟨(a, r) :: ks, by rw [List.map_cons, e1, h1], by rw [List.map_cons, h2], fun p hp => ?_⟩
    rcases List.mem_cons.mp hp with rfl | hp
    · exact ⟨e0, e2⟩
    · exact h3 p hp
/-- these are tuples again -/
def thawN (ks : List (Addr × List Str)) (H : Hp) : Hp := fun b => match ks.find? (fun p => p.1 == b) with
  | some p => some (.tup (p.2.map V.str))
  | none => H b
theorem str_map_inj {a b : List Str} (h : a.map V.str = b.map V.str) : a = b := (List.map_inj_right fun _ _ z => V.str.inj z).mp h
theorem thawN_at {ks : List (Addr × List Str)} {H : Hp} (h : ∀ p ∈ ks, Fz H p.1 (p.2.map V.str)) : ∀ p ∈ ks, thawN ks H p.1 = some (.tup (p.2.map V.str)) := fun p hp => by
  unfold thawN
  cases e : ks.find? (fun q => q.1 == p.1) with
  | none =>
    have z := List.find?_eq_none.mp e p hp
    exact absurd (beq_self_eq_true p.1) z
  | some q =>
    have m := List.mem_of_find?_eq_some e
    have ea : q.1 = p.1 := beq_iff_eq.mp (by simpa using List.find?_some e)
    obtain ⟨o1, h1, _⟩ := h p hp
    obtain ⟨o2, h2, _⟩ := h q m
    rw [ea, h1] at h2
    have z := Option.some.inj h2
    injection z with _ z2
    injection z2 with z3
    show some (HO.tup (q.2.map V.str)) = _
    rw [z3]
theorem thawN_off {ks : List (Addr × List Str)} {H : Hp} (h : ∀ p ∈ ks, Fz H p.1 (p.2.map V.str)) {b : Addr} {u : HO} (hb : H b = some u) (n : ∀ o v, u ≠ .frz o v) : thawN ks H b = some u := by
  unfold thawN
  cases e : ks.find? (fun q => q.1 == b) with
  | none => exact hb
  | some q =>
    have m := List.mem_of_find?_eq_some e
    have ea : q.1 = b := beq_iff_eq.mp (by simpa using List.find?_some e)
    obtain ⟨o2, h2, _⟩ := h q m
    rw [ea, hb] at h2
    exact absurd (Option.some.inj h2) (n _ _)
theorem thawN_none {ks : List (Addr × List Str)} {H : Hp} {b : Addr} (h : thawN ks H b = none) : H b = none := by
  unfold thawN at h
  cases e : ks.find? (fun q => q.1 == b) with
  | none =>
    rw [e] at h
    exact h
  | some q =>
    rw [e] at h
    cases h
theorem thawN_ok {X : Cx} {ks : List (Addr × List Str)} {H : Hp} (h : ∀ p ∈ ks, X.H_0 p.1 = none ∧ Fz H p.1 (p.2.map V.str)) : Thaw X H (thawN ks H) := fun b => by
  unfold thawN
  cases e : ks.find? (fun q => q.1 == b) with
  | none => exact .inl rfl
  | some q =>
    have m := List.mem_of_find?_eq_some e
    have ea : q.1 = b := beq_iff_eq.mp (by simpa using List.find?_some e)
    obtain ⟨n, o, h2, _⟩ := h q m
    rw [ea] at n h2
    exact .inr ⟨n, o, _, h2, rfl⟩
section
variable {P : Program} {w : World} {K : PySem.W.Frag} {mg : Str → Option Value} {base : Heap}
abbrev NVi : List Str := ["self", "domain", "count", "results", "arguments", "some", "result"]
theorem sc_vtInit : FnScope NVi ["self", "domain", "count", "results"] (defScope s_vtInit) := ⟨rfl, rfl, rfl, by decide +kernel, rfl, by decide +kernel, by decide +kernel⟩
theorem ok_vtInit (B : Bz mg) (f : MtF K "__init__" "Vote.__init__" s_vtInit) (F : VtF K mg) (C : VtC K mg f.a) :
    FnOk P w K mg base CX0 4 f.a f.d ["self", "domain", "count", "results"] (spVI C.C) := by
  have G1 := ok_is_domain (P := P) (w := w) (base := base) B.toBs F.dom F.nms F.nm F.asc
  have b1 : L2.Binds K F.dom.d ["thing"] [] := F.dom.F.binds fun _ _ _ _ _ _ us hl => match us, hl with | [_], _ => rfl
  have G2 := ok_all_rowsF (P := P) (w := w) (base := base) B.toBs F.all
  have b2 : L2.Binds K F.all.d ["columns"] [] := F.all.F.binds fun _ _ _ _ _ _ us hl => match us, hl with | [_], _ => rfl
  have G3 := ok_is_row (P := P) (w := w) (base := base) B.toBs F.row
  have b3 : L2.Binds K F.row.d ["thing", "domain", "length"] [] := F.row.F.binds fun _ _ _ _ _ _ us hl => match us, hl with | [_, _, _], _ => rfl
  have G4 := ok_winner (P := P) (w := w) (base := base) B.toBs F.win F.wo
  have b4 : L2.Binds K F.win.d ["some"] [] := F.win.F.binds fun _ _ _ _ _ _ us hl => match us, hl with | [_], _ => rfl
  refine f.F.ok sc_vtInit (fun vs H Q E h => ?_) (fun cdv A outer s H vs Q E hr h => ?_)
  · obtain ⟨x, dx, d, r, xs, rs, k, rfl, _⟩ := h
    rfl
  · obtain ⟨x, dx, d, r, xs, rs, k, rfl, hx, hd, hR, g, q⟩ := h
    have hu64 := hr.units
    have hr1 : Room 1 _ := hr.mono (by omega)
    have hr3 : Room 3 _ := hr.mono (by omega)
    have hr2 : Room 2 _ := hr.mono (by omega)
    refine ⟨_, (pss_cons
      (ps_if (pt_not (pt_val (pe_call G1 hr3 rfl F.dom.g F.dom.F.kp b1 .nil pass0 (pa_cons (pv 1) pa_nil))))
        (pss_one
          ps_dead)
        pss_nil)
    (pss_cons
      (ps_if (pt_cmpR op_notIn_seq (pv 2) (pe_tup (pa_cons pe_int (pa_cons pe_int pa_nil))) (by rfl))
        (pss_one
          ps_dead)
        pss_nil)
    (pss_cons
      (ps_set (i := 4) sc_vtInit.nd rfl (Or.inl rfl) (pe_call G2 hr1 rfl F.all.g F.all.F.kp b2 .nil pass0 (pa_cons (pe_op op_rep (pe_lst (pa_cons (pv 1) pa_nil)) (pv 2)) pa_nil)))
    (pss_cons
      (ps_if (pt_not (pt_val (pe_call G3 hr1 rfl F.row.g F.row.F.kp b3 .nil pass0 (pa_cons (pv 3) (pa_cons (pv 1) (pa_cons (pe_callB call_len (by rfl) B.n_len (by decide +kernel) (pa_cons (pv 4) pa_nil)) pa_nil))))))
        (pss_one
          ps_dead)
        pss_nil)
    (pss_cons
      (ps_if (pt_not (pt_val (pe_callB (cr_all rfl) (by rfl) B.n_all (by decide +kernel) (pa_cons (pe_lc (own := [("some", 5), ("result", 6)]) (g := gTup K 2 (gCons (gName 5) (gCons (gName 6) gNil))) (by rfl) sc_vtInit.nd (RZ.pi_zipA rfl B.n_zip (pa_cons (pv 4) (pa_cons (pv 3) pa_nil))) (blkOk_by (own := [("some", 5), ("result", 6)]) (N := NVi) (sc := defScope s_vtInit) (by decide +kernel))
        (fun _ _ _ _ _ => (show PG _ _ (gTup K 2 (gCons (gName 5) (gCons (gName 6) gNil))) from pg_tup (by rfl) (pgs_cons (pg_name (i := 5) sc_vtInit.nd rfl (Or.inl rfl)) (pgs_cons (pg_name (i := 6) sc_vtInit.nd rfl (Or.inl rfl)) pgs_nil)))) (fun _ _ _ _ _ => pts_nil)
        (fun _ _ _ _ _ => (pe_cmpR (show OpR _ (compareOp .In) (rIn K false) from op_in_seq) (pe_call G4 hr2 rfl F.win.g F.win.F.kp b4 .nil pass0 (pa_cons (pv 5) pa_nil)) (pe_tup (pa_cons pe_non (pa_cons (pv 6) pa_nil))) (by rfl)))) pa_nil))))
        (pss_one
          ps_dead)
        pss_nil)
    (pss_cons
      (ps_fld (pv 0) (pv 1) rfl)
    (pss_cons
      (ps_fld (pv 0) (pv 2) rfl)
    (pss_cons
      (ps_fld (pv 0) (pv 3) rfl)
    (pss_one
      (ps_thaw (ps_fld (pv 0) (KDz.pe_dictZip (pa_cons (pv 4) (pa_cons (pv 3) pa_nil)) rfl B.n_dict rfl B.n_zip rfl hr3) rfl))))))))))), ?_⟩
    -- is_domain(domain)
    refine ⟨_, rfl, d, xs, rfl, hd, g.ok, List.pairwise_map.mpr g.asc, g.l1, g.l3, fun H1 e1 => ⟨true, rfl, iteF ?_⟩⟩
    -- count not in (3, 4)
    refine ⟨_, rfl, by show 2 ≤ sizeLine; decide, fun t ht => ?_⟩
    have e2 : Same H (upd H1 t (.tup [V.int 3, V.int 4])) := same_trans e1 (same_new ht)
    refine ⟨t, _, rfl, .inr (SqT.of upd_same), rfl, rfl, false, ?_, iteF ?_⟩
    · rcases g.hk with z | z <;> rw [z] <;> rfl
    generalize upd H1 t (.tup [V.int 3, V.int 4]) = H2 at e2 ⊢
    -- [domain] * count
    refine ⟨_, rfl, by show 1 ≤ sizeLine; decide, fun l hl => ⟨_, rfl, ?_⟩⟩
    have e3 : Same H (upd H2 l (.lst [V.ref d])) := same_trans e2 (same_new hl)
    have hk4 : k ≤ 4 := by rcases g.hk with z | z <;> omega
    refine ⟨l, k, [V.ref d], rfl, rfl, upd_same, by omega, by omega, by show 1 * ((k : Int).toNat) ≤ _; rw [sizeLine_eq]; omega, fun l2 hl2 => ?_⟩
    have e4 := same_trans e3 (same_new (o := .lst (List.replicate (k : Int).toNat [V.ref d]).flatten) hl2)
    have h4 : upd (upd H2 l (.lst [V.ref d])) l2 (.lst (List.replicate (k : Int).toNat [V.ref d]).flatten) l2 = some (.lst ((List.replicate k d).map V.ref)) := by
      rw [upd_same]
      congr 2
      rw [Int.toNat_natCast, List.map_replicate]
      exact flat_repV k
    generalize upd (upd H2 l (.lst [V.ref d])) l2 (.lst (List.replicate (k : Int).toNat [V.ref d]).flatten) = H4 at e4 h4 ⊢
    -- all_rows(..)
    have hd4 := e4 _ _ hd
    refine ⟨l2, List.replicate k d, List.replicate k xs, rfl, h4, rows_rep hd4 k, fun i => Nat.le_trans (pts_few g.l3 hk4 i) (by decide), by rw [List.length_replicate]; omega, fun p as H5 hp e5 hp5 hS => ?_⟩
    have e05 := same_trans e4 e5
    have hL := hS.length
    have lR : rs.length = as.length := by rw [hL]; exact g.len
    have few : rs.length ≤ 100 := by
      have z := pts_few g.l3 hk4 k
      rw [List.take_of_length_le (by rw [List.length_replicate]; exact Nat.le_refl _)] at z
      rw [g.len]
      exact z
    -- is_row(results, domain, len(arguments))
    refine ⟨_, rfl, _, rfl, _, rfl, .ref p, rs.length, rfl, .inr ⟨_, SqT.of hp5, lR⟩, r, d, rs, xs, rfl, e05 _ _ hR, e05 _ _ hd, g.sub, by omega, fun H6 e6 => ⟨true, rfl, iteF ?_⟩⟩
    have e06 := same_trans e05 e6
    have hp6 := e6 _ _ hp5
    have hS6 := hS.up e6
    have hr6 := e06 _ _ hR
    -- all([winner(some) in (None, result) ..])
    refine ⟨_, rfl, _, rfl, p, r, as, rs.map V.str, rfl, .inr ⟨SqT.of hp6, SqT.of hr6, fun D hD => ?_⟩⟩
    refine lc_zipT (K := K) (xs := as) (ys := rs.map V.str) (by rw [List.length_map]; exact lR.symm) (fun i H' => Same H6 H' ∧ H' D = some (.lst (List.replicate i (V.bl true)))) ⟨same_new hD, upd_same⟩ (fun i H' z => ⟨SqT.of (z.1 _ _ hp6), SqT.of (z.1 _ _ hr6)⟩) ?_ ?_
    · rintro i y1 y2 T H7 hy1 hy2 ⟨e7, hD7⟩ hT
      obtain ⟨ts, hts, a, rfl, _, fa⟩ := each_get hS6 hy1
      rw [List.getElem?_map] at hy2
      cases hri : rs[i]? with
      | none =>
        rw [hri] at hy2
        cases hy2
      | some u =>
        rw [hri] at hy2
        obtain rfl : V.str u = y2 := Option.some.inj hy2
        have il : i < rs.length := (List.getElem?_eq_some_iff.mp hri).1
        have e8 : Same H7 (upd H7 T (.tup [V.ref a, V.str u])) := same_new hT
        have h8 : upd H7 T (.tup [V.ref a, V.str u]) T = some (.tup [V.ref a, V.str u]) := upd_same
        generalize upd H7 T (.tup [V.ref a, V.str u]) = H8 at e8 h8 ⊢
        have wid : ts.length = k := pts_wid xs k ts (List.mem_of_getElem? hts)
        have wn := g.win (ts, u) (List.mem_of_getElem? (i := i) (by rw [List.getElem?_zip_eq_some]; exact ⟨hts, hri⟩))
        have fl : flatV (optV (winS ts)) = true := by cases winS ts <;> rfl
        have iv : inV (optV (winS ts)) [V.non, V.str u] = true := by
          rcases wn with z | z
          · rw [show winS ts = none from z]; rfl
          · rw [show winS ts = some u from z]
            show (false || ((u == u) || false)) = true
            rw [beq_self_eq_true]
            rfl
        refine ⟨T, _, rfl, SqT.of h8, rfl, _, _, rfl, _, _, rfl, rfl, rfl, _, rfl, a, ts, rfl, (fa.same e7).same e8, by rcases g.hk with z | z <;> omega, by omega, fun HA eA => ⟨_, rfl, by show 2 ≤ sizeLine; decide, fun b hb => ?_⟩⟩
        have e9 : Same H8 (upd HA b (.tup [V.non, V.str u])) := same_trans eA (same_new hb)
        refine ⟨b, _, rfl, .inr (SqT.of upd_same), fl, rfl, _, e9 _ _ (e8 _ _ hD7), by rw [List.length_replicate, sizeLine_eq]; omega, same_put hD (same_trans e7 (same_trans e8 e9)), ?_⟩
        rw [upd_same]
        show some (HO.lst (List.replicate i (V.bl true) ++ [V.bl (inV (optV (winS ts)) [V.non, V.str u])])) = _
        rw [iv, ← List.replicate_succ']
    · rintro H7 ⟨e7, hD7⟩
      rw [← lR] at hD7
      refine ⟨D, List.replicate rs.length true, rfl, SqL.of (by rw [List.map_replicate]; exact hD7), true, congrArg V.bl (bls_all _), iteF ?_⟩
      have e07 := same_trans e06 e7
      have hS7 := hS6.up e7
      have hp7 := e7 _ _ hp6
      have hx7 := e07 _ _ hx
      have ndx : d ≠ x := ne_of hd hx (by intro z; cases z)
      have nrx : r ≠ x := ne_of hR hx (by intro z; cases z)
      have npx : p ≠ x := ne_of hp7 hx7 (by intro z; cases z)
      -- self.domain, self.count, self.results
      refine ⟨_, rfl, _, rfl, x, C.C, dx, _, rfl, hx7, C.cl, C.nd, by decide, ?_⟩
      refine ⟨_, rfl, _, rfl, x, C.C, dx, _, rfl, upd_same, C.cl, C.nn, (by show 1 < 1000; decide), ?_⟩
      refine ⟨_, rfl, _, rfl, x, C.C, dx, _, rfl, upd_same, C.cl, C.nr, (by show 2 < 1000; decide), ?_⟩
      rw [upd_upd, upd_upd]
      have b7 : ButO x H (upd H7 x (.ins C.C dx (putF "results" (V.ref r) (putF "count" (V.int (k : Nat)) (putF "domain" (V.ref d) []))))) := ButO.put (ButO.of e07)
      have hx8 : upd H7 x (.ins C.C dx (putF "results" (V.ref r) (putF "count" (V.int (k : Nat)) (putF "domain" (V.ref d) [])))) x = some (.ins C.C dx (putF "results" (V.ref r) (putF "count" (V.int (k : Nat)) (putF "domain" (V.ref d) [])))) := upd_same
      have kp : ∀ {b : Addr} {o : HO}, H7 b = some o → b ≠ x → upd H7 x (.ins C.C dx (putF "results" (V.ref r) (putF "count" (V.int (k : Nat)) (putF "domain" (V.ref d) [])))) b = some o := fun {b o} h n => by
        rw [upd_ne n]
        exact h
      obtain ⟨ks, ek, e2k, hks⟩ := rows_frz hS7
      subst ek
      have hks8 : ∀ q ∈ ks, H q.1 = none ∧ Fz (upd H7 x (.ins C.C dx (putF "results" (V.ref r) (putF "count" (V.int (k : Nat)) (putF "domain" (V.ref d) []))))) q.1 (q.2.map V.str) := fun q hq => by
        obtain ⟨n0, o, h1, h2⟩ := hks q hq
        exact ⟨e4.free n0, o, kp h1 (ne_of h1 hx7 (by intro z; cases z)), h2⟩
      have hd8 := kp (e07 _ _ hd) ndx
      have hr8 := kp (e07 _ _ hR) nrx
      have hp8 := kp hp7 npx
      generalize upd H7 x (.ins C.C dx (putF "results" (V.ref r) (putF "count" (V.int (k : Nat)) (putF "domain" (V.ref d) [])))) = H8 at b7 hx8 hks8 hd8 hr8 hp8 ⊢
      -- the rows are tuples again
      have th := thawN_at (H := H8) fun q hq => (hks8 q hq).2
      have off : ∀ {b : Addr} {u : HO}, H8 b = some u → (∀ o v, u ≠ .frz o v) → thawN ks H8 b = some u := fun hb n => thawN_off (fun q hq => (hks8 q hq).2) hb n
      have b9 : ButO x H (thawN ks H8) := fun b o h n => by
        have h8 := b7 b o h n
        cases e : ks.find? (fun q => q.1 == b) with
        | none =>
          unfold thawN
          rw [e]
          exact h8
        | some q =>
          have m := List.mem_of_find?_eq_some e
          have ea : q.1 = b := beq_iff_eq.mp (by simpa using List.find?_some e)
          have z := (hks8 q m).1
          rw [ea, h] at z
          cases z
      refine ⟨thawN ks H8, thawN_ok hks8, ?_⟩
      have hx9 := off hx8 (fun _ _ z => nomatch z)
      have hd9 := off hd8 (fun _ _ z => nomatch z)
      have hr9 := off hr8 (fun _ _ z => nomatch z)
      have hp9 := off hp8 (fun _ _ z => nomatch z)
      generalize thawN ks H8 = H9 at th b9 hx9 hd9 hr9 hp9 ⊢
      -- self.result_of
      have lk : ks.length = rs.length := by
        have z := congrArg List.length e2k
        rw [List.length_map] at z
        rw [z]
        exact g.len.symm
      have nd : xs.Nodup := g.asc.imp fun {a b} h e => by rw [e, ltT_irr] at h; cases h
      refine ⟨_, rfl, _, rfl, p, r, ks, rs.map V.str, rfl, rfl, SqT.of hp9, SqT.of hr9, th, by rw [lk, List.length_map], by rw [e2k]; exact pts_nodup nd k, by omega, fun t ht => ?_⟩
      have hx10 : upd H9 t (.dT (KDz.dtOf ks (rs.map V.str))) x = some (.ins C.C dx (putF "results" (V.ref r) (putF "count" (V.int (k : Nat)) (putF "domain" (V.ref d) [])))) := by
        rw [upd_ne (ne_of_none hx9 ht)]
        exact hx9
      have e910 : Same H9 (upd H9 t (.dT (KDz.dtOf ks (rs.map V.str)))) := same_new ht
      have ntx : t ≠ x := fun z => by
        rw [z, hx9] at ht
        cases ht
      refine ⟨_, rfl, x, C.C, dx, _, rfl, hx10, C.cl, C.no, (by show 3 < 1000; decide), ?_⟩
      have htH : H t = none := by
        cases e : H t with
        | none => rfl
        | some o =>
          have z := b9 t o e ntx
          rw [ht] at z
          cases z
      refine q _ t (ButO.put (b9.then e910)) htH upd_same ⟨ks, ?_, ?_, ?_, e2k⟩
      · rw [upd_ne ndx]
        exact e910 _ _ hd9
      · rw [upd_ne nrx]
        exact e910 _ _ hr9
      · rw [upd_ne ntx, upd_same]
end
end K01
/-! raise C(e), C an own class two deep over Exception, with its own __init__. -/
namespace KQ
open PySem PySem.Spec PySem.W PyProof.Rows PySem.Calls L2 KG KX
section
variable {X : Cx} {CX : CXT} {e : Expr} {es : List Expr} {p pos : Pos} {ta : TA}
theorem pmk_ex {x : Str} {C fI : Addr} {k : Nat} {fd : FuncData} {ps : List Str} {sp : Sp} (T : ExC X.K C) (ty : typeIn X.K (.ref C) = some (.type "type")) (iC : findIn X.K (.ref C) "__init__" = some (some (.ref fI)))
    (tI : typeIn X.K (.ref fI) = some (.type "function")) (F1 : FnOk X.prog X.w X.K X.mg X.base CX k fI fd ps sp) (hr : Room (k + 1) X.A) (hb : L2.Binds X.K fd ps []) (hx : Passes CX X (fun _ _ _ => False)) (hg : Gl X x) (hm : X.mg x = some (.ref C))
    (ha : PA X (e :: es) ta) (hdb : (x == ("__debug__" : Str)) = false := by decide) (he : starEach (e :: es) X.env = (false, eval e X.env) :: starEach es X.env := by rfl) (hpl : (backTo pos (starEach es X.env)).any (·.1) = false := by rfl) :
    PMk X (.Call (.Name x p) (e :: es) [] pos) (tMkO C sp [] ta) := by
  intro pins s σ H Q I h
  obtain ⟨nm, q, N, bs, bm, sn, sub, ab, col, dd, k0, k1, k2, k3, k5, hC, hbm⟩ := T.cls
  apply wpAny_Call_Name_kw (ld_glob I hg hm ?_ hdb)
  apply callWith_K (h₀ := X.base) I.ok.mod.kin T.kp ?_ he hpl
  apply thn (ha.run pos pins s σ H _ I h)
  rintro us s1 ⟨vs, H1, I1, r, hl, q1⟩
  refine ⟨I1.kIn, ?_⟩
  show wpAny _ _ (call (.ref C) us) _ _ _
  obtain ⟨hp, g, dr, tk, os⟩ := s1
  have new : hp.objs.size ≤ hp.objs.size + 1 := Nat.le_succ _
  have kp : ∀ b o, hp.get? b = some o → ((hp.push (kdv_tup us)).push (HandSPX.excO C hp.objs.size)).get? b = some o := fun b o z => Heap.get?_push_of_some _ (Heap.get?_push_of_some _ z)
  have at_ : ((hp.push (kdv_tup us)).push (HandSPX.excO C hp.objs.size)).get? (hp.objs.size + 1) = some (HandSPX.excO C hp.objs.size) := by heap_get
  have J : Inv X pins σ (upd H1 (hp.objs.size + 1) (exo (hp.objs.size + 1) C none)) ⟨(hp.push (kdv_tup us)).push (HandSPX.excO C hp.objs.size), g, dr, tk, os⟩ :=
    I1.laid (a := hp.objs.size + 1) (o := exo (hp.objs.size + 1) C none) (h' := (hp.push (kdv_tup us)).push (HandSPX.excO C hp.objs.size)) (t' := tk) kp new (exo_ok at_)
  have hq := q1 (hp.objs.size + 1) (I1.hok.fresh new)
  have r2 : Vals (V.ref (hp.objs.size + 1) :: (vs ++ [])) (Value.ref (hp.objs.size + 1) :: us) := by
    rw [List.append_nil]
    exact .cons rfl r
  have len : ((Value.ref (hp.objs.size + 1) :: us) ++ []).length = ps.length := by
    rw [List.append_nil]
    have z := r2.length
    rw [F1.len _ _ _ _ hq] at z
    exact z.symm
  have bnd := hb ⟨(hp.push (kdv_tup us)).push (HandSPX.excO C hp.objs.size), g, dr, tk, os⟩ (Value.ref (hp.objs.size + 1) :: us) J.kIn len
  rw [List.append_nil] at bnd
  have hz : us.length ≤ sizeLine := by
    rw [← Paired.length r, sizeLine_eq]
    omega
  apply wpAny_call
  apply HandSPX.call_own PySem.F.excBase_Exception (fun Y => excTail_contains Y bm hbm) (I1.kIn _ _ hC) (looks_findIn I1.kIn iC) (fun self => bind_fn I1.kIn self tI) hz
  refine codeAny_mono (F1.run _ X.stack _ _ ⟨Value.ref (hp.objs.size + 1) :: us, []⟩ (Value.ref (hp.objs.size + 1) :: us) _ _ (fun _ _ _ => False) (hr.make C us []) (J.env0.make C us []) bnd r2 hq) ?_
  rintro (er | fl) s' z
  · exact hx pins σ _ _ er s' J z
  · cases fl with
    | ret u =>
      obtain ⟨v, H2, os2, bare2, un2, hok2, rv, ev, d, fs, ea, ed, hd1, q2⟩ := z
      subst ev
      obtain ⟨h2, g2, d2, t2, os3⟩ := s'
      exact ⟨rv, mk_end (raises_own T.bx ty) I1 new kp un2 hok2 os2 bare2 ea ed hd1 q2⟩
    | next => exact z.elim
    | brk => exact z.elim
    | cont => exact z.elim
end
end KQ
namespace KX
open PySem PySem.Spec PySem.W PyProof.Rows PySem.Calls
section
variable {M : Model} {A : Around} {E : Value → Shared → Prop} {h : Heap} {g : Array GenState} {d : Drawn} {t : Nat} {os : OsState}
variable {nm q : Str} {C N : Addr} {bs bm bmB : List Value} {hdct : Bool} {sn : List Str} {sub : List Value} {ab : Bool} {col : Option Bool} {dd : Option Addr} {k0 k1 k2 k3 k5 : Option Value} {B newId initId : String}
theorem check_newK (F : ExcBaseFacts B newId initId bmB) (hT : ∀ X : String, bm.contains (.type X) = bmB.contains (.type X)) {rest : List Value} {kn : Str} {kv : Value} {Q : Unit → Shared → Prop}
    (hC : h.get? C = some (excClassObj nm q C N bs bm hdct sn sub ab col dd k0 k1 k2 k3 k5 newId)) (hq : Q () ⟨h, g, d, t, os⟩) : wpAny M A (checkBuiltinCall newId ⟨.ref C :: rest, [(kn, kv)]⟩) Q E ⟨h, g, d, t, os⟩ := by
  have hc : (Value.ref C :: bm).contains (.type B) = true := by rw [List.contains_cons, hT, F.hasB, Bool.or_true]
  have hs := F.noStar
  simp only [checkBuiltinCall, F.newKind, F.newSplit, F.newRow]
  repeat (first | refine wpAny_madeBy_exc hC ?_ | refine wpAny_staticBase_exc hC ?_ | refine wpAny_loadPart_at hC ?_ | (refine wpAny_isSubtype_exc hC ?_; rw [hc]) | simp only [bne_self_eq_false, Bool.false_eq_true, if_false] | wp_step)
  exact hq
end
section
variable {prog : Program} {w : World} {A : Around} {E : Value → Shared → Prop} {R : Result → Shared → Prop} {h : Heap} {g : Array GenState} {d : Drawn} {t : Nat} {os : OsState}
variable {nm q : Str} {C N : Addr} {bs bm bmB : List Value} {hdct : Bool} {sn : List Str} {sub : List Value} {ab : Bool} {col : Option Bool} {dd : Option Addr} {k0 k1 k2 k3 k5 : Option Value} {B newId initId : String}
theorem newK (F : ExcBaseFacts B newId initId bmB) (hT : ∀ X : String, bm.contains (.type X) = bmB.contains (.type X)) {rest : List Value} {kn : Str} {kv : Value}
    (hC : h.get? C = some (excClassObj nm q C N bs bm hdct sn sub ab col dd k0 k1 k2 k3 k5 newId))
    (hq : R (.ok (.ret (.ref (h.objs.size + 1)))) ⟨(h.push { cls := .type "tuple", data := .seq rest.toArray }).push (HandSPX.excO C h.objs.size), g, d, t, os⟩) (hrest : rest.length ≤ sizeLine) :
    codeAny (model prog w) A (.builtin newId ⟨.ref C :: rest, [(kn, kv)]⟩) R ⟨h, g, d, t, os⟩ := by
  have he := F.ends
  have c1 : (Value.ref C :: bm).contains (.type B) = true := by rw [List.contains_cons, hT, F.hasB, Bool.or_true]
  have c2 : (Value.ref C :: bm).contains (.type "AttributeError") = false := by rw [List.contains_cons, hT, F.noAttr]; rfl
  have c3 : (Value.ref C :: bm).contains (.type "NameError") = false := by rw [List.contains_cons, hT, F.noName]; rfl
  apply codeAny_builtinAt F.entry
  unfold Builtin.«BaseException.__new__»
  refine PySem.wpAt_bind ?_
  show PySem.wpAt _ _ _ (stack >>= _) _ _ _
  refine PySem.wpAt_bind (PySem.wpAt_stack fun p below => PySem.wpAt_of_wpAny ?_)
  wp_walk
  refine PySem.wpAt_of_wpAny ?_
  rw [F.owner]
  repeat (first | with_reducible refine wpAny_loadPart_at hC ?_ | with_reducible refine wpAny_madeHere_exc F.canon hC ?_ | (with_reducible refine wpAny_isSubtype_exc hC ?_; first | rw [c1] | rw [c2] | rw [c3]) | wp_step)
  show R _ _
  rw [Heap.size_push]
  exact hq
theorem type_callK (F : ExcBaseFacts B newId initId bmB) (hT : ∀ X : String, bm.contains (.type X) = bmB.contains (.type X)) {rest : List Value} {kn : Str} {kv : Value} {fI : Addr} {Q : Fin → Shared → Prop}
    (hC : h.get? C = some (excClassObj nm q C N bs bm hdct sn sub ab col dd k0 k1 k2 k3 k5 newId))
    (hi : Looks (model prog w) h (typeLookup (.ref C) "__init__") (some (.ref fI))) (hb : ∀ self, Looks (model prog w) h (bindSpecial (.ref fI) self) (.ref fI, [self])) (hrest : rest.length ≤ sizeLine)
    (hq : codeAny (model prog w) A (.call (.ref fI) ⟨.ref (h.objs.size + 1) :: rest, [(kn, kv)]⟩)
      (fun r s' => match r with | .ok (.ret v) => v = .none ∧ Q (.done (.ret (.ref (h.objs.size + 1)))) s' | .ok _ => False | .error e => E e s')
      ⟨(h.push (kdv_tup rest)).push (HandSPX.excO C h.objs.size), g, d, t, os⟩) :
    wpAny (model prog w) A (Builtin.«type.__call__» ⟨.ref C :: rest, [(kn, kv)]⟩) Q E ⟨h, g, d, t, os⟩ := by
  repeat (first | with_reducible refine wpAny_madeBy_exc hC ?_ | with_reducible refine wpAny_loadPart_at hC ?_ | wp_step)
  refine codeAny_call_builtin_code (Code.quiet_builtin _ F.quiet) (check_newK F hT hC ?_)
  refine newK F hT hC ?_ hrest
  show wpAny _ _ _ _ _ _
  have kp : ∀ b o, h.get? b = some o → ((h.push (kdv_tup rest)).push (HandSPX.excO C h.objs.size)).get? b = some o := fun b o e => Heap.get?_push_of_some _ (Heap.get?_push_of_some _ e)
  have hC1 := kp _ _ hC
  have at_ : ((h.push (kdv_tup rest)).push (HandSPX.excO C h.objs.size)).get? (h.objs.size + 1) = some (HandSPX.excO C h.objs.size) := by heap_get
  have own : (Value.ref C :: bm).contains (.ref C) = true := by simp
  have i1 := hi.keeps kp
  have b1 := (hb (.ref (h.objs.size + 1))).keeps kp
  unfold isInstance
  repeat (first | with_reducible refine wpAny_loadPart_at at_ ?_ | (with_reducible refine wpAny_isSubtype_exc hC1 ?_; rw [own]) | wp_step)
  show wpAny _ _ (typeLookup (.ref C) _) _ _ _
  refine i1.at (wpAny_holding (wpAny_bind (b1.at ?_)))
  refine wpAny_bind (wpAny_call (codeAny_mono hq fun r s' z => ?_))
  rcases r with e | (v | _ | _ | _)
  · exact z
  all_goals try exact z.elim
  obtain ⟨rfl, z⟩ := z
  first
    | exact wpAny_pure (wpAny_pure z)
    | (wp_walk; exact z)
theorem call_ownK (F : ExcBaseFacts B newId initId bmB) (hT : ∀ X : String, bm.contains (.type X) = bmB.contains (.type X)) {rest : List Value} {kn : Str} {kv : Value} {fI : Addr}
    (hC : h.get? C = some (excClassObj nm q C N bs bm hdct sn sub ab col dd k0 k1 k2 k3 k5 newId))
    (hi : Looks (model prog w) h (typeLookup (.ref C) "__init__") (some (.ref fI))) (hb : ∀ self, Looks (model prog w) h (bindSpecial (.ref fI) self) (.ref fI, [self])) (hrest : rest.length ≤ sizeLine)
    (hq : codeAny (model prog w) (A.under (.builtin "type.__call__" ⟨.ref C :: rest, [(kn, kv)]⟩)) (.call (.ref fI) ⟨.ref (h.objs.size + 1) :: rest, [(kn, kv)]⟩) (InitBack (h.objs.size + 1) R)
      ⟨(h.push (kdv_tup rest)).push (HandSPX.excO C h.objs.size), g, d, t, os⟩) :
    codeAny (model prog w) A (.call (.ref C) ⟨rest, [(kn, kv)]⟩) R ⟨h, g, d, t, os⟩ := by
  have f1 := tc_lookup
  have f2 := tc_bind (.ref C)
  have ty : (⟨h, g, d, t, os⟩ : Shared).TypeIs (.ref C) "type" := ⟨_, hC, rfl⟩
  refine codeAny_of_tree ?_
  show wpAny _ _ (callAny (.ref C) _) _ _ _
  repeat (any_goals (first | with_reducible refine wpAny_loadPart_at hC ?_ | assumption | wp_step))
  refine ⟨rfl, ?_⟩
  refine codeAny_call_builtin_at (Code.quiet_builtin _ (by decide +kernel)) entry_typeCall ?_
  refine wpAny_check_type_call_sub hC (type_callK F hT hC hi hb hrest ?_)
  refine codeAny_mono hq fun r s' z => ?_
  rcases r with e | (v | _ | _ | _) <;> exact z
end
end KX
namespace KX
open PySem PySem.Spec PySem.W PyProof.Rows PySem.Calls L2 KG
section
variable {X : Cx} {pins : List (Addr × Obj)} {σ : L2.St} {H : Hp} {s : Shared} {a C : Addr} {f : Str} {y : V} {u : Value} {fs : List (Str × V)}
/-! ### C(k = e) -/
def tExMkK (C : Addr) (sp : Sp) (tk : TA) : TE := fun σ H Q => tk σ H fun vs H1 => ∃ v, vs = [v] ∧ ∀ a, H1 a = none → sp [.ref a, v] (upd H1 a (exo a C none)) (fun v H2 => v = .non ∧ Q (.ref a) H2) E0
/-- a def's one keyword finds its place -/
def KwOne (fd : FuncData) (ps : List Str) (kn : Str) : Prop := ∀ (s : Shared) (u v : Value), BindsTo s fd ⟨[u], [(kn, v)]⟩ (ps.zip [u, v])
theorem kwOne {K : Frag} {x qual : Str} {st : Stmt} {f : Addr} {fd : FuncData} {ps : List Str} {kn : Str} (F : Fun K x qual st f fd)
    (h : ∀ (kV doc pm : Value) (an : Option Addr) (cdv ct : Value) (u v : Value), bindArgs (fnOf x qual (defArgs st) (defBody st) (defScope st) .none kV doc pm an cdv ct) ⟨[u], [(kn, v)]⟩ = pure (ps.zip [u, v])) : KwOne fd ps kn := by
  obtain ⟨oc, od, kV, doc, pm, an, cdv, ct, osl, rfl, lk, hcd⟩ := F.ex
  exact fun s u v => .of_eq (h kV doc pm an cdv ct u v)
theorem pe_exmkK {CX : CXT} {x kn : Str} {fI : Addr} {k : Nat} {fd : FuncData} {ps : List Str} {sp : Sp} {kws : List Keyword} {tk : TA} {p pos : Pos} (T : ExC X.K C) (iC : findIn X.K (.ref C) "__init__" = some (some (.ref fI))) (tI : typeIn X.K (.ref fI) = some (.type "function"))
    (F1 : FnOk X.prog X.w X.K X.mg X.base CX k fI fd ps sp) (hr : Room (k + 1) X.A) (hb : KwOne fd ps kn) (hx : Passes CX X E0) (hg : Gl X x) (hm : X.mg x = some (.ref C)) (hkw : PK X kws tk) (hall : (backToKw pos (keywordEach kws X.env)).all (·.1.isSome) = true := by rfl)
    (hks : (backToKw pos (keywordEach kws X.env)).filterMap (·.1) = [kn] := by rfl) (hdb : (x == ("__debug__" : Str)) = false := by decide)
    (hpl : ((backTo pos (starEach [] X.env)).any (·.1) || (backToKw pos (keywordEach kws X.env)).any (·.1.isNone)) = false := by rfl) : PE X (.Call (.Name x p) [] kws pos) (tExMkK C sp tk) := by
  constructor
  intro pins s σ H Q I h
  apply wpAny_Call_Name_kw (ld_glob I hg hm ?_ hdb)
  apply callWith_KW0 (h₀ := X.base) I.ok.mod.kin T.kp hall ?_ hpl
  apply thn (hkw.run pos pins s σ H _ I h)
  rintro ws s1 ⟨zs, H1, I1, rz, v, ev, q⟩
  subst ev
  obtain ⟨u, eu, ru⟩ := vals1 rz
  subst eu
  refine ⟨I1.kIn, ?_⟩
  rw [hks]
  show wpAny _ _ (call (.ref C) [] [(kn, u)]) _ _ _
  obtain ⟨nm, qn, N, bs, bm, sn, sub, ab, col, dd, k0, k1, k2, k3, k5, hC, hbm⟩ := T.cls
  obtain ⟨hp, g, dr, tkn, os⟩ := s1
  have new : hp.objs.size ≤ hp.objs.size + 1 := Nat.le_succ _
  have kp : ∀ b o, hp.get? b = some o → ((hp.push (kdv_tup [])).push (HandSPX.excO C hp.objs.size)).get? b = some o := fun b o e => Heap.get?_push_of_some _ (Heap.get?_push_of_some _ e)
  have at_ : ((hp.push (kdv_tup [])).push (HandSPX.excO C hp.objs.size)).get? (hp.objs.size + 1) = some (HandSPX.excO C hp.objs.size) := by heap_get
  have J : Inv X pins σ (upd H1 (hp.objs.size + 1) (exo (hp.objs.size + 1) C none)) ⟨(hp.push (kdv_tup [])).push (HandSPX.excO C hp.objs.size), g, dr, tkn, os⟩ :=
    I1.laid (a := hp.objs.size + 1) (o := exo (hp.objs.size + 1) C none) (h' := (hp.push (kdv_tup [])).push (HandSPX.excO C hp.objs.size)) (t' := tkn) kp new (exo_ok at_)
  have hq := q (hp.objs.size + 1) (I1.hok.fresh new)
  have r2 : Vals [V.ref (hp.objs.size + 1), v] [Value.ref (hp.objs.size + 1), u] := .cons rfl (.cons ru .nil)
  apply wpAny_call
  apply call_ownK PySem.F.excBase_Exception (fun Y => excTail_contains Y bm hbm) (I1.kIn _ _ hC) (looks_findIn I1.kIn iC) (fun self => bind_fn I1.kIn self tI) (by rw [sizeLine_eq]; decide)
  refine codeAny_mono (F1.run _ X.stack _ _ ⟨[Value.ref (hp.objs.size + 1)], [(kn, u)]⟩ [Value.ref (hp.objs.size + 1), u] _ _ E0 (hr.make C [] [(kn, u)]) (J.env0.make C [] [(kn, u)]) (hb _ _ _) r2 hq) ?_
  rintro (er | fl) s' z
  · exact hx pins σ _ _ er s' J z
  · cases fl with
    | ret u2 =>
      obtain ⟨v2, H', I3, rv, ev, q3⟩ := Inv.after J z
      subst ev
      exact ⟨rv, ⟨V.ref (hp.objs.size + 1), H', I3, rfl, q3⟩⟩
    | next => exact z.elim
    | brk => exact z.elim
    | cont => exact z.elim
/-- self.f = w, the whole of an __init__ of two parameters -/
def spSet (C : Addr) (f : Str) : Sp := fun vs H Q _ => ∃ (a : Addr) (y : V), vs = [.ref a, y] ∧ H a = some (exo a C none) ∧ ∀ dx, H dx = none → dx ≠ a → Q .non (upd (upd H dx (exd dx [(f, y)])) a (exo a C (some dx)))

/-! ### C(), a class without an __init__ of its own -/
def tExMk0 (C : Addr) : TE := fun _ H Q => ∀ a, H a = none → Q (.ref a) (upd H a (exo a C none))
theorem pe_exmk0 {x : Str} {p pos : Pos} (q : excIn X.K C exTl "Exception.__new__" = true) (kC : keepIn X.K (.ref C) = true) (hg : Gl X x) (hm : X.mg x = some (.ref C)) (hdb : (x == ("__debug__" : Str)) = false := by decide) : PE X (.Call (.Name x p) [] [] pos) (tExMk0 C) := by
  constructor
  intro pins s σ H Q I h
  apply wpAny_Call_Name_kw (ld_glob I hg hm ?_ hdb)
  refine callWith_K0 I.kIn kC ?_
  show wpAny _ _ (call (.ref C) []) _ _ _
  obtain ⟨bm, N, nm, qn, bs, hdct, sn, sub, ab, col, dd, k0, k1, k2, k3, k5, mN, hC, hN, hni, T⟩ := exc_obj I.kIn q
  refine wpAny_call_exc_subT PySem.F.excBase_Exception T hC hN hni (fun h' a hm => ?_) (by show 0 ≤ sizeLine; exact Nat.zero_le _)
  have hn : H a = none := I.hok.gone hm.new
  obtain ⟨t, ht, _, _⟩ := hm.there
  exact ⟨.ref a, upd H a (exo a C none), I.laidN hm.keeps hm.new hn (exo_ok ht), rfl, h a hn⟩

/-! ### e.f -/
def tExGet (K : Frag) (f : Str) (te : TE) : TE := fun σ H Q => te σ H fun x H1 => ∃ (a C : Addr) (fs : List (Str × V)) (v : V), x = .ref a ∧ ExC K C ∧ findIn K (.ref C) f = some none ∧ ExAt H1 a C fs ∧ fs.lookup f = some v ∧ Q v H1
theorem ex_inst (I : Inv X pins σ H s) (h : ExAt H a C fs) : ∃ ox od, InstAt s.heap a ox C od ∧ ∀ (n : Str) (v : V), fs.lookup n = some v → ∃ u o, od = some o ∧ lookIn n o = some (some u) ∧ RelV v u := by
  rcases h with ⟨dx, h1, h2⟩ | ⟨h0, h1⟩
  · obtain ⟨t1, ho⟩ := exo_at I.hok h1
    obtain ⟨mA, hns, hr⟩ := exd_at I.hok h2
    obtain ⟨od, hod, hl⟩ := lookIn_ns hns
    refine ⟨_, some od, ⟨ho, rfl, rfl, hod⟩, fun n v e => ?_⟩
    obtain ⟨u, hu, ru⟩ := RelO.some_of (v := v) (o := mA n) (by rw [← e]; exact hr n)
    exact ⟨u, od, rfl, by rw [hl, hu], ru⟩
  · obtain ⟨t1, ho⟩ := exo_at I.hok h1
    exact ⟨_, none, ⟨ho, rfl, rfl, trivial⟩, fun n v e => by rw [h0] at e; cases e⟩
theorem pe_exget {e : Expr} {te : TE} {pos : Pos} (he : PE X e te) (hb : attributeBase e f X.env (eval e X.env) = eval e X.env := by rfl) : PE X (.Attribute e f pos) (tExGet X.K f te) := by
  constructor
  intro pins s σ H Q I h
  apply attr_of hb
  apply thn (he.run pins s σ H _ I h)
  rintro u s1 ⟨x, H1, I1, rx, a, C, fs, v, ex, T, hno, ea, l, q⟩
  subst ex
  obtain rfl : u = Value.ref a := rx
  obtain ⟨ox, od, J, hf⟩ := ex_inst I1 ea
  obtain ⟨u, o, eo, hl, ru⟩ := hf f v l
  subst eo
  exact HandSPX.exc_get I1.kIn J T.ga T.gg T.bx (findObj_own T.hd hno rfl hl) (handed_of ru) ⟨v, H1, I1.tok _, ru, q⟩
end
end KX
/-! x(e, ..) and x(k = e), x a local that holds an instance. -/
namespace KCo
open PySem PySem.Spec PyProof.Rows L2 StX
section
variable {M : Model} {A : Around} {E : Value → Shared → Prop} {s : Shared} {a : Addr} {pos : Pos} {Q : Value → Shared → Prop} {args : List (Bool × Sem Value)} {kws : List (Option Str × Sem Value)}
/-- a call whose callee is an instance: by position and by name -/
theorem callI_of (hp : (args.any (·.1) || kws.any (·.1.isNone)) = false)
    (h : wpAny M A (evalArgs (.ref a) true args kws) (fun z t => (∃ C ox od, PySem.W.InstAt t.heap a ox C od ∧ ox.data = .plain) ∧ wpAny M A (call (.ref a) z.pos z.kw) Q E t) E s) : wpAny M A (callWith pos (.ref a) [] args kws) Q E s := by
  unfold callWith
  apply wpAny_bind
  apply wpAny_holding
  apply wpAny_mono h ?_ fun _ _ y => y
  rintro z t ⟨⟨C, ox, od, J, hd⟩, w⟩
  apply wpAny_bind
  apply wpAny_standAt
  have L := PySem.W.kco_keeper (M := M) J hd
  simp only [hp]
  apply wpAny_bind
  apply L.here
  have fin : ∀ {m : Sem Value}, wpAny M A m Q E t → wpAny M A (m >>= fun r => holding [r] point >>= fun _ => pure r) Q E t := by
    intro m w
    apply wpAny_bind
    apply wpAny_mono w ?_ fun _ _ y => y
    intro r t2 q
    exact wpAny_bind (wpAny_holding (wpAny_point (wpAny_pure q)))
  apply fin
  exact wpAny_operateT w
end
/-- x(e, ..) -/
def tCallI (C : Addr) (sp : Sp) (E : XK) (tf : TE) (t : TA) : TE := fun σ H Q => tf σ H fun y H1 => ∃ a, y = V.ref a ∧ t σ H1 fun vs H2 => (∃ dx fs, H2 a = some (.ins C dx fs)) ∧ sp (V.ref a :: vs) H2 Q E
/-- x(k = e) -/
def tCallIK (C : Addr) (sp : Sp) (E : XK) (tf : TE) (tk : TA) : TE := fun σ H Q => tf σ H fun y H1 => ∃ a, y = V.ref a ∧ tk σ H1 fun vs H2 => ∃ v, vs = [v] ∧ (∃ dx fs, H2 a = some (.ins C dx fs)) ∧ sp [V.ref a, v] H2 Q E
/-- x(e, ..), what is raised is wished for at the slots -/
def tCallIS (C : Addr) (sp : Sp) (E : L2.St → XK) (tf : TE) (t : TA) : TE := fun σ H Q => tf σ H fun y H1 => ∃ a, y = V.ref a ∧ t σ H1 fun vs H2 => (∃ dx fs, H2 a = some (.ins C dx fs)) ∧ sp (V.ref a :: vs) H2 Q (E σ)
section
variable {X : Cx} {CX : CXT} {k : Nat} {g C : Addr} {fd : FuncData} {ps : List Str} {sp : Sp} {E : XK} {ES : L2.St → XK} {x kn : Str} {p pos : Pos} {e : Expr} {es : List Expr} {kws : List Keyword} {tf : TE} {t tk : TA}
theorem run_callI {pins : List (Addr × Obj)} {σ : L2.St} {H : Hp} {s : Shared} {Q : VK} {a : Addr} {ags : Args} {us : List Value} {vs : List V} (c : CallO X.K C g) (F : FnOk X.prog X.w X.K X.mg X.base CX k g fd ps sp) (hr : Room k X.A)
    (hx : ∀ (e : Value) (s' : Shared), CX X.stack H s E e s' → X.xe e s') (I : Inv X pins σ H s) (hi : ∃ dx fs, H a = some (.ins C dx fs)) (hb : BindsTo s fd ⟨.ref a :: ags.pos, ags.kw⟩ (ps.zip us)) (r : Vals vs us) (h : sp vs H Q E) :
    wpAny (model X.prog X.w) X.A (call (.ref a) ags.pos ags.kw) (EP X pins σ Q) X.xe s := by
  obtain ⟨dx, fs, hi⟩ := hi
  obtain ⟨ox, od, J, hd⟩ := insC_at I (.inr ⟨dx, fs, hi⟩)
  apply wpAny_call
  apply PySem.W.kco_code I.kIn J hd c.at_ c.fn c.fi
  refine codeAny_mono (F.run X.A X.stack s H ⟨.ref a :: ags.pos, ags.kw⟩ us vs Q E hr I.env0 hb r h) ?_
  rintro (er | fl) s' z
  · exact hx er s' z
  · cases fl with
    | ret u => exact I.after z
    | next => exact z.elim
    | brk => exact z.elim
    | cont => exact z.elim
theorem insOut {pins : List (Addr × Obj)} {σ : L2.St} {H : Hp} {s : Shared} {a : Addr} (I : Inv X pins σ H s) (hi : ∃ dx fs, H a = some (.ins C dx fs)) : ∃ C ox od, PySem.W.InstAt s.heap a ox C od ∧ ox.data = .plain := by
  obtain ⟨dx, fs, hi⟩ := hi
  obtain ⟨ox, od, J, hd⟩ := insC_at I (.inr ⟨dx, fs, hi⟩)
  exact ⟨C, ox, od, J, hd⟩
theorem pe_callIS (hf : PE X (.Name x p) tf) (c : CallO X.K C g) (F : FnOk X.prog X.w X.K X.mg X.base CX k g fd ps sp) (hr : Room k X.A) (hb : L2.Binds X.K fd ps []) (hx : ∀ σ, PassesAt CX X σ (ES σ)) (ha : PA X (e :: es) t)
    (he : starEach (e :: es) X.env = (false, eval e X.env) :: starEach es X.env := by rfl) (hpl : (backTo pos (starEach es X.env)).any (·.1) = false := by rfl) : PE X (.Call (.Name x p) (e :: es) [] pos) (tCallIS C sp ES tf t) := by
  refine ⟨fun pins s σ H Q I h => ?_⟩
  refine wpAny_Call_Name_kw (thn (hf.run pins s σ H _ I h) fun u s1 ⟨y, H1, I1, ry, a, ey, q⟩ => ?_)
  subst ey
  obtain rfl : u = Value.ref a := ry
  have pl : (((backTo pos (starEach (e :: es) X.env)).any (·.1)) || (([] : List (Option Str × Sem Value)).any (·.1.isNone))) = false := by
    rw [he]
    show ((false || (backTo pos (starEach es X.env)).any (·.1)) || false) = false
    rw [hpl]
    rfl
  refine callI_of pl ?_
  have z := ha.run pos pins s1 σ H1 _ I1 q
  rw [he] at z ⊢
  refine PySem.Calls.evalArgs_plain (thn z fun us s2 ⟨vs, H2, I2, r, hi, q2⟩ => ⟨insOut I2 hi, ?_⟩)
  have r2 : Vals (V.ref a :: vs) (Value.ref a :: us) := .cons rfl r
  have len : ((Value.ref a :: us) ++ []).length = ps.length := by
    rw [List.append_nil, ← F.len _ _ _ _ q2]
    exact r2.length.symm
  have bnd := hb s2 (Value.ref a :: us) I2.kIn len
  rw [List.append_nil] at bnd
  exact run_callI (ags := ⟨us, []⟩) c F hr (fun e s' z => hx σ pins H2 s2 e s' I2 z) I2 hi bnd r2 q2
theorem pe_callIK (hf : PE X (.Name x p) tf) (c : CallO X.K C g) (F : FnOk X.prog X.w X.K X.mg X.base CX k g fd ps sp) (hr : Room k X.A) (hb : KX.KwOne fd ps kn) (hx : Passes CX X E) (hkw : PK X kws tk)
    (hall : (backToKw pos (keywordEach kws X.env)).all (·.1.isSome) = true := by rfl) (hks : (backToKw pos (keywordEach kws X.env)).filterMap (·.1) = [kn] := by rfl)
    (hpl : ((backTo pos (starEach [] X.env)).any (·.1) || (backToKw pos (keywordEach kws X.env)).any (·.1.isNone)) = false := by rfl) : PE X (.Call (.Name x p) [] kws pos) (tCallIK C sp E tf tk) := by
  refine ⟨fun pins s σ H Q I h => ?_⟩
  refine wpAny_Call_Name_kw (thn (hf.run pins s σ H _ I h) fun u s1 ⟨y, H1, I1, ry, a, ey, q⟩ => ?_)
  subst ey
  obtain rfl : u = Value.ref a := ry
  refine callI_of hpl (evalArgs_kw2_nil hall ?_)
  refine thn (hkw.run pos pins s1 σ H1 _ I1 q) ?_
  rintro us s2 ⟨vs, H2, I2, r, v, ev, hi, q2⟩
  subst ev
  obtain ⟨u, eu, ru⟩ := vals1 r
  subst eu
  refine ⟨insOut I2 hi, ?_⟩
  rw [hks]
  exact run_callI (ags := ⟨[], [(kn, u)]⟩) c F hr (fun e s' z => hx pins σ H2 s2 e s' I2 z) I2 hi (hb _ _ _) (.cons (show L2.RelV (V.ref a) (Value.ref a) from rfl) (.cons ru .nil)) q2
end
end KCo
/-! Vote.__call__: the value or the error. -/
namespace K01
open PySem PySem.Spec PyProof.Rows L2 KG KS KA KX KIa KFz
abbrev s_noInit : Stmt := inCls 3 0
def lookS (S : List (List Str)) (vs : List Str) (L : List Str) : Option Str := ((S.zip vs).find? fun p => decide (p.1 = L)).map (·.2)
theorem look_in : ∀ {S : List (List Str)} {vs : List Str} {L : List Str}, S.length = vs.length → L ∈ S → ∃ v ∈ vs, lookS S vs L = some v
  | [], _, _, _, h => nomatch h
  | s :: S, [], _, l, _ => nomatch l
  | s :: S, v :: vs, L, l, h => by
    unfold lookS
    rw [List.zip_cons_cons, List.find?_cons]
    by_cases e : s = L
    · rw [decide_eq_true e]
      exact ⟨v, List.mem_cons_self, rfl⟩
    · rw [decide_eq_false e]
      obtain ⟨u, hu, k⟩ := look_in (S := S) (vs := vs) (L := L) (Nat.succ.inj l) ((List.mem_cons.mp h).resolve_left fun z => e z.symm)
      exact ⟨u, List.mem_cons_of_mem _ hu, k⟩
theorem val_look : ∀ (ks : List (Addr × List Str)) (vs : List Str) (L : List Str), valV (KDz.dtOf ks (vs.map V.str)) (KDz.entK L) = (lookS (ks.map (·.2)) vs L).map V.str
  | [], _, _ => rfl
  | k :: ks, [], _ => by
    simp [KDz.dtOf, lookS, valV]
  | k :: ks, v :: vs, L => by
    have ih := val_look ks vs L
    unfold KDz.dtOf lookS at ih ⊢
    rw [List.map_cons, List.map_cons, List.map_cons, List.zip_cons_cons, List.zip_cons_cons, List.find?_cons]
    by_cases e : k.2 = L
    · rw [valV_pos (by rw [e]), decide_eq_true e]
      rfl
    · rw [valV_neg (fun z => e (KDz.entK_inj z)), decide_eq_false e]
      exact ih
inductive GrK (K : PySem.W.Frag) (H : Hp) : V → Option (List (Option Str)) → Prop
  | tup {a : Addr} {xs : List V} {os : List (Option Str)} : SqT K H a xs → W.EachIs (ItK K H) xs os → xs.length ≤ 60 → GrK K H (.ref a) (some os)
  | non : GrK K H .non none
  | bl (b : Bool) : GrK K H (.bl b) none
  | str (x : Str) : GrK K H (.str x) none
  | int (n : Int) : GrK K H (.int n) none
  | lst {a : Addr} {xs : List V} : H a = some (.lst xs) → GrK K H (.ref a) none
  | dct {a : Addr} {kvs : List (Key × V)} : H a = some (.dK kvs) → GrK K H (.ref a) none
theorem GrK.up {K : PySem.W.Frag} {H H' : Hp} {v : V} {g : Option (List (Option Str))} (e : Same H H') (h : GrK K H v g) : GrK K H' v g := by
  cases h with
  | tup hs hi l => exact .tup (same_seqT e hs) (each_and hi fun a b _ z => z.same e) l
  | non => exact .non
  | bl b => exact .bl b
  | str x => exact .str x
  | int n => exact .int n
  | lst h => exact .lst (e _ _ h)
  | dct h => exact .dct (e _ _ h)
/-- which is no tuple -/
theorem GrK.no {K : PySem.W.Frag} {H : Hp} {v : V} (h : GrK K H v none) : ∃ t, TyX K H v t ∧ PySem.W.kitOne K t (.type "tuple") = some false := by
  cases h with
  | non => exact ⟨_, .base .non, kit_ty (by decide +kernel)⟩
  | bl b => exact ⟨_, .base (.bl b), kit_ty (by decide +kernel)⟩
  | str x => exact ⟨_, .base (.str x), kit_ty (by decide +kernel)⟩
  | int n => exact ⟨_, .base (.int n), kit_ty (by decide +kernel)⟩
  | lst h => exact ⟨_, .base (.lst h), kit_ty (by decide +kernel)⟩
  | dct h => exact ⟨_, .base (.dK h), kit_ty (by decide +kernel)⟩
theorem all_in {K : PySem.W.Frag} {H : Hp} {ds : List Str} : ∀ {xs : List V} {os : List (Option Str)}, W.EachIs (ItK K H) xs os → (os.all fun o => inIt o ds) = true → ∃ g : List Str, xs = g.map V.str ∧ os = g.map some ∧ ∀ y ∈ g, y ∈ ds
  | _, _, .nil, _ => ⟨[], rfl, rfl, fun _ z => nomatch z⟩
  | _, _, .cons (a := v) (b := o) r t, h => by
    rw [List.all_cons, Bool.and_eq_true] at h
    obtain ⟨h1, h2⟩ := h
    obtain ⟨g, e1, e2, e3⟩ := all_in t h2
    cases r with
    | str x =>
      rw [inIt_some] at h1
      exact ⟨x :: g, by rw [List.map_cons, e1], by rw [List.map_cons, e2], fun y hy => (List.mem_cons.mp hy).elim (fun z => by rw [z]; exact of_decide_eq_true h1) (e3 y)⟩
    | int _ => rw [inIt_none] at h1; cases h1
    | bl _ => rw [inIt_none] at h1; cases h1
    | non => rw [inIt_none] at h1; cases h1
    | lst _ => rw [inIt_none] at h1; cases h1
    | tup _ => rw [inIt_none] at h1; cases h1
    | dct _ => rw [inIt_none] at h1; cases h1
/-- NoVote -/
structure ErC (K : PySem.W.Frag) (mg : Str → Option Value) where
  C : Addr
  g : mg "NoVote" = some (.ref C)
  T : ExC K C
  a : Addr
  d : FuncData
  F : Fun K "__init__" "NoVote.__init__" s_noInit a d
  iC : PySem.W.findIn K (.ref C) "__init__" = some (some (.ref a))
  tI : PySem.W.typeIn K (.ref a) = some (.type "function")
  nf : PySem.W.findIn K (.ref C) "word" = some none
  ty : PySem.W.typeIn K (.ref C) = some (.type "type")
  ex : PySem.W.exmOne K (.ref C) (.ref C) = some true
/-- a vote at o -/
def VtAt (C : Addr) (H : Hp) (o : Addr) (xs : List Str) (k : Nat) (rs : List Str) : Prop := ∃ dx d r t, H o = some (.ins C dx (vtFs d k r t)) ∧ VtIn H d r t xs k rs
theorem VtIn.up {H H' : Hp} {d r t : Addr} {xs rs : List Str} {k : Nat} (h : VtIn H d r t xs k rs) (e : Same H H') : VtIn H' d r t xs k rs := by
  obtain ⟨ks, h1, h2, h3, h4⟩ := h
  exact ⟨ks, e _ _ h1, e _ _ h2, e _ _ h3, h4⟩
theorem VtAt.up {C : Addr} {H H' : Hp} {o : Addr} {xs rs : List Str} {k : Nat} (h : VtAt C H o xs k rs) (e : Same H H') : VtAt C H' o xs k rs := by
  obtain ⟨dx, d, r, t, h1, h2⟩ := h
  exact ⟨dx, d, r, t, e _ _ h1, h2.up e⟩
/-- what is due: the word of the error, or the value -/
def vdue (xs : List Str) (k : Nat) (rs : List Str) : Option (List (Option Str)) → Sum Str Str
  | none => .inl "count"
  | some os => if os.length ≠ k then .inl "count" else if (os.all fun o => inIt o xs) = true then .inr ((lookS (ptsL k xs) rs (os.filterMap id)).getD Str.empty) else .inl "domain"
/-- vote(some): the value, or the error -/
def spVC (K : PySem.W.Frag) (C N : Addr) : Sp := fun vs H Q E => ∃ (o : Addr) (v : V) (xs rs : List Str) (k : Nat) (g : Option (List (Option Str))), vs = [.ref o, v] ∧ VtAt C H o xs k rs ∧ VGood xs k rs ∧ GrK K H v g ∧ (∀ u, vdue xs k rs g = .inr u → ∃ (a : Addr) (gs : List Str), v = .ref a ∧ g = some (gs.map some) ∧ H a = some (.tup (gs.map V.str))) ∧
  (∀ u H', vdue xs k rs g = .inr u → u ∈ rs → Same H H' → Q (.str u) H') ∧ ∀ wd d H', vdue xs k rs g = .inl wd → Same H H' → H d = none → H' d = some (.xd [(("word" : Str), V.str wd)]) → E (.ref N) (some d) H'
theorem pts_mem {xs : List Str} : ∀ (k : Nat) (g : List Str), g.length = k → (∀ y ∈ g, y ∈ xs) → g ∈ ptsL k xs := by
  intro k
  induction k with
  | zero =>
    intro g h _
    rw [List.eq_nil_of_length_eq_zero h]
    exact List.mem_singleton.mpr rfl
  | succ k ih =>
    intro g h sub
    obtain ⟨q, c, rfl⟩ : ∃ q c, g = q ++ [c] := ⟨g.dropLast, g.getLast (fun z => by rw [z] at h; cases h), (List.dropLast_concat_getLast _).symm⟩
    rw [List.length_append] at h
    have hq := ih q (by simpa using h) fun y hy => sub y (List.mem_append_left _ hy)
    unfold ptsL prods
    rw [List.replicate_succ', List.foldl_append]
    exact List.mem_flatMap.mpr ⟨q, hq, List.mem_map.mpr ⟨c, sub c (List.mem_append_right _ List.mem_cons_self), rfl⟩⟩
theorem fm_some : ∀ g : List Str, (g.map some).filterMap id = g
  | [] => rfl
  | x :: g => by
    rw [List.map_cons, List.filterMap_cons_some (by rfl), fm_some g]
theorem vdue_in {xs rs : List Str} {k : Nat} (G : VGood xs k rs) {g : List Str} (sub : ∀ y ∈ g, y ∈ xs) (l : g.length = k) : ∃ v ∈ rs, lookS (ptsL k xs) rs g = some v ∧ vdue xs k rs (some (g.map some)) = .inr v := by
  obtain ⟨v, hv, e⟩ := look_in (vs := rs) G.len.symm (pts_mem k g l sub)
  refine ⟨v, hv, e, ?_⟩
  show (if (g.map some).length ≠ k then Sum.inl ("count" : Str) else if ((g.map some).all fun o => inIt o xs) = true then .inr ((lookS (ptsL k xs) rs ((g.map some).filterMap id)).getD Str.empty) else .inl "domain") = .inr v
  rw [if_neg (by rw [List.length_map]; exact fun z => z l), if_pos ((all_texts g xs).trans (decide_eq_true sub)), fm_some, e]
  rfl
section
variable {P : Program} {w : World} {K : PySem.W.Frag} {mg : Str → Option Value} {base : Heap}
theorem sc_noInit : FnScope ["self", "word"] ["self", "word"] (defScope s_noInit) := ⟨rfl, rfl, rfl, by decide +kernel, rfl, by decide +kernel, by decide +kernel⟩
theorem ok_noInit (E : ErC K mg) : FnOk P w K mg base CX0 1 E.a E.d ["self", "word"] (spSet E.C "word") := by
  refine E.F.ok sc_noInit (fun vs H Q E h => ?_) (fun cdv A outer s H vs Q E' hr h => ?_)
  · obtain ⟨a, y, rfl, _⟩ := h
    rfl
  · obtain ⟨a, y, rfl, ha, q⟩ := h
    exact ⟨_, (pss_one (ps_exset (pv 0) (pv 1))), ⟨_, rfl, _, rfl, a, E.C, rfl, E.T, E.nf, ha, fun dx hd nd => q dx hd nd⟩⟩
theorem sc_vtCall : FnScope ["self", "some"] ["self", "some"] (defScope s_vtCall) := ⟨rfl, rfl, rfl, by decide +kernel, rfl, by decide +kernel, by decide +kernel⟩
theorem ok_vtCall (B : Bz mg) (f : MtF K "__call__" "Vote.__call__" s_vtCall) {fI : Addr} (C : VtC K mg fI) (N : ErC K mg) (fr : FnF K mg "is_row" "is_row" s_is_row) :
    FnOk P w K mg base (L2.CX P w) 3 f.a f.d ["self", "some"] (spVC K C.C N.C) := by
  have G1 := ok_is_rowA (P := P) (w := w) (base := base) B.toBs fr
  have b1 : L2.Binds K fr.d ["thing", "domain", "length"] [] := fr.F.binds fun _ _ _ _ _ _ us hl => match us, hl with | [_, _, _], _ => rfl
  have G3 := ok_noInit (P := P) (w := w) (base := base) N
  have b3 : L2.Binds K N.d ["self", "word"] [] := N.F.binds fun _ _ _ _ _ _ us hl => match us, hl with | [_, _], _ => rfl
  refine f.F.okX sc_vtCall (fun vs H Q E h => ?_) (fun cdv A outer s H vs Q E hr h => ?_)
  · obtain ⟨o, v, xs, rs, k, g, rfl, _⟩ := h
    rfl
  · obtain ⟨o, v, xs, rs, k, g, rfl, hO, G, hg, htv, qv, qe⟩ := h
    obtain ⟨dx, d, r, t, ho, ks, hd, hR, ht, eks⟩ := hO
    have hu64 := hr.units
    have hu := hu_of hr
    have hr1 : Room 1 _ := hr.mono (by omega)
    refine ⟨_, (pss_cons
      (ps_if (PW.pt (pw_or (pt_not (pt_val (pe_callB call_isi (by rfl) B.n_isinstance (by decide +kernel) (pa_cons (pv 1) (pa_cons (pe_bltn (v := .ty "tuple") rfl B.n_tuple (by decide +kernel) rfl) pa_nil)))))
          (pw_or1 (pt_cmpR op_ne (pe_callB call_len (by rfl) B.n_len (by decide +kernel) (pa_cons (pv 1) pa_nil)) (pe_fld (pv 0) rfl) (nomark _)))))
        (pss_one
          (ps_raise (W := fun cls d _ H => E cls d H) rfl (takes_of rfl rfl rfl rfl) (KQ.pmk_ex N.T N.ty N.iC N.tI G3 hr b3 pass0 rfl N.g (pa_cons pe_str pa_nil))))
        pss_nil)
    (pss_cons
      (ps_if (pt_not (pt_val (pe_call G1 hr1 rfl fr.g fr.F.kp b1 .nil pass0 (pa_cons (pv 1) (pa_cons (pe_fld (pv 0) rfl) (pa_cons (pe_fld (pv 0) rfl) pa_nil))))))
        (pss_one
          (ps_raise (W := fun cls d _ H => E cls d H) rfl (takes_of rfl rfl rfl rfl) (KQ.pmk_ex N.T N.ty N.iC N.tI G3 hr b3 pass0 rfl N.g (pa_cons pe_str pa_nil))))
        pss_nil)
    (pss_one
      (ps_ret (pe_dget hu (pe_fld (pv 0) rfl) (pv 1) (fun _ _ => rfl)))))), ?_⟩
    -- the error
    have err : ∀ (wd : Str), vdue xs k rs g = .inl wd → ∀ H1, Same H H1 → (tMkO N.C (spSet N.C "word") [] (tCons (fun σ H Q => Q (V.str wd) H) tNil)) (start ["self", "some"] [.ref o, v]) H1 fun cls d H' => E cls d H' := fun wd hdu H1 e1 => by
      refine ⟨by show 1 ≤ 1000; decide, fun a ha => ⟨a, .str wd, rfl, upd_same, fun dd hdd ndd => ⟨rfl, dd, _, upd_same, by rw [upd_ne ndd, upd_same], ?_, ?_⟩⟩⟩
      · rw [upd_ne ndd] at hdd
        exact hdd
      · have hdd1 : H1 dd = none := by
          rw [upd_ne ndd] at hdd
          exact hdd
        refine qe wd dd _ hdu (fun b u h => ?_) (e1.free hdd1) upd_same
        have h1 := e1 _ _ h
        have nb : b ≠ dd := ne_of_none h1 hdd1
        have na : b ≠ a := ne_of_none h1 ha
        rw [upd_ne nb, del_ne na, upd_ne na, upd_ne nb, upd_ne na]
        exact h1
    cases g with
    | none =>
      obtain ⟨t, ty, kt⟩ := hg.no
      exact ⟨_, rfl, _, _, _, _, false, rfl, .ty "tuple", ty, kt, false, rfl, iteT (err _ rfl H (fun _ _ e => e))⟩
    | some os =>
      obtain ⟨a, vs, rfl, hs, hi, l60⟩ : ∃ a vs, v = .ref a ∧ SqT K H a vs ∧ W.EachIs (ItK K H) vs os ∧ vs.length ≤ 60 := by
        cases hg with
        | tup h1 h2 h3 => exact ⟨_, _, rfl, h1, h2, h3⟩
      have lo : vs.length = os.length := hi.length
      refine ⟨_, rfl, _, _, _, _, true, rfl, .ty "tuple", tyT hs, kit_ty (by decide +kernel), true, rfl, iteF ?_⟩
      refine ⟨_, rfl, .ref a, vs.length, rfl, .inr ⟨_, hs, rfl⟩, _, rfl, o, C.C, dx, _, _, rfl, ho, C.cl, C.nn, rfl, rfl, _, rfl, ite2 (fun c => ?_) fun c => ?_⟩
      · have nk : os.length ≠ k := fun z => by
          rw [show (V.int (vs.length : Nat) : V) = V.int (k : Nat) by rw [lo, z], decide_eq_true rfl] at c
          cases c
        exact err "count" (if_pos nk) H (fun _ _ e => e)
      · have lk : os.length = k := Classical.byContradiction fun z => c (by
          rw [decide_eq_false (fun y => z (by injection y with y; omega))]
          rfl)
        have few : vs.length ≤ 1000 := by omega
        have lv : vs.length = k := lo.trans lk
        refine ⟨_, rfl, _, rfl, o, C.C, dx, _, _, rfl, ho, C.cl, C.nd, rfl, _, rfl, o, C.C, dx, _, _, rfl, ho, C.cl, C.nn, rfl, a, d, vs, os, xs, (by rw [lv]; rfl), hs, hi, SqT.of hd, few, fun H1 e1 => ⟨_, rfl, ?_⟩⟩
        cases hal : os.all fun o => inIt o xs with
        | false =>
          refine iteT (err "domain" ?_ H1 e1)
          show (if os.length ≠ k then Sum.inl ("count" : Str) else if (os.all fun o => inIt o xs) = true then .inr ((lookS (ptsL k xs) rs (os.filterMap id)).getD Str.empty) else .inl "domain") = _
          rw [if_neg (fun z => z lk), hal]
          rfl
        | true =>
          refine iteF ?_
          obtain ⟨gs, rfl, rfl, sub⟩ := all_in hi hal
          rw [List.length_map] at lk
          obtain ⟨u, hu1, hu2, hu3⟩ := vdue_in G sub lk
          obtain ⟨a2, ys, ea, eg, ha2⟩ := htv u hu3
          cases ea
          have hy : gs = ys := (List.map_inj_right fun _ _ z => Option.some.inj z).mp (Option.some.inj eg)
          subst hy
          have dg : DGet H1 t (.ref a) (valV (KDz.dtOf ks (rs.map V.str)) (KDz.entK gs)) := DGet.t (e1 _ _ ht) (by rw [KDz.entK_kV]; exact e1 _ _ ha2)
          rw [val_look, eks, hu2] at dg
          exact ⟨_, rfl, o, C.C, dx, _, _, rfl, e1 _ _ ho, C.cl, C.no, rfl, _, rfl, t, _, rfl, dg, qv u H1 hu3 hu1 e1⟩
end
end K01
/-! Own operators of instances: x op y of one class, x == y of any y, ~x. -/
namespace KO
open PySem PySem.Spec PySem.W PyProof.Rows L2 KG
section
variable {X : Cx} {CX : CXT} {pins : List (Addr × Obj)} {σ : L2.St} {H : Hp} {s : Shared} {a C dx g : Addr} {fs : List (Str × V)} {n : Nat} {fd : FuncData} {ps : List Str} {sp : Sp} {E : XK}
theorem ins_inst (I : L2.Inv X pins σ H s) (h : H a = some (.ins C dx fs)) : ∃ ox od, InstAt s.heap a ox C od := by
  obtain ⟨mA, O, _⟩ := ins_get I.hok h
  obtain ⟨od, J, _⟩ := O.look
  exact ⟨_, od, J⟩
/-- x op y, both of the class at C, whose def for op keeps sp -/
def rBin (C : Addr) (sp : Sp) (E : XK) : R2 := fun x y H Q => ∃ a b dx dy fs gs, x = V.ref a ∧ y = V.ref b ∧ H a = some (.ins C dx fs) ∧ H b = some (.ins C dy gs) ∧ sp [x, y] H Q E
theorem op_bin {op : Operator} (hs : findIn X.K (.ref C) (PySem.dunder op.info.2) = some (some (.ref g))) (hf : isFn X.K (.ref g) = true) (hc : selfFirst X.K C = true)
    (F : FnOk X.prog X.w X.K X.mg X.base CX n g fd ps sp) (hb : L2.Binds X.K fd ps []) (hr : Room n X.A) (hx : Passes CX X E) : OpR X (binaryOp op) (rBin C sp E) := by
  intro pins s σ H x y v u Q I rx ry h
  obtain ⟨a, b, dx, dy, fs, gs, rfl, rfl, ha, hb2, q⟩ := h
  cases (show v = Value.ref a from rx)
  cases (show u = Value.ref b from ry)
  obtain ⟨ox, od, J⟩ := ins_inst I ha
  obtain ⟨oy, oe, J2⟩ := ins_inst I hb2
  obtain ⟨m, hF⟩ := I.fr
  refine binop_K (op := op) hF I.ok.mod.kin J J2.type hc hs hf ?_
  refine wpAny_mono (run_fn (us := [.ref a, .ref b]) (vs := [.ref a, .ref b]) F hr hb .nil hx I (.cons rfl (.cons rfl .nil)) q) (fun w s' z => ?_) fun _ _ x => x
  obtain ⟨z', H', I', rz, qz⟩ := z
  exact SlX.cmpback rz ⟨z', H', I', rz, qz⟩
/-- x == y, x of the class at C whose __eq__ keeps sp; y anything that is of no class below C -/
def rCmp (K : Frag) (C : Addr) (sp : Sp) (E : XK) : R2 := fun x y H Q => ∃ a dx fs t, x = V.ref a ∧ H a = some (.ins C dx fs) ∧ TyX K H y t ∧ notFirst K C t = true ∧ sp [x, y] H Q E
theorem op_cmp {op : CmpOp} (hop : ∀ a b, compareOp op a b = richCompare op a b) (hs : findIn X.K (.ref C) (cmpInfo op).2.1 = some (some (.ref g))) (hf : isFn X.K (.ref g) = true)
    (F : FnOk X.prog X.w X.K X.mg X.base CX n g fd ps sp) (hb : L2.Binds X.K fd ps []) (hr : Room n X.A) (hx : Passes CX X E) : OpR X (compareOp op) (rCmp X.K C sp E) := by
  intro pins s σ H x y v u Q I rx ry h
  obtain ⟨a, dx, fs, t, rfl, ha, ty, hn, q⟩ := h
  cases (show v = Value.ref a from rx)
  obtain ⟨ox, od, J⟩ := ins_inst I ha
  obtain ⟨P, Z, p, _⟩ := kit_of I ry ty
  obtain ⟨m, hF⟩ := I.fr
  rw [hop]
  refine cmp_K (op := op) (tb := t) hr.units0 hF I.ok.mod.kin J (Z.ty _ _ I.kIn p) hn hs hf ?_
  refine wpAny_mono (run_fn (us := [.ref a, u]) (vs := [.ref a, y]) F hr hb .nil hx I (.cons rfl (.cons ry .nil)) q) (fun w s' z => ?_) fun _ _ x => x
  obtain ⟨z', H', I', rz, qz⟩ := z
  exact SlX.cmpback rz ⟨z', H', I', rz, qz⟩
/-- ~x -/
def rUnI (C : Addr) (sp : Sp) (E : XK) : V → Hp → VK → Prop := fun x H Q => ∃ a dx fs, x = V.ref a ∧ H a = some (.ins C dx fs) ∧ sp [x] H Q E
theorem un_invI (hs : findIn X.K (.ref C) "__invert__" = some (some (.ref g))) (hf : isFn X.K (.ref g) = true) (F : FnOk X.prog X.w X.K X.mg X.base CX n g fd ps sp) (hb : L2.Binds X.K fd ps []) (hr : Room n X.A) (hx : Passes CX X E) : UnR X (unaryOp .Invert) (rUnI C sp E) := by
  intro pins s σ H x v Q I rx h
  obtain ⟨a, dx, fs, rfl, ha, q⟩ := h
  cases (show v = Value.ref a from rx)
  obtain ⟨ox, od, J⟩ := ins_inst I ha
  obtain ⟨m, hF⟩ := I.fr
  exact ksp_inv hF I.ok.mod.kin J hs hf (run_fn (us := [.ref a]) (vs := [.ref a]) F hr hb .nil hx I (.cons rfl .nil) q)
end
end KO
/-! x != y of instances whose class has an own __eq__ and no own __ne__. -/
namespace KO
open PySem PySem.Spec PySem.W PyProof.Rows L2 KG
section
variable {M : Model} {prog : Program} {w : World} {A : Around} {E : Value → Shared → Prop} {s : Shared} {K : PySem.W.Frag} {x C f L : Addr} {h₀ : Heap} {m : Str → Option Value} {ox : Obj} {od : Option Obj} {b : Value} {tb : Value}
theorem entry_ne {Q : Fin → Shared → Prop} (X : K.In s.heap) (I : PySem.W.InstAt s.heap x ox C od) (hu : A.units < cLine) (hs : findIn K (.ref C) "__eq__" = some (some (.ref f))) (hf : isFn K (.ref f) = true)
    (hcall : wpAny (model prog w) A (call (.ref f) [.ref x, b]) (fun v s' => ∃ r, v = .bool r ∧ Q (.done (.ret (.bool (!r)))) s') E s) : wpAny (model prog w) A (Builtin.«object.__ne__» ⟨[.ref x, b], []⟩) Q E s := by
  unfold Builtin.«object.__ne__»
  repeat (first
    | with_reducible refine wpAny_cRoomFor hu ?_
    | (refine wpAny_bind (m := callSpecialIfBound? (.ref x) (Str.ofString "__eq__") [b])
        (ifBound_K X I hs hf (wpAny_mono hcall (fun v s' hr => by
          obtain ⟨r, rfl, hq⟩ := hr
          repeat (first | exact hq | exact wpAny_pure hq | exact wpAny_truthy_bool hq | (refine wpAny_bind (m := truthy (.bool _)) (wpAny_truthy_bool ?_)) | wp_step)) fun _ _ e => e)))
    | wp_step)
theorem call_objNe {Q : Value → Shared → Prop} (X : K.In s.heap) (I : PySem.W.InstAt s.heap x ox C od) (hu : A.in1.units < cLine) (hm : mroIn K C (.type "object") = some true) (hs : findIn K (.ref C) "__eq__" = some (some (.ref f))) (hf : isFn K (.ref f) = true)
    (hcall : wpAny (model prog w) A.in1 (call (.ref f) [.ref x, b]) (fun v s' => ∃ r, v = .bool r ∧ Q (.bool (!r)) s') E s) : wpAny (model prog w) A (call (.builtin "object.__ne__") [.ref x, b]) Q E s :=
  wpAny_call (codeAny_call_builtin F.cmp_object.ne.plain F.cmpEntry_ne (PySem.W.check_slot F.cmpKind_ne F.cmpSplit_ne (I.type.andThen (PySem.W.looks_mroIn X hm)) (F.cmpArgs_ne _ _) (entry_ne X I hu hs hf hcall)))
theorem ifBound_objNe {args : List Value} {Q : Option Value → Shared → Prop} (X : K.In s.heap) (I : PySem.W.InstAt s.heap x ox C od) (hs : findIn K (.ref C) "__ne__" = some (some (.builtin "object.__ne__")))
    (h : wpAny M A (call (.builtin "object.__ne__") (.ref x :: args)) (fun v => Q (some v)) E s) : wpAny M A (callSpecialIfBound? (.ref x) "__ne__" args) Q E s := by
  simp only [callSpecialIfBound?, bindSpecialIfBound?]
  refine wpAny_holding (wpAny_bind (wpAny_bind (wpAny_bind (I.type.here ((PySem.W.looks_findIn X hs).here ?_)))))
  refine wpAny_bind (wpAny_askSetting (wpAny_ite ?_))
  have fin : wpAny M A (call (.builtin "object.__ne__") ([.ref x] ++ args) >>= fun v => pure (some v)) Q E s := wpAny_bind (wpAny_mono h (fun v s' h' => wpAny_pure h') fun _ _ h' => h')
  split
  · exact wpAny_bind (wpAny_of_eq (F.cmp_object.ne.bind _) (wpAny_pure (by exact fin)))
  · exact wpAny_tryCatch (wpAny_bind (wpAny_of_eq (F.cmp_object.ne.bind _) (wpAny_pure (by exact fin))))
theorem ne_K {Q : Value → Shared → Prop} (hu0 : A.units < cLine) (hu : A.in1.units < cLine) (F : Fr h₀ L s.heap m) (X₀ : K.In h₀) (I : InstAt s.heap x ox C od) (hb : Looks (model prog w) s.heap (typeOf b) tb) (hn : notFirst K C tb = true)
    (hm : mroIn K C (.type "object") = some true) (hne : findIn K (.ref C) "__ne__" = some (some (.builtin "object.__ne__"))) (hs : findIn K (.ref C) "__eq__" = some (some (.ref f))) (hf : isFn K (.ref f) = true)
    (h : wpAny (model prog w) A.in1 (call (.ref f) [.ref x, b]) (fun v s' => ∃ r, v = .bool r ∧ Q (.bool (!r)) s') E s) : wpAny (model prog w) A (richCompare .NotEq (.ref x) b) Q E s := by
  have X := X₀.keeps F.keep
  have one : wpAny (model prog w) A (tryCompare (.ref x) (cmpInfo .NotEq).2.1 b) (fun r s' => ∃ v, r = some v ∧ Q v s') E s := by
    unfold tryCompare
    refine wpAny_bind (ifBound_objNe X I hne (call_objNe X I hu hm hs hf (wpAny_mono h (fun v s' hv => ?_) fun _ _ e => e)))
    obtain ⟨r, rfl, hq⟩ := hv
    exact ⟨r, rfl, wpAny_pure ⟨_, rfl, hq⟩⟩
  unfold richCompare
  simp only [oneThing_ref]
  refine wpAny_holding (wpAny_bind (wpAny_cRoomFor hu0 ?_))
  refine wpAny_bind (I.type.here (wpAny_bind (hb.here ?_)))
  split
  · rename_i q
    have e : subIn K tb (.ref C) = some false := by
      rcases Bool.or_eq_true_iff.mp hn with e | e
      · rw [beq_iff_eq.mp e] at q; simp at q
      · exact beq_iff_eq.mp e
    refine wpAny_bind ((looks_subIn X e).here ?_)
    simp only [Bool.false_eq_true, if_false]
    refine wpAny_bind (wpAny_mono one (fun r s' z => ?_) fun _ _ e => e)
    obtain ⟨v, rfl, hq⟩ := z
    exact wpAny_pure hq
  · refine wpAny_bind (wpAny_pure ?_)
    simp only [Bool.false_eq_true, if_false]
    refine wpAny_bind (wpAny_mono one (fun r s' z => ?_) fun _ _ e => e)
    obtain ⟨v, rfl, hq⟩ := z
    exact wpAny_pure hq
end
section
variable {X : Cx} {CX : CXT} {g C : Addr} {n : Nat} {fd : FuncData} {ps : List Str} {sp : Sp} {E : XK}
def rNe (K : Frag) (C : Addr) (sp : Sp) (E : XK) : R2 := fun x y H Q => ∃ a dx fs t, x = V.ref a ∧ H a = some (.ins C dx fs) ∧ TyX K H y t ∧ notFirst K C t = true ∧ sp [x, y] H (fun v H' => ∃ b, v = .bl b ∧ Q (.bl (!b)) H') E
/-- what `!=` of a class needs -/
structure NeC (K : Frag) (C g : Addr) : Prop where
  m : mroIn K C (.type "object") = some true
  ne : findIn K (.ref C) "__ne__" = some (some (.builtin "object.__ne__"))
  eq : findIn K (.ref C) "__eq__" = some (some (.ref g))
  fn : isFn K (.ref g) = true
theorem op_neI (N : NeC X.K C g) (F : FnOk X.prog X.w X.K X.mg X.base CX n g fd ps sp) (hb : L2.Binds X.K fd ps []) (hr : Room (n + 1) X.A) (hx : Passes CX X E) : OpR X (compareOp .NotEq) (rNe X.K C sp E) := by
  intro pins s σ H x y v u Q I rx ry h
  obtain ⟨a, dx, fs, t, rfl, ha, ty, hn, q⟩ := h
  cases (show v = Value.ref a from rx)
  obtain ⟨ox, od, J⟩ := ins_inst I ha
  obtain ⟨P, Z, p, _⟩ := kit_of I ry ty
  obtain ⟨m, hF⟩ := I.fr
  show wpAny (model X.prog X.w) X.A (richCompare .NotEq (.ref a) u) _ _ _
  refine ne_K hr.units0 hr.in1.units0 hF I.ok.mod.kin J (Z.ty _ _ I.kIn p) hn N.m N.ne N.eq N.fn ?_
  have e0 : Env0 X.prog X.w X.K X.mg X.base X.A.in1 X.stack s H := by
    have e := I.env0
    exact ⟨e.frames, e.mod, e.bs, e.bsz, e.funs, e.frf, e.hok, e.bare⟩
  have hl := F.len _ _ _ _ q
  have r2 : Vals [V.ref a, y] [Value.ref a, u] := .cons rfl (.cons ry .nil)
  refine wpAny_call (codeAny_mono (F.run X.A.in1 X.stack s H ⟨[.ref a, u], []⟩ [.ref a, u] [.ref a, y] _ E hr.in1 e0 (by
    have := hb s [.ref a, u] I.kIn (by simpa using hl)
    simpa using this) r2 q) fun r s' hq => ?_)
  cases r with
  | error e => exact hx pins σ H s e s' I hq
  | ok fl =>
    cases fl with
    | ret w =>
      obtain ⟨z, H', I', rz, b, ez, q'⟩ := I.after hq
      subst ez
      cases (show w = Value.bool b from rz)
      exact ⟨b, rfl, .bl (!b), H', I', rfl, q'⟩
    | next => exact False.elim hq
    | brk => exact False.elim hq
    | cont => exact False.elim hq
end
end KO
/-! vote == vote, vote != vote. -/
namespace K01
open PySem PySem.Spec PyProof.Rows L2 KG KS KA KX KIa KFz
/-- a def's promise by position -/
theorem fnR_of {P : Program} {w : World} {K : PySem.W.Frag} {mg : Str → Option Value} {base : Heap} {CX : CXT} {k : Nat} {f : Addr} {fd : FuncData} {ps : List Str} {sp : Sp} (F : FnOk P w K mg base CX k f fd ps sp)
    (hb : ∀ (s : Shared) (us : List Value), us.length = ps.length → BindsTo s fd ⟨us, []⟩ (ps.zip us)) : FnR P w K mg base CX k f sp := fun A outer s H us vs Q E hr e0 r h =>
  F.run A outer s H ⟨us, []⟩ us vs Q E hr e0 (hb s us (by rw [← r.length]; exact F.len _ _ _ _ h)) r h
/-- C.m(k = a) -/
def tCMeth1 (C : Addr) (sp : Sp) (E : XK) (ta : TE) (tk : TA) : TE := fun σ H Q => ta σ H fun x H1 => x = .ref C ∧ tk σ H1 fun zs H2 => ∃ u, zs = [u] ∧ sp [.ref C, u] H2 Q E
section
variable {X : Cx} {CX : CXT} {k : Nat} {C p g : Addr} {mc : Value} {fd : FuncData} {ps : List Str} {sp : Sp} {E : XK} {o : Expr} {kws : List Keyword} {m kn : Str} {pos apos : Pos} {ta : TE} {tk : TA} {pl : Sem Bool}
theorem pe_cmeth1 (he : PE X o ta) (r : ClX.CRead X.K C mc) (c : ClX.CMet X.K C mc m p g) (F : FnOk X.prog X.w X.K X.mg X.base CX k g fd ps sp) (hr : Room k X.A) (hb : KwOne fd ps kn) (hx : Passes CX X E) (hkw : PK X kws tk)
    (hall : (backToKw pos (keywordEach kws X.env)).all (·.1.isSome) = true := by rfl) (hks : (backToKw pos (keywordEach kws X.env)).filterMap (·.1) = [kn] := by rfl)
    (hpl : ((backTo pos (starEach [] X.env)).any (·.1) || (backToKw pos (keywordEach kws X.env)).any (·.1.isNone)) = false := by rfl)
    (ht : eval (.Call (.Attribute o m apos) [] kws pos) X.env = (do
      let ov ← eval o X.env
      standAt apos.atName
      let (f, first) ← holding [ov] (getMethod ov m pl)
      callWith pos f first (backTo pos (starEach [] X.env)) (backToKw pos (keywordEach kws X.env))) := by rfl) : PE X (.Call (.Attribute o m apos) [] kws pos) (tCMeth1 C sp E ta tk) := by
  refine ⟨fun pins s σ H Q I h => ?_⟩
  refine PySem.W.methodCall_KW (pl := pl) (thn (he.run pins s σ H _ I h) fun u s1 ⟨x, H1, I1, rx, ex, q⟩ => ?_) ht
  subst ex
  obtain rfl : u = Value.ref C := rx
  refine ClX.getmethcm_ok I1 r c fun s2 I2 => ?_
  refine PySem.W.callWith_of hpl (PySem.W.keeps_M (self := .ref C) c.fi) (PyProof.Rows.evalArgs_kw2_nil hall ?_)
  refine thn (hkw.run pos _ s2 σ H1 _ I2 q) ?_
  rintro ws s3 ⟨zs, H2, I3, rz, a, ev, q2⟩
  subst ev
  obtain ⟨u1, eu, r1⟩ := vals1 rz
  subst eu
  refine ⟨⟨ClX.pin_at I3, I3.kIn⟩, ?_⟩
  rw [hks]
  have z : wpAny (model X.prog X.w) X.A (call (.ref s1.heap.objs.size) [] [(kn, u1)]) (EP X ((s1.heap.objs.size, PySem.W.methodObj (.ref g) (.ref C)) :: pins) σ Q) X.xe s3 := by
    refine wpAny_call (PySem.W.method_call (ClX.pin_at I3) ?_)
    refine codeAny_mono (F.run X.A X.stack s3 H2 ⟨[.ref C], [(kn, u1)]⟩ [.ref C, u1] [.ref C, a] Q E hr I3.env0 (hb _ _ _) (.cons rfl (.cons r1 .nil)) q2) ?_
    rintro (er | fl) s' z
    · exact hx _ σ H2 s3 er s' I3 z
    · cases fl with
      | ret u => exact I3.after z
      | next => exact z.elim
      | brk => exact z.elim
      | cont => exact z.elim
  exact thn z fun _ _ y => ClX.unpinE y
end
/-- vote == vote, of the same -/
def spVtEq (C : Addr) : Sp := fun vs H Q _ => ∃ (x y : Addr) (xs rs : List Str) (k : Nat), vs = [.ref x, .ref y] ∧ VtAt C H x xs k rs ∧ VtAt C H y xs k rs ∧ (∀ z ∈ xs, nameOk z = true) ∧ (∀ z ∈ rs, z ∈ xs) ∧ Q (.bl true) H
section
variable {P : Program} {w : World} {K : PySem.W.Frag} {mg : Str → Option Value} {base : Heap}
theorem sc_vtEq : FnScope ["self", "other"] ["self", "other"] (defScope s_vtEq) := ⟨rfl, rfl, rfl, by decide +kernel, rfl, by decide +kernel, by decide +kernel⟩
theorem ok_vtEq {it : Addr} (B : Bz mg) (C : VtC K mg it) (J : C8.InsC K C.C) (f : MtF K "__eq__" "Vote.__eq__" s_vtEq) : FnOk P w K mg base CX0 1 f.a f.d ["self", "other"] (spVtEq C.C) := by
  refine f.F.ok sc_vtEq (fun vs H Q E h => ?_) (fun cdv A outer s H vs Q E hr h => ?_)
  · obtain ⟨x, y, xs, rs, k, rfl, _⟩ := h
    rfl
  · obtain ⟨x, y, xs, rs, k, rfl, TX, TY, ok, sub, q⟩ := h
    have hu64 := hr.units
    refine ⟨_, (pss_one
      (ps_ret (pe_and (pe_callB (C8.call_isC J) (by rfl) B.n_isinstance (by decide +kernel) (pa_cons (pv 1) (pa_cons (pe_glob (v := .ref C.C) rfl C.g rfl) pa_nil))) (pe_and (pe_cmpR (op_eqD hu64) (pe_fld (pv 0) rfl) (pe_fld (pv 1) rfl) (nomark _)) (pe_and (pe_cmpR op_eq (pe_fld (pv 0) rfl) (pe_fld (pv 1) rfl) (nomark _)) (pe_one (pe_cmpR (op_eqD hu64) (pe_fld (pv 0) rfl) (pe_fld (pv 1) rfl) (nomark _)))))))), ?_⟩
    obtain ⟨dx, d, r, t, ht, ks, hd, hr1, _⟩ := TX
    obtain ⟨dx2, d2, r2, t2, ht2, ks2, hd2, hr2, _⟩ := TY
    have sh : SeqAt.shaped (txd xs) = true := txd_shaped fun x hx => name_strOk (ok x hx)
    have sh2 : SeqAt.shaped (txd rs) = true := txd_shaped fun x hx => name_strOk (ok x (sub x hx))
    have ev : ∀ ys : List Str, PyData.eqv (txd ys) (txd ys) = true := fun ys => by
      simp only [txd, PyData.eqv]
      exact texts_eqv ys
    refine ⟨_, rfl, y, dx2, _, rfl, ht2, ?_⟩
    refine ⟨true, rfl, iteT ?_⟩
    refine ⟨_, rfl, x, C.C, dx, _, _, rfl, ht, C.cl, C.nd, rfl, _, rfl, y, C.C, dx2, _, _, rfl, ht2, C.cl, C.nd, rfl, txd xs, txd xs, .tup (SqT.of hd) (texts_dp _), .tup (SqT.of hd2) (texts_dp _), sh, sh, true, by rw [ev], iteT ?_⟩
    refine ⟨_, rfl, x, C.C, dx, _, _, rfl, ht, C.cl, C.nn, rfl, _, rfl, y, C.C, dx2, _, _, rfl, ht2, C.cl, C.nn, rfl, rfl, true, by rw [decide_eq_true rfl], iteT ?_⟩
    refine ⟨_, rfl, x, C.C, dx, _, _, rfl, ht, C.cl, C.nr, rfl, _, rfl, y, C.C, dx2, _, _, rfl, ht2, C.cl, C.nr, rfl, txd rs, txd rs, .tup (SqT.of hr1) (texts_dp _), .tup (SqT.of hr2) (texts_dp _), sh2, sh2, ?_⟩
    rw [ev]
    exact q
end
end K01
/-! zip of any number of tuples of one length, the items not unpacked. -/
namespace KZn
open PySem PySem.Spec PySem.F PySem.SeqAt PyProof.Rows L2 RZ
section
variable {prog : Program} {w : World} {A : Around} {E : Value → Shared → Prop}
theorem forIn_wp {α β : Type} {f : α → β → Sem (ForInStep β)} {Q : β → Shared → Prop} (b : Nat → β) (Pv : Nat → Shared → Prop) : ∀ (l : List α) (j : Nat) (s : Shared), Pv j s →
    (∀ m x s' (Q' : ForInStep β → Shared → Prop), l[m]? = some x → Pv (j + m) s' → (∀ s2, Pv (j + m + 1) s2 → Q' (.yield (b (j + m + 1))) s2) → wpAny (model prog w) A (f x (b (j + m))) Q' E s') →
    (∀ s', Pv (j + l.length) s' → Q (b (j + l.length)) s') → wpAny (model prog w) A (forIn l (b j) f) Q E s
  | [], j, s, h0, _, hd => by
    rw [List.forIn_nil]
    exact wpAny_pure (hd s h0)
  | x :: l, j, s, h0, hs, hd => by
    rw [List.forIn_cons]
    refine wpAny_bind (hs 0 x s _ rfl h0 fun s2 h2 => ?_)
    refine forIn_wp b Pv l (j + 1) s2 h2 (fun m y s' Q' hy hp q => ?_) fun s' hp => ?_
    · have e : j + 1 + m = j + (m + 1) := by omega
      rw [e] at hp q ⊢
      exact hs (m + 1) y s' Q' hy hp q
    · have e : j + 1 + l.length = j + (x :: l).length := by rw [List.length_cons]; omega
      rw [e] at hp ⊢
      exact hd s' hp
/-- the record of a zip -/
abbrev ZRec (h : Heap) (z TI TO : Addr) (f0 : Value) (f1 : Bool) : Prop :=
  h.get? z = some { cls := .type "zip", dict := none, data := .fields #[f0, .bool f1, .bool false, .ref TI, .ref TO], slots := #[] }
/-- what its first field may be -/
def Own (f0 : Value) : Prop := f0 = .none ∨ ∃ T : Addr, f0 = rawInt T
abbrev TupO (h : Heap) (T : Addr) (vs : List Value) : Prop := h.get? T = some { cls := .type "tuple", data := .seq vs.toArray }
/-- what stands apart -/
structure Apart (z TI TO : Addr) (is ls : List Addr) : Prop where
  TIz : TI ≠ z
  TOz : TO ≠ z
  TITO : TI ≠ TO
  iz : ∀ i ∈ is, i ≠ z
  iI : ∀ i ∈ is, i ≠ TI
  iO : ∀ i ∈ is, i ≠ TO
  nd : is.Nodup
  lz : ∀ l ∈ ls, l ≠ z
  lO : ∀ l ∈ ls, l ≠ TO
  li : ∀ l ∈ ls, ∀ i ∈ is, l ≠ i
  len : is.length = ls.length
/-- the iterators, the first j of them one further -/
def ItAt (h : Heap) (is ls : List Addr) (j k : Nat) : Prop := ∀ (m : Nat) (i l : Addr), is[m]? = some i → ls[m]? = some l → h.IsTupleIter i l (if m < j then k + 1 else k)
/-- the items at a place -/
def Items (h : Heap) (ls : List Addr) (k : Nat) (xs : List Value) : Prop := xs.length = ls.length ∧ ∀ (m : Nat) (l : Addr) (x : Value), ls[m]? = some l → xs[m]? = some x → ∃ its : Array Value, h.IsTuple l its ∧ its[k]? = some x
variable {s : Shared}
theorem load_alive {a : Addr} {Q : Option Obj → Shared → Prop} (h : Q (s.heap.get? a) s) : wpAny (model prog w) A (loadIfAlive a) Q E s := fun _ _ _ => h
theorem isFree {z TI TO : Addr} {f0 : Value} {f1 : Bool} {Q : Bool → Shared → Prop} (hz : ZRec s.heap z TI TO f0 f1) (ho : Own f0)
    (h : ∀ b f1' h', ZRec h' z TI TO f0 f1' → Heap.SameBut z s.heap h' → Q b { s with heap := h' }) : wpAny (model prog w) A (Builtin.SmallTypes.ownedTupleIsFree (.ref z)) Q E s := by
  unfold Builtin.SmallTypes.ownedTupleIsFree
  rcases ho with rfl | ⟨T, rfl⟩
  · exact wpAny_bind (wpAny_field hz rfl (x := .none) rfl (wpAny_pure (h true f1 s.heap hz (Heap.SameBut.refl _ _))))
  · refine wpAny_bind (wpAny_field hz rfl (x := rawInt T) rfl ?_)
    show wpAny _ _ (loadIfAlive ((T : Int).toNat) >>= _) _ _ _
    rw [Int.toNat_natCast]
    cases hT : s.heap.get? T with
    | none =>
      refine wpAny_bind (load_alive ?_)
      rw [hT]
      simp only [Option.isNone_none, if_true]
      exact wpAny_pure (h true f1 s.heap hz (Heap.SameBut.refl _ _))
    | some oT =>
      refine wpAny_bind (load_alive ?_)
      rw [hT]
      simp only [Option.isNone_some, Bool.false_eq_true, if_false]
      refine wpAny_bind (wpAny_field hz rfl (x := .bool f1) rfl ?_)
      cases f1 with
      | true =>
        rw [if_neg (show ¬ ((Value.bool true != Value.bool true) = true) from Bool.false_ne_true)]
        exact wpAny_pure (h false true s.heap hz (Heap.SameBut.refl _ _))
      | false =>
        rw [if_pos (show (Value.bool false != Value.bool true) = true from rfl)]
        exact wpAny_bind (wpAny_setField_rec hz (by simp) fun h₁ hz₁ hs₁ => wpAny_pure (h false true h₁ hz₁ hs₁))
/-- what stands while the items are drawn into the tuple that is owned -/
structure PvF (s0 : Shared) (z TI TO : Addr) (is ls : List Addr) (k : Nat) (xs os : List Value) (f1 : Bool) (j : Nat) (s : Shared) : Prop where
  hz : ZRec s.heap z TI TO .ellipsis f1
  hO : TupO s.heap TO (xs.take j ++ os.drop j)
  hi : ItAt s.heap is ls j k
  sz : s.heap.objs.size = s0.heap.objs.size
  kp : ∀ c o, c ≠ z → c ≠ TO → (∀ i ∈ is, c ≠ i) → s0.heap.get? c = some o → s.heap.get? c = some o
  eq : s = { s0 with heap := s.heap }
/-- .. into a new one -/
structure PvH (s0 : Shared) (z TI TO : Addr) (is ls : List Addr) (k : Nat) (f0 : Value) (f1 : Bool) (os : List Value) (j : Nat) (s : Shared) : Prop where
  hz : ZRec s.heap z TI TO f0 f1
  hO : TupO s.heap TO os
  hi : ItAt s.heap is ls j k
  sz : s.heap.objs.size = s0.heap.objs.size
  kp : ∀ c o, c ≠ z → c ≠ TO → (∀ i ∈ is, c ≠ i) → s0.heap.get? c = some o → s.heap.get? c = some o
  eq : s = { s0 with heap := s.heap }
theorem it_next {h h' : Heap} {is ls : List Addr} {j k : Nat} {i l : Addr} (nd : is.Nodup) (hi : ItAt h is ls j k) (hm : is[j]? = some i) (hl : ls[j]? = some l) (h1 : h'.IsTupleIter i l (k + 1)) (hs : Heap.ExtBut i h h') : ItAt h' is ls (j + 1) k := fun m i2 l2 hi2 hl2 => by
  by_cases e : m = j
  · subst e
    obtain rfl := Option.some.inj (hm.symm.trans hi2)
    obtain rfl := Option.some.inj (hl.symm.trans hl2)
    rw [if_pos (by omega)]
    exact h1
  · have ne : i2 ≠ i := fun z => e ((List.getElem?_inj (List.getElem?_eq_some_iff.mp hi2).1 nd).mp (by rw [hi2, hm, z]))
    have z := hi m i2 l2 hi2 hl2
    have e2 : (if m < j + 1 then k + 1 else k) = if m < j then k + 1 else k := by
      by_cases y : m < j
      · rw [if_pos y, if_pos (by omega)]
      · rw [if_neg y, if_neg (by omega)]
    rw [e2]
    exact z.extBut hs ne
theorem it_ext {h h' : Heap} {is ls : List Addr} {j k : Nat} {b : Addr} (hi : ItAt h is ls j k) (ne : ∀ i ∈ is, i ≠ b) (hs : Heap.ExtBut b h h') : ItAt h' is ls j k := fun m i l hm hl => (hi m i l hm hl).extBut hs (ne i (List.mem_of_getElem? hm))
theorem upd_tup {T : Addr} {vs : List Value} {x : Value} {k : Nat} {Q : Unit → Shared → Prop} (hT : TupO s.heap T vs) (hl : vs.length ≤ sizeLine) (h : ∀ h', TupO h' T (vs.set k x) → Heap.SameBut T s.heap h' → Q () { s with heap := h' }) :
    wpAny (model prog w) A (updateSeq T (·.setIfInBounds k x)) Q E s := by
  refine wpAny_updateSeq hT rfl (h _ ?_ (Heap.SameBut.update ..)) (by rw [List.size_toArray]; exact hl) (by rw [Array.size_setIfInBounds, List.size_toArray]; omega)
  show Heap.get? _ _ = _
  rw [Heap.get?_update_self _ hT rfl]
  simp [Obj.mapSeq]
theorem set_mid {xs os : List Value} {m : Nat} {x : Value} (hx : xs[m]? = some x) (hl : m < os.length) : (xs.take m ++ os.drop m).set m x = xs.take (m + 1) ++ os.drop (m + 1) := by
  have lx := (List.getElem?_eq_some_iff.mp hx).1
  have e1 : os.drop m = os[m] :: os.drop (m + 1) := List.drop_eq_getElem_cons hl
  have lt : (xs.take m).length = m := by rw [List.length_take]; omega
  rw [e1, List.set_append_right _ _ (by omega), lt, Nat.sub_self, List.set_cons_zero, List.take_add_one, hx, List.append_assoc]
  rfl
theorem zipN_item {z TI TO : Addr} {is ls : List Addr} {k : Nat} {xs os : List Value} {f0 : Value} {f1 : Bool} {Q : Value → Shared → Prop} (D : Apart z TI TO is ls) (hz : ZRec s.heap z TI TO f0 f1) (ho : Own f0) (hTI : TupO s.heap TI (is.map Value.ref)) (hTO : TupO s.heap TO os) (lo : os.length = is.length) (ne : is ≠ [])
    (hi : ItAt s.heap is ls 0 k) (hx : Items s.heap ls k xs) (hsz : xs.length ≤ sizeLine)
    (hQ : ∀ h' f0' f1' os', Own f0' → ZRec h' z TI TO f0' f1' → TupO h' TO os' → os'.length = is.length → ItAt h' is ls 0 (k + 1) → TupO h' s.heap.objs.size xs → h'.objs.size = s.heap.objs.size + 1 →
      (∀ c o, c ≠ z → c ≠ TO → (∀ i ∈ is, c ≠ i) → s.heap.get? c = some o → h'.get? c = some o) → Q (.ref s.heap.objs.size) { s with heap := h' }) :
    wpAny (model prog w) A (Builtin.«zip.__next__» ⟨[.ref z], []⟩) (fun fin s' => ∃ v, fin = .done (.ret v) ∧ Q v s') E s := by
  have le : is.length = xs.length := by rw [D.len, hx.1]
  show wpAny _ _ (field (.ref z) 2 >>= _) _ _ _
  refine wpAny_bind (wpAny_field hz rfl (x := .bool false) rfl ?_)
  show wpAny _ _ (field (.ref z) 3 >>= _) _ _ _
  refine wpAny_bind (wpAny_field hz rfl (x := .ref TI) rfl ?_)
  refine wpAny_bind (wpAny_seqItems hTI rfl ?_)
  have em : (is.map Value.ref).toArray.isEmpty = false := by
    cases is with
    | nil => exact absurd rfl ne
    | cons i r => rfl
  simp only [em, Bool.false_eq_true, if_false]
  show wpAny _ _ (Builtin.SmallTypes.ownedTupleIsFree (.ref z) >>= _) _ _ _
  refine wpAny_bind (isFree hz ho fun b f1' h₁ hz₁ hs₁ => ?_)
  cases b with
  | true =>
    simp only [if_true]
    refine wpAny_bind (wpAny_rule ?_)
    refine wpAny_bind (wpAny_field hz₁ rfl (x := .ref TO) rfl ?_)
    refine wpAny_bind (wpAny_setField_rec hz₁ (by simp) fun h₂ hz₂ hs₂ => ?_)
    replace hz₂ : ZRec h₂ z TI TO .ellipsis f1' := hz₂
    refine wpAny_bind ?_
    refine forIn_wp (fun _ => (none, ())) (PvF s z TI TO is ls k xs os f1') _ 0 _ ⟨hz₂, ?_, it_ext (it_ext hi D.iz hs₁.extBut) D.iz hs₂.extBut, ?_, fun c o c1 _ _ e => hs₂.extBut _ _ c1 (hs₁.extBut _ _ c1 e), rfl⟩ ?_ ?_
    · rw [List.take_zero, List.drop_zero]
      exact hs₂.extBut _ _ D.TOz (hs₁.extBut _ _ D.TOz hTO)
    · show h₂.objs.size = _
      rw [hs₂.1, hs₁.1]
    · intro m x s' Q' hm hp q
      rw [Nat.zero_add] at hp q
      obtain ⟨hz', hO', hi', sz', kp', eq'⟩ := hp
      generalize s'.heap = h' at hz' hO' hi' sz' kp' eq'
      subst eq'
      rw [List.getElem?_zipIdx, List.getElem?_map] at hm
      cases hmi : is[m]? with
      | none =>
        rw [hmi] at hm
        cases hm
      | some i =>
        rw [hmi] at hm
        have hx0 : x = (Value.ref i, m) := by rw [← Option.some.inj hm, Nat.zero_add]
        subst hx0
        have lm := (List.getElem?_eq_some_iff.mp hmi).1
        have im := List.mem_of_getElem? hmi
        obtain ⟨l, hl⟩ : ∃ l, ls[m]? = some l := ⟨_, List.getElem?_eq_getElem (by rw [← D.len]; exact lm)⟩
        obtain ⟨x, hxm⟩ : ∃ x, xs[m]? = some x := ⟨_, List.getElem?_eq_getElem (by omega)⟩
        obtain ⟨its, ht, hk⟩ := hx.2 m l x hl hxm
        have lmem := List.mem_of_getElem? hl
        have ht' : h'.IsTuple l its := by
          obtain ⟨o, e1, e2⟩ := ht
          exact ⟨o, kp' _ _ (D.lz l lmem) (D.lO l lmem) (fun i hi => D.li l lmem i hi) e1, e2⟩
        have h1 := hi' m i l hmi hl
        rw [if_neg (Nat.lt_irrefl m)] at h1
        refine wpAny_bind (wpAny_onRaise ?_)
        show wpAny _ _ (Builtin.SmallTypes.nextOf (.ref i) >>= _) _ _ _
        refine wpAny_bind (nextOf_tuple_item h1 ht' hk fun h₃ h1₃ hs₃ => wpAny_pure ?_)
        have hO₃ : TupO h₃ TO (xs.take m ++ os.drop m) := hs₃.extBut _ _ (D.iO i im).symm hO'
        refine wpAny_bind (wpAny_seqItems hO₃ rfl ?_)
        refine wpAny_bind (upd_tup hO₃ (by rw [List.length_append, List.length_take, List.length_drop]; omega) fun h₄ hO₄ hs₄ => ?_)
        rw [set_mid hxm (by omega)] at hO₄
        refine wpAny_bind (wpAny_letGo (wpAny_pure ?_))
        refine q _ ⟨hs₄.extBut _ _ D.TOz.symm (hs₃.extBut _ _ (D.iz i im).symm hz'), hO₄, it_ext (it_next D.nd hi' hmi hl h1₃ hs₃.extBut) D.iO hs₄.extBut, ?_, fun c o c1 c2 c3 e => hs₄.extBut _ _ c2 (hs₃.extBut _ _ (c3 i im) (kp' c o c1 c2 c3 e)), rfl⟩
        show h₄.objs.size = _
        rw [hs₄.1, hs₃.1]
        exact sz'
    · intro s' hp
      rw [Nat.zero_add, List.length_zipIdx, List.length_map] at hp
      obtain ⟨hz', hO', hi', sz', kp', eq'⟩ := hp
      generalize s'.heap = h' at hz' hO' hi' sz' kp' eq'
      subst eq'
      rw [List.take_of_length_le (by omega), List.drop_of_length_le (by omega), List.append_nil] at hO'
      refine wpAny_bind (wpAny_seqItems hO' rfl ?_)
      refine wpAny_bind (wpAny_newTuple ?_ hsz)
      show wpAny _ _ (Builtin.SmallTypes.ownedTupleHandOut (.ref z) (.ref h'.objs.size) >>= _) _ _ _
      refine wpAny_bind ?_
      unfold Builtin.SmallTypes.ownedTupleHandOut
      have hz6 : ZRec (h'.push { cls := .type "tuple", data := .seq xs.toArray }) z TI TO .ellipsis f1' := Heap.get?_push_of_some _ hz'
      refine wpAny_bind (wpAny_setField_rec hz6 (by simp) fun h₇ hz₇ hs₇ => ?_)
      replace hz₇ : ZRec h₇ z TI TO (rawInt h'.objs.size) f1' := hz₇
      refine wpAny_setField_rec hz₇ (by simp) fun h₈ hz₈ hs₈ => ?_
      replace hz₈ : ZRec h₈ z TI TO (rawInt h'.objs.size) false := hz₈
      have hzlt : z < h'.objs.size := Heap.lt_size hz'
      have up : ∀ c o, c ≠ z → h'.get? c = some o → h₈.get? c = some o := fun c o c1 e => hs₈.extBut _ _ c1 (hs₇.extBut _ _ c1 (Heap.get?_push_of_some _ e))
      have hT₈ : TupO h₈ h'.objs.size xs := hs₈.extBut _ _ (Nat.ne_of_gt hzlt) (hs₇.extBut _ _ (Nat.ne_of_gt hzlt) (Heap.get?_push_size _ rfl))
      have hz8 : h₈.objs.size = h'.objs.size + 1 := by rw [hs₈.1, hs₇.1, Heap.size_push]
      have sz2 : h'.objs.size = s.heap.objs.size := sz'
      rw [sz2] at hz₈ hT₈ hz8
      refine wpAny_pure ⟨_, rfl, ?_⟩
      show Q (.ref h'.objs.size) _
      rw [sz2]
      refine hQ h₈ _ _ xs (.inr ⟨_, rfl⟩) hz₈ (up _ _ D.TOz hO') le.symm (fun m i l hm hl => ?_) hT₈ hz8 fun c o c1 c2 c3 e => up c o c1 (kp' c o c1 c2 c3 e)
      rw [if_neg (Nat.not_lt_zero m)]
      have z1 := hi' m i l hm hl
      rw [if_pos (List.getElem?_eq_some_iff.mp hm).1] at z1
      exact z1.at fun o e => up _ o (D.iz i (List.mem_of_getElem? hm)) e
  | false =>
    simp only [Bool.false_eq_true, if_false]
    refine wpAny_bind ?_
    rw [← Array.forIn_toList]
    refine forIn_wp (fun j => (none, (xs.take j).toArray)) (PvH s z TI TO is ls k f0 f1' os) _ 0 _ ⟨hz₁, hs₁.extBut _ _ D.TOz hTO, it_ext hi D.iz hs₁.extBut, hs₁.1, fun c o c1 _ _ e => hs₁.extBut _ _ c1 e, rfl⟩ ?_ ?_
    · intro m x s' Q' hm hp q
      rw [Nat.zero_add] at hp q
      obtain ⟨hz', hO', hi', sz', kp', eq'⟩ := hp
      generalize s'.heap = h' at hz' hO' hi' sz' kp' eq'
      subst eq'
      rw [List.getElem?_map] at hm
      cases hmi : is[m]? with
      | none =>
        rw [hmi] at hm
        cases hm
      | some i =>
        rw [hmi] at hm
        obtain rfl : Value.ref i = x := Option.some.inj hm
        have lm := (List.getElem?_eq_some_iff.mp hmi).1
        have im := List.mem_of_getElem? hmi
        obtain ⟨l, hl⟩ : ∃ l, ls[m]? = some l := ⟨_, List.getElem?_eq_getElem (by rw [← D.len]; exact lm)⟩
        obtain ⟨x, hxm⟩ : ∃ x, xs[m]? = some x := ⟨_, List.getElem?_eq_getElem (by omega)⟩
        obtain ⟨its, ht, hk⟩ := hx.2 m l x hl hxm
        have lmem := List.mem_of_getElem? hl
        have ht' : h'.IsTuple l its := by
          obtain ⟨o, e1, e2⟩ := ht
          exact ⟨o, kp' _ _ (D.lz l lmem) (D.lO l lmem) (fun i hi => D.li l lmem i hi) e1, e2⟩
        have h1 := hi' m i l hmi hl
        rw [if_neg (Nat.lt_irrefl m)] at h1
        refine wpAny_bind (wpAny_holding ?_)
        show wpAny _ _ (Builtin.SmallTypes.nextOf (.ref i) >>= _) _ _ _
        refine wpAny_bind (nextOf_tuple_item h1 ht' hk fun h₃ h1₃ hs₃ => wpAny_pure ?_)
        refine wpAny_pure ?_
        have ea : (xs.take m).toArray.push x = (xs.take (m + 1)).toArray := by
          rw [List.take_add_one, hxm]
          simp
        rw [Nat.zero_add]
        show Q' (.yield (none, (xs.take m).toArray.push x)) _
        rw [ea]
        refine q _ ⟨hs₃.extBut _ _ (D.iz i im).symm hz', hs₃.extBut _ _ (D.iO i im).symm hO', it_next D.nd hi' hmi hl h1₃ hs₃.extBut, ?_, fun c o c1 c2 c3 e => hs₃.extBut _ _ (c3 i im) (kp' c o c1 c2 c3 e), rfl⟩
        show h₃.objs.size = _
        rw [hs₃.1]
        exact sz'
    · intro s' hp
      rw [Nat.zero_add, List.length_map] at hp ⊢
      obtain ⟨hz', hO', hi', sz', kp', eq'⟩ := hp
      generalize s'.heap = h' at hz' hO' hi' sz' kp' eq'
      subst eq'
      rw [List.take_of_length_le (by omega)]
      refine wpAny_bind (wpAny_newTuple ?_ hsz)
      have sz2 : h'.objs.size = s.heap.objs.size := sz'
      refine wpAny_pure ⟨_, rfl, ?_⟩
      have hp : TupO (h'.push { cls := .type "tuple", data := .seq xs.toArray }) h'.objs.size xs := Heap.get?_push_size _ rfl
      have hz4 : (h'.push { cls := .type "tuple", data := .seq xs.toArray }).objs.size = h'.objs.size + 1 := Heap.size_push ..
      show Q (.ref h'.objs.size) _
      rw [sz2] at hp hz4 ⊢
      refine hQ _ _ _ os ho (Heap.get?_push_of_some _ hz') (Heap.get?_push_of_some _ hO') lo (fun m i l hm hl => ?_) hp hz4 fun c o c1 c2 c3 e => Heap.get?_push_of_some _ (kp' c o c1 c2 c3 e)
      rw [if_neg (Nat.not_lt_zero m)]
      have z1 := hi' m i l hm hl
      rw [if_pos (List.getElem?_eq_some_iff.mp hm).1] at z1
      exact z1.at fun o e => Heap.get?_push_of_some _ e
theorem zipN_end {z TI TO i0 l0 : Addr} {is ls : List Addr} {k : Nat} {os : List Value} {its : Array Value} {f0 : Value} {f1 : Bool} {Q : Fin → Shared → Prop} (hh : A.handled = none) (D : Apart z TI TO (i0 :: is) (l0 :: ls)) (hz : ZRec s.heap z TI TO f0 f1) (ho : Own f0)
    (hTI : TupO s.heap TI ((i0 :: is).map Value.ref)) (hTO : TupO s.heap TO os) (hi : ItAt s.heap (i0 :: is) (l0 :: ls) 0 k) (ht : s.heap.IsTuple l0 its) (hx : its[k]? = none)
    (hE : ∀ h' e, (∀ c o, c ≠ z → c ≠ TO → (∀ i ∈ i0 :: is, c ≠ i) → s.heap.get? c = some o → h'.get? c = some o) → (∃ o, h'.get? e = some o ∧ o.cls = .type "StopIteration") → E (.ref e) { s with heap := h' }) :
    wpAny (model prog w) A (Builtin.«zip.__next__» ⟨[.ref z], []⟩) Q E s := by
  have i0m : i0 ∈ i0 :: is := List.mem_cons_self
  have l0m : l0 ∈ l0 :: ls := List.mem_cons_self
  have h1 := hi 0 i0 l0 rfl rfl
  rw [if_neg (Nat.lt_irrefl 0)] at h1
  show wpAny _ _ (field (.ref z) 2 >>= _) _ _ _
  refine wpAny_bind (wpAny_field hz rfl (x := .bool false) rfl ?_)
  show wpAny _ _ (field (.ref z) 3 >>= _) _ _ _
  refine wpAny_bind (wpAny_field hz rfl (x := .ref TI) rfl ?_)
  refine wpAny_bind (wpAny_seqItems hTI rfl ?_)
  have em : ((i0 :: is).map Value.ref).toArray.isEmpty = false := rfl
  simp only [em, Bool.false_eq_true, if_false]
  show wpAny _ _ (Builtin.SmallTypes.ownedTupleIsFree (.ref z) >>= _) _ _ _
  refine wpAny_bind (isFree hz ho fun b f1' h₁ hz₁ hs₁ => ?_)
  have ht₁ : h₁.IsTuple l0 its := ht.extBut hs₁.extBut (D.lz l0 l0m)
  have hi₁ : h₁.IsTupleIter i0 l0 k := h1.extBut hs₁.extBut (D.iz i0 i0m)
  cases b with
  | true =>
    simp only [if_true]
    refine wpAny_bind (wpAny_rule ?_)
    refine wpAny_bind (wpAny_field hz₁ rfl (x := .ref TO) rfl ?_)
    refine wpAny_bind (wpAny_setField_rec hz₁ (by simp) fun h₂ hz₂ hs₂ => ?_)
    replace hz₂ : ZRec h₂ z TI TO .ellipsis f1' := hz₂
    refine wpAny_bind ?_
    simp only [List.map_cons, List.zipIdx_cons, List.forIn_cons]
    refine wpAny_bind (wpAny_bind (wpAny_onRaise ?_))
    show wpAny _ _ (Builtin.SmallTypes.nextOf (.ref i0) >>= _) _ _ _
    refine wpAny_bind (nextOf_tuple_end hh (hi₁.extBut hs₂.extBut (D.iz i0 i0m)) (ht₁.extBut hs₂.extBut (D.lz l0 l0m)) hx fun h₃ e hs₃ he => ?_)
    obtain ⟨oe, hoe, hce⟩ := he
    have hz₃ : ZRec h₃ z TI TO .ellipsis f1' := hs₃ _ _ (D.iz i0 i0m).symm hz₂
    have hez : e ≠ z := fun x => by subst x; rw [hz₃] at hoe; cases hoe; simp at hce
    exact wpAny_setField_rec hz₃ (by simp) fun h₄ _ hs₄ => hE h₄ e (fun c o c1 _ c3 x => hs₄.extBut _ _ c1 (hs₃ _ _ (c3 i0 i0m) (hs₂.extBut _ _ c1 (hs₁.extBut _ _ c1 x)))) ⟨oe, hs₄.extBut _ _ hez hoe, hce⟩
  | false =>
    simp only [Bool.false_eq_true, if_false]
    refine wpAny_bind ?_
    rw [← Array.forIn_toList]
    simp only [List.map_cons, List.forIn_cons]
    refine wpAny_bind (wpAny_bind (wpAny_holding ?_))
    show wpAny _ _ (Builtin.SmallTypes.nextOf (.ref i0) >>= _) _ _ _
    refine wpAny_bind (nextOf_tuple_end hh hi₁ ht₁ hx fun h₂ e hs₂ he => ?_)
    exact hE h₂ e (fun c o c1 _ c3 x => hs₂ _ _ (c3 i0 i0m) (hs₁.extBut _ _ c1 x)) he
theorem next_item {z TI TO : Addr} {is ls : List Addr} {k : Nat} {xs os : List Value} {f0 : Value} {f1 : Bool} {Q : Option Value → Shared → Prop} (D : Apart z TI TO is ls) (hz : ZRec s.heap z TI TO f0 f1) (ho : Own f0) (hTI : TupO s.heap TI (is.map Value.ref)) (hTO : TupO s.heap TO os) (lo : os.length = is.length) (ne : is ≠ [])
    (hi : ItAt s.heap is ls 0 k) (hx : Items s.heap ls k xs) (hsz : xs.length ≤ sizeLine)
    (hQ : ∀ h' f0' f1' os', Own f0' → ZRec h' z TI TO f0' f1' → TupO h' TO os' → os'.length = is.length → ItAt h' is ls 0 (k + 1) → TupO h' s.heap.objs.size xs → h'.objs.size = s.heap.objs.size + 1 →
      (∀ c o, c ≠ z → c ≠ TO → (∀ i ∈ is, c ≠ i) → s.heap.get? c = some o → h'.get? c = some o) → Q (some (.ref s.heap.objs.size)) { s with heap := h' }) :
    wpAny (model prog w) A (pyNext (.ref z)) Q E s := by
  have hT : s.TypeIs (.ref z) "zip" := ⟨_, hz, rfl⟩
  unfold pyNext
  exact wpAny_bind (wpAny_attempt (wpAny_callSpecial?_slot (name := Str.ofString "__next__") hT F.slot_zip_next
    (wpAny_call_entry F.slot_zip_next hT F.entry_zip_next
      (zipN_item D hz ho hTI hTO lo ne hi hx hsz fun h' a b c d1 d2 d3 d4 d5 d6 d7 d8 => wpAny_pure (hQ h' a b c d1 d2 d3 d4 d5 d6 d7 d8)) (F.args_zip_next_1 _))))
theorem next_end {z TI TO i0 l0 : Addr} {is ls : List Addr} {k : Nat} {os : List Value} {its : Array Value} {f0 : Value} {f1 : Bool} {Q : Option Value → Shared → Prop} (hh : A.handled = none) (D : Apart z TI TO (i0 :: is) (l0 :: ls)) (hz : ZRec s.heap z TI TO f0 f1) (ho : Own f0)
    (hTI : TupO s.heap TI ((i0 :: is).map Value.ref)) (hTO : TupO s.heap TO os) (hi : ItAt s.heap (i0 :: is) (l0 :: ls) 0 k) (ht : s.heap.IsTuple l0 its) (hx : its[k]? = none)
    (hQ : ∀ h', (∀ c o, c ≠ z → c ≠ TO → (∀ i ∈ i0 :: is, c ≠ i) → s.heap.get? c = some o → h'.get? c = some o) → Q none { s with heap := h' }) : wpAny (model prog w) A (pyNext (.ref z)) Q E s := by
  have hT : s.TypeIs (.ref z) "zip" := ⟨_, hz, rfl⟩
  unfold pyNext
  refine wpAny_bind (wpAny_attempt (wpAny_callSpecial?_slot (name := Str.ofString "__next__") hT F.slot_zip_next
    (wpAny_call_entry F.slot_zip_next hT F.entry_zip_next (zipN_end (A := A.in1) hh D hz ho hTI hTO hi ht hx fun h' e hk he => ?_) (F.args_zip_next_1 _))))
  obtain ⟨o, ho, hc⟩ := he
  refine wpAny_bind (wpAny_isInstance (T := "StopIteration") (b := true) ⟨o, ho, hc⟩ isSubtype_stop ?_)
  exact wpAny_pure (hQ _ hk)
abbrev z3H1 (h : Heap) (l1 l2 l3 : Addr) : Heap := (h).push { cls := .type "tuple_iterator", data := .fields #[.ref l1, .int 0 0] }
abbrev z3H2 (h : Heap) (l1 l2 l3 : Addr) : Heap := (z3H1 h l1 l2 l3).push { cls := .type "tuple_iterator", data := .fields #[.ref l2, .int 0 0] }
abbrev z3H3 (h : Heap) (l1 l2 l3 : Addr) : Heap := (z3H2 h l1 l2 l3).push { cls := .type "tuple_iterator", data := .fields #[.ref l3, .int 0 0] }
abbrev z3H4 (h : Heap) (l1 l2 l3 : Addr) : Heap := (z3H3 h l1 l2 l3).push { cls := .type "tuple", data := .seq #[.ref h.objs.size, .ref (z3H1 h l1 l2 l3).objs.size, .ref (z3H2 h l1 l2 l3).objs.size] }
abbrev z3H5 (h : Heap) (l1 l2 l3 : Addr) : Heap := (z3H4 h l1 l2 l3).push { cls := .type "tuple", data := .seq #[.none, .none, .none] }
abbrev z3H6 (h : Heap) (l1 l2 l3 : Addr) : Heap := (z3H5 h l1 l2 l3).push { cls := .type "zip", data := .fields #[.none, .bool false, .bool false, .ref (z3H3 h l1 l2 l3).objs.size, .ref (z3H4 h l1 l2 l3).objs.size] }
theorem meets_zip3 (l1 l2 l3 : Addr) (xs1 xs2 xs3 : Array Value) :
    Meets (Builtin.«zip.__new__» ⟨[.type "zip", .ref l1, .ref l2, .ref l3], []⟩) (fun _ R s => s.heap.IsTuple l1 xs1 ∧ s.heap.IsTuple l2 xs2 ∧ s.heap.IsTuple l3 xs3 ∧
      R (.ok (.ret (.ref (z3H5 s.heap l1 l2 l3).objs.size))) { s with heap := z3H6 s.heap l1 l2 l3 }) :=
  .of_wp fun prog w A R s h => by
    obtain ⟨hp, g, d, tk, os⟩ := s; obtain ⟨hl1, hl2, hl3, h⟩ := h
    have hsub := sub_zip
    have H1 : Heap.IsTuple (Shared.heap ⟨hp, g, d, tk, os⟩) l1 xs1 := hl1
    have H2 : Heap.IsTuple (Shared.heap ⟨(hp).push { cls := .type "tuple_iterator", data := .fields #[.ref l1, .int 0 0] }, g, d, tk, os⟩) l2 xs2 := Heap.IsTuple.push (hl2) _
    have H3 : Heap.IsTuple (Shared.heap ⟨((hp).push { cls := .type "tuple_iterator", data := .fields #[.ref l1, .int 0 0] }).push { cls := .type "tuple_iterator", data := .fields #[.ref l2, .int 0 0] }, g, d, tk, os⟩) l3 xs3 := Heap.IsTuple.push (Heap.IsTuple.push (hl3) _) _
    wp_walk using wpAny_pyIter_tuple H1, wpAny_pyIter_tuple H2, wpAny_pyIter_tuple H3
    exact ⟨_, rfl, h⟩
theorem tc_zip3 (a0 a1 a2 : Value) : checkTypeCall "zip" ⟨[a0, a1, a2], []⟩ = pure () := by kernel_rfl
theorem nc_zip3 (a0 a1 a2 : Value) : checkBuiltinCall "zip.__new__" ⟨[.type "zip", a0, a1, a2], []⟩ = pure () := by kernel_rfl
theorem oi_3 (b a0 a1 a2 : Value) : argsOk "object.__init__" ⟨[b, a0, a1, a2], []⟩ := by
  unfold argsOk; rw [signature?_of (id := "object.__init__") (n := ['_', '_', 't', 'i', 'n', 'i', '_', '_']) (o := ['t', 'c', 'e', 'j', 'b', 'o']) (by kernel_rfl) owner_object]; kernel_rfl
theorem call_zip3 {l1 l2 l3 : Addr} {xs1 xs2 xs3 : Array Value} {Q : Value → Shared → Prop} (hl1 : s.heap.IsTuple l1 xs1) (hl2 : s.heap.IsTuple l2 xs2) (hl3 : s.heap.IsTuple l3 xs3)
    (h : ∀ h', ZRec h' (s.heap.objs.size + 5) (s.heap.objs.size + 3) (s.heap.objs.size + 4) .none false → TupO h' (s.heap.objs.size + 3) ([s.heap.objs.size, (s.heap.objs.size + 1), (s.heap.objs.size + 2)].map Value.ref) → TupO h' (s.heap.objs.size + 4) [.none, .none, .none] → ItAt h' [s.heap.objs.size, (s.heap.objs.size + 1), (s.heap.objs.size + 2)] [l1, l2, l3] 0 0 → h'.objs.size = s.heap.objs.size + 6 →
      (∀ c o, s.heap.get? c = some o → h'.get? c = some o) → Q (.ref (s.heap.objs.size + 5)) { s with heap := h' }) : wpAny (model prog w) A (call (.type "zip") [.ref l1, .ref l2, .ref l3]) Q E s := by
  refine callType_new F.called_zip (by decide) (tc_zip3 _ _ _) (nc_zip3 _ _ _) (fun obj => oi_3 obj _ _ _) F.entry_zip_new (meets_zip3 l1 l2 l3 xs1 xs2 xs3) ⟨hl1, hl2, hl3, ?_⟩
  have z1 : (z3H1 s.heap l1 l2 l3).objs.size = s.heap.objs.size + 1 := by rw [Heap.size_push]
  have z2 : (z3H2 s.heap l1 l2 l3).objs.size = s.heap.objs.size + 2 := by rw [Heap.size_push, z1]
  have z3 : (z3H3 s.heap l1 l2 l3).objs.size = s.heap.objs.size + 3 := by rw [Heap.size_push, z2]
  have z4 : (z3H4 s.heap l1 l2 l3).objs.size = s.heap.objs.size + 4 := by rw [Heap.size_push, z3]
  have z5 : (z3H5 s.heap l1 l2 l3).objs.size = s.heap.objs.size + 5 := by rw [Heap.size_push, z4]
  have z6 : (z3H6 s.heap l1 l2 l3).objs.size = s.heap.objs.size + 6 := by rw [Heap.size_push, z5]
  have g1 : (z3H6 s.heap l1 l2 l3).get? s.heap.objs.size = some _ := Heap.get?_push_of_some _ (Heap.get?_push_of_some _ (Heap.get?_push_of_some _ (Heap.get?_push_of_some _ (Heap.get?_push_of_some _ (Heap.get?_push_size _ rfl)))))
  have g2 : (z3H6 s.heap l1 l2 l3).get? (z3H1 s.heap l1 l2 l3).objs.size = some _ := Heap.get?_push_of_some _ (Heap.get?_push_of_some _ (Heap.get?_push_of_some _ (Heap.get?_push_of_some _ (Heap.get?_push_size _ rfl))))
  have g3 : (z3H6 s.heap l1 l2 l3).get? (z3H2 s.heap l1 l2 l3).objs.size = some _ := Heap.get?_push_of_some _ (Heap.get?_push_of_some _ (Heap.get?_push_of_some _ (Heap.get?_push_size _ rfl)))
  have g4 : (z3H6 s.heap l1 l2 l3).get? (z3H3 s.heap l1 l2 l3).objs.size = some _ := Heap.get?_push_of_some _ (Heap.get?_push_of_some _ (Heap.get?_push_size _ rfl))
  have g5 : (z3H6 s.heap l1 l2 l3).get? (z3H4 s.heap l1 l2 l3).objs.size = some _ := Heap.get?_push_of_some _ (Heap.get?_push_size _ rfl)
  have g6 : (z3H6 s.heap l1 l2 l3).get? (z3H5 s.heap l1 l2 l3).objs.size = some _ := Heap.get?_push_size _ rfl
  show _ ∧ _
  rw [z3, z4, z5] at g6
  rw [z1, z2, z3] at g4
  rw [z4] at g5
  rw [z1] at g2
  rw [z2] at g3
  rw [z5]
  refine ⟨⟨_, g6, rfl⟩, h _ g6 g4 g5 (fun m i l hm hl => ?_) z6 fun c o x => Heap.get?_push_of_some _ (Heap.get?_push_of_some _ (Heap.get?_push_of_some _ (Heap.get?_push_of_some _ (Heap.get?_push_of_some _ (Heap.get?_push_of_some _ (x))))))⟩
  rw [if_neg (Nat.not_lt_zero m)]
  match m, hm, hl with
  | 0, hm, hl =>
    cases hm
    cases hl
    exact ⟨_, g1, rfl, rfl⟩
  | 1, hm, hl =>
    cases hm
    cases hl
    exact ⟨_, g2, rfl, rfl⟩
  | 2, hm, hl =>
    cases hm
    cases hl
    exact ⟨_, g3, rfl, rfl⟩
  | m + 3, hm, hl => cases hm
abbrev z4H1 (h : Heap) (l1 l2 l3 l4 : Addr) : Heap := (h).push { cls := .type "tuple_iterator", data := .fields #[.ref l1, .int 0 0] }
abbrev z4H2 (h : Heap) (l1 l2 l3 l4 : Addr) : Heap := (z4H1 h l1 l2 l3 l4).push { cls := .type "tuple_iterator", data := .fields #[.ref l2, .int 0 0] }
abbrev z4H3 (h : Heap) (l1 l2 l3 l4 : Addr) : Heap := (z4H2 h l1 l2 l3 l4).push { cls := .type "tuple_iterator", data := .fields #[.ref l3, .int 0 0] }
abbrev z4H4 (h : Heap) (l1 l2 l3 l4 : Addr) : Heap := (z4H3 h l1 l2 l3 l4).push { cls := .type "tuple_iterator", data := .fields #[.ref l4, .int 0 0] }
abbrev z4H5 (h : Heap) (l1 l2 l3 l4 : Addr) : Heap := (z4H4 h l1 l2 l3 l4).push { cls := .type "tuple", data := .seq #[.ref h.objs.size, .ref (z4H1 h l1 l2 l3 l4).objs.size, .ref (z4H2 h l1 l2 l3 l4).objs.size, .ref (z4H3 h l1 l2 l3 l4).objs.size] }
abbrev z4H6 (h : Heap) (l1 l2 l3 l4 : Addr) : Heap := (z4H5 h l1 l2 l3 l4).push { cls := .type "tuple", data := .seq #[.none, .none, .none, .none] }
abbrev z4H7 (h : Heap) (l1 l2 l3 l4 : Addr) : Heap := (z4H6 h l1 l2 l3 l4).push { cls := .type "zip", data := .fields #[.none, .bool false, .bool false, .ref (z4H4 h l1 l2 l3 l4).objs.size, .ref (z4H5 h l1 l2 l3 l4).objs.size] }
theorem meets_zip4 (l1 l2 l3 l4 : Addr) (xs1 xs2 xs3 xs4 : Array Value) :
    Meets (Builtin.«zip.__new__» ⟨[.type "zip", .ref l1, .ref l2, .ref l3, .ref l4], []⟩) (fun _ R s => s.heap.IsTuple l1 xs1 ∧ s.heap.IsTuple l2 xs2 ∧ s.heap.IsTuple l3 xs3 ∧ s.heap.IsTuple l4 xs4 ∧
      R (.ok (.ret (.ref (z4H6 s.heap l1 l2 l3 l4).objs.size))) { s with heap := z4H7 s.heap l1 l2 l3 l4 }) :=
  .of_wp fun prog w A R s h => by
    obtain ⟨hp, g, d, tk, os⟩ := s; obtain ⟨hl1, hl2, hl3, hl4, h⟩ := h
    have hsub := sub_zip
    have H1 : Heap.IsTuple (Shared.heap ⟨hp, g, d, tk, os⟩) l1 xs1 := hl1
    have H2 : Heap.IsTuple (Shared.heap ⟨(hp).push { cls := .type "tuple_iterator", data := .fields #[.ref l1, .int 0 0] }, g, d, tk, os⟩) l2 xs2 := Heap.IsTuple.push (hl2) _
    have H3 : Heap.IsTuple (Shared.heap ⟨((hp).push { cls := .type "tuple_iterator", data := .fields #[.ref l1, .int 0 0] }).push { cls := .type "tuple_iterator", data := .fields #[.ref l2, .int 0 0] }, g, d, tk, os⟩) l3 xs3 := Heap.IsTuple.push (Heap.IsTuple.push (hl3) _) _
    have H4 : Heap.IsTuple (Shared.heap ⟨(((hp).push { cls := .type "tuple_iterator", data := .fields #[.ref l1, .int 0 0] }).push { cls := .type "tuple_iterator", data := .fields #[.ref l2, .int 0 0] }).push { cls := .type "tuple_iterator", data := .fields #[.ref l3, .int 0 0] }, g, d, tk, os⟩) l4 xs4 := Heap.IsTuple.push (Heap.IsTuple.push (Heap.IsTuple.push (hl4) _) _) _
    wp_walk using wpAny_pyIter_tuple H1, wpAny_pyIter_tuple H2, wpAny_pyIter_tuple H3, wpAny_pyIter_tuple H4
    exact ⟨_, rfl, h⟩
theorem tc_zip4 (a0 a1 a2 a3 : Value) : checkTypeCall "zip" ⟨[a0, a1, a2, a3], []⟩ = pure () := by kernel_rfl
theorem nc_zip4 (a0 a1 a2 a3 : Value) : checkBuiltinCall "zip.__new__" ⟨[.type "zip", a0, a1, a2, a3], []⟩ = pure () := by kernel_rfl
theorem oi_4 (b a0 a1 a2 a3 : Value) : argsOk "object.__init__" ⟨[b, a0, a1, a2, a3], []⟩ := by
  unfold argsOk; rw [signature?_of (id := "object.__init__") (n := ['_', '_', 't', 'i', 'n', 'i', '_', '_']) (o := ['t', 'c', 'e', 'j', 'b', 'o']) (by kernel_rfl) owner_object]; kernel_rfl
theorem call_zip4 {l1 l2 l3 l4 : Addr} {xs1 xs2 xs3 xs4 : Array Value} {Q : Value → Shared → Prop} (hl1 : s.heap.IsTuple l1 xs1) (hl2 : s.heap.IsTuple l2 xs2) (hl3 : s.heap.IsTuple l3 xs3) (hl4 : s.heap.IsTuple l4 xs4)
    (h : ∀ h', ZRec h' (s.heap.objs.size + 6) (s.heap.objs.size + 4) (s.heap.objs.size + 5) .none false → TupO h' (s.heap.objs.size + 4) ([s.heap.objs.size, (s.heap.objs.size + 1), (s.heap.objs.size + 2), (s.heap.objs.size + 3)].map Value.ref) → TupO h' (s.heap.objs.size + 5) [.none, .none, .none, .none] → ItAt h' [s.heap.objs.size, (s.heap.objs.size + 1), (s.heap.objs.size + 2), (s.heap.objs.size + 3)] [l1, l2, l3, l4] 0 0 → h'.objs.size = s.heap.objs.size + 7 →
      (∀ c o, s.heap.get? c = some o → h'.get? c = some o) → Q (.ref (s.heap.objs.size + 6)) { s with heap := h' }) : wpAny (model prog w) A (call (.type "zip") [.ref l1, .ref l2, .ref l3, .ref l4]) Q E s := by
  refine callType_new F.called_zip (by decide) (tc_zip4 _ _ _ _) (nc_zip4 _ _ _ _) (fun obj => oi_4 obj _ _ _ _) F.entry_zip_new (meets_zip4 l1 l2 l3 l4 xs1 xs2 xs3 xs4) ⟨hl1, hl2, hl3, hl4, ?_⟩
  have z1 : (z4H1 s.heap l1 l2 l3 l4).objs.size = s.heap.objs.size + 1 := by rw [Heap.size_push]
  have z2 : (z4H2 s.heap l1 l2 l3 l4).objs.size = s.heap.objs.size + 2 := by rw [Heap.size_push, z1]
  have z3 : (z4H3 s.heap l1 l2 l3 l4).objs.size = s.heap.objs.size + 3 := by rw [Heap.size_push, z2]
  have z4 : (z4H4 s.heap l1 l2 l3 l4).objs.size = s.heap.objs.size + 4 := by rw [Heap.size_push, z3]
  have z5 : (z4H5 s.heap l1 l2 l3 l4).objs.size = s.heap.objs.size + 5 := by rw [Heap.size_push, z4]
  have z6 : (z4H6 s.heap l1 l2 l3 l4).objs.size = s.heap.objs.size + 6 := by rw [Heap.size_push, z5]
  have z7 : (z4H7 s.heap l1 l2 l3 l4).objs.size = s.heap.objs.size + 7 := by rw [Heap.size_push, z6]
  have g1 : (z4H7 s.heap l1 l2 l3 l4).get? s.heap.objs.size = some _ := Heap.get?_push_of_some _ (Heap.get?_push_of_some _ (Heap.get?_push_of_some _ (Heap.get?_push_of_some _ (Heap.get?_push_of_some _ (Heap.get?_push_of_some _ (Heap.get?_push_size _ rfl))))))
  have g2 : (z4H7 s.heap l1 l2 l3 l4).get? (z4H1 s.heap l1 l2 l3 l4).objs.size = some _ := Heap.get?_push_of_some _ (Heap.get?_push_of_some _ (Heap.get?_push_of_some _ (Heap.get?_push_of_some _ (Heap.get?_push_of_some _ (Heap.get?_push_size _ rfl)))))
  have g3 : (z4H7 s.heap l1 l2 l3 l4).get? (z4H2 s.heap l1 l2 l3 l4).objs.size = some _ := Heap.get?_push_of_some _ (Heap.get?_push_of_some _ (Heap.get?_push_of_some _ (Heap.get?_push_of_some _ (Heap.get?_push_size _ rfl))))
  have g4 : (z4H7 s.heap l1 l2 l3 l4).get? (z4H3 s.heap l1 l2 l3 l4).objs.size = some _ := Heap.get?_push_of_some _ (Heap.get?_push_of_some _ (Heap.get?_push_of_some _ (Heap.get?_push_size _ rfl)))
  have g5 : (z4H7 s.heap l1 l2 l3 l4).get? (z4H4 s.heap l1 l2 l3 l4).objs.size = some _ := Heap.get?_push_of_some _ (Heap.get?_push_of_some _ (Heap.get?_push_size _ rfl))
  have g6 : (z4H7 s.heap l1 l2 l3 l4).get? (z4H5 s.heap l1 l2 l3 l4).objs.size = some _ := Heap.get?_push_of_some _ (Heap.get?_push_size _ rfl)
  have g7 : (z4H7 s.heap l1 l2 l3 l4).get? (z4H6 s.heap l1 l2 l3 l4).objs.size = some _ := Heap.get?_push_size _ rfl
  show _ ∧ _
  rw [z4, z5, z6] at g7
  rw [z1, z2, z3, z4] at g5
  rw [z5] at g6
  rw [z1] at g2
  rw [z2] at g3
  rw [z3] at g4
  rw [z6]
  refine ⟨⟨_, g7, rfl⟩, h _ g7 g5 g6 (fun m i l hm hl => ?_) z7 fun c o x => Heap.get?_push_of_some _ (Heap.get?_push_of_some _ (Heap.get?_push_of_some _ (Heap.get?_push_of_some _ (Heap.get?_push_of_some _ (Heap.get?_push_of_some _ (Heap.get?_push_of_some _ (x)))))))⟩
  rw [if_neg (Nat.not_lt_zero m)]
  match m, hm, hl with
  | 0, hm, hl =>
    cases hm
    cases hl
    exact ⟨_, g1, rfl, rfl⟩
  | 1, hm, hl =>
    cases hm
    cases hl
    exact ⟨_, g2, rfl, rfl⟩
  | 2, hm, hl =>
    cases hm
    cases hl
    exact ⟨_, g3, rfl, rfl⟩
  | 3, hm, hl =>
    cases hm
    cases hl
    exact ⟨_, g4, rfl, rfl⟩
  | m + 4, hm, hl => cases hm
/-- T(*e), T a type of Python's own -/
theorem callWith_typeS {M : Model} {A : Around} {E : Value → Shared → Prop} {s : Shared} {env : Env} {pos p : Pos} {T : String} {Q : Value → Shared → Prop} {e : Expr} (h : wpAny M A (eval e env) (fun v s₁ => PySem.W.StarOf M A E v (fun vs s₂ => wpAny M A (call (.type T) vs) Q E s₂) s₁) E s)
    (he : starEach [.Starred e p] env = [(true, eval e env)] := by rfl) :
    wpAny M A (callWith pos (.type T) [] (backTo pos (starEach [.Starred e p] env)) []) Q E s := by
  rw [he]
  refine PySem.W.ks_call (P := fun _ => True) rfl (fun _ _ => ⟨.machine, .inr (.inl rfl), PySem.W.Looks.of_pure rfl⟩) (PySem.W.ks_lone (thn h fun v s1 h1 => ?_))
  unfold PySem.W.StarOf at h1 ⊢
  exact thn h1 fun b s2 ⟨e, h2⟩ => ⟨e, thn h2 fun vs s3 h3 => ⟨trivial, h3⟩⟩
end
end KZn
/-! for x in zip(*rows), [.. for x in zip(*rows)], rows three or four tuples of one length. -/
namespace KZn
open PySem PySem.Spec PySem.F PySem.SeqAt PyProof.Rows L2 RZ
abbrev SqN (K : PySem.W.Frag) (H : Hp) : List Addr → List (List V) → Prop := W.EachIs (SqT K H)
/-- the values at a place -/
def colV (i : Nat) (rows : List (List V)) : List V := rows.map fun r => r.getD i .non
def ItzN (K : PySem.W.Frag) (ls : List Addr) : It :=
  ⟨fun i H => ∃ rows, SqN K H ls rows ∧ ∀ r ∈ rows, i < r.length,
    fun i H v H' => ∃ (T : Addr) (col : List V), v = .ref T ∧ H T = none ∧ H' = upd H T (.tup col) ∧ ∀ rows, SqN K H ls rows → col = colV i rows,
    fun i H => ∃ (l : Addr) (ls' : List Addr) (r : List V), ls = l :: ls' ∧ SqT K H l r ∧ r.length ≤ i⟩
section
variable {X : Cx} {pins : List (Addr × Obj)} {σ : L2.St} {H : Hp} {s : Shared}
theorem sqN_inj (I : Inv X pins σ H s) : ∀ {ls : List Addr} {r1 r2 : List (List V)}, SqN X.K H ls r1 → SqN X.K H ls r2 → r1 = r2
  | [], _, _, .nil, .nil => rfl
  | l :: ls, _, _, .cons a b, .cons c d => by rw [I.tuple_inj a c, sqN_inj I b d]
theorem items_of (I : Inv X pins σ H s) {i : Nat} : ∀ {ls : List Addr} {rows : List (List V)}, SqN X.K H ls rows → (∀ r ∈ rows, i < r.length) → ∃ xs : List Value, Vals (colV i rows) xs ∧ Items s.heap ls i xs
  | [], _, .nil, _ => ⟨[], .nil, rfl, fun m l x h _ => by simp at h⟩
  | l :: ls, r :: rows, .cons a b, h => by
    obtain ⟨xs, h1, h2, h3⟩ := items_of I b fun r hr => h r (List.mem_cons_of_mem _ hr)
    obtain ⟨its, rv, pl, _⟩ := I.tuple a
    have lt := h r List.mem_cons_self
    obtain ⟨u, hu, ru⟩ := rv.get (List.getElem?_eq_getElem lt)
    have e : r.getD i .non = r[i] := by rw [List.getD_eq_getElem?_getD, List.getElem?_eq_getElem lt]; rfl
    refine ⟨u :: xs, .cons (by show L2.RelV (r.getD i .non) u; rw [e]; exact ru) h1, by rw [List.length_cons, List.length_cons, h2], fun m l2 x hl hx => ?_⟩
    cases m with
    | zero =>
      cases hl
      cases hx
      exact ⟨its.toArray, pl, by simpa using hu⟩
    | succ m => exact h3 m l2 x hl hx
end
theorem wpIter {prog : Program} {w : World} {A : Around} {E : Value → Shared → Prop} {s : Shared} {z TI TO : Addr} {f0 : Value} {f1 : Bool} {Q : Value → Shared → Prop} (hz : ZRec s.heap z TI TO f0 f1) (h : Q (.ref z) s) : wpAny (model prog w) A (pyIter (.ref z)) Q E s := by
  have hT : s.TypeIs (.ref z) "zip" := ⟨_, hz, rfl⟩
  refine wpAny_pyIter_slot hT F.slot_zip_iter (wpAny_call_entry F.slot_zip_iter hT F.entry_zip_iter ?_ (F.args_zip_iter_1 _))
  show wpAny _ _ (ret (.ref z)) _ _ s
  exact wpAny_pure ⟨_, rfl, "zip", _, hT, F.slot_zip_next.lookup, h⟩
/-- what stands of the iterator at a turn -/
def tnN (z TI TO : Addr) (is ls : List Addr) (i : Nat) (h : Heap) : Prop := ∃ (f0 : Value) (f1 : Bool) (os : List Value), Own f0 ∧ ZRec h z TI TO f0 f1 ∧ TupO h TI (is.map Value.ref) ∧ TupO h TO os ∧ os.length = is.length ∧ ItAt h is ls 0 i
theorem turn_zipN {P : Program} {w : World} {K : PySem.W.Frag} {tx : Str} {tp : Pos} {z TI TO : Addr} {is ls : List Addr} (D : Apart z TI TO is ls) (ne : is ≠ []) (sz : is.length ≤ sizeLine) : Turn P w K (.Name tx tp) (ItzN K ls) (z :: TI :: TO :: is) z (tnN z TI TO is ls) where
  mem := List.mem_cons_self
  obj := fun i h st c hc => by
    obtain ⟨f0, f1, os, ho, hz, hTI, hTO, lo, hi⟩ := st
    rcases List.mem_cons.mp hc with q | hc
    · rw [q]; exact ⟨_, hz, fun v q => nomatch q⟩
    rcases List.mem_cons.mp hc with q | hc
    · rw [q]; exact ⟨_, hTI, fun v q => nomatch q⟩
    rcases List.mem_cons.mp hc with q | hc
    · rw [q]; exact ⟨_, hTO, fun v q => nomatch q⟩
    obtain ⟨m, hm⟩ := List.mem_iff_getElem?.mp hc
    have lm := (List.getElem?_eq_some_iff.mp hm).1
    obtain ⟨o, e, _, d⟩ := hi m c _ hm (List.getElem?_eq_getElem (by rw [← D.len]; exact lm))
    exact ⟨o, e, fun v q => by rw [d] at q; cases q⟩
  keep := fun i h h' st k => by
    obtain ⟨f0, f1, os, ho, hz, hTI, hTO, lo, hi⟩ := st
    refine ⟨f0, f1, os, ho, k z (by simp) _ hz, k TI (by simp) _ hTI, k TO (by simp) _ hTO, lo, fun m i l hm hl => (hi m i l hm hl).at fun o q => k i ?_ o q⟩
    exact List.mem_cons_of_mem _ (List.mem_cons_of_mem _ (List.mem_cons_of_mem _ (List.mem_of_getElem? hm)))
  item := by
    intro X hP hw hK hc i pins s σ H E I hf st hg
    subst hP hw hK
    obtain ⟨f0, f1, os, ho, hz, hTI, hTO, lo, hi⟩ := st
    obtain ⟨rows, hr, lt⟩ := hg
    obtain ⟨xs, rv, hx⟩ := items_of I hr lt
    have lx : xs.length ≤ sizeLine := by rw [hx.1, ← D.len]; exact sz
    refine next_item D hz ho hTI hTO lo ne hi hx lx fun h' f0' f1' os' ho' hz' hTO' lo' hi' hT hsz hk => ?_
    refine ⟨_, rfl, ?_⟩
    show wpAny _ _ (pure ()) _ _ _
    have mem3 : ∀ i ∈ is, i ∈ z :: TI :: TO :: is := fun i hi => List.mem_cons_of_mem _ (List.mem_cons_of_mem _ (List.mem_cons_of_mem _ hi))
    have new : ObjOk X.prog X.w (upd H s.heap.objs.size (.tup (colV i rows))) h' s.heap.objs.size (.tup (colV i rows)) :=
      ⟨by rw [rv.length]; exact lx, xs, rv, ⟨_, hT, rfl, _, rfl⟩⟩
    have I1 : Inv X pins σ (upd H s.heap.objs.size (.tup (colV i rows))) { s with heap := h' } :=
      I.turnedNew (t' := s.toks) (ch := z :: TI :: TO :: is) (fun c o hb q => hk c o (fun q' => hb (by simp [q'])) (fun q' => hb (by simp [q'])) (fun i hi q' => hb (by rw [q']; exact mem3 i hi)) q) hf (Nat.le_refl _) new
    refine wpAny_pure ⟨.ref s.heap.objs.size, _, I1, rfl, ⟨_, _, rfl, I.hok.fresh (Nat.le_refl _), rfl, fun rows2 h2 => by rw [sqN_inj I hr h2]⟩, ⟨f0', f1', os', ho', hz', ?_, hTO', lo', hi'⟩, fun c hcm => ?_⟩
    · exact hk _ _ D.TIz D.TITO (fun i hi => (D.iI i hi).symm) hTI
    · have hlt : c < s.heap.objs.size := by
        rcases List.mem_cons.mp hcm with q | hcm
        · rw [q]; exact Heap.lt_size hz
        rcases List.mem_cons.mp hcm with q | hcm
        · rw [q]; exact Heap.lt_size hTI
        rcases List.mem_cons.mp hcm with q | hcm
        · rw [q]; exact Heap.lt_size hTO
        obtain ⟨m, hm⟩ := List.mem_iff_getElem?.mp hcm
        have lm := (List.getElem?_eq_some_iff.mp hm).1
        obtain ⟨o, e, _⟩ := hi m c _ hm (List.getElem?_eq_getElem (by rw [← D.len]; exact lm))
        exact Heap.lt_size e
      rw [upd_ne (Nat.ne_of_lt hlt)]
      exact (hf c hcm).1
  done := by
    intro X hP hw hK hc i pins s σ H E I hf st hg
    subst hP hw hK
    obtain ⟨f0, f1, os, ho, hz, hTI, hTO, lo, hi⟩ := st
    obtain ⟨l, ls', r, rfl, hr, le⟩ := hg
    obtain ⟨its, rv, pl, _⟩ := I.tuple hr
    cases is with
    | nil => exact absurd rfl ne
    | cons i0 is =>
      have l1 := rv.length
      refine next_end (I.ok.hd hc) D hz ho hTI hTO hi pl (by simp; omega) fun h' hk => ⟨rfl, I.turnedL (t' := s.toks) (ch := z :: TI :: TO :: i0 :: is) (fun c o hb q =>
        hk c o (fun q' => hb (by simp [q'])) (fun q' => hb (by simp [q'])) (fun i hi q' => hb (by rw [q']; exact List.mem_cons_of_mem _ (List.mem_cons_of_mem _ (List.mem_cons_of_mem _ hi)))) q) hf⟩
  self := fun A i s Q E st h => by
    obtain ⟨f0, f1, os, ho, hz, _⟩ := st
    exact wpIter hz h
def iZipS (K : PySem.W.Frag) (te : TE) : TI := fun σ H R => te σ H fun v H1 => ∃ (a : Addr) (ls : List Addr), v = .ref a ∧ (SqT K H1 a (ls.map V.ref) ∨ SqL K H1 a (ls.map V.ref)) ∧ (ls.length = 3 ∨ ls.length = 4) ∧ (∃ rows, SqN K H1 ls rows) ∧ R (ItzN K ls) H1
theorem vals_refs : ∀ {ls : List Addr} {us : List Value}, Vals (ls.map V.ref) us → us = ls.map Value.ref
  | [], _, .nil => rfl
  | l :: ls, _, .cons a b => by
    cases a
    rw [vals_refs b]
    rfl
section
variable {X : Cx} {pins : List (Addr × Obj)} {σ : L2.St} {H : Hp} {s : Shared}
theorem tuples_of (I : Inv X pins σ H s) : ∀ {ls : List Addr} {rows : List (List V)}, SqN X.K H ls rows → ∀ l ∈ ls, ∃ its : Array Value, s.heap.IsTuple l its ∧ l < s.heap.objs.size
  | _, _, .nil, _, h => nomatch h
  | l :: ls, r :: rows, .cons a b, l2, h => by
    rcases List.mem_cons.mp h with rfl | h
    · obtain ⟨its, rv, pl, _⟩ := I.tuple a
      obtain ⟨o, ho, _⟩ := id pl
      exact ⟨_, pl, Heap.lt_size ho⟩
    · exact tuples_of I b l2 h
end
theorem pi_zipS {X : Cx} {e : Expr} {te : TE} {p pos tp0 sp : Pos} {tx : Str} (hg : Gl X "zip") (hm : X.mg "zip" = none) (he : PE X e te)
    (hs : starEach [.Starred e sp] X.env = [(true, eval e X.env)] := by rfl) :
    PI X (.Name tx tp0) (.Call (.Name "zip" p) [.Starred e sp] [] pos) (iZipS X.K te) := by
  refine ⟨fun pins s σ H R I h => ?_⟩
  refine Call_ (ld_blt I hg hm PyProof.Rows.boot_zip (callWith_typeS (thn (he.run pins s σ H _ I h) fun v s1 ⟨y, H1, I1, ry, a, ls, ey, hx, hl, ⟨rows, hr⟩, q⟩ => ?_) hs))
  subst ey
  obtain rfl : v = Value.ref a := ry
  refine StX.star_any I1 hx fun us s2 I2 rv => ?_
  rw [vals_refs rv]
  have tp := tuples_of I2 hr
  have fin : ∀ (n : Nat) (is : List Addr) (h' : Heap), is.length = ls.length → is ≠ [] → is.length ≤ sizeLine → (∀ i ∈ is, s2.heap.objs.size ≤ i ∧ i < s2.heap.objs.size + n) → is.Nodup → ZRec h' (s2.heap.objs.size + (n + 2)) (s2.heap.objs.size + n) (s2.heap.objs.size + (n + 1)) .none false → TupO h' (s2.heap.objs.size + n) (is.map Value.ref) →
      (∃ os, TupO h' (s2.heap.objs.size + (n + 1)) os ∧ os.length = is.length) → ItAt h' is ls 0 0 → (∀ c o, s2.heap.get? c = some o → h'.get? c = some o) →
      wpAny (model X.prog X.w) X.A (pyIter (.ref (s2.heap.objs.size + (n + 2)))) (PIE X pins σ (.Name tx tp0) R) X.xe { s2 with heap := h' } := fun n is h' l1 ne sz rg nd hz hTI ⟨os, hTO, lo⟩ hi hk => by
    have I3 : Inv X pins σ H1 { s2 with heap := h' } := I2.kept (t' := s2.toks) hk
    have D : Apart (s2.heap.objs.size + (n + 2)) (s2.heap.objs.size + n) (s2.heap.objs.size + (n + 1)) is ls := by
      refine ⟨Nat.ne_of_lt (by omega), Nat.ne_of_lt (by omega), Nat.ne_of_lt (by omega), fun i hi => Nat.ne_of_lt (Nat.lt_of_lt_of_le (rg i hi).2 (by omega)), fun i hi => Nat.ne_of_lt (rg i hi).2, fun i hi => Nat.ne_of_lt (Nat.lt_of_lt_of_le (rg i hi).2 (by omega)), nd, fun l hl => ?_, fun l hl => ?_, fun l hl i hi => ?_, l1⟩
      · obtain ⟨_, _, z⟩ := tp l hl
        exact Nat.ne_of_lt (Nat.lt_of_lt_of_le z (by omega))
      · obtain ⟨_, _, z⟩ := tp l hl
        exact Nat.ne_of_lt (Nat.lt_of_lt_of_le z (by omega))
      · obtain ⟨_, _, z⟩ := tp l hl
        exact Nat.ne_of_lt (Nat.lt_of_lt_of_le z (rg i hi).1)
    refine wpIter hz ⟨_, _, _, _, H1, rfl, I3, turn_zipN D ne sz, ⟨_, _, os, .inl rfl, hz, hTI, hTO, lo, hi⟩, fun c hcm => ?_, q⟩
    have hle : s2.heap.objs.size ≤ c := by
      rcases List.mem_cons.mp hcm with q | hcm
      · rw [q]; exact Nat.le_add_right _ _
      rcases List.mem_cons.mp hcm with q | hcm
      · rw [q]; exact Nat.le_add_right _ _
      rcases List.mem_cons.mp hcm with q | hcm
      · rw [q]; exact Nat.le_add_right _ _
      exact (rg c hcm).1
    exact I2.fpOk hle (I2.hok.fresh hle)
  rcases hl with hl | hl
  · obtain ⟨l1, l2, l3, rfl⟩ : ∃ l1 l2 l3, ls = [l1, l2, l3] := match ls, hl with | [l1, l2, l3], _ => ⟨l1, l2, l3, rfl⟩
    obtain ⟨x1, t1, _⟩ := tp l1 (by simp)
    obtain ⟨x2, t2, _⟩ := tp l2 (by simp)
    obtain ⟨x3, t3, _⟩ := tp l3 (by simp)
    refine call_zip3 t1 t2 t3 fun h' hz hTI hTO hi hsz hk => fin 3 [s2.heap.objs.size, s2.heap.objs.size + 1, s2.heap.objs.size + 2] h' rfl (fun z => nomatch z) (by show 3 ≤ sizeLine; decide) (fun i hi => ?_) ?_ hz hTI ⟨_, hTO, rfl⟩ hi hk
    · simp only [List.mem_cons, List.not_mem_nil, or_false] at hi
      rcases hi with z | z | z <;> rw [z] <;> exact ⟨by first | exact Nat.le_refl _ | exact Nat.le_add_right _ _, by first | exact Nat.lt_add_of_pos_right (by decide) | exact Nat.add_lt_add_left (by decide) _⟩
    · simp
  · obtain ⟨l1, l2, l3, l4, rfl⟩ : ∃ l1 l2 l3 l4, ls = [l1, l2, l3, l4] := match ls, hl with | [l1, l2, l3, l4], _ => ⟨l1, l2, l3, l4, rfl⟩
    obtain ⟨x1, t1, _⟩ := tp l1 (by simp)
    obtain ⟨x2, t2, _⟩ := tp l2 (by simp)
    obtain ⟨x3, t3, _⟩ := tp l3 (by simp)
    obtain ⟨x4, t4, _⟩ := tp l4 (by simp)
    refine call_zip4 t1 t2 t3 t4 fun h' hz hTI hTO hi hsz hk => fin 4 [s2.heap.objs.size, s2.heap.objs.size + 1, s2.heap.objs.size + 2, s2.heap.objs.size + 3] h' rfl (fun z => nomatch z) (by show 4 ≤ sizeLine; decide) (fun i hi => ?_) ?_ hz hTI ⟨_, hTO, rfl⟩ hi hk
    · simp only [List.mem_cons, List.not_mem_nil, or_false] at hi
      rcases hi with z | z | z | z <;> rw [z] <;> exact ⟨by first | exact Nat.le_refl _ | exact Nat.le_add_right _ _, by first | exact Nat.lt_add_of_pos_right (by decide) | exact Nat.add_lt_add_left (by decide) _⟩
    · simp
/-- [.. for x in zip(*rows)], the rows of one length -/
theorem lc_zipN {K : PySem.W.Frag} {ls : List Addr} {rows : List (List V)} {n : Nat} {g : TG} {tt : TT} {te : TE} {vs : List Nat} {σ : L2.St} {H1 : Hp} {D : Addr} {Qd : Hp → Prop} (Pv : Nat → Hp → Prop) (hn : ∀ r ∈ rows, r.length = n) (ne : ls ≠ []) (h0 : Pv 0 (upd H1 D (.lst []))) (hl : ∀ i H, i ≤ n → Pv i H → SqN K H ls rows)
    (hs : ∀ i T H, i < n → Pv i H → H T = none → g (.ref T) (wipe σ vs) (upd H T (.tup (colV i rows))) fun σ2 H2 => wipe σ2 vs = wipe σ vs ∧ tt σ2 H2 fun b H3 =>
      if b = true then te σ2 H3 fun y H4 => ∃ acc, H4 D = some (.lst acc) ∧ acc.length < sizeLine ∧ Pv (i + 1) (upd H4 D (.lst (acc ++ [y]))) else Pv (i + 1) H3) (hd : ∀ H, Pv n H → Qd H) :
    ∃ W : Nat → Nat → Hp → Prop, (∃ m, W 0 m (upd H1 D (.lst []))) ∧ ∀ i m H, W i m H →
      ((ItzN K ls).stop i H ∧ Qd H) ∨ ((ItzN K ls).go i H ∧ ∃ Nx : Hp → Prop, (∀ H', Nx H' → ∃ m', m' < m ∧ W (i + 1) m' H') ∧ ∀ x H', (ItzN K ls).yld i H x H' → g x (wipe σ vs) H' fun σ2 H2 => wipe σ2 vs = wipe σ vs ∧ tt σ2 H2 fun b H3 =>
        if b = true then te σ2 H3 fun y H4 => ∃ acc, H4 D = some (.lst acc) ∧ acc.length < sizeLine ∧ Nx (upd H4 D (.lst (acc ++ [y]))) else Nx H3) := by
  refine ⟨fun i m H => m = n - i ∧ i ≤ n ∧ Pv i H, ⟨n, by simp, Nat.zero_le _, h0⟩, ?_⟩
  rintro i m H ⟨rfl, hi, p⟩
  have q := hl i H hi p
  by_cases hlt : i < n
  · refine .inr ⟨⟨rows, q, fun r hr => by rw [hn r hr]; exact hlt⟩, Pv (i + 1), fun H' p' => ⟨n - (i + 1), by omega, rfl, hlt, p'⟩, fun x H' y => ?_⟩
    obtain ⟨T, col, rfl, hT, rfl, hc⟩ := y
    rw [hc rows q]
    exact hs i T H hlt p hT
  · have e : i = n := by omega
    subst e
    cases q with
    | nil => exact absurd rfl ne
    | cons a b => exact .inl ⟨⟨_, _, _, rfl, a, by rw [hn _ List.mem_cons_self]; exact Nat.le_refl _⟩, hd H p⟩
end KZn
/-! Vote.rows_voted. -/
namespace K01
open PySem PySem.Spec PyProof.Rows L2 KG KS KA KX KIa KFz
/-- rows of texts at their addresses -/
abbrev LsAt (H : Hp) : List Addr → List (List Str) → Prop := W.EachIs fun l r => H l = some (.tup (r.map V.str))
/-- the values at a place -/
def colS (i : Nat) (rows : List (List Str)) : List Str := rows.map fun r => r.getD i Str.empty
def voteS (xs : List Str) (k : Nat) (rs : List Str) (n : Nat) (rows : List (List Str)) : List Str := (List.range n).map fun i => (lookS (ptsL k xs) rs (colS i rows)).getD Str.empty
theorem LsAt.up {H H' : Hp} {ls : List Addr} {rows : List (List Str)} (h : LsAt H ls rows) (e : Same H H') : LsAt H' ls rows := each_and h fun _ _ _ z => e _ _ z
theorem LsAt.sqN {K : PySem.W.Frag} {H : Hp} : ∀ {ls : List Addr} {rows : List (List Str)}, LsAt H ls rows → KZn.SqN K H ls (rows.map fun r => r.map V.str)
  | _, _, .nil => .nil
  | _, _, .cons a b => .cons (SqT.of a) (LsAt.sqN b)
theorem col_map {i n : Nat} : ∀ {rows : List (List Str)}, (∀ r ∈ rows, r.length = n) → i < n → KZn.colV i (rows.map fun r => r.map V.str) = (colS i rows).map V.str
  | [], _, _ => rfl
  | r :: rows, h, hi => by
    have ih := col_map (rows := rows) (fun q hq => h q (List.mem_cons_of_mem _ hq)) hi
    unfold KZn.colV colS at ih ⊢
    rw [List.map_cons, List.map_cons, List.map_cons, List.map_cons, ih]
    congr 1
    have l := h r List.mem_cons_self
    rw [List.getD_eq_getElem?_getD, List.getD_eq_getElem?_getD, List.getElem?_map, List.getElem?_eq_getElem (by omega)]
    rfl
/-- vote.rows_voted(row, ..) -/
def spRV (K : PySem.W.Frag) (C N : Addr) : Sp := fun vs H Q E => ∃ (o p : Addr) (ls : List Addr) (xs rs : List Str) (k n : Nat) (rows : List (List Str)), vs = [.ref o, .ref p] ∧ H p = some (.tup (ls.map V.ref)) ∧ VtAt C H o xs k rs ∧ VGood xs k rs ∧ LsAt H ls rows ∧ ls.length ≤ 60 ∧ (∀ r ∈ rows, r.length = n ∧ ∀ x ∈ r, x ∈ xs) ∧ n ≤ 60 ∧
  (∀ (q : Addr) (H' : Hp), ls.length = k → Same H H' → H' q = some (.tup ((voteS xs k rs n rows).map V.str)) → (∀ x ∈ voteS xs k rs n rows, x ∈ rs) → Q (.ref q) H') ∧ ∀ d H', ls.length ≠ k → Same H H' → H d = none → H' d = some (.xd [(("word" : Str), V.str "count")]) → E (.ref N) (some d) H'
abbrev spRVV (K : PySem.W.Frag) (C N : Addr) : Sp := fun vs H Q E => ∃ ws rest, vs = ws ++ rest ∧ ws.length = (["self"] : List Str).length ∧ rest.length ≤ sizeLine ∧ ∀ p, H p = Option.none → spRV K C N (ws ++ [V.ref p]) (upd H p (.tup rest)) Q E
theorem vote_in {xs rs : List Str} {k n : Nat} {rows : List (List Str)} (G : VGood xs k rs) (lk : rows.length = k) (h : ∀ r ∈ rows, r.length = n ∧ ∀ x ∈ r, x ∈ xs) {i : Nat} (hi : i < n) : ∃ u ∈ rs, lookS (ptsL k xs) rs (colS i rows) = some u := by
  refine look_in (vs := rs) G.len.symm (pts_mem k _ (by unfold colS; rw [List.length_map, lk]) fun y hy => ?_)
  obtain ⟨r, hr, rfl⟩ := List.mem_map.mp hy
  obtain ⟨l, sub⟩ := h r hr
  rw [List.getD_eq_getElem?_getD, List.getElem?_eq_getElem (by omega)]
  exact sub _ (List.getElem_mem _)
end K01
/-! sorted(t), t a tuple of texts. -/
namespace KTc
open PySem PySem.Spec PySem.W PySem.SeqAt PyProof.Rows L2 KS
/-- the texts in order, repeated ones too -/
def sortT (ts : List Str) : List Str := ts.mergeSort (dataLe false PyData.str)
def rSortTx (K : PySem.W.Frag) : List V → Hp → VK → Prop := fun vs H Q => ∃ (a : Addr) (ts : List Str), vs = [.ref a] ∧ SqT K H a (ts.map V.str) ∧ ts.length < 64 ∧ ∀ g, H g = none → Q (.ref g) (upd H g (.lst ((sortT ts).map V.str)))
theorem each_txs : ∀ {ts : List Str} {us : List Value}, Vals (ts.map V.str) us → EachIs (fun v b => L2.RelV (.str b) v) us ts
  | [], _, .nil => .nil
  | _ :: _, _, .cons a b => .cons a (each_txs b)
theorem txs_each : ∀ {ts : List Str} {us : List Value}, EachIs (fun v b => L2.RelV (.str b) v) us ts → Vals (ts.map V.str) us
  | _, _, .nil => .nil
  | _, _, .cons a b => .cons a (txs_each b)
section
variable {X : Cx} {pins : List (Addr × Obj)} {σ : L2.St} {H : Hp} {s : Shared}
/-- what is tracked stands there -/
theorem obj_there {P : Program} {w : World} {H : Hp} {h : Heap} {a : Addr} {u : HO} (x : ObjOk P w H h a u) : ∃ o, h.get? a = some o := by
  cases u with
  | lst xs => obtain ⟨_, _, _, _, e⟩ := x; exact ⟨_, e⟩
  | tup xs => obtain ⟨_, _, _, ob, e, _⟩ := x; exact ⟨_, e⟩
  | dK kvs => obtain ⟨_, _, _, _, o, _, _, e, _⟩ := x; exact ⟨_, e⟩
  | dT kvs => obtain ⟨_, _, _, _, o, _, _, e, _⟩ := x; exact ⟨_, e⟩
  | set S n => obtain ⟨o, _, _, _, e, _⟩ := x; exact ⟨_, e⟩
  | ins C dx fs => obtain ⟨_, _, _, e, _⟩ := x; exact ⟨_, e⟩
  | own y => exact x
  | xd fs => obtain ⟨_, ⟨_, _, _, e, _⟩, _⟩ := x; exact ⟨_, e⟩
  | rng lo hi => obtain ⟨_, _, _, e⟩ := x; exact ⟨_, e⟩
  | frz ob u => exact ⟨_, x.1⟩
  | tbl ps => exact ⟨_, x⟩
  | met f y => exact ⟨_, x⟩
  | ext φ => exact x.2.1
/-- a thing laid where nothing was -/
theorem Inv.laidA {h' : Heap} {a : Addr} {o : HO} {t' : Nat} (I : L2.Inv X pins σ H s) (k : ∀ b u, s.heap.get? b = some u → h'.get? b = some u) (hp : ∀ b u, s.heap.get? b = some u → b ≠ a) (hn : H a = none) (new : ObjOk X.prog X.w (upd H a o) h' a o) :
    L2.Inv X pins σ (upd H a o) { s with heap := h', toks := t' } := by
  refine I.un ⟨fun b u q _ _ _ => k b u q, fun b u q _ _ _ => ⟨u.slots, k b u q⟩, fun b u q n _ => by rw [upd_ne (hp b u q)]; exact n, fun b u q _ => ⟨u, k b u q⟩, fun b xs q => by rw [upd_ne (ne_of_none q hn)]; exact q, fun b u xs q => by rw [upd_ne (ne_of_none q hn)]; exact q, fun b ps q => ⟨#[], by rw [upd_ne (ne_of_none q hn), q]; simp⟩⟩ fun b u q => ?_
  by_cases e : b = a
  · subst e
    rw [upd_same] at q
    cases q
    exact new
  · rw [upd_ne e] at q
    exact (I.hok b u q).stay (fun c v _ r => k c v r) (fun c r => by rw [upd_ne (ne_of_none r hn)]; exact r) fun c xs r => by rw [upd_ne (ne_of_none r hn)]; exact r
theorem cr_sortTx (hu : X.A.units + 64 < cLine) : CallR X (.builtin "sorted") (rSortTx X.K) := by
  intro pins s σ H vs us Q I r h
  obtain ⟨a, ts, rfl, hs, h64, q⟩ := h
  obtain ⟨its, rv, pl, hz⟩ := I.tuple hs
  rw [Vals.ref1 r]
  obtain ⟨o, ho, hc, n, hd⟩ := id pl
  have zl : its.length = ts.length := by rw [← rv.length, List.length_map]
  refine Calls.call_function_entry kind_sorted plain_sorted entry_sorted (args_sorted1 _) ?_
  unfold Builtin.«sorted»
  refine wpAny_bind (m := checkCount "sorted" 1 1 _) (wpAny_pure (wpAny_bind (wpAny_collect_seq a (.inr rfl) ho hc hd (fun h1 k1 => ?_) (by rw [List.size_toArray, zl, sizeLine_eq]; omega))))
  refine wpAny_bind (wpAny_newList ?_ (by show its.length ≤ sizeLine; rw [zl, sizeLine_eq]; omega))
  have hoL : (h1.push (seqObj "list" its.toArray 0)).get? h1.objs.size = some (seqObj "list" its.toArray 0) := Heap.get?_push_size _ rfl
  have al : AllAlike (ts.map PyData.str) := fun x hx y hy => by
    obtain ⟨b, _, rfl⟩ := List.mem_map.mp hx
    obtain ⟨c, _, rfl⟩ := List.mem_map.mp hy
    rfl
  have so : Sortable (ts.map PyData.str) := .inr fun d hd => by
    obtain ⟨b, _, rfl⟩ := List.mem_map.mp hd
    refine ⟨?_, ?_⟩
    · intro z; cases z
    · intro xs z; cases z
  refine wpAny_bind (wpAny_holding (W.list_sort_data (s := { s with heap := h1.push (seqObj "list" its.toArray 0) }) (vs := its) (enc := PyData.str) hoL (each_txs rv) (each_and (each_txs rv) fun v p hp r0 => ⟨[], ?_, by simp⟩) al so (by rw [sizeLine_eq]; omega) (fun p hp => by show X.A.in1.units + 1 + 0 < cLine; simp only [Around.in1_units]; omega) fun out zo eo => ?_))
  · obtain ⟨t, rfl⟩ := r0
    exact .str p t
  · obtain ⟨c, hc2⟩ := sortedHeap_at (vs := its) (out := List.toArray out) hoL
    have rS := txs_each eo
    have hn : H h1.objs.size = none := by
      cases e : H h1.objs.size with
      | none => rfl
      | some u =>
        obtain ⟨o, ho2⟩ := obj_there (I.hok _ _ e)
        exact absurd (Heap.lt_size (k1 _ _ ho2)) (Nat.lt_irrefl _)
    have keep : ∀ b u, s.heap.get? b = some u → (sortedHeap (h1.push (seqObj "list" its.toArray 0)) h1.objs.size its (List.toArray out)).get? b = some u := fun b u e => by
      have e2 := k1 b u e
      have lt := Heap.lt_size e2
      rw [sortedHeap_old (Nat.ne_of_lt lt) (by rw [size_push']; exact Nat.lt_succ_of_lt lt)]
      exact Heap.get?_push_of_some _ e2
    have len : ((sortT ts).map V.str).length ≤ sizeLine := by
      unfold sortT
      rw [List.length_map, List.length_mergeSort, sizeLine_eq]
      omega
    have J : L2.Inv X pins σ (upd H h1.objs.size (.lst ((sortT ts).map V.str))) { s with heap := sortedHeap (h1.push (seqObj "list" its.toArray 0)) h1.objs.size its (List.toArray out), toks := s.toks } :=
      Inv.laidA I keep (fun b u e => Nat.ne_of_lt (Heap.lt_size (k1 b u e))) hn ⟨len, out, c, rS, by simpa using hc2⟩
    exact wpAny_pure ⟨_, rfl, ⟨.ref h1.objs.size, _, J, rfl, q h1.objs.size hn⟩⟩
end
end KTc
/-! Vote.middle. -/
namespace K01
open PySem PySem.Spec PyProof.Rows L2 KG KS KA KX KIa KFz KTc
/-- cls(..), the class in a local -/
def tMakeV (C : Addr) (sp : Sp) (dvs : List V) (E : XK) (tf : TE) (t : TA) : TE := fun σ H Q => tf σ H fun v H0 => v = .ref C ∧ tMake C sp dvs E t σ H0 Q
section
variable {X : Cx} {CX : CXT} {k : Nat} {f C : Addr} {fd : FuncData} {ps : List Str} {sp : Sp} {E : XK} {x : Str} {ds : List Value} {dvs : List V} {p pos : Pos} {e : Expr} {es : List Expr} {tf : TE} {t : TA}
theorem pe_makeV (M : Mk X.K C f) (F : FnOk X.prog X.w X.K X.mg X.base CX k f fd ps sp) (hr : Room (k + 1) X.A) (hc : PE X (.Name x p) tf) (hb : L2.Binds X.K fd ps ds) (hd : Vals dvs ds) (hx : Passes CX X E)
    (ha : PA X (e :: es) t) (he : starEach (e :: es) X.env = (false, eval e X.env) :: starEach es X.env := by rfl) (hpl : (backTo pos (starEach es X.env)).any (·.1) = false := by rfl) :
    PE X (.Call (.Name x p) (e :: es) [] pos) (tMakeV C sp dvs E tf t) := by
  refine ⟨fun pins s σ H Q I h => ?_⟩
  refine wpAny_Call_Name_kw (thn (hc.run pins s σ H _ I h) fun u s0 ⟨v, H0, I0, rv, ev, q0⟩ => ?_)
  subst ev
  obtain rfl : u = Value.ref C := rv
  refine PySem.W.callWith_K (h₀ := X.base) I0.ok.mod.kin M.kp (thn (ha.run pos pins s0 σ H0 _ I0 q0) fun us s1 ⟨vs, H1, I1, r, q⟩ => ⟨I1.kIn, ?_⟩) he hpl
  exact run_make M F hr hb hd hx I1 r q
end
/-- a vote made, with any claim about what it answers -/
theorem make_vt {C : Addr} {H : Hp} {d r x dx : Addr} {xs rs : List Str} {k : Nat} {Q : VK} {E : XK} (hd : H d = some (.tup (xs.map V.str))) (hr : H r = some (.tup (rs.map V.str))) (g : VGood xs k rs)
    (hx : H x = none) (hdx : H dx = none) (ne : dx ≠ x) (q : ∀ H' : Hp, Same H H' → VtAt C H' x xs k rs → Q .non H') :
    spVI C [.ref x, .ref d, .int (k : Nat), .ref r] (upd (upd H dx (.own x)) x (.ins C dx [])) Q E := by
  have e : Same H (upd (upd H dx (.own x)) x (.ins C dx [])) := same_trans (same_new hdx) (same_new (show upd H dx (.own x) x = none by rw [upd_ne ne.symm]; exact hx))
  exact ⟨x, dx, d, r, xs, rs, k, rfl, upd_same, e _ _ hd, e _ _ hr, g, fun H' t b _ h1 h2 => q H' (b.fresh hx e) ⟨dx, d, r, t, h1, h2⟩⟩
/-- the middle one of three -/
def midS (g : List Str) : Str := (sortT g).getD 1 Str.empty
def midR (xs : List Str) : List Str := (ptsL 3 xs).map midS
theorem leT_total {a b : Str} (h : W.dataLt (.str b) (.str a) = false) (k : W.dataLt (.str a) (.str b) = false) : a = b := ltT_total k h
theorem sortT_pairs (g : List Str) : (sortT g).Pairwise fun a b => W.dataLt (.str b) (.str a) = false := by
  refine (W.sort_pairwise (W.sortLe_total _ false _) g).imp fun {p q} hle => ?_
  have h2 : (!W.dataLt (.str q) (.str p)) = true := hle
  cases e : W.dataLt (.str q) (.str p) with
  | false => rfl
  | true =>
    rw [e] at h2
    cases h2
theorem mid_of {g : List Str} {v : Str} (l : g.length = 3) (c : 2 ≤ g.count v) : midS g = v := by
  have pm := List.mergeSort_perm g (W.dataLe false PyData.str)
  have so := sortT_pairs g
  have lc : (sortT g).count v = g.count v := pm.count_eq v
  have ll : (sortT g).length = 3 := by rw [← l]; exact pm.length_eq
  unfold midS
  rw [← lc] at c
  obtain ⟨x, y, z, e⟩ : ∃ x y z, sortT g = [x, y, z] := match sortT g, ll with | [x, y, z], _ => ⟨x, y, z, rfl⟩
  rw [e] at so c ⊢
  show y = v
  simp only [List.pairwise_cons, List.mem_cons, List.not_mem_nil, or_false, forall_eq_or_imp, forall_eq] at so
  obtain ⟨⟨xy, xz⟩, yz, _⟩ := so
  refine Classical.byContradiction fun ny => ?_
  simp only [List.count_cons, List.count_nil] at c
  have hy : (y == v) = false := beq_eq_false_iff_ne.mpr ny
  rw [hy] at c
  have hx : x = v := Classical.byContradiction fun n => by
    rw [beq_eq_false_iff_ne.mpr n] at c
    simp only [Bool.false_eq_true, if_false] at c
    split at c <;> omega
  have hz : z = v := Classical.byContradiction fun n => by
    rw [beq_eq_false_iff_ne.mpr n] at c
    simp only [Bool.false_eq_true, if_false] at c
    split at c <;> omega
  rw [hx] at xy
  rw [hz] at yz
  exact ny (leT_total yz xy)
theorem mid_mem {g : List Str} (l : g.length = 3) : midS g ∈ g := by
  have pm := List.mergeSort_perm g (W.dataLe false PyData.str)
  have ll : (sortT g).length = 3 := by rw [← l]; exact pm.length_eq
  unfold midS
  rw [List.getD_eq_getElem?_getD, List.getElem?_eq_getElem (by omega)]
  exact pm.mem_iff.mp (List.getElem_mem _)
theorem pts_sub {xs : List Str} : ∀ (k : Nat), ∀ g ∈ ptsL k xs, ∀ y ∈ g, y ∈ xs
  | 0, g, h, y, hy => by
    rw [List.mem_singleton.mp h] at hy
    cases hy
  | k + 1, g, h, y, hy => by
    unfold ptsL prods at h
    rw [List.replicate_succ', List.foldl_append] at h
    obtain ⟨q, hq, h2⟩ := List.mem_flatMap.mp (show g ∈ step (prods (List.replicate k xs)) xs from h)
    obtain ⟨c, hc, rfl⟩ := List.mem_map.mp h2
    rcases List.mem_append.mp hy with z | z
    · exact pts_sub k q hq y z
    · rw [List.mem_singleton.mp z]
      exact hc
theorem zip_map {α β : Type} {f : α → β} : ∀ {S : List α} {p : α × β}, p ∈ S.zip (S.map f) → ∃ g ∈ S, p = (g, f g)
  | [], _, h => nomatch h
  | s :: S, p, h => by
    rw [List.map_cons, List.zip_cons_cons] at h
    rcases List.mem_cons.mp h with e | h
    · exact ⟨s, List.mem_cons_self, e⟩
    · obtain ⟨g, hg, e⟩ := zip_map h
      exact ⟨g, List.mem_cons_of_mem _ hg, e⟩
theorem good_mid {xs : List Str} (asc : AscT xs) (ok : ∀ x ∈ xs, nameOk x = true) (l1 : 1 ≤ xs.length) (l3 : xs.length ≤ 3) : VGood xs 3 (midR xs) := by
  refine ⟨asc, ok, l1, l3, .inl rfl, by unfold midR; rw [List.length_map], fun x hx => ?_, fun p hp => ?_⟩
  · obtain ⟨g, hg, rfl⟩ := List.mem_map.mp hx
    exact pts_sub 3 g hg _ (mid_mem (pts_wid xs 3 g hg))
  · unfold midR at hp
    obtain ⟨g, hg, e⟩ := zip_map hp
    rw [e]
    show winS g = none ∨ winS g = some (midS g)
    cases h : winS g with
    | none => exact .inl rfl
    | some u =>
      refine .inr ?_
      unfold winS at h
      have z0 : decide (g.length ≤ g.count u + 1) = true := List.find?_some (p := fun v => decide (g.length ≤ g.count v + 1)) h
      have z := of_decide_eq_true z0
      have l := pts_wid xs 3 g hg
      rw [mid_of (v := u) l (by omega)]
end K01
/-! All tuples of so many of some things; tuples or lists gone through; tuples of any items known to be just tuples. -/
namespace K01
open PySem PySem.Spec PyProof.Rows L2 KG KS KA KX KIa KFz KTc
/-- one more at the end -/
def stp {α : Type} (R : List (List α)) (xs : List α) : List (List α) := R.flatMap fun r => xs.map fun x => r ++ [x]
/-- all tuples of n of these -/
def pw {α : Type} (xs : List α) : Nat → List (List α)
  | 0 => [[]]
  | n + 1 => stp (pw xs n) xs
theorem stp_len {α : Type} (xs : List α) : ∀ R : List (List α), (stp R xs).length = R.length * xs.length
  | [] => by simp [stp]
  | r :: R => by
    have ih := stp_len xs R
    unfold stp at ih ⊢
    rw [List.flatMap_cons, List.length_append, List.length_map, ih, List.length_cons, Nat.succ_mul, Nat.add_comm]
theorem pw_len {α : Type} (xs : List α) : ∀ n, (pw xs n).length = xs.length ^ n
  | 0 => rfl
  | n + 1 => by
    show (stp (pw xs n) xs).length = _
    rw [stp_len, pw_len xs n, Nat.pow_succ]
theorem stp_take {α : Type} {R : List (List α)} {xs : List α} {i : Nat} {r : List α} (h : R[i]? = some r) : stp (R.take (i + 1)) xs = stp (R.take i) xs ++ xs.map fun x => r ++ [x] := by
  unfold stp
  rw [take_next h, List.flatMap_append, List.flatMap_cons, List.flatMap_nil, List.append_nil]
theorem mem_pw {α : Type} {xs : List α} : ∀ {n : Nat} {r : List α}, r ∈ pw xs n ↔ r.length = n ∧ ∀ x ∈ r, x ∈ xs
  | 0, r => by
    show r ∈ [[]] ↔ _
    rw [List.mem_singleton]
    exact ⟨fun e => by rw [e]; exact ⟨rfl, fun _ z => nomatch z⟩, fun ⟨l, _⟩ => List.length_eq_zero_iff.mp l⟩
  | n + 1, r => by
    show r ∈ stp (pw xs n) xs ↔ _
    unfold stp
    rw [List.mem_flatMap]
    refine ⟨fun ⟨q, hq, h2⟩ => ?_, fun ⟨l, sub⟩ => ?_⟩
    · obtain ⟨c, hc, rfl⟩ := List.mem_map.mp h2
      obtain ⟨h3, h4⟩ := (mem_pw (n := n)).mp hq
      refine ⟨by rw [List.length_append, h3]; rfl, fun x hx => ?_⟩
      rcases List.mem_append.mp hx with z | z
      · exact h4 x z
      · rw [List.mem_singleton.mp z]
        exact hc
    · have ne : r ≠ [] := fun e => by rw [e] at l; cases l
      refine ⟨r.dropLast, (mem_pw (n := n)).mpr ⟨by rw [List.length_dropLast]; omega, fun x hx => sub x (List.dropLast_subset _ hx)⟩, List.mem_map.mpr ⟨r.getLast ne, sub _ (List.getLast_mem ne), List.dropLast_concat_getLast ne⟩⟩
theorem stp_map {α β : Type} (f : α → β) (xs : List α) : ∀ R : List (List α), stp (R.map (List.map f)) (xs.map f) = (stp R xs).map (List.map f)
  | [] => rfl
  | r :: R => by
    have ih := stp_map f xs R
    unfold stp at ih ⊢
    rw [List.map_cons, List.flatMap_cons, List.flatMap_cons, List.map_append, ih, List.map_map, List.map_map]
    congr 1
    refine List.map_congr_left fun x _ => ?_
    show List.map f r ++ [f x] = List.map f (r ++ [x])
    rw [List.map_append]
    rfl
theorem pw_map {α β : Type} (f : α → β) (xs : List α) : ∀ n, pw (xs.map f) n = (pw xs n).map (List.map f)
  | 0 => rfl
  | n + 1 => by
    show stp (pw (xs.map f) n) (xs.map f) = _
    rw [pw_map f xs n, stp_map]
    rfl
theorem pw_pts (xs : List Str) : ∀ n, pw xs n = prods (List.replicate n xs)
  | 0 => rfl
  | n + 1 => by
    show stp (pw xs n) xs = _
    rw [pw_pts xs n]
    unfold prods
    rw [List.replicate_succ', List.foldl_append]
    rfl
theorem pow_lim {m n M : Nat} (h : m ≤ M) (h1 : 1 ≤ M) (l : M ^ n ≤ 100000) : ∀ i, i ≤ n → m ^ i ≤ 100000 := fun i hi =>
  Nat.le_trans (Nat.pow_le_pow_left h i) (Nat.le_trans (Nat.pow_le_pow_right h1 hi) l)
/-- a tuple (b) or a list of these -/
def SqB (K : PySem.W.Frag) (b : Bool) (H : Hp) (a : Addr) (xs : List V) : Prop := match b with
  | true => SqT K H a xs
  | false => SqL K H a xs
theorem SqB.up {K : PySem.W.Frag} {b : Bool} {H H' : Hp} {a : Addr} {xs : List V} (e : Same H H') (h : SqB K b H a xs) : SqB K b H' a xs := by
  cases b with
  | true => exact same_seqT e h
  | false => exact e.seq h
def ItB (K : PySem.W.Frag) (b : Bool) (a : Addr) : It := match b with
  | true => Itt K a
  | false => Itl K a
def iSeq (K : PySem.W.Frag) (te : TE) : TI := fun σ H R => te σ H fun x H1 => ∃ (a : Addr) (b : Bool), x = .ref a ∧ (∃ xs, SqB K b H1 a xs) ∧ R (ItB K b a) H1
theorem pi_seqV {X : Cx} {tg e : Expr} {k : Nat} (he : PE X e (tVar k)) : PI X tg e (iSeq X.K (tVar k)) := ⟨fun pins s σ H R I h => by
  obtain ⟨v, ev, a, b, rfl, hx, q⟩ := h
  cases b with
  | false => exact (pi_list he).run pins s σ H R I ⟨_, ev, a, rfl, hx, q⟩
  | true => exact (pi_tup he).run pins s σ H R I ⟨_, ev, a, rfl, hx, q⟩⟩
theorem lc_seq {K : PySem.W.Frag} {b : Bool} {a : Addr} {xs : List V} {g : TG} {tt : TT} {te : TE} {vs : List Nat} {σ : L2.St} {H1 : Hp} {D : Addr} {Qd : Hp → Prop} (Pv : Nat → Hp → Prop) (h0 : Pv 0 (upd H1 D (.lst []))) (hl : ∀ i H, i ≤ xs.length → Pv i H → SqB K b H a xs)
    (hs : ∀ i x H, xs[i]? = some x → Pv i H → g x (wipe σ vs) H fun σ2 H2 => wipe σ2 vs = wipe σ vs ∧ tt σ2 H2 fun b H3 =>
      if b = true then te σ2 H3 fun y H4 => ∃ acc, H4 D = some (.lst acc) ∧ acc.length < sizeLine ∧ Pv (i + 1) (upd H4 D (.lst (acc ++ [y]))) else Pv (i + 1) H3) (hd : ∀ H, Pv xs.length H → Qd H) :
    ∃ W : Nat → Nat → Hp → Prop, (∃ m, W 0 m (upd H1 D (.lst []))) ∧ ∀ i m H, W i m H →
      ((ItB K b a).stop i H ∧ Qd H) ∨ ((ItB K b a).go i H ∧ ∃ Nx : Hp → Prop, (∀ H', Nx H' → ∃ m', m' < m ∧ W (i + 1) m' H') ∧ ∀ x H', (ItB K b a).yld i H x H' → g x (wipe σ vs) H' fun σ2 H2 => wipe σ2 vs = wipe σ vs ∧ tt σ2 H2 fun b H3 =>
        if b = true then te σ2 H3 fun y H4 => ∃ acc, H4 D = some (.lst acc) ∧ acc.length < sizeLine ∧ Nx (upd H4 D (.lst (acc ++ [y]))) else Nx H3) := by
  cases b with
  | false => exact lc_list Pv h0 hl hs hd
  | true => exact lc_tup Pv h0 hl hs hd
/-! ### tuples of any items -/
def TupW (b : Bool) (H : Hp) (a : Addr) (ts : List V) : Prop := match b with
  | true => Fz H a ts
  | false => H a = some (.tup ts)
theorem TupW.up {b : Bool} {H H' : Hp} {a : Addr} {ts : List V} (e : Same H H') (h : TupW b H a ts) : TupW b H' a ts := by
  cases b with
  | true => exact Fz.same e h
  | false => exact e _ _ h
theorem TupW.sqT {K : PySem.W.Frag} {b : Bool} {H : Hp} {a : Addr} {ts : List V} (h : TupW b H a ts) : SqT K H a ts := by
  cases b with
  | true => exact Fz.sqT h
  | false => exact SqT.of h
abbrev RowsW (b : Bool) (H0 H : Hp) : List V → List (List V) → Prop := W.EachIs fun v ts => ∃ a, v = .ref a ∧ H0 a = none ∧ TupW b H a ts
theorem RowsW.up {b : Bool} {H0 H H' : Hp} (e : Same H H') {vs : List V} {R : List (List V)} (h : RowsW b H0 H vs R) : RowsW b H0 H' vs R := each_and h fun v ts _ ⟨a, e1, e0, e2⟩ => ⟨a, e1, e0, e2.up e⟩
theorem rowsW_ks {b : Bool} {H0 H : Hp} : ∀ {vs : List V} {R : List (List V)}, RowsW b H0 H vs R → ∃ ks : List (Addr × List V), vs = ks.map (fun p => V.ref p.1) ∧ ks.map (·.2) = R ∧ ∀ p ∈ ks, H0 p.1 = none ∧ TupW b H p.1 p.2
  | _, _, .nil => ⟨[], rfl, rfl, fun _ z => nomatch z⟩
  | _, _, .cons (b := r) ⟨a, e1, e0, e2⟩ t => by
    obtain ⟨ks, h1, h2, h3⟩ := rowsW_ks t
    refine ⟨(a, r) :: ks, by rw [List.map_cons, e1, h1], by rw [List.map_cons, h2], fun p hp => ?_⟩
    rcases List.mem_cons.mp hp with rfl | hp
    · exact ⟨e0, e2⟩
    · exact h3 p hp
theorem ks_rowsW {b : Bool} {H0 H : Hp} : ∀ {ks : List (Addr × List V)}, (∀ p ∈ ks, H0 p.1 = none ∧ TupW b H p.1 p.2) → RowsW b H0 H (ks.map fun p => V.ref p.1) (ks.map (·.2))
  | [], _ => .nil
  | p :: ks, h => .cons ⟨p.1, rfl, (h p List.mem_cons_self).1, (h p List.mem_cons_self).2⟩ (ks_rowsW fun q hq => h q (List.mem_cons_of_mem _ hq))
/-- these are tuples again -/
def thawW (ks : List (Addr × List V)) (H : Hp) : Hp := fun b => match ks.find? (fun p => p.1 == b) with
  | some p => some (.tup p.2)
  | none => H b
theorem thawW_at {ks : List (Addr × List V)} {H : Hp} (h : ∀ p ∈ ks, Fz H p.1 p.2) : ∀ p ∈ ks, thawW ks H p.1 = some (.tup p.2) := fun p hp => by
  unfold thawW
  cases e : ks.find? (fun q => q.1 == p.1) with
  | none =>
    have z := List.find?_eq_none.mp e p hp
    exact absurd (beq_self_eq_true p.1) z
  | some q =>
    have m := List.mem_of_find?_eq_some e
    have ea : q.1 = p.1 := beq_iff_eq.mp (by simpa using List.find?_some e)
    obtain ⟨o1, h1, _⟩ := h p hp
    obtain ⟨o2, h2, _⟩ := h q m
    rw [ea, h1] at h2
    have z := Option.some.inj h2
    injection z with _ z2
    injection z2 with z3
    show some (HO.tup q.2) = _
    rw [z3]
theorem thawW_off {ks : List (Addr × List V)} {H : Hp} (h : ∀ p ∈ ks, Fz H p.1 p.2) {b : Addr} {u : HO} (hb : H b = some u) (n : ∀ o v, u ≠ .frz o v) : thawW ks H b = some u := by
  unfold thawW
  cases e : ks.find? (fun q => q.1 == b) with
  | none => exact hb
  | some q =>
    have m := List.mem_of_find?_eq_some e
    have ea : q.1 = b := beq_iff_eq.mp (by simpa using List.find?_some e)
    obtain ⟨o2, h2, _⟩ := h q m
    rw [ea, hb] at h2
    exact absurd (Option.some.inj h2) (n _ _)
theorem thawW_new {ks : List (Addr × List V)} {H0 H : Hp} (h : ∀ p ∈ ks, H0 p.1 = none) {b : Addr} {u : HO} (hb : H b = some u) (hb0 : H0 b ≠ none) : thawW ks H b = some u := by
  unfold thawW
  cases e : ks.find? (fun q => q.1 == b) with
  | none => exact hb
  | some q =>
    have m := List.mem_of_find?_eq_some e
    have ea : q.1 = b := beq_iff_eq.mp (by simpa using List.find?_some e)
    have z := h q m
    rw [ea] at z
    exact absurd z hb0
theorem thawW_ok {X : Cx} {ks : List (Addr × List V)} {H : Hp} (h : ∀ p ∈ ks, X.H_0 p.1 = none ∧ Fz H p.1 p.2) : Thaw X H (thawW ks H) := fun b => by
  unfold thawW
  cases e : ks.find? (fun q => q.1 == b) with
  | none => exact .inl rfl
  | some q =>
    have m := List.mem_of_find?_eq_some e
    have ea : q.1 = b := beq_iff_eq.mp (by simpa using List.find?_some e)
    obtain ⟨n, o, h2, _⟩ := h q m
    rw [ea] at n h2
    exact .inr ⟨n, o, _, h2, rfl⟩
theorem Thaw.refl {X : Cx} {H : Hp} : Thaw X H H := fun b => .inl rfl
end K01
/-! _law_tuples. -/
namespace K01
open PySem PySem.Spec PyProof.Rows L2 KG KS KA KX KIa KFz KTc
abbrev s__law_tuples : Stmt := top 34
abbrev NTu : List Str := ["_law_items", "_law_many", "_law_found", "_law_k", "_law_longer", "_law_some", "_law_item"]
theorem cut0W (xs : List V) : cutV xs none (some 0) = [] := by
  unfold cutV
  have e2 : HT.sIx xs.length xs.length (some (0 : Int)) = 0 := by simp [HT.sIx]
  rw [e2]
  simp
abbrev rTupOfW (K : PySem.W.Frag) : List V → Hp → VK → Prop := fun xs H Q => ∃ p ys, xs = [.ref p] ∧ ((SqL K H p ys ∧ ∀ l, H l = none → Q (.ref l) (upd H l (.tup ys))) ∨ (SqT K H p ys ∧ Q (.ref p) H))
/-- tuple(items[:0]) -/
theorem tup0_to {K : PySem.W.Frag} {b : Bool} {H : Hp} {d : Addr} {xs : List V} {F : VK} (hd : SqB K b H d xs) (ne : b = true → xs ≠ []) (go : ∀ (t : Addr) (H2 : Hp), Same H H2 → H2 t = some (.tup []) → F (.ref t) H2) :
    (rSlA K (.ref d) none (some 0) H fun v H' => rTupOfW K [v] H' F) ∨ (rSlL K (.ref d) none (some 0) H fun v H' => rTupOfW K [v] H' F) := by
  cases b with
  | true =>
    have nz : xs.length ≠ 0 := fun z => ne rfl (List.length_eq_zero_iff.mp z)
    refine .inl ⟨d, _, rfl, hd, fun ⟨_, z⟩ => ?_, fun _ t ht => ⟨t, _, rfl, .inr ⟨SqT.of upd_same, go t _ (same_new ht) ?_⟩⟩⟩
    · have e2 : HT.sIx xs.length xs.length (some (0 : Int)) = 0 := by simp [HT.sIx]
      rw [e2] at z
      omega
    · rw [upd_same, cut0W]
  | false =>
    refine .inr ⟨d, _, rfl, hd, fun t ht => ⟨t, _, rfl, .inl ⟨SqL.of upd_same, fun u hu => go u _ (same_trans (same_new ht) (same_new hu)) ?_⟩⟩⟩
    rw [upd_same, cut0W]
theorem pe_mono {X : Cx} {e : Expr} {t t' : TE} (h : PE X e t) (imp : ∀ σ H Q, t' σ H Q → t σ H Q) : PE X e t' := ⟨fun pins s σ H Q I q => h.run pins s σ H Q I (imp σ H Q q)⟩
def tTup0 (K : PySem.W.Frag) (k : Nat) : TE := fun σ H Q => ∃ (d : Addr) (b : Bool) (xs : List V), σ[k]? = some (some (.ref d)) ∧ SqB K b H d xs ∧ (b = true → xs ≠ []) ∧ ∀ (t : Addr) (H2 : Hp), Same H H2 → H2 t = some (.tup []) → Q (.ref t) H2
theorem each_appW {α β : Type} {R : α → β → Prop} : ∀ {as cs : List α} {bs ds : List β}, W.EachIs R as bs → W.EachIs R cs ds → W.EachIs R (as ++ cs) (bs ++ ds)
  | _, _, _, _, .nil, h => h
  | _, _, _, _, .cons r t, h => .cons r (each_appW t h)
/-- all tuples of n items; known to be just tuples, or plain -/
def spTu (K : PySem.W.Frag) (fz : Bool) : Sp := fun vs H Q _ => ∃ (a : Addr) (b : Bool) (xs : List V) (n : Nat), vs = [.ref a, .int (n : Nat)] ∧ SqB K b H a xs ∧ (b = true → xs ≠ []) ∧ 1 ≤ n ∧ n ≤ 4 ∧ (∀ i, i ≤ n → xs.length ^ i ≤ 100000) ∧
  ∀ (l : Addr) (rs : List V) (H' : Hp), H l = none → Same H H' → H' l = some (.lst rs) → RowsW fz H H' rs (pw xs n) → Q (.ref l) H'
/-- the rows on the way: known to be just tuples from the first step on -/
abbrev RowsN (K : PySem.W.Frag) (i : Nat) (H0 H : Hp) : List V → List (List V) → Prop := W.EachIs fun v ts => ∃ a, v = .ref a ∧ SqT K H a ts ∧ (1 ≤ i → H0 a = none ∧ Fz H a ts)
theorem RowsN.up {K : PySem.W.Frag} {i : Nat} {H0 H H' : Hp} (e : Same H H') {vs : List V} {R : List (List V)} (h : RowsN K i H0 H vs R) : RowsN K i H0 H' vs R := each_and h fun v ts _ ⟨a, e1, e0, e2⟩ => ⟨a, e1, same_seqT e e0, fun z => ⟨(e2 z).1, (e2 z).2.same e⟩⟩
section
variable {P : Program} {w : World} {K : PySem.W.Frag} {mg : Str → Option Value} {base : Heap}
theorem sc__law_tuples : FnScope NTu ["_law_items", "_law_many"] (defScope s__law_tuples) := ⟨rfl, rfl, rfl, by decide +kernel, rfl, by decide +kernel, by decide +kernel⟩
theorem ok__law_tuples (fz : Bool) (B : Bs mg) (f : FnF K mg "_law_tuples" "_law_tuples" s__law_tuples) : FnOk P w K mg base CX0 1 f.a f.d ["_law_items", "_law_many"] (spTu K fz) := by
  refine f.F.ok sc__law_tuples (fun vs H Q E h => ?_) (fun cdv A outer s H vs Q E hr h => ?_)
  · obtain ⟨a, b, xs, n, rfl, _⟩ := h
    rfl
  · obtain ⟨d, b, xs, k, rfl, hd, ne, k1, k4, lim, q⟩ := h
    refine ⟨_, (pss_cons
      (ps_set (i := 2) sc__law_tuples.nd rfl (Or.inl rfl) (pe_lst (pa_cons (pe_mono (t' := tTup0 K 0) (pe_callTy call_tuple_of (by rfl) B.n_tuple (by decide +kernel) (pa_cons (pe_slice (SlR.or sl_tupA sl_list) (pv 0) po_none (po_some pe_int)) pa_nil)) (fun σ H Q ⟨_, _, _, e, hd, ne, go⟩ => ⟨_, e, 0, rfl, tup0_to (F := Q) hd ne go⟩)) pa_nil)))
    (pss_cons
      (ps_for PassesOwn.never rfl (pi_range1 rfl B.n_range (pa_cons (pv 1) pa_nil)) (pg_name (i := 3) sc__law_tuples.nd rfl (Or.inl rfl))
        (pss_cons
          (ps_set (i := 4) sc__law_tuples.nd rfl (Or.inl rfl) (pe_lst pa_nil))
        (pss_cons
          (ps_for PassesOwn.never rfl (pi_list (pv 2)) (pg_name (i := 5) sc__law_tuples.nd rfl (Or.inr rfl))
            (pss_one
              (ps_set (i := 4) sc__law_tuples.nd rfl (Or.inl rfl) (pe_op op_cat (pv 4) (pe_lc (own := [("_law_item", 6)]) (g := gName 6) (by rfl) sc__law_tuples.nd (pi_seqV (pv 0)) (blkOk_by (own := [("_law_item", 6)]) (N := NTu) (sc := defScope s__law_tuples) (by decide +kernel)) (fun _ _ _ _ _ => (pg_name (i := 6) sc__law_tuples.nd rfl (Or.inl rfl))) (fun _ _ _ _ _ => pts_nil)
                (fun _ _ _ _ _ => (pe_op (show OpR _ (binaryOp .Add) (rCatF K) from op_catF) (pv 5) (pe_tupF (pa_cons (pv 6) pa_nil)))))))))
        (pss_one
          (ps_set (i := 2) sc__law_tuples.nd rfl (Or.inl rfl) (pv 4))))))
    (pss_one
      (ps_thaw (ps_ret (pv 2)))))), ?_⟩
    -- [tuple(items[:0])]
    refine ⟨d, b, xs, rfl, hd, ne, fun t H2 e2 ht => ?_⟩
    refine ⟨by show 1 ≤ sizeLine; decide, fun l hl => ?_⟩
    have e0 : Same H (upd H2 l (.lst [V.ref t])) := same_trans e2 (same_new hl)
    refine ⟨_, rfl, k, rfl, by omega, by omega, ?_⟩
    refine for_range (lo := 0) (n := k) (fun i σ H' => ∃ (l : Addr) (rs : List V) (v3 v4 v5 : Option V), σ = [some (.ref d), some (.int (k : Nat)), some (.ref l), v3, v4, v5, none] ∧ H l = none ∧ Same H H' ∧ H' l = some (.lst rs) ∧ RowsN K i H H' rs (pw xs i))
      ⟨l, _, none, none, none, rfl, e2.free hl, e0, upd_same, .cons ⟨t, rfl, SqT.of (same_new (o := .lst [V.ref t]) hl _ _ ht), fun z => absurd z (by decide)⟩ .nil⟩ ?_ ?_
    · rintro i σ H1 hi ⟨l, rs, v3, v4, v5, rfl, nl, e1, hl1, hR⟩
      refine ⟨by show 0 ≤ sizeLine; exact Nat.zero_le _, fun m0 hm0 => ?_⟩
      have e2 : Same H1 (upd H1 m0 (.lst [])) := same_new hm0
      have fs := lim (i + 1) hi
      have wd : ∀ g ∈ pw xs i, g.length = i := fun g hg => (mem_pw.mp hg).1
      rw [← pw_len] at fs
      have fs : (stp (pw xs i) xs).length ≤ 100000 := fs
      have fw := lim i (by omega)
      rw [← pw_len] at fw
      show _
      have pn : pw xs (i + 1) = stp (pw xs i) xs := rfl
      rw [pn]
      generalize pw xs i = R at hR wd fw fs ⊢
      have rl := hR.length
      refine ⟨_, rfl, l, rfl, ⟨_, SqL.of (e2 _ _ hl1)⟩, ?_⟩
      refine for_list (K := K) (a := l) (xs := rs) (fun j σ H' => ∃ (m : Addr) (acc : List V) (v5 : Option V), σ = [some (.ref d), some (.int (k : Nat)), some (.ref l), some (.int (0 + (i : Int))), some (.ref m), v5, none] ∧ H m = none ∧ Same H1 H' ∧ H' m = some (.lst acc) ∧ RowsW true H H' acc (stp (R.take j) xs))
        ⟨m0, [], v5, rfl, e1.free hm0, e2, upd_same, .nil⟩ (fun j σ H' _ ⟨_, _, _, _, _, e, _⟩ => SqL.of (e _ _ hl1)) ?_ ?_
      · rintro j y σ H2 hy ⟨m, acc, v5, rfl, nm, e3, hm, hA⟩
        obtain ⟨g, hg, a, rfl, fa0, _⟩ := each_get hR hy
        have fa : SqT K H1 a g := fa0
        have gl := wd g (List.mem_of_getElem? hg)
        have la := hA.length
        have lst := stp_len xs (R.take j)
        have lst2 := stp_len xs R
        have jl : j < R.length := (List.getElem?_eq_some_iff.mp hg).1
        have tl : (R.take (j + 1)).length ≤ R.length := by rw [List.length_take]; omega
        have l1 := stp_len xs (R.take (j + 1))
        have sl1 : (stp (R.take (j + 1)) xs).length ≤ 100000 := by
          rw [l1]
          rw [lst2] at fs
          exact Nat.le_trans (Nat.mul_le_mul_right _ tl) fs
        rw [stp_take hg, List.length_append, List.length_map] at sl1
        refine ⟨_, rfl, _, rfl, d, b, rfl, ⟨_, hd.up (same_trans e1 e3)⟩, fun D hD => ?_⟩
        refine lc_seq (K := K) (xs := xs) (fun c H' => ∃ ac, Same H2 H' ∧ H' D = some (.lst ac) ∧ RowsW true H H' ac ((xs.take c).map fun v => g ++ [v])) ⟨[], same_new hD, upd_same, .nil⟩ (fun c H' _ ⟨_, e, _⟩ => hd.up (same_trans (same_trans e1 e3) e)) ?_ ?_
        · rintro c x H3 hx ⟨ac, e4, hac, hB⟩
          have cl : c < xs.length := (List.getElem?_eq_some_iff.mp hx).1
          have lac : ac.length ≤ 100000 := by
            have z := hB.length
            rw [List.length_map, List.length_take] at z
            omega
          have fin : ∀ {H4 : Hp} {v : V}, Same H3 H4 → H4 D = some (.lst ac) → (∃ b, v = V.ref b ∧ H b = none ∧ Fz H4 b (g ++ [x])) →
              ∃ acc, H4 D = some (.lst acc) ∧ acc.length < sizeLine ∧ ∃ acc', Same H2 (upd H4 D (.lst (acc ++ [v]))) ∧ upd H4 D (.lst (acc ++ [v])) D = some (.lst acc') ∧ RowsW true H (upd H4 D (.lst (acc ++ [v]))) acc' ((xs.take (c + 1)).map fun v => g ++ [v]) := fun {H4 v} e5 h4 hv => by
            refine ⟨ac, h4, by rw [sizeLine_eq]; omega, ac ++ [v], same_put hD (same_trans e4 e5), upd_same, ?_⟩
            have hrow : RowsW true H H4 (ac ++ [v]) ((xs.take (c + 1)).map fun v => g ++ [v]) := by
              rw [take_next hx, List.map_append]
              exact each_snoc (hB.up e5) hv
            exact each_and hrow fun v ts _ ⟨b, e6, e7, e8⟩ => ⟨b, e6, e7, Fz.put e8 h4⟩
          have e13 := same_trans (same_trans e1 e3) e4
          refine ⟨rfl, _, rfl, _, rfl, by show 1 ≤ sizeLine; decide, fun b ob hb cb db => ?_⟩
          have e5 : Same H3 (upd H3 b (.frz ob (.tup [x]))) := same_new hb
          have fb : Fz (upd H3 b (.frz ob (.tup [x]))) b [x] := ⟨ob, upd_same, cb, db⟩
          refine ⟨a, b, g, [x], rfl, rfl, same_seqT (same_trans (same_trans e3 e4) e5) fa, fb.sqT, ?_, (fun z => nomatch z), fun z => ?_, fun _ p op hp cp dp => ?_⟩
          · rw [sizeLine_eq]
            show g.length + 1 ≤ _
            omega
          · exact fin e5 (e5 _ _ hac) ⟨b, rfl, e13.free hb, by rw [z]; exact fb⟩
          · have e6 := same_trans e5 (same_new (o := .frz op (.tup (g ++ [x]))) hp)
            exact fin e6 (e6 _ _ hac) ⟨p, rfl, (same_trans e13 e5).free hp, op, upd_same, cp, dp⟩
        · rintro H3 ⟨ac, e4, hac, hB⟩
          rw [List.take_length] at hB
          have lac := hB.length
          rw [List.length_map] at lac
          refine ⟨m, D, acc, ac, rfl, rfl, e4 _ _ hm, hac, by rw [sizeLine_eq]; omega, fun p hp => ?_⟩
          have e5 := same_new (o := .lst (acc ++ ac)) hp
          refine ⟨p, acc ++ ac, _, rfl, (same_trans (same_trans e1 e3) e4).free hp, same_trans e3 (same_trans e4 e5), upd_same, ?_⟩
          rw [stp_take hg]
          exact each_appW ((hA.up e4).up e5) (hB.up e5)
      · rintro σ H2 ⟨m, acc, v5, rfl, nm, e3, hm, hA⟩
        rw [rl, List.take_length] at hA
        exact ⟨_, rfl, m, acc, _, _, _, rfl, nm, same_trans e1 e3, hm, each_and hA fun v ts _ ⟨b, e6, e7, e8⟩ => ⟨b, e6, Fz.sqT e8, fun _ => ⟨e7, e8⟩⟩⟩
    · rintro σ H1 ⟨l, rs, v3, v4, v5, rfl, nl, e1, hl1, hR⟩
      have hW : RowsW true H H1 rs (pw xs k) := each_and hR fun v ts _ ⟨b, e6, _, e8⟩ => ⟨b, e6, (e8 k1).1, (e8 k1).2⟩
      cases fz with
      | true => exact ⟨H1, Thaw.refl, _, rfl, q l rs H1 nl e1 hl1 hW⟩
      | false =>
        obtain ⟨ks, rfl, ek, hks⟩ := rowsW_ks hW
        have hf : ∀ p ∈ ks, Fz H1 p.1 p.2 := fun p hp => (hks p hp).2
        have hn : ∀ p ∈ ks, H p.1 = none := fun p hp => (hks p hp).1
        refine ⟨thawW ks H1, thawW_ok fun p hp => ⟨hn p hp, hf p hp⟩, _, rfl, q l _ _ nl (fun c o h => thawW_new hn (e1 c o h) (by rw [h]; exact fun z => nomatch z)) (thawW_off hf hl1 (fun _ _ z => nomatch z)) ?_⟩
        rw [← ek]
        exact ks_rowsW fun p hp => ⟨hn p hp, thawW_at hf p hp⟩
end
end K01
/-! _law_voted. -/
namespace K01
open PySem PySem.Spec PyProof.Rows L2 KG KS KA KX KIa KFz KTc
abbrev s__law_voted : Stmt := top 36
abbrev NVo : List Str := ["_law_by", "_law_rows_here", "_law_place", "_law_row"]
/-- a vote as a dict -/
def TblV (H : Hp) (t : Addr) (xs : List Str) (k : Nat) (rs : List Str) : Prop := ∃ ks : List (Addr × List Str), H t = some (.dT (KDz.dtOf ks (rs.map V.str))) ∧ ks.map (·.2) = ptsL k xs
theorem TblV.up {H H' : Hp} {t : Addr} {xs : List Str} {k : Nat} {rs : List Str} (h : TblV H t xs k rs) (e : Same H H') : TblV H' t xs k rs := let ⟨ks, h1, h2⟩ := h; ⟨ks, e _ _ h1, h2⟩
theorem voteS_len {xs rs : List Str} {k n : Nat} {rows : List (List Str)} : (voteS xs k rs n rows).length = n := by unfold voteS; rw [List.length_map, List.length_range]
theorem voteS_sub {xs rs : List Str} {k n : Nat} {rows : List (List Str)} (G : VGood xs k rs) (lk : rows.length = k) (h : ∀ r ∈ rows, r.length = n ∧ ∀ x ∈ r, x ∈ xs) : ∀ x ∈ voteS xs k rs n rows, x ∈ xs := fun x hx => by
  unfold voteS at hx
  obtain ⟨i, hi, rfl⟩ := List.mem_map.mp hx
  obtain ⟨u, hu1, hu2⟩ := vote_in G lk h (List.mem_range.mp hi)
  rw [hu2]
  exact G.sub u hu1
/-- the row of the votes of some rows -/
def spVo (K : PySem.W.Frag) : Sp := fun vs H Q _ => ∃ (t p : Addr) (ls : List Addr) (xs rs : List Str) (k n : Nat) (rows : List (List Str)), vs = [.ref t, .ref p] ∧ TblV H t xs k rs ∧ VGood xs k rs ∧ SqT K H p (ls.map V.ref) ∧ LsAt H ls rows ∧ ls.length = k ∧ (∀ r ∈ rows, r.length = n ∧ ∀ x ∈ r, x ∈ xs) ∧ n ≤ 60 ∧
  ∀ (v : Addr) (H' : Hp), H v = none → Same H H' → H' v = some (.tup ((voteS xs k rs n rows).map V.str)) → Q (.ref v) H'
section
variable {P : Program} {w : World} {K : PySem.W.Frag} {mg : Str → Option Value} {base : Heap}
theorem sc__law_voted : FnScope NVo ["_law_by", "_law_rows_here"] (defScope s__law_voted) := ⟨rfl, rfl, rfl, by decide +kernel, rfl, by decide +kernel, by decide +kernel⟩
theorem ok__law_voted (B : Bs mg) (f : FnF K mg "_law_voted" "_law_voted" s__law_voted) : FnOk P w K mg base CX0 1 f.a f.d ["_law_by", "_law_rows_here"] (spVo K) := by
  refine f.F.ok sc__law_voted (fun vs H Q E h => ?_) (fun cdv A outer s H vs Q E hr h => ?_)
  · obtain ⟨t, p, ls, xs, rs, k, n, rows, rfl, _⟩ := h
    rfl
  · obtain ⟨t, p, ls, xs, rs, k, n, rows, rfl, hT, G, hp, hLs, lk, hrw, n60, q⟩ := h
    have hu := hu_of hr
    refine ⟨_, (pss_one
      (ps_ret (pe_callTy call_tuple_of (by rfl) B.n_tuple (by decide +kernel) (pa_cons (pe_lc (own := [("_law_place", 2)]) (g := gName 2) (by rfl) sc__law_voted.nd (pi_range1 rfl B.n_range (pa_cons (pe_callB call_len (by rfl) B.n_len (by decide +kernel) (pa_cons (pe_ix ix_tup (pv 1) pe_int (fun _ _ => rfl)) pa_nil)) pa_nil)) (blkOk_by (own := [("_law_place", 2)]) (N := NVo) (sc := defScope s__law_voted) (by decide +kernel))
        (fun _ _ _ _ _ => (pg_name (i := 2) sc__law_voted.nd rfl (Or.inr rfl))) (fun _ _ _ _ _ => pts_nil)
        (fun _ _ _ _ _ => (pe_dget hu (pv 0) (pe_callTy (show CallR _ (.type "tuple") (rTupOfW K) from call_tuple_of) (by rfl) B.n_tuple (by decide +kernel) (pa_cons (pe_lc (own := [("_law_row", 3)]) (g := gName 3) (by rfl) sc__law_voted.nd (show PI _ _ _ (iTup K (tVar 1)) from pi_tup (pv 1)) (blkOk_by (own := [("_law_row", 3)]) (N := NVo) (by kernel_rfl))
          (fun _ _ _ _ _ => (pg_name (i := 3) sc__law_voted.nd rfl (Or.inl rfl))) (fun _ _ _ _ _ => pts_nil) (fun _ _ _ _ _ => (pe_ix (show IxR _ (rIxT K) from ix_tup) (pv 3) (pv 2) (fun _ _ => rfl)))) pa_nil)) (fun _ _ => rfl)))) pa_nil)))), ?_⟩
    have toN : ∀ m : Nat, ((m : Nat) : Int).toNat = m := fun m => Int.toNat_natCast m
    obtain ⟨ks, ht, eks⟩ := id hT
    have lr : rows.length = k := by rw [← hLs.length]; exact lk
    have lk1 : 1 ≤ ls.length := by have := G.hk; omega
    obtain ⟨l0, lr0, el⟩ : ∃ l0 lr0, ls = l0 :: lr0 := match ls, lk1 with | l0 :: lr0, _ => ⟨l0, lr0, rfl⟩
    obtain ⟨r0, hr0, hl0⟩ : ∃ r0, r0 ∈ rows ∧ H l0 = some (.tup (r0.map V.str)) := by
      have z : ls[0]? = some l0 := by rw [el]; rfl
      obtain ⟨r0, hri, ha⟩ := each_get hLs z
      exact ⟨r0, List.mem_of_getElem? hri, ha⟩
    have ln := (hrw r0 hr0).1
    refine ⟨_, rfl, p, _, 0, _, rfl, rfl, hp, at_of (j := 0) rfl (by rw [el]; rfl), .ref l0, n, rfl, .inr ⟨_, SqT.of hl0, by rw [List.length_map]; exact ln.symm⟩, n, rfl, by omega, by omega, fun v hv => ?_⟩
    refine lc_range (lo := 0) (n := ((n : Nat) : Int).toNat) (fun j H' => Same H H' ∧ H' v = some (.lst (((voteS xs k rs n rows).take j).map V.str))) ⟨same_new hv, upd_same⟩ ?_ ?_
    · rintro j H9 hj ⟨e9, hv9⟩
      rw [toN] at hj
      refine ⟨rfl, _, rfl, _, rfl, p, rfl, ⟨_, same_seqT e9 hp⟩, fun c2 hc2 => ?_⟩
      refine lc_tup (K := K) (xs := ls.map V.ref) (fun i H' => Same H9 H' ∧ H' c2 = some (.lst (((colS j rows).take i).map V.str))) ⟨same_new hc2, upd_same⟩ (fun i H' _ z => same_seqT (same_trans e9 z.1) hp) ?_ ?_
      · rintro i y H10 hy ⟨e10, hc10⟩
        rw [List.getElem?_map] at hy
        cases hi : ls[i]? with
        | none =>
          rw [hi] at hy
          cases hy
        | some a =>
          rw [hi] at hy
          obtain rfl : V.ref a = y := Option.some.inj hy
          obtain ⟨r, hri, ha⟩ := each_get hLs hi
          have rl := (hrw r (List.mem_of_getElem? hri)).1
          have il : i < ls.length := (List.getElem?_eq_some_iff.mp hi).1
          have k4 := G.hk
          have hcol : (colS j rows)[i]? = some (r.getD j Str.empty) := by
            unfold colS
            rw [List.getElem?_map, hri]
            rfl
          have hrj : (r.map V.str)[j]? = some (V.str (r.getD j Str.empty)) := by
            rw [List.getElem?_map, List.getD_eq_getElem?_getD, List.getElem?_eq_getElem (by omega)]
            rfl
          refine ⟨rfl, _, rfl, _, rfl, a, _, _, _, rfl, rfl, SqT.of ((same_trans e9 e10) _ _ ha), at_of (j := j) (by omega) hrj, _, hc10, by rw [List.length_map, List.length_take, sizeLine_eq]; omega, same_put hc2 e10, ?_⟩
          rw [upd_same, take_next hcol, List.map_append]
          rfl
      · rintro H10 ⟨e10, hc10⟩
        have lcol : (colS j rows).length = ls.length := by unfold colS; rw [List.length_map, hLs.length]
        rw [List.length_map, ← lcol, List.take_length] at hc10
        refine ⟨c2, _, rfl, .inl ⟨SqL.of hc10, fun T hT' => ?_⟩⟩
        have e11 : Same H10 (upd H10 T (.tup ((colS j rows).map V.str))) := same_new hT'
        have h11 : upd H10 T (.tup ((colS j rows).map V.str)) T = some (.tup ((colS j rows).map V.str)) := upd_same
        generalize upd H10 T (.tup ((colS j rows).map V.str)) = H11 at e11 h11 ⊢
        have e911 := same_trans e10 e11
        obtain ⟨u, hu1, hu2⟩ := vote_in G lr hrw hj
        have dg : DGet H11 t (.ref T) (valV (KDz.dtOf ks (rs.map V.str)) (KDz.entK (colS j rows))) := DGet.t ((same_trans e9 e911) _ _ ht) (by rw [KDz.entK_kV]; exact h11)
        rw [val_look, eks, hu2] at dg
        have hvj : (voteS xs k rs n rows)[j]? = some u := by
          unfold voteS
          rw [List.getElem?_map, List.getElem?_range hj, Option.map_some, hu2]
          rfl
        refine ⟨t, _, rfl, dg, _, e911 _ _ hv9, by rw [List.length_map, List.length_take, sizeLine_eq]; omega, same_put hv (same_trans e9 e911), ?_⟩
        rw [upd_same, take_next hvj, List.map_append]
        rfl
    · rintro H9 ⟨e9, hv9⟩
      rw [toN, List.take_of_length_le (by rw [voteS_len]; omega)] at hv9
      refine ⟨v, _, rfl, .inl ⟨SqL.of hv9, fun q1 hq1 => q q1 _ (e9.free hq1) (same_trans e9 (same_new hq1)) upd_same⟩⟩
end
end K01
/-! set(xs), xs a list of any length with fewer than 63 keys. -/
namespace KS
open PySem PySem.Spec PyProof.Rows L2
theorem nodup_lenW {α : Type} : ∀ (l D : List α), l.Nodup → (∀ x ∈ l, x ∈ D) → l.length ≤ D.length
  | [], _, _, _ => Nat.zero_le _
  | x :: l, D, nd, sub => by
    obtain ⟨A, B, rfl⟩ := List.append_of_mem (sub x List.mem_cons_self)
    obtain ⟨n1, n2⟩ := List.nodup_cons.mp nd
    have z := nodup_lenW l (A ++ B) n2 fun y hy => by
      rcases List.mem_append.mp (sub y (List.mem_cons_of_mem _ hy)) with c | c
      · exact List.mem_append_left _ c
      · rcases List.mem_cons.mp c with e | c
        · rw [e] at hy
          exact absurd hy n1
        · exact List.mem_append_right _ c
    rw [List.length_append] at z ⊢
    rw [List.length_cons, List.length_cons]
    omega
section
variable {P : Program} {w : World} {A : Around} {E : Value → Shared → Prop} {s : Shared} {a : Addr} {b : Bool} {L : List Mem} {es : Array (Int × Value)} {ep : Nat} {t : SetTable}
theorem update_loopW {I : Addr} {fp wr : List Addr} {G : Array GenState → Array GenState → Prop} {n : Nat} {Pv : Nat → Value → Prop} {St : Nat → Shared → Prop} {R : Result → Shared → Prop}
    (W : WalksS P w A.in1 I fp wr G n Pv St) (S : Addr) (hSf : S ∉ fp) (ks : List Mem) (hn : n = ks.length) (Dk : List NestedKey) (hDk : Dk.length + 1 < 64) (subK : ∀ m ∈ ks, m.2 ∈ Dk) (hv : ∀ i v, Pv i v → ∃ m, ks[i]? = some m ∧ v = m.1)
    (h0 : Heap) (hk : ∀ m ∈ ks, NestedIs h0 m.2 m.1) (hf : ∀ m ∈ ks, Fit b m) (hS0 : h0.get? S = none) (hw0 : ∀ c ∈ wr, h0.get? c = none) (hu : A.in1.units + 8 < cLine) :
    ∀ (k i : Nat) (s : Shared), n - i = k → i ≤ n → St i s → (∀ c o, h0.get? c = some o → s.heap.get? c = some o) → (∃ L es ep t, SetK b w s.heap S L es ep t ∧ Has ks i L) →
      (∀ s' L es ep t, Moved (S :: wr) G s s' → SetK b w s'.heap S L es ep t → Has ks n L → (∀ c o, h0.get? c = some o → s'.heap.get? c = some o) → R (.ok (.ret .none)) s') →
      codeAny (model P w) A (.builtin "set.update.loop" ⟨[.ref S, .ref I], []⟩) R s := by
  have hSw : S ∉ wr := fun h => hSf (W.sub _ h)
  have up : ∀ c ∈ wr, c ∈ S :: wr := fun c hc => List.mem_cons_of_mem _ hc
  have stay : ∀ {s s' : Shared}, Moved wr G s s' → (∀ c o, h0.get? c = some o → s.heap.get? c = some o) → ∀ c o, h0.get? c = some o → s'.heap.get? c = some o := fun mv hp c o e =>
    mv.heap c o (fun z => by rw [hw0 c z] at e; cases e) (hp c o e)
  intro k
  induction k with
  | zero =>
    intro i s hk' hi hst hp ⟨L, es, ep, t, hS, g⟩ hR
    have e0 : i = n := by omega
    subst e0
    refine codeAny_builtin F.entry_set_update_loop ?_
    rw [Around.under_plainId F.plain_set_update_loop _]
    show wpAny _ A.in1 (pyNext (.ref I) >>= _) _ _ s
    refine wpAny_bind (W.done s _ _ hst fun s' mv => ?_)
    show wpAny _ A.in1 (ret Value.none) _ _ s'
    have hp' := stay mv hp
    exact wpAny_pure (hR s' L es ep t (mv.mono up) (hS.keep (fun o e => mv.heap S o hSw e) fun m hm => key_keep (hk m (List.mem_of_mem_take (g.sub m hm))) hp') g hp')
  | succ k ih =>
    intro i s hk' hi hst hp ⟨L, es, ep, t, hS, g⟩ hR
    have lt : i < n := by omega
    refine codeAny_builtin F.entry_set_update_loop ?_
    rw [Around.under_plainId F.plain_set_update_loop _]
    show wpAny _ A.in1 (pyNext (.ref I) >>= _) _ _ s
    refine wpAny_bind (W.item i s _ _ lt hst fun v s' hP hst' mv => ?_)
    obtain ⟨m, hm, rfl⟩ := hv i v hP
    have mk := List.mem_of_getElem? hm
    have hp' := stay mv hp
    have hS' : SetK b w s'.heap S L es ep t := hS.keep (fun o e => mv.heap S o hSw e) fun q hq => key_keep (hk q (List.mem_of_mem_take (g.sub q hq))) hp'
    have hx : NestedIs s'.heap m.2 m.1 := key_keep (hk m mk) hp'
    show wpAny _ A.in1 (holding [m.1] (setAdd S m.1) >>= _) _ _ s'
    refine wpAny_bind (wpAny_holding ?_)
    unfold setAdd
    refine wpAny_holding ?_
    refine wpAny_bind (pyHash_key m.2 m.1 A.in1 s' _ hx (by have := fit_depth (hf m mk); omega) ?_)
    refine add_key (s := { s' with toks := s'.toks + m.2.draws }) (m := m) hS' hx (hf m mk) hu (by
      have z := nodup_lenW _ Dk hS'.nd fun k hk' => by
        obtain ⟨q, hq, rfl⟩ := List.mem_map.mp hk'
        exact subK q (List.mem_of_mem_take (g.sub q hq))
      rw [List.length_map] at z
      omega) fun c h' L' es' ep' t' sb hS2 c1 c2 => ?_
    have g' := g.next hm c1 c2
    have hp2 : ∀ c o, h0.get? c = some o → h'.get? c = some o := fun c o e => (sb.2 c (fun z => by rw [z, hS0] at e; cases e)).trans (hp' c o e)
    refine wpAny_pure ⟨plainId_quiet F.plain_set_update_loop _, ih (i + 1) _ (by omega) lt (W.frame _ s' _ _ hst' (Nat.le_add_right _ _) fun d hd o e => ?_) hp2 ⟨L', es', ep', t', hS2, g'⟩ fun s2 L2 es2 ep2 t2 mv2 hS3 g2 hp3 => ?_⟩
    · rw [sb.2 d (fun z => hSf (by rw [← z]; exact hd))]
      exact e
    · refine hR s2 L2 es2 ep2 t2 (Moved.trans W.gtrans ((mv.mono up).then_heap (Nat.le_add_right _ _) fun d o hd e => ?_) mv2) hS3 g2 hp3
      rw [sb.2 d (fun z => hd (by rw [z]; exact List.mem_cons_self))]
      exact e
set_option maxHeartbeats 8000000 in
theorem set_of_listW {l : Addr} {items : Array Value} (b : Bool) (ks : List Mem) {Q : Value → Shared → Prop} (hh : A.handled = none) (hl : s.heap.IsList l items) (hi : items.toList = ks.map (·.1))
    (hk : ∀ m ∈ ks, NestedIs s.heap m.2 m.1) (hf : ∀ m ∈ ks, Fit b m) (Dk : List NestedKey) (hDk : Dk.length + 1 < 64) (subK : ∀ m ∈ ks, m.2 ∈ Dk) (hu : A.units + 16 < cLine) (q : Made b w s ks Q) :
    wpAny (model P w) A (call (.type "set") [.ref l]) Q E s := by
  have zi : items.size = ks.length := by rw [← Array.length_toList, hi, List.length_map]
  obtain ⟨mc, mt, hmro⟩ := F.called_set.mro
  have d1 := F.called_set.made
  have d2 := F.called_set.sub
  refine wpAny_call (codeAny_of_tree ?_)
  show wpAny _ _ (callAny (.type "set") _) _ _ _
  refine wpAny_pure ⟨Code.quiet_builtin _ (by decide +kernel), codeAny_builtin F.entry_type_call ?_⟩
  rw [Around.under_plain (weight_type_call_type "set" [.ref l] []) rfl]
  have d3 := F.called_set.notType
  have d4 := F.called_set.canCreate
  have d5 := F.typeCall_set_1 (.ref l)
  repeat (any_goals (first | assumption | wp_step))
  refine codeAny_mono (code_set_led1 (.ref l) (E := E) (Q₁ := fun v s1 => v = .ref s.heap.objs.size ∧ s1 = { s with heap := s.heap.push (newO w) }) ⟨rfl, rfl⟩) fun r s1 hr => ?_
  cases r with
  | error e => exact hr
  | ok fl =>
    cases fl with
    | ret v =>
      obtain ⟨rfl, rfl⟩ := hr
      have gS : (s.heap.push (newO w)).get? s.heap.objs.size = some (newO w) := Heap.get?_push_size _ rfl
      have tS : Shared.TypeIs { s with heap := s.heap.push (newO w) } (.ref s.heap.objs.size) "set" := ⟨_, gS, rfl⟩
      have d6 := F.called_set.init.lookup
      have d7 := F.called_set.init.bind (.ref s.heap.objs.size)
      repeat (any_goals (first | assumption | wp_step))
      refine codeAny_mono (codeAny_call_builtin (R := wants (fun r s2 => r = .none ∧ ∃ h' tk L es ep t, s2 = { s with heap := h', toks := tk } ∧ SetK b w h' s.heap.objs.size L es ep t ∧ Has ks ks.length L ∧
          (∀ c o, s.heap.get? c = some o → h'.get? c = some o)) E) F.called_set.init.plain F.entry_set_init (check_set_init_1 tS ?_)) fun r2 s2 hr2 => ?_
      · obtain ⟨⟨oc, od, ot, os⟩, hol, hcl, nl, hdl⟩ := hl
        simp only at hcl hdl
        subst hcl; subst hdl
        have hol2 : (s.heap.push (newO w)).get? l = some { cls := .type "list", dict := od, data := .seq items nl, slots := os } := Heap.get?_push_of_some _ hol
        have d8 := F.sub_list_set
        have d9 := F.sub_list_frozenset
        have dA : (Value.type "list" == Value.type "dict") = false := by decide
        have hl2 : (s.heap.push (newO w)).IsList l items := ⟨_, hol2, rfl, nl, rfl⟩
        unfold Builtin.«set.__init__» noKeywords Builtin.Frozenset.updateFrom
        generalize hPI : pyIter = PI
        wp_walk
        subst hPI
        refine wpAny_pyIter_list hl2 (wpAny_bind (wpAny_runValue ?_))
        have ls : l < s.heap.objs.size := Heap.lt_size hol
        have zp : (s.heap.push (newO w)).objs.size = s.heap.objs.size + 1 := Heap.size_push ..
        have hne : l ≠ (s.heap.push (newO w)).objs.size := by
          rw [zp]
          exact Nat.ne_of_lt (Nat.lt_succ_of_lt ls)
        have hSf : s.heap.objs.size ∉ [(s.heap.push (newO w)).objs.size, l] := by
          rw [zp]
          simp only [List.mem_cons, List.mem_singleton, List.not_mem_nil, or_false, not_or]
          exact ⟨Nat.ne_of_lt (Nat.lt_succ_self _), Nat.ne_of_gt ls⟩
        refine update_loopW ((Walks.list (by simp [hh]) _ l hne items).toS) s.heap.objs.size
          hSf ks zi Dk hDk subK (item_of hi) s.heap hk hf (gone (Nat.le_refl _)) (fun c hc => gone (by
            rw [List.mem_singleton.mp hc, zp]
            exact Nat.le_succ _)) (by simp only [Around.in1_units]; omega) (items.size - 0) 0 _ (by omega) (Nat.zero_le _)
          ⟨⟨_, Heap.get?_push_size _ rfl, rfl, rfl⟩, hl2.push _⟩ (fun c o e => Heap.get?_push_of_some _ (Heap.get?_push_of_some _ e)) ⟨[], #[], 0, _, setK_new b (Heap.get?_push_of_some _ gS), Has.nil ks⟩ ?_
        intro s3 L es ep t mv hS g hp
        obtain ⟨h3, g3, d3, t3, o3⟩ := s3
        have eg : g3 = s.gens := mv.gens
        have ed : d3 = s.drawn := mv.drawn
        have eo : o3 = s.os := mv.os
        subst eg; subst ed; subst eo
        show wpAny _ _ _ _ _ _
        refine wpAny_pure ?_
        show wpAny _ _ (ret Value.none) _ _ _
        rw [zi] at g
        exact wpAny_pure ⟨rfl, h3, t3, L, es, ep, t, rfl, hS, g, hp⟩
      · cases r2 with
        | error e => exact hr2
        | ok fl2 =>
          cases fl2 with
          | ret r =>
            obtain ⟨rfl, h3, t3, L, es, ep, t, rfl, hS, g, hp⟩ := hr2
            repeat (any_goals (first | assumption | wp_step))
            exact q _ _ _ _ _ _ hS g hp
          | _ => exact hr2.elim
    | _ => exact hr.elim
end
section
variable {X : Cx}
/-- set(xs) -/
def rSetOfW (X : Cx) : List V → Hp → VK → Prop := fun xs H Q => ∃ (b : Bool) (l : Addr) (ms : List MemV), xs = [V.ref l] ∧ SqL X.K H l (ms.map (·.1)) ∧ (∀ p ∈ ms, Kv X.K H p.1 p.2 ∧ FitV b p) ∧ (∃ Dk : List NestedKey, Dk.length + 1 < 64 ∧ ∀ p ∈ ms, p.2 ∈ Dk) ∧
  ∀ a L, H a = none → (∀ p ∈ L, p ∈ ms) → (∀ p ∈ ms, p.2 ∈ L.map (·.2)) → (L.map (·.2)).Nodup → Q (.ref a) (upd H a (SetV b X.w a L))
theorem cr_setOfW (hc : X.calm = true) (hu : X.A.units + 64 < cLine) : CallR X (.type "set") (rSetOfW X) := by
  intro pins s σ H xs us Q I r h
  obtain ⟨b, l, ms, rfl, hl, hk, ⟨Dk, hDk, subK⟩, q⟩ := h
  rw [Vals.ref1 r]
  have hn : H s.heap.objs.size = none := I.hok.fresh (Nat.le_refl _)
  have fin : ∀ M : List Mem, Twin ms M → Made b X.w s M (EP X pins σ Q) := fun M tw h' tk L es ep t R g k => by
    obtain ⟨L', t', sub⟩ := tw.pick (N := L) fun m hm => List.mem_of_mem_take (g.sub m hm)
    refine ⟨.ref s.heap.objs.size, upd H s.heap.objs.size (SetV b X.w s.heap.objs.size L'), I.laid (t' := tk) k (Nat.le_refl _) (setV_ok ⟨L, es, ep, t, t', R.ob, R.eq, R.nd, R.fit, R.ris, R.full, R.led, R.few, R.tab⟩), rfl, q _ L' hn sub (fun p hp => ?_) ?_⟩
    · rw [← t'.2]
      have e : p.2 ∈ M.map (·.2) := by
        rw [tw.2]
        exact List.mem_map.mpr ⟨p, hp, rfl⟩
      obtain ⟨m, hm, em⟩ := List.mem_map.mp e
      rw [← em]
      exact g.all m (by rw [List.take_length]; exact hm)
    · rw [← t'.2]
      exact R.nd
  have pre : ∀ M : List Mem, Twin ms M → (∀ m ∈ M, NestedIs s.heap m.2 m.1) ∧ (∀ m ∈ M, Fit b m) ∧ (∀ m ∈ M, m.2 ∈ Dk) := fun M tw => by
    refine ⟨fun m hm => ?_, fun m hm => ?_, ?_⟩
    · obtain ⟨p, hp, r1, e1⟩ := tw.mem m hm
      rw [e1]
      exact (Kv.reads I p.2 p.1 m.1 (hk p hp).1 r1).1
    · obtain ⟨p, hp, r1, e1⟩ := tw.mem m hm
      exact (hk p hp).2.fit r1 e1
    · intro m hm
      obtain ⟨p, hp, r1, e1⟩ := tw.mem m hm
      rw [e1]
      exact subK p hp
  obtain ⟨its, rv, pl, hz⟩ := I.list hl
  obtain ⟨M, eM, tw⟩ := Twin.make rv
  obtain ⟨p1, p2, p3⟩ := pre M tw
  exact set_of_listW b M (I.ok.hd hc) pl.isList (by simpa using eM.symm) p1 p2 Dk hDk p3 (by omega) (fin M tw)
end
end KS
/-! sorted(set(rows)); rows with their addresses. -/
namespace K01
open PySem PySem.Spec PyProof.Rows L2 KG KS KA KX KIa KFz KTc
/-- rows with their addresses -/
abbrev KzL := List (Addr × List Str)
def RL (H : Hp) (kz : KzL) : Prop := ∀ p ∈ kz, H p.1 = some (.tup (p.2.map V.str))
def RG (xs : List Str) (n : Nat) (kz : KzL) : Prop := ∀ p ∈ kz, p.2.length = n ∧ ∀ x ∈ p.2, x ∈ xs
abbrev refs (kz : KzL) : List V := kz.map fun p => V.ref p.1
theorem RL.up {H H' : Hp} {kz : KzL} (h : RL H kz) (e : Same H H') : RL H' kz := fun p hp => e _ _ (h p hp)
theorem RL.sub {H : Hp} {kz kz' : KzL} (h : RL H kz) (s : ∀ p ∈ kz', p ∈ kz) : RL H kz' := fun p hp => h p (s p hp)
theorem RG.sub {xs : List Str} {n : Nat} {kz kz' : KzL} (h : RG xs n kz) (s : ∀ p ∈ kz', p ∈ kz) : RG xs n kz' := fun p hp => h p (s p hp)
theorem RL.ls {H : Hp} : ∀ {kz : KzL}, RL H kz → LsAt H (kz.map (·.1)) (kz.map (·.2))
  | [], _ => .nil
  | p :: kz, h => .cons (h p List.mem_cons_self) (RL.ls fun q hq => h q (List.mem_cons_of_mem _ hq))
theorem RL.rows {H : Hp} : ∀ {kz : KzL}, RL H kz → RowsAt H (refs kz) (kz.map (·.2))
  | [], _ => .nil
  | p :: kz, h => .cons ⟨p.1, rfl, h p List.mem_cons_self⟩ (RL.rows fun q hq => h q (List.mem_cons_of_mem _ hq))
theorem rows_kz {H : Hp} : ∀ {vs : List V} {R : List (List Str)}, RowsAt H vs R → ∃ kz : KzL, vs = refs kz ∧ kz.map (·.2) = R ∧ RL H kz
  | _, _, .nil => ⟨[], rfl, rfl, fun _ z => nomatch z⟩
  | _, _, .cons (b := r) ⟨a, e1, e2⟩ t => by
    obtain ⟨kz, h1, h2, h3⟩ := rows_kz t
    refine ⟨(a, r) :: kz, by rw [refs, List.map_cons, e1, h1], by rw [List.map_cons, h2], fun p hp => ?_⟩
    rcases List.mem_cons.mp hp with rfl | hp
    · exact e2
    · exact h3 p hp
/-- the set of these rows, made over H0 -/
structure SetR (X : Cx) (H0 H : Hp) (S : Addr) (R : List (List Str)) (n : Nat) : Prop where
  sm : Same H0 H
  len : ∀ r ∈ R, r.length = n
  n1 : 1 ≤ n
  ex : ∃ (ms L : List MemV), H S = some (SetV true X.w S L) ∧ (∀ p ∈ L, p ∈ ms) ∧ (∀ p ∈ ms, p.2 ∈ L.map (·.2)) ∧ (L.map (·.2)).Nodup ∧ ms.map (·.2) = R.map kr ∧ ∀ p ∈ ms, (Kv X.K H p.1 p.2 ∧ FitV true p) ∧ ∃ ts ∈ R, p.2 = kr ts ∧ ∃ a, p.1 = V.ref a ∧ H a = some (.tup (ts.map V.str))
theorem set_to {X : Cx} {H : Hp} {l : Addr} {vs : List V} {R D : List (List Str)} {n : Nat} {G : VK} (hl : H l = some (.lst vs)) (hR : RowsAt H vs R) (len : ∀ r ∈ R, r.length = n) (n1 : 1 ≤ n) (hD : D.length + 1 < 64) (subD : ∀ r ∈ R, r ∈ D)
    (q : ∀ (S : Addr) (H' : Hp), SetR X H H' S R n → G (.ref S) H') : rSetOfW X [.ref l] H G := by
  obtain ⟨ms, m1, m2, m3⟩ := rows_mem (K := X.K) hR
  refine ⟨true, l, ms, rfl, SqL.of (by rw [m1]; exact hl), fun p hp => (m3 p hp).1, ⟨D.map kr, by rw [List.length_map]; exact hD, fun p hp => ?_⟩, fun S L hS h1 h2 h3 => ?_⟩
  · obtain ⟨_, ts, z1, z2, _⟩ := m3 p hp
    rw [z2]
    exact List.mem_map.mpr ⟨ts, subD ts z1, rfl⟩
  have e1 : Same H (upd H S (SetV true X.w S L)) := same_new hS
  refine q S _ ⟨e1, len, n1, ms, L, upd_same, h1, h2, h3, m2, fun p hp => ?_⟩
  obtain ⟨⟨z1, z2⟩, ts, z3, z4, a, z5, z6⟩ := m3 p hp
  exact ⟨⟨Kv.up (fun a xs => same_seqT e1) _ _ z1, z2⟩, ts, z3, z4, a, z5, e1 _ _ z6⟩
theorem sort_to {X : Cx} {H0 H : Hp} {S : Addr} {R : List (List Str)} {n : Nat} {G : VK} (h : SetR X H0 H S R n)
    (q : ∀ (p : Addr) (kz : KzL) (H' : Hp), H0 p = none → Same H0 H' → H' p = some (.lst (refs kz)) → RL H' kz → (∀ r, r ∈ kz.map (·.2) ↔ r ∈ R) → Asc (kz.map (·.2)) → G (.ref p) H') : rSortSet X [.ref S] H G := by
  obtain ⟨ms, L, hS, h1, h2, h3, m2, m3⟩ := h.ex
  have mal := rows_al (ms := ms) (R := R) (fun p hp => by obtain ⟨_, ts, h1, h2, _⟩ := m3 p hp; exact ⟨ts, h1, h2⟩) (fun t ht => by rw [h.len t ht]; exact h.n1)
  have sub : ∀ d ∈ L.map (·.2.data), d ∈ ms.map (·.2.data) := fun d hd => by
    obtain ⟨p, hp, e⟩ := List.mem_map.mp hd
    exact List.mem_map.mpr ⟨p, h1 p hp, e⟩
  refine ⟨true, S, L, rfl, hS, fun p hp => (m3 p (h1 p hp)).1.1, fun d hd d' hd' => mal.1 d (sub d hd) d' (sub d' hd'), mal.2.imp (fun h d hd => h d (sub d hd)) fun h d hd => h d (sub d hd), fun L' p pm af hp => ?_⟩
  have e2 : Same H (upd H p (.lst (L'.map (·.1)))) := same_new hp
  obtain ⟨R', a1, a2, a3⟩ := rows_back (H := upd H p (.lst (L'.map (·.1)))) (R := R) (L := L') fun m hm => by
    obtain ⟨_, ts, z1, z2, a, z3, z4⟩ := m3 m (h1 m (pm.mem_iff.mp hm))
    exact ⟨ts, z1, z2, a, z3, e2 _ _ z4⟩
  have iff : ∀ row, row ∈ R' ↔ row ∈ R := fun row => ⟨a3 row, fun hm => by
    have z : kr row ∈ ms.map (·.2) := by
      rw [m2]
      exact List.mem_map.mpr ⟨row, hm, rfl⟩
    obtain ⟨m, hm2, e⟩ := List.mem_map.mp z
    have z2 := (pm.map (·.2)).mem_iff.mpr (h2 m hm2)
    rw [e, a2] at z2
    obtain ⟨row2, hm3, e2⟩ := List.mem_map.mp z2
    rw [← kr_inj e2]
    exact hm3⟩
  have asc : Asc R' := aft_rows a2 af ((pm.map (·.2)).nodup_iff.mpr h3) fun r hm => h.len r (a3 r hm)
  obtain ⟨kz, k1, k2, k3⟩ := rows_kz a1
  have hL : upd H p (.lst (L'.map (·.1))) p = some (.lst (refs kz)) := by rw [upd_same, k1]
  refine q p kz _ (h.sm.free hp) (same_trans h.sm e2) hL k3 ?_ ?_
  · rw [k2]
    exact iff
  · rw [k2]
    exact asc
/-- lists of rows as data -/
def rowsL (R : List (List Str)) : PyData := .list (R.map txd)
theorem eqv_rowsL (A B : List (List Str)) : PyData.eqv (rowsL A) (rowsL B) = decide (A = B) := by
  rw [← eqv_rows]
  simp only [rowsL, PyData.eqv]
theorem rowsL_shaped {R : List (List Str)} (h : ∀ r ∈ R, ∀ x ∈ r, PyData.strOk x = true) : SeqAt.shaped (rowsL R) = true := by
  have z := rows_shaped h
  unfold SeqAt.shaped at z ⊢
  rw [Bool.and_eq_true, decide_eq_true_eq] at z ⊢
  obtain ⟨z1, z2⟩ := z
  refine ⟨?_, ?_⟩
  · simpa [rowsD, rowsL, PyData.canLay0] using z1
  · simp only [rowsD, rowsL, PyData.depth] at z2 ⊢
    exact z2
theorem pts27 {xs : List Str} {n : Nat} (l3 : xs.length ≤ 3) (n3 : n ≤ 3) : (pw xs n).length ≤ 27 := by
  rw [pw_len]
  calc xs.length ^ n ≤ 3 ^ n := Nat.pow_le_pow_left l3 n
    _ ≤ 3 ^ 3 := Nat.pow_le_pow_right (by decide) n3
theorem asc_few {xs : List Str} {n : Nat} {R : List (List Str)} (l3 : xs.length ≤ 3) (n3 : n ≤ 3) (asc : Asc R) (h : ∀ r ∈ R, r.length = n ∧ ∀ x ∈ r, x ∈ xs) : R.length ≤ 27 :=
  Nat.le_trans (nodup_len R (pw xs n) (asc_nodup asc) fun r hr => mem_pw.mpr (h r hr)) (pts27 l3 n3)
end K01
/-! sorted(l), l a list of rows. -/
namespace KS
open PySem PySem.Spec PySem.W PySem.SeqAt PyProof.Rows L2
section
variable {X : Cx}
def rSortLs (K : PySem.W.Frag) : List V → Hp → VK → Prop := fun xs H Q => ∃ (a : Addr) (ms : List MemV), xs = [.ref a] ∧ SqL K H a (ms.map (·.1)) ∧ (∀ p ∈ ms, Kv K H p.1 p.2 ∧ FitV true p) ∧ ms.length < 64 ∧
  W.AllAlike (ms.map (·.2.data)) ∧ W.Sortable (ms.map (·.2.data)) ∧ ∀ (L : List MemV) (p : Addr), L.Perm ms → L.Pairwise Aft → H p = none → Q (.ref p) (upd H p (.lst (L.map (·.1))))
theorem cr_sortLs (hu : X.A.units + 64 < cLine) : CallR X (.builtin "sorted") (rSortLs X.K) := by
  intro pins s σ H xs us Q I r h
  obtain ⟨a, L1, rfl, ha, hk, h64, al1, so1, q⟩ := h
  rw [Vals.ref1 r]
  obtain ⟨vs, rv, pl, hz⟩ := I.list ha
  obtain ⟨o, ho, hc, n, hd⟩ := pl.isList
  have zv : vs.length = L1.length := by rw [← rv.length, List.length_map]
  refine Calls.call_function_entry kind_sorted plain_sorted entry_sorted (args_sorted1 _) ?_
  unfold Builtin.«sorted»
  refine wpAny_bind (m := checkCount "sorted" 1 1 _) (wpAny_pure (wpAny_bind (wpAny_collect_seq a (.inl rfl) ho hc hd (fun h1 k1 => ?_) (by rw [List.size_toArray, zv, sizeLine_eq]; omega))))
  refine wpAny_bind (wpAny_newList ?_ (by show vs.length ≤ sizeLine; rw [zv, sizeLine_eq]; omega))
  have hoL : (h1.push (seqObj "list" vs.toArray 0)).get? h1.objs.size = some (seqObj "list" vs.toArray 0) := Heap.get?_push_size _ rfl
  have dep : ∀ p ∈ L1, p.2.data.depth ≤ 8 := fun p hp => by
    obtain ⟨c, ks, _, _, d⟩ := (hk p hp).2
    rw [data_depth]
    exact d
  refine wpAny_bind (wpAny_holding (W.list_sort_data (s := { s with heap := h1.push (seqObj "list" vs.toArray 0) }) hoL (vals_each rv) (each_and (vals_each rv) fun v p hp r0 => ⟨[], ?_, by simp⟩) al1 so1 (by rw [sizeLine_eq]; omega) (fun p hp => by have := dep p hp; simp only [Around.in1_units]; omega) fun out zo eo => ?_))
  · exact PyProof.Rows.Reads.keeps (fun b u e => Heap.get?_push_of_some _ (k1 b u e)) (Kv.reads I p.2 p.1 v (hk p hp).1 r0).2
  · obtain ⟨c, hc2⟩ := sortedHeap_at (vs := vs) (out := List.toArray out) hoL
    have pS := List.mergeSort_perm L1 (W.dataLe false fun p : MemV => p.2.data)
    have oS : (L1.mergeSort (W.dataLe false fun p : MemV => p.2.data)).Pairwise Aft := by
      refine (W.sort_pairwise (W.sortLe_total _ false _) L1).imp fun {p q} hle => ?_
      have h2 : (!W.dataLt q.2.data p.2.data) = true := hle
      show W.dataLt q.2.data p.2.data = false
      cases e : W.dataLt q.2.data p.2.data with
      | false => rfl
      | true =>
        rw [e] at h2
        cases h2
    have rS := each_vals eo
    generalize L1.mergeSort (W.dataLe false fun p : MemV => p.2.data) = S at pS oS rS
    have hn : H h1.objs.size = none := by
      cases e : H h1.objs.size with
      | none => rfl
      | some u =>
        obtain ⟨o, ho2⟩ := KTc.obj_there (I.hok _ _ e)
        exact absurd (Heap.lt_size (k1 _ _ ho2)) (Nat.lt_irrefl _)
    have keep : ∀ b u, s.heap.get? b = some u → (sortedHeap (h1.push (seqObj "list" vs.toArray 0)) h1.objs.size vs (List.toArray out)).get? b = some u := fun b u e => by
      have e2 := k1 b u e
      have lt := Heap.lt_size e2
      rw [sortedHeap_old (Nat.ne_of_lt lt) (by rw [size_push']; exact Nat.lt_succ_of_lt lt)]
      exact Heap.get?_push_of_some _ e2
    have len : (S.map (·.1)).length ≤ sizeLine := by
      rw [List.length_map, pS.length_eq, sizeLine_eq]
      omega
    have J : L2.Inv X pins σ (upd H h1.objs.size (.lst (S.map (·.1)))) { s with heap := sortedHeap (h1.push (seqObj "list" vs.toArray 0)) h1.objs.size vs (List.toArray out), toks := s.toks } :=
      KTc.Inv.laidA I keep (fun b u e => Nat.ne_of_lt (Heap.lt_size (k1 b u e))) hn ⟨len, out, c, rS, by simpa using hc2⟩
    exact wpAny_pure ⟨_, rfl, ⟨.ref h1.objs.size, _, J, rfl, q S h1.objs.size pS oS hn⟩⟩
end
end KS
namespace K01
open PySem PySem.Spec PyProof.Rows L2 KG KS KA KX KIa KFz KTc
/-- sorted(l), l a list of distinct rows -/
theorem sortL_to {K : PySem.W.Frag} {H : Hp} {a : Addr} {kz : KzL} {n : Nat} {G : VK} (ha : H a = some (.lst (refs kz))) (hk : RL H kz) (len : ∀ r ∈ kz.map (·.2), r.length = n) (n1 : 1 ≤ n) (nd : (kz.map (·.2)).Nodup) (h64 : kz.length < 64)
    (q : ∀ (p : Addr) (kz' : KzL) (H' : Hp), H p = none → Same H H' → H' p = some (.lst (refs kz')) → RL H' kz' → (∀ r, r ∈ kz'.map (·.2) ↔ r ∈ kz.map (·.2)) → Asc (kz'.map (·.2)) → G (.ref p) H') : rSortLs K [.ref a] H G := by
  obtain ⟨ms, m1, m2, m3⟩ := rows_mem (K := K) hk.rows
  have ml : ms.length = kz.length := by
    have z := congrArg List.length m1
    rw [List.length_map, List.length_map] at z
    exact z
  have mal := rows_al (ms := ms) (R := kz.map (·.2)) (fun p hp => by obtain ⟨_, ts, h1, h2, _⟩ := m3 p hp; exact ⟨ts, h1, h2⟩) (fun t ht => by rw [len t ht]; exact n1)
  refine ⟨a, ms, rfl, SqL.of (by rw [m1]; exact ha), fun p hp => (m3 p hp).1, by omega, mal.1, mal.2, fun L p pm af hp => ?_⟩
  have e2 : Same H (upd H p (.lst (L.map (·.1)))) := same_new hp
  obtain ⟨R', a1, a2, a3⟩ := rows_back (H := upd H p (.lst (L.map (·.1)))) (R := kz.map (·.2)) (L := L) fun m hm => by
    obtain ⟨_, ts, z1, z2, a, z3, z4⟩ := m3 m (pm.mem_iff.mp hm)
    exact ⟨ts, z1, z2, a, z3, e2 _ _ z4⟩
  have pk : (R'.map kr).Perm ((kz.map (·.2)).map kr) := by
    rw [← a2, ← m2]
    exact pm.map _
  have iff : ∀ row, row ∈ R' ↔ row ∈ kz.map (·.2) := fun row => ⟨a3 row, fun hm => by
    have z : kr row ∈ R'.map kr := pk.mem_iff.mpr (List.mem_map.mpr ⟨row, hm, rfl⟩)
    obtain ⟨row2, hm3, e2⟩ := List.mem_map.mp z
    rw [← kr_inj e2]
    exact hm3⟩
  have ndk : (L.map (·.2)).Nodup := by
    rw [a2]
    refine pk.nodup_iff.mpr ?_
    exact List.Pairwise.map _ (fun x y h e => h (kr_inj e)) nd
  have asc : Asc R' := aft_rows a2 af ndk fun r hm => len r (a3 r hm)
  obtain ⟨kz', k1, k2, k3⟩ := rows_kz a1
  have hL : upd H p (.lst (L.map (·.1))) p = some (.lst (refs kz')) := by rw [upd_same, k1]
  refine q p kz' _ hp e2 hL k3 ?_ ?_
  · rw [k2]
    exact iff
  · rw [k2]
    exact asc
end K01
/-! _law_closed. -/
namespace K01
open PySem PySem.Spec PyProof.Rows L2 KG KS KA KX KIa KFz KTc
abbrev s__law_closed : Stmt := top 37
abbrev NCl : List Str := ["_law_by", "_law_rows_here", "_law_many", "_law_found", "_law_k", "_law_more", "_law_some"]
/-- closed under the vote -/
def ClosedS (xs : List Str) (k : Nat) (rs : List Str) (n : Nat) (S : List (List Str)) : Prop := ∀ t : List (List Str), t.length = k → (∀ r ∈ t, r ∈ S) → voteS xs k rs n t ∈ S
/-- rows that grow from R0 by votes -/
structure GrowS (xs : List Str) (k : Nat) (rs : List Str) (n : Nat) (R0 R : List (List Str)) : Prop where
  asc : Asc R
  low : ∀ r ∈ R0, r ∈ R
  min : ∀ S, ClosedS xs k rs n S → (∀ r ∈ R0, r ∈ S) → ∀ r ∈ R, r ∈ S
structure ClsOk (xs : List Str) (k : Nat) (rs : List Str) (n : Nat) (R0 R : List (List Str)) : Prop extends GrowS xs k rs n R0 R where
  cl : R.length ≤ 24 - 4 * k → ClosedS xs k rs n R
theorem asc_same_len {A B : List (List Str)} (hA : Asc A) (hB : Asc B) (sub : ∀ r ∈ A, r ∈ B) (le : B.length ≤ A.length) : A = B := by
  have p : A.Perm B := perm_of_sub A B (asc_nodup hA) sub le
  exact asc_eq hA hB p
theorem asc_ext {A B : List (List Str)} (hA : Asc A) (hB : Asc B) (h : ∀ r, r ∈ A ↔ r ∈ B) : A = B :=
  asc_same_len hA hB (fun r hr => (h r).mp hr) (nodup_len B A (asc_nodup hB) fun r hr => (h r).mpr hr)
/-- the votes of rows, by their members -/
theorem vote_mem {xs : List Str} {k : Nat} {rs : List Str} {n : Nat} {kf : KzL} {r : List Str} : r ∈ (pw kf k).map (fun ps => voteS xs k rs n (ps.map (·.2))) ↔ ∃ t : List (List Str), t.length = k ∧ (∀ q ∈ t, q ∈ kf.map (·.2)) ∧ r = voteS xs k rs n t := by
  have e : pw (kf.map (·.2)) k = (pw kf k).map (List.map (·.2)) := pw_map (fun p : Addr × List Str => p.2) kf k
  constructor
  · intro h
    obtain ⟨ps, hps, rfl⟩ := List.mem_map.mp h
    have m : ps.map (·.2) ∈ pw (kf.map (·.2)) k := by
      rw [e]
      exact List.mem_map.mpr ⟨ps, hps, rfl⟩
    obtain ⟨z1, z2⟩ := mem_pw.mp m
    exact ⟨_, z1, z2, rfl⟩
  · rintro ⟨t, l, sub, rfl⟩
    have m : t ∈ pw (kf.map (·.2)) k := mem_pw.mpr ⟨l, sub⟩
    rw [e] at m
    obtain ⟨ps, hps, rfl⟩ := List.mem_map.mp m
    exact List.mem_map.mpr ⟨ps, hps, rfl⟩
def spCl (K : PySem.W.Frag) : Sp := fun vs H Q _ => ∃ (t L : Addr) (kz : KzL) (xs rs : List Str) (k n : Nat), vs = [.ref t, .ref L, .int (k : Nat)] ∧ TblV H t xs k rs ∧ VGood xs k rs ∧ H L = some (.lst (refs kz)) ∧ RL H kz ∧ RG xs n kz ∧ 1 ≤ n ∧ n ≤ 3 ∧ kz.length ≤ 8 ∧
  ∀ (p : Addr) (kz' : KzL) (H' : Hp), H p = none → Same H H' → H' p = some (.lst (refs kz')) → RL H' kz' → RG xs n kz' → ClsOk xs k rs n (kz.map (·.2)) (kz'.map (·.2)) → Q (.ref p) H'
section
variable {P : Program} {w : World} {K : PySem.W.Frag} {mg : Str → Option Value} {base : Heap}
theorem sc__law_closed : FnScope NCl ["_law_by", "_law_rows_here", "_law_many"] (defScope s__law_closed) := ⟨rfl, rfl, rfl, by decide +kernel, rfl, by decide +kernel, by decide +kernel⟩
theorem ok__law_closed (B : Bs mg) (f : FnF K mg "_law_closed" "_law_closed" s__law_closed) (ft : FnF K mg "_law_tuples" "_law_tuples" s__law_tuples) (fv : FnF K mg "_law_voted" "_law_voted" s__law_voted) : FnOk P w K mg base CX0 2 f.a f.d ["_law_by", "_law_rows_here", "_law_many"] (spCl K) := by
  have GT := ok__law_tuples (P := P) (w := w) (base := base) false B ft
  have bT : L2.Binds K ft.d ["_law_items", "_law_many"] [] := ft.F.binds fun _ _ _ _ _ _ us hl => match us, hl with | [_, _], _ => rfl
  have GV := ok__law_voted (P := P) (w := w) (base := base) B fv
  have bV : L2.Binds K fv.d ["_law_by", "_law_rows_here"] [] := fv.F.binds fun _ _ _ _ _ _ us hl => match us, hl with | [_, _], _ => rfl
  refine f.F.ok sc__law_closed (fun vs H Q E h => ?_) (fun cdv A outer s H vs Q E hr h => ?_)
  · obtain ⟨t, L, kz, xs, rs, k, n, rfl, _⟩ := h
    rfl
  · obtain ⟨t, L, kz, xs, rs, k, n, rfl, hT, G, hL, hkz, hrg, n1, n3, l8, q⟩ := h
    have hu64 := hr.units
    have hr1 : Room 1 _ := hr.mono (by omega)
    refine ⟨_, (pss_cons
      (ps_set (i := 3) sc__law_closed.nd rfl (Or.inl rfl) (pe_callB (cr_sortSet rfl hu64) (by rfl) B.n_sorted (by decide +kernel) (pa_cons (pe_callTy (cr_setOfW rfl hu64) (by rfl) B.n_set (by decide +kernel) (pa_cons (pv 1) pa_nil)) pa_nil)))
    (pss_cons
      (ps_for PassesOwn.never rfl (pi_range1 rfl B.n_range (pa_cons pe_int pa_nil)) (pg_name (i := 4) sc__law_closed.nd rfl (Or.inl rfl))
        (pss_cons
          (ps_set (i := 5) sc__law_closed.nd rfl (Or.inl rfl) (pe_callB (cr_sortSet rfl hu64) (by rfl) B.n_sorted (by decide +kernel) (pa_cons (pe_callTy (cr_setOfW rfl hu64) (by rfl) B.n_set (by decide +kernel) (pa_cons (pe_op op_cat (pv 3) (pe_lc (own := [("_law_some", 6)]) (g := gName 6) (by rfl) sc__law_closed.nd (pi_list (pe_call GT hr1 rfl ft.g ft.F.kp bT .nil pass0 (pa_cons (pv 3) (pa_cons (pv 2) pa_nil)))) (blkOk_by (own := [("_law_some", 6)]) (N := NCl) (sc := defScope s__law_closed) (by decide +kernel))
            (fun _ _ _ _ _ => (pg_name (i := 6) sc__law_closed.nd rfl (Or.inl rfl))) (fun _ _ _ _ _ => pts_nil) (fun _ _ _ _ _ => (pe_call GV hr1 (by rfl) fv.g fv.F.kp bV .nil pass0 (pa_cons (pv 0) (pa_cons (pv 6) pa_nil)))))) pa_nil)) pa_nil)))
        (pss_cons
          (ps_if (PW.pt (pw_or (pt_cmpR (op_eqD hu64) (pv 5) (pv 3) (nomark _)) (pw_or1 (pt_cmpR op_gt (pe_callB call_len (by rfl) B.n_len (by decide +kernel) (pa_cons (pv 5) pa_nil)) (pe_op op_sub pe_int (pe_op op_mul pe_int (pv 2))) (nomark _)))))
            (pss_one
              (ps_ret (pv 5)))
            pss_nil)
        (pss_one
          (ps_set (i := 3) sc__law_closed.nd rfl (Or.inl rfl) (pv 5))))))
    (pss_one
      (ps_ret (pv 3))))), ?_⟩
    have d27 : (pw xs n).length + 1 < 64 := by have := pts27 G.l3 n3; omega
    have inD : ∀ r : List Str, (r.length = n ∧ ∀ x ∈ r, x ∈ xs) → r ∈ pw xs n := fun r h => mem_pw.mpr h
    have ok3 : ∀ {R : List (List Str)}, (∀ r ∈ R, r.length = n ∧ ∀ x ∈ r, x ∈ xs) → ∀ r ∈ R, ∀ x ∈ r, PyData.strOk x = true := fun h r hr x hx => name_strOk (G.ok x ((h r hr).2 x hx))
    have rows_of : ∀ {kz : KzL}, RG xs n kz → ∀ r ∈ kz.map (·.2), r.length = n ∧ ∀ x ∈ r, x ∈ xs := fun h r hr => by
      obtain ⟨p, hp, rfl⟩ := List.mem_map.mp hr
      exact h p hp
    have kz_of : ∀ {kz : KzL}, (∀ r ∈ kz.map (·.2), r.length = n ∧ ∀ x ∈ r, x ∈ xs) → RG xs n kz := fun h p hp => h p.2 (List.mem_map.mpr ⟨p, hp, rfl⟩)
    have hk4 := G.hk
    have bd1 : 8 ≤ 24 - 4 * k := by omega
    have lim : (24 - 4 * k) ^ k ≤ 100000 := by
      rcases hk4 with z | z <;> rw [z] <;> decide
    -- found = sorted(set(rows))
    refine ⟨_, rfl, ?_⟩
    dsimp only [tNil]
    refine set_to (R := kz.map (·.2)) (D := pw xs n) (n := n) hL hkz.rows (fun r hr => (rows_of hrg r hr).1) n1 d27 (fun r hr => inD r (rows_of hrg r hr)) fun S0 HS0 sr => ?_
    refine sort_to sr fun F kf H1 nF e1 hF hkf memf ascf => ?_
    have rgf : RG xs n kf := kz_of fun r hr => rows_of hrg r ((memf r).mp hr)
    have lkf : kf.length ≤ 24 - 4 * k := by
      have z := nodup_len (kf.map (·.2)) (kz.map (·.2)) (asc_nodup ascf) fun r hr => (memf r).mp hr
      rw [List.length_map, List.length_map] at z
      omega
    have gr0 : GrowS xs k rs n (kz.map (·.2)) (kf.map (·.2)) := ⟨ascf, fun r hr => (memf r).mpr hr, fun S _ h r hr => h r ((memf r).mp hr)⟩
    refine ⟨28, rfl, by decide, by decide, ?_⟩
    refine for_range (lo := 0) (n := 28) (fun i σ H' => ∃ (F : Addr) (kf : KzL) (v4 v5 : Option V), σ = [some (.ref t), some (.ref L), some (.int (k : Nat)), some (.ref F), v4, v5, none] ∧ H F = none ∧ Same H H' ∧ H' F = some (.lst (refs kf)) ∧ RL H' kf ∧ RG xs n kf ∧ kf.length ≤ 24 - 4 * k ∧ GrowS xs k rs n (kz.map (·.2)) (kf.map (·.2)) ∧ i ≤ kf.length)
      ⟨F, kf, none, none, rfl, nF, e1, hF, hkf, rgf, lkf, gr0, Nat.zero_le _⟩ ?_ ?_
    · rintro i σ H2 hi ⟨F, kf, v4, v5, rfl, nF, e2, hF, hkf, rgf, lkf, gr, il⟩
      -- found + [voted(by, some) for some in tuples(found, many)]
      refine ⟨_, rfl, _, rfl, _, rfl, F, false, refs kf, k, rfl, SqL.of hF, (fun z => nomatch z), by omega, by omega, pow_lim (M := 24 - 4 * k) (by rw [List.length_map]; exact lkf) (by omega) lim, fun l rs0 H3 nl e3 hl hW => ⟨l, rfl, ⟨_, SqL.of hl⟩, fun D hD => ?_⟩⟩
      have e03 := same_trans e2 e3
      have epw : pw (refs kf) k = (pw kf k).map (List.map fun p => V.ref p.1) := pw_map (fun p : Addr × List Str => V.ref p.1) kf k
      rw [epw] at hW
      have lpw : (pw kf k).length ≤ 100000 := by
        rw [pw_len]
        exact pow_lim (M := 24 - 4 * k) lkf (by omega) lim k (Nat.le_refl _)
      have lrs := hW.length
      rw [List.length_map] at lrs
      refine lc_list (K := K) (xs := rs0) (fun j H' => ∃ got : KzL, Same H3 H' ∧ H' D = some (.lst (refs got)) ∧ RL H' got ∧ RG xs n got ∧ got.map (·.2) = ((pw kf k).take j).map fun ps => voteS xs k rs n (ps.map (·.2))) ⟨[], same_new hD, upd_same, (fun _ z => nomatch z), (fun _ z => nomatch z), rfl⟩ (fun j H' _ ⟨_, e, _⟩ => SqL.of (e _ _ hl)) ?_ ?_
      · rintro j y H4 hy ⟨got, e4, hD4, hgot, rgg, lg⟩
        obtain ⟨ts, hts, a, rfl, _, ha⟩ := each_get hW hy
        rw [List.getElem?_map] at hts
        cases hps : (pw kf k)[j]? with
        | none =>
          rw [hps] at hts
          cases hts
        | some ps =>
          rw [hps] at hts
          obtain rfl : ps.map (fun p => V.ref p.1) = ts := Option.some.inj hts
          have il : j < (pw kf k).length := (List.getElem?_eq_some_iff.mp hps).1
          obtain ⟨lps, subp⟩ := mem_pw.mp (List.mem_of_getElem? hps)
          have e04 := same_trans e03 e4
          have hps4 : RL H4 ps := (hkf.sub subp).up (same_trans e3 e4)
          have rgp : RG xs n ps := rgf.sub subp
          have ha4 : H4 a = some (.tup (ps.map fun p => V.ref p.1)) := e4 _ _ ha
          have lgl := congrArg List.length lg
          rw [List.length_map, List.length_map, List.length_take] at lgl
          refine ⟨rfl, _, rfl, _, rfl, t, a, ps.map (·.1), xs, rs, k, n, ps.map (·.2), rfl, hT.up e04, G, SqT.of (by rw [List.map_map]; exact ha4), hps4.ls, by rw [List.length_map]; exact lps, rows_of rgp, by omega, fun v H5 nv e5 hv => ?_⟩
          have hD5 := e5 _ _ hD4
          refine ⟨_, hD5, by rw [List.length_map, sizeLine_eq]; omega, got ++ [(v, voteS xs k rs n (ps.map (·.2)))], same_put hD (same_trans e4 e5), by rw [upd_same, refs, refs, List.map_append]; rfl, fun p hp => ?_, fun p hp => ?_, by rw [List.map_append, lg, take_next hps, List.map_append]; rfl⟩
          · have z : H5 p.1 = some (.tup (p.2.map V.str)) := by
              rcases List.mem_append.mp hp with z | z
              · exact e5 _ _ (hgot p z)
              · rw [List.mem_singleton.mp z]
                exact hv
            rw [upd_ne (ne_of z hD5 (by intro z; cases z))]
            exact z
          · rcases List.mem_append.mp hp with z | z
            · exact rgg p z
            · rw [List.mem_singleton.mp z]
              exact ⟨voteS_len, voteS_sub G (by rw [List.length_map]; exact lps) (rows_of rgp)⟩
      · rintro H4 ⟨got, e4, hD4, hgot, rgg, lg⟩
        rw [lrs, List.take_length] at lg
        have lgl := congrArg List.length lg
        rw [List.length_map, List.length_map] at lgl
        have e34 := same_trans e3 e4
        refine ⟨F, D, refs kf, refs got, rfl, rfl, e34 _ _ hF, hD4, by rw [List.length_map, List.length_map, sizeLine_eq]; omega, fun c hc => ?_⟩
        have e5 : Same H4 (upd H4 c (.lst (refs kf ++ refs got))) := same_new hc
        have hc5 : upd H4 c (.lst (refs kf ++ refs got)) c = some (.lst (refs (kf ++ got))) := by rw [upd_same, refs, refs, refs, List.map_append]
        generalize upd H4 c (.lst (refs kf ++ refs got)) = H5 at e5 hc5 ⊢
        have e25 := same_trans e34 e5
        have hall : RL H5 (kf ++ got) := fun p hp => (List.mem_append.mp hp).elim (fun z => e25 _ _ (hkf p z)) fun z => e5 _ _ (hgot p z)
        have rga : RG xs n (kf ++ got) := fun p hp => (List.mem_append.mp hp).elim (rgf p) (rgg p)
        dsimp only [tNil]
        refine set_to (R := (kf ++ got).map (·.2)) (D := pw xs n) (n := n) hc5 hall.rows (fun r hr => (rows_of rga r hr).1) n1 d27 (fun r hr => inD r (rows_of rga r hr)) fun S0 HS0 sr => ?_
        refine sort_to sr fun M km H6 nM e6 hM hkm memm ascm => ?_
        have e26 := same_trans e25 e6
        have e06 := same_trans e2 e26
        have rgm : RG xs n km := kz_of fun r hr => rows_of rga r ((memm r).mp hr)
        have hF6 := e26 _ _ hF
        have hkf6 := hkf.up e26
        have nMH : H M = none := (same_trans (same_trans e2 e34) e5).free nM
        have mm : ∀ r, r ∈ km.map (·.2) ↔ r ∈ kf.map (·.2) ∨ ∃ t : List (List Str), t.length = k ∧ (∀ q ∈ t, q ∈ kf.map (·.2)) ∧ r = voteS xs k rs n t := fun r => by
          rw [memm r, List.map_append, List.mem_append, lg, vote_mem]
        have grm : GrowS xs k rs n (kz.map (·.2)) (km.map (·.2)) := ⟨ascm, fun r hr => (mm r).mpr (.inl (gr.low r hr)), fun S hS h r hr => by
          rcases (mm r).mp hr with z | ⟨t, lt, sub, rfl⟩
          · exact gr.min S hS h r z
          · exact hS t lt fun r hr => gr.min S hS h r (sub r hr)⟩
        have sub1 : ∀ r ∈ kf.map (·.2), r ∈ km.map (·.2) := fun r hr => (mm r).mpr (.inl hr)
        -- more == found or len(more) > 24 - 4 * many
        refine ⟨_, rfl, _, rfl, rowsL (km.map (·.2)), rowsL (kf.map (·.2)), .lst (SqL.of hM) (rows_dp hkm.rows), .lst (SqL.of hF6) (rows_dp hkf6.rows), rowsL_shaped (ok3 (rows_of rgm)), rowsL_shaped (ok3 (rows_of rgf)), _, rfl, ite2 (fun c2 => ?_) fun c2 => ?_⟩
        · rw [eqv_rowsL] at c2
          have em := of_decide_eq_true c2
          refine iteT ⟨_, rfl, q M km H6 nMH e06 hM hkm rgm ⟨grm, fun _ t lt sub => ?_⟩⟩
          exact (mm _).mpr (.inr ⟨t, lt, fun r hr => by rw [← em]; exact sub r hr, rfl⟩)
        rw [eqv_rowsL] at c2
        have em : km.map (·.2) ≠ kf.map (·.2) := fun z => c2 (decide_eq_true z)
        have grow : kf.length + 1 ≤ km.length := by
          have z := nodup_len (kf.map (·.2)) (km.map (·.2)) (asc_nodup gr.asc) sub1
          rw [List.length_map, List.length_map] at z
          rcases Nat.lt_or_ge kf.length km.length with h | h
          · exact h
          · exact absurd (asc_same_len gr.asc ascm sub1 (by rw [List.length_map, List.length_map]; exact h)).symm em
        refine ⟨_, rfl, .ref M, km.length, rfl, .inl ⟨_, SqL.of hM, by rw [List.length_map]⟩, _, rfl, _, _, rfl, rfl, .inl ⟨by decide, by decide⟩, _, _, rfl, rfl, _, _, rfl, rfl, _, rfl, ite2 (fun c => ?_) fun c => ?_⟩
        · have c : (24 : Int) - 4 * (k : Nat) < (km.length : Nat) := of_decide_eq_true c
          refine ⟨_, rfl, q M km H6 nMH e06 hM hkm rgm ⟨grm, fun z => absurd z (by rw [List.length_map]; omega)⟩⟩
        · have lkm : km.length ≤ 24 - 4 * k := Classical.byContradiction fun z => c (decide_eq_true (show (24 : Int) - 4 * (k : Nat) < (km.length : Nat) by omega))
          exact ⟨_, rfl, M, km, _, _, rfl, nMH, e06, hM, hkm, rgm, lkm, grm, by omega⟩
    · rintro σ H2 ⟨F, kf, v4, v5, rfl, nF, e2, hF, hkf, rgf, lkf, gr, il⟩
      have z := asc_few G.l3 n3 gr.asc (rows_of rgf)
      rw [List.length_map] at z
      omega
end
end K01
/-! _law_pick of a tuple; what can be shown; slices and sums of tuples that stand on the heap. -/
namespace K01
open PySem PySem.Spec PyProof.Rows L2 KG KS KA KX KLm KIa LamX
def spPickT : Sp := fun vs H Q _ => ∃ (d l a : Addr) (xs : List V) (k : Nat), vs = [.ref d, .ref a] ∧ DeckAt H d l k ∧ H a = some (.tup xs) ∧ 0 < xs.length ∧ xs.length < 1000000 ∧ k < 1000000000 ∧
  ∀ (v : V) (H' : Hp), v ∈ xs → DeckAt H' d l (k + 1) → Off d l H H' → Q v H'
theorem tup_off {H H' : Hp} {d l p : Addr} {k : Nat} {xs : List V} (h : H p = some (.tup xs)) (D : DeckAt H d l k) (o : Off d l H H') : H' p = some (.tup xs) := by
  obtain ⟨cs, m, n, hd, hl, _⟩ := D.ex
  exact o _ _ h (ne_of h hd (by intro z; cases z)) (ne_of h hl (by intro z; cases z))
section
variable {P : Program} {w : World} {K : PySem.W.Frag} {mg : Str → Option Value} {base : Heap}
theorem ok__law_pickT (B : Bi mg) (f : FnF K mg "_law_pick" "_law_pick" s__law_pick) (fd : FnF K mg "_law_draw" "_law_draw" s__law_draw) : FnOk P w K mg base CX0 2 f.a f.d ["_law_deck_here", "_law_options"] spPickT := by
  have G := ok__law_draw (P := P) (w := w) (base := base) B fd
  have bd : L2.Binds K fd.d ["_law_deck_here", "_law_many"] [] := fd.F.binds fun _ _ _ _ _ _ us hl => match us, hl with | [_, _], _ => rfl
  refine f.F.ok sc__law_pick (fun vs H Q E h => ?_) (fun cdv A outer s H vs Q E hr h => ?_)
  · obtain ⟨d, l, a, xs, k, rfl, _⟩ := h
    rfl
  · obtain ⟨d, l, a, xs, k, rfl, D, ha, h0, h1, hk, q⟩ := h
    refine ⟨_, (pss_one
      (ps_ret (pe_ix (show IxR _ (rIxT K) from ix_tup) (pv 1) (pe_call G hr rfl fd.g fd.F.kp bd .nil pass0 (pa_cons (pv 0) (pa_cons (pe_callB call_len (by rfl) B.n_len (by decide +kernel) (pa_cons (pv 1) pa_nil)) pa_nil))) (fun _ _ => rfl)))), ?_⟩
    refine ⟨_, rfl, _, rfl, _, rfl, .ref a, xs.length, rfl, Or.inr ⟨xs, SqT.of ha, rfl⟩, d, l, (xs.length : Int), k, rfl, D, by omega, by omega, hk, fun i H' i0 i1 D' o' => ?_⟩
    have hi : i.toNat < xs.length := by omega
    have hx : xs[i.toNat]? = some xs[i.toNat] := List.getElem?_eq_getElem hi
    exact ⟨a, xs, i, xs[i.toNat], rfl, rfl, SqT.of (tup_off ha D o'), at_of (j := i.toNat) (by omega) hx, q _ H' (List.getElem_mem hi) D' o'⟩
end
/-! ### what can be shown -/
structure Shw (H : Hp) (v : V) (D : PyData) (n c : Nat) : Prop where
  dq : Dq (fun _ => True) H v D
  sh : D.showable = true
  dp : D.depth ≤ n
  ct : cost D ≤ c
structure Shws (H : Hp) (xs : List V) (ds : List PyData) (n c : Nat) : Prop where
  dq : DqAll (fun _ => True) H xs ds
  sh : PyData.showableAll ds = true
  dp : PyData.depthAll ds ≤ n
  ct : costAll ds ≤ c
theorem Shw.up {H H' : Hp} {v : V} {D : PyData} {n c n2 c2 : Nat} (h : Shw H v D n c) (e : Same H H') (h1 : n ≤ n2) (h2 : c ≤ c2) : Shw H' v D n2 c2 := ⟨h.dq.same e, h.sh, Nat.le_trans h.dp h1, Nat.le_trans h.ct h2⟩
theorem Shws.up {H H' : Hp} {v : List V} {D : List PyData} {n c n2 c2 : Nat} (h : Shws H v D n c) (e : Same H H') (h1 : n ≤ n2) (h2 : c ≤ c2) : Shws H' v D n2 c2 := ⟨h.dq.same e, h.sh, Nat.le_trans h.dp h1, Nat.le_trans h.ct h2⟩
theorem Shws.nil {H : Hp} {n c : Nat} : Shws H [] [] n c := ⟨.nil, by simp only [PyData.showableAll], by simp only [PyData.depthAll]; omega, by simp only [costAll]; omega⟩
theorem Shws.cons {H : Hp} {v : V} {xs : List V} {D : PyData} {ds : List PyData} {n c c2 : Nat} (h : Shw H v D n c) (t : Shws H xs ds n c2) : Shws H (v :: xs) (D :: ds) n (c + 2 + c2) :=
  ⟨.cons h.dq t.dq, by simp only [PyData.showableAll]; rw [h.sh, t.sh]; rfl, by simp only [PyData.depthAll]; exact Nat.max_le.mpr ⟨h.dp, t.dp⟩, by simp only [costAll]; have := h.ct; have := t.ct; omega⟩
theorem Shws.app {H : Hp} {n c2 : Nat} {ys : List V} {es : List PyData} (t : Shws H ys es n c2) : ∀ {xs : List V} {ds : List PyData} {c : Nat}, Shws H xs ds n c → Shws H (xs ++ ys) (ds ++ es) n (c + c2) := by
  intro xs
  induction xs with
  | nil =>
    intro ds c h
    cases h.dq
    exact t.up (fun _ _ e => e) (Nat.le_refl _) (by omega)
  | cons x xs ih =>
    intro ds c h
    obtain ⟨dq, sh, dp, ct⟩ := h
    cases dq with
    | @cons _ _ D ds h1 h2 =>
      simp only [PyData.showableAll, Bool.and_eq_true] at sh
      simp only [PyData.depthAll] at dp
      simp only [costAll] at ct
      have z := Shws.cons ⟨h1, sh.1, Nat.le_trans (Nat.le_max_left _ _) dp, Nat.le_refl _⟩ (ih (ds := ds) (c := costAll ds) ⟨h2, sh.2, Nat.le_trans (Nat.le_max_right _ _) dp, Nat.le_refl _⟩)
      exact z.up (fun _ _ e => e) (Nat.le_refl _) (by omega)
theorem Shws.tup {H : Hp} {a : Addr} {xs : List V} {ds : List PyData} {n c : Nat} (h : H a = some (.tup xs)) (t : Shws H xs ds n c) : Shw H (.ref a) (.tuple ds) (n + 1) (c + 6) :=
  ⟨.tup trivial h t.dq, by simp only [PyData.showable]; exact t.sh, by simp only [PyData.depth]; have := t.dp; omega, by simp only [cost]; have := t.ct; omega⟩
theorem Shws.lst {H : Hp} {a : Addr} {xs : List V} {ds : List PyData} {n c : Nat} (h : H a = some (.lst xs)) (t : Shws H xs ds n c) : Shw H (.ref a) (.list ds) (n + 1) (c + 4) :=
  ⟨.lst trivial h t.dq, by simp only [PyData.showable]; exact t.sh, by simp only [PyData.depth]; have := t.dp; omega, by simp only [cost]; have := t.ct; omega⟩
theorem shw_non {H : Hp} : Shw H .non .none 0 130 := ⟨.non, by simp only [PyData.showable], by simp only [PyData.depth]; omega, by simp only [cost]; omega⟩
theorem shw_bl {H : Hp} (b : Bool) : Shw H (.bl b) (.bool b) 0 130 := ⟨.bl b, by simp only [PyData.showable], by simp only [PyData.depth]; omega, by simp only [cost]; omega⟩
theorem shw_int {H : Hp} {i : Int} (h : i.natAbs.log2 ≤ 127) : Shw H (.int i) (.int i) 0 130 := ⟨.int i, by simp only [PyData.showable, decide_eq_true_eq]; omega, by simp only [PyData.depth]; omega, by simp only [cost]; omega⟩
theorem shw_int2 {H : Hp} {i : Int} (h : i.natAbs.log2 ≤ 200) : Shw H (.int i) (.int i) 0 210 := ⟨.int i, by simp only [PyData.showable, decide_eq_true_eq]; omega, by simp only [PyData.depth]; omega, by simp only [cost]; omega⟩
def TxOk (x : Str) : Prop := x.length ≤ 12 ∧ ∀ c ∈ x.cps.toList, c < 16 ^ 8
theorem shw_tx {H : Hp} {x : Str} (h : TxOk x) : Shw H (.str x) (.str x) 0 130 := ⟨.str x, by simp only [PyData.showable], by simp only [PyData.depth]; omega, by simp only [cost]; have := PySem.StrLaws.reprText_len x h.2; have := h.1; omega⟩
theorem tx_name {x : Str} (h : nameOk x = true) : TxOk x := by
  unfold nameOk at h
  rw [Bool.and_eq_true, Bool.and_eq_true, decide_eq_true_eq] at h
  obtain ⟨h8, h1, _⟩ := h
  refine ⟨by omega, fun c hc => ?_⟩
  unfold Txt.isascii at h1
  rw [Array.all_eq_true] at h1
  obtain ⟨i, hi, rfl⟩ := List.mem_iff_getElem.mp hc
  have := of_decide_eq_true (h1 i (by simpa using hi))
  have e : x.cps.toList[i] = x.cps[i]'(by simpa using hi) := by simp
  rw [e]
  exact Nat.lt_trans this (by decide)
theorem tx_app {x y : Str} (h : nameOk x = true) (hy : y.length ≤ 4) (k : ∀ c ∈ y.cps.toList, c < 16 ^ 8) : TxOk (x ++ y) := by
  have hl : x.length ≤ 8 := by
    unfold nameOk at h
    rw [Bool.and_eq_true, decide_eq_true_eq] at h
    exact h.1
  have hx := tx_name h
  refine ⟨by rw [strLen_append]; omega, fun c hc => ?_⟩
  have e : (x ++ y).cps.toList = x.cps.toList ++ y.cps.toList := by
    show (x.cps ++ y.cps).toList = _
    simp
  rw [e] at hc
  rcases List.mem_append.mp hc with z | z
  · exact hx.2 c z
  · exact k c z
theorem shws_txs {H : Hp} : ∀ {g : List Str}, (∀ x ∈ g, TxOk x) → Shws H (g.map V.str) (g.map PyData.str) 0 (g.length * 132)
  | [], _ => Shws.nil
  | x :: g, h => by
    have z := Shws.cons (shw_tx (H := H) (h x List.mem_cons_self)) (shws_txs (H := H) (g := g) fun y hy => h y (List.mem_cons_of_mem _ hy))
    exact z.up (fun _ _ e => e) (Nat.le_refl _) (by rw [List.length_cons, Nat.succ_mul]; omega)
/-! ### tuples that stand on the heap -/
theorem slH_to {K : PySem.W.Frag} {H : Hp} {r : Addr} {rs : List V} {lo hi : Option Int} {Q : VK} (h : H r = some (.tup rs)) (q : ∀ (b : Addr) (H' : Hp), Same H H' → H' b = some (.tup (cutV rs lo hi)) → Q (.ref b) H') : rSlA K (.ref r) lo hi H Q := by
  refine ⟨r, rs, rfl, SqT.of h, fun ⟨z1, z2⟩ => q r H (fun _ _ e => e) ?_, fun _ p hp => q p _ (same_new hp) upd_same⟩
  have e : cutV rs lo hi = rs := by
    unfold cutV
    rw [z1, z2, List.drop_zero, Nat.sub_zero, List.take_length]
  rw [e]
  exact h
theorem catH_to {K : PySem.W.Frag} {H : Hp} {a b : Addr} {xs ys : List V} {Q : VK} (ha : H a = some (.tup xs)) (hb : H b = some (.tup ys)) (hl : xs.length + ys.length ≤ 1000) (q : ∀ (c : Addr) (H' : Hp), Same H H' → H' c = some (.tup (xs ++ ys)) → Q (.ref c) H') : rCatA K (.ref a) (.ref b) H Q := by
  refine ⟨a, b, xs, ys, rfl, rfl, SqT.of ha, SqT.of hb, by rw [sizeLine_eq]; omega, fun z => ?_, fun _ z => ?_, fun _ _ p hp => q p _ (same_new hp) upd_same⟩
  · refine q b H (fun _ _ e => e) ?_
    rw [z]
    exact hb
  · refine q a H (fun _ _ e => e) ?_
    rw [z, List.append_nil]
    exact ha
theorem cut_texts {g : List Str} {lo hi : Option Int} : ∃ g' : List Str, cutV (g.map V.str) lo hi = g'.map V.str ∧ (∀ x ∈ g', x ∈ g) ∧ g'.length ≤ g.length := by
  unfold cutV
  refine ⟨(g.drop (HT.sIx (g.map V.str).length 0 lo)).take (HT.sIx (g.map V.str).length (g.map V.str).length hi - HT.sIx (g.map V.str).length 0 lo), by rw [List.map_take, List.map_drop], fun x hx => List.mem_of_mem_drop (List.mem_of_mem_take hx), ?_⟩
  rw [List.length_take, List.length_drop]
  omega
/-- keys that are texts, each with True -/
def BoolsOf (g : List Str) (kvs : List (Key × V)) : Prop := ∀ p ∈ kvs, ∃ x ∈ g, p = (.inr x, .bl true)
theorem bools_put {g : List Str} {kvs : List (Key × V)} {x : Str} (h : BoolsOf g kvs) (hx : x ∈ g) : BoolsOf g (putK kvs (.inr x) (.bl true)) ∧ (putK kvs (.inr x) (.bl true)).length ≤ kvs.length + 1 := by
  unfold putK
  split
  · refine ⟨fun p hp => ?_, by rw [List.length_map]; omega⟩
    obtain ⟨q, hq, rfl⟩ := List.mem_map.mp hp
    obtain ⟨y, hy, rfl⟩ := h q hq
    refine ⟨y, hy, ?_⟩
    split <;> rfl
  · refine ⟨fun p hp => ?_, by rw [List.length_append]; exact Nat.le_refl _⟩
    rcases List.mem_append.mp hp with hp | hp
    · exact h p hp
    · exact ⟨x, hx, List.mem_singleton.mp hp⟩
theorem bools_merge {g : List Str} : ∀ (r : List Str) (kvs : List (Key × V)), (∀ x ∈ r, x ∈ g) → BoolsOf g kvs → BoolsOf g (mergeK kvs (r.map fun x => (Sum.inr x, V.bl true))) ∧ (mergeK kvs (r.map fun x => (Sum.inr x, V.bl true))).length ≤ kvs.length + r.length
  | [], kvs, _, h => ⟨h, Nat.le_refl _⟩
  | x :: r, kvs, hr, h => by
    obtain ⟨h1, h2⟩ := bools_put h (hr x List.mem_cons_self)
    obtain ⟨h3, h4⟩ := bools_merge r _ (fun y hy => hr y (List.mem_cons_of_mem _ hy)) h1
    refine ⟨h3, ?_⟩
    have e : mergeK kvs ((x :: r).map fun x => (Sum.inr x, V.bl true)) = mergeK (putK kvs (.inr x) (.bl true)) (r.map fun x => (Sum.inr x, V.bl true)) := rfl
    rw [e, List.length_cons]
    omega
theorem shw_dict {H : Hp} {a : Addr} {g : List Str} (hg : ∀ x ∈ g, TxOk x) {kvs : List (Key × V)} (h : H a = some (.dK kvs)) (b : BoolsOf g kvs) : ∃ D, Shw H (.ref a) D 1 (kvs.length * 264 + 4) := by
  have key : ∀ {kvs : List (Key × V)}, BoolsOf g kvs → ∃ ps : List (PyData × PyData), DqAll (fun _ => True) H (kvs.map fun p => kV p.1) (ps.map (·.1)) ∧ DqAll (fun _ => True) H (kvs.map fun p => p.2) (ps.map (·.2)) ∧ PyData.showableKv ps = true ∧ PyData.depthKv ps ≤ 0 ∧ costKv ps ≤ kvs.length * 264 := by
    intro kvs
    induction kvs with
    | nil => exact fun _ => ⟨[], .nil, .nil, by simp only [PyData.showableKv], by simp only [PyData.depthKv]; omega, by simp only [costKv]; omega⟩
    | cons p kvs ih =>
      intro b
      obtain ⟨ps, h1, h2, h3, h4, h5⟩ := ih fun q hq => b q (List.mem_cons_of_mem _ hq)
      obtain ⟨x, hx, rfl⟩ := b p List.mem_cons_self
      have s1 := shw_tx (H := H) (hg x hx)
      have s2 := shw_bl (H := H) true
      refine ⟨(.str x, .bool true) :: ps, .cons s1.dq h1, .cons s2.dq h2, ?_, ?_, ?_⟩
      · simp only [PyData.showableKv]
        rw [h3]
        simp [PyData.showable]
      · simp only [PyData.depthKv, PyData.depth]
        omega
      · simp only [costKv]
        have := s1.ct
        have := s2.ct
        rw [List.length_cons, Nat.succ_mul]
        omega
  obtain ⟨ps, h1, h2, h3, h4, h5⟩ := key b
  refine ⟨.dict ps, .dct trivial h h1 h2, by simp only [PyData.showable]; exact h3, by simp only [PyData.depth]; omega, by simp only [cost]; omega⟩
end K01
/-! t == (), l != []; of which type an item is. -/
namespace K01
open PySem PySem.Spec PyProof.Rows L2 KG KS KA KX KIa
/-- t == (), t a tuple of any items -/
def rEqT0 (K : PySem.W.Frag) : R2 := fun x y H Q => ∃ a b xs, x = .ref a ∧ y = .ref b ∧ SqT K H a xs ∧ SqT K H b [] ∧ Q (.bl xs.isEmpty) H
/-- l != [], l a list of any items -/
def rNeL0 (K : PySem.W.Frag) : R2 := fun x y H Q => ∃ a b xs, x = .ref a ∧ y = .ref b ∧ SqL K H a xs ∧ SqL K H b [] ∧ Q (.bl (!xs.isEmpty)) H
section
variable {X : Cx}
theorem op_eqT0 (hu : X.A.units + 64 < cLine) : OpR X (compareOp .Eq) (rEqT0 X.K) := by
  intro pins s σ H x y v u Q I rx ry h
  obtain ⟨a, b, xs, rfl, rfl, ha, hb, q⟩ := h
  cases (show v = Value.ref a from rx)
  cases (show u = Value.ref b from ry)
  obtain ⟨its, rv, pl, _⟩ := I.tuple ha
  obtain ⟨its2, rv2, pl2, _⟩ := I.tuple hb
  cases rv2
  refine SeqAt.eq_tupleAt (e := fun _ => true) pl pl2 (by omega) (fun j _ h2 => absurd h2 (by simp)) ⟨.bl _, H, I, rfl, ?_⟩
  cases rv with
  | nil => exact q
  | cons r1 r2 =>
    rw [show (List.all (List.range (min (_ :: _ : List Value).toArray.size ([] : List Value).toArray.size)) (fun _ => true) && (_ :: _ : List Value).toArray.size == ([] : List Value).toArray.size) = false by simp]
    exact q
theorem op_neL0 (hu : X.A.units + 64 < cLine) : OpR X (compareOp .NotEq) (rNeL0 X.K) := by
  intro pins s σ H x y v u Q I rx ry h
  obtain ⟨a, b, xs, rfl, rfl, ha, hb, q⟩ := h
  cases (show v = Value.ref a from rx)
  cases (show u = Value.ref b from ry)
  obtain ⟨its, rv, pl, _⟩ := I.list ha
  obtain ⟨its2, rv2, pl2, _⟩ := I.list hb
  cases rv2
  cases rv with
  | nil => exact SeqAt.RcNeAt.lists (e := fun _ => true) pl.isList pl2.isList rfl (by omega) (fun j _ h2 => absurd h2 (by simp)) _ _ _ _ ⟨.bl false, H, I, rfl, q⟩
  | cons r1 r2 => exact SeqAt.RcNeAt.lists_lengths pl.isList pl2.isList (by simp) (by omega) _ _ _ _ ⟨.bl true, H, I, rfl, q⟩
end
theorem tyL {K : PySem.W.Frag} {H : Hp} {a : Addr} {xs : List V} (h : SqL K H a xs) : TyX K H (.ref a) (.type "list") := by
  rcases h with (h | ⟨o, h⟩) | ⟨o, its, h1, h2⟩
  · exact .base (.lst h)
  · exact .base (.frz h)
  · obtain ⟨h2, h3, _⟩ := h2
    exact .kList h2 h3
/-- of which type an item is -/
theorem it_ty {K : PySem.W.Frag} {H : Hp} {v : V} {o : Option Str} (h : ItK K H v o) : ∃ t b, TyX K H v t ∧ PySem.W.kitOne K t (.type "str") = some b ∧ b = o.isSome := by
  cases h with
  | str x => exact ⟨_, true, .base (.str x), kit_ty (by decide +kernel), rfl⟩
  | int n => exact ⟨_, false, .base (.int n), kit_ty (by decide +kernel), rfl⟩
  | bl b => exact ⟨_, false, .base (.bl b), kit_ty (by decide +kernel), rfl⟩
  | non => exact ⟨_, false, .base .non, kit_ty (by decide +kernel), rfl⟩
  | lst h => exact ⟨_, false, tyL h, kit_ty (by decide +kernel), rfl⟩
  | tup h => exact ⟨_, false, tyT h, kit_ty (by decide +kernel), rfl⟩
  | dct h => exact ⟨_, false, .base (.dK h), kit_ty (by decide +kernel), rfl⟩
end K01
/-! _law_drawn. -/
namespace K01
open PySem PySem.Spec PyProof.Rows L2 KG KS KA KX KIa KFz KTc
abbrev s__law_drawn : Stmt := top 35
abbrev NDn : List Str := ["_law_deck_here", "_law_base", "_law_many", "_law_found", "_law_way", "_law_some", "_law_near", "_law_drawn_here", "_law_free", "_law_value"]
def spDn : Sp := fun vs H Q _ => ∃ (dk l b : Addr) (xs : List Str) (k kk : Nat), vs = [.ref dk, .ref b, .int (k : Nat)] ∧ DeckAt H dk l kk ∧ kk + 400 < 1000000000 ∧ H b = some (.tup (xs.map V.str)) ∧ AscT xs ∧ (∀ x ∈ xs, nameOk x = true) ∧ 1 ≤ xs.length ∧ xs.length ≤ 3 ∧ (k = 3 ∨ k = 4) ∧
  ∀ (t : Addr) (rs : List Str) (H' : Hp), H t = none → DeckAt H' dk l (kk + 300) → Off dk l H H' → TblV H' t xs k rs → VGood xs k rs → Q (.ref t) H'
/-- the values that all, or all but one, are -/
def nearS (k : Nat) (g xs : List Str) : List Str := xs.filter fun v => decide ((k : Int) - 1 ≤ (g.count v : Nat))
theorem count_two {g : List Str} {u v : Str} (n : u ≠ v) : g.count u + g.count v ≤ g.length := by
  induction g with
  | nil => simp
  | cons x g ih =>
    rw [List.count_cons, List.count_cons, List.length_cons]
    by_cases e : x = u
    · have : ¬ x = v := fun z => n (e.symm.trans z)
      rw [if_pos (by rw [e]; exact beq_self_eq_true u), if_neg (by rw [beq_eq_false_iff_ne.mpr this]; exact Bool.false_ne_true)]
      omega
    · rw [if_neg (by rw [beq_eq_false_iff_ne.mpr e]; exact Bool.false_ne_true)]
      split <;> omega
theorem near_win {xs g : List Str} {k : Nat} (hk : k = 3 ∨ k = 4) (l : g.length = k) (sub : ∀ y ∈ g, y ∈ xs) : (nearS k g xs = [] → winS g = none) ∧ ∀ u r, nearS k g xs = u :: r → winS g = none ∨ winS g = some u := by
  have two : ∀ {v : Str}, winS g = some v → v ∈ g ∧ k ≤ g.count v + 1 := fun {v} h => by
    unfold winS at h
    have z : decide (g.length ≤ g.count v + 1) = true := List.find?_some (p := fun v => decide (g.length ≤ g.count v + 1)) h
    have z2 := of_decide_eq_true z
    exact ⟨List.mem_of_find?_eq_some h, by omega⟩
  refine ⟨fun h => ?_, fun u r h => ?_⟩
  · cases e : winS g with
    | none => rfl
    | some v =>
      obtain ⟨h1, h2⟩ := two e
      have m : v ∈ nearS k g xs := List.mem_filter.mpr ⟨sub v h1, decide_eq_true (by omega)⟩
      rw [h] at m
      cases m
  · cases e : winS g with
    | none => exact .inl rfl
    | some v =>
      refine .inr (congrArg some ?_)
      obtain ⟨h1, h2⟩ := two e
      have m : u ∈ nearS k g xs := by rw [h]; exact List.mem_cons_self
      have c := of_decide_eq_true (List.mem_filter.mp m).2
      refine Classical.byContradiction fun n => ?_
      have z := count_two (g := g) n
      omega
theorem look_out {S : List (List Str)} {L : List Str} (h : L ∉ S) (vs : List Str) : lookS S vs L = none := by
  unfold lookS
  rw [Option.map_eq_none_iff, List.find?_eq_none]
  intro p hp z
  have m := (List.of_mem_zip (a := p.1) (b := p.2) hp).1
  rw [of_decide_eq_true z] at m
  exact h m
theorem fzOff {H H' : Hp} {d l a : Addr} {k : Nat} {xs : List V} (h : Fz H a xs) (D : DeckAt H d l k) (o : Off d l H H') : Fz H' a xs := by
  obtain ⟨ob, h1, h2⟩ := h
  obtain ⟨cs, m, n, hd, hl, _⟩ := D.ex
  exact ⟨ob, o _ _ h1 (ne_of h1 hd (by intro z; cases z)) (ne_of h1 hl (by intro z; cases z)), h2⟩
theorem lst_offD {H H' : Hp} {d l p : Addr} {k : Nat} {xs : List V} (h : H p = some (.lst xs)) (n : p ≠ l) (D : DeckAt H d l k) (o : Off d l H H') : H' p = some (.lst xs) := by
  obtain ⟨cs, mm, nn, hd, hl, _⟩ := D.ex
  exact o p _ h (ne_of h hd (by intro z; cases z)) n
/-- rows and their addresses, known to be just tuples -/
theorem rowsW_txt {H0 H : Hp} {xs : List Str} {k : Nat} {vs : List V} (h : RowsW true H0 H vs (pw (xs.map V.str) k)) : ∃ ks : List (Addr × List Str), vs = ks.map (fun p => V.ref p.1) ∧ ks.map (·.2) = ptsL k xs ∧ ∀ p ∈ ks, H0 p.1 = none ∧ Fz H p.1 (p.2.map V.str) := by
  rw [pw_map V.str xs k, pw_pts] at h
  have key : ∀ {vs : List V} {R : List (List Str)}, RowsW true H0 H vs (R.map (List.map V.str)) → ∃ ks : List (Addr × List Str), vs = ks.map (fun p => V.ref p.1) ∧ ks.map (·.2) = R ∧ ∀ p ∈ ks, H0 p.1 = none ∧ Fz H p.1 (p.2.map V.str) := by
    intro vs R
    induction R generalizing vs with
    | nil =>
      intro h
      cases h
      exact ⟨[], rfl, rfl, fun _ z => nomatch z⟩
    | cons r R ih =>
      intro h
      rw [List.map_cons] at h
      cases h with
      | cons e t =>
        obtain ⟨a, e1, e0, e2⟩ := e
        obtain ⟨ks, h1, h2, h3⟩ := ih t
        refine ⟨(a, r) :: ks, by rw [List.map_cons, e1, h1], by rw [List.map_cons, h2], fun p hp => ?_⟩
        rcases List.mem_cons.mp hp with rfl | hp
        · exact ⟨e0, e2⟩
        · exact h3 p hp
  exact key h
section
variable {P : Program} {w : World} {K : PySem.W.Frag} {mg : Str → Option Value} {base : Heap}
theorem sc__law_drawn : FnScope NDn ["_law_deck_here", "_law_base", "_law_many"] (defScope s__law_drawn) := ⟨rfl, rfl, rfl, by decide +kernel, rfl, by decide +kernel, by decide +kernel⟩
theorem ok__law_drawn (B : Bs mg) (f : FnF K mg "_law_drawn" "_law_drawn" s__law_drawn) (fp : FnF K mg "_law_tuples" "_law_tuples" s__law_tuples) (fk : FnF K mg "_law_pick" "_law_pick" s__law_pick) (fd : FnF K mg "_law_draw" "_law_draw" s__law_draw) :
    FnOk P w K mg base CX0 3 f.a f.d ["_law_deck_here", "_law_base", "_law_many"] spDn := by
  have GP := ok__law_tuples (P := P) (w := w) (base := base) true B fp
  have bP : L2.Binds K fp.d ["_law_items", "_law_many"] [] := fp.F.binds fun _ _ _ _ _ _ us hl => match us, hl with | [_, _], _ => rfl
  have GT := ok__law_pickT (P := P) (w := w) (base := base) B.toBi fk fd
  have bT : L2.Binds K fk.d ["_law_deck_here", "_law_options"] [] := fk.F.binds fun _ _ _ _ _ _ us hl => match us, hl with | [_, _], _ => rfl
  have GD := ok__law_draw (P := P) (w := w) (base := base) B.toBi fd
  have bD : L2.Binds K fd.d ["_law_deck_here", "_law_many"] [] := fd.F.binds fun _ _ _ _ _ _ us hl => match us, hl with | [_, _], _ => rfl
  refine f.F.ok sc__law_drawn (fun vs H Q E h => ?_) (fun cdv A outer s H vs Q E hr h => ?_)
  · obtain ⟨dk, l, b, xs, k, kk, rfl, _⟩ := h
    rfl
  · obtain ⟨dk, l, b, xs, k, kk, rfl, D0, hkk, hb, asc, ok, l1, l3, hk, q⟩ := h
    have hu64 := hr.units
    have hu := hu_of hr
    have hr1 : Room 1 _ := hr.mono (by omega)
    refine ⟨_, (pss_cons
      (ps_par (i := 3) (j := 4) (by rfl) sc__law_drawn.nd rfl rfl (by decide) rfl rfl (pa_cons pe_dnewT (pa_cons (pe_call GD hr1 rfl fd.g fd.F.kp bD .nil pass0 (pa_cons (pv 0) (pa_cons pe_int pa_nil))) pa_nil)) (by rfl))
    (pss_cons
      (ps_for PassesOwn.never rfl (pi_list (pe_call GP hr1 rfl fp.g fp.F.kp bP .nil pass0 (pa_cons (pv 1) (pa_cons (pv 2) pa_nil)))) (pg_name (i := 5) sc__law_drawn.nd rfl (Or.inr rfl))
        (pss_cons
          (ps_setLc (i := 6) (own := [("_law_value", 9)]) (g := gName 9) (by rfl) sc__law_drawn.nd rfl rfl (sw_true rfl rfl rfl (by decide +kernel)) (pi_tup (pv 1)) (blkOk_by (own := [("_law_value", 9)]) (N := NDn) (sc := defScope s__law_drawn) (by decide +kernel)) (fun _ _ _ _ _ => (pg_name (i := 9) sc__law_drawn.nd rfl (Or.inl rfl)))
            (fun _ _ _ _ _ => (pts_one (pt_cmpR op_ge (pe_bmF PySem.F.plainAttrs_tuple PySem.F.slot_tuple_count PySem.F.type_tuple_count (show MtR _ "tuple.count" (rCntT K) from mt_tcount hu64) (pv 5) (pa_cons (pv 9) pa_nil)) (pe_op op_sub (pv 2) pe_int) (nomark _)))) (fun _ _ _ _ _ => (pv 9)))
        (pss_cons
          (ps_set (i := 7) sc__law_drawn.nd rfl (Or.inl rfl) (pe_call GT hr rfl fk.g fk.F.kp bT .nil pass0 (pa_cons (pv 0) (pa_cons (pv 1) pa_nil))))
        (pss_cons
          (ps_set (i := 8) sc__law_drawn.nd rfl (Or.inl rfl) (pe_ix ix_list (pe_lst (pa_cons (pv 7) (pa_cons (pv 7) (pa_cons (pv 7) (pa_cons (pe_ix ix_tup (pv 5) pe_int (fun _ _ => rfl)) (pa_cons (pe_ix ix_list (pe_callB (cr_sortTx hu64) (by rfl) B.n_sorted (by decide +kernel) (pa_cons (pv 5) pa_nil)) pe_int (fun _ _ => rfl)) pa_nil)))))) (pv 4) (fun _ _ => rfl)))
        (pss_one
          (ps_thaw (ps_dput hu (pv 3) (pv 5) (pe_ifExp (pt_cmpR (op_neL0 hu64) (pv 6) (pe_lst pa_nil) (nomark _)) (pe_ix ix_list (pv 6) pe_int (fun _ _ => rfl)) (pv 8)) rfl)))))))
    (pss_one
      (ps_ret (pv 3))))), ?_⟩
    refine fun t ht => ?_
    have e0 : Same H (upd H t (.dT [])) := same_new ht
    have ht0 : upd H t (.dT []) t = some (.dT []) := upd_same
    generalize upd H t (.dT []) = H1 at e0 ht0 ⊢
    -- way
    have ltt : t ≠ l ∧ t ≠ dk := by
      obtain ⟨cs, m, n, hd, hl, _⟩ := D0.ex
      exact ⟨(ne_of_none hl ht).symm, (ne_of_none hd ht).symm⟩
    refine ⟨_, rfl, dk, l, 5, kk, rfl, D0.same e0, by decide, by decide, by omega, fun way H1' w0 w4 D1 o1 => ?_⟩
    have o01 := (Off.of e0).trans o1
    have ht1 := o1 t _ ht0 ltt.2 ltt.1
    have hb1 := tup_off hb D0 o01
    -- tuples(base, many)
    refine ⟨_, _, rfl, _, rfl, _, rfl, b, true, xs.map V.str, k, rfl, SqT.of hb1, (fun _ z => by rw [List.map_eq_nil_iff] at z; rw [z] at l1; exact absurd l1 (by decide)), by omega, by omega, pow_lim (M := 3) (by rw [List.length_map]; exact l3) (by decide) (Nat.le_trans (Nat.pow_le_pow_right (by decide) (show k ≤ 4 by omega)) (by decide)), fun l0 rs0 H2 n0 e2 hl0 hR => ?_⟩
    obtain ⟨ks, ek, e2k, hks⟩ := rowsW_txt hR
    subst ek
    have o02 := o01.trans (Off.of e2)
    have D2 := D1.same e2
    have nd : xs.Nodup := asc.imp fun {a b} h e => by rw [e, ltT_irr] at h; cases h
    have ndk : (ks.map (·.2)).Nodup := by rw [e2k]; exact pts_nodup nd k
    have few : ks.length ≤ 100 := by
      have z := pts_few (k := k) l3 (by omega) k
      rw [List.take_of_length_le (by rw [List.length_replicate]; exact Nat.le_refl _)] at z
      have z2 := congrArg List.length e2k
      rw [List.length_map] at z2
      rw [z2]
      exact z
    have nl0t : l0 ≠ t := fun z => by
      rw [z, ht1] at n0
      cases n0
    have nl0l : l0 ≠ l := fun z => by
      obtain ⟨cs, m, n, hd, hl, _⟩ := D1.ex
      rw [z, hl] at n0
      cases n0
    have nl0d : l0 ≠ dk := fun z => by
      obtain ⟨cs, m, n, hd, hl, _⟩ := D1.ex
      rw [z, hd] at n0
      cases n0
    have nH1 : ∀ p ∈ ks, H1' p.1 = none := fun p hp => (hks p hp).1
    have nH : ∀ p ∈ ks, H p.1 = none := fun p hp => D1.back o01 (nH1 p hp) |> fun z => by
      exact D1.back o01 (nH1 p hp)
    refine ⟨l0, rfl, ⟨_, SqL.of hl0⟩, ?_⟩
    refine for_list (K := K) (a := l0) (xs := ks.map fun p => V.ref p.1) (fun i σ H' => ∃ (us : List Str) (v5 v6 v7 v8 : Option V), σ = [some (.ref dk), some (.ref b), some (.int (k : Nat)), some (.ref t), some (.int way), v5, v6, v7, v8, none] ∧ us.length = i ∧ DeckAt H' dk l (kk + 1 + 2 * i) ∧ Off dk l H H' ∧ H' t = some (.dT (KDz.dtOf (ks.take i) (us.map V.str))) ∧
        H' l0 = some (.lst (ks.map fun p => V.ref p.1)) ∧ (∀ p ∈ ks.take i, H' p.1 = some (.tup (p.2.map V.str))) ∧ (∀ p ∈ ks.drop i, Fz H' p.1 (p.2.map V.str)) ∧ (∀ u ∈ us, u ∈ xs) ∧ ∀ p ∈ ((ks.take i).map (·.2)).zip us, winS p.1 = none ∨ winS p.1 = some p.2)
      ⟨[], none, none, none, none, rfl, rfl, D2.up (by omega), o02, e2 _ _ ht1, hl0, (fun _ z => nomatch z), (fun p hp => (hks p hp).2), (fun _ z => nomatch z), fun _ z => nomatch z⟩ (fun i σ H' _ ⟨_, _, _, _, _, _, _, _, _, _, z, _⟩ => SqL.of z) ?_ ?_
    · rintro i y σ H3 hy ⟨us, v5, v6, v7, v8, rfl, lu, D3, o3, ht3, hl3, tk, dr, inx, wn⟩
      rw [List.getElem?_map] at hy
      cases hki : ks[i]? with
      | none =>
        rw [hki] at hy
        cases hy
      | some p =>
        rw [hki] at hy
        obtain rfl : V.ref p.1 = y := Option.some.inj hy
        obtain ⟨a, g⟩ := p
        have il : i < ks.length := (List.getElem?_eq_some_iff.mp hki).1
        have hdi : ks.drop i = (a, g) :: ks.drop (i + 1) := by
          rw [List.drop_eq_getElem_cons il]
          have z := (List.getElem?_eq_some_iff.mp hki).2
          rw [z]
        have fa := dr (a, g) (by rw [hdi]; exact List.mem_cons_self)
        have gm : g ∈ ptsL k xs := by
          rw [← e2k]
          exact List.mem_map.mpr ⟨(a, g), List.mem_of_getElem? hki, rfl⟩
        have gl := pts_wid xs k g gm
        have gsub := pts_sub k g gm
        have hb3 := tup_off hb D0 o3
        obtain ⟨w1, w2⟩ := near_win hk gl gsub
        -- near
        refine ⟨_, rfl, b, rfl, ⟨_, SqT.of hb3⟩, fun D hD => ?_⟩
        refine lc_tup (K := K) (xs := xs.map V.str) (fun c H' => Same H3 H' ∧ H' D = some (.lst ((nearS k g (xs.take c)).map V.str))) ⟨same_new hD, upd_same⟩ (fun c H' _ z => SqT.of (z.1 _ _ hb3)) ?_ ?_
        · rintro c y H4 hc ⟨e4, hD4⟩
          rw [List.getElem?_map] at hc
          cases hx : xs[c]? with
          | none =>
            rw [hx] at hc
            cases hc
          | some x =>
            rw [hx] at hc
            obtain rfl : V.str x = y := Option.some.inj hc
            obtain ⟨ob, hf, hc2, hd2⟩ := fa.same e4
            have ln : (nearS k g (xs.take c)).length ≤ 3 := by
              have z := List.length_filter_le (fun v => decide ((k : Int) - 1 ≤ (g.count v : Nat))) (xs.take c)
              rw [List.length_take] at z
              show (List.filter _ _).length ≤ 3
              omega
            refine ⟨rfl, _, rfl, ⟨a, ob, _, rfl, hf, hc2, hd2⟩, _, rfl, a, g, x, rfl, rfl, (fa.same e4).sqT, _, rfl, _, _, rfl, rfl, _, _, rfl, rfl, _, rfl, ite2 (fun y => ?_) fun y => ?_⟩
            · refine ⟨_, rfl, _, hD4, by rw [List.length_map, sizeLine_eq]; omega, same_put hD e4, ?_⟩
              rw [upd_same]
              unfold nearS
              rw [take_next hx, List.filter_append, List.map_append, List.filter_cons, if_pos y]
              rfl
            · refine ⟨e4, ?_⟩
              rw [hD4]
              unfold nearS
              rw [take_next hx, List.filter_append, List.filter_cons, if_neg y, List.filter_nil, List.append_nil]
        · rintro H4 ⟨e4, hD4⟩
          rw [List.length_map, List.take_length] at hD4
          have na : H a = none := nH (a, g) (List.mem_of_getElem? hki)
          have D4 := D3.same e4
          have o4 := o3.trans (Off.of e4)
          have hDH3 : D ≠ dk ∧ D ≠ l := by
            obtain ⟨cs, m, n, hd, hl, _⟩ := D3.ex
            exact ⟨fun z => (by rw [z, hd] at hD; cases hD), fun z => (by rw [z, hl] at hD; cases hD)⟩
          -- drawn, free
          refine ⟨_, rfl, _, rfl, dk, l, b, xs.map V.str, kk + 1 + 2 * i, rfl, D4, e4 _ _ hb3, by rw [List.length_map]; omega, by rw [List.length_map]; omega, by omega, fun f1 HB hf1 DB oB => ?_⟩
          have o4B := oB
          have faB : Fz HB a (g.map V.str) := fzOff (fa.same e4) D4 o4B
          have hDB := lst_offD hD4 hDH3.2 D4 o4B
          have htB := o4B t _ (e4 _ _ ht3) ltt.2 ltt.1
          have hlB := o4B l0 _ (e4 _ _ hl3) nl0d nl0l
          have hbB := tup_off (e4 _ _ hb3) D4 oB
          obtain ⟨g0, gr, eg⟩ : ∃ g0 gr, g = g0 :: gr := match g, (show 1 ≤ g.length by omega) with | g0 :: gr, _ => ⟨g0, gr, rfl⟩
          have sl : (sortT g).length = g.length := (List.mergeSort_perm g (W.dataLe false PyData.str)).length_eq
          have smem : ∀ y ∈ sortT g, y ∈ g := fun y hy => (List.mergeSort_perm g (W.dataLe false PyData.str)).mem_iff.mp hy
          refine ⟨_, rfl, _, rfl, _, rfl, _, rfl, a, _, 0, .str g0, rfl, rfl, faB.sqT, at_of (j := 0) rfl (by rw [eg]; rfl), _, rfl, a, g, rfl, faB.sqT, by omega, fun sb hsb => ?_⟩
          have eC : Same HB (upd HB sb (.lst ((sortT g).map V.str))) := same_new hsb
          have hC : upd HB sb (.lst ((sortT g).map V.str)) sb = some (.lst ((sortT g).map V.str)) := upd_same
          generalize upd HB sb (.lst ((sortT g).map V.str)) = HC at eC hC ⊢
          have s1 : (sortT g)[1]? = some (sortT g)[1] := List.getElem?_eq_getElem (by omega)
          refine ⟨sb, _, 1, .str (sortT g)[1], rfl, rfl, SqL.of hC, at_of (j := 1) rfl (by rw [List.getElem?_map, s1]; rfl), by show 5 ≤ sizeLine; decide, fun fl hfl => ?_⟩
          have eD : Same HC (upd HC fl (.lst [f1, f1, f1, .str g0, .str (sortT g)[1]])) := same_new hfl
          have hflD : upd HC fl (.lst [f1, f1, f1, .str g0, .str (sortT g)[1]]) fl = some (.lst [f1, f1, f1, .str g0, .str (sortT g)[1]]) := upd_same
          generalize upd HC fl (.lst [f1, f1, f1, .str g0, .str (sortT g)[1]]) = HD at eD hflD ⊢
          have eBD := same_trans eC eD
          obtain ⟨u, hu1, hix⟩ : ∃ u : Str, u ∈ xs ∧ atI [f1, f1, f1, .str g0, .str (sortT g)[1]] way = some (.str u) := by
            obtain ⟨u1, m1, rfl⟩ := List.mem_map.mp hf1
            obtain rfl | rfl | rfl | rfl | rfl : way = 0 ∨ way = 1 ∨ way = 2 ∨ way = 3 ∨ way = 4 := by omega
            · exact ⟨u1, m1, at_of (j := 0) rfl rfl⟩
            · exact ⟨u1, m1, at_of (j := 1) rfl rfl⟩
            · exact ⟨u1, m1, at_of (j := 2) rfl rfl⟩
            · exact ⟨g0, gsub g0 (by rw [eg]; exact List.mem_cons_self), at_of (j := 3) rfl rfl⟩
            · exact ⟨(sortT g)[1], gsub _ (smem _ (List.getElem_mem _)), at_of (j := 4) rfl rfl⟩
          refine ⟨_, rfl, fl, _, way, .str u, rfl, rfl, SqL.of hflD, hix, ?_⟩
          have DD : DeckAt HD dk l (kk + 1 + 2 * i + 2) := (DB.up (by omega)).same eBD
          have oD : Off dk l H HD := (o4.trans o4B).trans (Off.of eBD)
          have faD : Fz HD a (g.map V.str) := faB.same eBD
          have htD := eBD _ _ htB
          have hlD := eBD _ _ hlB
          have hbD := eBD _ _ hbB
          have hDD := eBD _ _ hDB
          have tkD : ∀ p ∈ ks.take i, HD p.1 = some (.tup (p.2.map V.str)) := fun p hp => eBD _ _ (tup_off (e4 _ _ (tk p hp)) D4 o4B)
          have drD : ∀ p ∈ ks.drop i, Fz HD p.1 (p.2.map V.str) := fun p hp => Fz.same eBD (fzOff (Fz.same e4 (dr p hp)) D4 o4B)
          clear hflD hC hix faB hDB htB hlB hbB DB dr tk
          -- the row is a tuple again
          obtain ⟨ob, hf, hoc, hod⟩ := id faD
          refine ⟨upd HD a (.tup (g.map V.str)), thaw_one hf na, ?_⟩
          have at5 : upd HD a (.tup (g.map V.str)) a = some (.tup (g.map V.str)) := upd_same
          have kp : ∀ {c : Addr} {o : HO}, HD c = some o → c ≠ a → upd HD a (.tup (g.map V.str)) c = some o := fun {c o} h n => by
            rw [upd_ne n]
            exact h
          have ne3 : ∀ {c : Addr} {o : HO}, HD c = some o → (∀ ob v, o ≠ .frz ob v) → c ≠ a := fun {c o} h n => ne_of h hf (n _ _)
          have o5 : Off dk l H (upd HD a (.tup (g.map V.str))) := fun c o h n1 n2 => kp (oD c o h n1 n2) (ne_of_none h na)
          have D5 : DeckAt (upd HD a (.tup (g.map V.str))) dk l (kk + 1 + 2 * i + 2) := by
            obtain ⟨cs, m, n, hd, hl, h3⟩ := DD.ex
            exact ⟨cs, m, n, kp hd (ne3 hd (fun _ _ z => nomatch z)), kp hl (ne3 hl (fun _ _ z => nomatch z)), h3⟩
          have ht5 := kp htD (ne3 htD (fun _ _ z => nomatch z))
          have hl5 := kp hlD (ne3 hlD (fun _ _ z => nomatch z))
          have hD5 := kp hDD (ne3 hDD (fun _ _ z => nomatch z))
          have tk5 : ∀ p ∈ ks.take i, upd HD a (.tup (g.map V.str)) p.1 = some (.tup (p.2.map V.str)) := fun p hp => kp (tkD p hp) (ne3 (tkD p hp) (fun _ _ z => nomatch z))
          have dr5 : ∀ p ∈ ks.drop (i + 1), Fz (upd HD a (.tup (g.map V.str))) p.1 (p.2.map V.str) := fun p hp => by
            obtain ⟨o1, h1, h2⟩ := drD p (by rw [hdi]; exact List.mem_cons_of_mem _ hp)
            refine ⟨o1, kp h1 fun z => ?_, h2⟩
            rw [z, hf] at h1
            have z1 := Option.some.inj h1
            injection z1 with _ z2
            injection z2 with z3
            have e := str_map_inj z3
            have nd2 : ((ks.drop i).map (·.2)).Nodup := by
              rw [List.map_drop]
              exact ndk.sublist (List.drop_sublist _ _)
            rw [hdi, List.map_cons, List.nodup_cons] at nd2
            exact nd2.1 (List.mem_map.mpr ⟨p, hp, e.symm⟩)
          generalize upd HD a (.tup (g.map V.str)) = H5 at at5 o5 D5 ht5 hl5 tk5 dr5 hD5 ⊢
          have lul : us.length ≤ 100 := by omega
          have key : ∀ (u : Str) (H6 : Hp), u ∈ xs → (winS g = none ∨ winS g = some u) → Same H5 H6 → ∃ H7, DPut H6 t (.ref a) (.str u) H7 ∧ (us ++ [u]).length = i + 1 ∧ DeckAt H7 dk l (kk + 1 + 2 * (i + 1)) ∧ Off dk l H H7 ∧ H7 t = some (.dT (KDz.dtOf (ks.take (i + 1)) ((us ++ [u]).map V.str))) ∧
              H7 l0 = some (.lst (ks.map fun p => V.ref p.1)) ∧ (∀ p ∈ ks.take (i + 1), H7 p.1 = some (.tup (p.2.map V.str))) ∧ (∀ p ∈ ks.drop (i + 1), Fz H7 p.1 (p.2.map V.str)) ∧ (∀ v ∈ us ++ [u], v ∈ xs) ∧ ∀ p ∈ ((ks.take (i + 1)).map (·.2)).zip (us ++ [u]), winS p.1 = none ∨ winS p.1 = some p.2 := fun u H6 hu1 hu2 e6 => by
            have ht6 := e6 _ _ ht5
            have at6 := e6 _ _ at5
            have tkn : ks.take (i + 1) = ks.take i ++ [(a, g)] := take_next hki
            have lt : (ks.take i).length = us.length := by rw [List.length_take, lu]; omega
            have ldt : (KDz.dtOf (ks.take i) (us.map V.str)).length < sizeLine := by
              unfold KDz.dtOf
              rw [List.length_zip, List.length_map, List.length_map, sizeLine_eq]
              omega
            have out : valV (KDz.dtOf (ks.take i) (us.map V.str)) (KDz.entK g) = none := by
              rw [val_look, look_out]
              · rfl
              · intro m
                have nd3 : ((ks.take (i + 1)).map (·.2)).Nodup := by
                  rw [List.map_take]
                  exact ndk.sublist (List.take_sublist _ _)
                rw [tkn, List.map_append, List.nodup_append] at nd3
                exact nd3.2.2 _ m g (by simp) rfl
            have dp : DPut H6 t (.ref a) (.str u) _ := DPut.t (k := KDz.entK g) ht6 (by rw [KDz.entK_kV]; exact at6) ldt
            have epk : putK (KDz.dtOf (ks.take i) (us.map V.str)) (KDz.entK g) (V.str u) = KDz.dtOf (ks.take (i + 1)) ((us ++ [u]).map V.str) := by
              rw [putK_new _ out, tkn]
              unfold KDz.dtOf
              rw [List.map_append, List.map_append, List.zip_append (by rw [List.length_map, List.length_map]; exact lt)]
              rfl
            rw [epk] at dp
            have kp7 : ∀ {c : Addr} {o : HO}, H6 c = some o → c ≠ t → upd H6 t (.dT (KDz.dtOf (ks.take (i + 1)) ((us ++ [u]).map V.str))) c = some o := fun {c o} h n => by
              rw [upd_ne n]
              exact h
            have tup7 : ∀ {c : Addr} {ys : List V}, H5 c = some (.tup ys) → upd H6 t (.dT (KDz.dtOf (ks.take (i + 1)) ((us ++ [u]).map V.str))) c = some (.tup ys) := fun {c ys} h => by
              have h6 := e6 _ _ h
              exact kp7 h6 (ne_of h6 ht6 (by intro z; cases z))
            refine ⟨_, dp, by rw [List.length_append, lu]; rfl, ?_, fun c o h n1 n2 => kp7 (e6 _ _ (o5 c o h n1 n2)) (ne_of_none h ht), upd_same, kp7 (e6 _ _ hl5) nl0t, fun p hp => ?_, fun p hp => ?_, fun v hv => ?_, fun p hp => ?_⟩
            · obtain ⟨cs, m, n, hd, hl, h3⟩ := ((D5.same e6).up (show kk + 1 + 2 * i + 2 ≤ kk + 1 + 2 * (i + 1) by omega)).ex
              exact ⟨cs, m, n, kp7 hd ltt.2.symm, kp7 hl ltt.1.symm, h3⟩
            · rw [tkn] at hp
              rcases List.mem_append.mp hp with z | z
              · exact tup7 (tk5 p z)
              · rw [List.mem_singleton.mp z]
                exact tup7 at5
            · obtain ⟨o1, h1, h2⟩ := dr5 p hp
              have h6 : H6 p.1 = some (.frz o1 (.tup (p.2.map V.str))) := e6 _ _ h1
              exact ⟨o1, kp7 h6 (ne_of h6 ht6 (by intro z; cases z)), h2⟩
            · rcases List.mem_append.mp hv with z | z
              · exact inx v z
              · rw [List.mem_singleton.mp z]
                exact hu1
            · rw [tkn, List.map_append, List.zip_append (by rw [List.length_map]; exact lt)] at hp
              rcases List.mem_append.mp hp with z | z
              · exact wn p z
              · rw [List.mem_singleton.mp (show p ∈ [(g, u)] from z)]
                exact hu2
          refine ⟨_, rfl, by show 0 ≤ sizeLine; exact Nat.zero_le _, fun e he => ⟨D, e, (nearS k g xs).map V.str, rfl, rfl, SqL.of ((same_new he) _ _ hD5), SqL.of upd_same, _, rfl, ite2 (fun c => ?_) fun c => ?_⟩⟩
          · cases hn : nearS k g xs with
            | nil =>
              rw [hn] at c
              cases c
            | cons u r =>
              have e5 : Same H5 (upd H5 e (.lst [])) := same_new he
              have um : u ∈ xs := (List.mem_filter.mp (show u ∈ nearS k g xs by rw [hn]; exact List.mem_cons_self)).1
              obtain ⟨H7, dp, f1, f2, f3, f4, f5, f6, f7, f8, f9⟩ := key u _ um (w2 u r hn) e5
              rw [hn] at hD5
              exact ⟨_, rfl, D, _, 0, _, rfl, rfl, SqL.of (e5 _ _ hD5), at_of (j := 0) rfl rfl, _, rfl, _, rfl, t, H7, rfl, dp, us ++ [u], _, _, _, _, rfl, f1, f2, f3, f4, f5, f6, f7, f8, f9⟩
          · have hn : nearS k g xs = [] := by
              cases hn : nearS k g xs with
              | nil => rfl
              | cons u r =>
                rw [hn] at c
                exact absurd rfl c
            have e5 : Same H5 (upd H5 e (.lst [])) := same_new he
            obtain ⟨H7, dp, f1, f2, f3, f4, f5, f6, f7, f8, f9⟩ := key u _ hu1 (.inl (w1 hn)) e5
            exact ⟨_, rfl, _, rfl, _, rfl, t, H7, rfl, dp, us ++ [u], _, _, _, _, rfl, f1, f2, f3, f4, f5, f6, f7, f8, f9⟩
    · rintro σ H3 ⟨us, v5, v6, v7, v8, rfl, lu, D3, o3, ht3, hl3, tk, dr, inx, wn⟩
      rw [List.length_map] at lu D3 ht3 tk wn
      rw [List.take_length] at ht3 tk wn
      rw [e2k] at wn
      have lks : ks.length = (ptsL k xs).length := by
        have z := congrArg List.length e2k
        rw [List.length_map] at z
        exact z
      exact ⟨_, rfl, q t us H3 ht (D3.up (by omega)) o3 ⟨ks, ht3, e2k⟩ ⟨asc, ok, l1, l3, hk, by rw [lu, lks], inx, wn⟩⟩
end
end K01
/-! all_rows of one column of any items, so many times. -/
namespace K01
open PySem PySem.Spec PyProof.Rows L2 KG KS KA KX KIa KFz KTc
def spAr (K : PySem.W.Frag) : Sp := fun vs H Q _ => ∃ (c d : Addr) (xs : List V) (k : Nat), vs = [.ref c] ∧ H c = some (.lst (List.replicate k (V.ref d))) ∧ SqT K H d xs ∧ k ≤ 4 ∧ (∀ i, i ≤ k → xs.length ^ i ≤ 100000) ∧
  ∀ (p : Addr) (rs : List V) (H' : Hp), H p = none → Same H H' → H' p = some (.tup rs) → RowsW false H H' rs (pw xs k) → Q (.ref p) H'
section
variable {P : Program} {w : World} {K : PySem.W.Frag} {mg : Str → Option Value} {base : Heap}
theorem sc_all_rowsW : FnScope ["columns", "rows", "column", "row", "item"] ["columns"] (defScope s_all_rows) := ⟨rfl, rfl, rfl, by decide +kernel, rfl, by decide +kernel, by decide +kernel⟩
theorem ok_all_rowsW (B : Bs mg) (f : FnF K mg "all_rows" "all_rows" s_all_rows) : FnOk P w K mg base CX0 1 f.a f.d ["columns"] (spAr K) := by
  refine f.F.ok sc_all_rowsW (fun vs H Q E h => ?_) (fun cdv A outer s H vs Q E hr h => ?_)
  · obtain ⟨c, d, xs, k, rfl, _⟩ := h
    rfl
  · obtain ⟨c, d, xs, k, rfl, hc, hd, k4, lim, q⟩ := h
    refine ⟨_, (pss_cons
      (ps_set (i := 1) sc_all_rowsW.nd rfl (Or.inl rfl) (pe_lst (pa_cons (pe_tup pa_nil) pa_nil)))
    (pss_cons
      (ps_for PassesOwn.never rfl (pi_list (pv 0)) (pg_name (i := 2) sc_all_rowsW.nd rfl (Or.inr rfl))
        (pss_one
          (ps_setLc2 (i := 1) (own := [("row", 3), ("item", 4)]) (vs1 := [4]) (g := gName 3) (g1 := gName 4) (by rfl) sc_all_rowsW.nd rfl rfl (sw_true rfl rfl rfl (by decide +kernel)) (pi_list (pv 1)) (blkOk_by (own := [("row", 3), ("item", 4)]) (N := ["columns", "rows", "column", "row", "item"]) (sc := defScope s_all_rows) (by decide +kernel)) (by decide)
            (fun _ _ _ _ _ => (pg_name (i := 3) sc_all_rowsW.nd rfl (Or.inl rfl))) (fun _ _ _ _ _ => pts_nil)
            (fun _ _ _ _ _ => (show PI _ _ _ (iTup K (tVar 2)) from pi_tup (pv 2))) (fun _ _ _ _ _ => (pg_name (i := 4) sc_all_rowsW.nd rfl (Or.inl rfl))) (fun _ _ _ _ _ => pts_nil)
            (fun _ _ _ _ _ => (pe_op (show OpR _ (binaryOp .Add) (rCatA K) from op_catA) (pv 3) (pe_tup (pa_cons (pv 4) pa_nil)))))))
    (pss_one
      (ps_ret (pe_callTy call_tuple_of (by rfl) B.n_tuple (by decide +kernel) (pa_cons (pv 1) pa_nil)))))), ?_⟩
    refine ⟨by show 0 ≤ sizeLine; exact Nat.zero_le _, fun t ht => ⟨by show 1 ≤ sizeLine; decide, fun l hl => ?_⟩⟩
    have e0 : Same H (upd (upd H t (.tup [])) l (.lst [V.ref t])) := same_trans (same_new ht) (same_new hl)
    refine ⟨_, rfl, c, rfl, ⟨_, SqL.of (e0 _ _ hc)⟩, ?_⟩
    refine for_list (K := K) (a := c) (xs := List.replicate k (V.ref d)) (fun i σ H' => ∃ (l : Addr) (rs : List V) (v2 : Option V), σ = [some (.ref c), some (.ref l), v2, none, none] ∧ Same H H' ∧ H' l = some (.lst rs) ∧ RowsW false H H' rs (pw xs i))
      ⟨l, _, none, rfl, e0, upd_same, .cons ⟨t, rfl, ht, by show upd _ l _ t = _; rw [upd_ne (ne_of_none upd_same hl), upd_same]⟩ .nil⟩ (fun i σ H' _ ⟨_, _, _, _, e, _⟩ => SqL.of (e _ _ hc)) ?_ ?_
    · rintro i0 y σ H0 hi ⟨l, rs, v2, rfl, e1, hl1, hR⟩
      have il0 : i0 < k := by
        have z := (List.getElem?_eq_some_iff.mp hi).1
        rw [List.length_replicate] at z
        exact z
      obtain rfl : y = V.ref d := List.eq_of_mem_replicate (List.mem_of_getElem? hi)
      have lw : ∀ g ∈ pw xs i0, g.length = i0 := fun g hg => (mem_pw.mp hg).1
      have lm := lim (i0 + 1) il0
      rw [← pw_len] at lm
      have lm : (stp (pw xs i0) xs).length ≤ 100000 := lm
      have pn : pw xs (i0 + 1) = stp (pw xs i0) xs := rfl
      rw [pn]
      generalize pw xs i0 = R at hR lw lm ⊢
      have hd0 := same_seqT e1 hd
      refine ⟨_, rfl, l, rfl, ⟨_, SqL.of hl1⟩, fun D hD => ?_⟩
      have hDH : H D = none := e1.free hD
      refine lc2_lt (K := K) (a := l) (xs := rs) (fun i j H2 => ∃ acc, Same H0 H2 ∧ H2 D = some (.lst acc) ∧ RowsW false H H2 acc (stp (R.take i) xs ++ (xs.take j).map fun x => R.getD i [] ++ [x]))
        ⟨[], same_new hD, upd_same, .nil⟩ (fun i H2 _ ⟨_, e, _⟩ => SqL.of (e _ _ hl1)) ?_ (fun x σ H Q R h q => h _ _ q) (fun x σ H Q R h q => h _ _ q) (fun σ H Q R h ⟨x, e, a, e2, q0, q1⟩ => ⟨x, e, a, e2, q0, h _ _ q1⟩) ?_
      · rintro i x H2 hx ⟨acc, e2, hacc, hA⟩
        obtain ⟨ts, hRi, a, rfl, _, ha0⟩ := each_get hR hx
        have gd : R.getD i [] = ts := by rw [List.getD_eq_getElem?_getD, hRi]; rfl
        have ha00 : H0 a = some (.tup ts) := ha0
        have il : i < R.length := (List.getElem?_eq_some_iff.mp hRi).1
        have tl : (R.take (i + 1)).length ≤ R.length := by rw [List.length_take]; omega
        have l1 := stp_len xs (R.take (i + 1))
        have l2 := stp_len xs R
        have sl1 : (stp (R.take (i + 1)) xs).length ≤ 100000 := by
          rw [l1]
          rw [l2] at lm
          exact Nat.le_trans (Nat.mul_le_mul_right _ tl) lm
        rw [stp_take hRi, List.length_append, List.length_map] at sl1
        refine ⟨rfl, _, rfl, d, rfl, ⟨_, same_seqT e2 hd0⟩, d, xs, rfl, ⟨acc, e2, hacc, hA⟩, fun j H3 _ ⟨_, e3, _⟩ => same_seqT e3 hd0, ?_, ?_⟩
        · rintro j z H3 hz ⟨ac, e3, hac, hB⟩
          have jl : j < xs.length := (List.getElem?_eq_some_iff.mp hz).1
          have lac : ac.length < 100000 := by
            have z1 := hB.length
            rw [List.length_append, List.length_map, List.length_take] at z1
            omega
          rw [gd] at hB
          have fin : ∀ {H4 : Hp} {v : V}, Same H3 H4 → H4 D = some (.lst ac) → (∃ b, v = V.ref b ∧ H b = none ∧ H4 b = some (.tup (ts ++ [z]))) →
              ∃ acc, H4 D = some (.lst acc) ∧ acc.length < sizeLine ∧ ∃ acc', Same H0 (upd H4 D (.lst (acc ++ [v]))) ∧ upd H4 D (.lst (acc ++ [v])) D = some (.lst acc') ∧
                RowsW false H (upd H4 D (.lst (acc ++ [v]))) acc' (stp (R.take i) xs ++ (xs.take (j + 1)).map fun x => R.getD i [] ++ [x]) := fun {H4 v} e4 h4 hv => by
            refine ⟨ac, h4, by rw [sizeLine_eq]; omega, ac ++ [v], same_put hD (same_trans e3 e4), upd_same, ?_⟩
            have hrow : RowsW false H H4 (ac ++ [v]) (stp (R.take i) xs ++ (xs.take (j + 1)).map fun x => R.getD i [] ++ [x]) := by
              rw [gd, take_next hz, List.map_append, ← List.append_assoc]
              exact each_snoc (hB.up e4) hv
            refine each_and hrow fun v ts _ ⟨b, e5, e7, e6⟩ => ⟨b, e5, e7, ?_⟩
            have e6 : H4 b = some (.tup ts) := e6
            show upd H4 D _ b = _
            rw [upd_ne (ne_of e6 h4 (by intro z; cases z))]
            exact e6
          refine ⟨rfl, _, rfl, _, rfl, by show 1 ≤ sizeLine; decide, fun b hb => ?_⟩
          have e4 : Same H3 (upd H3 b (.tup [z])) := same_new hb
          refine ⟨a, b, ts, [z], rfl, rfl, SqT.of (e4 _ _ (e3 _ _ ha00)), SqT.of upd_same, ?_, fun zz => ?_, fun _ zz => (nomatch zz), fun _ _ p hp => ?_⟩
          · have rl := lw ts (List.mem_of_getElem? hRi)
            rw [sizeLine_eq]
            show ts.length + 1 ≤ _
            omega
          · exact fin e4 (e4 _ _ hac) ⟨b, rfl, (same_trans e1 e3).free hb, by rw [upd_same, zz]; rfl⟩
          · have e5 := same_trans e4 (same_new (o := .tup (ts ++ [z])) hp)
            exact fin e5 (e5 _ _ hac) ⟨p, rfl, (same_trans (same_trans e1 e3) e4).free hp, upd_same⟩
        · rintro H3 ⟨ac, e3, hac, hB⟩
          rw [List.take_length, gd, ← stp_take hRi] at hB
          exact ⟨ac, e3, hac, by simpa using hB⟩
      · rintro H2 ⟨acc, e2, hacc, hA⟩
        refine ⟨D, acc, _, rfl, same_trans e1 e2, hacc, ?_⟩
        rw [hR.length] at hA
        simpa using hA
    · rintro σ H1 ⟨l, rs, v2, rfl, e1, hl1, hR⟩
      refine ⟨_, rfl, l, rs, rfl, .inl ⟨SqL.of hl1, fun p hp => ?_⟩⟩
      rw [List.length_replicate] at hR
      exact q p rs _ (e1.free hp) (same_trans e1 (same_new hp)) upd_same (hR.up (same_new hp))
end
end K01
/-! {k: v for x in xs}, the keys tuples of texts and numbers. -/
namespace KDk
open PySem PySem.Spec PyProof.Rows L2
section
variable {X : Cx} {pins : List (Addr × Obj)} {σ : L2.St} {H : Hp} {s : Shared}
/-- a tuple's entry stored -/
theorem put_row {E : Value → Shared → Prop} {D b : Addr} {kvs : List (List L2.Key × V)} {k : List L2.Key} {v : V} {r : Value} {Q : Unit → Shared → Prop} (hu : X.A.units + 1 < cLine) (I : Inv X pins σ H s) (eD : H D = some (.dT kvs)) (eb : H b = some (.tup (k.map kV))) (l : kvs.length < sizeLine)
    (rv : L2.RelV v r) (h : ∀ s', Inv X pins σ (upd H D (.dT (putK kvs k v))) s' → Q () s') : wpAny (model X.prog X.w) X.A (dictSet D (.ref b) r) Q E s := by
  have hu2 : (tupleKind (mixKind X.prog X.w)).room X.A := by
    show _ < cLine
    exact Nat.lt_of_le_of_lt (Nat.le_succ _) hu
  obtain ⟨z, hd, xs, rel, dd⟩ := dt_of I.hok eD
  have few : xs.length ≤ sizeLine := Paired.length rel ▸ z
  have l2 : (putK kvs k v).length ≤ sizeLine := Nat.le_trans (length_putK kvs k v) (by omega)
  refine wpAny_dictSet_heap (hsz := few) hu2 (key_of I.hok eb) dd fun h2 dd2 same => h _ ?_
  obtain ⟨q, es, ep, hq, c1, c2, c3, _, c4⟩ := dd2
  refine d_write I (by rw [eD]; exact True.intro) same ⟨q, hq⟩ ⟨l2, hd, _, (rel.put k eb rv).keeps fun c ys ec => ?_, q, es, ep, hq, c1, c2, c3, c4⟩
  rw [upd_ne (ne_of ec eD (fun y => nomatch y))]
  exact ec
end
/-- the reading: D the new dict -/
def tDcT (wi : TI) (g : TG) (tt : TT) (tk tv : TE) (vs : List Nat) : TE := fun σ H Q => wi σ H fun J H1 => ∀ D, H1 D = none → ∃ Z : Nat → Nat → Hp → Prop, (∃ m, Z 0 m (upd H1 D (.dT []))) ∧ ∀ i m H, Z i m H →
  (J.stop i H ∧ Q (.ref D) H) ∨ (J.go i H ∧ ∃ Nx : Hp → Prop, (∀ H', Nx H' → ∃ m', m' < m ∧ Z (i + 1) m' H') ∧ ∀ x H', J.yld i H x H' → g x (wipe σ vs) H' fun σ2 H2 => wipe σ2 vs = wipe σ vs ∧ tt σ2 H2 fun c H3 =>
    if c = true then tk σ2 H3 fun y H4 => tv σ2 H4 fun z H5 => ∃ kvs k b, y = .ref b ∧ H5 b = some (.tup (k.map kV)) ∧ H5 D = some (.dT kvs) ∧ kvs.length < sizeLine ∧ Nx (upd H5 D (.dT (putK kvs k z))) else Nx H3)
section
variable {X : Cx}
theorem dcT_core {pins : List (Addr × Obj)} {σ : L2.St} {H : Hp} {s : Shared} {Q : VK} {use : Option (Value → Sem Unit)} {Qf : Value → Shared → Prop} {pos2 : Pos} {kx vx tg iter : Expr} {ifs : List Expr} {scope : Scope} {own : List (Str × Nat)} {pos : Pos} {wi : TI} {g : TG} {tt : TT} {tk tv : TE} (hc : X.calm = true) (hN : X.N.Nodup) (hu : X.A.units + 1 < cLine) (hi : PI X tg iter wi) (ok : BlkOk X.N X.env.scope scope own)
    (hg : ∀ (s : Shared) (H : Hp) (C : Addr) (cl : List (Str × Addr)) (fp : List Addr), PG (X.blk s H scope (compEnvC scope cl C X.env) fp) tg g)
    (ht : ∀ (s : Shared) (H : Hp) (C : Addr) (cl : List (Str × Addr)) (fp : List Addr), PTs (X.blk s H scope (compEnvC scope cl C X.env) fp) ifs tt)
    (hk : ∀ (s : Shared) (H : Hp) (C : Addr) (cl : List (Str × Addr)) (fp : List Addr), PE (X.blk s H scope (compEnvC scope cl C X.env) fp) kx tk)
    (he : ∀ (s : Shared) (H : Hp) (C : Addr) (cl : List (Str × Addr)) (fp : List Addr), PE (X.blk s H scope (compEnvC scope cl C X.env) fp) vx tv)
    (hs : ∀ x, foldedSetIterable iter X.env x = pure x) (I0 : Inv X pins σ H s) (read : tDcT wi g tt tk tv (own.map (·.2)) σ H Q)
    (last : ∀ D C s' m H', Inv X pins σ H' s' → Q (.ref D) H' → s'.heap.Ns C m → FpOk X pins H' C → compPost (model X.prog X.w) X.A X.xe use Qf (.ref D) C (.ok .next) s') :
    wpAny (model X.prog X.w) X.A (comprehension (.DictComp kx vx [⟨tg, iter, ifs, 0⟩] scope pos) scope X.env pos2 newDict false (eval iter X.env) use) Qf X.xe s := by
  have frees : ∀ y ∈ scope.names, y.2 = .free → ∃ c, X.env.cells.lookup y.1 = some c := fun y my e => I0.ok.has _ (ok.free y my e)
  refine wpAny_comprehension_free (use := use) rfl hs (closure_ok frees) ok.kind (fun y my e => by rw [ok.uniq y my, e]) (thn (hi.run pins s σ H _ I0 read) fun xv sA hA => thn hA fun iv sB hB => ?_)
  obtain ⟨it, fp, tn, J, HB, eit, IB, T, stB, fB, rd⟩ := hB
  subst eit
  refine wpAny_newObj_type (newEnv_comp ?_)
  -- the dict's place
  have freeD : HB sB.heap.objs.size = none := IB.hok.fresh (Nat.le_refl _)
  obtain ⟨Z, ⟨m0, z0⟩, turn⟩ := rd _ freeD
  have small : ∀ b ∈ fp, b < sB.heap.objs.size := fun b hb => let ⟨_, eo, _⟩ := T.obj _ _ stB b hb; Heap.lt_size eo
  generalize eD : sB.heap.objs.size = D at freeD z0 turn small
  generalize eC : ({ sB with heap := sB.heap.push { cls := .type "dict", data := .dict #[] } } : Shared) = sC
  have heapC : sC.heap = sB.heap.push { cls := .type "dict", data := .dict #[] } := by rw [← eC]
  have IC : Inv X pins σ (upd HB D (.dT [])) sC := by
    rw [← eC]
    refine IB.laid (t' := sB.toks) (fun _ _ z => Heap.get?_push_of_some _ z) (Nat.le_of_eq eD) ?_
    rw [← eD]
    exact dt_empty sB.heap IB.big
  have fC : ∀ b ∈ fp, FpOk X pins (upd HB D (.dT [])) b ∧ b < sC.heap.objs.size := fun b hb => by
    have lt := small b hb
    refine ⟨⟨?_, (fB b hb).2⟩, ?_⟩
    · rw [upd_ne (Nat.ne_of_lt lt)]
      exact (fB b hb).1
    · rw [heapC, Heap.size_push, eD]
      exact Nat.lt_succ_of_lt lt
  have stC : tn 0 sC.heap := T.keep _ _ _ stB fun b _ o z => by
    rw [heapC]
    exact Heap.get?_push_of_some _ z
  have ID := block_start IC ok hN fC
  generalize eCl : cellsFrom (sC.heap.objs.size + 1) scope.names (cloFrom X.env.cells scope.names []) = clos at ID ⊢
  have pG := hg sC (upd HB D (.dT [])) sC.heap.objs.size clos fp
  have pT := ht sC (upd HB D (.dT [])) sC.heap.objs.size clos fp
  have pK := hk sC (upd HB D (.dT [])) sC.heap.objs.size clos fp
  have pV := he sC (upd HB D (.dT [])) sC.heap.objs.size clos fp
  have noneF : ∀ b ∈ fp, upd HB D (.dT []) b = none := fun b hb => (fC b hb).1.1
  show codeAny (model X.prog X.w) X.A (.compStart (.DictComp kx vx [⟨tg, iter, ifs, 0⟩] scope pos) 0 (.ref it) (.ref D) (compEnvC scope clos sC.heap.objs.size X.env)) _ _
  generalize eEnv : compEnvC scope clos sC.heap.objs.size X.env = ce at ID pG pT pK pV ⊢
  have place : ce.locals = sC.heap.objs.size := by subst eEnv; rfl
  generalize eH : upd HB D (.dT []) = HC at IC ID pG pT pK pV z0 noneF fC
  generalize eS : ({ sC with heap := pushCells (sC.heap.push { cls := .type "dict", data := .dict #[] }) scope.names } : Shared) = sE at ID ⊢
  have stE : tn 0 sE.heap := T.keep _ _ _ stC fun b _ o z => by
    rw [← eS]
    exact pushCells_keeps _ _ _ _ (Heap.get?_push_of_some _ z)
  have stat : ∀ {σ' : L2.St} {H' : Hp} {s' : Shared}, Inv (X.blk sC HC scope ce fp) [] σ' H' s' → (∀ b ∈ fp, H' b = none) → ∀ b ∈ fp, FpOk (X.blk sC HC scope ce fp) [] H' b := fun {_ _ _} J' hn b hb =>
    let z := J'.ok.exf b hb
    ⟨hn b hb, z.1, J'.ok.exfs b hb, .inl hb, fun x c e => z.2 x c e, fun p hp => absurd (show p ∈ ([] : List (Addr × Obj)) from by simpa using hp) (by simp)⟩
  have loop : ∀ n s', (∃ i H', Inv (X.blk sC HC scope ce fp) [] (wipe σ (own.map (·.2))) H' s' ∧ tn i s'.heap ∧ (∀ b ∈ fp, H' b = none) ∧ Z i n H') → codeAny (model X.prog X.w) X.A (.compLoop (.DictComp kx vx [⟨tg, iter, ifs, 0⟩] scope pos) 0 (.ref it) (.ref D) ce) (compPost (model X.prog X.w) X.A X.xe use Qf (.ref D) sC.heap.objs.size) s' := by
    refine fun n0 s0 start => compLoop_anyD (fun n s' => ∃ i H', Inv (X.blk sC HC scope ce fp) [] (wipe σ (own.map (·.2))) H' s' ∧ tn i s'.heap ∧ (∀ b ∈ fp, H' b = none) ∧ Z i n H') (fun n s5 at5 => ?_) n0 start
    obtain ⟨i, H5, I5, st5, n5, z5⟩ := at5
    rcases turn i n H5 z5 with ⟨stop, done⟩ | ⟨go, Nx, less, step⟩
    · refine thnF (T.done (X.blk sC HC scope ce fp) rfl rfl rfl hc i [] s5 _ H5 (fun _ _ => False) I5 (stat I5 n5) st5 stop) fun r s6 ⟨er, I6⟩ => ?_
      subst er
      have I7 : Inv X pins σ H5 s6 := IC.call' (ch := fp) I6.os I6.base I6.hok I6.bare fun b hb => let z := (fC b hb).1; ⟨z.2.2.2.1, z.2.1, z.2.2.2.2.1, z.2.2.2.2.2⟩
      have nC : H5 sC.heap.objs.size = none := by
        have z : H5 ce.locals = none := I6.free
        rwa [place] at z
      obtain ⟨m, hn, _⟩ := I6.loc
      have hn : s6.heap.Ns ce.locals m := hn
      rw [place] at hn
      exact last D sC.heap.objs.size s6 m H5 I7 done hn (IC.fpOk (Nat.le_refl _) nC)
    · refine thnF (T.item (X.blk sC HC scope ce fp) rfl rfl rfl hc i [] s5 _ H5 (fun _ _ => False) I5 (stat I5 n5) st5 go) fun r s6 ⟨u, er, h6⟩ => ?_
      subst er
      refine thnF h6 fun _ s7 ⟨x, H7, I7, r7, y7, st7, n7⟩ => ?_
      refine thnF (pG.run _ s7 _ H7 x u _ (I7.pinned (stat I7 n7) (T.obj _ _ st7)) r7 (step x H7 y7)) fun _ s8 ⟨σ8, H8, I8, hw8, q8⟩ => ?_
      have len8 : (wipe σ (own.map (·.2))).length = σ8.length := by rw [← hw8, wipe_length]
      -- what the next turn begins with
      have next : ∀ {s' : Shared} {H' : Hp}, Inv (X.blk sC HC scope ce fp) ([] ++ pinsAt fp s7.heap) σ8 H' s' → Nx H' → ∃ m, m < n ∧ ∃ i H', Inv (X.blk sC HC scope ce fp) [] (wipe σ (own.map (·.2))) H' s' ∧ tn i s'.heap ∧ (∀ b ∈ fp, H' b = none) ∧ Z i m H' := fun {s' H'} J' nx => by
        obtain ⟨m', lt, w'⟩ := less H' nx
        have pinned : ∀ b ∈ fp, ∀ o, s7.heap.get? b = some o → s'.heap.get? b = some o ∧ H' b = none := fun b hb o e => by
          obtain ⟨z1, z2, _⟩ := J'.pin (b, o) (List.mem_append_right _ (List.mem_append_right _ (mem_pinsAt hb e)))
          exact ⟨z1, z2⟩
        refine ⟨m', lt, i + 1, H', (J'.unpinned (pins := [])).weak len8 (fun j v e => ?_), T.keep _ _ _ st7 fun b hb o e => (pinned b hb o e).1, fun b hb => ?_, w'⟩
        · rw [← hw8] at e
          exact (wipe_some e).1
        · obtain ⟨o, e, _⟩ := T.obj _ _ st7 b hb
          exact (pinned b hb o e).2
      refine thnF (pT.run _ s8 σ8 H8 _ I8 q8) fun c s9 ⟨H9, I9, q9⟩ => ?_
      cases c with
      | false =>
        simp only [Bool.false_eq_true, if_false] at q9 ⊢
        exact next I9 q9
      | true =>
        simp only [if_true] at q9 ⊢
        refine thnF (pK.run _ s9 σ8 H9 _ I9 q9) fun ky sK ⟨yk, HK, IK, rK, qK⟩ => thnF (pV.run _ sK σ8 HK _ IK qK) fun vy sV ⟨yv, HV, IV, rV, kvs, k, b, ek, hb, hD, lim, nx⟩ => ?_
        subst ek
        obtain rfl : ky = Value.ref b := rK
        exact put_row (X := X.blk sC HC scope ce fp) hu IV hD hb lim rV fun sN IN => next IN nx
  have first := loop m0 sE ⟨0, HC, ID, stE, noneF, z0⟩
  exact codeAny_compStart_dict first (T.self X.A 0 _ _ _ stE first)
/-- as a value -/
theorem pe_dcT {kx vx tg iter : Expr} {ifs : List Expr} {scope : Scope} {own : List (Str × Nat)} {pos : Pos} {wi : TI} {g : TG} {tt : TT} {tk tv : TE} (hc : X.calm = true) (hN : X.N.Nodup) (hu : X.A.units + 1 < cLine) (hi : PI X tg iter wi) (ok : BlkOk X.N X.env.scope scope own)
    (hg : ∀ (s : Shared) (H : Hp) (C : Addr) (cl : List (Str × Addr)) (fp : List Addr), PG (X.blk s H scope (compEnvC scope cl C X.env) fp) tg g)
    (ht : ∀ (s : Shared) (H : Hp) (C : Addr) (cl : List (Str × Addr)) (fp : List Addr), PTs (X.blk s H scope (compEnvC scope cl C X.env) fp) ifs tt)
    (hk : ∀ (s : Shared) (H : Hp) (C : Addr) (cl : List (Str × Addr)) (fp : List Addr), PE (X.blk s H scope (compEnvC scope cl C X.env) fp) kx tk)
    (he : ∀ (s : Shared) (H : Hp) (C : Addr) (cl : List (Str × Addr)) (fp : List Addr), PE (X.blk s H scope (compEnvC scope cl C X.env) fp) vx tv)
    (hs : ∀ x, foldedSetIterable iter X.env x = pure x := by intro _; rfl) : PE X (.DictComp kx vx [⟨tg, iter, ifs, 0⟩] scope pos) (tDcT wi g tt tk tv (own.map (·.2))) := ⟨fun pins s σ H Q I0 read => by
  rw [arm_eval_DictComp]
  refine dcT_core hc hN hu hi ok hg ht hk he hs I0 read fun D C s' m H' J q n f => ⟨m, n, fun h2 sb => ⟨.ref D, H', ?_, rfl, q⟩⟩
  exact J.turned (t' := s'.toks) (fun b o nb e => (sb.2 b nb).trans e) f.1 f.2.1 f.2.2.2.1 f.2.2.2.2.1 f.2.2.2.2.2⟩
/-- given a name that is the def's own, a word of the comprehension too -/
theorem ps_setDcT {i : Nat} {y : Str} {py spos : Pos} {kx vx tg iter : Expr} {ifs : List Expr} {scope : Scope} {own : List (Str × Nat)} {pos : Pos} {wi : TI} {g : TG} {tt : TT} {tk tv : TE} (hc : X.calm = true) (hN : X.N.Nodup) (hu : X.A.units + 1 < cLine) (hy : X.N[i]? = some y)
    (loc : X.env.scope.names.lookup y = some .local) (hsw : swapsWith (.DictComp kx vx [⟨tg, iter, ifs, 0⟩] scope pos) (some (.Name y py)) spos.line X.env = pure true) (hi : PI X tg iter wi) (ok : BlkOk X.N X.env.scope scope own)
    (hg : ∀ (s : Shared) (H : Hp) (C : Addr) (cl : List (Str × Addr)) (fp : List Addr), PG (X.blk s H scope (compEnvC scope cl C X.env) fp) tg g)
    (ht : ∀ (s : Shared) (H : Hp) (C : Addr) (cl : List (Str × Addr)) (fp : List Addr), PTs (X.blk s H scope (compEnvC scope cl C X.env) fp) ifs tt)
    (hk : ∀ (s : Shared) (H : Hp) (C : Addr) (cl : List (Str × Addr)) (fp : List Addr), PE (X.blk s H scope (compEnvC scope cl C X.env) fp) kx tk)
    (he : ∀ (s : Shared) (H : Hp) (C : Addr) (cl : List (Str × Addr)) (fp : List Addr), PE (X.blk s H scope (compEnvC scope cl C X.env) fp) vx tv)
    (hs : ∀ x, foldedSetIterable iter X.env x = pure x := by intro _; rfl) : PS X (.Assign [.Name y py] (.DictComp kx vx [⟨tg, iter, ifs, 0⟩] scope pos) spos) (tAsg (tDcT wi g tt tk tv (own.map (·.2))) (gName i)) := ⟨fun pins s σ H F I0 read => by
  rw [exec_Assign_Name_used _ _ _ _ hsw]
  refine wpAny_bind (wpAny_standAt (wpAny_bind ?_))
  have read : tDcT wi g tt tk tv (own.map (·.2)) σ H (fun x H1 => gName i x σ H1 F.nx) := read
  show wpAny (model X.prog X.w) X.A (do let _ ← comprehension (.DictComp kx vx [⟨tg, iter, ifs, 0⟩] scope pos) scope X.env (firstIterPos [⟨tg, iter, ifs, 0⟩] pos) newDict false (eval iter X.env) (some (assign (.Name y py) X.env))) _ X.xe s
  refine wpAny_bind (thn (dcT_core (Qf := fun _ s2 => SP X pins F .next s2) hc hN hu hi ok hg ht hk he hs I0 read fun D C s' m H' J q n f => ?_) fun _ s2 h2 => wpAny_pure (wpAny_pure h2))
  show wpAny (model X.prog X.w) X.A (assign (.Name y py) X.env (.ref D)) _ X.xe s'
  refine wpAny_assign_Name (store_ok2 (v := V.ref D) J hN hy (.inl loc) rfl (fun s3 I3 ⟨a, sb, ha⟩ => ?_) (.inr loc))
  have other : C ≠ a := ha.elim (fun z => by rw [z]; exact f.2.1) fun z e => f.2.2.2.2.1 y a z e.symm
  exact ⟨m, n.sameBut sb other, fun h4 sb4 => ⟨_, H', I3.turned (t' := s3.toks) (fun b o nb e => (sb4.2 b nb).trans e) f.1 f.2.1 f.2.2.2.1 f.2.2.2.2.1 f.2.2.2.2.2, q⟩⟩⟩
theorem swD_true {kx vx : Expr} {gs : List Comprehension} {scope : Scope} {pos py : Pos} {y : Str} {l : Nat} {env : Env} (hk : env.scope.kind = .function) (hy : env.scope.names.lookup y = some .local) (hl : (py.line == pos.line) = true)
    (ha : (scope.names.any fun (n, k) => n == y && (k == .local || k == .cell)) = false) : swapsWith (.DictComp kx vx gs scope pos) (some (.Name y py)) l env = pure true := by
  have hb : env.blockKind = .function := by
    unfold Env.blockKind
    rw [hk]
    rfl
  unfold swapsWith
  simp only [hb, show env.kindOf y = some .local from hy, ha, Expr.pos, hl]
  rfl
theorem dcT_tup {K : PySem.W.Frag} {a : Addr} {xs : List V} {g : TG} {tt : TT} {tk tv : TE} {vs : List Nat} {σ : L2.St} {H1 : Hp} {D : Addr} {Qd : Hp → Prop} (Pv : Nat → Hp → Prop) (h0 : Pv 0 (upd H1 D (.dT []))) (hl : ∀ i H, Pv i H → SqT K H a xs)
    (hs : ∀ i x H, xs[i]? = some x → Pv i H → g x (wipe σ vs) H fun σ2 H2 => wipe σ2 vs = wipe σ vs ∧ tt σ2 H2 fun c H3 =>
      if c = true then tk σ2 H3 fun y H4 => tv σ2 H4 fun z H5 => ∃ kvs k b, y = .ref b ∧ H5 b = some (.tup (k.map kV)) ∧ H5 D = some (.dT kvs) ∧ kvs.length < sizeLine ∧ Pv (i + 1) (upd H5 D (.dT (putK kvs k z))) else Pv (i + 1) H3) (hd : ∀ H, Pv xs.length H → Qd H) :
    ∃ Z : Nat → Nat → Hp → Prop, (∃ m, Z 0 m (upd H1 D (.dT []))) ∧ ∀ i m H, Z i m H →
      ((Itt K a).stop i H ∧ Qd H) ∨ ((Itt K a).go i H ∧ ∃ Nx : Hp → Prop, (∀ H', Nx H' → ∃ m', m' < m ∧ Z (i + 1) m' H') ∧ ∀ x H', (Itt K a).yld i H x H' → g x (wipe σ vs) H' fun σ2 H2 => wipe σ2 vs = wipe σ vs ∧ tt σ2 H2 fun c H3 =>
        if c = true then tk σ2 H3 fun y H4 => tv σ2 H4 fun z H5 => ∃ kvs k b, y = .ref b ∧ H5 b = some (.tup (k.map kV)) ∧ H5 D = some (.dT kvs) ∧ kvs.length < sizeLine ∧ Nx (upd H5 D (.dT (putK kvs k z))) else Nx H3) := by
  refine ⟨fun i m H => m + i = xs.length ∧ Pv i H, ⟨xs.length, rfl, h0⟩, fun i m H ⟨e, p⟩ => ?_⟩
  have q := hl i H p
  cases m with
  | zero =>
    have e : i = xs.length := by omega
    subst e
    exact .inl ⟨⟨xs, q, Nat.le_refl _⟩, hd H p⟩
  | succ m =>
    have lt : i < xs.length := by omega
    refine .inr ⟨⟨xs, xs[i], q, List.getElem?_eq_getElem lt⟩, Pv (i + 1), fun H' p' => ⟨m, by omega, by omega, p'⟩, fun x H' y => ?_⟩
    obtain ⟨rfl, y⟩ := y
    exact hs i x _ (y xs q) p
end
end KDk
/-! All rows of so many words. -/
namespace K01
open PySem PySem.Spec PyProof.Rows L2 KG KS KA
theorem each_app {α β : Type} {R : α → β → Prop} : ∀ {as cs : List α} {bs ds : List β}, W.EachIs R as bs → W.EachIs R cs ds → W.EachIs R (as ++ cs) (bs ++ ds)
  | _, _, _, _, .nil, k => k
  | _, _, _, _, .cons h t, k => .cons h (each_app t k)
/-- all rows of n texts -/
def allR (n : Nat) (ds : List Str) : List (List Str) := prods (List.replicate n ds)
theorem allR_succ (n : Nat) (ds : List Str) : allR (n + 1) ds = step (allR n ds) ds := by
  unfold allR prods
  rw [List.replicate_succ', List.foldl_append]
  rfl
theorem allR_len : ∀ (n : Nat) (ds : List Str), (allR n ds).length = ds.length ^ n
  | 0, _ => rfl
  | n + 1, ds => by rw [allR_succ, step_len, allR_len n ds, Nat.pow_succ]
theorem allR_le {n : Nat} {ds : List Str} (h : n ≤ 3) (k : ds.length ≤ 3) : (allR n ds).length ≤ 27 := by
  rw [allR_len]
  calc ds.length ^ n ≤ 3 ^ n := Nat.pow_le_pow_left k n
    _ ≤ 3 ^ 3 := Nat.pow_le_pow_right (by decide) h
theorem allR_row {n : Nat} {ds r : List Str} (h : r ∈ allR n ds) : r.length = n := by
  have z := rows_len [] [[]] 0 (by simp) (List.replicate n ds) (List.Sublist.refl _) r h
  rw [List.length_replicate] at z
  omega
end K01
/-! Tables as data: how long their texts are; which rows a product has. -/
namespace K01
open PySem PySem.Spec PyProof.Rows L2 KG KS KA
theorem mem_fold : ∀ (cols : List (List Str)) (R : List (List Str)) (q s : List Str), q ∈ R → s.length = cols.length → (∀ (i : Nat) c x, cols[i]? = some c → s[i]? = some x → x ∈ c) → q ++ s ∈ cols.foldl step R
  | [], R, q, s, h, l, _ => by
    have e : s = [] := List.length_eq_zero_iff.mp l
    rw [e, List.append_nil]
    exact h
  | c :: cols, R, q, s, h, l, k => by
    cases s with
    | nil => cases l
    | cons y s =>
      have z : (q ++ [y]) ++ s ∈ cols.foldl step (step R c) := mem_fold cols (step R c) (q ++ [y]) s (List.mem_flatMap.mpr ⟨q, h, List.mem_map.mpr ⟨y, k 0 c y rfl rfl, rfl⟩⟩) (Nat.succ.inj l) fun i c x h1 h2 => k (i + 1) c x h1 h2
      rw [List.append_assoc] at z
      exact z
theorem mem_prods {cols : List (List Str)} {s : List Str} (l : s.length = cols.length) (k : ∀ (i : Nat) c x, cols[i]? = some c → s[i]? = some x → x ∈ c) : s ∈ prods cols := mem_fold cols [[]] [] s List.mem_cons_self l k
theorem mem_allR {n : Nat} {ds s : List Str} (l : s.length = n) (k : ∀ x ∈ s, x ∈ ds) : s ∈ allR n ds := mem_prods (by rw [List.length_replicate, l]) fun i c x h1 h2 => by
  have e : c = ds := List.eq_of_mem_replicate (List.mem_of_getElem? h1)
  rw [e]
  exact k x (List.mem_of_getElem? h2)
theorem allR_asc {n : Nat} {ds : List Str} (h : AscT ds) : Asc (allR n ds) := prods_asc (List.replicate n ds) [[]] 0 (List.pairwise_singleton _ _) (by simp) fun c hc => by
  rw [List.eq_of_mem_replicate hc]
  exact h
theorem prods_asc0 {cols : List (List Str)} (h : ∀ c ∈ cols, AscT c) : Asc (prods cols) := prods_asc cols [[]] 0 (List.pairwise_singleton _ _) (by simp) h
theorem fold_len : ∀ (cols R : List (List Str)), (cols.foldl step R).length = cols.foldl (fun k c => k * c.length) R.length
  | [], _ => rfl
  | c :: cols, R => by
    show ((cols.foldl step (step R c)).length) = cols.foldl (fun k c => k * c.length) (R.length * c.length)
    rw [fold_len cols, step_len]
theorem prods_len (cols : List (List Str)) : (prods cols).length = cols.foldl (fun k c => k * c.length) 1 := fold_len cols [[]]
theorem cols_sub {R cols : List (List Str)} {n : Nat} (h : ColsOf R n cols) (len : ∀ r ∈ R, r.length = n) : ∀ r ∈ R, r ∈ prods cols := fun r hr => mem_prods (by rw [len r hr, h.1]) fun i c x h1 h2 => ((h.2 i c h1).2 x).mpr ⟨r, hr, h2⟩
theorem cols_asc {R cols : List (List Str)} {n : Nat} (h : ColsOf R n cols) : Asc (prods cols) := prods_asc0 fun c hc => by
  obtain ⟨i, hi⟩ := List.getElem?_of_mem hc
  exact (h.2 i c hi).1
/-! texts -/
theorem name_cost {x : Str} (h : nameOk x = true) : cost (.str x) ≤ 82 := by
  unfold nameOk at h
  simp only [Bool.and_eq_true, decide_eq_true_eq] at h
  have a := h.2.1
  unfold Txt.isascii at a
  rw [Array.all_eq_true] at a
  have z := StrLaws.reprText_len x fun c hc => by
    obtain ⟨i, hi⟩ := List.getElem?_of_mem hc
    have hl : i < x.cps.size := by
      have := (List.getElem?_eq_some_iff.mp hi).1
      simpa using this
    have e : x.cps[i] = c := by
      have := (List.getElem?_eq_some_iff.mp hi).2
      simpa using this
    have b := of_decide_eq_true (a i hl)
    rw [e] at b
    exact Nat.lt_trans b (by decide)
  show (reprText x).length ≤ 82
  omega
theorem texts_cost : ∀ {xs : List Str}, (∀ x ∈ xs, nameOk x = true) → costAll (xs.map PyData.str) ≤ 84 * xs.length
  | [], _ => Nat.zero_le _
  | x :: xs, h => by
    have a := name_cost (h x List.mem_cons_self)
    have b := texts_cost fun y hy => h y (List.mem_cons_of_mem _ hy)
    show cost (.str x) + 2 + costAll (xs.map PyData.str) ≤ 84 * (xs.length + 1)
    omega
theorem rows_cost {n : Nat} : ∀ {R : List (List Str)}, (∀ r ∈ R, r.length ≤ n ∧ ∀ x ∈ r, nameOk x = true) → costAll (R.map txd) ≤ (84 * n + 8) * R.length
  | [], _ => Nat.zero_le _
  | r :: R, h => by
    have hr := h r List.mem_cons_self
    have a := texts_cost hr.2
    have b := rows_cost (n := n) fun y hy => h y (List.mem_cons_of_mem _ hy)
    show (costAll (r.map PyData.str) + 6) + 2 + costAll (R.map txd) ≤ (84 * n + 8) * (R.length + 1)
    have c : 84 * r.length ≤ 84 * n := Nat.mul_le_mul_left _ hr.1
    rw [Nat.mul_succ]
    omega
theorem texts_show : ∀ xs : List Str, PyData.showableAll (xs.map PyData.str) = true
  | [] => rfl
  | x :: xs => by
    show (true && PyData.showableAll (xs.map PyData.str)) = true
    rw [texts_show xs]
    rfl
theorem rows_show : ∀ R : List (List Str), PyData.showableAll (R.map txd) = true
  | [] => rfl
  | r :: R => by
    show (PyData.showableAll (r.map PyData.str) && PyData.showableAll (R.map txd)) = true
    rw [texts_show r, rows_show R]
    rfl
theorem texts_depth : ∀ xs : List Str, PyData.depthAll (xs.map PyData.str) ≤ 1
  | [] => by decide
  | x :: xs => by
    simp only [List.map_cons, PyData.depthAll, PyData.depth]
    have := texts_depth xs
    omega
theorem rows_depth : ∀ R : List (List Str), PyData.depthAll (R.map txd) ≤ 2
  | [] => by decide
  | r :: R => by
    simp only [List.map_cons, PyData.depthAll]
    have h1 := rows_depth R
    have h2 := texts_depth r
    have h3 : (txd r).depth ≤ 2 := by
      simp only [txd, PyData.depth]
      omega
    omega
theorem texts_dq {Z : Addr → Prop} {H : Hp} : ∀ xs : List Str, DqAll Z H (xs.map V.str) (xs.map PyData.str)
  | [] => .nil
  | x :: xs => .cons (.str x) (texts_dq xs)
theorem rows_dq {H : Hp} : ∀ {vs : List V} {R : List (List Str)}, RowsAt H vs R → DqAll (fun _ => True) H vs (R.map txd)
  | _, _, .nil => .nil
  | _, _, .cons ⟨a, e, h⟩ t => by
    rw [e]
    exact .cons (.tup trivial h (texts_dq _)) (rows_dq t)
/-- what a table holds, as data -/
def tabD (ds : List Str) (n : Nat) (R : List (List Str)) : PyData := .tuple [txd ds, .int (n : Nat), rowsD R]
theorem tabD_fits {ds : List Str} {n : Nat} {R : List (List Str)} (hd : ∀ x ∈ ds, nameOk x = true) (d3 : ds.length ≤ 3) (n3 : n ≤ 3) (hR : ∀ r ∈ R, r.length = n ∧ ∀ x ∈ r, x ∈ ds) (h64 : R.length < 64) :
    (tabD ds n R).showable = true ∧ (tabD ds n R).depth ≤ 60 ∧ (tabD ds n R).shown.length ≤ sizeLine := by
  have hl : (n : Int).natAbs.log2 < 1920 := by
    have : (n : Int).natAbs ≤ 3 := by omega
    have z : (n : Int).natAbs.log2 ≤ (n : Int).natAbs := Nat.log2_le_self _
    omega
  refine ⟨?_, ?_, ?_⟩
  · show (PyData.showableAll (ds.map PyData.str) && (decide ((n : Int).natAbs.log2 < 1920) && (PyData.showableAll (R.map txd) && true))) = true
    rw [texts_show, rows_show, decide_eq_true hl]
    rfl
  · have h1 := texts_depth ds
    have h2 := rows_depth R
    simp only [tabD, txd, rowsD, PyData.depth, PyData.depthAll] at *
    omega
  · refine Nat.le_trans (shown_cost _) ?_
    have h1 := texts_cost hd
    have h2 := rows_cost (n := 3) (R := R) fun r hr => ⟨by rw [(hR r hr).1]; exact n3, fun x hx => hd x ((hR r hr).2 x hx)⟩
    have z : (n : Int).natAbs.log2 ≤ (n : Int).natAbs := Nat.log2_le_self _
    show (costAll (ds.map PyData.str) + 6) + 2 + (((n : Int).natAbs.log2 + 3) + 2 + ((costAll (R.map txd) + 6) + 2 + 0)) + 6 ≤ sizeLine
    rw [sizeLine_eq]
    omega
end K01
/-! Whether a table holds these rows. -/
namespace K01
open PySem PySem.Spec PyProof.Rows L2 KG KS KA
/-- a table at t -/
structure TabAt (C : Addr) (H : Hp) (t : Addr) (ds : List Str) (n : Nat) (R : List (List Str)) : Prop where
  ex : ∃ (dx d p : Addr) (rs : List V) (cols : List (List Str)), H t = some (.ins C dx (tabFs d p n (decide (R = allR n ds)) (decide (R = prods cols)))) ∧ H d = some (.tup (ds.map V.str)) ∧ H p = some (.tup rs) ∧ RowsAt H rs R ∧ ColsOf R n cols
  asc : Asc R
  row : ∀ r ∈ R, r.length = n ∧ ∀ x ∈ r, x ∈ ds
  h64 : R.length < 64
  dom : AscT ds ∧ (∀ x ∈ ds, nameOk x = true) ∧ 1 ≤ ds.length ∧ ds.length ≤ 3 ∧ 1 ≤ n ∧ n ≤ 3
theorem TabAt.up {C : Addr} {H H' : Hp} {t : Addr} {ds : List Str} {n : Nat} {R : List (List Str)} (T : TabAt C H t ds n R) (e : Same H H') : TabAt C H' t ds n R := by
  obtain ⟨dx, d, p, rs, cols, h1, h2, h3, h4, h5⟩ := T.ex
  exact ⟨⟨dx, d, p, rs, cols, e _ _ h1, e _ _ h2, e _ _ h3, h4.up e, h5⟩, T.asc, T.row, T.h64, T.dom⟩
end K01
/-! Tables that operators make. -/
namespace K01
open PySem PySem.Spec PyProof.Rows L2 KG KS KA
abbrev s_tabAnd : Stmt := inCls 22 7
abbrev s_tabSub : Stmt := inCls 22 9
theorem TabAt.le {C : Addr} {H : Hp} {t : Addr} {ds : List Str} {n : Nat} {R : List (List Str)} (T : TabAt C H t ds n R) : R.length ≤ 27 := by
  obtain ⟨dasc, dok, d1, d3, n1, n3⟩ := T.dom
  have sub : ∀ r ∈ R, r ∈ allR n ds := fun r hr => mem_allR (T.row r hr).1 (T.row r hr).2
  have lim := allR_le n3 d3
  rcases Nat.le_total R.length (allR n ds).length with h | h
  · omega
  · have := (perm_of_sub R (allR n ds) (asc_nodup T.asc) sub h).length_eq
    omega
theorem iteT' {b : Bool} {p q : Prop} (c : b = true) (h : p) : if b = true then p else q := by rw [if_pos c]; exact h
theorem iteF' {b : Bool} {p q : Prop} (c : ¬ b = true) (h : q) : if b = true then p else q := by rw [if_neg c]; exact h
/-- a table made of rows that stand on the heap -/
theorem make_tab {C : Addr} {H : Hp} {d r : Addr} {ds : List Str} {n : Nat} {rs : List V} {R : List (List Str)} {Q : VK} {E : XK} (hd : H d = some (.tup (ds.map V.str)))
    (dom : AscT ds ∧ (∀ x ∈ ds, nameOk x = true) ∧ 1 ≤ ds.length ∧ ds.length ≤ 3 ∧ 1 ≤ n ∧ n ≤ 3) (hr : H r = some (.tup rs)) (hR : RowsAt H rs R) (row : ∀ q ∈ R, q.length = n ∧ ∀ x ∈ q, x ∈ ds) (h64 : R.length < 64)
    (q : ∀ (o : Addr) (H' : Hp) (R' : List (List Str)), H o = none → Same H H' → TabAt C H' o ds n R' → (∀ row, row ∈ R' ↔ row ∈ R) → Q (.ref o) H') :
    ∀ x dx, H x = none → H dx = none → dx ≠ x → spTab C (.ref x :: ([.ref d, .int (n : Nat), .ref r] ++ [])) (upd (upd H dx (.own x)) x (.ins C dx [])) (fun v H2 => v = .non ∧ Q (.ref x) H2) E := by
  obtain ⟨dasc, dok, d1, d3, n1, n3⟩ := dom
  intro o dx ho hdx nox
  have e5 := same_trans (same_new (o := .own o) hdx) (same_new (o := .ins C dx []) (show upd H dx (.own o) o = none by rw [upd_ne nox.symm]; exact ho))
  refine ⟨o, dx, d, r, n, ds, rs, R, rfl, upd_same, e5 _ _ hd, dok, List.pairwise_map.mpr dasc, d1, d3, n1, n3, e5 _ _ hr, hR.up e5, row, h64, fun H6 pk ks R' cols but hx6 hpk hn hR' mem asc co => ⟨rfl, ?_⟩⟩
  have e6 : Same H H6 := fun b u e => but _ _ (e5 _ _ e) (fun z => by
    rw [z] at e
    rw [e] at ho
    cases ho)
  have row' : ∀ q ∈ R', q.length = n ∧ ∀ x ∈ q, x ∈ ds := fun q hq => row q ((mem q).mp hq)
  refine q o H6 R' ho e6 ⟨⟨dx, d, pk, ks, cols, hx6, e6 _ _ hd, hpk, hR', co⟩, asc, row', ?_, dasc, dok, d1, d3, n1, n3⟩ mem
  rcases Nat.le_total R'.length R.length with h | h
  · omega
  · have := (perm_of_sub R' R (asc_nodup asc) (fun x hx => (mem x).mp hx) h).length_eq
    omega
/-- one step of [row for row in rows if ..] -/
theorem filt_step {H1 H3 : Hp} {D b : Addr} {ac : List V} {R : List (List Str)} {i : Nat} {ts : List Str} (p : List Str → Bool) (hD : H1 D = none) (e : Same H1 H3) (hac : H3 D = some (.lst ac)) (hB : RowsAt H3 ac ((R.take i).filter p))
    (hRi : R[i]? = some ts) (hb : H3 b = some (.tup (ts.map V.str))) (lim : R.length < 100000) :
    if p ts = true then ∃ acc, H3 D = some (.lst acc) ∧ acc.length < sizeLine ∧ ∃ ac', Same H1 (upd H3 D (.lst (acc ++ [V.ref b]))) ∧ upd H3 D (.lst (acc ++ [V.ref b])) D = some (.lst ac') ∧ RowsAt (upd H3 D (.lst (acc ++ [V.ref b]))) ac' ((R.take (i + 1)).filter p)
    else ∃ ac', Same H1 H3 ∧ H3 D = some (.lst ac') ∧ RowsAt H3 ac' ((R.take (i + 1)).filter p) := by
  have la := hB.length
  have l2 : ((R.take i).filter p).length ≤ R.length := Nat.le_trans (List.length_filter_le _ _) (List.take_sublist _ _).length_le
  rw [take_next hRi, List.filter_append]
  by_cases c : p ts = true
  · rw [if_pos c]
    refine ⟨ac, hac, by rw [sizeLine_eq]; omega, ac ++ [V.ref b], same_put hD e, upd_same, ?_⟩
    have hrow := each_snoc hB (show ∃ a, V.ref b = V.ref a ∧ H3 a = some (.tup (ts.map V.str)) from ⟨b, rfl, hb⟩)
    rw [show [ts].filter p = [ts] by simp [c]]
    refine each_and hrow fun v ts _ ⟨b, e6, e7⟩ => ⟨b, e6, ?_⟩
    rw [upd_ne (ne_of e7 hac (by intro z; cases z))]
    exact e7
  · rw [if_neg c, show [ts].filter p = [] by simp [c], List.append_nil]
    exact ⟨ac, e, hac, hB⟩
end K01
/-! o.m(k = e). -/
namespace K01
open PySem PySem.Spec PyProof.Rows L2 KG KS KX
/-! ### o.m(k = e) -/
def tMethKw (C : Addr) (m : Str) (sp : Sp) (E : XK) (ta : TE) (tk : TA) : TE := fun σ H Q => ta σ H fun x H1 => ∃ a dx fs, x = V.ref a ∧ H1 a = some (.ins C dx fs) ∧ fs.lookup m = none ∧ tk σ H1 fun zs H2 => ∃ v, zs = [v] ∧ sp [x, v] H2 Q E
section
variable {X : Cx} {CX : CXT} {k : Nat} {f C : Addr} {fd : FuncData} {ps : List Str} {sp : Sp} {E : XK} {m kn : Str} {pos apos : Pos} {o : Expr} {kws : List Keyword} {ta : TE} {tk : TA}
theorem pe_methKw {pl : Sem Bool} (he : PE X o ta) (c : L2.Cls X.K C) (hm : Meth X.K C m f) (F : FnOk X.prog X.w X.K X.mg X.base CX k f fd ps sp) (hr : Room k X.A) (hb : KwOne fd ps kn) (hx : Passes CX X E) (hkw : PK X kws tk)
    (hall : (backToKw pos (keywordEach kws X.env)).all (·.1.isSome) = true := by rfl) (hks : (backToKw pos (keywordEach kws X.env)).filterMap (·.1) = [kn] := by rfl)
    (hpl : ((backTo pos (starEach [] X.env)).any (·.1) || (backToKw pos (keywordEach kws X.env)).any (·.1.isNone)) = false := by rfl)
    (ht : eval (.Call (.Attribute o m apos) [] kws pos) X.env = (do
      let ov ← eval o X.env
      standAt apos.atName
      let (f, first) ← holding [ov] (getMethod ov m pl)
      callWith pos f first (backTo pos (starEach [] X.env)) (backToKw pos (keywordEach kws X.env))) := by rfl) : PE X (.Call (.Attribute o m apos) [] kws pos) (tMethKw C m sp E ta tk) := by
  refine ⟨fun pins s σ H Q I h => ?_⟩
  refine PySem.W.methodCall_KW (pl := pl) (thn (he.run pins s σ H _ I h) fun u s1 ⟨x, H1, I1, rx, a, dx, fs, ex, ea, l, q⟩ => ?_) ht
  subst ex
  obtain rfl : u = Value.ref a := rx
  refine getmeth_ok I1 ea c hm l ?_
  refine PySem.W.callWith_KW0 (first := [.ref a]) (h₀ := X.base) I.ok.mod.kin hm.kp hall ?_ hpl
  refine thn (hkw.run pos pins s1 σ H1 _ I1 q) ?_
  rintro ws s2 ⟨zs, H2, I2, rz, v, ev, q2⟩
  subst ev
  obtain ⟨u, eu, ru⟩ := vals1 rz
  subst eu
  refine ⟨I2.kIn, ?_⟩
  rw [hks]
  show wpAny _ _ (call (.ref f) [.ref a] [(kn, u)]) _ _ _
  refine wpAny_call (codeAny_mono (F.run X.A X.stack s2 H2 ⟨[.ref a], [(kn, u)]⟩ [.ref a, u] [.ref a, v] Q E hr I2.env0 (hb _ _ _) (.cons rfl (.cons ru .nil)) q2) ?_)
  rintro (er | fl) s' z
  · exact hx pins σ H2 s2 er s' I2 z
  · cases fl with
    | ret u => exact I2.after z
    | next => exact z.elim
    | brk => exact z.elim
    | cont => exact z.elim
end
/-- a method whose one keyword is told -/
structure MtK (K : PySem.W.Frag) (C : Addr) (m qual : Str) (st : Stmt) (ps : List Str) (kn : Str) where
  f : MtF K m qual st
  M : Meth K C m f.a
  kw : KwOne f.d ps kn
end K01
/-! Vote.broken, Vote.keeps. -/
namespace K01
open PySem PySem.Spec PyProof.Rows L2 KG KS KA KX KIa KFz KTc
abbrev s_vtKeeps : Stmt := inCls 18 5
abbrev s_vtBroken : Stmt := inCls 18 6
abbrev NBr : List Str := ["self", "table", "has_row", "row", "rows", "column"]
/-- rows that break, or nothing -/
def brkS (xs : List Str) (k : Nat) (rs : List Str) (n : Nat) (R : List (List Str)) : Option (List (List Str)) := (pw R k).find? fun some => decide (voteS xs k rs n some ∉ R)
/-- what broken tells -/
def BrkAt (H : Hp) (v : V) (xs : List Str) (k : Nat) (rs : List Str) (n : Nat) (R : List (List Str)) : Prop := match brkS xs k rs n R with
  | none => v = .non
  | some rows => ∃ (p1 p2 p3 : Addr) (kz : KzL), v = .ref p1 ∧ H p1 = some (.tup [V.ref p2, V.ref p3]) ∧ H p2 = some (.tup (refs kz)) ∧ RL H kz ∧ kz.map (·.2) = rows ∧ H p3 = some (.tup ((voteS xs k rs n rows).map V.str))
theorem BrkAt.up {H H' : Hp} {v : V} {xs rs : List Str} {k n : Nat} {R : List (List Str)} (e : Same H H') (h : BrkAt H v xs k rs n R) : BrkAt H' v xs k rs n R := by
  unfold BrkAt at h ⊢
  cases b : brkS xs k rs n R with
  | none =>
    rw [b] at h
    exact h
  | some rows =>
    rw [b] at h
    obtain ⟨p1, p2, p3, kz, h1, h2, h3, h4, h5, h6⟩ := h
    exact ⟨p1, p2, p3, kz, h1, e _ _ h2, e _ _ h3, h4.up e, h5, e _ _ h6⟩
theorem brk_full {xs rs : List Str} {k n : Nat} (G : VGood xs k rs) : brkS xs k rs n (pw xs n) = none := by
  unfold brkS
  rw [List.find?_eq_none]
  intro some hs z
  obtain ⟨l, sub⟩ := mem_pw.mp hs
  have hrw : ∀ r ∈ some, r.length = n ∧ ∀ x ∈ r, x ∈ xs := fun r hr => mem_pw.mp (sub r hr)
  exact of_decide_eq_true z (mem_pw.mpr ⟨voteS_len, voteS_sub G l hrw⟩)
/-- a dict whose keys are rows: what it has -/
theorem val_has : ∀ (kz : KzL) (m : Nat) (L : List Str), m = kz.length → (valV (KDz.dtOf kz (List.replicate m (V.bl true))) (KDz.entK L)).isSome = decide (L ∈ kz.map (·.2))
  | [], _, _, _ => by simp [KDz.dtOf, valV]
  | p :: kz, m, L, e => by
    subst e
    have ih := val_has kz kz.length L rfl
    rw [List.length_cons, List.replicate_succ]
    unfold KDz.dtOf at ih ⊢
    rw [List.map_cons, List.map_cons, List.zip_cons_cons]
    by_cases c : p.2 = L
    · rw [valV_pos (by rw [c])]
      simp [c]
    · rw [valV_neg (fun z => c (KDz.entK_inj z)), ih]
      have c2 : ¬ L = p.2 := fun z => c z.symm
      simp [c2]
def spBr (C TC : Addr) (K : PySem.W.Frag) : Sp := fun vs H Q _ => ∃ (o g : Addr) (xs rs : List Str) (k n : Nat) (R : List (List Str)), vs = [.ref o, .ref g] ∧ VtAt C H o xs k rs ∧ VGood xs k rs ∧ TabAt TC H g xs n R ∧ (∀ i, i ≤ k → R.length ^ i ≤ 100000) ∧
  ∀ (v : V) (H' : Hp), Same H H' → BrkAt H' v xs k rs n R → Q v H'
def spKe (C TC : Addr) : Sp := fun vs H Q _ => ∃ (o g : Addr) (xs rs : List Str) (k n : Nat) (R : List (List Str)), vs = [.ref o, .ref g] ∧ VtAt C H o xs k rs ∧ VGood xs k rs ∧ TabAt TC H g xs n R ∧ (∀ i, i ≤ k → R.length ^ i ≤ 100000) ∧
  ∀ (H' : Hp), Same H H' → Q (.bl (brkS xs k rs n R).isNone) H'
theorem BrkAt.non {H : Hp} {v : V} {xs rs : List Str} {k n : Nat} {R : List (List Str)} (h : BrkAt H v xs k rs n R) : decide (v = .non) = (brkS xs k rs n R).isNone := by
  unfold BrkAt at h
  cases b : brkS xs k rs n R with
  | none =>
    rw [b] at h
    rw [h]
    rfl
  | some rows =>
    rw [b] at h
    obtain ⟨p1, _, _, _, rfl, _⟩ := h
    rfl
section
variable {P : Program} {w : World} {K : PySem.W.Frag} {mg : Str → Option Value} {base : Heap}
theorem sc_vtBroken : FnScope NBr ["self", "table"] (defScope s_vtBroken) := ⟨rfl, rfl, rfl, by decide +kernel, rfl, by decide +kernel, by decide +kernel⟩
theorem ok_vtBroken (B : Bz mg) {fI ti : Addr} (C : VtC K mg fI) (T : TabC K mg ti) (fa : FnF K mg "all_rows" "all_rows" s_all_rows) (f : MtF K "broken" "Vote.broken" s_vtBroken) : FnOk P w K mg base CX0 2 f.a f.d ["self", "table"] (spBr C.C T.C K) := by
  have GA := ok_all_rowsW (P := P) (w := w) (base := base) B.toBs fa
  have bA : L2.Binds K fa.d ["columns"] [] := fa.F.binds fun _ _ _ _ _ _ us hl => match us, hl with | [_], _ => rfl
  refine f.F.ok sc_vtBroken (fun vs H Q E h => ?_) (fun cdv A outer s H vs Q E hr h => ?_)
  · obtain ⟨o, g, xs, rs, k, n, R, rfl, _⟩ := h
    rfl
  · obtain ⟨o, g, xs, rs, k, n, R, rfl, hO, G, TA, lim, q⟩ := h
    have hu := hu_of hr
    refine ⟨_, (pss_cons
      (ps_if (pt_val (pe_fld (pv 1) rfl))
        (pss_one
          (ps_ret pe_non))
        pss_nil)
    (pss_cons
      (KDk.ps_setDcT (i := 2) (own := [("row", 3)]) (g := gName 3) (by rfl) sc_vtBroken.nd hu rfl rfl (KDk.swD_true rfl rfl rfl (by decide +kernel)) (pi_tup (pe_fld (pv 1) rfl)) (blkOk_by (own := [("row", 3)]) (N := NBr) (sc := defScope s_vtBroken) (by decide +kernel))
        (fun _ _ _ _ _ => (pg_name (i := 3) sc_vtBroken.nd rfl (Or.inl rfl))) (fun _ _ _ _ _ => pts_nil) (fun _ _ _ _ _ => (pv 3)) (fun _ _ _ _ _ => pe_bl))
    (pss_cons
      (ps_for PassesOwn.never rfl (pi_tup (pe_call GA hr rfl fa.g fa.F.kp bA .nil pass0 (pa_cons (pe_op op_rep (pe_lst (pa_cons (pe_fld (pv 1) rfl) pa_nil)) (pe_fld (pv 0) rfl)) pa_nil))) (pg_name (i := 4) sc_vtBroken.nd rfl (Or.inl rfl))
        (pss_cons
          (ps_set (i := 3) sc_vtBroken.nd rfl (Or.inl rfl) (pe_callTy call_tuple_of (by rfl) B.n_tuple (by decide +kernel) (pa_cons (pe_lc (own := [("column", 5)]) (g := gName 5) (by rfl) sc_vtBroken.nd (KZn.pi_zipS rfl B.n_zip (pv 4)) (blkOk_by (own := [("column", 5)]) (N := NBr) (sc := defScope s_vtBroken) (by decide +kernel))
            (fun _ _ _ _ _ => (pg_name (i := 5) sc_vtBroken.nd rfl (Or.inl rfl))) (fun _ _ _ _ _ => pts_nil) (fun _ _ _ _ _ => (pe_dget hu (show PE _ _ (tFld K (tVar 0) "result_of") from pe_fld (pv 0) rfl) (pv 5) (fun _ _ => rfl)))) pa_nil)))
        (pss_one
          (ps_if (pt_cmp (pc_dnotin hu (pv 3) (pv 2)) (by rfl))
            (pss_one
              (ps_ret (pe_tup (pa_cons (pv 4) (pa_cons (pv 3) pa_nil)))))
            pss_nil))))
    (pss_one
      (ps_ret pe_non))))), ?_⟩
    obtain ⟨dx, d, r, t, ho, ks, hd, hR, ht, eks⟩ := id hO
    obtain ⟨dx2, d2, p, rs0, cols, hg, hd2, hp, hRows, hC⟩ := TA.ex
    have k4 := G.hk
    -- table.is_full
    refine ⟨_, rfl, g, T.C, dx2, _, _, rfl, hg, T.cl, T.nf, rfl, decide (R = allR n xs), rfl, ?_⟩
    by_cases full : R = allR n xs
    · rw [decide_eq_true full]
      refine iteT (q .non H (fun _ _ e => e) ?_)
      have e : allR n xs = pw xs n := (pw_pts xs n).symm
      unfold BrkAt
      rw [full, e, brk_full G]
    rw [decide_eq_false full]
    refine iteF ?_
    obtain ⟨kz, ez, ek, hkz⟩ := rows_kz hRows
    subst ez
    have lR : kz.length = R.length := by rw [← ek, List.length_map]
    have h64 := TA.h64
    have ndk : (kz.map (·.2)).Nodup := by rw [ek]; exact asc_nodup TA.asc
    -- has_row
    refine ⟨_, rfl, g, T.C, dx2, _, _, rfl, hg, T.cl, T.nr, rfl, p, rfl, ⟨_, SqT.of hp⟩, fun D hD => ?_⟩
    refine KDk.dcT_tup (K := K) (xs := refs kz) (fun i H' => Same H H' ∧ H' D = some (.dT (KDz.dtOf (kz.take i) (List.replicate i (V.bl true))))) ⟨same_new hD, by rw [upd_same]; rfl⟩ (fun i H' z => SqT.of (z.1 _ _ hp)) ?_ ?_
    · rintro i y H1 hy ⟨e1, hD1⟩
      rw [List.getElem?_map] at hy
      cases hi : kz[i]? with
      | none =>
        rw [hi] at hy
        cases hy
      | some z =>
        rw [hi] at hy
        obtain rfl : V.ref z.1 = y := Option.some.inj hy
        have il : i < kz.length := (List.getElem?_eq_some_iff.mp hi).1
        have hz := e1 _ _ (hkz z (List.mem_of_getElem? hi))
        have tkn : kz.take (i + 1) = kz.take i ++ [z] := take_next hi
        have lt : (kz.take i).length = i := by rw [List.length_take]; omega
        have out : valV (KDz.dtOf (kz.take i) (List.replicate i (V.bl true))) (KDz.entK z.2) = none := by
          have v := val_has (kz.take i) i z.2 lt.symm
          have nm : z.2 ∉ (kz.take i).map (·.2) := fun m => by
            have nd3 : ((kz.take (i + 1)).map (·.2)).Nodup := by
              rw [List.map_take]
              exact ndk.sublist (List.take_sublist _ _)
            rw [tkn, List.map_append, List.nodup_append] at nd3
            exact nd3.2.2 _ m z.2 (by simp) rfl
          rw [decide_eq_false nm] at v
          cases e : valV (KDz.dtOf (kz.take i) (List.replicate i (V.bl true))) (KDz.entK z.2) with
          | none => rfl
          | some u =>
            rw [e] at v
            cases v
        refine ⟨rfl, _, rfl, _, KDz.entK z.2, z.1, rfl, by rw [KDz.entK_kV]; exact hz, hD1, ?_, ?_⟩
        · unfold KDz.dtOf
          rw [List.length_zip, List.length_map, List.length_replicate, sizeLine_eq]
          omega
        · refine ⟨same_put hD e1, ?_⟩
          rw [upd_same, putK_new _ out, tkn, List.replicate_succ']
          unfold KDz.dtOf
          rw [List.map_append, List.zip_append (by rw [List.length_map, List.length_replicate]; exact lt)]
          rfl
    rintro H1 ⟨e1, hD1⟩
    rw [List.length_map, List.take_length] at hD1
    -- all_rows([table.rows] * self.count)
    refine ⟨_, rfl, g, T.C, dx2, _, _, rfl, e1 _ _ hg, T.cl, T.nr, rfl, by show 1 ≤ sizeLine; decide, fun l hl => ⟨_, rfl, o, C.C, dx, vtFs d k r t, .int (k : Nat), rfl, ?_⟩⟩
    have e2 : Same H1 (upd H1 l (.lst [V.ref p])) := same_new hl
    refine ⟨e2 _ _ (e1 _ _ ho), C.cl, C.nn, rfl, l, k, [V.ref p], rfl, rfl, upd_same, by omega, by omega, by show 1 * ((k : Int).toNat) ≤ _; rw [sizeLine_eq]; omega, fun l2 hl2 => ?_⟩
    have e3 := same_trans e2 (same_new (o := .lst (List.replicate (k : Int).toNat [V.ref p]).flatten) hl2)
    have h3 : upd (upd H1 l (.lst [V.ref p])) l2 (.lst (List.replicate (k : Int).toNat [V.ref p]).flatten) l2 = some (.lst (List.replicate k (V.ref p))) := by
      rw [upd_same]
      congr 2
      rw [Int.toNat_natCast]
      exact flat_rep (V.ref p) k
    generalize upd (upd H1 l (.lst [V.ref p])) l2 (.lst (List.replicate (k : Int).toNat [V.ref p]).flatten) = H3 at e3 h3 ⊢
    have e03 := same_trans e1 e3
    refine ⟨l2, p, refs kz, k, rfl, h3, SqT.of (e03 _ _ hp), by omega, (by rw [List.length_map, lR]; exact lim), fun pa rsA H4 nA e4 hA hW => ⟨pa, rfl, ⟨_, SqT.of hA⟩, ?_⟩⟩
    have e04 := same_trans e03 e4
    have e14 := same_trans e3 e4
    have epw : pw (refs kz) k = (pw kz k).map (List.map fun p => V.ref p.1) := pw_map (fun p : Addr × List Str => V.ref p.1) kz k
    rw [epw] at hW
    have epr : pw R k = (pw kz k).map (List.map (·.2)) := by
      rw [← ek]
      exact pw_map (fun p : Addr × List Str => p.2) kz k
    have lrs := hW.length
    rw [List.length_map] at lrs
    refine for_tup (K := K) (a := pa) (xs := rsA) (fun i σ H' => ∃ v3 v4 : Option V, σ = [some (.ref o), some (.ref g), some (.ref D), v3, v4, none] ∧ Same H4 H' ∧ ∀ ps ∈ (pw kz k).take i, voteS xs k rs n (ps.map (·.2)) ∈ R)
      ⟨none, none, rfl, (fun _ _ e => e), fun _ z => nomatch z⟩ (fun i σ H' _ ⟨_, _, _, e, _⟩ => SqT.of (e _ _ hA)) ?_ ?_
    · rintro i y σ H5 hy ⟨v3, v4, rfl, e5, good⟩
      obtain ⟨ts, hts, a, rfl, _, ha⟩ := each_get hW hy
      rw [List.getElem?_map] at hts
      cases hps : (pw kz k)[i]? with
      | none =>
        rw [hps] at hts
        cases hts
      | some ps =>
        rw [hps] at hts
        obtain rfl : ps.map (fun p => V.ref p.1) = ts := Option.some.inj hts
        obtain ⟨lps, subp⟩ := mem_pw.mp (List.mem_of_getElem? hps)
        have e05 := same_trans e04 e5
        have hps5 : RL H5 ps := (hkz.sub subp).up e05
        have ha5 : H5 a = some (.tup (ps.map fun p => V.ref p.1)) := e5 _ _ ha
        have ha5' : H5 a = some (.tup ((ps.map (·.1)).map V.ref)) := by rw [List.map_map]; exact ha5
        have hrw : ∀ q ∈ ps.map (·.2), q.length = n ∧ ∀ x ∈ q, x ∈ xs := fun q hq => by
          obtain ⟨z, hz, rfl⟩ := List.mem_map.mp hq
          exact TA.row z.2 (by rw [← ek]; exact List.mem_map.mpr ⟨z, subp z hz, rfl⟩)
        have lk : (ps.map (·.2)).length = k := by rw [List.length_map]; exact lps
        have n3 := TA.dom.2.2.2.2.2
        have hL := hps5.ls
        refine ⟨_, rfl, a, ps.map (·.1), rfl, .inl (SqT.of ha5'), by rw [List.length_map, lps]; exact G.hk, ⟨_, hL.sqN⟩, fun D2 hD2 => ?_⟩
        refine KZn.lc_zipN (K := K) (rows := (ps.map (·.2)).map fun r => r.map V.str) (n := n) (fun j H' => Same H5 H' ∧ H' D2 = some (.lst (((voteS xs k rs n (ps.map (·.2))).take j).map V.str))) (fun q hq => ?_) (fun z => ?_) ⟨same_new hD2, upd_same⟩ (fun j H' _ z => (hL.up z.1).sqN) ?_ ?_
        · obtain ⟨r', hr', rfl⟩ := List.mem_map.mp hq
          rw [List.length_map]
          exact (hrw r' hr').1
        · have z2 := congrArg List.length z
          rw [List.length_map, lps] at z2
          rcases G.hk with y | y <;> rw [y] at z2 <;> cases z2
        · rintro j T2 H6 hj ⟨e6, hD6⟩ hT2
          rw [col_map (fun r' hr' => (hrw r' hr').1) hj]
          obtain ⟨u, hu1, hu2⟩ := vote_in G lk hrw hj
          have e7 : Same H6 (upd H6 T2 (.tup ((colS j (ps.map (·.2))).map V.str))) := same_new hT2
          have h7 : upd H6 T2 (.tup ((colS j (ps.map (·.2))).map V.str)) T2 = some (.tup ((colS j (ps.map (·.2))).map V.str)) := upd_same
          generalize upd H6 T2 (.tup ((colS j (ps.map (·.2))).map V.str)) = H7 at e7 h7 ⊢
          have e57 := same_trans e6 e7
          have e07 := same_trans e05 e57
          have dg : DGet H7 t (.ref T2) (valV (KDz.dtOf ks (rs.map V.str)) (KDz.entK (colS j (ps.map (·.2))))) := DGet.t (e07 _ _ ht) (by rw [KDz.entK_kV]; exact h7)
          rw [val_look, eks, hu2] at dg
          have hv : (voteS xs k rs n (ps.map (·.2)))[j]? = some u := by
            unfold voteS
            rw [List.getElem?_map, List.getElem?_range hj, Option.map_some, hu2]
            rfl
          refine ⟨rfl, _, rfl, o, C.C, dx, _, _, rfl, e07 _ _ ho, C.cl, C.no, rfl, _, rfl, t, _, rfl, dg, _, e7 _ _ hD6, by rw [List.length_map, List.length_take, sizeLine_eq]; omega, same_put hD2 e57, ?_⟩
          rw [upd_same, take_next hv, List.map_append]
          rfl
        · rintro H6 ⟨e6, hD6⟩
          rw [List.take_of_length_le (by rw [voteS_len]; exact Nat.le_refl _)] at hD6
          refine ⟨D2, _, rfl, .inl ⟨SqL.of hD6, fun q0 hq0 => ?_⟩⟩
          have e7 : Same H6 (upd H6 q0 (.tup ((voteS xs k rs n (ps.map (·.2))).map V.str))) := same_new hq0
          have h7 : upd H6 q0 (.tup ((voteS xs k rs n (ps.map (·.2))).map V.str)) q0 = some (.tup ((voteS xs k rs n (ps.map (·.2))).map V.str)) := upd_same
          generalize upd H6 q0 (.tup ((voteS xs k rs n (ps.map (·.2))).map V.str)) = H7 at e7 h7 ⊢
          have e57 := same_trans e6 e7
          have e47 := same_trans e5 e57
          have dg : DGet H7 D (.ref q0) (valV (KDz.dtOf kz (List.replicate kz.length (V.bl true))) (KDz.entK (voteS xs k rs n (ps.map (·.2))))) := DGet.t (e47 _ _ (e14 _ _ hD1)) (by rw [KDz.entK_kV]; exact h7)
          refine ⟨_, rfl, _, rfl, D, _, rfl, dg, _, rfl, ?_⟩
          rw [val_has kz kz.length _ rfl, ek]
          have e07 := same_trans e04 e47
          by_cases m : voteS xs k rs n (ps.map (·.2)) ∈ R
          · rw [decide_eq_true m]
            refine iteF ⟨_, _, rfl, e47, fun ps' hps' => ?_⟩
            rw [take_next hps] at hps'
            rcases List.mem_append.mp hps' with z | z
            · exact good ps' z
            · rw [List.mem_singleton.mp z]
              exact m
          · rw [decide_eq_false m]
            refine iteT ⟨_, rfl, _, rfl, by show 2 ≤ sizeLine; decide, fun p1 hp1 => ?_⟩
            have e8 : Same H7 (upd H7 p1 (.tup [V.ref a, V.ref q0])) := same_new hp1
            refine q (.ref p1) _ (same_trans e07 e8) ?_
            have fnd : brkS xs k rs n R = some (ps.map (·.2)) := by
              unfold brkS
              rw [epr, List.find?_map]
              have z : (pw kz k).find? ((fun some => decide (voteS xs k rs n some ∉ R)) ∘ List.map (·.2)) = some ps := by
                rw [List.find?_eq_some_iff_getElem]
                refine ⟨decide_eq_true m, i, (List.getElem?_eq_some_iff.mp hps).1, (List.getElem?_eq_some_iff.mp hps).2, fun j hj => ?_⟩
                have jl : j < (pw kz k).length := Nat.lt_trans hj (List.getElem?_eq_some_iff.mp hps).1
                have g2 := good (pw kz k)[j] (List.mem_take_iff_getElem.mpr ⟨j, by omega, rfl⟩)
                show (!decide _) = true
                rw [decide_eq_false (fun z => z g2)]
                rfl
              rw [z]
              rfl
            unfold BrkAt
            rw [fnd]
            exact ⟨p1, a, q0, ps, rfl, upd_same, e8 _ _ (e57 _ _ ha5), (hps5.up e57).up e8, rfl, e8 _ _ h7⟩
    · rintro σ H5 ⟨v3, v4, rfl, e5, good⟩
      refine q .non H5 (same_trans e04 e5) ?_
      rw [lrs, List.take_length] at good
      have fnd : brkS xs k rs n R = none := by
        unfold brkS
        rw [epr, List.find?_eq_none]
        intro rows hrows z
        obtain ⟨ps, hps, rfl⟩ := List.mem_map.mp hrows
        exact of_decide_eq_true z (good ps hps)
      unfold BrkAt
      rw [fnd]
theorem vt_look {d : Addr} {n : Int} {r t : Addr} : (vtFs d n r t).lookup ("broken" : Str) = none ∧ (vtFs d n r t).lookup ("keeps" : Str) = none ∧ (vtFs d n r t).lookup ("keeps_book" : Str) = none := ⟨rfl, rfl, rfl⟩
theorem sc_vtKeeps : FnScope ["self", "table"] ["self", "table"] (defScope s_vtKeeps) := ⟨rfl, rfl, rfl, by decide +kernel, rfl, by decide +kernel, by decide +kernel⟩
theorem ok_vtKeeps (B : Bz mg) {fI ti : Addr} (C : VtC K mg fI) (T : TabC K mg ti) (fa : FnF K mg "all_rows" "all_rows" s_all_rows) (fb : MtF K "broken" "Vote.broken" s_vtBroken) (mb : Meth K C.C "broken" fb.a) (f : MtF K "keeps" "Vote.keeps" s_vtKeeps) : FnOk P w K mg base CX0 3 f.a f.d ["self", "table"] (spKe C.C T.C) := by
  have GB := ok_vtBroken (P := P) (w := w) (base := base) B C T fa fb
  have bB : L2.Binds K fb.d ["self", "table"] [] := fb.F.binds fun _ _ _ _ _ _ us hl => match us, hl with | [_, _], _ => rfl
  refine f.F.ok sc_vtKeeps (fun vs H Q E h => ?_) (fun cdv A outer s H vs Q E hr h => ?_)
  · obtain ⟨o, g, xs, rs, k, n, R, rfl, _⟩ := h
    rfl
  · obtain ⟨o, g, xs, rs, k, n, R, rfl, hO, G, TA, lim, q⟩ := h
    refine ⟨_, (pss_one
      (ps_ret (pe_cmpR op_isN (pe_meth (pv 0) C.cl mb GB hr bB .nil pass0 (pa_cons (pv 1) pa_nil)) pe_non (nomark _)))), ?_⟩
    obtain ⟨dx, d, r, t, ho, _⟩ := id hO
    refine ⟨_, rfl, o, dx, _, rfl, ho, vt_look.1, _, rfl, o, g, xs, rs, k, n, R, rfl, hO, G, TA, lim, fun v H' e hv => ⟨rfl, ?_⟩⟩
    rw [hv.non]
    exact q H' e
end
end K01
/-! row in rows; tables that are alike. -/
namespace K01
open PySem PySem.Spec PyProof.Rows L2 KG KS KA
section
variable {X : Cx}
theorem texts_plain : ∀ xs : List Str, PyData.plainAll (xs.map PyData.str) = true
  | [] => rfl
  | x :: xs => by
    show (true && PyData.plainAll (xs.map PyData.str)) = true
    rw [texts_plain xs]
    rfl
theorem rows_plain : ∀ R : List (List Str), PyData.plainAll (R.map txd) = true
  | [] => rfl
  | r :: R => by
    show (PyData.plainAll (r.map PyData.str) && PyData.plainAll (R.map txd)) = true
    rw [texts_plain r, rows_plain R]
    rfl
theorem any_rows (r : List Str) : ∀ R : List (List Str), ((R.map txd).any fun y => PyData.eqv y (txd r)) = decide (r ∈ R)
  | [] => rfl
  | q :: R => by
    rw [List.map_cons, List.any_cons, any_rows r R, eqv_row]
    by_cases e : q = r
    · simp [e]
    · have e2 : r ≠ q := fun z => e z.symm
      simp [e, e2]
def rInRows (K : PySem.W.Frag) : R2 := fun x y H Q => ∃ (r : List Str) (R : List (List Str)), Dp K H x (txd r) ∧ Dp K H y (rowsD R) ∧ Q (.bl (decide (r ∈ R))) H
def rOutRows (K : PySem.W.Frag) : R2 := fun x y H Q => ∃ (r : List Str) (R : List (List Str)), Dp K H x (txd r) ∧ Dp K H y (rowsD R) ∧ Q (.bl (!decide (r ∈ R))) H
theorem row_room {r : List Str} {n m : Nat} (h : n + 64 < m) (k : Nat) : n + 1 + min k (txd r).depth < m := by
  have a := texts_depth r
  have b : (txd r).depth ≤ 2 := by
    simp only [txd, PyData.depth]
    omega
  have c := Nat.min_le_right k (txd r).depth
  omega
theorem op_inRows (hu : X.A.units + 64 < cLine) : OpR X (compareOp .In) (rInRows X.K) := by
  intro pins s σ H x y v u Q I rx ry h
  obtain ⟨r, R, hd, he, q⟩ := h
  obtain ⟨as, r1⟩ := Dp.reads I (txd r) x v hd rx
  obtain ⟨bs, r2⟩ := Dp.reads I (rowsD R) y u he ry
  refine SeqAt.in_tuple_data r2 r1 (rows_plain R) (texts_plain r) (row_room hu _) ?_
  rw [any_rows]
  exact ⟨.bl _, H, I, rfl, q⟩
theorem op_outRows (hu : X.A.units + 64 < cLine) : OpR X (compareOp .NotIn) (rOutRows X.K) := by
  intro pins s σ H x y v u Q I rx ry h
  obtain ⟨r, R, hd, he, q⟩ := h
  obtain ⟨as, r1⟩ := Dp.reads I (txd r) x v hd rx
  obtain ⟨bs, r2⟩ := Dp.reads I (rowsD R) y u he ry
  refine SeqAt.notIn_tuple_data r2 r1 (rows_plain R) (texts_plain r) (row_room hu _) ?_
  rw [any_rows]
  exact ⟨.bl _, H, I, rfl, q⟩
end
abbrev s_check_alike : Stmt := top 24
/-- check_alike(x, y) of tables that are alike -/
def spAlike (C : Addr) : Sp := fun vs H Q _ => ∃ (x y : Addr) (ds : List Str) (n : Nat) (R S : List (List Str)), vs = [.ref x, .ref y] ∧ TabAt C H x ds n R ∧ TabAt C H y ds n S ∧ Q .non H
section
variable {P : Program} {w : World} {K : PySem.W.Frag} {mg : Str → Option Value} {base : Heap}
theorem sc_check_alike : FnScope ["table", "other"] ["table", "other"] (defScope s_check_alike) := ⟨rfl, rfl, rfl, by decide +kernel, rfl, by decide +kernel, by decide +kernel⟩
theorem ok_check_alike {it : Addr} (B : Bs mg) (T : TabC K mg it) (J : C8.InsC K T.C) (f : FnF K mg "check_alike" "check_alike" s_check_alike) : FnOk P w K mg base CX0 1 f.a f.d ["table", "other"] (spAlike T.C) := by
  refine f.F.ok sc_check_alike (fun vs H Q E h => ?_) (fun cdv A outer s H vs Q E hr h => ?_)
  · obtain ⟨x, y, ds, n, R, S, rfl, _⟩ := h
    rfl
  · obtain ⟨x, y, ds, n, R, S, rfl, TX, TY, q⟩ := h
    have hu64 := hr.units
    refine ⟨_, (pss_one
      (ps_if (PW.pt (pw_or (pt_not (pt_val (pe_callB (C8.call_isC J) (by rfl) B.n_isinstance (by decide +kernel) (pa_cons (pv 1) (pa_cons (pe_glob (v := .ref T.C) rfl T.g rfl) pa_nil))))) (pw_or (pt_cmpR (op_neD hu64) (pe_fld (pv 0) rfl) (pe_fld (pv 1) rfl) (nomark _)) (pw_or1 (pt_cmpR op_ne (pe_fld (pv 0) rfl) (pe_fld (pv 1) rfl) (nomark _))))))
        (pss_one
          ps_dead)
        pss_nil)), ?_⟩
    obtain ⟨dx, d, p, rs, cols, ht, hd, hp, hR, hC⟩ := TX.ex
    obtain ⟨dx2, d2, p2, rs2, cols2, ht2, hd2, hp2, hR2, hC2⟩ := TY.ex
    have ok := TX.dom.2.1
    have sh : SeqAt.shaped (txd ds) = true := txd_shaped fun x hx => name_strOk (ok x hx)
    refine ⟨_, rfl, y, dx2, _, rfl, ht2, true, rfl, ?_⟩
    refine iteF ⟨_, rfl, x, T.C, dx, _, _, rfl, ht, T.cl, T.nd, rfl, _, rfl, y, T.C, dx2, _, _, rfl, ht2, T.cl, T.nd, rfl, txd ds, txd ds, .tup (SqT.of hd) (texts_dp _), .tup (SqT.of hd2) (texts_dp _), sh, sh, _, rfl, ?_⟩
    rw [eqv_row, decide_eq_true rfl]
    refine iteF ⟨_, rfl, x, T.C, dx, _, _, rfl, ht, T.cl, T.nw, rfl, _, rfl, y, T.C, dx2, _, _, rfl, ht2, T.cl, T.nw, rfl, rfl, _, rfl, ?_⟩
    rw [decide_eq_true rfl]
    exact iteF q
end
end K01
/-! Rows in lists of rows; joined tests; what the deck keeps; tables made. -/
namespace K01
open PySem PySem.Spec PyProof.Rows L2 KG KS KA KX KIa KFz KTc
section
variable {X : Cx}
def rInRowsL (K : PySem.W.Frag) : R2 := fun x y H Q => ∃ (r : List Str) (R : List (List Str)), Dp K H x (txd r) ∧ Dp K H y (rowsL R) ∧ Q (.bl (decide (r ∈ R))) H
def rOutRowsL (K : PySem.W.Frag) : R2 := fun x y H Q => ∃ (r : List Str) (R : List (List Str)), Dp K H x (txd r) ∧ Dp K H y (rowsL R) ∧ Q (.bl (!decide (r ∈ R))) H
theorem op_inRowsL (hu : X.A.units + 64 < cLine) : OpR X (compareOp .In) (rInRowsL X.K) := by
  intro pins s σ H x y v u Q I rx ry h
  obtain ⟨r, R, hd, he, q⟩ := h
  obtain ⟨as, r1⟩ := Dp.reads I (txd r) x v hd rx
  obtain ⟨bs, r2⟩ := Dp.reads I (rowsL R) y u he ry
  refine SeqAt.in_list_data r2 r1 (rows_plain R) (texts_plain r) (row_room hu _) ?_
  rw [any_rows]
  exact ⟨.bl _, H, I, rfl, q⟩
theorem op_outRowsL (hu : X.A.units + 64 < cLine) : OpR X (compareOp .NotIn) (rOutRowsL X.K) := by
  intro pins s σ H x y v u Q I rx ry h
  obtain ⟨r, R, hd, he, q⟩ := h
  obtain ⟨as, r1⟩ := Dp.reads I (txd r) x v hd rx
  obtain ⟨bs, r2⟩ := Dp.reads I (rowsL R) y u he ry
  refine SeqAt.notIn_list_data r2 r1 (rows_plain R) (texts_plain r) (row_room hu _) ?_
  rw [any_rows]
  exact ⟨.bl _, H, I, rfl, q⟩
end
def rEqL0 (K : PySem.W.Frag) : R2 := fun x y H Q => ∃ a b xs, x = .ref a ∧ y = .ref b ∧ SqL K H a xs ∧ SqL K H b [] ∧ Q (.bl xs.isEmpty) H
theorem op_eqL0 {X : Cx} (hu : X.A.units + 64 < cLine) : OpR X (compareOp .Eq) (rEqL0 X.K) := by
  intro pins s σ H x y v u Q I rx ry h
  obtain ⟨a, b, xs, rfl, rfl, ha, hb, q⟩ := h
  cases (show v = Value.ref a from rx)
  cases (show u = Value.ref b from ry)
  obtain ⟨its, rv, pl, hz⟩ := I.list ha
  obtain ⟨its2, rv2, pl2, _⟩ := I.list hb
  cases rv2
  cases rv with
  | nil => exact SeqAt.eq_listAt (e := fun _ => true) pl.isList pl2.isList rfl (by omega) (fun j _ h2 => absurd h2 (by simp)) ⟨.bl true, H, I, rfl, q⟩
  | cons r1 r2 => exact SeqAt.eq_list_lengthsAt pl.isList pl2.isList (by simp) (by omega) ⟨.bl false, H, I, rfl, q⟩
theorem tx_nameV {x : Str} (h : nameOk x = true) : TxOk x := tx_name h
theorem RG.rows {xs : List Str} {n : Nat} {kz : KzL} (h : RG xs n kz) : ∀ r ∈ kz.map (·.2), r.length = n ∧ ∀ x ∈ r, x ∈ xs := fun r hr => by
  obtain ⟨p, hp, rfl⟩ := List.mem_map.mp hr
  exact h p hp
theorem RG.of {xs : List Str} {n : Nat} {kz : KzL} (h : ∀ r ∈ kz.map (·.2), r.length = n ∧ ∀ x ∈ r, x ∈ xs) : RG xs n kz := fun p hp => h p.2 (List.mem_map.mpr ⟨p, hp, rfl⟩)
section
variable {P : Program} {w : World} {K : PySem.W.Frag} {mg : Str → Option Value} {base : Heap}
theorem okN {f : Addr} {fd : FuncData} {ps : List Str} {sp : Sp} {k : Nat} {x qual : Str} {st : Stmt} {N : List Str} (F : Fun K x qual st f fd) (S : FnScope N ps (defScope st)) (len : ∀ vs H Q E, sp vs H Q E → vs.length = ps.length)
    (body : ∀ (cdv : Value) (A : Around) (outer : List Env) (s : Shared) (H : Hp) (vs : List V) (Q : VK) (E : XK),
      (A.deeper (envOfC qual (defScope st) s.heap.objs.size f cdv)).guards = some [] → Room k (A.deeper (envOfC qual (defScope st) s.heap.objs.size f cdv)) → sp vs H Q E →
      ∃ t, PSs (cxOf CX0 P w K mg base N qual (defScope st) f cdv A outer s H E).nox (defBody st) t ∧ t { nx := fun _ H' => Q .non H', rt := Q } (L2.start N vs) H) :
    FnG P w K mg base CX0 (k + 1) f fd ps sp := okG F S len fun cdv A outer s H vs Q E g hr h => by
  obtain ⟨t, h1, h2⟩ := body cdv A outer s H vs Q E g hr h
  exact ⟨t, h1.nox, h2⟩
theorem big_fit {D : PyData} (h : cost D ≤ 100000) : D.shown.length ≤ sizeLine := by
  have z := shown_cost D
  rw [sizeLine_eq]
  omega
end
theorem cutN (xs : List V) (m : Nat) : cutV xs none (some (m : Int)) = xs.take m := by
  unfold cutV
  have e : HT.sIx xs.length xs.length (some (m : Int)) = min m xs.length := HT.sIx_nat _ _ m
  rw [show HT.sIx xs.length 0 none = 0 from rfl, e, List.drop_zero, Nat.sub_zero]
  rcases Nat.le_total m xs.length with h | h
  · rw [Nat.min_eq_left h]
  · rw [Nat.min_eq_right h, List.take_length, List.take_of_length_le h]
theorem neD {H : Hp} {d l : Addr} {n : Nat} {x : Addr} (D : DeckAt H d l n) (h : H x = none) : x ≠ d ∧ x ≠ l := by
  obtain ⟨cs, m, k, hd, hl, _⟩ := D.ex
  exact ⟨fun z => (by rw [z, hd] at h; cases h), fun z => (by rw [z, hl] at h; cases h)⟩
theorem RL.off {H H' : Hp} {d l : Addr} {n : Nat} {kz : KzL} (h : RL H kz) (D : DeckAt H d l n) (o : Off d l H H') : RL H' kz := fun p hp => tup_off (h p hp) D o
theorem RL.put {H : Hp} {kz : KzL} {D : Addr} {xs : List V} {o : HO} (h : RL H kz) (hD : H D = some (.lst xs)) : RL (upd H D o) kz := fun p hp => by
  rw [upd_ne (ne_of (h p hp) hD (by intro z; cases z))]
  exact h p hp
theorem TblV.offD {H H' : Hp} {d l t : Addr} {n k : Nat} {xs rs : List Str} (h : TblV H t xs k rs) (D : DeckAt H d l n) (o : Off d l H H') : TblV H' t xs k rs := by
  obtain ⟨ks, h1, h2⟩ := h
  obtain ⟨cs, m, n, hd, hl, _⟩ := D.ex
  exact ⟨ks, o _ _ h1 (ne_of h1 hd (by intro z; cases z)) (ne_of h1 hl (by intro z; cases z)), h2⟩
theorem deckPut {H : Hp} {d l x : Addr} {n : Nat} {o : HO} (D : DeckAt H d l n) (n1 : x ≠ d) (n2 : x ≠ l) : DeckAt (upd H x o) d l n := by
  obtain ⟨cs, m, k, hd, hl, r⟩ := D.ex
  exact ⟨cs, m, k, by rw [upd_ne n1.symm]; exact hd, by rw [upd_ne n2.symm]; exact hl, r⟩
/-- a test joined by and: whichever way it comes out, one thing follows -/
theorem joinT {c : Bool} {tb : TT} {σ : L2.St} {H : Hp} {F : Bool → Hp → Prop} (Pr : Bool → Hp → Prop) (h0 : ¬ c = true → Pr false H) (h1 : c = true → ∀ F' : Bool → Hp → Prop, (∀ b H', Pr b H' → F' b H') → tb σ H F') (h2 : ∀ b H', Pr b H' → F b H') :
    if c = true then tb σ H F else F false H := by
  by_cases k : c = true
  · rw [if_pos k]
    exact h1 k F h2
  · rw [if_neg k]
    exact h2 false H (h0 k)
theorem flats (xs : List Str) : (xs.map V.str).all flatV = true := by
  induction xs with
  | nil => rfl
  | cons x xs ih =>
    rw [List.map_cons, List.all_cons, ih]
    rfl
/-- plain rows with their addresses -/
theorem rowsW_kz {H0 H : Hp} {xs : List Str} {n : Nat} {vs : List V} (h : RowsW false H0 H vs (pw (xs.map V.str) n)) : ∃ kz : KzL, vs = refs kz ∧ kz.map (·.2) = pw xs n ∧ RL H kz ∧ ∀ p ∈ kz, H0 p.1 = none := by
  rw [pw_map V.str xs n] at h
  have key : ∀ {vs : List V} {R : List (List Str)}, RowsW false H0 H vs (R.map (List.map V.str)) → ∃ kz : KzL, vs = refs kz ∧ kz.map (·.2) = R ∧ RL H kz ∧ ∀ p ∈ kz, H0 p.1 = none := by
    intro vs R
    induction R generalizing vs with
    | nil =>
      intro h
      cases h
      exact ⟨[], rfl, rfl, (fun _ z => nomatch z), fun _ z => nomatch z⟩
    | cons r R ih =>
      intro h
      rw [List.map_cons] at h
      cases h with
      | cons e t =>
        obtain ⟨a, e1, e0, e2⟩ := e
        obtain ⟨kz, h1, h2, h3, h4⟩ := ih t
        refine ⟨(a, r) :: kz, by rw [refs, List.map_cons, e1, h1], by rw [List.map_cons, h2], fun p hp => ?_, fun p hp => ?_⟩
        · rcases List.mem_cons.mp hp with rfl | hp
          · exact e2
          · exact h3 p hp
        · rcases List.mem_cons.mp hp with rfl | hp
          · exact e0
          · exact h4 p hp
  exact key h
/-- one of two expressions, each of which gives what Pr tells -/
theorem ifx {b : Bool} {ta tb : TE} {σ : L2.St} {H : Hp} {Q : VK} (Pr : V → Hp → Prop) (hT : b = true → ∀ Q' : VK, (∀ v H', Pr v H' → Q' v H') → ta σ H Q') (hF : ¬ b = true → ∀ Q' : VK, (∀ v H', Pr v H' → Q' v H') → tb σ H Q') (q : ∀ v H', Pr v H' → Q v H') :
    if b = true then ta σ H Q else tb σ H Q := by
  by_cases c : b = true
  · rw [if_pos c]
    exact hT c Q q
  · rw [if_neg c]
    exact hF c Q q
/-- a table made, with any claim about what it answers -/
theorem make_tabQ {C : Addr} {H : Hp} {d r o dx : Addr} {ds : List Str} {n : Nat} {rs : List V} {R : List (List Str)} {Q : VK} {E : XK} (ho : H o = none) (hdx : H dx = none) (nox : dx ≠ o) (hd : H d = some (.tup (ds.map V.str)))
    (dom : AscT ds ∧ (∀ x ∈ ds, nameOk x = true) ∧ 1 ≤ ds.length ∧ ds.length ≤ 3 ∧ 1 ≤ n ∧ n ≤ 3) (hr : H r = some (.tup rs)) (hR : RowsAt H rs R) (row : ∀ q ∈ R, q.length = n ∧ ∀ x ∈ q, x ∈ ds) (h64 : R.length < 64)
    (q : ∀ (H' : Hp) (R' : List (List Str)), Same H H' → TabAt C H' o ds n R' → (∀ row, row ∈ R' ↔ row ∈ R) → Q .non H') : spTab C [.ref o, .ref d, .int (n : Nat), .ref r] (upd (upd H dx (.own o)) o (.ins C dx [])) Q E := by
  obtain ⟨dasc, dok, d1, d3, n1, n3⟩ := dom
  have e5 := same_trans (same_new (o := .own o) hdx) (same_new (o := .ins C dx []) (show upd H dx (.own o) o = none by rw [upd_ne nox.symm]; exact ho))
  refine ⟨o, dx, d, r, n, ds, rs, R, rfl, upd_same, e5 _ _ hd, dok, List.pairwise_map.mpr dasc, d1, d3, n1, n3, e5 _ _ hr, hR.up e5, row, h64, fun H6 pk ks R' cols but hx6 hpk hn hR' mem asc co => ?_⟩
  have e6 : Same H H6 := fun b u e => but _ _ (e5 _ _ e) (fun z => by
    rw [z] at e
    rw [e] at ho
    cases ho)
  refine q H6 R' e6 ⟨⟨dx, d, pk, ks, cols, hx6, e6 _ _ hd, hpk, hR', co⟩, asc, fun q hq => row q ((mem q).mp hq), ?_, dasc, dok, d1, d3, n1, n3⟩ mem
  exact Nat.lt_of_le_of_lt (nodup_len R' R (asc_nodup asc) fun x hx => (mem x).mp hx) h64
/-- whether all votes of so many rows are rows -/
def dueB (xs : List Str) (k : Nat) (rs : List Str) (n : Nat) (R : List (List Str)) : Bool := (pw R k).all fun some => decide (voteS xs k rs n some ∈ R)
theorem due_brk {xs rs : List Str} {k n : Nat} {R R' : List (List Str)} (mem : ∀ r, r ∈ R' ↔ r ∈ R) : (brkS xs k rs n R').isNone = dueB xs k rs n R := by
  rw [Bool.eq_iff_iff, Option.isNone_iff_eq_none]
  unfold brkS dueB
  rw [List.find?_eq_none, List.all_eq_true]
  constructor
  · intro h some hs
    obtain ⟨l, sub⟩ := mem_pw.mp hs
    have z := h some (mem_pw.mpr ⟨l, fun r hr => (mem r).mpr (sub r hr)⟩)
    exact decide_eq_true (Classical.byContradiction fun n => z (decide_eq_true fun m => n ((mem _).mp m)))
  · intro h some hs z
    obtain ⟨l, sub⟩ := mem_pw.mp hs
    have y := of_decide_eq_true (h some (mem_pw.mpr ⟨l, fun r hr => (mem r).mp (sub r hr)⟩))
    exact of_decide_eq_true z ((mem _).mpr y)
end K01
/-! all_rows of columns that are lists of any items. -/
namespace K01
open PySem PySem.Spec PyProof.Rows L2 KG KS KA KX KIa KFz KTc
/-- two for's in a list, the inner walk over a list -/
theorem lc2_ll {K : PySem.W.Frag} {a : Addr} {xs : List V} {g g1 : TG} {wi1 : TI} {te : TE} {vs vs1 : List Nat} {σ : L2.St} {H1 : Hp} {D : Addr} {Qd : Hp → Prop} (Pv : Nat → Nat → Hp → Prop) (h0 : Pv 0 0 (upd H1 D (.lst [])))
    (hl : ∀ i H, i ≤ xs.length → Pv i 0 H → SqL K H a xs)
    (hs : ∀ i x H, xs[i]? = some x → Pv i 0 H → g x (wipe σ vs) H fun σ2 H2 => wipe σ2 vs = wipe σ vs ∧ wi1 σ2 H2 fun J1 H4 => ∃ (c : Addr) (ys : List V), J1 = Itl K c ∧ Pv i 0 H4 ∧ (∀ j H, j ≤ ys.length → Pv i j H → SqL K H c ys) ∧
      (∀ j y H, ys[j]? = some y → Pv i j H → g1 y (wipe σ2 vs1) H fun σ3 H5 => wipe σ3 vs1 = wipe σ2 vs1 ∧ te σ3 H5 fun y H7 => ∃ acc, H7 D = some (.lst acc) ∧ acc.length < sizeLine ∧ Pv i (j + 1) (upd H7 D (.lst (acc ++ [y])))) ∧
      ∀ H, Pv i ys.length H → Pv (i + 1) 0 H)
    (mono : ∀ x, ∀ (σ : L2.St) (H : Hp) (Q R : L2.St → Hp → Prop), (∀ σ H, Q σ H → R σ H) → g x σ H Q → g x σ H R) (mono1 : ∀ x, ∀ (σ : L2.St) (H : Hp) (Q R : L2.St → Hp → Prop), (∀ σ H, Q σ H → R σ H) → g1 x σ H Q → g1 x σ H R)
    (monoI : ∀ (σ : L2.St) (H : Hp) (Q R : It → Hp → Prop), (∀ J H, Q J H → R J H) → wi1 σ H Q → wi1 σ H R)
    (hd : ∀ H, Pv xs.length 0 H → Qd H) :
    ∃ W : Nat → Nat → Hp → Prop, (∃ m, W 0 m (upd H1 D (.lst []))) ∧ ∀ i m H, W i m H →
      ((Itl K a).stop i H ∧ Qd H) ∨ ((Itl K a).go i H ∧ ∃ Nx : Hp → Prop, (∀ H', Nx H' → ∃ m', m' < m ∧ W (i + 1) m' H') ∧ ∀ x H', (Itl K a).yld i H x H' → g x (wipe σ vs) H' fun σ2 H2 => wipe σ2 vs = wipe σ vs ∧ tYes σ2 H2 fun b H3 =>
        if b = true then wi1 σ2 H3 fun J1 H4 => ∃ W1 : Nat → Nat → Hp → Prop, (∃ m, W1 0 m H4) ∧ ∀ j k H, W1 j k H →
          (J1.stop j H ∧ Nx H) ∨ (J1.go j H ∧ ∃ Nx1 : Hp → Prop, (∀ H', Nx1 H' → ∃ k', k' < k ∧ W1 (j + 1) k' H') ∧ ∀ x H', J1.yld j H x H' → g1 x (wipe σ2 vs1) H' fun σ3 H5 => wipe σ3 vs1 = wipe σ2 vs1 ∧ tYes σ3 H5 fun b H6 =>
            if b = true then te σ3 H6 fun y H7 => ∃ acc, H7 D = some (.lst acc) ∧ acc.length < sizeLine ∧ Nx1 (upd H7 D (.lst (acc ++ [y]))) else Nx1 H6)
        else Nx H3) := by
  refine ⟨fun i m H => m = xs.length - i ∧ i ≤ xs.length ∧ Pv i 0 H, ⟨xs.length, by simp, Nat.zero_le _, h0⟩, ?_⟩
  rintro i m H ⟨rfl, hi, p⟩
  have q := hl i H hi p
  by_cases lt : i < xs.length
  · refine .inr ⟨⟨xs, xs[i], q, by simp [lt]⟩, Pv (i + 1) 0, fun H' p' => ⟨xs.length - (i + 1), by omega, rfl, lt, p'⟩, ?_⟩
    rintro x H' ⟨rfl, y⟩
    refine mono _ _ _ _ _ (fun σ2 H2 r => ?_) (hs i x _ (y xs q) p)
    refine ⟨r.1, ?_⟩
    simp only [tYes, if_true]
    refine monoI _ _ _ _ (fun J1 H4 r1 => ?_) r.2
    obtain ⟨c, ys, rfl, p4, hT, hin, hfin⟩ := r1
    refine ⟨fun j k H => k = ys.length - j ∧ j ≤ ys.length ∧ Pv i j H, ⟨ys.length, by simp, Nat.zero_le _, p4⟩, ?_⟩
    rintro j k H ⟨rfl, hj, pj⟩
    have qj := hT j H hj pj
    by_cases ltj : j < ys.length
    · refine .inr ⟨⟨ys, ys[j], qj, by simp [ltj]⟩, Pv i (j + 1), fun H' p' => ⟨ys.length - (j + 1), by omega, rfl, ltj, p'⟩, ?_⟩
      rintro z H' ⟨rfl, yz⟩
      refine mono1 _ _ _ _ _ (fun σ3 H5 r3 => ⟨r3.1, ?_⟩) (hin j z _ (yz ys qj) pj)
      exact r3.2
    · have e : j = ys.length := by omega
      subst e
      exact .inl ⟨⟨ys, qj, Nat.le_refl _⟩, hfin H pj⟩
  · have e : i = xs.length := by omega
    subst e
    exact .inl ⟨⟨xs, q, Nat.le_refl _⟩, hd H p⟩
/-- the rows of these columns -/
def prG {α : Type} (cols : List (List α)) : List (List α) := cols.foldl stp [[]]
theorem prG_snoc {α : Type} (cols : List (List α)) (xs : List α) : prG (cols ++ [xs]) = stp (prG cols) xs := by
  unfold prG
  rw [List.foldl_append]
  rfl
theorem prG_map {α β : Type} (f : α → β) (cols : List (List α)) : prG (cols.map (List.map f)) = (prG cols).map (List.map f) := by
  have key : ∀ (cols R : List (List α)), (cols.map (List.map f)).foldl stp (R.map (List.map f)) = (cols.foldl stp R).map (List.map f) := by
    intro cols
    induction cols with
    | nil => exact fun R => rfl
    | cons c cols ih =>
      intro R
      rw [List.map_cons, List.foldl_cons, List.foldl_cons, stp_map, ih]
  exact key cols [[]]
theorem mem_stp {α : Type} {R : List (List α)} {xs : List α} {t : List α} : t ∈ stp R xs ↔ ∃ r ∈ R, ∃ x ∈ xs, t = r ++ [x] := by
  unfold stp
  rw [List.mem_flatMap]
  constructor
  · rintro ⟨r, hr, h⟩
    obtain ⟨x, hx, rfl⟩ := List.mem_map.mp h
    exact ⟨r, hr, x, hx, rfl⟩
  · rintro ⟨r, hr, x, hx, rfl⟩
    exact ⟨r, hr, List.mem_map.mpr ⟨x, hx, rfl⟩⟩
theorem mem_prR {α : Type} {A : List (List α)} {T : List α} : ∀ {q : Nat} {t : List α}, t ∈ prG (A ++ List.replicate q T) ↔ ∃ u v, u ∈ prG A ∧ v.length = q ∧ (∀ x ∈ v, x ∈ T) ∧ t = u ++ v
  | 0, t => by
    rw [List.replicate_zero, List.append_nil]
    constructor
    · exact fun h => ⟨t, [], h, rfl, (fun _ z => nomatch z), by rw [List.append_nil]⟩
    · rintro ⟨u, v, h, l, _, rfl⟩
      rw [List.length_eq_zero_iff.mp l, List.append_nil]
      exact h
  | q + 1, t => by
    rw [List.replicate_succ', ← List.append_assoc, prG_snoc, mem_stp]
    constructor
    · rintro ⟨r, hr, x, hx, rfl⟩
      obtain ⟨u, v, h1, h2, h3, rfl⟩ := mem_prR.mp hr
      refine ⟨u, v ++ [x], h1, by rw [List.length_append, h2]; rfl, fun y hy => ?_, by rw [List.append_assoc]⟩
      rcases List.mem_append.mp hy with z | z
      · exact h3 y z
      · rw [List.mem_singleton.mp z]
        exact hx
    · rintro ⟨u, v, h1, h2, h3, rfl⟩
      have ne : v ≠ [] := fun e => by rw [e] at h2; cases h2
      refine ⟨u ++ v.dropLast, mem_prR.mpr ⟨u, v.dropLast, h1, by rw [List.length_dropLast]; omega, fun x hx => h3 x (List.dropLast_subset _ hx), rfl⟩, v.getLast ne, h3 _ (List.getLast_mem ne), ?_⟩
      rw [List.append_assoc, List.dropLast_concat_getLast ne]
/-- rows one of whose items is a -/
theorem mem_with {α : Type} {S T : List α} {a : α} {p q : Nat} {t : List α} : t ∈ prG (List.replicate p S ++ [[a]] ++ List.replicate q T) ↔ ∃ u v, u.length = p ∧ (∀ x ∈ u, x ∈ S) ∧ v.length = q ∧ (∀ x ∈ v, x ∈ T) ∧ t = u ++ a :: v := by
  rw [mem_prR]
  constructor
  · rintro ⟨u, v, h1, h2, h3, rfl⟩
    rw [prG_snoc, mem_stp] at h1
    obtain ⟨r, hr, x, hx, rfl⟩ := h1
    rw [List.mem_singleton.mp hx]
    rw [← List.nil_append (List.replicate p S)] at hr
    obtain ⟨u, w, h4, h5, h6, rfl⟩ := mem_prR.mp hr
    rw [show u = [] from List.mem_singleton.mp h4]
    exact ⟨w, v, h5, h6, h2, h3, by rw [List.nil_append, List.append_assoc]; rfl⟩
  · rintro ⟨u, v, h1, h2, h3, h4, rfl⟩
    refine ⟨u ++ [a], v, ?_, h3, h4, by rw [List.append_assoc]; rfl⟩
    rw [prG_snoc, mem_stp]
    refine ⟨u, ?_, a, List.mem_singleton_self _, rfl⟩
    rw [← List.nil_append (List.replicate p S)]
    exact mem_prR.mpr ⟨[], u, List.mem_singleton_self _, h1, h2, rfl⟩
theorem snocInd {α : Type} {P : List α → Prop} (h0 : P []) (h1 : ∀ l a, P l → P (l ++ [a])) : ∀ l, P l := fun l => by
  have key : ∀ m : List α, P m.reverse := by
    intro m
    induction m with
    | nil => exact h0
    | cons a m ih =>
      rw [List.reverse_cons]
      exact h1 _ _ ih
  rw [← List.reverse_reverse l]
  exact key l.reverse
theorem prG_width {α : Type} : ∀ {cols : List (List α)} {t : List α}, t ∈ prG cols → t.length = cols.length := by
  intro cols
  refine snocInd (P := fun cols => ∀ {t : List α}, t ∈ prG cols → t.length = cols.length) ?_ ?_ cols
  · intro t h
    rw [List.mem_singleton.mp h]
    rfl
  · intro cols c ih t h
    rw [prG_snoc, mem_stp] at h
    obtain ⟨r, hr, x, hx, rfl⟩ := h
    rw [List.length_append, List.length_append, ih hr]
    rfl
theorem prG_len {α : Type} : ∀ (cols : List (List α)) {M : Nat}, (∀ c ∈ cols, c.length ≤ M) → (prG cols).length ≤ M ^ cols.length := by
  intro cols
  refine snocInd (P := fun cols => ∀ {M : Nat}, (∀ c ∈ cols, c.length ≤ M) → (prG cols).length ≤ M ^ cols.length) ?_ ?_ cols
  · intro M _
    exact Nat.le_refl _
  · intro cols c ih M h
    rw [prG_snoc, stp_len, List.length_append, List.length_singleton, Nat.pow_succ]
    exact Nat.mul_le_mul (ih fun d hd => h d (List.mem_append_left _ hd)) (h c (List.mem_append_right _ (List.mem_singleton_self _)))
def spAg : Sp := fun vs H Q _ => ∃ (c : Addr) (ds : List Addr) (cols : List (List V)), vs = [.ref c] ∧ H c = some (.lst (ds.map V.ref)) ∧ W.EachIs (fun d xs => H d = some (.lst xs)) ds cols ∧ cols.length ≤ 4 ∧ (∀ i, i ≤ cols.length → (prG (cols.take i)).length ≤ 100000) ∧
  ∀ (p : Addr) (rs : List V) (H' : Hp), H p = none → Same H H' → H' p = some (.tup rs) → RowsW false H H' rs (prG cols) → Q (.ref p) H'
section
variable {P : Program} {w : World} {K : PySem.W.Frag} {mg : Str → Option Value} {base : Heap}
theorem sc_all_rowsG : FnScope ["columns", "rows", "column", "row", "item"] ["columns"] (defScope s_all_rows) := ⟨rfl, rfl, rfl, by decide +kernel, rfl, by decide +kernel, by decide +kernel⟩
theorem ok_all_rowsG (B : Bs mg) (f : FnF K mg "all_rows" "all_rows" s_all_rows) : FnOk P w K mg base CX0 1 f.a f.d ["columns"] spAg := by
  refine f.F.ok sc_all_rowsG (fun vs H Q E h => ?_) (fun cdv A outer s H vs Q E hr h => ?_)
  · obtain ⟨c, ds, cols, rfl, _⟩ := h
    rfl
  · obtain ⟨c, ds, cols, rfl, hc, hds, k4, lim, q⟩ := h
    refine ⟨_, (pss_cons
      (ps_set (i := 1) sc_all_rowsG.nd rfl (Or.inl rfl) (pe_lst (pa_cons (pe_tup pa_nil) pa_nil)))
    (pss_cons
      (ps_for PassesOwn.never rfl (pi_list (pv 0)) (pg_name (i := 2) sc_all_rowsG.nd rfl (Or.inr rfl))
        (pss_one
          (ps_setLc2 (i := 1) (own := [("row", 3), ("item", 4)]) (vs1 := [4]) (g := gName 3) (g1 := gName 4) (by rfl) sc_all_rowsG.nd rfl rfl (sw_true rfl rfl rfl (by decide +kernel)) (pi_list (pv 1)) (blkOk_by (own := [("row", 3), ("item", 4)]) (N := ["columns", "rows", "column", "row", "item"]) (sc := defScope s_all_rows) (by decide +kernel)) (by decide)
            (fun _ _ _ _ _ => (pg_name (i := 3) sc_all_rowsG.nd rfl (Or.inl rfl))) (fun _ _ _ _ _ => pts_nil)
            (fun _ _ _ _ _ => (show PI _ _ _ (iList K (tVar 2)) from pi_list (pv 2))) (fun _ _ _ _ _ => (pg_name (i := 4) sc_all_rowsG.nd rfl (Or.inl rfl))) (fun _ _ _ _ _ => pts_nil)
            (fun _ _ _ _ _ => (pe_op (show OpR _ (binaryOp .Add) (rCatA K) from op_catA) (pv 3) (pe_tup (pa_cons (pv 4) pa_nil)))))))
    (pss_one
      (ps_ret (pe_callTy call_tuple_of (by rfl) B.n_tuple (by decide +kernel) (pa_cons (pv 1) pa_nil)))))), ?_⟩
    refine ⟨by show 0 ≤ sizeLine; exact Nat.zero_le _, fun t ht => ⟨by show 1 ≤ sizeLine; decide, fun l hl => ?_⟩⟩
    have e0 : Same H (upd (upd H t (.tup [])) l (.lst [V.ref t])) := same_trans (same_new ht) (same_new hl)
    refine ⟨_, rfl, c, rfl, ⟨_, SqL.of (e0 _ _ hc)⟩, ?_⟩
    refine for_list (K := K) (a := c) (xs := ds.map V.ref) (fun i σ H' => ∃ (l : Addr) (rs : List V) (v2 : Option V), σ = [some (.ref c), some (.ref l), v2, none, none] ∧ Same H H' ∧ H' l = some (.lst rs) ∧ RowsW false H H' rs (prG (cols.take i)))
      ⟨l, _, none, rfl, e0, upd_same, .cons ⟨t, rfl, ht, by show upd _ l _ t = _; rw [upd_ne (ne_of_none upd_same hl), upd_same]⟩ .nil⟩ (fun i σ H' _ ⟨_, _, _, _, e, _⟩ => SqL.of (e _ _ hc)) ?_ ?_
    · rintro i0 y σ H0 hi ⟨l, rs, v2, rfl, e1, hl1, hR⟩
      rw [List.getElem?_map] at hi
      cases hdi : ds[i0]? with
      | none =>
        rw [hdi] at hi
        cases hi
      | some d =>
      rw [hdi] at hi
      obtain rfl : V.ref d = y := Option.some.inj hi
      obtain ⟨xs, hci, hd⟩ := each_get hds hdi
      have il0 : i0 < cols.length := (List.getElem?_eq_some_iff.mp hci).1
      have lm := lim (i0 + 1) il0
      have lk : i0 ≤ cols.length := Nat.le_of_lt il0
      rw [take_next hci, prG_snoc] at lm
      rw [take_next hci, prG_snoc]
      have lw : ∀ g ∈ prG (cols.take i0), g.length = i0 := fun g hg => by
        rw [prG_width hg, List.length_take]
        omega
      generalize prG (cols.take i0) = R at hR lw lm ⊢
      have hd0 : H0 d = some (.lst xs) := e1 _ _ hd
      refine ⟨_, rfl, l, rfl, ⟨_, SqL.of hl1⟩, fun D hD => ?_⟩
      have hDH : H D = none := e1.free hD
      refine lc2_ll (K := K) (a := l) (xs := rs) (fun i j H2 => ∃ acc, Same H0 H2 ∧ H2 D = some (.lst acc) ∧ RowsW false H H2 acc (stp (R.take i) xs ++ (xs.take j).map fun x => R.getD i [] ++ [x]))
        ⟨[], same_new hD, upd_same, .nil⟩ (fun i H2 _ ⟨_, e, _⟩ => SqL.of (e _ _ hl1)) ?_ (fun x σ H Q R h q => h _ _ q) (fun x σ H Q R h q => h _ _ q) (fun σ H Q R h ⟨x, e, a, e2, q0, q1⟩ => ⟨x, e, a, e2, q0, h _ _ q1⟩) ?_
      · rintro i x H2 hx ⟨acc, e2, hacc, hA⟩
        obtain ⟨ts, hRi, a, rfl, _, ha0⟩ := each_get hR hx
        have gd : R.getD i [] = ts := by rw [List.getD_eq_getElem?_getD, hRi]; rfl
        have ha00 : H0 a = some (.tup ts) := ha0
        have il : i < R.length := (List.getElem?_eq_some_iff.mp hRi).1
        have tl : (R.take (i + 1)).length ≤ R.length := by rw [List.length_take]; omega
        have l1 := stp_len xs (R.take (i + 1))
        have l2 := stp_len xs R
        have sl1 : (stp (R.take (i + 1)) xs).length ≤ 100000 := by
          rw [l1]
          rw [l2] at lm
          exact Nat.le_trans (Nat.mul_le_mul_right _ tl) lm
        rw [stp_take hRi, List.length_append, List.length_map] at sl1
        refine ⟨rfl, _, rfl, d, rfl, ⟨_, SqL.of (e2 _ _ hd0)⟩, d, xs, rfl, ⟨acc, e2, hacc, hA⟩, fun j H3 _ ⟨_, e3, _⟩ => SqL.of (e3 _ _ hd0), ?_, ?_⟩
        · rintro j z H3 hz ⟨ac, e3, hac, hB⟩
          have jl : j < xs.length := (List.getElem?_eq_some_iff.mp hz).1
          have lac : ac.length < 100000 := by
            have z1 := hB.length
            rw [List.length_append, List.length_map, List.length_take] at z1
            omega
          rw [gd] at hB
          have fin : ∀ {H4 : Hp} {v : V}, Same H3 H4 → H4 D = some (.lst ac) → (∃ b, v = V.ref b ∧ H b = none ∧ H4 b = some (.tup (ts ++ [z]))) →
              ∃ acc, H4 D = some (.lst acc) ∧ acc.length < sizeLine ∧ ∃ acc', Same H0 (upd H4 D (.lst (acc ++ [v]))) ∧ upd H4 D (.lst (acc ++ [v])) D = some (.lst acc') ∧
                RowsW false H (upd H4 D (.lst (acc ++ [v]))) acc' (stp (R.take i) xs ++ (xs.take (j + 1)).map fun x => R.getD i [] ++ [x]) := fun {H4 v} e4 h4 hv => by
            refine ⟨ac, h4, by rw [sizeLine_eq]; omega, ac ++ [v], same_put hD (same_trans e3 e4), upd_same, ?_⟩
            have hrow : RowsW false H H4 (ac ++ [v]) (stp (R.take i) xs ++ (xs.take (j + 1)).map fun x => R.getD i [] ++ [x]) := by
              rw [gd, take_next hz, List.map_append, ← List.append_assoc]
              exact each_snoc (hB.up e4) hv
            refine each_and hrow fun v ts _ ⟨b, e5, e7, e6⟩ => ⟨b, e5, e7, ?_⟩
            have e6 : H4 b = some (.tup ts) := e6
            show upd H4 D _ b = _
            rw [upd_ne (ne_of e6 h4 (by intro z; cases z))]
            exact e6
          refine ⟨rfl, _, rfl, _, rfl, by show 1 ≤ sizeLine; decide, fun b hb => ?_⟩
          have e4 : Same H3 (upd H3 b (.tup [z])) := same_new hb
          refine ⟨a, b, ts, [z], rfl, rfl, SqT.of (e4 _ _ (e3 _ _ ha00)), SqT.of upd_same, ?_, fun zz => ?_, fun _ zz => (nomatch zz), fun _ _ p hp => ?_⟩
          · have rl := lw ts (List.mem_of_getElem? hRi)
            rw [sizeLine_eq]
            show ts.length + 1 ≤ _
            omega
          · exact fin e4 (e4 _ _ hac) ⟨b, rfl, (same_trans e1 e3).free hb, by rw [upd_same, zz]; rfl⟩
          · have e5 := same_trans e4 (same_new (o := .tup (ts ++ [z])) hp)
            exact fin e5 (e5 _ _ hac) ⟨p, rfl, (same_trans (same_trans e1 e3) e4).free hp, upd_same⟩
        · rintro H3 ⟨ac, e3, hac, hB⟩
          rw [List.take_length, gd, ← stp_take hRi] at hB
          exact ⟨ac, e3, hac, by simpa using hB⟩
      · rintro H2 ⟨acc, e2, hacc, hA⟩
        refine ⟨D, acc, _, rfl, same_trans e1 e2, hacc, ?_⟩
        rw [hR.length] at hA
        simpa using hA
    · rintro σ H1 ⟨l, rs, v2, rfl, e1, hl1, hR⟩
      refine ⟨_, rfl, l, rs, rfl, .inl ⟨SqL.of hl1, fun p hp => ?_⟩⟩
      rw [List.length_map, hds.length, List.take_length] at hR
      exact q p rs _ (e1.free hp) (same_trans e1 (same_new hp)) upd_same (hR.up (same_new hp))
end
end K01
/-! Vote.rows_voted of so many rows. -/
namespace K01
open PySem PySem.Spec PyProof.Rows L2 KG KS KA KX KIa KFz
/-- vote.rows_voted(row, ..) -/
def spRw (C : Addr) : Sp := fun vs H Q _ => ∃ (o p : Addr) (ls : List Addr) (xs rs : List Str) (k n : Nat) (rows : List (List Str)), vs = [.ref o, .ref p] ∧ H p = some (.tup (ls.map V.ref)) ∧ VtAt C H o xs k rs ∧ VGood xs k rs ∧ LsAt H ls rows ∧ ls.length = k ∧ (∀ r ∈ rows, r.length = n ∧ ∀ x ∈ r, x ∈ xs) ∧ n ≤ 60 ∧
  ∀ (q : Addr) (H' : Hp), Same H H' → H' q = some (.tup ((voteS xs k rs n rows).map V.str)) → Q (.ref q) H'
abbrev spRwV (C : Addr) : Sp := fun vs H Q E => ∃ ws rest, vs = ws ++ rest ∧ ws.length = (["self"] : List Str).length ∧ rest.length ≤ sizeLine ∧ ∀ p, H p = Option.none → spRw C (ws ++ [V.ref p]) (upd H p (.tup rest)) Q E
section
variable {P : Program} {w : World} {K : PySem.W.Frag} {mg : Str → Option Value} {base : Heap}
theorem sc_vtRw : FnScope ["self", "rows", "column"] ((["self"] : List Str) ++ [("rows" : Str)]) (defScope s_vtRows) := ⟨rfl, rfl, rfl, by decide +kernel, rfl, by decide +kernel, by decide +kernel⟩
theorem ok_vtRw (B : Bz mg) {fI : Addr} (C : VtC K mg fI) (f : MtF K "rows_voted" "Vote.rows_voted" s_vtRows) : FnR P w K mg base CX0 1 f.a (spRwV C.C) := by
  obtain ⟨oc, od, kV, doc, pm, an, cdv, ct, osl, ed, lk, hcd⟩ := f.F.ex
  rw [ed] at lk
  refine StX.fn_star (ps := (["self"] : List Str)) (pv := "rows") (sp := spRw C.C) lk hcd sc_vtRw StX.cxUp_none (StX.bind_star1 (B := fun us => bindArgs (PySem.W.fnOf "rows_voted" "Vote.rows_voted" (defArgs s_vtRows) (defBody s_vtRows) (defScope s_vtRows) .none kV doc pm an cdv ct) ⟨us, []⟩) (fun _ => rfl) (fun _ _ _ => rfl)) (fun A outer s H vs Q E hr h => ?_)
  obtain ⟨o, p, ls, xs, rs, k, n, rows, rfl, hp, hO, G, hL, lk, hw, n60, qv⟩ := h
  obtain ⟨dx, d, r, t, ho, ks, hd, hR, ht, eks⟩ := hO
  have hu64 := hr.units
  have hu := hu_of hr
  refine ⟨_, (pss_cons
      (ps_if (pt_cmpR op_ne (pe_callB call_len (by rfl) B.n_len (by decide +kernel) (pa_cons (pv 1) pa_nil)) (pe_fld (pv 0) rfl) (nomark _))
        (pss_one
          ps_dead)
        pss_nil)
    (pss_one
      (ps_ret (pe_callTy call_tuple_of (by rfl) B.n_tuple (by decide +kernel) (pa_cons (pe_lc (own := [("column", 2)]) (g := gName 2) (by rfl) sc_vtRw.nd (KZn.pi_zipS rfl B.n_zip (pv 1)) (blkOk_by (own := [("column", 2)]) (N := ["self", "rows", "column"]) (sc := defScope s_vtRows) (by decide +kernel))
        (fun _ _ _ _ _ => (pg_name (i := 2) sc_vtRw.nd rfl (Or.inl rfl))) (fun _ _ _ _ _ => pts_nil) (fun _ _ _ _ _ => (pe_dget hu (show PE _ _ (tFld K (tVar 0) "result_of") from pe_fld (pv 0) rfl) (pv 2) (fun _ _ => rfl)))) pa_nil))))), ?_⟩
  have lr : rows.length = ls.length := hL.length.symm
  refine ⟨_, rfl, .ref p, ls.length, rfl, .inr ⟨_, SqT.of hp, by rw [List.length_map]⟩, _, rfl, o, C.C, dx, _, _, rfl, ho, C.cl, C.nn, rfl, rfl, _, rfl, ite2 (fun c => ?_) fun c => ?_⟩
  · rw [show (V.int (ls.length : Nat) : V) = V.int (k : Nat) by rw [lk], decide_eq_true rfl] at c
    cases c
  · skip
    refine ⟨_, rfl, p, ls, rfl, .inl (SqT.of hp), by rw [lk]; exact G.hk, ⟨_, hL.sqN⟩, fun D hD => ?_⟩
    refine KZn.lc_zipN (K := K) (rows := rows.map fun r => r.map V.str) (n := n) (fun i H' => Same H H' ∧ H' D = some (.lst (((voteS xs k rs n rows).take i).map V.str))) (fun q hq => ?_) (fun z => ?_) ⟨same_new hD, upd_same⟩ (fun i H' _ z => (hL.up z.1).sqN) ?_ ?_
    · obtain ⟨r', hr', rfl⟩ := List.mem_map.mp hq
      rw [List.length_map]
      exact (hw r' hr').1
    · rw [z] at lk
      rcases G.hk with y | y <;> rw [y] at lk <;> cases lk
    · rintro i T H1 hi ⟨e1, hD1⟩ hT
      rw [col_map (fun r' hr' => (hw r' hr').1) hi]
      obtain ⟨u, hu1, hu2⟩ := vote_in G (lr.trans lk) hw hi
      have e2 : Same H1 (upd H1 T (.tup ((colS i rows).map V.str))) := same_new hT
      have h2 : upd H1 T (.tup ((colS i rows).map V.str)) T = some (.tup ((colS i rows).map V.str)) := upd_same
      generalize upd H1 T (.tup ((colS i rows).map V.str)) = H2 at e2 h2 ⊢
      have e02 := same_trans e1 e2
      have dg : DGet H2 t (.ref T) (valV (KDz.dtOf ks (rs.map V.str)) (KDz.entK (colS i rows))) := DGet.t (e02 _ _ ht) (by rw [KDz.entK_kV]; exact h2)
      rw [val_look, eks, hu2] at dg
      have hv : (voteS xs k rs n rows)[i]? = some u := by
        unfold voteS
        rw [List.getElem?_map, List.getElem?_range hi, Option.map_some, hu2]
        rfl
      refine ⟨rfl, _, rfl, o, C.C, dx, _, _, rfl, e02 _ _ ho, C.cl, C.no, rfl, _, rfl, t, _, rfl, dg, _, e2 _ _ hD1, by rw [List.length_map, List.length_take, sizeLine_eq]; omega, same_put hD e02, ?_⟩
      rw [upd_same, take_next hv, List.map_append]
      rfl
    · rintro H1 ⟨e1, hD1⟩
      have lv : (voteS xs k rs n rows).length = n := by unfold voteS; rw [List.length_map, List.length_range]
      rw [List.take_of_length_le (by omega)] at hD1
      exact ⟨D, _, rfl, .inl ⟨SqL.of hD1, fun q hq => qv q _ (same_trans e1 (same_new hq)) upd_same⟩⟩
end
end K01
/-! arguments_with_last. -/
namespace K01
open PySem PySem.Spec PyProof.Rows L2 KG KS KA KX KIa KFz KTc
abbrev s_arguments_with_last : Stmt := top 27
/-- two for's in a list, the outer walk over a range, the inner one over a tuple -/
theorem lc2_rt {K : PySem.W.Frag} {lo : Int} {n : Nat} {g g1 : TG} {wi1 : TI} {te : TE} {vs vs1 : List Nat} {σ : L2.St} {H1 : Hp} {D : Addr} {Qd : Hp → Prop} (Pv : Nat → Hp → Prop) (h0 : Pv 0 (upd H1 D (.lst [])))
    (hs : ∀ i H, i < n → Pv i H → g (.int (lo + (i : Nat))) (wipe σ vs) H fun σ2 H2 => wipe σ2 vs = wipe σ vs ∧ wi1 σ2 H2 fun J1 H4 => ∃ (c : Addr) (ys : List V) (Pi : Nat → Hp → Prop), J1 = Itt K c ∧ Pi 0 H4 ∧ (∀ j H, j ≤ ys.length → Pi j H → SqT K H c ys) ∧
      (∀ j y H, ys[j]? = some y → Pi j H → g1 y (wipe σ2 vs1) H fun σ3 H5 => wipe σ3 vs1 = wipe σ2 vs1 ∧ te σ3 H5 fun y H7 => ∃ acc, H7 D = some (.lst acc) ∧ acc.length < sizeLine ∧ Pi (j + 1) (upd H7 D (.lst (acc ++ [y])))) ∧
      ∀ H, Pi ys.length H → Pv (i + 1) H)
    (mono : ∀ x, ∀ (σ : L2.St) (H : Hp) (Q R : L2.St → Hp → Prop), (∀ σ H, Q σ H → R σ H) → g x σ H Q → g x σ H R) (mono1 : ∀ x, ∀ (σ : L2.St) (H : Hp) (Q R : L2.St → Hp → Prop), (∀ σ H, Q σ H → R σ H) → g1 x σ H Q → g1 x σ H R)
    (monoI : ∀ (σ : L2.St) (H : Hp) (Q R : It → Hp → Prop), (∀ J H, Q J H → R J H) → wi1 σ H Q → wi1 σ H R)
    (hd : ∀ H, Pv n H → Qd H) :
    ∃ W : Nat → Nat → Hp → Prop, (∃ m, W 0 m (upd H1 D (.lst []))) ∧ ∀ i m H, W i m H →
      ((Itr lo n).stop i H ∧ Qd H) ∨ ((Itr lo n).go i H ∧ ∃ Nx : Hp → Prop, (∀ H', Nx H' → ∃ m', m' < m ∧ W (i + 1) m' H') ∧ ∀ x H', (Itr lo n).yld i H x H' → g x (wipe σ vs) H' fun σ2 H2 => wipe σ2 vs = wipe σ vs ∧ tYes σ2 H2 fun b H3 =>
        if b = true then wi1 σ2 H3 fun J1 H4 => ∃ W1 : Nat → Nat → Hp → Prop, (∃ m, W1 0 m H4) ∧ ∀ j k H, W1 j k H →
          (J1.stop j H ∧ Nx H) ∨ (J1.go j H ∧ ∃ Nx1 : Hp → Prop, (∀ H', Nx1 H' → ∃ k', k' < k ∧ W1 (j + 1) k' H') ∧ ∀ x H', J1.yld j H x H' → g1 x (wipe σ2 vs1) H' fun σ3 H5 => wipe σ3 vs1 = wipe σ2 vs1 ∧ tYes σ3 H5 fun b H6 =>
            if b = true then te σ3 H6 fun y H7 => ∃ acc, H7 D = some (.lst acc) ∧ acc.length < sizeLine ∧ Nx1 (upd H7 D (.lst (acc ++ [y]))) else Nx1 H6)
        else Nx H3) := by
  refine ⟨fun i m H => m = n - i ∧ i ≤ n ∧ Pv i H, ⟨n, by simp, Nat.zero_le _, h0⟩, ?_⟩
  rintro i m H ⟨rfl, hi, p⟩
  by_cases lt : i < n
  · refine .inr ⟨lt, Pv (i + 1), fun H' p' => ⟨n - (i + 1), by omega, rfl, lt, p'⟩, ?_⟩
    rintro x H' ⟨rfl, rfl⟩
    refine mono _ _ _ _ _ (fun σ2 H2 r => ?_) (hs i _ lt p)
    refine ⟨r.1, ?_⟩
    simp only [tYes, if_true]
    refine monoI _ _ _ _ (fun J1 H4 r1 => ?_) r.2
    obtain ⟨c, ys, Pi, rfl, p4, hT, hin, hfin⟩ := r1
    refine ⟨fun j k H => k = ys.length - j ∧ j ≤ ys.length ∧ Pi j H, ⟨ys.length, by simp, Nat.zero_le _, p4⟩, ?_⟩
    rintro j k H ⟨rfl, hj, pj⟩
    have qj := hT j H hj pj
    by_cases ltj : j < ys.length
    · refine .inr ⟨⟨ys, ys[j], qj, by simp [ltj]⟩, Pi (j + 1), fun H' p' => ⟨ys.length - (j + 1), by omega, rfl, ltj, p'⟩, ?_⟩
      rintro z H' ⟨rfl, yz⟩
      refine mono1 _ _ _ _ _ (fun σ3 H5 r3 => ⟨r3.1, ?_⟩) (hin j z _ (yz ys qj) pj)
      exact r3.2
    · have e : j = ys.length := by omega
      subst e
      exact .inl ⟨⟨ys, qj, Nat.le_refl _⟩, hfin H pj⟩
  · have e : i = n := by omega
    subst e
    exact .inl ⟨Nat.le_refl _, hd H p⟩
theorem cut_init (xs : List V) (a : V) : cutV (xs ++ [a]) none (some (-1)) = xs := by
  unfold cutV
  have e1 : HT.sIx (xs ++ [a]).length 0 none = 0 := rfl
  have e2 : HT.sIx (xs ++ [a]).length (xs ++ [a]).length (some (-1 : Int)) = xs.length := by
    simp only [HT.sIx]
    rw [if_pos (by decide), List.length_append, List.length_singleton]
    omega
  rw [e1, e2, List.drop_zero, Nat.sub_zero, List.take_left']
  rfl
theorem cut_last (xs : List V) (a : V) : cutV (xs ++ [a]) (some (-1)) none = [a] := by
  unfold cutV
  have e1 : HT.sIx (xs ++ [a]).length 0 (some (-1 : Int)) = xs.length := by
    simp only [HT.sIx]
    rw [if_pos (by decide), List.length_append, List.length_singleton]
    omega
  have e2 : HT.sIx (xs ++ [a]).length (xs ++ [a]).length none = (xs ++ [a]).length := rfl
  rw [e1, e2, List.drop_left', List.take_of_length_le]
  · rw [List.length_append]
    omega
  · rfl
/-- the tuples with the last one first at place p -/
abbrev argP {α : Type} (S : List α) (a : α) (k p : Nat) : List (List α) := prG (List.replicate p S ++ [[a]] ++ List.replicate (k - 1 - p) (S ++ [a]))
def argA {α : Type} (S : List α) (a : α) (k : Nat) : List (List α) := (List.range k).flatMap (argP S a k)
theorem mem_argA {α : Type} {S : List α} {a : α} {k : Nat} {t : List α} : t ∈ argA S a k ↔ t.length = k ∧ (∀ x ∈ t, x ∈ S ++ [a]) ∧ a ∈ t := by
  unfold argA
  rw [List.mem_flatMap]
  constructor
  · rintro ⟨p, hp, h⟩
    have pk := List.mem_range.mp hp
    obtain ⟨u, v, h1, h2, h3, h4, rfl⟩ := mem_with.mp h
    refine ⟨by rw [List.length_append, List.length_cons]; omega, fun x hx => ?_, by simp⟩
    rcases List.mem_append.mp hx with z | z
    · exact List.mem_append_left _ (h2 x z)
    · rcases List.mem_cons.mp z with rfl | z
      · simp
      · exact h4 x z
  · rintro ⟨l, sub, m⟩
    obtain ⟨u, v, rfl, nu⟩ := List.eq_append_cons_of_mem m
    rw [List.length_append, List.length_cons] at l
    refine ⟨u.length, List.mem_range.mpr (by omega), mem_with.mpr ⟨u, v, rfl, fun x hx => ?_, by omega, fun x hx => sub x (List.mem_append_right _ (List.mem_cons_of_mem _ hx)), rfl⟩⟩
    rcases List.mem_append.mp (sub x (List.mem_append_left _ hx)) with z | z
    · exact z
    · rw [List.mem_singleton.mp z] at hx
      exact absurd hx nu
theorem argP_len {α : Type} {S : List α} {a : α} {k p M : Nat} (hp : p < k) (hM : S.length + 1 ≤ M) : (argP S a k p).length ≤ M ^ k := by
  have z := prG_len (List.replicate p S ++ [[a]] ++ List.replicate (k - 1 - p) (S ++ [a])) (M := M) fun c hc => by
    rcases List.mem_append.mp hc with h | h
    · rcases List.mem_append.mp h with h | h
      · rw [List.eq_of_mem_replicate h]
        omega
      · rw [List.mem_singleton.mp h]
        show 1 ≤ M
        omega
    · rw [List.eq_of_mem_replicate h, List.length_append]
      exact hM
  rw [List.length_append, List.length_append, List.length_replicate, List.length_replicate, List.length_singleton, show p + 1 + (k - 1 - p) = k by omega] at z
  exact z
def tArg : TE := fun σ H Q => ∃ (r la : Addr) (S : KzL) (a : Addr × List Str) (k i : Nat), σ[0]? = some (some (.ref r)) ∧ σ[1]? = some (some (.int (k : Nat))) ∧ σ[2]? = some (some (.ref la)) ∧ σ[3]? = some (some (.int (0 + (i : Nat)))) ∧ H r = some (.lst (refs (S ++ [a]))) ∧ H la = some (.lst [V.ref a.1]) ∧ i < k ∧ k ≤ 4 ∧ S.length + 1 ≤ 12 ∧
  ∀ (p : Addr) (rs : List V) (H' : Hp), H p = none → Same H H' → H' p = some (.tup rs) → RowsW false H H' rs ((argP S a k i).map (List.map fun p => V.ref p.1)) → Q (.ref p) H'
theorem rowsW_back {H0 H1 H : Hp} (e : Same H0 H1) {vs : List V} {R : List (List V)} (h : RowsW false H1 H vs R) : RowsW false H0 H vs R := each_and h fun v ts _ ⟨a, e1, e0, e2⟩ => ⟨a, e1, e.free e0, e2⟩
def spAl (K : PySem.W.Frag) : Sp := fun vs H Q _ => ∃ (r : Addr) (S : KzL) (a : Addr × List Str) (k : Nat), vs = [.ref r, .int (k : Nat)] ∧ H r = some (.lst (refs (S ++ [a]))) ∧ 1 ≤ k ∧ k ≤ 4 ∧ S.length + 1 ≤ 12 ∧
  ∀ (l : Addr) (rs0 : List V) (H' : Hp), H l = none → Same H H' → H' l = some (.lst rs0) → RowsW false H H' rs0 ((argA S a k).map (List.map fun p => V.ref p.1)) → Q (.ref l) H'
section
variable {P : Program} {w : World} {K : PySem.W.Frag} {mg : Str → Option Value} {base : Heap}
theorem sc_args : FnScope ["rows", "count", "last", "place", "some"] ["rows", "count"] (defScope s_arguments_with_last) := ⟨rfl, rfl, rfl, by decide +kernel, rfl, by decide +kernel, by decide +kernel⟩
theorem ok_args (B : Bs mg) (fa : FnF K mg "all_rows" "all_rows" s_all_rows) (f : FnF K mg "arguments_with_last" "arguments_with_last" s_arguments_with_last) : FnOk P w K mg base CX0 2 f.a f.d ["rows", "count"] (spAl K) := by
  have GA := ok_all_rowsG (P := P) (w := w) (base := base) B fa
  have bA : L2.Binds K fa.d ["columns"] [] := fa.F.binds fun _ _ _ _ _ _ us hl => match us, hl with | [_], _ => rfl
  refine f.F.ok sc_args (fun vs H Q E h => ?_) (fun cdv A outer s H vs Q E hr h => ?_)
  · obtain ⟨r, S, a, k, rfl, _⟩ := h
    rfl
  · obtain ⟨r, S, a, k, rfl, hrr, k1, k4, l12, q⟩ := h
    have pw12 : ∀ {k j : Nat}, k ≤ 4 → j ≤ k → 12 ^ j ≤ 100000 := fun {k j} k4 hj => Nat.le_trans (Nat.pow_le_pow_right (by decide) (Nat.le_trans hj k4)) (by decide)
    refine ⟨_, (pss_cons
      (ps_set (i := 2) sc_args.nd rfl (Or.inr rfl) (pe_slice sl_list (pv 0) (po_some (pe_un un_neg pe_int)) po_none))
    (pss_one
      (ps_ret (pe_lc2 (own := [("place", 3), ("some", 4)]) (vs1 := [4]) (g := gName 3) (g1 := gName 4) (by rfl) sc_args.nd (pi_range1 rfl B.n_range (pa_cons (pv 1) pa_nil)) (blkOk_by (own := [("place", 3), ("some", 4)]) (N := ["rows", "count", "last", "place", "some"]) (sc := defScope s_arguments_with_last) (by decide +kernel)) (by decide)
        (fun _ _ _ _ _ => (pg_name (i := 3) sc_args.nd rfl (Or.inl rfl))) (fun _ _ _ _ _ => pts_nil)
        (fun _ _ _ _ _ => (show PI _ _ _ (iTup K tArg) from pi_tup (pe_mono (t' := tArg) (pe_call GA hr (by rfl) fa.g fa.F.kp bA .nil pass0 (pa_cons (pe_op op_cat (pe_op op_cat (pe_op op_rep (pe_lst (pa_cons (pe_slice (show SlR _ (rSlL K) from sl_list) (pv 0) po_none (po_some (pe_un un_neg pe_int))) pa_nil)) (pv 3)) (pe_lst (pa_cons (pv 2) pa_nil))) (pe_op op_rep (pe_lst (pa_cons (pv 0) pa_nil)) (pe_op op_sub (pe_op op_sub (pv 1) pe_int) (pv 3)))) pa_nil)) (fun σ H2 Q ⟨r, la, S, a, k, i, s0, s1, s2, s3, hrr, hla, hi, k4, l12, q⟩ => by
      have er : refs (S ++ [a]) = refs S ++ [V.ref a.1] := by rw [refs, refs, List.map_append]; rfl
      refine ⟨_, s0, 1, rfl, -1, rfl, r, _, rfl, SqL.of hrr, fun p1 hp1 => ⟨by show 1 ≤ sizeLine; decide, fun l1 hl1 => ⟨_, s3, ?_⟩⟩⟩
      have e3 : Same H2 (upd H2 p1 (.lst (cutV (refs (S ++ [a])) none (some (-1))))) := same_new hp1
      have h3 : upd H2 p1 (.lst (cutV (refs (S ++ [a])) none (some (-1)))) p1 = some (.lst (refs S)) := by rw [upd_same, er, cut_init]
      generalize upd H2 p1 (.lst (cutV (refs (S ++ [a])) none (some (-1)))) = H3 at e3 h3 hl1 ⊢
      have e4 : Same H3 (upd H3 l1 (.lst [V.ref p1])) := same_new hl1
      have h4 : upd H3 l1 (.lst [V.ref p1]) l1 = some (.lst [V.ref p1]) := upd_same
      generalize upd H3 l1 (.lst [V.ref p1]) = H4 at e4 h4 ⊢
      refine ⟨l1, _, _, rfl, rfl, h4, by omega, by omega, (by rw [sizeLine_eq]; show 1 * _ ≤ _; omega), fun l2 hl2 => ⟨_, s2, by show 1 ≤ sizeLine; decide, fun l3 hl3 => ?_⟩⟩
      have f2 : (List.replicate ((0 : Int) + (i : Nat)).toNat [V.ref p1]).flatten = (List.replicate i p1).map V.ref := by
        rw [show ((0 : Int) + (i : Nat)).toNat = i by omega, flat_rep, List.map_replicate]
      rw [f2] at hl3 ⊢
      have e5 : Same H4 (upd H4 l2 (.lst ((List.replicate i p1).map V.ref))) := same_new hl2
      have h5 : upd H4 l2 (.lst ((List.replicate i p1).map V.ref)) l2 = some (.lst ((List.replicate i p1).map V.ref)) := upd_same
      generalize upd H4 l2 (.lst ((List.replicate i p1).map V.ref)) = H5 at e5 h5 hl3 ⊢
      have e6 : Same H5 (upd H5 l3 (.lst [V.ref la])) := same_new hl3
      have h6 : upd H5 l3 (.lst [V.ref la]) l3 = some (.lst [V.ref la]) := upd_same
      generalize upd H5 l3 (.lst [V.ref la]) = H6 at e6 h6 ⊢
      refine ⟨l2, l3, _, _, rfl, rfl, e6 _ _ h5, h6, by rw [List.length_map, List.length_replicate, sizeLine_eq]; show i + 1 ≤ _; omega, fun l4 hl4 => ⟨_, s0, by show 1 ≤ sizeLine; decide, fun l5 hl5 => ?_⟩⟩
      have e7 : Same H6 (upd H6 l4 (.lst ((List.replicate i p1).map V.ref ++ [V.ref la]))) := same_new hl4
      have h7 : upd H6 l4 (.lst ((List.replicate i p1).map V.ref ++ [V.ref la])) l4 = some (.lst ((List.replicate i p1).map V.ref ++ [V.ref la])) := upd_same
      generalize upd H6 l4 (.lst ((List.replicate i p1).map V.ref ++ [V.ref la])) = H7 at e7 h7 hl5 ⊢
      have e8 : Same H7 (upd H7 l5 (.lst [V.ref r])) := same_new hl5
      have h8 : upd H7 l5 (.lst [V.ref r]) l5 = some (.lst [V.ref r]) := upd_same
      generalize upd H7 l5 (.lst [V.ref r]) = H8 at e8 h8 ⊢
      refine ⟨_, s1, _, _, rfl, rfl, _, s3, _, _, rfl, rfl, l5, _, _, rfl, rfl, h8, by omega, by omega, (by rw [sizeLine_eq]; show 1 * _ ≤ _; omega), fun l6 hl6 => ?_⟩
      have f6 : (List.replicate (((k : Nat) : Int) - 1 - ((0 : Int) + (i : Nat))).toNat [V.ref r]).flatten = (List.replicate (k - 1 - i) r).map V.ref := by
        rw [show (((k : Nat) : Int) - 1 - ((0 : Int) + (i : Nat))).toNat = k - 1 - i by omega, flat_rep, List.map_replicate]
      rw [f6]
      have e9 : Same H8 (upd H8 l6 (.lst ((List.replicate (k - 1 - i) r).map V.ref))) := same_new hl6
      have h9 : upd H8 l6 (.lst ((List.replicate (k - 1 - i) r).map V.ref)) l6 = some (.lst ((List.replicate (k - 1 - i) r).map V.ref)) := upd_same
      generalize upd H8 l6 (.lst ((List.replicate (k - 1 - i) r).map V.ref)) = H9 at e9 h9 ⊢
      have e79 := same_trans e8 e9
      refine ⟨l4, l6, _, _, rfl, rfl, e79 _ _ h7, h9, by rw [List.length_append, List.length_map, List.length_map, List.length_replicate, List.length_replicate, sizeLine_eq]; show i + 1 + _ ≤ _; omega, fun l7 hl7 => ?_⟩
      have eA : Same H9 (upd H9 l7 (.lst ((List.replicate i p1).map V.ref ++ [V.ref la] ++ (List.replicate (k - 1 - i) r).map V.ref))) := same_new hl7
      have hA7 : upd H9 l7 (.lst ((List.replicate i p1).map V.ref ++ [V.ref la] ++ (List.replicate (k - 1 - i) r).map V.ref)) l7 = some (.lst ((List.replicate i p1 ++ [la] ++ List.replicate (k - 1 - i) r).map V.ref)) := by
        rw [upd_same, List.map_append, List.map_append]
        rfl
      generalize upd H9 l7 (.lst ((List.replicate i p1).map V.ref ++ [V.ref la] ++ (List.replicate (k - 1 - i) r).map V.ref)) = HA at eA hA7 ⊢
      have e3A := same_trans (same_trans e4 e5) (same_trans (same_trans e6 e7) (same_trans e79 eA))
      have e2A := same_trans e3 e3A
      have hp1A := e3A _ _ h3
      have hlaA := e2A _ _ hla
      have hrA := e2A _ _ hrr
      have hcols : W.EachIs (fun d xs => HA d = some (.lst xs)) (List.replicate i p1 ++ [la] ++ List.replicate (k - 1 - i) r) ((List.replicate i S ++ [[a]] ++ List.replicate (k - 1 - i) (S ++ [a])).map (List.map fun p => V.ref p.1)) := by
        have rep : ∀ (m : Nat) (d : Addr) (xs : KzL), HA d = some (.lst (refs xs)) → W.EachIs (fun d xs => HA d = some (.lst xs)) (List.replicate m d) ((List.replicate m xs).map (List.map fun p : Addr × List Str => V.ref p.1)) := fun m d xs h => by
          induction m with
          | zero => exact .nil
          | succ m ih => exact .cons h ih
        rw [List.map_append, List.map_append]
        exact each_appW (each_appW (rep i p1 S hp1A) (.cons hlaA .nil)) (rep _ r _ hrA)
      have lenc : (List.replicate i S ++ [[a]] ++ List.replicate (k - 1 - i) (S ++ [a])).length = k := by
        rw [List.length_append, List.length_append, List.length_replicate, List.length_replicate, List.length_singleton]
        omega
      have limc : ∀ j, j ≤ (List.replicate i S ++ [[a]] ++ List.replicate (k - 1 - i) (S ++ [a])).length → (prG (((List.replicate i S ++ [[a]] ++ List.replicate (k - 1 - i) (S ++ [a])).map (List.map fun p : Addr × List Str => V.ref p.1)).take j)).length ≤ 100000 := fun j hj => by
        rw [lenc] at hj
        have z := prG_len (((List.replicate i S ++ [[a]] ++ List.replicate (k - 1 - i) (S ++ [a])).map (List.map fun p : Addr × List Str => V.ref p.1)).take j) (M := 12) fun c hc => by
          obtain ⟨c0, hc0, rfl⟩ := List.mem_map.mp (List.mem_of_mem_take hc)
          rw [List.length_map]
          rcases List.mem_append.mp hc0 with h | h
          · rcases List.mem_append.mp h with h | h
            · rw [List.eq_of_mem_replicate h]
              omega
            · rw [List.mem_singleton.mp h]
              show 1 ≤ 12
              decide
          · rw [List.eq_of_mem_replicate h, List.length_append]
            exact l12
        refine Nat.le_trans z (pw12 k4 ?_)
        rw [List.length_take]
        omega
      refine ⟨l7, _, _, rfl, hA7, hcols, by rw [List.length_map, lenc]; exact k4, (by rw [List.length_map]; exact limc), fun pA rsA HB npA eB hpA hW => ?_⟩
      rw [prG_map] at hW
      exact q pA rsA HB (e2A.free npA) (same_trans e2A eB) hpA (rowsW_back e2A hW)))))
        (fun _ _ _ _ _ => (pg_name (i := 4) sc_args.nd rfl (Or.inl rfl))) (fun _ _ _ _ _ => pts_nil) (fun _ _ _ _ _ => (pv 4)))))), ?_⟩
    have er : refs (S ++ [a]) = refs S ++ [V.ref a.1] := by rw [refs, refs, List.map_append]; rfl
    refine ⟨_, rfl, 1, rfl, -1, rfl, r, _, rfl, SqL.of hrr, fun la hla => ?_⟩
    have e1 : Same H (upd H la (.lst (cutV (refs (S ++ [a])) (some (-1)) none))) := same_new hla
    have h1 : upd H la (.lst (cutV (refs (S ++ [a])) (some (-1)) none)) la = some (.lst [V.ref a.1]) := by rw [upd_same, er, cut_last]
    generalize upd H la (.lst (cutV (refs (S ++ [a])) (some (-1)) none)) = H1 at e1 h1 ⊢
    have toN : ∀ m : Nat, ((m : Nat) : Int).toNat = m := fun m => Int.toNat_natCast m
    refine ⟨_, rfl, _, rfl, by omega, by omega, fun D hD => ?_⟩
    have hDH : H D = none := e1.free hD
    refine lc2_rt (K := K) (lo := 0) (n := ((k : Nat) : Int).toNat) (fun i H' => ∃ acc : List V, Same H1 H' ∧ H' D = some (.lst acc) ∧ RowsW false H H' acc (((List.range i).flatMap (argP S a k)).map (List.map fun p => V.ref p.1)) ∧ acc.length ≤ 100000 * i)
      ⟨[], same_new hD, upd_same, .nil, Nat.zero_le _⟩ ?_ (fun x σ H Q R h q => h _ _ q) (fun x σ H Q R h q => h _ _ q) (fun σ H Q R hQ h => ?_) ?_
    · rintro i H2 hi ⟨acc, e2, hacc, hA, lac⟩
      rw [toN] at hi
      have e02 := same_trans e1 e2
      refine ⟨rfl, r, la, S, a, k, i, rfl, rfl, rfl, rfl, e02 _ _ hrr, e2 _ _ h1, hi, k4, l12, fun pA rsA HB npA e2B hpA hW => ⟨pA, rfl, ⟨_, SqT.of hpA⟩, pA, rsA, ?_⟩⟩
      have lrs := hW.length
      rw [List.length_map] at lrs
      have lP : (argP S a k i).length ≤ 100000 := Nat.le_trans (argP_len hi l12) (pw12 k4 (Nat.le_refl _))
      have hDB := e2B _ _ hacc
      have npD : pA ≠ D := by
        rintro rfl
        rw [hacc] at npA
        cases npA
      refine ⟨fun j H' => (∀ b o, HB b = some o → b ≠ D → H' b = some o) ∧ ∃ acc : List V, H' D = some (.lst acc) ∧ RowsW false H H' acc (((List.range i).flatMap (argP S a k) ++ (argP S a k i).take j).map (List.map fun p => V.ref p.1)) ∧ acc.length ≤ 100000 * i + j, rfl, ?_, ?_, ?_, ?_⟩
      · exact ⟨fun _ _ h _ => h, acc, hDB, by rw [List.take_zero, List.append_nil]; exact hA.up e2B, by omega⟩
      · exact fun j H3 _ ⟨e, _⟩ => SqT.of (e _ _ hpA npD)
      · rintro j y H3 hy ⟨e3, ac, hac, hB, lb⟩
        obtain ⟨ts, hts, b, rfl, nb, hb⟩ := each_get hW hy
        rw [List.getElem?_map] at hts
        cases hps : (argP S a k i)[j]? with
        | none =>
          rw [hps] at hts
          cases hts
        | some ps =>
          rw [hps] at hts
          obtain rfl : ps.map (fun p => V.ref p.1) = ts := Option.some.inj hts
          have jl : j < (argP S a k i).length := (List.getElem?_eq_some_iff.mp hps).1
          have hb : HB b = some (.tup (ps.map fun p => V.ref p.1)) := hb
          have ik : 100000 * i ≤ 300000 := by omega
          refine ⟨rfl, _, rfl, ac, hac, by rw [sizeLine_eq]; omega, fun c o h n => ?_, ac ++ [V.ref b], upd_same, ?_, by rw [List.length_append]; show ac.length + 1 ≤ _; omega⟩
          · rw [upd_ne n]
            exact e3 _ _ h n
          · rw [take_next hps, ← List.append_assoc, List.map_append]
            have hb3 : H3 b = some (.tup (ps.map fun p => V.ref p.1)) := e3 _ _ hb (ne_of hb hDB (by intro z; cases z))
            have hrow : RowsW false H H3 (ac ++ [V.ref b]) (((List.range i).flatMap (argP S a k) ++ (argP S a k i).take j).map (List.map fun p => V.ref p.1) ++ [ps].map (List.map fun p => V.ref p.1)) := each_snoc hB ⟨b, rfl, e02.free nb, hb3⟩
            refine each_and hrow fun v ts _ ⟨b', e5, e7, e6⟩ => ⟨b', e5, e7, ?_⟩
            have e6 : H3 b' = some (.tup ts) := e6
            show upd H3 D _ b' = _
            rw [upd_ne (ne_of e6 hac (by intro z; cases z))]
            exact e6
      · rintro H3 ⟨e3, ac, hac, hB, lb⟩
        rw [lrs, List.take_length] at hB
        refine ⟨ac, fun b o h => e3 _ _ (e2B _ _ (e2 _ _ h)) (ne_of_none h hD), hac, ?_, by omega⟩
        rw [List.range_succ, List.flatMap_append, List.flatMap_cons, List.flatMap_nil, List.append_nil]
        exact hB
    · exact let ⟨r, la, S, a, k, i, s0, s1, s2, s3, hrr, hla, hi, k4, l12, q⟩ := h; ⟨r, la, S, a, k, i, s0, s1, s2, s3, hrr, hla, hi, k4, l12, fun p rs H' n e h2 h3 => let ⟨a, ea, sa, qa⟩ := q p rs H' n e h2 h3; ⟨a, ea, sa, hQ _ _ qa⟩⟩
    · rintro H2 ⟨acc, e2, hacc, hA, lac⟩
      rw [toN] at hA
      exact q D acc H2 hDH (same_trans e1 e2) hacc hA
end
end K01
/-! ~table -/
namespace K01
open PySem PySem.Spec PyProof.Rows L2 KG KS KA
abbrev s_tabNot : Stmt := inCls 22 11
/-- ~table -/
def spNot (C : Addr) : Sp := fun vs H Q _ => ∃ (x : Addr) (ds : List Str) (n : Nat) (R : List (List Str)), vs = [.ref x] ∧ TabAt C H x ds n R ∧
  ∀ (o : Addr) (H' : Hp) (R' : List (List Str)), H o = none → Same H H' → TabAt C H' o ds n R' → (∀ row, row ∈ R' ↔ (row ∈ allR n ds ∧ row ∉ R)) → Q (.ref o) H'
theorem allR_mem {n : Nat} {ds r : List Str} (h : r ∈ allR n ds) : ∀ x ∈ r, x ∈ ds := by
  induction n generalizing r with
  | zero =>
    have e : r = [] := List.mem_singleton.mp h
    rw [e]
    exact fun _ z => (nomatch z)
  | succ n ih =>
    rw [allR_succ] at h
    obtain ⟨q, hq, h2⟩ := List.mem_flatMap.mp h
    obtain ⟨c, hc, rfl⟩ := List.mem_map.mp h2
    intro x hx
    rcases List.mem_append.mp hx with h3 | h3
    · exact ih hq x h3
    · rw [List.mem_singleton.mp h3]
      exact hc
section
variable {P : Program} {w : World} {K : PySem.W.Frag} {mg : Str → Option Value} {base : Heap}
theorem sc_tabNot : FnScope ["self", "others", "row"] ["self"] (defScope s_tabNot) := ⟨rfl, rfl, rfl, by decide +kernel, rfl, by decide +kernel, by decide +kernel⟩
theorem ok_tabNot (B : Bs mg) (ti : MtD K "__init__" "Table.__init__" s_tabInit) (F : TabF K mg) (T : TabC K mg ti.a) (J : C8.InsC K T.C) (f : MtF K "__invert__" "Table.__invert__" s_tabNot) :
    FnOk P w K mg base CX0 6 f.a f.d ["self"] (spNot T.C) := by
  have G5 := ok_all_rows (P := P) (w := w) (base := base) B F.all
  have b5 : Binds K F.all.d ["columns"] [] := F.all.F.binds fun _ _ _ _ _ _ us hl => match us, hl with | [_], _ => rfl
  have G6 := ok_tabInit (P := P) (w := w) (base := base) B ti F T
  have b6 : Binds K ti.d ["self", "domain", "width", "rows"] [] := by
    obtain ⟨ds, r, b⟩ := ti.F.binds1 (ps := ["self", "domain", "width", "rows"]) 4 1 (by simp) rfl fun _ _ _ _ _ _ _ us its h1 h2 => match us, its, h1, h2 with | [_, _, _, _], [_], _, _ => ⟨_, rfl, rfl⟩
    cases (show Vals [] ds from r)
    exact b
  refine f.F.ok sc_tabNot (fun vs H Q E h => ?_) (fun cdv A outer s H vs Q E hr h => ?_)
  · obtain ⟨x, ds, n, R, rfl, _⟩ := h
    rfl
  · obtain ⟨x, ds, n, R, rfl, TX, q⟩ := h
    have hu64 := hr.units
    have hr1 : Room 1 _ := hr.mono (by omega)
    have hr5 : Room 5 _ := hr.mono (by omega)
    refine ⟨_, (pss_cons
      (ps_setLc (i := 1) (own := [("row", 2)]) (g := gName 2) (by rfl) sc_tabNot.nd rfl rfl (sw_true rfl rfl rfl (by decide +kernel)) (pi_tup (pe_call G5 hr1 rfl F.all.g F.all.F.kp b5 .nil pass0 (pa_cons (pe_op op_rep (pe_lst (pa_cons (pe_fld (pv 0) rfl) pa_nil)) (pe_fld (pv 0) rfl)) pa_nil))) (blkOk_by (own := [("row", 2)]) (N := ["self", "others", "row"]) (sc := defScope s_tabNot) (by decide +kernel)) (fun _ _ _ _ _ => (pg_name (i := 2) sc_tabNot.nd rfl (Or.inl rfl))) (fun _ _ _ _ _ => (pts_one (pt_cmpR (show OpR _ (compareOp .NotIn) (rOutRows K) from op_outRows hu64) (pv 2) (show PE _ _ (tFld K (tVar 0) "rows") from pe_fld (pv 0) rfl) (by rfl)))) (fun _ _ _ _ _ => (pv 2)))
    (pss_one
      (ps_ret (pe_make T.made G6 hr5 rfl T.g b6 .nil pass0 (pa_cons (pe_fld (pv 0) rfl) (pa_cons (pe_fld (pv 0) rfl) (pa_cons (pe_callTy call_tuple_of (by rfl) B.n_tuple (by decide +kernel) (pa_cons (pv 1) pa_nil)) pa_nil))))))), ?_⟩
    obtain ⟨dx, d, p, rs, cols, ht, hd, hp, hR, hC⟩ := TX.ex
    obtain ⟨dasc, dok, d1, d3, n1, n3⟩ := TX.dom
    refine ⟨_, rfl, x, T.C, dx, _, _, rfl, ht, T.cl, T.nd, rfl, by show 1 ≤ sizeLine; decide, fun l hl => ?_⟩
    have el : Same H (upd H l (.lst [V.ref d])) := same_new hl
    refine ⟨_, rfl, x, T.C, dx, _, _, rfl, el _ _ ht, T.cl, T.nw, rfl, l, (n : Nat), [V.ref d], rfl, rfl, upd_same, by omega, by omega, (by rw [sizeLine_eq]; show 1 * _ ≤ _; omega), fun u hu => ?_⟩
    have e5 : Same H (upd (upd H l (.lst [V.ref d])) u (.lst (List.replicate (n : Int).toNat [V.ref d]).flatten)) := same_trans el (same_new hu)
    have hu5 : upd (upd H l (.lst [V.ref d])) u (.lst (List.replicate (n : Int).toNat [V.ref d]).flatten) u = some (.lst ((List.replicate n d).map V.ref)) := by
      rw [upd_same, flat_rep, List.map_replicate]
      rfl
    generalize upd (upd H l (.lst [V.ref d])) u (.lst (List.replicate (n : Int).toNat [V.ref d]).flatten) = H5 at e5 hu5 ⊢
    have hR5 : RowsAt H5 ((List.replicate n d).map V.ref) (List.replicate n ds) := by
      rw [List.map_replicate]
      have key : ∀ k, RowsAt H5 (List.replicate k (V.ref d)) (List.replicate k ds) := fun k => by
        induction k with
        | zero => exact .nil
        | succ k ih => exact .cons ⟨d, rfl, e5 _ _ hd⟩ ih
      exact key n
    refine ⟨u, List.replicate n d, List.replicate n ds, rfl, hu5, hR5, few_of (fun c hc => by rw [List.eq_of_mem_replicate hc]; exact d3) (by rw [List.length_replicate]; exact n3), by rw [List.length_replicate]; omega, fun pf fs H6 hpf e56 hpf6 hRf => ?_⟩
    have hRf : RowsAt H6 fs (allR n ds) := hRf
    have e6 := same_trans e5 e56
    have lim := allR_le n3 d3
    refine ⟨pf, rfl, ⟨_, SqT.of hpf6⟩, fun D hD => ?_⟩
    refine lc_tup (K := K) (xs := fs) (fun i H' => ∃ ac, Same H6 H' ∧ H' D = some (.lst ac) ∧ RowsAt H' ac (((allR n ds).take i).filter fun r => !decide (r ∈ R))) ⟨[], same_new hD, upd_same, .nil⟩ (fun i H' _ ⟨_, e, _⟩ => SqT.of (e _ _ hpf6)) ?_ ?_
    · rintro i z H3 hz ⟨ac, e3, hac, hB⟩
      obtain ⟨ts, hRi, b, rfl, hb⟩ := each_get hRf hz
      have e63 := same_trans e6 e3
      refine ⟨rfl, _, rfl, _, rfl, x, T.C, dx, _, _, rfl, e63 _ _ ht, T.cl, T.nr, rfl, ts, R, .tup (SqT.of (e3 _ _ hb)) (texts_dp ts), .tup (SqT.of (e63 _ _ hp)) (rows_dp (hR.up e63)), ?_⟩
      have z := filt_step (fun r => !decide (r ∈ R)) hD e3 hac hB hRi (e3 _ _ hb) (by omega)
      have z : if (!decide (ts ∈ R)) = true then _ else _ := z
      refine ⟨_, rfl, ?_⟩
      by_cases c : (!decide (ts ∈ R)) = true
      · rw [if_pos c] at z
        obtain ⟨acc, h1, h2, h3⟩ := z
        exact iteT' c ⟨_, rfl, acc, h1, h2, h3⟩
      · rw [if_neg c] at z
        exact iteF' c z
    · rintro H3 ⟨ac, e3, hac, hB⟩
      rw [hRf.length, List.take_length] at hB
      have e63 := same_trans e6 e3
      refine ⟨_, rfl, x, T.C, dx, _, _, rfl, e63 _ _ ht, T.cl, T.nd, rfl, _, rfl, x, T.C, dx, _, _, rfl, e63 _ _ ht, T.cl, T.nw, rfl, ?_⟩
      refine ⟨_, rfl, D, ac, rfl, .inl ⟨SqL.of hac, fun t ht0 => ?_⟩⟩
      have e4 : Same H3 (upd H3 t (.tup ac)) := same_new ht0
      have e34 := same_trans e63 e4
      refine make_tab (e34 _ _ hd) TX.dom upd_same (hB.up e4) (fun r hr => ⟨allR_row (List.mem_filter.mp hr).1, allR_mem (List.mem_filter.mp hr).1⟩) (by have := List.length_filter_le (fun r => !decide (r ∈ R)) (allR n ds); omega) fun o H' R' ho e5 TO mem => ?_
      refine q o H' R' (e34.free ho) (same_trans e34 e5) TO fun row => ?_
      rw [mem row, List.mem_filter]
      simp
end
end K01
/-! table == table -/
namespace K01
open PySem PySem.Spec PyProof.Rows L2 KG KS KA
abbrev s_tabEq : Stmt := inCls 22 3
/-- table == table, over the same values, of the same width -/
def spEq (C : Addr) : Sp := fun vs H Q _ => ∃ (x y : Addr) (ds : List Str) (n : Nat) (R S : List (List Str)), vs = [.ref x, .ref y] ∧ TabAt C H x ds n R ∧ TabAt C H y ds n S ∧ Q (.bl (decide (R = S))) H
section
variable {P : Program} {w : World} {K : PySem.W.Frag} {mg : Str → Option Value} {base : Heap}
theorem sc_tabEq : FnScope ["self", "other"] ["self", "other"] (defScope s_tabEq) := ⟨rfl, rfl, rfl, by decide +kernel, rfl, by decide +kernel, by decide +kernel⟩
theorem ok_tabEq {it : Addr} (B : Bs mg) (T : TabC K mg it) (J : C8.InsC K T.C) (f : MtF K "__eq__" "Table.__eq__" s_tabEq) : FnOk P w K mg base CX0 1 f.a f.d ["self", "other"] (spEq T.C) := by
  refine f.F.ok sc_tabEq (fun vs H Q E h => ?_) (fun cdv A outer s H vs Q E hr h => ?_)
  · obtain ⟨x, y, ds, n, R, S, rfl, _⟩ := h
    rfl
  · obtain ⟨x, y, ds, n, R, S, rfl, TX, TY, q⟩ := h
    have hu64 := hr.units
    refine ⟨_, (pss_one
      (ps_ret (pe_and (pe_callB (C8.call_isC J) (by rfl) B.n_isinstance (by decide +kernel) (pa_cons (pv 1) (pa_cons (pe_glob (v := .ref T.C) rfl T.g rfl) pa_nil))) (pe_and (pe_cmpR (op_eqD hu64) (pe_fld (pv 0) rfl) (pe_fld (pv 1) rfl) (nomark _)) (pe_and (pe_cmpR op_eq (pe_fld (pv 0) rfl) (pe_fld (pv 1) rfl) (nomark _)) (pe_one (pe_cmpR (op_eqD hu64) (pe_fld (pv 0) rfl) (pe_fld (pv 1) rfl) (nomark _)))))))), ?_⟩
    obtain ⟨dx, d, p, rs, cols, ht, hd, hp, hR, hC⟩ := TX.ex
    obtain ⟨dx2, d2, p2, rs2, cols2, ht2, hd2, hp2, hR2, hC2⟩ := TY.ex
    have ok := TX.dom.2.1
    have sh : SeqAt.shaped (txd ds) = true := txd_shaped fun x hx => name_strOk (ok x hx)
    have okR : ∀ t ∈ R, ∀ y ∈ t, PyData.strOk y = true := fun t ht y hy => name_strOk (ok y ((TX.row t ht).2 y hy))
    have okS : ∀ t ∈ S, ∀ y ∈ t, PyData.strOk y = true := fun t ht y hy => name_strOk (ok y ((TY.row t ht).2 y hy))
    refine ⟨_, rfl, y, dx2, _, rfl, ht2, ?_⟩
    refine ⟨true, rfl, iteT ?_⟩
    refine ⟨_, rfl, x, T.C, dx, _, _, rfl, ht, T.cl, T.nd, rfl, _, rfl, y, T.C, dx2, _, _, rfl, ht2, T.cl, T.nd, rfl, txd ds, txd ds, .tup (SqT.of hd) (texts_dp _), .tup (SqT.of hd2) (texts_dp _), sh, sh, true, by rw [eqv_row, decide_eq_true rfl], iteT ?_⟩
    refine ⟨_, rfl, x, T.C, dx, _, _, rfl, ht, T.cl, T.nw, rfl, _, rfl, y, T.C, dx2, _, _, rfl, ht2, T.cl, T.nw, rfl, rfl, true, by rw [decide_eq_true rfl], iteT ?_⟩
    refine ⟨_, rfl, x, T.C, dx, _, _, rfl, ht, T.cl, T.nr, rfl, _, rfl, y, T.C, dx2, _, _, rfl, ht2, T.cl, T.nr, rfl, rowsD R, rowsD S, .tup (SqT.of hp) (rows_dp hR), .tup (SqT.of hp2) (rows_dp hR2), rows_shaped okR, rows_shaped okS, ?_⟩
    rw [eqv_rowsD]
    exact q
end
end K01
/-! list(d.values()), d a dict with tuples of texts as keys. -/
namespace KVl
open PySem PySem.Spec PyProof.Rows L2
section
variable {prog : Program} {w : World} {A : Around} {E : Value → Shared → Prop} {s : Shared}
theorem meetsValues {d : Addr} {es : Array DictEntry} {ep : Nat} (hd : (d == sysModules) = false) :
    MeetsIn prog w (Builtin.«dict.values» ⟨[.ref d], []⟩) (fun _ R s => s.heap.DictRaw d es ep ∧
      R (.ok (.ret (.ref s.heap.objs.size))) { s with heap := s.heap.push { cls := .type "dict_values", data := .fields #[.ref d] } }) :=
  .of_wp fun A R s ⟨hm, h⟩ => by
    unfold Builtin.«dict.values»
    refine wpAny_bind ?_
    unfold Builtin.Dict.noArgs
    refine wpAny_bind (wpAny_notOrdered_dict hm.typeIs ?_)
    show wpAny _ _ (pure d) _ _ s
    refine wpAny_pure ?_
    show wpAny _ _ (Builtin.Dict.showsAll d >>= _) _ _ s
    unfold Builtin.Dict.showsAll
    rw [if_neg (by rw [hd]; exact Bool.false_ne_true)]
    refine wpAny_bind (wpAny_pure ?_)
    exact wpAny_bind (wpAny_newObj_type (wpAny_pure ⟨_, rfl, h⟩))
theorem callValues {d : Addr} {es : Array DictEntry} {ep : Nat} {Q : Value → Shared → Prop} (hd : (d == sysModules) = false) (hm : s.heap.DictRaw d es ep)
    (h : Q (.ref s.heap.objs.size) { s with heap := s.heap.push { cls := .type "dict_values", data := .fields #[.ref d] } }) : wpAny (model prog w) A (call (.builtin "dict.values") [.ref d]) Q E s :=
  call_meetsIn PySem.F.slot_dict_values hm.typeIs PySem.F.entry_dict_values (PySem.F.args_dict_values_1 _) (meetsValues (es := es) (ep := ep) hd) ⟨hm, h⟩
end
/-- the view d.values() at p -/
def valsO (p d : Addr) : HO := .ext fun h => h.IsValuesView p d
theorem valsO_ok {P : Program} {w : World} {H : Hp} {h : Heap} {p d : Addr} (e : h.get? p = some { cls := .type "dict_values", data := .fields #[.ref d] }) : ObjOk P w H h p (valsO p d) :=
  ⟨⟨_, e, rfl, rfl⟩, ⟨_, e⟩, fun h1 h2 x k => let ⟨o, ho, r⟩ := x; ⟨o, k o ho, r⟩⟩
def rValsT : V → List V → Hp → VK → Prop := fun x xs H Q => ∃ (a : Addr) (kvs : List (List L2.Key × V)), x = .ref a ∧ xs = [] ∧ H a = some (.dT kvs) ∧ ∀ p, H p = none → Q (.ref p) (upd H p (valsO p a))
def rListV : List V → Hp → VK → Prop := fun xs H Q => ∃ (p a : Addr) (kvs : List (List L2.Key × V)), xs = [.ref p] ∧ H p = some (valsO p a) ∧ H a = some (.dT kvs) ∧ ∀ l, H l = none → Q (.ref l) (upd H l (.lst (kvs.map (·.2))))
theorem kt_vals {H : Hp} : ∀ {kvs : List (List L2.Key × V)} {xs : List (List L2.Key × Addr × Value)}, KT H kvs xs → Vals (kvs.map (·.2)) (xs.map (·.2.2))
  | _, _, .nil => .nil
  | _, _, .cons h t => .cons h.2.2 (kt_vals t)
section
variable {X : Cx}
theorem mt_valuesT : MtR X "dict.values" rValsT := by
  intro pins s σ H x xs v us Q I rx rxs h
  obtain ⟨a, kvs, rfl, rfl, ha, q⟩ := h
  cases rx
  cases rxs
  obtain ⟨z, hd, xs', rel, o, es, ep, ho, hx, hdat, _⟩ := dt_of I.hok ha
  refine callValues (es := es) (ep := ep) hd ⟨o, ho, hx, hdat⟩ ?_
  have hf : H s.heap.objs.size = none := I.hok.fresh (Nat.le_refl _)
  exact ⟨.ref s.heap.objs.size, upd H s.heap.objs.size (valsO s.heap.objs.size a), I.laid (t' := s.toks) (fun b u e => Heap.get?_push_of_some _ e) (Nat.le_refl _) (valsO_ok (Heap.get?_push_size _ rfl)), rfl, q _ hf⟩
theorem call_listV (hc : X.calm = true) : CallR X (.type "list") rListV := by
  intro pins s σ H xs us Q I r h
  obtain ⟨p, a, kvs, rfl, hp, ha, q⟩ := h
  obtain rfl := Vals.ref1 r
  have view : s.heap.IsValuesView p a := (show ObjOk X.prog X.w H s.heap p (valsO p a) from I.hok p _ hp).1
  obtain ⟨z, hd, xs', rel, o, es, ep, ho, hx, hdat, hes, his, hn⟩ := dt_of I.hok ha
  have l1 : kvs.length = xs'.length := Paired.length rel
  have l2 : es.size = xs'.length := size_of_entries hes
  have hh : X.A.handled = none := I.ok.hd hc
  refine PySem.W.kdl_call (KdlSrc.rawValues (es := es) (ep := ep) (r := p) (d := a)) hh ⟨view, o, ho, hx, hdat⟩ (by omega) fun h' tk acc' c' hk hl hit => ?_
  have rv : Vals (kvs.map (·.2)) acc'.toList := by
    have e1 : acc'.toList = es.toList.map (·.val) := by
      refine List.ext_getElem? fun j => ?_
      rw [List.getElem?_map, Array.getElem?_toList, Array.getElem?_toList]
      cases hj : acc'[j]? with
      | none =>
        have h1 := Array.getElem?_eq_none_iff.mp hj
        have h2 := hit.1
        rw [Array.getElem?_eq_none (by omega)]
        rfl
      | some v =>
        obtain ⟨hi, e⟩ := hit.2 j v hj
        rw [Array.getElem?_eq_getElem hi, e]
        rfl
    rw [e1, hes, List.map_map]
    exact kt_vals rel
  exact ⟨.ref s.heap.objs.size, _, I.laid (t' := tk) hk (Nat.le_refl _) (show ObjOk X.prog X.w _ h' _ (.lst (kvs.map (·.2))) from ⟨by rw [List.length_map]; exact z, acc'.toList, c', rv, by simpa using hl⟩), rfl, q _ (I.hok.fresh (Nat.le_refl _))⟩
end
end KVl
/-! len(o) by a method of its own; x is not y of bools; sorted(l) of rows; tuple(d) of a dict whose keys are rows. -/
namespace KUl
open PySem PySem.Spec PySem.W PySem.SeqAt PyProof.Rows L2 KO
section
variable {X : Cx} {CX : CXT} {g C : Addr} {n : Nat} {fd : FuncData} {ps : List Str} {sp : Sp} {E : XK}
/-- len(o), o of the class at C whose __len__ keeps sp -/
def rLenI (C : Addr) (sp : Sp) (E : XK) : List V → Hp → VK → Prop := fun xs H Q => ∃ a dx fs, xs = [V.ref a] ∧ H a = some (.ins C dx fs) ∧ sp [V.ref a] H (fun v H' => ∃ n : Nat, v = .int (n : Nat) ∧ n ≤ sizeLine ∧ Q (.int (n : Nat)) H') E
theorem call_lenI (hs : findIn X.K (.ref C) "__len__" = some (some (.ref g))) (hf : isFn X.K (.ref g) = true) (F : FnOk X.prog X.w X.K X.mg X.base CX n g fd ps sp) (hb : L2.Binds X.K fd ps []) (hr : Room (n + 1) X.A) (hx : Passes CX X E) : CallR X (.builtin "len") (rLenI C sp E) := by
  intro pins s σ H xs us Q I r h
  obtain ⟨a, dx, fs, rfl, ha, q⟩ := h
  rw [Vals.ref1 r]
  obtain ⟨ox, od, J⟩ := ins_inst I ha
  refine Calls.call_function_entry kind_len plain_len entry_len (args_len1 _) ?_
  unfold Builtin.«len»
  refine wpAny_bind (m := oneArg "len" _) (wpAny_pure ?_)
  refine wpAny_bind (m := callSpecial? (.ref a) (Str.ofString "__len__")) (special_fn I.kIn J hs (beq_iff_eq.mp hf) ?_)
  have e0 : Env0 X.prog X.w X.K X.mg X.base X.A.in1 X.stack s H := by
    have e := I.env0
    exact ⟨e.frames, e.mod, e.bs, e.bsz, e.funs, e.frf, e.hok, e.bare⟩
  have hl := F.len _ _ _ _ q
  refine wpAny_call (codeAny_mono (F.run X.A.in1 X.stack s H ⟨[.ref a], []⟩ [.ref a] [.ref a] _ E hr.in1 e0 (by
    have := hb s [.ref a] I.kIn (by simpa using hl)
    simpa using this) (.cons rfl .nil) q) fun r s' hq => ?_)
  cases r with
  | error e => exact hx pins σ H s e s' I hq
  | ok fl =>
    cases fl with
    | ret w =>
      obtain ⟨z, H', I', rz, m, ez, lm, q'⟩ := I.after hq
      subst ez
      rw [sizeLine_eq] at lm
      obtain ⟨t, rfl⟩ := rz
      refine wpAny_bind (wpAny_holding (wpAny_pure ?_))
      refine wpAny_bind (wpAny_letGo ?_)
      show wpAny _ _ (if ((m : Nat) : Int) < 0 then _ else _) _ _ _
      rw [if_neg (by omega)]
      show wpAny _ _ (if ((m : Nat) : Int) ≥ 2 ^ 63 then _ else _) _ _ _
      rw [if_neg (by omega)]
      exact wpAny_bind (wpAny_mkInt (wpAny_pure ⟨_, rfl, .int (m : Nat), H', I'.tok _, ⟨_, rfl⟩, q'⟩))
    | next => exact False.elim hq
    | brk => exact False.elim hq
    | cont => exact False.elim hq
/-- x is not y, both bools -/
theorem op_isnotB : OpR X (compareOp .IsNot) (fun x y H Q => ∃ b c, x = .bl b ∧ y = .bl c ∧ Q (.bl (b != c)) H) := by
  intro pins s σ H x y v u Q I rx ry h
  obtain ⟨b, c, rfl, rfl, q⟩ := h
  cases rx
  cases ry
  exact isnot_bool ⟨.bl (b != c), H, I, rfl, q⟩
/-- tuple(d), d a dict whose keys are tuples: its keys, the tuples themselves -/
def rTupD : List V → Hp → VK → Prop := fun xs H Q => ∃ (a : Addr) (kvs : List (List L2.Key × V)), xs = [.ref a] ∧ H a = some (.dT kvs) ∧
  ∀ (l : Addr) (bs : List Addr), H l = none → Paired (fun (b : Addr) (kv : List L2.Key × V) => H b = some (.tup (kv.1.map kV))) bs kvs → Q (.ref l) (upd H l (.tup (bs.map V.ref)))
theorem kt_keys {H : Hp} : ∀ {kvs : List (List L2.Key × V)} {xs : List (List L2.Key × Addr × Value)}, KT H kvs xs → Paired (fun (b : Addr) (kv : List L2.Key × V) => H b = some (.tup (kv.1.map kV))) (xs.map (·.2.1)) kvs
  | _, _, .nil => .nil
  | _, _, .cons h t => .cons h.2.1 (kt_keys t)
theorem refs_vals : ∀ bs : List Addr, Vals (bs.map V.ref) (bs.map Value.ref)
  | [] => .nil
  | b :: bs => .cons rfl (refs_vals bs)
section
variable {prog : Program} {w : World} {A : Around} {Ex : Value → Shared → Prop} {s : Shared} {d : Addr} {es : Array DictEntry} {ep : Nat}
theorem code_tuple_new_dict {Q₁ : Value → Shared → Prop} (hh : A.handled = none) (hd : (d == sysModules) = false) (hm : s.heap.DictRaw d es ep) (hn : es.size ≤ sizeLine)
    (h : ∀ (h' : Heap) (tk : Nat) (acc : Array Value), (∀ b o, s.heap.get? b = some o → h'.get? b = some o) → ItemsOf (fun i v => ∃ hi : i < es.size, v = es[i].key) acc es.size →
      Q₁ (.ref h'.objs.size) { s with heap := h'.push { cls := .type "tuple", data := .seq acc }, toks := tk }) :
    codeAny (model prog w) A (.call (.builtin "tuple.__new__") ⟨[.type "tuple", .ref d], []⟩) (wants Q₁ Ex) s := by
  refine codeAny_of_tree ?_
  show wpAny _ A.in1 (do checkBuiltinCall "tuple.__new__" ⟨[.type "tuple", .ref d], []⟩; again (.builtin "tuple.__new__" ⟨[.type "tuple", .ref d], []⟩)) _ _ s
  refine wpAny_bind (wpAny_of_eq (F.newCall_tuple_1 _) (wpAny_pure ⟨plainId_quiet F.plain_tuple_new _, codeAny_builtin F.entry_tuple_new ?_⟩))
  rw [Around.under_plainId F.plain_tuple_new _]
  have hsub := sub_tuple_self
  have hinit := init_tuple_lookup
  have hmh := madeHere_tuple
  have hTI : s.TypeIs (.ref d) "dict" := hm.typeIs
  have hh1 : A.in1.handled = none := hh
  wp_walk using wpAny_typeOf hTI, kdu_collect (A := A.in1) (KdlSrc.rawDict (prog := prog) (w := w) (es := es) (ep := ep) hd) hh1 hm hn
  intro h' tk acc hk hacc
  show wpAny _ _ (Builtin.Tuple.tupleExact acc.toList.toArray >>= fun v => ret v) _ _ _
  unfold Builtin.Tuple.tupleExact
  refine wpAny_bind (wpAny_newObj_type ?_ (by show acc.toList.toArray.size ≤ sizeLine; simp only [Array.toArray_toList]; rw [hacc.1]; exact hn))
  refine wpAny_pure ?_
  have e : acc.toList.toArray = acc := by simp
  rw [e]
  exact h h' tk acc hk hacc
end
theorem call_tupD (hc : X.calm = true) : CallR X (.type "tuple") rTupD := by
  intro pins s σ H xs us Q I r h
  obtain ⟨a, kvs, rfl, ha, q⟩ := h
  obtain rfl := Vals.ref1 r
  obtain ⟨z, hd, xs', rel, o, es, ep, ho, hx, hdat, hes, his, hn⟩ := dt_of I.hok ha
  have l1 : kvs.length = xs'.length := Paired.length rel
  have l2 : es.size = xs'.length := size_of_entries hes
  have hh : X.A.handled = none := I.ok.hd hc
  have fin : ∀ (h' : Heap) (tk : Nat) (acc : Array Value), (∀ b o, s.heap.get? b = some o → h'.get? b = some o) → ItemsOf (fun i v => ∃ hi : i < es.size, v = es[i].key) acc es.size →
      EP X pins σ Q (.ref h'.objs.size) { s with heap := h'.push { cls := .type "tuple", data := .seq acc }, toks := tk } := fun h' tk acc hk hit => by
    have e1 : acc.toList = (xs'.map (·.2.1)).map Value.ref := by
      have e0 : acc.toList = es.toList.map (·.key) := by
        refine List.ext_getElem? fun j => ?_
        rw [List.getElem?_map, Array.getElem?_toList, Array.getElem?_toList]
        cases hj : acc[j]? with
        | none =>
          have h1 := Array.getElem?_eq_none_iff.mp hj
          have h2 := hit.1
          rw [Array.getElem?_eq_none (by omega)]
          rfl
        | some v =>
          obtain ⟨hi, e⟩ := hit.2 j v hj
          rw [Array.getElem?_eq_getElem hi, e]
          rfl
      rw [e0, hes, List.map_map, List.map_map]
      rfl
    have rv : Vals ((xs'.map (·.2.1)).map V.ref) acc.toList := by
      rw [e1]
      exact refs_vals _
    have I1 : L2.Inv X pins σ H { s with heap := h' } := I.kept (t' := s.toks) hk
    have I2 : L2.Inv X pins σ (upd H h'.objs.size (.tup ((xs'.map (·.2.1)).map V.ref))) { s with heap := h'.push { cls := .type "tuple", data := .seq acc }, toks := tk } :=
      I1.laid (t' := tk) (fun b o e => Heap.get?_push_of_some _ e) (Nat.le_refl _) (show ObjOk X.prog X.w _ _ _ (.tup _) from ⟨by rw [List.length_map, List.length_map]; omega, acc.toList, rv, by
        have z : acc = acc.toList.toArray := by simp
        rw [z]
        simpa using IsTup.new _ _⟩)
    exact ⟨.ref h'.objs.size, _, I2, rfl, q _ _ (I1.hok.fresh (Nat.le_refl _)) (kt_keys rel)⟩
  refine callType_codes (Q₁ := fun obj s₁ => s₁.TypeIs obj "tuple" ∧ EP X pins σ Q obj s₁) F.called_tuple (F.typeCall_tuple_1 _) F.entry_object_init
    (code_tuple_new_dict (A := X.A.in1) (es := es) (ep := ep) hh hd ⟨o, ho, hx, hdat⟩ (by omega) fun h' tk acc hk hacc => ⟨⟨_, Heap.get?_push_size _ rfl, rfl⟩, fin h' tk acc hk hacc⟩) fun obj s₁ h₁ => ?_
  exact ⟨h₁.1, F.args_object_init_2 obj _, object_init_meets F.called_tuple.init.lookup F.called_tuple.made (by decide) X.prog X.w X.A.in1 _ s₁ ⟨h₁.1, rfl, h₁.2⟩⟩
end
end KUl
/-! Table.full, Table.__len__. -/
namespace K01
open PySem PySem.Spec PyProof.Rows L2 KG KS KA KX
abbrev s_tabFull : Stmt := inCls 22 1
abbrev s_tabLen : Stmt := inCls 22 5
abbrev DomOk (ds : List Str) (n : Nat) : Prop := AscT ds ∧ (∀ x ∈ ds, nameOk x = true) ∧ 1 ≤ ds.length ∧ ds.length ≤ 3 ∧ 1 ≤ n ∧ n ≤ 3
/-- what a made table holds -/
theorem tab_due {C : Addr} {H : Hp} {o : Addr} {ds : List Str} {n : Nat} {R D : List (List Str)} (T : TabAt C H o ds n R) (hD : Asc D) (m : ∀ row, row ∈ R ↔ row ∈ D) : R = D :=
  asc_eq T.asc hD ((List.perm_ext_iff_of_nodup (asc_nodup T.asc) (asc_nodup hD)).mpr m)
theorem TupAt.up {K : PySem.W.Frag} {H H1 : Hp} {r : Addr} {rs : List V} (h : TupAt K H r rs) (e : Same H H1) : TupAt K H1 r rs := fun H' e' => h H' (same_trans e e')
/-- a table made of rows that stand on the heap, or are written -/
theorem make_tabS {K : PySem.W.Frag} {C : Addr} {H : Hp} {d r : Addr} {ds : List Str} {n : Nat} {rs : List V} {R : List (List Str)} {Q : VK} {E : XK} (hd : H d = some (.tup (ds.map V.str)))
    (dom : AscT ds ∧ (∀ x ∈ ds, nameOk x = true) ∧ 1 ≤ ds.length ∧ ds.length ≤ 3 ∧ 1 ≤ n ∧ n ≤ 3) (hr : TupAt K H r rs) (hR : RowsAt H rs R) (row : ∀ q ∈ R, q.length = n ∧ ∀ x ∈ q, x ∈ ds) (h64 : R.length < 64)
    (q : ∀ (o : Addr) (H' : Hp) (R' : List (List Str)), H o = none → Same H H' → TabAt C H' o ds n R' → (∀ row, row ∈ R' ↔ row ∈ R) → Q (.ref o) H') :
    ∀ x dx, H x = none → H dx = none → dx ≠ x → spTabS K C [.ref x, .ref d, .int (n : Nat), .ref r] (upd (upd H dx (.own x)) x (.ins C dx [])) (fun v H2 => v = .non ∧ Q (.ref x) H2) E := by
  obtain ⟨dasc, dok, d1, d3, n1, n3⟩ := dom
  intro o dx ho hdx nox
  have e5 := same_trans (same_new (o := .own o) hdx) (same_new (o := .ins C dx []) (show upd H dx (.own o) o = none by rw [upd_ne nox.symm]; exact ho))
  refine ⟨o, dx, d, r, n, ds, rs, R, rfl, upd_same, e5 _ _ hd, dok, List.pairwise_map.mpr dasc, d1, d3, n1, n3, hr.up e5, hR.up e5, row, h64, fun H6 pk ks R' cols but hx6 hpk hn hR' mem asc co => ⟨rfl, ?_⟩⟩
  have e6 : Same H H6 := fun b u e => but _ _ (e5 _ _ e) (fun z => by
    rw [z] at e
    rw [e] at ho
    cases ho)
  have row' : ∀ q ∈ R', q.length = n ∧ ∀ x ∈ q, x ∈ ds := fun q hq => row q ((mem q).mp hq)
  refine q o H6 R' ho e6 ⟨⟨dx, d, pk, ks, cols, hx6, e6 _ _ hd, hpk, hR', co⟩, asc, row', ?_, dasc, dok, d1, d3, n1, n3⟩ mem
  rcases Nat.le_total R'.length R.length with h | h
  · omega
  · have := (perm_of_sub R' R (asc_nodup asc) (fun x hx => (mem x).mp hx) h).length_eq
    omega
/-- Table.full(domain, width) -/
def spFull (C : Addr) : Sp := fun vs H Q _ => ∃ (d : Addr) (ds : List Str) (n : Nat), vs = [.ref C, .ref d, .int (n : Nat)] ∧ H d = some (.tup (ds.map V.str)) ∧ DomOk ds n ∧
  ∀ (o : Addr) (H' : Hp), Same H H' → TabAt C H' o ds n (allR n ds) → Q (.ref o) H'
/-- the default `()` -/
structure Nought (K : PySem.W.Frag) (v : V) where
  e : Addr
  at_ : v = .ref e
  tup : ∀ H, TupAt K H e []
def spTLen (C : Addr) : Sp := fun vs H Q _ => ∃ (x : Addr) (ds : List Str) (n : Nat) (R : List (List Str)), vs = [.ref x] ∧ TabAt C H x ds n R ∧ Q (.int (R.length : Nat)) H
section
variable {P : Program} {w : World} {K : PySem.W.Frag} {mg : Str → Option Value} {base : Heap}
theorem sc_tabFull : FnScope ["cls", "domain", "width"] ["cls", "domain", "width"] (defScope s_tabFull) := ⟨rfl, rfl, rfl, by decide +kernel, rfl, by decide +kernel, by decide +kernel⟩
theorem ok_tabFull (B : Bs mg) (ti : MtD K "__init__" "Table.__init__" s_tabInit) (F : TabF K mg) (T : TabC K mg ti.a) (J : C8.InsC K T.C) (Z : Nought K ti.v) (fn : MtF K "__invert__" "Table.__invert__" s_tabNot)
    (ni : PySem.W.findIn K (.ref T.C) "__invert__" = some (some (.ref fn.a))) (nf : PySem.W.isFn K (.ref fn.a) = true) (f : MtF K "full" "Table.full" s_tabFull) : FnOk P w K mg base CX0 7 f.a f.d ["cls", "domain", "width"] (spFull T.C) := by
  have G6 := ok_tabInitS (P := P) (w := w) (base := base) B ti F T
  obtain ⟨dvs, rv, b6⟩ : ∃ ds, Vals [ti.v] ds ∧ L2.Binds K ti.d ["self", "domain", "width", "rows"] ds :=
    ti.F.binds1 (ps := ["self", "domain", "width", "rows"]) 3 0 (by simp) rfl fun _ _ _ _ _ _ _ us its h1 h2 => match us, its, h1, h2 with | [_, _, _], [_], _, _ => ⟨_, rfl, rfl⟩
  have GN := ok_tabNot (P := P) (w := w) (base := base) B ti F T J fn
  have bN : L2.Binds K fn.d ["self"] [] := fn.F.binds fun _ _ _ _ _ _ us hl => match us, hl with | [_], _ => rfl
  refine f.F.ok sc_tabFull (fun vs H Q E h => ?_) (fun cdv A outer s H vs Q E hr h => ?_)
  · obtain ⟨d, ds, n, rfl, _⟩ := h
    rfl
  · obtain ⟨d, ds, n, rfl, hd, dom, q⟩ := h
    have hr5 : Room 5 _ := hr.mono (by omega)
    refine ⟨_, (pss_one
      (ps_ret (pe_un (KO.un_invI ni nf GN bN hr pass0) (pe_makeV T.made G6 hr5 (pv 0) b6 rv pass0 (pa_cons (pv 1) (pa_cons (pv 2) pa_nil)))))), ?_⟩
    refine ⟨_, rfl, rfl, _, rfl, _, rfl, ?_⟩
    rw [Z.at_]
    intro x0 dx0 hx0 hdx0 nx0
    show spTabS K T.C [V.ref x0, V.ref d, V.int (n : Nat), V.ref Z.e] _ (fun v H2 => v = V.non ∧ KO.rUnI T.C (spNot T.C) E0 (V.ref x0) H2 Q) E0
    refine make_tabS (Q := fun v H2 => KO.rUnI T.C (spNot T.C) E0 v H2 Q) hd dom (Z.tup H) .nil (fun _ z => nomatch z) (by show 0 < 64; omega) (fun o H1 R1 ho e1 TO mem => ?_) x0 dx0 hx0 hdx0 nx0
    obtain ⟨dx, _, _, _, _, x1, _⟩ := id TO.ex
    have r0 : R1 = [] := List.eq_nil_iff_forall_not_mem.mpr fun row hm => nomatch (mem row).mp hm
    subst r0
    refine ⟨o, dx, _, rfl, x1, o, ds, n, [], rfl, TO, fun o2 H2 R2 ho2 e2 TO2 mem2 => ?_⟩
    have z : R2 = allR n ds := tab_due TO2 (allR_asc dom.1) fun row => (mem2 row).trans ⟨fun h => h.1, fun h => ⟨h, fun z => nomatch z⟩⟩
    subst z
    exact q o2 H2 (same_trans e1 e2) TO2
theorem sc_tabLen : FnScope ["self"] ["self"] (defScope s_tabLen) := ⟨rfl, rfl, rfl, by decide +kernel, rfl, by decide +kernel, by decide +kernel⟩
theorem ok_tabLen {it : Addr} (B : Bs mg) (T : TabC K mg it) (f : MtF K "__len__" "Table.__len__" s_tabLen) : FnOk P w K mg base CX0 1 f.a f.d ["self"] (spTLen T.C) := by
  refine f.F.ok sc_tabLen (fun vs H Q E h => ?_) (fun cdv A outer s H vs Q E hr h => ?_)
  · obtain ⟨x, ds, n, R, rfl, _⟩ := h
    rfl
  · obtain ⟨x, ds, n, R, rfl, TX, q⟩ := h
    refine ⟨_, (pss_one
      (ps_ret (pe_callB call_len (by rfl) B.n_len (by decide +kernel) (pa_cons (pe_fld (pv 0) rfl) pa_nil)))), ?_⟩
    obtain ⟨dx, d, p, rs, cols, ht, hd, hp, hR, hC⟩ := TX.ex
    refine ⟨_, rfl, x, T.C, dx, _, _, rfl, ht, T.cl, T.nr, rfl, .ref p, R.length, rfl, .inr ⟨_, SqT.of hp, hR.length.symm⟩, q⟩
end
end K01
/-! Dicts whose keys are rows, each with True; steps of a closing. -/
namespace KDk
open PySem PySem.Spec PyProof.Rows L2
theorem dcT_list {K : PySem.W.Frag} {a : Addr} {xs : List V} {g : TG} {tt : TT} {tk tv : TE} {vs : List Nat} {σ : L2.St} {H1 : Hp} {D : Addr} {Qd : Hp → Prop} (Pv : Nat → Hp → Prop) (h0 : Pv 0 (upd H1 D (.dT []))) (hl : ∀ i H, Pv i H → SqL K H a xs)
    (hs : ∀ i x H, xs[i]? = some x → Pv i H → g x (wipe σ vs) H fun σ2 H2 => wipe σ2 vs = wipe σ vs ∧ tt σ2 H2 fun c H3 =>
      if c = true then tk σ2 H3 fun y H4 => tv σ2 H4 fun z H5 => ∃ kvs k b, y = .ref b ∧ H5 b = some (.tup (k.map kV)) ∧ H5 D = some (.dT kvs) ∧ kvs.length < sizeLine ∧ Pv (i + 1) (upd H5 D (.dT (putK kvs k z))) else Pv (i + 1) H3) (hd : ∀ H, Pv xs.length H → Qd H) :
    ∃ Z : Nat → Nat → Hp → Prop, (∃ m, Z 0 m (upd H1 D (.dT []))) ∧ ∀ i m H, Z i m H →
      ((Itl K a).stop i H ∧ Qd H) ∨ ((Itl K a).go i H ∧ ∃ Nx : Hp → Prop, (∀ H', Nx H' → ∃ m', m' < m ∧ Z (i + 1) m' H') ∧ ∀ x H', (Itl K a).yld i H x H' → g x (wipe σ vs) H' fun σ2 H2 => wipe σ2 vs = wipe σ vs ∧ tt σ2 H2 fun c H3 =>
        if c = true then tk σ2 H3 fun y H4 => tv σ2 H4 fun z H5 => ∃ kvs k b, y = .ref b ∧ H5 b = some (.tup (k.map kV)) ∧ H5 D = some (.dT kvs) ∧ kvs.length < sizeLine ∧ Nx (upd H5 D (.dT (putK kvs k z))) else Nx H3) := by
  refine ⟨fun i m H => m + i = xs.length ∧ Pv i H, ⟨xs.length, rfl, h0⟩, fun i m H ⟨e, p⟩ => ?_⟩
  have q := hl i H p
  cases m with
  | zero =>
    have e : i = xs.length := by omega
    subst e
    exact .inl ⟨⟨xs, q, Nat.le_refl _⟩, hd H p⟩
  | succ m =>
    have lt : i < xs.length := by omega
    refine .inr ⟨⟨xs, xs[i], q, List.getElem?_eq_getElem lt⟩, Pv (i + 1), fun H' p' => ⟨m, by omega, by omega, p'⟩, fun x H' y => ?_⟩
    obtain ⟨rfl, y⟩ := y
    exact hs i x _ (y xs q) p
end KDk
namespace K01
open PySem PySem.Spec PyProof.Rows L2 KG KS KA KX KIa KFz KTc
theorem upd_comm {H : Hp} {a b : Addr} {x y : HO} (h : a ≠ b) : upd (upd H a x) b y = upd (upd H b y) a x := by
  funext c
  by_cases e1 : c = b
  · subst e1
    rw [upd_same, upd_ne h.symm, upd_same]
  · rw [upd_ne e1]
    by_cases e2 : c = a
    · subst e2
      rw [upd_same, upd_same]
    · rw [upd_ne e2, upd_ne e2, upd_ne e1]
/-- {row: True for row in rows} -/
abbrev hasD (kz : KzL) : List (List L2.Key × V) := KDz.dtOf kz (List.replicate kz.length (V.bl true))
theorem has_len (kz : KzL) : (hasD kz).length = kz.length := by
  unfold hasD KDz.dtOf
  rw [List.length_zip, List.length_map, List.length_replicate, Nat.min_self]
theorem has_put {kz : KzL} {a : Addr} {r : List Str} (h : r ∉ kz.map (·.2)) : putK (hasD kz) (KDz.entK r) (V.bl true) = hasD (kz ++ [(a, r)]) := by
  have out : valV (hasD kz) (KDz.entK r) = none := by
    have v := val_has kz kz.length r rfl
    rw [decide_eq_false h] at v
    cases e : valV (hasD kz) (KDz.entK r) with
    | none => rfl
    | some u =>
      rw [show KDz.dtOf kz (List.replicate kz.length (V.bl true)) = hasD kz from rfl, e] at v
      cases v
  rw [putK_new _ out]
  unfold hasD KDz.dtOf
  rw [List.map_append, List.length_append, List.length_singleton, List.replicate_succ', List.zip_append (by rw [List.length_map, List.length_replicate])]
  rfl
theorem has_in {kz : KzL} {r : List Str} : (valV (hasD kz) (KDz.entK r)).isSome = decide (r ∈ kz.map (·.2)) := val_has kz kz.length r rfl
/-- a step: a row, and the rows whose vote it is -/
structure Stp where
  T : Addr
  v : Addr
  row : List Str
  s : Addr
  ps : KzL
structure StpAt (H : Hp) (xs rs : List Str) (k n : Nat) (st : Stp) : Prop where
  pr : H st.T = some (.tup [V.ref st.v, V.ref st.s])
  rw_ : H st.v = some (.tup (st.row.map V.str))
  ar : H st.s = some (.tup (refs st.ps))
  rl : RL H st.ps
  len : st.ps.length = k
  vt : st.row = voteS xs k rs n (st.ps.map (·.2))
abbrev srefs (ss : List Stp) : List V := ss.map fun st => V.ref st.T
abbrev srows (ss : List Stp) : List (List Str) := ss.map fun st => st.row
def StepsOk (R0 : List (List Str)) (ss : List Stp) : Prop := ∀ i st, ss[i]? = some st → ∀ p ∈ st.ps, p.2 ∈ R0 ++ srows (ss.take i)
theorem StpAt.up {H H' : Hp} {xs rs : List Str} {k n : Nat} {st : Stp} (h : StpAt H xs rs k n st) (e : Same H H') : StpAt H' xs rs k n st := ⟨e _ _ h.pr, e _ _ h.rw_, e _ _ h.ar, h.rl.up e, h.len, h.vt⟩
/-- what steps from tuples keep when a list or a dict is put -/
theorem StpAt.put {H : Hp} {xs rs : List Str} {k n : Nat} {st : Stp} {D : Addr} {o o' : HO} (h : StpAt H xs rs k n st) (hD : H D = some o) (no : ∀ ys, HO.tup ys ≠ o) : StpAt (upd H D o') xs rs k n st :=
  ⟨by rw [upd_ne (ne_of h.pr hD (no _))]; exact h.pr, by rw [upd_ne (ne_of h.rw_ hD (no _))]; exact h.rw_, by rw [upd_ne (ne_of h.ar hD (no _))]; exact h.ar, fun p hp => by rw [upd_ne (ne_of (h.rl p hp) hD (no _))]; exact h.rl p hp, h.len, h.vt⟩
theorem RL.putO {H : Hp} {kz : KzL} {D : Addr} {o o' : HO} (h : RL H kz) (hD : H D = some o) (no : ∀ ys, HO.tup ys ≠ o) : RL (upd H D o') kz := fun p hp => by
  rw [upd_ne (ne_of (h p hp) hD (no _))]
  exact h p hp
/-- steps stay within what is closed -/
theorem steps_min {xs rs : List Str} {k n : Nat} {H : Hp} {R0 : List (List Str)} {ss : List Stp} (hs : ∀ st ∈ ss, StpAt H xs rs k n st) (ok : StepsOk R0 ss) {S : List (List Str)} (hS : ClosedS xs k rs n S) (h0 : ∀ r ∈ R0, r ∈ S) : ∀ r ∈ srows ss, r ∈ S := by
  have key : ∀ (i : Nat) (st : Stp), ss[i]? = some st → st.row ∈ S := by
    intro i
    induction i using Nat.strongRecOn with
    | ind i ih =>
      intro st hi
      have st0 := hs st (List.mem_of_getElem? hi)
      rw [st0.vt]
      refine hS _ (by rw [List.length_map]; exact st0.len) fun r hr => ?_
      obtain ⟨p, hp, rfl⟩ := List.mem_map.mp hr
      rcases List.mem_append.mp (ok i st hi p hp) with z | z
      · exact h0 _ z
      · obtain ⟨st2, h2, e2⟩ := List.mem_map.mp z
        obtain ⟨j, hj, e3⟩ := List.mem_iff_getElem.mp h2
        rw [List.getElem_take] at e3
        rw [List.length_take] at hj
        rw [← e2]
        exact ih j (by omega) st2 (by rw [List.getElem?_eq_getElem (by omega), e3])
  intro r hr
  obtain ⟨st, hst, rfl⟩ := List.mem_map.mp hr
  obtain ⟨i, hi, e⟩ := List.mem_iff_getElem.mp hst
  exact key i st (by rw [List.getElem?_eq_getElem hi, e])
theorem steps_snoc {R0 : List (List Str)} {ss : List Stp} {st : Stp} (h : StepsOk R0 ss) (hn : ∀ p ∈ st.ps, p.2 ∈ R0 ++ srows ss) : StepsOk R0 (ss ++ [st]) := by
  intro i st2 hi p hp
  rcases Nat.lt_or_ge i ss.length with l | l
  · rw [List.getElem?_append_left l] at hi
    rw [List.take_append_of_le_length (Nat.le_of_lt l)]
    exact h i st2 hi p hp
  · rw [List.getElem?_append_right l] at hi
    have e : i - ss.length = 0 := by
      have z := (List.getElem?_eq_some_iff.mp hi).1
      rw [List.length_singleton] at z
      omega
    rw [e] at hi
    cases hi
    rw [show i = ss.length by omega, List.take_left']
    · exact hn p hp
    · rfl
end K01
/-! closing. -/
namespace K01
open PySem PySem.Spec PyProof.Rows L2 KG KS KA KX KIa KFz KTc
abbrev s_closing : Stmt := top 26
abbrev NCg : List Str := ["vote", "table", "rows", "has_row", "row", "steps", "most", "at", "arguments", "some"]
/-- a classmethod -/
structure MtC (K : PySem.W.Frag) (C : Addr) (mc : Value) (m qual : Str) (st : Stmt) where
  f : MtF K m qual st
  p : Addr
  M : ClX.CMet K C mc m p f.a
/-- what a closing tells -/
structure ClgOk (TC : Addr) (H : Hp) (xs rs : List Str) (k n : Nat) (R0 : List (List Str)) (c q : Addr) (R' : List (List Str)) (ss : List Stp) : Prop where
  tab : TabAt TC H c xs n R'
  mem : ∀ r, r ∈ R' ↔ r ∈ R0 ++ srows ss
  st : H q = some (.tup (srefs ss))
  at_ : ∀ st ∈ ss, StpAt H xs rs k n st
  ok : StepsOk R0 ss
  nd : (R0 ++ srows ss).Nodup
  cl : ClosedS xs k rs n R'
/-- there is something small that is closed -/
structure SmallCl (xs rs : List Str) (k n : Nat) (R0 : List (List Str)) : Prop where
  ex : ∃ Cl : List (List Str), ClosedS xs k rs n Cl ∧ (∀ r ∈ R0, r ∈ Cl) ∧ Cl.length ≤ 24 - 4 * k
def spCg (C TC : Addr) : Sp := fun vs H Q _ => ∃ (o g : Addr) (xs rs : List Str) (k n : Nat) (R0 : List (List Str)), vs = [.ref o, .ref g] ∧ VtAt C H o xs k rs ∧ VGood xs k rs ∧ TabAt TC H g xs n R0 ∧ SmallCl xs rs k n R0 ∧
  ∀ (p c q : Addr) (R' : List (List Str)) (ss : List Stp) (H' : Hp), Same H H' → H' p = some (.tup [V.ref c, V.ref q]) → ClgOk TC H' xs rs k n R0 c q R' ss → Q (.ref p) H'
/-- the lists and the dict of a closing under way -/
structure CgSt (H : Hp) (xs rs : List Str) (k n : Nat) (R0 Cl : List (List Str)) (F D Ls : Addr) (kz : KzL) (ss : List Stp) : Prop where
  f : H F = some (.lst (refs kz))
  d : H D = some (.dT (hasD kz))
  l : H Ls = some (.lst (srefs ss))
  rl : RL H kz
  rg : RG xs n kz
  rows : kz.map (·.2) = R0 ++ srows ss
  nd : (kz.map (·.2)).Nodup
  at_ : ∀ st ∈ ss, StpAt H xs rs k n st
  ok : StepsOk R0 ss
  cl : ∀ r ∈ kz.map (·.2), r ∈ Cl
/-- all votes of the first rows stand there -/
def DoneAt (xs rs : List Str) (k n at_ : Nat) (kz : KzL) : Prop := ∀ t : List (List Str), t.length = k → (∀ r ∈ t, r ∈ (kz.map (·.2)).take at_) → voteS xs k rs n t ∈ kz.map (·.2)
theorem CgSt.len {H : Hp} {xs rs : List Str} {k n : Nat} {R0 Cl : List (List Str)} {F D Ls : Addr} {kz : KzL} {ss : List Stp} (h : CgSt H xs rs k n R0 Cl F D Ls kz ss) : kz.length ≤ Cl.length := by
  have z := nodup_len (kz.map (·.2)) Cl h.nd h.cl
  rw [List.length_map] at z
  exact z
theorem CgSt.up {H H' : Hp} {xs rs : List Str} {k n : Nat} {R0 Cl : List (List Str)} {F D Ls : Addr} {kz : KzL} {ss : List Stp} (h : CgSt H xs rs k n R0 Cl F D Ls kz ss) (e : Same H H') : CgSt H' xs rs k n R0 Cl F D Ls kz ss :=
  ⟨e _ _ h.f, e _ _ h.d, e _ _ h.l, h.rl.up e, h.rg, h.rows, h.nd, fun st hs => (h.at_ st hs).up e, h.ok, h.cl⟩
/-- one row more -/
theorem CgSt.put {H : Hp} {xs rs : List Str} {k n : Nat} {R0 Cl : List (List Str)} {F D Ls : Addr} {kz : KzL} {ss : List Stp} (h : CgSt H xs rs k n R0 Cl F D Ls kz ss) {st : Stp} (hs : StpAt H xs rs k n st) (nFL : F ≠ Ls) (hrow : st.row.length = n ∧ ∀ x ∈ st.row, x ∈ xs) (out : st.row ∉ kz.map (·.2)) (sub : ∀ p ∈ st.ps, p.2 ∈ kz.map (·.2)) (inCl : st.row ∈ Cl) :
    CgSt (upd (upd (upd H D (.dT (hasD (kz ++ [(st.v, st.row)])))) F (.lst (refs (kz ++ [(st.v, st.row)])))) Ls (.lst (srefs (ss ++ [st])))) xs rs k n R0 Cl F D Ls (kz ++ [(st.v, st.row)]) (ss ++ [st]) := by
  have nFD : F ≠ D := ne_of h.f h.d (by intro z; cases z)
  have nLD : Ls ≠ D := ne_of h.l h.d (by intro z; cases z)
  have kp : ∀ {b : Addr} {ys : List V}, H b = some (.tup ys) → upd (upd (upd H D (.dT (hasD (kz ++ [(st.v, st.row)])))) F (.lst (refs (kz ++ [(st.v, st.row)])))) Ls (.lst (srefs (ss ++ [st]))) b = some (.tup ys) := fun {b ys} hb => by
    rw [upd_ne (ne_of hb h.l (by intro z; cases z)), upd_ne (ne_of hb h.f (by intro z; cases z)), upd_ne (ne_of hb h.d (by intro z; cases z))]
    exact hb
  have kst : ∀ {s2 : Stp}, StpAt H xs rs k n s2 → StpAt _ xs rs k n s2 := fun {s2} h2 => ⟨kp h2.pr, kp h2.rw_, kp h2.ar, fun p hp => kp (h2.rl p hp), h2.len, h2.vt⟩
  have rows' : (kz ++ [(st.v, st.row)]).map (·.2) = R0 ++ srows (ss ++ [st]) := by
    rw [List.map_append, h.rows, srows, srows, List.map_append, List.append_assoc]
    rfl
  refine ⟨by rw [upd_ne nFL, upd_same], by rw [upd_ne nLD.symm, upd_ne nFD.symm, upd_same], upd_same, fun p hp => ?_, fun p hp => ?_, rows', ?_, fun s2 h2 => ?_, steps_snoc h.ok fun p hp => ?_, fun r hr => ?_⟩
  · rcases List.mem_append.mp hp with z | z
    · exact kp (h.rl p z)
    · rw [List.mem_singleton.mp z]
      exact kp hs.rw_
  · rcases List.mem_append.mp hp with z | z
    · exact h.rg p z
    · rw [List.mem_singleton.mp z]
      exact hrow
  · rw [List.map_append, List.nodup_append]
    exact ⟨h.nd, List.pairwise_singleton _ _, fun a ha b hb e => out (by have z : b = st.row := List.mem_singleton.mp hb; rw [← z, ← e]; exact ha)⟩
  · rcases List.mem_append.mp h2 with z | z
    · exact kst (h.at_ s2 z)
    · rw [List.mem_singleton.mp z]
      exact kst hs
  · rw [← h.rows]
    exact sub p hp
  · rw [List.map_append] at hr
    rcases List.mem_append.mp hr with z | z
    · exact h.cl r z
    · rw [List.mem_singleton.mp z]
      exact inCl
/-- the next place done -/
theorem done_next {xs rs : List Str} {k n at_ : Nat} {kz ext : KzL} {S : KzL} {a : Addr × List Str} (hS : kz.take at_ = S) (ha : kz[at_]? = some a) (h0 : DoneAt xs rs k n at_ kz)
    (h1 : ∀ ps ∈ argA S a k, voteS xs k rs n (ps.map (·.2)) ∈ (kz ++ ext).map (·.2)) : DoneAt xs rs k n (at_ + 1) (kz ++ ext) := by
  intro t lt sub
  have al : at_ < kz.length := (List.getElem?_eq_some_iff.mp ha).1
  have tk : ((kz ++ ext).map (·.2)).take (at_ + 1) = (S ++ [a]).map (·.2) := by
    rw [← List.map_take, List.take_append_of_le_length (by omega), take_next ha, hS]
  rw [tk] at sub
  have m : t ∈ pw ((S ++ [a]).map (·.2)) k := mem_pw.mpr ⟨lt, sub⟩
  rw [pw_map (fun p : Addr × List Str => p.2) (S ++ [a]) k] at m
  obtain ⟨ps, hps, rfl⟩ := List.mem_map.mp m
  obtain ⟨l1, s1⟩ := mem_pw.mp hps
  by_cases c : a ∈ ps
  · exact h1 ps (mem_argA.mpr ⟨l1, s1, c⟩)
  · rw [List.map_append]
    refine List.mem_append_left _ (h0 _ lt fun r hr => ?_)
    obtain ⟨p, hp, rfl⟩ := List.mem_map.mp hr
    rw [← List.map_take, hS]
    refine List.mem_map.mpr ⟨p, ?_, rfl⟩
    rcases List.mem_append.mp (s1 p hp) with z | z
    · exact z
    · rw [List.mem_singleton.mp z] at hp
      exact absurd hp c
section
variable {P : Program} {w : World} {K : PySem.W.Frag} {mg : Str → Option Value} {base : Heap}
/-- what a closing reaches -/
structure CgF (K : PySem.W.Frag) (mg : Str → Option Value) (TC : Addr) (mc : Value) where
  full : MtC K TC mc "full" "Table.full" s_tabFull
  rd : ClX.CRead K TC mc
  inv : MtF K "__invert__" "Table.__invert__" s_tabNot
  ni : PySem.W.findIn K (.ref TC) "__invert__" = some (some (.ref inv.a))
  nf : PySem.W.isFn K (.ref inv.a) = true
  len : MtF K "__len__" "Table.__len__" s_tabLen
  li : PySem.W.findIn K (.ref TC) "__len__" = some (some (.ref len.a))
  lf : PySem.W.isFn K (.ref len.a) = true
  args : FnF K mg "arguments_with_last" "arguments_with_last" s_arguments_with_last
theorem sc_closing : FnScope NCg ["vote", "table"] (defScope s_closing) := ⟨rfl, rfl, rfl, by decide +kernel, rfl, by decide +kernel, by decide +kernel⟩
theorem ok_closing (B : Bz mg) {fI : Addr} (C : VtC K mg fI) (rv : MtF K "rows_voted" "Vote.rows_voted" s_vtRows) (bm : BMeth K C.C "rows_voted" rv.a) (ti : MtD K "__init__" "Table.__init__" s_tabInit) (F : TabF K mg) (T : TabC K mg ti.a) (J : C8.InsC K T.C) (Z : Nought K ti.v) {mc : Value} (G : CgF K mg T.C mc) (f : FnF K mg "closing" "closing" s_closing) :
    FnOk P w K mg base CX0 8 f.a f.d ["vote", "table"] (spCg C.C T.C) := by
  have G6 := ok_tabInit (P := P) (w := w) (base := base) B.toBs ti F T
  have b6 : L2.Binds K ti.d ["self", "domain", "width", "rows"] [] := by
    obtain ⟨ds, r, b⟩ := ti.F.binds1 (ps := ["self", "domain", "width", "rows"]) 4 1 (by simp) rfl fun _ _ _ _ _ _ _ us its h1 h2 => match us, its, h1, h2 with | [_, _, _, _], [_], _, _ => ⟨_, rfl, rfl⟩
    cases (show Vals [] ds from r)
    exact b
  have GF := ok_tabFull (P := P) (w := w) (base := base) B.toBs ti F T J Z G.inv G.ni G.nf G.full.f
  have GFr : FnR P w K mg base CX0 7 G.full.f.a (spFull T.C) := by
    obtain ⟨oc, od, kV, doc, pm, an, cdv, ct, osl, e, _, _⟩ := G.full.f.F.ex
    refine fnR_of GF fun s us hl => ?_
    rw [e]
    exact match us, hl with | [_, _, _], _ => .of_eq rfl
  have GN := ok_tabLen (P := P) (w := w) (base := base) B.toBs T G.len
  have bN : L2.Binds K G.len.d ["self"] [] := G.len.F.binds fun _ _ _ _ _ _ us hl => match us, hl with | [_], _ => rfl
  have GA := ok_args (P := P) (w := w) (base := base) B.toBs F.all G.args
  have bA : L2.Binds K G.args.d ["rows", "count"] [] := G.args.F.binds fun _ _ _ _ _ _ us hl => match us, hl with | [_, _], _ => rfl
  have GV := ok_vtRw (P := P) (w := w) (base := base) B C rv
  refine f.F.ok sc_closing (fun vs H Q E h => ?_) (fun cdv A outer s H vs Q E hr h => ?_)
  · obtain ⟨o, g, xs, rs, k, n, R0, rfl, _⟩ := h
    rfl
  · obtain ⟨o, g, xs, rs, k, n, R0, rfl, hO, VG, TA, ⟨Cl, clC, clR, clL⟩, q⟩ := h
    have hu64 := hr.units
    have hu := hu_of hr
    have hr1 : Room 1 _ := hr.mono (by omega)
    have hr2 : Room 2 _ := hr.mono (by omega)
    have hr5 : Room 5 _ := hr.mono (by omega)
    refine ⟨_, (pss_cons
      (ps_set (i := 2) sc_closing.nd rfl (Or.inl rfl) (pe_callTy call_list_of (by rfl) B.n_list (by decide +kernel) (pa_cons (pe_fld (pv 1) rfl) pa_nil)))
    (pss_cons
      (KDk.ps_setDcT (i := 3) (own := [("row", 4)]) (g := gName 4) (by rfl) sc_closing.nd hu rfl rfl (KDk.swD_true rfl rfl rfl (by decide +kernel)) (pi_list (pv 2)) (blkOk_by (own := [("row", 4)]) (N := NCg) (sc := defScope s_closing) (by decide +kernel))
        (fun _ _ _ _ _ => (pg_name (i := 4) sc_closing.nd rfl (Or.inl rfl))) (fun _ _ _ _ _ => pts_nil) (fun _ _ _ _ _ => (pv 4)) (fun _ _ _ _ _ => pe_bl))
    (pss_cons
      (ps_set (i := 5) sc_closing.nd rfl (Or.inl rfl) (pe_lst pa_nil))
    (pss_cons
      (ps_set (i := 6) sc_closing.nd rfl (Or.inl rfl) (pe_callB (KUl.call_lenI G.li G.lf GN bN hr2 pass0) (by rfl) B.n_len (by decide +kernel) (pa_cons (ClX.pe_cmeth (pe_glob (v := .ref T.C) rfl T.g rfl) G.rd G.full.M GFr hr pass0 (pa_cons (pe_fld (pv 1) rfl) (pa_cons (pe_fld (pv 1) rfl) pa_nil))) pa_nil)))
    (pss_cons
      (ps_set (i := 7) sc_closing.nd rfl (Or.inl rfl) pe_int)
    (pss_cons
      (ps_while PassesOwn.never (pt_chain op_lt op_lt (pv 7) (pe_callB call_len (by rfl) B.n_len (by decide +kernel) (pa_cons (pv 2) pa_nil)) (pv 6))
        (pss_cons
          (ps_set (i := 8) sc_closing.nd rfl (Or.inl rfl) (pe_call GA hr2 rfl G.args.g G.args.F.kp bA .nil pass0 (pa_cons (pe_slice sl_list (pv 2) po_none (po_some (pe_op op_add (pv 7) pe_int))) (pa_cons (pe_fld (pv 0) rfl) pa_nil))))
        (pss_cons
          (ps_for PassesOwn.never rfl (pi_list (pv 8)) (pg_name (i := 9) sc_closing.nd rfl (Or.inl rfl))
            (pss_cons
              (ps_set (i := 4) sc_closing.nd rfl (Or.inl rfl) (pe_methS (pv 0) C.cl bm GV hr1 pass0 (pv 9)))
            (pss_one
              (ps_if (pt_cmp (pc_dnotin hu (pv 4) (pv 3)) (by rfl))
                (pss_cons
                  (ps_dput hu (pv 3) (pv 4) pe_bl rfl)
                (pss_cons
                  (ps_expr (pe_bm PySem.F.plainAttrs_list PySem.F.slot_list_append PySem.F.type_list_append mt_append (pv 2) (pa_cons (pv 4) pa_nil)))
                (pss_one
                  (ps_expr (pe_bm PySem.F.plainAttrs_list PySem.F.slot_list_append PySem.F.type_list_append mt_append (pv 5) (pa_cons (pe_tup (pa_cons (pv 4) (pa_cons (pv 9) pa_nil))) pa_nil))))))
                pss_nil))))
        (pss_one
          (ps_set (i := 7) sc_closing.nd rfl (Or.inl rfl) (pe_op op_add (pv 7) pe_int))))))
    (pss_one
      (ps_ret (pe_tup (pa_cons (pe_make T.made G6 hr5 rfl T.g b6 .nil pass0 (pa_cons (pe_fld (pv 1) rfl) (pa_cons (pe_fld (pv 1) rfl) (pa_cons (pe_callTy call_tuple_of (by rfl) B.n_tuple (by decide +kernel) (pa_cons (pv 2) pa_nil)) pa_nil)))) (pa_cons (pe_callTy call_tuple_of (by rfl) B.n_tuple (by decide +kernel) (pa_cons (pv 5) pa_nil)) pa_nil))))))))))), ?_⟩
    obtain ⟨dx, d1, p0, rs0, cols, hg, hd1, hp0, hR0, hC0⟩ := id TA.ex
    have k4 := VG.hk
    have h64 := TA.h64
    -- rows
    refine ⟨_, rfl, g, T.C, dx, _, _, rfl, hg, T.cl, T.nr, rfl, p0, _, rfl, .inr (SqT.of hp0), fun F hF => ?_⟩
    obtain ⟨kz0, ez, ek, hkz0⟩ := rows_kz hR0
    subst ez
    have nd0 : (kz0.map (·.2)).Nodup := by rw [ek]; exact asc_nodup TA.asc
    have rg0 : RG xs n kz0 := RG.of fun r hr => by rw [ek] at hr; exact TA.row r hr
    have lk0 : kz0.length = R0.length := by rw [← ek, List.length_map]
    have e1 : Same H (upd H F (.lst (refs kz0))) := same_new hF
    have h1 : upd H F (.lst (refs kz0)) F = some (.lst (refs kz0)) := upd_same
    generalize upd H F (.lst (refs kz0)) = H1 at e1 h1 ⊢
    -- has_row
    refine ⟨_, rfl, F, rfl, ⟨_, SqL.of h1⟩, fun D hD => ?_⟩
    refine KDk.dcT_list (K := K) (xs := refs kz0) (fun i H' => Same H1 H' ∧ H' D = some (.dT (hasD (kz0.take i)))) ⟨same_new hD, by rw [upd_same]; rfl⟩ (fun i H' z => SqL.of (z.1 _ _ h1)) ?_ ?_
    · rintro i y H2 hy ⟨e2, hD2⟩
      rw [List.getElem?_map] at hy
      cases hi : kz0[i]? with
      | none =>
        rw [hi] at hy
        cases hy
      | some z =>
        rw [hi] at hy
        obtain rfl : V.ref z.1 = y := Option.some.inj hy
        have hz := (same_trans e1 e2) _ _ (hkz0 z (List.mem_of_getElem? hi))
        have tkn : kz0.take (i + 1) = kz0.take i ++ [z] := take_next hi
        have nm : z.2 ∉ (kz0.take i).map (·.2) := fun m => by
          have nd3 : ((kz0.take (i + 1)).map (·.2)).Nodup := by
            rw [List.map_take]
            exact nd0.sublist (List.take_sublist _ _)
          rw [tkn, List.map_append, List.nodup_append] at nd3
          exact nd3.2.2 _ m z.2 (by simp) rfl
        refine ⟨rfl, _, rfl, _, KDz.entK z.2, z.1, rfl, by rw [KDz.entK_kV]; exact hz, hD2, ?_, ?_⟩
        · rw [has_len, List.length_take, sizeLine_eq]
          omega
        · refine ⟨same_put hD e2, ?_⟩
          rw [upd_same, has_put (a := z.1) nm, tkn]
    rintro H2 ⟨e2, hD2⟩
    rw [List.length_map, List.take_length] at hD2
    have e02 := same_trans e1 e2
    have h2 := e2 _ _ h1
    have nDH : H D = none := e1.free hD
    -- steps
    refine ⟨by show 0 ≤ sizeLine; exact Nat.zero_le _, fun Ls hLs => ?_⟩
    have e3 : Same H2 (upd H2 Ls (.lst [])) := same_new hLs
    have h3 : upd H2 Ls (.lst []) Ls = some (.lst []) := upd_same
    have nFL : F ≠ Ls := fun z => by
      rw [z] at h2
      rw [h2] at hLs
      cases hLs
    have nLH : H Ls = none := e02.free hLs
    generalize upd H2 Ls (.lst []) = H3 at e3 h3 ⊢
    have e03 := same_trans e02 e3
    -- most
    refine ⟨rfl, _, rfl, g, T.C, dx, _, _, rfl, e03 _ _ hg, T.cl, T.nd, rfl, _, rfl, g, T.C, dx, _, _, rfl, e03 _ _ hg, T.cl, T.nw, rfl, d1, xs, n, rfl, e03 _ _ hd1, TA.dom, fun tf H4 e4 TF => ?_⟩
    obtain ⟨dxf, _, _, _, _, hf4, _⟩ := id TF.ex
    refine ⟨tf, dxf, _, rfl, hf4, tf, xs, n, allR n xs, rfl, TF, (allR n xs).length, rfl, by have := allR_le TA.dom.2.2.2.2.2 TA.dom.2.2.2.1; rw [sizeLine_eq]; omega, ?_⟩
    generalize hM : (allR n xs).length = M
    have e04 := same_trans e03 e4
    have st0 : CgSt H4 xs rs k n R0 Cl F D Ls kz0 [] := ⟨e4 _ _ (e3 _ _ h2), e4 _ _ (e3 _ _ hD2), e4 _ _ h3, hkz0.up e04, rg0, by rw [ek, srows, List.map_nil, List.append_nil], nd0, (fun _ z => nomatch z), (fun i st z => by simp at z), fun r hr => by rw [ek] at hr; exact clR r hr⟩
    have lc : 24 - 4 * k ≤ 12 := by omega
    -- while at < len(rows) < most
    refine ⟨fun m σ H' => ∃ (at_ : Nat) (kz : KzL) (ss : List Stp) (v4 v8 v9 : Option V), m + at_ = 28 ∧ σ = [some (.ref o), some (.ref g), some (.ref F), some (.ref D), v4, some (.ref Ls), some (.int (M : Nat)), some (.int (at_ : Nat)), v8, v9] ∧ Same H H' ∧ CgSt H' xs rs k n R0 Cl F D Ls kz ss ∧ at_ ≤ kz.length ∧ DoneAt xs rs k n at_ kz,
      ⟨28, 0, kz0, [], none, none, none, rfl, rfl, e04, st0, Nat.zero_le _, fun t lt sub => ?_⟩, ?_⟩
    · exfalso
      cases t with
      | nil => rw [← lt] at k4; rcases k4 with z | z <;> cases z
      | cons r t =>
        have z := sub r List.mem_cons_self
        rw [List.take_zero] at z
        cases z
    rintro m σ H5 ⟨at_, kz, ss, v4, v8, v9, em, rfl, e5, st, al, dn⟩
    have lkz : kz.length ≤ 12 := Nat.le_trans st.len (Nat.le_trans clL lc)
    have hO5 := hO.up e5
    have nFD : F ≠ D := ne_of st.f st.d (by intro z; cases z)
    have rows5 := st.rg.rows
    refine ⟨_, rfl, _, rfl, .ref F, kz.length, rfl, .inl ⟨_, SqL.of st.f, by rw [List.length_map]⟩, _, _, rfl, rfl, _, rfl, ite2 (fun c1 => ⟨_, rfl, _, _, rfl, rfl, _, rfl, ite2 (fun c2 => ?body) fun c2 => ?e2⟩) fun c1 => ?e1⟩
    case body =>
      have c1 : ((at_ : Nat) : Int) < (kz.length : Nat) := of_decide_eq_true c1
      have al' : at_ < kz.length := by omega
      refine ⟨fun σ' H' => ∃ (kz : KzL) (ss : List Stp) (v4 v8 v9 : Option V), σ' = [some (.ref o), some (.ref g), some (.ref F), some (.ref D), v4, some (.ref Ls), some (.int (M : Nat)), some (.int ((at_ + 1 : Nat) : Int)), v8, v9] ∧ Same H H' ∧ CgSt H' xs rs k n R0 Cl F D Ls kz ss ∧ at_ + 1 ≤ kz.length ∧ DoneAt xs rs k n (at_ + 1) kz,
        fun σ' H' ⟨kz, ss, v4, v8, v9, h1, h2, h3, h4, h5⟩ => ⟨m - 1, by have := Nat.le_trans h3.len (Nat.le_trans clL lc); omega, at_ + 1, kz, ss, v4, v8, v9, by have := Nat.le_trans h3.len (Nat.le_trans clL lc); omega, h1, h2, h3, h4, h5⟩, ?_⟩
      obtain ⟨a, ha⟩ : ∃ a, kz[at_]? = some a := ⟨_, List.getElem?_eq_getElem al'⟩
      obtain ⟨S, hS⟩ : ∃ S, kz.take at_ = S := ⟨_, rfl⟩
      have lS : S.length = at_ := by rw [← hS, List.length_take]; omega
      have tk1 : kz.take (at_ + 1) = S ++ [a] := by rw [take_next ha, hS]
      obtain ⟨dxo, d2, r2, t2, ho, _⟩ := id hO5
      -- arguments
      refine ⟨_, rfl, _, rfl, _, _, rfl, rfl, _, rfl, F, _, rfl, SqL.of st.f, fun sl hsl => ?_⟩
      have e6 : Same H5 (upd H5 sl (.lst (cutV (refs kz) none (some (((at_ : Nat) : Int) + 1))))) := same_new hsl
      have h6 : upd H5 sl (.lst (cutV (refs kz) none (some (((at_ : Nat) : Int) + 1)))) sl = some (.lst (refs (S ++ [a]))) := by
        rw [upd_same, show (((at_ : Nat) : Int) + 1) = ((at_ + 1 : Nat) : Int) from rfl, cutN, refs, ← List.map_take, tk1]
      dsimp only
      generalize upd H5 sl (.lst (cutV (refs kz) none (some (((at_ : Nat) : Int) + 1)))) = H6 at e6 h6 ⊢
      refine ⟨_, rfl, o, C.C, dxo, _, _, rfl, e6 _ _ ho, C.cl, C.nn, rfl, sl, S, a, k, rfl, h6, by omega, by omega, by omega, fun l8 rsA HA nl8 eA hl8 hW => ?_⟩
      have e5A := same_trans e6 eA
      have eHA := same_trans e5 e5A
      have stA := st.up e5A
      have st6 := st.up e6
      have n8F : l8 ≠ F := fun z => by rw [z, st6.f] at nl8; cases nl8
      have n8D : l8 ≠ D := fun z => by rw [z, st6.d] at nl8; cases nl8
      have n8L : l8 ≠ Ls := fun z => by rw [z, st6.l] at nl8; cases nl8
      have lrs := hW.length
      rw [List.length_map] at lrs
      refine ⟨_, rfl, l8, rfl, ⟨_, SqL.of hl8⟩, ?_⟩
      refine for_list (K := K) (a := l8) (xs := rsA) (fun j σ H' => ∃ (ext : KzL) (ss : List Stp) (v4 v9 : Option V), σ = [some (.ref o), some (.ref g), some (.ref F), some (.ref D), v4, some (.ref Ls), some (.int (M : Nat)), some (.int (at_ : Nat)), some (.ref l8), v9] ∧
          (∀ b u, HA b = some u → b ≠ F → b ≠ D → b ≠ Ls → H' b = some u) ∧ CgSt H' xs rs k n R0 Cl F D Ls (kz ++ ext) ss ∧ ∀ ps ∈ (argA S a k).take j, voteS xs k rs n (ps.map (·.2)) ∈ (kz ++ ext).map (·.2))
        ⟨[], ss, v4, v9, rfl, (fun _ _ h _ _ _ => h), by rw [List.append_nil]; exact stA, fun _ z => by rw [List.take_zero] at z; cases z⟩ (fun j σ H' _ ⟨_, _, _, _, _, e, _⟩ => SqL.of (e _ _ hl8 n8F n8D n8L)) ?_ ?_
      · rintro j y σ H7 hy ⟨ext, ss, w4, w9, rfl, e7, st7, dn7⟩
        obtain ⟨ts, hts, b, rfl, nb, hb⟩ := each_get hW hy
        rw [List.getElem?_map] at hts
        cases hps : (argA S a k)[j]? with
        | none =>
          rw [hps] at hts
          cases hts
        | some ps =>
        rw [hps] at hts
        obtain rfl : ps.map (fun p => V.ref p.1) = ts := Option.some.inj hts
        have hb : HA b = some (.tup (refs ps)) := hb
        obtain ⟨lps, subp, _⟩ := mem_argA.mp (List.mem_of_getElem? hps)
        have subk : ∀ p ∈ ps, p ∈ kz ++ ext := fun p hp => List.mem_append_left _ (List.mem_of_mem_take (by rw [tk1]; exact subp p hp))
        have eH7 : Same H H7 := fun b' u h => e7 b' u (eHA _ _ h) (fun z => by rw [z, hF] at h; cases h) (fun z => by rw [z, nDH] at h; cases h) (fun z => by rw [z, nLH] at h; cases h)
        have hb7 : H7 b = some (.tup (refs ps)) := e7 _ _ hb (ne_of hb stA.f (by intro z; cases z)) (ne_of hb stA.d (by intro z; cases z)) (ne_of hb stA.l (by intro z; cases z))
        have rl7 : RL H7 ps := st7.rl.sub subk
        have rgp : RG xs n ps := st7.rg.sub subk
        have hO7 := hO.up eH7
        obtain ⟨dx7, d7, r7, t7, ho7, _⟩ := id hO7
        refine ⟨_, rfl, o, dx7, _, rfl, ho7, rfl, fun qm hqm => ?_⟩
        have e8 : Same H7 (upd H7 qm (.met rv.a o)) := same_new hqm
        have h8 : upd H7 qm (.met rv.a o) qm = some (.met rv.a o) := upd_same
        generalize upd H7 qm (.met rv.a o) = H8 at e8 h8 ⊢
        refine ⟨_, rfl, b, refs ps, rfl, SqT.of (e8 _ _ hb7), h8, [.ref o], refs ps, rfl, rfl, by rw [List.length_map, lps, sizeLine_eq]; omega, fun pp hpp => ?_⟩
        have e9 : Same H8 (upd H8 pp (.tup (refs ps))) := same_new hpp
        have e79 := same_trans e8 e9
        refine ⟨o, pp, ps.map (·.1), xs, rs, k, n, ps.map (·.2), rfl, by rw [List.map_map]; exact upd_same, hO7.up e79, VG, (rl7.up e79).ls, by rw [List.length_map]; exact lps, rgp.rows, by have := TA.dom.2.2.2.2.2; omega, fun rr HB eB hrr => ?_⟩
        have e7B := same_trans e79 eB
        have stB := st7.up e7B
        have hrow : (voteS xs k rs n (ps.map (·.2))).length = n ∧ ∀ x ∈ voteS xs k rs n (ps.map (·.2)), x ∈ xs := ⟨voteS_len, voteS_sub VG (by rw [List.length_map]; exact lps) rgp.rows⟩
        have frB : ∀ b u, HA b = some u → b ≠ F → b ≠ D → b ≠ Ls → HB b = some u := fun b u h h1 h2 h3 => e7B _ _ (e7 b u h h1 h2 h3)
        have dg : DGet HB D (.ref rr) (valV (hasD (kz ++ ext)) (KDz.entK (voteS xs k rs n (ps.map (·.2))))) := DGet.t stB.d (by rw [KDz.entK_kV]; exact hrr)
        refine ⟨_, rfl, _, rfl, D, _, rfl, dg, _, rfl, ?_⟩
        rw [has_in]
        by_cases mm : voteS xs k rs n (ps.map (·.2)) ∈ (kz ++ ext).map (·.2)
        · rw [decide_eq_true mm]
          refine iteF ⟨ext, ss, _, _, rfl, frB, stB, fun ps' hp' => ?_⟩
          rw [take_next hps] at hp'
          rcases List.mem_append.mp hp' with z | z
          · exact dn7 ps' z
          · rw [List.mem_singleton.mp z]
            exact mm
        rw [decide_eq_false mm]
        have ldt : (hasD (kz ++ ext)).length < sizeLine := by
          have := Nat.le_trans stB.len (Nat.le_trans clL lc)
          rw [has_len, sizeLine_eq]
          omega
        have dp : DPut HB D (.ref rr) (.bl true) _ := DPut.t (k := KDz.entK (voteS xs k rs n (ps.map (·.2)))) stB.d (by rw [KDz.entK_kV]; exact hrr) ldt
        rw [has_put (a := rr) mm] at dp
        have lkz' := Nat.le_trans stB.len (Nat.le_trans clL lc)
        have hFB : upd HB D (.dT (hasD (kz ++ ext ++ [(rr, voteS xs k rs n (ps.map (·.2)))]))) F = some (.lst (refs (kz ++ ext))) := by rw [upd_ne nFD]; exact stB.f
        refine iteT ⟨_, rfl, _, rfl, D, _, rfl, dp, _, rfl, Or.inl ⟨rfl, _, SqL.of hFB⟩, _, rfl, F, _, _, rfl, rfl, hFB, by rw [List.length_map, sizeLine_eq]; omega, _, rfl, ?_⟩
        have nLD : Ls ≠ D := ne_of stB.l stB.d (by intro z; cases z)
        have hLB : upd (upd HB D (.dT (hasD (kz ++ ext ++ [(rr, voteS xs k rs n (ps.map (·.2)))])))) F (.lst (refs (kz ++ ext) ++ [V.ref rr])) Ls = some (.lst (srefs ss)) := by
          rw [upd_ne nFL.symm, upd_ne nLD]
          exact stB.l
        have lss : ss.length ≤ 12 := by
          have z := congrArg List.length stB.rows
          rw [List.length_append, List.length_map, List.length_map] at z
          omega
        refine ⟨Or.inl ⟨rfl, _, SqL.of hLB⟩, _, rfl, _, rfl, by show 2 ≤ sizeLine; decide, fun T hT => ?_⟩
        have nTF : T ≠ F := fun z => by rw [z, upd_same] at hT; cases hT
        have nTD : T ≠ D := fun z => by rw [z, upd_ne nFD.symm, upd_same] at hT; cases hT
        have nTL : T ≠ Ls := fun z => by rw [z, hLB] at hT; cases hT
        have hTB : HB T = none := by
          rw [upd_ne nTF, upd_ne nTD] at hT
          exact hT
        refine ⟨Ls, _, _, rfl, rfl, by rw [upd_ne nTL.symm]; exact hLB, by rw [List.length_map, sizeLine_eq]; omega, ?_⟩
        have eqH : upd (upd (upd (upd HB D (.dT (hasD (kz ++ ext ++ [(rr, voteS xs k rs n (ps.map (·.2)))])))) F (.lst (refs (kz ++ ext) ++ [V.ref rr]))) T (.tup [V.ref rr, V.ref b])) Ls (.lst (srefs ss ++ [V.ref T])) =
            upd (upd (upd (upd HB T (.tup [V.ref rr, V.ref b])) D (.dT (hasD (kz ++ ext ++ [(rr, voteS xs k rs n (ps.map (·.2)))])))) F (.lst (refs (kz ++ ext ++ [(rr, voteS xs k rs n (ps.map (·.2)))])))) Ls (.lst (srefs (ss ++ [⟨T, rr, voteS xs k rs n (ps.map (·.2)), b, ps⟩]))) := by
          rw [upd_comm nTF.symm, upd_comm nTD.symm, srefs, srefs, List.map_append, refs, refs, List.map_append (l₁ := kz ++ ext)]
          rfl
        rw [eqH]
        have eT : Same HB (upd HB T (.tup [V.ref rr, V.ref b])) := same_new hTB
        have sp : StpAt (upd HB T (.tup [V.ref rr, V.ref b])) xs rs k n ⟨T, rr, voteS xs k rs n (ps.map (·.2)), b, ps⟩ :=
          ⟨upd_same, eT _ _ hrr, eT _ _ (e7B _ _ hb7), (rl7.up e7B).up eT, lps, rfl⟩
        have inCl : voteS xs k rs n (ps.map (·.2)) ∈ Cl := clC _ (by rw [List.length_map]; exact lps) fun r hr => by
          obtain ⟨p, hp, rfl⟩ := List.mem_map.mp hr
          exact stB.cl _ (List.mem_map.mpr ⟨p, subk p hp, rfl⟩)
        have stN := (stB.up eT).put sp nFL hrow mm (fun p hp => List.mem_map.mpr ⟨p, subk p hp, rfl⟩) inCl
        refine ⟨ext ++ [(rr, voteS xs k rs n (ps.map (·.2)))], _, _, _, rfl, fun b' u h h1 h2 h3 => ?_, by rw [← List.append_assoc]; exact stN, fun ps' hp' => ?_⟩
        · rw [upd_ne h3, upd_ne h1, upd_ne h2]
          exact eT _ _ (frB b' u h h1 h2 h3)
        · rw [← List.append_assoc, List.map_append]
          rw [take_next hps] at hp'
          rcases List.mem_append.mp hp' with z | z
          · exact List.mem_append_left _ (dn7 ps' z)
          · rw [List.mem_singleton.mp z]
            exact List.mem_append_right _ (List.mem_singleton_self _)
      · rintro σ H7 ⟨ext, ss, w4, w9, rfl, e7, st7, dn7⟩
        rw [lrs, List.take_length] at dn7
        have eH7 : Same H H7 := fun b' u h => e7 b' u (eHA _ _ h) (fun z => by rw [z, hF] at h; cases h) (fun z => by rw [z, nDH] at h; cases h) (fun z => by rw [z, nLH] at h; cases h)
        exact ⟨_, rfl, _, _, rfl, rfl, kz ++ ext, ss, _, _, _, rfl, eH7, st7, by rw [List.length_append]; omega, done_next hS ha dn dn7⟩
    case' e1 =>
      have c1 : ¬ ((at_ : Nat) : Int) < (kz.length : Nat) := fun z => c1 (decide_eq_true z)
      have hcl : ClosedS xs k rs n (kz.map (·.2)) := fun t lt sub => dn t lt fun r hr => by
        rw [List.take_of_length_le (by rw [List.length_map]; omega)]
        exact sub r hr
      refine ⟨_, rfl, iteF ?_⟩
    case' e2 =>
      have c2 : ¬ ((kz.length : Nat) : Int) < (M : Nat) := fun z => c2 (decide_eq_true z)
      have hcl : ClosedS xs k rs n (kz.map (·.2)) := fun t lt sub => by
        have sub2 : ∀ r ∈ kz.map (·.2), r ∈ allR n xs := fun r hr => mem_allR (rows5 r hr).1 (rows5 r hr).2
        have pm := perm_of_sub (kz.map (·.2)) (allR n xs) st.nd sub2 (by rw [List.length_map, hM]; omega)
        refine pm.mem_iff.mpr (mem_allR voteS_len (voteS_sub VG lt fun r hr => rows5 r (sub r hr)))
    all_goals
      refine ⟨_, rfl, g, T.C, dx, _, _, rfl, e5 _ _ hg, T.cl, T.nd, rfl, _, rfl, g, T.C, dx, _, _, rfl, e5 _ _ hg, T.cl, T.nw, rfl, _, rfl, F, _, rfl, .inl ⟨SqL.of st.f, fun tp htp => ?_⟩⟩
      have e6 : Same H5 (upd H5 tp (.tup (refs kz))) := same_new htp
      refine fun c dxc nc ndc nec => make_tabQ nc ndc nec (e6 _ _ (e5 _ _ hd1)) TA.dom upd_same (st.rl.up e6).rows rows5 (by rw [List.length_map]; omega) fun H7 R' e7 TC' mem => ⟨rfl, ?_⟩
      have e57 := same_trans e6 e7
      refine ⟨_, rfl, Ls, _, rfl, .inl ⟨SqL.of (e57 _ _ st.l), fun q0 hq0 => ⟨by show 2 ≤ sizeLine; decide, fun p hp => ?_⟩⟩⟩
      have e8 : Same H7 (upd H7 q0 (.tup (srefs ss))) := same_new hq0
      have e9 := same_trans e8 (same_new (o := .tup [V.ref c, V.ref q0]) hp)
      have e59 := same_trans e57 e9
      refine q p c q0 R' ss _ (same_trans e5 e59) upd_same ⟨TC'.up e9, fun r => by rw [mem r, st.rows], (same_new hp) _ _ upd_same, fun s2 h2 => (st.at_ s2 h2).up e59, st.ok, by rw [← st.rows]; exact st.nd, fun t lt sub => ?_⟩
      exact (mem _).mpr (hcl t lt fun r hr => (mem r).mp (sub r hr))
end
end K01
/-! closing_holds, of what a closing tells. -/
namespace K01
open PySem PySem.Spec PyProof.Rows L2 KG KS KA KX KIa KFz KTc
abbrev s_is_pair : Stmt := top 14
abbrev s_closing_holds : Stmt := top 28
abbrev NCh : List Str := ["vote", "table", "thing", "closure", "steps", "has_row", "row", "step", "rows", "each"]
def spPair (K : PySem.W.Frag) : Sp := fun vs H Q _ => ∃ (a : Addr) (x y : V), vs = [.ref a] ∧ SqT K H a [x, y] ∧ Q (.bl true) H
def spCh (C TC : Addr) : Sp := fun vs H Q _ => ∃ (o g p c q : Addr) (xs rs : List Str) (k n : Nat) (R0 R' : List (List Str)) (ss : List Stp), vs = [.ref o, .ref g, .ref p] ∧ VtAt C H o xs k rs ∧ VGood xs k rs ∧ TabAt TC H g xs n R0 ∧ H p = some (.tup [V.ref c, V.ref q]) ∧ ClgOk TC H xs rs k n R0 c q R' ss ∧ R'.length ≤ 24 - 4 * k ∧
  ∀ H', Same H H' → Q (.bl true) H'
theorem closed_brk {xs rs : List Str} {k n : Nat} {R : List (List Str)} (h : ClosedS xs k rs n R) : brkS xs k rs n R = none := by
  unfold brkS
  rw [List.find?_eq_none]
  intro t ht z
  obtain ⟨l, sub⟩ := mem_pw.mp ht
  exact of_decide_eq_true z (h t l sub)
theorem keys_rows {H : Hp} : ∀ {kz : KzL} {bs : List Addr} {vs : List V}, vs.length = kz.length → Paired (fun (b : Addr) (kv : List L2.Key × V) => H b = some (.tup (kv.1.map kV))) bs (KDz.dtOf kz vs) → RowsAt H (bs.map V.ref) (kz.map (·.2))
  | [], _, [], _, .nil => .nil
  | z :: kz, _, v :: vs, l, .cons (a := b) h t => .cons ⟨b, rfl, by rw [← KDz.entK_kV]; exact h⟩ (keys_rows (Nat.succ.inj l) t)
section
variable {P : Program} {w : World} {K : PySem.W.Frag} {mg : Str → Option Value} {base : Heap}
theorem sc_is_pair : FnScope ["thing"] ["thing"] (defScope s_is_pair) := ⟨rfl, rfl, rfl, by decide +kernel, rfl, by decide +kernel, by decide +kernel⟩
theorem ok_is_pair (B : Bs mg) (f : FnF K mg "is_pair" "is_pair" s_is_pair) : FnOk P w K mg base CX0 1 f.a f.d ["thing"] (spPair K) := by
  refine f.F.ok sc_is_pair (fun vs H Q E h => ?_) (fun cdv A outer s H vs Q E hr h => ?_)
  · obtain ⟨a, x, y, rfl, _⟩ := h
    rfl
  · obtain ⟨a, x, y, rfl, ha, q⟩ := h
    refine ⟨_, (pss_one
      (ps_ret (pe_and (pe_callB call_isi (by rfl) B.n_isinstance (by decide +kernel) (pa_cons (pv 0) (pa_cons (pe_bltn (v := .ty "tuple") rfl B.n_tuple (by decide +kernel) rfl) pa_nil))) (pe_one (pe_cmpR op_eq (pe_callB call_len (by rfl) B.n_len (by decide +kernel) (pa_cons (pv 0) pa_nil)) pe_int (nomark _)))))), ?_⟩
    refine ⟨_, rfl, _, _, _, _, true, rfl, .ty "tuple", tyT ha, kit_ty (by decide +kernel), true, rfl, iteT ?_⟩
    refine ⟨_, rfl, .ref a, 2, rfl, .inr ⟨_, ha, rfl⟩, rfl, ?_⟩
    rw [show decide (V.int ((2 : Nat) : Int) = V.int 2) = true from decide_eq_true rfl]
    exact q
/-- what closing_holds reaches -/
structure ChF (K : PySem.W.Frag) (mg : Str → Option Value) (C TC : Addr) where
  pair : FnF K mg "is_pair" "is_pair" s_is_pair
  br : MtF K "broken" "Vote.broken" s_vtBroken
  bM : Meth K C "broken" br.a
  ke : MtF K "keeps" "Vote.keeps" s_vtKeeps
  kM : Meth K C "keeps" ke.a
  eq_ : MtF K "__eq__" "Table.__eq__" s_tabEq
  ei : PySem.W.findIn K (.ref TC) "__eq__" = some (some (.ref eq_.a))
  ef : PySem.W.isFn K (.ref eq_.a) = true
  nf : PySem.W.notFirst K TC (.ref TC) = true
theorem sc_holds : FnScope NCh ["vote", "table", "thing"] (defScope s_closing_holds) := ⟨rfl, rfl, rfl, by decide +kernel, rfl, by decide +kernel, by decide +kernel⟩
theorem ok_holds (B : Bz mg) {fI : Addr} (C : VtC K mg fI) (rv : MtF K "rows_voted" "Vote.rows_voted" s_vtRows) (bm : BMeth K C.C "rows_voted" rv.a) (ti : MtD K "__init__" "Table.__init__" s_tabInit) (F : TabF K mg) (T : TabC K mg ti.a) (J : C8.InsC K T.C) (G : ChF K mg C.C T.C) (f : FnF K mg "closing_holds" "closing_holds" s_closing_holds) :
    FnOk P w K mg base CX0 6 f.a f.d ["vote", "table", "thing"] (spCh C.C T.C) := by
  have G6 := ok_tabInit (P := P) (w := w) (base := base) B.toBs ti F T
  have b6 : L2.Binds K ti.d ["self", "domain", "width", "rows"] [] := by
    obtain ⟨ds, r, b⟩ := ti.F.binds1 (ps := ["self", "domain", "width", "rows"]) 4 1 (by simp) rfl fun _ _ _ _ _ _ _ us its h1 h2 => match us, its, h1, h2 with | [_, _, _, _], [_], _, _ => ⟨_, rfl, rfl⟩
    cases (show Vals [] ds from r)
    exact b
  have GP := ok_is_pair (P := P) (w := w) (base := base) B.toBs G.pair
  have bP : L2.Binds K G.pair.d ["thing"] [] := G.pair.F.binds fun _ _ _ _ _ _ us hl => match us, hl with | [_], _ => rfl
  have GR := ok_is_row (P := P) (w := w) (base := base) B.toBs F.row
  have bR : L2.Binds K F.row.d ["thing", "domain", "length"] [] := F.row.F.binds fun _ _ _ _ _ _ us hl => match us, hl with | [_, _, _], _ => rfl
  have GV := ok_vtRw (P := P) (w := w) (base := base) B C rv
  have GK := ok_vtKeeps (P := P) (w := w) (base := base) B C T F.all G.br G.bM G.ke
  have bK : L2.Binds K G.ke.d ["self", "table"] [] := G.ke.F.binds fun _ _ _ _ _ _ us hl => match us, hl with | [_, _], _ => rfl
  have GE := ok_tabEq (P := P) (w := w) (base := base) B.toBs T J G.eq_
  have bE : L2.Binds K G.eq_.d ["self", "other"] [] := G.eq_.F.binds fun _ _ _ _ _ _ us hl => match us, hl with | [_, _], _ => rfl
  refine f.F.ok sc_holds (fun vs H Q E h => ?_) (fun cdv A outer s H vs Q E hr h => ?_)
  · obtain ⟨o, g, p, c, q, xs, rs, k, n, R0, R', ss, rfl, _⟩ := h
    rfl
  · obtain ⟨o, g, p, c, q0, xs, rs, k, n, R0, R', ss, rfl, hO, VG, TA, hp, cg, l12, q⟩ := h
    have hu64 := hr.units
    have hu := hu_of hr
    have hr1 : Room 1 _ := hr.mono (by omega)
    have hr3 : Room 3 _ := hr.mono (by omega)
    refine ⟨_, (pss_cons
      (ps_if (PW.pt (pw_or (pt_not (pt_val (pe_call GP hr1 (by rfl) G.pair.g G.pair.F.kp bP .nil pass0 (pa_cons (pv 2) pa_nil)))) (pw_or1 (pt_not (pt_val (pe_callB call_isi (by rfl) B.n_isinstance (by decide +kernel) (pa_cons (pe_ix ix_tup (pv 2) pe_int (fun _ _ => rfl)) (pa_cons (pe_bltn (v := .ty "tuple") rfl B.n_tuple (by decide +kernel) rfl) pa_nil))))))))
        (pss_one
          (ps_ret pe_bl))
        pss_nil)
    (pss_cons
      (ps_asg (pv 2) (pg_tup (by rfl) (pgs_cons (pg_name (i := 3) sc_holds.nd rfl (Or.inl rfl)) (pgs_cons (pg_name (i := 4) sc_holds.nd rfl (Or.inl rfl)) pgs_nil))))
    (pss_cons
      (ps_set (i := 5) sc_holds.nd rfl (Or.inr rfl) (KDk.pe_dcT (own := [("row", 6)]) (g := gName 6) (by rfl) sc_holds.nd hu (pi_tup (pe_fld (pv 1) rfl)) (blkOk_by (own := [("row", 6)]) (N := NCh) (sc := defScope s_closing_holds) (by decide +kernel))
        (fun _ _ _ _ _ => (pg_name (i := 6) sc_holds.nd rfl (Or.inl rfl))) (fun _ _ _ _ _ => pts_nil) (fun _ _ _ _ _ => (pv 6)) (fun _ _ _ _ _ => pe_bl)))
    (pss_cons
      (ps_for PassesOwn.never rfl (pi_tup (pv 4)) (pg_name (i := 7) sc_holds.nd rfl (Or.inl rfl))
        (pss_cons
          (ps_if (PW.pt (pw_or (pt_not (pt_val (pe_call GP hr1 (by rfl) G.pair.g G.pair.F.kp bP .nil pass0 (pa_cons (pv 7) pa_nil)))) (pw_or (pt_not (pt_val (pe_call GR hr1 (by rfl) F.row.g F.row.F.kp bR .nil pass0 (pa_cons (pe_ix ix_tup (pv 7) pe_int (fun _ _ => rfl)) (pa_cons (pe_fld (pv 1) rfl) (pa_cons (pe_fld (pv 1) rfl) pa_nil)))))) (pw_or1 (pt_cmp (pc_din hu (pe_ix ix_tup (pv 7) pe_int (fun _ _ => rfl)) (pv 5)) (by rfl))))))
            (pss_one
              (ps_ret pe_bl))
            pss_nil)
        (pss_cons
          (ps_asg (pv 7) (pg_tup (by rfl) (pgs_cons (pg_name (i := 6) sc_holds.nd rfl (Or.inl rfl)) (pgs_cons (pg_name (i := 8) sc_holds.nd rfl (Or.inl rfl)) pgs_nil))))
        (pss_cons
          (ps_if (PW.pt (pw_or (pt_not (pt_val (pe_callB call_isi (by rfl) B.n_isinstance (by decide +kernel) (pa_cons (pv 8) (pa_cons (pe_bltn (v := .ty "tuple") rfl B.n_tuple (by decide +kernel) rfl) pa_nil))))) (pw_or1 (pt_cmpR op_ne (pe_callB call_len (by rfl) B.n_len (by decide +kernel) (pa_cons (pv 8) pa_nil)) (pe_fld (pv 0) rfl) (nomark _)))))
            (pss_one
              (ps_ret pe_bl))
            pss_nil)
        (pss_cons
          (ps_if (pt_not (pt_val (pe_callB (cr_all rfl) (by rfl) B.n_all (by decide +kernel) (pa_cons (pe_lc (own := [("each", 9)]) (g := gName 9) (by rfl) sc_holds.nd (pi_tup (pv 8)) (blkOk_by (own := [("each", 9)]) (N := NCh) (sc := defScope s_closing_holds) (by decide +kernel)) (fun _ _ _ _ _ => (pg_name (i := 9) sc_holds.nd rfl (Or.inl rfl))) (fun _ _ _ _ _ => pts_nil)
            (fun _ _ _ _ _ => (pe_and (pe_call GR hr1 (by rfl) F.row.g F.row.F.kp bR .nil pass0 (pa_cons (pv 9) (pa_cons (show PE _ _ (tFld K (tVar 1) "domain") from pe_fld (pv 1) rfl) (pa_cons (show PE _ _ (tFld K (tVar 1) "width") from pe_fld (pv 1) rfl) pa_nil)))) (pe_one (pe_cmp (pc_din hu (pv 9) (pv 5)) (by rfl)))))) pa_nil))))
            (pss_one
              (ps_ret pe_bl))
            pss_nil)
        (pss_cons
          (ps_if (pt_cmpR (op_neD hu64) (pe_methS (pv 0) C.cl bm GV hr1 pass0 (pv 8)) (pv 6) (nomark _))
            (pss_one
              (ps_ret pe_bl))
            pss_nil)
        (pss_one
          (ps_dput hu (pv 5) (pv 6) pe_bl rfl))))))))
    (pss_one
      (ps_ret (pe_and (pe_cmpR (KO.op_cmp (op := .Eq) (fun _ _ => rfl) G.ei G.ef GE bE hr1 pass0) (pv 3) (pe_make T.made G6 hr rfl T.g b6 .nil pass0 (pa_cons (pe_fld (pv 1) rfl) (pa_cons (pe_fld (pv 1) rfl) (pa_cons (pe_callTy (KUl.call_tupD rfl) (by rfl) B.n_tuple (by decide +kernel) (pa_cons (pv 5) pa_nil)) pa_nil)))) (nomark _)) (pe_one (pe_meth (pv 0) C.cl G.kM GK hr3 bK .nil pass0 (pa_cons (pv 3) pa_nil)))))))))), ?_⟩
    obtain ⟨dx, d1, p0, rs0, cols, hg, hd1, hp0, hR0, hC0⟩ := id TA.ex
    have hk4 := VG.hk
    have h64 := TA.h64
    have n3 := TA.dom.2.2.2.2.2
    have okx : ∀ {r : List Str}, (∀ x ∈ r, x ∈ xs) → SeqAt.shaped (txd r) = true := fun h => txd_shaped fun x hx => name_strOk (TA.dom.2.1 x (h x hx))
    -- thing
    refine ⟨_, rfl, p, _, _, rfl, SqT.of hp, true, rfl, iteF ?_⟩
    refine ⟨_, rfl, p, _, 1, V.ref q0, rfl, rfl, SqT.of hp, at_of (j := 1) rfl rfl, _, _, _, _, true, rfl, .ty "tuple", tyT (SqT.of cg.st), kit_ty (by decide +kernel), true, rfl, iteF ?_⟩
    refine ⟨_, rfl, p, _, rfl, SqT.of hp, rfl, _, _, rfl, _, _, rfl, rfl, ?_⟩
    -- has_row
    obtain ⟨kz0, ez, ek, hkz0⟩ := rows_kz hR0
    subst ez
    have nd0 : (kz0.map (·.2)).Nodup := by rw [ek]; exact asc_nodup TA.asc
    have lk0 : kz0.length = R0.length := by rw [← ek, List.length_map]
    refine ⟨_, rfl, g, T.C, dx, _, _, rfl, hg, T.cl, T.nr, rfl, p0, rfl, ⟨_, SqT.of hp0⟩, fun D hD => ?_⟩
    refine KDk.dcT_tup (K := K) (xs := refs kz0) (fun i H' => Same H H' ∧ H' D = some (.dT (hasD (kz0.take i)))) ⟨same_new hD, by rw [upd_same]; rfl⟩ (fun i H' z => SqT.of (z.1 _ _ hp0)) ?_ ?_
    · rintro i y H2 hy ⟨e2, hD2⟩
      rw [List.getElem?_map] at hy
      cases hi : kz0[i]? with
      | none =>
        rw [hi] at hy
        cases hy
      | some z =>
        rw [hi] at hy
        obtain rfl : V.ref z.1 = y := Option.some.inj hy
        have hz := e2 _ _ (hkz0 z (List.mem_of_getElem? hi))
        have tkn : kz0.take (i + 1) = kz0.take i ++ [z] := take_next hi
        have nm : z.2 ∉ (kz0.take i).map (·.2) := fun m => by
          have nd3 : ((kz0.take (i + 1)).map (·.2)).Nodup := by
            rw [List.map_take]
            exact nd0.sublist (List.take_sublist _ _)
          rw [tkn, List.map_append, List.nodup_append] at nd3
          exact nd3.2.2 _ m z.2 (by simp) rfl
        refine ⟨rfl, _, rfl, _, KDz.entK z.2, z.1, rfl, by rw [KDz.entK_kV]; exact hz, hD2, ?_, ?_⟩
        · rw [has_len, List.length_take, sizeLine_eq]
          omega
        · refine ⟨same_put hD e2, ?_⟩
          rw [upd_same, has_put (a := z.1) nm, tkn]
    rintro H2 ⟨e2, hD2⟩
    rw [List.length_map, List.take_length] at hD2
    have lss : ss.length ≤ 12 := by
      have sub : ∀ r ∈ R0 ++ srows ss, r ∈ R' := fun r hr => (cg.mem r).mpr hr
      have z := nodup_len (R0 ++ srows ss) R' cg.nd sub
      rw [List.length_append, List.length_map] at z
      omega
    have lR0 : R0.length + ss.length ≤ 12 := by
      have sub : ∀ r ∈ R0 ++ srows ss, r ∈ R' := fun r hr => (cg.mem r).mpr hr
      have z := nodup_len (R0 ++ srows ss) R' cg.nd sub
      rw [List.length_append, List.length_map] at z
      omega
    -- the steps
    refine ⟨_, rfl, q0, rfl, ⟨_, SqT.of (e2 _ _ cg.st)⟩, ?_⟩
    refine for_tup (K := K) (a := q0) (xs := srefs ss) (fun i σ H' => ∃ (kz : KzL) (v6 v7 v8 : Option V), σ = [some (.ref o), some (.ref g), some (.ref p), some (.ref c), some (.ref q0), some (.ref D), v6, v7, v8, none] ∧ Same H H' ∧ H' D = some (.dT (hasD kz)) ∧ kz.map (·.2) = R0 ++ srows (ss.take i))
      ⟨kz0, none, none, none, rfl, e2, hD2, by rw [ek, List.take_zero, srows, List.map_nil, List.append_nil]⟩ (fun i σ H' _ ⟨_, _, _, _, _, e, _⟩ => SqT.of (e _ _ cg.st)) ?_ ?_
    · rintro i y σ H3 hy ⟨kz, v6, v7, v8, rfl, e3, hD3, rkz⟩
      rw [List.getElem?_map] at hy
      cases hi : ss[i]? with
      | none =>
        rw [hi] at hy
        cases hy
      | some st =>
      rw [hi] at hy
      obtain rfl : V.ref st.T = y := Option.some.inj hy
      have sa0 := cg.at_ st (List.mem_of_getElem? hi)
      have lkz : kz.length = R0.length + i := by
        have z := congrArg List.length rkz
        have il : i < ss.length := (List.getElem?_eq_some_iff.mp hi).1
        rw [List.length_map, List.length_append, List.length_map, List.length_take] at z
        omega
      have il : i < ss.length := (List.getElem?_eq_some_iff.mp hi).1
      have rowOk : st.row.length = n ∧ ∀ x ∈ st.row, x ∈ xs := cg.tab.row st.row ((cg.mem _).mpr (List.mem_append_right _ (List.mem_map.mpr ⟨st, List.mem_of_getElem? hi, rfl⟩)))
      have psIn : ∀ z ∈ st.ps, z.2 ∈ kz.map (·.2) := fun z hz => by
        rw [rkz]
        exact cg.ok i st hi z hz
      have rgp : RG xs n st.ps := fun z hz => cg.tab.row z.2 ((cg.mem _).mpr (by
        rcases List.mem_append.mp (cg.ok i st hi z hz) with h | h
        · exact List.mem_append_left _ h
        · obtain ⟨s2, h2, e2⟩ := List.mem_map.mp h
          exact List.mem_append_right _ (List.mem_map.mpr ⟨s2, List.mem_of_mem_take h2, e2⟩)))
      have nm : st.row ∉ kz.map (·.2) := fun m => by
        rw [rkz] at m
        have nd3 : (R0 ++ srows (ss.take (i + 1))).Nodup := cg.nd.sublist (List.Sublist.append (List.Sublist.refl _) ((List.take_sublist _ _).map _))
        rw [take_next hi, srows, List.map_append, ← List.append_assoc, List.nodup_append] at nd3
        exact nd3.2.2 _ m st.row (by simp) rfl
      -- is_pair(step), is_row(step[0], ..), step[0] in has_row
      refine ⟨_, rfl, st.T, _, _, rfl, SqT.of (e3 _ _ sa0.pr), true, rfl, iteF ?_⟩
      refine ⟨_, rfl, st.T, _, 0, V.ref st.v, rfl, rfl, SqT.of (e3 _ _ sa0.pr), at_of (j := 0) rfl rfl, _, rfl, g, T.C, dx, _, _, rfl, e3 _ _ hg, T.cl, T.nd, rfl, _, rfl, g, T.C, dx, _, _, rfl, e3 _ _ hg, T.cl, T.nw, rfl, st.v, d1, st.row, xs, by rw [rowOk.1]; rfl, e3 _ _ sa0.rw_, e3 _ _ hd1, rowOk.2, by rw [rowOk.1]; omega, fun H4 e4 => ⟨true, rfl, iteF ?_⟩⟩
      have e04 := same_trans e3 e4
      have sa4 := sa0.up e04
      have hD4 := e4 _ _ hD3
      have dg4 : DGet H4 D (.ref st.v) (valV (hasD kz) (KDz.entK st.row)) := DGet.t hD4 (by rw [KDz.entK_kV]; exact sa4.rw_)
      refine ⟨_, rfl, st.T, _, 0, V.ref st.v, rfl, rfl, SqT.of sa4.pr, at_of (j := 0) rfl rfl, _, rfl, D, _, rfl, dg4, _, rfl, ?_⟩
      rw [has_in, decide_eq_false nm]
      refine iteF ?_
      -- row, rows = step
      refine ⟨_, rfl, st.T, _, rfl, SqT.of sa4.pr, rfl, _, _, rfl, _, _, rfl, rfl, ?_⟩
      have hO4 := hO.up e04
      obtain ⟨dxo, d2, r2, t2, ho, _⟩ := id hO4
      refine ⟨_, rfl, _, _, _, _, true, rfl, .ty "tuple", tyT (SqT.of sa4.ar), kit_ty (by decide +kernel), true, rfl, iteF ?_⟩
      refine ⟨_, rfl, .ref st.s, k, rfl, .inr ⟨_, SqT.of sa4.ar, by rw [List.length_map, sa4.len]⟩, _, rfl, o, C.C, dxo, _, _, rfl, ho, C.cl, C.nn, rfl, rfl, false, by rw [decide_eq_true rfl]; rfl, iteF ?_⟩
      -- all([..])
      refine ⟨_, rfl, st.s, rfl, ⟨_, SqT.of sa4.ar⟩, fun E hE => ?_⟩
      refine lc_tup (K := K) (xs := refs st.ps) (fun j H' => Same H4 H' ∧ H' E = some (.lst (List.replicate j (V.bl true)))) ⟨same_new hE, upd_same⟩ (fun j H' _ z => SqT.of (z.1 _ _ sa4.ar)) ?_ ?_
      · rintro j y H5 hy ⟨e5, hE5⟩
        rw [List.getElem?_map] at hy
        cases hj : st.ps[j]? with
        | none =>
          rw [hj] at hy
          cases hy
        | some z =>
        rw [hj] at hy
        obtain rfl : V.ref z.1 = y := Option.some.inj hy
        have zm := List.mem_of_getElem? hj
        have e05 := same_trans e04 e5
        have jl : j < st.ps.length := (List.getElem?_eq_some_iff.mp hj).1
        have lps := sa4.len
        refine ⟨rfl, _, rfl, _, rfl, g, T.C, dx, _, _, rfl, e05 _ _ hg, T.cl, T.nd, rfl, _, rfl, g, T.C, dx, _, _, rfl, e05 _ _ hg, T.cl, T.nw, rfl, z.1, d1, z.2, xs, by rw [(rgp z zm).1]; rfl, e5 _ _ (sa4.rl z zm), e05 _ _ hd1, (rgp z zm).2, by rw [(rgp z zm).1]; omega, fun H6 e6 => ⟨true, rfl, iteT ?_⟩⟩
        have e46 := same_trans e5 e6
        have dg6 : DGet H6 D (.ref z.1) (valV (hasD kz) (KDz.entK z.2)) := DGet.t (e46 _ _ hD4) (by rw [KDz.entK_kV]; exact e46 _ _ (sa4.rl z zm))
        refine ⟨_, rfl, _, rfl, D, _, rfl, dg6, _, e6 _ _ hE5, by rw [List.length_replicate, sizeLine_eq]; omega, same_put hE e46, ?_⟩
        rw [upd_same]
        show some (HO.lst (List.replicate j (V.bl true) ++ [V.bl (valV (hasD kz) (KDz.entK z.2)).isSome])) = _
        rw [has_in, decide_eq_true (psIn z zm), ← List.replicate_succ']
      rintro H5 ⟨e5, hE5⟩
      rw [List.length_map] at hE5
      refine ⟨E, List.replicate st.ps.length true, rfl, SqL.of (by rw [List.map_replicate]; exact hE5), true, congrArg V.bl (bls_all _), iteF ?_⟩
      have e05 := same_trans e04 e5
      have sa5 := sa4.up e5
      have hO5 := hO4.up e5
      -- vote.rows_voted(*rows) != row
      refine ⟨_, rfl, o, dxo, _, rfl, e5 _ _ ho, rfl, fun qm hqm => ?_⟩
      have e6 : Same H5 (upd H5 qm (.met rv.a o)) := same_new hqm
      have h6 : upd H5 qm (.met rv.a o) qm = some (.met rv.a o) := upd_same
      generalize upd H5 qm (.met rv.a o) = H6 at e6 h6 ⊢
      refine ⟨_, rfl, st.s, refs st.ps, rfl, SqT.of (e6 _ _ sa5.ar), h6, [.ref o], refs st.ps, rfl, rfl, by rw [List.length_map, sa5.len, sizeLine_eq]; omega, fun pp hpp => ?_⟩
      have e7 : Same H6 (upd H6 pp (.tup (refs st.ps))) := same_new hpp
      have e57 := same_trans e6 e7
      refine ⟨o, pp, st.ps.map (·.1), xs, rs, k, n, st.ps.map (·.2), rfl, by rw [List.map_map]; exact upd_same, hO5.up e57, VG, (sa5.rl.up e57).ls, by rw [List.length_map]; exact sa5.len, rgp.rows, by omega, fun rr HB eB hrr => ?_⟩
      have e5B := same_trans e57 eB
      have saB := sa5.up e5B
      rw [← sa5.vt] at hrr
      refine ⟨_, rfl, txd st.row, txd st.row, .tup (SqT.of hrr) (texts_dp _), .tup (SqT.of saB.rw_) (texts_dp _), okx rowOk.2, okx rowOk.2, false, by rw [eqv_row, decide_eq_true rfl]; rfl, iteF ?_⟩
      have e4B := same_trans e5 e5B
      have dp : DPut HB D (.ref st.v) (.bl true) _ := DPut.t (k := KDz.entK st.row) (e4B _ _ hD4) (by rw [KDz.entK_kV]; exact saB.rw_) (by rw [has_len, lkz, sizeLine_eq]; omega)
      rw [has_put (a := st.v) nm] at dp
      refine ⟨_, rfl, _, rfl, D, _, rfl, dp, kz ++ [(st.v, st.row)], _, _, _, rfl, fun b u h => ?_, upd_same, ?_⟩
      · rw [upd_ne (ne_of_none h hD)]
        exact e4B _ _ (e04 _ _ h)
      · rw [List.map_append, rkz, take_next hi, srows, srows, List.map_append, List.append_assoc]
        rfl
    · rintro σ H3 ⟨kz, v6, v7, v8, rfl, e3, hD3, rkz⟩
      rw [List.length_map, List.take_length] at rkz
      have lkz : kz.length ≤ 12 := by
        have z := congrArg List.length rkz
        rw [List.length_map, List.length_append, List.length_map] at z
        omega
      refine ⟨_, rfl, _, rfl, g, T.C, dx, _, _, rfl, e3 _ _ hg, T.cl, T.nd, rfl, _, rfl, g, T.C, dx, _, _, rfl, e3 _ _ hg, T.cl, T.nw, rfl, _, rfl, D, _, rfl, hD3, fun l bs hl hbs => ?_⟩
      have e4 : Same H3 (upd H3 l (.tup (bs.map V.ref))) := same_new hl
      have hrows := keys_rows (by rw [List.length_replicate]) hbs
      refine fun c2 dxc nc ndc nec => make_tabQ nc ndc nec (e4 _ _ (e3 _ _ hd1)) TA.dom upd_same (hrows.up e4) (fun r hr => cg.tab.row r ((cg.mem r).mpr (by rw [← rkz]; exact hr))) (by rw [List.length_map]; omega) fun H5 R2 e5 T2 mem => ⟨rfl, ?_⟩
      have e05 := same_trans e3 (same_trans e4 e5)
      have T1 := cg.tab.up e05
      have eR : R' = R2 := asc_ext T1.asc T2.asc fun r => by rw [cg.mem r, mem r, rkz]
      obtain ⟨dc1, _, _, _, _, hc1, _⟩ := id T1.ex
      obtain ⟨dc2, _, _, _, _, hc2, _⟩ := id T2.ex
      refine ⟨c, dc1, _, .ref T.C, rfl, hc1, .base (.ins hc2 J.cl J.ha J.hn J.htk J.hm), G.nf, c, c2, xs, n, R', R2, rfl, T1, T2, true, by rw [decide_eq_true eR], iteT ?_⟩
      have hO5 := hO.up e05
      obtain ⟨dxo, d2, r2, t2, ho, _⟩ := id hO5
      refine ⟨_, rfl, o, dxo, _, rfl, ho, vt_look.2.1, _, rfl, o, c, xs, rs, k, n, R', rfl, hO5, VG, T1, pow_lim (M := 24 - 4 * k) l12 (by omega) (by rcases hk4 with z | z <;> rw [z] <;> decide), fun H6 e6 => ?_⟩
      rw [closed_brk cg.cl]
      exact q H6 (same_trans e05 e6)
end
end K01
/-! _law_steps_right. -/
namespace K01
open PySem PySem.Spec PyProof.Rows L2 KG KS KA KX KIa KFz KTc
abbrev s__law_steps_right : Stmt := top 39
abbrev NSr : List Str := ["_law_by", "_law_many", "_law_rows_here", "_law_steps", "_law_known", "_law_found", "_law_step", "_law_row"]
abbrev szs (ss : List Stp) : KzL := ss.map fun st => (st.v, st.row)
theorem szs_rows (ss : List Stp) : (szs ss).map (·.2) = srows ss := by
  rw [szs, srows, List.map_map]
  rfl
def spSr : Sp := fun vs H Q _ => ∃ (t L q0 : Addr) (kr : KzL) (xs rs : List Str) (k n : Nat) (ss : List Stp), vs = [.ref t, .int (k : Nat), .ref L, .ref q0] ∧ TblV H t xs k rs ∧ VGood xs k rs ∧ H L = some (.lst (refs kr)) ∧ RL H kr ∧ RG xs n kr ∧ n ≤ 3 ∧
  H q0 = some (.tup (srefs ss)) ∧ (∀ st ∈ ss, StpAt H xs rs k n st) ∧ StepsOk (kr.map (·.2)) ss ∧ (kr.map (·.2) ++ srows ss).Nodup ∧ (∀ r ∈ srows ss, r.length = n ∧ ∀ x ∈ r, x ∈ xs) ∧ kr.length + ss.length ≤ 100 ∧
  ∀ (fl : Addr) (H' : Hp), H fl = none → Same H H' → H' fl = some (.lst (refs (szs ss))) → Q (.ref fl) H'
section
variable {P : Program} {w : World} {K : PySem.W.Frag} {mg : Str → Option Value} {base : Heap}
theorem sc_sr : FnScope NSr ["_law_by", "_law_many", "_law_rows_here", "_law_steps"] (defScope s__law_steps_right) := ⟨rfl, rfl, rfl, by decide +kernel, rfl, by decide +kernel, by decide +kernel⟩
theorem ok_sr (B : Bs mg) (f : FnF K mg "_law_steps_right" "_law_steps_right" s__law_steps_right) (fv : FnF K mg "_law_voted" "_law_voted" s__law_voted) : FnG P w K mg base CX0 2 f.a f.d ["_law_by", "_law_many", "_law_rows_here", "_law_steps"] spSr := by
  have GV := ok__law_voted (P := P) (w := w) (base := base) B fv
  have bV : L2.Binds K fv.d ["_law_by", "_law_rows_here"] [] := fv.F.binds fun _ _ _ _ _ _ us hl => match us, hl with | [_, _], _ => rfl
  refine okN f.F sc_sr (fun vs H Q E h => ?_) (fun cdv A outer s H vs Q E hgu hr h => ?_)
  · obtain ⟨t, L, q0, kr, xs, rs, k, n, ss, rfl, _⟩ := h
    rfl
  · obtain ⟨t, L, q0, kr, xs, rs, k, n, ss, rfl, hT, G, hL, hkr, rgr, n3, hq, hss, ok, nd, rws, l100, q⟩ := h
    have hu64 := hr.units
    have hr1 : Room 1 _ := hr.mono (by omega)
    refine ⟨_, (pss_cons
      (ps_asg (pe_tup (pa_cons (pe_callTy call_list_of (by rfl) B.n_list (by decide +kernel) (pa_cons (pv 2) pa_nil)) (pa_cons (pe_lst pa_nil) pa_nil))) (pg_tup (by rfl) (pgs_cons (pg_name (i := 4) sc_sr.nd rfl (Or.inr rfl)) (pgs_cons (pg_name (i := 5) sc_sr.nd rfl (Or.inl rfl)) pgs_nil))))
    (pss_cons
      (ps_if (pt_not (pt_val (pe_callB call_isi (by rfl) B.n_isinstance (by decide +kernel) (pa_cons (pv 3) (pa_cons (pe_bltn (v := .ty "tuple") rfl B.n_tuple (by decide +kernel) rfl) pa_nil)))))
        (pss_one
          (ps_ret pe_non))
        pss_nil)
    (pss_cons
      (ps_for PassesOwn.never rfl (pi_tup (pv 3)) (pg_name (i := 6) sc_sr.nd rfl (Or.inl rfl))
        (pss_cons
          (ps_if (PW.pt (pw_or (pt_not (pt_val (pe_callB call_isi (by rfl) B.n_isinstance (by decide +kernel) (pa_cons (pv 6) (pa_cons (pe_bltn (v := .ty "tuple") rfl B.n_tuple (by decide +kernel) rfl) pa_nil))))) (pw_or (pt_cmpR op_ne (pe_callB call_len (by rfl) B.n_len (by decide +kernel) (pa_cons (pv 6) pa_nil)) pe_int (nomark _)) (pw_or (pt_not (pt_val (pe_callB call_isi (by rfl) B.n_isinstance (by decide +kernel) (pa_cons (pe_ix ix_tup (pv 6) pe_int (fun _ _ => rfl)) (pa_cons (pe_bltn (v := .ty "tuple") rfl B.n_tuple (by decide +kernel) rfl) pa_nil))))) (pw_or1 (pt_cmpR op_ne (pe_callB call_len (by rfl) B.n_len (by decide +kernel) (pa_cons (pe_ix ix_tup (pv 6) pe_int (fun _ _ => rfl)) pa_nil)) (pv 1) (nomark _)))))))
            (pss_one
              (ps_ret pe_non))
            pss_nil)
        (pss_cons
          (ps_if (PW.pt (pw_or (pt_cmpR (op_neL0 hu64) (pe_lc (own := [("_law_row", 7)]) (g := gName 7) (by rfl) sc_sr.nd (pi_tup (pe_ix ix_tup (pv 6) pe_int (fun _ _ => rfl))) (blkOk_by (own := [("_law_row", 7)]) (N := NSr) (sc := defScope s__law_steps_right) (by decide +kernel)) (fun _ _ _ _ _ => (pg_name (i := 7) sc_sr.nd rfl (Or.inl rfl)))
              (fun _ _ _ _ _ => (pts_one (pt_cmpR (show OpR _ (compareOp .NotIn) (rOutRowsL K) from op_outRowsL hu64) (pv 7) (pv 4) (by rfl)))) (fun _ _ _ _ _ => (pv 7))) (pe_lst pa_nil) (nomark _)) (pw_or1 (pt_cmpR (op_inRowsL hu64) (pe_ix ix_tup (pv 6) pe_int (fun _ _ => rfl)) (pv 4) (by rfl)))))
            (pss_one
              (ps_ret pe_non))
            pss_nil)
        (pss_cons
          (ps_if (pt_cmpR op_ne (pe_callB (call_repr hgu hu64) (by rfl) B.n_repr (by decide +kernel) (pa_cons (pe_ix ix_tup (pv 6) pe_int (fun _ _ => rfl)) pa_nil)) (pe_callB (call_repr hgu hu64) (by rfl) B.n_repr (by decide +kernel) (pa_cons (pe_call GV hr1 rfl fv.g fv.F.kp bV .nil pass0 (pa_cons (pv 0) (pa_cons (pe_ix ix_tup (pv 6) pe_int (fun _ _ => rfl)) pa_nil))) pa_nil)) (nomark _))
            (pss_one
              (ps_ret pe_non))
            pss_nil)
        (pss_cons
          (ps_expr (pe_bm PySem.F.plainAttrs_list PySem.F.slot_list_append PySem.F.type_list_append mt_append (pv 4) (pa_cons (pe_ix ix_tup (pv 6) pe_int (fun _ _ => rfl)) pa_nil)))
        (pss_one
          (ps_expr (pe_bm PySem.F.plainAttrs_list PySem.F.slot_list_append PySem.F.type_list_append mt_append (pv 5) (pa_cons (pe_ix ix_tup (pv 6) pe_int (fun _ _ => rfl)) pa_nil)))))))))
    (pss_one
      (ps_ret (pv 5)))))), ?_⟩
    refine ⟨_, rfl, L, _, rfl, .inl (SqL.of hL), fun Kn hKn => ⟨by show 0 ≤ sizeLine; exact Nat.zero_le _, fun Fd hFd => ⟨by show 2 ≤ sizeLine; decide, fun T0 hT0 => ⟨T0, _, rfl, SqT.of upd_same, rfl, _, _, rfl, _, _, rfl, rfl, ?_⟩⟩⟩⟩
    have e1 : Same H (upd H Kn (.lst (refs kr))) := same_new hKn
    have e2 := same_new (o := .lst []) hFd
    have e3 := same_new (o := .tup [V.ref Kn, V.ref Fd]) hT0
    have nKF : Kn ≠ Fd := fun z => by rw [z, ← z, upd_same] at hFd; cases hFd
    have nFH : H Fd = none := e1.free hFd
    have e03 := same_trans e1 (same_trans e2 e3)
    have hKn3 : upd (upd (upd H Kn (.lst (refs kr))) Fd (.lst [])) T0 (.tup [V.ref Kn, V.ref Fd]) Kn = some (.lst (refs (kr ++ szs (ss.take 0)))) := by
      rw [List.take_zero, szs, List.map_nil, List.append_nil]
      exact e3 _ _ (e2 _ _ upd_same)
    have hFd3 : upd (upd (upd H Kn (.lst (refs kr))) Fd (.lst [])) T0 (.tup [V.ref Kn, V.ref Fd]) Fd = some (.lst (refs (szs (ss.take 0)))) := e3 _ _ upd_same
    dsimp only
    generalize upd (upd (upd H Kn (.lst (refs kr))) Fd (.lst [])) T0 (.tup [V.ref Kn, V.ref Fd]) = H3 at e03 hKn3 hFd3 ⊢
    refine ⟨_, rfl, _, _, _, _, true, rfl, .ty "tuple", tyT (SqT.of (e03 _ _ hq)), kit_ty (by decide +kernel), true, rfl, iteF ?_⟩
    refine ⟨_, rfl, q0, rfl, ⟨_, SqT.of (e03 _ _ hq)⟩, ?_⟩
    refine for_tup (K := K) (a := q0) (xs := srefs ss) (fun i σ H' => ∃ v6 : Option V, σ = [some (.ref t), some (.int (k : Nat)), some (.ref L), some (.ref q0), some (.ref Kn), some (.ref Fd), v6, none] ∧ Same H H' ∧ H' Kn = some (.lst (refs (kr ++ szs (ss.take i)))) ∧ H' Fd = some (.lst (refs (szs (ss.take i)))))
      ⟨none, rfl, e03, hKn3, hFd3⟩ (fun i σ H' _ ⟨_, _, e, _⟩ => SqT.of (e _ _ hq)) ?_ ?_
    · rintro i y σ H4 hy ⟨v6, rfl, e4, hK4, hF4⟩
      rw [List.getElem?_map] at hy
      cases hi : ss[i]? with
      | none =>
        rw [hi] at hy
        cases hy
      | some st =>
      rw [hi] at hy
      obtain rfl : V.ref st.T = y := Option.some.inj hy
      have il : i < ss.length := (List.getElem?_eq_some_iff.mp hi).1
      have sa := (hss st (List.mem_of_getElem? hi)).up e4
      have lz : (refs st.ps).length = k := by rw [List.length_map]; exact sa.len
      have rk : (kr ++ szs (ss.take i)).map (·.2) = kr.map (·.2) ++ srows (ss.take i) := by rw [List.map_append, szs_rows]
      have tkr : ∀ st2 ∈ ss.take i, StpAt H4 xs rs k n st2 := fun st2 h2 => (hss st2 (List.mem_of_mem_take h2)).up e4
      have rlK : RL H4 (kr ++ szs (ss.take i)) := fun z hz => by
        rcases List.mem_append.mp hz with h | h
        · exact e4 _ _ (hkr z h)
        · obtain ⟨s2, h2, rfl⟩ := List.mem_map.mp h
          exact (tkr s2 h2).rw_
      have psIn : ∀ z ∈ st.ps, z.2 ∈ (kr ++ szs (ss.take i)).map (·.2) := fun z hz => by
        rw [rk]
        exact ok i st hi z hz
      have good : ∀ r ∈ (kr ++ szs (ss.take i)).map (·.2), r.length = n ∧ ∀ x ∈ r, x ∈ xs := fun r hr => by
        rw [rk] at hr
        rcases List.mem_append.mp hr with h | h
        · exact rgr.rows r h
        · obtain ⟨s2, h2, rfl⟩ := List.mem_map.mp h
          exact rws _ (List.mem_map.mpr ⟨s2, List.mem_of_mem_take h2, rfl⟩)
      have rgp : RG xs n st.ps := fun z hz => good _ (psIn z hz)
      have out : st.row ∉ (kr ++ szs (ss.take i)).map (·.2) := fun m => by
        rw [rk] at m
        have nd3 : (kr.map (·.2) ++ srows (ss.take (i + 1))).Nodup := nd.sublist (List.Sublist.append (List.Sublist.refl _) ((List.take_sublist _ _).map _))
        rw [take_next hi, srows, List.map_append, ← List.append_assoc, List.nodup_append] at nd3
        exact nd3.2.2 _ m st.row (by simp) rfl
      -- a pair of a row and many rows
      refine ⟨_, rfl, _, _, _, _, true, rfl, .ty "tuple", tyT (SqT.of sa.pr), kit_ty (by decide +kernel), true, rfl, iteF ?_⟩
      refine ⟨_, rfl, .ref st.T, 2, rfl, .inr ⟨_, SqT.of sa.pr, rfl⟩, rfl, _, rfl, iteF ?_⟩
      refine ⟨_, rfl, st.T, _, 1, .ref st.s, rfl, rfl, SqT.of sa.pr, at_of (j := 1) rfl rfl, _, _, _, _, true, rfl, .ty "tuple", tyT (SqT.of sa.ar), kit_ty (by decide +kernel), true, rfl, iteF ?_⟩
      refine ⟨_, rfl, st.T, _, 1, .ref st.s, rfl, rfl, SqT.of sa.pr, at_of (j := 1) rfl rfl, .ref st.s, k, rfl, .inr ⟨_, SqT.of sa.ar, lz.symm⟩, _, rfl, rfl, _, rfl, ?_⟩
      rw [decide_eq_true rfl]
      refine iteF ?_
      -- known rows
      refine ⟨_, rfl, st.T, _, 1, .ref st.s, rfl, rfl, SqT.of sa.pr, at_of (j := 1) rfl rfl, st.s, rfl, ⟨_, SqT.of sa.ar⟩, fun D hD => ?_⟩
      refine lc_tup (K := K) (xs := refs st.ps) (fun j H' => Same H4 H' ∧ H' D = some (.lst [])) ⟨same_new hD, upd_same⟩ (fun j H' _ z => SqT.of (z.1 _ _ sa.ar)) ?_ ?_
      · rintro j y H5 hy ⟨e5, hD5⟩
        rw [List.getElem?_map] at hy
        cases hj : st.ps[j]? with
        | none =>
          rw [hj] at hy
          cases hy
        | some z =>
        rw [hj] at hy
        obtain rfl : V.ref z.1 = y := Option.some.inj hy
        have mz := List.mem_of_getElem? hj
        refine ⟨rfl, _, rfl, _, rfl, z.2, (kr ++ szs (ss.take i)).map (·.2), .tup (SqT.of (e5 _ _ (sa.rl z mz))) (texts_dp _), .lst (SqL.of (e5 _ _ hK4)) (rows_dp (rlK.up e5).rows), _, rfl, ?_⟩
        rw [decide_eq_true (psIn z mz)]
        exact iteF ⟨e5, hD5⟩
      rintro H5 ⟨e5, hD5⟩
      refine ⟨by show 0 ≤ sizeLine; exact Nat.zero_le _, fun l hl => ⟨D, l, [], rfl, rfl, SqL.of ((same_new hl) _ _ hD5), SqL.of upd_same, _, rfl, iteF ?_⟩⟩
      have e6 := same_trans e5 (same_new (o := .lst []) hl)
      generalize upd H5 l (.lst []) = H6 at e6 ⊢
      have sa6 := sa.up e6
      refine ⟨_, rfl, st.T, _, 0, .ref st.v, rfl, rfl, SqT.of sa6.pr, at_of (j := 0) rfl rfl, _, rfl, st.row, (kr ++ szs (ss.take i)).map (·.2), .tup (SqT.of sa6.rw_) (texts_dp _), .lst (SqL.of (e6 _ _ hK4)) (rows_dp (rlK.up e6).rows), _, rfl, ?_⟩
      rw [decide_eq_false out]
      refine iteF ?_
      -- repr
      have lkz : (st.ps.map (·.2)).length = k := by rw [List.length_map]; exact sa.len
      have tx : ∀ x ∈ voteS xs k rs n (st.ps.map (·.2)), TxOk x := fun x hx => tx_name (G.ok x (voteS_sub G lkz rgp.rows x hx))
      have sv : ∀ {H' : Hp} {a : Addr}, H' a = some (.tup ((voteS xs k rs n (st.ps.map (·.2))).map V.str)) → Shw H' (.ref a) (.tuple ((voteS xs k rs n (st.ps.map (·.2))).map PyData.str)) 1 8000 := fun h => (Shws.tup h (shws_txs tx)).up (fun _ _ e => e) (by omega) (by rw [voteS_len]; omega)
      have hv6 := sa6.rw_
      rw [sa6.vt] at hv6
      have s6 := sv hv6
      refine ⟨_, rfl, st.T, _, 0, .ref st.v, rfl, rfl, SqT.of sa6.pr, at_of (j := 0) rfl rfl, fun _ => True, .ref st.v, _, rfl, s6.dq, s6.sh, Nat.le_trans s6.dp (by decide), big_fit (Nat.le_trans s6.ct (by decide)), ?_⟩
      have h25 : H6 st.s = some (.tup ((st.ps.map (·.1)).map V.ref)) := by rw [List.map_map]; exact sa6.ar
      refine ⟨_, rfl, _, rfl, st.T, _, 1, .ref st.s, rfl, rfl, SqT.of sa6.pr, at_of (j := 1) rfl rfl, t, st.s, st.ps.map (·.1), xs, rs, k, n, st.ps.map (·.2), rfl, hT.up (same_trans e4 e6), G, SqT.of h25, sa6.rl.ls, by rw [List.length_map]; exact sa.len, rgp.rows, by omega, fun v H7 nv e7 hv => ?_⟩
      have s7 := sv hv
      refine ⟨fun _ => True, .ref v, _, rfl, s7.dq, s7.sh, Nat.le_trans s7.dp (by decide), big_fit (Nat.le_trans s7.ct (by decide)), rfl, _, rfl, ?_⟩
      rw [decide_eq_true rfl]
      refine iteF ?_
      have e47 := same_trans e6 e7
      have sa7 := sa.up e47
      have hK7 := e47 _ _ hK4
      have hF7 := e47 _ _ hF4
      have lnk : (refs (kr ++ szs (ss.take i))).length < sizeLine := by
        rw [List.length_map, List.length_append, List.length_map, List.length_take, sizeLine_eq]
        omega
      refine ⟨_, rfl, Or.inl ⟨rfl, _, SqL.of hK7⟩, _, rfl, st.T, _, 0, .ref st.v, rfl, rfl, SqT.of sa7.pr, at_of (j := 0) rfl rfl, Kn, _, _, rfl, rfl, hK7, lnk, ?_⟩
      have hF8 : upd H7 Kn (.lst (refs (kr ++ szs (ss.take i)) ++ [V.ref st.v])) Fd = some (.lst (refs (szs (ss.take i)))) := by
        rw [upd_ne nKF.symm]
        exact hF7
      have pr8 : upd H7 Kn (.lst (refs (kr ++ szs (ss.take i)) ++ [V.ref st.v])) st.T = some (.tup [V.ref st.v, V.ref st.s]) := by
        rw [upd_ne (ne_of sa7.pr hK7 (by intro z; cases z))]
        exact sa7.pr
      refine ⟨_, rfl, Or.inl ⟨rfl, _, SqL.of hF8⟩, _, rfl, st.T, _, 0, .ref st.v, rfl, rfl, SqT.of pr8, at_of (j := 0) rfl rfl, Fd, _, _, rfl, rfl, hF8, by rw [List.length_map, List.length_map, List.length_take, sizeLine_eq]; omega, _, rfl, fun b u h => ?_, ?_, ?_⟩
      · rw [upd_ne (ne_of_none h nFH), upd_ne (ne_of_none h hKn)]
        exact e47 _ _ (e4 _ _ h)
      · rw [upd_ne nKF, upd_same, take_next hi, szs, szs, List.map_append, ← List.append_assoc, refs, refs, List.map_append (l₁ := kr ++ _)]
        rfl
      · rw [upd_same, take_next hi, szs, szs, List.map_append, refs, refs, List.map_append]
        rfl
    · rintro σ H4 ⟨v6, rfl, e4, hK4, hF4⟩
      rw [List.length_map, List.take_length] at hF4
      exact ⟨_, rfl, q Fd H4 nFH e4 hF4⟩
end
end K01
/-! _law_rows. -/
namespace K01
open PySem PySem.Spec PyProof.Rows L2 KG KS KA KX KIa KFz KTc
abbrev s__law_rows : Stmt := top 38
abbrev NRo : List Str := ["_law_deck_here", "_law_base", "_law_by", "_law_many", "_law_way", "_law_width", "_law_every", "_law_drawn_here", "_law_gone", "_law_rows_here", "_law_k", "_law_row"]
structure By (mg : Str → Option Value) : Prop extends Bz mg where
  n_min : mg "min" = none
def spRo : Sp := fun vs H Q _ => ∃ (d l b t : Addr) (n0 k : Nat) (xs rs : List Str), vs = [.ref d, .ref b, .ref t, .int (k : Nat)] ∧ DeckAt H d l n0 ∧ n0 + 200 < 1000000000 ∧ H b = some (.tup (xs.map V.str)) ∧ TblV H t xs k rs ∧ VGood xs k rs ∧
  ∀ (T L : Addr) (kz : KzL) (n : Nat) (H' : Hp), DeckAt H' d l (n0 + 100) → Off d l H H' → H' T = some (.tup [V.int (n : Nat), V.ref L]) → H' L = some (.lst (refs kz)) → RL H' kz → RG xs n kz → 1 ≤ n → n ≤ 3 → kz.length ≤ 8 → (kz.map (·.2)).Nodup → L ≠ l → Q (.ref T) H'
/-- the law's own defs -/
structure RoF (K : PySem.W.Frag) (mg : Str → Option Value) where
  draw : FnF K mg "_law_draw" "_law_draw" s__law_draw
  tu : FnF K mg "_law_tuples" "_law_tuples" s__law_tuples
  vo : FnF K mg "_law_voted" "_law_voted" s__law_voted
  cl : FnF K mg "_law_closed" "_law_closed" s__law_closed
section
variable {P : Program} {w : World} {K : PySem.W.Frag} {mg : Str → Option Value} {base : Heap}
theorem sc__law_rows : FnScope NRo ["_law_deck_here", "_law_base", "_law_by", "_law_many"] (defScope s__law_rows) := ⟨rfl, rfl, rfl, by decide +kernel, rfl, by decide +kernel, by decide +kernel⟩
theorem ok__law_rows (B : By mg) (M : RoF K mg) (f : FnF K mg "_law_rows" "_law_rows" s__law_rows) : FnOk P w K mg base CX0 3 f.a f.d ["_law_deck_here", "_law_base", "_law_by", "_law_many"] spRo := by
  have GD := ok__law_draw (P := P) (w := w) (base := base) B.toBi M.draw
  have bD : L2.Binds K M.draw.d ["_law_deck_here", "_law_many"] [] := M.draw.F.binds fun _ _ _ _ _ _ us hl => match us, hl with | [_, _], _ => rfl
  have GT := ok__law_tuples (P := P) (w := w) (base := base) false B.toBs M.tu
  have bT : L2.Binds K M.tu.d ["_law_items", "_law_many"] [] := M.tu.F.binds fun _ _ _ _ _ _ us hl => match us, hl with | [_, _], _ => rfl
  have GC := ok__law_closed (P := P) (w := w) (base := base) B.toBs M.cl M.tu M.vo
  have bC : L2.Binds K M.cl.d ["_law_by", "_law_rows_here", "_law_many"] [] := M.cl.F.binds fun _ _ _ _ _ _ us hl => match us, hl with | [_, _, _], _ => rfl
  refine f.F.ok sc__law_rows (fun vs H Q E h => ?_) (fun cdv A outer s H vs Q E hr h => ?_)
  · obtain ⟨d, l, b, t, n0, k, xs, rs, rfl, _⟩ := h
    rfl
  · obtain ⟨d, l, b, t, n0, k, xs, rs, rfl, D, hn, hb, hT, G, q⟩ := h
    have hu64 := hr.units
    have hr1 : Room 1 _ := hr.mono (by omega)
    have hr2 : Room 2 _ := hr.mono (by omega)
    refine ⟨_, (pss_cons
      (ps_par (i := 4) (j := 5) (by rfl) sc__law_rows.nd rfl rfl (by decide) rfl rfl (pa_cons (pe_call GD hr1 rfl M.draw.g M.draw.F.kp bD .nil pass0 (pa_cons (pv 0) (pa_cons pe_int pa_nil))) (pa_cons (pe_op op_add pe_int (pe_call GD hr1 rfl M.draw.g M.draw.F.kp bD .nil pass0 (pa_cons (pv 0) (pa_cons pe_int pa_nil)))) pa_nil)) (by rfl))
    (pss_cons
      (ps_set (i := 6) sc__law_rows.nd rfl (Or.inr rfl) (pe_call GT hr1 rfl M.tu.g M.tu.F.kp bT .nil pass0 (pa_cons (pv 1) (pa_cons (pv 5) pa_nil))))
    (pss_cons
      (ps_setLc (i := 7) (own := [("_law_k", 10)]) (g := gName 10) (by rfl) sc__law_rows.nd rfl rfl (sw_true rfl rfl rfl (by decide +kernel)) (pi_range1 rfl B.n_range (pa_cons (pe_call GD hr1 rfl M.draw.g M.draw.F.kp bD .nil pass0 (pa_cons (pv 0) (pa_cons pe_int pa_nil))) pa_nil)) (blkOk_by (own := [("_law_k", 10)]) (N := NRo) (sc := defScope s__law_rows) (by decide +kernel)) (fun _ _ _ _ _ => (pg_name (i := 10) sc__law_rows.nd rfl (Or.inl rfl))) (fun _ _ _ _ _ => pts_nil)
        (fun _ _ _ _ _ => (pe_ix (show IxR _ (rIxL K) from ix_list) (pv 6) (pe_call GD hr1 (by rfl) M.draw.g M.draw.F.kp bD .nil pass0 (pa_cons (pv 0) (pa_cons (pe_callB (show CallR _ (.builtin "len") (rLen K) from call_len) (by rfl) B.n_len (by decide +kernel) (pa_cons (pv 6) pa_nil)) pa_nil))) (fun _ _ => rfl))))
    (pss_cons
      (ps_if (PW.pt (pw_and (pt_cmpR op_eq (pv 4) pe_int (nomark _)) (pw_and1 (pt_cmpR op_lt (pe_callB call_len (by rfl) B.n_len (by decide +kernel) (pa_cons (pv 6) pa_nil)) pe_int (nomark _)))))
        (pss_cons
          (ps_set (i := 8) sc__law_rows.nd rfl (Or.inr rfl) (pe_lc (own := [("_law_k", 10)]) (g := gName 10) (by rfl) sc__law_rows.nd (pi_range1 rfl B.n_range (pa_cons (pe_callB (call_min2 rfl) (by rfl) B.n_min (by decide +kernel) (pa_cons (pe_callB call_len (by rfl) B.n_len (by decide +kernel) (pa_cons (pv 6) pa_nil)) (pa_cons (pe_op op_add pe_int (pe_call GD hr1 rfl M.draw.g M.draw.F.kp bD .nil pass0 (pa_cons (pv 0) (pa_cons pe_int pa_nil)))) pa_nil))) pa_nil)) (blkOk_by (own := [("_law_k", 10)]) (N := NRo) (sc := defScope s__law_rows) (by decide +kernel)) (fun _ _ _ _ _ => (pg_name (i := 10) sc__law_rows.nd rfl (Or.inl rfl))) (fun _ _ _ _ _ => pts_nil)
            (fun _ _ _ _ _ => (show PE _ _ (tBM K "list" rPopAt (tVar 6) _) from pe_bm PySem.F.plainAttrs_list PySem.F.slot_list_pop PySem.F.type_list_pop mt_popAt (pv 6) (pa_cons (pe_call GD hr1 (by rfl) M.draw.g M.draw.F.kp bD .nil pass0 (pa_cons (pv 0) (pa_cons (pe_callB (show CallR _ (.builtin "len") (rLen K) from call_len) (by rfl) B.n_len (by decide +kernel) (pa_cons (pv 6) pa_nil)) pa_nil))) pa_nil)))))
        (pss_one
          (ps_ret (pe_tup (pa_cons (pv 5) (pa_cons (pe_slice sl_list (pe_lc (own := [("_law_row", 11)]) (g := gName 11) (by rfl) sc__law_rows.nd (pi_list (pv 6)) (blkOk_by (own := [("_law_row", 11)]) (N := NRo) (sc := defScope s__law_rows) (by decide +kernel)) (fun _ _ _ _ _ => (pg_name (i := 11) sc__law_rows.nd rfl (Or.inl rfl)))
            (fun _ _ _ _ _ => (pts_one (pt_cmpR (show OpR _ (compareOp .NotIn) (rOutRowsL K) from op_outRowsL hu64) (pv 11) (pv 8) (by rfl)))) (fun _ _ _ _ _ => (pv 11))) po_none (po_some pe_int)) pa_nil))))))
        pss_nil)
    (pss_cons
      (ps_set (i := 9) sc__law_rows.nd rfl (Or.inl rfl) (pe_callB (cr_sortSet rfl hu64) (by rfl) B.n_sorted (by decide +kernel) (pa_cons (pe_callTy (cr_setOfW rfl hu64) (by rfl) B.n_set (by decide +kernel) (pa_cons (pv 7) pa_nil)) pa_nil)))
    (pss_cons
      (ps_if (PW.pt (pw_and (pt_cmpR op_eq (pv 4) pe_int (nomark _)) (pw_and (pt_cmpR (op_neL0 hu64) (pv 9) (pe_lst pa_nil) (nomark _)) (pw_and1 (pt_cmpR op_lt (pe_callB call_len (by rfl) B.n_len (by decide +kernel) (pa_cons (pe_call GC hr2 rfl M.cl.g M.cl.F.kp bC .nil pass0 (pa_cons (pv 2) (pa_cons (pv 9) (pa_cons (pv 3) pa_nil)))) pa_nil)) pe_int (nomark _))))))
        (pss_one
          (ps_set (i := 9) sc__law_rows.nd rfl (Or.inl rfl) (pe_call GC hr2 rfl M.cl.g M.cl.F.kp bC .nil pass0 (pa_cons (pv 2) (pa_cons (pv 9) (pa_cons (pv 3) pa_nil))))))
        pss_nil)
    (pss_one
      (ps_ret (pe_tup (pa_cons (pv 5) (pa_cons (pv 9) pa_nil))))))))))), ?_⟩
    have toN : ∀ m : Nat, ((m : Nat) : Int).toNat = m := fun m => Int.toNat_natCast m
    have ndx : xs.Nodup := G.asc.imp fun {a b} h e => by rw [e, ltT_irr] at h; cases h
    have hk4 := G.hk
    -- way, width
    refine ⟨_, rfl, d, l, 6, n0, rfl, D, by decide, by decide, by omega, fun way H1 w0 w10 D1 o1 => ?_⟩
    refine ⟨_, rfl, d, l, 3, n0 + 1, rfl, D1, by decide, by decide, by omega, fun wd H2 a0 a3 D2 o2 => ⟨_, _, rfl, rfl, _, _, rfl, ?_⟩⟩
    obtain ⟨n, ewd, n1, n3⟩ : ∃ n : Nat, 1 + wd = (n : Nat) ∧ 1 ≤ n ∧ n ≤ 3 := ⟨(1 + wd).toNat, by omega, by omega, by omega⟩
    dsimp only
    rw [ewd]
    have o3 := o1.trans o2
    clear ewd a0 a3 D1 o1
    have hb3 := tup_off hb D o3
    have d27 : (pw xs n).length + 1 < 64 := by have := pts27 G.l3 n3; omega
    have inD : ∀ r : List Str, (r.length = n ∧ ∀ x ∈ r, x ∈ xs) → r ∈ pw xs n := fun r h => mem_pw.mpr h
    -- every
    refine ⟨_, rfl, _, rfl, b, true, xs.map V.str, n, rfl, SqT.of hb3, (fun _ z => by rw [List.map_eq_nil_iff] at z; have := G.l1; rw [z] at this; exact absurd this (by decide)), n1, by omega, pow_lim (M := 3) (by rw [List.length_map]; exact G.l3) (by decide) (Nat.le_trans (Nat.pow_le_pow_right (by decide) n3) (by decide)), fun l0 rs0 H4 nl0 e4 hl0 hW => ?_⟩
    obtain ⟨kz, ek, e2k, hkz, nkz⟩ := rowsW_kz hW
    subst ek
    clear hW
    have o4 := o3.trans (Off.of e4)
    have D4 := D2.same e4
    have rgz : RG xs n kz := RG.of fun r hr => mem_pw.mp (by rw [← e2k]; exact hr)
    have ndz : (kz.map (·.2)).Nodup := by
      rw [e2k, pw_pts]
      exact pts_nodup ndx n
    have lz27 : kz.length ≤ 27 := by
      have z := congrArg List.length e2k
      rw [List.length_map] at z
      rw [z]
      exact pts27 G.l3 n3
    have lz1 : 1 ≤ kz.length := by
      have z := congrArg List.length e2k
      rw [List.length_map, pw_len] at z
      rw [z]
      exact Nat.one_le_pow _ _ G.l1
    obtain ⟨nl0d, nl0l⟩ := neD D2 nl0
    have nl0H : H l0 = none := D2.back o3 nl0
    have hb4 := tup_off hb D o4
    clear hb3 e4 D2 o3 o2
    -- drawn
    refine ⟨_, rfl, d, l, 6, n0 + 2, rfl, D4, by omega, by omega, by omega, fun m H5 m0 m1 D5 o5 => ⟨m, rfl, by omega, by omega, fun g hg => ?_⟩⟩
    have hl5 := o5 l0 _ hl0 nl0d nl0l
    have hkz5 := hkz.off D4 o5
    obtain ⟨ngd, ngl⟩ := neD D5 hg
    have o05 := o4.trans o5
    have ngH : H g = none := D5.back o05 hg
    have ngl0 : g ≠ l0 := fun z => (by rw [z, hl5] at hg; cases hg)
    have hb5 := tup_off hb4 D4 o5
    refine lc_range (lo := 0) (n := m.toNat) (fun i H' => ∃ got : KzL, DeckAt H' d l (n0 + 3 + i) ∧ Off d l H5 H' ∧ H' g = some (.lst (refs got)) ∧ got.length = i ∧ ∀ p ∈ got, p ∈ kz) ⟨[], (D5.same (same_new hg)).up (by omega), Off.of (same_new hg), upd_same, rfl, fun _ z => nomatch z⟩ ?_ ?_
    · rintro i H6 hi ⟨got, D6, o6, hg6, lg, sub⟩
      have hl6 := o6 l0 _ hl5 nl0d nl0l
      refine ⟨rfl, _, rfl, _, rfl, _, rfl, .ref l0, kz.length, rfl, .inl ⟨_, SqL.of hl6, by rw [List.length_map]⟩, d, l, (kz.length : Int), n0 + 3 + i, rfl, D6, by omega, by omega, by omega, fun j H7 j0 j1 D7 o7 => ?_⟩
      have jl : j.toNat < kz.length := by omega
      have hx : (refs kz)[j.toNat]? = some (V.ref kz[j.toNat].1) := by rw [List.getElem?_map, List.getElem?_eq_getElem jl]; rfl
      have hl7 := o7 l0 _ hl6 nl0d nl0l
      have hg7 := o7 g _ hg6 ngd ngl
      refine ⟨l0, refs kz, j, _, rfl, rfl, SqL.of hl7, at_of (j := j.toNat) (by omega) hx, _, hg7, by rw [List.length_map, sizeLine_eq]; omega, got ++ [kz[j.toNat]], deckPut (D7.up (by omega)) ngd ngl, fun c u hc h1 h2 => ?_, by rw [upd_same, refs, refs, List.map_append]; rfl, by rw [List.length_append, lg]; rfl, fun p hp => ?_⟩
      · rw [upd_ne (ne_of_none hc hg)]
        exact o7 c u (o6 c u hc h1 h2) h1 h2
      · rcases List.mem_append.mp hp with z | z
        · exact sub p z
        · rw [List.mem_singleton.mp z]
          exact List.getElem_mem _
    rintro H6 ⟨got, D6, o6, hg6, lg, sub⟩
    have lgm : got.length ≤ 5 := by omega
    have D6 := D6.up (show n0 + 3 + m.toNat ≤ n0 + 20 by omega)
    have o06 := o05.trans o6
    have hl6 := o6 l0 _ hl5 nl0d nl0l
    have hkz6 := hkz5.off D5 o6
    have hb6 := tup_off hb5 D5 o6
    have hT6 := hT.offD D o06
    have hgk6 : RL H6 got := hkz6.sub sub
    have rgg : RG xs n got := rgz.sub sub
    clear hkz5 hl5 hb5 hkz hl0 hb4 D5 o5 o6 o05 D4 o4 lg m0 m1 nkz
    -- the end
    have fin : ∀ {H7 : Hp} {L : Addr} {kq : KzL}, DeckAt H7 d l (n0 + 50) → Off d l H H7 → L ≠ l → H7 L = some (.lst (refs kq)) → RL H7 kq → RG xs n kq → kq.length ≤ 8 → (kq.map (·.2)).Nodup → ∀ T, H7 T = none → Q (.ref T) (upd H7 T (.tup [V.int (n : Nat), V.ref L])) := fun {H7 L kq} D7 o7 nL hL hk hg lk nd T hT => by
      have e : Same H7 (upd H7 T (.tup [V.int (n : Nat), V.ref L])) := same_new hT
      exact q T L kq n _ ((D7.same e).up (by omega)) (o7.trans (Off.of e)) upd_same (e _ _ hL) (hk.up e) hg n1 n3 lk nd nL
    have D6' := D6.up (show n0 + 20 ≤ n0 + 50 by omega)
    -- way == 0 and len(every) < 10
    refine ⟨_, rfl, rfl, _, rfl, ?_⟩
    refine joinT (fun _ H' => H' = H6) (fun _ => rfl) (fun _ F' q' => ?_) ?_
    · exact ⟨_, rfl, .ref l0, kz.length, rfl, .inl ⟨_, SqL.of hl6, by rw [List.length_map]⟩, _, _, rfl, rfl, _, rfl, q' _ _ rfl⟩
    rintro b0 H6' rfl
    refine ite2 (fun _ => ?_) fun _ => ?_
    · -- gone
      refine ⟨_, rfl, .ref l0, kz.length, rfl, .inl ⟨_, SqL.of hl6, by rw [List.length_map]⟩, _, rfl, d, l, 2, n0 + 20, rfl, D6, by decide, by decide, by omega, fun u H7 u0 u3 D7 o7 => ⟨_, _, rfl, rfl, _, _, rfl, ?_⟩⟩
      obtain ⟨m, em, mle⟩ : ∃ m : Nat, (if 1 + u < (kz.length : Int) then 1 + u else (kz.length : Int)) = (m : Nat) ∧ m ≤ kz.length := by
        by_cases c : 1 + u < (kz.length : Int)
        · exact ⟨(1 + u).toNat, by rw [if_pos c]; omega, by omega⟩
        · exact ⟨kz.length, by rw [if_neg c], Nat.le_refl _⟩
      dsimp only
      rw [em]
      refine ⟨_, rfl, by omega, by omega, fun gn hgn => ?_⟩
      have hl7 := o7 l0 _ hl6 nl0d nl0l
      have hkz7 := hkz6.off D6 o7
      obtain ⟨ngd, ngl⟩ := neD D7 hgn
      have o07 := o06.trans o7
      have ngH : H gn = none := D7.back o07 hgn
      have ngl0 : gn ≠ l0 := fun z => (by rw [z, hl7] at hgn; cases hgn)
      refine lc_range (lo := 0) (n := ((m : Nat) : Int).toNat) (fun i H' => ∃ left go : KzL, DeckAt H' d l (n0 + 21 + i) ∧ (∀ c o, H7 c = some o → c ≠ d → c ≠ l → c ≠ l0 → H' c = some o) ∧ H' l0 = some (.lst (refs left)) ∧ H' gn = some (.lst (refs go)) ∧ go.length = i ∧ (left ++ go).Perm kz)
        ⟨kz, [], (D7.same (same_new hgn)).up (by omega), (fun c o h _ _ _ => (same_new hgn) c o h), (same_new hgn) _ _ hl7, upd_same, rfl, by rw [List.append_nil]⟩ ?_ ?_
      · rintro i H8 hi ⟨left, go, D8, k8, hl8, hg8, lg, pm⟩
        rw [toN] at hi
        have pl := pm.length_eq
        rw [List.length_append] at pl
        refine ⟨rfl, _, rfl, Or.inl ⟨rfl, _, SqL.of hl8⟩, _, rfl, _, rfl, .ref l0, left.length, rfl, .inl ⟨_, SqL.of hl8, by rw [List.length_map]⟩, d, l, (left.length : Int), n0 + 21 + i, rfl, D8, by omega, by omega, by omega, fun j H9 j0 j1 D9 o9 => ?_⟩
        have jl : j.toNat < left.length := by omega
        have hx : (refs left)[j.toNat]? = some (V.ref left[j.toNat].1) := by rw [List.getElem?_map, List.getElem?_eq_getElem jl]; rfl
        have hl9 := o9 l0 _ hl8 nl0d nl0l
        have hg9 := o9 gn _ hg8 ngd ngl
        refine ⟨l0, refs left, j, j.toNat, _, rfl, rfl, hl9, by omega, by omega, ?_, hx, refs go, by rw [upd_ne ngl0]; exact hg9, by rw [List.length_map, sizeLine_eq]; omega, left.eraseIdx j.toNat, go ++ [left[j.toNat]], deckPut (deckPut (D9.up (by omega)) nl0d nl0l) ngd ngl, fun c o h h1 h2 h3 => ?_, ?_, ?_, by rw [List.length_append, lg]; rfl, (erase_perm jl).trans pm⟩
        · unfold seqIndex?
          have ng : ¬ j < 0 := by omega
          rw [List.length_map]
          simp [ng, j0, j1]
        · rw [upd_ne (ne_of_none h hgn), upd_ne h3]
          exact o9 c o (k8 c o h h1 h2 h3) h1 h2
        · rw [upd_ne ngl0.symm, upd_same, erase_map]
        · rw [upd_same, refs, refs, List.map_append]
          rfl
      rintro H8 ⟨left, go, D8, k8, hl8, hg8, lg, pm⟩
      rw [toN] at D8
      have hkz8 : RL H8 kz := fun p hp => by
        have h := hkz7 p hp
        obtain ⟨cs, mm, nn, hd, hl, _⟩ := D7.ex
        exact k8 _ _ h (ne_of h hd (by intro z; cases z)) (ne_of h hl (by intro z; cases z)) (ne_of h hl7 (by intro z; cases z))
      have o08 : Off d l H H8 := fun c o h h1 h2 => k8 c o (o07 c o h h1 h2) h1 h2 (fun z => by rw [z, nl0H] at h; cases h)
      have subL : ∀ p ∈ left, p ∈ kz := fun p hp => pm.mem_iff.mp (List.mem_append_left _ hp)
      have subG : ∀ p ∈ go, p ∈ kz := fun p hp => pm.mem_iff.mp (List.mem_append_right _ hp)
      have hkl := hkz8.sub subL
      have hkg := hkz8.sub subG
      have rgl := rgz.sub subL
      have pl := pm.length_eq
      rw [List.length_append] at pl
      have nd2 : (left.map (·.2)).Nodup := by
        have z : ((left ++ go).map (·.2)).Nodup := ((pm.map (·.2)).nodup_iff).mpr ndz
        rw [List.map_append, List.nodup_append] at z
        exact z.1
      -- the rows that stand
      refine ⟨_, rfl, _, rfl, l0, rfl, ⟨_, SqL.of hl8⟩, fun E hE => ?_⟩
      obtain ⟨nEd, nEl⟩ := neD D8 hE
      refine lc_list (K := K) (xs := refs left) (fun i H' => ∃ kq : KzL, Same H8 H' ∧ H' E = some (.lst (refs kq)) ∧ kq.Sublist (left.take i)) ⟨[], same_new hE, upd_same, List.nil_sublist _⟩ (fun i H' _ ⟨_, e, _⟩ => SqL.of (e _ _ hl8)) ?_ ?_
      · rintro i y H9 hy ⟨kq, e9, hE9, sq⟩
        rw [List.getElem?_map] at hy
        cases hi : left[i]? with
        | none =>
          rw [hi] at hy
          cases hy
        | some z =>
        rw [hi] at hy
        obtain rfl : V.ref z.1 = y := Option.some.inj hy
        have mz := List.mem_of_getElem? hi
        have lq := sq.length_le
        rw [List.length_take] at lq
        refine ⟨rfl, _, rfl, _, rfl, z.2, go.map (·.2), .tup (SqT.of (e9 _ _ (hkl z mz))) (texts_dp _), .lst (SqL.of (e9 _ _ hg8)) (rows_dp (hkg.up e9).rows), _, rfl, ite2 (fun _ => ?_) fun _ => ⟨kq, e9, hE9, by rw [take_next hi]; exact sq.trans (List.sublist_append_left _ _)⟩⟩
        refine ⟨_, rfl, _, hE9, by rw [List.length_map, sizeLine_eq]; omega, kq ++ [z], same_put hE e9, by rw [upd_same, refs, refs, List.map_append]; rfl, by rw [take_next hi]; exact sq.append (List.Sublist.refl _)⟩
      rintro H9 ⟨kq, e9, hE9, sq⟩
      rw [List.length_map, List.take_length] at sq
      refine ⟨8, rfl, E, _, rfl, SqL.of hE9, fun p8 hp8 => ⟨by show 2 ≤ sizeLine; decide, ?_⟩⟩
      have e10 : Same H9 (upd H9 p8 (.lst (cutV (refs kq) none (some 8)))) := same_new hp8
      have h10 : upd H9 p8 (.lst (cutV (refs kq) none (some 8))) p8 = some (.lst (refs (kq.take 8))) := by
        rw [upd_same, show cutV (refs kq) none (some 8) = (refs kq).take 8 from cutN _ 8, refs, refs, List.map_take]
      generalize upd H9 p8 (.lst (cutV (refs kq) none (some 8))) = H10 at e10 h10 ⊢
      have e8A := same_trans e9 e10
      have sq8 : (kq.take 8).Sublist left := (List.take_sublist _ _).trans sq
      have D10 := D8.same e8A
      have nl8 : p8 ≠ l := (neD (D8.same e9) hp8).2
      exact fin (D10.up (by omega)) (o08.trans (Off.of e8A)) nl8 h10 ((hkl.up e8A).sub fun p hp => sq8.subset hp) (rgl.sub fun p hp => sq8.subset hp) (by rw [List.length_take]; omega) (nd2.sublist (sq8.map _))
    -- rows_here = sorted(set(drawn))
    have gsub : ∀ r ∈ got.map (·.2), r.length = n ∧ ∀ x ∈ r, x ∈ xs := rgg.rows
    refine ⟨_, rfl, ?_⟩
    dsimp only [tNil]
    refine set_to (R := got.map (·.2)) (D := pw xs n) (n := n) hg6 hgk6.rows (fun r hr => (gsub r hr).1) n1 d27 (fun r hr => inD r (gsub r hr)) fun S0 HS0 sr => ?_
    refine sort_to sr fun F kf H7 nF e7 hF hkf memf ascf => ?_
    have lf := nodup_len (kf.map (·.2)) (got.map (·.2)) (asc_nodup ascf) fun r hr => (memf r).mp hr
    rw [List.length_map, List.length_map] at lf
    have rgf : RG xs n kf := RG.of fun r hr => gsub r ((memf r).mp hr)
    have nFl : F ≠ l := (neD D6 nF).2
    -- way == 1 and rows_here != [] and len(closed(..)) < 9
    refine ⟨_, rfl, rfl, _, rfl, ?_⟩
    refine joinT (fun b H' => Same H7 H' ∧ (b = true → ∃ S : List (List Str), ClosedS xs k rs n S ∧ (∀ r ∈ kf.map (·.2), r ∈ S) ∧ S.length ≤ 8)) (fun _ => ⟨fun _ _ e => e, fun z => nomatch z⟩) (fun _ F' q' => ?_) ?_
    · refine ⟨_, rfl, by show 0 ≤ sizeLine; exact Nat.zero_le _, fun e he => ⟨F, e, refs kf, rfl, rfl, SqL.of ((same_new he) _ _ hF), SqL.of upd_same, _, rfl, ?_⟩⟩
      have e8 : Same H7 (upd H7 e (.lst [])) := same_new he
      generalize upd H7 e (.lst []) = H8 at e8 ⊢
      refine joinT (fun b H' => Same H7 H' ∧ (b = true → ∃ S : List (List Str), ClosedS xs k rs n S ∧ (∀ r ∈ kf.map (·.2), r ∈ S) ∧ S.length ≤ 8)) (fun _ => ⟨e8, fun z => nomatch z⟩) (fun _ F2 q2 => ?_) (fun b H' h => q' b H' h)
      refine ⟨_, rfl, _, rfl, _, rfl, t, F, kf, xs, rs, k, n, rfl, hT6.up (same_trans e7 e8), G, e8 _ _ hF, hkf.up e8, rgf, n1, n3, by omega, fun p kc H9 np e9 hp hkc rgc cok => ?_⟩
      refine ⟨.ref p, kc.length, rfl, .inl ⟨_, SqL.of hp, by rw [List.length_map]⟩, _, _, rfl, rfl, _, rfl, q2 _ _ ⟨same_trans e8 e9, fun c => ?_⟩⟩
      have c : ((kc.length : Nat) : Int) < 9 := of_decide_eq_true c
      exact ⟨kc.map (·.2), cok.cl (by rw [List.length_map]; omega), cok.low, by rw [List.length_map]; omega⟩
    rintro b1 H8 ⟨e8, cinfo⟩
    have e68 := same_trans e7 e8
    have D8 := D6'.same e68
    have o08 := o06.trans (Off.of e68)
    refine ite2 (fun c => ?_) fun _ => ?_
    · obtain ⟨S, hS, lowS, lS⟩ := cinfo c
      refine ⟨_, rfl, _, rfl, _, rfl, t, F, kf, xs, rs, k, n, rfl, hT6.up e68, G, e8 _ _ hF, hkf.up e8, rgf, n1, n3, by omega, fun p kc H9 np e9 hp hkc rgc cok => ?_⟩
      have lkc := nodup_len (kc.map (·.2)) S (asc_nodup cok.asc) (cok.min S hS lowS)
      rw [List.length_map] at lkc
      have npl : p ≠ l := (neD D8 np).2
      exact ⟨_, rfl, _, rfl, by show 2 ≤ sizeLine; decide, fin (D8.same e9) (o08.trans (Off.of e9)) npl hp hkc rgc (by omega) (asc_nodup cok.asc)⟩
    · exact ⟨_, rfl, _, rfl, by show 2 ≤ sizeLine; decide, fin D8 o08 nFl (e8 _ _ hF) (hkf.up e8) rgf (by omega) (asc_nodup ascf)⟩
end
end K01
/-! f(k1 = e1, k2 = e2), the parameters the other way round; rows as shown. -/
namespace K01
open PySem PySem.Spec PyProof.Rows L2 KG KS KA KX KIa KFz KTc
/-- f(k1 = u, k2 = v) binds v, u -/
def KwTwo0 (fd : FuncData) (ps : List Str) (k1 k2 : Str) : Prop := ∀ (s : Shared) (u v : Value), BindsTo s fd ⟨[], [(k1, u), (k2, v)]⟩ (ps.zip [v, u])
def tCallKw (sp : Sp) (E : XK) (tk : TA) : TE := fun σ H Q => tk σ H fun zs H2 => ∃ u v, zs = [u, v] ∧ sp [v, u] H2 Q E
section
variable {X : Cx} {CX : CXT} {k : Nat} {f : Addr} {fd : FuncData} {ps : List Str} {sp : Sp} {E : XK} {x k1 k2 : Str} {p pos : Pos} {kws : List Keyword} {tk : TA}
theorem pe_callKw2 (F : FnOk X.prog X.w X.K X.mg X.base CX k f fd ps sp) (hr : Room k X.A) (hg : Gl X x) (hm : X.mg x = some (.ref f)) (hk : PySem.W.keepIn X.K (.ref f) = true) (hb : KwTwo0 fd ps k1 k2) (hx : Passes CX X E) (hkw : PK X kws tk)
    (hall : (backToKw pos (keywordEach kws X.env)).all (·.1.isSome) = true := by rfl) (hks : (backToKw pos (keywordEach kws X.env)).filterMap (·.1) = [k1, k2] := by rfl) (hdb : (x == ("__debug__" : Str)) = false := by decide)
    (hpl : ((backTo pos (starEach [] X.env)).any (·.1) || (backToKw pos (keywordEach kws X.env)).any (·.1.isNone)) = false := by rfl) : PE X (.Call (.Name x p) [] kws pos) (tCallKw sp E tk) := by
  refine ⟨fun pins s σ H Q I h => ?_⟩
  refine wpAny_Call_Name_kw (ld_glob I hg hm ?_ hdb)
  refine PySem.W.callWith_KW0 (h₀ := X.base) I.ok.mod.kin hk hall ?_ hpl
  refine thn (hkw.run pos pins s σ H _ I h) ?_
  rintro ws s2 ⟨zs, H2, I2, rz, u, v, ez, q2⟩
  subst ez
  obtain ⟨u', v', rfl, ru, rv⟩ := vals2 rz
  refine ⟨I2.kIn, ?_⟩
  rw [hks]
  show wpAny _ _ (call (.ref f) [] [(k1, u'), (k2, v')]) _ _ _
  refine wpAny_call (codeAny_mono (F.run X.A X.stack s2 H2 ⟨[], [(k1, u'), (k2, v')]⟩ [v', u'] [v, u] Q E hr I2.env0 (hb _ _ _) (.cons rv (.cons ru .nil)) q2) ?_)
  rintro (er | fl) s' z
  · exact hx pins σ H2 s2 er s' I2 z
  · cases fl with
    | ret u => exact I2.after z
    | next => exact z.elim
    | brk => exact z.elim
    | cont => exact z.elim
end
/-- rows as they show -/
theorem shws_rows {H : Hp} {c : Nat} : ∀ {kz : KzL}, RL H kz → (∀ p ∈ kz, (∀ x ∈ p.2, TxOk x) ∧ p.2.length ≤ c) → Shws H (refs kz) ((kz.map (·.2)).map txd) 1 (kz.length * (c * 132 + 8))
  | [], _, _ => Shws.nil
  | p :: kz, h, ok => by
    have ih := shws_rows (c := c) (kz := kz) (fun q hq => h q (List.mem_cons_of_mem _ hq)) fun q hq => ok q (List.mem_cons_of_mem _ hq)
    obtain ⟨o1, o2⟩ := ok p List.mem_cons_self
    have z := Shws.cons ((Shws.tup (h p List.mem_cons_self) (shws_txs o1)).up (fun _ _ e => e) (Nat.le_refl _) (show p.2.length * 132 + 6 ≤ c * 132 + 6 from Nat.add_le_add_right (Nat.mul_le_mul_right _ o2) _)) ih
    refine z.up (fun _ _ e => e) (Nat.le_refl _) ?_
    rw [List.length_cons, Nat.succ_mul]
    omega
end K01
/-! _law_right. -/
namespace K01
open PySem PySem.Spec PyProof.Rows L2 KG KS KA KX KIa KFz KTc
abbrev s__law_right : Stmt := top 40
abbrev NLr : List Str := ["_law_base", "_law_by", "_law_made", "_law_width", "_law_rows_here", "_law_many", "_law_grid", "_law_due", "_law_again", "_law_told", "_law_found"]
def spLr (C : Addr) : Sp := fun vs H Q _ => ∃ (b t o L : Addr) (kr : KzL) (xs rs : List Str) (k n : Nat), vs = [.ref b, .ref t, .ref o, .int (n : Nat), .ref L, .int (k : Nat)] ∧ H b = some (.tup (xs.map V.str)) ∧ TblV H t xs k rs ∧ VtAt C H o xs k rs ∧ VGood xs k rs ∧ 1 ≤ n ∧ n ≤ 3 ∧ H L = some (.lst (refs kr)) ∧ RL H kr ∧ RG xs n kr ∧ kr.length ≤ 8 ∧ (kr.map (·.2)).Nodup ∧
  ∀ H', Same H H' → Q (.bl true) H'
theorem StepsOk.to {A B : List (List Str)} {ss : List Stp} (h : StepsOk A ss) (e : ∀ r, r ∈ A → r ∈ B) : StepsOk B ss := fun i st hi p hp => by
  rcases List.mem_append.mp (h i st hi p hp) with z | z
  · exact List.mem_append_left _ (e _ z)
  · exact List.mem_append_right _ z
theorem nodup_to {A B C : List (List Str)} (h : (A ++ C).Nodup) (hB : B.Nodup) (e : ∀ r, r ∈ B → r ∈ A) : (B ++ C).Nodup := by
  rw [List.nodup_append] at h ⊢
  exact ⟨hB, h.2.1, fun a ha b hb => h.2.2 a (e a ha) b hb⟩
section
variable {P : Program} {w : World} {K : PySem.W.Frag} {mg : Str → Option Value} {base : Heap}
/-- what _law_right reaches -/
structure LrF (K : PySem.W.Frag) (mg : Str → Option Value) (C TC : Addr) (mc : Value) where
  G : CgF K mg TC mc
  H : ChF K mg C TC
  clg : FnF K mg "closing" "closing" s_closing
  kw : KwTwo0 clg.d ["vote", "table"] "table" "vote"
  hld : FnF K mg "closing_holds" "closing_holds" s_closing_holds
  sr : FnF K mg "_law_steps_right" "_law_steps_right" s__law_steps_right
theorem sc_lr : FnScope NLr ["_law_base", "_law_by", "_law_made", "_law_width", "_law_rows_here", "_law_many"] (defScope s__law_right) := ⟨rfl, rfl, rfl, by decide +kernel, rfl, by decide +kernel, by decide +kernel⟩
theorem ok_lr (B : By mg) {fI : Addr} (C : VtC K mg fI) (rv : MtF K "rows_voted" "Vote.rows_voted" s_vtRows) (bm : BMeth K C.C "rows_voted" rv.a) (ti : MtD K "__init__" "Table.__init__" s_tabInit) (F : TabF K mg) (T : TabC K mg ti.a) (J : C8.InsC K T.C) (Z : Nought K ti.v) {mc : Value} (R : RoF K mg) (M : LrF K mg C.C T.C mc)
    (f : FnF K mg "_law_right" "_law_right" s__law_right) : FnG P w K mg base CX0 9 f.a f.d ["_law_base", "_law_by", "_law_made", "_law_width", "_law_rows_here", "_law_many"] (spLr C.C) := by
  have G6 := ok_tabInit (P := P) (w := w) (base := base) B.toBs ti F T
  have b6 : L2.Binds K ti.d ["self", "domain", "width", "rows"] [] := by
    obtain ⟨ds, r, b⟩ := ti.F.binds1 (ps := ["self", "domain", "width", "rows"]) 4 1 (by simp) rfl fun _ _ _ _ _ _ _ us its h1 h2 => match us, its, h1, h2 with | [_, _, _, _], [_], _, _ => ⟨_, rfl, rfl⟩
    cases (show Vals [] ds from r)
    exact b
  have GC := ok__law_closed (P := P) (w := w) (base := base) B.toBs R.cl R.tu R.vo
  have bC : L2.Binds K R.cl.d ["_law_by", "_law_rows_here", "_law_many"] [] := R.cl.F.binds fun _ _ _ _ _ _ us hl => match us, hl with | [_, _, _], _ => rfl
  have GG := ok_closing (P := P) (w := w) (base := base) B.toBz C rv bm ti F T J Z M.G M.clg
  have bG : L2.Binds K M.clg.d ["vote", "table"] [] := M.clg.F.binds fun _ _ _ _ _ _ us hl => match us, hl with | [_, _], _ => rfl
  have GH := ok_holds (P := P) (w := w) (base := base) B.toBz C rv bm ti F T J M.H M.hld
  have bH : L2.Binds K M.hld.d ["vote", "table", "thing"] [] := M.hld.F.binds fun _ _ _ _ _ _ us hl => match us, hl with | [_, _, _], _ => rfl
  have GS := ok_sr (P := P) (w := w) (base := base) B.toBs M.sr R.vo
  have bS : L2.Binds K M.sr.d ["_law_by", "_law_many", "_law_rows_here", "_law_steps"] [] := M.sr.F.binds fun _ _ _ _ _ _ us hl => match us, hl with | [_, _, _, _], _ => rfl
  have GK := ok_vtKeeps (P := P) (w := w) (base := base) B.toBz C T F.all M.H.br M.H.bM M.H.ke
  have bK : L2.Binds K M.H.ke.d ["self", "table"] [] := M.H.ke.F.binds fun _ _ _ _ _ _ us hl => match us, hl with | [_, _], _ => rfl
  have GE := ok_tabEq (P := P) (w := w) (base := base) B.toBs T J M.H.eq_
  have bE : L2.Binds K M.H.eq_.d ["self", "other"] [] := M.H.eq_.F.binds fun _ _ _ _ _ _ us hl => match us, hl with | [_, _], _ => rfl
  refine okN f.F sc_lr (fun vs H Q E h => ?_) (fun cdv A outer s H vs Q E hgu hr h => ?_)
  · obtain ⟨b, t, o, L, kr, xs, rs, k, n, rfl, _⟩ := h
    rfl
  · obtain ⟨b, t, o, L, kr, xs, rs, k, n, rfl, hb, hT, hO, G, n1, n3, hL, hkr, rgr, l8, ndr, q⟩ := h
    have hu64 := hr.units
    have hr1 : Room 1 _ := hr.mono (by omega)
    have hr2 : Room 2 _ := hr.mono (by omega)
    have hr3 : Room 3 _ := hr.mono (by omega)
    have hr5 : Room 5 _ := hr.mono (by omega)
    have hr6 : Room 6 _ := hr.mono (by omega)
    refine ⟨_, (pss_cons
      (ps_par (i := 6) (j := 7) (by rfl) sc_lr.nd rfl rfl (by decide) rfl rfl (pa_cons (pe_make T.made G6 hr5 rfl T.g b6 .nil pass0 (pa_cons (pv 0) (pa_cons (pv 3) (pa_cons (pe_callTy call_tuple_of (by rfl) B.n_tuple (by decide +kernel) (pa_cons (pv 4) pa_nil)) pa_nil)))) (pa_cons (pe_call GC hr2 rfl R.cl.g R.cl.F.kp bC .nil pass0 (pa_cons (pv 1) (pa_cons (pv 4) (pa_cons (pv 5) pa_nil)))) pa_nil)) (by rfl))
    (pss_cons
      (ps_if (pt_cmpR op_gt (pe_callB call_len (by rfl) B.n_len (by decide +kernel) (pa_cons (pv 7) pa_nil)) (pe_op op_sub pe_int (pe_op op_mul pe_int (pv 5))) (nomark _))
        (pss_one
          (ps_ret pe_bl))
        pss_nil)
    (pss_cons
      (ps_for PassesOwn.never rfl (pi_range1 rfl B.n_range (pa_cons pe_int pa_nil)) (pg_name (i := 8) sc_lr.nd rfl (Or.inl rfl))
        (pss_cons
          (ps_set (i := 9) sc_lr.nd rfl (Or.inl rfl) (pe_ifExp (pt_cmpR op_eq (pv 8) pe_int (nomark _)) (pe_call GG hr rfl M.clg.g M.clg.F.kp bG .nil pass0 (pa_cons (pv 2) (pa_cons (pv 6) pa_nil))) (pe_callKw2 GG hr rfl M.clg.g M.clg.F.kp M.kw pass0 (pk_cons (pv 6) (pk_cons (pv 2) pk_nil)))))
        (pss_cons
          (ps_if (PW.pt (pw_or (pt_not (pt_val (pe_callB call_isi (by rfl) B.n_isinstance (by decide +kernel) (pa_cons (pv 9) (pa_cons (pe_bltn (v := .ty "tuple") rfl B.n_tuple (by decide +kernel) rfl) pa_nil))))) (pw_or (pt_cmpR op_ne (pe_callB call_len (by rfl) B.n_len (by decide +kernel) (pa_cons (pv 9) pa_nil)) pe_int (nomark _)) (pw_or1 (pt_not (pt_val (pe_callB (C8.call_isC J) (by rfl) B.n_isinstance (by decide +kernel) (pa_cons (pe_ix ix_tup (pv 9) pe_int (fun _ _ => rfl)) (pa_cons (pe_glob (v := .ref T.C) rfl T.g rfl) pa_nil)))))))))
            (pss_one
              (ps_ret pe_bl))
            pss_nil)
        (pss_cons
          (ps_if (pt_cmpR op_ne (pe_callB (call_repr hgu hu64) (by rfl) B.n_repr (by decide +kernel) (pa_cons (pe_tup (pa_cons (pe_fld (pe_ix ix_tup (pv 9) pe_int (fun _ _ => rfl)) rfl) (pa_cons (pe_fld (pe_ix ix_tup (pv 9) pe_int (fun _ _ => rfl)) rfl) (pa_cons (pe_fld (pe_ix ix_tup (pv 9) pe_int (fun _ _ => rfl)) rfl) pa_nil)))) pa_nil)) (pe_callB (call_repr hgu hu64) (by rfl) B.n_repr (by decide +kernel) (pa_cons (pe_tup (pa_cons (pv 0) (pa_cons (pv 3) (pa_cons (pe_callTy call_tuple_of (by rfl) B.n_tuple (by decide +kernel) (pa_cons (pv 7) pa_nil)) pa_nil)))) pa_nil)) (nomark _))
            (pss_one
              (ps_ret pe_bl))
            pss_nil)
        (pss_cons
          (ps_set (i := 10) sc_lr.nd rfl (Or.inl rfl) (pe_callG GS hgu hr2 rfl M.sr.g M.sr.F.kp bS .nil pass0 (pa_cons (pv 1) (pa_cons (pv 5) (pa_cons (pv 4) (pa_cons (pe_ix ix_tup (pv 9) pe_int (fun _ _ => rfl)) pa_nil))))))
        (pss_cons
          (ps_if (PW.pt (pw_or (pt_cmpR op_isN (pv 10) pe_non (nomark _)) (pw_or1 (pt_cmpR (op_neD hu64) (pe_callB (cr_sortLs hu64) (by rfl) B.n_sorted (by decide +kernel) (pa_cons (pe_op op_cat (pv 10) (pv 4)) pa_nil)) (pv 7) (nomark _)))))
            (pss_one
              (ps_ret pe_bl))
            pss_nil)
        (pss_one
          (ps_if (PW.pt (pw_or (pt_cmpR KUl.op_isnotB (pe_call GH hr6 rfl M.hld.g M.hld.F.kp bH .nil pass0 (pa_cons (pv 2) (pa_cons (pv 6) (pa_cons (pv 9) pa_nil)))) pe_bl (nomark _)) (pw_or1 (pt_cmpR KUl.op_isnotB (pe_meth (pv 2) C.cl M.H.kM GK hr3 bK .nil pass0 (pa_cons (pe_ix ix_tup (pv 9) pe_int (fun _ _ => rfl)) pa_nil)) pe_bl (nomark _)))))
            (pss_one
              (ps_ret pe_bl))
            pss_nil))))))))
    (pss_one
      (ps_ret (pe_cmpR (KO.op_cmp (op := .Eq) (fun _ _ => rfl) M.H.ei M.H.ef GE bE hr1 pass0) (pv 6) (pe_make T.made G6 hr5 rfl T.g b6 .nil pass0 (pa_cons (pv 0) (pa_cons (pv 3) (pa_cons (pe_callTy call_tuple_of (by rfl) B.n_tuple (by decide +kernel) (pa_cons (pv 4) pa_nil)) pa_nil)))) (nomark _))))))), ?_⟩
    have hk4 := G.hk
    have dom : DomOk xs n := ⟨G.asc, G.ok, G.l1, G.l3, n1, n3⟩
    have okx : ∀ {r : List Str}, (∀ x ∈ r, x ∈ xs) → ∀ x ∈ r, PyData.strOk x = true := fun h x hx => name_strOk (G.ok x (h x hx))
    -- grid
    refine ⟨_, rfl, _, rfl, _, rfl, L, _, rfl, .inl ⟨SqL.of hL, fun tp htp => ?_⟩⟩
    have e1 : Same H (upd H tp (.tup (refs kr))) := same_new htp
    refine fun g dxg ng ndg neg => make_tabQ ng ndg neg (e1 _ _ hb) dom upd_same (hkr.up e1).rows rgr.rows (by rw [List.length_map]; omega) fun H2 R0 e2 TG mem0 => ⟨rfl, ?_⟩
    have e02 := same_trans e1 e2
    -- due
    refine ⟨_, rfl, _, rfl, _, rfl, t, L, kr, xs, rs, k, n, rfl, hT.up e02, G, e02 _ _ hL, hkr.up e02, rgr, n1, n3, l8, fun du kd H3 nd e3 hdu hkd rgd cok => ⟨_, _, rfl, ?_⟩⟩
    have e03 := same_trans e02 e3
    have TG3 := TG.up e3
    -- len(due) > 24 - 4 * many
    refine ⟨_, rfl, .ref du, kd.length, rfl, .inl ⟨_, SqL.of hdu, by rw [List.length_map]⟩, _, rfl, _, _, rfl, rfl, .inl ⟨by decide, by decide⟩, _, _, rfl, rfl, _, _, rfl, rfl, _, rfl, ite2 (fun _ => ?_) fun c => ?_⟩
    · exact q H3 e03
    have lkd : kd.length ≤ 24 - 4 * k := Classical.byContradiction fun z => c (decide_eq_true (show (24 : Int) - 4 * (k : Nat) < (kd.length : Nat) by omega))
    have clD : ClosedS xs k rs n (kd.map (·.2)) := cok.cl (by rw [List.length_map]; exact lkd)
    have small : SmallCl xs rs k n R0 := ⟨⟨_, clD, fun r hr => cok.low r ((mem0 r).mp hr), by rw [List.length_map]; exact lkd⟩⟩
    have lkd12 : kd.length ≤ 12 := by omega
    refine ⟨2, rfl, by decide, by decide, ?_⟩
    refine for_range (lo := 0) (n := 2) (fun i σ H' => ∃ v8 v9 v10 : Option V, σ = [some (.ref b), some (.ref t), some (.ref o), some (.int (n : Nat)), some (.ref L), some (.int (k : Nat)), some (.ref g), some (.ref du), v8, v9, v10] ∧ Same H3 H') ⟨none, none, none, rfl, fun _ _ e => e⟩ ?_ ?_
    · rintro i σ H4 hi ⟨v8, v9, v10, rfl, e4⟩
      have e04 := same_trans e03 e4
      have hO4 := hO.up e04
      have TG4 := TG3.up e4
      -- told
      refine ⟨_, rfl, rfl, _, rfl, ?_⟩
      refine ifx (fun v H' => ∃ (p c q0 : Addr) (R' : List (List Str)) (ss : List Stp), v = .ref p ∧ Same H4 H' ∧ H' p = some (.tup [V.ref c, V.ref q0]) ∧ ClgOk T.C H' xs rs k n R0 c q0 R' ss) (fun _ Q' q' => ?_) (fun _ Q' q' => ?_) ?_
      · exact ⟨_, rfl, _, rfl, o, g, xs, rs, k, n, R0, rfl, hO4, G, TG4, small, fun p c q0 R' ss H' e hp cg => q' _ _ ⟨p, c, q0, R', ss, rfl, e, hp, cg⟩⟩
      · exact ⟨_, rfl, _, rfl, .ref g, .ref o, rfl, o, g, xs, rs, k, n, R0, rfl, hO4, G, TG4, small, fun p c q0 R' ss H' e hp cg => q' _ _ ⟨p, c, q0, R', ss, rfl, e, hp, cg⟩⟩
      rintro v H5 ⟨p, c, q0, R', ss, rfl, e5, hp, cg⟩
      have e05 := same_trans e04 e5
      have kr0 : ∀ r, r ∈ kr.map (·.2) → r ∈ R0 := fun r hr => (mem0 r).mpr hr
      have eR : R' = kd.map (·.2) := asc_ext cg.tab.asc cok.asc fun r => by
        constructor
        · intro h
          rcases List.mem_append.mp ((cg.mem r).mp h) with z | z
          · exact cok.low r ((mem0 r).mp z)
          · exact steps_min cg.at_ cg.ok clD (fun r hr => cok.low r ((mem0 r).mp hr)) r z
        · intro h
          exact cok.min R' cg.cl (fun r hr => (cg.mem r).mpr (List.mem_append_left _ (kr0 r hr))) r h
      have lR : R'.length ≤ 24 - 4 * k := by rw [eR, List.length_map]; exact lkd
      have lrs : R0.length + ss.length ≤ 12 := by
        have z := nodup_len (R0 ++ srows ss) R' cg.nd fun r hr => (cg.mem r).mpr hr
        rw [List.length_append, List.length_map] at z
        omega
      obtain ⟨dxc, dc, pc, rc, cols, hc, hdc, hpc, hRc, _⟩ := id cg.tab.ex
      refine ⟨_, rfl, _, _, _, _, true, rfl, .ty "tuple", tyT (SqT.of hp), kit_ty (by decide +kernel), true, rfl, iteF ?_⟩
      refine ⟨_, rfl, .ref p, 2, rfl, .inr ⟨_, SqT.of hp, rfl⟩, rfl, _, rfl, iteF ?_⟩
      refine ⟨_, rfl, p, _, 0, .ref c, rfl, rfl, SqT.of hp, at_of (j := 0) rfl rfl, c, dxc, _, rfl, hc, true, rfl, iteF ?_⟩
      -- repr
      refine ⟨_, rfl, p, _, 0, .ref c, rfl, rfl, SqT.of hp, at_of (j := 0) rfl rfl, c, T.C, dxc, _, _, rfl, hc, T.cl, T.nd, rfl, _, rfl, p, _, 0, .ref c, rfl, rfl, SqT.of hp, at_of (j := 0) rfl rfl, c, T.C, dxc, _, _, rfl, hc, T.cl, T.nw, rfl, _, rfl, p, _, 0, .ref c, rfl, rfl, SqT.of hp, at_of (j := 0) rfl rfl, c, T.C, dxc, _, _, rfl, hc, T.cl, T.nr, rfl, by show 3 ≤ sizeLine; decide, fun t1 ht1 => ?_⟩
      obtain ⟨kc, ekc, ekc2, hkc⟩ := rows_kz hRc
      subst ekc
      have trip : ∀ {H' : Hp} {q y z : Addr} {ks : KzL}, H' q = some (.tup [V.ref y, V.int (n : Nat), V.ref z]) → H' y = some (.tup (xs.map V.str)) → H' z = some (.tup (refs ks)) → RL H' ks → ks.map (·.2) = R' → Shw H' (.ref q) (.tuple [.tuple (xs.map PyData.str), .int (n : Nat), .tuple (R'.map txd)]) 3 20000 := fun {H' q y z ks} h h1 h2 h3 h4 => by
        have sx := shws_txs (H := H') (g := xs) fun x hx => tx_name (G.ok x hx)
        have lks : ks.length ≤ 12 := by
          have z := congrArg List.length h4
          rw [List.length_map] at z
          omega
        have sm := shws_rows (c := 3) h3 fun p hp => by
          have pm : p.2 ∈ R' := by rw [← h4]; exact List.mem_map.mpr ⟨p, hp, rfl⟩
          obtain ⟨z1, z2⟩ := cg.tab.row p.2 pm
          exact ⟨fun x hx => tx_name (G.ok x (z2 x hx)), by omega⟩
        rw [h4] at sm
        have l3 := G.l3
        exact (Shws.tup h (Shws.cons ((Shws.tup h1 sx).up (fun _ _ e => e) (show 0 + 1 ≤ 2 by omega) (Nat.le_refl _)) (Shws.cons ((shw_int (H := H') (i := (n : Nat)) (by have z : (n : Int).natAbs.log2 ≤ (n : Int).natAbs := Nat.log2_le_self _; omega)).up (fun _ _ e => e) (show 0 ≤ 2 by omega) (Nat.le_refl _)) (Shws.cons (Shws.tup h2 sm) (Shws.nil (c := 0)))))).up (fun _ _ e => e) (by omega) (by omega)
      have e6 : Same H5 (upd H5 t1 (.tup [V.ref dc, V.int (n : Nat), V.ref pc])) := same_new ht1
      have s6 := trip (H' := upd H5 t1 (.tup [V.ref dc, V.int (n : Nat), V.ref pc])) (q := t1) upd_same (e6 _ _ hdc) (e6 _ _ hpc) (hkc.up e6) ekc2
      refine ⟨fun _ => True, .ref t1, _, rfl, s6.dq, s6.sh, Nat.le_trans s6.dp (by decide), big_fit (Nat.le_trans s6.ct (by decide)), ?_⟩
      generalize upd H5 t1 (.tup [V.ref dc, V.int (n : Nat), V.ref pc]) = H6 at e6 ⊢
      have e36 := same_trans (same_trans e4 e5) e6
      refine ⟨_, rfl, _, rfl, _, rfl, du, _, rfl, .inl ⟨SqL.of (e36 _ _ hdu), fun t2 ht2 => ⟨by show 3 ≤ sizeLine; decide, fun t3 ht3 => ?_⟩⟩⟩
      have e7 : Same H6 (upd H6 t2 (.tup (refs kd))) := same_new ht2
      have e8 := same_new (o := .tup [V.ref b, V.int (n : Nat), V.ref t2]) ht3
      have e38 := same_trans e36 (same_trans e7 e8)
      have s8 := trip (H' := upd (upd H6 t2 (.tup (refs kd))) t3 (.tup [V.ref b, V.int (n : Nat), V.ref t2])) (q := t3) upd_same (e38 _ _ (e03 _ _ hb)) (e8 _ _ upd_same) (hkd.up e38) eR.symm
      refine ⟨fun _ => True, .ref t3, _, rfl, s8.dq, s8.sh, Nat.le_trans s8.dp (by decide), big_fit (Nat.le_trans s8.ct (by decide)), rfl, _, rfl, ?_⟩
      rw [decide_eq_true rfl]
      refine iteF ?_
      have e58 := same_trans e6 (same_trans e7 e8)
      generalize upd (upd H6 t2 (.tup (refs kd))) t3 (.tup [V.ref b, V.int (n : Nat), V.ref t2]) = H8 at e38 e58 ⊢
      have e08 := same_trans e03 e38
      have hp8 := e58 _ _ hp
      -- found
      refine ⟨_, rfl, _, rfl, _, rfl, _, rfl, p, _, 1, .ref q0, rfl, rfl, SqT.of hp8, at_of (j := 1) rfl rfl, t, L, q0, kr, xs, rs, k, n, ss, rfl, hT.up e08, G, e08 _ _ hL, hkr.up e08, rgr, n3, e58 _ _ cg.st, fun st hs => (cg.at_ st hs).up e58, cg.ok.to fun r hr => (mem0 r).mp hr, nodup_to cg.nd ndr kr0, fun r hr => cg.tab.row r ((cg.mem r).mpr (List.mem_append_right _ hr)), by omega, fun fl H9 nfl e9 hfl => ?_⟩
      refine ⟨_, rfl, rfl, _, rfl, iteF ?_⟩
      have e09 := same_trans e08 e9
      have e59 := same_trans e58 e9
      refine ⟨_, rfl, _, rfl, fl, L, _, _, rfl, rfl, hfl, e09 _ _ hL, by rw [List.length_map, List.length_map, List.length_map, sizeLine_eq]; omega, fun ca hca => ?_⟩
      have eA : Same H9 (upd H9 ca (.lst (refs (szs ss) ++ refs kr))) := same_new hca
      have hA : upd H9 ca (.lst (refs (szs ss) ++ refs kr)) ca = some (.lst (refs (szs ss ++ kr))) := by rw [upd_same, refs, refs, refs, List.map_append]
      dsimp only [tNil]
      generalize upd H9 ca (.lst (refs (szs ss) ++ refs kr)) = HA at eA hA ⊢
      have e5A := same_trans e59 eA
      have e0A := same_trans e09 eA
      have rA : RL HA (szs ss ++ kr) := fun z hz => by
        rcases List.mem_append.mp hz with h | h
        · obtain ⟨s2, h2, rfl⟩ := List.mem_map.mp h
          exact e5A _ _ (cg.at_ s2 h2).rw_
        · exact e0A _ _ (hkr z h)
      have rows2 : (szs ss ++ kr).map (·.2) = srows ss ++ kr.map (·.2) := by rw [List.map_append, szs_rows]
      have goodA : ∀ r ∈ (szs ss ++ kr).map (·.2), r.length = n := fun r hr => by
        rw [rows2] at hr
        rcases List.mem_append.mp hr with h | h
        · exact (cg.tab.row r ((cg.mem r).mpr (List.mem_append_right _ h))).1
        · exact (rgr.rows r h).1
      have ndA : ((szs ss ++ kr).map (·.2)).Nodup := by
        rw [rows2]
        exact (List.perm_append_comm.nodup_iff).mp (nodup_to cg.nd ndr kr0)
      refine sortL_to hA rA goodA n1 ndA (by rw [List.length_append, List.length_map]; omega) fun so ks HB nso eB hso hks memS ascS => ?_
      have eS : ks.map (·.2) = kd.map (·.2) := by
        rw [← eR]
        refine asc_ext ascS cg.tab.asc fun r => ?_
        rw [memS r, rows2, cg.mem r, List.mem_append, List.mem_append]
        constructor
        · rintro (h | h)
          · exact .inr h
          · exact .inl (kr0 r h)
        · rintro (h | h)
          · exact .inr ((mem0 r).mp h)
          · exact .inl h
      have e3B := same_trans e38 (same_trans e9 (same_trans eA eB))
      have okD : ∀ r ∈ kd.map (·.2), ∀ x ∈ r, PyData.strOk x = true := fun r hr => okx (rgd.rows r hr).2
      refine ⟨_, rfl, rowsL (ks.map (·.2)), rowsL (kd.map (·.2)), .lst (SqL.of hso) (rows_dp hks.rows), .lst (SqL.of (e3B _ _ hdu)) (rows_dp (hkd.up e3B).rows), rowsL_shaped (by rw [eS]; exact okD), rowsL_shaped okD, false, by rw [eqv_rowsL, decide_eq_true eS]; rfl, iteF ?_⟩
      have e5B := same_trans e5A eB
      have e0B := same_trans e0A eB
      have cgB : ClgOk T.C HB xs rs k n R0 c q0 R' ss := ⟨cg.tab.up e5B, cg.mem, e5B _ _ cg.st, fun st hs => (cg.at_ st hs).up e5B, cg.ok, cg.nd, cg.cl⟩
      have hOB := hO.up e0B
      -- closing_holds
      refine ⟨_, rfl, _, rfl, _, rfl, o, g, p, c, q0, xs, rs, k, n, R0, R', ss, rfl, hOB, G, TG3.up e3B, e5B _ _ hp, cgB, lR, fun HC eC => ⟨true, true, rfl, rfl, _, rfl, iteF ?_⟩⟩
      have hOC := hOB.up eC
      obtain ⟨dxo, d2, r2, tt2, ho, _⟩ := id hOC
      refine ⟨_, rfl, o, dxo, _, rfl, ho, vt_look.2.1, _, rfl, p, _, 0, .ref c, rfl, rfl, SqT.of (eC _ _ (e5B _ _ hp)), at_of (j := 0) rfl rfl, o, c, xs, rs, k, n, R', rfl, hOC, G, cgB.tab.up eC, pow_lim (M := 24 - 4 * k) lR (by omega) (by rcases hk4 with z | z <;> rw [z] <;> decide), fun HD eD => ⟨true, true, by rw [closed_brk cg.cl]; rfl, rfl, _, rfl, iteF ?_⟩⟩
      exact ⟨_, _, _, rfl, same_trans e4 (same_trans e5 (same_trans e5B (same_trans eC eD)))⟩
    · rintro σ H4 ⟨v8, v9, v10, rfl, e4⟩
      have e04 := same_trans e03 e4
      have TG4 := TG3.up e4
      refine ⟨_, rfl, _, rfl, _, rfl, _, rfl, L, _, rfl, .inl ⟨SqL.of (e04 _ _ hL), fun tp2 htp2 => ?_⟩⟩
      have e5 : Same H4 (upd H4 tp2 (.tup (refs kr))) := same_new htp2
      have e05 := same_trans e04 e5
      refine fun g2 dxg2 ng2 ndg2 neg2 => make_tabQ ng2 ndg2 neg2 (e05 _ _ hb) dom upd_same (hkr.up e05).rows rgr.rows (by rw [List.length_map]; omega) fun H6 R2 e6 T2 mem2 => ⟨rfl, ?_⟩
      have e46 := same_trans e5 e6
      have T1 := TG4.up e46
      have eR : R0 = R2 := asc_ext T1.asc T2.asc fun r => by rw [mem0 r, mem2 r]
      obtain ⟨dc1, _, _, _, _, hc1, _⟩ := id T1.ex
      obtain ⟨dc2, _, _, _, _, hc2, _⟩ := id T2.ex
      refine ⟨g, dc1, _, .ref T.C, rfl, hc1, .base (.ins hc2 J.cl J.ha J.hn J.htk J.hm), M.H.nf, g, g2, xs, n, R0, R2, rfl, T1, T2, ?_⟩
      rw [decide_eq_true eR]
      exact q H6 (same_trans e04 e46)
end
end K01
/-! law. -/
namespace K01
open PySem PySem.Spec PyProof.Rows L2 KG KS KA KX KIa KFz KTc
abbrev s_law : Stmt := top 41
abbrev NLw : List Str := ["_law_script", "_law_deck_here", "_law_turn", "_law_base", "_law_many", "_law_drawn_here", "_law_made", "_law_k", "_law_width", "_law_rows_here"]
/-- all the defs that the law reaches -/
structure All (K : PySem.W.Frag) (mg : Str → Option Value) where
  B : By mg
  VF : VtF K mg
  vi : MtF K "__init__" "Vote.__init__" s_vtInit
  C : VtC K mg vi.a
  rv : MtF K "rows_voted" "Vote.rows_voted" s_vtRows
  bm : BMeth K C.C "rows_voted" rv.a
  F : TabF K mg
  ti : MtD K "__init__" "Table.__init__" s_tabInit
  T : TabC K mg ti.a
  J : C8.InsC K T.C
  Z : Nought K ti.v
  mc : Value
  M : LrF K mg C.C T.C mc
  R : RoF K mg
  deck : FnF K mg "_law_deck" "_law_deck" s__law_deck
  pick : FnF K mg "_law_pick" "_law_pick" s__law_pick
  names : FnF K mg "_law_names" "_law_names" s__law_names
  drawn : FnF K mg "_law_drawn" "_law_drawn" s__law_drawn
  rows : FnF K mg "_law_rows" "_law_rows" s__law_rows
  lr : FnF K mg "_law_right" "_law_right" s__law_right
theorem VtAt.offD {C : Addr} {H H' : Hp} {d l x : Addr} {n k : Nat} {xs rs : List Str} (h : VtAt C H x xs k rs) (D : DeckAt H d l n) (o : Off d l H H') : VtAt C H' x xs k rs := by
  obtain ⟨dx, d1, r, tt, h1, ks, h2, h3, h4, h5⟩ := h
  obtain ⟨cs, m, n, hd, hl, _⟩ := id D.ex
  exact ⟨dx, d1, r, tt, o _ _ h1 (ne_of h1 hd (by intro z; cases z)) (ne_of h1 hl (by intro z; cases z)), ks, tup_off h2 D o, tup_off h3 D o, o _ _ h4 (ne_of h4 hd (by intro z; cases z)) (ne_of h4 hl (by intro z; cases z)), h5⟩
theorem dt_vals {ks : List (Addr × List Str)} {vs : List V} (h : ks.length = vs.length) : (KDz.dtOf ks vs).map (·.2) = vs := by
  unfold KDz.dtOf
  exact List.map_snd_zip (by rw [List.length_map]; omega)
def spLaw (K : PySem.W.Frag) : Sp := fun vs H Q _ => ∃ (a : Addr) (ns : List Int), vs = [.ref a] ∧ SqL K H a (ns.map V.int) ∧ ns.length ≤ 63 ∧ ∀ H', Q (.bl true) H'
section
variable {P : Program} {w : World} {K : PySem.W.Frag} {mg : Str → Option Value} {base : Heap}
theorem sc_law : FnScope NLw ["_law_script"] (defScope s_law) := ⟨rfl, rfl, rfl, by decide +kernel, rfl, by decide +kernel, by decide +kernel⟩
theorem ok_law (A : All K mg) (f : FnF K mg "law" "law" s_law) : FnG P w K mg base CX0 10 f.a f.d ["_law_script"] (spLaw K) := by
  have GK := ok__law_deck (P := P) (w := w) (base := base) A.B.toBi A.deck
  have bK : L2.Binds K A.deck.d ["_law_script"] [] := A.deck.F.binds fun _ _ _ _ _ _ us hl => match us, hl with | [_], _ => rfl
  have GD := ok__law_draw (P := P) (w := w) (base := base) A.B.toBi A.R.draw
  have bD : L2.Binds K A.R.draw.d ["_law_deck_here", "_law_many"] [] := A.R.draw.F.binds fun _ _ _ _ _ _ us hl => match us, hl with | [_, _], _ => rfl
  have GN := ok__law_names (P := P) (w := w) (base := base) A.B.toBs A.names A.R.draw
  have bN : L2.Binds K A.names.d ["_law_deck_here", "_law_many"] [] := A.names.F.binds fun _ _ _ _ _ _ us hl => match us, hl with | [_, _], _ => rfl
  have GW := ok__law_drawn (P := P) (w := w) (base := base) A.B.toBs A.drawn A.R.tu A.pick A.R.draw
  have bW : L2.Binds K A.drawn.d ["_law_deck_here", "_law_base", "_law_many"] [] := A.drawn.F.binds fun _ _ _ _ _ _ us hl => match us, hl with | [_, _, _], _ => rfl
  have GR := ok__law_rows (P := P) (w := w) (base := base) A.B A.R A.rows
  have bR : L2.Binds K A.rows.d ["_law_deck_here", "_law_base", "_law_by", "_law_many"] [] := A.rows.F.binds fun _ _ _ _ _ _ us hl => match us, hl with | [_, _, _, _], _ => rfl
  have GV := ok_vtInit (P := P) (w := w) (base := base) A.B.toBz A.vi A.VF A.C
  have bV : L2.Binds K A.vi.d ["self", "domain", "count", "results"] [] := A.vi.F.binds fun _ _ _ _ _ _ us hl => match us, hl with | [_, _, _, _], _ => rfl
  have GL := ok_lr (P := P) (w := w) (base := base) A.B A.C A.rv A.bm A.ti A.F A.T A.J A.Z A.R A.M A.lr
  have bL : L2.Binds K A.lr.d ["_law_base", "_law_by", "_law_made", "_law_width", "_law_rows_here", "_law_many"] [] := A.lr.F.binds fun _ _ _ _ _ _ us hl => match us, hl with | [_, _, _, _, _, _], _ => rfl
  refine okN f.F sc_law (fun vs H Q E h => ?_) (fun cdv A' outer s H vs Q E hgu hr h => ?_)
  · obtain ⟨a, ns, rfl, _⟩ := h
    rfl
  · obtain ⟨sa, ns, rfl, hs0, hlen, q⟩ := h
    have hr1 : Room 1 _ := hr.mono (by omega)
    have hr2 : Room 2 _ := hr.mono (by omega)
    have hr3 : Room 3 _ := hr.mono (by omega)
    have hr5 : Room 5 _ := hr.mono (by omega)
    refine ⟨_, (pss_cons
      (ps_set (i := 1) sc_law.nd rfl (Or.inl rfl) (pe_call GK hr1 rfl A.deck.g A.deck.F.kp bK .nil pass0 (pa_cons (pv 0) pa_nil)))
    (pss_cons
      (ps_for PassesOwn.never rfl (pi_range1 rfl A.B.n_range (pa_cons pe_int pa_nil)) (pg_name (i := 2) sc_law.nd rfl (Or.inl rfl))
        (pss_cons
          (ps_par (i := 3) (j := 4) (by rfl) sc_law.nd rfl rfl (by decide) rfl rfl (pa_cons (pe_call GN hr2 rfl A.names.g A.names.F.kp bN .nil pass0 (pa_cons (pv 1) (pa_cons (pe_ix ix_list (pe_lst (pa_cons pe_int (pa_cons pe_int (pa_cons pe_int (pa_cons pe_int pa_nil))))) (pe_call GD hr1 rfl A.R.draw.g A.R.draw.F.kp bD .nil pass0 (pa_cons (pv 1) (pa_cons pe_int pa_nil))) (fun _ _ => rfl)) pa_nil))) (pa_cons pe_int pa_nil)) (by rfl))
        (pss_cons
          (ps_if (pt_cmpR op_eq (pe_call GD hr1 rfl A.R.draw.g A.R.draw.F.kp bD .nil pass0 (pa_cons (pv 1) (pa_cons pe_int pa_nil))) pe_int (nomark _))
            (pss_one
              (ps_set (i := 4) sc_law.nd rfl (Or.inl rfl) pe_int))
            pss_nil)
        (pss_cons
          (ps_set (i := 5) sc_law.nd rfl (Or.inl rfl) (pe_call GW hr3 rfl A.drawn.g A.drawn.F.kp bW .nil pass0 (pa_cons (pv 1) (pa_cons (pv 3) (pa_cons (pv 4) pa_nil)))))
        (pss_cons
          (ps_set (i := 6) sc_law.nd rfl (Or.inl rfl) (pe_make A.C.made GV hr5 rfl A.C.g bV .nil pass0 (pa_cons (pv 3) (pa_cons (pv 4) (pa_cons (pe_callTy call_tuple_of (by rfl) A.B.n_tuple (by decide +kernel) (pa_cons (pe_callTy (KVl.call_listV (by rfl)) (by rfl) A.B.n_list (by decide +kernel) (pa_cons (pe_bm0 PySem.F.plainAttrs_dict PySem.F.slot_dict_values PySem.F.type_dict_values KVl.mt_valuesT (pv 5)) pa_nil)) pa_nil)) pa_nil)))))
        (pss_one
          (ps_for PassesOwn.never rfl (pi_range1 rfl A.B.n_range (pa_cons pe_int pa_nil)) (pg_name (i := 7) sc_law.nd rfl (Or.inl rfl))
            (pss_cons
              (ps_asg (pe_call GR hr3 rfl A.rows.g A.rows.F.kp bR .nil pass0 (pa_cons (pv 1) (pa_cons (pv 3) (pa_cons (pv 5) (pa_cons (pv 4) pa_nil))))) (pg_tup (by rfl) (pgs_cons (pg_name (i := 8) sc_law.nd rfl (Or.inl rfl)) (pgs_cons (pg_name (i := 9) sc_law.nd rfl (Or.inl rfl)) pgs_nil))))
            (pss_one
              (ps_if (pt_not (pt_val (pe_callG GL hgu hr rfl A.lr.g A.lr.F.kp bL .nil pass0 (pa_cons (pv 3) (pa_cons (pv 5) (pa_cons (pv 6) (pa_cons (pv 8) (pa_cons (pv 9) (pa_cons (pv 4) pa_nil)))))))))
                (pss_one
                  (ps_ret pe_bl))
                pss_nil))))))))))
    (pss_one
      (ps_ret pe_bl)))), ?_⟩
    refine ⟨_, rfl, sa, ns, rfl, hs0, hlen, fun d l H1 hd hl e1 D1 => ?_⟩
    refine ⟨2, rfl, by decide, by decide, ?_⟩
    refine for_range (lo := 0) (n := 2) (fun i σ H' => ∃ v2 v3 v4 v5 v6 v7 v8 v9 : Option V, σ = [some (.ref sa), some (.ref d), v2, v3, v4, v5, v6, v7, v8, v9] ∧ DeckAt H' d l (i * 2000))
      ⟨none, none, none, none, none, none, none, none, rfl, D1⟩ ?_ ?_
    · rintro i σ H2 hi ⟨v2, v3, v4, v5, v6, v7, v8, v9, rfl, D2⟩
      obtain ⟨k0, hk0⟩ : ∃ k0, i * 2000 = k0 := ⟨_, rfl⟩
      have hkb : k0 < 4000 := by omega
      rw [hk0] at D2
      -- base, many
      refine ⟨_, rfl, by show 4 ≤ sizeLine; decide, fun q4 hq4 => ?_⟩
      have e3 : Same H2 (upd H2 q4 (.lst [V.int 2, V.int 3, V.int 3, V.int 1])) := same_new hq4
      have h3 : upd H2 q4 (.lst [V.int 2, V.int 3, V.int 3, V.int 1]) q4 = some (.lst [V.int 2, V.int 3, V.int 3, V.int 1]) := upd_same
      have n3 : q4 ≠ l := (neD D2 hq4).2
      generalize upd H2 q4 (.lst [V.int 2, V.int 3, V.int 3, V.int 1]) = H3 at e3 h3 ⊢
      have D3 := D2.same e3
      refine ⟨_, rfl, d, l, 4, k0, rfl, D3, by decide, by decide, by omega, fun j H4 j0 j1 D4 o4 => ?_⟩
      have h4 := lst_offD h3 n3 D3 o4
      obtain ⟨m, m1, m3, hm⟩ : ∃ m : Nat, 1 ≤ m ∧ m ≤ 3 ∧ [V.int 2, V.int 3, V.int 3, V.int 1][j.toNat]? = some (V.int (m : Nat)) := by
        have : j.toNat = 0 ∨ j.toNat = 1 ∨ j.toNat = 2 ∨ j.toNat = 3 := by omega
        rcases this with z | z | z | z <;> rw [z]
        · exact ⟨2, by decide, by decide, rfl⟩
        · exact ⟨3, by decide, by decide, rfl⟩
        · exact ⟨3, by decide, by decide, rfl⟩
        · exact ⟨1, by decide, by decide, rfl⟩
      refine ⟨q4, _, j, V.int (m : Nat), rfl, rfl, SqL.of h4, at_of (j := j.toNat) (by omega) hm, d, l, m, k0 + 1, rfl, D4, by omega, by omega, fun b xs H5 _ D5 o5 hb5 xlen inP asc => ⟨_, _, rfl, ?_⟩⟩
      have D5 := D5.up (k := k0 + 4) (by omega)
      have ok : ∀ x ∈ xs, nameOk x = true := fun x hx => pool_ok x (inP x hx)
      have l1 : 1 ≤ xs.length := by omega
      have l3 : xs.length ≤ 3 := by omega
      clear hq4 h3 h4 n3 e3 hm j0 j1 D4 o4 D3 o5
      refine ⟨_, rfl, d, l, 3, k0 + 4, rfl, D5, by decide, by decide, by omega, fun j2 H6 a0 a1 D6 o6 => ⟨rfl, _, rfl, ite2 (fun _ => ?c4) fun _ => ?c3⟩⟩
      case' c4 =>
        obtain ⟨k, hk, ek⟩ : ∃ k : Nat, (k = 3 ∨ k = 4) ∧ (V.int 4 : V) = V.int (k : Nat) := ⟨4, .inr rfl, rfl⟩
        rw [ek]
      case' c3 =>
        obtain ⟨k, hk, ek⟩ : ∃ k : Nat, (k = 3 ∨ k = 4) ∧ (V.int 3 : V) = V.int (k : Nat) := ⟨3, .inl rfl, rfl⟩
        rw [ek]
      all_goals
        have hb6 := tup_off hb5 D5 o6
        -- drawn
        refine ⟨_, rfl, _, rfl, _, rfl, d, l, b, xs, k, k0 + 5, rfl, D6, by omega, hb6, asc, ok, l1, l3, hk, fun t rs H7 nt D7 o7 hT7 G => ?_⟩
        have hb7 := tup_off hb6 D6 o7
        obtain ⟨ks, ht, eks⟩ := id hT7
        have lrs : ks.length = (rs.map V.str).length := by
          have z := congrArg List.length eks
          rw [List.length_map] at z
          rw [List.length_map, z, G.len]
        -- made
        refine ⟨_, rfl, _, rfl, _, rfl, .inr (.inr (.inl ⟨rfl, .inr ⟨_, ht⟩⟩)), t, _, rfl, rfl, ht, fun p1 hp1 => ⟨p1, t, _, rfl, upd_same, same_new hp1 _ _ ht, fun l2 hl2 => ⟨l2, _, rfl, .inl ⟨SqL.of upd_same, fun r hr2 => ?_⟩⟩⟩⟩
        rw [dt_vals lrs] at hr2 ⊢
        have e8 := same_trans (same_new (o := KVl.valsO p1 t) hp1) (same_trans (same_new (o := .lst (rs.map V.str)) hl2) (same_new (o := .tup (rs.map V.str)) hr2))
        refine fun o dx ho hdx ne => make_vt (e8 _ _ hb7) upd_same G ho hdx ne fun H9 e9 vo => ⟨rfl, ?_⟩
        have e79 := same_trans e8 e9
        have D9 := D7.same e79
        have hb9 := e79 _ _ hb7
        have hT9 := hT7.up e79
        refine ⟨2, rfl, by decide, by decide, ?_⟩
        refine for_range (lo := 0) (n := 2) (fun i2 σ H' => ∃ v7 v8 v9 : Option V, σ = [some (.ref sa), some (.ref d), some (V.int (0 + (i : Nat))), some (.ref b), some (.int (k : Nat)), some (.ref t), some (.ref o), v7, v8, v9] ∧ DeckAt H' d l (k0 + 305 + 100 * i2) ∧ Off d l H9 H')
          ⟨_, _, _, rfl, D9, Off.refl⟩ ?_ ?_
        · rintro i2 σ HA hi2 ⟨w7, w8, w9, rfl, DA, oA⟩
          have hbA := tup_off hb9 D9 oA
          have hTA := hT9.offD D9 oA
          have voA := vo.offD D9 oA
          refine ⟨_, rfl, _, rfl, _, rfl, _, rfl, d, l, b, t, k0 + 305 + 100 * i2, k, xs, rs, rfl, DA, by omega, hbA, hTA, G, fun T L kz n HB DB oB hTB hLB hkB hgB n1 n3 lk nd nL => ⟨T, _, rfl, SqT.of hTB, rfl, _, _, rfl, _, _, rfl, rfl, ?_⟩⟩
          have hbB := tup_off hbA DA oB
          have hTB2 := hTA.offD DA oB
          have voB := voA.offD DA oB
          refine ⟨_, rfl, _, rfl, _, rfl, _, rfl, _, rfl, _, rfl, b, t, o, L, kz, xs, rs, k, n, rfl, hbB, hTB2, voB, G, n1, n3, hLB, hkB, hgB, lk, nd, fun HC eC => ⟨true, rfl, iteF ?_⟩⟩
          exact ⟨_, _, _, rfl, (DB.same eC).up (by omega), (oA.trans oB).trans (Off.of eC)⟩
        · rintro σ HA ⟨w7, w8, w9, rfl, DA, oA⟩
          exact ⟨_, _, _, _, _, _, _, _, rfl, DA.up (by omega)⟩
    · rintro σ H1 ⟨v2, v3, v4, v5, v6, v7, v8, v9, rfl, D1⟩
      exact q H1
end
end K01
/-! The law's walk from a promise that leans on repr: a law is called where nothing is being shown. -/
namespace KG
open PySem PySem.Spec PyProof.Rows L2
section
variable {P : Program} {w : World} {K : PySem.W.Frag} {mg mb : Str → Option Value} {CX : CXT} {k : Nat} {fa a : Addr} {fd : FuncData} {x : Str} {sp : Sp} {s1 : Shared}
/-- what the law's call must leave -/
abbrev LawR (s1 : Shared) : Result → Shared → Prop := fun r s' => r = .ok (.ret (.bool true)) ∧ OldK s1.heap s'.heap ∧ s'.os = s1.os ∧ AllBare s'.gens
/-- from an abstract heap that knows at most the script -/
theorem law_at {o : Obj} (KI : K.In s1.heap) (n1 : s1.heap.Ns mainGlobals mg) (n2 : s1.heap.Ns builtinsNs mb) (n3 : ∀ y : Str, y ≠ "__name__" → mb y = bootBuiltins y) (lim : s1.heap.NoLimit) (g0 : s1.gens = #[]) (hr : Room k callerA)
    (ho : s1.heap.get? a = some o) (nd : ∀ es ep, o.data ≠ .dict es ep) (F : ∀ base : Heap, K.In base → base.Ns mainGlobals mg → FnG P w K mg base CX k fa fd [x] sp) (bd : ∀ (s : Shared) (u : Value), BindsTo s fd ⟨[u], []⟩ [(x, u)])
    (cx : ∀ H e s', CX [] H s1 (fun _ _ _ => False) e s' → False) (H : Hp) (only : Only H) (ok : HOk P w H s1.heap) (h1 : ∀ b, H b ≠ none → b = a) (h2 : H a ≠ none → K.lookup a = none)
    (pr : sp [.ref a] H (fun v _ => v = .bl true) fun _ _ _ => False) : codeAny (model P w) callerA (.call (.ref fa) ⟨[.ref a], []⟩) (LawR s1) s1 := by
  -- what is no object that H knows stands in the base, too
  have inB : ∀ {b : Addr} {u : Obj}, s1.heap.get? b = some u → (H b ≠ none → False) → (hidT s1.heap H).get? b = some u := fun {b u} e n => hidT_get e (by
    cases q : H b with
    | none => rfl
    | some z => exact (n (by rw [q]; exact fun y => nomatch y)).elim)
  have dictB : ∀ {b : Addr} {u : Obj} {es : Array DictEntry} {ep : Nat}, s1.heap.get? b = some u → u.data = .dict es ep → (hidT s1.heap H).get? b = some u := fun {b u es ep} e d => inB e fun z => by
    have q := h1 b z
    rw [q, ho] at e
    rw [Option.some.inj e] at nd
    exact nd _ _ d
  have nsB : ∀ {b : Addr} {m : Str → Option Value}, s1.heap.Ns b m → (hidT s1.heap H).Ns b m := fun ⟨u, es, ep, e, d, r⟩ => ⟨u, es, ep, dictB e d, d, r⟩
  have KB : K.In (hidT s1.heap H) := fun b u e => inB (KI b u e) fun z => by
    have q := h1 b z
    rw [q] at e z
    rw [h2 z] at e
    cases e
  obtain ⟨mc, l1, l2⟩ := lim
  have env : Env0 P w K mg (hidT s1.heap H) callerA [] s1 H :=
    ⟨rfl, ⟨KB, nsB n1, ⟨mb, nsB n2, n3⟩, ⟨mc, nsB l1, l2⟩⟩, fun _ _ e => of_hidT e, Nat.le_of_eq (hidT_size _ _), trivial, fun _ z => (by cases z), ok, .of_eq g0⟩
  refine codeAny_mono ((F _ KB (nsB n1)).go callerA [] s1 H ⟨[.ref a], []⟩ [.ref a] [.ref a] _ _ rfl hr env (bd s1 (.ref a)) (.cons rfl .nil) pr) ?_
  rintro (er | fl) s' z
  · exact (cx H er s' z).elim
  · cases fl with
    | ret u =>
      obtain ⟨v, H', os, bare, un, ok', r, (rfl : v = .bl true)⟩ := z
      have eu : u = Value.bool true := r
      subst eu
      refine ⟨rfl, OldK.of_keep fun b o' e => ?_, os, bare⟩
      cases q : H b with
      | none => exact un.keep b o' e q (fun z => (by cases z)) (by simp)
      | some t =>
        rcases only b with y | ⟨ob, xs, y⟩
        · rw [q] at y
          cases y
        · have y1 := (ok b _ y).1
          have y2 := (ok' b _ (un.frzs b ob _ y)).1
          rw [e] at y1
          cases y1
          exact y2
    | next => exact z.elim
    | brk => exact z.elim
    | cont => exact z.elim
end
/-- the goal that the head leaves, from such a promise -/
theorem walkG {l : PySem.W.OpenLaw} {n k : Nat} {q : Program} {loose : List Str} {XP : (Str → Option Value) → Heap → Prop} {YP : World → Heap → Prop} {d : DefRec} {K : Params → PySem.W.Frag} {CX : CXT} {sp : PySem.W.Frag → Sp} {x : Str}
    (h1 : l.most = some n) (h2 : n ≤ sizeLine) (h3 : d.params.defaults = []) (hr : Room k callerA) (hY : ∀ (w : World) (h : Heap), YP w h → (K w.params).In h)
    (F : ∀ (w : World) (mg : Str → Option Value) (fa : Addr) (h : Heap), (K w.params).In h → h.Ns mainGlobals mg → mg d.name = some (.ref fa) →
      ∃ fd : FuncData, (∀ (s : Shared) (u : Value), BindsTo s fd ⟨[u], []⟩ [(x, u)]) ∧ ∀ base : Heap, (K w.params).In base → base.Ns mainGlobals mg → FnG l.prog w (K w.params) mg base CX k fa fd [x] (sp (K w.params)))
    (pr : ∀ (K : PySem.W.Frag) (H : Hp) (a : Addr) (ns : List Int), ns.length ≤ n → Only H → SqL K H a (ns.map V.int) → sp K [.ref a] H (fun v _ => v = .bl true) fun _ _ _ => False)
    (cx : ∀ (H : Hp) (s : Shared) (e : Value) (s' : Shared), CX [] H s (fun _ _ _ => False) e s' → False) :
    PySem.W.WalkO q loose XP YP l.row.toRowW d [] (fun f vs => PySem.call f vs) := by
  refine Att.attach_call h1 h3 fun w s0 s1 mg mb fa o pm cd doc a vs ns G Y ho hd hcd hmg hobj hints hlen hg => ?_
  have KI := hY w _ Y
  obtain ⟨fd, bd, FF⟩ := F w mg fa _ KI G.T.g hmg
  have rv := vals_ints hints
  have small : ns.length ≤ sizeLine := Nat.le_trans hlen h2
  have nd : ∀ (es : Array DictEntry) (ep : Nat), (Data.seq vs.toArray 0 : Data) ≠ .dict es ep := fun _ _ z => nomatch z
  cases hk : (K w.params).lookup a with
  | some o1 =>
    have e := KI a o1 hk
    rw [hobj] at e
    cases e
    have none0 : ∀ b, (fun _ : Addr => (none : Option HO)) b ≠ none → False := fun b z => z rfl
    refine law_at KI G.T.g G.T.b G.T.builtins G.T.nolimit hg hr hobj (fun _ _ z => nomatch z) FF bd (fun H e s' => cx H s1 e s') (fun _ => none) (fun _ => .inl rfl) (fun b u z => nomatch z) (fun b z => (none0 b z).elim) (fun z => (none0 a z).elim)
      (pr _ _ _ ns hlen (fun _ => .inl rfl) (.inr ⟨_, vs.toArray, _, hk, rfl, rfl, rfl, ?_, ?_⟩))
    · rw [List.size_toArray, hints.length]
      exact small
    · simpa using rv
  | none =>
    have at_ : (fun b => if b = a then some (HO.frz { cls := .type "list", data := .seq vs.toArray } (.lst (ns.map V.int))) else none) a = some (HO.frz { cls := .type "list", data := .seq vs.toArray } (.lst (ns.map V.int))) := if_pos rfl
    have off : ∀ b, b ≠ a → (fun b => if b = a then some (HO.frz { cls := .type "list", data := .seq vs.toArray } (.lst (ns.map V.int))) else none) b = none := fun b z => if_neg z
    generalize (fun b => if b = a then some (HO.frz { cls := .type "list", data := .seq vs.toArray } (.lst (ns.map V.int))) else none) = H at at_ off
    have only : Only H := fun b => by
      by_cases z : b = a
      · rw [z]
        exact .inr ⟨_, _, at_⟩
      · exact .inl (off b z)
    have here : ∀ b, H b ≠ none → b = a := fun b z => by
      by_cases y : b = a
      · exact y
      · exact absurd (off b y) z
    have ok : HOk l.prog w H s1.heap := fun b u z => by
      have e := here b (by rw [z]; exact fun y => nomatch y)
      rw [e, at_] at z
      cases z
      rw [e]
      exact ⟨hobj, by rw [List.length_map]; exact small, vs, _, rv, hobj⟩
    exact law_at KI G.T.g G.T.b G.T.builtins G.T.nolimit hg hr hobj (fun _ _ z => nomatch z) FF bd (fun H e s' => cx H s1 e s') H only ok here (fun _ => hk) (pr _ _ _ ns hlen only (.inl (.inr ⟨_, at_⟩)))
end KG
/-! What the top has written: each def, each class, from what is read there. -/
namespace K01
open PySem PySem.Spec PyProof.Rows L2 KG KS KA KX KIa KFz KTc
section
variable {K : PySem.W.Frag} {h : Heap} {mg : Str → Option Value}
theorem fn_ex (X : K.In h) (G : h.Ns mainGlobals mg) {x : Str} {st : Stmt} {f : Addr} {oc kV doc pm cdv ct : Value} {od an : Option Addr} {osl : Array (Option Value)} (a : PySem.W.nsIn K mainGlobals x = some (some (.ref f)))
    (l : K.lookup f = some ⟨oc, od, .func (PySem.W.fnOf x x (defArgs st) (defBody st) (defScope st) .none kV doc pm an cdv ct), osl⟩) (c : PySem.W.codeIn K cdv x = true) (k : PySem.W.keepIn K (.ref f) = true) : ∃ e : FnF K mg x x st, e.a = f :=
  ⟨⟨f, _, fun_mk l c k, PySem.W.mg_of X G a⟩, rfl⟩
theorem ci_ex (X : K.In h) {C : Addr} {x qual y : Str} {st : Stmt} {f : Addr} {oc kV doc pm cdv ct : Value} {od an : Option Addr} {osl : Array (Option Value)} (g : PySem.W.nsIn K mainGlobals y = some (some (.ref C))) (a : PySem.W.findIn K (.ref C) x = some (some (.ref f)))
    (l : K.lookup f = some ⟨oc, od, .func (PySem.W.fnOf x qual (defArgs st) (defBody st) (defScope st) .none kV doc pm an cdv ct), osl⟩) (c : PySem.W.codeIn K cdv qual = true) (k : PySem.W.keepIn K (.ref f) = true) : ∃ e : MtF K x qual st, e.a = f := ⟨⟨f, _, fun_mk l c k⟩, rfl⟩
theorem mt_ex (X : K.In h) {x qual : Str} {C : Addr} {st : Stmt} {f T : Addr} {oc doc pm cdv ct kV : Value} {od an : Option Addr} {osl : Array (Option Value)} {o2 : Obj} {n2 : Nat} {t0 : Addr} {o3 : Obj} {n3 : Nat}
    (g : PySem.W.nsIn K mainGlobals x = some (some (.ref C))) (i : PySem.W.findIn K (.ref C) "__init__" = some (some (.ref f)))
    (l : K.lookup f = some ⟨oc, od, .func (PySem.W.fnOf "__init__" qual (defArgs st) (defBody st) (defScope st) (.ref T) kV doc pm an cdv ct), osl⟩) (c : PySem.W.codeIn K cdv qual = true) (k : PySem.W.keepIn K (.ref f) = true)
    (lT : K.lookup T = some o2) (oT : o2.data = .seq [.ref t0].toArray n2) (l0 : K.lookup t0 = some o3) (c0 : o3.cls = .type "tuple") (d0 : o3.data = .seq #[] n3) : ∃ e : MtD K "__init__" qual st, e.a = f ∧ Nonempty (Nought K e.v) :=
  ⟨⟨f, _, .ref t0, ⟨⟨oc, od, .ref T, kV, doc, pm, an, cdv, ct, osl, rfl, l, c, .inr ⟨by simp, T, o2, [.ref t0], n2, rfl, lT, oT, .cons rfl .nil⟩, .inl rfl⟩, k⟩⟩, rfl, ⟨⟨t0, rfl, fun H H' _ => ⟨.inr ⟨o3, #[], n3, l0, c0, d0, by show 0 ≤ sizeLine; exact Nat.zero_le _, .nil⟩, .kTuple l0 c0⟩⟩⟩⟩
theorem cm_ex (X : K.In h) {C p g : Addr} {mc : Value} {rest : List Value} {m qual : Str} {st : Stmt} {oc kV doc pm cdv ct : Value} {od an : Option Addr} {osl : Array (Option Value)}
    (a : PySem.W.findCls K (.ref C) mc m = some (.get (.builtin "classmethod.__get__") (.ref p) .none (.ref C))) (r : PySem.W.recIn K p "classmethod" = some (.ref g :: rest))
    (l : K.lookup g = some ⟨oc, od, .func (PySem.W.fnOf m qual (defArgs st) (defBody st) (defScope st) .none kV doc pm an cdv ct), osl⟩) (c : PySem.W.codeIn K cdv qual = true) (k : PySem.W.keepIn K (.ref g) = true) (i : PySem.W.fnIn K g = true) :
    Nonempty (MtC K C mc m qual st) := ⟨⟨⟨g, _, fun_mk l c k⟩, p, ⟨a, ⟨_, r⟩, i⟩⟩⟩
theorem rd_ex (X : K.In h) {C : Addr} {mc : Value} (r : PySem.W.readsIn K C mc = true) (g : PySem.W.specialIn K (.ref C) "__getattribute__" = some (some (.builtin "type.__getattribute__"))) : ClX.CRead K C mc := ⟨r, g⟩
theorem mf_ex (X : K.In h) {C : Addr} {x qual : Str} {st : Stmt} {f : Addr} {oc kV doc pm cdv ct : Value} {od an : Option Addr} {osl : Array (Option Value)} (a : PySem.W.findIn K (.ref C) x = some (some (.ref f)))
    (l : K.lookup f = some ⟨oc, od, .func (PySem.W.fnOf x qual (defArgs st) (defBody st) (defScope st) .none kV doc pm an cdv ct), osl⟩) (c : PySem.W.codeIn K cdv qual = true) (k : PySem.W.keepIn K (.ref f) = true) (i : PySem.W.isFn K (.ref f) = true) :
    ∃ e : MtF K x qual st, PySem.W.findIn K (.ref C) x = some (some (.ref e.a)) ∧ PySem.W.isFn K (.ref e.a) = true := ⟨⟨f, _, fun_mk l c k⟩, a, i⟩
theorem mm_ex (X : K.In h) {C : Addr} {x qual : Str} {st : Stmt} {f : Addr} {oc kV doc pm cdv ct : Value} {od an : Option Addr} {osl : Array (Option Value)} (a : PySem.W.findIn K (.ref C) x = some (some (.ref f)))
    (l : K.lookup f = some ⟨oc, od, .func (PySem.W.fnOf x qual (defArgs st) (defBody st) (defScope st) .none kV doc pm an cdv ct), osl⟩) (c : PySem.W.codeIn K cdv qual = true) (k : PySem.W.keepIn K (.ref f) = true) (i : PySem.W.isFn K (.ref f) = true) :
    ∃ e : MtF K x qual st, Meth K C x e.a := ⟨⟨f, _, fun_mk l c k⟩, a, i, k⟩
theorem bs_ex (X : K.In h) (G : h.Ns mainGlobals mg) {t1 t2 t3 : Tok} (z1 : PySem.W.nsIn K mainGlobals "list" = some none) (z2 : PySem.W.nsIn K mainGlobals "int" = some none) (z3 : PySem.W.nsIn K mainGlobals "len" = some none)
    (z4 : PySem.W.nsIn K mainGlobals "range" = some none) (z5 : PySem.W.nsIn K mainGlobals "tuple" = some none) (z6 : PySem.W.nsIn K mainGlobals "repr" = some none) (z7 : PySem.W.nsIn K mainGlobals "isinstance" = some none)
    (z8 : PySem.W.nsIn K mainGlobals "all" = some none) (z9 : PySem.W.nsIn K mainGlobals "sorted" = some none) (zA : PySem.W.nsIn K mainGlobals "set" = some none) (zB : PySem.W.nsIn K mainGlobals "str" = some none) (zC : PySem.W.nsIn K mainGlobals "bool" = some none)
    (zD : PySem.W.nsIn K mainGlobals "dict" = some none) (zE : PySem.W.nsIn K mainGlobals "zip" = some none) (zF : PySem.W.nsIn K mainGlobals "min" = some none)
    (c1 : PySem.W.nsIn K mainGlobals "LONGEST_NAME" = some (some (.int 8 t1))) (c2 : PySem.W.nsIn K mainGlobals "MOST_VALUES" = some (some (.int 3 t2))) (c3 : PySem.W.nsIn K mainGlobals "MOST_WIDTH" = some (some (.int 3 t3))) : By mg :=
  { n_list := PySem.W.mg_none_of X G z1, n_int := PySem.W.mg_none_of X G z2, n_len := PySem.W.mg_none_of X G z3, n_range := PySem.W.mg_none_of X G z4, n_tuple := PySem.W.mg_none_of X G z5, n_repr := PySem.W.mg_none_of X G z6,
    n_isinstance := PySem.W.mg_none_of X G z7, n_all := PySem.W.mg_none_of X G z8, n_sorted := PySem.W.mg_none_of X G z9, n_set := PySem.W.mg_none_of X G zA, n_str := PySem.W.mg_none_of X G zB, n_bool := PySem.W.mg_none_of X G zC,
    c_name := ⟨t1, PySem.W.mg_of X G c1⟩, c_vals := ⟨t2, PySem.W.mg_of X G c2⟩, c_width := ⟨t3, PySem.W.mg_of X G c3⟩,
    n_dict := PySem.W.mg_none_of X G zD, n_zip := PySem.W.mg_none_of X G zE, n_min := PySem.W.mg_none_of X G zF }
theorem vt_ex (X : K.In h) (G : h.Ns mainGlobals mg) {C f : Addr} (g : PySem.W.nsIn K mainGlobals "Vote" = some (some (.ref C))) (pg : PySem.W.plainGet K C Str.empty = true) (hd : PySem.W.hasDictIn K C = true) (po : PySem.W.plainOver K C = true)
    (sa : PySem.W.findIn K (.ref C) "__setattr__" = some (some (.builtin "object.__setattr__"))) (mk : PySem.W.makesIn K C = true) (i : PySem.W.findIn K (.ref C) "__init__" = some (some (.ref f))) (fn : PySem.W.isFn K (.ref f) = true) (kp : PySem.W.keepIn K (.ref C) = true)
    (n1 : PySem.W.findIn K (.ref C) "domain" = some none) (n2 : PySem.W.findIn K (.ref C) "count" = some none) (n3 : PySem.W.findIn K (.ref C) "results" = some none) (n4 : PySem.W.findIn K (.ref C) "result_of" = some none) : ∃ tc : VtC K mg f, tc.C = C := ⟨⟨C, PySem.W.mg_of X G g, ⟨pg, hd, po, sa⟩, ⟨mk, i, fn, kp⟩, n1, n2, n3, n4⟩, rfl⟩
theorem tab_ex (X : K.In h) (G : h.Ns mainGlobals mg) {C f : Addr} (g : PySem.W.nsIn K mainGlobals "Table" = some (some (.ref C))) (pg : PySem.W.plainGet K C Str.empty = true) (hd : PySem.W.hasDictIn K C = true) (po : PySem.W.plainOver K C = true)
    (sa : PySem.W.findIn K (.ref C) "__setattr__" = some (some (.builtin "object.__setattr__"))) (mk : PySem.W.makesIn K C = true) (i : PySem.W.findIn K (.ref C) "__init__" = some (some (.ref f))) (fn : PySem.W.isFn K (.ref f) = true) (kp : PySem.W.keepIn K (.ref C) = true)
    (n1 : PySem.W.findIn K (.ref C) "domain" = some none) (n2 : PySem.W.findIn K (.ref C) "width" = some none) (n3 : PySem.W.findIn K (.ref C) "rows" = some none) (n4 : PySem.W.findIn K (.ref C) "is_full" = some none) (n5 : PySem.W.findIn K (.ref C) "is_product" = some none)
    (ha : PySem.W.findIn K (.ref C) "__class__" = some (some (.builtin "object.__class__"))) (hn : PySem.W.specialIn K (.builtin "object.__class__") "__get__" = some (some (.builtin "getset_descriptor.__get__"))) (htk : PySem.W.takesIn K (.builtin "object.__class__") = some true)
    (hm : PySem.W.mroIn K C (.type "object") = some true) :
    ∃ tc : TabC K mg f, tc.C = C ∧ C8.InsC K tc.C := ⟨⟨C, PySem.W.mg_of X G g, ⟨pg, hd, po, sa⟩, ⟨mk, i, fn, kp⟩, n1, n2, n3, n4, n5⟩, rfl, ⟨⟨pg, hd, po, sa⟩, ha, hn, htk, hm, by unfold PySem.W.kitOne; rw [if_pos (beq_self_eq_true _)]⟩⟩
theorem kw_ex {x : Str} {st : Stmt} {k1 k2 : Str} {ps : List Str} (e : FnF K mg x x st)
    (h : ∀ (kV doc pm : Value) (an : Option Addr) (cdv ct : Value) (u v : Value), bindArgs (PySem.W.fnOf x x (defArgs st) (defBody st) (defScope st) .none kV doc pm an cdv ct) ⟨[], [(k1, u), (k2, v)]⟩ = pure (ps.zip [v, u])) : KwTwo0 e.d ps k1 k2 := by
  obtain ⟨oc, od, kV, doc, pm, an, cdv, ct, osl, e2, lk, hcd⟩ := e.F.ex
  rw [e2]
  exact fun s u v => .of_eq (h kV doc pm an cdv ct u v)
theorem bm_ex (X : K.In h) {C : Addr} {x qual : Str} {st : Stmt} {f : Addr} {oc kV doc pm cdv ct : Value} {od an : Option Addr} {osl : Array (Option Value)} (a : PySem.W.findIn K (.ref C) x = some (some (.ref f)))
    (l : K.lookup f = some ⟨oc, od, .func (PySem.W.fnOf x qual (defArgs st) (defBody st) (defScope st) .none kV doc pm an cdv ct), osl⟩) (c : PySem.W.codeIn K cdv qual = true) (k : PySem.W.keepIn K (.ref f) = true) (i : PySem.W.isFn K (.ref f) = true)
    (gf : PySem.W.specialIn K (.ref f) "__get__" = some (some (.builtin "function.__get__"))) (tk : PySem.W.takesIn K (.ref f) = some false) (cp : PySem.W.copiedNames.contains x = false) (fi : PySem.W.fnIn K f = true) :
    ∃ e : MtF K x qual st, BMeth K C x e.a := ⟨⟨f, _, fun_mk l c k⟩, ⟨⟨a, i, k⟩, gf, tk, cp, fi⟩⟩
theorem law_ex {P : Program} {w : World} {fa : Addr} (hfa : mg "law" = some (.ref fa)) (A : All K mg) (f : FnF K mg "law" "law" s_law) :
    ∃ fd : FuncData, (∀ (s : Shared) (u : Value), BindsTo s fd ⟨[u], []⟩ [("_law_script", u)]) ∧ ∀ base : Heap, K.In base → base.Ns mainGlobals mg → FnG P w K mg base CX0 10 fa fd ["_law_script"] (spLaw K) := by
  have e : fa = f.a := Value.ref.inj (Option.some.inj (hfa.symm.trans f.g))
  subst e
  have bd : ∀ (s : Shared) (u : Value), BindsTo s f.d ⟨[u], []⟩ [("_law_script", u)] := by
    obtain ⟨oc, od, kV, doc, pm, an, cdv, ct, osl, e, _, _⟩ := f.F.ex
    rw [e]
    exact fun s u => .of_eq rfl
  exact ⟨f.d, bd, fun base _ _ => ok_law A f⟩
end
end K01
open PySem PySem.W PyProof.Rows
set_option maxRecDepth 100000 in
set_option maxHeartbeats 0 in
theorem PySem.Challenge.cw_clashnumber_k36_closings_returned_holds : PySem.Challenge.rw_clashnumber_k36_closings_returned.Holds := by
  w_on; o_law; k_head; (case hw => w_witness2)
  k_fill
  refine KG.walkG (l := PySem.Challenge.rw_clashnumber_k36_closings_returned) (n := 63) (k := 10) (x := "_law_script") (CX := L2.CX0) (sp := K01.spLaw) rfl (by decide) rfl ⟨rfl, by decide, by decide⟩ (fun w h Y => PySem.W.kIn_of Y) ?F (fun _ _ a ns hl _ hS => ⟨a, ns, rfl, hS, hl, fun _ => rfl⟩) (fun _ _ _ _ z => z)
  case F =>
    intro w mg fa h KX G hmg
    have B := K01.bs_ex KX G (by k_is) (by k_is) (by k_is) (by k_is) (by k_is) (by k_is) (by k_is) (by k_is) (by k_is) (by k_is) (by k_is) (by k_is) (by k_is) (by k_is) (by k_is) (by k_is) (by k_is) (by k_is)
    obtain ⟨f_is_domain, -⟩ := K01.fn_ex (x := "is_domain") (st := K01.s_is_domain) KX G (by k_is) (by k_is) (by k_is) (by k_is)
    obtain ⟨f_are_names, -⟩ := K01.fn_ex (x := "are_names") (st := K01.s_are_names) KX G (by k_is) (by k_is) (by k_is) (by k_is)
    obtain ⟨f_is_name, -⟩ := K01.fn_ex (x := "is_name") (st := K01.s_is_name) KX G (by k_is) (by k_is) (by k_is) (by k_is)
    obtain ⟨f_ascending, -⟩ := K01.fn_ex (x := "ascending") (st := K01.s_ascending) KX G (by k_is) (by k_is) (by k_is) (by k_is)
    obtain ⟨f_is_integer, -⟩ := K01.fn_ex (x := "is_integer") (st := K01.s_is_integer) KX G (by k_is) (by k_is) (by k_is) (by k_is)
    obtain ⟨f_is_row, -⟩ := K01.fn_ex (x := "is_row") (st := K01.s_is_row) KX G (by k_is) (by k_is) (by k_is) (by k_is)
    obtain ⟨f_all_rows, -⟩ := K01.fn_ex (x := "all_rows") (st := K01.s_all_rows) KX G (by k_is) (by k_is) (by k_is) (by k_is)
    obtain ⟨f_column_of, -⟩ := K01.fn_ex (x := "column_of") (st := K01.s_column_of) KX G (by k_is) (by k_is) (by k_is) (by k_is)
    obtain ⟨f_without, -⟩ := K01.fn_ex (x := "without") (st := K01.s_without) KX G (by k_is) (by k_is) (by k_is) (by k_is)
    obtain ⟨f_winner, -⟩ := K01.fn_ex (x := "winner") (st := K01.s_winner) KX G (by k_is) (by k_is) (by k_is) (by k_is)
    obtain ⟨f_is_pair, -⟩ := K01.fn_ex (x := "is_pair") (st := K01.s_is_pair) KX G (by k_is) (by k_is) (by k_is) (by k_is)
    obtain ⟨f_arguments_with_last, -⟩ := K01.fn_ex (x := "arguments_with_last") (st := K01.s_arguments_with_last) KX G (by k_is) (by k_is) (by k_is) (by k_is)
    obtain ⟨f_closing, -⟩ := K01.fn_ex (x := "closing") (st := K01.s_closing) KX G (by k_is) (by k_is) (by k_is) (by k_is)
    obtain ⟨f_closing_holds, -⟩ := K01.fn_ex (x := "closing_holds") (st := K01.s_closing_holds) KX G (by k_is) (by k_is) (by k_is) (by k_is)
    obtain ⟨f__law_deck, -⟩ := K01.fn_ex (x := "_law_deck") (st := K01.s__law_deck) KX G (by k_is) (by k_is) (by k_is) (by k_is)
    obtain ⟨f__law_draw, -⟩ := K01.fn_ex (x := "_law_draw") (st := K01.s__law_draw) KX G (by k_is) (by k_is) (by k_is) (by k_is)
    obtain ⟨f__law_pick, -⟩ := K01.fn_ex (x := "_law_pick") (st := K01.s__law_pick) KX G (by k_is) (by k_is) (by k_is) (by k_is)
    obtain ⟨f__law_names, -⟩ := K01.fn_ex (x := "_law_names") (st := K01.s__law_names) KX G (by k_is) (by k_is) (by k_is) (by k_is)
    obtain ⟨f__law_tuples, -⟩ := K01.fn_ex (x := "_law_tuples") (st := K01.s__law_tuples) KX G (by k_is) (by k_is) (by k_is) (by k_is)
    obtain ⟨f__law_drawn, -⟩ := K01.fn_ex (x := "_law_drawn") (st := K01.s__law_drawn) KX G (by k_is) (by k_is) (by k_is) (by k_is)
    obtain ⟨f__law_voted, -⟩ := K01.fn_ex (x := "_law_voted") (st := K01.s__law_voted) KX G (by k_is) (by k_is) (by k_is) (by k_is)
    obtain ⟨f__law_closed, -⟩ := K01.fn_ex (x := "_law_closed") (st := K01.s__law_closed) KX G (by k_is) (by k_is) (by k_is) (by k_is)
    obtain ⟨f__law_rows, -⟩ := K01.fn_ex (x := "_law_rows") (st := K01.s__law_rows) KX G (by k_is) (by k_is) (by k_is) (by k_is)
    obtain ⟨f__law_steps_right, -⟩ := K01.fn_ex (x := "_law_steps_right") (st := K01.s__law_steps_right) KX G (by k_is) (by k_is) (by k_is) (by k_is)
    obtain ⟨f__law_right, -⟩ := K01.fn_ex (x := "_law_right") (st := K01.s__law_right) KX G (by k_is) (by k_is) (by k_is) (by k_is)
    obtain ⟨f_law, -⟩ := K01.fn_ex (x := "law") (st := K01.s_law) KX G (by k_is) (by k_is) (by k_is) (by k_is)
    obtain ⟨ti, hti, ⟨Z⟩⟩ := K01.mt_ex (x := "Table") (qual := "Table.__init__") (st := K01.s_tabInit) KX (by k_is) (by k_is) (by k_is) (by k_is) (by k_is) (by k_is) (by rfl) (by k_is) (by rfl) (by rfl)
    obtain ⟨tc, hC, J⟩ := K01.tab_ex (f := ti.a) KX G (by k_is) (by k_is) (by k_is) (by k_is) (by k_is) (by k_is) (by rw [hti]; k_is) (by rw [hti]; k_is) (by k_is) (by k_is) (by k_is) (by k_is) (by k_is) (by k_is) (by k_is) (by k_is) (by k_is) (by k_is)
    obtain ⟨m_not, i_not, n_not⟩ := K01.mf_ex KX (C := tc.C) (x := "__invert__") (qual := "Table.__invert__") (st := K01.s_tabNot) (by rw [hC]; k_is) (by k_is) (by k_is) (by k_is) (by k_is)
    obtain ⟨m_len, i_len, n_len⟩ := K01.mf_ex KX (C := tc.C) (x := "__len__") (qual := "Table.__len__") (st := K01.s_tabLen) (by rw [hC]; k_is) (by k_is) (by k_is) (by k_is) (by k_is)
    obtain ⟨m_eq, i_eq, n_eq⟩ := K01.mf_ex KX (C := tc.C) (x := "__eq__") (qual := "Table.__eq__") (st := K01.s_tabEq) (by rw [hC]; k_is) (by k_is) (by k_is) (by k_is) (by k_is)
    have R := K01.rd_ex KX (C := tc.C) (mc := .type "type") (by rw [hC]; k_is) (by rw [hC]; k_is)
    obtain ⟨m_full⟩ := K01.cm_ex KX (C := tc.C) (mc := .type "type") (m := "full") (qual := "Table.full") (st := K01.s_tabFull) (by rw [hC]; k_is) (by k_is) (by k_is) (by k_is) (by k_is) (by k_is)
    obtain ⟨vi, hvi⟩ := K01.ci_ex KX (y := "Vote") (x := "__init__") (qual := "Vote.__init__") (st := K01.s_vtInit) (by k_is) (by k_is) (by k_is) (by k_is) (by k_is)
    obtain ⟨vc, hVC⟩ := K01.vt_ex (f := vi.a) KX G (by k_is) (by k_is) (by k_is) (by k_is) (by k_is) (by k_is) (by rw [hvi]; k_is) (by rw [hvi]; k_is) (by k_is) (by k_is) (by k_is) (by k_is) (by k_is)
    obtain ⟨m_rv, b_rv⟩ := K01.bm_ex KX (C := vc.C) (x := "rows_voted") (qual := "Vote.rows_voted") (st := K01.s_vtRows) (by rw [hVC]; k_is) (by k_is) (by k_is) (by k_is) (by k_is) (by k_is) (by k_is) (by decide +kernel) (by k_is)
    obtain ⟨m_br, M_br⟩ := K01.mm_ex KX (C := vc.C) (x := "broken") (qual := "Vote.broken") (st := K01.s_vtBroken) (by rw [hVC]; k_is) (by k_is) (by k_is) (by k_is) (by k_is)
    obtain ⟨m_ke, M_ke⟩ := K01.mm_ex KX (C := vc.C) (x := "keeps") (qual := "Vote.keeps") (st := K01.s_vtKeeps) (by rw [hVC]; k_is) (by k_is) (by k_is) (by k_is) (by k_is)
    exact K01.law_ex hmg ⟨B, ⟨f_is_domain, f_are_names, f_is_name, f_ascending, f_is_row, f_all_rows, f_winner, f_without⟩, vi, vc, m_rv, b_rv, ⟨f_is_domain, f_are_names, f_is_name, f_ascending, f_is_integer, f_is_row, f_all_rows, f_column_of⟩, ti, tc, J, Z, _,
      ⟨⟨m_full, R, m_not, i_not, n_not, m_len, i_len, n_len, f_arguments_with_last⟩, ⟨f_is_pair, m_br, M_br, m_ke, M_ke, m_eq, i_eq, n_eq, (by rw [hC]; k_is)⟩, f_closing, K01.kw_ex f_closing (fun _ _ _ _ _ _ _ _ => rfl), f_closing_holds, f__law_steps_right⟩,
      ⟨f__law_draw, f__law_tuples, f__law_voted, f__law_closed⟩, f__law_deck, f__law_pick, f__law_names, f__law_drawn, f__law_rows, f__law_right⟩ f_law
