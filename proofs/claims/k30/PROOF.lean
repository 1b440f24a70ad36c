import PyProof.Rows.All
import Wide.All
import OpenK.AllK
import Wide.FinOn
import HandS.TupSets
import KE.KeyNested
import KE.SortData
import HandS.ForMost
import HandS.Star
import PyProof.ReprRoads
import HandS.Dict
import HandS.Style
import HandS.Evl
import HandS.IsInst
import HandS.StrMore
import HandS.Strs
import HandS.TupAny
import HandS.Lambda
import HandS.Nested
import HandS.SortKw
import KE.SortKeyHeap
import KE.DataFind
import KE.DataMinMax
import KE.KDictZip
import KE.KDictKeyed
import KE.GoesZip
import KE.GoesMore
import KE.GoesEnum
import HandS.More
import PyProof.EqKinds
import PyProof.FactsAll.dict_1
import PyProof.ListNew
import PyProof.CollectWalk
import HandS.ExcInit
import HandS.ExcSuper
import HandS.ExcIs
import HandS.ExcField
import KE.KExcInit
import HandS.Zip
import HandS.Comp
import HandS.ExcValue
import HandS.ForExc
import HandS.SlotsOwn
import HandS.OwnEq
import HandS.Deep
import HandS.ClsMeth
import PyProof.StrLawsRepr
import PyProof.NeKinds
import HandS.TryMany
import HandS.TupMul
import HandS.Text
import HandS.DictTup
import KE.KDictCopyH
import HandS.Walk
import HandS.Ends
import PySem.Challenge.RW_clashnumber_k30_votes_called
set_option Elab.async false
set_option linter.all false
set_option maxRecDepth 100000
set_option maxHeartbeats 16000000
/-! Sets of texts, sets of tuples of texts and numbers: what they hold, the small questions asked of a key, adding a text. -/
namespace KS
open PySem PySem.Spec PyProof.Rows L2

/-- a member: its value, its key -/
abbrev Mem := Value × NestedKey
/-- of a set of texts (false), of a set of tuples (true) -/
def Fit : Bool → Mem → Prop
  | false, m => ∃ x t, m = (Value.str x t, NestedKey.text x)
  | true, m => ∃ c ks, m.1 = Value.ref c ∧ m.2 = NestedKey.tup ks ∧ m.2.depth ≤ 8
def ents (w : World) (L : List Mem) : List (Int × Value) := L.map fun m => (m.2.hash w, m.1)
abbrev hs (w : World) (L : List Mem) : List Int := L.map fun m => m.2.hash w
/-- the set at a: its members in the table's order -/
structure SetK (b : Bool) (w : World) (h : Heap) (a : Addr) (L : List Mem) (es : Array (Int × Value)) (ep : Nat) (t : SetTable) : Prop where
  ob : ∃ o, h.get? a = some o ∧ o.ExactSet ∧ o.data = .set es ep t
  eq : es.toList = ents w L
  nd : (L.map (·.2)).Nodup
  fit : ∀ m ∈ L, Fit b m
  key : ∀ m ∈ L, NestedIs h m.2 m.1
  ris : Ris t.place.toList
  full : t.fits es.size = true
  led : w.params.followText "set-order" = true ∨ t.led = true
  few : L.length < 64
  tab : b = true → TabOk t (hs w L) ∧ L.length * 5 < t.mask * 3
section
variable {P : Program} {w : World} {A : Around} {E : Value → Shared → Prop} {s : Shared} {b : Bool} {a : Addr} {L : List Mem} {es : Array (Int × Value)} {ep : Nat} {t : SetTable}
theorem SetK.size (R : SetK b w s.heap a L es ep t) : es.size = L.length := by
  rw [← Array.length_toList, R.eq, ents, List.length_map]
theorem ents_perm {w : World} {L L' : List Mem} (h : L.Perm L') : (ents w L).Perm (ents w L') := h.map _
theorem ents_get {w : World} {L : List Mem} {es : Array (Int × Value)} (h : es.toList = ents w L) {i : Nat} {m : Mem} (e : L[i]? = some m) : es[i]? = some (m.2.hash w, m.1) := by
  rw [← Array.getElem?_toList, h, ents, List.getElem?_map, e]
  rfl

/-! the small questions -/
theorem all_mem {h : Heap} : ∀ {ks : List NestedKey} {vs : List Value}, NestedAll h ks vs → ∀ v ∈ vs, ∃ k, NestedIs h k v ∧ k.depth ≤ NestedKey.depthAll ks
  | [], _, x, v, hv => by
    cases x
    cases hv
  | k :: ks, _, x, v, hv => by
    cases x with
    | cons x1 x2 =>
      rcases List.mem_cons.mp hv with e | hv
      · rw [e]
        exact ⟨k, x1, Nat.le_max_left _ _⟩
      · obtain ⟨k', y1, y2⟩ := all_mem x2 v hv
        exact ⟨k', y1, Nat.le_trans y2 (Nat.le_max_right _ _)⟩
theorem cls_key : ∀ (n : Nat) (k : NestedKey) (v : Value) (A : Around) (s : Shared) (Q : Bool → Shared → Prop), NestedIs s.heap k v → k.depth ≤ n → Q false s → wpAny (model P w) A (ofAClassStatement n v) Q E s
  | n, .none, _, A, s, Q, x, _, q => by
    cases x
    cases n <;> exact wpAny_pure q
  | n, .num i, _, A, s, Q, x, _, q => by
    cases x <;> cases n <;> exact wpAny_pure q
  | n, .text y, _, A, s, Q, x, _, q => by
    cases x
    cases n <;> exact wpAny_pure q
  | 0, .tup ks, _, A, s, Q, x, hd, q => by
    simp only [NestedKey.depth] at hd
    omega
  | n + 1, .tup ks, _, A, s, Q, x, hd, q => by
    cases x with
    | @tup c o vs m _ h1 h2 h3 h4 =>
      simp only [NestedKey.depth] at hd
      have ty : s.TypeIs (.ref c) "tuple" := ⟨o, h1, h2⟩
      unfold ofAClassStatement
      refine wpAny_bind (wpAny_typeOf ty ?_)
      dsimp only
      have e : (("tuple" : String) == "tuple") = true := by decide
      simp only [e, if_true, Bool.not_true, Bool.false_eq_true, if_false]
      try refine wpAny_bind (wpAny_pure ?_)
      try simp only [Bool.not_true, Bool.false_eq_true, if_false]
      show wpAny _ _ (seqItems? (.ref c) >>= _) _ _ s
      refine wpAny_bind (wpAny_seqItems h1 h3 ?_)
      dsimp only
      refine wpAny_bind ?_
      show wpAny _ _ (forIn vs _ _) _ _ s
      rw [← Array.forIn_toList]
      refine wpAny_forIn_list _ (fun rest r s' => r.1 = none ∧ s' = s ∧ ∀ u ∈ rest, u ∈ vs.toList) _ ?_ ?_ _ _ ⟨rfl, rfl, fun _ hu => hu⟩
      · rintro u rest r s' ⟨hr, rfl, hall⟩
        obtain ⟨k', y1, y2⟩ := all_mem h4 u (hall u List.mem_cons_self)
        refine wpAny_bind (cls_key n k' u A s' _ y1 (by omega) ?_)
        simp only [Bool.false_eq_true, if_false]
        exact wpAny_pure ⟨rfl, rfl, fun z hz => hall z (List.mem_cons_of_mem _ hz)⟩
      · rintro ⟨r1, r2⟩ s' ⟨hr, rfl, _⟩
        simp only at hr
        subst hr
        exact wpAny_pure q
theorem byVal_key : ∀ (n : Nat) (k : NestedKey) (v : Value) (A : Around) (s : Shared) (Q : Bool → Shared → Prop), NestedIs s.heap k v → (∀ c, Q c s) → wpAny (model P w) A (hashByValue n v) Q E s
  | n, .none, _, A, s, Q, x, q => by
    cases x
    cases n <;> exact wpAny_pure (q _)
  | n, .num i, _, A, s, Q, x, q => by
    cases x <;> cases n <;> exact wpAny_pure (q _)
  | n, .text y, _, A, s, Q, x, q => by
    cases x
    cases n <;> exact wpAny_pure (q _)
  | 0, .tup ks, _, A, s, Q, x, q => by
    cases x
    exact wpAny_pure (q _)
  | n + 1, .tup ks, _, A, s, Q, x, q => by
    cases x with
    | @tup c o vs m _ h1 h2 h3 h4 =>
      have ty : s.TypeIs (.ref c) "tuple" := ⟨o, h1, h2⟩
      unfold hashByValue
      refine wpAny_bind (wpAny_specialOf ty F.slot_tuple_hash.lookup ?_)
      show wpAny _ _ (seqItems? (.ref c) >>= _) _ _ s
      refine wpAny_bind (wpAny_seqItems h1 h3 ?_)
      refine wpAny_bind ?_
      show wpAny _ _ (forIn vs _ _) _ _ s
      rw [← Array.forIn_toList]
      refine wpAny_forIn_list _ (fun rest r s' => r.1 = none ∧ s' = s ∧ ∀ u ∈ rest, u ∈ vs.toList) _ ?_ ?_ _ _ ⟨rfl, rfl, fun _ hu => hu⟩
      · rintro u rest r s' ⟨hr, rfl, hall⟩
        obtain ⟨k', y1, y2⟩ := all_mem h4 u (hall u List.mem_cons_self)
        refine wpAny_bind (byVal_key n k' u A s' _ y1 fun c => ?_)
        cases c
        · simp only [Bool.not_false, if_true]
          exact wpAny_pure (wpAny_pure (q _))
        · simp only [Bool.not_true, Bool.false_eq_true, if_false]
          exact wpAny_pure ⟨rfl, rfl, fun z hz => hall z (List.mem_cons_of_mem _ hz)⟩
      · rintro ⟨r1, r2⟩ s' ⟨hr, rfl, _⟩
        simp only at hr
        subst hr
        exact wpAny_pure (q _)
theorem wp_two {α : Type} {M : Model} {c : Prop} [Decidable c] {x y : Sem α} {Q : α → Shared → Prop} (h1 : c → wpAny M A x Q E s) (h2 : ¬ c → wpAny M A y Q E s) : wpAny M A (if c then x else y) Q E s := by
  split
  · exact h1 (by assumption)
  · exact h2 (by assumption)
/-- a search among tuples shows nothing -/
theorem seen_key {k : NestedKey} {c : Addr} {Q : Bool → Shared → Prop} (hk : NestedIs s.heap k (.ref c)) (hd : k.depth ≤ 8) {ys : List Value} (hy : ∀ y ∈ ys, ∃ k', NestedIs s.heap k' y ∧ k'.depth ≤ 8) (q : Q false s) :
    wpAny (model P w) A (searchCouldBeSeen (.ref c) ys) Q E s := by
  unfold searchCouldBeSeen
  refine wpAny_bind ?_
  refine wpAny_forIn_list _ (fun (rest : List Value) r s' => r.1 = none ∧ s' = s ∧ ∀ y ∈ rest, y ∈ ys) _ ?_ ?_ _ _ ⟨rfl, rfl, fun _ h => h⟩
  · intro y rest r s' hI
    obtain ⟨hr, rfl, hall⟩ := hI
    obtain ⟨k', y1, y2⟩ := hy y (hall y List.mem_cons_self)
    have keep : ∀ z ∈ rest, z ∈ ys := fun z hz => hall z (List.mem_cons_of_mem _ hz)
    dsimp only
    refine wp_two (fun _ => ?_) fun _ => ?_
    · exact wpAny_pure ⟨rfl, rfl, keep⟩
    · refine wpAny_bind (quiet_key k _ 8 s' hk hd A E _ ?_)
      simp only [Bool.not_true, Bool.false_eq_true, if_false]
      refine wpAny_bind (quiet_key k' _ 8 s' y1 y2 A E _ ?_)
      simp only [Bool.not_true, Bool.false_eq_true, if_false]
      refine wpAny_bind (cls_key 8 k _ A s' _ hk hd ?_)
      simp only [Bool.false_eq_true, if_false]
      refine wpAny_bind (cls_key 8 k' _ A s' _ y1 y2 ?_)
      simp only [Bool.false_eq_true, if_false]
      exact wpAny_pure ⟨rfl, rfl, keep⟩
  · rintro ⟨r1, r2⟩ s' ⟨hr, rfl, _⟩
    simp only at hr
    subst hr
    exact wpAny_pure q
/-- what the set's own writing leaves -/
theorem key_but {h h' : Heap} {o : Obj} (ho : h.get? a = some o) (hd : o.data = .set es ep t) (sb : Heap.SameBut a h h') {k : NestedKey} {v : Value} (x : NestedIs h k v) : NestedIs h' k v :=
  NestedIs.at (fun c o2 vs n e1 e2 => (sb.2 c fun z => by
    rw [z, ho] at e1
    rw [← Option.some.inj e1, hd] at e2
    cases e2).trans e1) k v x
theorem SetK.keep {h h' : Heap} (R : SetK b w h a L es ep t) (ha : ∀ o, h.get? a = some o → h'.get? a = some o) (hk : ∀ m ∈ L, NestedIs h' m.2 m.1) : SetK b w h' a L es ep t := by
  obtain ⟨o, ho, r⟩ := R.ob
  exact { R with ob := ⟨o, ha o ho, r⟩, key := hk }
theorem setK_new {h : Heap} (b : Bool) (ho : h.get? a = some { cls := .type "set", dict := none, data := .set #[] 0 (.fresh 0 0 (!w.params.followText "set-order")) }) : SetK b w h a [] #[] 0 (.fresh 0 0 (!w.params.followText "set-order")) where
  ob := ⟨_, ho, ⟨rfl, rfl, rfl⟩, rfl⟩
  eq := rfl
  nd := List.nodup_nil
  fit := fun _ z => nomatch z
  key := fun _ z => nomatch z
  ris := List.Pairwise.nil
  full := rfl
  led := by
    show _ ∨ (!w.params.followText "set-order") = true
    cases w.params.followText "set-order"
    · exact .inr rfl
    · exact .inl rfl
  few := by decide
  tab := fun _ => ⟨⟨List.Pairwise.nil, rfl, rfl, .inl rfl, fun _ z => (by cases z), fun i h j z => (by simp at z)⟩, by show 0 * 5 < 7 * 3; decide⟩

/-! adding a text -/
theorem text_elems (h : ∀ m ∈ L, Fit false m) : ElemsOf (PySem.strKind P w) (ents w L) := fun e he => by
  obtain ⟨m, hm, rfl⟩ := List.mem_map.mp he
  obtain ⟨x, tk, rfl⟩ := h m hm
  exact ⟨⟨x, strKind_is _ _ _ _, rfl⟩, rfl⟩
theorem text_is (h : ∀ m ∈ L, Fit false m) {y : Str} : (∃ e ∈ ents w L, (PySem.strKind P w).is y e.2 = true) ↔ NestedKey.text y ∈ L.map (·.2) := by
  constructor
  · rintro ⟨e, he, q⟩
    obtain ⟨m, hm, rfl⟩ := List.mem_map.mp he
    obtain ⟨x, tk, rfl⟩ := h m hm
    have e2 : x = y := beq_iff_eq.mp (show (x == y) = true from q)
    exact List.mem_map.mpr ⟨_, hm, by rw [e2]⟩
  · intro hm
    obtain ⟨m, hm, e⟩ := List.mem_map.mp hm
    obtain ⟨x, tk, rfl⟩ := h m hm
    have e2 : x = y := NestedKey.text.inj e
    exact ⟨_, List.mem_map.mpr ⟨_, hm, rfl⟩, by
      show (x == y) = true
      rw [e2]
      exact beq_self_eq_true y⟩
/-- what adding leaves -/
def Added (b : Bool) (w : World) (s : Shared) (a : Addr) (L : List Mem) (m : Mem) (Q : Bool → Shared → Prop) : Prop := ∀ c h' L' es' ep' t', Heap.SameBut a s.heap h' → SetK b w h' a L' es' ep' t' →
  (m.2 ∈ L.map (·.2) → L' = L) → (m.2 ∉ L.map (·.2) → L'.Perm (m :: L)) → Q c { s with heap := h' }
theorem perm_back {α β : Type} (f : α → β) : ∀ (l : List β) (M : List α), l.Perm (M.map f) → ∃ M' : List α, l = M'.map f ∧ M'.Perm M
  | [], M, h => by
    have e : M.map f = [] := List.nil_perm.mp h
    have e2 : M = [] := List.map_eq_nil_iff.mp e
    exact ⟨[], rfl, by rw [e2]⟩
  | y :: r, M, h => by
    obtain ⟨x, hx, e⟩ := List.mem_map.mp (h.mem_iff.mp List.mem_cons_self)
    obtain ⟨A, B, rfl⟩ := List.append_of_mem hx
    subst e
    have pm : (A ++ x :: B).Perm (x :: (A ++ B)) := List.perm_middle
    have h2 := h.trans (pm.map f)
    rw [List.map_cons] at h2
    obtain ⟨M', e1, p⟩ := perm_back f r (A ++ B) (List.Perm.cons_inv h2)
    exact ⟨x :: M', by rw [List.map_cons, e1], (p.cons x).trans pm.symm⟩
theorem ents_of_perm {w : World} {l : List (Int × Value)} {M : List Mem} (h : l.Perm (ents w M)) : ∃ L', l = ents w L' ∧ L'.Perm M := perm_back _ l M h
theorem SetK.perm {h' : Heap} {L' : List Mem} {m : Mem} (R : SetK b w s.heap a L es ep t) (hm : m.2 ∉ L.map (·.2)) (pm : L'.Perm (m :: L)) : (L'.map (·.2)).Nodup ∧ L'.length = L.length + 1 :=
  ⟨(pm.map (·.2)).nodup_iff.mpr (by
    rw [List.map_cons]
    exact List.nodup_cons.mpr ⟨hm, R.nd⟩), by rw [pm.length_eq, List.length_cons]⟩
/-- behind a new text's storing: the table laid anew, if it is too full -/
theorem text_tail {g : Bool → Sem Unit} (hg : ∀ (c : Bool) (s1 : Shared) (Q' : Unit → Shared → Prop), Q' () s1 → wpAny (model P w) A (g c) Q' E s1)
    {o : Obj} (ho : s.heap.get? a = some o) (hex : o.ExactSet) (hd : o.data = .set es ep t) {L1 : List Mem} {es1 : Array (Int × Value)} {t1 : SetTable}
    (e1 : es1.toList = ents w L1) (nd : (L1.map (·.2)).Nodup) (fit : ∀ m ∈ L1, Fit false m) (key : ∀ m ∈ L1, NestedIs s.heap m.2 m.1) (few : L1.length < 64)
    (full : t1.fits es1.size = true) (ris : Ris t1.place.toList) (led : w.params.followText "set-order" = true ∨ t1.led = true) {d : Bool} {R : Option Bool → Shared → Prop}
    (q : ∀ h' L' es' ep' t', Heap.SameBut a s.heap h' → SetK false w h' a L' es' ep' t' → L'.Perm L1 → R (some true) { s with heap := h' }) :
    wpAny (model P w) A (do
        storeSet a es1 t1
        if (!d && t1.tooFull) = true then do
            g (relayAll t1 es1 (SetTable.grown es1.size)).2.2
            storeSet a (relayAll t1 es1 (SetTable.grown es1.size)).1 (relayAll t1 es1 (SetTable.grown es1.size)).2.1
            pure (some true)
          else pure (some true)) R E s := by
  have z1 : es1.size = L1.length := by rw [← Array.length_toList, e1, ents, List.length_map]
  refine wpAny_bind (wpAny_storeSet_of ho hd ?_ (by rw [z1, sizeLine_eq]; omega))
  have ho1 := L2.store_at (es' := es1) (t' := t1) ho hd
  have sb1 := Heap.SameBut.update s.heap a (Obj.putSet es1 t1)
  have key1 : ∀ m ∈ L1, NestedIs (s.heap.update a (Obj.putSet es1 t1)) m.2 m.1 := fun m hm => key_but ho hd sb1 (key m hm)
  split
  · have pm := relayAll_perm t1 es1 (SetTable.grown es1.size)
    have f2 := relayAll_fits t1 es1 (SetTable.grown es1.size)
    have r2 := relayAll_ris t1 es1 (SetTable.grown es1.size)
    have l2 := relayAll_led t1 es1 (SetTable.grown es1.size)
    generalize relayAll t1 es1 (SetTable.grown es1.size) = Z at pm f2 r2 l2 ⊢
    obtain ⟨es2, t2, gave⟩ := Z
    dsimp only at pm f2 r2 l2 ⊢
    rw [e1] at pm
    obtain ⟨L2', e2, p2⟩ := ents_of_perm pm
    have z2 : es2.size = L2'.length := by rw [← Array.length_toList, e2, ents, List.length_map]
    refine wpAny_bind (hg _ _ _ (wpAny_bind (wpAny_storeSet_of ho1 rfl ?_ (by rw [z2, p2.length_eq, sizeLine_eq]; omega))))
    have ho2 := L2.store_at (es' := es2) (t' := t2) ho1 rfl
    have sb2 := Heap.SameBut.update (s.heap.update a (Obj.putSet es1 t1)) a (Obj.putSet es2 t2)
    exact wpAny_pure (q _ L2' es2 _ t2 (sb1.trans sb2) ⟨⟨_, ho2, hex, rfl⟩, e2, (p2.map (·.2)).nodup_iff.mpr nd, fun m hm => fit m (p2.mem_iff.mp hm), fun m hm => key_but ho1 rfl sb2 (key1 m (p2.mem_iff.mp hm)),
      r2, f2, led.imp id fun z => by rw [l2]; exact z, by rw [p2.length_eq]; exact few, fun z => by cases z⟩ p2)
  · exact wpAny_pure (q _ L1 es1 _ t1 sb1 ⟨⟨_, ho1, hex, rfl⟩, e1, nd, fit, key1, ris, full, led, few, fun z => by cases z⟩ (List.Perm.refl _))
theorem add_text {x : Str} {tk : Tok} {Q : Bool → Shared → Prop} (R : SetK false w s.heap a L es ep t) (room : L.length + 1 < 64) (q : Added false w s a L (.str x tk, .text x) Q) :
    wpAny (model P w) A (setAddHashed a (.str x tk) (hashStr w x)) Q E s := by
  obtain ⟨o, ho, hex, hd⟩ := R.ob
  have hf := R.full
  have hel : ElemsOf (PySem.strKind P w) es.toList := by rw [R.eq]; exact text_elems R.fit
  have sc : (Value.str x tk).scannable = true := rfl
  have ki : (PySem.strKind P w).is x (.str x tk) = true := strKind_is _ _ _ _
  have zs : es.size < scanBound := by
    rw [R.size]
    show L.length < 4096
    omega
  unfold setAddHashed setAddHashedIn
  refine wpAny_holding (wpAny_bind (wpAny_setState_of ho hd hf ?_))
  dsimp only
  rw [byScan_of sc zs hel]
  simp only [↓reduceIte]
  unfold setAddByScan
  refine wpAny_bind (wpAny_bind (wpAny_rule (wpAny_bind ?_)))
  show wpAny _ _ (setScan a (.str x tk) ((PySem.strKind P w).hash x) true es) _ _ s
  refine wpAny_setScan_of ki ho hd hf hel ?_
  cases hfi : List.findIdx? (fun e => (PySem.strKind P w).is x e.2) es.toList with
  | some j =>
    dsimp only
    obtain ⟨hj, pj, _⟩ := List.findIdx?_eq_some_iff_getElem.mp hfi
    have hm : NestedKey.text x ∈ L.map (·.2) := (text_is (P := P) R.fit).1 ⟨_, by rw [← R.eq]; exact List.getElem_mem hj, pj⟩
    exact wpAny_pure (wpAny_pure (q _ s.heap L es ep t (Heap.SameBut.refl a s.heap) R (fun _ => rfl) fun z => absurd hm z))
  | none =>
    dsimp only
    have hm : NestedKey.text x ∉ L.map (·.2) := fun z => by
      obtain ⟨e, he, c1⟩ := (text_is (P := P) R.fit).2 z
      rw [← R.eq] at he
      have c2 := List.findIdx?_eq_none_iff.mp hfi e he
      rw [c1] at c2
      cases c2
    have pm := layNew_perm t es (hashStr w x) (.str x tk)
    have f1 := layNew_fits t es (hashStr w x) (.str x tk)
    have r1 := layNew_ris t es (hashStr w x) (.str x tk) R.ris
    have l1 := layNew_led t es (hashStr w x) (.str x tk)
    generalize layNew t es (hashStr w x) (.str x tk) = Z at pm f1 r1 l1 ⊢
    obtain ⟨es1, t1, was, gave⟩ := Z
    dsimp only at pm f1 r1 l1 ⊢
    have pc : es1.toList.Perm (ents w ((Value.str x tk, NestedKey.text x) :: L)) := by
      rw [Array.toList_push, R.eq] at pm
      exact pm.trans (List.perm_append_singleton _ _)
    obtain ⟨L1, e1, p1⟩ := ents_of_perm pc
    obtain ⟨nd1, n1⟩ := R.perm (h' := s.heap) hm p1
    have fit1 : ∀ m ∈ L1, Fit false m := fun m hm => by
      rcases List.mem_cons.mp (p1.mem_iff.mp hm) with z | z
      · rw [z]
        exact ⟨x, tk, rfl⟩
      · exact R.fit m z
    have key1 : ∀ m ∈ L1, NestedIs s.heap m.2 m.1 := fun m hm => by
      rcases List.mem_cons.mp (p1.mem_iff.mp hm) with z | z
      · rw [z]
        exact .text _ _
      · exact R.key m z
    have led1 : w.params.followText "set-order" = true ∨ t1.led = true := R.led.imp id fun z => by rw [l1]; exact z
    have fin : ∀ h' L' es' ep' t', Heap.SameBut a s.heap h' → SetK false w h' a L' es' ep' t' → L'.Perm L1 → Q true { s with heap := h' } := fun h' L' es' ep' t' sb r p => q true h' L' es' ep' t' sb r (fun z => absurd z hm) fun _ => p.trans p1
    have gw : ∀ (c : Bool) {s1 : Shared} {Q' : Unit → Shared → Prop}, Q' () s1 → wpAny (model P w) A (match c with | true => rule "set.scan.the-table-gave-way" | false => pure ()) Q' E s1 :=
      fun c s1 Q' h => by cases c <;> first | exact wpAny_pure h | exact wpAny_rule h
    refine wpAny_bind (gw _ ?_)
    split
    · refine wpAny_bind ?_
      rw [hashByValue_scannable 8 sc]
      refine wpAny_pure ?_
      refine text_tail (L1 := L1) ?_ ho hex hd e1 nd1 fit1 key1 (by omega) ?_ ?_ ?_ ?_
      · intro c s1 Q' h; cases c <;> first | exact wpAny_pure h | exact wpAny_rule h
      · first | (split <;> first | exact f1 | exact SetTable.fits_plain_off f1) | exact f1
      · first | (split <;> exact r1) | exact r1
      · first | (split <;> exact led1) | exact led1
      · intro h' L' es' ep' t' sb r p; dsimp only; exact wpAny_pure (fin h' L' es' ep' t' sb r p)
    · refine wpAny_bind (wpAny_pure ?_)
      simp only [↓reduceIte]
      refine text_tail (L1 := L1) ?_ ho hex hd e1 nd1 fit1 key1 (by omega) f1 r1 led1 ?_
      · intro c s1 Q' h; cases c <;> first | exact wpAny_pure h | exact wpAny_rule h
      · intro h' L' es' ep' t' sb r p; dsimp only; exact wpAny_pure (fin h' L' es' ep' t' sb r p)
end
end KS
/-! Sets of tuples: the search, adding a tuple; one promise of adding for both kinds. -/
namespace KS
open PySem PySem.Spec PyProof.Rows L2
section
variable {P : Program} {w : World} {A : Around} {E : Value → Shared → Prop} {s : Shared} {a : Addr} {L : List Mem} {es : Array (Int × Value)} {ep : Nat} {t : SetTable}
/-- the walk from the start of hash h in a table of mask m -/
abbrev go (m : Nat) (h : Int) (c : Nat) : SetTable.Probe := nth m (runAt m (SetTable.bits h % (m + 1)) (SetTable.bits h)) c
theorem go_add (m : Nat) (h : Int) (c q : Nat) : nth m (go m h c) q = go m h (c + q) := (nth_add m c _ q).symm
theorem go_j (m : Nat) (h : Int) (c q : Nat) : (nth m (go m h c) q).j = way m h (c + q) := congrArg SetTable.Probe.j (go_add m h c q)
theorem nth_dummy (m : Nat) : ∀ (n : Nat) (p : SetTable.Probe), p.dummy = none → (nth m p n).dummy = none
  | 0, _, h => h
  | n + 1, p, h => nth_dummy m n (adv m p) (by
    unfold adv
    split <;> exact h)
theorem odd_gw {t : SetTable} (h : MaskOk t.mask) : ¬ t.gaveWay = true := by
  unfold SetTable.gaveWay
  rw [mask_odd h]
  decide
/-- the search among tuples from the c-th step on; the way's first empty slot is step K -/
theorem hunt (R : SetK true w s.heap a L es ep t) {x : Addr} {k : NestedKey} (hx : NestedIs s.heap k (.ref x)) (kd : k.depth ≤ 8) (hu : A.units + 8 < cLine) {K : Nat} (hKf : K < 10 * SetTable.turns t.mask)
    (hK : way t.mask (k.hash w) K ∉ t.place.toList) (hKb : ∀ c, c < K → way t.mask (k.hash w) c ∈ t.place.toList) {Q : SetFound → Shared → Prop}
    (hin : k ∈ L.map (·.2) → Q (.there none) s) (hout : k ∉ L.map (·.2) → Q (.free (way t.mask (k.hash w) K) false) s) :
    ∀ (f c : Nat) (st : Option SetTable.Probe), st.getD (t.probeStart (k.hash w)) = go t.mask (k.hash w) c → c ≤ K → K - c < f →
      (∀ (i : Nat) m, L[i]? = some m → m.2 = k → ∃ c', c ≤ c' ∧ c' < K ∧ t.place.toList[i]? = some (way t.mask (k.hash w) c')) →
      wpAny (model P w) A (setSearchFrom a (.ref x) (k.hash w) true f st) Q E s
  | 0, c, st, _, _, hf, _ => absurd hf (Nat.not_lt_zero _)
  | f + 1, c, st, hst, hc, hf, left => by
    obtain ⟨o, ho, _, hd⟩ := R.ob
    have tb := (R.tab rfl).1
    have fin2 : ∀ (i : Nat) (m : Mem), L[i]? = some m → (fun i => (es[i]?.map (·.1)).getD 0) i = m.2.hash w := fun i m e => by
      show (es[i]?.map (·.1)).getD 0 = _
      rw [ents_get R.eq e]
      rfl
    rw [setSearchFrom_succ]
    refine wpAny_bind (wpAny_setState_of ho hd R.full ?_)
    dsimp only
    refine wp_if_neg (odd_gw tb.mok) ?_
    try refine wpAny_bind (wpAny_pure ?_)
    have sp := go_spec t R.ris tb.dm (fun i => (es[i]?.map (·.1)).getD 0) (k.hash w) (10 * SetTable.turns t.mask) (K - c) (go t.mask (k.hash w) c) (nth_dummy _ c _ rfl) (by omega)
      (fun q hq => by rw [go_j]; exact hKb (c + q) (by omega)) (by rw [go_j, show c + (K - c) = K by omega]; exact hK)
    rcases sp with ⟨q, i, hq, hi, hh, hno, hpr⟩ | ⟨hno, hpr⟩
    · rw [go_add, go_add, ← hst] at hpr
      rw [show t.probe (fun i => (es[i]?.map (·.1)).getD 0) (k.hash w) (st.getD (t.probeStart (k.hash w))) = _ from hpr]
      dsimp only
      rw [go_j] at hi
      have il : i < L.length := by
        have n1 : i < t.place.toList.length := (List.getElem?_eq_some_iff.mp hi).1
        have n2 := tb.sz
        rw [List.length_map] at n2
        rw [Array.length_toList] at n1
        omega
      have hp : L[i]? = some L[i] := List.getElem?_eq_getElem il
      generalize L[i] = m at hp
      have mm : m ∈ L := List.mem_of_getElem? hp
      obtain ⟨y, ks, e1, e2, d2⟩ := R.fit m mm
      have my := R.key m mm
      rw [e1] at my
      have slot : t.slot (way t.mask (k.hash w) (c + q)) = .live i := slot_live R.ris hi
      have rest : wpAny (model P w) A (searchRest a (.ref x) (k.hash w) true f es t (way t.mask (k.hash w) (c + q)) i (go t.mask (k.hash w) (c + (q + 1)))) Q E s := by
        unfold searchRest
        rw [ents_get R.eq hp, e1]
        dsimp only
        refine wpAny_bind (wpAny_holding (eqAt_key m.2 k A s _ _ my hx (by omega) P w _ _ ?_))
        refine wpAny_bind (wpAny_setState_of ho hd R.full ?_)
        dsimp only
        rw [← NestedKey.decide_eq]
        by_cases hkk : m.2 = k
        · refine wp_if_pos (by simp [hkk]) ?_
          exact wpAny_pure (hin (List.mem_map.mpr ⟨m, mm, hkk⟩))
        · refine wp_if_neg (by simp [hkk]) ?_
          try refine wpAny_bind (wpAny_pure ?_)
          rw [sameMem]
          dsimp only
          simp only [if_true, slot, ents_get R.eq hp, e1]
          refine wpAny_bind (wpAny_isSame_ref_self (wpAny_bind (wpAny_pure ?_)))
          simp only [if_true]
          refine wp_if_neg (by simp [hkk]) ?_
          refine hunt R hx kd hu hKf hK hKb hin hout f (c + (q + 1)) _ rfl (by omega) (by omega) fun j m' e' k' => ?_
          obtain ⟨c', a1, a2, a3⟩ := left j m' e' k'
          refine ⟨c', ?_, a2, a3⟩
          rcases Nat.lt_trichotomy c' (c + q) with z | z | z
          · exact absurd ((fin2 j m' e').trans (congrArg (NestedKey.hash w) k')) (hno (c' - c) j (by omega) (by rw [go_j, show c + (c' - c) = c' by omega]; exact a3))
          · rw [z] at a3
            have s0 := slot_live R.ris a3
            rw [slot] at s0
            injection s0 with s0
            rw [← s0, hp] at e'
            exact absurd ((congrArg Prod.snd (Option.some.inj e')).trans k') hkk
          · omega
      by_cases hl : t.led = true
      · refine wp_if_neg (by simp [hl]) ?_
        try refine wpAny_bind (wpAny_pure ?_)
        exact rest
      · refine wp_if_pos (by simp [hl]) (wpAny_bind (seen_key hx kd (fun z hz => ?_) ?_))
        · obtain ⟨e, he, ee⟩ := List.mem_map.mp hz
          have he1 : e ∈ es ∧ e.1 = k.hash w := by simpa using he
          have he2 : e ∈ es.toList := by simpa using he1.1
          rw [R.eq] at he2
          obtain ⟨m2, hm2, e3⟩ := List.mem_map.mp he2
          obtain ⟨_, _, _, _, d3⟩ := R.fit m2 hm2
          refine ⟨m2.2, ?_, d3⟩
          rw [← ee, ← e3]
          exact R.key m2 hm2
        · refine wp_if_neg (by decide) ?_
          try refine wpAny_bind (wpAny_pure ?_)
          exact rest
    · rw [go_j, show c + (K - c) = K by omega, ← hst] at hpr
      rw [show t.probe (fun i => (es[i]?.map (·.1)).getD 0) (k.hash w) (st.getD (t.probeStart (k.hash w))) = _ from hpr]
      dsimp only
      refine wpAny_pure (hout fun hm => ?_)
      obtain ⟨m0, h0, hk0⟩ := List.mem_map.mp hm
      obtain ⟨j, hj⟩ := List.mem_iff_getElem?.mp h0
      obtain ⟨c', a1, a2, a3⟩ := left j m0 hj hk0
      exact absurd ((fin2 j m0 hj).trans (congrArg (NestedKey.hash w) hk0)) (hno (c' - c) j (by omega) (by rw [go_j, show c + (c' - c) = c' by omega]; exact a3))
theorem hunt_at (R : SetK true w s.heap a L es ep t) {x : Addr} {k : NestedKey} (hx : NestedIs s.heap k (.ref x)) (kd : k.depth ≤ 8) (hu : A.units + 8 < cLine) {Q : SetFound → Shared → Prop}
    (hin : k ∈ L.map (·.2) → Q (.there none) s)
    (hout : ∀ K, k ∉ L.map (·.2) → way t.mask (k.hash w) K ∉ t.place.toList → (∀ c, c < K → way t.mask (k.hash w) c ∈ t.place.toList) → Q (.free (way t.mask (k.hash w) K) false) s) :
    wpAny (model P w) A (setSearch a (.ref x) (k.hash w) true) Q E s := by
  obtain ⟨tb, room⟩ := R.tab rfl
  have n2 := tb.sz
  rw [List.length_map] at n2
  obtain ⟨K, hKf, hK, hKb⟩ := tb.first (by rw [List.length_map]; omega) (k.hash w)
  have big : K < 100000 := by
    have : 10 * SetTable.turns t.mask ≤ 1420 := by
      unfold SetTable.turns
      rcases tb.mok with e | e | e <;> omega
    omega
  unfold setSearch
  refine hunt R hx kd hu hKf hK hKb hin (fun hn => hout K hn hK hKb) 100000 0 none rfl (Nat.zero_le _) (by omega) fun i m e ek => ?_
  have hi : (hs w L)[i]? = some (k.hash w) := by
    rw [List.getElem?_map, e, ← ek]
    rfl
  have il : i < t.place.toList.length := by
    have := (List.getElem?_eq_some_iff.mp e).1
    rw [Array.length_toList]
    omega
  obtain ⟨c, hc, ec⟩ := tb.before hK hi (List.getElem?_eq_getElem il)
  exact ⟨c, Nat.zero_le _, hc, by rw [List.getElem?_eq_getElem il, ec]⟩
end
end KS
/-! Sets of tuples: the table laid anew, adding a tuple. -/
namespace KS
open PySem PySem.Spec PyProof.Rows L2
section
variable {P : Program} {w : World} {A : Around} {E : Value → Shared → Prop} {s : Shared} {a : Addr} {L : List Mem} {es : Array (Int × Value)} {ep : Nat} {t : SetTable}
theorem range_get {α : Type} (z : α) : ∀ l : List α, (List.range l.length).map (fun i => l.getD i z) = l := fun l => by
  apply List.ext_getElem?
  intro i
  rw [List.getElem?_map]
  by_cases h : i < l.length
  · rw [List.getElem?_range h, List.getElem?_eq_getElem h]
    simp [List.getD, h]
  · rw [List.getElem?_eq_none (by rw [List.length_range]; omega), List.getElem?_eq_none (by omega)]
    rfl
theorem some_map {α β : Type} {f : α → Option β} {g : α → β} : ∀ l : List α, (∀ x ∈ l, f x = some (g x)) → l.filterMap f = l.map g
  | [], _ => rfl
  | x :: l, h => by
    rw [List.filterMap_cons_some (h x List.mem_cons_self), List.map_cons, some_map l fun y hy => h y (List.mem_cons_of_mem _ hy)]
theorem in_order {es : Array (Int × Value)} (he : es.toList = ents w L) {order : Array Nat} (hp : order.toList.Perm (List.range L.length)) :
    ∃ L2 : List Mem, (order.filterMap (es[·]?)).toList = ents w L2 ∧ L2.Perm L ∧ hs w L2 = order.toList.map fun i => (es.map (·.1)).getD i 0 := by
  have lt : ∀ i ∈ order.toList, i < L.length := fun i hi => List.mem_range.mp (hp.mem_iff.mp hi)
  have g1 : ∀ i ∈ order.toList, es[i]? = some ((fun m : Mem => (m.2.hash w, m.1)) (L.getD i (Value.none, NestedKey.none))) := fun i hi => by
    have e : L[i]? = some (L.getD i (Value.none, NestedKey.none)) := by
      rw [List.getElem?_eq_getElem (lt i hi)]
      simp [List.getD, lt i hi]
    exact ents_get he e
  refine ⟨order.toList.map fun i => L.getD i (Value.none, NestedKey.none), ?_, ?_, ?_⟩
  · rw [Array.toList_filterMap, some_map order.toList g1, ents, List.map_map]
    rfl
  · have p2 := hp.map fun i => L.getD i (Value.none, NestedKey.none)
    rw [range_get] at p2
    exact p2
  · unfold hs
    rw [List.map_map]
    refine List.map_congr_left fun i hi => ?_
    have e := g1 i hi
    have e2 : (es.map (·.1))[i]? = some ((L.getD i (Value.none, NestedKey.none)).2.hash w) := by
      rw [Array.getElem?_map, e]
      rfl
    show _ = (es.map (·.1)).getD i 0
    rw [Array.getD_eq_getD_getElem?, e2]
    rfl
theorem tups_relay {o : Obj} (ho : s.heap.get? a = some o) (hex : o.ExactSet) (hd : o.data = .set es ep t) (he : es.toList = ents w L) (full : t.fits es.size = true)
    (nd : (L.map (·.2)).Nodup) (fit : ∀ m ∈ L, Fit true m) (key : ∀ m ∈ L, NestedIs s.heap m.2 m.1) (led : w.params.followText "set-order" = true ∨ t.led = true) (few : L.length < 64) {wanted M : Nat}
    (hw : SetTable.sizeAbove wanted - 1 = M) (hM : MaskOk M) (h128 : SetTable.sizeAbove wanted ≤ 128) (hn : L.length * 5 < M * 3) {Q : Unit → Shared → Prop}
    (q : ∀ h' L' es' ep' t', Heap.SameBut a s.heap h' → SetK true w h' a L' es' ep' t' → L'.Perm L → Q () { s with heap := h' }) : wpAny (model P w) A (setRelay a wanted) Q E s := by
  have z1 : es.size = L.length := by rw [← Array.length_toList, he, ents, List.length_map]
  obtain ⟨t2, order, e, hp, T, em, el, _, ed⟩ := relaid_ok t (hs := es.map (·.1)) (wanted := wanted) hw hM (by rw [Array.size_map, z1]; omega)
  rw [Array.size_map, z1] at hp
  obtain ⟨LL, r1, r2, r3⟩ := in_order he hp
  rw [← r3] at T
  have z2 : (order.filterMap (es[·]?)).size = LL.length := by rw [← Array.length_toList, r1, ents, List.length_map]
  have z3 := r2.length_eq
  rw [setRelay_eq]
  refine wpAny_bind (wpAny_setState_of ho hd full ?_)
  dsimp only
  refine wp_if_neg (by rw [sizeLine_eq]; omega) ?_
  try refine wpAny_bind (wpAny_pure ?_)
  rw [e]
  dsimp only
  refine wpAny_bind ?_
  refine wp_if_neg (by rw [z2, z3, z1]; simp) ?_
  try refine wpAny_bind (wpAny_pure ?_)
  refine wpAny_pure ?_
  dsimp only
  refine wpAny_storeSet_of ho hd ?_ (by rw [z2, z3, sizeLine_eq]; omega)
  have sb := Heap.SameBut.update s.heap a (Obj.putSet (order.filterMap (es[·]?)) t2)
  have sz2 := T.sz
  rw [List.length_map] at sz2
  exact q _ LL _ _ t2 sb ⟨⟨_, L2.store_at ho hd, hex, rfl⟩, r1, (r2.map (·.2)).nodup_iff.mpr nd, fun m hm => fit m (r2.mem_iff.mp hm), fun m hm => key_but ho hd sb (key m (r2.mem_iff.mp hm)), T.ris, by
    unfold SetTable.fits SetTable.fill
    rw [ed, Bool.and_eq_true, beq_iff_eq, decide_eq_true_eq, z2, sz2]
    show LL.length = LL.length ∧ LL.length + 0 ≤ t2.mask
    omega, led.imp id fun z => by rw [el]; exact z, by rw [z3]; exact few, fun _ => ⟨T, by rw [z3, em]; exact hn⟩⟩ r2
theorem tab_plain {hs : List Int} {t : SetTable} (T : TabOk t hs) (c : Bool) : TabOk (if c = true then t else { t with plain := false }) hs := by
  split
  · exact T
  · exact ⟨T.ris, T.dm, T.sz, T.mok, T.bd, T.reach⟩
theorem add_tup {x : Addr} {k : NestedKey} {Q : Bool → Shared → Prop} (R : SetK true w s.heap a L es ep t) (hx : NestedIs s.heap k (.ref x)) (ft : Fit true (Value.ref x, k)) (hu : A.units + 8 < cLine) (room : L.length + 1 < 64)
    (q : Added true w s a L (.ref x, k) Q) : wpAny (model P w) A (setAddHashed a (.ref x) (k.hash w)) Q E s := by
  obtain ⟨o, ho, hex, hd⟩ := R.ob
  obtain ⟨tb, rm⟩ := R.tab rfl
  obtain ⟨_, _, _, _, kd⟩ := ft
  have zs := R.size
  unfold setAddHashed
  refine wpAny_holding ?_
  rw [show (100000 : Nat) = 99999 + 1 from rfl, setAddHashedIn_succ]
  refine wpAny_bind (wpAny_setState_of ho hd R.full ?_)
  dsimp only
  refine wp_if_neg (by simp [byScan, Value.scannable]) ?_
  try refine wpAny_bind (wpAny_pure ?_)
  refine wpAny_bind (hunt_at R hx kd hu (fun hm => ?_) fun K hm hK hb => ?_)
  · dsimp only
    exact wpAny_pure (q false s.heap L es ep t (Heap.SameBut.refl a s.heap) R (fun _ => rfl) fun z => absurd hm z)
  · dsimp only
    refine wpAny_bind (wpAny_setState_of ho hd R.full ?_)
    dsimp only
    obtain ⟨q1, q2, q3, q4, q5, q6, q7, q8, q9⟩ := tb.put hK hb
    generalize t.put (way t.mask (k.hash w) K) = pt at q1 q3 q4 q5 q6 q7 q8 q9 ⊢
    obtain ⟨t1, p⟩ := pt
    dsimp only at q1 q3 q4 q5 q6 q7 q8 q9 ⊢
    subst q1
    have fork : ∀ (G : Bool → Sem Bool) (Q' : Bool → Shared → Prop), (∀ c, wpAny (model P w) A (G c) Q' E s) → wpAny (model P w) A (do
        let c ← if t1.plain = true then hashByValue 8 (.ref x) else pure true
        G c) Q' E s := fun G Q' h => by
      dsimp only
      exact wp_two (fun _ => wpAny_bind (byVal_key 8 k _ A s _ hx h)) fun _ => wpAny_bind (wpAny_pure (h _))
    have hin : (SetTable.insertAt es (SetTable.below t.place (way t.mask (k.hash w) K)) (k.hash w, Value.ref x)).toList = ents w (L.take (SetTable.below t.place (way t.mask (k.hash w) K)) ++ (Value.ref x, k) :: L.drop (SetTable.below t.place (way t.mask (k.hash w) K))) := by
      rw [SetTable.toList_insertAt, R.eq, ents, ents, List.map_append, List.map_cons, List.map_take, List.map_drop]
    generalize SetTable.below t.place (way t.mask (k.hash w) K) = p at q2 q3 hin ⊢
    have pm := put_perm L p (Value.ref x, k)
    have hh : (hs w L).take p ++ k.hash w :: (hs w L).drop p = hs w (L.take p ++ (Value.ref x, k) :: L.drop p) := by
      unfold hs
      rw [List.map_append, List.map_cons, List.map_take, List.map_drop]
    rw [hh] at q3
    obtain ⟨nd1, n1⟩ := R.perm (h' := s.heap) hm pm
    have z1 : (SetTable.insertAt es p (k.hash w, Value.ref x)).size = L.length + 1 := by rw [← Array.length_toList, hin, ents, List.length_map, n1]
    generalize SetTable.insertAt es p (k.hash w, Value.ref x) = es1 at hin z1 ⊢
    generalize L.take p ++ (Value.ref x, k) :: L.drop p = L1 at pm q3 nd1 n1 hin
    have key0 : ∀ m ∈ L1, NestedIs s.heap m.2 m.1 := fun m hm1 => by
      rcases List.mem_cons.mp (pm.mem_iff.mp hm1) with e | z
      · rw [e]
        exact hx
      · exact R.key m z
    have fit1 : ∀ m ∈ L1, Fit true m := fun m hm1 => by
      rcases List.mem_cons.mp (pm.mem_iff.mp hm1) with e | z
      · rw [e]
        exact ⟨_, _, by assumption, by assumption, kd⟩
      · exact R.fit m z
    refine fork _ _ fun c => ?_
    have T2 := tab_plain q3 c
    have led2 : w.params.followText "set-order" = true ∨ (if c = true then t1 else { t1 with plain := false }).led = true := by
      have := R.led
      rw [← q5] at this
      cases c <;> exact this
    have m2 : (if c = true then t1 else { t1 with plain := false }).mask = t.mask := by
      rw [← q4]
      cases c <;> rfl
    have f2 : (if c = true then t1 else { t1 with plain := false }).fill = L.length + 1 := by
      rw [List.length_map] at q9
      rw [← q9]
      cases c <;> rfl
    generalize (if c = true then t1 else { t1 with plain := false }) = t2 at T2 led2 m2 f2 ⊢
    have sz2 := T2.sz
    rw [List.length_map, n1] at sz2
    have full2 : t2.fits es1.size = true := by
      unfold SetTable.fits
      rw [f2, Bool.and_eq_true, beq_iff_eq, decide_eq_true_eq, z1, sz2]
      refine ⟨rfl, ?_⟩
      have := tb.mok
      rw [m2]
      rcases this with e | e | e <;> rw [e] at rm ⊢ <;> omega
    refine wpAny_bind (wpAny_storeSet_of ho hd ?_ (by rw [z1, sizeLine_eq]; omega))
    have sb := Heap.SameBut.update s.heap a (Obj.putSet es1 t2)
    have ho1 := L2.store_at (es' := es1) (t' := t2) ho hd
    have key1 : ∀ m ∈ L1, NestedIs (s.heap.update a (Obj.putSet es1 t2)) m.2 m.1 := fun m hm1 => key_but ho hd sb (key0 m hm1)
    generalize s.heap.update a (Obj.putSet es1 t2) = h1 at sb ho1 key1 ⊢
    by_cases hf : t2.tooFull = true
    · have hfull : (L.length + 1) * 5 ≥ t2.mask * 3 := by
        have h := hf
        unfold SetTable.tooFull at h
        rw [decide_eq_true_eq, f2] at h
        exact h
      have two : (t.mask = 7 ∧ L.length = 4) ∨ (t.mask = 31 ∧ L.length = 18) := by
        rw [m2] at hfull
        rcases tb.mok with e | e | e <;> rw [e] at hfull rm
        · exact .inl ⟨e, by omega⟩
        · exact .inr ⟨e, by omega⟩
        · omega
      have lay : ∀ M, SetTable.sizeAbove (SetTable.grown (L.length + 1)) - 1 = M → MaskOk M → SetTable.sizeAbove (SetTable.grown (L.length + 1)) ≤ 128 → (L.length + 1) * 5 < M * 3 →
          wpAny (model P w) A (setRelay a (SetTable.grown (L.length + 1))) (fun _ s' => wpAny (model P w) A (pure true) Q E s') E { s with heap := h1 } := fun M h1' h2' h3' h4' =>
        tups_relay (s := { s with heap := h1 }) ho1 hex rfl hin full2 nd1 fit1 key1 led2 (by omega) h1' h2' h3' (by rw [n1]; exact h4') fun h2 L2 es2 ep2 t3 sb2 R2 pm2 =>
          wpAny_pure (q true h2 L2 es2 ep2 t3 (sb.trans sb2) R2 (fun z => absurd z hm) fun _ => pm2.trans pm)
      rw [zs]
      first
        | (refine wpAny_bind ?_; refine wp_if_pos (by simp [hf]) ?_)
        | (refine wp_if_pos (by simp [hf]) ?_; refine wpAny_bind ?_)
      rcases two with ⟨_, e2⟩ | ⟨_, e2⟩
      · exact lay 31 (by rw [e2, size_20]) (.inr (.inl rfl)) (by rw [e2, size_20]; decide) (by omega)
      · exact lay 127 (by rw [e2, size_76]) (.inr (.inr rfl)) (by rw [e2, size_76]; decide) (by omega)
    · first
        | refine wp_if_neg (by simp [hf]) ?_
        | (refine wpAny_bind ?_; refine wp_if_neg (by simp [hf]) ?_; refine wpAny_pure ?_)
      refine wpAny_pure (q true h1 L1 es1 (ep + 1) t2 sb ⟨⟨_, ho1, hex, rfl⟩, hin, nd1, fit1, key1, T2.ris, full2, led2, by omega, fun _ => ⟨T2, ?_⟩⟩ (fun z => absurd z hm) fun _ => pm)
      have h := hf
      unfold SetTable.tooFull at h
      rw [decide_eq_true_eq, f2] at h
      rw [n1]
      omega
end
end KS
/-! set(xs): xs a list or a tuple of texts, or of tuples of texts and numbers. -/
namespace KS
open PySem PySem.Spec PyProof.Rows L2
/-- what stands in the set behind the first i items -/
structure Has (ks : List Mem) (i : Nat) (L : List Mem) : Prop where
  sub : ∀ m ∈ L, m ∈ ks.take i
  all : ∀ m ∈ ks.take i, m.2 ∈ L.map (·.2)
  len : L.length ≤ i
theorem Has.nil (ks : List Mem) : Has ks 0 [] := ⟨fun _ z => (by cases z), fun m z => (by simp at z), Nat.le_refl _⟩
theorem Has.next {ks L L' : List Mem} {i : Nat} {m : Mem} (g : Has ks i L) (h : ks[i]? = some m) (c1 : m.2 ∈ L.map (·.2) → L' = L) (c2 : m.2 ∉ L.map (·.2) → L'.Perm (m :: L)) : Has ks (i + 1) L' := by
  have tn : ks.take (i + 1) = ks.take i ++ [m] := take_next h
  rcases Classical.em (m.2 ∈ L.map (·.2)) with c | c
  · rw [c1 c]
    refine ⟨fun x hx => ?_, fun x hx => ?_, Nat.le_succ_of_le g.len⟩
    · rw [tn]
      exact List.mem_append_left _ (g.sub x hx)
    · rw [tn] at hx
      rcases List.mem_append.mp hx with z | z
      · exact g.all x z
      · rw [List.mem_singleton.mp z]
        exact c
  · have pm := c2 c
    refine ⟨fun x hx => ?_, fun x hx => ?_, by rw [pm.length_eq]; exact Nat.succ_le_succ g.len⟩
    · rw [tn]
      rcases List.mem_cons.mp (pm.mem_iff.mp hx) with z | z
      · rw [z]
        exact List.mem_append_right _ (List.mem_singleton.mpr rfl)
      · exact List.mem_append_left _ (g.sub x z)
    · rw [tn] at hx
      refine (pm.map (·.2)).mem_iff.mpr ?_
      rw [List.map_cons]
      rcases List.mem_append.mp hx with z | z
      · exact List.mem_cons_of_mem _ (g.all x z)
      · rw [List.mem_singleton.mp z]
        exact List.mem_cons_self
section
variable {P : Program} {w : World} {A : Around} {E : Value → Shared → Prop} {s : Shared} {a : Addr} {b : Bool} {L : List Mem} {es : Array (Int × Value)} {ep : Nat} {t : SetTable}
theorem add_key {m : Mem} {Q : Bool → Shared → Prop} (R : SetK b w s.heap a L es ep t) (hx : NestedIs s.heap m.2 m.1) (ft : Fit b m) (hu : A.units + 8 < cLine) (room : L.length + 1 < 64)
    (q : Added b w s a L m Q) : wpAny (model P w) A (setAddHashed a m.1 (m.2.hash w)) Q E s := by
  cases b with
  | false =>
    obtain ⟨x, tk, rfl⟩ := ft
    exact add_text R room q
  | true =>
    have ft2 := ft
    obtain ⟨v, k⟩ := m
    obtain ⟨c, ks, e1, e2, d⟩ := ft
    dsimp only at e1 e2 d hx
    subst e1
    exact add_tup R hx ft2 hu room q
theorem fit_depth {m : Mem} (h : Fit b m) : m.2.depth ≤ 8 := by
  cases b with
  | false =>
    obtain ⟨x, tk, rfl⟩ := h
    exact Nat.zero_le _
  | true =>
    obtain ⟨_, _, _, _, d⟩ := h
    exact d
theorem key_keep {h h' : Heap} {k : NestedKey} {v : Value} (x : NestedIs h k v) (hk : ∀ c o, h.get? c = some o → h'.get? c = some o) : NestedIs h' k v := NestedIs.at (fun c o vs n e _ => hk c o e) k v x
theorem update_loop {I : Addr} {fp wr : List Addr} {G : Array GenState → Array GenState → Prop} {n : Nat} {Pv : Nat → Value → Prop} {St : Nat → Shared → Prop} {R : Result → Shared → Prop}
    (W : WalksS P w A.in1 I fp wr G n Pv St) (S : Addr) (hSf : S ∉ fp) (ks : List Mem) (hn : n = ks.length) (h64 : ks.length < 64) (hv : ∀ i v, Pv i v → ∃ m, ks[i]? = some m ∧ v = m.1)
    (h0 : Heap) (hk : ∀ m ∈ ks, NestedIs h0 m.2 m.1) (hf : ∀ m ∈ ks, Fit b m) (hS0 : h0.get? S = none) (hw0 : ∀ c ∈ wr, h0.get? c = none) (hu : A.in1.units + 8 < cLine) :
    ∀ (k i : Nat) (s : Shared), n - i = k → i ≤ n → St i s → (∀ c o, h0.get? c = some o → s.heap.get? c = some o) → (∃ L es ep t, SetK b w s.heap S L es ep t ∧ Has ks i L) →
      (∀ s' L es ep t, Moved (S :: wr) G s s' → SetK b w s'.heap S L es ep t → Has ks n L → (∀ c o, h0.get? c = some o → s'.heap.get? c = some o) → R (.ok (.ret .none)) s') →
      codeAny (model P w) A (.builtin "set.update.loop" ⟨[.ref S, .ref I], []⟩) R s := by
  have hSw : S ∉ wr := fun h => hSf (W.sub _ h)
  have up : ∀ c ∈ wr, c ∈ S :: wr := fun c hc => List.mem_cons_of_mem _ hc
  have stay : ∀ {s s' : Shared}, Moved wr G s s' → (∀ c o, h0.get? c = some o → s.heap.get? c = some o) → ∀ c o, h0.get? c = some o → s'.heap.get? c = some o := fun mv hp c o e =>
    mv.heap c o (fun z => by rw [hw0 c z] at e; cases e) (hp c o e)
  intro k
  induction k with
  | zero =>
    intro i s hk' hi hst hp ⟨L, es, ep, t, hS, g⟩ hR
    have e0 : i = n := by omega
    subst e0
    refine codeAny_builtin F.entry_set_update_loop ?_
    rw [Around.under_plainId F.plain_set_update_loop _]
    show wpAny _ A.in1 (pyNext (.ref I) >>= _) _ _ s
    refine wpAny_bind (W.done s _ _ hst fun s' mv => ?_)
    show wpAny _ A.in1 (ret Value.none) _ _ s'
    have hp' := stay mv hp
    exact wpAny_pure (hR s' L es ep t (mv.mono up) (hS.keep (fun o e => mv.heap S o hSw e) fun m hm => key_keep (hk m (List.mem_of_mem_take (g.sub m hm))) hp') g hp')
  | succ k ih =>
    intro i s hk' hi hst hp ⟨L, es, ep, t, hS, g⟩ hR
    have lt : i < n := by omega
    refine codeAny_builtin F.entry_set_update_loop ?_
    rw [Around.under_plainId F.plain_set_update_loop _]
    show wpAny _ A.in1 (pyNext (.ref I) >>= _) _ _ s
    refine wpAny_bind (W.item i s _ _ lt hst fun v s' hP hst' mv => ?_)
    obtain ⟨m, hm, rfl⟩ := hv i v hP
    have mk := List.mem_of_getElem? hm
    have hp' := stay mv hp
    have hS' : SetK b w s'.heap S L es ep t := hS.keep (fun o e => mv.heap S o hSw e) fun q hq => key_keep (hk q (List.mem_of_mem_take (g.sub q hq))) hp'
    have hx : NestedIs s'.heap m.2 m.1 := key_keep (hk m mk) hp'
    show wpAny _ A.in1 (holding [m.1] (setAdd S m.1) >>= _) _ _ s'
    refine wpAny_bind (wpAny_holding ?_)
    unfold setAdd
    refine wpAny_holding ?_
    refine wpAny_bind (pyHash_key m.2 m.1 A.in1 s' _ hx (by have := fit_depth (hf m mk); omega) ?_)
    refine add_key (s := { s' with toks := s'.toks + m.2.draws }) (m := m) hS' hx (hf m mk) hu (by have := g.len; omega) fun c h' L' es' ep' t' sb hS2 c1 c2 => ?_
    have g' := g.next hm c1 c2
    have hp2 : ∀ c o, h0.get? c = some o → h'.get? c = some o := fun c o e => (sb.2 c (fun z => by rw [z, hS0] at e; cases e)).trans (hp' c o e)
    refine wpAny_pure ⟨plainId_quiet F.plain_set_update_loop _, ih (i + 1) _ (by omega) lt (W.frame _ s' _ _ hst' (Nat.le_add_right _ _) fun d hd o e => ?_) hp2 ⟨L', es', ep', t', hS2, g'⟩ fun s2 L2 es2 ep2 t2 mv2 hS3 g2 hp3 => ?_⟩
    · rw [sb.2 d (fun z => hSf (by rw [← z]; exact hd))]
      exact e
    · refine hR s2 L2 es2 ep2 t2 (Moved.trans W.gtrans ((mv.mono up).then_heap (Nat.le_add_right _ _) fun d o hd e => ?_) mv2) hS3 g2 hp3
      rw [sb.2 d (fun z => hd (by rw [z]; exact List.mem_cons_self))]
      exact e
theorem gone {h : Heap} {c : Addr} (hc : h.objs.size ≤ c) : h.get? c = none := by
  cases q : h.get? c with
  | none => rfl
  | some o => exact absurd (Nat.lt_of_lt_of_le (Heap.lt_size q) hc) (Nat.lt_irrefl _)
theorem item_of {items : Array Value} {ks : List Mem} (hi : items.toList = ks.map (·.1)) : ∀ (i : Nat) (v : Value), items[i]? = some v → ∃ m, ks[i]? = some m ∧ v = m.1 := fun i v e => by
  rw [← Array.getElem?_toList, hi, List.getElem?_map] at e
  cases q : ks[i]? with
  | none =>
    rw [q] at e
    cases e
  | some m =>
    rw [q] at e
    exact ⟨m, rfl, (Option.some.inj e).symm⟩
/-- what set(xs) leaves -/
def Made (b : Bool) (w : World) (s : Shared) (ks : List Mem) (Q : Value → Shared → Prop) : Prop := ∀ (h' : Heap) (tk : Nat) L es ep t, SetK b w h' s.heap.objs.size L es ep t → Has ks ks.length L →
  (∀ c o, s.heap.get? c = some o → h'.get? c = some o) → Q (.ref s.heap.objs.size) { s with heap := h', toks := tk }
/-- the new set's object -/
abbrev newO (w : World) : Obj := { cls := .type "set", dict := none, data := .set #[] 0 (.fresh 0 0 (!w.params.followText "set-order")) }
set_option maxHeartbeats 8000000 in
theorem set_of_list {l : Addr} {items : Array Value} (b : Bool) (ks : List Mem) {Q : Value → Shared → Prop} (hh : A.handled = none) (hl : s.heap.IsList l items) (hi : items.toList = ks.map (·.1))
    (hk : ∀ m ∈ ks, NestedIs s.heap m.2 m.1) (hf : ∀ m ∈ ks, Fit b m) (h64 : ks.length < 64) (hu : A.units + 16 < cLine) (q : Made b w s ks Q) :
    wpAny (model P w) A (call (.type "set") [.ref l]) Q E s := by
  have zi : items.size = ks.length := by rw [← Array.length_toList, hi, List.length_map]
  obtain ⟨mc, mt, hmro⟩ := F.called_set.mro
  have d1 := F.called_set.made
  have d2 := F.called_set.sub
  refine wpAny_call (codeAny_of_tree ?_)
  show wpAny _ _ (callAny (.type "set") _) _ _ _
  refine wpAny_pure ⟨Code.quiet_builtin _ (by decide +kernel), codeAny_builtin F.entry_type_call ?_⟩
  rw [Around.under_plain (weight_type_call_type "set" [.ref l] []) rfl]
  have d3 := F.called_set.notType
  have d4 := F.called_set.canCreate
  have d5 := F.typeCall_set_1 (.ref l)
  repeat (any_goals (first | assumption | wp_step))
  refine codeAny_mono (code_set_led1 (.ref l) (E := E) (Q₁ := fun v s1 => v = .ref s.heap.objs.size ∧ s1 = { s with heap := s.heap.push (newO w) }) ⟨rfl, rfl⟩) fun r s1 hr => ?_
  cases r with
  | error e => exact hr
  | ok fl =>
    cases fl with
    | ret v =>
      obtain ⟨rfl, rfl⟩ := hr
      have gS : (s.heap.push (newO w)).get? s.heap.objs.size = some (newO w) := Heap.get?_push_size _ rfl
      have tS : Shared.TypeIs { s with heap := s.heap.push (newO w) } (.ref s.heap.objs.size) "set" := ⟨_, gS, rfl⟩
      have d6 := F.called_set.init.lookup
      have d7 := F.called_set.init.bind (.ref s.heap.objs.size)
      repeat (any_goals (first | assumption | wp_step))
      refine codeAny_mono (codeAny_call_builtin (R := wants (fun r s2 => r = .none ∧ ∃ h' tk L es ep t, s2 = { s with heap := h', toks := tk } ∧ SetK b w h' s.heap.objs.size L es ep t ∧ Has ks ks.length L ∧
          (∀ c o, s.heap.get? c = some o → h'.get? c = some o)) E) F.called_set.init.plain F.entry_set_init (check_set_init_1 tS ?_)) fun r2 s2 hr2 => ?_
      · obtain ⟨⟨oc, od, ot, os⟩, hol, hcl, nl, hdl⟩ := hl
        simp only at hcl hdl
        subst hcl; subst hdl
        have hol2 : (s.heap.push (newO w)).get? l = some { cls := .type "list", dict := od, data := .seq items nl, slots := os } := Heap.get?_push_of_some _ hol
        have d8 := F.sub_list_set
        have d9 := F.sub_list_frozenset
        have dA : (Value.type "list" == Value.type "dict") = false := by decide
        have hl2 : (s.heap.push (newO w)).IsList l items := ⟨_, hol2, rfl, nl, rfl⟩
        unfold Builtin.«set.__init__» noKeywords Builtin.Frozenset.updateFrom
        generalize hPI : pyIter = PI
        wp_walk
        subst hPI
        refine wpAny_pyIter_list hl2 (wpAny_bind (wpAny_runValue ?_))
        have ls : l < s.heap.objs.size := Heap.lt_size hol
        have zp : (s.heap.push (newO w)).objs.size = s.heap.objs.size + 1 := Heap.size_push ..
        have hne : l ≠ (s.heap.push (newO w)).objs.size := by
          rw [zp]
          exact Nat.ne_of_lt (Nat.lt_succ_of_lt ls)
        have hSf : s.heap.objs.size ∉ [(s.heap.push (newO w)).objs.size, l] := by
          rw [zp]
          simp only [List.mem_cons, List.mem_singleton, List.not_mem_nil, or_false, not_or]
          exact ⟨Nat.ne_of_lt (Nat.lt_succ_self _), Nat.ne_of_gt ls⟩
        refine update_loop ((Walks.list (by simp [hh]) _ l hne items).toS) s.heap.objs.size
          hSf ks zi h64 (item_of hi) s.heap hk hf (gone (Nat.le_refl _)) (fun c hc => gone (by
            rw [List.mem_singleton.mp hc, zp]
            exact Nat.le_succ _)) (by simp only [Around.in1_units]; omega) (items.size - 0) 0 _ (by omega) (Nat.zero_le _)
          ⟨⟨_, Heap.get?_push_size _ rfl, rfl, rfl⟩, hl2.push _⟩ (fun c o e => Heap.get?_push_of_some _ (Heap.get?_push_of_some _ e)) ⟨[], #[], 0, _, setK_new b (Heap.get?_push_of_some _ gS), Has.nil ks⟩ ?_
        intro s3 L es ep t mv hS g hp
        obtain ⟨h3, g3, d3, t3, o3⟩ := s3
        have eg : g3 = s.gens := mv.gens
        have ed : d3 = s.drawn := mv.drawn
        have eo : o3 = s.os := mv.os
        subst eg; subst ed; subst eo
        show wpAny _ _ _ _ _ _
        refine wpAny_pure ?_
        show wpAny _ _ (ret Value.none) _ _ _
        rw [zi] at g
        exact wpAny_pure ⟨rfl, h3, t3, L, es, ep, t, rfl, hS, g, hp⟩
      · cases r2 with
        | error e => exact hr2
        | ok fl2 =>
          cases fl2 with
          | ret r =>
            obtain ⟨rfl, h3, t3, L, es, ep, t, rfl, hS, g, hp⟩ := hr2
            repeat (any_goals (first | assumption | wp_step))
            exact q _ _ _ _ _ _ hS g hp
          | _ => exact hr2.elim
    | _ => exact hr.elim
set_option maxHeartbeats 8000000 in
theorem set_of_tuple {l : Addr} {items : Array Value} (b : Bool) (ks : List Mem) {Q : Value → Shared → Prop} (hh : A.handled = none) (hl : s.heap.IsTuple l items) (hi : items.toList = ks.map (·.1))
    (hk : ∀ m ∈ ks, NestedIs s.heap m.2 m.1) (hf : ∀ m ∈ ks, Fit b m) (h64 : ks.length < 64) (hu : A.units + 16 < cLine) (q : Made b w s ks Q) :
    wpAny (model P w) A (call (.type "set") [.ref l]) Q E s := by
  have zi : items.size = ks.length := by rw [← Array.length_toList, hi, List.length_map]
  obtain ⟨mc, mt, hmro⟩ := F.called_set.mro
  have d1 := F.called_set.made
  have d2 := F.called_set.sub
  refine wpAny_call (codeAny_of_tree ?_)
  show wpAny _ _ (callAny (.type "set") _) _ _ _
  refine wpAny_pure ⟨Code.quiet_builtin _ (by decide +kernel), codeAny_builtin F.entry_type_call ?_⟩
  rw [Around.under_plain (weight_type_call_type "set" [.ref l] []) rfl]
  have d3 := F.called_set.notType
  have d4 := F.called_set.canCreate
  have d5 := F.typeCall_set_1 (.ref l)
  repeat (any_goals (first | assumption | wp_step))
  refine codeAny_mono (code_set_led1 (.ref l) (E := E) (Q₁ := fun v s1 => v = .ref s.heap.objs.size ∧ s1 = { s with heap := s.heap.push (newO w) }) ⟨rfl, rfl⟩) fun r s1 hr => ?_
  cases r with
  | error e => exact hr
  | ok fl =>
    cases fl with
    | ret v =>
      obtain ⟨rfl, rfl⟩ := hr
      have gS : (s.heap.push (newO w)).get? s.heap.objs.size = some (newO w) := Heap.get?_push_size _ rfl
      have tS : Shared.TypeIs { s with heap := s.heap.push (newO w) } (.ref s.heap.objs.size) "set" := ⟨_, gS, rfl⟩
      have d6 := F.called_set.init.lookup
      have d7 := F.called_set.init.bind (.ref s.heap.objs.size)
      repeat (any_goals (first | assumption | wp_step))
      refine codeAny_mono (codeAny_call_builtin (R := wants (fun r s2 => r = .none ∧ ∃ h' tk L es ep t, s2 = { s with heap := h', toks := tk } ∧ SetK b w h' s.heap.objs.size L es ep t ∧ Has ks ks.length L ∧
          (∀ c o, s.heap.get? c = some o → h'.get? c = some o)) E) F.called_set.init.plain F.entry_set_init (check_set_init_1 tS ?_)) fun r2 s2 hr2 => ?_
      · obtain ⟨⟨oc, od, ot, os⟩, hol, hcl, nl, hdl⟩ := hl
        simp only at hcl hdl
        subst hcl; subst hdl
        have hol2 : (s.heap.push (newO w)).get? l = some { cls := .type "tuple", dict := od, data := .seq items nl, slots := os } := Heap.get?_push_of_some _ hol
        have d8 := F.sub_tuple_set
        have d9 := F.sub_tuple_frozenset
        have dA : (Value.type "tuple" == Value.type "dict") = false := by decide
        have hl2 : (s.heap.push (newO w)).IsTuple l items := ⟨_, hol2, rfl, nl, rfl⟩
        unfold Builtin.«set.__init__» noKeywords Builtin.Frozenset.updateFrom
        generalize hPI : pyIter = PI
        wp_walk
        subst hPI
        refine wpAny_pyIter_tuple hl2 (wpAny_bind (wpAny_runValue ?_))
        have ls : l < s.heap.objs.size := Heap.lt_size hol
        have zp : (s.heap.push (newO w)).objs.size = s.heap.objs.size + 1 := Heap.size_push ..
        have hne : l ≠ (s.heap.push (newO w)).objs.size := by
          rw [zp]
          exact Nat.ne_of_lt (Nat.lt_succ_of_lt ls)
        have hSf : s.heap.objs.size ∉ [(s.heap.push (newO w)).objs.size, l] := by
          rw [zp]
          simp only [List.mem_cons, List.mem_singleton, List.not_mem_nil, or_false, not_or]
          exact ⟨Nat.ne_of_lt (Nat.lt_succ_self _), Nat.ne_of_gt ls⟩
        refine update_loop ((Walks.tuple (by simp [hh]) _ l hne items).toS) s.heap.objs.size
          hSf ks zi h64 (item_of hi) s.heap hk hf (gone (Nat.le_refl _)) (fun c hc => gone (by
            rw [List.mem_singleton.mp hc, zp]
            exact Nat.le_succ _)) (by simp only [Around.in1_units]; omega) (items.size - 0) 0 _ (by omega) (Nat.zero_le _)
          ⟨⟨_, Heap.get?_push_size _ rfl, rfl, rfl⟩, hl2.push _⟩ (fun c o e => Heap.get?_push_of_some _ (Heap.get?_push_of_some _ e)) ⟨[], #[], 0, _, setK_new b (Heap.get?_push_of_some _ gS), Has.nil ks⟩ ?_
        intro s3 L es ep t mv hS g hp
        obtain ⟨h3, g3, d3, t3, o3⟩ := s3
        have eg : g3 = s.gens := mv.gens
        have ed : d3 = s.drawn := mv.drawn
        have eo : o3 = s.os := mv.os
        subst eg; subst ed; subst eo
        show wpAny _ _ _ _ _ _
        refine wpAny_pure ?_
        show wpAny _ _ (ret Value.none) _ _ _
        rw [zi] at g
        exact wpAny_pure ⟨rfl, h3, t3, L, es, ep, t, rfl, hS, g, hp⟩
      · cases r2 with
        | error e => exact hr2
        | ok fl2 =>
          cases fl2 with
          | ret r =>
            obtain ⟨rfl, h3, t3, L, es, ep, t, rfl, hS, g, hp⟩ := hr2
            repeat (any_goals (first | assumption | wp_step))
            exact q _ _ _ _ _ _ hS g hp
          | _ => exact hr2.elim
    | _ => exact hr.elim
end
end KS
/-! set(xs), len(set), sorted(set) as rules of the walk. -/
namespace KS
open PySem PySem.Spec PyProof.Rows L2
mutual
/-- v is the key k -/
inductive Kv (K : PySem.W.Frag) (H : Hp) : V → NestedKey → Prop
  | int (i : Int) : Kv K H (.int i) (.num i)
  | str (x : Str) : Kv K H (.str x) (.text x)
  | tup {a : Addr} {xs : List V} {ks : List NestedKey} : SqT K H a xs → KvAll K H xs ks → Kv K H (.ref a) (.tup ks)
inductive KvAll (K : PySem.W.Frag) (H : Hp) : List V → List NestedKey → Prop
  | nil : KvAll K H [] []
  | cons {v : V} {vs : List V} {k : NestedKey} {ks : List NestedKey} : Kv K H v k → KvAll K H vs ks → KvAll K H (v :: vs) (k :: ks)
end
section
variable {X : Cx} {pins : List (Addr × Obj)} {σ : L2.St} {H : Hp} {s : Shared}
mutual
theorem Kv.reads (I : Inv X pins σ H s) : ∀ (k : NestedKey) (v : V) (u : Value), Kv X.K H v k → RelV v u → NestedIs s.heap k u ∧ Reads s.heap u k.data []
  | .none, _, _, h, _ => by cases h
  | .num i, _, _, h, r => by
    cases h
    obtain ⟨t, rfl⟩ := r
    exact ⟨.int i t, .int i t⟩
  | .text x, _, _, h, r => by
    cases h
    obtain ⟨t, rfl⟩ := r
    exact ⟨.text x t, .str x t⟩
  | .tup ks, _, _, h, r => by
    cases h with
    | tup hs ha =>
      cases r
      obtain ⟨its, rv, ⟨o, ho, hc, n, hd⟩, _⟩ := I.tuple hs
      obtain ⟨q1, q2⟩ := Kv.readsAll I ks _ its ha rv
      exact ⟨.tup ho hc hd (by simpa using q1), .tuple ho hc hd (by simpa using q2)⟩
theorem Kv.readsAll (I : Inv X pins σ H s) : ∀ (ks : List NestedKey) (vs : List V) (us : List Value), KvAll X.K H vs ks → Vals vs us → NestedAll s.heap ks us ∧ ReadsAll s.heap us (NestedKey.datas ks) []
  | [], _, _, h, r => by
    cases h
    cases r
    exact ⟨.nil, .nil⟩
  | k :: ks, _, _, h, r => by
    cases h with
    | cons h1 h2 =>
      cases r with
      | cons r1 r2 =>
        obtain ⟨a1, b1⟩ := Kv.reads I k _ _ h1 r1
        obtain ⟨a2, b2⟩ := Kv.readsAll I ks _ _ h2 r2
        exact ⟨.cons a1 a2, .cons (as := []) (bs := []) b1 b2⟩
end
end
mutual
theorem Kv.dp {K : PySem.W.Frag} {H : Hp} : ∀ (k : NestedKey) (v : V), Kv K H v k → Dp K H v k.data
  | .none, _, h => by cases h
  | .num i, _, h => by
    cases h
    exact .int i
  | .text x, _, h => by
    cases h
    exact .str x
  | .tup ks, _, h => by
    cases h with
    | tup hs ha => exact .tup hs (Kv.dpAll ks _ ha)
theorem Kv.dpAll {K : PySem.W.Frag} {H : Hp} : ∀ (ks : List NestedKey) (vs : List V), KvAll K H vs ks → DpAll K H vs (NestedKey.datas ks)
  | [], _, h => by
    cases h
    exact .nil
  | k :: ks, _, h => by
    cases h with
    | cons h1 h2 => exact .cons (Kv.dp k _ h1) (Kv.dpAll ks _ h2)
end
mutual
theorem Kv.up {K : PySem.W.Frag} {H H' : Hp} (e : ∀ a xs, SqT K H a xs → SqT K H' a xs) : ∀ (k : NestedKey) (v : V), Kv K H v k → Kv K H' v k
  | .none, _, h => by cases h
  | .num i, _, h => by
    cases h
    exact .int i
  | .text x, _, h => by
    cases h
    exact .str x
  | .tup ks, _, h => by
    cases h with
    | tup hs ha => exact .tup (e _ _ hs) (Kv.upAll e ks _ ha)
theorem Kv.upAll {K : PySem.W.Frag} {H H' : Hp} (e : ∀ a xs, SqT K H a xs → SqT K H' a xs) : ∀ (ks : List NestedKey) (vs : List V), KvAll K H vs ks → KvAll K H' vs ks
  | [], _, h => by
    cases h
    exact .nil
  | k :: ks, _, h => by
    cases h with
    | cons h1 h2 => exact .cons (Kv.up e k _ h1) (Kv.upAll e ks _ h2)
end
/-- a member as it stands in the walk -/
abbrev MemV := V × NestedKey
def FitV : Bool → MemV → Prop
  | false, m => ∃ x, m = (V.str x, NestedKey.text x)
  | true, m => ∃ c ks, m.1 = V.ref c ∧ m.2 = NestedKey.tup ks ∧ m.2.depth ≤ 8
theorem FitV.fit {b : Bool} {p : MemV} {m : Mem} (h : FitV b p) (r : RelV p.1 m.1) (e : m.2 = p.2) : Fit b m := by
  cases b with
  | false =>
    obtain ⟨x, rfl⟩ := h
    obtain ⟨t, r⟩ := r
    exact ⟨x, t, Prod.ext r e⟩
  | true =>
    obtain ⟨c, ks, e1, e2, d⟩ := h
    rw [e1] at r
    exact ⟨c, ks, r, e.trans e2, by rw [e]; exact d⟩
/-- two lists of members, one of values -/
def Twin (L : List MemV) (M : List Mem) : Prop := Vals (L.map (·.1)) (M.map (·.1)) ∧ M.map (·.2) = L.map (·.2)
theorem Twin.nil : Twin [] [] := ⟨.nil, rfl⟩
theorem Twin.cons {p : MemV} {m : Mem} {L : List MemV} {M : List Mem} (r : RelV p.1 m.1) (e : m.2 = p.2) (t : Twin L M) : Twin (p :: L) (m :: M) := ⟨.cons r t.1, by rw [List.map_cons, List.map_cons, e, t.2]⟩
theorem Twin.mem : ∀ {L : List MemV} {M : List Mem}, Twin L M → ∀ m ∈ M, ∃ p ∈ L, RelV p.1 m.1 ∧ m.2 = p.2
  | [], [], _, _, h => by cases h
  | [], _ :: _, ⟨r, _⟩, _, _ => by cases r
  | _ :: _, [], ⟨r, _⟩, _, _ => by cases r
  | p :: L, m :: M, ⟨r, e⟩, x, h => by
    cases r with
    | cons r1 r2 =>
      rw [List.map_cons, List.map_cons] at e
      injection e with e1 e2
      rcases List.mem_cons.mp h with z | z
      · rw [z]
        exact ⟨p, List.mem_cons_self, r1, e1⟩
      · obtain ⟨q, hq, a, b⟩ := Twin.mem (L := L) (M := M) ⟨r2, e2⟩ x z
        exact ⟨q, List.mem_cons_of_mem _ hq, a, b⟩
theorem Twin.make : ∀ {L : List MemV} {us : List Value}, Vals (L.map (·.1)) us → ∃ M : List Mem, M.map (·.1) = us ∧ Twin L M
  | [], _, r => by
    cases r
    exact ⟨[], rfl, .nil⟩
  | p :: L, _, r => by
    cases r with
    | @cons _ u _ us r1 r2 =>
      obtain ⟨M, e, t⟩ := Twin.make (L := L) r2
      exact ⟨(u, p.2) :: M, by rw [List.map_cons, e], .cons r1 rfl t⟩
theorem Twin.pick {L : List MemV} {M : List Mem} (t : Twin L M) : ∀ {N : List Mem}, (∀ m ∈ N, m ∈ M) → ∃ L' : List MemV, Twin L' N ∧ ∀ p ∈ L', p ∈ L
  | [], _ => ⟨[], .nil, fun _ z => (by cases z)⟩
  | m :: N, h => by
    obtain ⟨p, hp, r, e⟩ := t.mem m (h m List.mem_cons_self)
    obtain ⟨L', t', hs⟩ := Twin.pick t (N := N) fun x hx => h x (List.mem_cons_of_mem _ hx)
    refine ⟨p :: L', .cons r e t', fun q hq => ?_⟩
    rcases List.mem_cons.mp hq with z | z
    · rw [z]
      exact hp
    · exact hs q z
/-- the set at a, without what its members are -/
def SetV0 (b : Bool) (w : World) (h : Heap) (a : Addr) (L : List MemV) : Prop := ∃ (M : List Mem) (es : Array (Int × Value)) (ep : Nat) (t : SetTable), Twin L M ∧
  (∃ o, h.get? a = some o ∧ o.ExactSet ∧ o.data = .set es ep t) ∧ es.toList = ents w M ∧ (M.map (·.2)).Nodup ∧ (∀ m ∈ M, Fit b m) ∧ Ris t.place.toList ∧ t.fits es.size = true ∧
  (w.params.followText "set-order" = true ∨ t.led = true) ∧ M.length < 64 ∧ (b = true → TabOk t (hs w M) ∧ M.length * 5 < t.mask * 3)
def SetV (b : Bool) (w : World) (a : Addr) (L : List MemV) : HO := .ext fun h => SetV0 b w h a L
theorem setV_ok {b : Bool} {P : Program} {w : World} {H : Hp} {h : Heap} {a : Addr} {L : List MemV} (R : SetV0 b w h a L) : ObjOk P w H h a (SetV b w a L) := by
  obtain ⟨_, _, _, _, _, ⟨o, ho, _⟩, _⟩ := id R
  refine ⟨R, ⟨o, ho⟩, fun h1 h2 p k => ?_⟩
  obtain ⟨M, es, ep, t, tw, ⟨o2, ho2, r⟩, q⟩ := (show SetV0 b w h1 a L from p)
  exact ⟨M, es, ep, t, tw, ⟨o2, k o2 ho2, r⟩, q⟩
section
variable {X : Cx}
/-- set(xs) -/
def rSetOf (X : Cx) : List V → Hp → VK → Prop := fun xs H Q => ∃ (b : Bool) (l : Addr) (ms : List MemV), xs = [V.ref l] ∧ (SqL X.K H l (ms.map (·.1)) ∨ SqT X.K H l (ms.map (·.1))) ∧ (∀ p ∈ ms, Kv X.K H p.1 p.2 ∧ FitV b p) ∧ ms.length < 64 ∧
  ∀ a L, H a = none → (∀ p ∈ L, p ∈ ms) → (∀ p ∈ ms, p.2 ∈ L.map (·.2)) → (L.map (·.2)).Nodup → Q (.ref a) (upd H a (SetV b X.w a L))
theorem cr_setOf (hc : X.calm = true) (hu : X.A.units + 64 < cLine) : CallR X (.type "set") (rSetOf X) := by
  intro pins s σ H xs us Q I r h
  obtain ⟨b, l, ms, rfl, hl, hk, h64, q⟩ := h
  rw [Vals.ref1 r]
  have hn : H s.heap.objs.size = none := I.hok.fresh (Nat.le_refl _)
  have fin : ∀ M : List Mem, Twin ms M → Made b X.w s M (EP X pins σ Q) := fun M tw h' tk L es ep t R g k => by
    obtain ⟨L', t', sub⟩ := tw.pick (N := L) fun m hm => List.mem_of_mem_take (g.sub m hm)
    refine ⟨.ref s.heap.objs.size, upd H s.heap.objs.size (SetV b X.w s.heap.objs.size L'), I.laid (t' := tk) k (Nat.le_refl _) (setV_ok ⟨L, es, ep, t, t', R.ob, R.eq, R.nd, R.fit, R.ris, R.full, R.led, R.few, R.tab⟩), rfl, q _ L' hn sub (fun p hp => ?_) ?_⟩
    · rw [← t'.2]
      have e : p.2 ∈ M.map (·.2) := by
        rw [tw.2]
        exact List.mem_map.mpr ⟨p, hp, rfl⟩
      obtain ⟨m, hm, em⟩ := List.mem_map.mp e
      rw [← em]
      exact g.all m (by rw [List.take_length]; exact hm)
    · rw [← t'.2]
      exact R.nd
  have pre : ∀ M : List Mem, Twin ms M → (∀ m ∈ M, NestedIs s.heap m.2 m.1) ∧ (∀ m ∈ M, Fit b m) ∧ M.length < 64 := fun M tw => by
    refine ⟨fun m hm => ?_, fun m hm => ?_, ?_⟩
    · obtain ⟨p, hp, r1, e1⟩ := tw.mem m hm
      rw [e1]
      exact (Kv.reads I p.2 p.1 m.1 (hk p hp).1 r1).1
    · obtain ⟨p, hp, r1, e1⟩ := tw.mem m hm
      exact (hk p hp).2.fit r1 e1
    · have z := congrArg List.length tw.2
      rw [List.length_map, List.length_map] at z
      omega
  rcases hl with hl | hl
  · obtain ⟨its, rv, pl, hz⟩ := I.list hl
    obtain ⟨M, eM, tw⟩ := Twin.make rv
    obtain ⟨p1, p2, p3⟩ := pre M tw
    exact set_of_list b M (I.ok.hd hc) pl.isList (by simpa using eM.symm) p1 p2 p3 (by omega) (fin M tw)
  · obtain ⟨its, rv, pl, hz⟩ := I.tuple hl
    obtain ⟨M, eM, tw⟩ := Twin.make rv
    obtain ⟨p1, p2, p3⟩ := pre M tw
    exact set_of_tuple b M (I.ok.hd hc) pl (by simpa using eM.symm) p1 p2 p3 (by omega) (fin M tw)
/-- len(a set) -/
def rLenSet (X : Cx) : List V → Hp → VK → Prop := fun xs H Q => ∃ (b : Bool) (a : Addr) (L : List MemV), xs = [V.ref a] ∧ H a = some (SetV b X.w a L) ∧ Q (.int L.length) H
theorem cr_lenSet : CallR X (.builtin "len") (rLenSet X) := by
  intro pins s σ H xs us Q I r h
  obtain ⟨b, a, L, rfl, ha, q⟩ := h
  rw [Vals.ref1 r]
  obtain ⟨M, es, ep, t, tw, ⟨o, ho, hex, hd⟩, eq, _, _, _, full, _, few, _⟩ := (show SetV0 b X.w s.heap a L from (I.hok a _ ha).1)
  have z1 : es.size = M.length := by rw [← Array.length_toList, eq, ents, List.length_map]
  have z2 := congrArg List.length tw.2
  rw [List.length_map, List.length_map] at z2
  exact call_len_set ho hex hd full (by rw [z1]; omega) ⟨.int L.length, H, I.tok _, ⟨_, by rw [z1, z2]⟩, q⟩
end
end KS
/-! sorted(a set) -/
namespace KS
open PySem PySem.Spec PyProof.Rows L2
theorem same_keys {α β : Type} (f : α → β) {L L' : List α} (sub : ∀ x ∈ L', x ∈ L) (pm : (L'.map f).Perm (L.map f)) (nd : (L.map f).Nodup) : L'.Perm L := by
  have inj : ∀ x ∈ L, ∀ y ∈ L, f x = f y → x = y := fun x hx y hy e => by
    obtain ⟨i, hi, rfl⟩ := List.getElem_of_mem hx
    obtain ⟨j, hj, rfl⟩ := List.getElem_of_mem hy
    have e2 : (L.map f)[i]? = (L.map f)[j]? := by
      rw [List.getElem?_map, List.getElem?_map, List.getElem?_eq_getElem hi, List.getElem?_eq_getElem hj]
      show some _ = some _
      rw [e]
    have ij : i = j := (List.getElem?_inj (by rw [List.length_map]; exact hi) nd).mp e2
    subst ij
    rfl
  have n1 : L'.Nodup := nodup_of_map (pm.nodup_iff.mpr nd)
  have n2 : L.Nodup := nodup_of_map nd
  refine (List.perm_ext_iff_of_nodup n1 n2).mpr fun x => ⟨sub x, fun hx => ?_⟩
  obtain ⟨y, hy, e⟩ := List.mem_map.mp (pm.mem_iff.mpr (List.mem_map.mpr ⟨x, hx, rfl⟩))
  rw [← inj y (sub y hy) x hx e]
  exact hy
/-- x stands behind y -/
def Aft (p q : MemV) : Prop := W.dataLt q.2.data p.2.data = false
mutual
theorem data_depth : ∀ k : NestedKey, k.data.depth = k.depth
  | .none => rfl
  | .num _ => rfl
  | .text _ => rfl
  | .tup ks => by
    show PyData.depthAll (NestedKey.datas ks) + 1 = NestedKey.depthAll ks + 1
    rw [datas_depth ks]
theorem datas_depth : ∀ ks : List NestedKey, PyData.depthAll (NestedKey.datas ks) = NestedKey.depthAll ks
  | [] => rfl
  | k :: ks => by
    show max k.data.depth (PyData.depthAll (NestedKey.datas ks)) = max k.depth (NestedKey.depthAll ks)
    rw [data_depth k, datas_depth ks]
end
section
variable {X : Cx}
/-- sorted(a set): a new list, ascending -/
def rSortSet (X : Cx) : List V → Hp → VK → Prop := fun xs H Q => ∃ (b : Bool) (a : Addr) (L : List MemV), xs = [V.ref a] ∧ H a = some (SetV b X.w a L) ∧ (∀ p ∈ L, Kv X.K H p.1 p.2) ∧
  W.AllAlike (L.map (·.2.data)) ∧ W.Sortable (L.map (·.2.data)) ∧
  ∀ (L' : List MemV) (p : Addr), L'.Perm L → L'.Pairwise Aft → H p = none → Q (.ref p) (upd H p (.lst (L'.map (·.1))))
theorem vals_each : ∀ {L : List MemV} {us : List Value}, Vals (L.map (·.1)) us → W.EachIs (fun v (p : MemV) => RelV p.1 v) us L
  | [], _, r => by
    cases r
    exact .nil
  | p :: L, _, r => by
    cases r with
    | cons r1 r2 => exact .cons r1 (vals_each r2)
theorem each_vals : ∀ {us : List Value} {L : List MemV}, W.EachIs (fun v (p : MemV) => RelV p.1 v) us L → Vals (L.map (·.1)) us
  | _, _, .nil => .nil
  | _, _, .cons r t => .cons r (each_vals t)
theorem each_and {α β : Type} {R S : α → β → Prop} : ∀ {as : List α} {bs : List β}, W.EachIs R as bs → (∀ a, ∀ b ∈ bs, R a b → S a b) → W.EachIs S as bs
  | _, _, .nil, _ => .nil
  | _, _, .cons r t, h => .cons (h _ _ List.mem_cons_self r) (each_and t fun a b hb => h a b (List.mem_cons_of_mem _ hb))
theorem cr_sortSet (hc : X.calm = true) (hu : X.A.units + 64 < cLine) : CallR X (.builtin "sorted") (rSortSet X) := by
  intro pins s σ H xs us Q I r h
  obtain ⟨b, a, L, rfl, ha, hk, al, so, q⟩ := h
  rw [Vals.ref1 r]
  obtain ⟨M, es, ep, t, tw, ⟨o, ho, hex, hd⟩, eq, nd, fit, ris, full, led, few, _⟩ := (show SetV0 b X.w s.heap a L from (I.hok a _ ha).1)
  have z1 : es.size = M.length := by rw [← Array.length_toList, eq, ents, List.length_map]
  have z2 := congrArg List.length tw.2
  rw [List.length_map, List.length_map] at z2
  have ndL : (L.map (·.2)).Nodup := by
    rw [← tw.2]
    exact nd
  refine Calls.call_function_entry kind_sorted plain_sorted entry_sorted (args_sorted1 _) ?_
  unfold Builtin.«sorted»
  refine wpAny_bind (m := checkCount "sorted" 1 1 _) (wpAny_pure (wpAny_bind (collect_set (A := X.A.in1) (I.ok.hd hc) ⟨o, ho, hex.1, hd⟩ full (by rw [z1]; show M.length < 4096; omega) ris led fun s1 vs k1 hz g1 o1 pm => ?_)))
  rw [eq, ents, List.map_map] at pm
  obtain ⟨M1, e1, p1⟩ := perm_back (fun m : Mem => m.1) vs M pm
  obtain ⟨L1, t1, sub⟩ := tw.pick (N := M1) fun m hm => p1.mem_iff.mp hm
  have pL : L1.Perm L := same_keys (fun p : MemV => p.2) sub (by rw [← t1.2, ← tw.2]; exact p1.map _) ndL
  have zL : L1.length < 64 := by
    rw [pL.length_eq]
    omega
  have rv : Vals (L1.map (·.1)) vs := by
    rw [e1]
    exact t1.1
  have zv : vs.length = L1.length := by rw [← rv.length, List.length_map]
  refine wpAny_bind (wpAny_newList ?_ (by rw [zv, sizeLine_eq]; omega))
  have hoL : (s1.heap.push (seqObj "list" vs.toArray 0)).get? s1.heap.objs.size = some (seqObj "list" vs.toArray 0) := Heap.get?_push_size _ rfl
  have pd : (L1.map (·.2.data)).Perm (L.map (·.2.data)) := pL.map _
  have al1 : W.AllAlike (L1.map (·.2.data)) := fun d hd d' hd' => al d (pd.mem_iff.mp hd) d' (pd.mem_iff.mp hd')
  have so1 : W.Sortable (L1.map (·.2.data)) := so.imp (fun h d hd => h d (pd.mem_iff.mp hd)) fun h d hd => h d (pd.mem_iff.mp hd)
  have dep : ∀ p ∈ L1, p.2.data.depth ≤ 8 := fun p hp => by
    have e : p.2 ∈ M.map (·.2) := by
      rw [tw.2]
      exact List.mem_map.mpr ⟨p, sub p hp, rfl⟩
    obtain ⟨m, hm, em⟩ := List.mem_map.mp e
    rw [data_depth, ← em]
    exact fit_depth (fit m hm)
  refine wpAny_bind (wpAny_holding (W.list_sort_data (s := { s1 with heap := s1.heap.push (seqObj "list" vs.toArray 0) }) hoL (vals_each rv) (each_and (vals_each rv) fun v p hp r0 => ⟨[], ?_, by simp⟩) al1 so1 (by rw [sizeLine_eq]; omega) (fun p hp => by have := dep p hp; simp only [Around.in1_units]; omega) fun out zo eo => ?_))
  · exact PyProof.Rows.Reads.keeps (fun b u e => Heap.get?_push_of_some _ (k1 b u e)) (Kv.reads I p.2 p.1 v (hk p (sub p hp)) r0).2
  · obtain ⟨c, hc2⟩ := sortedHeap_at (vs := vs) (out := List.toArray out) hoL
    have pS := List.mergeSort_perm L1 (W.dataLe false fun p : MemV => p.2.data)
    have oS : (L1.mergeSort (W.dataLe false fun p : MemV => p.2.data)).Pairwise Aft := by
      refine (W.sort_pairwise (W.sortLe_total _ false _) L1).imp fun {p q} hle => ?_
      have h2 : (!W.dataLt q.2.data p.2.data) = true := hle
      show W.dataLt q.2.data p.2.data = false
      cases e : W.dataLt q.2.data p.2.data with
      | false => rfl
      | true =>
        rw [e] at h2
        cases h2
    have rS := each_vals eo
    generalize L1.mergeSort (W.dataLe false fun p : MemV => p.2.data) = S at pS oS rS
    have hn : H s1.heap.objs.size = none := I.hok.fresh hz
    have keep : ∀ b u, s.heap.get? b = some u → (sortedHeap (s1.heap.push (seqObj "list" vs.toArray 0)) s1.heap.objs.size vs (List.toArray out)).get? b = some u := fun b u e => by
      have e2 := k1 b u e
      have lt := Heap.lt_size e2
      rw [sortedHeap_old (Nat.ne_of_lt lt) (by rw [size_push']; exact Nat.lt_succ_of_lt lt)]
      exact Heap.get?_push_of_some _ e2
    have len : (S.map (·.1)).length ≤ sizeLine := by
      rw [List.length_map, pS.length_eq, sizeLine_eq]
      omega
    have J : Inv X pins σ (upd H s1.heap.objs.size (.lst (S.map (·.1)))) { s with heap := sortedHeap (s1.heap.push (seqObj "list" vs.toArray 0)) s1.heap.objs.size vs (List.toArray out), gens := s1.gens, drawn := s1.drawn, toks := s1.toks } :=
      I.call (ch := []) (Un.laid keep hz hn) (I.hok.laid keep hz ⟨len, out, c, rS, by simpa using hc2⟩) (by rw [g1]; exact I.bare) (fun _ z => nomatch z)
    obtain ⟨hp1, gn1, dr1, tk1, os1⟩ := s1
    have eo1 : os1 = s.os := o1
    subst eo1
    exact wpAny_pure ⟨_, rfl, ⟨.ref hp1.objs.size, _, J, rfl, q S hp1.objs.size (pS.trans pL) oS hn⟩⟩
end
end KS
/-! Defs that are called where no repr is under way: their promise may lean on repr. -/
namespace KG
open PySem PySem.Spec PyProof.Rows L2

/-- a def's promise where nothing is being shown -/
structure FnG (P : Program) (w : World) (K : PySem.W.Frag) (mg : Str → Option Value) (base : Heap) (CX : CXT) (k : Nat) (f : Addr) (fd : FuncData) (ps : List Str) (sp : Sp) : Prop where
  size : ∀ vs H Q E, sp vs H Q E → vs.length = ps.length
  go : ∀ (A : Around) (outer : List Env) (s : Shared) (H : Hp) (args : Args) (us : List Value) (vs : List V) (Q : VK) (E : XK),
    A.guards = some [] → Room k A → Env0 P w K mg base A outer s H → BindsTo s fd args (ps.zip us) → Vals vs us → sp vs H Q E →
    codeAny (model P w) A (.call (.ref f) args) (CR CX outer P w H s Q E) s

section
variable {P : Program} {w : World} {K : PySem.W.Frag} {mg : Str → Option Value} {base : Heap} {CX : CXT} {k : Nat} {f : Addr} {fd : FuncData} {ps : List Str} {sp : Sp}
theorem FnG.of (F : FnOk P w K mg base CX k f fd ps sp) : FnG P w K mg base CX k f fd ps sp :=
  ⟨F.len, fun A outer s H args us vs Q E _ => F.run A outer s H args us vs Q E⟩
theorem FnG.up {j : Nat} (F : FnG P w K mg base CX j f fd ps sp) (h : j ≤ k) : FnG P w K mg base CX k f fd ps sp :=
  ⟨F.size, fun A outer s H args us vs Q E g hr => F.go A outer s H args us vs Q E g (hr.mono h)⟩

/-- the body's rule, where nothing is being shown -/
theorem okG {x qual : Str} {st : Stmt} {N : List Str} (F : Fun K x qual st f fd) (S : FnScope N ps (defScope st)) (len : ∀ vs H Q E, sp vs H Q E → vs.length = ps.length)
    (hbody : ∀ (cdv : Value) (A : Around) (outer : List Env) (s : Shared) (H : Hp) (vs : List V) (Q : VK) (E : XK),
      (A.deeper (envOfC qual (defScope st) s.heap.objs.size f cdv)).guards = some [] → Room k (A.deeper (envOfC qual (defScope st) s.heap.objs.size f cdv)) → sp vs H Q E →
      ∃ t, PSs (cxOf CX P w K mg base N qual (defScope st) f cdv A outer s H E) (defBody st) t ∧ t { nx := fun _ H' => Q .non H', rt := Q } (start N vs) H) :
    FnG P w K mg base CX (k + 1) f fd ps sp := by
  obtain ⟨oc, od, kV, doc, pm, an, cdv, ct, osl, rfl, lk, hcd⟩ := F.ex
  refine ⟨len, fun A outer s H args us vs Q E hg hr e0 hb rv h => ?_⟩
  refine StX.run_bnd (G := fun xs H2 => xs = vs ∧ H2 = H) lk hcd S hr e0 (fun A' Ex Q' hq => ?_) ?_
  · exact hb _ _ _ _ (hq s H vs us e0 Un.refl rfl (fun _ _ z => z) rv (len _ _ _ _ h) ⟨rfl, rfl⟩)
  · rintro s2 H2 xs ⟨ex, eH⟩ hr2
    rw [ex, eH]
    have hg2 : (A.deeper (envOfC qual (defScope st) s2.heap.objs.size f cdv)).guards = some [] := hg
    rw [eH] at *
    exact hbody cdv A outer s2 H vs Q E hg2 hr2 h
end

section
variable {X : Cx} {CX : CXT} {k : Nat} {f : Addr} {fd : FuncData} {ps : List Str} {sp : Sp} {dvs : List V} {ds : List Value} {E : XK} {x : Str} {p pos : Pos} {e : Expr} {es : List Expr} {t : TA}
/-- f(e, ..) where nothing is being shown -/
theorem pe_callG (F : FnG X.prog X.w X.K X.mg X.base CX k f fd ps sp) (hgu : X.A.guards = some []) (hr : Room k X.A) (hg : Gl X x) (hm : X.mg x = some (.ref f)) (hk : PySem.W.keepIn X.K (.ref f) = true)
    (hb : Binds X.K fd ps ds) (hd : Vals dvs ds) (hx : Passes CX X E) (ha : PA X (e :: es) t) (hdb : (x == ("__debug__" : Str)) = false := by decide)
    (he : starEach (e :: es) X.env = (false, eval e X.env) :: starEach es X.env := by rfl) (hpl : (backTo pos (starEach es X.env)).any (·.1) = false := by rfl) :
    PE X (.Call (.Name x p) (e :: es) [] pos) (tCall sp dvs E t) := by
  constructor
  intro pins s σ H Q I h
  apply wpAny_Call_Name_kw (ld_glob I hg hm ?_ hdb)
  apply PySem.W.callWith_K (h₀ := X.base) I.ok.mod.kin hk ?_ he hpl
  apply thn (ha.run pos pins s σ H _ I h)
  rintro us s1 ⟨vs, H1, I1, r, q⟩
  refine ⟨I1.kIn, ?_⟩
  have r2 : Vals (vs ++ dvs) (us ++ ds) := Vals.append r hd
  have hl : (us ++ ds).length = ps.length := by
    rw [← Paired.length r2]
    exact F.size _ _ _ _ q
  show wpAny _ _ (call (.ref f) us) _ _ _
  refine wpAny_call (codeAny_mono (F.go X.A X.stack s1 H1 ⟨us, []⟩ (us ++ ds) (vs ++ dvs) Q E hgu hr I1.env0 (hb s1 us I1.kIn hl) r2 q) ?_)
  rintro (er | fl) s' hq
  · exact hx pins σ H1 s1 er s' I1 hq
  · cases fl with
    | ret u => exact Inv.after I1 hq
    | next => exact hq.elim
    | brk => exact hq.elim
    | cont => exact hq.elim
end
end KG
namespace KG
open PySem PySem.Spec PyProof.Rows L2

mutual
/-- what is built of None, bools, ints, texts, lists, tuples and dicts that stand in the abstract heap, at addresses of Z alone -/
inductive Dq (Z : Addr → Prop) (H : Hp) : V → PyData → Prop
  | non : Dq Z H .non .none
  | bl (b : Bool) : Dq Z H (.bl b) (.bool b)
  | int (i : Int) : Dq Z H (.int i) (.int i)
  | str (x : Str) : Dq Z H (.str x) (.str x)
  | lst {a : Addr} {xs : List V} {ds : List PyData} : Z a → H a = some (.lst xs) → DqAll Z H xs ds → Dq Z H (.ref a) (.list ds)
  | tup {a : Addr} {xs : List V} {ds : List PyData} : Z a → H a = some (.tup xs) → DqAll Z H xs ds → Dq Z H (.ref a) (.tuple ds)
  | dct {a : Addr} {kvs : List (Key × V)} {ps : List (PyData × PyData)} : Z a → H a = some (.dK kvs) →
      DqAll Z H (kvs.map fun p => kV p.1) (ps.map (·.1)) → DqAll Z H (kvs.map fun p => p.2) (ps.map (·.2)) → Dq Z H (.ref a) (.dict ps)
inductive DqAll (Z : Addr → Prop) (H : Hp) : List V → List PyData → Prop
  | nil : DqAll Z H [] []
  | cons {v : V} {vs : List V} {d : PyData} {ds : List PyData} : Dq Z H v d → DqAll Z H vs ds → DqAll Z H (v :: vs) (d :: ds)
end

section
variable {Z : Addr → Prop} {H H' : Hp}
mutual
theorem Dq.keep (e : ∀ b o, Z b → H b = some o → H' b = some o) : ∀ {v : V} {d : PyData}, Dq Z H v d → Dq Z H' v d
  | _, _, .non => .non
  | _, _, .bl b => .bl b
  | _, _, .int i => .int i
  | _, _, .str x => .str x
  | _, _, .lst z h a => .lst z (e _ _ z h) (DqAll.keep e a)
  | _, _, .tup z h a => .tup z (e _ _ z h) (DqAll.keep e a)
  | _, _, .dct z h a b => .dct z (e _ _ z h) (DqAll.keep e a) (DqAll.keep e b)
theorem DqAll.keep (e : ∀ b o, Z b → H b = some o → H' b = some o) : ∀ {vs : List V} {ds : List PyData}, DqAll Z H vs ds → DqAll Z H' vs ds
  | _, _, .nil => .nil
  | _, _, .cons a b => .cons (Dq.keep e a) (DqAll.keep e b)
end
mutual
theorem Dq.mono {Z' : Addr → Prop} (e : ∀ b, Z b → Z' b) : ∀ {v : V} {d : PyData}, Dq Z H v d → Dq Z' H v d
  | _, _, .non => .non
  | _, _, .bl b => .bl b
  | _, _, .int i => .int i
  | _, _, .str x => .str x
  | _, _, .lst z h a => .lst (e _ z) h (DqAll.mono e a)
  | _, _, .tup z h a => .tup (e _ z) h (DqAll.mono e a)
  | _, _, .dct z h a b => .dct (e _ z) h (DqAll.mono e a) (DqAll.mono e b)
theorem DqAll.mono {Z' : Addr → Prop} (e : ∀ b, Z b → Z' b) : ∀ {vs : List V} {ds : List PyData}, DqAll Z H vs ds → DqAll Z' H vs ds
  | _, _, .nil => .nil
  | _, _, .cons a b => .cons (Dq.mono e a) (DqAll.mono e b)
end
theorem Dq.same (e : Same H H') {v : V} {d : PyData} (h : Dq Z H v d) : Dq Z H' v d := h.keep fun b o _ q => e b o q
theorem DqAll.same (e : Same H H') {vs : List V} {ds : List PyData} (h : DqAll Z H vs ds) : DqAll Z H' vs ds := h.keep fun b o _ q => e b o q
theorem DqAll.length : ∀ {vs : List V} {ds : List PyData}, DqAll Z H vs ds → vs.length = ds.length
  | _, _, .nil => rfl
  | _, _, .cons _ b => congrArg (· + 1) (DqAll.length b)
theorem DqAll.snoc {v : V} {d : PyData} (h : Dq Z H v d) : ∀ {vs : List V} {ds : List PyData}, DqAll Z H vs ds → DqAll Z H (vs ++ [v]) (ds ++ [d])
  | _, _, .nil => .cons h .nil
  | _, _, .cons a b => .cons a (DqAll.snoc h b)
end
mutual
/-- at most how long the text of data is -/
def cost : PyData → Nat
  | .none => 4
  | .bool _ => 5
  | .int i => i.natAbs.log2 + 3
  | .str x => (reprText x).length
  | .list xs => costAll xs + 4
  | .tuple xs => costAll xs + 6
  | .dict kvs => costKv kvs + 4
def costAll : List PyData → Nat
  | [] => 0
  | x :: xs => cost x + 2 + costAll xs
def costKv : List (PyData × PyData) → Nat
  | [] => 0
  | (k, v) :: r => cost k + cost v + 4 + costKv r
end
theorem list_len (ts : List Str) : (listText ts).length ≤ piled ts + 2 := by
  have h : (listText ts).length = (textFrom 0 "[" ts).length + 1 := by
    show (textFrom 0 "[" ts ++ "]").length = _
    rw [strLen_append]; rfl
  cases ts with
  | nil => rw [h]; exact Nat.le_refl _
  | cons t r =>
    have e : textFrom 0 "[" (t :: r) = textFrom 1 (("[" : Str) ++ (if 0 > 0 then ", " else "" : String) ++ t) r := rfl
    rw [h, e, textFrom_length_pos r 1 _ (by decide), strLen_append, strLen_append]
    show 1 + 0 + t.length + piled r + 1 ≤ t.length + 2 + piled r + 2
    omega
theorem tuple_len (ts : List Str) : (tupleText ts).length ≤ piled ts + 4 := by
  have h : (tupleText ts).length ≤ 1 + (Str.join ", " ts).length + 2 := by
    unfold tupleText
    rw [strLen_append, strLen_append]
    have : (Str.ofString (if ts.length == 1 then ",)" else ")" : String)).length ≤ 2 := by
      split <;> decide
    have e : (("(" : Str)).length = 1 := rfl
    omega
  cases ts with
  | nil => exact Nat.le_trans h (by decide)
  | cons t r =>
    have := join_length_add (t :: r) (by simp)
    omega
theorem dict_len (ts : List Str) : (dictText ts).length ≤ piled ts + 2 := by
  have h : (dictText ts).length = 1 + (Str.join ", " ts).length + 1 := by
    unfold dictText
    rw [strLen_append, strLen_append]
    rfl
  cases ts with
  | nil => exact Nat.le_trans (Nat.le_of_eq h) (by decide)
  | cons t r =>
    have := join_length_add (t :: r) (by simp)
    omega
mutual
theorem shown_cost : ∀ d : PyData, d.shown.length ≤ cost d
  | .none => by simp only [PyData.shown, cost]; decide
  | .bool b => by cases b <;> simp only [PyData.shown, cost] <;> decide
  | .int i => by
    simp only [PyData.shown, cost]
    have := int_text_length_le (a := i) (k := i.natAbs.log2 + 1) (by omega) (by omega)
    rw [PySem.ofString_length]
    omega
  | .str x => by simp only [PyData.shown, cost]; exact Nat.le_refl _
  | .list xs => by
    simp only [PyData.shown, cost]
    have := list_len (PyData.shownAll xs)
    have := shownAll_cost xs
    omega
  | .tuple xs => by
    simp only [PyData.shown, cost]
    have := tuple_len (PyData.shownAll xs)
    have := shownAll_cost xs
    omega
  | .dict kvs => by
    simp only [PyData.shown, cost]
    have := dict_len (PyData.shownKv kvs)
    have := shownKv_cost kvs
    omega
theorem shownAll_cost : ∀ xs : List PyData, piled (PyData.shownAll xs) ≤ costAll xs
  | [] => by simp only [PyData.shownAll, costAll]; exact Nat.le_refl _
  | x :: xs => by
    have := shown_cost x
    have := shownAll_cost xs
    have e : piled (PyData.shownAll (x :: xs)) = (x.shown.length + 2) + piled (PyData.shownAll xs) := by simp only [PyData.shownAll, piled, List.map_cons, List.sum_cons]
    rw [e]
    simp only [costAll]
    omega
theorem shownKv_cost : ∀ kvs : List (PyData × PyData), piled (PyData.shownKv kvs) ≤ costKv kvs
  | [] => by simp only [PyData.shownKv, costKv]; exact Nat.le_refl _
  | (k, v) :: r => by
    have h1 := shown_cost k
    have h2 := shown_cost v
    have h3 := shownKv_cost r
    have e : ((": " : Str)).length = 2 := rfl
    have q : piled (PyData.shownKv ((k, v) :: r)) = ((k.shown ++ ": " ++ v.shown).length + 2) + piled (PyData.shownKv r) := by simp only [PyData.shownKv, piled, List.map_cons, List.sum_cons]
    rw [q, strLen_append, strLen_append, e]
    simp only [costKv]
    omega
end

theorem rel_key {P : Program} {w : World} {k : Key} {u : Value} (h : (mixKind P w).is k u = true) : RelV (kV k) u := by
  rcases keyIs_shape h with ⟨i, t, rfl, rfl⟩ | ⟨x, t, rfl, rfl⟩
  · exact ⟨t, rfl⟩
  · exact ⟨t, rfl⟩
theorem pairs_keys {P : Program} {w : World} : ∀ {es : List DictEntry} {vs : List (Key × Value)} {kvs : List (Key × V)}, Pairs (mixKind P w) es vs → KV kvs vs →
    Vals (kvs.map fun p => kV p.1) (es.map (·.key)) ∧ Vals (kvs.map fun p => p.2) (es.map (·.val))
  | _, _, _, .nil, .nil => ⟨.nil, .nil⟩
  | _, _, _, .cons h1 h2 h3, .cons h4 h5 => by
    obtain ⟨e1, e2⟩ := h4
    obtain ⟨i1, i2⟩ := pairs_keys h3 h5
    refine ⟨.cons ?_ i1, .cons ?_ i2⟩
    · show RelV (kV _) _
      rw [e1]
      exact rel_key h1
    · show L2.RelV _ (DictEntry.val _)
      rw [h2]
      exact e2

section
variable {X : Cx} {pins : List (Addr × Obj)} {σ : L2.St} {H : Hp} {s : Shared} {Z : Addr → Prop}
theorem shown_mem {ds : List PyData} {n : Nat} (f : List Str → Str) (hf : ∀ {ts : List Str} {t : Str}, t ∈ ts → t.length ≤ (f ts).length) (h : (f (PyData.shownAll ds)).length ≤ n) : ∀ t ∈ PyData.shownAll ds, t.length ≤ n :=
  fun _ ht => Nat.le_trans (hf ht) h
mutual
theorem Dq.shows (I : Inv X pins σ H s) : ∀ {v : V} {d : PyData}, Dq Z H v d → ∀ (u : Value), RelV v u → d.showable = true → d.shown.length ≤ sizeLine →
    ∃ as bs, Reads s.heap u d as ∧ ReadAtMost s.heap d.depth bs ∧ ReprK X.prog X.w bs s.heap d.depth u d.shown
  | _, _, .non, u, r, _, _ => by
    obtain rfl : u = Value.none := r
    exact ⟨[], [], .none, (fun _ h => nomatch h), by simp only [PyData.shown]; exact .of_is ReprIs.none _ _ _⟩
  | _, _, .bl b, u, r, _, _ => by
    obtain rfl : u = Value.bool b := r
    exact ⟨[], [], .bool b, (fun _ h => nomatch h), by simp only [PyData.shown]; exact .of_is (ReprIs.bool b) _ _ _⟩
  | _, _, .int i, u, r, hs, _ => by
    obtain ⟨t, rfl⟩ := r
    exact ⟨[], [], .int i t, (fun _ h => nomatch h), by simp only [PyData.shown]; exact .of_is (ReprIs.int t (by simpa [PyData.showable] using hs)) _ _ _⟩
  | _, _, .str x, u, r, _, hz => by
    obtain ⟨t, rfl⟩ := r
    exact ⟨[], [], .str x t, (fun _ h => nomatch h), by simp only [PyData.shown] at hz ⊢; exact .of_is (ReprIs.str x t hz) _ _ _⟩
  | _, _, .lst (a := a) (ds := ds) _ ha hd, u, r, hs, hz => by
    obtain rfl : u = Value.ref a := r
    simp only [PyData.shown, PyData.showable] at hs hz
    obtain ⟨_, its, n, rv, ho⟩ := (show ObjOk X.prog X.w H s.heap a (.lst _) from I.hok a _ ha)
    obtain ⟨as, bs, q1, q2, q3⟩ := DqAll.shows I hd its rv hs (shown_mem listText listText_mem_le hz)
    have rr : Reads s.heap (.ref a) (.list ds) (a :: as) := .list ho rfl rfl (by simpa using q1)
    have hna : a ∉ bs := not_mem_of_deeper rr (by simp only [PyData.depth]; omega) q2
    refine ⟨_, a :: bs, rr, ReadAtMost.cons rr (by simp only [PyData.depth]; omega) q2, ?_⟩
    simp only [PyData.depth, PyData.shown]
    cases its with
    | nil =>
      cases q1
      simp only [PyData.shownAll, listText_nil]
      exact ReprK.listEmpty ho rfl rfl
    | cons x l => exact ReprK.list ho rfl rfl hna (by simpa using q3.length_eq) (fun i y e => q3.item i y (by simpa using e))
  | _, _, .tup (a := a) (ds := ds) _ ha hd, u, r, hs, hz => by
    obtain rfl : u = Value.ref a := r
    simp only [PyData.shown, PyData.showable] at hs hz
    obtain ⟨_, its, rv, o, ho, hc, n, hdat⟩ := (show ObjOk X.prog X.w H s.heap a (.tup _) from I.hok a _ ha)
    obtain ⟨as, bs, q1, q2, q3⟩ := DqAll.shows I hd its rv hs (shown_mem tupleText tupleText_mem_le hz)
    have rr : Reads s.heap (.ref a) (.tuple ds) as := .tuple ho hc hdat (by simpa using q1)
    have hna : a ∉ bs := not_mem_of_deeper rr (by simp only [PyData.depth]; omega) q2
    refine ⟨_, a :: bs, rr, ReadAtMost.cons rr (by simp only [PyData.depth]; omega) q2, ?_⟩
    simp only [PyData.depth, PyData.shown]
    exact ReprK.tuple ho hc hdat hna (by simpa using q3)
  | _, _, .dct (a := a) (ps := ps) _ ha hk hv, u, r, hs, hz => by
    obtain rfl : u = Value.ref a := r
    simp only [PyData.shown, PyData.showable] at hs hz
    obtain ⟨_, hsy, vs, rel, o, es, ep, ho, hx, hdat, _, prs, _⟩ := dk_of I.hok ha
    obtain ⟨r1, r2⟩ := pairs_keys prs rel
    obtain ⟨hs1, hs2⟩ := PyData.showableKv_split ps hs
    obtain ⟨as1, b1, q1, q2, q3⟩ := DqAll.shows I hk _ r1 hs1 (fun t ht => let ⟨p, hp, hl⟩ := PyData.shownKv_key_le ps t ht; Nat.le_trans hl (Nat.le_trans (dictText_mem_le hp) hz))
    obtain ⟨as2, b2, p1, p2, p3⟩ := DqAll.shows I hv _ r2 hs2 (fun t ht => let ⟨p, hp, hl⟩ := PyData.shownKv_val_le ps t ht; Nat.le_trans hl (Nat.le_trans (dictText_mem_le hp) hz))
    have hb : ReadAtMost s.heap (PyData.depthKv ps) (b1 ++ b2) := (q2.mono (PyData.depthAll_keys_le ps)).append (p2.mono (PyData.depthAll_vals_le ps))
    have rr : Reads s.heap (.ref a) (.dict ps) (a :: as1 ++ as2) := .dict ho hx.1 hdat q1 p1
    have hna : a ∉ b1 ++ b2 := not_mem_of_deeper rr (by simp only [PyData.depth]; omega) hb
    refine ⟨_, a :: (b1 ++ b2), rr, ReadAtMost.cons rr (by simp only [PyData.depth]; omega) hb, ?_⟩
    simp only [PyData.depth, PyData.shown, PyData.shownKv_eq]
    exact ReprK.dict ho hx.1 hdat hsy hna (ReprEntriesK.of_two es.toList _ _ (q3.more_le (fun b hb => List.mem_append_left _ hb) (PyData.depthAll_keys_le ps))
      (p3.more_le (fun b hb => List.mem_append_right _ hb) (PyData.depthAll_vals_le ps)))
theorem DqAll.shows (I : Inv X pins σ H s) : ∀ {xs : List V} {ds : List PyData}, DqAll Z H xs ds → ∀ (us : List Value), Vals xs us → PyData.showableAll ds = true → (∀ t ∈ PyData.shownAll ds, t.length ≤ sizeLine) →
    ∃ as bs, ReadsAll s.heap us ds as ∧ ReadAtMost s.heap (PyData.depthAll ds) bs ∧ ReprAllK X.prog X.w bs s.heap (PyData.depthAll ds) us (PyData.shownAll ds)
  | _, _, .nil, us, r, _, _ => by
    cases r
    exact ⟨[], [], .nil, (fun _ h => nomatch h), by simp only [PyData.shownAll]; exact .nil⟩
  | _, _, .cons (d := d) (ds := ds) h1 h2, us, r, hs, hz => by
    cases r with
    | cons r1 r2 =>
      simp only [PyData.showableAll, Bool.and_eq_true] at hs
      obtain ⟨as1, b1, q1, q2, q3⟩ := Dq.shows I h1 _ r1 hs.1 (hz _ (by simp only [PyData.shownAll]; exact List.mem_cons_self ..))
      obtain ⟨as2, b2, p1, p2, p3⟩ := DqAll.shows I h2 _ r2 hs.2 (fun t ht => hz t (by simp only [PyData.shownAll]; exact List.mem_cons_of_mem _ ht))
      refine ⟨as1 ++ as2, b1 ++ b2, .cons q1 p1, ?_, ?_⟩
      · simp only [PyData.depthAll]
        exact (q2.mono (Nat.le_max_left _ _)).append (p2.mono (Nat.le_max_right _ _))
      · simp only [PyData.depthAll, PyData.shownAll]
        exact .cons ((q3.more fun b hb => List.mem_append_left _ hb).level_le (Nat.le_max_left _ _)) (p3.more_le (fun b hb => List.mem_append_right _ hb) (Nat.le_max_right _ _))
end

/-- repr(x) of data -/
def rRepr : List V → Hp → VK → Prop := fun xs H Q => ∃ (Z : Addr → Prop) (x : V) (d : PyData), xs = [x] ∧ Dq Z H x d ∧ d.showable = true ∧ d.depth ≤ 60 ∧ d.shown.length ≤ sizeLine ∧ Q (.str d.shown) H
theorem call_repr (hg : X.A.guards = some []) (hu : X.A.units + 64 < cLine) : CallR X (.builtin "repr") rRepr := by
  intro pins s σ H xs us Q I r h
  obtain ⟨Z, x, d, rfl, hd, hs, hdp, hz, q⟩ := h
  obtain ⟨u, rfl, rx⟩ := vals1 r
  have fin : ∀ (h' : Heap) (tu : Tok) (tk : Nat), (∀ b o, s.heap.get? b = some o → h'.get? b = some o) → EP X pins σ Q (.str d.shown tu) { s with heap := h', toks := tk } := fun h' tu tk k =>
    ⟨.str d.shown, H, I.kept k, ⟨tu, rfl⟩, q⟩
  have hu2 : X.A.units + 1 < cLine := by omega
  have big : ∀ {n : Nat}, n + 1 ≤ 60 → X.A.in1.units + (n + 1) < cLine := fun {n} hn => by
    show X.A.units + 1 + (n + 1) < cLine
    omega
  obtain ⟨as, bs, rd, ra, rk⟩ := Dq.shows I hd u rx hs hz
  cases hd with
  | non =>
    obtain rfl : u = Value.none := rx
    simp only [PyData.shown] at fin
    exact PySem.P.repr_of_none (fin s.heap _ _ fun _ _ e => e)
  | bl b =>
    obtain rfl : u = Value.bool b := rx
    simp only [PyData.shown] at fin
    exact PySem.P.repr_of_bool (fin s.heap _ _ fun _ _ e => e)
  | int i =>
    obtain ⟨t, rfl⟩ := rx
    simp only [PyData.shown, PyData.showable] at fin hs
    exact PySem.P.repr_of_int (by simpa using hs) (fin s.heap _ _ fun _ _ e => e)
  | str y =>
    obtain ⟨t, rfl⟩ := rx
    simp only [PyData.shown] at fin hz
    exact PySem.P.repr_of_str (fin s.heap _ _ fun _ _ e => e) hz
  | @lst a xs ds _ ha hd =>
    obtain rfl : u = Value.ref a := rx
    simp only [PyData.shown, PyData.showable, PyData.depth] at fin hs hz hdp
    obtain ⟨_, its, n, rv, ho⟩ := (show ObjOk X.prog X.w H s.heap a (.lst _) from I.hok a _ ha)
    obtain ⟨as1, b1, q1, q2, q3⟩ := DqAll.shows I hd its rv hs (shown_mem listText listText_mem_le hz)
    have rr : Reads s.heap (.ref a) (.list ds) (a :: as1) := .list ho rfl rfl (by simpa using q1)
    have hna : a ∉ b1 := not_mem_of_deeper rr (by simp only [PyData.depth]; omega) q2
    cases its with
    | nil =>
      cases q1
      simp only [PyData.shownAll, listText_nil] at fin
      exact call_repr_slot hu2 ⟨_, ho, rfl⟩ F.slot_list_repr.toG (call_list_repr_empty ⟨_, ho, rfl⟩ ho rfl ⟨_, _, rfl, fin s.heap _ _ fun _ _ e => e⟩)
    | cons x l =>
      exact call_repr_slot hu2 ⟨_, ho, rfl⟩ F.slot_list_repr.toG (call_list_reprK (h₀ := s.heap) ho rfl rfl hna (by simpa using q3.length_eq) (fun i y e => q3.item i y (by simpa using e)) hg (fun b _ => Clear.nil b) (big hdp)
        (fun _ _ e => e) (fun h' t tk k => ⟨_, _, rfl, fin h' _ _ k⟩) hz)
  | @tup a xs ds _ ha hd =>
    obtain rfl : u = Value.ref a := rx
    simp only [PyData.shown, PyData.showable, PyData.depth] at fin hs hz hdp
    obtain ⟨_, its, rv, o, ho, hc, n, hdat⟩ := (show ObjOk X.prog X.w H s.heap a (.tup _) from I.hok a _ ha)
    obtain ⟨as1, b1, q1, q2, q3⟩ := DqAll.shows I hd its rv hs (shown_mem tupleText tupleText_mem_le hz)
    have rr : Reads s.heap (.ref a) (.tuple ds) as1 := .tuple ho hc hdat (by simpa using q1)
    have hna : a ∉ b1 := not_mem_of_deeper rr (by simp only [PyData.depth]; omega) q2
    exact call_repr_slot hu2 ⟨_, ho, hc⟩ F.slot_tuple_repr (call_tuple_reprK (h₀ := s.heap) ho hc hdat hna (by simpa using q3) hg (fun b _ => Clear.nil b) (big hdp) (fun _ _ e => e) (fun h' t tk k => ⟨_, _, rfl, fin h' _ _ k⟩) hz)
  | @dct a kvs ps _ ha hk hv =>
    obtain rfl : u = Value.ref a := rx
    simp only [PyData.shown, PyData.showable, PyData.depth, PyData.shownKv_eq] at fin hs hz hdp
    rw [← PyData.shownKv_eq] at hz
    obtain ⟨_, hsy, vs, rel, o, es, ep, ho, hx, hdat, _, prs, _⟩ := dk_of I.hok ha
    obtain ⟨r1, r2⟩ := pairs_keys prs rel
    obtain ⟨hs1, hs2⟩ := PyData.showableKv_split ps hs
    obtain ⟨as1, b1, q1, q2, q3⟩ := DqAll.shows I hk _ r1 hs1 (fun t ht => let ⟨p, hp, hl⟩ := PyData.shownKv_key_le ps t ht; Nat.le_trans hl (Nat.le_trans (dictText_mem_le hp) hz))
    obtain ⟨as2, b2, p1, p2, p3⟩ := DqAll.shows I hv _ r2 hs2 (fun t ht => let ⟨p, hp, hl⟩ := PyData.shownKv_val_le ps t ht; Nat.le_trans hl (Nat.le_trans (dictText_mem_le hp) hz))
    have hb : ReadAtMost s.heap (PyData.depthKv ps) (b1 ++ b2) := (q2.mono (PyData.depthAll_keys_le ps)).append (p2.mono (PyData.depthAll_vals_le ps))
    have rr : Reads s.heap (.ref a) (.dict ps) (a :: as1 ++ as2) := .dict ho hx.1 hdat q1 p1
    have hna : a ∉ b1 ++ b2 := not_mem_of_deeper rr (by simp only [PyData.depth]; omega) hb
    exact call_repr_slot hu2 ⟨_, ho, hx.1⟩ F.slot_dict_repr (call_dict_reprK (h₀ := s.heap) ho hx.1 hdat hsy hna (ReprEntriesK.of_two es.toList _ _ (q3.more_le (fun b hb => List.mem_append_left _ hb) (PyData.depthAll_keys_le ps))
      (p3.more_le (fun b hb => List.mem_append_right _ hb) (PyData.depthAll_vals_le ps))) hg (fun b _ => Clear.nil b) (big hdp) (fun _ _ e => e) (fun h' t tk k => ⟨_, _, rfl, fin h' _ _ k⟩) (by rw [← PyData.shownKv_eq]; exact hz))
end
end KG
/-! The deck: a dict with cells to come, a mixed number, a count of draws. -/
namespace K01
open PySem PySem.Spec PyProof.Rows L2 KG

def top (i : Nat) : Stmt := PySem.Challenge.pw_clashnumber_k30_votes_called.main.body.getD i (.Pass ⟨0, 0, 0, 0⟩)
/-- a def of the text: where it stands -/
structure FnF (K : PySem.W.Frag) (mg : Str → Option Value) (name qual : Str) (st : Stmt) where
  a : Addr
  d : FuncData
  F : Fun K name qual st a d
  g : mg name = some (.ref a)
/-- the names that are still built in -/
structure Bi (mg : Str → Option Value) : Prop where
  n_list : mg "list" = none
  n_int : mg "int" = none
  n_len : mg "len" = none
  n_range : mg "range" = none
  n_tuple : mg "tuple" = none
  n_repr : mg "repr" = none
  n_isinstance : mg "isinstance" = none
abbrev s__law_deck : Stmt := top 18
abbrev s__law_draw : Stmt := top 19
abbrev s__law_pick : Stmt := top 20

/-! ### the deck in the heap -/
def dkv (l : Addr) (m n : Int) : List (Key × V) := [(.inr "items", .ref l), (.inr "total", .int m), (.inr "draws", .int n)]
structure DeckAt (H : Hp) (a l : Addr) (k : Nat) : Prop where
  ex : ∃ (cs : List Int) (m : Int) (n : Nat), H a = some (.dK (dkv l m n)) ∧ H l = some (.lst (cs.map .int)) ∧ cs.length ≤ 63 ∧ 0 ≤ m ∧ m < 2147483629 ∧ n ≤ k
/-- all but the deck's two objects stands -/
def Off (a l : Addr) (H H' : Hp) : Prop := ∀ b o, H b = some o → b ≠ a → b ≠ l → H' b = some o
theorem Off.refl {a l : Addr} {H : Hp} : Off a l H H := fun _ _ h _ _ => h
theorem Off.trans {a l : Addr} {H H1 H2 : Hp} (x : Off a l H H1) (y : Off a l H1 H2) : Off a l H H2 := fun b o h h1 h2 => y b o (x b o h h1 h2) h1 h2
theorem Off.of {a l : Addr} {H H' : Hp} (x : Same H H') : Off a l H H' := fun b o h _ _ => x b o h
theorem DeckAt.up {H : Hp} {a l : Addr} {j k : Nat} (x : DeckAt H a l j) (h : j ≤ k) : DeckAt H a l k := by
  obtain ⟨cs, m, n, h1, h2, h3, h4, h5, h6⟩ := x.ex
  exact ⟨cs, m, n, h1, h2, h3, h4, h5, Nat.le_trans h6 h⟩
theorem DeckAt.same {H H' : Hp} {a l : Addr} {k : Nat} (x : DeckAt H a l k) (e : Same H H') : DeckAt H' a l k := by
  obtain ⟨cs, m, n, h1, h2, h3⟩ := x.ex
  exact ⟨cs, m, n, e _ _ h1, e _ _ h2, h3⟩

theorem val_cells (l : Addr) (m n : Int) : valV (dkv l m n) (.inr "items") = some (.ref l) := by
  show valV [_, _, _] _ = _
  simp [valV]
theorem val_mixed (l : Addr) (m n : Int) : valV (dkv l m n) (.inr "total") = some (.int m) := by
  have h1 : ¬ ("items" : Str) = "total" := by decide +kernel
  show valV [_, _, _] _ = _
  simp [valV, h1]
theorem val_draws (l : Addr) (m n : Int) : valV (dkv l m n) (.inr "draws") = some (.int n) := by
  have h1 : ¬ ("items" : Str) = "draws" := by decide +kernel
  have h2 : ¬ ("total" : Str) = "draws" := by decide +kernel
  show valV [_, _, _] _ = _
  simp [valV, h1, h2]
theorem put_draws (l : Addr) (m n k : Int) : putK (dkv l m n) (.inr "draws") (.int k) = dkv l m k := by
  have h1 : ¬ ("items" : Str) = "draws" := by decide +kernel
  have h2 : ¬ ("total" : Str) = "draws" := by decide +kernel
  show putK [_, _, _] _ _ = _
  simp [putK, h1, h2, dkv]
theorem put_mixed (l : Addr) (m n k : Int) : putK (dkv l m n) (.inr "total") (.int k) = dkv l k n := by
  have h1 : ¬ ("items" : Str) = "total" := by decide +kernel
  have h2 : ¬ ("draws" : Str) = "total" := by decide +kernel
  show putK [_, _, _] _ _ = _
  simp [putK, h1, h2, dkv]
theorem merge_deck (l : Addr) (m n : Int) : mergeK [] (dkv l m n) = dkv l m n := by
  have h1 : ¬ ("items" : Str) = "total" := by decide +kernel
  have h2 : ¬ ("items" : Str) = "draws" := by decide +kernel
  have h3 : ¬ ("total" : Str) = "draws" := by decide +kernel
  simp [mergeK, dkv, putK, h1, h2, h3]

/-! ### _law_deck -/
def spDeck (K : PySem.W.Frag) : Sp := fun vs H Q _ => ∃ (a : Addr) (ns : List Int), vs = [.ref a] ∧ SqL K H a (ns.map V.int) ∧ ns.length ≤ 63 ∧
  ∀ (d l : Addr) (H' : Hp), H d = none → H l = none → Same H H' → DeckAt H' d l 0 → Q (.ref d) H'
theorem cut_len {xs : List V} {i : Int} (h : xs.length ≤ 63) : (cutV xs none (some i)).length ≤ 63 := by
  unfold cutV
  rw [List.length_take, List.length_drop]
  omega
theorem cut_map {ns : List Int} {lo hi : Option Int} : ∃ ms : List Int, cutV (ns.map V.int) lo hi = ms.map V.int := by
  unfold cutV
  exact ⟨(ns.drop _).take _, by rw [List.map_take, List.map_drop]⟩
section
variable {P : Program} {w : World} {K : PySem.W.Frag} {mg : Str → Option Value} {base : Heap}
theorem sc__law_deck : FnScope ["_law_script", "_law_items", "_law_total", "_law_item"] ["_law_script"] (defScope s__law_deck) := ⟨rfl, rfl, rfl, by decide +kernel, rfl, by decide +kernel, by decide +kernel⟩
theorem ok__law_deck (B : Bi mg) (f : FnF K mg "_law_deck" "_law_deck" s__law_deck) : FnOk P w K mg base CX0 1 f.a f.d ["_law_script"] (spDeck K) := by
  refine f.F.ok sc__law_deck (fun vs H Q E h => ?_) (fun cdv A outer s H vs Q E hr h => ?_)
  · obtain ⟨a, ns, rfl, _⟩ := h
    rfl
  · obtain ⟨a, ns, rfl, hS, hlen, k⟩ := h
    have hu := hu_of hr
    refine ⟨_, (pss_cons
      (ps_par (i := 1) (j := 2) (by rfl) sc__law_deck.nd rfl rfl (by decide) rfl rfl (pa_cons (pe_callTy call_list_of (by rfl) B.n_list (by decide +kernel) (pa_cons (pe_slice sl_list (pv 0) po_none (po_some pe_int)) pa_nil)) (pa_cons pe_int pa_nil)) (by rfl))
    (pss_cons
      (ps_for PassesOwn.never rfl (pi_list (pv 1)) (pg_name (i := 3) sc__law_deck.nd rfl (Or.inl rfl))
        (pss_one
          (ps_set (i := 2) sc__law_deck.nd rfl (Or.inl rfl) (pe_op op_mod (pe_callTy call_int1 (by rfl) B.n_int (by decide +kernel) (pa_cons (pe_op op_add (pe_op op_add (pe_op op_mul (pv 2) pe_int) (pe_op op_mod (pe_callTy call_int1 (by rfl) B.n_int (by decide +kernel) (pa_cons (pv 3) pa_nil)) pe_int)) pe_int) pa_nil)) pe_int))))
    (pss_one
      (ps_ret (pe_disp (pps_cons pe_str (pe_revL (pv 1)) (pps_cons pe_str (pv 2) (pps_cons pe_str pe_int pps_nil))) (by rfl) (by rfl) (fun z => by cases z) (by decide)))))), ?_⟩
    -- list(script[:63]), 30011
    refine ⟨_, rfl, 63, rfl, a, _, rfl, hS, fun p hp => ⟨p, _, rfl, .inl (SqL.of upd_same), fun l hl => ⟨_, _, rfl, ?_⟩⟩⟩
    obtain ⟨ms, ems⟩ := cut_map (ns := ns) (lo := none) (hi := some 63)
    have lms : ms.length ≤ 63 := by
      have := cut_len (xs := ns.map V.int) (i := 63) (by rw [List.length_map]; exact hlen)
      rw [ems, List.length_map] at this
      exact this
    rw [ems] at hl ⊢
    have e1 : Same H (upd H p (.lst (ms.map V.int))) := fun b o e => by rw [upd_ne (ne_of_none e hp)]; exact e
    have e2 : Same H (upd (upd H p (.lst (ms.map V.int))) l (.lst (ms.map V.int))) := fun b o e => by rw [upd_ne (ne_of_none (e1 b o e) hl)]; exact e1 b o e
    have hl2 : upd (upd H p (.lst (ms.map V.int))) l (.lst (ms.map V.int)) l = some (.lst (ms.map V.int)) := upd_same
    have hl0 : H l = none := e1.free hl
    -- for item in items
    refine ⟨_, rfl, l, rfl, ⟨_, SqL.of hl2⟩, ?_⟩
    generalize upd (upd H p (.lst (ms.map V.int))) l (.lst (ms.map V.int)) = H3 at hl2 e2 ⊢
    refine for_list (K := K) (a := l) (xs := ms.map V.int) (fun i σ H' => ∃ (m : Int) (v : Option V), σ = [some (.ref a), some (.ref l), some (.int m), v] ∧ 0 ≤ m ∧ m < 2147483629 ∧ H' = H3) ⟨30011, none, rfl, by decide, by decide, rfl⟩
      (fun i σ H' _ ⟨_, _, _, _, _, e⟩ => by rw [e]; exact SqL.of hl2) ?_ ?_
    · rintro i y σ H' hi ⟨m, v, rfl, m0, m1, rfl⟩
      obtain ⟨z, rfl⟩ : ∃ z, y = V.int z := by
        rw [List.getElem?_map] at hi
        cases e : ms[i]? with
        | none => rw [e] at hi; cases hi
        | some z => rw [e] at hi; exact ⟨z, (Option.some.inj hi).symm⟩
      refine ⟨_, rfl, _, _, rfl, rfl, .inl (by omega), _, rfl, .inl ⟨_, rfl, _, _, rfl, rfl, (by show (0 : Int) < 2147483563; decide), _, _, rfl, rfl, _, _, rfl, rfl, .inl ⟨_, rfl, _, _, rfl, rfl, (by show (0 : Int) < 2147483629; decide), ?_⟩⟩⟩
      exact ⟨_, _, rfl, Int.emod_nonneg _ (by decide), Int.emod_lt_of_pos _ (by decide), rfl⟩
    · rintro σ H' ⟨m, v, rfl, m0, m1, rfl⟩
      -- return {'cells': cells[::-1], 'mixed': mixed, 'draws': 0}
      refine fun d hd => ⟨_, rfl, l, _, rfl, SqL.of (by rw [upd_ne (ne_of_none hl2 hd)]; exact hl2), fun c hc => ⟨_, rfl, ?_⟩⟩
      have ndc : d ≠ c := ne_of_none upd_same hc
      have hc3 : H' c = none := by rw [upd_ne (Ne.symm ndc)] at hc; exact hc
      refine ⟨by rw [upd_ne ndc, upd_same], dkv c m 0, rfl, (by show 3 ≤ 15; decide), ?_⟩
      rw [merge_deck, ← List.map_reverse]
      refine k d c _ (e2.free hd) (e2.free hc3) (fun b o e => ?_) ⟨ms.reverse, m, 0, upd_same, by rw [upd_ne (Ne.symm ndc), upd_same], by rw [List.length_reverse]; exact lms, m0, m1, Nat.le_refl _⟩
      have e4 := e2 b o e
      rw [upd_ne (ne_of_none e4 hd), upd_ne (ne_of_none e4 hc3), upd_ne (ne_of_none e4 hd)]
      exact e4

/-! ### _law_draw -/
def spDraw : Sp := fun vs H Q _ => ∃ (d l : Addr) (many : Int) (k : Nat), vs = [.ref d, .int many] ∧ DeckAt H d l k ∧ 0 < many ∧ many < 1000000 ∧ k < 1000000000 ∧
  ∀ (i : Int) (H' : Hp), 0 ≤ i → i < many → DeckAt H' d l (k + 1) → Off d l H H' → Q (.int i) H'
theorem ints_eqv : ∀ cs : List Int, PyData.eqv (.list (cs.map .int)) (.list []) = cs.isEmpty
  | [] => by decide
  | c :: r => by simp [PyData.eqv, PyData.eqvAll]
theorem ints_shaped (cs : List Int) : SeqAt.shaped (.list (cs.map .int)) = true := by
  have h : ∀ l : List Int, PyData.canLayAll0 (l.map .int) = true ∧ PyData.depthAll (l.map .int) ≤ 1 := by
    intro l
    induction l with
    | nil => exact ⟨rfl, by decide⟩
    | cons c r ih =>
      refine ⟨?_, ?_⟩
      · simp only [List.map_cons, PyData.canLayAll0, PyData.canLay0, Bool.true_and]
        exact ih.1
      · simp only [List.map_cons, PyData.depthAll, PyData.depth]
        have := ih.2
        omega
  obtain ⟨h1, h2⟩ := h cs
  unfold SeqAt.shaped
  have e1 : (PyData.list (cs.map .int)).canLay0 = true := by simpa [PyData.canLay0] using h1
  have e2 : (PyData.list (cs.map .int)).depth ≤ 64 := by
    simp only [PyData.depth]
    omega
  rw [e1, decide_eq_true e2]
  rfl
theorem ints_dp {K : PySem.W.Frag} {H : Hp} : ∀ cs : List Int, L2.DpAll K H (cs.map V.int) (cs.map .int)
  | [] => .nil
  | c :: r => .cons (.int c) (ints_dp r)
theorem sc__law_draw : FnScope ["_law_deck_here", "_law_many", "_law_turn", "_law_item", "_law_mixed"] ["_law_deck_here", "_law_many"] (defScope s__law_draw) := ⟨rfl, rfl, rfl, by decide +kernel, rfl, by decide +kernel, by decide +kernel⟩
theorem ok__law_draw (B : Bi mg) (f : FnF K mg "_law_draw" "_law_draw" s__law_draw) : FnOk P w K mg base CX0 1 f.a f.d ["_law_deck_here", "_law_many"] spDraw := by
  refine f.F.ok sc__law_draw (fun vs H Q E h => ?_) (fun cdv A outer s H vs Q E hr h => ?_)
  · obtain ⟨d, l, many, k, rfl, _⟩ := h
    rfl
  · obtain ⟨d, l, many, k, rfl, D, hm0, hm1, hk, q⟩ := h
    have hu := hu_of hr
    have hu64 := hr.units
    obtain ⟨cs, m, n, hd, hl, lcs, m0, m1, hn⟩ := D.ex
    refine ⟨_, (pss_cons
      (ps_dput hu (pv 0) pe_str (pe_op op_add (pe_dget hu (pv 0) pe_str (fun _ _ => rfl)) pe_int) rfl)
    (pss_cons
      (ps_par (i := 2) (j := 3) (by rfl) sc__law_draw.nd rfl rfl (by decide) rfl rfl (pa_cons (pe_dget hu (pv 0) pe_str (fun _ _ => rfl)) (pa_cons (pe_dget hu (pv 0) pe_str (fun _ _ => rfl)) pa_nil)) (by rfl))
    (Evl.pss_cut
      (ps_if (pt_cmpR (op_neD hu64) (pe_dget hu (pv 0) pe_str (fun _ _ => rfl)) (pe_lst pa_nil) (nomark _))
        (pss_cons
          (ps_set (i := 3) sc__law_draw.nd rfl (Or.inl rfl) (pe_bm0 PySem.F.plainAttrs_list PySem.F.slot_list_pop PySem.F.type_list_pop mt_pop (pe_dget hu (pv 0) pe_str (fun _ _ => rfl))))
        (pss_cons
          (ps_if (pt_cmpR op_ge (pv 3) (pe_op op_pow pe_int pe_int) (nomark _))
            (pss_cons
              (ps_expr (pe_bm PySem.F.plainAttrs_list PySem.F.slot_list_append PySem.F.type_list_append mt_append (pe_dget hu (pv 0) pe_str (fun _ _ => rfl)) (pa_cons (pe_op op_fdiv (pv 3) (pv 1)) pa_nil)))
            (pss_one
              (ps_ret (pe_op op_mod (pe_callTy call_int1 (by rfl) B.n_int (by decide +kernel) (pa_cons (pv 3) pa_nil)) (pv 1)))))
            pss_nil)
        (pss_one
          (ps_set (i := 3) sc__law_draw.nd rfl (Or.inl rfl) (pe_op op_add (pv 3) (pe_dget hu (pv 0) pe_str (fun _ _ => rfl)))))))
        pss_nil)
    (Evl.pss_cut
      (ps_set (i := 4) sc__law_draw.nd rfl (Or.inl rfl) (pe_op op_mod (pe_op op_mul (pe_callTy call_int1 (by rfl) B.n_int (by decide +kernel) (pa_cons (pe_op op_add (pe_op op_add (pe_op op_mod (pe_callTy call_int1 (by rfl) B.n_int (by decide +kernel) (pa_cons (pv 3) pa_nil)) pe_int) (pe_op op_mul (pe_op op_mul pe_int (pv 2)) (pv 2))) pe_int) pa_nil)) pe_int) pe_int))
    (pss_cons
      (ps_set (i := 4) sc__law_draw.nd rfl (Or.inl rfl) (pe_op op_mod (pe_callTy call_int1 (by rfl) B.n_int (by decide +kernel) (pa_cons (pe_op op_add (pe_op op_add (pe_op op_mul (pv 4) (pv 4)) (pe_op op_mul pe_int (pv 2))) pe_int) pa_nil)) pe_int))
    (pss_one
      (ps_ret (pe_op op_mod (pe_op op_fdiv (pe_op op_mod (pe_callTy call_int1 (by rfl) B.n_int (by decide +kernel) (pa_cons (pe_op op_mul (pv 4) pe_int) pa_nil)) pe_int) pe_int) (pv 1))))))))), ?_⟩
    -- deck['draws'] = deck['draws'] + 1
    have e1 : putK (dkv l m n) (.inr "draws") (.int ((n : Int) + 1)) = dkv l m ((n + 1 : Nat) : Int) := put_draws l m n _
    have nld : l ≠ d := ne_of hl hd (by intro z; cases z)
    refine ⟨_, rfl, d, _, rfl, val_draws l m n ▸ DGet.k (k := Sum.inr "draws") hd, _, _, rfl, rfl, _, rfl, d, _, rfl, DPut.k (k := Sum.inr "draws") hd (by show 3 < sizeLine; rw [sizeLine_eq]; decide), ?_⟩
    rw [e1]
    have hd1 : upd H d (.dK (dkv l m ((n + 1 : Nat) : Int))) d = some (.dK (dkv l m ((n + 1 : Nat) : Int))) := upd_same
    have hl1 : upd H d (.dK (dkv l m ((n + 1 : Nat) : Int))) l = some (.lst (cs.map .int)) := by rw [upd_ne nld]; exact hl
    have o1 : Off d l H (upd H d (.dK (dkv l m ((n + 1 : Nat) : Int)))) := fun b o e h1 _ => by rw [upd_ne h1]; exact e
    have hn1 : n + 1 ≤ k + 1 := by omega
    have hn2 : n + 1 < 1000000001 := by omega
    generalize upd H d (.dK (dkv l m ((n + 1 : Nat) : Int))) = H1 at hd1 hl1 o1 ⊢
    generalize n + 1 = t at hd1 hn1 hn2 ⊢
    -- turn, cell = deck['draws'], deck['mixed']
    refine ⟨_, rfl, d, _, rfl, val_draws l m t ▸ DGet.k (k := Sum.inr "draws") hd1, _, rfl, d, _, rfl, val_mixed l m t ▸ DGet.k (k := Sum.inr "total") hd1, _, _, rfl, ?_⟩
    -- if deck['cells'] != []: ..; behind it some int stands in cell
    refine ⟨fun σ' H2 => ∃ c : Int, σ' = [some (.ref d), some (.int many), some (.int (t : Int)), some (.int c), none] ∧ DeckAt H2 d l (k + 1) ∧ Off d l H H2, ?_, ?_⟩
    · refine ⟨_, rfl, d, .ref l, rfl, val_cells l m t ▸ DGet.k (k := Sum.inr "items") hd1, ⟨by show 0 ≤ sizeLine; exact Nat.zero_le _, fun p hp => ?_⟩⟩
      have hd2 : upd H1 p (.lst []) d = some (.dK (dkv l m (t : Int))) := by rw [upd_ne (ne_of_none hd1 hp)]; exact hd1
      have hl2 : upd H1 p (.lst []) l = some (.lst (cs.map .int)) := by rw [upd_ne (ne_of_none hl1 hp)]; exact hl1
      have hp2 : upd H1 p (.lst []) p = some (.lst []) := upd_same
      have o2 : Off d l H (upd H1 p (.lst [])) := fun b o e h1 h2 => by
        have := o1 b o e h1 h2
        rw [upd_ne (ne_of_none this hp)]
        exact this
      have npd : p ≠ d := Ne.symm (ne_of_none hd1 hp)
      have npl : p ≠ l := Ne.symm (ne_of_none hl1 hp)
      generalize upd H1 p (.lst []) = H2 at hd2 hl2 hp2 o2 ⊢
      refine ⟨.list (cs.map .int), .list [], .lst (SqL.of hl2) (ints_dp cs), .lst (SqL.of hp2) .nil, ints_shaped cs, by decide, _, rfl, ?_⟩
      rw [ints_eqv cs]
      cases cs with
      | nil => exact iteF ⟨m, rfl, ⟨[], m, t, hd2, hl2, Nat.zero_le _, m0, m1, hn1⟩, o2⟩
      | cons c0 r0 =>
        refine iteT ?_
        -- cell = deck['cells'].pop()
        obtain ⟨c, hc⟩ : ∃ c, (c0 :: r0)[(c0 :: r0).length - 1]? = some c := ⟨_, List.getElem?_eq_getElem (by simp)⟩
        generalize c0 :: r0 = cs at *
        refine ⟨_, rfl, d, .ref l, rfl, val_cells l m t ▸ DGet.k (k := Sum.inr "items") hd2, Or.inl ⟨rfl, _, SqL.of hl2⟩, l, _, .int c, rfl, rfl, hl2, by rw [List.length_map, List.getElem?_map, hc]; rfl, ?_⟩
        rw [← List.map_dropLast]
        have ldl : cs.dropLast.length ≤ 62 := by rw [List.length_dropLast]; omega
        generalize cs.dropLast = ds at ldl ⊢
        have hd3 : upd H2 l (.lst (ds.map .int)) d = some (.dK (dkv l m (t : Int))) := by rw [upd_ne (Ne.symm nld)]; exact hd2
        have hl3 : upd H2 l (.lst (ds.map .int)) l = some (.lst (ds.map .int)) := upd_same
        have o3 : Off d l H (upd H2 l (.lst (ds.map .int))) := fun b o e h1 h2 => by rw [upd_ne h2]; exact o2 b o e h1 h2
        generalize upd H2 l (.lst (ds.map .int)) = H3 at hd3 hl3 o3 ⊢
        -- if cell >= 10 ** 18
        refine ⟨_, rfl, _, _, rfl, rfl, ⟨by decide, by decide, by decide⟩, _, _, rfl, rfl, _, rfl, ite2 (fun _ => ?_) fun _ => ?_⟩
        · -- deck['cells'].append(cell // many); return int(cell) % many
          refine ⟨_, rfl, d, .ref l, rfl, val_cells l m t ▸ DGet.k (k := Sum.inr "items") hd3, Or.inl ⟨rfl, _, SqL.of hl3⟩, _, rfl, _, rfl, _, _, rfl, rfl, ⟨hm0, by omega⟩, l, _, _, rfl, rfl, hl3, by rw [List.length_map, sizeLine_eq]; omega, ?_⟩
          refine ⟨_, rfl, Or.inl ⟨_, rfl, _, rfl, _, _, rfl, rfl, hm0, ?_⟩⟩
          refine q _ _ (Int.emod_nonneg _ (by omega)) (Int.emod_lt_of_pos _ hm0) ⟨ds ++ [c / many], m, t, ?_, ?_, ?_, m0, m1, hn1⟩ fun b o e h1 h2 => ?_
          · rw [upd_ne (Ne.symm nld)]
            exact hd3
          · rw [upd_same, List.map_append]
            rfl
          · rw [List.length_append]
            show ds.length + 1 ≤ 63
            omega
          · rw [upd_ne h2]
            exact o3 b o e h1 h2
        · -- cell = cell + deck['mixed']
          refine ⟨_, rfl, _, rfl, d, _, rfl, val_mixed l m t ▸ DGet.k (k := Sum.inr "total") hd3, _, _, rfl, rfl, ?_⟩
          exact ⟨_, rfl, ⟨ds, m, t, hd3, hl3, by omega, m0, m1, hn1⟩, o3⟩
    · rintro σ' H2 ⟨c, rfl, D2, o2⟩
      have ht : (-(2 ^ 64 : Int) < (t : Int) ∧ (t : Int) < 2 ^ 64) := by omega
      -- mixed = int(int(item) % .. + .. * turn * turn + ..) * .. % ..
      refine ⟨fun σ' H' => ∃ x : Int, σ' = [some (.ref d), some (.int many), some (.int (t : Int)), some (.int c), some (.int x)] ∧ 0 ≤ x ∧ x < 2147483647 ∧ H' = H2, ?_, ?_⟩
      · refine ⟨_, rfl, Or.inl ⟨_, rfl, _, _, rfl, rfl, (by show (0 : Int) < 2147483563; decide), _, rfl, _, _, rfl, rfl, .inr ht, _, rfl, _, _, rfl, rfl, .inr ht, _, _, rfl, rfl, _, _, rfl, rfl, ?_⟩⟩
        exact Or.inl ⟨_, rfl, _, _, rfl, rfl, .inr (by decide), _, _, rfl, rfl, (by show (0 : Int) < 2147483647; decide), _, rfl, Int.emod_nonneg _ (by decide), Int.emod_lt_of_pos _ (by decide), rfl⟩
      rintro σ' H' ⟨x, rfl, hx0, hx1, rfl⟩
      -- mixed = int(mixed * mixed + .. * turn + ..) % ..
      refine ⟨_, rfl, _, rfl, _, _, rfl, rfl, .inl (by omega), _, rfl, _, _, rfl, rfl, .inr ht, _, _, rfl, rfl, _, _, rfl, rfl, Or.inl ⟨_, rfl, _, _, rfl, rfl, (by show (0 : Int) < 2147483549; decide), ?_⟩⟩
      -- return ..
      refine ⟨_, rfl, _, _, rfl, rfl, .inr (by decide), Or.inl ⟨_, rfl, _, _, rfl, rfl, (by show (0 : Int) < 2147483587; decide), _, _, rfl, rfl, ⟨by decide, by decide⟩, _, rfl, _, _, rfl, rfl, hm0, ?_⟩⟩
      exact q _ _ (Int.emod_nonneg _ (by omega)) (Int.emod_lt_of_pos _ hm0) D2 o2
end
end K01
/-! Names, ascending tuples, domains. -/
namespace K01
open PySem PySem.Spec PyProof.Rows L2 KG KS
abbrev s_is_name : Stmt := top 7
abbrev s_are_names : Stmt := top 8
abbrev s_ascending : Stmt := top 9
abbrev s_is_domain : Stmt := top 10
/-- the names of the basics -/
structure Bs (mg : Str → Option Value) : Prop extends Bi mg where
  n_all : mg "all" = none
  n_sorted : mg "sorted" = none
  n_set : mg "set" = none
  n_str : mg "str" = none
  n_bool : mg "bool" = none
  c_name : ∃ t, mg "LONGEST_NAME" = some (.int 8 t)
  c_vals : ∃ t, mg "MOST_VALUES" = some (.int 3 t)
def nameOk (x : Str) : Bool := decide (x.length ≤ 8) && (Txt.isascii x && (Txt.isalpha x && Txt.islower x))
def spName : Sp := fun vs H Q _ => ∃ x, vs = [.str x] ∧ nameOk x = true ∧ Q (.bl true) H
def spNames (K : PySem.W.Frag) : Sp := fun vs H Q _ => ∃ (a : Addr) (xs : List Str), vs = [.ref a] ∧ H a = some (.tup (xs.map V.str)) ∧ (∀ x ∈ xs, nameOk x = true) ∧ xs.Nodup ∧ xs.length < 64 ∧ ∀ H', Same H H' → Q (.bl true) H'
/-- ascending(xs) -/
def spAsc (K : PySem.W.Frag) : Sp := fun vs H Q _ => ∃ (b : Bool) (l : Addr) (ms : List MemV), vs = [V.ref l] ∧ (SqL K H l (ms.map (·.1)) ∨ SqT K H l (ms.map (·.1))) ∧ (∀ p ∈ ms, Kv K H p.1 p.2 ∧ FitV b p) ∧ ms.length < 64 ∧
  W.AllAlike (ms.map (·.2.data)) ∧ W.Sortable (ms.map (·.2.data)) ∧
  ∀ (L : List MemV) (p : Addr) (H' : Hp), (∀ m ∈ L, m ∈ ms) → (∀ m ∈ ms, m.2 ∈ L.map (·.2)) → (L.map (·.2)).Nodup → L.Pairwise Aft → H p = none → Same H H' → H' p = some (.tup (L.map (·.1))) → Q (.ref p) H'
theorem same_new {H : Hp} {p : Addr} {o : HO} (h : H p = none) : Same H (upd H p o) := fun b u e => by
  rw [upd_ne (ne_of_none e h)]
  exact e
theorem same_trans {H H1 H2 : Hp} (x : Same H H1) (y : Same H1 H2) : Same H H2 := fun b u e => y b u (x b u e)
theorem same_seqT {K : PySem.W.Frag} {H H' : Hp} {a : Addr} {xs : List V} (e : Same H H') (h : SqT K H a xs) : SqT K H' a xs := by
  rcases h with (h | ⟨o, h⟩) | h
  · exact .inl (.inl (e _ _ h))
  · exact .inl (.inr ⟨o, e _ _ h⟩)
  · exact .inr h
section
variable {P : Program} {w : World} {K : PySem.W.Frag} {mg : Str → Option Value} {base : Heap}
theorem sc_is_name : FnScope ["thing"] ["thing"] (defScope s_is_name) := ⟨rfl, rfl, rfl, by decide +kernel, rfl, by decide +kernel, by decide +kernel⟩
theorem ok_is_name (B : Bs mg) (f : FnF K mg "is_name" "is_name" s_is_name) : FnOk P w K mg base CX0 1 f.a f.d ["thing"] spName := by
  obtain ⟨tn, cn⟩ := B.c_name
  refine f.F.ok sc_is_name (fun vs H Q E h => ?_) (fun cdv A outer s H vs Q E hr h => ?_)
  · obtain ⟨n, rfl, _⟩ := h
    rfl
  · obtain ⟨x, rfl, hn, q⟩ := h
    unfold nameOk at hn
    rw [Bool.and_eq_true, Bool.and_eq_true, Bool.and_eq_true, decide_eq_true_eq] at hn
    obtain ⟨h8, h1, h2, h3⟩ := hn
    refine ⟨_, (pss_cons
      (ps_if (PW.pt (pw_or (pt_not (pt_val (pe_callB call_isi (by rfl) B.n_isinstance (by decide +kernel) (pa_cons (pv 0) (pa_cons (pe_bltn (v := .ty "str") rfl B.n_str (by decide +kernel) rfl) pa_nil)))))
        (pw_or1 (pt_cmpR op_gt (pe_callB call_len (by rfl) B.n_len (by decide +kernel) (pa_cons (pv 0) pa_nil)) (pe_glob (v := .int 8) rfl cn ⟨_, rfl⟩) (nomark _)))))
        (pss_one
          (ps_ret pe_bl))
        pss_nil)
    (pss_one
      (ps_ret (pe_and (pe_bm0 PySem.F.plainAttrs_str PySem.F.slot_str_isascii PySem.F.type_str_isascii mt_isascii (pv 0)) (pe_and (pe_bm0 PySem.F.plainAttrs_str PySem.F.slot_str_isalpha PySem.F.type_str_isalpha mt_isalpha (pv 0)) (pe_one (pe_bm0 PySem.F.plainAttrs_str PySem.F.slot_str_islower PySem.F.type_str_islower mt_islower (pv 0)))))))), ?_⟩
    refine ⟨_, rfl, _, _, _, _, true, rfl, .ty "str", .base (.str x), kit_ty (by decide +kernel), true, rfl, iteF ?_⟩
    refine ⟨_, rfl, .str x, x.length, rfl, ⟨by rw [sizeLine_eq]; omega, rfl⟩, _, _, rfl, rfl, _, rfl, ite2 (fun c => absurd (of_decide_eq_true c) (by omega)) fun _ => ?_⟩
    refine ⟨_, rfl, rfl, x, rfl, rfl, trivial, _, congrArg V.bl h1, iteT ?_⟩
    refine ⟨_, rfl, rfl, x, rfl, rfl, trivial, _, congrArg V.bl h2, iteT ?_⟩
    refine ⟨_, rfl, rfl, x, rfl, rfl, trivial, ?_⟩
    rw [h3]
    exact q
theorem sc_are_names : FnScope ["thing", "item"] ["thing"] (defScope s_are_names) := ⟨rfl, rfl, rfl, by decide +kernel, rfl, by decide +kernel, by decide +kernel⟩
theorem bls_all : ∀ (n : Nat), (List.replicate n true).all id = true
  | 0 => rfl
  | n + 1 => by
    rw [List.replicate_succ, List.all_cons, bls_all n]
    rfl
theorem texts_mem (xs : List Str) : (xs.map fun x => ((V.str x, NestedKey.text x) : MemV)).map (·.1) = xs.map V.str := by
  rw [List.map_map]
  rfl
theorem texts_len {xs : List Str} (nd : xs.Nodup) {L : List MemV} (h1 : ∀ p ∈ L, p ∈ xs.map fun x => ((V.str x, NestedKey.text x) : MemV)) (h2 : ∀ p ∈ xs.map fun x => ((V.str x, NestedKey.text x) : MemV), p.2 ∈ L.map (·.2)) (h3 : (L.map (·.2)).Nodup) : L.length = xs.length := by
  have nk : ((xs.map fun x => ((V.str x, NestedKey.text x) : MemV)).map (·.2)).Nodup := by
    rw [List.map_map]
    exact List.Pairwise.map _ (fun a b hne e => hne (NestedKey.text.inj e)) nd
  have pm : (L.map (·.2)).Perm ((xs.map fun x => ((V.str x, NestedKey.text x) : MemV)).map (·.2)) := by
    refine (List.perm_ext_iff_of_nodup h3 nk).mpr fun k => ⟨fun hk => ?_, fun hk => ?_⟩
    · obtain ⟨p, hp, e⟩ := List.mem_map.mp hk
      exact List.mem_map.mpr ⟨p, h1 p hp, e⟩
    · obtain ⟨p, hp, e⟩ := List.mem_map.mp hk
      rw [← e]
      exact h2 p hp
  have e := pm.length_eq
  rw [List.length_map, List.length_map, List.length_map] at e
  exact e
theorem ok_are_names (B : Bs mg) (f : FnF K mg "are_names" "are_names" s_are_names) (fn : FnF K mg "is_name" "is_name" s_is_name) : FnOk P w K mg base CX0 2 f.a f.d ["thing"] (spNames K) := by
  have G := ok_is_name (P := P) (w := w) (base := base) B fn
  have bn : Binds K fn.d ["thing"] [] := fn.F.binds fun _ _ _ _ _ _ us hl => match us, hl with | [_], _ => rfl
  refine f.F.ok sc_are_names (fun vs H Q E h => ?_) (fun cdv A outer s H vs Q E hr h => ?_)
  · obtain ⟨a, xs, rfl, _⟩ := h
    rfl
  · obtain ⟨a, xs, rfl, ha, ok, nd, h64, q⟩ := h
    have hu64 := hr.units
    refine ⟨_, (pss_one
      (ps_ret (pe_and (pe_callB call_isi (by rfl) B.n_isinstance (by decide +kernel) (pa_cons (pv 0) (pa_cons (pe_bltn (v := .ty "tuple") rfl B.n_tuple (by decide +kernel) rfl) pa_nil)))
        (pe_and (pe_callB (cr_all rfl) (by rfl) B.n_all (by decide +kernel) (pa_cons (pe_lc (own := [("item", 1)]) (g := gName 1) (by rfl) sc_are_names.nd (pi_tup (pv 0)) (blkOk_by (own := [("item", 1)]) (N := ["thing", "item"]) (sc := defScope s_are_names) (by decide +kernel))
            (fun _ _ _ _ _ => (pg_name (i := 1) sc_are_names.nd rfl (Or.inl rfl))) (fun _ _ _ _ _ => pts_nil) (fun _ _ _ _ _ => (pe_call G hr rfl fn.g fn.F.kp bn .nil pass0 (pa_cons (pv 1) pa_nil)))) pa_nil))
        (pe_one (pe_cmpR op_eq (pe_callB cr_lenSet (by rfl) B.n_len (by decide +kernel) (pa_cons (pe_callTy (cr_setOf rfl hu64) (by rfl) B.n_set (by decide +kernel) (pa_cons (pv 0) pa_nil)) pa_nil)) (pe_callB call_len (by rfl) B.n_len (by decide +kernel) (pa_cons (pv 0) pa_nil)) (nomark _))))))), ?_⟩
    refine ⟨_, rfl, _, _, _, _, true, rfl, .ty "tuple", .base (.tup ha), kit_ty (by decide +kernel), true, rfl, iteT ?_⟩
    -- all([is_name(item) for item in thing])
    refine ⟨_, rfl, a, rfl, ⟨_, SqT.of ha⟩, fun D hD => ?_⟩
    refine lc_tup (K := K) (xs := xs.map V.str) (fun i H' => Same H H' ∧ H' D = some (.lst (List.replicate i (V.bl true)))) ⟨same_new hD, upd_same⟩ (fun i H' _ p => SqT.of (p.1 _ _ ha)) ?_ ?_
    · rintro i y H' hi ⟨e1, eD⟩
      rw [List.getElem?_map] at hi
      cases hx : xs[i]? with
      | none =>
        rw [hx] at hi
        cases hi
      | some x =>
        rw [hx] at hi
        obtain rfl : V.str x = y := Option.some.inj hi
        have il : i < xs.length := (List.getElem?_eq_some_iff.mp hx).1
        refine ⟨rfl, _, rfl, x, rfl, ok x (List.mem_of_getElem? hx), _, eD, by rw [List.length_replicate, sizeLine_eq]; omega, fun b u e => ?_, ?_⟩
        · rw [upd_ne (by rintro rfl; rw [hD] at e; cases e)]
          exact e1 b u e
        · rw [upd_same, ← List.replicate_succ']
    · rintro H1 ⟨e1, eD⟩
      rw [List.length_map] at eD
      refine ⟨D, List.replicate xs.length true, rfl, SqL.of (by rw [List.map_replicate]; exact eD), true, congrArg V.bl (bls_all _), iteT ?_⟩
      -- len(set(thing)) == len(thing)
      have fm : ∀ p ∈ xs.map fun x => ((V.str x, NestedKey.text x) : MemV), Kv K H1 p.1 p.2 ∧ FitV false p := fun p hp => by
        obtain ⟨x, _, rfl⟩ := List.mem_map.mp hp
        exact ⟨.str x, x, rfl⟩
      refine ⟨_, rfl, false, a, xs.map fun x => ((V.str x, NestedKey.text x) : MemV), rfl, .inr (SqT.of (by rw [texts_mem]; exact e1 _ _ ha)), fm, by rw [List.length_map]; exact h64, fun S L hS h1 h2 h3 => ?_⟩
      have eS := same_trans e1 (same_new (o := SetV false w S L) hS)
      refine ⟨false, S, L, rfl, upd_same, _, rfl, _, _, rfl, .inr ⟨_, SqT.of (eS _ _ ha), rfl⟩, ?_⟩
      have el := texts_len nd h1 h2 h3
      refine ⟨rfl, ?_⟩
      rw [el, List.length_map]
      rw [decide_eq_true rfl]
      exact q _ eS
theorem sc_ascending : FnScope ["things"] ["things"] (defScope s_ascending) := ⟨rfl, rfl, rfl, by decide +kernel, rfl, by decide +kernel, by decide +kernel⟩
theorem ok_ascending (B : Bs mg) (f : FnF K mg "ascending" "ascending" s_ascending) : FnOk P w K mg base CX0 1 f.a f.d ["things"] (spAsc K) := by
  refine f.F.ok sc_ascending (fun vs H Q E h => ?_) (fun cdv A outer s H vs Q E hr h => ?_)
  · obtain ⟨b, l, ms, rfl, _⟩ := h
    rfl
  · obtain ⟨b, l, ms, rfl, hl, hk, h64, al, so, q⟩ := h
    have hu64 := hr.units
    refine ⟨_, (pss_one
      (ps_ret (pe_callTy call_tuple_of (by rfl) B.n_tuple (by decide +kernel) (pa_cons (pe_callB (cr_sortSet rfl hu64) (by rfl) B.n_sorted (by decide +kernel) (pa_cons (pe_callTy (cr_setOf rfl hu64) (by rfl) B.n_set (by decide +kernel) (pa_cons (pv 0) pa_nil)) pa_nil)) pa_nil)))), ?_⟩
    refine ⟨_, rfl, b, l, ms, rfl, hl, hk, h64, fun S L hS h1 h2 h3 => ?_⟩
    have e1 : Same H (upd H S (SetV b w S L)) := same_new hS
    have sub : ∀ d ∈ L.map (·.2.data), d ∈ ms.map (·.2.data) := fun d hd => by
      obtain ⟨p, hp, e⟩ := List.mem_map.mp hd
      exact List.mem_map.mpr ⟨p, h1 p hp, e⟩
    refine ⟨b, S, L, rfl, upd_same, fun p hp => Kv.up (fun a xs => same_seqT e1) _ _ (hk p (h1 p hp)).1, fun d hd d' hd' => al d (sub d hd) d' (sub d' hd'), so.imp (fun h d hd => h d (sub d hd)) fun h d hd => h d (sub d hd), fun L' p pm pw hp => ?_⟩
    have e2 := same_trans e1 (same_new (o := .lst (L'.map (·.1))) hp)
    refine ⟨p, L'.map (·.1), rfl, .inl ⟨SqL.of upd_same, fun t ht => ?_⟩⟩
    exact q L' t _ (fun m hm => h1 m (pm.mem_iff.mp hm)) (fun m hm => (pm.map (·.2)).mem_iff.mpr (h2 m hm)) ((pm.map (·.2)).nodup_iff.mpr h3) pw (e2.free ht) (same_trans e2 (same_new ht)) upd_same
/-- strictly ascending -/
def Bef (p q : MemV) : Prop := W.dataLt p.2.data q.2.data = true
theorem lt_asym {x y : PyData} (h : W.dataLt x y = true) : W.dataLt y x = false := by
  cases e : W.dataLt y x with
  | false => rfl
  | true =>
    have z := lex_trans _ _ _ h e
    rw [lex_irrefl] at z
    cases z
theorem bef_nodup {ms : List MemV} (h : ms.Pairwise Bef) : (ms.map (·.2)).Nodup := List.Pairwise.map _ (fun a b hb e => by
  have hb2 : W.dataLt a.2.data b.2.data = true := hb
  rw [e] at hb2
  rw [lt_asym hb2] at hb2
  cases hb2) h
/-- what ascends stays as it is -/
theorem asc_same {ms L : List MemV} (h : ms.Pairwise Bef) (h1 : ∀ m ∈ L, m ∈ ms) (h2 : ∀ m ∈ ms, m.2 ∈ L.map (·.2)) (h3 : (L.map (·.2)).Nodup) (h4 : L.Pairwise Aft) : L = ms := by
  have nd := bef_nodup h
  have pk : (L.map (·.2)).Perm (ms.map (·.2)) := (List.perm_ext_iff_of_nodup h3 nd).mpr fun k => by
    refine ⟨fun hk => ?_, fun hk => ?_⟩
    · obtain ⟨p, hp, e⟩ := List.mem_map.mp hk
      exact List.mem_map.mpr ⟨p, h1 p hp, e⟩
    · obtain ⟨p, hp, e⟩ := List.mem_map.mp hk
      rw [← e]
      exact h2 p hp
  refine List.Perm.eq_of_pairwise (le := Aft) (fun p q hp hq a1 a2 => ?_) h4 (h.imp fun {p q} hb => lt_asym hb) (same_keys (fun p : MemV => p.2) h1 pk nd)
  have mp := h1 p hp
  rcases List.getElem_of_mem mp with ⟨i, hi, rfl⟩
  rcases List.getElem_of_mem hq with ⟨j, hj, rfl⟩
  rcases Nat.lt_trichotomy i j with z | z | z
  · have b : W.dataLt ms[i].2.data ms[j].2.data = true := List.pairwise_iff_getElem.mp h i j hi hj z
    have a : W.dataLt ms[i].2.data ms[j].2.data = false := a2
    rw [b] at a
    cases a
  · subst z
    rfl
  · have b : W.dataLt ms[j].2.data ms[i].2.data = true := List.pairwise_iff_getElem.mp h j i hj hi z
    have a : W.dataLt ms[j].2.data ms[i].2.data = false := a1
    rw [b] at a
    cases a
end
end K01
/-! Domains, rows, all rows. -/
namespace K01
open PySem PySem.Spec PyProof.Rows L2 KG KS
abbrev s_is_row : Stmt := top 11
abbrev s_all_rows : Stmt := top 12
/-- two for's in a list, the inner walk over a tuple -/
theorem lc2_lt {K : PySem.W.Frag} {a : Addr} {xs : List V} {g g1 : TG} {wi1 : TI} {te : TE} {vs vs1 : List Nat} {σ : L2.St} {H1 : Hp} {D : Addr} {Qd : Hp → Prop} (Pv : Nat → Nat → Hp → Prop) (h0 : Pv 0 0 (upd H1 D (.lst [])))
    (hl : ∀ i H, i ≤ xs.length → Pv i 0 H → SqL K H a xs)
    (hs : ∀ i x H, xs[i]? = some x → Pv i 0 H → g x (wipe σ vs) H fun σ2 H2 => wipe σ2 vs = wipe σ vs ∧ wi1 σ2 H2 fun J1 H4 => ∃ (c : Addr) (ys : List V), J1 = Itt K c ∧ Pv i 0 H4 ∧ (∀ j H, j ≤ ys.length → Pv i j H → SqT K H c ys) ∧
      (∀ j y H, ys[j]? = some y → Pv i j H → g1 y (wipe σ2 vs1) H fun σ3 H5 => wipe σ3 vs1 = wipe σ2 vs1 ∧ te σ3 H5 fun y H7 => ∃ acc, H7 D = some (.lst acc) ∧ acc.length < sizeLine ∧ Pv i (j + 1) (upd H7 D (.lst (acc ++ [y])))) ∧
      ∀ H, Pv i ys.length H → Pv (i + 1) 0 H)
    (mono : ∀ x, ∀ (σ : L2.St) (H : Hp) (Q R : L2.St → Hp → Prop), (∀ σ H, Q σ H → R σ H) → g x σ H Q → g x σ H R) (mono1 : ∀ x, ∀ (σ : L2.St) (H : Hp) (Q R : L2.St → Hp → Prop), (∀ σ H, Q σ H → R σ H) → g1 x σ H Q → g1 x σ H R)
    (monoI : ∀ (σ : L2.St) (H : Hp) (Q R : It → Hp → Prop), (∀ J H, Q J H → R J H) → wi1 σ H Q → wi1 σ H R)
    (hd : ∀ H, Pv xs.length 0 H → Qd H) :
    ∃ W : Nat → Nat → Hp → Prop, (∃ m, W 0 m (upd H1 D (.lst []))) ∧ ∀ i m H, W i m H →
      ((Itl K a).stop i H ∧ Qd H) ∨ ((Itl K a).go i H ∧ ∃ Nx : Hp → Prop, (∀ H', Nx H' → ∃ m', m' < m ∧ W (i + 1) m' H') ∧ ∀ x H', (Itl K a).yld i H x H' → g x (wipe σ vs) H' fun σ2 H2 => wipe σ2 vs = wipe σ vs ∧ tYes σ2 H2 fun b H3 =>
        if b = true then wi1 σ2 H3 fun J1 H4 => ∃ W1 : Nat → Nat → Hp → Prop, (∃ m, W1 0 m H4) ∧ ∀ j k H, W1 j k H →
          (J1.stop j H ∧ Nx H) ∨ (J1.go j H ∧ ∃ Nx1 : Hp → Prop, (∀ H', Nx1 H' → ∃ k', k' < k ∧ W1 (j + 1) k' H') ∧ ∀ x H', J1.yld j H x H' → g1 x (wipe σ2 vs1) H' fun σ3 H5 => wipe σ3 vs1 = wipe σ2 vs1 ∧ tYes σ3 H5 fun b H6 =>
            if b = true then te σ3 H6 fun y H7 => ∃ acc, H7 D = some (.lst acc) ∧ acc.length < sizeLine ∧ Nx1 (upd H7 D (.lst (acc ++ [y]))) else Nx1 H6)
        else Nx H3) := by
  refine ⟨fun i m H => m = xs.length - i ∧ i ≤ xs.length ∧ Pv i 0 H, ⟨xs.length, by simp, Nat.zero_le _, h0⟩, ?_⟩
  rintro i m H ⟨rfl, hi, p⟩
  have q := hl i H hi p
  by_cases lt : i < xs.length
  · refine .inr ⟨⟨xs, xs[i], q, by simp [lt]⟩, Pv (i + 1) 0, fun H' p' => ⟨xs.length - (i + 1), by omega, rfl, lt, p'⟩, ?_⟩
    rintro x H' ⟨rfl, y⟩
    refine mono _ _ _ _ _ (fun σ2 H2 r => ?_) (hs i x _ (y xs q) p)
    refine ⟨r.1, ?_⟩
    simp only [tYes, if_true]
    refine monoI _ _ _ _ (fun J1 H4 r1 => ?_) r.2
    obtain ⟨c, ys, rfl, p4, hT, hin, hfin⟩ := r1
    refine ⟨fun j k H => k = ys.length - j ∧ j ≤ ys.length ∧ Pv i j H, ⟨ys.length, by simp, Nat.zero_le _, p4⟩, ?_⟩
    rintro j k H ⟨rfl, hj, pj⟩
    have qj := hT j H hj pj
    by_cases ltj : j < ys.length
    · refine .inr ⟨⟨ys, ys[j], qj, by simp [ltj]⟩, Pv i (j + 1), fun H' p' => ⟨ys.length - (j + 1), by omega, rfl, ltj, p'⟩, ?_⟩
      rintro z H' ⟨rfl, yz⟩
      refine mono1 _ _ _ _ _ (fun σ3 H5 r3 => ⟨r3.1, ?_⟩) (hin j z _ (yz ys qj) pj)
      exact r3.2
    · have e : j = ys.length := by omega
      subst e
      exact .inl ⟨⟨ys, qj, Nat.le_refl _⟩, hfin H pj⟩
  · have e : i = xs.length := by omega
    subst e
    exact .inl ⟨⟨xs, q, Nat.le_refl _⟩, hd H p⟩
section
variable {P : Program} {w : World} {K : PySem.W.Frag} {mg : Str → Option Value} {base : Heap}
abbrev tx (x : Str) : MemV := (V.str x, NestedKey.text x)
def txd (xs : List Str) : PyData := .tuple (xs.map PyData.str)
theorem texts_dp {H : Hp} : ∀ xs : List Str, DpAll K H (xs.map V.str) (xs.map PyData.str)
  | [] => .nil
  | x :: r => .cons (.str x) (texts_dp r)
theorem texts_eqv : ∀ xs : List Str, PyData.eqvAll (xs.map PyData.str) (xs.map PyData.str) = true
  | [] => rfl
  | x :: r => by
    rw [List.map_cons, PyData.eqvAll, texts_eqv r]
    simp [PyData.eqv]
theorem txd_shaped {xs : List Str} (hx : ∀ x ∈ xs, PyData.strOk x = true) : SeqAt.shaped (txd xs) = true := by
  have h : ∀ l : List Str, (∀ x ∈ l, PyData.strOk x = true) → PyData.canLayAll0 (l.map PyData.str) = true ∧ PyData.depthAll (l.map PyData.str) ≤ 1 := by
    intro l hl
    induction l with
    | nil => exact ⟨rfl, by decide⟩
    | cons c r ih =>
      have ih := ih fun x hx => hl x (List.mem_cons_of_mem _ hx)
      refine ⟨?_, ?_⟩
      · simp only [List.map_cons, PyData.canLayAll0, PyData.canLay0]
        rw [hl c List.mem_cons_self, ih.1]
        rfl
      · simp only [List.map_cons, PyData.depthAll, PyData.depth]
        have := ih.2
        omega
  obtain ⟨h1, h2⟩ := h xs hx
  unfold SeqAt.shaped
  have e1 : (txd xs).canLay0 = true := by simpa [txd, PyData.canLay0] using h1
  have e2 : (txd xs).depth ≤ 64 := by
    simp only [txd, PyData.depth]
    omega
  rw [e1, decide_eq_true e2]
  rfl
theorem name_strOk {x : Str} (h : nameOk x = true) : PyData.strOk x = true := by
  unfold nameOk at h
  rw [Bool.and_eq_true, Bool.and_eq_true] at h
  have h1 := h.2.1
  unfold Txt.isascii at h1
  unfold PyData.strOk
  rw [Array.all_eq_true] at h1 ⊢
  intro i hi
  have := of_decide_eq_true (h1 i hi)
  exact decide_eq_true (Nat.lt_trans this (by decide))
/-- is_domain(xs) of names that ascend -/
def spDom : Sp := fun vs H Q _ => ∃ (a : Addr) (xs : List Str), vs = [.ref a] ∧ H a = some (.tup (xs.map V.str)) ∧ (∀ x ∈ xs, nameOk x = true) ∧ (xs.map tx).Pairwise Bef ∧ 1 ≤ xs.length ∧ xs.length ≤ 3 ∧ ∀ H', Same H H' → Q (.bl true) H'
theorem bef_texts {xs : List Str} (h : (xs.map tx).Pairwise Bef) : xs.Nodup := by
  have e := nodup_of_map (bef_nodup h)
  exact nodup_of_map e
theorem texts_al (xs : List Str) : W.AllAlike ((xs.map tx).map (·.2.data)) ∧ W.Sortable ((xs.map tx).map (·.2.data)) := by
  rw [List.map_map]
  exact ⟨W.AllAlike.of fun a b => rfl, W.Sortable.others fun a => ⟨fun z => (by cases z), fun _ z => (by cases z)⟩⟩
theorem texts_kv {H : Hp} (xs : List Str) : ∀ p ∈ xs.map tx, Kv K H p.1 p.2 ∧ FitV false p := fun p hp => by
  obtain ⟨x, _, rfl⟩ := List.mem_map.mp hp
  exact ⟨.str x, x, rfl⟩
theorem sc_is_domain : FnScope ["thing"] ["thing"] (defScope s_is_domain) := ⟨rfl, rfl, rfl, by decide +kernel, rfl, by decide +kernel, by decide +kernel⟩
theorem ok_is_domain (B : Bs mg) (f : FnF K mg "is_domain" "is_domain" s_is_domain) (fa : FnF K mg "are_names" "are_names" s_are_names) (fn : FnF K mg "is_name" "is_name" s_is_name) (fs : FnF K mg "ascending" "ascending" s_ascending) :
    FnOk P w K mg base CX0 3 f.a f.d ["thing"] spDom := by
  obtain ⟨tv, cv⟩ := B.c_vals
  have G1 := ok_are_names (P := P) (w := w) (base := base) B fa fn
  have b1 : Binds K fa.d ["thing"] [] := fa.F.binds fun _ _ _ _ _ _ us hl => match us, hl with | [_], _ => rfl
  have G2 := ok_ascending (P := P) (w := w) (base := base) B fs
  have b2 : Binds K fs.d ["things"] [] := fs.F.binds fun _ _ _ _ _ _ us hl => match us, hl with | [_], _ => rfl
  refine f.F.ok sc_is_domain (fun vs H Q E h => ?_) (fun cdv A outer s H vs Q E hr h => ?_)
  · obtain ⟨a, xs, rfl, _⟩ := h
    rfl
  · obtain ⟨a, xs, rfl, ha, ok, asc, l1, l3, q⟩ := h
    have hu64 := hr.units
    have hr1 : Room 1 _ := hr.mono (by omega)
    have hr2 : Room 2 _ := hr.mono (by omega)
    refine ⟨_, (pss_one
      (ps_ret (pe_and (pe_call G1 hr2 rfl fa.g fa.F.kp b1 .nil pass0 (pa_cons (pv 0) pa_nil)) (pe_and (pe_chain op_le op_le pe_int (pe_callB call_len (by rfl) B.n_len (by decide +kernel) (pa_cons (pv 0) pa_nil)) (pe_glob (v := .int 3) rfl cv ⟨_, rfl⟩))
        (pe_one (pe_cmpR (op_eqD hu64) (pv 0) (pe_call G2 hr1 rfl fs.g fs.F.kp b2 .nil pass0 (pa_cons (pv 0) pa_nil)) (nomark _))))))), ?_⟩
    refine ⟨_, rfl, a, xs, rfl, ha, ok, bef_texts asc, by omega, fun H1 e1 => ⟨true, rfl, iteT ?_⟩⟩
    refine ⟨_, rfl, .ref a, xs.length, rfl, .inr ⟨_, SqT.of (e1 _ _ ha), by rw [List.length_map]⟩, _, _, rfl, rfl, _, rfl, ite2 (fun _ => ?_) fun c => absurd (decide_eq_true (by omega)) c⟩
    refine ⟨_, _, rfl, rfl, _, rfl, ite2 (fun _ => ?_) fun c => absurd (decide_eq_true (by omega)) c⟩
    refine ⟨_, rfl, _, rfl, false, a, xs.map tx, rfl, .inr (SqT.of (by rw [texts_mem]; exact e1 _ _ ha)), texts_kv xs, by rw [List.length_map]; omega, (texts_al xs).1, (texts_al xs).2, fun L p H2 h1 h2 h3 h4 hp e2 hL => ?_⟩
    have eL := asc_same asc h1 h2 h3 h4
    rw [eL, texts_mem] at hL
    refine ⟨txd xs, txd xs, .tup (SqT.of (e2 _ _ (e1 _ _ ha))) (texts_dp xs), .tup (SqT.of hL) (texts_dp xs), txd_shaped fun x hx => name_strOk (ok x hx), txd_shaped fun x hx => name_strOk (ok x hx), ?_⟩
    have ev : PyData.eqv (txd xs) (txd xs) = true := by
      simp only [txd, PyData.eqv]
      exact texts_eqv xs
    rw [ev]
    exact q H2 (same_trans e1 e2)
/-- is_row(row, domain, length) of a row -/
def spRow : Sp := fun vs H Q _ => ∃ (r d : Addr) (rs ds : List Str), vs = [.ref r, .ref d, .int (rs.length : Nat)] ∧ H r = some (.tup (rs.map V.str)) ∧ H d = some (.tup (ds.map V.str)) ∧ (∀ x ∈ rs, x ∈ ds) ∧ rs.length ≤ 1000 ∧ ∀ H', Same H H' → Q (.bl true) H'
theorem in_texts {x : Str} {ds : List Str} (h : x ∈ ds) : inV (.str x) (ds.map V.str) = true := by
  unfold inV
  rw [List.any_eq_true]
  exact ⟨.str x, List.mem_map.mpr ⟨x, h, rfl⟩, by show (x == x) = true; exact beq_self_eq_true x⟩
theorem sc_is_row : FnScope ["thing", "domain", "length", "value"] ["thing", "domain", "length"] (defScope s_is_row) := ⟨rfl, rfl, rfl, by decide +kernel, rfl, by decide +kernel, by decide +kernel⟩
theorem ok_is_row (B : Bs mg) (f : FnF K mg "is_row" "is_row" s_is_row) : FnOk P w K mg base CX0 1 f.a f.d ["thing", "domain", "length"] spRow := by
  refine f.F.ok sc_is_row (fun vs H Q E h => ?_) (fun cdv A outer s H vs Q E hr h => ?_)
  · obtain ⟨r, d, rs, ds, rfl, _⟩ := h
    rfl
  · obtain ⟨r, d, rs, ds, rfl, ha, hd, sub, few, q⟩ := h
    refine ⟨_, (pss_one
      (ps_ret (pe_and (pe_callB call_isi (by rfl) B.n_isinstance (by decide +kernel) (pa_cons (pv 0) (pa_cons (pe_bltn (v := .ty "tuple") rfl B.n_tuple (by decide +kernel) rfl) pa_nil)))
        (pe_and (pe_cmpR op_eq (pe_callB call_len (by rfl) B.n_len (by decide +kernel) (pa_cons (pv 0) pa_nil)) (pv 2) (nomark _))
          (pe_one (pe_callB (cr_all rfl) (by rfl) B.n_all (by decide +kernel) (pa_cons (pe_lc (own := [("value", 3)]) (g := gName 3) (by rfl) sc_is_row.nd (pi_tup (pv 0)) (blkOk_by (own := [("value", 3)]) (N := ["thing", "domain", "length", "value"]) (sc := defScope s_is_row) (by decide +kernel))
            (fun _ _ _ _ _ => (pg_name (i := 3) sc_is_row.nd rfl (Or.inl rfl))) (fun _ _ _ _ _ => pts_nil) (fun _ _ _ _ _ => (pe_cmpR (show OpR _ (compareOp .In) (rIn K false) from op_in_seq) (pv 3) (pv 1) (by rfl)))) pa_nil))))))), ?_⟩
    refine ⟨_, rfl, _, _, _, _, true, rfl, .ty "tuple", .base (.tup ha), kit_ty (by decide +kernel), true, rfl, iteT ?_⟩
    refine ⟨_, rfl, .ref r, rs.length, rfl, .inr ⟨_, SqT.of ha, by rw [List.length_map]⟩, _, rfl, rfl, true, congrArg V.bl (decide_eq_true rfl), iteT ?_⟩
    refine ⟨_, rfl, r, rfl, ⟨_, SqT.of ha⟩, fun D hD => ?_⟩
    refine lc_tup (K := K) (xs := rs.map V.str) (fun i H' => Same H H' ∧ H' D = some (.lst (List.replicate i (V.bl true)))) ⟨same_new hD, upd_same⟩ (fun i H' _ p => SqT.of (p.1 _ _ ha)) ?_ ?_
    · rintro i y H' hi ⟨e1, eD⟩
      rw [List.getElem?_map] at hi
      cases hx : rs[i]? with
      | none =>
        rw [hx] at hi
        cases hi
      | some x =>
        rw [hx] at hi
        obtain rfl : V.str x = y := Option.some.inj hi
        have il : i < rs.length := (List.getElem?_eq_some_iff.mp hx).1
        refine ⟨rfl, _, rfl, _, rfl, d, ds.map V.str, rfl, .inr (SqT.of (e1 _ _ hd)), rfl, flat_strs ds, ?_⟩
        refine ⟨_, eD, by rw [List.length_replicate, sizeLine_eq]; omega, fun b u e => ?_, ?_⟩
        · rw [upd_ne (by rintro rfl; rw [hD] at e; cases e)]
          exact e1 b u e
        · rw [upd_same, if_neg (by decide), in_texts (sub x (List.mem_of_getElem? hx)), ← List.replicate_succ']
    · rintro H1 ⟨e1, eD⟩
      rw [List.length_map] at eD
      refine ⟨D, List.replicate rs.length true, rfl, SqL.of (by rw [List.map_replicate]; exact eD), ?_⟩
      rw [bls_all]
      exact q _ e1
end
end K01
/-! All rows; a column. -/
namespace K01
open PySem PySem.Spec PyProof.Rows L2 KG KS
/-- the rows one column longer -/
def step (R : List (List Str)) (col : List Str) : List (List Str) := R.flatMap fun r => col.map fun c => r ++ [c]
def prods (cols : List (List Str)) : List (List Str) := cols.foldl step [[]]
/-- values that are rows -/
abbrev RowsAt (H : Hp) : List V → List (List Str) → Prop := W.EachIs fun v ts => ∃ a, v = V.ref a ∧ H a = some (.tup (ts.map V.str))
theorem each_snoc {α β : Type} {R : α → β → Prop} {x : α} {y : β} : ∀ {as : List α} {bs : List β}, W.EachIs R as bs → R x y → W.EachIs R (as ++ [x]) (bs ++ [y])
  | _, _, .nil, h => .cons h .nil
  | _, _, .cons r t, h => .cons r (each_snoc t h)
theorem each_get {α β : Type} {R : α → β → Prop} : ∀ {as : List α} {bs : List β}, W.EachIs R as bs → ∀ {i : Nat} {x : α}, as[i]? = some x → ∃ y, bs[i]? = some y ∧ R x y
  | _, _, .nil, _, _, e => by cases e
  | _, _, .cons r t, 0, x, e => by
    cases e
    exact ⟨_, rfl, r⟩
  | _, _, .cons r t, i + 1, x, e => each_get t e
theorem RowsAt.up {H H' : Hp} (e : Same H H') {vs : List V} {R : List (List Str)} (h : RowsAt H vs R) : RowsAt H' vs R := each_and h fun v ts _ ⟨a, e1, e2⟩ => ⟨a, e1, e _ _ e2⟩
theorem step_take {R : List (List Str)} {col : List Str} {i : Nat} {r : List Str} (h : R[i]? = some r) : step (R.take (i + 1)) col = step (R.take i) col ++ col.map fun c => r ++ [c] := by
  unfold step
  rw [take_next h, List.flatMap_append, List.flatMap_singleton]
theorem step_len : ∀ (R : List (List Str)) (col : List Str), (step R col).length = R.length * col.length
  | [], col => by simp [step]
  | r :: R, col => by
    have ih := step_len R col
    unfold step at ih ⊢
    rw [List.flatMap_cons, List.length_append, List.length_map, ih, List.length_cons, Nat.succ_mul, Nat.add_comm]
theorem step_prefix {R : List (List Str)} {col : List Str} (i : Nat) : (step (R.take i) col).length ≤ (step R col).length := by
  rw [step_len, step_len]
  exact Nat.mul_le_mul_right _ (by rw [List.length_take]; omega)
theorem prods_next {cols : List (List Str)} {i : Nat} {col : List Str} (h : cols[i]? = some col) : prods (cols.take (i + 1)) = step (prods (cols.take i)) col := by
  unfold prods
  rw [take_next h, List.foldl_append]
  rfl
theorem rows_len (_ : List (List Str)) : ∀ (R : List (List Str)) (n : Nat), (∀ r ∈ R, r.length = n) → ∀ (cols : List (List Str)) {full : List (List Str)}, List.Sublist cols full → ∀ r ∈ cols.foldl step R, r.length = n + cols.length
  | R, n, h, [], _, _, r, hr => h r hr
  | R, n, h, c :: cols, full, sl, r, hr => by
    have z := rows_len [] (step R c) (n + 1) (fun q hq => by
      unfold step at hq
      obtain ⟨r0, h0, h1⟩ := List.mem_flatMap.mp hq
      obtain ⟨x, _, rfl⟩ := List.mem_map.mp h1
      rw [List.length_append, h r0 h0]
      rfl) cols (List.Sublist.refl cols) r hr
    rw [z, List.length_cons]
    omega
theorem same_put {H H1 : Hp} {D : Addr} {o : HO} (hD : H D = none) (e : Same H H1) : Same H (upd H1 D o) := fun b u h => by
  rw [upd_ne (by rintro rfl; rw [hD] at h; cases h)]
  exact e b u h
def spRows : Sp := fun vs H Q _ => ∃ (c : Addr) (ds : List Addr) (cols : List (List Str)), vs = [.ref c] ∧ H c = some (.lst (ds.map V.ref)) ∧ RowsAt H (ds.map V.ref) cols ∧ (∀ i, (prods (cols.take i)).length ≤ 100000) ∧ cols.length ≤ 1000 ∧
  ∀ (p : Addr) (rs : List V) (H' : Hp), H p = none → Same H H' → H' p = some (.tup rs) → RowsAt H' rs (prods cols) → Q (.ref p) H'
section
variable {P : Program} {w : World} {K : PySem.W.Frag} {mg : Str → Option Value} {base : Heap}
theorem sc_all_rows : FnScope ["columns", "rows", "column", "row", "item"] ["columns"] (defScope s_all_rows) := ⟨rfl, rfl, rfl, by decide +kernel, rfl, by decide +kernel, by decide +kernel⟩
theorem ok_all_rows (B : Bs mg) (f : FnF K mg "all_rows" "all_rows" s_all_rows) : FnOk P w K mg base CX0 1 f.a f.d ["columns"] spRows := by
  refine f.F.ok sc_all_rows (fun vs H Q E h => ?_) (fun cdv A outer s H vs Q E hr h => ?_)
  · obtain ⟨c, ds, cols, rfl, _⟩ := h
    rfl
  · obtain ⟨c, ds, cols, rfl, hc, hcol, few, wide, q⟩ := h
    refine ⟨_, (pss_cons
      (ps_set (i := 1) sc_all_rows.nd rfl (Or.inl rfl) (pe_lst (pa_cons (pe_tup pa_nil) pa_nil)))
    (pss_cons
      (ps_for PassesOwn.never rfl (pi_list (pv 0)) (pg_name (i := 2) sc_all_rows.nd rfl (Or.inr rfl))
        (pss_one
          (ps_setLc2 (i := 1) (own := [("row", 3), ("item", 4)]) (vs1 := [4]) (g := gName 3) (g1 := gName 4) (by rfl) sc_all_rows.nd rfl rfl (sw_true rfl rfl rfl (by decide +kernel)) (pi_list (pv 1)) (blkOk_by (own := [("row", 3), ("item", 4)]) (N := ["columns", "rows", "column", "row", "item"]) (sc := defScope s_all_rows) (by decide +kernel)) (by decide)
            (fun _ _ _ _ _ => (pg_name (i := 3) sc_all_rows.nd rfl (Or.inl rfl))) (fun _ _ _ _ _ => pts_nil)
            (fun _ _ _ _ _ => (show PI _ _ _ (iTup K (tVar 2)) from pi_tup (pv 2))) (fun _ _ _ _ _ => (pg_name (i := 4) sc_all_rows.nd rfl (Or.inl rfl))) (fun _ _ _ _ _ => pts_nil)
            (fun _ _ _ _ _ => (pe_op (show OpR _ (binaryOp .Add) (rCatA K) from op_catA) (pv 3) (pe_tup (pa_cons (pv 4) pa_nil)))))))
    (pss_one
      (ps_ret (pe_callTy call_tuple_of (by rfl) B.n_tuple (by decide +kernel) (pa_cons (pv 1) pa_nil)))))), ?_⟩
    refine ⟨by show 0 ≤ sizeLine; exact Nat.zero_le _, fun t ht => ⟨by show 1 ≤ sizeLine; decide, fun l hl => ?_⟩⟩
    have e0 : Same H (upd (upd H t (.tup [])) l (.lst [V.ref t])) := same_trans (same_new ht) (same_new hl)
    refine ⟨_, rfl, c, rfl, ⟨_, SqL.of (e0 _ _ hc)⟩, ?_⟩
    refine for_list (K := K) (a := c) (xs := ds.map V.ref) (fun i σ H' => ∃ (l : Addr) (rs : List V) (v2 : Option V), σ = [some (.ref c), some (.ref l), v2, none, none] ∧ Same H H' ∧ H' l = some (.lst rs) ∧ RowsAt H' rs (prods (cols.take i)))
      ⟨l, _, none, rfl, e0, upd_same, .cons ⟨t, rfl, by rw [upd_ne (ne_of_none upd_same hl), upd_same]; rfl⟩ .nil⟩ (fun i σ H' _ ⟨_, _, _, _, e, _⟩ => SqL.of (e _ _ hc)) ?_ ?_
    · rintro i0 y σ H0 hi ⟨l, rs, v2, rfl, e1, hl1, hR⟩
      obtain ⟨col, hci, d, rfl, hd0⟩ := each_get hcol hi
      generalize hRR : prods (cols.take i0) = R at hR
      have pn := prods_next hci
      rw [hRR] at pn
      have lim := few (i0 + 1)
      rw [pn] at lim
      refine ⟨_, rfl, l, rfl, ⟨_, SqL.of hl1⟩, fun D hD => ?_⟩
      have hDH : H D = none := e1.free hD
      have nDl : D ≠ l := (ne_of_none hl1 hD).symm
      refine lc2_lt (K := K) (a := l) (xs := rs) (fun i j H2 => ∃ acc, Same H0 H2 ∧ H2 D = some (.lst acc) ∧ RowsAt H2 acc (step (R.take i) col ++ (col.take j).map fun c => R.getD i [] ++ [c]))
        ⟨[], same_new hD, upd_same, .nil⟩ (fun i H2 _ ⟨_, e, _⟩ => SqL.of (e _ _ hl1)) ?_ (fun x σ H Q R h q => h _ _ q) (fun x σ H Q R h q => h _ _ q) (fun σ H Q R h ⟨x, e, a, e2, q0, q1⟩ => ⟨x, e, a, e2, q0, h _ _ q1⟩) ?_
      · rintro i x H2 hx ⟨acc, e2, hacc, hA⟩
        obtain ⟨ts, hRi, a, rfl, ha0⟩ := each_get hR hx
        have gd : R.getD i [] = ts := by rw [List.getD_eq_getElem?_getD, hRi]; rfl
        have ha2 := e2 _ _ ha0
        refine ⟨rfl, _, rfl, d, rfl, ⟨_, SqT.of (e2 _ _ (e1 _ _ hd0))⟩, d, col.map V.str, rfl, ⟨acc, e2, hacc, hA⟩, fun j H3 _ ⟨_, e3, _⟩ => SqT.of (e3 _ _ (e1 _ _ hd0)), ?_, ?_⟩
        · rintro j z H3 hz ⟨ac, e3, hac, hB⟩
          rw [List.getElem?_map] at hz
          cases hcj : col[j]? with
          | none =>
            rw [hcj] at hz
            cases hz
          | some cj =>
            rw [hcj] at hz
            obtain rfl : V.str cj = z := Option.some.inj hz
            have jl : j < col.length := (List.getElem?_eq_some_iff.mp hcj).1
            have il : i < R.length := (List.getElem?_eq_some_iff.mp hRi).1
            have lac : ac.length < 100000 := by
              have l1 := hB.length
              rw [List.length_append, List.length_map, List.length_take] at l1
              have l2 := step_prefix (R := R) (col := col) (i + 1)
              rw [step_take hRi, List.length_append, List.length_map] at l2
              omega
            rw [gd] at hB
            have hrow : ∀ {H4 : Hp} {v : V}, Same H3 H4 → (∃ b, v = V.ref b ∧ H4 b = some (.tup ((ts ++ [cj]).map V.str))) → RowsAt H4 (ac ++ [v]) (step (R.take i) col ++ (col.take (j + 1)).map fun c => R.getD i [] ++ [c]) := fun e4 hv => by
              rw [gd, take_next hcj, List.map_append, ← List.append_assoc]
              exact each_snoc (hB.up e4) hv
            have fin : ∀ {H4 : Hp} {v : V}, Same H3 H4 → H4 D = some (.lst ac) → (∃ b, v = V.ref b ∧ H4 b = some (.tup ((ts ++ [cj]).map V.str))) →
                ∃ acc, H4 D = some (.lst acc) ∧ acc.length < sizeLine ∧ ∃ acc', Same H0 (upd H4 D (.lst (acc ++ [v]))) ∧ upd H4 D (.lst (acc ++ [v])) D = some (.lst acc') ∧
                  RowsAt (upd H4 D (.lst (acc ++ [v]))) acc' (step (R.take i) col ++ (col.take (j + 1)).map fun c => R.getD i [] ++ [c]) := fun {H4 v} e4 h4 hv => by
              refine ⟨ac, h4, by rw [sizeLine_eq]; omega, ac ++ [v], same_put hD (same_trans e3 e4), upd_same, ?_⟩
              refine each_and (hrow e4 hv) fun v ts _ ⟨b, e5, e6⟩ => ⟨b, e5, ?_⟩
              rw [upd_ne (ne_of e6 h4 (by intro z; cases z))]
              exact e6
            refine ⟨rfl, _, rfl, _, rfl, by show 1 ≤ sizeLine; decide, fun b hb => ?_⟩
            have e4 : Same H3 (upd H3 b (.tup [V.str cj])) := same_new hb
            refine ⟨a, b, ts.map V.str, [V.str cj], rfl, rfl, SqT.of (e4 _ _ (e3 _ _ ha0)), SqT.of upd_same, ?_, fun z => ?_, fun _ z => (nomatch z), fun _ _ p hp => ?_⟩
            · have rl := rows_len [] [[]] 0 (by simp) (cols.take i0) (List.Sublist.refl _) ts (by rw [show (cols.take i0).foldl step [[]] = R from hRR]; exact List.mem_of_getElem? hRi)
              have tl : (cols.take i0).length ≤ cols.length := (List.take_sublist _ _).length_le
              rw [List.length_map, sizeLine_eq]
              show ts.length + 1 ≤ _
              omega
            · have z2 : ts = [] := List.map_eq_nil_iff.mp z
              exact fin e4 (e4 _ _ hac) ⟨b, rfl, by rw [upd_same, z2]; rfl⟩
            · have e5 := same_trans e4 (same_new (o := .tup (ts.map V.str ++ [V.str cj])) hp)
              exact fin e5 (e5 _ _ hac) ⟨p, rfl, by rw [upd_same, List.map_append]; rfl⟩
        · rintro H3 ⟨ac, e3, hac, hB⟩
          rw [List.length_map, List.take_length, gd, ← step_take hRi] at hB
          exact ⟨ac, e3, hac, by simpa using hB⟩
      · rintro H2 ⟨acc, e2, hacc, hA⟩
        refine ⟨D, acc, _, rfl, same_trans e1 e2, hacc, ?_⟩
        rw [pn]
        rw [hR.length] at hA
        simpa using hA
    · rintro σ H1 ⟨l, rs, v2, rfl, e1, hl1, hR⟩
      refine ⟨_, rfl, l, rs, rfl, .inl ⟨SqL.of hl1, fun p hp => ?_⟩⟩
      have le : cols.length = ds.length := by rw [← hcol.length, List.length_map]
      rw [List.length_map, ← le, List.take_length] at hR
      exact q p rs _ (e1.free hp) (same_trans e1 (same_new hp)) upd_same (hR.up (same_new hp))
end
end K01
/-! The order of rows of texts; products ascend; a part of as many is the whole. -/
namespace KA
open PySem PySem.Spec PyProof.Rows L2 KS K01
/-- one row ahead of another -/
def ltR (xs ys : List Str) : Bool := W.dataLt (txd xs) (txd ys)
def ltT (x y : Str) : Bool := W.dataLt (.str x) (.str y)
theorem ltR_row (xs ys : List Str) : ltR xs ys = W.rowLt (xs.map PyData.str) (ys.map PyData.str) := W.dataLt_tuple ..
theorem eqv_str (x y : Str) : PyData.eqv (.str x) (.str y) = decide (x = y) := by
  by_cases h : x = y
  · subst h
    simp [PyData.eqv]
  · simp [PyData.eqv, h]
theorem ltR_cons (x y : Str) (xs ys : List Str) : ltR (x :: xs) (y :: ys) = if x = y then ltR xs ys else ltT x y := by
  rw [ltR_row, ltR_row]
  show PyProof.Rows.lexLt itemOrd (W.keyToksAll (.str x :: xs.map PyData.str)) (W.keyToksAll (.str y :: ys.map PyData.str)) = _
  rw [W.dataLt_cons (by rfl), eqv_str]
  by_cases h : x = y
  · rw [decide_eq_true h, if_pos rfl, if_pos h]
    rfl
  · rw [decide_eq_false h, if_neg Bool.false_ne_true, if_neg h]
    rfl
theorem ltR_irr (xs : List Str) : ltR xs xs = false := lex_irrefl _
theorem ltR_trans {a b c : List Str} (h : ltR a b = true) (k : ltR b c = true) : ltR a c = true := lex_trans _ _ _ h k
theorem ltT_irr (x : Str) : ltT x x = false := lex_irrefl _
theorem ltT_total {x y : Str} (h : ltT x y = false) (k : ltT y x = false) : x = y := by
  by_cases e : x = y
  · exact e
  · have z := ltR_cons x y [] []
    have z2 := ltR_cons y x [] []
    rw [if_neg e] at z
    rw [if_neg fun q => e q.symm] at z2
    have t := lex_total _ _ (show W.dataLt (.str x) (.str y) = false from h) (show W.dataLt (.str y) (.str x) = false from k)
    have t2 : W.keyToks (.str x) = W.keyToks (.str y) := t
    simp [W.keyToks] at t2
    exact W.str_of_cps (by rw [t2])
theorem ltR_total : ∀ {xs ys : List Str}, xs.length = ys.length → ltR xs ys = false → ltR ys xs = false → xs = ys
  | [], [], _, _, _ => rfl
  | x :: xs, y :: ys, l, h, k => by
    rw [ltR_cons] at h k
    by_cases e : x = y
    · subst e
      rw [if_pos rfl] at h k
      rw [ltR_total (Nat.succ.inj l) h k]
    · rw [if_neg e] at h
      rw [if_neg fun z => e z.symm] at k
      exact absurd (ltT_total h k) e
/-- one sign more at the end -/
theorem ltR_snoc : ∀ {xs ys : List Str} (x y : Str), xs.length = ys.length → ltR (xs ++ [x]) (ys ++ [y]) = if xs = ys then ltT x y else ltR xs ys
  | [], [], x, y, _ => by
    rw [if_pos rfl]
    show ltR [x] [y] = _
    rw [ltR_cons]
    by_cases e : x = y
    · rw [if_pos e, e, ltT_irr, ltR_irr]
    · rw [if_neg e]
  | a :: xs, b :: ys, x, y, l => by
    rw [List.cons_append, List.cons_append, ltR_cons, ltR_cons, ltR_snoc x y (Nat.succ.inj l)]
    by_cases e : a = b
    · subst e
      rw [if_pos rfl, if_pos rfl]
      by_cases e2 : xs = ys
      · subst e2
        rw [if_pos rfl, if_pos rfl]
      · rw [if_neg e2, if_neg fun z => e2 (List.cons.inj z).2]
    · rw [if_neg e, if_neg e, if_neg fun z => e (List.cons.inj z).1]
/-- rows that ascend, each once -/
abbrev Asc (R : List (List Str)) : Prop := R.Pairwise fun a b => ltR a b = true
abbrev AscT (c : List Str) : Prop := c.Pairwise fun a b => ltT a b = true
end KA
/-! sorted(rows, key=lambda x: (len(x), x)), x a tuple of texts. -/
namespace KLm
open PySem PySem.Spec PySem.W PyProof.Rows L2 LamX
/-- the function at f is this lambda -/
def LamO (f : Addr) (o : Obj) : HO := .ext fun h => h.get? f = some o
theorem lamO_ne {f : Addr} {o : Obj} (ps : Array Value) : LamO f o ≠ .tbl ps := fun z => by
  unfold LamO at z
  cases z
/-- (len(x), x) of a row -/
def kd (ts : List Str) : PyData := .tuple [.int (ts.length : Nat), .tuple (ts.map PyData.str)]
theorem reads_texts {h : Heap} : ∀ {vs : List Value} {ts : List Str} , Vals (ts.map V.str) vs → ReadsAll h vs (ts.map PyData.str) []
  | _, [], r => by
    cases r
    exact .nil
  | _, t :: ts, r => by
    rw [List.map_cons] at r
    cases r with
    | cons r1 r2 =>
      obtain ⟨k, rfl⟩ := r1
      exact .cons (as := []) (bs := []) (.str _ _) (reads_texts r2)
/-- the lambda's body: (len(x), x) -/
abbrev lamBody (x : Str) (p1 p2 p3 p4 p5 : Pos) (k : Nat) : Expr := .Tuple [.Call (.Name "len" p1) [.Name x p2] [] p3, .Name x p4] k p5
/-- what the lambda must be -/
structure LamOk (x : Str) (params : Arguments) (body : Expr) (scope : Scope) : Prop where
  S : NdefX.NScope [x] [x] [] scope
  free : ∀ y ∈ scope.names, y.2 ≠ .free
  gl : ∀ (q : Str) (L f : Addr) (c : Value), (envX q scope L f c []).kindOf ("len" : Str) = some .globalImplicit
  nd : (x == ("__debug__" : Str)) = false
  bind : ∀ (qual : Str) (pm cdv ctv u : Value), bindArgs (kla_fn "<lambda>" qual params body scope [] pm cdv ctv) ⟨[u], []⟩ = pure [(x, u)]
section
variable {X : Cx} {pins : List (Addr × Obj)} {σ : L2.St} {H : Hp} {s : Shared}
theorem lam_turn {f c' a : Addr} {pm ctv : Value} {x qual : Str} {p1 p2 p3 p4 p5 : Pos} {k : Nat} {params : Arguments} {scope : Scope} {ts : List Str} (I : Inv X pins σ H s) (hr : Room 3 X.A) (hlen : X.mg "len" = none) (L : LamOk x params (lamBody x p1 p2 p3 p4 p5 k) scope)
    (hof : s.heap.get? f = some (kla_obj "<lambda>" qual params (lamBody x p1 p2 p3 p4 p5 k) scope [] pm c' ctv)) (hco : H c' = some (CodeO c' qual)) (ha : SqT X.K H a (ts.map V.str)) (h : Heap) (tk : Nat) (kp : ∀ b o, s.heap.get? b = some o → h.get? b = some o) :
    wpAny (model X.prog X.w) X.A.in1.in1 (call (.ref f) [.ref a]) (KeyPure (kd ts) { s with heap := h, toks := tk }) (fun _ _ => False) { s with heap := h, toks := tk } := by
  have I1 : Inv X pins σ H { s with heap := h, toks := tk } := I.kept kp
  have hr1 : Room 1 X.A.in1.in1 := hr.in1.in1
  have of1 : h.get? f = some (kla_obj "<lambda>" qual params (lamBody x p1 p2 p3 p4 p5 k) scope [] pm c' ctv) := kp _ _ hof
  obtain ⟨⟨oc, vs, t, hoc, hdc, hvc⟩, _, _⟩ := I1.hok c' _ hco
  refine wpAny_call (kla_callFunE (s := { s with heap := h, toks := tk }) hr1.depth of1 rfl L.S.co L.S.gen rfl ⟨c', oc, vs, t, rfl, hoc, hdc, hvc⟩ ?_)
  rw [L.bind]
  refine wpAny_pure (wpAny_newFunctionEnv L.S.nocell (fun ⟨n, _⟩ hy => L.S.par n (by
    have z := List.mem_singleton.mp hy
    rw [show n = x from congrArg Prod.fst z]
    exact List.mem_singleton.mpr rfl)) (fun h₁ hns hsb => ⟨I1.nolimit.fresh _ hsb, ?_⟩) L.S.kind)
  have kp1 : ∀ b o, h.get? b = some o → h₁.get? b = some o := fun b o e => hsb.extBut b o (Nat.ne_of_lt (Heap.lt_size e)) (Heap.get?_push_of_some _ e)
  have e0 : Env0 X.prog X.w X.K X.mg X.base X.A.in1.in1 X.stack { s with heap := h, toks := tk } H := by
    have e := I1.env0
    exact ⟨e.frames, e.mod, e.bs, e.bsz, e.funs, e.frf, e.hok, e.bare⟩
  have J := NdefX.inv_startN (CX := fun _ _ _ _ _ _ => True) (N := [x]) (ps := [x]) (fr := []) (F := ⟨"<lambda>", qual, params, [], scope, [], c'⟩) (f := f) (E := fun _ _ _ => True) (us := [.ref a]) (vs := [.ref a]) (ws := []) (tk := tk + 1) L.S hr1.hd e0 rfl (.cons rfl .nil) ⟨rfl, fun _ _ z => (nomatch z), fun _ _ _ z => (nomatch z), fun _ _ z => (nomatch z)⟩ hns kp1
  obtain ⟨its, rv, pl, hz⟩ := J.tuple ha
  have name : ∀ {M : Model} {A : Around} {p : Pos} {Q : Value → Shared → Prop} {E : Value → Shared → Prop} {tk : Nat}, Q (.ref a) { s with heap := h₁, toks := tk } → wpAny M A (eval (.Name x p) (envX qual scope h.objs.size f (.ref c') [])) Q E { s with heap := h₁, toks := tk } := fun {M A p Q E tk} q => by
    refine wpAny_Name (wpAny_loadName_local L.S.kind (L.S.par x (List.mem_singleton.mpr rfl)) hns ?_ q) L.nd
    show List.lookup x [(x, Value.ref a)] = some (.ref a)
    simp [List.lookup]
  refine kla_codeExpr ?_
  show wpAny _ _ (eval (lamBody x p1 p2 p3 p4 p5 k) (envX qual scope h.objs.size f (.ref c') [])) _ _ _
  refine wpAny_Tuple_spliced ?_
  show wpAny _ _ (spliced [(false, eval (.Call (.Name "len" p1) [.Name x p2] [] p3) (envX qual scope h.objs.size f (.ref c') [])), (false, eval (.Name x p4) (envX qual scope h.objs.size f (.ref c') []))]) _ _ _
  refine Calls.spliced_cons (wpAny_Call_Name_kw (ld_blt J (L.gl _ _ _ _) hlen rfl ?_ (by decide) (by decide)))
  refine PyProof.Rows.callWith_builtin1 ?_ rfl rfl
  show wpAny _ _ (spliced [(false, eval (.Name x p2) (envX qual scope h.objs.size f (.ref c') []))]) _ _ _
  refine Calls.spliced_cons (name (Calls.spliced_nil ?_))
  have fit : (its.toArray.size : Int) < 2 ^ 63 := by
    rw [List.size_toArray, ← rv.length]
    rw [sizeLine_eq] at hz
    omega
  refine len_tuple pl fit ?_
  refine Calls.spliced_cons (name (Calls.spliced_nil ⟨by show 2 ≤ sizeLine; decide, ?_⟩))
  have el : its.toArray.size = ts.length := by
    rw [List.size_toArray, ← rv.length, List.length_map]
  rw [el]
  refine ⟨_, _, rfl, fun b o e => Heap.get?_push_of_some _ (kp1 b o e), ?_⟩
  obtain ⟨o, ho, hc, n, hd⟩ := pl
  refine .tuple (as := []) (Heap.get?_push_size _ rfl) rfl rfl (.cons (as := []) (bs := []) (.int _ _) (.cons (as := []) (bs := []) (.tuple (Heap.get?_push_of_some _ ho) hc hd (by simpa using reads_texts rv)) .nil))
theorem ExtN.upd {H1 H2 : Hp} {g : Addr} {o : HO} (e : ExtN H1 H2) (n : H2 g = none) : ExtN H1 (upd H2 g o) := e.trans (ExtN.of fun b u h => by rw [upd_ne (ne_of_none h n)]; exact h)
theorem ExtN.sqL {K : PySem.W.Frag} {H1 H2 : Hp} {a : Addr} {xs : List V} (e : ExtN H1 H2) (h : SqL K H1 a xs) : SqL K H2 a xs :=
  h.elim (fun h => .inl (h.elim (fun h => .inl (e _ _ h (fun _ z => by cases z))) fun ⟨o, h⟩ => .inr ⟨o, e _ _ h (fun _ z => by cases z)⟩)) fun h => .inr h
theorem ExtN.sqT {K : PySem.W.Frag} {H1 H2 : Hp} {a : Addr} {xs : List V} (e : ExtN H1 H2) (h : SqT K H1 a xs) : SqT K H2 a xs :=
  h.elim (fun h => .inl (h.elim (fun h => .inl (e _ _ h (fun _ z => by cases z))) fun ⟨o, h⟩ => .inr ⟨o, e _ _ h (fun _ z => by cases z)⟩)) fun h => .inr h
theorem alike_strs : ∀ xs ys : List Str, alikeAll (xs.map PyData.str) (ys.map PyData.str) = true
  | [], _ => by simp [alikeAll]
  | _ :: _, [] => by simp [alikeAll]
  | x :: xs, y :: ys => by
    rw [List.map_cons, List.map_cons, alikeAll, alike_strs xs ys]
    rfl
theorem depth_strs : ∀ xs : List Str, PyData.depthAll (xs.map PyData.str) ≤ 1
  | [] => by decide
  | x :: xs => by
    have := depth_strs xs
    simp only [List.map_cons, PyData.depthAll, PyData.depth]
    omega
theorem each_refs {R : Addr × List Str → Prop} : ∀ {ps : List (Addr × List Str)} {us : List Value}, Vals (ps.map fun p => V.ref p.1) us → (∀ p ∈ ps, R p) → EachIs (fun v p => v = .ref p.1 ∧ R p) us ps
  | [], us, r, _ => by
    cases r
    exact .nil
  | p :: ps, us, r, h => by
    rw [List.map_cons] at r
    cases r with
    | cons r1 r2 => exact .cons ⟨r1, h p List.mem_cons_self⟩ (each_refs r2 fun q hq => h q (List.mem_cons_of_mem _ hq))
theorem refs_each {R : Addr × List Str → Prop} : ∀ {ps : List (Addr × List Str)} {us : List Value}, EachIs (fun v p => v = .ref p.1 ∧ R p) us ps → Vals (ps.map fun p => V.ref p.1) us
  | _, _, .nil => .nil
  | _, _, .cons h t => .cons h.1 (refs_each t)
/-- sorted(e, key=lambda x: (len(x), x)) -/
def tSortLam (K : PySem.W.Frag) (T : List (Addr × Str)) (ta : TE) : TE := fun σ H Q => ta σ H fun v H1 => ∃ (l : Addr) (ps : List (Addr × List Str)), v = .ref l ∧ SqL K H1 l (ps.map fun p => V.ref p.1) ∧ (∀ p ∈ ps, SqT K H1 p.1 (p.2.map V.str)) ∧ ps.length ≤ 100000 ∧ Tabs T H1 ∧
  ∀ (g : Addr) (H2 : Hp), ExtN H1 H2 → Tabs T H2 → H2 g = none → Q (.ref g) (upd H2 g (.lst ((ps.mergeSort (dataLe false fun p => kd p.2)).map fun p => V.ref p.1)))
/-- what is asked of the items -/
def SortIn (K : PySem.W.Frag) (T : List (Addr × Str)) (Q : VK) : List V → Hp → Prop
  | [v], H1 => ∃ (l : Addr) (ps : List (Addr × List Str)), v = .ref l ∧ SqL K H1 l (ps.map fun p => V.ref p.1) ∧ (∀ p ∈ ps, SqT K H1 p.1 (p.2.map V.str)) ∧ ps.length ≤ 100000 ∧ Tabs T H1 ∧
    ∀ (g : Addr) (H2 : Hp), ExtN H1 H2 → Tabs T H2 → H2 g = none → Q (.ref g) (upd H2 g (.lst ((ps.mergeSort (dataLe false fun p => kd p.2)).map fun p => V.ref p.1)))
  | _, _ => False
theorem pe_sortLam {T : List (Addr × Str)} {c P : Addr} {x qual : Str} {p p1 p2 p3 p4 p5 pos lpos kpos : Pos} {k : Nat} {params : Arguments} {scope : Scope} {e : Expr} {ta : TE} (TB : TabB X.base X.mg c P) (hcode : X.env.code = .ref c) (hq : X.env.qual ++ "<lambda>" = qual)
    (hm : (P, qual) ∈ T) (hu : ∀ p ∈ T, p.1 = P → p.2 = qual) (hg : Gl X "sorted") (hmg : X.mg "sorted" = none) (hlen : X.mg "len" = none) (hr : Room 3 X.A) (L : LamOk x params (lamBody x p1 p2 p3 p4 p5 k) scope) (he : PE X e ta)
    (hdef : defaultsOf params X.env = ([], []) := by rfl) (hst : starEach [e] X.env = [(false, eval e X.env)] := by rfl)
    (hks : backToKw pos (keywordEach [⟨some "key", .Lambda params (lamBody x p1 p2 p3 p4 p5 k) scope lpos, kpos⟩] X.env) = [(some ("key" : Str), do let v ← eval (.Lambda params (lamBody x p1 p2 p3 p4 p5 k) scope lpos) X.env; standAt pos; pure v)] := by rfl) :
    PE X (.Call (.Name "sorted" p) [e] [⟨some "key", .Lambda params (lamBody x p1 p2 p3 p4 p5 k) scope lpos, kpos⟩] pos) (tSortLam X.K T ta) := by
  subst hq
  have clo : cloFrom X.env.cells scope.names [] = [] := by
    cases e : cloFrom X.env.cells scope.names [] with
    | nil => rfl
    | cons p r =>
      rcases cloFrom_mem (show p ∈ cloFrom X.env.cells scope.names [] by rw [e]; exact List.mem_cons_self) with z | ⟨z, _⟩
      · cases z
      · exact absurd rfl (L.free _ z)
  refine ⟨fun pins s σ H Q I h => ?_⟩
  refine wpAny_Call_Name_kw (ld_blt I hg hmg rfl ?_ (by decide) (by decide))
  have ha : PA X [e] (tCons ta tNil) := pa_cons he pa_nil hst
  have h0 : (tCons ta tNil) σ H (SortIn X.K T Q) := h
  refine PyProof.Rows.callWith_kw (thn (ha.run pos pins s σ H _ I h0) fun us s1 ⟨vs, H1, I1, r1, q1⟩ => ?_) (by rw [hst]; rfl) (by rw [hst]; rfl) (by rw [hks]; rfl) (by rw [hks]; rfl)
  obtain ⟨v, rfl⟩ : ∃ v, vs = [v] := by
    match vs, q1 with
    | [v], _ => exact ⟨v, rfl⟩
  obtain ⟨l, ps, rfl, hl, hps, few, hT, q⟩ := q1
  obtain ⟨u, rfl, ru⟩ := vals1 r1
  obtain rfl : u = Value.ref l := ru
  rw [hks]
  show wpAny _ _ (evalAll [do let v ← eval (.Lambda params (lamBody x p1 p2 p3 p4 p5 k) scope lpos) X.env; standAt pos; pure v]) _ _ s1
  refine wpAny_evalAll_cons (wpAny_bind (lam_make2 I1 TB hcode hm hu hT hdef (fun y hy e => absurd e (L.free y hy)) fun f c' pm ctv H2 s2 I2 ext hT2 hof hfn hfr hco => wpAny_bind (wpAny_standAt (wpAny_pure (wpAny_evalAll_nil ?_)))))
  rw [clo] at hof
  show wpAny _ _ (call (.builtin "sorted") [.ref l] [(Str.ofString "key", .ref f)]) _ _ _
  obtain ⟨its, rv, pl, hz⟩ := I2.list (ExtN.sqL ext hl)
  have e0 := each_refs (R := fun p => SqT X.K H2 p.1 (p.2.map V.str)) rv fun p hp => ExtN.sqT ext (hps p hp)
  refine sorted_key_data (b := false) (fun p : Addr × List Str => kd p.2) pl.isList e0 (AllAlike.of fun a b => ?_) (Sortable.tuples fun _ => ⟨_, _, rfl⟩) (by rw [sizeLine_eq]; omega) (fun p _ => ?_) (ksk_s1 _ _) (fun _ => ksk_l1 _ _) (fun _ => ksk_t1 _ _)
    (fun v p ⟨ev, hp⟩ _ h tk kp => by rw [ev]; exact lam_turn I2 hr hlen L hof hco hp h tk kp) fun out c h' tk kp _ hD ol eo => ?_
  · simp [kd, alike, alikeAll, alike_strs]
  · have d1 := depth_strs p.2
    have d2 : (kd p.2).depth ≤ 4 := by
      simp only [kd, PyData.depth, PyData.depthAll]
      omega
    have := hr.un
    omega
  · have rv2 := refs_each (R := fun p => SqT X.K H2 p.1 (p.2.map V.str)) eo
    have n0 : H2 (s2.heap.objs.size + 1) = none := I2.hok.fresh (Nat.le_succ _)
    refine ⟨.ref (s2.heap.objs.size + 1), upd H2 (s2.heap.objs.size + 1) (.lst ((ps.mergeSort (dataLe false fun p => kd p.2)).map fun p => V.ref p.1)), I2.laid (t' := tk) kp (Nat.le_succ _) ?_, rfl, q _ _ ext hT2 n0⟩
    refine ⟨by rw [List.length_map, List.length_mergeSort, sizeLine_eq]; omega, out, c, rv2, ?_⟩
    rw [hD]
end
end KLm
/-! Of texts: t.count(x), l.remove(x), min(t), max(t). -/
namespace KTc
open PySem PySem.Spec PySem.W PySem.SeqAt PyProof.Rows L2
theorem plain_txs : ∀ ts : List Str, PyData.plainAll (ts.map PyData.str) = true
  | [] => rfl
  | t :: ts => by
    rw [List.map_cons]
    simp only [PyData.plainAll, PyData.plain, Bool.true_and]
    exact plain_txs ts
theorem dep_txs : ∀ ts : List Str, PyData.depthAll (ts.map PyData.str) = 0
  | [] => rfl
  | t :: ts => by
    rw [List.map_cons]
    simp only [PyData.depthAll, PyData.depth]
    rw [dep_txs ts]
    rfl
theorem eqv_tx (a b : Str) : PyData.eqv (.str a) (.str b) = decide (a = b) := by
  simp only [PyData.eqv]
  by_cases e : a = b
  · rw [decide_eq_true e, e]; exact beq_self_eq_true b
  · rw [decide_eq_false e]; exact beq_eq_false_iff_ne.mpr e
theorem count_txs (u : Str) : ∀ ts : List Str, (ts.map PyData.str).countP (fun y => PyData.eqv y (.str u)) = ts.count u
  | [] => rfl
  | t :: ts => by
    rw [List.map_cons, List.countP_cons, count_txs u ts, List.count_cons, eqv_tx]
    by_cases e : t = u
    · simp [e]
    · simp [e]
/-- where a text stands first -/
theorem place_txs (u : Str) : ∀ (ts : List Str) (j : Nat), ts[j]? = some u → (∀ i, i < j → ts[i]? ≠ some u) → dataPlace (ts.map PyData.str) (.str u) = some j
  | t :: ts, 0, h, _ => by
    obtain rfl := Option.some.inj (show some t = some u from h)
    unfold dataPlace
    rw [List.map_cons, List.findIdx?_cons, eqv_tx, decide_eq_true rfl]
    rfl
  | t :: ts, j + 1, h, no => by
    have n0 : ¬ t = u := fun e => no 0 (Nat.succ_pos _) (by rw [← e]; rfl)
    have ih := place_txs u ts j h fun i hi => no (i + 1) (Nat.succ_lt_succ hi)
    unfold dataPlace at ih ⊢
    rw [List.map_cons, List.findIdx?_cons, eqv_tx, decide_eq_false n0, ih]
    rfl
def rCntT (K : PySem.W.Frag) : V → List V → Hp → VK → Prop := fun x xs H Q => ∃ (p : Addr) (ts : List Str) (u : Str), x = .ref p ∧ xs = [.str u] ∧ SqT K H p (ts.map V.str) ∧ Q (.int (ts.count u : Nat)) H
def rRemT : V → List V → Hp → VK → Prop := fun x xs H Q => ∃ (l : Addr) (ts : List Str) (u : Str) (j : Nat), x = .ref l ∧ xs = [.str u] ∧ H l = some (.lst (ts.map V.str)) ∧ ts[j]? = some u ∧ (∀ i, i < j → ts[i]? ≠ some u) ∧ Q .non (upd H l (.lst ((ts.eraseIdx j).map V.str)))
/-- the least text -/
def minS (t : Str) (ts : List Str) : Str := ts.foldl (fun a y => if dataLt (.str y) (.str a) then y else a) t
def maxS (t : Str) (ts : List Str) : Str := ts.foldl (fun a y => if dataLt (.str a) (.str y) then y else a) t
theorem min_txs : ∀ (ts : List Str) (t : Str), minD (.str t) (ts.map PyData.str) = .str (minS t ts)
  | [], _ => rfl
  | y :: ts, t => by
    show minD (if dataLt (.str y) (.str t) then .str y else .str t) (ts.map PyData.str) = .str (minS (if dataLt (.str y) (.str t) then y else t) ts)
    by_cases e : dataLt (.str y) (.str t) = true
    · rw [if_pos e, if_pos e]
      exact min_txs ts y
    · rw [if_neg e, if_neg e]
      exact min_txs ts t
theorem max_txs : ∀ (ts : List Str) (t : Str), maxD (.str t) (ts.map PyData.str) = .str (maxS t ts)
  | [], _ => rfl
  | y :: ts, t => by
    show maxD (if dataLt (.str t) (.str y) then .str y else .str t) (ts.map PyData.str) = .str (maxS (if dataLt (.str t) (.str y) then y else t) ts)
    by_cases e : dataLt (.str t) (.str y) = true
    · rw [if_pos e, if_pos e]
      exact max_txs ts y
    · rw [if_neg e, if_neg e]
      exact max_txs ts t
def rMinT (K : PySem.W.Frag) : List V → Hp → VK → Prop := fun vs H Q => ∃ (p : Addr) (t : Str) (ts : List Str), vs = [.ref p] ∧ SqT K H p ((t :: ts).map V.str) ∧ Q (.str (minS t ts)) H
def rMaxT (K : PySem.W.Frag) : List V → Hp → VK → Prop := fun vs H Q => ∃ (p : Addr) (t : Str) (ts : List Str), vs = [.ref p] ∧ SqT K H p ((t :: ts).map V.str) ∧ Q (.str (maxS t ts)) H
section
variable {X : Cx}
theorem mt_tcount (hu : X.A.units + 64 < cLine) : MtR X "tuple.count" (rCntT X.K) := by
  intro pins s σ H x xs v us Q I rx rxs h
  obtain ⟨p, ts, u, rfl, rfl, hs, q⟩ := h
  cases rx
  obtain ⟨v1, rfl, t, rfl⟩ := rxs.one
  obtain ⟨its, rv, pl, _⟩ := I.tuple hs
  refine count_tuple_data (d := .str u) pl (KLm.reads_texts (by simpa using rv)) (.str u t) (plain_txs ts) rfl (by rw [dep_txs]; omega) ?_
  rw [count_txs]
  exact ⟨.int (ts.count u : Nat), H, I.tok _, ⟨s.toks, rfl⟩, q⟩
theorem mt_tremove (hu : X.A.units + 64 < cLine) : MtM X "list.remove" rRemT := by
  intro pins s σ H x xs v us Q I rx rxs h
  obtain ⟨l, ts, u, j, rfl, rfl, hH, hj, hno, q⟩ := h
  cases rx
  obtain ⟨v1, rfl, t, rfl⟩ := rxs.one
  obtain ⟨z, its, n, r, hl, e⟩ := I.lstM hH
  rw [List.length_map] at hl z
  refine remove_list_data (d := .str u) (vs := its.toArray) (j := j) ⟨_, e, rfl, n, rfl⟩ (KLm.reads_texts (by simpa using r)) (.str u t) (plain_txs ts) rfl (by rw [dep_txs]; omega) (place_txs u ts j hj hno) (by rw [List.size_toArray]; omega) ?_
  have rr := r.eraseIdx j
  have em : (ts.map V.str).eraseIdx j = (ts.eraseIdx j).map V.str := by
    rw [List.eraseIdx_eq_take_drop_succ, List.eraseIdx_eq_take_drop_succ, List.map_append, List.map_take, List.map_drop]
  rw [em] at rr
  refine ⟨.non, _, I.lset (its' := its.eraseIdx j) (t' := s.toks) hH e ?_ rr ?_, rfl, q⟩
  · show its.toArray.eraseIdxIfInBounds j = (its.eraseIdx j).toArray
    rw [List.eraseIdxIfInBounds_toArray]
  · have z2 := len_erase ts j
    rw [List.length_map]
    omega
theorem alike_txs (ts : List Str) : AlikeAll (ts.map PyData.str) := by
  refine ⟨fun x hx y hy => ?_, fun x hx => ?_⟩
  · obtain ⟨a, _, rfl⟩ := List.mem_map.mp hx
    obtain ⟨b, _, rfl⟩ := List.mem_map.mp hy
    rfl
  · obtain ⟨a, _, rfl⟩ := List.mem_map.mp hx
    exact fun z => nomatch z
theorem cr_minT (hc : X.A.handled = none) (hu : X.A.units + 64 < cLine) : CallR X (.builtin "min") (rMinT X.K) := by
  intro pins s σ H vs us Q I r h
  obtain ⟨p, t, ts, rfl, hs, q⟩ := h
  obtain ⟨its, rv, pl, _⟩ := I.tuple hs
  rw [Vals.ref1 r]
  refine min_tuple_data (x := .str t) (xs := ts.map PyData.str) hc pl (KLm.reads_texts (ts := t :: ts) (by simpa using rv)) (alike_txs (t :: ts)) (by rw [show PyData.depthAll (.str t :: ts.map PyData.str) = 0 from dep_txs (t :: ts)]; omega) fun i v h' tk bs hi hr kp => ?_
  rw [min_txs] at hr
  obtain ⟨z, rfl⟩ : ∃ t', v = Value.str (minS t ts) t' := by
    cases hr with
    | str x t => exact ⟨_, rfl⟩
  exact ⟨.str (minS t ts), H, I.kept kp, ⟨z, rfl⟩, q⟩
theorem cr_maxT (hc : X.A.handled = none) (hu : X.A.units + 64 < cLine) : CallR X (.builtin "max") (rMaxT X.K) := by
  intro pins s σ H vs us Q I r h
  obtain ⟨p, t, ts, rfl, hs, q⟩ := h
  obtain ⟨its, rv, pl, _⟩ := I.tuple hs
  rw [Vals.ref1 r]
  refine max_tuple_data (x := .str t) (xs := ts.map PyData.str) hc pl (KLm.reads_texts (ts := t :: ts) (by simpa using rv)) (alike_txs (t :: ts)) (by rw [show PyData.depthAll (.str t :: ts.map PyData.str) = 0 from dep_txs (t :: ts)]; omega) fun i v h' tk bs hi hr kp => ?_
  rw [max_txs] at hr
  obtain ⟨z, rfl⟩ : ∃ t', v = Value.str (maxS t ts) t' := by
    cases hr with
    | str x t => exact ⟨_, rfl⟩
  exact ⟨.str (maxS t ts), H, I.kept kp, ⟨z, rfl⟩, q⟩
end
end KTc
/-! Tuples of which it is known that they are just tuples: made by a display or by +; methods of theirs. -/
namespace KFz
open PySem PySem.Spec PyProof.Rows L2
/-- a tuple known to the object, without a dict -/
def Fz (H : Hp) (a : Addr) (xs : List V) : Prop := ∃ o : Obj, H a = some (.frz o (.tup xs)) ∧ o.cls = .type "tuple" ∧ o.dict = none
theorem Fz.same {H H' : Hp} {a : Addr} {xs : List V} (e : ∀ b u, H b = some u → H' b = some u) (h : Fz H a xs) : Fz H' a xs := let ⟨o, h1, h2⟩ := h; ⟨o, e _ _ h1, h2⟩
theorem Fz.sqT {K : PySem.W.Frag} {H : Hp} {a : Addr} {xs : List V} (h : Fz H a xs) : SqT K H a xs := let ⟨o, h1, _⟩ := h; .inl (.inr ⟨o, h1⟩)
theorem Fz.put {H : Hp} {a D : Addr} {xs ys zs : List V} (h : Fz H a xs) (hD : H D = some (.lst ys)) : Fz (upd H D (.lst zs)) a xs := by
  obtain ⟨o, h1, h2⟩ := h
  exact ⟨o, by rw [upd_ne (ne_of h1 hD (by intro z; cases z))]; exact h1, h2⟩
def tTupF (t : TA) : TE := fun σ H Q => t σ H fun xs H1 => xs.length ≤ sizeLine ∧ ∀ (p : Addr) (o : Obj), H1 p = none → o.cls = .type "tuple" → o.dict = none → Q (.ref p) (upd H1 p (.frz o (.tup xs)))
def rCatF (K : PySem.W.Frag) : R2 := fun x y H Q => ∃ a b xs ys, x = .ref a ∧ y = .ref b ∧ SqT K H a xs ∧ SqT K H b ys ∧ xs.length + ys.length ≤ sizeLine ∧ ys ≠ [] ∧
  (xs = [] → Q (.ref b) H) ∧ (xs ≠ [] → ∀ (p : Addr) (o : Obj), H p = none → o.cls = .type "tuple" → o.dict = none → Q (.ref p) (upd H p (.frz o (.tup (xs ++ ys)))))
def tBMF (T : String) (r : V → List V → Hp → VK → Prop) (to : TE) (t : TA) : TE := fun σ H Q => to σ H fun x H1 => (∃ (a : Addr) (o : Obj) (u : HO), x = .ref a ∧ H1 a = some (.frz o u) ∧ o.cls = .type T ∧ o.dict = none) ∧ t σ H1 fun xs H2 => r x xs H2 Q
section
variable {X : Cx} {es : List Expr} {t : TA} {pos : Pos}
theorem pe_tupF {x1} (h : PA X es t) : PE X (.Tuple es x1 pos) (tTupF t) := by
  refine ⟨fun pins s σ H Q I hq => ?_⟩
  refine wpAny_Tuple_spliced (thn (h.run pos pins s σ H _ I hq) fun us s1 ⟨xs, H1, I1, r, z, q⟩ => ⟨by rw [← r.length]; exact z, ?_⟩)
  have hf : H1 s1.heap.objs.size = none := I1.hok.fresh (Nat.le_refl _)
  refine ⟨.ref s1.heap.objs.size, upd H1 s1.heap.objs.size (.frz { cls := .type "tuple", data := .seq us.toArray } (.tup xs)), I1.laid (t' := s1.toks) (fun b u e => Heap.get?_push_of_some _ e) (Nat.le_refl _) ?_, rfl, q _ _ hf rfl rfl⟩
  exact ⟨Heap.get?_push_size _ rfl, z, us, r, ⟨_, Heap.get?_push_size _ rfl, rfl, _, rfl⟩⟩
theorem op_catF : OpR X (binaryOp .Add) (rCatF X.K) := by
  intro pins s σ H x y v u Q I rx ry h
  obtain ⟨a, b, xs, ys, rfl, rfl, ha, hb, hz, hy, q1, q2⟩ := h
  cases rx
  cases ry
  obtain ⟨its, r1, p1, _⟩ := I.tuple ha
  obtain ⟨its2, r2, p2, _⟩ := I.tuple hb
  by_cases hx : xs = []
  · subst hx
    cases r1
    exact cat_tup0 p1 p2 ⟨.ref b, H, I, rfl, q1 rfl⟩
  · refine HT.cat_tup p1 p2 (fun z => hx (r1.nil_iff.mp z)) (fun z => absurd (r2.nil_iff.mp z) hy) (fun z => ?_) (by rw [← r1.length, ← r2.length]; exact hz)
    refine ⟨.ref s.heap.objs.size, _, I.laid (t' := s.toks) (o := .frz { cls := .type "tuple", data := .seq (its ++ its2).toArray } (.tup (xs ++ ys))) (fun b ob q => Heap.get?_push_of_some _ q) (Nat.le_refl _) ?_, rfl, q2 hx _ _ (I.hok.fresh (Nat.le_refl _)) rfl rfl⟩
    exact ⟨Heap.get?_push_size _ rfl, by rw [List.length_append]; exact hz, _, r1.append r2, IsTup.new _ _⟩
variable {o e : Expr} {to : TE} {name : Str} {apos cpos : Pos} {T id : String} {r : V → List V → Hp → VK → Prop}
theorem pe_bmF (pa : PlainAttrs T) (slot : Slot T name id) (hty : typeOf (.builtin id) = pure (.type "method_descriptor")) (hm : MtR X id r) (ho : PE X o to) (ha : PA X (e :: es) t)
    (hbase : attributeBase o name X.env (eval o X.env) = eval o X.env := by rfl)
    (hfew : ((backTo cpos (starEach (e :: es) X.env)).all (fun x => !x.1) && (backToKw cpos (keywordEach [] X.env)).all (fun x => x.1.isSome)
      && decide ((e :: es).length + ([] : List Keyword).length + (if ([] : List Keyword).isEmpty then 0 else 1) < 30)) = true := by rfl)
    (hline : (apos.endLine == cpos.line) = true := by rfl) (hs : starEach (e :: es) X.env = (false, eval e X.env) :: starEach es X.env := by rfl) (hplain : (backTo cpos (starEach es X.env)).any (·.1) = false := by rfl) :
    PE X (.Call (.Attribute o name apos) (e :: es) [] cpos) (tBMF T r to t) := by
  refine ⟨fun pins s σ H Q I h => ?_⟩
  refine wpAny_Call_method_late hbase hfew hline rfl (thn (ho.run pins s σ H _ I h) fun v s1 ⟨x, H1, I1, r1, ⟨a, ob, u, ex, hH, hc, hd⟩, q1⟩ => ?_)
  subst ex
  obtain rfl : v = Value.ref a := r1
  obtain ⟨hg, _⟩ := I1.hok a _ hH
  refine ⟨T, id, pa, slot, hty, ⟨ob, hg, hc⟩, fun b eb => by cases eb; exact ⟨ob, hg, hd⟩, ?_⟩
  have hA := ha.run cpos pins s1 σ H1 _ I1 q1
  rw [hs] at hA ⊢
  refine Calls.callWith_builtin (by show (false || (backTo cpos (starEach es X.env)).any (·.1)) = false; rw [hplain] <;> rfl) (Calls.evalArgs_plain ?_)
  exact thn hA fun us s2 ⟨vs, H2, I2, r2, q2⟩ => hm pins s2 σ H2 (.ref a) vs (.ref a) us Q I2 rfl r2 q2
end
end KFz
/-! all_rows: the rows are just tuples. -/
namespace K01
open PySem PySem.Spec PyProof.Rows L2 KG KS KFz
/-- rows known to the object -/
abbrev RowsF (H0 H : Hp) : List V → List (List Str) → Prop := W.EachIs fun v ts => ∃ a, v = .ref a ∧ H0 a = none ∧ Fz H a (ts.map V.str)
theorem RowsF.up {H0 H H' : Hp} (e : Same H H') {vs : List V} {R : List (List Str)} (h : RowsF H0 H vs R) : RowsF H0 H' vs R := each_and h fun v ts _ ⟨a, e1, e0, e2⟩ => ⟨a, e1, e0, e2.same e⟩
def spRowsF : Sp := fun vs H Q _ => ∃ (c : Addr) (ds : List Addr) (cols : List (List Str)), vs = [.ref c] ∧ H c = some (.lst (ds.map V.ref)) ∧ RowsAt H (ds.map V.ref) cols ∧ (∀ i, (prods (cols.take i)).length ≤ 100000) ∧ cols.length ≤ 1000 ∧
  ∀ (p : Addr) (rs : List V) (H' : Hp), H p = none → Same H H' → H' p = some (.tup rs) → RowsF H H' rs (prods cols) → Q (.ref p) H'
section
variable {P : Program} {w : World} {K : PySem.W.Frag} {mg : Str → Option Value} {base : Heap}
theorem sc_all_rowsF : FnScope ["columns", "rows", "column", "row", "item"] ["columns"] (defScope s_all_rows) := ⟨rfl, rfl, rfl, by decide +kernel, rfl, by decide +kernel, by decide +kernel⟩
theorem ok_all_rowsF (B : Bs mg) (f : FnF K mg "all_rows" "all_rows" s_all_rows) : FnOk P w K mg base CX0 1 f.a f.d ["columns"] spRowsF := by
  refine f.F.ok sc_all_rowsF (fun vs H Q E h => ?_) (fun cdv A outer s H vs Q E hr h => ?_)
  · obtain ⟨c, ds, cols, rfl, _⟩ := h
    rfl
  · obtain ⟨c, ds, cols, rfl, hc, hcol, few, wide, q⟩ := h
    refine ⟨_, (pss_cons
      (ps_set (i := 1) sc_all_rowsF.nd rfl (Or.inl rfl) (pe_lst (pa_cons (pe_tupF pa_nil) pa_nil)))
    (pss_cons
      (ps_for PassesOwn.never rfl (pi_list (pv 0)) (pg_name (i := 2) sc_all_rowsF.nd rfl (Or.inr rfl))
        (pss_one
          (ps_setLc2 (i := 1) (own := [("row", 3), ("item", 4)]) (vs1 := [4]) (g := gName 3) (g1 := gName 4) (by rfl) sc_all_rowsF.nd rfl rfl (sw_true rfl rfl rfl (by decide +kernel)) (pi_list (pv 1)) (blkOk_by (own := [("row", 3), ("item", 4)]) (N := ["columns", "rows", "column", "row", "item"]) (sc := defScope s_all_rows) (by decide +kernel)) (by decide)
            (fun _ _ _ _ _ => (pg_name (i := 3) sc_all_rowsF.nd rfl (Or.inl rfl))) (fun _ _ _ _ _ => pts_nil)
            (fun _ _ _ _ _ => (show PI _ _ _ (iTup K (tVar 2)) from pi_tup (pv 2))) (fun _ _ _ _ _ => (pg_name (i := 4) sc_all_rowsF.nd rfl (Or.inl rfl))) (fun _ _ _ _ _ => pts_nil)
            (fun _ _ _ _ _ => (pe_op (show OpR _ (binaryOp .Add) (rCatF K) from op_catF) (pv 3) (pe_tupF (pa_cons (pv 4) pa_nil)))))))
    (pss_one
      (ps_ret (pe_callTy call_tuple_of (by rfl) B.n_tuple (by decide +kernel) (pa_cons (pv 1) pa_nil)))))), ?_⟩
    refine ⟨by show 0 ≤ sizeLine; exact Nat.zero_le _, fun t ot ht ct dt => ⟨by show 1 ≤ sizeLine; decide, fun l hl => ?_⟩⟩
    have e0 : Same H (upd (upd H t (.frz ot (.tup []))) l (.lst [V.ref t])) := same_trans (same_new ht) (same_new hl)
    refine ⟨_, rfl, c, rfl, ⟨_, SqL.of (e0 _ _ hc)⟩, ?_⟩
    refine for_list (K := K) (a := c) (xs := ds.map V.ref) (fun i σ H' => ∃ (l : Addr) (rs : List V) (v2 : Option V), σ = [some (.ref c), some (.ref l), v2, none, none] ∧ Same H H' ∧ H' l = some (.lst rs) ∧ RowsF H H' rs (prods (cols.take i)))
      ⟨l, _, none, rfl, e0, upd_same, .cons ⟨t, rfl, ht, ot, by rw [upd_ne (ne_of_none upd_same hl), upd_same]; rfl, ct, dt⟩ .nil⟩ (fun i σ H' _ ⟨_, _, _, _, e, _⟩ => SqL.of (e _ _ hc)) ?_ ?_
    · rintro i0 y σ H0 hi ⟨l, rs, v2, rfl, e1, hl1, hR⟩
      obtain ⟨col, hci, d, rfl, hd0⟩ := each_get hcol hi
      generalize hRR : prods (cols.take i0) = R at hR
      have pn := prods_next hci
      rw [hRR] at pn
      have lim := few (i0 + 1)
      rw [pn] at lim
      refine ⟨_, rfl, l, rfl, ⟨_, SqL.of hl1⟩, fun D hD => ?_⟩
      have hDH : H D = none := e1.free hD
      have nDl : D ≠ l := (ne_of_none hl1 hD).symm
      refine lc2_lt (K := K) (a := l) (xs := rs) (fun i j H2 => ∃ acc, Same H0 H2 ∧ H2 D = some (.lst acc) ∧ RowsF H H2 acc (step (R.take i) col ++ (col.take j).map fun c => R.getD i [] ++ [c]))
        ⟨[], same_new hD, upd_same, .nil⟩ (fun i H2 _ ⟨_, e, _⟩ => SqL.of (e _ _ hl1)) ?_ (fun x σ H Q R h q => h _ _ q) (fun x σ H Q R h q => h _ _ q) (fun σ H Q R h ⟨x, e, a, e2, q0, q1⟩ => ⟨x, e, a, e2, q0, h _ _ q1⟩) ?_
      · rintro i x H2 hx ⟨acc, e2, hacc, hA⟩
        obtain ⟨ts, hRi, a, rfl, _, ha0⟩ := each_get hR hx
        have gd : R.getD i [] = ts := by rw [List.getD_eq_getElem?_getD, hRi]; rfl
        have ha2 := ha0.same e2
        refine ⟨rfl, _, rfl, d, rfl, ⟨_, SqT.of (e2 _ _ (e1 _ _ hd0))⟩, d, col.map V.str, rfl, ⟨acc, e2, hacc, hA⟩, fun j H3 _ ⟨_, e3, _⟩ => SqT.of (e3 _ _ (e1 _ _ hd0)), ?_, ?_⟩
        · rintro j z H3 hz ⟨ac, e3, hac, hB⟩
          rw [List.getElem?_map] at hz
          cases hcj : col[j]? with
          | none =>
            rw [hcj] at hz
            cases hz
          | some cj =>
            rw [hcj] at hz
            obtain rfl : V.str cj = z := Option.some.inj hz
            have jl : j < col.length := (List.getElem?_eq_some_iff.mp hcj).1
            have il : i < R.length := (List.getElem?_eq_some_iff.mp hRi).1
            have lac : ac.length < 100000 := by
              have l1 := hB.length
              rw [List.length_append, List.length_map, List.length_take] at l1
              have l2 := step_prefix (R := R) (col := col) (i + 1)
              rw [step_take hRi, List.length_append, List.length_map] at l2
              omega
            rw [gd] at hB
            have hrow : ∀ {H4 : Hp} {v : V}, Same H3 H4 → (∃ b, v = V.ref b ∧ H b = none ∧ Fz H4 b ((ts ++ [cj]).map V.str)) → RowsF H H4 (ac ++ [v]) (step (R.take i) col ++ (col.take (j + 1)).map fun c => R.getD i [] ++ [c]) := fun e4 hv => by
              rw [gd, take_next hcj, List.map_append, ← List.append_assoc]
              exact each_snoc (hB.up e4) hv
            have fin : ∀ {H4 : Hp} {v : V}, Same H3 H4 → H4 D = some (.lst ac) → (∃ b, v = V.ref b ∧ H b = none ∧ Fz H4 b ((ts ++ [cj]).map V.str)) →
                ∃ acc, H4 D = some (.lst acc) ∧ acc.length < sizeLine ∧ ∃ acc', Same H0 (upd H4 D (.lst (acc ++ [v]))) ∧ upd H4 D (.lst (acc ++ [v])) D = some (.lst acc') ∧
                  RowsF H (upd H4 D (.lst (acc ++ [v]))) acc' (step (R.take i) col ++ (col.take (j + 1)).map fun c => R.getD i [] ++ [c]) := fun {H4 v} e4 h4 hv => by
              refine ⟨ac, h4, by rw [sizeLine_eq]; omega, ac ++ [v], same_put hD (same_trans e3 e4), upd_same, ?_⟩
              refine each_and (hrow e4 hv) fun v ts _ ⟨b, e5, e7, e6⟩ => ⟨b, e5, e7, e6.put h4⟩
            refine ⟨rfl, _, rfl, _, rfl, by show 1 ≤ sizeLine; decide, fun b ob hb cb db => ?_⟩
            have e4 : Same H3 (upd H3 b (.frz ob (.tup [V.str cj]))) := same_new hb
            have fb : Fz (upd H3 b (.frz ob (.tup [V.str cj]))) b [V.str cj] := ⟨ob, upd_same, cb, db⟩
            refine ⟨a, b, ts.map V.str, [V.str cj], rfl, rfl, ((ha0.same e3).same e4).sqT, fb.sqT, ?_, (fun z => nomatch z), fun z => ?_, fun _ p op hp cp dp => ?_⟩
            · have rl := rows_len [] [[]] 0 (by simp) (cols.take i0) (List.Sublist.refl _) ts (by rw [show (cols.take i0).foldl step [[]] = R from hRR]; exact List.mem_of_getElem? hRi)
              have tl : (cols.take i0).length ≤ cols.length := (List.take_sublist _ _).length_le
              rw [List.length_map, sizeLine_eq]
              show ts.length + 1 ≤ _
              omega
            · have z2 : ts = [] := List.map_eq_nil_iff.mp z
              exact fin e4 (e4 _ _ hac) ⟨b, rfl, (same_trans e1 e3).free hb, by rw [z2]; exact fb⟩
            · have e5 := same_trans e4 (same_new (o := .frz op (.tup (ts.map V.str ++ [V.str cj]))) hp)
              exact fin e5 (e5 _ _ hac) ⟨p, rfl, (same_trans (same_trans e1 e3) e4).free hp, op, by rw [upd_same, List.map_append]; rfl, cp, dp⟩
        · rintro H3 ⟨ac, e3, hac, hB⟩
          rw [List.length_map, List.take_length, gd, ← step_take hRi] at hB
          exact ⟨ac, e3, hac, by simpa using hB⟩
      · rintro H2 ⟨acc, e2, hacc, hA⟩
        refine ⟨D, acc, _, rfl, same_trans e1 e2, hacc, ?_⟩
        rw [pn]
        rw [hR.length] at hA
        simpa using hA
    · rintro σ H1 ⟨l, rs, v2, rfl, e1, hl1, hR⟩
      refine ⟨_, rfl, l, rs, rfl, .inl ⟨SqL.of hl1, fun p hp => ?_⟩⟩
      have le : cols.length = ds.length := by rw [← hcol.length, List.length_map]
      rw [List.length_map, ← le, List.take_length] at hR
      exact q p rs _ (e1.free hp) (same_trans e1 (same_new hp)) upd_same (hR.up (same_new hp))
end
end K01
/-! winner. -/
namespace K01
open PySem PySem.Spec PyProof.Rows L2 KG KS KA KTc KFz
abbrev s_winner : Stmt := top 16
abbrev s_without : Stmt := top 13
/-- these without the one -/
def wo (ts : List Str) (x : Str) : List Str := ts.filter fun y => decide (y ≠ x)
def spWo (K : PySem.W.Frag) : Sp := fun vs H Q _ => ∃ (a : Addr) (x : Str) (ts : List Str), vs = [.ref a, .str x] ∧ SqT K H a (ts.map V.str) ∧ ts.length ≤ 1000 ∧ ∀ (p : Addr) (H' : Hp), Same H H' → H' p = some (.tup ((wo ts x).map V.str)) → Q (.ref p) H'
theorem wo_count (x : Str) : ∀ ts : List Str, (wo ts x).length + ts.count x = ts.length
  | [] => rfl
  | y :: ts => by
    have ih := wo_count x ts
    unfold wo at ih ⊢
    rw [List.count_cons, List.length_cons, List.filter_cons]
    by_cases e : y = x
    · subst e
      rw [if_neg (by simp), if_pos (beq_self_eq_true y)]
      omega
    · rw [if_pos (decide_eq_true e), if_neg (by rw [beq_eq_false_iff_ne.mpr e]; exact Bool.false_ne_true), List.length_cons]
      omega
/-- the value that all, or all but one, of these are -/
def winS (ts : List Str) : Option Str := ts.find? fun v => decide (ts.length ≤ ts.count v + 1)
def optV : Option Str → V
  | some u => .str u
  | none => .non
def spWin : Sp := fun vs H Q _ => ∃ (a : Addr) (ts : List Str), vs = [.ref a] ∧ Fz H a (ts.map V.str) ∧ 1 ≤ ts.length ∧ ts.length ≤ 1000 ∧ ∀ H', Same H H' → Q (optV (winS ts)) H'
section
variable {P : Program} {w : World} {K : PySem.W.Frag} {mg : Str → Option Value} {base : Heap}
theorem sc_without : FnScope ["items", "item", "other"] ["items", "item"] (defScope s_without) := ⟨rfl, rfl, rfl, by decide +kernel, rfl, by decide +kernel, by decide +kernel⟩
theorem ok_without (B : Bs mg) (f : FnF K mg "without" "without" s_without) : FnOk P w K mg base CX0 1 f.a f.d ["items", "item"] (spWo K) := by
  refine f.F.ok sc_without (fun vs H Q E h => ?_) (fun cdv A outer s H vs Q E hr h => ?_)
  · obtain ⟨a, x, ts, rfl, _⟩ := h
    rfl
  · obtain ⟨a, x, ts, rfl, ha, few, q⟩ := h
    refine ⟨_, (pss_one
      (ps_ret (pe_callTy call_tuple_of (by rfl) B.n_tuple (by decide +kernel) (pa_cons (pe_lc (own := [("other", 2)]) (g := gName 2) (by rfl) sc_without.nd (pi_tup (pv 0)) (blkOk_by (own := [("other", 2)]) (N := ["items", "item", "other"]) (sc := defScope s_without) (by decide +kernel))
        (fun _ _ _ _ _ => (pg_name (i := 2) sc_without.nd rfl (Or.inl rfl))) (fun _ _ _ _ _ => (pts_one (pt_cmpR op_ne (pv 2) (pv 1) (nomark _)))) (fun _ _ _ _ _ => (pv 2))) pa_nil)))), ?_⟩
    refine ⟨_, rfl, a, rfl, ⟨_, ha⟩, fun D hD => ?_⟩
    refine lc_tup (K := K) (xs := ts.map V.str) (fun i H' => Same H H' ∧ H' D = some (.lst ((wo (ts.take i) x).map V.str))) ⟨same_new hD, upd_same⟩ (fun i H' _ z => same_seqT z.1 ha) ?_ ?_
    · rintro i y H1 hy ⟨e1, hD1⟩
      rw [List.getElem?_map] at hy
      cases hi : ts[i]? with
      | none =>
        rw [hi] at hy
        cases hy
      | some u =>
        rw [hi] at hy
        obtain rfl : V.str u = y := Option.some.inj hy
        have ln : (wo (ts.take i) x).length ≤ 1000 := by
          have z := List.length_filter_le (fun y => decide (y ≠ x)) (ts.take i)
          rw [List.length_take] at z
          show (List.filter _ _).length ≤ 1000
          omega
        refine ⟨rfl, _, rfl, _, rfl, rfl, _, rfl, ite2 (fun c => ?_) fun c => ?_⟩
        · have n : u ≠ x := fun z => by
            subst z
            rw [decide_eq_true rfl] at c
            cases c
          refine ⟨_, rfl, _, hD1, by rw [List.length_map, sizeLine_eq]; omega, same_put hD e1, ?_⟩
          rw [upd_same]
          unfold wo
          rw [take_next hi, List.filter_append, List.map_append, List.filter_cons, if_pos (decide_eq_true n)]
          rfl
        · have n : u = x := Classical.byContradiction fun z => c (by
            rw [decide_eq_false (fun y => z (by injection y))]
            rfl)
          refine ⟨e1, ?_⟩
          rw [hD1]
          unfold wo
          rw [take_next hi, List.filter_append, List.filter_cons, if_neg (by simp [n]), List.filter_nil, List.append_nil]
    · rintro H1 ⟨e1, hD1⟩
      rw [List.length_map, List.take_length] at hD1
      exact ⟨D, _, rfl, .inl ⟨SqL.of hD1, fun p hp => q p _ (same_trans e1 (same_new hp)) upd_same⟩⟩
theorem sc_winner : FnScope ["some", "value"] ["some"] (defScope s_winner) := ⟨rfl, rfl, rfl, by decide +kernel, rfl, by decide +kernel, by decide +kernel⟩
theorem find_take {α : Type} {p : α → Bool} {xs : List α} {i : Nat} {x : α} (h : xs[i]? = some x) (no : ∀ j y, j < i → xs[j]? = some y → p y = false) (hp : p x = true) : xs.find? p = some x := by
  induction xs generalizing i with
  | nil => simp at h
  | cons y ys ih =>
    cases i with
    | zero =>
      cases h
      rw [List.find?_cons, hp]
    | succ i =>
      rw [List.find?_cons, no 0 y (Nat.succ_pos _) rfl]
      exact ih h fun j z hj hz => no (j + 1) z (Nat.succ_lt_succ hj) hz
theorem ok_winner (B : Bs mg) (f : FnF K mg "winner" "winner" s_winner) (fw : FnF K mg "without" "without" s_without) : FnOk P w K mg base CX0 2 f.a f.d ["some"] spWin := by
  have GW := ok_without (P := P) (w := w) (base := base) B fw
  have bW : L2.Binds K fw.d ["items", "item"] [] := fw.F.binds fun _ _ _ _ _ _ us hl => match us, hl with | [_, _], _ => rfl
  refine f.F.ok sc_winner (fun vs H Q E h => ?_) (fun cdv A outer s H vs Q E hr h => ?_)
  · obtain ⟨a, ts, rfl, _⟩ := h
    rfl
  · obtain ⟨a, ts, rfl, ha, pos, few, q⟩ := h
    have hu64 := hr.units
    refine ⟨_, (pss_cons
      (ps_for PassesOwn.never rfl (pi_tup (pv 0)) (pg_name (i := 1) sc_winner.nd rfl (Or.inl rfl))
        (pss_one
          (ps_if (pt_cmpR op_lt (pe_callB call_len (by rfl) B.n_len (by decide +kernel) (pa_cons (pe_call GW hr rfl fw.g fw.F.kp bW .nil pass0 (pa_cons (pv 0) (pa_cons (pv 1) pa_nil))) pa_nil)) pe_int (nomark _))
            (pss_one
              (ps_ret (pv 1)))
            pss_nil)))
    (pss_one
      (ps_ret pe_non))), ?_⟩
    refine ⟨_, rfl, a, rfl, ⟨_, ha.sqT⟩, ?_⟩
    have fs : ∀ {H'}, Same H H' → SqT K H' a (ts.map V.str) := fun e => (ha.same e).sqT
    refine for_tup (K := K) (a := a) (xs := ts.map V.str) (fun i σ H' => ∃ v1 : Option V, σ = [some (.ref a), v1] ∧ Same H H' ∧ ∀ j y, j < i → ts[j]? = some y → decide (ts.length ≤ ts.count y + 1) = false) ⟨none, rfl, fun _ _ z => z, fun _ _ z => absurd z (Nat.not_lt_zero _)⟩ (fun i σ H' _ ⟨_, _, e, _⟩ => fs e) ?_ ?_
    · rintro i y σ H1 hy ⟨v1, rfl, e1, no⟩
      rw [List.getElem?_map] at hy
      cases hi : ts[i]? with
      | none =>
        rw [hi] at hy
        cases hy
      | some x =>
        rw [hi] at hy
        obtain rfl : V.str x = y := Option.some.inj hy
        have wc := wo_count x ts
        refine ⟨_, rfl, _, rfl, a, x, ts, rfl, fs e1, few, fun p H2 e2 hp => ⟨.ref p, (wo ts x).length, rfl, .inr ⟨_, SqT.of hp, by rw [List.length_map]⟩, _, _, rfl, rfl, _, rfl, ite2 (fun c => ?_) fun c => ?_⟩⟩
        · have c := of_decide_eq_true c
          have e := find_take (p := fun v => decide (ts.length ≤ ts.count v + 1)) hi no (decide_eq_true (by omega))
          refine ⟨_, rfl, ?_⟩
          have q2 := q H2 (same_trans e1 e2)
          unfold winS at q2
          rw [e] at q2
          exact q2
        · refine ⟨_, rfl, same_trans e1 e2, fun j y hj hy => ?_⟩
          by_cases z : j < i
          · exact no j y z hy
          · obtain rfl : j = i := by omega
            obtain rfl := Option.some.inj (hi.symm.trans hy)
            refine decide_eq_false fun z2 => c (decide_eq_true ?_)
            omega
    · rintro σ H1 ⟨v1, rfl, e1, no⟩
      rw [List.length_map] at no
      have e : winS ts = none := by
        unfold winS
        rw [List.find?_eq_none]
        intro y hy z
        obtain ⟨j, hj⟩ := List.mem_iff_getElem?.mp hy
        have z2 := no j y (List.getElem?_eq_some_iff.mp hj).1 hj
        rw [z2] at z
        cases z
      have q2 := q H1 e1
      rw [e] at q2
      exact q2
end
end K01
/-! A tuple that is known to be just a tuple is a tuple again. -/
namespace KFz
open PySem PySem.Spec PyProof.Rows L2
def Thaw (X : Cx) (H H' : Hp) : Prop := ∀ b, H' b = H b ∨ (X.H_0 b = none ∧ ∃ o xs, H b = some (.frz o (.tup xs)) ∧ H' b = some (.tup xs))
section
variable {X : Cx} {pins : List (Addr × Obj)} {σ : L2.St} {H H' : Hp} {s : Shared}
theorem Thaw.none (t : Thaw X H H') {b : Addr} (h : H b = none) : H' b = none := by
  rcases t b with e | ⟨_, o, xs, e, _⟩
  · rw [e]; exact h
  · rw [h] at e; cases e
theorem Thaw.some (t : Thaw X H H') {b : Addr} {u : HO} (h : H b = some u) (n : ∀ o xs, u ≠ .frz o (.tup xs)) : H' b = some u := by
  rcases t b with e | ⟨_, o, xs, e, _⟩
  · rw [e]; exact h
  · rw [h] at e
    exact absurd (Option.some.inj e) (n o xs)
theorem Inv.thaw (I : L2.Inv X pins σ H s) (t : Thaw X H H') : L2.Inv X pins σ H' s := by
  refine ⟨I.ok, I.os, I.bare, ⟨I.base.keep, I.base.slot, fun b o h n hx => t.none (I.base.free b o h n hx), I.base.there, fun b xs q => t.some (I.base.tups b xs q) (fun _ _ z => nomatch z), fun b o u q => ?_, fun b ps q => ?_⟩, I.loc, I.cell, t.none I.free, fun x c h => t.none (I.freeC x c h), fun p hp => ?_, fun b u q => ?_, I.len⟩
  · rcases t b with e | ⟨n, _⟩
    · rw [e]; exact I.base.frzs b o u q
    · rw [n] at q; cases q
  · obtain ⟨more, e⟩ := I.base.tbls b ps q
    exact ⟨more, t.some e (fun _ _ z => nomatch z)⟩
  · obtain ⟨a1, a2, a3⟩ := I.pin p hp
    exact ⟨a1, t.none a2, a3⟩
  · have st : ∀ {o : HO}, ObjOk X.prog X.w H s.heap b o → ObjOk X.prog X.w H' s.heap b o := fun x => x.stay (fun _ _ _ e => e) (fun c e => t.some e (fun _ _ z => nomatch z)) fun c xs e => t.some e (fun _ _ z => nomatch z)
    rcases t b with e | ⟨_, o, xs, e1, e2⟩
    · rw [e] at q
      exact st (I.hok b u q)
    · rw [e2] at q
      cases q
      exact st (I.hok b _ e1).2
/-- said between two statements -/
theorem pss_thaw {st : List Stmt} {t : TS} (h : PSs X st t) : PSs X st (fun D σ H => ∃ H', Thaw X H H' ∧ t D σ H') := ⟨fun pins s σ H D I ⟨H', th, q⟩ => h.run pins s σ H' D (Inv.thaw I th) q⟩
theorem ps_thaw {st : Stmt} {t : TS} (h : PS X st t) : PS X st (fun D σ H => ∃ H', Thaw X H H' ∧ t D σ H') := ⟨fun pins s σ H D I ⟨H', th, q⟩ => h.run pins s σ H' D (Inv.thaw I th) q⟩
/-- one of them -/
theorem thaw_one {H : Hp} {a : Addr} {o : Obj} {xs : List V} (h : H a = Option.some (HO.frz o (.tup xs))) (n : X.H_0 a = Option.none) : Thaw X H (upd H a (.tup xs)) := fun b => by
  by_cases e : b = a
  · subst e
    exact .inr ⟨n, o, xs, h, upd_same⟩
  · exact .inl (upd_ne e)
end
end KFz
/-! zip over two iterators of any kind whose pairs are kept. -/
namespace KZp
open PySem
section
variable {prog : Program} {w : World} {A : Around} {E : Value → Shared → Prop} {s : Shared} {z TI TO i1 i2 T : Addr} {fp1 fp2 : List Addr} {n1 n2 i : Nat} {P1 P2 : Nat → Value → Prop} {St1 St2 : Nat → Heap → Prop} {f : Bool} {oT : Obj}
/-- the pair handed out before is still there: a new one is made -/
theorem held_item {Q : Value → Shared → Prop} (S : ZipSep2 z TI TO i1 i2 fp1 fp2) (D1 : Draws prog w A i1 fp1 n1 P1 St1) (D2 : Draws prog w A i2 fp2 n2 P2 St2) (hz : IsZipHeld s.heap z TI TO T f) (hT : s.heap.get? T = some oT)
    (hTI : IsTupOf2 s.heap TI (.ref i1) (.ref i2)) (st1 : St1 i s.heap) (st2 : St2 i s.heap) (l1 : i < n1) (l2 : i < n2)
    (hQ : ∀ x1 x2 h' tk, P1 i x1 → P2 i x2 → IsZipHeld h' z TI TO T true → St1 (i + 1) h' → St2 (i + 1) h' → IsTupOf2 h' s.heap.objs.size x1 x2 → (∀ c o, c ≠ z → c ≠ i1 → c ≠ i2 → s.heap.get? c = some o → h'.get? c = some o) → Q (.ref s.heap.objs.size) { s with heap := h', toks := tk }) :
    wpAny (model prog w) A (Builtin.«zip.__next__» ⟨[.ref z], []⟩) (fun fin s' => ∃ v, fin = .done (.ret v) ∧ Q v s') E s := by
  obtain ⟨hp, g, dr, t0, os⟩ := s
  refine wpAny_bind (m := field (.ref z) 2) (wpAny_field hz rfl (x := .bool false) rfl (wpAny_bind (m := field (.ref z) 3) (wpAny_field hz rfl (x := .ref TI) rfl (wpAny_bind (wpAny_seqItems hTI rfl (wpAny_bind (m := Builtin.SmallTypes.ownedTupleIsFree (.ref z)) (wpAny_tupleHeld_zip hz hT fun ha hza hsa => ?_)))))))
  replace hsa : Heap.SameBut z hp ha := hsa
  simp only [Bool.false_eq_true, if_false]
  refine wpAny_bind ?_
  rw [← Array.forIn_toList]
  simp only [List.forIn_cons, List.forIn_nil]
  refine wpAny_bind (wpAny_bind (wpAny_holding (wpAny_bind (m := Builtin.SmallTypes.nextOf (.ref i1)) (D1.item i ⟨ha, g, dr, t0, os⟩ _ _ l1 (D1.over st1 hsa S.zf1) fun x1 hb tb p1 sb1 hsb => wpAny_pure (wpAny_pure ?_)))))
  replace hsb : Heap.SameBut i1 ha hb := hsb
  refine wpAny_bind (wpAny_bind (wpAny_holding (wpAny_bind (m := Builtin.SmallTypes.nextOf (.ref i2)) (D2.item i ⟨hb, g, dr, tb, os⟩ _ _ l2 (D2.over (D2.over st2 hsa S.zf2) hsb S.sep1_2) fun x2 hc tc p2 sc2 hsc => wpAny_pure (wpAny_pure (wpAny_pure ?_))))))
  replace hsc : Heap.SameBut i2 hb hc := hsc
  have size : hc.objs.size = hp.objs.size := (hsc.1.trans hsb.1).trans hsa.1
  have keep : ∀ c o, c ≠ z → c ≠ i1 → c ≠ i2 → hp.get? c = some o → hc.get? c = some o := fun c o a b d e => hsc.extBut c o d (hsb.extBut c o b (hsa.extBut c o a e))
  have zc : IsZipHeld hc z TI TO T true := hsc.extBut z _ S.zi2 (hsb.extBut z _ S.zi1 hza)
  refine wpAny_bind (m := newTuple [x1, x2]) (wpAny_newTuple (wpAny_pure ⟨_, rfl, ?_⟩))
  show Q (.ref hc.objs.size) ⟨hc.push { cls := .type "tuple", data := .seq #[x1, x2] }, g, dr, tc, os⟩
  have pair : IsTupOf2 (hc.push { cls := .type "tuple", data := .seq #[x1, x2] }) hc.objs.size x1 x2 := Heap.get?_push_size _ rfl
  rw [size] at pair ⊢
  exact hQ x1 x2 _ tc p1 p2 (Heap.get?_push_of_some _ zc) (D1.frame _ _ _ (D1.over sb1 hsc S.sep2_1) fun b _ o e => Heap.get?_push_of_some _ e) (D2.frame _ _ _ sc2 fun b _ o e => Heap.get?_push_of_some _ e) pair fun c o a b d e => Heap.get?_push_of_some _ (keep c o a b d e)
theorem held_end {Q : Fin → Shared → Prop} (S : ZipSep2 z TI TO i1 i2 fp1 fp2) (D1 : Draws prog w A i1 fp1 n1 P1 St1) (hz : IsZipHeld s.heap z TI TO T f) (hT : s.heap.get? T = some oT) (hTI : IsTupOf2 s.heap TI (.ref i1) (.ref i2)) (st1 : St1 n1 s.heap)
    (hE : ∀ h' e, (∀ c o, c ≠ z → c ≠ i1 → s.heap.get? c = some o → h'.get? c = some o) → (∃ o, h'.get? e = some o ∧ o.cls = .type "StopIteration") → E (.ref e) { s with heap := h' }) : wpAny (model prog w) A (Builtin.«zip.__next__» ⟨[.ref z], []⟩) Q E s := by
  obtain ⟨hp, g, dr, t0, os⟩ := s
  refine wpAny_bind (m := field (.ref z) 2) (wpAny_field hz rfl (x := .bool false) rfl (wpAny_bind (m := field (.ref z) 3) (wpAny_field hz rfl (x := .ref TI) rfl (wpAny_bind (wpAny_seqItems hTI rfl (wpAny_bind (m := Builtin.SmallTypes.ownedTupleIsFree (.ref z)) (wpAny_tupleHeld_zip hz hT fun ha hza hsa => ?_)))))))
  replace hsa : Heap.SameBut z hp ha := hsa
  simp only [Bool.false_eq_true, if_false]
  refine wpAny_bind ?_
  rw [← Array.forIn_toList]
  simp only [List.forIn_cons, List.forIn_nil]
  exact wpAny_bind (wpAny_bind (wpAny_holding (wpAny_bind (m := Builtin.SmallTypes.nextOf (.ref i1)) (D1.done ⟨ha, g, dr, t0, os⟩ _ _ (D1.over st1 hsa S.zf1) fun h' e ext ex => hE h' e (fun c o a b q => ext c o b (hsa.extBut c o a q)) ex))))
/-- a zip as it stands after some turns; X: what is said of the pair that is out -/
def ZSt (z TI TO i1 i2 : Addr) (St1 St2 : Nat → Heap → Prop) (X : Addr → Prop) (i : Nat) (h : Heap) : Prop :=
  IsTupOf2 h TI (.ref i1) (.ref i2) ∧ St1 i h ∧ St2 i h ∧ ((IsZip h z TI TO .none ∧ ∃ a b, IsTupOf2 h TO a b) ∨ ∃ T f oT, IsZipHeld h z TI TO T f ∧ h.get? T = some oT ∧ T ≠ z ∧ T ≠ i1 ∧ T ≠ i2 ∧ X T)
theorem pn_item {X : Addr → Prop} {Q : Option Value → Shared → Prop} (S : ZipSep2 z TI TO i1 i2 fp1 fp2) (D1 : Draws prog w A.in1 i1 fp1 n1 P1 St1) (D2 : Draws prog w A.in1 i2 fp2 n2 P2 St2) (st : ZSt z TI TO i1 i2 St1 St2 X i s.heap) (l1 : i < n1) (l2 : i < n2) (hX : X s.heap.objs.size)
    (hQ : ∀ x1 x2 h' tk, P1 i x1 → P2 i x2 → IsTupOf2 h' s.heap.objs.size x1 x2 → ZSt z TI TO i1 i2 St1 St2 X (i + 1) h' → (∀ c o, c ≠ z → c ≠ TO → c ≠ i1 → c ≠ i2 → s.heap.get? c = some o → h'.get? c = some o) → Q (some (.ref s.heap.objs.size)) { s with heap := h', toks := tk }) :
    wpAny (model prog w) A (pyNext (.ref z)) Q E s := by
  obtain ⟨hTI, st1, st2, hz⟩ := st
  have new : ∀ {c : Addr} {o : Obj}, s.heap.get? c = some o → s.heap.objs.size ≠ c := fun e => Nat.ne_of_gt (Heap.lt_size e)
  have m1 : s.heap.objs.size ≠ i1 := let ⟨_, e⟩ := D1.live _ _ st1; new e
  have m2 : s.heap.objs.size ≠ i2 := let ⟨_, e⟩ := D2.live _ _ st2; new e
  rcases hz with ⟨hz, a, b, hTO⟩ | ⟨T, f, oT, hz, hT, r1, r2, r3, r4⟩
  · exact wpAny_pyNext_zipD2_item S D1 D2 hz hTI hTO st1 st2 l1 l2 fun x1 x2 h' tk p1 p2 z' _ s1 s2 pr _ k => hQ x1 x2 h' tk p1 p2 pr ⟨k _ _ S.TIz S.TITO S.TIi1 S.TIi2 hTI, s1, s2, .inr ⟨s.heap.objs.size, false, _, z', pr, new hz, m1, m2, hX⟩⟩ k
  · have ty : s.TypeIs (.ref z) "zip" := ⟨_, hz, rfl⟩
    unfold pyNext
    exact wpAny_bind (wpAny_attempt (wpAny_callSpecial?_slot (name := Str.ofString "__next__") ty F.slot_zip_next (wpAny_call_entry F.slot_zip_next ty F.entry_zip_next
      (held_item S D1 D2 hz hT hTI st1 st2 l1 l2 fun x1 x2 h' tk p1 p2 z' s1 s2 pr k => wpAny_pure (hQ x1 x2 h' tk p1 p2 pr ⟨k _ _ S.TIz S.TIi1 S.TIi2 hTI, s1, s2, .inr ⟨T, true, oT, z', k _ _ r1 r2 r3 hT, r1, r2, r3, r4⟩⟩ fun c o a _ c1 c2 e => k c o a c1 c2 e)) (F.args_zip_next_1 _))))
theorem pn_end {X : Addr → Prop} {Q : Option Value → Shared → Prop} (S : ZipSep2 z TI TO i1 i2 fp1 fp2) (D1 : Draws prog w A.in1 i1 fp1 n1 P1 St1) (D2 : Draws prog w A.in1 i2 fp2 n1 P2 St2) (st : ZSt z TI TO i1 i2 St1 St2 X n1 s.heap)
    (hQ : ∀ h' tk, (∀ c o, c ≠ z → c ≠ TO → c ≠ i1 → c ≠ i2 → s.heap.get? c = some o → h'.get? c = some o) → Q none { s with heap := h', toks := tk }) : wpAny (model prog w) A (pyNext (.ref z)) Q E s := by
  obtain ⟨hTI, st1, st2, hz⟩ := st
  rcases hz with ⟨hz, a, b, hTO⟩ | ⟨T, f, oT, hz, hT, r1, r2, r3, r4⟩
  · exact wpAny_pyNext_zipD2_end S D1 D2 hz hTI hTO st1 st2 (Nat.le_refl _) (Nat.le_refl _) (.inl rfl) hQ
  · have ty : s.TypeIs (.ref z) "zip" := ⟨_, hz, rfl⟩
    unfold pyNext
    refine wpAny_bind (wpAny_attempt (wpAny_callSpecial?_slot (name := Str.ofString "__next__") ty F.slot_zip_next (wpAny_call_entry F.slot_zip_next ty F.entry_zip_next (held_end S D1 hz hT hTI st1 fun h' e k he => ?_) (F.args_zip_next_1 _))))
    obtain ⟨o, ho, hc⟩ := he
    exact wpAny_bind (wpAny_isInstance (T := "StopIteration") (b := true) ⟨o, ho, hc⟩ isSubtype_stop (wpAny_pure (hQ _ _ fun c o a _ c1 _ e => k c o a c1 e)))
end
section
variable {prog : Program} {w : World}
/-- zip(..) as the argument of dict() -/
theorem pairZip {z TI TO i1 i2 : Addr} {fp1 fp2 : List Addr} {n : Nat} {P1 P2 : Nat → Value → Prop} {St1 St2 : Nat → Heap → Prop} (S : ZipSep2 z TI TO i1 i2 fp1 fp2) (D1 : ∀ A : Around, A.handled = none → Draws prog w A i1 fp1 n P1 St1) (D2 : ∀ A : Around, A.handled = none → Draws prog w A i2 fp2 n P2 St2)
    (t1 : ∀ h, St1 0 h → ∀ b ∈ fp1, ∃ o, h.get? b = some o) (t2 : ∀ h, St2 0 h → ∀ b ∈ fp2, ∃ o, h.get? b = some o) (A0 : Around) (hA0 : A0.handled = none) :
    PairArg prog w "zip" z (z :: TI :: TO :: (fp1 ++ fp2)) [z, TO, i1, i2] n (fun i k v => P1 i k ∧ P2 i v) (fun h => IsZip h z TI TO .none ∧ IsTupOf2 h TI (.ref i1) (.ref i2) ∧ (∃ a b, IsTupOf2 h TO a b) ∧ St1 0 h ∧ St2 0 h) where
  type := fun s ok => ⟨_, ok.1, rfl⟩
  notDict := by decide
  keep := fun h h' ok k => by
    obtain ⟨hz, hTI, ⟨a, b, hTO⟩, s1, s2⟩ := ok
    exact ⟨k _ _ hz, k _ _ hTI, ⟨a, b, k _ _ hTO⟩, (D1 A0 hA0).frame 0 h h' s1 fun b _ o e => k b o e, (D2 A0 hA0).frame 0 h h' s2 fun b _ o e => k b o e⟩
  there := fun h ok b hb => by
    obtain ⟨hz, hTI, ⟨a, c, hTO⟩, s1, s2⟩ := ok
    rcases List.mem_cons.mp hb with rfl | hb
    · exact ⟨_, hz⟩
    rcases List.mem_cons.mp hb with rfl | hb
    · exact ⟨_, hTI⟩
    rcases List.mem_cons.mp hb with rfl | hb
    · exact ⟨_, hTO⟩
    rcases List.mem_append.mp hb with hb | hb
    · exact t1 h s1 b hb
    · exact t2 h s2 b hb
  sub := fun b hb => by
    have e1 := S.mem1
    have e2 := S.mem2
    simp only [List.mem_cons, List.not_mem_nil, or_false] at hb
    rcases hb with rfl | rfl | rfl | rfl <;> simp [e1, e2]
  noKeys := fun A s Q E hA ok h => getAttrOr_miss_zip ok.1 rfl rfl rfl zip_no_keys (by decide +kernel) hA h
  iter := fun A s d Q E hA ok hd hdf h => by
    obtain ⟨hz, hTI, ⟨a, b, hTO⟩, s1, s2⟩ := ok
    have off : ∀ b, b ∈ z :: TI :: TO :: (fp1 ++ fp2) → b ≠ d := fun b hb e => hdf (e ▸ hb)
    have o1 : ∀ b ∈ fp1, b ≠ d := fun b hb => off b (by simp [hb])
    have o2 : ∀ b ∈ fp2, b ≠ d := fun b hb => off b (by simp [hb])
    refine wpAny_pyIter_zip hz (h z [z, TO, i1, i2] (ZSt z TI TO i1 i2 St1 St2 fun T => T ≠ d) s.heap s.toks ?_ ⟨hTI, s1, s2, .inl ⟨hz, a, b, hTO⟩⟩ (fun _ _ e => e) fun b hb => .inl hb)
    refine ⟨fun hm => ?_, fun i h1 h2 st k => ?_, fun i s1 Q1 E1 hi st hds hQ => ?_, fun s1 Q1 E1 st hQ => ?_⟩
    · simp only [List.mem_cons, List.not_mem_nil, or_false] at hm
      rcases hm with e | e | e | e
      · exact off z (by simp) e.symm
      · exact off TO (by simp) e.symm
      · exact o1 i1 S.mem1 e.symm
      · exact o2 i2 S.mem2 e.symm
    · obtain ⟨hTI, s1, s2, hz⟩ := st
      refine ⟨k _ _ (off TI (by simp)) hTI, (D1 A hA).frame i h1 h2 s1 fun b hb o e => k b o (o1 b hb) e, (D2 A hA).frame i h1 h2 s2 fun b hb o e => k b o (o2 b hb) e, ?_⟩
      rcases hz with ⟨hz, a, b, hTO⟩ | ⟨T, f, oT, hz, hT, r1, r2, r3, r4⟩
      · exact .inl ⟨k _ _ (off z (by simp)) hz, a, b, k _ _ (off TO (by simp)) hTO⟩
      · exact .inr ⟨T, f, oT, k _ _ (off z (by simp)) hz, k _ _ r4 hT, r1, r2, r3, r4⟩
    · exact pn_item S (D1 A.in1 hA) (D2 A.in1 hA) st hi hi (Nat.ne_of_gt hds) fun x1 x2 h' tk p1 p2 pr st' k => hQ _ x1 x2 h' tk ⟨p1, p2⟩ (.inl ⟨_, pr, rfl, _, rfl⟩) st' fun c o hc e => k c o (fun x => hc (by simp [x])) (fun x => hc (by simp [x])) (fun x => hc (by simp [x])) (fun x => hc (by simp [x])) e
    · exact pn_end S (D1 A.in1 hA) (D2 A.in1 hA) st fun h' tk k => hQ h' tk fun c o hc e => k c o (fun x => hc (by simp [x])) (fun x => hc (by simp [x])) (fun x => hc (by simp [x])) (fun x => hc (by simp [x])) e
end
end KZp
/-! dict(zip(t, u)), t a tuple of rows of texts, u a tuple. -/
namespace KDz
open PySem PySem.Spec PyProof.Rows L2
/-- the entries -/
def entK (ts : List Str) : List Key := ts.map Sum.inr
theorem entK_kV (ts : List Str) : (entK ts).map kV = ts.map V.str := by
  unfold entK
  rw [List.map_map]
  rfl
theorem entK_inj {a b : List Str} (h : entK a = entK b) : a = b := (List.map_inj_right fun _ _ z => Sum.inr.inj z).mp h
def dtOf (ks : List (Addr × List Str)) (vs : List V) : List (List Key × V) := (ks.map fun p => entK p.2).zip vs
def rawOf (ks : List (Addr × List Str)) (us : List Value) : List (List Key × Addr × Value) := (ks.zip us).map fun q => (entK q.1.2, q.1.1, q.2)
theorem rawOf_len {ks : List (Addr × List Str)} {us : List Value} (l : ks.length = us.length) : (rawOf ks us).length = ks.length := by
  unfold rawOf
  rw [List.length_map, List.length_zip, l, Nat.min_self]
theorem rawOf_keys {ks : List (Addr × List Str)} {us : List Value} (l : ks.length = us.length) : (rawOf ks us).map (·.1) = ks.map fun p => entK p.2 := by
  induction ks generalizing us with
  | nil => rfl
  | cons p ks ih =>
    match us, l with
    | u :: us, l =>
      have z := ih (us := us) (by simpa using l)
      simp only [rawOf, List.zip_cons_cons, List.map_cons] at z ⊢
      rw [z]
theorem kt_of {H : Hp} : ∀ {ks : List (Addr × List Str)} {vs : List V} {us : List Value}, ks.length = vs.length → Vals vs us → (∀ p ∈ ks, H p.1 = some (.tup (p.2.map V.str))) → KT H (dtOf ks vs) (rawOf ks us)
  | [], _, _, _, _, _ => .nil
  | p :: ks, [], _, l, _, _ => by cases l
  | p :: ks, v :: vs, _, l, r, h => by
    cases r with
    | cons r1 r2 =>
      refine .cons ⟨rfl, ?_, r1⟩ (kt_of (ks := ks) (by simpa using l) r2 fun q hq => h q (List.mem_cons_of_mem _ hq))
      show H p.1 = some (HO.tup ((entK p.2).map kV))
      rw [entK_kV]
      exact h p List.mem_cons_self
def tDictZip (K : PySem.W.Frag) (t1 t2 : TE) : TE := fun σ H Q => t1 σ H fun x H1 => t2 σ H1 fun y H2 => ∃ (a b : Addr) (ks : List (Addr × List Str)) (vs : List V), x = .ref a ∧ y = .ref b ∧ SqT K H2 a (ks.map fun p => V.ref p.1) ∧ SqT K H2 b vs ∧
  (∀ p ∈ ks, H2 p.1 = some (.tup (p.2.map V.str))) ∧ ks.length = vs.length ∧ (ks.map (·.2)).Nodup ∧ ks.length ≤ 100000 ∧ ∀ d, H2 d = none → Q (.ref d) (upd H2 d (.dT (dtOf ks vs)))
/-- what is asked of the two -/
def ZipIn (K : PySem.W.Frag) (Q : VK) : List V → Hp → Prop
  | [x, y], H2 => ∃ (a b : Addr) (ks : List (Addr × List Str)) (vs : List V), x = .ref a ∧ y = .ref b ∧ SqT K H2 a (ks.map fun p => V.ref p.1) ∧ SqT K H2 b vs ∧
    (∀ p ∈ ks, H2 p.1 = some (.tup (p.2.map V.str))) ∧ ks.length = vs.length ∧ (ks.map (·.2)).Nodup ∧ ks.length ≤ 100000 ∧ ∀ d, H2 d = none → Q (.ref d) (upd H2 d (.dT (dtOf ks vs)))
  | _, _ => False
section
variable {X : Cx} {e1 e2 : Expr} {t1 t2 : TE} {p p1 p2 pos : Pos}
theorem keep_key {w : World} {P : Program} {h h' : Heap} {k : List Key} {b : Addr} (e : ∀ o, h.get? b = some o → h'.get? b = some o) (x : (tupleKind (mixKind P w)).is h k b) : (tupleKind (mixKind P w)).is h' k b := by
  obtain ⟨o, its, n, h1, r⟩ := x
  exact ⟨o, its, n, e _ h1, r⟩
theorem pe_dictZip (ha : PA X [e1, e2] (tCons t1 (tCons t2 tNil))) (gd : Gl X "dict") (md : X.mg "dict" = none) (gz : Gl X "zip") (mz : X.mg "zip" = none) (hc : X.calm = true) (hr : Room 3 X.A)
    (he0 : starEach [Expr.Call (.Name "zip" p1) [e1, e2] [] p2] X.env = (false, eval (.Call (.Name "zip" p1) [e1, e2] [] p2) X.env) :: starEach [] X.env := by rfl)
    (he : starEach [e1, e2] X.env = (false, eval e1 X.env) :: starEach [e2] X.env := by rfl) (hpl : (backTo p2 (starEach [e2] X.env)).any (·.1) = false := by rfl) :
    PE X (.Call (.Name "dict" p) [.Call (.Name "zip" p1) [e1, e2] [] p2] [] pos) (tDictZip X.K t1 t2) := by
  refine ⟨fun pins s σ H Q I h => ?_⟩
  have h0 : (tCons t1 (tCons t2 tNil)) σ H (ZipIn X.K Q) := h
  refine wpAny_Call_Name_kw (ld_blt I gd md rfl ?_ (by decide) (by decide))
  refine PyProof.Rows.callWith_type1 ?_ he0 rfl
  rw [he0]
  refine Calls.spliced_cons (wpAny_Call_Name_kw (ld_blt I gz mz rfl ?_ (by decide) (by decide)))
  refine PyProof.Rows.callWith_type1 (thn (ha.run p2 pins s σ H _ I h0) fun us s1 ⟨vs, H1, I1, r1, q1⟩ => ?_) he hpl
  obtain ⟨x, y, rfl⟩ : ∃ x y, vs = [x, y] := by
    match vs, q1 with
    | [x, y], _ => exact ⟨x, y, rfl⟩
  obtain ⟨a, b, ks, vs, rfl, rfl, sa, sb, hk, len, nd, few, q⟩ := q1
  obtain ⟨u, v, rfl, ru, rv⟩ := vals2 r1
  obtain rfl : u = Value.ref a := ru
  obtain rfl : v = Value.ref b := rv
  obtain ⟨ia, va, pa, _⟩ := I1.tuple sa
  obtain ⟨ib, vb, pb, _⟩ := I1.tuple sb
  have la := va.length
  have lb := vb.length
  rw [List.length_map] at la
  have lta : a < s1.heap.objs.size := let ⟨_, e, _⟩ := pa; Heap.lt_size e
  have ltb : b < s1.heap.objs.size := let ⟨_, e, _⟩ := pb; Heap.lt_size e
  refine zip_begins2 (begins_tuple a ia.toArray) (begins_tuple b ib.toArray) pa pb fun h' z1 z2 z3 z4 z5 _ kp => ?_
  refine Calls.spliced_nil ?_
  have S := zip_sep2 (N := s1.heap.objs.size) (fp1 := [a]) (fp2 := [b]) (by simpa using lta) (by simpa using ltb)
  have hd : X.A.handled = none := hr.hd
  have P := KZp.pairZip (prog := X.prog) (w := X.w) S (fun A hA => Draws.tuple hA s1.heap.objs.size a (Nat.ne_of_lt lta) ia.toArray) (n := ia.toArray.size)
    (fun A hA => by
      have D := Draws.tuple (prog := X.prog) (w := X.w) hA (s1.heap.objs.size + 1) b (Nat.ne_of_lt (Nat.lt_succ_of_lt ltb)) ib.toArray
      rw [show ib.toArray.size = ia.toArray.size by rw [List.size_toArray, List.size_toArray]; omega] at D
      exact D)
    (fun g st c hc => by
      rcases List.mem_cons.mp hc with rfl | hc
      · exact let ⟨o, e, _⟩ := st.1; ⟨o, e⟩
      · rw [List.mem_singleton.mp hc]
        exact let ⟨o, e, _⟩ := st.2; ⟨o, e⟩)
    (fun g st c hc => by
      rcases List.mem_cons.mp hc with rfl | hc
      · exact let ⟨o, e, _⟩ := st.1; ⟨o, e⟩
      · rw [List.mem_singleton.mp hc]
        exact let ⟨o, e, _⟩ := st.2; ⟨o, e⟩) X.A hd
  have lu : ks.length = ib.length := by omega
  have old : ∀ {c : Addr} {o : Obj}, s1.heap.get? c = some o → c < s1.heap.objs.size := fun e => Heap.lt_size e
  have off : ∀ {c : Addr}, c < s1.heap.objs.size → c ∉ [s1.heap.objs.size + 4, s1.heap.objs.size + 3, s1.heap.objs.size, s1.heap.objs.size + 1] := fun {c} l m => by
    simp only [List.mem_cons, List.not_mem_nil, or_false] at m
    rcases m with e | e | e | e
    · exact Nat.lt_irrefl c (Nat.lt_of_lt_of_le l (e ▸ Nat.le_add_right _ _))
    · exact Nat.lt_irrefl c (Nat.lt_of_lt_of_le l (e ▸ Nat.le_add_right _ _))
    · exact Nat.lt_irrefl c (Nat.lt_of_lt_of_le l (Nat.le_of_eq e.symm))
    · exact Nat.lt_irrefl c (Nat.lt_of_lt_of_le l (e ▸ Nat.le_add_right _ _))
  have keys : ∀ x ∈ rawOf ks ib, ∃ p ∈ ks, x.1 = entK p.2 ∧ x.2.1 = p.1 := fun x hx => by
    obtain ⟨r, hr, rfl⟩ := List.mem_map.mp hx
    exact ⟨r.1, (List.of_mem_zip hr).1, rfl, rfl⟩
  have key : ∀ p ∈ ks, (tupleKind (mixKind X.prog X.w)).is s1.heap (entK p.2) p.1 := fun p hp => key_of I1.hok (by rw [entK_kV]; exact hk p hp)
  have keyLt : ∀ p ∈ ks, p.1 < s1.heap.objs.size := fun p hp => let ⟨_, _, _, e, _⟩ := key p hp; old e
  have sz : s1.heap.objs.size ≤ h'.objs.size := Nat.le_of_lt (Nat.lt_of_le_of_lt (Nat.le_add_right _ 4) (Heap.lt_size z1))
  refine call_dict_pairsH (knd := tupleKind (mixKind X.prog X.w)) (ps := rawOf ks ib) P hd ?_ ⟨z1, z2, ⟨_, _, z3⟩, ⟨⟨_, z4, rfl, rfl⟩, pa.keeps kp⟩, ⟨⟨_, z5, rfl, rfl⟩, pb.keeps kp⟩⟩ ⟨?_, fun i k v ⟨e1, e2⟩ => ?_⟩ (fun g kg x hx => ?_) ?_ fun g tk hg kg => ?_
  · exact hr.in1.in1.units0
  · rw [rawOf_len lu, List.size_toArray]
    omega
  · have f1 : ia[i]? = some k := by simpa using e1
    have f2 : ib[i]? = some v := by simpa using e2
    have li : i < ks.length := by
      have := (List.getElem?_eq_some_iff.mp f1).1
      omega
    have g0 : ks[i]? = some ks[i] := List.getElem?_eq_getElem li
    obtain ⟨u, hu, ru⟩ := va.get (show (ks.map fun p => V.ref p.1)[i]? = some (V.ref ks[i].1) by rw [List.getElem?_map, g0]; rfl)
    rw [f1] at hu
    obtain rfl : k = u := Option.some.inj hu
    refine ⟨entK ks[i].2, ks[i].1, ?_, ru⟩
    show ((ks.zip ib).map fun q => (entK q.1.2, q.1.1, q.2))[i]? = _
    rw [List.getElem?_map, (List.getElem?_zip_eq_some (z := (ks[i], v))).mpr ⟨g0, f2⟩]
    rfl
  · obtain ⟨p, hp, e1, e2⟩ := keys x hx
    rw [e1, e2]
    have lp := keyLt p hp
    exact keep_key (fun o e => kg _ _ (Nat.ne_of_lt (Nat.lt_of_lt_of_le lp sz)) (off lp) (kp _ _ e)) (key p hp)
  · rw [sizeLine_eq, List.size_toArray]
    omega
  · have ndk : ((rawOf ks ib).map (·.1)).Nodup := by
      rw [rawOf_keys lu, show (ks.map fun p => entK p.2) = (ks.map (·.2)).map entK by rw [List.map_map]; rfl]
      exact List.Pairwise.map _ (fun _ _ ne z => ne (entK_inj z)) nd
    rw [storedAllH_nil_of_nodup _ ndk] at hg
    obtain ⟨o, es, ep, g1, g2, g3, g4, _, g5⟩ := hg
    have kept : ∀ c o, s1.heap.get? c = some o → g.get? c = some o := fun c o e => kg c o (off (old e)) (kp c o e)
    have fresh : H1 h'.objs.size = none := I1.hok.fresh sz
    refine ⟨.ref h'.objs.size, upd H1 h'.objs.size (.dT (dtOf ks vs)), I1.laid (t' := tk) kept sz ?_, rfl, q _ fresh⟩
    refine ⟨?_, beq_eq_false_iff_ne.mpr (Nat.ne_of_gt (Nat.lt_of_lt_of_le I1.big sz)), rawOf ks ib, kt_of (by omega) vb fun p hp => ?_, o, es, ep, g1, g2, g3, g4, g5⟩
    · unfold dtOf
      rw [List.length_zip, List.length_map, sizeLine_eq]
      omega
    · rw [upd_ne (Nat.ne_of_lt (Nat.lt_of_lt_of_le (keyLt p hp) sz))]
      exact hk p hp
end
end KDz
/-! Drawn: one of a list. -/
namespace K01
open PySem PySem.Spec PyProof.Rows L2 KG

theorem DeckAt.back {H H' : Hp} {d l : Addr} {k : Nat} (D : DeckAt H' d l k) (o : Off d l H H') {b : Addr} (h : H' b = none) : H b = none := by
  obtain ⟨cs, m, n, h1, h2, _⟩ := D.ex
  cases q : H b with
  | none => rfl
  | some u =>
    by_cases e1 : b = d
    · rw [e1, h1] at h; cases h
    · by_cases e2 : b = l
      · rw [e2, h2] at h; cases h
      · rw [o b u q e1 e2] at h; cases h

/-! ### _law_pick -/
def spPick (K : PySem.W.Frag) : Sp := fun vs H Q _ => ∃ (d l a : Addr) (xs : List V) (k : Nat), vs = [.ref d, .ref a] ∧ DeckAt H d l k ∧ H a = some (.lst xs) ∧ a ≠ l ∧ 0 < xs.length ∧ xs.length < 1000000 ∧ k < 1000000000 ∧
  ∀ (v : V) (H' : Hp), v ∈ xs → DeckAt H' d l (k + 1) → Off d l H H' → Q v H'
section
variable {P : Program} {w : World} {K : PySem.W.Frag} {mg : Str → Option Value} {base : Heap}
theorem sc__law_pick : FnScope ["_law_deck_here", "_law_options"] ["_law_deck_here", "_law_options"] (defScope s__law_pick) := ⟨rfl, rfl, rfl, by decide +kernel, rfl, by decide +kernel, by decide +kernel⟩
theorem ok__law_pick (B : Bi mg) (f : FnF K mg "_law_pick" "_law_pick" s__law_pick) (fd : FnF K mg "_law_draw" "_law_draw" s__law_draw) : FnOk P w K mg base CX0 2 f.a f.d ["_law_deck_here", "_law_options"] (spPick K) := by
  have G := ok__law_draw (P := P) (w := w) (base := base) B fd
  have bd : Binds K fd.d ["_law_deck_here", "_law_many"] [] := fd.F.binds fun _ _ _ _ _ _ us hl => match us, hl with | [_, _], _ => rfl
  refine f.F.ok sc__law_pick (fun vs H Q E h => ?_) (fun cdv A outer s H vs Q E hr h => ?_)
  · obtain ⟨d, l, a, xs, k, rfl, _⟩ := h
    rfl
  · obtain ⟨d, l, a, xs, k, rfl, D, ha, nal, h0, h1, hk, q⟩ := h
    refine ⟨_, (pss_one
      (ps_ret (pe_ix ix_list (pv 1) (pe_call G hr rfl fd.g fd.F.kp bd .nil pass0 (pa_cons (pv 0) (pa_cons (pe_callB call_len (by rfl) B.n_len (by decide +kernel) (pa_cons (pv 1) pa_nil)) pa_nil))) (fun _ _ => rfl)))), ?_⟩
    refine ⟨_, rfl, _, rfl, _, rfl, .ref a, xs.length, rfl, Or.inl ⟨xs, SqL.of ha, rfl⟩, d, l, (xs.length : Int), k, rfl, D, by omega, by omega, hk, fun i H' i0 i1 D' o' => ?_⟩
    have nad : a ≠ d := by
      obtain ⟨cs, m, n, hd, _⟩ := D.ex
      exact ne_of ha hd (by intro z; cases z)
    have hi : i.toNat < xs.length := by omega
    have hx : xs[i.toNat]? = some xs[i.toNat] := List.getElem?_eq_getElem hi
    exact ⟨a, xs, i, xs[i.toNat], rfl, rfl, SqL.of (o' a _ ha nad nal), at_of (j := i.toNat) (by omega) hx, q _ H' (List.getElem_mem hi) D' o'⟩

end
end K01
/-! A text beside a dict: not equal. -/
namespace KDq
open PySem PySem.SeqAt
theorem sub_dict_str : isSubtype (.type "dict") (.type "str") = pure false := by first | exact F.sub_dict_str | kernel_rfl
theorem sub_str_dict : isSubtype (.type "str") (.type "dict") = pure false := by first | exact F.sub_str_dict | kernel_rfl
theorem str_eq_declines_dict (b : Str) (u : Tok) (l : Addr) (es : Array DictEntry) (n : Nat) (dd : Option Addr) (sl : Array (Option Value)) :
    Meets (Builtin.«str.__eq__» ⟨[.str b u, .ref l], []⟩) (fun _ R s => s.heap.get? l = some { cls := .type "dict", dict := dd, data := .dict es n, slots := sl } ∧ R (.ok (.ret .notImplemented)) s) :=
  .of_wp fun prog w A R s h => by obtain ⟨hp, g, d, tk, os⟩ := s; obtain ⟨hl, h⟩ := h; wp_walk using wpAny_load hl; exact ⟨_, rfl, h⟩
theorem dict_eq_declines_str (l : Addr) (es : Array DictEntry) (n : Nat) (dd : Option Addr) (sl : Array (Option Value)) (b : Str) (u : Tok) :
    Meets (Builtin.«dict.__eq__» ⟨[.ref l, .str b u], []⟩) (fun _ R s => s.heap.get? l = some { cls := .type "dict", dict := dd, data := .dict es n, slots := sl } ∧ R (.ok (.ret .notImplemented)) s) :=
  .of_wp fun prog w A R s h => by obtain ⟨hp, g, d, tk, os⟩ := s; obtain ⟨hl, h⟩ := h; have f1 := sub_str_dict; wp_walk using wpAny_load hl; exact ⟨_, rfl, h⟩
section
variable {A : Around} {s : Shared}
theorem RcAt.str_dict {l : Addr} {o : Obj} {es : Array DictEntry} {n : Nat} (b : Str) (u : Tok) (ho : s.heap.get? l = some o) (hc : o.cls = .type "dict") (hd : o.data = .dict es n) (hu : A.units < cLine) : RcAt A s (.str b u) (.ref l) false := fun prog w E Q h => by
  obtain ⟨cls, dd, data, sl⟩ := o
  simp only at hc hd
  subst hc hd
  exact rc_eq_decline_or (k := false) (typeIs_str s b u) ⟨_, ho, rfl⟩ (by decide) sub_dict_str F.slot_str_eq F.slot_dict_eq_refl
    (fun _ hq => call_meets F.slot_str_eq (typeIs_str s b u) F.entry_str_eq (F.args_str_eq_2 _ _) (str_eq_declines_dict b u l es n dd sl) ⟨ho, hq⟩)
    (fun _ hq => call_meets F.slot_dict_eq_refl ⟨_, ho, rfl⟩ F.entry_dict_eq (F.args_dict_eq_2 _ _) (dict_eq_declines_str l es n dd sl b u) ⟨ho, hq⟩)
    (fun _ hq => wpAny_of_eq (rfl : isSame (.str b u) (.ref l) = pure false) hq) (.inr hu) h
theorem EqAt.str_dict {l : Addr} {o : Obj} {es : Array DictEntry} {n : Nat} (b : Str) (u : Tok) (ho : s.heap.get? l = some o) (hc : o.cls = .type "dict") (hd : o.data = .dict es n) (hu : A.units < cLine) : EqAt A s (.str b u) (.ref l) false := fun prog w E Q h => by
  unfold eqBool
  refine wpAny_holding ?_
  refine wpAny_ite_split (fun hab => absurd (eq_of_beq hab) nofun) (fun _ => ?_)
  exact wpAny_bind (RcAt.str_dict b u ho hc hd hu prog w E _ (wpAny_truthy_bool h))
end
end KDq
/-! x in a tuple of texts, x any value. -/
namespace KIa
open PySem PySem.Spec PyProof.Rows L2 PySem.SeqAt
/-- a text, or another value -/
inductive ItK (K : PySem.W.Frag) (H : Hp) : V → Option Str → Prop
  | str (x : Str) : ItK K H (.str x) (some x)
  | int (n : Int) : ItK K H (.int n) none
  | bl (b : Bool) : ItK K H (.bl b) none
  | non : ItK K H .non none
  | lst {a : Addr} {xs : List V} : SqL K H a xs → ItK K H (.ref a) none
  | tup {a : Addr} {xs : List V} : SqT K H a xs → ItK K H (.ref a) none
  | dct {a : Addr} {kvs : List (Key × V)} : H a = some (.dK kvs) → ItK K H (.ref a) none
def inIt (o : Option Str) (ds : List Str) : Bool := ds.any fun t => decide (o = some t)
theorem inIt_some (x : Str) (ds : List Str) : inIt (some x) ds = decide (x ∈ ds) := by
  unfold inIt
  rw [Bool.eq_iff_iff, List.any_eq_true, decide_eq_true_eq]
  refine ⟨fun ⟨t, ht, e⟩ => ?_, fun h => ⟨x, h, decide_eq_true rfl⟩⟩
  rw [Option.some.inj (of_decide_eq_true e)]
  exact ht
theorem inIt_none (ds : List Str) : inIt none ds = false := by
  unfold inIt
  rw [List.any_eq_false]
  intro t ht e
  cases of_decide_eq_true e
def rInIt (K : PySem.W.Frag) : R2 := fun x y H Q => ∃ (o : Option Str) (d : Addr) (ds : List Str), ItK K H x o ∧ y = .ref d ∧ SqT K H d (ds.map V.str) ∧ Q (.bl (inIt o ds)) H
/-- the text that a value is -/
def txtOf : Value → Option Str
  | .str t _ => some t
  | _ => none
theorem any_txt {o : Option Str} : ∀ {ds : List Str} {us : List Value}, Vals (ds.map V.str) us → (us.any fun y => decide (o = txtOf y) && (txtOf y).isSome) = inIt o ds
  | [], _, r => by
    cases r
    rfl
  | t :: ds, us, r => by
    rw [List.map_cons] at r
    cases r with
    | cons r1 r2 =>
      obtain ⟨k, rfl⟩ := r1
      have z := any_txt (o := o) r2
      unfold inIt at z ⊢
      rw [List.any_cons, List.any_cons, z]
      show (decide (o = some t) && true || _) = _
      rw [Bool.and_true]
theorem vals_txt : ∀ {ds : List Str} {us : List Value}, Vals (ds.map V.str) us → ∀ u ∈ us, ∃ t k, u = .str t k
  | [], _, r, u, h => by
    cases r
    cases h
  | t :: ds, _, r, u, h => by
    rw [List.map_cons] at r
    cases r with
    | cons r1 r2 =>
      rcases List.mem_cons.mp h with rfl | h
      · exact let ⟨k, e⟩ := r1; ⟨t, k, e⟩
      · exact vals_txt r2 u h
section
variable {X : Cx}
theorem op_inIt (hu : X.A.units + 64 < cLine) : OpR X (compareOp .In) (rInIt X.K) := by
  intro pins s σ H x y v u Q I rx ry h
  obtain ⟨o, d, ds, hx, rfl, hd, q⟩ := h
  obtain rfl : u = Value.ref d := ry
  obtain ⟨its, rv, pl, _⟩ := I.tuple hd
  have hu1 : X.A.in1.units < cLine := by
    show X.A.units + 1 < cLine
    omega
  refine in_tupleAt (fun y => decide (o = txtOf y) && (txtOf y).isSome) pl (fun y hy => ?_) ⟨.bl _, H, I, rfl, ?_⟩
  · obtain ⟨t, k, rfl⟩ := vals_txt rv y (by simpa using hy)
    show EqAt _ _ _ _ (decide (o = some t) && true)
    rw [Bool.and_true]
    cases hx with
    | str x =>
      obtain ⟨kx, rfl⟩ := rx
      have z := EqAt.str_str (A := X.A.in1) (s := s) t k x kx
      have e : (t == x) = decide (some x = some t) := by
        by_cases e : x = t
        · subst e
          simp
        · have : ¬ t = x := fun z => e z.symm
          simp [e, this]
      rw [e] at z
      exact z
    | int n =>
      obtain ⟨kx, rfl⟩ := rx
      exact EqAt.str_int t k n kx
    | bl b =>
      obtain rfl := rx
      exact EqAt.str_bool t k b
    | non =>
      obtain rfl := rx
      exact EqAt.str_none t k
    | lst hl =>
      obtain rfl := rx
      obtain ⟨is2, rv2, pl2, _⟩ := I.list hl
      exact EqAt.str_list t k pl2.isList hu1
    | tup ht =>
      obtain rfl := rx
      obtain ⟨is2, rv2, pl2, _⟩ := I.tuple ht
      exact EqAt.str_tuple t k pl2 hu1
    | dct hk =>
      obtain rfl := rx
      obtain ⟨_, _, vs, _, ob, es, ep, e1, e2, e3, e4⟩ := I.hok _ _ hk
      exact KDq.EqAt.str_dict t k e1 e2.1 e3 hu1
  · rw [show its.toArray.any (fun y => decide (o = txtOf y) && (txtOf y).isSome) = its.any (fun y => decide (o = txtOf y) && (txtOf y).isSome) by simp, any_txt rv]
    exact q
end
end KIa
/-! is_row of any values. -/
namespace K01
open PySem PySem.Spec PyProof.Rows L2 KG KS KIa
/-- is_row(row, domain, length), the row a tuple of any values -/
def spRowA (K : PySem.W.Frag) : Sp := fun vs H Q _ => ∃ (r d : Addr) (xs : List V) (os : List (Option Str)) (ds : List Str), vs = [.ref r, .ref d, .int (xs.length : Nat)] ∧ SqT K H r xs ∧ W.EachIs (ItK K H) xs os ∧ SqT K H d (ds.map V.str) ∧ xs.length ≤ 1000 ∧
  ∀ H', Same H H' → Q (.bl (os.all fun o => inIt o ds)) H'
theorem same_sqL {K : PySem.W.Frag} {H H' : Hp} {a : Addr} {xs : List V} (e : Same H H') (h : SqL K H a xs) : SqL K H' a xs :=
  h.elim (fun h => .inl (h.elim (fun h => .inl (e _ _ h)) fun ⟨o, h⟩ => .inr ⟨o, e _ _ h⟩)) fun h => .inr h
theorem _root_.KIa.ItK.same {K : PySem.W.Frag} {H H' : Hp} (e : Same H H') {v : V} {o : Option Str} (h : ItK K H v o) : ItK K H' v o := by
  cases h with
  | str x => exact .str x
  | int n => exact .int n
  | bl b => exact .bl b
  | non => exact .non
  | lst h => exact .lst (same_sqL e h)
  | tup h => exact .tup (same_seqT e h)
  | dct h => exact .dct (e _ _ h)
theorem tyT {K : PySem.W.Frag} {H : Hp} {a : Addr} {xs : List V} (h : SqT K H a xs) : TyX K H (.ref a) (.type "tuple") := by
  rcases h with (h | ⟨o, h⟩) | ⟨o, its, h1, h2⟩
  · exact .base (.tup h)
  · exact .fTuple h
  · obtain ⟨h2, h3, _⟩ := h2
    exact .kTuple h2 h3
theorem its_texts {K : PySem.W.Frag} {H : Hp} : ∀ xs : List Str, W.EachIs (ItK K H) (xs.map V.str) (xs.map some)
  | [] => .nil
  | x :: xs => .cons (.str x) (its_texts xs)
theorem all_texts (xs ds : List Str) : ((xs.map some).all fun o => inIt o ds) = decide (∀ x ∈ xs, x ∈ ds) := by
  rw [Bool.eq_iff_iff, List.all_eq_true, decide_eq_true_eq]
  refine ⟨fun h x hx => ?_, fun h o ho => ?_⟩
  · have z := h (some x) (List.mem_map.mpr ⟨x, hx, rfl⟩)
    rw [inIt_some] at z
    exact of_decide_eq_true z
  · obtain ⟨x, hx, rfl⟩ := List.mem_map.mp ho
    rw [inIt_some]
    exact decide_eq_true (h x hx)
section
variable {P : Program} {w : World} {K : PySem.W.Frag} {mg : Str → Option Value} {base : Heap}
theorem ok_is_rowA (B : Bs mg) (f : FnF K mg "is_row" "is_row" s_is_row) : FnOk P w K mg base CX0 1 f.a f.d ["thing", "domain", "length"] (spRowA K) := by
  refine f.F.ok sc_is_row (fun vs H Q E h => ?_) (fun cdv A outer s H vs Q E hr h => ?_)
  · obtain ⟨r, d, xs, os, ds, rfl, _⟩ := h
    rfl
  · obtain ⟨r, d, xs, os, ds, rfl, ha, hi, hd, few, q⟩ := h
    have hu64 := hr.units
    refine ⟨_, (pss_one
      (ps_ret (pe_and (pe_callB call_isi (by rfl) B.n_isinstance (by decide +kernel) (pa_cons (pv 0) (pa_cons (pe_bltn (v := .ty "tuple") rfl B.n_tuple (by decide +kernel) rfl) pa_nil)))
        (pe_and (pe_cmpR op_eq (pe_callB call_len (by rfl) B.n_len (by decide +kernel) (pa_cons (pv 0) pa_nil)) (pv 2) (nomark _))
          (pe_one (pe_callB (cr_all rfl) (by rfl) B.n_all (by decide +kernel) (pa_cons (pe_lc (own := [("value", 3)]) (g := gName 3) (by rfl) sc_is_row.nd (pi_tup (pv 0)) (blkOk_by (own := [("value", 3)]) (N := ["thing", "domain", "length", "value"]) (sc := defScope s_is_row) (by decide +kernel))
            (fun _ _ _ _ _ => (pg_name (i := 3) sc_is_row.nd rfl (Or.inl rfl))) (fun _ _ _ _ _ => pts_nil) (fun _ _ _ _ _ => (pe_cmpR (show OpR _ (compareOp .In) (rInIt K) from op_inIt hu64) (pv 3) (pv 1) (by rfl)))) pa_nil))))))), ?_⟩
    refine ⟨_, rfl, _, _, _, _, true, rfl, .ty "tuple", tyT ha, kit_ty (by decide +kernel), true, rfl, iteT ?_⟩
    refine ⟨_, rfl, .ref r, xs.length, rfl, .inr ⟨_, ha, rfl⟩, _, rfl, rfl, true, congrArg V.bl (decide_eq_true rfl), iteT ?_⟩
    refine ⟨_, rfl, r, rfl, ⟨_, ha⟩, fun D hD => ?_⟩
    refine lc_tup (K := K) (xs := xs) (fun i H' => Same H H' ∧ H' D = some (.lst ((os.take i).map fun o => V.bl (inIt o ds)))) ⟨same_new hD, upd_same⟩ (fun i H' _ p => same_seqT p.1 ha) ?_ ?_
    · rintro i y H' hy ⟨e1, eD⟩
      obtain ⟨o, ho, it⟩ := each_get hi hy
      have il : i < xs.length := (List.getElem?_eq_some_iff.mp hy).1
      refine ⟨rfl, _, rfl, _, rfl, o, d, ds, it.same e1, rfl, same_seqT e1 hd, ?_⟩
      refine ⟨_, eD, by rw [List.length_map, List.length_take, sizeLine_eq]; omega, same_put hD e1, ?_⟩
      rw [upd_same, take_next ho, List.map_append]
      rfl
    · rintro H1 ⟨e1, eD⟩
      rw [hi.length, List.take_length] at eD
      refine ⟨D, os.map fun o => inIt o ds, rfl, SqL.of (by rw [List.map_map]; exact eD), ?_⟩
      rw [List.all_map]
      exact q _ e1
end
end K01
/-! list(zip(..)). -/
namespace KZp
open PySem
theorem zip_no_len : typeLookup (.type "zip") "__len__" = pure none := by rw [typeLookup_type, builtinLookup_eq_fast]; kernel_rfl
theorem zip_no_hint : typeLookup (.type "zip") "__length_hint__" = pure none := by rw [typeLookup_type, builtinLookup_eq_fast]; kernel_rfl
section
variable {prog : Program} {w : World} {z TI TO i1 i2 : Addr} {fp1 fp2 : List Addr} {n : Nat} {P1 P2 : Nat → Value → Prop} {St1 St2 : Nat → Heap → Prop}
/-- the pairs that a list has got -/
def Got (z TO i1 i2 L : Addr) (P1 P2 : Nat → Value → Prop) (acc : Array Value) (i : Nat) (h : Heap) : Prop := acc.size = i ∧ ∀ (j : Nat) v, acc[j]? = some v → ∃ T x1 x2, v = .ref T ∧ IsTupOf2 h T x1 x2 ∧ P1 j x1 ∧ P2 j x2 ∧ T ≠ z ∧ T ≠ TO ∧ T ≠ i1 ∧ T ≠ i2 ∧ T ≠ L
theorem Got.keep {L : Addr} {acc : Array Value} {i : Nat} {h h' : Heap} (g : Got z TO i1 i2 L P1 P2 acc i h) (k : ∀ c o, c ≠ z → c ≠ TO → c ≠ i1 → c ≠ i2 → c ≠ L → h.get? c = some o → h'.get? c = some o) : Got z TO i1 i2 L P1 P2 acc i h' :=
  ⟨g.1, fun j v e => let ⟨T, x1, x2, a, b, c, d, r1, r2, r3, r4, r5⟩ := g.2 j v e; ⟨T, x1, x2, a, k _ _ r1 r2 r3 r4 r5 b, c, d, r1, r2, r3, r4, r5⟩⟩
theorem Got.push {L T : Addr} {x1 x2 : Value} {acc : Array Value} {i : Nat} {h : Heap} (g : Got z TO i1 i2 L P1 P2 acc i h) (t : IsTupOf2 h T x1 x2) (p1 : P1 i x1) (p2 : P2 i x2) (r1 : T ≠ z) (r2 : T ≠ TO) (r3 : T ≠ i1) (r4 : T ≠ i2) (r5 : T ≠ L) : Got z TO i1 i2 L P1 P2 (acc.push (.ref T)) (i + 1) h := by
  refine ⟨by rw [Array.size_push, g.1], fun j v e => ?_⟩
  rw [Array.getElem?_push] at e
  split at e
  · rename_i q
    cases e
    rw [q, g.1]
    exact ⟨T, x1, x2, rfl, t, p1, p2, r1, r2, r3, r4, r5⟩
  · exact g.2 j v e
/-- apart from a list -/
structure Apart (z TI TO : Addr) (fp1 fp2 : List Addr) (L : Addr) : Prop where
  z : z ≠ L
  TI : TI ≠ L
  TO : TO ≠ L
  f1 : ∀ b ∈ fp1, b ≠ L
  f2 : ∀ b ∈ fp2, b ≠ L
theorem ZSt.keep {A : Around} {L : Addr} {i : Nat} {h h' : Heap} (D1 : Draws prog w A i1 fp1 n P1 St1) (D2 : Draws prog w A i2 fp2 n P2 St2) (ap : Apart z TI TO fp1 fp2 L) (st : ZSt z TI TO i1 i2 St1 St2 (fun T => T ≠ L) i h) (k : ∀ b o, b ≠ L → h.get? b = some o → h'.get? b = some o) :
    ZSt z TI TO i1 i2 St1 St2 (fun T => T ≠ L) i h' := by
  obtain ⟨hTI, s1, s2, hz⟩ := st
  refine ⟨k _ _ ap.TI hTI, D1.frame i h h' s1 fun b hb o e => k b o (ap.f1 b hb) e, D2.frame i h h' s2 fun b hb o e => k b o (ap.f2 b hb) e, ?_⟩
  rcases hz with ⟨hz, a, b, hTO⟩ | ⟨T, f, oT, hz, hT, r1, r2, r3, r4⟩
  · exact .inl ⟨k _ _ ap.z hz, a, b, k _ _ ap.TO hTO⟩
  · exact .inr ⟨T, f, oT, k _ _ ap.z hz, k _ _ r4 hT, r1, r2, r3, r4⟩
abbrev lstO (acc : Array Value) (c : Nat) : Obj := { cls := .type "list", dict := none, data := .seq acc c, slots := #[] }
theorem zip_loop {A : Around} {R : Result → Shared → Prop} {L : Addr} {res : Value} (hn : n ≤ sizeLine) (S : ZipSep2 z TI TO i1 i2 fp1 fp2) (D1 : ∀ A : Around, A.handled = none → Draws prog w A i1 fp1 n P1 St1) (D2 : ∀ A : Around, A.handled = none → Draws prog w A i2 fp2 n P2 St2) (hA : A.handled = none) (ap : Apart z TI TO fp1 fp2 L) :
    ∀ (k i : Nat) (s : Shared) (acc : Array Value) (c : Nat), n - i = k → i ≤ n → ZSt z TI TO i1 i2 St1 St2 (fun T => T ≠ L) i s.heap → TO < s.heap.objs.size → s.heap.get? L = some (lstO acc c) → Got z TO i1 i2 L P1 P2 acc i s.heap →
    (∀ h' tk acc' c', (∀ b o, b ≠ z → b ≠ TO → b ≠ i1 → b ≠ i2 → b ≠ L → s.heap.get? b = some o → h'.get? b = some o) → h'.get? L = some (lstO acc' c') → Got z TO i1 i2 L P1 P2 acc' n h' → R (.ok (.ret res)) { s with heap := h', toks := tk }) →
    codeAny (model prog w) A (.builtin "list.extend.loop" ⟨[.ref L, .ref z, res], []⟩) R s := by
  intro k
  induction k with
  | zero =>
    intro i s acc c hk hi st _ hL g hR
    obtain rfl : i = n := by omega
    refine codeAny_builtin F.entry_extend_loop ?_
    rw [Around.under_plainId F.plain_extend_loop _]
    refine wpAny_bind (m := pyNext (.ref z)) (pn_end S (D1 _ hA) (D2 _ hA) st fun h' tk kp => wpAny_pure ?_)
    have e1 := ap.f1 i1 S.mem1
    have e2 := ap.f2 i2 S.mem2
    exact hR h' tk acc c (fun b o a1 a2 a3 a4 _ e => kp b o a1 a2 a3 a4 e) (kp _ _ ap.z.symm ap.TO.symm e1.symm e2.symm hL) (g.keep fun b o a1 a2 a3 a4 _ e => kp b o a1 a2 a3 a4 e)
  | succ k ih =>
    intro i s acc c hk hi st hTO hL g hR
    have lt : i < n := by omega
    have e1 := ap.f1 i1 S.mem1
    have e2 := ap.f2 i2 S.mem2
    have lL := Heap.lt_size hL
    refine codeAny_builtin F.entry_extend_loop ?_
    rw [Around.under_plainId F.plain_extend_loop _]
    obtain ⟨hp, gg, dr, t0, os⟩ := s
    have live1 := (D1 A hA).live _ _ st.2.1
    have live2 := (D2 A hA).live _ _ st.2.2.1
    have zin : ∃ o, hp.get? z = some o := by
      rcases st.2.2.2 with ⟨hz, _⟩ | ⟨_, _, _, hz, _⟩
      · exact ⟨_, hz⟩
      · exact ⟨_, hz⟩
    have m0 : hp.objs.size ≠ z := let ⟨_, e⟩ := zin; Nat.ne_of_gt (Heap.lt_size e)
    have m1 : hp.objs.size ≠ i1 := let ⟨_, e⟩ := live1; Nat.ne_of_gt (Heap.lt_size e)
    have m2 : hp.objs.size ≠ i2 := let ⟨_, e⟩ := live2; Nat.ne_of_gt (Heap.lt_size e)
    have m3 : hp.objs.size ≠ TO := Nat.ne_of_gt hTO
    have m4 : hp.objs.size ≠ L := Nat.ne_of_gt lL
    refine wpAny_bind (m := pyNext (.ref z)) (pn_item (s := ⟨hp, gg, dr, t0, os⟩) S (D1 _ hA) (D2 _ hA) st lt lt m4 fun x1 x2 h' tk p1 p2 pr st' kp => ?_)
    have hL' : h'.get? L = some (lstO acc c) := kp _ _ ap.z.symm ap.TO.symm e1.symm e2.symm hL
    have g' : Got z TO i1 i2 L P1 P2 (acc.push (.ref hp.objs.size)) (i + 1) h' := (g.keep fun b o a1 a2 a3 a4 _ e => kp b o a1 a2 a3 a4 e).push pr p1 p2 m0 m3 m1 m2 m4
    refine wpAny_bind (m := updateSeq L (·.push (.ref hp.objs.size))) (wpAny_updateSeq hL' rfl (wpAny_pure ⟨plainId_quiet F.plain_extend_loop _, ih (i + 1) _ (acc.push (.ref hp.objs.size)) _ (by omega) lt (st'.keep (D1 A hA) (D2 A hA) ap fun b o hb e => (Heap.get?_update_other _ _ (Ne.symm hb)).trans e) ?_ (Heap.get?_update_self _ hL' rfl)
      (g'.keep fun b o _ _ _ _ a e => (Heap.get?_update_other _ _ (Ne.symm a)).trans e) fun h2 tk2 acc' c' kp2 hL2 g2 => hR h2 tk2 acc' c' (fun b o a1 a2 a3 a4 a5 e => kp2 b o a1 a2 a3 a4 a5 ((Heap.get?_update_other _ _ (Ne.symm a5)).trans (kp b o a1 a2 a3 a4 e))) hL2 g2⟩) ?_ ?_)
    · show TO < (h'.update L _).objs.size
      rw [(Heap.SameBut.update h' L _).1]
      exact Nat.lt_trans hTO (Heap.lt_size pr)
    · rw [g.1]
      omega
    · show (acc.push (.ref hp.objs.size)).size ≤ sizeLine + 1
      rw [Array.size_push, g.1]
      omega
theorem zip_extend {A : Around} {R : Result → Shared → Prop} {L : Addr} {res : Value} {s : Shared} {c : Nat} (hn : n ≤ sizeLine) (S : ZipSep2 z TI TO i1 i2 fp1 fp2) (D1 : ∀ A : Around, A.handled = none → Draws prog w A i1 fp1 n P1 St1) (D2 : ∀ A : Around, A.handled = none → Draws prog w A i2 fp2 n P2 St2) (hA : A.handled = none) (ap : Apart z TI TO fp1 fp2 L)
    (hz : IsZip s.heap z TI TO .none) (st : ZSt z TI TO i1 i2 St1 St2 (fun T => T ≠ L) 0 s.heap) (hTO : TO < s.heap.objs.size) (hL : s.heap.get? L = some (lstO #[] c))
    (hR : ∀ h' tk acc' c', (∀ b o, b ≠ z → b ≠ TO → b ≠ i1 → b ≠ i2 → b ≠ L → s.heap.get? b = some o → h'.get? b = some o) → h'.get? L = some (lstO acc' c') → Got z TO i1 i2 L P1 P2 acc' n h' → R (.ok (.ret res)) { s with heap := h', toks := tk }) :
    wpAny (model prog w) A.in1 (Builtin.List.listExtendWith (.ref L) (.ref z) res) (fun fin s' => match fin with | .done f => R (.ok f) s' | .again c' => c'.quiet = true ∧ codeAny (model prog w) A c' R s') (fun e s' => R (.error e) s') s := by
  have ty : s.TypeIs (.ref z) "zip" := ⟨_, hz, rfl⟩
  have differ : Builtin.List.listSameRef (.ref L) (.ref z) = false := by simp [Builtin.List.listSameRef, ap.z.symm]
  unfold Builtin.List.listExtendWith
  refine wpAny_bind (wpAny_typeOf ty ?_)
  simp only [differ, show (Value.type "zip" == Value.type "list") = false by decide, show (Value.type "zip" == Value.type "tuple") = false by decide, Bool.or_false, Bool.false_eq_true, if_false]
  refine wpAny_bind (wpAny_pyIter_zip hz (wpAny_bind (wpAny_holding ?_)))
  unfold Builtin.List.listLengthHint
  refine wpAny_bind (wpAny_specialOf ty zip_no_len (wpAny_bind (m := specialOf (Value.ref z) (Str.ofString "__length_hint__")) (wpAny_specialOf ty zip_no_hint (wpAny_pure ?_))))
  show wpAny _ A.in1 (rule "list.extend.makes-room" >>= fun _ => Builtin.List.listTouch (.ref L) >>= fun _ => again (.builtin "list.extend.loop" ⟨[.ref L, .ref z, res], []⟩)) _ _ _
  have hL2 := Heap.get?_update_self (Obj.mapSeq (·.push Value.none)) hL rfl
  have hL3 := Heap.get?_update_self (Obj.mapSeq (·.pop)) hL2 rfl
  have oth : ∀ b o, b ≠ L → s.heap.get? b = some o → ((s.heap.update L (Obj.mapSeq (·.push Value.none))).update L (Obj.mapSeq (·.pop))).get? b = some o := fun b o hb e => (Heap.get?_update_other _ _ (Ne.symm hb)).trans ((Heap.get?_update_other _ _ (Ne.symm hb)).trans e)
  refine wpAny_bind (wpAny_rule (wpAny_bind (m := updateSeq L (·.push .none) >>= fun _ => updateSeq L (·.pop)) (wpAny_bind (wpAny_updateSeq hL rfl (wpAny_updateSeq (hz := by seq_fits) hL2 rfl ?_)))))
  refine wpAny_pure ⟨plainId_quiet F.plain_extend_loop _, zip_loop (R := R) hn S D1 D2 hA ap n 0 _ #[] _ rfl (Nat.zero_le _) (st.keep (D1 A hA) (D2 A hA) ap oth) ?_ hL3 ⟨rfl, fun j v e => by simp at e⟩ fun h' tk acc' c' k a b => hR h' tk acc' c' (fun b o a1 a2 a3 a4 a5 e => k b o a1 a2 a3 a4 a5 (oth b o a5 e)) a b⟩
  show TO < ((s.heap.update L _).update L _).objs.size
  rw [(Heap.SameBut.update _ L _).1, (Heap.SameBut.update _ L _).1]
  exact hTO
/-- list(z), z a zip just made -/
theorem call_list_zip {A : Around} {E : Value → Shared → Prop} {s : Shared} {Q : Value → Shared → Prop} (hn : n ≤ sizeLine) (S : ZipSep2 z TI TO i1 i2 fp1 fp2) (D1 : ∀ A : Around, A.handled = none → Draws prog w A i1 fp1 n P1 St1) (D2 : ∀ A : Around, A.handled = none → Draws prog w A i2 fp2 n P2 St2) (hA : A.handled = none)
    (hz : IsZip s.heap z TI TO .none) (hTI : IsTupOf2 s.heap TI (.ref i1) (.ref i2)) (hTO : ∃ a b, IsTupOf2 s.heap TO a b) (s1 : St1 0 s.heap) (s2 : St2 0 s.heap) (f1 : ∀ b ∈ fp1, b < s.heap.objs.size) (f2 : ∀ b ∈ fp2, b < s.heap.objs.size)
    (hQ : ∀ h' tk acc c, (∀ b o, b ≠ z → b ≠ TO → b ≠ i1 → b ≠ i2 → s.heap.get? b = some o → h'.get? b = some o) → h'.get? s.heap.objs.size = some (lstO acc c) → Got z TO i1 i2 s.heap.objs.size P1 P2 acc n h' → Q (.ref s.heap.objs.size) { s with heap := h', toks := tk }) :
    wpAny (model prog w) A (call (.type "list") [.ref z]) Q E s := by
  obtain ⟨a, b, hTO⟩ := hTO
  have ap : Apart z TI TO fp1 fp2 s.heap.objs.size := ⟨Nat.ne_of_lt (Heap.lt_size hz), Nat.ne_of_lt (Heap.lt_size hTI), Nat.ne_of_lt (Heap.lt_size hTO), fun b hb => Nat.ne_of_lt (f1 b hb), fun b hb => Nat.ne_of_lt (f2 b hb)⟩
  have up : ∀ b o, s.heap.get? b = some o → (s.heap.push { cls := .type "list", data := .seq #[] }).get? b = some o := fun b o e => Heap.get?_push_of_some _ e
  have st : ZSt z TI TO i1 i2 St1 St2 (fun T => T ≠ s.heap.objs.size) 0 (s.heap.push { cls := .type "list", data := .seq #[] }) :=
    ⟨up _ _ hTI, (D1 A hA).frame 0 _ _ s1 fun b _ o e => up b o e, (D2 A hA).frame 0 _ _ s2 fun b _ o e => up b o e, .inl ⟨up _ _ hz, a, b, up _ _ hTO⟩⟩
  have hL : (s.heap.push { cls := .type "list", data := .seq #[] }).get? s.heap.objs.size = some (lstO #[] 0) := Heap.get?_push_size _ rfl
  refine callType_codes (Q₁ := fun obj t => obj = .ref s.heap.objs.size ∧ t = { s with heap := s.heap.push { cls := .type "list", data := .seq #[] } }) F.called_list (F.typeCall_list_1 _) F.entry_list_init (code_list_new _ ⟨rfl, rfl⟩) fun obj t ht => ?_
  obtain ⟨rfl, rfl⟩ := ht
  refine ⟨⟨_, hL, rfl⟩, F.args_list_init_2 _ _, ?_⟩
  show wpAny _ A.in1.in1 (do let old ← Builtin.List.listItems (.ref s.heap.objs.size); Builtin.List.listUpdate (.ref s.heap.objs.size) (fun _ => #[]); letGo old.toList.reverse; Builtin.List.listExtendWith (.ref s.heap.objs.size) (.ref z) .none) _ _ _
  unfold Builtin.List.listItems
  refine wpAny_bind (wpAny_bind (m := seqItems? (.ref s.heap.objs.size)) (wpAny_seqItems hL rfl (wpAny_pure ?_)))
  have hL2 := Heap.get?_update_self (Obj.mapSeq (fun _ => (#[] : Array Value))) hL rfl
  have oth : ∀ b o, b ≠ s.heap.objs.size → (s.heap.push { cls := .type "list", data := .seq #[] }).get? b = some o → ((s.heap.push { cls := .type "list", data := .seq #[] }).update s.heap.objs.size (Obj.mapSeq (fun _ => (#[] : Array Value)))).get? b = some o := fun b o hb e => (Heap.get?_update_other _ _ (Ne.symm hb)).trans e
  refine wpAny_bind (m := updateSeq s.heap.objs.size (fun _ => #[])) (wpAny_updateSeq hL rfl (wpAny_bind (m := letGo (#[] : Array Value).toList.reverse) (wpAny_letGo ?_)))
  refine zip_extend (A := A.in1) hn S D1 D2 hA ap (oth _ _ ap.z (up _ _ hz)) (st.keep (D1 A hA) (D2 A hA) ap oth) ?_ hL2 fun h' tk acc' c' k a b => ⟨rfl, hQ h' tk acc' c' (fun b o a1 a2 a3 a4 e => k b o a1 a2 a3 a4 (Nat.ne_of_lt (Heap.lt_size e)) (oth b o (Nat.ne_of_lt (Heap.lt_size e)) (up b o e))) a b⟩
  show TO < ((s.heap.push _).update _ _).objs.size
  rw [(Heap.SameBut.update _ _ _).1]
  exact Heap.lt_size (up _ _ hTO)
end
end KZp
/-! dict(list(zip(l, u))), l a list of rows of texts, u a tuple. -/
namespace KDz
open PySem PySem.Spec PyProof.Rows L2
def tDictLZ (K : PySem.W.Frag) (t1 t2 : TE) : TE := fun σ H Q => t1 σ H fun x H1 => t2 σ H1 fun y H2 => ∃ (a b : Addr) (ks : List (Addr × List Str)) (vs : List V), x = .ref a ∧ y = .ref b ∧ SqL K H2 a (ks.map fun p => V.ref p.1) ∧ SqT K H2 b vs ∧
  (∀ p ∈ ks, H2 p.1 = some (.tup (p.2.map V.str))) ∧ ks.length = vs.length ∧ (ks.map (·.2)).Nodup ∧ ks.length ≤ 100000 ∧ ∀ d, H2 d = none → Q (.ref d) (upd H2 d (.dT (dtOf ks vs)))
/-- what is asked of the two -/
def ZipInL (K : PySem.W.Frag) (Q : VK) : List V → Hp → Prop
  | [x, y], H2 => ∃ (a b : Addr) (ks : List (Addr × List Str)) (vs : List V), x = .ref a ∧ y = .ref b ∧ SqL K H2 a (ks.map fun p => V.ref p.1) ∧ SqT K H2 b vs ∧
    (∀ p ∈ ks, H2 p.1 = some (.tup (p.2.map V.str))) ∧ ks.length = vs.length ∧ (ks.map (·.2)).Nodup ∧ ks.length ≤ 100000 ∧ ∀ d, H2 d = none → Q (.ref d) (upd H2 d (.dT (dtOf ks vs)))
  | _, _ => False
/-- the address of the j-th item -/
def refAt (acc : Array Value) (j : Nat) : Addr := match acc[j]? with
  | some (.ref T) => T
  | _ => 0
theorem refAt_eq {acc : Array Value} {j : Nat} {T : Addr} (h : acc[j]? = some (.ref T)) : refAt acc j = T := by
  unfold refAt
  rw [h]
section
variable {X : Cx} {e1 e2 : Expr} {t1 t2 : TE} {p p0 p1 p2 p3 pos : Pos}
theorem pe_dictLZ (ha : PA X [e1, e2] (tCons t1 (tCons t2 tNil))) (gd : Gl X "dict") (md : X.mg "dict" = none) (gl : Gl X "list") (ml : X.mg "list" = none) (gz : Gl X "zip") (mz : X.mg "zip" = none) (hr : Room 3 X.A)
    (he00 : starEach [Expr.Call (.Name "list" p0) [.Call (.Name "zip" p1) [e1, e2] [] p2] [] p3] X.env = (false, eval (.Call (.Name "list" p0) [.Call (.Name "zip" p1) [e1, e2] [] p2] [] p3) X.env) :: starEach [] X.env := by rfl)
    (he0 : starEach [Expr.Call (.Name "zip" p1) [e1, e2] [] p2] X.env = (false, eval (.Call (.Name "zip" p1) [e1, e2] [] p2) X.env) :: starEach [] X.env := by rfl)
    (he : starEach [e1, e2] X.env = (false, eval e1 X.env) :: starEach [e2] X.env := by rfl) (hpl : (backTo p2 (starEach [e2] X.env)).any (·.1) = false := by rfl) :
    PE X (.Call (.Name "dict" p) [.Call (.Name "list" p0) [.Call (.Name "zip" p1) [e1, e2] [] p2] [] p3] [] pos) (tDictLZ X.K t1 t2) := by
  refine ⟨fun pins s σ H Q I h => ?_⟩
  have h0 : (tCons t1 (tCons t2 tNil)) σ H (ZipInL X.K Q) := h
  refine wpAny_Call_Name_kw (ld_blt I gd md rfl ?_ (by decide) (by decide))
  refine PyProof.Rows.callWith_type1 ?_ he00 rfl
  rw [he00]
  refine Calls.spliced_cons (wpAny_Call_Name_kw (ld_blt I gl ml rfl ?_ (by decide) (by decide)))
  refine PyProof.Rows.callWith_type1 ?_ he0 rfl
  rw [he0]
  refine Calls.spliced_cons (wpAny_Call_Name_kw (ld_blt I gz mz rfl ?_ (by decide) (by decide)))
  refine PyProof.Rows.callWith_type1 (thn (ha.run p2 pins s σ H _ I h0) fun us s1 ⟨vs, H1, I1, r1, q1⟩ => ?_) he hpl
  obtain ⟨x, y, rfl⟩ : ∃ x y, vs = [x, y] := by
    match vs, q1 with
    | [x, y], _ => exact ⟨x, y, rfl⟩
  obtain ⟨a, b, ks, vs, rfl, rfl, sa, sb, hk, len, nd, few, q⟩ := q1
  obtain ⟨u, v, rfl, ru, rv⟩ := vals2 r1
  obtain rfl : u = Value.ref a := ru
  obtain rfl : v = Value.ref b := rv
  obtain ⟨ia, va, pa, _⟩ := I1.list sa
  obtain ⟨ib, vb, pb, _⟩ := I1.tuple sb
  have pa := pa.isList
  have la := va.length
  have lb := vb.length
  rw [List.length_map] at la
  have lta : a < s1.heap.objs.size := let ⟨_, e, _⟩ := pa; Heap.lt_size e
  have ltb : b < s1.heap.objs.size := let ⟨_, e, _⟩ := pb; Heap.lt_size e
  refine zip_begins2 (begins_list a ia.toArray) (begins_tuple b ib.toArray) pa pb fun h' z1 z2 z3 z4 z5 _ kp => ?_
  refine Calls.spliced_nil ?_
  have S := zip_sep2 (N := s1.heap.objs.size) (fp1 := [a]) (fp2 := [b]) (by simpa using lta) (by simpa using ltb)
  have hd : X.A.handled = none := hr.hd
  have lu : ks.length = ib.length := by omega
  have old : ∀ {c : Addr} {o : Obj}, s1.heap.get? c = some o → c < s1.heap.objs.size := fun e => Heap.lt_size e
  have off : ∀ {c : Addr}, c < s1.heap.objs.size → c ≠ s1.heap.objs.size + 4 ∧ c ≠ s1.heap.objs.size + 3 ∧ c ≠ s1.heap.objs.size ∧ c ≠ s1.heap.objs.size + 1 := fun {c} l =>
    ⟨Nat.ne_of_lt (Nat.lt_of_lt_of_le l (Nat.le_add_right _ _)), Nat.ne_of_lt (Nat.lt_of_lt_of_le l (Nat.le_add_right _ _)), Nat.ne_of_lt l, Nat.ne_of_lt (Nat.lt_of_lt_of_le l (Nat.le_add_right _ _))⟩
  have sz : s1.heap.objs.size ≤ h'.objs.size := Nat.le_of_lt (Nat.lt_of_le_of_lt (Nat.le_add_right _ 4) (Heap.lt_size z1))
  have n16 : ia.toArray.size ≤ sizeLine := by
    rw [List.size_toArray, sizeLine_eq]
    omega
  refine KZp.call_list_zip (n := ia.toArray.size) (St1 := fun i h => h.IsListIter s1.heap.objs.size a i ∧ h.IsList a ia.toArray) (St2 := fun i h => h.IsTupleIter (s1.heap.objs.size + 1) b i ∧ h.IsTuple b ib.toArray) (P1 := fun i v => ia.toArray[i]? = some v) (P2 := fun i v => ib.toArray[i]? = some v) n16 S (fun A hA => Draws.list hA s1.heap.objs.size a (Nat.ne_of_lt lta) ia.toArray)
    (fun A hA => by
      have D := Draws.tuple (prog := X.prog) (w := X.w) hA (s1.heap.objs.size + 1) b (Nat.ne_of_lt (Nat.lt_succ_of_lt ltb)) ib.toArray
      rw [show ib.toArray.size = ia.toArray.size by rw [List.size_toArray, List.size_toArray]; omega] at D
      exact D)
    hd z1 z2 ⟨_, _, z3⟩ ⟨⟨_, z4, rfl, rfl⟩, pa.at fun o e => kp _ _ e⟩ ⟨⟨_, z5, rfl, rfl⟩, pb.keeps kp⟩
    (fun c hc => by
      rcases List.mem_cons.mp hc with rfl | hc
      · exact Heap.lt_size z4
      · rw [List.mem_singleton.mp hc]
        exact Nat.lt_of_lt_of_le lta sz)
    (fun c hc => by
      rcases List.mem_cons.mp hc with rfl | hc
      · exact Heap.lt_size z5
      · rw [List.mem_singleton.mp hc]
        exact Nat.lt_of_lt_of_le ltb sz)
    fun g tk acc c kg gL got => ?_
  refine Calls.spliced_nil ?_
  have kept0 : ∀ c o, s1.heap.get? c = some o → g.get? c = some o := fun c o e => by
    obtain ⟨o1, o2, o3, o4⟩ := off (old e)
    exact kg c o o1 o2 o3 o4 (kp c o e)
  have keys : ∀ x ∈ rawOf ks ib, ∃ p ∈ ks, x.1 = entK p.2 ∧ x.2.1 = p.1 := fun x hx => by
    obtain ⟨r, hr, rfl⟩ := List.mem_map.mp hx
    exact ⟨r.1, (List.of_mem_zip hr).1, rfl, rfl⟩
  have key : ∀ p ∈ ks, (tupleKind (mixKind X.prog X.w)).is s1.heap (entK p.2) p.1 := fun p hp => key_of I1.hok (by rw [entK_kV]; exact hk p hp)
  have keyLt : ∀ p ∈ ks, p.1 < s1.heap.objs.size := fun p hp => let ⟨_, _, _, e, _⟩ := key p hp; old e
  have sg : s1.heap.objs.size ≤ g.objs.size := Nat.le_trans sz (Nat.le_of_lt (Heap.lt_size gL))
  have zl : (ia.zip ib).length = ia.length := by
    rw [List.length_zip]
    omega
  refine call_dict_pairsH (knd := tupleKind (mixKind X.prog X.w)) (ps := rawOf ks ib) (PairArg.list (prog := X.prog) (w := X.w) h'.objs.size acc (refAt acc) (ia.zip ib)) hd ?_ ⟨⟨_, c, gL, rfl, rfl, rfl⟩, ?_, fun j k v e => ?_⟩ ⟨?_, fun i k v e => ?_⟩ (fun g2 k2 x hx => ?_) ?_ fun g2 tk2 hg k2 => ?_
  · exact hr.in1.in1.units0
  · rw [got.1, zl, List.size_toArray]
  · obtain ⟨e1, e2⟩ := List.getElem?_zip_eq_some.mp e
    have lj : j < acc.size := by
      rw [got.1, List.size_toArray]
      exact (List.getElem?_eq_some_iff.mp e1).1
    obtain ⟨T, x1, x2, ev, tp, q1, q2, _⟩ := got.2 j _ (Array.getElem?_eq_getElem lj)
    have ev : acc[j]? = some (.ref T) := by rw [Array.getElem?_eq_getElem lj, ev]
    have g1 : ia[j]? = some x1 := by simpa using q1
    have g2 : ib[j]? = some x2 := by simpa using q2
    rw [e1] at g1
    rw [e2] at g2
    cases g1
    cases g2
    rw [refAt_eq ev]
    exact ⟨ev, .inl ⟨_, tp, rfl, _, rfl⟩⟩
  · rw [rawOf_len lu, zl]
    omega
  · obtain ⟨f1, f2⟩ := List.getElem?_zip_eq_some.mp e
    have f1 : ia[i]? = some k := f1
    have f2 : ib[i]? = some v := f2
    have li : i < ks.length := by
      have := (List.getElem?_eq_some_iff.mp f1).1
      omega
    have g0 : ks[i]? = some ks[i] := List.getElem?_eq_getElem li
    obtain ⟨u, hu, ru⟩ := va.get (show (ks.map fun p => V.ref p.1)[i]? = some (V.ref ks[i].1) by rw [List.getElem?_map, g0]; rfl)
    rw [f1] at hu
    obtain rfl : k = u := Option.some.inj hu
    refine ⟨entK ks[i].2, ks[i].1, ?_, ru⟩
    show ((ks.zip ib).map fun q => (entK q.1.2, q.1.1, q.2))[i]? = _
    rw [List.getElem?_map, (List.getElem?_zip_eq_some (z := (ks[i], v))).mpr ⟨g0, f2⟩]
    rfl
  · obtain ⟨p, hp, e1, e2⟩ := keys x hx
    rw [e1, e2]
    have lp := keyLt p hp
    exact keep_key (fun o e => k2 _ _ (Nat.ne_of_lt (Nat.lt_of_lt_of_le lp sg)) (by simp) (kept0 _ _ e)) (key p hp)
  · rw [zl, sizeLine_eq]
    omega
  · have ndk : ((rawOf ks ib).map (·.1)).Nodup := by
      rw [rawOf_keys lu, show (ks.map fun p => entK p.2) = (ks.map (·.2)).map entK by rw [List.map_map]; rfl]
      exact List.Pairwise.map _ (fun _ _ ne z => ne (entK_inj z)) nd
    rw [storedAllH_nil_of_nodup _ ndk] at hg
    obtain ⟨o, es, ep, g1, g2', g3, g4, _, g5⟩ := hg
    have kept : ∀ c o, s1.heap.get? c = some o → g2.get? c = some o := fun c o e => k2 c o (by simp) (kept0 c o e)
    have fresh : H1 g.objs.size = none := I1.hok.fresh sg
    refine ⟨.ref g.objs.size, upd H1 g.objs.size (.dT (dtOf ks vs)), I1.laid (t' := tk2) kept sg ?_, rfl, q _ fresh⟩
    refine ⟨?_, beq_eq_false_iff_ne.mpr (Nat.ne_of_gt (Nat.lt_of_lt_of_le I1.big sg)), rawOf ks ib, kt_of (by omega) vb fun p hp => ?_, o, es, ep, g1, g2', g3, g4, g5⟩
    · unfold dtOf
      rw [List.length_zip, List.length_map, sizeLine_eq]
      omega
    · rw [upd_ne (Nat.ne_of_lt (Nat.lt_of_lt_of_le (keyLt p hp) sg))]
      exact hk p hp
end
end KDz
/-! dict(pairs), the keys rows of texts. -/
namespace KDz
open PySem PySem.Spec PyProof.Rows L2
/-- pairs (row, value) -/
inductive PairsT (K : PySem.W.Frag) (H : Hp) : List Addr → List (Addr × List Str) → List V → Prop
  | nil : PairsT K H [] [] []
  | cons {p : Addr} {k : Addr × List Str} {v : V} {ps : List Addr} {ks : List (Addr × List Str)} {vs : List V} : SqT K H p [.ref k.1, v] → PairsT K H ps ks vs → PairsT K H (p :: ps) (k :: ks) (v :: vs)
theorem PairsT.len {K : PySem.W.Frag} {H : Hp} : ∀ {ps : List Addr} {ks : List (Addr × List Str)} {vs : List V}, PairsT K H ps ks vs → ps.length = ks.length ∧ ks.length = vs.length
  | _, _, _, .nil => ⟨rfl, rfl⟩
  | _, _, _, .cons _ t => by
    obtain ⟨a, b⟩ := t.len
    exact ⟨congrArg (· + 1) a, congrArg (· + 1) b⟩
theorem PairsT.snoc {K : PySem.W.Frag} {H : Hp} {p : Addr} {k : Addr × List Str} {v : V} (h : SqT K H p [.ref k.1, v]) : ∀ {ps : List Addr} {ks : List (Addr × List Str)} {vs : List V}, PairsT K H ps ks vs → PairsT K H (ps ++ [p]) (ks ++ [k]) (vs ++ [v])
  | _, _, _, .nil => .cons h .nil
  | _, _, _, .cons a t => .cons a (t.snoc h)
section
variable {X : Cx} {pins : List (Addr × Obj)} {σ : L2.St} {H : Hp} {s : Shared}
theorem PairsT.vals (I : Inv X pins σ H s) : ∀ {ps : List Addr} {ks : List (Addr × List Str)} {vs : List V}, PairsT X.K H ps ks vs → ∃ us : List Value, Vals vs us ∧ ∀ (i : Nat) (p : Addr), ps[i]? = some p → ∃ (k : Addr × List Str) (u : Value), ks[i]? = some k ∧ us[i]? = some u ∧ IsTup s.heap p #[.ref k.1, u]
  | _, _, _, .nil => ⟨[], .nil, fun i p e => by simp at e⟩
  | _, _, _, .cons (k := k) (v := v) h t => by
    obtain ⟨us, r, q⟩ := t.vals I
    obtain ⟨its, rv, pl, _⟩ := I.tuple h
    obtain ⟨u1, u2, rfl, e1, e2⟩ := vals2 rv
    obtain rfl : u1 = Value.ref k.1 := e1
    refine ⟨u2 :: us, .cons e2 r, fun i p e => ?_⟩
    cases i with
    | zero =>
      cases e
      exact ⟨k, u2, rfl, rfl, pl⟩
    | succ i => exact q i p e
/-- dict(pairs) -/
theorem call_dictPT (hd : X.A.handled = none) (hr : Room 3 X.A) : CallR X (.type "dict") (fun xs H Q => ∃ (a : Addr) (ps : List Addr) (ks : List (Addr × List Str)) (vs : List V), xs = [.ref a] ∧ SqL X.K H a (ps.map V.ref) ∧ PairsT X.K H ps ks vs ∧
    (∀ p ∈ ks, H p.1 = some (.tup (p.2.map V.str))) ∧ (ks.map (·.2)).Nodup ∧ ks.length ≤ 100000 ∧ ∀ d, H d = none → Q (.ref d) (upd H d (.dT (dtOf ks vs)))) := by
  intro pins s σ H xs us0 Q I r h
  obtain ⟨a, ps, ks, vs, rfl, hl, pt, hk, nd, few, q⟩ := h
  obtain ⟨u0, rfl, ru⟩ := vals1 r
  obtain rfl : u0 = Value.ref a := ru
  obtain ⟨l1, l2⟩ := pt.len
  obtain ⟨us, vu, pq⟩ := pt.vals I
  have l3 := vu.length
  obtain ⟨its, rv, pl, _⟩ := I.list hl
  have ei := refs_at rv
  subst ei
  obtain ⟨o, n, ho, hc, hdc, hdat⟩ := pl
  have lu : ks.length = us.length := by omega
  have old : ∀ {c : Addr} {o : Obj}, s.heap.get? c = some o → c < s.heap.objs.size := fun e => Heap.lt_size e
  have keys : ∀ x ∈ rawOf ks us, ∃ p ∈ ks, x.1 = entK p.2 ∧ x.2.1 = p.1 := fun x hx => by
    obtain ⟨r, hr, rfl⟩ := List.mem_map.mp hx
    exact ⟨r.1, (List.of_mem_zip hr).1, rfl, rfl⟩
  have key : ∀ p ∈ ks, (tupleKind (mixKind X.prog X.w)).is s.heap (entK p.2) p.1 := fun p hp => key_of I.hok (by rw [entK_kV]; exact hk p hp)
  have keyLt : ∀ p ∈ ks, p.1 < s.heap.objs.size := fun p hp => let ⟨_, _, _, e, _⟩ := key p hp; old e
  have zl : ((ks.map fun p => Value.ref p.1).zip us).length = ks.length := by
    rw [List.length_zip, List.length_map]
    omega
  refine call_dict_pairsH (knd := tupleKind (mixKind X.prog X.w)) (ps := rawOf ks us) (PairArg.list (prog := X.prog) (w := X.w) a (ps.map Value.ref).toArray (fun j => ps.getD j 0) ((ks.map fun p => Value.ref p.1).zip us)) hd hr.in1.in1.units0 ⟨⟨o, n, ho, hc, hdc, hdat⟩, ?_, fun j k v e => ?_⟩ ⟨?_, fun i k v e => ?_⟩ (fun g kg x hx => ?_) ?_ fun g tk hg kg => ?_
  · rw [List.size_toArray, List.length_map, zl]
    omega
  · obtain ⟨e1, e2⟩ := List.getElem?_zip_eq_some.mp e
    have e1 : (ks.map fun p => Value.ref p.1)[j]? = some k := e1
    have e2 : us[j]? = some v := e2
    have lj : j < ps.length := by
      have := (List.getElem?_eq_some_iff.mp e2).1
      omega
    have gp : ps[j]? = some ps[j] := List.getElem?_eq_getElem lj
    obtain ⟨k', u', g1, g2, tp⟩ := pq j _ gp
    rw [List.getElem?_map, g1] at e1
    rw [e2] at g2
    cases e1
    cases g2
    have gd : ps.getD j 0 = ps[j] := by rw [List.getD_eq_getElem?_getD, gp]; rfl
    refine ⟨?_, .inl ?_⟩
    · show (ps.map Value.ref).toArray[j]? = some (.ref (ps.getD j 0))
      rw [gd]
      simp [gp]
    · show s.heap.IsTuple (ps.getD j 0) _
      rw [gd]
      exact tp
  · rw [rawOf_len lu, zl]
  · obtain ⟨f1, f2⟩ := List.getElem?_zip_eq_some.mp e
    have f1 : (ks.map fun p => Value.ref p.1)[i]? = some k := f1
    have f2 : us[i]? = some v := f2
    have li : i < ks.length := by
      have := (List.getElem?_eq_some_iff.mp f2).1
      omega
    have g0 : ks[i]? = some ks[i] := List.getElem?_eq_getElem li
    rw [List.getElem?_map, g0] at f1
    cases f1
    refine ⟨entK ks[i].2, ks[i].1, ?_, rfl⟩
    show ((ks.zip us).map fun q => (entK q.1.2, q.1.1, q.2))[i]? = _
    rw [List.getElem?_map, (List.getElem?_zip_eq_some (z := (ks[i], v))).mpr ⟨g0, f2⟩]
    rfl
  · obtain ⟨p, hp, e1, e2⟩ := keys x hx
    rw [e1, e2]
    exact keep_key (fun o e => kg _ _ (Nat.ne_of_lt (keyLt p hp)) (by simp) e) (key p hp)
  · rw [zl, sizeLine_eq]
    omega
  · have ndk : ((rawOf ks us).map (·.1)).Nodup := by
      rw [rawOf_keys lu, show (ks.map fun p => entK p.2) = (ks.map (·.2)).map entK by rw [List.map_map]; rfl]
      exact List.Pairwise.map _ (fun _ _ ne z => ne (entK_inj z)) nd
    rw [storedAllH_nil_of_nodup _ ndk] at hg
    obtain ⟨o, es, ep, g1, g2, g3, g4, _, g5⟩ := hg
    have fresh : H s.heap.objs.size = none := I.hok.fresh (Nat.le_refl _)
    refine ⟨.ref s.heap.objs.size, upd H s.heap.objs.size (.dT (dtOf ks vs)), I.laid (t' := tk) (fun c o e => kg c o (by simp) e) (Nat.le_refl _) ?_, rfl, q _ fresh⟩
    refine ⟨?_, beq_eq_false_iff_ne.mpr (Nat.ne_of_gt I.big), rawOf ks us, kt_of (by omega) vu fun p hp => ?_, o, es, ep, g1, g2, g3, g4, g5⟩
    · unfold dtOf
      rw [List.length_zip, List.length_map, sizeLine_eq]
      omega
    · rw [upd_ne (Nat.ne_of_lt (keyLt p hp))]
      exact hk p hp
end
end KDz
/-! _law_names. -/
namespace K01
open PySem PySem.Spec PyProof.Rows L2 KG KS KA
abbrev s__law_names : Stmt := top 21
def pool : List Str := ["a", "ab", "abc", "b", "maybe", "no", "none", "vote", "yes", "z", "zzzzzzzz"]
theorem pool_len : pool.length = 11 := by decide +kernel
theorem pool_ok : ∀ x ∈ pool, nameOk x = true := by decide +kernel
theorem pool_nd : pool.Nodup := by decide +kernel
theorem rising_asc : ∀ (l : List Str) (p : Str), risingS p l = true → (p :: l).Nodup → AscT (p :: l)
  | [], p, _, _ => List.pairwise_singleton _ _
  | x :: r, p, h, nd => by
    have h1 : (!ltCps x.cps.toList p.cps.toList && risingS x r) = true := h
    rw [Bool.and_eq_true] at h1
    have nd2 := (List.nodup_cons.mp nd).2
    have ne : p ≠ x := fun e => (List.nodup_cons.mp nd).1 (by rw [e]; exact List.mem_cons_self)
    have ih := rising_asc r x h1.2 nd2
    have lt : ltT p x = true := by
      cases e : ltT p x with
      | true => rfl
      | false =>
        refine absurd (ltT_total e ?_) ne
        have z : W.dataLt (.str x) (.str p) = ltCps x.cps.toList p.cps.toList := (W.dataLt_str _ _).trans (lt_meets _ _)
        show W.dataLt (.str x) (.str p) = false
        rw [z]
        simpa using h1.1
    refine List.pairwise_cons.mpr ⟨fun y hy => ?_, ih⟩
    rcases List.mem_cons.mp hy with e | hy
    · rw [e]
      exact lt
    · exact lex_trans _ _ _ lt (List.rel_of_pairwise_cons ih hy)
theorem sorted_asc {l : List Str} (h : sortedS l = true) (nd : l.Nodup) : AscT l := by
  cases l with
  | nil => exact .nil
  | cons x r => exact rising_asc r x h nd
theorem erase_map {α β : Type} (f : α → β) (xs : List α) (k : Nat) : (xs.map f).eraseIdx k = (xs.eraseIdx k).map f := by
  rw [List.eraseIdx_eq_take_drop_succ, List.eraseIdx_eq_take_drop_succ, List.map_append, List.map_take, List.map_drop]
theorem erase_perm {α : Type} {xs ys : List α} {k : Nat} (h : k < xs.length) : (xs.eraseIdx k ++ (ys ++ [xs[k]])).Perm (xs ++ ys) := by
  have e : xs = xs.take k ++ xs[k] :: xs.drop (k + 1) := by rw [List.getElem_cons_drop, List.take_append_drop]
  have p1 : (xs ++ ys).Perm (xs[k] :: (xs.eraseIdx k) ++ ys) := by
    rw [List.eraseIdx_eq_take_drop_succ]
    have p2 : xs.Perm (xs[k] :: (xs.take k ++ xs.drop (k + 1))) := (List.Perm.of_eq e).trans List.perm_middle
    exact p2.append_right ys
  refine List.Perm.trans ?_ p1.symm
  rw [← List.append_assoc]
  exact List.perm_append_comm
/-- len(x), K said -/
abbrev rLen (K : PySem.W.Frag) : List V → Hp → VK → Prop := fun xs H Q => ∃ x n, xs = [x] ∧ LenV K x H n ∧ Q (.int (n : Nat)) H
/-- so many distinct names, ascending -/
def spNames2 : Sp := fun vs H Q _ => ∃ (d l : Addr) (m k : Nat), vs = [.ref d, .int (m : Nat)] ∧ DeckAt H d l k ∧ m ≤ 11 ∧ k + m < 1000000000 ∧
  ∀ (p : Addr) (ds : List Str) (H' : Hp), H p = none → DeckAt H' d l (k + m) → Off d l H H' → H' p = some (.tup (ds.map V.str)) → ds.length = m → (∀ x ∈ ds, x ∈ pool) → AscT ds → Q (.ref p) H'
section
variable {P : Program} {w : World} {K : PySem.W.Frag} {mg : Str → Option Value} {base : Heap}
theorem sc__law_names : FnScope ["_law_deck_here", "_law_many", "_law_pool", "_law_k"] ["_law_deck_here", "_law_many"] (defScope s__law_names) := ⟨rfl, rfl, rfl, by decide +kernel, rfl, by decide +kernel, by decide +kernel⟩
theorem ok__law_names (B : Bs mg) (f : FnF K mg "_law_names" "_law_names" s__law_names) (fd : FnF K mg "_law_draw" "_law_draw" s__law_draw) : FnOk P w K mg base CX0 2 f.a f.d ["_law_deck_here", "_law_many"] spNames2 := by
  have G := ok__law_draw (P := P) (w := w) (base := base) B.toBi fd
  have bd : L2.Binds K fd.d ["_law_deck_here", "_law_many"] [] := fd.F.binds fun _ _ _ _ _ _ us hl => match us, hl with | [_, _], _ => rfl
  refine f.F.ok sc__law_names (fun vs H Q E h => ?_) (fun cdv A outer s H vs Q E hr h => ?_)
  · obtain ⟨d, l, m, k, rfl, _⟩ := h
    rfl
  · obtain ⟨d, l, m, k, rfl, D, hm, hk, q⟩ := h
    have hr1 : Room 1 _ := hr.mono (by omega)
    refine ⟨_, (pss_cons
      (ps_set (i := 2) sc__law_names.nd rfl (Or.inr rfl) (pe_lst (pa_cons pe_str (pa_cons pe_str (pa_cons pe_str (pa_cons pe_str (pa_cons pe_str (pa_cons pe_str (pa_cons pe_str (pa_cons pe_str (pa_cons pe_str (pa_cons pe_str (pa_cons pe_str pa_nil)))))))))))))
    (pss_one
      (ps_ret (pe_callTy call_tuple_of (by rfl) B.n_tuple (by decide +kernel) (pa_cons (pe_callB cr_sortedS (by rfl) B.n_sorted (by decide +kernel) (pa_cons (pe_lc (own := [("_law_k", 3)]) (g := gName 3) (by rfl) sc__law_names.nd (pi_range1 rfl B.n_range (pa_cons (pv 1) pa_nil)) (blkOk_by (own := [("_law_k", 3)]) (N := ["_law_deck_here", "_law_many", "_law_pool", "_law_k"]) (sc := defScope s__law_names) (by decide +kernel))
        (fun _ _ _ _ _ => (pg_name (i := 3) sc__law_names.nd rfl (Or.inl rfl))) (fun _ _ _ _ _ => pts_nil)
        (fun _ _ _ _ _ => (show PE _ _ (tBM K "list" rPopAt (tVar 2) _) from pe_bm PySem.F.plainAttrs_list PySem.F.slot_list_pop PySem.F.type_list_pop mt_popAt (pv 2) (pa_cons (pe_call G hr1 rfl fd.g fd.F.kp bd .nil pass0 (pa_cons (pv 0) (pa_cons (pe_callB (show CallR _ (.builtin "len") (rLen K) from call_len) (by rfl) B.n_len (by decide +kernel) (pa_cons (pv 2) pa_nil)) pa_nil))) pa_nil)))) pa_nil)) pa_nil))))), ?_⟩
    refine ⟨by show 11 ≤ sizeLine; decide, fun L hL => ?_⟩
    obtain ⟨cs0, mm0, n0, hd0, hl0, _⟩ := D.ex
    have nLd : L ≠ d := (ne_of_none hd0 hL).symm
    have nLl : L ≠ l := (ne_of_none hl0 hL).symm
    have e0 : Same H (upd H L (.lst (pool.map V.str))) := same_new hL
    refine ⟨_, rfl, (m : Int), rfl, by omega, by omega, fun g hg => ?_⟩
    have nLg : L ≠ g := ne_of_none upd_same hg
    have gH : H g = none := by rw [upd_ne nLg.symm] at hg; exact hg
    have ngd : g ≠ d := (ne_of_none hd0 gH).symm
    have ngl : g ≠ l := (ne_of_none hl0 gH).symm
    have e1 : Same H (upd (upd H L (.lst (pool.map V.str))) g (.lst [])) := same_trans e0 (same_new hg)
    refine lc_range (lo := 0) (n := ((m : Nat) : Int).toNat) (fun i H' => ∃ (left got : List Str), DeckAt H' d l (k + i) ∧ Off d l H H' ∧
        H' L = some (.lst (left.map V.str)) ∧ H' g = some (.lst (got.map V.str)) ∧ (left ++ got).Perm pool ∧ got.length = i)
      ⟨pool, [], D.same e1, Off.of e1, by rw [upd_ne nLg, upd_same]; rfl, upd_same, by rw [List.append_nil], rfl⟩ ?_ ?_
    · rintro i H1 hi ⟨left, got, D1, o1, hL1, hg1, pm, hgl⟩
      have hi2 : i < m := by simpa using hi
      have pl := pm.length_eq
      rw [List.length_append, pool_len] at pl
      refine ⟨rfl, _, rfl, Or.inl ⟨rfl, _, SqL.of hL1⟩, _, rfl, _, rfl, .ref L, left.length, rfl, Or.inl ⟨left.map V.str, SqL.of hL1, by rw [List.length_map]⟩, d, l, (left.length : Int), k + i, rfl, D1, by omega, by omega, by omega, fun j H2 j0 j1 D2 o2 => ?_⟩
      have jl : j.toNat < left.length := by omega
      have hL2 := o2 L _ hL1 nLd nLl
      have hg2 := o2 g _ hg1 ngd ngl
      have hx : (left.map V.str)[j.toNat]? = some (V.str left[j.toNat]) := by rw [List.getElem?_map, List.getElem?_eq_getElem jl]; rfl
      refine ⟨L, left.map V.str, j, j.toNat, _, rfl, rfl, hL2, by omega, by omega, ?_, hx, got.map V.str, by rw [upd_ne nLg.symm]; exact hg2, by rw [List.length_map, sizeLine_eq]; omega, ?_⟩
      · unfold seqIndex?
        have n1 : ¬ j < 0 := by omega
        rw [List.length_map]
        simp [n1, j0, j1]
      · refine ⟨left.eraseIdx j.toNat, got ++ [left[j.toNat]], ?_, ?_, ?_, ?_, ?_, by rw [List.length_append, hgl]; rfl⟩
        · obtain ⟨cs, mm, n, h1, h2, h3⟩ := D2.ex
          exact ⟨cs, mm, n, by rw [upd_ne ngd.symm, upd_ne nLd.symm]; exact h1, by rw [upd_ne ngl.symm, upd_ne nLl.symm]; exact h2, h3.1, h3.2.1, h3.2.2.1, by omega⟩
        · intro b u hb n1 n2
          have z := o2 b u (o1 b u hb n1 n2) n1 n2
          rw [upd_ne (ne_of_none hb gH), upd_ne (ne_of_none hb hL)]
          exact z
        · rw [upd_ne nLg, upd_same, erase_map]
        · rw [upd_same, List.map_append]
          rfl
        · exact (erase_perm jl).trans pm
    · rintro H1 ⟨left, got, D1, o1, hL1, hg1, pm, hgl⟩
      have hm2 : got.length = m := by simpa using hgl
      have nd : got.Nodup := ((pm.nodup_iff).mpr pool_nd).sublist (List.sublist_append_right _ _)
      refine ⟨g, got, rfl, SqL.of hg1, by omega, fun ys p pm2 so hp => ⟨p, ys.map V.str, rfl, .inl ⟨SqL.of upd_same, fun t ht => ?_⟩⟩⟩
      have e2 : Same H1 (upd (upd H1 p (.lst (ys.map V.str))) t (.tup (ys.map V.str))) := same_trans (same_new hp) (same_new ht)
      refine q t ys _ ?_ (D1.same e2 |>.up (by simp)) (o1.trans (Off.of e2)) upd_same (by rw [pm2.length_eq, hm2]) (fun x hx => pm.mem_iff.mp (List.mem_append_right _ (pm2.mem_iff.mp hx))) (sorted_asc so (pm2.nodup_iff.mpr nd))
      exact D1.back o1 ((same_new hp).free ht)
end
end K01
/-! Exceptions of the program's own classes (over Exception, at any depth) as values: made, a field stored and read, isinstance. -/
namespace KX
open PySem PySem.Spec PySem.W PyProof.Rows

abbrev exTl : List Value := [.type "Exception", .type "BaseException", .type "object"]
/-- what the written part says of such a class -/
structure ExC (K : Frag) (C : Addr) : Prop where
  cls : ∃ nm q N bs bm sn sub ab col dd k0 k1 k2 k3 k5, K.lookup C = some (excClassObj nm q C N bs bm true sn sub ab col dd k0 k1 k2 k3 k5 "Exception.__new__") ∧ excTail exTl bm = true
  sa : findIn K (.ref C) "__setattr__" = some (some (.builtin "object.__setattr__"))
  ga : findIn K (.ref C) "__getattribute__" = some (some (.builtin "BaseException.__getattribute__"))
  gg : findIn K (.ref C) "__getattr__" = some none
  bx : subIn K (.ref C) (.type "BaseException") = some true
  kp : keepIn K (.ref C) = true
  hd : hasDictIn K C = true
  cl : findIn K (.ref C) "__class__" = some (some (.builtin "object.__class__"))
  gn : specialIn K (.builtin "object.__class__") "__get__" = some (some (.builtin "getset_descriptor.__get__"))
  tk : takesIn K (.builtin "object.__class__") = some true
  mo : mroIn K C (.type "object") = some true

section
open Builtin Builtin.ObjectAttr
variable {prog : Program} {w : World} {A : Around} {E : Value → Shared → Prop} {R : Result → Shared → Prop} {hp : Heap} {g : Array GenState} {d : Drawn} {t : Nat} {os : OsState}
theorem tail_mro {K : Frag} {C : Addr} {cd : ClassData} {bm : List Value} (hcd : clsIn K C = some cd) (hm : cd.mro = .ref C :: bm) (ht : excTail exTl bm = true) : mroIn K C (.type "object") = some true := by
  have q : (Value.ref C :: bm).contains (.type "object") = true := by
    rw [List.contains_cons, excTail_contains "object" bm ht, show exTl.contains (.type "object") = true from by decide +kernel, Bool.or_true]
  unfold mroIn
  rw [hcd, Option.bind_some, hm, if_neg (by simp), q]
/-- self.name = v on an exception that has no dict as yet -/
theorem first_store {K : Frag} {name : Str} {tk : Tok} {v : Value} {x C : Addr} {fv : Array Value} {cd : ClassData} {bm : List Value}
    (X : K.In hp) (hx : hp.get? x = some { cls := .ref C, data := .fields fv }) (hcd : clsIn K C = some cd) (hm : cd.mro = .ref C :: bm) (ht : excTail exTl bm = true) (hh : cd.hasDict = true) (ha : findIn K (.ref C) name = some none)
    (hq : ∀ h' tk' dx, (∀ b o, b ≠ x → hp.get? b = some o → h'.get? b = some o) → hp.objs.size ≤ dx → dx ≠ x → h'.get? x = some { cls := .ref C, dict := some dx, data := .fields fv } →
      h'.Ns1 dx (fun y => if y = name then some v else none) → R (.ok (.ret .none)) ⟨h', g, d, tk', os⟩) :
    codeAny (model prog w) A (.call (.builtin "object.__setattr__") ⟨[.ref x, .str name tk, v], []⟩) R ⟨hp, g, d, t, os⟩ := by
  have J : InstAt hp x { cls := .ref C, data := .fields fv } C none := ⟨hx, rfl, rfl, trivial⟩
  have ne : x ≠ hp.objs.size := Nat.ne_of_lt (Heap.lt_size hx)
  have isO : Looks (model prog w) hp (isInstance (.ref x) (.type "object")) true := J.type.andThen (looks_mroIn X (tail_mro hcd hm ht))
  have S := F.store_object
  have pass : refuseLoop (.ref x) "__setattr__" cd.mro = pure () := by
    rw [hm, refuseLoop_ref]
    exact excTail_pass _ (F.store_Exception.passes _) bm ht
  have lm : Looks (model prog w) hp (mroOf (.ref C)) cd.mro := (looks_clsIn X hcd).andThen .now
  have lt : Looks (model prog w) hp (storeTaker? none) none := .now
  have lc : Looks (model prog w) hp (classData C) cd := looks_clsIn X hcd
  refine codeAny_call_builtin S.slot.plain S.entry (@check_slot (model prog w) _ _ ⟨hp, g, d, t, os⟩ "object.__setattr__" "object" "__setattr__" (.ref x) [.str name tk, v] [] _ S.kind S.split isO (S.args (.ref x) (.str name tk) v) ?_)
  rw [osa_eq, refuse_eq]
  apply wpAny_bind
  apply wpAny_bind
  apply J.type.at
  apply wpAny_bind
  apply lm.at
  rw [pass]
  apply wpAny_pure
  apply wpAny_bind
  apply J.type.at
  apply wpAny_bind
  apply (looks_findIn X ha).at
  apply wpAny_bind
  apply lt.at
  show wpAny _ _ (storeInOwnDict (.ref x) (.ref C) (.str name tk) name v false) _ _ _
  obtain ⟨nm, bs, mro, ns, qn, hd, sn, sb, ab, col, del⟩ := cd
  have hh' : hd = true := hh
  subst hh'
  unfold storeInOwnDict ownDictForStores
  repeat (first | with_reducible apply HandSPX.store_in_new | with_reducible apply wpAny_loadPart_at hx | with_reducible apply lc.at | wp_step)
  · exact ⟨_, #[], _, (Heap.get?_update_ne _ _ _ _ ne.symm).trans (Heap.get?_push_at rfl rfl), rfl, fun e he => absurd he (by simp), fun _ => rfl⟩
  · intro h' tk' hn' hs
    have hx1 : (hp.push { cls := .type "dict", data := .dict #[] }).get? x = some { cls := .ref C, data := .fields fv } := Heap.get?_push_of_some _ hx
    exact hq h' tk' hp.objs.size (fun b o hb ho => (hs.2 b (Nat.ne_of_lt (Heap.lt_size ho))).trans ((Heap.get?_update_ne _ _ _ _ hb).trans (Heap.get?_push_of_some _ ho))) (Nat.le_refl _) ne.symm
      ((hs.2 x ne).trans (Heap.get?_update_self _ hx1 rfl)) hn'
end

open L2 KG
section
variable {X : Cx} {pins : List (Addr × Obj)} {σ : L2.St} {H : Hp} {s : Shared} {a C : Addr} {f : Str} {y : V} {u : Value} {fs : List (Str × V)}
/-- an exception of the class at C with the fields fs, made -/
def ExAt (H : Hp) (a C : Addr) (fs : List (Str × V)) : Prop := (∃ dx, H a = some (exo a C (some dx)) ∧ H dx = some (exd dx fs)) ∨ (fs = [] ∧ H a = some (exo a C none))
theorem ExAt.keep {H' : Hp} (x : ExAt H a C fs) (e : Same H H') : ExAt H' a C fs := by
  rcases x with ⟨dx, h1, h2⟩ | ⟨h0, h1⟩
  · exact .inl ⟨dx, e _ _ h1, e _ _ h2⟩
  · exact .inr ⟨h0, e _ _ h1⟩
theorem set_first {Q : Unit → Shared → Prop} {E : Value → Shared → Prop} {A : Around} (T : ExC X.K C) (I : Inv X pins σ H s) (e : H a = some (exo a C none)) (hno : findIn X.K (.ref C) f = some none) (ry : RelV y u)
    (h : ∀ dx s', H dx = none → dx ≠ a → Inv X pins σ (upd (upd H dx (exd dx [(f, y)])) a (exo a C (some dx))) s' → Q () s') : wpAny (model X.prog X.w) A (setAttr (.ref a) f u) Q E s := by
  obtain ⟨nm, q, N, bs, bm, sn, sub, ab, col, dd, k0, k1, k2, k3, k5, hC, hbm⟩ := T.cls
  have hcl : clsIn X.K C = some { name := nm, bases := bs, mro := .ref C :: bm, ns := N, qualname := q, hasDict := true, slotNames := sn, subclasses := sub, abstract := ab, collection := col, hasDel := false } := by
    unfold clsIn
    rw [hC]
    all_goals rfl
  obtain ⟨t1, ho⟩ := exo_at I.hok e
  obtain ⟨hp, g, dr, tk, os⟩ := s
  apply set_plain I.kIn (ox := { cls := .ref C, dict := none, data := .fields #[.ref t1, .none, .none, .none, .bool false, .none] }) (od := none) ⟨ho, rfl, rfl, trivial⟩ T.sa
  apply first_store I.kIn ho hcl rfl hbm rfl hno
  intro h' tk' dx kp dn dne hx hn
  have fr : H dx = none := I.hok.fresh dn
  have ndx : ∀ {b : Addr} {o : Obj}, hp.get? b = some o → b ≠ dx := fun {b o} q => Nat.ne_of_lt (Nat.lt_of_lt_of_le (Heap.lt_size q) dn)
  have nda : ∀ {b : Addr}, H b = none → b ≠ a := fun {b} n z => by rw [z, e] at n; cases n
  have there : ∀ b o, hp.get? b = some o → ∃ o', h'.get? b = some o' := fun b o q => by
    by_cases hb : b = a
    · rw [hb]; exact ⟨_, hx⟩
    · exact ⟨o, kp b o hb q⟩
  have stay : ∀ {b : Addr} {o : HO}, H b = some o → o ≠ exo a C none → upd (upd H dx (exd dx [(f, y)])) a (exo a C (some dx)) b = some o := fun {b o} q z => by
    have h1 : b ≠ a := fun w => by rw [w, e] at q; exact z (Option.some.inj q).symm
    rw [upd_ne h1, upd_ne (ne_of_none q fr)]
    exact q
  have U : Un X.fs [] H (upd (upd H dx (exd dx [(f, y)])) a (exo a C (some dx))) hp h' :=
    ⟨fun b o q n _ _ => kp b o (nda n) q, fun b o q n _ _ => ⟨o.slots, kp b o (nda n) q⟩, fun b o q n _ => by rw [upd_ne (nda n), upd_ne (ndx q)]; exact n, fun b o q _ => there b o q,
      fun b xs q => stay q exo_tup.symm, fun b o v q => stay q exo_frz.symm, fun b ps q => ⟨#[], by rw [stay q exo_tbl.symm]; simp⟩⟩
  have ok : HOk X.prog X.w (upd (upd H dx (exd dx [(f, y)])) a (exo a C (some dx))) h' := fun b o q => by
    by_cases hb : b = a
    · subst hb
      rw [upd_same] at q
      obtain rfl := Option.some.inj q
      exact exo_ok hx
    · rw [upd_ne hb] at q
      by_cases hd : b = dx
      · subst hd
        rw [upd_same] at q
        obtain rfl := Option.some.inj q
        exact exd_ok hn (relO_put (fs := []) ry fun g => True.intro)
      · rw [upd_ne hd] at q
        refine (I.hok b o q).stay (fun c v hc z => kp c v ?_ z) (fun c hc => stay hc exo_own.symm) (fun c xs hc => stay hc exo_tup.symm)
        rcases hc with hc | hc
        · rw [hc]; exact hb
        · exact fun w => by rw [w, e] at hc; exact exo_own (Option.some.inj hc)
  exact h dx _ fr dne (I.un (t' := tk') U ok)

/-- self.f = e, the first field of an exception that is being made -/
def tExSet (K : Frag) (f : Str) (to te : TE) : TS := fun D σ H => te σ H fun y H1 => to σ H1 fun x H2 => ∃ a C : Addr, x = .ref a ∧ ExC K C ∧ findIn K (.ref C) f = some none ∧ H2 a = some (exo a C none) ∧
  ∀ dx, H2 dx = none → dx ≠ a → D.nx σ (upd (upd H2 dx (exd dx [(f, y)])) a (exo a C (some dx)))
theorem ps_exset {o e : Expr} {to te : TE} {p p2 : Pos} (ho : PE X o to) (he : PE X e te) (hs : swapsWith e (some (.Attribute o f p)) p2.line X.env = pure false := by rfl) : PS X (.Assign [.Attribute o f p] e p2) (tExSet X.K f to te) := by
  constructor
  intro pins s σ H D I h
  apply plainObj_wpAny_Assign_Attribute (hs := hs)
  apply thn (he.run pins s σ H _ I h)
  rintro v s1 ⟨y, H1, I1, r1, q1⟩
  apply thn (ho.run pins s1 σ H1 _ I1 q1)
  rintro u s2 ⟨x, H2, I2, r2, a, C, ex, T, hno, ea, q⟩
  subst ex
  obtain rfl : u = Value.ref a := r2
  exact set_first T I2 ea hno r1 fun dx s' n ne J => ⟨σ, _, J, q dx n ne⟩

/-! ### C(e): the exception, its own __init__ keeping sp -/
def tExMk (C : Addr) (sp : Sp) (ta : TA) : TE := fun σ H Q => ta σ H fun vs H1 => vs.length ≤ 1000 ∧ ∀ a, H1 a = none → sp (.ref a :: vs) (upd H1 a (exo a C none)) (fun v H2 => v = .non ∧ Q (.ref a) H2) E0
theorem run_exmk {CX : CXT} {fI : Addr} {k : Nat} {fd : FuncData} {ps : List Str} {sp : Sp} {Q : VK} {us : List Value} {vs : List V} (T : ExC X.K C) (iC : findIn X.K (.ref C) "__init__" = some (some (.ref fI))) (tI : typeIn X.K (.ref fI) = some (.type "function"))
    (F1 : FnOk X.prog X.w X.K X.mg X.base CX k fI fd ps sp) (hr : Room (k + 1) X.A) (hb : L2.Binds X.K fd ps []) (hx : Passes CX X E0) (I : Inv X pins σ H s) (r : Vals vs us) (hl : vs.length ≤ 1000)
    (h : ∀ a, H a = none → sp (.ref a :: vs) (upd H a (exo a C none)) (fun v H2 => v = .non ∧ Q (.ref a) H2) E0) : wpAny (model X.prog X.w) X.A (call (.ref C) us) (EP X pins σ Q) X.xe s := by
  obtain ⟨nm, q, N, bs, bm, sn, sub, ab, col, dd, k0, k1, k2, k3, k5, hC, hbm⟩ := T.cls
  obtain ⟨hp, g, dr, tk, os⟩ := s
  have hz : us.length ≤ sizeLine := by
    rw [← Paired.length r, sizeLine_eq]
    omega
  have new : hp.objs.size ≤ hp.objs.size + 1 := Nat.le_succ _
  have kp : ∀ b o, hp.get? b = some o → ((hp.push (kdv_tup us)).push (HandSPX.excO C hp.objs.size)).get? b = some o := fun b o e => Heap.get?_push_of_some _ (Heap.get?_push_of_some _ e)
  have at_ : ((hp.push (kdv_tup us)).push (HandSPX.excO C hp.objs.size)).get? (hp.objs.size + 1) = some (HandSPX.excO C hp.objs.size) := by heap_get
  have J : Inv X pins σ (upd H (hp.objs.size + 1) (exo (hp.objs.size + 1) C none)) ⟨(hp.push (kdv_tup us)).push (HandSPX.excO C hp.objs.size), g, dr, tk, os⟩ :=
    I.laid (a := hp.objs.size + 1) (o := exo (hp.objs.size + 1) C none) (h' := (hp.push (kdv_tup us)).push (HandSPX.excO C hp.objs.size)) (t' := tk) kp new (exo_ok at_)
  have hq := h (hp.objs.size + 1) (I.hok.fresh new)
  have r2 : Vals (V.ref (hp.objs.size + 1) :: vs) (Value.ref (hp.objs.size + 1) :: us) := .cons rfl r
  have len : ((Value.ref (hp.objs.size + 1) :: us) ++ []).length = ps.length := by
    rw [List.append_nil, ← F1.len _ _ _ _ hq]
    exact (Paired.length r2).symm
  have bnd := hb ⟨(hp.push (kdv_tup us)).push (HandSPX.excO C hp.objs.size), g, dr, tk, os⟩ (Value.ref (hp.objs.size + 1) :: us) J.kIn len
  rw [List.append_nil] at bnd
  apply wpAny_call
  apply HandSPX.call_own PySem.F.excBase_Exception (fun Y => excTail_contains Y bm hbm) (I.kIn _ _ hC) (looks_findIn I.kIn iC) (fun self => bind_fn I.kIn self tI) hz
  refine codeAny_mono (F1.run _ X.stack _ _ ⟨Value.ref (hp.objs.size + 1) :: us, []⟩ (Value.ref (hp.objs.size + 1) :: us) _ _ E0 (hr.make C us []) (J.env0.make C us []) bnd r2 hq) ?_
  rintro (er | fl) s' z
  · exact hx pins σ _ _ er s' J z
  · cases fl with
    | ret u =>
      obtain ⟨v, H', I3, rv, ev, q3⟩ := Inv.after J z
      subst ev
      exact ⟨rv, ⟨V.ref (hp.objs.size + 1), H', I3, rfl, q3⟩⟩
    | next => exact z.elim
    | brk => exact z.elim
    | cont => exact z.elim
theorem pe_exmk {CX : CXT} {x : Str} {fI : Addr} {k : Nat} {fd : FuncData} {ps : List Str} {sp : Sp} {e : Expr} {es : List Expr} {ta : TA} {p pos : Pos} (T : ExC X.K C) (iC : findIn X.K (.ref C) "__init__" = some (some (.ref fI))) (tI : typeIn X.K (.ref fI) = some (.type "function"))
    (F1 : FnOk X.prog X.w X.K X.mg X.base CX k fI fd ps sp) (hr : Room (k + 1) X.A) (hb : L2.Binds X.K fd ps []) (hx : Passes CX X E0) (hg : Gl X x) (hm : X.mg x = some (.ref C)) (ha : PA X (e :: es) ta) (hdb : (x == ("__debug__" : Str)) = false := by decide)
    (he : starEach (e :: es) X.env = (false, eval e X.env) :: starEach es X.env := by rfl) (hpl : (backTo pos (starEach es X.env)).any (·.1) = false := by rfl) :
    PE X (.Call (.Name x p) (e :: es) [] pos) (tExMk C sp ta) := by
  constructor
  intro pins s σ H Q I h
  apply wpAny_Call_Name_kw (ld_glob I hg hm ?_ hdb)
  apply callWith_K (h₀ := X.base) I.ok.mod.kin T.kp ?_ he hpl
  apply thn (ha.run pos pins s σ H _ I h)
  rintro us s1 ⟨vs, H1, I1, r, hl, q⟩
  exact ⟨I1.kIn, run_exmk T iC tI F1 hr hb hx I1 r hl q⟩
end
end KX
/-! Vote.__init__ of what is valid. -/
namespace K01
open PySem PySem.Spec PyProof.Rows L2 KG KS KA KX KTc KFz
def inCls (i j : Nat) : Stmt := match top i with
  | .ClassDef _ _ _ body _ _ _ _ _ _ _ => body.getD j (.Pass ⟨0, 0, 0, 0⟩)
  | s => s
theorem lc_zipT {K : PySem.W.Frag} {a b : Addr} {xs ys : List V} {g : TG} {tt : TT} {te : TE} {vs : List Nat} {σ : L2.St} {H1 : Hp} {D : Addr} {Qd : Hp → Prop} (hl : xs.length = ys.length) (Pv : Nat → Hp → Prop) (h0 : Pv 0 (upd H1 D (.lst []))) (hq : ∀ i H, Pv i H → SqT K H a xs ∧ SqT K H b ys)
    (hs : ∀ i x y T H, xs[i]? = some x → ys[i]? = some y → Pv i H → H T = none → g (.ref T) (wipe σ vs) (upd H T (.tup [x, y])) fun σ2 H2 => wipe σ2 vs = wipe σ vs ∧ tt σ2 H2 fun b H3 =>
      if b = true then te σ2 H3 fun y H4 => ∃ acc, H4 D = some (.lst acc) ∧ acc.length < sizeLine ∧ Pv (i + 1) (upd H4 D (.lst (acc ++ [y]))) else Pv (i + 1) H3) (hd : ∀ H, Pv xs.length H → Qd H) :
    ∃ W : Nat → Nat → Hp → Prop, (∃ m, W 0 m (upd H1 D (.lst []))) ∧ ∀ i m H, W i m H →
      ((RZ.ItzT K a b).stop i H ∧ Qd H) ∨ ((RZ.ItzT K a b).go i H ∧ ∃ Nx : Hp → Prop, (∀ H', Nx H' → ∃ m', m' < m ∧ W (i + 1) m' H') ∧ ∀ x H', (RZ.ItzT K a b).yld i H x H' → g x (wipe σ vs) H' fun σ2 H2 => wipe σ2 vs = wipe σ vs ∧ tt σ2 H2 fun b H3 =>
        if b = true then te σ2 H3 fun y H4 => ∃ acc, H4 D = some (.lst acc) ∧ acc.length < sizeLine ∧ Nx (upd H4 D (.lst (acc ++ [y]))) else Nx H3) := by
  refine ⟨fun i m H => m = xs.length - i ∧ i ≤ xs.length ∧ Pv i H, ⟨xs.length, by simp, Nat.zero_le _, h0⟩, ?_⟩
  rintro i m H ⟨rfl, hi, p⟩
  obtain ⟨q1, q2⟩ := hq i H p
  by_cases hlt : i < xs.length
  · have hlt2 : i < ys.length := by omega
    refine .inr ⟨⟨xs, ys, xs[i], ys[i], q1, q2, by simp [hlt], by simp [hlt2]⟩, Pv (i + 1), fun H' p' => ⟨xs.length - (i + 1), by omega, rfl, hlt, p'⟩, fun v H' y => ?_⟩
    obtain ⟨T, x, y, rfl, hT, rfl, hx, hy⟩ := y
    exact hs i x y T H (hx xs q1) (hy ys q2) p hT
  · have e : i = xs.length := by omega
    subst e
    exact .inl ⟨⟨xs, ys, q1, q2, .inl (Nat.le_refl _)⟩, hd H p⟩
structure MtF (K : PySem.W.Frag) (name qual : Str) (st : Stmt) where
  a : Addr
  d : FuncData
  F : Fun K name qual st a d
theorem ps_dead {X : Cx} {st : Stmt} : PS X st (fun _ _ _ => False) := ⟨fun _ _ _ _ _ _ h => h.elim⟩
abbrev s_vtInit : Stmt := inCls 15 0
abbrev s_vtMid : Stmt := inCls 15 1
abbrev s_vtEq : Stmt := inCls 15 2
abbrev s_vtCall : Stmt := inCls 15 3
abbrev s_vtRows : Stmt := inCls 15 4
/-- the facts of Vote -/
structure VtC (K : PySem.W.Frag) (mg : Str → Option Value) (f : Addr) where
  C : Addr
  g : mg "Vote" = some (.ref C)
  cl : Cls K C
  made : Mk K C f
  nd : NoAttr K C "domain"
  nn : NoAttr K C "count"
  nr : NoAttr K C "results"
  no : NoAttr K C "result_of"
/-- what heaps keep but for the object at x -/
def ButO (x : Addr) (H H' : Hp) : Prop := ∀ b o, H b = some o → b ≠ x → H' b = some o
theorem ButO.of {x : Addr} {H H' : Hp} (e : Same H H') : ButO x H H' := fun b o h _ => e b o h
theorem ButO.put {x : Addr} {H H1 : Hp} {o : HO} (e : ButO x H H1) : ButO x H (upd H1 x o) := fun b u h z => by
  rw [upd_ne z]
  exact e b u h z
theorem ButO.then {x : Addr} {H H1 H2 : Hp} (e : ButO x H H1) (f : Same H1 H2) : ButO x H H2 := fun b u h z => f _ _ (e b u h z)
theorem ButO.fresh {x : Addr} {H H1 H2 : Hp} (hx : H x = none) (e : Same H H1) (f : ButO x H1 H2) : Same H H2 := fun b o h => f b o (e _ _ h) fun z => by
  rw [z, hx] at h
  cases h
abbrev vtFs (d : Addr) (n : Int) (r t : Addr) : List (Str × V) := [("domain", .ref d), ("count", .int n), ("results", .ref r), ("result_of", .ref t)]
/-- all tuples of so many values -/
def ptsL (k : Nat) (xs : List Str) : List (List Str) := prods (List.replicate k xs)
/-- values, a number and results that go together -/
structure VGood (xs : List Str) (k : Nat) (rs : List Str) : Prop where
  asc : AscT xs
  ok : ∀ x ∈ xs, nameOk x = true
  l1 : 1 ≤ xs.length
  l3 : xs.length ≤ 3
  hk : k = 3 ∨ k = 4
  len : rs.length = (ptsL k xs).length
  sub : ∀ x ∈ rs, x ∈ xs
  win : ∀ p ∈ (ptsL k xs).zip rs, winS p.1 = none ∨ winS p.1 = some p.2
/-- a vote on the heap, beside what stands at x itself -/
structure VtIn (H : Hp) (d r t : Addr) (xs : List Str) (k : Nat) (rs : List Str) : Prop where
  ex : ∃ ks : List (Addr × List Str), H d = some (.tup (xs.map V.str)) ∧ H r = some (.tup (rs.map V.str)) ∧ H t = some (.dT (KDz.dtOf ks (rs.map V.str))) ∧ ks.map (·.2) = ptsL k xs
def spVI (C : Addr) : Sp := fun vs H Q _ => ∃ (x dx d r : Addr) (xs rs : List Str) (k : Nat), vs = [.ref x, .ref d, .int (k : Nat), .ref r] ∧ H x = some (.ins C dx []) ∧ H d = some (.tup (xs.map V.str)) ∧ H r = some (.tup (rs.map V.str)) ∧ VGood xs k rs ∧
  ∀ (H' : Hp) (t : Addr), ButO x H H' → H t = none → H' x = some (.ins C dx (vtFs d k r t)) → VtIn H' d r t xs k rs → Q .non H'
/-- the names dict and zip -/
structure Bz (mg : Str → Option Value) : Prop extends Bs mg where
  n_dict : mg "dict" = none
  n_zip : mg "zip" = none
structure VtF (K : PySem.W.Frag) (mg : Str → Option Value) where
  dom : FnF K mg "is_domain" "is_domain" s_is_domain
  nms : FnF K mg "are_names" "are_names" s_are_names
  nm : FnF K mg "is_name" "is_name" s_is_name
  asc : FnF K mg "ascending" "ascending" s_ascending
  row : FnF K mg "is_row" "is_row" s_is_row
  all : FnF K mg "all_rows" "all_rows" s_all_rows
  win : FnF K mg "winner" "winner" s_winner
  wo : FnF K mg "without" "without" s_without
theorem pts_len (xs : List Str) : ∀ k, (prods (List.replicate k xs)).length = xs.length ^ k
  | 0 => rfl
  | k + 1 => by
    unfold prods
    rw [List.replicate_succ', List.foldl_append]
    show (step (prods (List.replicate k xs)) xs).length = _
    rw [step_len, pts_len xs k, Nat.pow_succ]
theorem pts_wid (xs : List Str) : ∀ k, ∀ r ∈ prods (List.replicate k xs), r.length = k
  | 0, r, h => by
    rw [List.mem_singleton.mp h]
    rfl
  | k + 1, r, h => by
    unfold prods at h
    rw [List.replicate_succ', List.foldl_append] at h
    obtain ⟨q, hq, h2⟩ := List.mem_flatMap.mp (show r ∈ step (prods (List.replicate k xs)) xs from h)
    obtain ⟨c, _, rfl⟩ := List.mem_map.mp h2
    rw [List.length_append, pts_wid xs k q hq]
    rfl
theorem pts_nodup {xs : List Str} (hx : xs.Nodup) : ∀ k, (prods (List.replicate k xs)).Nodup
  | 0 => by
    show ([[]] : List (List Str)).Nodup
    simp
  | k + 1 => by
    have ih := pts_nodup hx k
    unfold prods
    rw [List.replicate_succ', List.foldl_append]
    show (step (prods (List.replicate k xs)) xs).Nodup
    refine List.pairwise_flatMap.mpr ⟨fun r _ => List.pairwise_map.mpr (hx.imp fun {a b} ne z => ne ?_), ih.imp fun {r q} ne x hx y hy z => ne ?_⟩
    · exact List.cons.inj (List.append_cancel_left z) |>.1
    · obtain ⟨c, _, rfl⟩ := List.mem_map.mp hx
      obtain ⟨d, _, rfl⟩ := List.mem_map.mp hy
      exact (List.append_inj' z rfl).1
theorem pts_few {xs : List Str} (h : xs.length ≤ 3) {k : Nat} (hk : k ≤ 4) (i : Nat) : (prods ((List.replicate k xs).take i)).length ≤ 100 := by
  rw [List.take_replicate, pts_len]
  calc xs.length ^ min i k ≤ 3 ^ min i k := Nat.pow_le_pow_left h _
    _ ≤ 3 ^ 4 := Nat.pow_le_pow_right (by decide) (by omega)
    _ ≤ 100 := by decide
theorem flat_rep {α : Type} {x : α} : ∀ k : Nat, (List.replicate k [x]).flatten = List.replicate k x
  | 0 => rfl
  | k + 1 => by
    rw [List.replicate_succ, List.flatten_cons, flat_rep k, List.replicate_succ]
    rfl
theorem rows_rep {H : Hp} {d : Addr} {xs : List Str} (h : H d = some (.tup (xs.map V.str))) : ∀ k : Nat, RowsAt H ((List.replicate k d).map V.ref) (List.replicate k xs)
  | 0 => .nil
  | k + 1 => .cons ⟨d, rfl, h⟩ (rows_rep h k)
/-- rows and their addresses -/
theorem rows_frz {H0 H : Hp} : ∀ {vs : List V} {R : List (List Str)}, RowsF H0 H vs R → ∃ ks : List (Addr × List Str), vs = ks.map (fun p => V.ref p.1) ∧ ks.map (·.2) = R ∧ ∀ p ∈ ks, H0 p.1 = none ∧ Fz H p.1 (p.2.map V.str)
  | _, _, .nil => ⟨[], rfl, rfl, fun _ z => nomatch z⟩
  | _, _, .cons (b := r) ⟨a, e1, e0, e2⟩ t => by
    obtain ⟨ks, h1, h2, h3⟩ := rows_frz t
    refine ⟨(a, r) :: ks, by rw [List.map_cons, e1, h1], by rw [List.map_cons, h2], fun p hp => ?_⟩
    rcases List.mem_cons.mp hp with rfl | hp
    · exact ⟨e0, e2⟩
    · exact h3 p hp
/-- these are tuples again -/
def thawN (ks : List (Addr × List Str)) (H : Hp) : Hp := fun b => match ks.find? (fun p => p.1 == b) with
  | some p => some (.tup (p.2.map V.str))
  | none => H b
theorem str_map_inj {a b : List Str} (h : a.map V.str = b.map V.str) : a = b := (List.map_inj_right fun _ _ z => V.str.inj z).mp h
theorem thawN_at {ks : List (Addr × List Str)} {H : Hp} (h : ∀ p ∈ ks, Fz H p.1 (p.2.map V.str)) : ∀ p ∈ ks, thawN ks H p.1 = some (.tup (p.2.map V.str)) := fun p hp => by
  unfold thawN
  cases e : ks.find? (fun q => q.1 == p.1) with
  | none =>
    have z := List.find?_eq_none.mp e p hp
    exact absurd (beq_self_eq_true p.1) z
  | some q =>
    have m := List.mem_of_find?_eq_some e
    have ea : q.1 = p.1 := beq_iff_eq.mp (by simpa using List.find?_some e)
    obtain ⟨o1, h1, _⟩ := h p hp
    obtain ⟨o2, h2, _⟩ := h q m
    rw [ea, h1] at h2
    have z := Option.some.inj h2
    injection z with _ z2
    injection z2 with z3
    show some (HO.tup (q.2.map V.str)) = _
    rw [z3]
theorem thawN_off {ks : List (Addr × List Str)} {H : Hp} (h : ∀ p ∈ ks, Fz H p.1 (p.2.map V.str)) {b : Addr} {u : HO} (hb : H b = some u) (n : ∀ o v, u ≠ .frz o v) : thawN ks H b = some u := by
  unfold thawN
  cases e : ks.find? (fun q => q.1 == b) with
  | none => exact hb
  | some q =>
    have m := List.mem_of_find?_eq_some e
    have ea : q.1 = b := beq_iff_eq.mp (by simpa using List.find?_some e)
    obtain ⟨o2, h2, _⟩ := h q m
    rw [ea, hb] at h2
    exact absurd (Option.some.inj h2) (n _ _)
theorem thawN_none {ks : List (Addr × List Str)} {H : Hp} {b : Addr} (h : thawN ks H b = none) : H b = none := by
  unfold thawN at h
  cases e : ks.find? (fun q => q.1 == b) with
  | none =>
    rw [e] at h
    exact h
  | some q =>
    rw [e] at h
    cases h
theorem thawN_ok {X : Cx} {ks : List (Addr × List Str)} {H : Hp} (h : ∀ p ∈ ks, X.H_0 p.1 = none ∧ Fz H p.1 (p.2.map V.str)) : Thaw X H (thawN ks H) := fun b => by
  unfold thawN
  cases e : ks.find? (fun q => q.1 == b) with
  | none => exact .inl rfl
  | some q =>
    have m := List.mem_of_find?_eq_some e
    have ea : q.1 = b := beq_iff_eq.mp (by simpa using List.find?_some e)
    obtain ⟨n, o, h2, _⟩ := h q m
    rw [ea] at n h2
    exact .inr ⟨n, o, _, h2, rfl⟩
section
variable {P : Program} {w : World} {K : PySem.W.Frag} {mg : Str → Option Value} {base : Heap}
abbrev NVi : List Str := ["self", "domain", "count", "results", "arguments", "some", "result"]
theorem sc_vtInit : FnScope NVi ["self", "domain", "count", "results"] (defScope s_vtInit) := ⟨rfl, rfl, rfl, by decide +kernel, rfl, by decide +kernel, by decide +kernel⟩
theorem ok_vtInit (B : Bz mg) (f : MtF K "__init__" "Vote.__init__" s_vtInit) (F : VtF K mg) (C : VtC K mg f.a) :
    FnOk P w K mg base CX0 4 f.a f.d ["self", "domain", "count", "results"] (spVI C.C) := by
  have G1 := ok_is_domain (P := P) (w := w) (base := base) B.toBs F.dom F.nms F.nm F.asc
  have b1 : L2.Binds K F.dom.d ["thing"] [] := F.dom.F.binds fun _ _ _ _ _ _ us hl => match us, hl with | [_], _ => rfl
  have G2 := ok_all_rowsF (P := P) (w := w) (base := base) B.toBs F.all
  have b2 : L2.Binds K F.all.d ["columns"] [] := F.all.F.binds fun _ _ _ _ _ _ us hl => match us, hl with | [_], _ => rfl
  have G3 := ok_is_row (P := P) (w := w) (base := base) B.toBs F.row
  have b3 : L2.Binds K F.row.d ["thing", "domain", "length"] [] := F.row.F.binds fun _ _ _ _ _ _ us hl => match us, hl with | [_, _, _], _ => rfl
  have G4 := ok_winner (P := P) (w := w) (base := base) B.toBs F.win F.wo
  have b4 : L2.Binds K F.win.d ["some"] [] := F.win.F.binds fun _ _ _ _ _ _ us hl => match us, hl with | [_], _ => rfl
  refine f.F.ok sc_vtInit (fun vs H Q E h => ?_) (fun cdv A outer s H vs Q E hr h => ?_)
  · obtain ⟨x, dx, d, r, xs, rs, k, rfl, _⟩ := h
    rfl
  · obtain ⟨x, dx, d, r, xs, rs, k, rfl, hx, hd, hR, g, q⟩ := h
    have hu64 := hr.units
    have hr1 : Room 1 _ := hr.mono (by omega)
    have hr3 : Room 3 _ := hr.mono (by omega)
    have hr2 : Room 2 _ := hr.mono (by omega)
    refine ⟨_, (pss_cons
      (ps_if (pt_not (pt_val (pe_call G1 hr3 rfl F.dom.g F.dom.F.kp b1 .nil pass0 (pa_cons (pv 1) pa_nil))))
        (pss_one
          ps_dead)
        pss_nil)
    (pss_cons
      (ps_if (pt_cmpR op_notIn_seq (pv 2) (pe_tup (pa_cons pe_int (pa_cons pe_int pa_nil))) (by rfl))
        (pss_one
          ps_dead)
        pss_nil)
    (pss_cons
      (ps_set (i := 4) sc_vtInit.nd rfl (Or.inl rfl) (pe_call G2 hr1 rfl F.all.g F.all.F.kp b2 .nil pass0 (pa_cons (pe_op op_rep (pe_lst (pa_cons (pv 1) pa_nil)) (pv 2)) pa_nil)))
    (pss_cons
      (ps_if (pt_not (pt_val (pe_call G3 hr1 rfl F.row.g F.row.F.kp b3 .nil pass0 (pa_cons (pv 3) (pa_cons (pv 1) (pa_cons (pe_callB call_len (by rfl) B.n_len (by decide +kernel) (pa_cons (pv 4) pa_nil)) pa_nil))))))
        (pss_one
          ps_dead)
        pss_nil)
    (pss_cons
      (ps_if (pt_not (pt_val (pe_callB (cr_all rfl) (by rfl) B.n_all (by decide +kernel) (pa_cons (pe_lc (own := [("some", 5), ("result", 6)]) (g := gTup K 2 (gCons (gName 5) (gCons (gName 6) gNil))) (by rfl) sc_vtInit.nd (RZ.pi_zipA rfl B.n_zip (pa_cons (pv 4) (pa_cons (pv 3) pa_nil))) (blkOk_by (own := [("some", 5), ("result", 6)]) (N := NVi) (sc := defScope s_vtInit) (by decide +kernel))
        (fun _ _ _ _ _ => (show PG _ _ (gTup K 2 (gCons (gName 5) (gCons (gName 6) gNil))) from pg_tup (by rfl) (pgs_cons (pg_name (i := 5) sc_vtInit.nd rfl (Or.inl rfl)) (pgs_cons (pg_name (i := 6) sc_vtInit.nd rfl (Or.inl rfl)) pgs_nil)))) (fun _ _ _ _ _ => pts_nil)
        (fun _ _ _ _ _ => (pe_cmpR (show OpR _ (compareOp .In) (rIn K false) from op_in_seq) (pe_call G4 hr2 rfl F.win.g F.win.F.kp b4 .nil pass0 (pa_cons (pv 5) pa_nil)) (pe_tup (pa_cons pe_non (pa_cons (pv 6) pa_nil))) (by rfl)))) pa_nil))))
        (pss_one
          ps_dead)
        pss_nil)
    (pss_cons
      (ps_fld (pv 0) (pv 1) rfl)
    (pss_cons
      (ps_fld (pv 0) (pv 2) rfl)
    (pss_cons
      (ps_fld (pv 0) (pv 3) rfl)
    (pss_one
      (ps_thaw (ps_fld (pv 0) (KDz.pe_dictZip (pa_cons (pv 4) (pa_cons (pv 3) pa_nil)) rfl B.n_dict rfl B.n_zip rfl hr3) rfl))))))))))), ?_⟩
    -- is_domain(domain)
    refine ⟨_, rfl, d, xs, rfl, hd, g.ok, List.pairwise_map.mpr g.asc, g.l1, g.l3, fun H1 e1 => ⟨true, rfl, iteF ?_⟩⟩
    -- count not in (3, 4)
    refine ⟨_, rfl, by show 2 ≤ sizeLine; decide, fun t ht => ?_⟩
    have e2 : Same H (upd H1 t (.tup [V.int 3, V.int 4])) := same_trans e1 (same_new ht)
    refine ⟨t, _, rfl, .inr (SqT.of upd_same), rfl, rfl, false, ?_, iteF ?_⟩
    · rcases g.hk with z | z <;> rw [z] <;> rfl
    generalize upd H1 t (.tup [V.int 3, V.int 4]) = H2 at e2 ⊢
    -- [domain] * count
    refine ⟨_, rfl, by show 1 ≤ sizeLine; decide, fun l hl => ⟨_, rfl, ?_⟩⟩
    have e3 : Same H (upd H2 l (.lst [V.ref d])) := same_trans e2 (same_new hl)
    have hk4 : k ≤ 4 := by rcases g.hk with z | z <;> omega
    refine ⟨l, k, [V.ref d], rfl, rfl, upd_same, by omega, by omega, by show 1 * ((k : Int).toNat) ≤ _; rw [sizeLine_eq]; omega, fun l2 hl2 => ?_⟩
    have e4 := same_trans e3 (same_new (o := .lst (List.replicate (k : Int).toNat [V.ref d]).flatten) hl2)
    have h4 : upd (upd H2 l (.lst [V.ref d])) l2 (.lst (List.replicate (k : Int).toNat [V.ref d]).flatten) l2 = some (.lst ((List.replicate k d).map V.ref)) := by
      rw [upd_same]
      congr 2
      rw [Int.toNat_natCast, List.map_replicate]
      exact flat_rep k
    generalize upd (upd H2 l (.lst [V.ref d])) l2 (.lst (List.replicate (k : Int).toNat [V.ref d]).flatten) = H4 at e4 h4 ⊢
    -- all_rows(..)
    have hd4 := e4 _ _ hd
    refine ⟨l2, List.replicate k d, List.replicate k xs, rfl, h4, rows_rep hd4 k, fun i => Nat.le_trans (pts_few g.l3 hk4 i) (by decide), by rw [List.length_replicate]; omega, fun p as H5 hp e5 hp5 hS => ?_⟩
    have e05 := same_trans e4 e5
    have hL := hS.length
    have lR : rs.length = as.length := by rw [hL]; exact g.len
    have few : rs.length ≤ 100 := by
      have z := pts_few g.l3 hk4 k
      rw [List.take_of_length_le (by rw [List.length_replicate]; exact Nat.le_refl _)] at z
      rw [g.len]
      exact z
    -- is_row(results, domain, len(arguments))
    refine ⟨_, rfl, _, rfl, _, rfl, .ref p, rs.length, rfl, .inr ⟨_, SqT.of hp5, lR⟩, r, d, rs, xs, rfl, e05 _ _ hR, e05 _ _ hd, g.sub, by omega, fun H6 e6 => ⟨true, rfl, iteF ?_⟩⟩
    have e06 := same_trans e05 e6
    have hp6 := e6 _ _ hp5
    have hS6 := hS.up e6
    have hr6 := e06 _ _ hR
    -- all([winner(some) in (None, result) ..])
    refine ⟨_, rfl, _, rfl, p, r, as, rs.map V.str, rfl, .inr ⟨SqT.of hp6, SqT.of hr6, fun D hD => ?_⟩⟩
    refine lc_zipT (K := K) (xs := as) (ys := rs.map V.str) (by rw [List.length_map]; exact lR.symm) (fun i H' => Same H6 H' ∧ H' D = some (.lst (List.replicate i (V.bl true)))) ⟨same_new hD, upd_same⟩ (fun i H' z => ⟨SqT.of (z.1 _ _ hp6), SqT.of (z.1 _ _ hr6)⟩) ?_ ?_
    · rintro i y1 y2 T H7 hy1 hy2 ⟨e7, hD7⟩ hT
      obtain ⟨ts, hts, a, rfl, _, fa⟩ := each_get hS6 hy1
      rw [List.getElem?_map] at hy2
      cases hri : rs[i]? with
      | none =>
        rw [hri] at hy2
        cases hy2
      | some u =>
        rw [hri] at hy2
        obtain rfl : V.str u = y2 := Option.some.inj hy2
        have il : i < rs.length := (List.getElem?_eq_some_iff.mp hri).1
        have e8 : Same H7 (upd H7 T (.tup [V.ref a, V.str u])) := same_new hT
        have h8 : upd H7 T (.tup [V.ref a, V.str u]) T = some (.tup [V.ref a, V.str u]) := upd_same
        generalize upd H7 T (.tup [V.ref a, V.str u]) = H8 at e8 h8 ⊢
        have wid : ts.length = k := pts_wid xs k ts (List.mem_of_getElem? hts)
        have wn := g.win (ts, u) (List.mem_of_getElem? (i := i) (by rw [List.getElem?_zip_eq_some]; exact ⟨hts, hri⟩))
        have fl : flatV (optV (winS ts)) = true := by cases winS ts <;> rfl
        have iv : inV (optV (winS ts)) [V.non, V.str u] = true := by
          rcases wn with z | z
          · rw [show winS ts = none from z]; rfl
          · rw [show winS ts = some u from z]
            show (false || ((u == u) || false)) = true
            rw [beq_self_eq_true]
            rfl
        refine ⟨T, _, rfl, SqT.of h8, rfl, _, _, rfl, _, _, rfl, rfl, rfl, _, rfl, a, ts, rfl, (fa.same e7).same e8, by rcases g.hk with z | z <;> omega, by omega, fun HA eA => ⟨_, rfl, by show 2 ≤ sizeLine; decide, fun b hb => ?_⟩⟩
        have e9 : Same H8 (upd HA b (.tup [V.non, V.str u])) := same_trans eA (same_new hb)
        refine ⟨b, _, rfl, .inr (SqT.of upd_same), fl, rfl, _, e9 _ _ (e8 _ _ hD7), by rw [List.length_replicate, sizeLine_eq]; omega, same_put hD (same_trans e7 (same_trans e8 e9)), ?_⟩
        rw [upd_same]
        show some (HO.lst (List.replicate i (V.bl true) ++ [V.bl (inV (optV (winS ts)) [V.non, V.str u])])) = _
        rw [iv, ← List.replicate_succ']
    · rintro H7 ⟨e7, hD7⟩
      rw [← lR] at hD7
      refine ⟨D, List.replicate rs.length true, rfl, SqL.of (by rw [List.map_replicate]; exact hD7), true, congrArg V.bl (bls_all _), iteF ?_⟩
      have e07 := same_trans e06 e7
      have hS7 := hS6.up e7
      have hp7 := e7 _ _ hp6
      have hx7 := e07 _ _ hx
      have ndx : d ≠ x := ne_of hd hx (by intro z; cases z)
      have nrx : r ≠ x := ne_of hR hx (by intro z; cases z)
      have npx : p ≠ x := ne_of hp7 hx7 (by intro z; cases z)
      -- self.domain, self.count, self.results
      refine ⟨_, rfl, _, rfl, x, C.C, dx, _, rfl, hx7, C.cl, C.nd, by decide, ?_⟩
      refine ⟨_, rfl, _, rfl, x, C.C, dx, _, rfl, upd_same, C.cl, C.nn, (by show 1 < 1000; decide), ?_⟩
      refine ⟨_, rfl, _, rfl, x, C.C, dx, _, rfl, upd_same, C.cl, C.nr, (by show 2 < 1000; decide), ?_⟩
      rw [upd_upd, upd_upd]
      have b7 : ButO x H (upd H7 x (.ins C.C dx (putF "results" (V.ref r) (putF "count" (V.int (k : Nat)) (putF "domain" (V.ref d) []))))) := ButO.put (ButO.of e07)
      have hx8 : upd H7 x (.ins C.C dx (putF "results" (V.ref r) (putF "count" (V.int (k : Nat)) (putF "domain" (V.ref d) [])))) x = some (.ins C.C dx (putF "results" (V.ref r) (putF "count" (V.int (k : Nat)) (putF "domain" (V.ref d) [])))) := upd_same
      have kp : ∀ {b : Addr} {o : HO}, H7 b = some o → b ≠ x → upd H7 x (.ins C.C dx (putF "results" (V.ref r) (putF "count" (V.int (k : Nat)) (putF "domain" (V.ref d) [])))) b = some o := fun {b o} h n => by
        rw [upd_ne n]
        exact h
      obtain ⟨ks, ek, e2k, hks⟩ := rows_frz hS7
      subst ek
      have hks8 : ∀ q ∈ ks, H q.1 = none ∧ Fz (upd H7 x (.ins C.C dx (putF "results" (V.ref r) (putF "count" (V.int (k : Nat)) (putF "domain" (V.ref d) []))))) q.1 (q.2.map V.str) := fun q hq => by
        obtain ⟨n0, o, h1, h2⟩ := hks q hq
        exact ⟨e4.free n0, o, kp h1 (ne_of h1 hx7 (by intro z; cases z)), h2⟩
      have hd8 := kp (e07 _ _ hd) ndx
      have hr8 := kp (e07 _ _ hR) nrx
      have hp8 := kp hp7 npx
      generalize upd H7 x (.ins C.C dx (putF "results" (V.ref r) (putF "count" (V.int (k : Nat)) (putF "domain" (V.ref d) [])))) = H8 at b7 hx8 hks8 hd8 hr8 hp8 ⊢
      -- the rows are tuples again
      have th := thawN_at (H := H8) fun q hq => (hks8 q hq).2
      have off : ∀ {b : Addr} {u : HO}, H8 b = some u → (∀ o v, u ≠ .frz o v) → thawN ks H8 b = some u := fun hb n => thawN_off (fun q hq => (hks8 q hq).2) hb n
      have b9 : ButO x H (thawN ks H8) := fun b o h n => by
        have h8 := b7 b o h n
        cases e : ks.find? (fun q => q.1 == b) with
        | none =>
          unfold thawN
          rw [e]
          exact h8
        | some q =>
          have m := List.mem_of_find?_eq_some e
          have ea : q.1 = b := beq_iff_eq.mp (by simpa using List.find?_some e)
          have z := (hks8 q m).1
          rw [ea, h] at z
          cases z
      refine ⟨thawN ks H8, thawN_ok hks8, ?_⟩
      have hx9 := off hx8 (fun _ _ z => nomatch z)
      have hd9 := off hd8 (fun _ _ z => nomatch z)
      have hr9 := off hr8 (fun _ _ z => nomatch z)
      have hp9 := off hp8 (fun _ _ z => nomatch z)
      generalize thawN ks H8 = H9 at th b9 hx9 hd9 hr9 hp9 ⊢
      -- self.result_of
      have lk : ks.length = rs.length := by
        have z := congrArg List.length e2k
        rw [List.length_map] at z
        rw [z]
        exact g.len.symm
      have nd : xs.Nodup := g.asc.imp fun {a b} h e => by rw [e, ltT_irr] at h; cases h
      refine ⟨_, rfl, _, rfl, p, r, ks, rs.map V.str, rfl, rfl, SqT.of hp9, SqT.of hr9, th, by rw [lk, List.length_map], by rw [e2k]; exact pts_nodup nd k, by omega, fun t ht => ?_⟩
      have hx10 : upd H9 t (.dT (KDz.dtOf ks (rs.map V.str))) x = some (.ins C.C dx (putF "results" (V.ref r) (putF "count" (V.int (k : Nat)) (putF "domain" (V.ref d) [])))) := by
        rw [upd_ne (ne_of_none hx9 ht)]
        exact hx9
      have e910 : Same H9 (upd H9 t (.dT (KDz.dtOf ks (rs.map V.str)))) := same_new ht
      have ntx : t ≠ x := fun z => by
        rw [z, hx9] at ht
        cases ht
      refine ⟨_, rfl, x, C.C, dx, _, rfl, hx10, C.cl, C.no, (by show 3 < 1000; decide), ?_⟩
      have htH : H t = none := by
        cases e : H t with
        | none => rfl
        | some o =>
          have z := b9 t o e ntx
          rw [ht] at z
          cases z
      refine q _ t (ButO.put (b9.then e910)) htH upd_same ⟨ks, ?_, ?_, ?_, e2k⟩
      · rw [upd_ne ndx]
        exact e910 _ _ hd9
      · rw [upd_ne nrx]
        exact e910 _ _ hr9
      · rw [upd_ne ntx, upd_same]
end
end K01
/-! raise C(e), C an own class two deep over Exception, with its own __init__. -/
namespace KQ
open PySem PySem.Spec PySem.W PyProof.Rows PySem.Calls L2 KG KX
section
variable {X : Cx} {CX : CXT} {e : Expr} {es : List Expr} {p pos : Pos} {ta : TA}
theorem pmk_ex {x : Str} {C fI : Addr} {k : Nat} {fd : FuncData} {ps : List Str} {sp : Sp} (T : ExC X.K C) (ty : typeIn X.K (.ref C) = some (.type "type")) (iC : findIn X.K (.ref C) "__init__" = some (some (.ref fI)))
    (tI : typeIn X.K (.ref fI) = some (.type "function")) (F1 : FnOk X.prog X.w X.K X.mg X.base CX k fI fd ps sp) (hr : Room (k + 1) X.A) (hb : L2.Binds X.K fd ps []) (hx : Passes CX X (fun _ _ _ => False)) (hg : Gl X x) (hm : X.mg x = some (.ref C))
    (ha : PA X (e :: es) ta) (hdb : (x == ("__debug__" : Str)) = false := by decide) (he : starEach (e :: es) X.env = (false, eval e X.env) :: starEach es X.env := by rfl) (hpl : (backTo pos (starEach es X.env)).any (·.1) = false := by rfl) :
    PMk X (.Call (.Name x p) (e :: es) [] pos) (tMkO C sp [] ta) := by
  intro pins s σ H Q I h
  obtain ⟨nm, q, N, bs, bm, sn, sub, ab, col, dd, k0, k1, k2, k3, k5, hC, hbm⟩ := T.cls
  apply wpAny_Call_Name_kw (ld_glob I hg hm ?_ hdb)
  apply callWith_K (h₀ := X.base) I.ok.mod.kin T.kp ?_ he hpl
  apply thn (ha.run pos pins s σ H _ I h)
  rintro us s1 ⟨vs, H1, I1, r, hl, q1⟩
  refine ⟨I1.kIn, ?_⟩
  show wpAny _ _ (call (.ref C) us) _ _ _
  obtain ⟨hp, g, dr, tk, os⟩ := s1
  have new : hp.objs.size ≤ hp.objs.size + 1 := Nat.le_succ _
  have kp : ∀ b o, hp.get? b = some o → ((hp.push (kdv_tup us)).push (HandSPX.excO C hp.objs.size)).get? b = some o := fun b o z => Heap.get?_push_of_some _ (Heap.get?_push_of_some _ z)
  have at_ : ((hp.push (kdv_tup us)).push (HandSPX.excO C hp.objs.size)).get? (hp.objs.size + 1) = some (HandSPX.excO C hp.objs.size) := by heap_get
  have J : Inv X pins σ (upd H1 (hp.objs.size + 1) (exo (hp.objs.size + 1) C none)) ⟨(hp.push (kdv_tup us)).push (HandSPX.excO C hp.objs.size), g, dr, tk, os⟩ :=
    I1.laid (a := hp.objs.size + 1) (o := exo (hp.objs.size + 1) C none) (h' := (hp.push (kdv_tup us)).push (HandSPX.excO C hp.objs.size)) (t' := tk) kp new (exo_ok at_)
  have hq := q1 (hp.objs.size + 1) (I1.hok.fresh new)
  have r2 : Vals (V.ref (hp.objs.size + 1) :: (vs ++ [])) (Value.ref (hp.objs.size + 1) :: us) := by
    rw [List.append_nil]
    exact .cons rfl r
  have len : ((Value.ref (hp.objs.size + 1) :: us) ++ []).length = ps.length := by
    rw [List.append_nil]
    have z := r2.length
    rw [F1.len _ _ _ _ hq] at z
    exact z.symm
  have bnd := hb ⟨(hp.push (kdv_tup us)).push (HandSPX.excO C hp.objs.size), g, dr, tk, os⟩ (Value.ref (hp.objs.size + 1) :: us) J.kIn len
  rw [List.append_nil] at bnd
  have hz : us.length ≤ sizeLine := by
    rw [← Paired.length r, sizeLine_eq]
    omega
  apply wpAny_call
  apply HandSPX.call_own PySem.F.excBase_Exception (fun Y => excTail_contains Y bm hbm) (I1.kIn _ _ hC) (looks_findIn I1.kIn iC) (fun self => bind_fn I1.kIn self tI) hz
  refine codeAny_mono (F1.run _ X.stack _ _ ⟨Value.ref (hp.objs.size + 1) :: us, []⟩ (Value.ref (hp.objs.size + 1) :: us) _ _ (fun _ _ _ => False) (hr.make C us []) (J.env0.make C us []) bnd r2 hq) ?_
  rintro (er | fl) s' z
  · exact hx pins σ _ _ er s' J z
  · cases fl with
    | ret u =>
      obtain ⟨v, H2, os2, bare2, un2, hok2, rv, ev, d, fs, ea, ed, hd1, q2⟩ := z
      subst ev
      obtain ⟨h2, g2, d2, t2, os3⟩ := s'
      exact ⟨rv, mk_end (raises_own T.bx ty) I1 new kp un2 hok2 os2 bare2 ea ed hd1 q2⟩
    | next => exact z.elim
    | brk => exact z.elim
    | cont => exact z.elim
end
end KQ
namespace KX
open PySem PySem.Spec PySem.W PyProof.Rows PySem.Calls
section
variable {M : Model} {A : Around} {E : Value → Shared → Prop} {h : Heap} {g : Array GenState} {d : Drawn} {t : Nat} {os : OsState}
variable {nm q : Str} {C N : Addr} {bs bm bmB : List Value} {hdct : Bool} {sn : List Str} {sub : List Value} {ab : Bool} {col : Option Bool} {dd : Option Addr} {k0 k1 k2 k3 k5 : Option Value} {B newId initId : String}
theorem check_newK (F : ExcBaseFacts B newId initId bmB) (hT : ∀ X : String, bm.contains (.type X) = bmB.contains (.type X)) {rest : List Value} {kn : Str} {kv : Value} {Q : Unit → Shared → Prop}
    (hC : h.get? C = some (excClassObj nm q C N bs bm hdct sn sub ab col dd k0 k1 k2 k3 k5 newId)) (hq : Q () ⟨h, g, d, t, os⟩) : wpAny M A (checkBuiltinCall newId ⟨.ref C :: rest, [(kn, kv)]⟩) Q E ⟨h, g, d, t, os⟩ := by
  have hc : (Value.ref C :: bm).contains (.type B) = true := by rw [List.contains_cons, hT, F.hasB, Bool.or_true]
  have hs := F.noStar
  simp only [checkBuiltinCall, F.newKind, F.newSplit, F.newRow]
  repeat (first | refine wpAny_madeBy_exc hC ?_ | refine wpAny_staticBase_exc hC ?_ | refine wpAny_loadPart_at hC ?_ | (refine wpAny_isSubtype_exc hC ?_; rw [hc]) | simp only [bne_self_eq_false, Bool.false_eq_true, if_false] | wp_step)
  exact hq
end
section
variable {prog : Program} {w : World} {A : Around} {E : Value → Shared → Prop} {R : Result → Shared → Prop} {h : Heap} {g : Array GenState} {d : Drawn} {t : Nat} {os : OsState}
variable {nm q : Str} {C N : Addr} {bs bm bmB : List Value} {hdct : Bool} {sn : List Str} {sub : List Value} {ab : Bool} {col : Option Bool} {dd : Option Addr} {k0 k1 k2 k3 k5 : Option Value} {B newId initId : String}
theorem newK (F : ExcBaseFacts B newId initId bmB) (hT : ∀ X : String, bm.contains (.type X) = bmB.contains (.type X)) {rest : List Value} {kn : Str} {kv : Value}
    (hC : h.get? C = some (excClassObj nm q C N bs bm hdct sn sub ab col dd k0 k1 k2 k3 k5 newId))
    (hq : R (.ok (.ret (.ref (h.objs.size + 1)))) ⟨(h.push { cls := .type "tuple", data := .seq rest.toArray }).push (HandSPX.excO C h.objs.size), g, d, t, os⟩) (hrest : rest.length ≤ sizeLine) :
    codeAny (model prog w) A (.builtin newId ⟨.ref C :: rest, [(kn, kv)]⟩) R ⟨h, g, d, t, os⟩ := by
  have he := F.ends
  have c1 : (Value.ref C :: bm).contains (.type B) = true := by rw [List.contains_cons, hT, F.hasB, Bool.or_true]
  have c2 : (Value.ref C :: bm).contains (.type "AttributeError") = false := by rw [List.contains_cons, hT, F.noAttr]; rfl
  have c3 : (Value.ref C :: bm).contains (.type "NameError") = false := by rw [List.contains_cons, hT, F.noName]; rfl
  apply codeAny_builtinAt F.entry
  unfold Builtin.«BaseException.__new__»
  refine PySem.wpAt_bind ?_
  show PySem.wpAt _ _ _ (stack >>= _) _ _ _
  refine PySem.wpAt_bind (PySem.wpAt_stack fun p below => PySem.wpAt_of_wpAny ?_)
  wp_walk
  refine PySem.wpAt_of_wpAny ?_
  rw [F.owner]
  repeat (first | with_reducible refine wpAny_loadPart_at hC ?_ | with_reducible refine wpAny_madeHere_exc F.canon hC ?_ | (with_reducible refine wpAny_isSubtype_exc hC ?_; first | rw [c1] | rw [c2] | rw [c3]) | wp_step)
  show R _ _
  rw [Heap.size_push]
  exact hq
theorem type_callK (F : ExcBaseFacts B newId initId bmB) (hT : ∀ X : String, bm.contains (.type X) = bmB.contains (.type X)) {rest : List Value} {kn : Str} {kv : Value} {fI : Addr} {Q : Fin → Shared → Prop}
    (hC : h.get? C = some (excClassObj nm q C N bs bm hdct sn sub ab col dd k0 k1 k2 k3 k5 newId))
    (hi : Looks (model prog w) h (typeLookup (.ref C) "__init__") (some (.ref fI))) (hb : ∀ self, Looks (model prog w) h (bindSpecial (.ref fI) self) (.ref fI, [self])) (hrest : rest.length ≤ sizeLine)
    (hq : codeAny (model prog w) A (.call (.ref fI) ⟨.ref (h.objs.size + 1) :: rest, [(kn, kv)]⟩)
      (fun r s' => match r with | .ok (.ret v) => v = .none ∧ Q (.done (.ret (.ref (h.objs.size + 1)))) s' | .ok _ => False | .error e => E e s')
      ⟨(h.push (kdv_tup rest)).push (HandSPX.excO C h.objs.size), g, d, t, os⟩) :
    wpAny (model prog w) A (Builtin.«type.__call__» ⟨.ref C :: rest, [(kn, kv)]⟩) Q E ⟨h, g, d, t, os⟩ := by
  repeat (first | with_reducible refine wpAny_madeBy_exc hC ?_ | with_reducible refine wpAny_loadPart_at hC ?_ | wp_step)
  refine codeAny_call_builtin_code (Code.quiet_builtin _ F.quiet) (check_newK F hT hC ?_)
  refine newK F hT hC ?_ hrest
  show wpAny _ _ _ _ _ _
  have kp : ∀ b o, h.get? b = some o → ((h.push (kdv_tup rest)).push (HandSPX.excO C h.objs.size)).get? b = some o := fun b o e => Heap.get?_push_of_some _ (Heap.get?_push_of_some _ e)
  have hC1 := kp _ _ hC
  have at_ : ((h.push (kdv_tup rest)).push (HandSPX.excO C h.objs.size)).get? (h.objs.size + 1) = some (HandSPX.excO C h.objs.size) := by heap_get
  have own : (Value.ref C :: bm).contains (.ref C) = true := by simp
  have i1 := hi.keeps kp
  have b1 := (hb (.ref (h.objs.size + 1))).keeps kp
  unfold isInstance
  repeat (first | with_reducible refine wpAny_loadPart_at at_ ?_ | (with_reducible refine wpAny_isSubtype_exc hC1 ?_; rw [own]) | wp_step)
  show wpAny _ _ (typeLookup (.ref C) _) _ _ _
  refine i1.at (wpAny_holding (wpAny_bind (b1.at ?_)))
  refine wpAny_bind (wpAny_call (codeAny_mono hq fun r s' z => ?_))
  rcases r with e | (v | _ | _ | _)
  · exact z
  all_goals try exact z.elim
  obtain ⟨rfl, z⟩ := z
  first
    | exact wpAny_pure (wpAny_pure z)
    | (wp_walk; exact z)
theorem call_ownK (F : ExcBaseFacts B newId initId bmB) (hT : ∀ X : String, bm.contains (.type X) = bmB.contains (.type X)) {rest : List Value} {kn : Str} {kv : Value} {fI : Addr}
    (hC : h.get? C = some (excClassObj nm q C N bs bm hdct sn sub ab col dd k0 k1 k2 k3 k5 newId))
    (hi : Looks (model prog w) h (typeLookup (.ref C) "__init__") (some (.ref fI))) (hb : ∀ self, Looks (model prog w) h (bindSpecial (.ref fI) self) (.ref fI, [self])) (hrest : rest.length ≤ sizeLine)
    (hq : codeAny (model prog w) (A.under (.builtin "type.__call__" ⟨.ref C :: rest, [(kn, kv)]⟩)) (.call (.ref fI) ⟨.ref (h.objs.size + 1) :: rest, [(kn, kv)]⟩) (InitBack (h.objs.size + 1) R)
      ⟨(h.push (kdv_tup rest)).push (HandSPX.excO C h.objs.size), g, d, t, os⟩) :
    codeAny (model prog w) A (.call (.ref C) ⟨rest, [(kn, kv)]⟩) R ⟨h, g, d, t, os⟩ := by
  have f1 := tc_lookup
  have f2 := tc_bind (.ref C)
  have ty : (⟨h, g, d, t, os⟩ : Shared).TypeIs (.ref C) "type" := ⟨_, hC, rfl⟩
  refine codeAny_of_tree ?_
  show wpAny _ _ (callAny (.ref C) _) _ _ _
  repeat (any_goals (first | with_reducible refine wpAny_loadPart_at hC ?_ | assumption | wp_step))
  refine ⟨rfl, ?_⟩
  refine codeAny_call_builtin_at (Code.quiet_builtin _ (by decide +kernel)) entry_typeCall ?_
  refine wpAny_check_type_call_sub hC (type_callK F hT hC hi hb hrest ?_)
  refine codeAny_mono hq fun r s' z => ?_
  rcases r with e | (v | _ | _ | _) <;> exact z
end
end KX
namespace KX
open PySem PySem.Spec PySem.W PyProof.Rows PySem.Calls L2 KG
section
variable {X : Cx} {pins : List (Addr × Obj)} {σ : L2.St} {H : Hp} {s : Shared} {a C : Addr} {f : Str} {y : V} {u : Value} {fs : List (Str × V)}
/-! ### C(k = e) -/
def tExMkK (C : Addr) (sp : Sp) (tk : TA) : TE := fun σ H Q => tk σ H fun vs H1 => ∃ v, vs = [v] ∧ ∀ a, H1 a = none → sp [.ref a, v] (upd H1 a (exo a C none)) (fun v H2 => v = .non ∧ Q (.ref a) H2) E0
/-- a def's one keyword finds its place -/
def KwOne (fd : FuncData) (ps : List Str) (kn : Str) : Prop := ∀ (s : Shared) (u v : Value), BindsTo s fd ⟨[u], [(kn, v)]⟩ (ps.zip [u, v])
theorem kwOne {K : Frag} {x qual : Str} {st : Stmt} {f : Addr} {fd : FuncData} {ps : List Str} {kn : Str} (F : Fun K x qual st f fd)
    (h : ∀ (kV doc pm : Value) (an : Option Addr) (cdv ct : Value) (u v : Value), bindArgs (fnOf x qual (defArgs st) (defBody st) (defScope st) .none kV doc pm an cdv ct) ⟨[u], [(kn, v)]⟩ = pure (ps.zip [u, v])) : KwOne fd ps kn := by
  obtain ⟨oc, od, kV, doc, pm, an, cdv, ct, osl, rfl, lk, hcd⟩ := F.ex
  exact fun s u v => .of_eq (h kV doc pm an cdv ct u v)
theorem pe_exmkK {CX : CXT} {x kn : Str} {fI : Addr} {k : Nat} {fd : FuncData} {ps : List Str} {sp : Sp} {kws : List Keyword} {tk : TA} {p pos : Pos} (T : ExC X.K C) (iC : findIn X.K (.ref C) "__init__" = some (some (.ref fI))) (tI : typeIn X.K (.ref fI) = some (.type "function"))
    (F1 : FnOk X.prog X.w X.K X.mg X.base CX k fI fd ps sp) (hr : Room (k + 1) X.A) (hb : KwOne fd ps kn) (hx : Passes CX X E0) (hg : Gl X x) (hm : X.mg x = some (.ref C)) (hkw : PK X kws tk) (hall : (backToKw pos (keywordEach kws X.env)).all (·.1.isSome) = true := by rfl)
    (hks : (backToKw pos (keywordEach kws X.env)).filterMap (·.1) = [kn] := by rfl) (hdb : (x == ("__debug__" : Str)) = false := by decide)
    (hpl : ((backTo pos (starEach [] X.env)).any (·.1) || (backToKw pos (keywordEach kws X.env)).any (·.1.isNone)) = false := by rfl) : PE X (.Call (.Name x p) [] kws pos) (tExMkK C sp tk) := by
  constructor
  intro pins s σ H Q I h
  apply wpAny_Call_Name_kw (ld_glob I hg hm ?_ hdb)
  apply callWith_KW0 (h₀ := X.base) I.ok.mod.kin T.kp hall ?_ hpl
  apply thn (hkw.run pos pins s σ H _ I h)
  rintro ws s1 ⟨zs, H1, I1, rz, v, ev, q⟩
  subst ev
  obtain ⟨u, eu, ru⟩ := vals1 rz
  subst eu
  refine ⟨I1.kIn, ?_⟩
  rw [hks]
  show wpAny _ _ (call (.ref C) [] [(kn, u)]) _ _ _
  obtain ⟨nm, qn, N, bs, bm, sn, sub, ab, col, dd, k0, k1, k2, k3, k5, hC, hbm⟩ := T.cls
  obtain ⟨hp, g, dr, tkn, os⟩ := s1
  have new : hp.objs.size ≤ hp.objs.size + 1 := Nat.le_succ _
  have kp : ∀ b o, hp.get? b = some o → ((hp.push (kdv_tup [])).push (HandSPX.excO C hp.objs.size)).get? b = some o := fun b o e => Heap.get?_push_of_some _ (Heap.get?_push_of_some _ e)
  have at_ : ((hp.push (kdv_tup [])).push (HandSPX.excO C hp.objs.size)).get? (hp.objs.size + 1) = some (HandSPX.excO C hp.objs.size) := by heap_get
  have J : Inv X pins σ (upd H1 (hp.objs.size + 1) (exo (hp.objs.size + 1) C none)) ⟨(hp.push (kdv_tup [])).push (HandSPX.excO C hp.objs.size), g, dr, tkn, os⟩ :=
    I1.laid (a := hp.objs.size + 1) (o := exo (hp.objs.size + 1) C none) (h' := (hp.push (kdv_tup [])).push (HandSPX.excO C hp.objs.size)) (t' := tkn) kp new (exo_ok at_)
  have hq := q (hp.objs.size + 1) (I1.hok.fresh new)
  have r2 : Vals [V.ref (hp.objs.size + 1), v] [Value.ref (hp.objs.size + 1), u] := .cons rfl (.cons ru .nil)
  apply wpAny_call
  apply call_ownK PySem.F.excBase_Exception (fun Y => excTail_contains Y bm hbm) (I1.kIn _ _ hC) (looks_findIn I1.kIn iC) (fun self => bind_fn I1.kIn self tI) (by rw [sizeLine_eq]; decide)
  refine codeAny_mono (F1.run _ X.stack _ _ ⟨[Value.ref (hp.objs.size + 1)], [(kn, u)]⟩ [Value.ref (hp.objs.size + 1), u] _ _ E0 (hr.make C [] [(kn, u)]) (J.env0.make C [] [(kn, u)]) (hb _ _ _) r2 hq) ?_
  rintro (er | fl) s' z
  · exact hx pins σ _ _ er s' J z
  · cases fl with
    | ret u2 =>
      obtain ⟨v2, H', I3, rv, ev, q3⟩ := Inv.after J z
      subst ev
      exact ⟨rv, ⟨V.ref (hp.objs.size + 1), H', I3, rfl, q3⟩⟩
    | next => exact z.elim
    | brk => exact z.elim
    | cont => exact z.elim
/-- self.f = w, the whole of an __init__ of two parameters -/
def spSet (C : Addr) (f : Str) : Sp := fun vs H Q _ => ∃ (a : Addr) (y : V), vs = [.ref a, y] ∧ H a = some (exo a C none) ∧ ∀ dx, H dx = none → dx ≠ a → Q .non (upd (upd H dx (exd dx [(f, y)])) a (exo a C (some dx)))

/-! ### C(), a class without an __init__ of its own -/
def tExMk0 (C : Addr) : TE := fun _ H Q => ∀ a, H a = none → Q (.ref a) (upd H a (exo a C none))
theorem pe_exmk0 {x : Str} {p pos : Pos} (q : excIn X.K C exTl "Exception.__new__" = true) (kC : keepIn X.K (.ref C) = true) (hg : Gl X x) (hm : X.mg x = some (.ref C)) (hdb : (x == ("__debug__" : Str)) = false := by decide) : PE X (.Call (.Name x p) [] [] pos) (tExMk0 C) := by
  constructor
  intro pins s σ H Q I h
  apply wpAny_Call_Name_kw (ld_glob I hg hm ?_ hdb)
  refine callWith_K0 I.kIn kC ?_
  show wpAny _ _ (call (.ref C) []) _ _ _
  obtain ⟨bm, N, nm, qn, bs, hdct, sn, sub, ab, col, dd, k0, k1, k2, k3, k5, mN, hC, hN, hni, T⟩ := exc_obj I.kIn q
  refine wpAny_call_exc_subT PySem.F.excBase_Exception T hC hN hni (fun h' a hm => ?_) (by show 0 ≤ sizeLine; exact Nat.zero_le _)
  have hn : H a = none := I.hok.gone hm.new
  obtain ⟨t, ht, _, _⟩ := hm.there
  exact ⟨.ref a, upd H a (exo a C none), I.laidN hm.keeps hm.new hn (exo_ok ht), rfl, h a hn⟩

/-! ### e.f -/
def tExGet (K : Frag) (f : Str) (te : TE) : TE := fun σ H Q => te σ H fun x H1 => ∃ (a C : Addr) (fs : List (Str × V)) (v : V), x = .ref a ∧ ExC K C ∧ findIn K (.ref C) f = some none ∧ ExAt H1 a C fs ∧ fs.lookup f = some v ∧ Q v H1
theorem ex_inst (I : Inv X pins σ H s) (h : ExAt H a C fs) : ∃ ox od, InstAt s.heap a ox C od ∧ ∀ (n : Str) (v : V), fs.lookup n = some v → ∃ u o, od = some o ∧ lookIn n o = some (some u) ∧ RelV v u := by
  rcases h with ⟨dx, h1, h2⟩ | ⟨h0, h1⟩
  · obtain ⟨t1, ho⟩ := exo_at I.hok h1
    obtain ⟨mA, hns, hr⟩ := exd_at I.hok h2
    obtain ⟨od, hod, hl⟩ := lookIn_ns hns
    refine ⟨_, some od, ⟨ho, rfl, rfl, hod⟩, fun n v e => ?_⟩
    obtain ⟨u, hu, ru⟩ := RelO.some_of (v := v) (o := mA n) (by rw [← e]; exact hr n)
    exact ⟨u, od, rfl, by rw [hl, hu], ru⟩
  · obtain ⟨t1, ho⟩ := exo_at I.hok h1
    exact ⟨_, none, ⟨ho, rfl, rfl, trivial⟩, fun n v e => by rw [h0] at e; cases e⟩
theorem pe_exget {e : Expr} {te : TE} {pos : Pos} (he : PE X e te) (hb : attributeBase e f X.env (eval e X.env) = eval e X.env := by rfl) : PE X (.Attribute e f pos) (tExGet X.K f te) := by
  constructor
  intro pins s σ H Q I h
  apply attr_of hb
  apply thn (he.run pins s σ H _ I h)
  rintro u s1 ⟨x, H1, I1, rx, a, C, fs, v, ex, T, hno, ea, l, q⟩
  subst ex
  obtain rfl : u = Value.ref a := rx
  obtain ⟨ox, od, J, hf⟩ := ex_inst I1 ea
  obtain ⟨u, o, eo, hl, ru⟩ := hf f v l
  subst eo
  exact HandSPX.exc_get I1.kIn J T.ga T.gg T.bx (findObj_own T.hd hno rfl hl) (handed_of ru) ⟨v, H1, I1.tok _, ru, q⟩
end
end KX
/-! x(e, ..) and x(k = e), x a local that holds an instance. -/
namespace KCo
open PySem PySem.Spec PyProof.Rows L2 StX
section
variable {M : Model} {A : Around} {E : Value → Shared → Prop} {s : Shared} {a : Addr} {pos : Pos} {Q : Value → Shared → Prop} {args : List (Bool × Sem Value)} {kws : List (Option Str × Sem Value)}
/-- a call whose callee is an instance: by position and by name -/
theorem callI_of (hp : (args.any (·.1) || kws.any (·.1.isNone)) = false)
    (h : wpAny M A (evalArgs (.ref a) true args kws) (fun z t => (∃ C ox od, PySem.W.InstAt t.heap a ox C od ∧ ox.data = .plain) ∧ wpAny M A (call (.ref a) z.pos z.kw) Q E t) E s) : wpAny M A (callWith pos (.ref a) [] args kws) Q E s := by
  unfold callWith
  apply wpAny_bind
  apply wpAny_holding
  apply wpAny_mono h ?_ fun _ _ y => y
  rintro z t ⟨⟨C, ox, od, J, hd⟩, w⟩
  apply wpAny_bind
  apply wpAny_standAt
  have L := PySem.W.kco_keeper (M := M) J hd
  simp only [hp]
  apply wpAny_bind
  apply L.here
  have fin : ∀ {m : Sem Value}, wpAny M A m Q E t → wpAny M A (m >>= fun r => holding [r] point >>= fun _ => pure r) Q E t := by
    intro m w
    apply wpAny_bind
    apply wpAny_mono w ?_ fun _ _ y => y
    intro r t2 q
    exact wpAny_bind (wpAny_holding (wpAny_point (wpAny_pure q)))
  apply fin
  exact wpAny_operateT w
end
/-- x(e, ..) -/
def tCallI (C : Addr) (sp : Sp) (E : XK) (tf : TE) (t : TA) : TE := fun σ H Q => tf σ H fun y H1 => ∃ a, y = V.ref a ∧ t σ H1 fun vs H2 => (∃ dx fs, H2 a = some (.ins C dx fs)) ∧ sp (V.ref a :: vs) H2 Q E
/-- x(k = e) -/
def tCallIK (C : Addr) (sp : Sp) (E : XK) (tf : TE) (tk : TA) : TE := fun σ H Q => tf σ H fun y H1 => ∃ a, y = V.ref a ∧ tk σ H1 fun vs H2 => ∃ v, vs = [v] ∧ (∃ dx fs, H2 a = some (.ins C dx fs)) ∧ sp [V.ref a, v] H2 Q E
/-- x(e, ..), what is raised is wished for at the slots -/
def tCallIS (C : Addr) (sp : Sp) (E : L2.St → XK) (tf : TE) (t : TA) : TE := fun σ H Q => tf σ H fun y H1 => ∃ a, y = V.ref a ∧ t σ H1 fun vs H2 => (∃ dx fs, H2 a = some (.ins C dx fs)) ∧ sp (V.ref a :: vs) H2 Q (E σ)
section
variable {X : Cx} {CX : CXT} {k : Nat} {g C : Addr} {fd : FuncData} {ps : List Str} {sp : Sp} {E : XK} {ES : L2.St → XK} {x kn : Str} {p pos : Pos} {e : Expr} {es : List Expr} {kws : List Keyword} {tf : TE} {t tk : TA}
theorem run_callI {pins : List (Addr × Obj)} {σ : L2.St} {H : Hp} {s : Shared} {Q : VK} {a : Addr} {ags : Args} {us : List Value} {vs : List V} (c : CallO X.K C g) (F : FnOk X.prog X.w X.K X.mg X.base CX k g fd ps sp) (hr : Room k X.A)
    (hx : ∀ (e : Value) (s' : Shared), CX X.stack H s E e s' → X.xe e s') (I : Inv X pins σ H s) (hi : ∃ dx fs, H a = some (.ins C dx fs)) (hb : BindsTo s fd ⟨.ref a :: ags.pos, ags.kw⟩ (ps.zip us)) (r : Vals vs us) (h : sp vs H Q E) :
    wpAny (model X.prog X.w) X.A (call (.ref a) ags.pos ags.kw) (EP X pins σ Q) X.xe s := by
  obtain ⟨dx, fs, hi⟩ := hi
  obtain ⟨ox, od, J, hd⟩ := insC_at I (.inr ⟨dx, fs, hi⟩)
  apply wpAny_call
  apply PySem.W.kco_code I.kIn J hd c.at_ c.fn c.fi
  refine codeAny_mono (F.run X.A X.stack s H ⟨.ref a :: ags.pos, ags.kw⟩ us vs Q E hr I.env0 hb r h) ?_
  rintro (er | fl) s' z
  · exact hx er s' z
  · cases fl with
    | ret u => exact I.after z
    | next => exact z.elim
    | brk => exact z.elim
    | cont => exact z.elim
theorem insOut {pins : List (Addr × Obj)} {σ : L2.St} {H : Hp} {s : Shared} {a : Addr} (I : Inv X pins σ H s) (hi : ∃ dx fs, H a = some (.ins C dx fs)) : ∃ C ox od, PySem.W.InstAt s.heap a ox C od ∧ ox.data = .plain := by
  obtain ⟨dx, fs, hi⟩ := hi
  obtain ⟨ox, od, J, hd⟩ := insC_at I (.inr ⟨dx, fs, hi⟩)
  exact ⟨C, ox, od, J, hd⟩
theorem pe_callIS (hf : PE X (.Name x p) tf) (c : CallO X.K C g) (F : FnOk X.prog X.w X.K X.mg X.base CX k g fd ps sp) (hr : Room k X.A) (hb : L2.Binds X.K fd ps []) (hx : ∀ σ, PassesAt CX X σ (ES σ)) (ha : PA X (e :: es) t)
    (he : starEach (e :: es) X.env = (false, eval e X.env) :: starEach es X.env := by rfl) (hpl : (backTo pos (starEach es X.env)).any (·.1) = false := by rfl) : PE X (.Call (.Name x p) (e :: es) [] pos) (tCallIS C sp ES tf t) := by
  refine ⟨fun pins s σ H Q I h => ?_⟩
  refine wpAny_Call_Name_kw (thn (hf.run pins s σ H _ I h) fun u s1 ⟨y, H1, I1, ry, a, ey, q⟩ => ?_)
  subst ey
  obtain rfl : u = Value.ref a := ry
  have pl : (((backTo pos (starEach (e :: es) X.env)).any (·.1)) || (([] : List (Option Str × Sem Value)).any (·.1.isNone))) = false := by
    rw [he]
    show ((false || (backTo pos (starEach es X.env)).any (·.1)) || false) = false
    rw [hpl]
    rfl
  refine callI_of pl ?_
  have z := ha.run pos pins s1 σ H1 _ I1 q
  rw [he] at z ⊢
  refine PySem.Calls.evalArgs_plain (thn z fun us s2 ⟨vs, H2, I2, r, hi, q2⟩ => ⟨insOut I2 hi, ?_⟩)
  have r2 : Vals (V.ref a :: vs) (Value.ref a :: us) := .cons rfl r
  have len : ((Value.ref a :: us) ++ []).length = ps.length := by
    rw [List.append_nil, ← F.len _ _ _ _ q2]
    exact r2.length.symm
  have bnd := hb s2 (Value.ref a :: us) I2.kIn len
  rw [List.append_nil] at bnd
  exact run_callI (ags := ⟨us, []⟩) c F hr (fun e s' z => hx σ pins H2 s2 e s' I2 z) I2 hi bnd r2 q2
theorem pe_callIK (hf : PE X (.Name x p) tf) (c : CallO X.K C g) (F : FnOk X.prog X.w X.K X.mg X.base CX k g fd ps sp) (hr : Room k X.A) (hb : KX.KwOne fd ps kn) (hx : Passes CX X E) (hkw : PK X kws tk)
    (hall : (backToKw pos (keywordEach kws X.env)).all (·.1.isSome) = true := by rfl) (hks : (backToKw pos (keywordEach kws X.env)).filterMap (·.1) = [kn] := by rfl)
    (hpl : ((backTo pos (starEach [] X.env)).any (·.1) || (backToKw pos (keywordEach kws X.env)).any (·.1.isNone)) = false := by rfl) : PE X (.Call (.Name x p) [] kws pos) (tCallIK C sp E tf tk) := by
  refine ⟨fun pins s σ H Q I h => ?_⟩
  refine wpAny_Call_Name_kw (thn (hf.run pins s σ H _ I h) fun u s1 ⟨y, H1, I1, ry, a, ey, q⟩ => ?_)
  subst ey
  obtain rfl : u = Value.ref a := ry
  refine callI_of hpl (evalArgs_kw2_nil hall ?_)
  refine thn (hkw.run pos pins s1 σ H1 _ I1 q) ?_
  rintro us s2 ⟨vs, H2, I2, r, v, ev, hi, q2⟩
  subst ev
  obtain ⟨u, eu, ru⟩ := vals1 r
  subst eu
  refine ⟨insOut I2 hi, ?_⟩
  rw [hks]
  exact run_callI (ags := ⟨[], [(kn, u)]⟩) c F hr (fun e s' z => hx pins σ H2 s2 e s' I2 z) I2 hi (hb _ _ _) (.cons (show L2.RelV (V.ref a) (Value.ref a) from rfl) (.cons ru .nil)) q2
end
end KCo
/-! Vote.__call__: the value or the error. -/
namespace K01
open PySem PySem.Spec PyProof.Rows L2 KG KS KA KX KIa KFz
abbrev s_noInit : Stmt := inCls 3 0
def lookS (S : List (List Str)) (vs : List Str) (L : List Str) : Option Str := ((S.zip vs).find? fun p => decide (p.1 = L)).map (·.2)
theorem look_in : ∀ {S : List (List Str)} {vs : List Str} {L : List Str}, S.length = vs.length → L ∈ S → ∃ v ∈ vs, lookS S vs L = some v
  | [], _, _, _, h => nomatch h
  | s :: S, [], _, l, _ => nomatch l
  | s :: S, v :: vs, L, l, h => by
    unfold lookS
    rw [List.zip_cons_cons, List.find?_cons]
    by_cases e : s = L
    · rw [decide_eq_true e]
      exact ⟨v, List.mem_cons_self, rfl⟩
    · rw [decide_eq_false e]
      obtain ⟨u, hu, k⟩ := look_in (S := S) (vs := vs) (L := L) (Nat.succ.inj l) ((List.mem_cons.mp h).resolve_left fun z => e z.symm)
      exact ⟨u, List.mem_cons_of_mem _ hu, k⟩
theorem val_look : ∀ (ks : List (Addr × List Str)) (vs : List Str) (L : List Str), valV (KDz.dtOf ks (vs.map V.str)) (KDz.entK L) = (lookS (ks.map (·.2)) vs L).map V.str
  | [], _, _ => rfl
  | k :: ks, [], _ => by
    simp [KDz.dtOf, lookS, valV]
  | k :: ks, v :: vs, L => by
    have ih := val_look ks vs L
    unfold KDz.dtOf lookS at ih ⊢
    rw [List.map_cons, List.map_cons, List.map_cons, List.zip_cons_cons, List.zip_cons_cons, List.find?_cons]
    by_cases e : k.2 = L
    · rw [valV_pos (by rw [e]), decide_eq_true e]
      rfl
    · rw [valV_neg (fun z => e (KDz.entK_inj z)), decide_eq_false e]
      exact ih
inductive GrK (K : PySem.W.Frag) (H : Hp) : V → Option (List (Option Str)) → Prop
  | tup {a : Addr} {xs : List V} {os : List (Option Str)} : SqT K H a xs → W.EachIs (ItK K H) xs os → xs.length ≤ 60 → GrK K H (.ref a) (some os)
  | non : GrK K H .non none
  | bl (b : Bool) : GrK K H (.bl b) none
  | str (x : Str) : GrK K H (.str x) none
  | int (n : Int) : GrK K H (.int n) none
  | lst {a : Addr} {xs : List V} : H a = some (.lst xs) → GrK K H (.ref a) none
  | dct {a : Addr} {kvs : List (Key × V)} : H a = some (.dK kvs) → GrK K H (.ref a) none
theorem GrK.up {K : PySem.W.Frag} {H H' : Hp} {v : V} {g : Option (List (Option Str))} (e : Same H H') (h : GrK K H v g) : GrK K H' v g := by
  cases h with
  | tup hs hi l => exact .tup (same_seqT e hs) (each_and hi fun a b _ z => z.same e) l
  | non => exact .non
  | bl b => exact .bl b
  | str x => exact .str x
  | int n => exact .int n
  | lst h => exact .lst (e _ _ h)
  | dct h => exact .dct (e _ _ h)
/-- which is no tuple -/
theorem GrK.no {K : PySem.W.Frag} {H : Hp} {v : V} (h : GrK K H v none) : ∃ t, TyX K H v t ∧ PySem.W.kitOne K t (.type "tuple") = some false := by
  cases h with
  | non => exact ⟨_, .base .non, kit_ty (by decide +kernel)⟩
  | bl b => exact ⟨_, .base (.bl b), kit_ty (by decide +kernel)⟩
  | str x => exact ⟨_, .base (.str x), kit_ty (by decide +kernel)⟩
  | int n => exact ⟨_, .base (.int n), kit_ty (by decide +kernel)⟩
  | lst h => exact ⟨_, .base (.lst h), kit_ty (by decide +kernel)⟩
  | dct h => exact ⟨_, .base (.dK h), kit_ty (by decide +kernel)⟩
theorem all_in {K : PySem.W.Frag} {H : Hp} {ds : List Str} : ∀ {xs : List V} {os : List (Option Str)}, W.EachIs (ItK K H) xs os → (os.all fun o => inIt o ds) = true → ∃ g : List Str, xs = g.map V.str ∧ os = g.map some ∧ ∀ y ∈ g, y ∈ ds
  | _, _, .nil, _ => ⟨[], rfl, rfl, fun _ z => nomatch z⟩
  | _, _, .cons (a := v) (b := o) r t, h => by
    rw [List.all_cons, Bool.and_eq_true] at h
    obtain ⟨h1, h2⟩ := h
    obtain ⟨g, e1, e2, e3⟩ := all_in t h2
    cases r with
    | str x =>
      rw [inIt_some] at h1
      exact ⟨x :: g, by rw [List.map_cons, e1], by rw [List.map_cons, e2], fun y hy => (List.mem_cons.mp hy).elim (fun z => by rw [z]; exact of_decide_eq_true h1) (e3 y)⟩
    | int _ => rw [inIt_none] at h1; cases h1
    | bl _ => rw [inIt_none] at h1; cases h1
    | non => rw [inIt_none] at h1; cases h1
    | lst _ => rw [inIt_none] at h1; cases h1
    | tup _ => rw [inIt_none] at h1; cases h1
    | dct _ => rw [inIt_none] at h1; cases h1
/-- NoVote -/
structure ErC (K : PySem.W.Frag) (mg : Str → Option Value) where
  C : Addr
  g : mg "NoVote" = some (.ref C)
  T : ExC K C
  a : Addr
  d : FuncData
  F : Fun K "__init__" "NoVote.__init__" s_noInit a d
  iC : PySem.W.findIn K (.ref C) "__init__" = some (some (.ref a))
  tI : PySem.W.typeIn K (.ref a) = some (.type "function")
  nf : PySem.W.findIn K (.ref C) "word" = some none
  ty : PySem.W.typeIn K (.ref C) = some (.type "type")
  ex : PySem.W.exmOne K (.ref C) (.ref C) = some true
/-- a vote at o -/
def VtAt (C : Addr) (H : Hp) (o : Addr) (xs : List Str) (k : Nat) (rs : List Str) : Prop := ∃ dx d r t, H o = some (.ins C dx (vtFs d k r t)) ∧ VtIn H d r t xs k rs
theorem VtIn.up {H H' : Hp} {d r t : Addr} {xs rs : List Str} {k : Nat} (h : VtIn H d r t xs k rs) (e : Same H H') : VtIn H' d r t xs k rs := by
  obtain ⟨ks, h1, h2, h3, h4⟩ := h
  exact ⟨ks, e _ _ h1, e _ _ h2, e _ _ h3, h4⟩
theorem VtAt.up {C : Addr} {H H' : Hp} {o : Addr} {xs rs : List Str} {k : Nat} (h : VtAt C H o xs k rs) (e : Same H H') : VtAt C H' o xs k rs := by
  obtain ⟨dx, d, r, t, h1, h2⟩ := h
  exact ⟨dx, d, r, t, e _ _ h1, h2.up e⟩
/-- what is due: the word of the error, or the value -/
def vdue (xs : List Str) (k : Nat) (rs : List Str) : Option (List (Option Str)) → Sum Str Str
  | none => .inl "count"
  | some os => if os.length ≠ k then .inl "count" else if (os.all fun o => inIt o xs) = true then .inr ((lookS (ptsL k xs) rs (os.filterMap id)).getD Str.empty) else .inl "domain"
/-- vote(some): the value, or the error -/
def spVC (K : PySem.W.Frag) (C N : Addr) : Sp := fun vs H Q E => ∃ (o : Addr) (v : V) (xs rs : List Str) (k : Nat) (g : Option (List (Option Str))), vs = [.ref o, v] ∧ VtAt C H o xs k rs ∧ VGood xs k rs ∧ GrK K H v g ∧ (∀ u, vdue xs k rs g = .inr u → ∃ (a : Addr) (gs : List Str), v = .ref a ∧ g = some (gs.map some) ∧ H a = some (.tup (gs.map V.str))) ∧
  (∀ u H', vdue xs k rs g = .inr u → u ∈ rs → Same H H' → Q (.str u) H') ∧ ∀ wd d H', vdue xs k rs g = .inl wd → Same H H' → H d = none → H' d = some (.xd [(("word" : Str), V.str wd)]) → E (.ref N) (some d) H'
theorem pts_mem {xs : List Str} : ∀ (k : Nat) (g : List Str), g.length = k → (∀ y ∈ g, y ∈ xs) → g ∈ ptsL k xs := by
  intro k
  induction k with
  | zero =>
    intro g h _
    rw [List.eq_nil_of_length_eq_zero h]
    exact List.mem_singleton.mpr rfl
  | succ k ih =>
    intro g h sub
    obtain ⟨q, c, rfl⟩ : ∃ q c, g = q ++ [c] := ⟨g.dropLast, g.getLast (fun z => by rw [z] at h; cases h), (List.dropLast_concat_getLast _).symm⟩
    rw [List.length_append] at h
    have hq := ih q (by simpa using h) fun y hy => sub y (List.mem_append_left _ hy)
    unfold ptsL prods
    rw [List.replicate_succ', List.foldl_append]
    exact List.mem_flatMap.mpr ⟨q, hq, List.mem_map.mpr ⟨c, sub c (List.mem_append_right _ List.mem_cons_self), rfl⟩⟩
theorem fm_some : ∀ g : List Str, (g.map some).filterMap id = g
  | [] => rfl
  | x :: g => by
    rw [List.map_cons, List.filterMap_cons_some (by rfl), fm_some g]
theorem vdue_in {xs rs : List Str} {k : Nat} (G : VGood xs k rs) {g : List Str} (sub : ∀ y ∈ g, y ∈ xs) (l : g.length = k) : ∃ v ∈ rs, lookS (ptsL k xs) rs g = some v ∧ vdue xs k rs (some (g.map some)) = .inr v := by
  obtain ⟨v, hv, e⟩ := look_in (vs := rs) G.len.symm (pts_mem k g l sub)
  refine ⟨v, hv, e, ?_⟩
  show (if (g.map some).length ≠ k then Sum.inl ("count" : Str) else if ((g.map some).all fun o => inIt o xs) = true then .inr ((lookS (ptsL k xs) rs ((g.map some).filterMap id)).getD Str.empty) else .inl "domain") = .inr v
  rw [if_neg (by rw [List.length_map]; exact fun z => z l), if_pos ((all_texts g xs).trans (decide_eq_true sub)), fm_some, e]
  rfl
section
variable {P : Program} {w : World} {K : PySem.W.Frag} {mg : Str → Option Value} {base : Heap}
theorem sc_noInit : FnScope ["self", "word"] ["self", "word"] (defScope s_noInit) := ⟨rfl, rfl, rfl, by decide +kernel, rfl, by decide +kernel, by decide +kernel⟩
theorem ok_noInit (E : ErC K mg) : FnOk P w K mg base CX0 1 E.a E.d ["self", "word"] (spSet E.C "word") := by
  refine E.F.ok sc_noInit (fun vs H Q E h => ?_) (fun cdv A outer s H vs Q E' hr h => ?_)
  · obtain ⟨a, y, rfl, _⟩ := h
    rfl
  · obtain ⟨a, y, rfl, ha, q⟩ := h
    exact ⟨_, (pss_one (ps_exset (pv 0) (pv 1))), ⟨_, rfl, _, rfl, a, E.C, rfl, E.T, E.nf, ha, fun dx hd nd => q dx hd nd⟩⟩
theorem sc_vtCall : FnScope ["self", "some"] ["self", "some"] (defScope s_vtCall) := ⟨rfl, rfl, rfl, by decide +kernel, rfl, by decide +kernel, by decide +kernel⟩
theorem ok_vtCall (B : Bz mg) (f : MtF K "__call__" "Vote.__call__" s_vtCall) {fI : Addr} (C : VtC K mg fI) (N : ErC K mg) (fr : FnF K mg "is_row" "is_row" s_is_row) :
    FnOk P w K mg base (L2.CX P w) 3 f.a f.d ["self", "some"] (spVC K C.C N.C) := by
  have G1 := ok_is_rowA (P := P) (w := w) (base := base) B.toBs fr
  have b1 : L2.Binds K fr.d ["thing", "domain", "length"] [] := fr.F.binds fun _ _ _ _ _ _ us hl => match us, hl with | [_, _, _], _ => rfl
  have G3 := ok_noInit (P := P) (w := w) (base := base) N
  have b3 : L2.Binds K N.d ["self", "word"] [] := N.F.binds fun _ _ _ _ _ _ us hl => match us, hl with | [_, _], _ => rfl
  refine f.F.okX sc_vtCall (fun vs H Q E h => ?_) (fun cdv A outer s H vs Q E hr h => ?_)
  · obtain ⟨o, v, xs, rs, k, g, rfl, _⟩ := h
    rfl
  · obtain ⟨o, v, xs, rs, k, g, rfl, hO, G, hg, htv, qv, qe⟩ := h
    obtain ⟨dx, d, r, t, ho, ks, hd, hR, ht, eks⟩ := hO
    have hu64 := hr.units
    have hu := hu_of hr
    have hr1 : Room 1 _ := hr.mono (by omega)
    refine ⟨_, (pss_cons
      (ps_if (PW.pt (pw_or (pt_not (pt_val (pe_callB call_isi (by rfl) B.n_isinstance (by decide +kernel) (pa_cons (pv 1) (pa_cons (pe_bltn (v := .ty "tuple") rfl B.n_tuple (by decide +kernel) rfl) pa_nil)))))
          (pw_or1 (pt_cmpR op_ne (pe_callB call_len (by rfl) B.n_len (by decide +kernel) (pa_cons (pv 1) pa_nil)) (pe_fld (pv 0) rfl) (nomark _)))))
        (pss_one
          (ps_raise (W := fun cls d _ H => E cls d H) rfl (takes_of rfl rfl rfl rfl) (KQ.pmk_ex N.T N.ty N.iC N.tI G3 hr b3 pass0 rfl N.g (pa_cons pe_str pa_nil))))
        pss_nil)
    (pss_cons
      (ps_if (pt_not (pt_val (pe_call G1 hr1 rfl fr.g fr.F.kp b1 .nil pass0 (pa_cons (pv 1) (pa_cons (pe_fld (pv 0) rfl) (pa_cons (pe_fld (pv 0) rfl) pa_nil))))))
        (pss_one
          (ps_raise (W := fun cls d _ H => E cls d H) rfl (takes_of rfl rfl rfl rfl) (KQ.pmk_ex N.T N.ty N.iC N.tI G3 hr b3 pass0 rfl N.g (pa_cons pe_str pa_nil))))
        pss_nil)
    (pss_one
      (ps_ret (pe_dget hu (pe_fld (pv 0) rfl) (pv 1) (fun _ _ => rfl)))))), ?_⟩
    -- the error
    have err : ∀ (wd : Str), vdue xs k rs g = .inl wd → ∀ H1, Same H H1 → (tMkO N.C (spSet N.C "word") [] (tCons (fun σ H Q => Q (V.str wd) H) tNil)) (start ["self", "some"] [.ref o, v]) H1 fun cls d H' => E cls d H' := fun wd hdu H1 e1 => by
      refine ⟨by show 1 ≤ 1000; decide, fun a ha => ⟨a, .str wd, rfl, upd_same, fun dd hdd ndd => ⟨rfl, dd, _, upd_same, by rw [upd_ne ndd, upd_same], ?_, ?_⟩⟩⟩
      · rw [upd_ne ndd] at hdd
        exact hdd
      · have hdd1 : H1 dd = none := by
          rw [upd_ne ndd] at hdd
          exact hdd
        refine qe wd dd _ hdu (fun b u h => ?_) (e1.free hdd1) upd_same
        have h1 := e1 _ _ h
        have nb : b ≠ dd := ne_of_none h1 hdd1
        have na : b ≠ a := ne_of_none h1 ha
        rw [upd_ne nb, del_ne na, upd_ne na, upd_ne nb, upd_ne na]
        exact h1
    cases g with
    | none =>
      obtain ⟨t, ty, kt⟩ := hg.no
      exact ⟨_, rfl, _, _, _, _, false, rfl, .ty "tuple", ty, kt, false, rfl, iteT (err _ rfl H (fun _ _ e => e))⟩
    | some os =>
      obtain ⟨a, vs, rfl, hs, hi, l60⟩ : ∃ a vs, v = .ref a ∧ SqT K H a vs ∧ W.EachIs (ItK K H) vs os ∧ vs.length ≤ 60 := by
        cases hg with
        | tup h1 h2 h3 => exact ⟨_, _, rfl, h1, h2, h3⟩
      have lo : vs.length = os.length := hi.length
      refine ⟨_, rfl, _, _, _, _, true, rfl, .ty "tuple", tyT hs, kit_ty (by decide +kernel), true, rfl, iteF ?_⟩
      refine ⟨_, rfl, .ref a, vs.length, rfl, .inr ⟨_, hs, rfl⟩, _, rfl, o, C.C, dx, _, _, rfl, ho, C.cl, C.nn, rfl, rfl, _, rfl, ite2 (fun c => ?_) fun c => ?_⟩
      · have nk : os.length ≠ k := fun z => by
          rw [show (V.int (vs.length : Nat) : V) = V.int (k : Nat) by rw [lo, z], decide_eq_true rfl] at c
          cases c
        exact err "count" (if_pos nk) H (fun _ _ e => e)
      · have lk : os.length = k := Classical.byContradiction fun z => c (by
          rw [decide_eq_false (fun y => z (by injection y with y; omega))]
          rfl)
        have few : vs.length ≤ 1000 := by omega
        have lv : vs.length = k := lo.trans lk
        refine ⟨_, rfl, _, rfl, o, C.C, dx, _, _, rfl, ho, C.cl, C.nd, rfl, _, rfl, o, C.C, dx, _, _, rfl, ho, C.cl, C.nn, rfl, a, d, vs, os, xs, (by rw [lv]; rfl), hs, hi, SqT.of hd, few, fun H1 e1 => ⟨_, rfl, ?_⟩⟩
        cases hal : os.all fun o => inIt o xs with
        | false =>
          refine iteT (err "domain" ?_ H1 e1)
          show (if os.length ≠ k then Sum.inl ("count" : Str) else if (os.all fun o => inIt o xs) = true then .inr ((lookS (ptsL k xs) rs (os.filterMap id)).getD Str.empty) else .inl "domain") = _
          rw [if_neg (fun z => z lk), hal]
          rfl
        | true =>
          refine iteF ?_
          obtain ⟨gs, rfl, rfl, sub⟩ := all_in hi hal
          rw [List.length_map] at lk
          obtain ⟨u, hu1, hu2, hu3⟩ := vdue_in G sub lk
          obtain ⟨a2, ys, ea, eg, ha2⟩ := htv u hu3
          cases ea
          have hy : gs = ys := (List.map_inj_right fun _ _ z => Option.some.inj z).mp (Option.some.inj eg)
          subst hy
          have dg : DGet H1 t (.ref a) (valV (KDz.dtOf ks (rs.map V.str)) (KDz.entK gs)) := DGet.t (e1 _ _ ht) (by rw [KDz.entK_kV]; exact e1 _ _ ha2)
          rw [val_look, eks, hu2] at dg
          exact ⟨_, rfl, o, C.C, dx, _, _, rfl, e1 _ _ ho, C.cl, C.no, rfl, _, rfl, t, _, rfl, dg, qv u H1 hu3 hu1 e1⟩
end
end K01
/-! Own operators of instances: x op y of one class, x == y of any y, ~x. -/
namespace KO
open PySem PySem.Spec PySem.W PyProof.Rows L2 KG
section
variable {X : Cx} {CX : CXT} {pins : List (Addr × Obj)} {σ : L2.St} {H : Hp} {s : Shared} {a C dx g : Addr} {fs : List (Str × V)} {n : Nat} {fd : FuncData} {ps : List Str} {sp : Sp} {E : XK}
theorem ins_inst (I : L2.Inv X pins σ H s) (h : H a = some (.ins C dx fs)) : ∃ ox od, InstAt s.heap a ox C od := by
  obtain ⟨mA, O, _⟩ := ins_get I.hok h
  obtain ⟨od, J, _⟩ := O.look
  exact ⟨_, od, J⟩
/-- x op y, both of the class at C, whose def for op keeps sp -/
def rBin (C : Addr) (sp : Sp) (E : XK) : R2 := fun x y H Q => ∃ a b dx dy fs gs, x = V.ref a ∧ y = V.ref b ∧ H a = some (.ins C dx fs) ∧ H b = some (.ins C dy gs) ∧ sp [x, y] H Q E
theorem op_bin {op : Operator} (hs : findIn X.K (.ref C) (PySem.dunder op.info.2) = some (some (.ref g))) (hf : isFn X.K (.ref g) = true) (hc : selfFirst X.K C = true)
    (F : FnOk X.prog X.w X.K X.mg X.base CX n g fd ps sp) (hb : L2.Binds X.K fd ps []) (hr : Room n X.A) (hx : Passes CX X E) : OpR X (binaryOp op) (rBin C sp E) := by
  intro pins s σ H x y v u Q I rx ry h
  obtain ⟨a, b, dx, dy, fs, gs, rfl, rfl, ha, hb2, q⟩ := h
  cases (show v = Value.ref a from rx)
  cases (show u = Value.ref b from ry)
  obtain ⟨ox, od, J⟩ := ins_inst I ha
  obtain ⟨oy, oe, J2⟩ := ins_inst I hb2
  obtain ⟨m, hF⟩ := I.fr
  refine binop_K (op := op) hF I.ok.mod.kin J J2.type hc hs hf ?_
  refine wpAny_mono (run_fn (us := [.ref a, .ref b]) (vs := [.ref a, .ref b]) F hr hb .nil hx I (.cons rfl (.cons rfl .nil)) q) (fun w s' z => ?_) fun _ _ x => x
  obtain ⟨z', H', I', rz, qz⟩ := z
  exact SlX.cmpback rz ⟨z', H', I', rz, qz⟩
/-- x == y, x of the class at C whose __eq__ keeps sp; y anything that is of no class below C -/
def rCmp (K : Frag) (C : Addr) (sp : Sp) (E : XK) : R2 := fun x y H Q => ∃ a dx fs t, x = V.ref a ∧ H a = some (.ins C dx fs) ∧ TyX K H y t ∧ notFirst K C t = true ∧ sp [x, y] H Q E
theorem op_cmp {op : CmpOp} (hop : ∀ a b, compareOp op a b = richCompare op a b) (hs : findIn X.K (.ref C) (cmpInfo op).2.1 = some (some (.ref g))) (hf : isFn X.K (.ref g) = true)
    (F : FnOk X.prog X.w X.K X.mg X.base CX n g fd ps sp) (hb : L2.Binds X.K fd ps []) (hr : Room n X.A) (hx : Passes CX X E) : OpR X (compareOp op) (rCmp X.K C sp E) := by
  intro pins s σ H x y v u Q I rx ry h
  obtain ⟨a, dx, fs, t, rfl, ha, ty, hn, q⟩ := h
  cases (show v = Value.ref a from rx)
  obtain ⟨ox, od, J⟩ := ins_inst I ha
  obtain ⟨P, Z, p, _⟩ := kit_of I ry ty
  obtain ⟨m, hF⟩ := I.fr
  rw [hop]
  refine cmp_K (op := op) (tb := t) hr.units0 hF I.ok.mod.kin J (Z.ty _ _ I.kIn p) hn hs hf ?_
  refine wpAny_mono (run_fn (us := [.ref a, u]) (vs := [.ref a, y]) F hr hb .nil hx I (.cons rfl (.cons ry .nil)) q) (fun w s' z => ?_) fun _ _ x => x
  obtain ⟨z', H', I', rz, qz⟩ := z
  exact SlX.cmpback rz ⟨z', H', I', rz, qz⟩
/-- ~x -/
def rUnI (C : Addr) (sp : Sp) (E : XK) : V → Hp → VK → Prop := fun x H Q => ∃ a dx fs, x = V.ref a ∧ H a = some (.ins C dx fs) ∧ sp [x] H Q E
theorem un_invI (hs : findIn X.K (.ref C) "__invert__" = some (some (.ref g))) (hf : isFn X.K (.ref g) = true) (F : FnOk X.prog X.w X.K X.mg X.base CX n g fd ps sp) (hb : L2.Binds X.K fd ps []) (hr : Room n X.A) (hx : Passes CX X E) : UnR X (unaryOp .Invert) (rUnI C sp E) := by
  intro pins s σ H x v Q I rx h
  obtain ⟨a, dx, fs, rfl, ha, q⟩ := h
  cases (show v = Value.ref a from rx)
  obtain ⟨ox, od, J⟩ := ins_inst I ha
  obtain ⟨m, hF⟩ := I.fr
  exact ksp_inv hF I.ok.mod.kin J hs hf (run_fn (us := [.ref a]) (vs := [.ref a]) F hr hb .nil hx I (.cons rfl .nil) q)
end
end KO
/-! x != y of instances whose class has an own __eq__ and no own __ne__. -/
namespace KO
open PySem PySem.Spec PySem.W PyProof.Rows L2 KG
section
variable {M : Model} {prog : Program} {w : World} {A : Around} {E : Value → Shared → Prop} {s : Shared} {K : PySem.W.Frag} {x C f L : Addr} {h₀ : Heap} {m : Str → Option Value} {ox : Obj} {od : Option Obj} {b : Value} {tb : Value}
theorem entry_ne {Q : Fin → Shared → Prop} (X : K.In s.heap) (I : PySem.W.InstAt s.heap x ox C od) (hu : A.units < cLine) (hs : findIn K (.ref C) "__eq__" = some (some (.ref f))) (hf : isFn K (.ref f) = true)
    (hcall : wpAny (model prog w) A (call (.ref f) [.ref x, b]) (fun v s' => ∃ r, v = .bool r ∧ Q (.done (.ret (.bool (!r)))) s') E s) : wpAny (model prog w) A (Builtin.«object.__ne__» ⟨[.ref x, b], []⟩) Q E s := by
  unfold Builtin.«object.__ne__»
  repeat (first
    | with_reducible refine wpAny_cRoomFor hu ?_
    | (refine wpAny_bind (m := callSpecialIfBound? (.ref x) (Str.ofString "__eq__") [b])
        (ifBound_K X I hs hf (wpAny_mono hcall (fun v s' hr => by
          obtain ⟨r, rfl, hq⟩ := hr
          repeat (first | exact hq | exact wpAny_pure hq | exact wpAny_truthy_bool hq | (refine wpAny_bind (m := truthy (.bool _)) (wpAny_truthy_bool ?_)) | wp_step)) fun _ _ e => e)))
    | wp_step)
theorem call_objNe {Q : Value → Shared → Prop} (X : K.In s.heap) (I : PySem.W.InstAt s.heap x ox C od) (hu : A.in1.units < cLine) (hm : mroIn K C (.type "object") = some true) (hs : findIn K (.ref C) "__eq__" = some (some (.ref f))) (hf : isFn K (.ref f) = true)
    (hcall : wpAny (model prog w) A.in1 (call (.ref f) [.ref x, b]) (fun v s' => ∃ r, v = .bool r ∧ Q (.bool (!r)) s') E s) : wpAny (model prog w) A (call (.builtin "object.__ne__") [.ref x, b]) Q E s :=
  wpAny_call (codeAny_call_builtin F.cmp_object.ne.plain F.cmpEntry_ne (PySem.W.check_slot F.cmpKind_ne F.cmpSplit_ne (I.type.andThen (PySem.W.looks_mroIn X hm)) (F.cmpArgs_ne _ _) (entry_ne X I hu hs hf hcall)))
theorem ifBound_objNe {args : List Value} {Q : Option Value → Shared → Prop} (X : K.In s.heap) (I : PySem.W.InstAt s.heap x ox C od) (hs : findIn K (.ref C) "__ne__" = some (some (.builtin "object.__ne__")))
    (h : wpAny M A (call (.builtin "object.__ne__") (.ref x :: args)) (fun v => Q (some v)) E s) : wpAny M A (callSpecialIfBound? (.ref x) "__ne__" args) Q E s := by
  simp only [callSpecialIfBound?, bindSpecialIfBound?]
  refine wpAny_holding (wpAny_bind (wpAny_bind (wpAny_bind (I.type.here ((PySem.W.looks_findIn X hs).here ?_)))))
  refine wpAny_bind (wpAny_askSetting (wpAny_ite ?_))
  have fin : wpAny M A (call (.builtin "object.__ne__") ([.ref x] ++ args) >>= fun v => pure (some v)) Q E s := wpAny_bind (wpAny_mono h (fun v s' h' => wpAny_pure h') fun _ _ h' => h')
  split
  · exact wpAny_bind (wpAny_of_eq (F.cmp_object.ne.bind _) (wpAny_pure (by exact fin)))
  · exact wpAny_tryCatch (wpAny_bind (wpAny_of_eq (F.cmp_object.ne.bind _) (wpAny_pure (by exact fin))))
theorem ne_K {Q : Value → Shared → Prop} (hu0 : A.units < cLine) (hu : A.in1.units < cLine) (F : Fr h₀ L s.heap m) (X₀ : K.In h₀) (I : InstAt s.heap x ox C od) (hb : Looks (model prog w) s.heap (typeOf b) tb) (hn : notFirst K C tb = true)
    (hm : mroIn K C (.type "object") = some true) (hne : findIn K (.ref C) "__ne__" = some (some (.builtin "object.__ne__"))) (hs : findIn K (.ref C) "__eq__" = some (some (.ref f))) (hf : isFn K (.ref f) = true)
    (h : wpAny (model prog w) A.in1 (call (.ref f) [.ref x, b]) (fun v s' => ∃ r, v = .bool r ∧ Q (.bool (!r)) s') E s) : wpAny (model prog w) A (richCompare .NotEq (.ref x) b) Q E s := by
  have X := X₀.keeps F.keep
  have one : wpAny (model prog w) A (tryCompare (.ref x) (cmpInfo .NotEq).2.1 b) (fun r s' => ∃ v, r = some v ∧ Q v s') E s := by
    unfold tryCompare
    refine wpAny_bind (ifBound_objNe X I hne (call_objNe X I hu hm hs hf (wpAny_mono h (fun v s' hv => ?_) fun _ _ e => e)))
    obtain ⟨r, rfl, hq⟩ := hv
    exact ⟨r, rfl, wpAny_pure ⟨_, rfl, hq⟩⟩
  unfold richCompare
  simp only [oneThing_ref]
  refine wpAny_holding (wpAny_bind (wpAny_cRoomFor hu0 ?_))
  refine wpAny_bind (I.type.here (wpAny_bind (hb.here ?_)))
  split
  · rename_i q
    have e : subIn K tb (.ref C) = some false := by
      rcases Bool.or_eq_true_iff.mp hn with e | e
      · rw [beq_iff_eq.mp e] at q; simp at q
      · exact beq_iff_eq.mp e
    refine wpAny_bind ((looks_subIn X e).here ?_)
    simp only [Bool.false_eq_true, if_false]
    refine wpAny_bind (wpAny_mono one (fun r s' z => ?_) fun _ _ e => e)
    obtain ⟨v, rfl, hq⟩ := z
    exact wpAny_pure hq
  · refine wpAny_bind (wpAny_pure ?_)
    simp only [Bool.false_eq_true, if_false]
    refine wpAny_bind (wpAny_mono one (fun r s' z => ?_) fun _ _ e => e)
    obtain ⟨v, rfl, hq⟩ := z
    exact wpAny_pure hq
end
section
variable {X : Cx} {CX : CXT} {g C : Addr} {n : Nat} {fd : FuncData} {ps : List Str} {sp : Sp} {E : XK}
def rNe (K : Frag) (C : Addr) (sp : Sp) (E : XK) : R2 := fun x y H Q => ∃ a dx fs t, x = V.ref a ∧ H a = some (.ins C dx fs) ∧ TyX K H y t ∧ notFirst K C t = true ∧ sp [x, y] H (fun v H' => ∃ b, v = .bl b ∧ Q (.bl (!b)) H') E
/-- what `!=` of a class needs -/
structure NeC (K : Frag) (C g : Addr) : Prop where
  m : mroIn K C (.type "object") = some true
  ne : findIn K (.ref C) "__ne__" = some (some (.builtin "object.__ne__"))
  eq : findIn K (.ref C) "__eq__" = some (some (.ref g))
  fn : isFn K (.ref g) = true
theorem op_neI (N : NeC X.K C g) (F : FnOk X.prog X.w X.K X.mg X.base CX n g fd ps sp) (hb : L2.Binds X.K fd ps []) (hr : Room (n + 1) X.A) (hx : Passes CX X E) : OpR X (compareOp .NotEq) (rNe X.K C sp E) := by
  intro pins s σ H x y v u Q I rx ry h
  obtain ⟨a, dx, fs, t, rfl, ha, ty, hn, q⟩ := h
  cases (show v = Value.ref a from rx)
  obtain ⟨ox, od, J⟩ := ins_inst I ha
  obtain ⟨P, Z, p, _⟩ := kit_of I ry ty
  obtain ⟨m, hF⟩ := I.fr
  show wpAny (model X.prog X.w) X.A (richCompare .NotEq (.ref a) u) _ _ _
  refine ne_K hr.units0 hr.in1.units0 hF I.ok.mod.kin J (Z.ty _ _ I.kIn p) hn N.m N.ne N.eq N.fn ?_
  have e0 : Env0 X.prog X.w X.K X.mg X.base X.A.in1 X.stack s H := by
    have e := I.env0
    exact ⟨e.frames, e.mod, e.bs, e.bsz, e.funs, e.frf, e.hok, e.bare⟩
  have hl := F.len _ _ _ _ q
  have r2 : Vals [V.ref a, y] [Value.ref a, u] := .cons rfl (.cons ry .nil)
  refine wpAny_call (codeAny_mono (F.run X.A.in1 X.stack s H ⟨[.ref a, u], []⟩ [.ref a, u] [.ref a, y] _ E hr.in1 e0 (by
    have := hb s [.ref a, u] I.kIn (by simpa using hl)
    simpa using this) r2 q) fun r s' hq => ?_)
  cases r with
  | error e => exact hx pins σ H s e s' I hq
  | ok fl =>
    cases fl with
    | ret w =>
      obtain ⟨z, H', I', rz, b, ez, q'⟩ := I.after hq
      subst ez
      cases (show w = Value.bool b from rz)
      exact ⟨b, rfl, .bl (!b), H', I', rfl, q'⟩
    | next => exact False.elim hq
    | brk => exact False.elim hq
    | cont => exact False.elim hq
end
end KO
/-! vote == vote, vote != vote. -/
namespace K01
open PySem PySem.Spec PyProof.Rows L2 KG KS KA KX KIa KFz
/-- a def's promise by position -/
theorem fnR_of {P : Program} {w : World} {K : PySem.W.Frag} {mg : Str → Option Value} {base : Heap} {CX : CXT} {k : Nat} {f : Addr} {fd : FuncData} {ps : List Str} {sp : Sp} (F : FnOk P w K mg base CX k f fd ps sp)
    (hb : ∀ (s : Shared) (us : List Value), us.length = ps.length → BindsTo s fd ⟨us, []⟩ (ps.zip us)) : FnR P w K mg base CX k f sp := fun A outer s H us vs Q E hr e0 r h =>
  F.run A outer s H ⟨us, []⟩ us vs Q E hr e0 (hb s us (by rw [← r.length]; exact F.len _ _ _ _ h)) r h
/-- C.m(k = a) -/
def tCMeth1 (C : Addr) (sp : Sp) (E : XK) (ta : TE) (tk : TA) : TE := fun σ H Q => ta σ H fun x H1 => x = .ref C ∧ tk σ H1 fun zs H2 => ∃ u, zs = [u] ∧ sp [.ref C, u] H2 Q E
section
variable {X : Cx} {CX : CXT} {k : Nat} {C p g : Addr} {mc : Value} {fd : FuncData} {ps : List Str} {sp : Sp} {E : XK} {o : Expr} {kws : List Keyword} {m kn : Str} {pos apos : Pos} {ta : TE} {tk : TA} {pl : Sem Bool}
theorem pe_cmeth1 (he : PE X o ta) (r : ClX.CRead X.K C mc) (c : ClX.CMet X.K C mc m p g) (F : FnOk X.prog X.w X.K X.mg X.base CX k g fd ps sp) (hr : Room k X.A) (hb : KwOne fd ps kn) (hx : Passes CX X E) (hkw : PK X kws tk)
    (hall : (backToKw pos (keywordEach kws X.env)).all (·.1.isSome) = true := by rfl) (hks : (backToKw pos (keywordEach kws X.env)).filterMap (·.1) = [kn] := by rfl)
    (hpl : ((backTo pos (starEach [] X.env)).any (·.1) || (backToKw pos (keywordEach kws X.env)).any (·.1.isNone)) = false := by rfl)
    (ht : eval (.Call (.Attribute o m apos) [] kws pos) X.env = (do
      let ov ← eval o X.env
      standAt apos.atName
      let (f, first) ← holding [ov] (getMethod ov m pl)
      callWith pos f first (backTo pos (starEach [] X.env)) (backToKw pos (keywordEach kws X.env))) := by rfl) : PE X (.Call (.Attribute o m apos) [] kws pos) (tCMeth1 C sp E ta tk) := by
  refine ⟨fun pins s σ H Q I h => ?_⟩
  refine PySem.W.methodCall_KW (pl := pl) (thn (he.run pins s σ H _ I h) fun u s1 ⟨x, H1, I1, rx, ex, q⟩ => ?_) ht
  subst ex
  obtain rfl : u = Value.ref C := rx
  refine ClX.getmethcm_ok I1 r c fun s2 I2 => ?_
  refine PySem.W.callWith_of hpl (PySem.W.keeps_M (self := .ref C) c.fi) (PyProof.Rows.evalArgs_kw2_nil hall ?_)
  refine thn (hkw.run pos _ s2 σ H1 _ I2 q) ?_
  rintro ws s3 ⟨zs, H2, I3, rz, a, ev, q2⟩
  subst ev
  obtain ⟨u1, eu, r1⟩ := vals1 rz
  subst eu
  refine ⟨⟨ClX.pin_at I3, I3.kIn⟩, ?_⟩
  rw [hks]
  have z : wpAny (model X.prog X.w) X.A (call (.ref s1.heap.objs.size) [] [(kn, u1)]) (EP X ((s1.heap.objs.size, PySem.W.methodObj (.ref g) (.ref C)) :: pins) σ Q) X.xe s3 := by
    refine wpAny_call (PySem.W.method_call (ClX.pin_at I3) ?_)
    refine codeAny_mono (F.run X.A X.stack s3 H2 ⟨[.ref C], [(kn, u1)]⟩ [.ref C, u1] [.ref C, a] Q E hr I3.env0 (hb _ _ _) (.cons rfl (.cons r1 .nil)) q2) ?_
    rintro (er | fl) s' z
    · exact hx _ σ H2 s3 er s' I3 z
    · cases fl with
      | ret u => exact I3.after z
      | next => exact z.elim
      | brk => exact z.elim
      | cont => exact z.elim
  exact thn z fun _ _ y => ClX.unpinE y
end
/-- vote == vote, of the same -/
def spVtEq (C : Addr) : Sp := fun vs H Q _ => ∃ (x y : Addr) (xs rs : List Str) (k : Nat), vs = [.ref x, .ref y] ∧ VtAt C H x xs k rs ∧ VtAt C H y xs k rs ∧ (∀ z ∈ xs, nameOk z = true) ∧ (∀ z ∈ rs, z ∈ xs) ∧ Q (.bl true) H
section
variable {P : Program} {w : World} {K : PySem.W.Frag} {mg : Str → Option Value} {base : Heap}
theorem sc_vtEq : FnScope ["self", "other"] ["self", "other"] (defScope s_vtEq) := ⟨rfl, rfl, rfl, by decide +kernel, rfl, by decide +kernel, by decide +kernel⟩
theorem ok_vtEq {it : Addr} (B : Bz mg) (C : VtC K mg it) (J : C8.InsC K C.C) (f : MtF K "__eq__" "Vote.__eq__" s_vtEq) : FnOk P w K mg base CX0 1 f.a f.d ["self", "other"] (spVtEq C.C) := by
  refine f.F.ok sc_vtEq (fun vs H Q E h => ?_) (fun cdv A outer s H vs Q E hr h => ?_)
  · obtain ⟨x, y, xs, rs, k, rfl, _⟩ := h
    rfl
  · obtain ⟨x, y, xs, rs, k, rfl, TX, TY, ok, sub, q⟩ := h
    have hu64 := hr.units
    refine ⟨_, (pss_one
      (ps_ret (pe_and (pe_callB (C8.call_isC J) (by rfl) B.n_isinstance (by decide +kernel) (pa_cons (pv 1) (pa_cons (pe_glob (v := .ref C.C) rfl C.g rfl) pa_nil))) (pe_and (pe_cmpR (op_eqD hu64) (pe_fld (pv 0) rfl) (pe_fld (pv 1) rfl) (nomark _)) (pe_and (pe_cmpR op_eq (pe_fld (pv 0) rfl) (pe_fld (pv 1) rfl) (nomark _)) (pe_one (pe_cmpR (op_eqD hu64) (pe_fld (pv 0) rfl) (pe_fld (pv 1) rfl) (nomark _)))))))), ?_⟩
    obtain ⟨dx, d, r, t, ht, ks, hd, hr1, _⟩ := TX
    obtain ⟨dx2, d2, r2, t2, ht2, ks2, hd2, hr2, _⟩ := TY
    have sh : SeqAt.shaped (txd xs) = true := txd_shaped fun x hx => name_strOk (ok x hx)
    have sh2 : SeqAt.shaped (txd rs) = true := txd_shaped fun x hx => name_strOk (ok x (sub x hx))
    have ev : ∀ ys : List Str, PyData.eqv (txd ys) (txd ys) = true := fun ys => by
      simp only [txd, PyData.eqv]
      exact texts_eqv ys
    refine ⟨_, rfl, y, dx2, _, rfl, ht2, ?_⟩
    refine ⟨true, rfl, iteT ?_⟩
    refine ⟨_, rfl, x, C.C, dx, _, _, rfl, ht, C.cl, C.nd, rfl, _, rfl, y, C.C, dx2, _, _, rfl, ht2, C.cl, C.nd, rfl, txd xs, txd xs, .tup (SqT.of hd) (texts_dp _), .tup (SqT.of hd2) (texts_dp _), sh, sh, true, by rw [ev], iteT ?_⟩
    refine ⟨_, rfl, x, C.C, dx, _, _, rfl, ht, C.cl, C.nn, rfl, _, rfl, y, C.C, dx2, _, _, rfl, ht2, C.cl, C.nn, rfl, rfl, true, by rw [decide_eq_true rfl], iteT ?_⟩
    refine ⟨_, rfl, x, C.C, dx, _, _, rfl, ht, C.cl, C.nr, rfl, _, rfl, y, C.C, dx2, _, _, rfl, ht2, C.cl, C.nr, rfl, txd rs, txd rs, .tup (SqT.of hr1) (texts_dp _), .tup (SqT.of hr2) (texts_dp _), sh2, sh2, ?_⟩
    rw [ev]
    exact q
end
end K01
/-! zip of any number of tuples of one length, the items not unpacked. -/
namespace KZn
open PySem PySem.Spec PySem.F PySem.SeqAt PyProof.Rows L2 RZ
section
variable {prog : Program} {w : World} {A : Around} {E : Value → Shared → Prop}
theorem forIn_wp {α β : Type} {f : α → β → Sem (ForInStep β)} {Q : β → Shared → Prop} (b : Nat → β) (Pv : Nat → Shared → Prop) : ∀ (l : List α) (j : Nat) (s : Shared), Pv j s →
    (∀ m x s' (Q' : ForInStep β → Shared → Prop), l[m]? = some x → Pv (j + m) s' → (∀ s2, Pv (j + m + 1) s2 → Q' (.yield (b (j + m + 1))) s2) → wpAny (model prog w) A (f x (b (j + m))) Q' E s') →
    (∀ s', Pv (j + l.length) s' → Q (b (j + l.length)) s') → wpAny (model prog w) A (forIn l (b j) f) Q E s
  | [], j, s, h0, _, hd => by
    rw [List.forIn_nil]
    exact wpAny_pure (hd s h0)
  | x :: l, j, s, h0, hs, hd => by
    rw [List.forIn_cons]
    refine wpAny_bind (hs 0 x s _ rfl h0 fun s2 h2 => ?_)
    refine forIn_wp b Pv l (j + 1) s2 h2 (fun m y s' Q' hy hp q => ?_) fun s' hp => ?_
    · have e : j + 1 + m = j + (m + 1) := by omega
      rw [e] at hp q ⊢
      exact hs (m + 1) y s' Q' hy hp q
    · have e : j + 1 + l.length = j + (x :: l).length := by rw [List.length_cons]; omega
      rw [e] at hp ⊢
      exact hd s' hp
/-- the record of a zip -/
abbrev ZRec (h : Heap) (z TI TO : Addr) (f0 : Value) (f1 : Bool) : Prop :=
  h.get? z = some { cls := .type "zip", dict := none, data := .fields #[f0, .bool f1, .bool false, .ref TI, .ref TO], slots := #[] }
/-- what its first field may be -/
def Own (f0 : Value) : Prop := f0 = .none ∨ ∃ T : Addr, f0 = rawInt T
abbrev TupO (h : Heap) (T : Addr) (vs : List Value) : Prop := h.get? T = some { cls := .type "tuple", data := .seq vs.toArray }
/-- what stands apart -/
structure Apart (z TI TO : Addr) (is ls : List Addr) : Prop where
  TIz : TI ≠ z
  TOz : TO ≠ z
  TITO : TI ≠ TO
  iz : ∀ i ∈ is, i ≠ z
  iI : ∀ i ∈ is, i ≠ TI
  iO : ∀ i ∈ is, i ≠ TO
  nd : is.Nodup
  lz : ∀ l ∈ ls, l ≠ z
  lO : ∀ l ∈ ls, l ≠ TO
  li : ∀ l ∈ ls, ∀ i ∈ is, l ≠ i
  len : is.length = ls.length
/-- the iterators, the first j of them one further -/
def ItAt (h : Heap) (is ls : List Addr) (j k : Nat) : Prop := ∀ (m : Nat) (i l : Addr), is[m]? = some i → ls[m]? = some l → h.IsTupleIter i l (if m < j then k + 1 else k)
/-- the items at a place -/
def Items (h : Heap) (ls : List Addr) (k : Nat) (xs : List Value) : Prop := xs.length = ls.length ∧ ∀ (m : Nat) (l : Addr) (x : Value), ls[m]? = some l → xs[m]? = some x → ∃ its : Array Value, h.IsTuple l its ∧ its[k]? = some x
variable {s : Shared}
theorem load_alive {a : Addr} {Q : Option Obj → Shared → Prop} (h : Q (s.heap.get? a) s) : wpAny (model prog w) A (loadIfAlive a) Q E s := fun _ _ _ => h
theorem isFree {z TI TO : Addr} {f0 : Value} {f1 : Bool} {Q : Bool → Shared → Prop} (hz : ZRec s.heap z TI TO f0 f1) (ho : Own f0)
    (h : ∀ b f1' h', ZRec h' z TI TO f0 f1' → Heap.SameBut z s.heap h' → Q b { s with heap := h' }) : wpAny (model prog w) A (Builtin.SmallTypes.ownedTupleIsFree (.ref z)) Q E s := by
  unfold Builtin.SmallTypes.ownedTupleIsFree
  rcases ho with rfl | ⟨T, rfl⟩
  · exact wpAny_bind (wpAny_field hz rfl (x := .none) rfl (wpAny_pure (h true f1 s.heap hz (Heap.SameBut.refl _ _))))
  · refine wpAny_bind (wpAny_field hz rfl (x := rawInt T) rfl ?_)
    show wpAny _ _ (loadIfAlive ((T : Int).toNat) >>= _) _ _ _
    rw [Int.toNat_natCast]
    cases hT : s.heap.get? T with
    | none =>
      refine wpAny_bind (load_alive ?_)
      rw [hT]
      simp only [Option.isNone_none, if_true]
      exact wpAny_pure (h true f1 s.heap hz (Heap.SameBut.refl _ _))
    | some oT =>
      refine wpAny_bind (load_alive ?_)
      rw [hT]
      simp only [Option.isNone_some, Bool.false_eq_true, if_false]
      refine wpAny_bind (wpAny_field hz rfl (x := .bool f1) rfl ?_)
      cases f1 with
      | true =>
        rw [if_neg (show ¬ ((Value.bool true != Value.bool true) = true) from Bool.false_ne_true)]
        exact wpAny_pure (h false true s.heap hz (Heap.SameBut.refl _ _))
      | false =>
        rw [if_pos (show (Value.bool false != Value.bool true) = true from rfl)]
        exact wpAny_bind (wpAny_setField_rec hz (by simp) fun h₁ hz₁ hs₁ => wpAny_pure (h false true h₁ hz₁ hs₁))
/-- what stands while the items are drawn into the tuple that is owned -/
structure PvF (s0 : Shared) (z TI TO : Addr) (is ls : List Addr) (k : Nat) (xs os : List Value) (f1 : Bool) (j : Nat) (s : Shared) : Prop where
  hz : ZRec s.heap z TI TO .ellipsis f1
  hO : TupO s.heap TO (xs.take j ++ os.drop j)
  hi : ItAt s.heap is ls j k
  sz : s.heap.objs.size = s0.heap.objs.size
  kp : ∀ c o, c ≠ z → c ≠ TO → (∀ i ∈ is, c ≠ i) → s0.heap.get? c = some o → s.heap.get? c = some o
  eq : s = { s0 with heap := s.heap }
/-- .. into a new one -/
structure PvH (s0 : Shared) (z TI TO : Addr) (is ls : List Addr) (k : Nat) (f0 : Value) (f1 : Bool) (os : List Value) (j : Nat) (s : Shared) : Prop where
  hz : ZRec s.heap z TI TO f0 f1
  hO : TupO s.heap TO os
  hi : ItAt s.heap is ls j k
  sz : s.heap.objs.size = s0.heap.objs.size
  kp : ∀ c o, c ≠ z → c ≠ TO → (∀ i ∈ is, c ≠ i) → s0.heap.get? c = some o → s.heap.get? c = some o
  eq : s = { s0 with heap := s.heap }
theorem it_next {h h' : Heap} {is ls : List Addr} {j k : Nat} {i l : Addr} (nd : is.Nodup) (hi : ItAt h is ls j k) (hm : is[j]? = some i) (hl : ls[j]? = some l) (h1 : h'.IsTupleIter i l (k + 1)) (hs : Heap.ExtBut i h h') : ItAt h' is ls (j + 1) k := fun m i2 l2 hi2 hl2 => by
  by_cases e : m = j
  · subst e
    obtain rfl := Option.some.inj (hm.symm.trans hi2)
    obtain rfl := Option.some.inj (hl.symm.trans hl2)
    rw [if_pos (by omega)]
    exact h1
  · have ne : i2 ≠ i := fun z => e ((List.getElem?_inj (List.getElem?_eq_some_iff.mp hi2).1 nd).mp (by rw [hi2, hm, z]))
    have z := hi m i2 l2 hi2 hl2
    have e2 : (if m < j + 1 then k + 1 else k) = if m < j then k + 1 else k := by
      by_cases y : m < j
      · rw [if_pos y, if_pos (by omega)]
      · rw [if_neg y, if_neg (by omega)]
    rw [e2]
    exact z.extBut hs ne
theorem it_ext {h h' : Heap} {is ls : List Addr} {j k : Nat} {b : Addr} (hi : ItAt h is ls j k) (ne : ∀ i ∈ is, i ≠ b) (hs : Heap.ExtBut b h h') : ItAt h' is ls j k := fun m i l hm hl => (hi m i l hm hl).extBut hs (ne i (List.mem_of_getElem? hm))
theorem upd_tup {T : Addr} {vs : List Value} {x : Value} {k : Nat} {Q : Unit → Shared → Prop} (hT : TupO s.heap T vs) (hl : vs.length ≤ sizeLine) (h : ∀ h', TupO h' T (vs.set k x) → Heap.SameBut T s.heap h' → Q () { s with heap := h' }) :
    wpAny (model prog w) A (updateSeq T (·.setIfInBounds k x)) Q E s := by
  refine wpAny_updateSeq hT rfl (h _ ?_ (Heap.SameBut.update ..)) (by rw [List.size_toArray]; exact hl) (by rw [Array.size_setIfInBounds, List.size_toArray]; omega)
  show Heap.get? _ _ = _
  rw [Heap.get?_update_self _ hT rfl]
  simp [Obj.mapSeq]
theorem set_mid {xs os : List Value} {m : Nat} {x : Value} (hx : xs[m]? = some x) (hl : m < os.length) : (xs.take m ++ os.drop m).set m x = xs.take (m + 1) ++ os.drop (m + 1) := by
  have lx := (List.getElem?_eq_some_iff.mp hx).1
  have e1 : os.drop m = os[m] :: os.drop (m + 1) := List.drop_eq_getElem_cons hl
  have lt : (xs.take m).length = m := by rw [List.length_take]; omega
  rw [e1, List.set_append_right _ _ (by omega), lt, Nat.sub_self, List.set_cons_zero, List.take_add_one, hx, List.append_assoc]
  rfl
theorem zipN_item {z TI TO : Addr} {is ls : List Addr} {k : Nat} {xs os : List Value} {f0 : Value} {f1 : Bool} {Q : Value → Shared → Prop} (D : Apart z TI TO is ls) (hz : ZRec s.heap z TI TO f0 f1) (ho : Own f0) (hTI : TupO s.heap TI (is.map Value.ref)) (hTO : TupO s.heap TO os) (lo : os.length = is.length) (ne : is ≠ [])
    (hi : ItAt s.heap is ls 0 k) (hx : Items s.heap ls k xs) (hsz : xs.length ≤ sizeLine)
    (hQ : ∀ h' f0' f1' os', Own f0' → ZRec h' z TI TO f0' f1' → TupO h' TO os' → os'.length = is.length → ItAt h' is ls 0 (k + 1) → TupO h' s.heap.objs.size xs → h'.objs.size = s.heap.objs.size + 1 →
      (∀ c o, c ≠ z → c ≠ TO → (∀ i ∈ is, c ≠ i) → s.heap.get? c = some o → h'.get? c = some o) → Q (.ref s.heap.objs.size) { s with heap := h' }) :
    wpAny (model prog w) A (Builtin.«zip.__next__» ⟨[.ref z], []⟩) (fun fin s' => ∃ v, fin = .done (.ret v) ∧ Q v s') E s := by
  have le : is.length = xs.length := by rw [D.len, hx.1]
  show wpAny _ _ (field (.ref z) 2 >>= _) _ _ _
  refine wpAny_bind (wpAny_field hz rfl (x := .bool false) rfl ?_)
  show wpAny _ _ (field (.ref z) 3 >>= _) _ _ _
  refine wpAny_bind (wpAny_field hz rfl (x := .ref TI) rfl ?_)
  refine wpAny_bind (wpAny_seqItems hTI rfl ?_)
  have em : (is.map Value.ref).toArray.isEmpty = false := by
    cases is with
    | nil => exact absurd rfl ne
    | cons i r => rfl
  simp only [em, Bool.false_eq_true, if_false]
  show wpAny _ _ (Builtin.SmallTypes.ownedTupleIsFree (.ref z) >>= _) _ _ _
  refine wpAny_bind (isFree hz ho fun b f1' h₁ hz₁ hs₁ => ?_)
  cases b with
  | true =>
    simp only [if_true]
    refine wpAny_bind (wpAny_rule ?_)
    refine wpAny_bind (wpAny_field hz₁ rfl (x := .ref TO) rfl ?_)
    refine wpAny_bind (wpAny_setField_rec hz₁ (by simp) fun h₂ hz₂ hs₂ => ?_)
    replace hz₂ : ZRec h₂ z TI TO .ellipsis f1' := hz₂
    refine wpAny_bind ?_
    refine forIn_wp (fun _ => (none, ())) (PvF s z TI TO is ls k xs os f1') _ 0 _ ⟨hz₂, ?_, it_ext (it_ext hi D.iz hs₁.extBut) D.iz hs₂.extBut, ?_, fun c o c1 _ _ e => hs₂.extBut _ _ c1 (hs₁.extBut _ _ c1 e), rfl⟩ ?_ ?_
    · rw [List.take_zero, List.drop_zero]
      exact hs₂.extBut _ _ D.TOz (hs₁.extBut _ _ D.TOz hTO)
    · show h₂.objs.size = _
      rw [hs₂.1, hs₁.1]
    · intro m x s' Q' hm hp q
      rw [Nat.zero_add] at hp q
      obtain ⟨hz', hO', hi', sz', kp', eq'⟩ := hp
      generalize s'.heap = h' at hz' hO' hi' sz' kp' eq'
      subst eq'
      rw [List.getElem?_zipIdx, List.getElem?_map] at hm
      cases hmi : is[m]? with
      | none =>
        rw [hmi] at hm
        cases hm
      | some i =>
        rw [hmi] at hm
        have hx0 : x = (Value.ref i, m) := by rw [← Option.some.inj hm, Nat.zero_add]
        subst hx0
        have lm := (List.getElem?_eq_some_iff.mp hmi).1
        have im := List.mem_of_getElem? hmi
        obtain ⟨l, hl⟩ : ∃ l, ls[m]? = some l := ⟨_, List.getElem?_eq_getElem (by rw [← D.len]; exact lm)⟩
        obtain ⟨x, hxm⟩ : ∃ x, xs[m]? = some x := ⟨_, List.getElem?_eq_getElem (by omega)⟩
        obtain ⟨its, ht, hk⟩ := hx.2 m l x hl hxm
        have lmem := List.mem_of_getElem? hl
        have ht' : h'.IsTuple l its := by
          obtain ⟨o, e1, e2⟩ := ht
          exact ⟨o, kp' _ _ (D.lz l lmem) (D.lO l lmem) (fun i hi => D.li l lmem i hi) e1, e2⟩
        have h1 := hi' m i l hmi hl
        rw [if_neg (Nat.lt_irrefl m)] at h1
        refine wpAny_bind (wpAny_onRaise ?_)
        show wpAny _ _ (Builtin.SmallTypes.nextOf (.ref i) >>= _) _ _ _
        refine wpAny_bind (nextOf_tuple_item h1 ht' hk fun h₃ h1₃ hs₃ => wpAny_pure ?_)
        have hO₃ : TupO h₃ TO (xs.take m ++ os.drop m) := hs₃.extBut _ _ (D.iO i im).symm hO'
        refine wpAny_bind (wpAny_seqItems hO₃ rfl ?_)
        refine wpAny_bind (upd_tup hO₃ (by rw [List.length_append, List.length_take, List.length_drop]; omega) fun h₄ hO₄ hs₄ => ?_)
        rw [set_mid hxm (by omega)] at hO₄
        refine wpAny_bind (wpAny_letGo (wpAny_pure ?_))
        refine q _ ⟨hs₄.extBut _ _ D.TOz.symm (hs₃.extBut _ _ (D.iz i im).symm hz'), hO₄, it_ext (it_next D.nd hi' hmi hl h1₃ hs₃.extBut) D.iO hs₄.extBut, ?_, fun c o c1 c2 c3 e => hs₄.extBut _ _ c2 (hs₃.extBut _ _ (c3 i im) (kp' c o c1 c2 c3 e)), rfl⟩
        show h₄.objs.size = _
        rw [hs₄.1, hs₃.1]
        exact sz'
    · intro s' hp
      rw [Nat.zero_add, List.length_zipIdx, List.length_map] at hp
      obtain ⟨hz', hO', hi', sz', kp', eq'⟩ := hp
      generalize s'.heap = h' at hz' hO' hi' sz' kp' eq'
      subst eq'
      rw [List.take_of_length_le (by omega), List.drop_of_length_le (by omega), List.append_nil] at hO'
      refine wpAny_bind (wpAny_seqItems hO' rfl ?_)
      refine wpAny_bind (wpAny_newTuple ?_ hsz)
      show wpAny _ _ (Builtin.SmallTypes.ownedTupleHandOut (.ref z) (.ref h'.objs.size) >>= _) _ _ _
      refine wpAny_bind ?_
      unfold Builtin.SmallTypes.ownedTupleHandOut
      have hz6 : ZRec (h'.push { cls := .type "tuple", data := .seq xs.toArray }) z TI TO .ellipsis f1' := Heap.get?_push_of_some _ hz'
      refine wpAny_bind (wpAny_setField_rec hz6 (by simp) fun h₇ hz₇ hs₇ => ?_)
      replace hz₇ : ZRec h₇ z TI TO (rawInt h'.objs.size) f1' := hz₇
      refine wpAny_setField_rec hz₇ (by simp) fun h₈ hz₈ hs₈ => ?_
      replace hz₈ : ZRec h₈ z TI TO (rawInt h'.objs.size) false := hz₈
      have hzlt : z < h'.objs.size := Heap.lt_size hz'
      have up : ∀ c o, c ≠ z → h'.get? c = some o → h₈.get? c = some o := fun c o c1 e => hs₈.extBut _ _ c1 (hs₇.extBut _ _ c1 (Heap.get?_push_of_some _ e))
      have hT₈ : TupO h₈ h'.objs.size xs := hs₈.extBut _ _ (Nat.ne_of_gt hzlt) (hs₇.extBut _ _ (Nat.ne_of_gt hzlt) (Heap.get?_push_size _ rfl))
      have hz8 : h₈.objs.size = h'.objs.size + 1 := by rw [hs₈.1, hs₇.1, Heap.size_push]
      have sz2 : h'.objs.size = s.heap.objs.size := sz'
      rw [sz2] at hz₈ hT₈ hz8
      refine wpAny_pure ⟨_, rfl, ?_⟩
      show Q (.ref h'.objs.size) _
      rw [sz2]
      refine hQ h₈ _ _ xs (.inr ⟨_, rfl⟩) hz₈ (up _ _ D.TOz hO') le.symm (fun m i l hm hl => ?_) hT₈ hz8 fun c o c1 c2 c3 e => up c o c1 (kp' c o c1 c2 c3 e)
      rw [if_neg (Nat.not_lt_zero m)]
      have z1 := hi' m i l hm hl
      rw [if_pos (List.getElem?_eq_some_iff.mp hm).1] at z1
      exact z1.at fun o e => up _ o (D.iz i (List.mem_of_getElem? hm)) e
  | false =>
    simp only [Bool.false_eq_true, if_false]
    refine wpAny_bind ?_
    rw [← Array.forIn_toList]
    refine forIn_wp (fun j => (none, (xs.take j).toArray)) (PvH s z TI TO is ls k f0 f1' os) _ 0 _ ⟨hz₁, hs₁.extBut _ _ D.TOz hTO, it_ext hi D.iz hs₁.extBut, hs₁.1, fun c o c1 _ _ e => hs₁.extBut _ _ c1 e, rfl⟩ ?_ ?_
    · intro m x s' Q' hm hp q
      rw [Nat.zero_add] at hp q
      obtain ⟨hz', hO', hi', sz', kp', eq'⟩ := hp
      generalize s'.heap = h' at hz' hO' hi' sz' kp' eq'
      subst eq'
      rw [List.getElem?_map] at hm
      cases hmi : is[m]? with
      | none =>
        rw [hmi] at hm
        cases hm
      | some i =>
        rw [hmi] at hm
        obtain rfl : Value.ref i = x := Option.some.inj hm
        have lm := (List.getElem?_eq_some_iff.mp hmi).1
        have im := List.mem_of_getElem? hmi
        obtain ⟨l, hl⟩ : ∃ l, ls[m]? = some l := ⟨_, List.getElem?_eq_getElem (by rw [← D.len]; exact lm)⟩
        obtain ⟨x, hxm⟩ : ∃ x, xs[m]? = some x := ⟨_, List.getElem?_eq_getElem (by omega)⟩
        obtain ⟨its, ht, hk⟩ := hx.2 m l x hl hxm
        have lmem := List.mem_of_getElem? hl
        have ht' : h'.IsTuple l its := by
          obtain ⟨o, e1, e2⟩ := ht
          exact ⟨o, kp' _ _ (D.lz l lmem) (D.lO l lmem) (fun i hi => D.li l lmem i hi) e1, e2⟩
        have h1 := hi' m i l hmi hl
        rw [if_neg (Nat.lt_irrefl m)] at h1
        refine wpAny_bind (wpAny_holding ?_)
        show wpAny _ _ (Builtin.SmallTypes.nextOf (.ref i) >>= _) _ _ _
        refine wpAny_bind (nextOf_tuple_item h1 ht' hk fun h₃ h1₃ hs₃ => wpAny_pure ?_)
        refine wpAny_pure ?_
        have ea : (xs.take m).toArray.push x = (xs.take (m + 1)).toArray := by
          rw [List.take_add_one, hxm]
          simp
        rw [Nat.zero_add]
        show Q' (.yield (none, (xs.take m).toArray.push x)) _
        rw [ea]
        refine q _ ⟨hs₃.extBut _ _ (D.iz i im).symm hz', hs₃.extBut _ _ (D.iO i im).symm hO', it_next D.nd hi' hmi hl h1₃ hs₃.extBut, ?_, fun c o c1 c2 c3 e => hs₃.extBut _ _ (c3 i im) (kp' c o c1 c2 c3 e), rfl⟩
        show h₃.objs.size = _
        rw [hs₃.1]
        exact sz'
    · intro s' hp
      rw [Nat.zero_add, List.length_map] at hp ⊢
      obtain ⟨hz', hO', hi', sz', kp', eq'⟩ := hp
      generalize s'.heap = h' at hz' hO' hi' sz' kp' eq'
      subst eq'
      rw [List.take_of_length_le (by omega)]
      refine wpAny_bind (wpAny_newTuple ?_ hsz)
      have sz2 : h'.objs.size = s.heap.objs.size := sz'
      refine wpAny_pure ⟨_, rfl, ?_⟩
      have hp : TupO (h'.push { cls := .type "tuple", data := .seq xs.toArray }) h'.objs.size xs := Heap.get?_push_size _ rfl
      have hz4 : (h'.push { cls := .type "tuple", data := .seq xs.toArray }).objs.size = h'.objs.size + 1 := Heap.size_push ..
      show Q (.ref h'.objs.size) _
      rw [sz2] at hp hz4 ⊢
      refine hQ _ _ _ os ho (Heap.get?_push_of_some _ hz') (Heap.get?_push_of_some _ hO') lo (fun m i l hm hl => ?_) hp hz4 fun c o c1 c2 c3 e => Heap.get?_push_of_some _ (kp' c o c1 c2 c3 e)
      rw [if_neg (Nat.not_lt_zero m)]
      have z1 := hi' m i l hm hl
      rw [if_pos (List.getElem?_eq_some_iff.mp hm).1] at z1
      exact z1.at fun o e => Heap.get?_push_of_some _ e
theorem zipN_end {z TI TO i0 l0 : Addr} {is ls : List Addr} {k : Nat} {os : List Value} {its : Array Value} {f0 : Value} {f1 : Bool} {Q : Fin → Shared → Prop} (hh : A.handled = none) (D : Apart z TI TO (i0 :: is) (l0 :: ls)) (hz : ZRec s.heap z TI TO f0 f1) (ho : Own f0)
    (hTI : TupO s.heap TI ((i0 :: is).map Value.ref)) (hTO : TupO s.heap TO os) (hi : ItAt s.heap (i0 :: is) (l0 :: ls) 0 k) (ht : s.heap.IsTuple l0 its) (hx : its[k]? = none)
    (hE : ∀ h' e, (∀ c o, c ≠ z → c ≠ TO → (∀ i ∈ i0 :: is, c ≠ i) → s.heap.get? c = some o → h'.get? c = some o) → (∃ o, h'.get? e = some o ∧ o.cls = .type "StopIteration") → E (.ref e) { s with heap := h' }) :
    wpAny (model prog w) A (Builtin.«zip.__next__» ⟨[.ref z], []⟩) Q E s := by
  have i0m : i0 ∈ i0 :: is := List.mem_cons_self
  have l0m : l0 ∈ l0 :: ls := List.mem_cons_self
  have h1 := hi 0 i0 l0 rfl rfl
  rw [if_neg (Nat.lt_irrefl 0)] at h1
  show wpAny _ _ (field (.ref z) 2 >>= _) _ _ _
  refine wpAny_bind (wpAny_field hz rfl (x := .bool false) rfl ?_)
  show wpAny _ _ (field (.ref z) 3 >>= _) _ _ _
  refine wpAny_bind (wpAny_field hz rfl (x := .ref TI) rfl ?_)
  refine wpAny_bind (wpAny_seqItems hTI rfl ?_)
  have em : ((i0 :: is).map Value.ref).toArray.isEmpty = false := rfl
  simp only [em, Bool.false_eq_true, if_false]
  show wpAny _ _ (Builtin.SmallTypes.ownedTupleIsFree (.ref z) >>= _) _ _ _
  refine wpAny_bind (isFree hz ho fun b f1' h₁ hz₁ hs₁ => ?_)
  have ht₁ : h₁.IsTuple l0 its := ht.extBut hs₁.extBut (D.lz l0 l0m)
  have hi₁ : h₁.IsTupleIter i0 l0 k := h1.extBut hs₁.extBut (D.iz i0 i0m)
  cases b with
  | true =>
    simp only [if_true]
    refine wpAny_bind (wpAny_rule ?_)
    refine wpAny_bind (wpAny_field hz₁ rfl (x := .ref TO) rfl ?_)
    refine wpAny_bind (wpAny_setField_rec hz₁ (by simp) fun h₂ hz₂ hs₂ => ?_)
    replace hz₂ : ZRec h₂ z TI TO .ellipsis f1' := hz₂
    refine wpAny_bind ?_
    simp only [List.map_cons, List.zipIdx_cons, List.forIn_cons]
    refine wpAny_bind (wpAny_bind (wpAny_onRaise ?_))
    show wpAny _ _ (Builtin.SmallTypes.nextOf (.ref i0) >>= _) _ _ _
    refine wpAny_bind (nextOf_tuple_end hh (hi₁.extBut hs₂.extBut (D.iz i0 i0m)) (ht₁.extBut hs₂.extBut (D.lz l0 l0m)) hx fun h₃ e hs₃ he => ?_)
    obtain ⟨oe, hoe, hce⟩ := he
    have hz₃ : ZRec h₃ z TI TO .ellipsis f1' := hs₃ _ _ (D.iz i0 i0m).symm hz₂
    have hez : e ≠ z := fun x => by subst x; rw [hz₃] at hoe; cases hoe; simp at hce
    exact wpAny_setField_rec hz₃ (by simp) fun h₄ _ hs₄ => hE h₄ e (fun c o c1 _ c3 x => hs₄.extBut _ _ c1 (hs₃ _ _ (c3 i0 i0m) (hs₂.extBut _ _ c1 (hs₁.extBut _ _ c1 x)))) ⟨oe, hs₄.extBut _ _ hez hoe, hce⟩
  | false =>
    simp only [Bool.false_eq_true, if_false]
    refine wpAny_bind ?_
    rw [← Array.forIn_toList]
    simp only [List.map_cons, List.forIn_cons]
    refine wpAny_bind (wpAny_bind (wpAny_holding ?_))
    show wpAny _ _ (Builtin.SmallTypes.nextOf (.ref i0) >>= _) _ _ _
    refine wpAny_bind (nextOf_tuple_end hh hi₁ ht₁ hx fun h₂ e hs₂ he => ?_)
    exact hE h₂ e (fun c o c1 _ c3 x => hs₂ _ _ (c3 i0 i0m) (hs₁.extBut _ _ c1 x)) he
theorem next_item {z TI TO : Addr} {is ls : List Addr} {k : Nat} {xs os : List Value} {f0 : Value} {f1 : Bool} {Q : Option Value → Shared → Prop} (D : Apart z TI TO is ls) (hz : ZRec s.heap z TI TO f0 f1) (ho : Own f0) (hTI : TupO s.heap TI (is.map Value.ref)) (hTO : TupO s.heap TO os) (lo : os.length = is.length) (ne : is ≠ [])
    (hi : ItAt s.heap is ls 0 k) (hx : Items s.heap ls k xs) (hsz : xs.length ≤ sizeLine)
    (hQ : ∀ h' f0' f1' os', Own f0' → ZRec h' z TI TO f0' f1' → TupO h' TO os' → os'.length = is.length → ItAt h' is ls 0 (k + 1) → TupO h' s.heap.objs.size xs → h'.objs.size = s.heap.objs.size + 1 →
      (∀ c o, c ≠ z → c ≠ TO → (∀ i ∈ is, c ≠ i) → s.heap.get? c = some o → h'.get? c = some o) → Q (some (.ref s.heap.objs.size)) { s with heap := h' }) :
    wpAny (model prog w) A (pyNext (.ref z)) Q E s := by
  have hT : s.TypeIs (.ref z) "zip" := ⟨_, hz, rfl⟩
  unfold pyNext
  exact wpAny_bind (wpAny_attempt (wpAny_callSpecial?_slot (name := Str.ofString "__next__") hT F.slot_zip_next
    (wpAny_call_entry F.slot_zip_next hT F.entry_zip_next
      (zipN_item D hz ho hTI hTO lo ne hi hx hsz fun h' a b c d1 d2 d3 d4 d5 d6 d7 d8 => wpAny_pure (hQ h' a b c d1 d2 d3 d4 d5 d6 d7 d8)) (F.args_zip_next_1 _))))
theorem next_end {z TI TO i0 l0 : Addr} {is ls : List Addr} {k : Nat} {os : List Value} {its : Array Value} {f0 : Value} {f1 : Bool} {Q : Option Value → Shared → Prop} (hh : A.handled = none) (D : Apart z TI TO (i0 :: is) (l0 :: ls)) (hz : ZRec s.heap z TI TO f0 f1) (ho : Own f0)
    (hTI : TupO s.heap TI ((i0 :: is).map Value.ref)) (hTO : TupO s.heap TO os) (hi : ItAt s.heap (i0 :: is) (l0 :: ls) 0 k) (ht : s.heap.IsTuple l0 its) (hx : its[k]? = none)
    (hQ : ∀ h', (∀ c o, c ≠ z → c ≠ TO → (∀ i ∈ i0 :: is, c ≠ i) → s.heap.get? c = some o → h'.get? c = some o) → Q none { s with heap := h' }) : wpAny (model prog w) A (pyNext (.ref z)) Q E s := by
  have hT : s.TypeIs (.ref z) "zip" := ⟨_, hz, rfl⟩
  unfold pyNext
  refine wpAny_bind (wpAny_attempt (wpAny_callSpecial?_slot (name := Str.ofString "__next__") hT F.slot_zip_next
    (wpAny_call_entry F.slot_zip_next hT F.entry_zip_next (zipN_end (A := A.in1) hh D hz ho hTI hTO hi ht hx fun h' e hk he => ?_) (F.args_zip_next_1 _))))
  obtain ⟨o, ho, hc⟩ := he
  refine wpAny_bind (wpAny_isInstance (T := "StopIteration") (b := true) ⟨o, ho, hc⟩ isSubtype_stop ?_)
  exact wpAny_pure (hQ _ hk)
abbrev z3H1 (h : Heap) (l1 l2 l3 : Addr) : Heap := (h).push { cls := .type "tuple_iterator", data := .fields #[.ref l1, .int 0 0] }
abbrev z3H2 (h : Heap) (l1 l2 l3 : Addr) : Heap := (z3H1 h l1 l2 l3).push { cls := .type "tuple_iterator", data := .fields #[.ref l2, .int 0 0] }
abbrev z3H3 (h : Heap) (l1 l2 l3 : Addr) : Heap := (z3H2 h l1 l2 l3).push { cls := .type "tuple_iterator", data := .fields #[.ref l3, .int 0 0] }
abbrev z3H4 (h : Heap) (l1 l2 l3 : Addr) : Heap := (z3H3 h l1 l2 l3).push { cls := .type "tuple", data := .seq #[.ref h.objs.size, .ref (z3H1 h l1 l2 l3).objs.size, .ref (z3H2 h l1 l2 l3).objs.size] }
abbrev z3H5 (h : Heap) (l1 l2 l3 : Addr) : Heap := (z3H4 h l1 l2 l3).push { cls := .type "tuple", data := .seq #[.none, .none, .none] }
abbrev z3H6 (h : Heap) (l1 l2 l3 : Addr) : Heap := (z3H5 h l1 l2 l3).push { cls := .type "zip", data := .fields #[.none, .bool false, .bool false, .ref (z3H3 h l1 l2 l3).objs.size, .ref (z3H4 h l1 l2 l3).objs.size] }
theorem meets_zip3 (l1 l2 l3 : Addr) (xs1 xs2 xs3 : Array Value) :
    Meets (Builtin.«zip.__new__» ⟨[.type "zip", .ref l1, .ref l2, .ref l3], []⟩) (fun _ R s => s.heap.IsTuple l1 xs1 ∧ s.heap.IsTuple l2 xs2 ∧ s.heap.IsTuple l3 xs3 ∧
      R (.ok (.ret (.ref (z3H5 s.heap l1 l2 l3).objs.size))) { s with heap := z3H6 s.heap l1 l2 l3 }) :=
  .of_wp fun prog w A R s h => by
    obtain ⟨hp, g, d, tk, os⟩ := s; obtain ⟨hl1, hl2, hl3, h⟩ := h
    have hsub := sub_zip
    have H1 : Heap.IsTuple (Shared.heap ⟨hp, g, d, tk, os⟩) l1 xs1 := hl1
    have H2 : Heap.IsTuple (Shared.heap ⟨(hp).push { cls := .type "tuple_iterator", data := .fields #[.ref l1, .int 0 0] }, g, d, tk, os⟩) l2 xs2 := Heap.IsTuple.push (hl2) _
    have H3 : Heap.IsTuple (Shared.heap ⟨((hp).push { cls := .type "tuple_iterator", data := .fields #[.ref l1, .int 0 0] }).push { cls := .type "tuple_iterator", data := .fields #[.ref l2, .int 0 0] }, g, d, tk, os⟩) l3 xs3 := Heap.IsTuple.push (Heap.IsTuple.push (hl3) _) _
    wp_walk using wpAny_pyIter_tuple H1, wpAny_pyIter_tuple H2, wpAny_pyIter_tuple H3
    exact ⟨_, rfl, h⟩
theorem tc_zip3 (a0 a1 a2 : Value) : checkTypeCall "zip" ⟨[a0, a1, a2], []⟩ = pure () := by kernel_rfl
theorem nc_zip3 (a0 a1 a2 : Value) : checkBuiltinCall "zip.__new__" ⟨[.type "zip", a0, a1, a2], []⟩ = pure () := by kernel_rfl
theorem oi_3 (b a0 a1 a2 : Value) : argsOk "object.__init__" ⟨[b, a0, a1, a2], []⟩ := by
  unfold argsOk; rw [signature?_of (id := "object.__init__") (n := ['_', '_', 't', 'i', 'n', 'i', '_', '_']) (o := ['t', 'c', 'e', 'j', 'b', 'o']) (by kernel_rfl) owner_object]; kernel_rfl
theorem call_zip3 {l1 l2 l3 : Addr} {xs1 xs2 xs3 : Array Value} {Q : Value → Shared → Prop} (hl1 : s.heap.IsTuple l1 xs1) (hl2 : s.heap.IsTuple l2 xs2) (hl3 : s.heap.IsTuple l3 xs3)
    (h : ∀ h', ZRec h' (s.heap.objs.size + 5) (s.heap.objs.size + 3) (s.heap.objs.size + 4) .none false → TupO h' (s.heap.objs.size + 3) ([s.heap.objs.size, (s.heap.objs.size + 1), (s.heap.objs.size + 2)].map Value.ref) → TupO h' (s.heap.objs.size + 4) [.none, .none, .none] → ItAt h' [s.heap.objs.size, (s.heap.objs.size + 1), (s.heap.objs.size + 2)] [l1, l2, l3] 0 0 → h'.objs.size = s.heap.objs.size + 6 →
      (∀ c o, s.heap.get? c = some o → h'.get? c = some o) → Q (.ref (s.heap.objs.size + 5)) { s with heap := h' }) : wpAny (model prog w) A (call (.type "zip") [.ref l1, .ref l2, .ref l3]) Q E s := by
  refine callType_new F.called_zip (by decide) (tc_zip3 _ _ _) (nc_zip3 _ _ _) (fun obj => oi_3 obj _ _ _) F.entry_zip_new (meets_zip3 l1 l2 l3 xs1 xs2 xs3) ⟨hl1, hl2, hl3, ?_⟩
  have z1 : (z3H1 s.heap l1 l2 l3).objs.size = s.heap.objs.size + 1 := by rw [Heap.size_push]
  have z2 : (z3H2 s.heap l1 l2 l3).objs.size = s.heap.objs.size + 2 := by rw [Heap.size_push, z1]
  have z3 : (z3H3 s.heap l1 l2 l3).objs.size = s.heap.objs.size + 3 := by rw [Heap.size_push, z2]
  have z4 : (z3H4 s.heap l1 l2 l3).objs.size = s.heap.objs.size + 4 := by rw [Heap.size_push, z3]
  have z5 : (z3H5 s.heap l1 l2 l3).objs.size = s.heap.objs.size + 5 := by rw [Heap.size_push, z4]
  have z6 : (z3H6 s.heap l1 l2 l3).objs.size = s.heap.objs.size + 6 := by rw [Heap.size_push, z5]
  have g1 : (z3H6 s.heap l1 l2 l3).get? s.heap.objs.size = some _ := Heap.get?_push_of_some _ (Heap.get?_push_of_some _ (Heap.get?_push_of_some _ (Heap.get?_push_of_some _ (Heap.get?_push_of_some _ (Heap.get?_push_size _ rfl)))))
  have g2 : (z3H6 s.heap l1 l2 l3).get? (z3H1 s.heap l1 l2 l3).objs.size = some _ := Heap.get?_push_of_some _ (Heap.get?_push_of_some _ (Heap.get?_push_of_some _ (Heap.get?_push_of_some _ (Heap.get?_push_size _ rfl))))
  have g3 : (z3H6 s.heap l1 l2 l3).get? (z3H2 s.heap l1 l2 l3).objs.size = some _ := Heap.get?_push_of_some _ (Heap.get?_push_of_some _ (Heap.get?_push_of_some _ (Heap.get?_push_size _ rfl)))
  have g4 : (z3H6 s.heap l1 l2 l3).get? (z3H3 s.heap l1 l2 l3).objs.size = some _ := Heap.get?_push_of_some _ (Heap.get?_push_of_some _ (Heap.get?_push_size _ rfl))
  have g5 : (z3H6 s.heap l1 l2 l3).get? (z3H4 s.heap l1 l2 l3).objs.size = some _ := Heap.get?_push_of_some _ (Heap.get?_push_size _ rfl)
  have g6 : (z3H6 s.heap l1 l2 l3).get? (z3H5 s.heap l1 l2 l3).objs.size = some _ := Heap.get?_push_size _ rfl
  show _ ∧ _
  rw [z3, z4, z5] at g6
  rw [z1, z2, z3] at g4
  rw [z4] at g5
  rw [z1] at g2
  rw [z2] at g3
  rw [z5]
  refine ⟨⟨_, g6, rfl⟩, h _ g6 g4 g5 (fun m i l hm hl => ?_) z6 fun c o x => Heap.get?_push_of_some _ (Heap.get?_push_of_some _ (Heap.get?_push_of_some _ (Heap.get?_push_of_some _ (Heap.get?_push_of_some _ (Heap.get?_push_of_some _ (x))))))⟩
  rw [if_neg (Nat.not_lt_zero m)]
  match m, hm, hl with
  | 0, hm, hl =>
    cases hm
    cases hl
    exact ⟨_, g1, rfl, rfl⟩
  | 1, hm, hl =>
    cases hm
    cases hl
    exact ⟨_, g2, rfl, rfl⟩
  | 2, hm, hl =>
    cases hm
    cases hl
    exact ⟨_, g3, rfl, rfl⟩
  | m + 3, hm, hl => cases hm
abbrev z4H1 (h : Heap) (l1 l2 l3 l4 : Addr) : Heap := (h).push { cls := .type "tuple_iterator", data := .fields #[.ref l1, .int 0 0] }
abbrev z4H2 (h : Heap) (l1 l2 l3 l4 : Addr) : Heap := (z4H1 h l1 l2 l3 l4).push { cls := .type "tuple_iterator", data := .fields #[.ref l2, .int 0 0] }
abbrev z4H3 (h : Heap) (l1 l2 l3 l4 : Addr) : Heap := (z4H2 h l1 l2 l3 l4).push { cls := .type "tuple_iterator", data := .fields #[.ref l3, .int 0 0] }
abbrev z4H4 (h : Heap) (l1 l2 l3 l4 : Addr) : Heap := (z4H3 h l1 l2 l3 l4).push { cls := .type "tuple_iterator", data := .fields #[.ref l4, .int 0 0] }
abbrev z4H5 (h : Heap) (l1 l2 l3 l4 : Addr) : Heap := (z4H4 h l1 l2 l3 l4).push { cls := .type "tuple", data := .seq #[.ref h.objs.size, .ref (z4H1 h l1 l2 l3 l4).objs.size, .ref (z4H2 h l1 l2 l3 l4).objs.size, .ref (z4H3 h l1 l2 l3 l4).objs.size] }
abbrev z4H6 (h : Heap) (l1 l2 l3 l4 : Addr) : Heap := (z4H5 h l1 l2 l3 l4).push { cls := .type "tuple", data := .seq #[.none, .none, .none, .none] }
abbrev z4H7 (h : Heap) (l1 l2 l3 l4 : Addr) : Heap := (z4H6 h l1 l2 l3 l4).push { cls := .type "zip", data := .fields #[.none, .bool false, .bool false, .ref (z4H4 h l1 l2 l3 l4).objs.size, .ref (z4H5 h l1 l2 l3 l4).objs.size] }
theorem meets_zip4 (l1 l2 l3 l4 : Addr) (xs1 xs2 xs3 xs4 : Array Value) :
    Meets (Builtin.«zip.__new__» ⟨[.type "zip", .ref l1, .ref l2, .ref l3, .ref l4], []⟩) (fun _ R s => s.heap.IsTuple l1 xs1 ∧ s.heap.IsTuple l2 xs2 ∧ s.heap.IsTuple l3 xs3 ∧ s.heap.IsTuple l4 xs4 ∧
      R (.ok (.ret (.ref (z4H6 s.heap l1 l2 l3 l4).objs.size))) { s with heap := z4H7 s.heap l1 l2 l3 l4 }) :=
  .of_wp fun prog w A R s h => by
    obtain ⟨hp, g, d, tk, os⟩ := s; obtain ⟨hl1, hl2, hl3, hl4, h⟩ := h
    have hsub := sub_zip
    have H1 : Heap.IsTuple (Shared.heap ⟨hp, g, d, tk, os⟩) l1 xs1 := hl1
    have H2 : Heap.IsTuple (Shared.heap ⟨(hp).push { cls := .type "tuple_iterator", data := .fields #[.ref l1, .int 0 0] }, g, d, tk, os⟩) l2 xs2 := Heap.IsTuple.push (hl2) _
    have H3 : Heap.IsTuple (Shared.heap ⟨((hp).push { cls := .type "tuple_iterator", data := .fields #[.ref l1, .int 0 0] }).push { cls := .type "tuple_iterator", data := .fields #[.ref l2, .int 0 0] }, g, d, tk, os⟩) l3 xs3 := Heap.IsTuple.push (Heap.IsTuple.push (hl3) _) _
    have H4 : Heap.IsTuple (Shared.heap ⟨(((hp).push { cls := .type "tuple_iterator", data := .fields #[.ref l1, .int 0 0] }).push { cls := .type "tuple_iterator", data := .fields #[.ref l2, .int 0 0] }).push { cls := .type "tuple_iterator", data := .fields #[.ref l3, .int 0 0] }, g, d, tk, os⟩) l4 xs4 := Heap.IsTuple.push (Heap.IsTuple.push (Heap.IsTuple.push (hl4) _) _) _
    wp_walk using wpAny_pyIter_tuple H1, wpAny_pyIter_tuple H2, wpAny_pyIter_tuple H3, wpAny_pyIter_tuple H4
    exact ⟨_, rfl, h⟩
theorem tc_zip4 (a0 a1 a2 a3 : Value) : checkTypeCall "zip" ⟨[a0, a1, a2, a3], []⟩ = pure () := by kernel_rfl
theorem nc_zip4 (a0 a1 a2 a3 : Value) : checkBuiltinCall "zip.__new__" ⟨[.type "zip", a0, a1, a2, a3], []⟩ = pure () := by kernel_rfl
theorem oi_4 (b a0 a1 a2 a3 : Value) : argsOk "object.__init__" ⟨[b, a0, a1, a2, a3], []⟩ := by
  unfold argsOk; rw [signature?_of (id := "object.__init__") (n := ['_', '_', 't', 'i', 'n', 'i', '_', '_']) (o := ['t', 'c', 'e', 'j', 'b', 'o']) (by kernel_rfl) owner_object]; kernel_rfl
theorem call_zip4 {l1 l2 l3 l4 : Addr} {xs1 xs2 xs3 xs4 : Array Value} {Q : Value → Shared → Prop} (hl1 : s.heap.IsTuple l1 xs1) (hl2 : s.heap.IsTuple l2 xs2) (hl3 : s.heap.IsTuple l3 xs3) (hl4 : s.heap.IsTuple l4 xs4)
    (h : ∀ h', ZRec h' (s.heap.objs.size + 6) (s.heap.objs.size + 4) (s.heap.objs.size + 5) .none false → TupO h' (s.heap.objs.size + 4) ([s.heap.objs.size, (s.heap.objs.size + 1), (s.heap.objs.size + 2), (s.heap.objs.size + 3)].map Value.ref) → TupO h' (s.heap.objs.size + 5) [.none, .none, .none, .none] → ItAt h' [s.heap.objs.size, (s.heap.objs.size + 1), (s.heap.objs.size + 2), (s.heap.objs.size + 3)] [l1, l2, l3, l4] 0 0 → h'.objs.size = s.heap.objs.size + 7 →
      (∀ c o, s.heap.get? c = some o → h'.get? c = some o) → Q (.ref (s.heap.objs.size + 6)) { s with heap := h' }) : wpAny (model prog w) A (call (.type "zip") [.ref l1, .ref l2, .ref l3, .ref l4]) Q E s := by
  refine callType_new F.called_zip (by decide) (tc_zip4 _ _ _ _) (nc_zip4 _ _ _ _) (fun obj => oi_4 obj _ _ _ _) F.entry_zip_new (meets_zip4 l1 l2 l3 l4 xs1 xs2 xs3 xs4) ⟨hl1, hl2, hl3, hl4, ?_⟩
  have z1 : (z4H1 s.heap l1 l2 l3 l4).objs.size = s.heap.objs.size + 1 := by rw [Heap.size_push]
  have z2 : (z4H2 s.heap l1 l2 l3 l4).objs.size = s.heap.objs.size + 2 := by rw [Heap.size_push, z1]
  have z3 : (z4H3 s.heap l1 l2 l3 l4).objs.size = s.heap.objs.size + 3 := by rw [Heap.size_push, z2]
  have z4 : (z4H4 s.heap l1 l2 l3 l4).objs.size = s.heap.objs.size + 4 := by rw [Heap.size_push, z3]
  have z5 : (z4H5 s.heap l1 l2 l3 l4).objs.size = s.heap.objs.size + 5 := by rw [Heap.size_push, z4]
  have z6 : (z4H6 s.heap l1 l2 l3 l4).objs.size = s.heap.objs.size + 6 := by rw [Heap.size_push, z5]
  have z7 : (z4H7 s.heap l1 l2 l3 l4).objs.size = s.heap.objs.size + 7 := by rw [Heap.size_push, z6]
  have g1 : (z4H7 s.heap l1 l2 l3 l4).get? s.heap.objs.size = some _ := Heap.get?_push_of_some _ (Heap.get?_push_of_some _ (Heap.get?_push_of_some _ (Heap.get?_push_of_some _ (Heap.get?_push_of_some _ (Heap.get?_push_of_some _ (Heap.get?_push_size _ rfl))))))
  have g2 : (z4H7 s.heap l1 l2 l3 l4).get? (z4H1 s.heap l1 l2 l3 l4).objs.size = some _ := Heap.get?_push_of_some _ (Heap.get?_push_of_some _ (Heap.get?_push_of_some _ (Heap.get?_push_of_some _ (Heap.get?_push_of_some _ (Heap.get?_push_size _ rfl)))))
  have g3 : (z4H7 s.heap l1 l2 l3 l4).get? (z4H2 s.heap l1 l2 l3 l4).objs.size = some _ := Heap.get?_push_of_some _ (Heap.get?_push_of_some _ (Heap.get?_push_of_some _ (Heap.get?_push_of_some _ (Heap.get?_push_size _ rfl))))
  have g4 : (z4H7 s.heap l1 l2 l3 l4).get? (z4H3 s.heap l1 l2 l3 l4).objs.size = some _ := Heap.get?_push_of_some _ (Heap.get?_push_of_some _ (Heap.get?_push_of_some _ (Heap.get?_push_size _ rfl)))
  have g5 : (z4H7 s.heap l1 l2 l3 l4).get? (z4H4 s.heap l1 l2 l3 l4).objs.size = some _ := Heap.get?_push_of_some _ (Heap.get?_push_of_some _ (Heap.get?_push_size _ rfl))
  have g6 : (z4H7 s.heap l1 l2 l3 l4).get? (z4H5 s.heap l1 l2 l3 l4).objs.size = some _ := Heap.get?_push_of_some _ (Heap.get?_push_size _ rfl)
  have g7 : (z4H7 s.heap l1 l2 l3 l4).get? (z4H6 s.heap l1 l2 l3 l4).objs.size = some _ := Heap.get?_push_size _ rfl
  show _ ∧ _
  rw [z4, z5, z6] at g7
  rw [z1, z2, z3, z4] at g5
  rw [z5] at g6
  rw [z1] at g2
  rw [z2] at g3
  rw [z3] at g4
  rw [z6]
  refine ⟨⟨_, g7, rfl⟩, h _ g7 g5 g6 (fun m i l hm hl => ?_) z7 fun c o x => Heap.get?_push_of_some _ (Heap.get?_push_of_some _ (Heap.get?_push_of_some _ (Heap.get?_push_of_some _ (Heap.get?_push_of_some _ (Heap.get?_push_of_some _ (Heap.get?_push_of_some _ (x)))))))⟩
  rw [if_neg (Nat.not_lt_zero m)]
  match m, hm, hl with
  | 0, hm, hl =>
    cases hm
    cases hl
    exact ⟨_, g1, rfl, rfl⟩
  | 1, hm, hl =>
    cases hm
    cases hl
    exact ⟨_, g2, rfl, rfl⟩
  | 2, hm, hl =>
    cases hm
    cases hl
    exact ⟨_, g3, rfl, rfl⟩
  | 3, hm, hl =>
    cases hm
    cases hl
    exact ⟨_, g4, rfl, rfl⟩
  | m + 4, hm, hl => cases hm
/-- T(*e), T a type of Python's own -/
theorem callWith_typeS {M : Model} {A : Around} {E : Value → Shared → Prop} {s : Shared} {env : Env} {pos p : Pos} {T : String} {Q : Value → Shared → Prop} {e : Expr} (h : wpAny M A (eval e env) (fun v s₁ => PySem.W.StarOf M A E v (fun vs s₂ => wpAny M A (call (.type T) vs) Q E s₂) s₁) E s)
    (he : starEach [.Starred e p] env = [(true, eval e env)] := by rfl) :
    wpAny M A (callWith pos (.type T) [] (backTo pos (starEach [.Starred e p] env)) []) Q E s := by
  rw [he]
  refine PySem.W.ks_call (P := fun _ => True) rfl (fun _ _ => ⟨.machine, .inr (.inl rfl), PySem.W.Looks.of_pure rfl⟩) (PySem.W.ks_lone (thn h fun v s1 h1 => ?_))
  unfold PySem.W.StarOf at h1 ⊢
  exact thn h1 fun b s2 ⟨e, h2⟩ => ⟨e, thn h2 fun vs s3 h3 => ⟨trivial, h3⟩⟩
end
end KZn
/-! for x in zip(*rows), [.. for x in zip(*rows)], rows three or four tuples of one length. -/
namespace KZn
open PySem PySem.Spec PySem.F PySem.SeqAt PyProof.Rows L2 RZ
abbrev SqN (K : PySem.W.Frag) (H : Hp) : List Addr → List (List V) → Prop := W.EachIs (SqT K H)
/-- the values at a place -/
def colV (i : Nat) (rows : List (List V)) : List V := rows.map fun r => r.getD i .non
def ItzN (K : PySem.W.Frag) (ls : List Addr) : It :=
  ⟨fun i H => ∃ rows, SqN K H ls rows ∧ ∀ r ∈ rows, i < r.length,
    fun i H v H' => ∃ (T : Addr) (col : List V), v = .ref T ∧ H T = none ∧ H' = upd H T (.tup col) ∧ ∀ rows, SqN K H ls rows → col = colV i rows,
    fun i H => ∃ (l : Addr) (ls' : List Addr) (r : List V), ls = l :: ls' ∧ SqT K H l r ∧ r.length ≤ i⟩
section
variable {X : Cx} {pins : List (Addr × Obj)} {σ : L2.St} {H : Hp} {s : Shared}
theorem sqN_inj (I : Inv X pins σ H s) : ∀ {ls : List Addr} {r1 r2 : List (List V)}, SqN X.K H ls r1 → SqN X.K H ls r2 → r1 = r2
  | [], _, _, .nil, .nil => rfl
  | l :: ls, _, _, .cons a b, .cons c d => by rw [I.tuple_inj a c, sqN_inj I b d]
theorem items_of (I : Inv X pins σ H s) {i : Nat} : ∀ {ls : List Addr} {rows : List (List V)}, SqN X.K H ls rows → (∀ r ∈ rows, i < r.length) → ∃ xs : List Value, Vals (colV i rows) xs ∧ Items s.heap ls i xs
  | [], _, .nil, _ => ⟨[], .nil, rfl, fun m l x h _ => by simp at h⟩
  | l :: ls, r :: rows, .cons a b, h => by
    obtain ⟨xs, h1, h2, h3⟩ := items_of I b fun r hr => h r (List.mem_cons_of_mem _ hr)
    obtain ⟨its, rv, pl, _⟩ := I.tuple a
    have lt := h r List.mem_cons_self
    obtain ⟨u, hu, ru⟩ := rv.get (List.getElem?_eq_getElem lt)
    have e : r.getD i .non = r[i] := by rw [List.getD_eq_getElem?_getD, List.getElem?_eq_getElem lt]; rfl
    refine ⟨u :: xs, .cons (by show L2.RelV (r.getD i .non) u; rw [e]; exact ru) h1, by rw [List.length_cons, List.length_cons, h2], fun m l2 x hl hx => ?_⟩
    cases m with
    | zero =>
      cases hl
      cases hx
      exact ⟨its.toArray, pl, by simpa using hu⟩
    | succ m => exact h3 m l2 x hl hx
end
theorem wpIter {prog : Program} {w : World} {A : Around} {E : Value → Shared → Prop} {s : Shared} {z TI TO : Addr} {f0 : Value} {f1 : Bool} {Q : Value → Shared → Prop} (hz : ZRec s.heap z TI TO f0 f1) (h : Q (.ref z) s) : wpAny (model prog w) A (pyIter (.ref z)) Q E s := by
  have hT : s.TypeIs (.ref z) "zip" := ⟨_, hz, rfl⟩
  refine wpAny_pyIter_slot hT F.slot_zip_iter (wpAny_call_entry F.slot_zip_iter hT F.entry_zip_iter ?_ (F.args_zip_iter_1 _))
  show wpAny _ _ (ret (.ref z)) _ _ s
  exact wpAny_pure ⟨_, rfl, "zip", _, hT, F.slot_zip_next.lookup, h⟩
/-- what stands of the iterator at a turn -/
def tnN (z TI TO : Addr) (is ls : List Addr) (i : Nat) (h : Heap) : Prop := ∃ (f0 : Value) (f1 : Bool) (os : List Value), Own f0 ∧ ZRec h z TI TO f0 f1 ∧ TupO h TI (is.map Value.ref) ∧ TupO h TO os ∧ os.length = is.length ∧ ItAt h is ls 0 i
theorem turn_zipN {P : Program} {w : World} {K : PySem.W.Frag} {tx : Str} {tp : Pos} {z TI TO : Addr} {is ls : List Addr} (D : Apart z TI TO is ls) (ne : is ≠ []) (sz : is.length ≤ sizeLine) : Turn P w K (.Name tx tp) (ItzN K ls) (z :: TI :: TO :: is) z (tnN z TI TO is ls) where
  mem := List.mem_cons_self
  obj := fun i h st c hc => by
    obtain ⟨f0, f1, os, ho, hz, hTI, hTO, lo, hi⟩ := st
    rcases List.mem_cons.mp hc with q | hc
    · rw [q]; exact ⟨_, hz, fun v q => nomatch q⟩
    rcases List.mem_cons.mp hc with q | hc
    · rw [q]; exact ⟨_, hTI, fun v q => nomatch q⟩
    rcases List.mem_cons.mp hc with q | hc
    · rw [q]; exact ⟨_, hTO, fun v q => nomatch q⟩
    obtain ⟨m, hm⟩ := List.mem_iff_getElem?.mp hc
    have lm := (List.getElem?_eq_some_iff.mp hm).1
    obtain ⟨o, e, _, d⟩ := hi m c _ hm (List.getElem?_eq_getElem (by rw [← D.len]; exact lm))
    exact ⟨o, e, fun v q => by rw [d] at q; cases q⟩
  keep := fun i h h' st k => by
    obtain ⟨f0, f1, os, ho, hz, hTI, hTO, lo, hi⟩ := st
    refine ⟨f0, f1, os, ho, k z (by simp) _ hz, k TI (by simp) _ hTI, k TO (by simp) _ hTO, lo, fun m i l hm hl => (hi m i l hm hl).at fun o q => k i ?_ o q⟩
    exact List.mem_cons_of_mem _ (List.mem_cons_of_mem _ (List.mem_cons_of_mem _ (List.mem_of_getElem? hm)))
  item := by
    intro X hP hw hK hc i pins s σ H E I hf st hg
    subst hP hw hK
    obtain ⟨f0, f1, os, ho, hz, hTI, hTO, lo, hi⟩ := st
    obtain ⟨rows, hr, lt⟩ := hg
    obtain ⟨xs, rv, hx⟩ := items_of I hr lt
    have lx : xs.length ≤ sizeLine := by rw [hx.1, ← D.len]; exact sz
    refine next_item D hz ho hTI hTO lo ne hi hx lx fun h' f0' f1' os' ho' hz' hTO' lo' hi' hT hsz hk => ?_
    refine ⟨_, rfl, ?_⟩
    show wpAny _ _ (pure ()) _ _ _
    have mem3 : ∀ i ∈ is, i ∈ z :: TI :: TO :: is := fun i hi => List.mem_cons_of_mem _ (List.mem_cons_of_mem _ (List.mem_cons_of_mem _ hi))
    have new : ObjOk X.prog X.w (upd H s.heap.objs.size (.tup (colV i rows))) h' s.heap.objs.size (.tup (colV i rows)) :=
      ⟨by rw [rv.length]; exact lx, xs, rv, ⟨_, hT, rfl, _, rfl⟩⟩
    have I1 : Inv X pins σ (upd H s.heap.objs.size (.tup (colV i rows))) { s with heap := h' } :=
      I.turnedNew (t' := s.toks) (ch := z :: TI :: TO :: is) (fun c o hb q => hk c o (fun q' => hb (by simp [q'])) (fun q' => hb (by simp [q'])) (fun i hi q' => hb (by rw [q']; exact mem3 i hi)) q) hf (Nat.le_refl _) new
    refine wpAny_pure ⟨.ref s.heap.objs.size, _, I1, rfl, ⟨_, _, rfl, I.hok.fresh (Nat.le_refl _), rfl, fun rows2 h2 => by rw [sqN_inj I hr h2]⟩, ⟨f0', f1', os', ho', hz', ?_, hTO', lo', hi'⟩, fun c hcm => ?_⟩
    · exact hk _ _ D.TIz D.TITO (fun i hi => (D.iI i hi).symm) hTI
    · have hlt : c < s.heap.objs.size := by
        rcases List.mem_cons.mp hcm with q | hcm
        · rw [q]; exact Heap.lt_size hz
        rcases List.mem_cons.mp hcm with q | hcm
        · rw [q]; exact Heap.lt_size hTI
        rcases List.mem_cons.mp hcm with q | hcm
        · rw [q]; exact Heap.lt_size hTO
        obtain ⟨m, hm⟩ := List.mem_iff_getElem?.mp hcm
        have lm := (List.getElem?_eq_some_iff.mp hm).1
        obtain ⟨o, e, _⟩ := hi m c _ hm (List.getElem?_eq_getElem (by rw [← D.len]; exact lm))
        exact Heap.lt_size e
      rw [upd_ne (Nat.ne_of_lt hlt)]
      exact (hf c hcm).1
  done := by
    intro X hP hw hK hc i pins s σ H E I hf st hg
    subst hP hw hK
    obtain ⟨f0, f1, os, ho, hz, hTI, hTO, lo, hi⟩ := st
    obtain ⟨l, ls', r, rfl, hr, le⟩ := hg
    obtain ⟨its, rv, pl, _⟩ := I.tuple hr
    cases is with
    | nil => exact absurd rfl ne
    | cons i0 is =>
      have l1 := rv.length
      refine next_end (I.ok.hd hc) D hz ho hTI hTO hi pl (by simp; omega) fun h' hk => ⟨rfl, I.turnedL (t' := s.toks) (ch := z :: TI :: TO :: i0 :: is) (fun c o hb q =>
        hk c o (fun q' => hb (by simp [q'])) (fun q' => hb (by simp [q'])) (fun i hi q' => hb (by rw [q']; exact List.mem_cons_of_mem _ (List.mem_cons_of_mem _ (List.mem_cons_of_mem _ hi)))) q) hf⟩
  self := fun A i s Q E st h => by
    obtain ⟨f0, f1, os, ho, hz, _⟩ := st
    exact wpIter hz h
def iZipS (K : PySem.W.Frag) (te : TE) : TI := fun σ H R => te σ H fun v H1 => ∃ (a : Addr) (ls : List Addr), v = .ref a ∧ (SqT K H1 a (ls.map V.ref) ∨ SqL K H1 a (ls.map V.ref)) ∧ (ls.length = 3 ∨ ls.length = 4) ∧ (∃ rows, SqN K H1 ls rows) ∧ R (ItzN K ls) H1
theorem vals_refs : ∀ {ls : List Addr} {us : List Value}, Vals (ls.map V.ref) us → us = ls.map Value.ref
  | [], _, .nil => rfl
  | l :: ls, _, .cons a b => by
    cases a
    rw [vals_refs b]
    rfl
section
variable {X : Cx} {pins : List (Addr × Obj)} {σ : L2.St} {H : Hp} {s : Shared}
theorem tuples_of (I : Inv X pins σ H s) : ∀ {ls : List Addr} {rows : List (List V)}, SqN X.K H ls rows → ∀ l ∈ ls, ∃ its : Array Value, s.heap.IsTuple l its ∧ l < s.heap.objs.size
  | _, _, .nil, _, h => nomatch h
  | l :: ls, r :: rows, .cons a b, l2, h => by
    rcases List.mem_cons.mp h with rfl | h
    · obtain ⟨its, rv, pl, _⟩ := I.tuple a
      obtain ⟨o, ho, _⟩ := id pl
      exact ⟨_, pl, Heap.lt_size ho⟩
    · exact tuples_of I b l2 h
end
theorem pi_zipS {X : Cx} {e : Expr} {te : TE} {p pos tp0 sp : Pos} {tx : Str} (hg : Gl X "zip") (hm : X.mg "zip" = none) (he : PE X e te)
    (hs : starEach [.Starred e sp] X.env = [(true, eval e X.env)] := by rfl) :
    PI X (.Name tx tp0) (.Call (.Name "zip" p) [.Starred e sp] [] pos) (iZipS X.K te) := by
  refine ⟨fun pins s σ H R I h => ?_⟩
  refine Call_ (ld_blt I hg hm PyProof.Rows.boot_zip (callWith_typeS (thn (he.run pins s σ H _ I h) fun v s1 ⟨y, H1, I1, ry, a, ls, ey, hx, hl, ⟨rows, hr⟩, q⟩ => ?_) hs))
  subst ey
  obtain rfl : v = Value.ref a := ry
  refine StX.star_any I1 hx fun us s2 I2 rv => ?_
  rw [vals_refs rv]
  have tp := tuples_of I2 hr
  have fin : ∀ (n : Nat) (is : List Addr) (h' : Heap), is.length = ls.length → is ≠ [] → is.length ≤ sizeLine → (∀ i ∈ is, s2.heap.objs.size ≤ i ∧ i < s2.heap.objs.size + n) → is.Nodup → ZRec h' (s2.heap.objs.size + (n + 2)) (s2.heap.objs.size + n) (s2.heap.objs.size + (n + 1)) .none false → TupO h' (s2.heap.objs.size + n) (is.map Value.ref) →
      (∃ os, TupO h' (s2.heap.objs.size + (n + 1)) os ∧ os.length = is.length) → ItAt h' is ls 0 0 → (∀ c o, s2.heap.get? c = some o → h'.get? c = some o) →
      wpAny (model X.prog X.w) X.A (pyIter (.ref (s2.heap.objs.size + (n + 2)))) (PIE X pins σ (.Name tx tp0) R) X.xe { s2 with heap := h' } := fun n is h' l1 ne sz rg nd hz hTI ⟨os, hTO, lo⟩ hi hk => by
    have I3 : Inv X pins σ H1 { s2 with heap := h' } := I2.kept (t' := s2.toks) hk
    have D : Apart (s2.heap.objs.size + (n + 2)) (s2.heap.objs.size + n) (s2.heap.objs.size + (n + 1)) is ls := by
      refine ⟨Nat.ne_of_lt (by omega), Nat.ne_of_lt (by omega), Nat.ne_of_lt (by omega), fun i hi => Nat.ne_of_lt (Nat.lt_of_lt_of_le (rg i hi).2 (by omega)), fun i hi => Nat.ne_of_lt (rg i hi).2, fun i hi => Nat.ne_of_lt (Nat.lt_of_lt_of_le (rg i hi).2 (by omega)), nd, fun l hl => ?_, fun l hl => ?_, fun l hl i hi => ?_, l1⟩
      · obtain ⟨_, _, z⟩ := tp l hl
        exact Nat.ne_of_lt (Nat.lt_of_lt_of_le z (by omega))
      · obtain ⟨_, _, z⟩ := tp l hl
        exact Nat.ne_of_lt (Nat.lt_of_lt_of_le z (by omega))
      · obtain ⟨_, _, z⟩ := tp l hl
        exact Nat.ne_of_lt (Nat.lt_of_lt_of_le z (rg i hi).1)
    refine wpIter hz ⟨_, _, _, _, H1, rfl, I3, turn_zipN D ne sz, ⟨_, _, os, .inl rfl, hz, hTI, hTO, lo, hi⟩, fun c hcm => ?_, q⟩
    have hle : s2.heap.objs.size ≤ c := by
      rcases List.mem_cons.mp hcm with q | hcm
      · rw [q]; exact Nat.le_add_right _ _
      rcases List.mem_cons.mp hcm with q | hcm
      · rw [q]; exact Nat.le_add_right _ _
      rcases List.mem_cons.mp hcm with q | hcm
      · rw [q]; exact Nat.le_add_right _ _
      exact (rg c hcm).1
    exact I2.fpOk hle (I2.hok.fresh hle)
  rcases hl with hl | hl
  · obtain ⟨l1, l2, l3, rfl⟩ : ∃ l1 l2 l3, ls = [l1, l2, l3] := match ls, hl with | [l1, l2, l3], _ => ⟨l1, l2, l3, rfl⟩
    obtain ⟨x1, t1, _⟩ := tp l1 (by simp)
    obtain ⟨x2, t2, _⟩ := tp l2 (by simp)
    obtain ⟨x3, t3, _⟩ := tp l3 (by simp)
    refine call_zip3 t1 t2 t3 fun h' hz hTI hTO hi hsz hk => fin 3 [s2.heap.objs.size, s2.heap.objs.size + 1, s2.heap.objs.size + 2] h' rfl (fun z => nomatch z) (by show 3 ≤ sizeLine; decide) (fun i hi => ?_) ?_ hz hTI ⟨_, hTO, rfl⟩ hi hk
    · simp only [List.mem_cons, List.not_mem_nil, or_false] at hi
      rcases hi with z | z | z <;> rw [z] <;> exact ⟨by first | exact Nat.le_refl _ | exact Nat.le_add_right _ _, by first | exact Nat.lt_add_of_pos_right (by decide) | exact Nat.add_lt_add_left (by decide) _⟩
    · simp
  · obtain ⟨l1, l2, l3, l4, rfl⟩ : ∃ l1 l2 l3 l4, ls = [l1, l2, l3, l4] := match ls, hl with | [l1, l2, l3, l4], _ => ⟨l1, l2, l3, l4, rfl⟩
    obtain ⟨x1, t1, _⟩ := tp l1 (by simp)
    obtain ⟨x2, t2, _⟩ := tp l2 (by simp)
    obtain ⟨x3, t3, _⟩ := tp l3 (by simp)
    obtain ⟨x4, t4, _⟩ := tp l4 (by simp)
    refine call_zip4 t1 t2 t3 t4 fun h' hz hTI hTO hi hsz hk => fin 4 [s2.heap.objs.size, s2.heap.objs.size + 1, s2.heap.objs.size + 2, s2.heap.objs.size + 3] h' rfl (fun z => nomatch z) (by show 4 ≤ sizeLine; decide) (fun i hi => ?_) ?_ hz hTI ⟨_, hTO, rfl⟩ hi hk
    · simp only [List.mem_cons, List.not_mem_nil, or_false] at hi
      rcases hi with z | z | z | z <;> rw [z] <;> exact ⟨by first | exact Nat.le_refl _ | exact Nat.le_add_right _ _, by first | exact Nat.lt_add_of_pos_right (by decide) | exact Nat.add_lt_add_left (by decide) _⟩
    · simp
/-- [.. for x in zip(*rows)], the rows of one length -/
theorem lc_zipN {K : PySem.W.Frag} {ls : List Addr} {rows : List (List V)} {n : Nat} {g : TG} {tt : TT} {te : TE} {vs : List Nat} {σ : L2.St} {H1 : Hp} {D : Addr} {Qd : Hp → Prop} (Pv : Nat → Hp → Prop) (hn : ∀ r ∈ rows, r.length = n) (ne : ls ≠ []) (h0 : Pv 0 (upd H1 D (.lst []))) (hl : ∀ i H, i ≤ n → Pv i H → SqN K H ls rows)
    (hs : ∀ i T H, i < n → Pv i H → H T = none → g (.ref T) (wipe σ vs) (upd H T (.tup (colV i rows))) fun σ2 H2 => wipe σ2 vs = wipe σ vs ∧ tt σ2 H2 fun b H3 =>
      if b = true then te σ2 H3 fun y H4 => ∃ acc, H4 D = some (.lst acc) ∧ acc.length < sizeLine ∧ Pv (i + 1) (upd H4 D (.lst (acc ++ [y]))) else Pv (i + 1) H3) (hd : ∀ H, Pv n H → Qd H) :
    ∃ W : Nat → Nat → Hp → Prop, (∃ m, W 0 m (upd H1 D (.lst []))) ∧ ∀ i m H, W i m H →
      ((ItzN K ls).stop i H ∧ Qd H) ∨ ((ItzN K ls).go i H ∧ ∃ Nx : Hp → Prop, (∀ H', Nx H' → ∃ m', m' < m ∧ W (i + 1) m' H') ∧ ∀ x H', (ItzN K ls).yld i H x H' → g x (wipe σ vs) H' fun σ2 H2 => wipe σ2 vs = wipe σ vs ∧ tt σ2 H2 fun b H3 =>
        if b = true then te σ2 H3 fun y H4 => ∃ acc, H4 D = some (.lst acc) ∧ acc.length < sizeLine ∧ Nx (upd H4 D (.lst (acc ++ [y]))) else Nx H3) := by
  refine ⟨fun i m H => m = n - i ∧ i ≤ n ∧ Pv i H, ⟨n, by simp, Nat.zero_le _, h0⟩, ?_⟩
  rintro i m H ⟨rfl, hi, p⟩
  have q := hl i H hi p
  by_cases hlt : i < n
  · refine .inr ⟨⟨rows, q, fun r hr => by rw [hn r hr]; exact hlt⟩, Pv (i + 1), fun H' p' => ⟨n - (i + 1), by omega, rfl, hlt, p'⟩, fun x H' y => ?_⟩
    obtain ⟨T, col, rfl, hT, rfl, hc⟩ := y
    rw [hc rows q]
    exact hs i T H hlt p hT
  · have e : i = n := by omega
    subst e
    cases q with
    | nil => exact absurd rfl ne
    | cons a b => exact .inl ⟨⟨_, _, _, rfl, a, by rw [hn _ List.mem_cons_self]; exact Nat.le_refl _⟩, hd H p⟩
end KZn
/-! Vote.rows_voted. -/
namespace K01
open PySem PySem.Spec PyProof.Rows L2 KG KS KA KX KIa KFz
/-- rows of texts at their addresses -/
abbrev LsAt (H : Hp) : List Addr → List (List Str) → Prop := W.EachIs fun l r => H l = some (.tup (r.map V.str))
/-- the values at a place -/
def colS (i : Nat) (rows : List (List Str)) : List Str := rows.map fun r => r.getD i Str.empty
def voteS (xs : List Str) (k : Nat) (rs : List Str) (n : Nat) (rows : List (List Str)) : List Str := (List.range n).map fun i => (lookS (ptsL k xs) rs (colS i rows)).getD Str.empty
theorem LsAt.up {H H' : Hp} {ls : List Addr} {rows : List (List Str)} (h : LsAt H ls rows) (e : Same H H') : LsAt H' ls rows := each_and h fun _ _ _ z => e _ _ z
theorem LsAt.sqN {K : PySem.W.Frag} {H : Hp} : ∀ {ls : List Addr} {rows : List (List Str)}, LsAt H ls rows → KZn.SqN K H ls (rows.map fun r => r.map V.str)
  | _, _, .nil => .nil
  | _, _, .cons a b => .cons (SqT.of a) (LsAt.sqN b)
theorem col_map {i n : Nat} : ∀ {rows : List (List Str)}, (∀ r ∈ rows, r.length = n) → i < n → KZn.colV i (rows.map fun r => r.map V.str) = (colS i rows).map V.str
  | [], _, _ => rfl
  | r :: rows, h, hi => by
    have ih := col_map (rows := rows) (fun q hq => h q (List.mem_cons_of_mem _ hq)) hi
    unfold KZn.colV colS at ih ⊢
    rw [List.map_cons, List.map_cons, List.map_cons, List.map_cons, ih]
    congr 1
    have l := h r List.mem_cons_self
    rw [List.getD_eq_getElem?_getD, List.getD_eq_getElem?_getD, List.getElem?_map, List.getElem?_eq_getElem (by omega)]
    rfl
/-- vote.rows_voted(row, ..) -/
def spRV (K : PySem.W.Frag) (C N : Addr) : Sp := fun vs H Q E => ∃ (o p : Addr) (ls : List Addr) (xs rs : List Str) (k n : Nat) (rows : List (List Str)), vs = [.ref o, .ref p] ∧ H p = some (.tup (ls.map V.ref)) ∧ VtAt C H o xs k rs ∧ VGood xs k rs ∧ LsAt H ls rows ∧ ls.length ≤ 60 ∧ (∀ r ∈ rows, r.length = n ∧ ∀ x ∈ r, x ∈ xs) ∧ n ≤ 60 ∧
  (∀ (q : Addr) (H' : Hp), ls.length = k → Same H H' → H' q = some (.tup ((voteS xs k rs n rows).map V.str)) → (∀ x ∈ voteS xs k rs n rows, x ∈ rs) → Q (.ref q) H') ∧ ∀ d H', ls.length ≠ k → Same H H' → H d = none → H' d = some (.xd [(("word" : Str), V.str "count")]) → E (.ref N) (some d) H'
abbrev spRVV (K : PySem.W.Frag) (C N : Addr) : Sp := fun vs H Q E => ∃ ws rest, vs = ws ++ rest ∧ ws.length = (["self"] : List Str).length ∧ rest.length ≤ sizeLine ∧ ∀ p, H p = Option.none → spRV K C N (ws ++ [V.ref p]) (upd H p (.tup rest)) Q E
theorem vote_in {xs rs : List Str} {k n : Nat} {rows : List (List Str)} (G : VGood xs k rs) (lk : rows.length = k) (h : ∀ r ∈ rows, r.length = n ∧ ∀ x ∈ r, x ∈ xs) {i : Nat} (hi : i < n) : ∃ u ∈ rs, lookS (ptsL k xs) rs (colS i rows) = some u := by
  refine look_in (vs := rs) G.len.symm (pts_mem k _ (by unfold colS; rw [List.length_map, lk]) fun y hy => ?_)
  obtain ⟨r, hr, rfl⟩ := List.mem_map.mp hy
  obtain ⟨l, sub⟩ := h r hr
  rw [List.getD_eq_getElem?_getD, List.getElem?_eq_getElem (by omega)]
  exact sub _ (List.getElem_mem _)
section
variable {P : Program} {w : World} {K : PySem.W.Frag} {mg : Str → Option Value} {base : Heap}
theorem sc_vtRows : FnScope ["self", "rows", "column"] ((["self"] : List Str) ++ [("rows" : Str)]) (defScope s_vtRows) := ⟨rfl, rfl, rfl, by decide +kernel, rfl, by decide +kernel, by decide +kernel⟩
theorem ok_vtRows (B : Bz mg) {fI : Addr} (C : VtC K mg fI) (N : ErC K mg) (f : MtF K "rows_voted" "Vote.rows_voted" s_vtRows) : FnR P w K mg base (L2.CX P w) 3 f.a (spRVV K C.C N.C) := by
  have G3 := ok_noInit (P := P) (w := w) (base := base) N
  have b3 : L2.Binds K N.d ["self", "word"] [] := N.F.binds fun _ _ _ _ _ _ us hl => match us, hl with | [_, _], _ => rfl
  obtain ⟨oc, od, kV, doc, pm, an, cdv, ct, osl, ed, lk, hcd⟩ := f.F.ex
  rw [ed] at lk
  refine StX.fn_star (ps := (["self"] : List Str)) (pv := "rows") (sp := spRV K C.C N.C) lk hcd sc_vtRows StX.cxUp (StX.bind_star1 (B := fun us => bindArgs (PySem.W.fnOf "rows_voted" "Vote.rows_voted" (defArgs s_vtRows) (defBody s_vtRows) (defScope s_vtRows) .none kV doc pm an cdv ct) ⟨us, []⟩) (fun _ => rfl) (fun _ _ _ => rfl)) (fun A outer s H vs Q E hr h => ?_)
  obtain ⟨o, p, ls, xs, rs, k, n, rows, rfl, hp, hO, G, hL, l60, hw, n60, qv, qe⟩ := h
  obtain ⟨dx, d, r, t, ho, ks, hd, hR, ht, eks⟩ := hO
  have hu64 := hr.units
  have hu := hu_of hr
  refine ⟨_, (pss_cons
      (ps_if (pt_cmpR op_ne (pe_callB call_len (by rfl) B.n_len (by decide +kernel) (pa_cons (pv 1) pa_nil)) (pe_fld (pv 0) rfl) (nomark _))
        (pss_one
          (ps_raise (W := fun cls d _ H => E cls d H) rfl (takes_of rfl rfl rfl rfl) (KQ.pmk_ex N.T N.ty N.iC N.tI G3 hr b3 pass0 rfl N.g (pa_cons pe_str pa_nil))))
        pss_nil)
    (pss_one
      (ps_ret (pe_callTy call_tuple_of (by rfl) B.n_tuple (by decide +kernel) (pa_cons (pe_lc (own := [("column", 2)]) (g := gName 2) (by rfl) sc_vtRows.nd (KZn.pi_zipS rfl B.n_zip (pv 1)) (blkOk_by (own := [("column", 2)]) (N := ["self", "rows", "column"]) (sc := defScope s_vtRows) (by decide +kernel))
        (fun _ _ _ _ _ => (pg_name (i := 2) sc_vtRows.nd rfl (Or.inl rfl))) (fun _ _ _ _ _ => pts_nil) (fun _ _ _ _ _ => (pe_dget hu (show PE _ _ (tFld K (tVar 0) "result_of") from pe_fld (pv 0) rfl) (pv 2) (fun _ _ => rfl)))) pa_nil))))), ?_⟩
  have lr : rows.length = ls.length := hL.length.symm
  refine ⟨_, rfl, .ref p, ls.length, rfl, .inr ⟨_, SqT.of hp, by rw [List.length_map]⟩, _, rfl, o, C.C, dx, _, _, rfl, ho, C.cl, C.nn, rfl, rfl, _, rfl, ite2 (fun c => ?_) fun c => ?_⟩
  · have nk : ls.length ≠ k := fun z => by
      rw [show (V.int (ls.length : Nat) : V) = V.int (k : Nat) by rw [z], decide_eq_true rfl] at c
      cases c
    refine ⟨by show 1 ≤ 1000; decide, fun a ha => ⟨a, .str "count", rfl, upd_same, fun dd hdd ndd => ⟨rfl, dd, _, upd_same, by rw [upd_ne ndd, upd_same], ?_, ?_⟩⟩⟩
    · rw [upd_ne ndd] at hdd
      exact hdd
    · have hdd1 : H dd = none := by
        rw [upd_ne ndd] at hdd
        exact hdd
      refine qe dd _ nk (fun b u h1 => ?_) hdd1 upd_same
      have nb : b ≠ dd := ne_of_none h1 hdd1
      have na : b ≠ a := ne_of_none h1 ha
      rw [upd_ne nb, del_ne na, upd_ne na, upd_ne nb, upd_ne na]
      exact h1
  · have lk : ls.length = k := Classical.byContradiction fun z => c (by
      rw [decide_eq_false (fun y => z (by injection y with y; omega))]
      rfl)
    refine ⟨_, rfl, p, ls, rfl, .inl (SqT.of hp), by rw [lk]; exact G.hk, ⟨_, hL.sqN⟩, fun D hD => ?_⟩
    refine KZn.lc_zipN (K := K) (rows := rows.map fun r => r.map V.str) (n := n) (fun i H' => Same H H' ∧ H' D = some (.lst (((voteS xs k rs n rows).take i).map V.str))) (fun q hq => ?_) (fun z => ?_) ⟨same_new hD, upd_same⟩ (fun i H' _ z => (hL.up z.1).sqN) ?_ ?_
    · obtain ⟨r', hr', rfl⟩ := List.mem_map.mp hq
      rw [List.length_map]
      exact (hw r' hr').1
    · rw [z] at lk
      rcases G.hk with y | y <;> rw [y] at lk <;> cases lk
    · rintro i T H1 hi ⟨e1, hD1⟩ hT
      rw [col_map (fun r' hr' => (hw r' hr').1) hi]
      obtain ⟨u, hu1, hu2⟩ := vote_in G (lr.trans lk) hw hi
      have e2 : Same H1 (upd H1 T (.tup ((colS i rows).map V.str))) := same_new hT
      have h2 : upd H1 T (.tup ((colS i rows).map V.str)) T = some (.tup ((colS i rows).map V.str)) := upd_same
      generalize upd H1 T (.tup ((colS i rows).map V.str)) = H2 at e2 h2 ⊢
      have e02 := same_trans e1 e2
      have dg : DGet H2 t (.ref T) (valV (KDz.dtOf ks (rs.map V.str)) (KDz.entK (colS i rows))) := DGet.t (e02 _ _ ht) (by rw [KDz.entK_kV]; exact h2)
      rw [val_look, eks, hu2] at dg
      have hv : (voteS xs k rs n rows)[i]? = some u := by
        unfold voteS
        rw [List.getElem?_map, List.getElem?_range hi, Option.map_some, hu2]
        rfl
      refine ⟨rfl, _, rfl, o, C.C, dx, _, _, rfl, e02 _ _ ho, C.cl, C.no, rfl, _, rfl, t, _, rfl, dg, _, e2 _ _ hD1, by rw [List.length_map, List.length_take, sizeLine_eq]; omega, same_put hD e02, ?_⟩
      rw [upd_same, take_next hv, List.map_append]
      rfl
    · rintro H1 ⟨e1, hD1⟩
      have lv : (voteS xs k rs n rows).length = n := by unfold voteS; rw [List.length_map, List.length_range]
      rw [List.take_of_length_le (by omega)] at hD1
      refine ⟨D, _, rfl, .inl ⟨SqL.of hD1, fun q hq => qv q _ lk (same_trans e1 (same_new hq)) upd_same fun y hy => ?_⟩⟩
      unfold voteS at hy
      obtain ⟨i, hi, rfl⟩ := List.mem_map.mp hy
      obtain ⟨u, hu1, hu2⟩ := vote_in G (lr.trans lk) hw (List.mem_range.mp hi)
      rw [hu2]
      exact hu1
end
end K01
/-! sorted(t), t a tuple of texts. -/
namespace KTc
open PySem PySem.Spec PySem.W PySem.SeqAt PyProof.Rows L2 KS
/-- the texts in order, repeated ones too -/
def sortT (ts : List Str) : List Str := ts.mergeSort (dataLe false PyData.str)
def rSortTx (K : PySem.W.Frag) : List V → Hp → VK → Prop := fun vs H Q => ∃ (a : Addr) (ts : List Str), vs = [.ref a] ∧ SqT K H a (ts.map V.str) ∧ ts.length < 64 ∧ ∀ g, H g = none → Q (.ref g) (upd H g (.lst ((sortT ts).map V.str)))
theorem each_txs : ∀ {ts : List Str} {us : List Value}, Vals (ts.map V.str) us → EachIs (fun v b => L2.RelV (.str b) v) us ts
  | [], _, .nil => .nil
  | _ :: _, _, .cons a b => .cons a (each_txs b)
theorem txs_each : ∀ {ts : List Str} {us : List Value}, EachIs (fun v b => L2.RelV (.str b) v) us ts → Vals (ts.map V.str) us
  | _, _, .nil => .nil
  | _, _, .cons a b => .cons a (txs_each b)
section
variable {X : Cx} {pins : List (Addr × Obj)} {σ : L2.St} {H : Hp} {s : Shared}
/-- what is tracked stands there -/
theorem obj_there {P : Program} {w : World} {H : Hp} {h : Heap} {a : Addr} {u : HO} (x : ObjOk P w H h a u) : ∃ o, h.get? a = some o := by
  cases u with
  | lst xs => obtain ⟨_, _, _, _, e⟩ := x; exact ⟨_, e⟩
  | tup xs => obtain ⟨_, _, _, ob, e, _⟩ := x; exact ⟨_, e⟩
  | dK kvs => obtain ⟨_, _, _, _, o, _, _, e, _⟩ := x; exact ⟨_, e⟩
  | dT kvs => obtain ⟨_, _, _, _, o, _, _, e, _⟩ := x; exact ⟨_, e⟩
  | set S n => obtain ⟨o, _, _, _, e, _⟩ := x; exact ⟨_, e⟩
  | ins C dx fs => obtain ⟨_, _, _, e, _⟩ := x; exact ⟨_, e⟩
  | own y => exact x
  | xd fs => obtain ⟨_, ⟨_, _, _, e, _⟩, _⟩ := x; exact ⟨_, e⟩
  | rng lo hi => obtain ⟨_, _, _, e⟩ := x; exact ⟨_, e⟩
  | frz ob u => exact ⟨_, x.1⟩
  | tbl ps => exact ⟨_, x⟩
  | met f y => exact ⟨_, x⟩
  | ext φ => exact x.2.1
/-- a thing laid where nothing was -/
theorem Inv.laidA {h' : Heap} {a : Addr} {o : HO} {t' : Nat} (I : L2.Inv X pins σ H s) (k : ∀ b u, s.heap.get? b = some u → h'.get? b = some u) (hp : ∀ b u, s.heap.get? b = some u → b ≠ a) (hn : H a = none) (new : ObjOk X.prog X.w (upd H a o) h' a o) :
    L2.Inv X pins σ (upd H a o) { s with heap := h', toks := t' } := by
  refine I.un ⟨fun b u q _ _ _ => k b u q, fun b u q _ _ _ => ⟨u.slots, k b u q⟩, fun b u q n _ => by rw [upd_ne (hp b u q)]; exact n, fun b u q _ => ⟨u, k b u q⟩, fun b xs q => by rw [upd_ne (ne_of_none q hn)]; exact q, fun b u xs q => by rw [upd_ne (ne_of_none q hn)]; exact q, fun b ps q => ⟨#[], by rw [upd_ne (ne_of_none q hn), q]; simp⟩⟩ fun b u q => ?_
  by_cases e : b = a
  · subst e
    rw [upd_same] at q
    cases q
    exact new
  · rw [upd_ne e] at q
    exact (I.hok b u q).stay (fun c v _ r => k c v r) (fun c r => by rw [upd_ne (ne_of_none r hn)]; exact r) fun c xs r => by rw [upd_ne (ne_of_none r hn)]; exact r
theorem cr_sortTx (hu : X.A.units + 64 < cLine) : CallR X (.builtin "sorted") (rSortTx X.K) := by
  intro pins s σ H vs us Q I r h
  obtain ⟨a, ts, rfl, hs, h64, q⟩ := h
  obtain ⟨its, rv, pl, hz⟩ := I.tuple hs
  rw [Vals.ref1 r]
  obtain ⟨o, ho, hc, n, hd⟩ := id pl
  have zl : its.length = ts.length := by rw [← rv.length, List.length_map]
  refine Calls.call_function_entry kind_sorted plain_sorted entry_sorted (args_sorted1 _) ?_
  unfold Builtin.«sorted»
  refine wpAny_bind (m := checkCount "sorted" 1 1 _) (wpAny_pure (wpAny_bind (wpAny_collect_seq a (.inr rfl) ho hc hd (fun h1 k1 => ?_) (by rw [List.size_toArray, zl, sizeLine_eq]; omega))))
  refine wpAny_bind (wpAny_newList ?_ (by show its.length ≤ sizeLine; rw [zl, sizeLine_eq]; omega))
  have hoL : (h1.push (seqObj "list" its.toArray 0)).get? h1.objs.size = some (seqObj "list" its.toArray 0) := Heap.get?_push_size _ rfl
  have al : AllAlike (ts.map PyData.str) := fun x hx y hy => by
    obtain ⟨b, _, rfl⟩ := List.mem_map.mp hx
    obtain ⟨c, _, rfl⟩ := List.mem_map.mp hy
    rfl
  have so : Sortable (ts.map PyData.str) := .inr fun d hd => by
    obtain ⟨b, _, rfl⟩ := List.mem_map.mp hd
    refine ⟨?_, ?_⟩
    · intro z; cases z
    · intro xs z; cases z
  refine wpAny_bind (wpAny_holding (W.list_sort_data (s := { s with heap := h1.push (seqObj "list" its.toArray 0) }) (vs := its) (enc := PyData.str) hoL (each_txs rv) (each_and (each_txs rv) fun v p hp r0 => ⟨[], ?_, by simp⟩) al so (by rw [sizeLine_eq]; omega) (fun p hp => by show X.A.in1.units + 1 + 0 < cLine; simp only [Around.in1_units]; omega) fun out zo eo => ?_))
  · obtain ⟨t, rfl⟩ := r0
    exact .str p t
  · obtain ⟨c, hc2⟩ := sortedHeap_at (vs := its) (out := List.toArray out) hoL
    have rS := txs_each eo
    have hn : H h1.objs.size = none := by
      cases e : H h1.objs.size with
      | none => rfl
      | some u =>
        obtain ⟨o, ho2⟩ := obj_there (I.hok _ _ e)
        exact absurd (Heap.lt_size (k1 _ _ ho2)) (Nat.lt_irrefl _)
    have keep : ∀ b u, s.heap.get? b = some u → (sortedHeap (h1.push (seqObj "list" its.toArray 0)) h1.objs.size its (List.toArray out)).get? b = some u := fun b u e => by
      have e2 := k1 b u e
      have lt := Heap.lt_size e2
      rw [sortedHeap_old (Nat.ne_of_lt lt) (by rw [size_push']; exact Nat.lt_succ_of_lt lt)]
      exact Heap.get?_push_of_some _ e2
    have len : ((sortT ts).map V.str).length ≤ sizeLine := by
      unfold sortT
      rw [List.length_map, List.length_mergeSort, sizeLine_eq]
      omega
    have J : L2.Inv X pins σ (upd H h1.objs.size (.lst ((sortT ts).map V.str))) { s with heap := sortedHeap (h1.push (seqObj "list" its.toArray 0)) h1.objs.size its (List.toArray out), toks := s.toks } :=
      Inv.laidA I keep (fun b u e => Nat.ne_of_lt (Heap.lt_size (k1 b u e))) hn ⟨len, out, c, rS, by simpa using hc2⟩
    exact wpAny_pure ⟨_, rfl, ⟨.ref h1.objs.size, _, J, rfl, q h1.objs.size hn⟩⟩
end
end KTc
/-! Vote.middle. -/
namespace K01
open PySem PySem.Spec PyProof.Rows L2 KG KS KA KX KIa KFz KTc
/-- cls(..), the class in a local -/
def tMakeV (C : Addr) (sp : Sp) (dvs : List V) (E : XK) (tf : TE) (t : TA) : TE := fun σ H Q => tf σ H fun v H0 => v = .ref C ∧ tMake C sp dvs E t σ H0 Q
section
variable {X : Cx} {CX : CXT} {k : Nat} {f C : Addr} {fd : FuncData} {ps : List Str} {sp : Sp} {E : XK} {x : Str} {ds : List Value} {dvs : List V} {p pos : Pos} {e : Expr} {es : List Expr} {tf : TE} {t : TA}
theorem pe_makeV (M : Mk X.K C f) (F : FnOk X.prog X.w X.K X.mg X.base CX k f fd ps sp) (hr : Room (k + 1) X.A) (hc : PE X (.Name x p) tf) (hb : L2.Binds X.K fd ps ds) (hd : Vals dvs ds) (hx : Passes CX X E)
    (ha : PA X (e :: es) t) (he : starEach (e :: es) X.env = (false, eval e X.env) :: starEach es X.env := by rfl) (hpl : (backTo pos (starEach es X.env)).any (·.1) = false := by rfl) :
    PE X (.Call (.Name x p) (e :: es) [] pos) (tMakeV C sp dvs E tf t) := by
  refine ⟨fun pins s σ H Q I h => ?_⟩
  refine wpAny_Call_Name_kw (thn (hc.run pins s σ H _ I h) fun u s0 ⟨v, H0, I0, rv, ev, q0⟩ => ?_)
  subst ev
  obtain rfl : u = Value.ref C := rv
  refine PySem.W.callWith_K (h₀ := X.base) I0.ok.mod.kin M.kp (thn (ha.run pos pins s0 σ H0 _ I0 q0) fun us s1 ⟨vs, H1, I1, r, q⟩ => ⟨I1.kIn, ?_⟩) he hpl
  exact run_make M F hr hb hd hx I1 r q
end
/-- a vote made, with any claim about what it answers -/
theorem make_vt {C : Addr} {H : Hp} {d r x dx : Addr} {xs rs : List Str} {k : Nat} {Q : VK} {E : XK} (hd : H d = some (.tup (xs.map V.str))) (hr : H r = some (.tup (rs.map V.str))) (g : VGood xs k rs)
    (hx : H x = none) (hdx : H dx = none) (ne : dx ≠ x) (q : ∀ H' : Hp, Same H H' → VtAt C H' x xs k rs → Q .non H') :
    spVI C [.ref x, .ref d, .int (k : Nat), .ref r] (upd (upd H dx (.own x)) x (.ins C dx [])) Q E := by
  have e : Same H (upd (upd H dx (.own x)) x (.ins C dx [])) := same_trans (same_new hdx) (same_new (show upd H dx (.own x) x = none by rw [upd_ne ne.symm]; exact hx))
  exact ⟨x, dx, d, r, xs, rs, k, rfl, upd_same, e _ _ hd, e _ _ hr, g, fun H' t b _ h1 h2 => q H' (b.fresh hx e) ⟨dx, d, r, t, h1, h2⟩⟩
/-- the middle one of three -/
def midS (g : List Str) : Str := (sortT g).getD 1 Str.empty
def midR (xs : List Str) : List Str := (ptsL 3 xs).map midS
theorem leT_total {a b : Str} (h : W.dataLt (.str b) (.str a) = false) (k : W.dataLt (.str a) (.str b) = false) : a = b := ltT_total k h
theorem sortT_pairs (g : List Str) : (sortT g).Pairwise fun a b => W.dataLt (.str b) (.str a) = false := by
  refine (W.sort_pairwise (W.sortLe_total _ false _) g).imp fun {p q} hle => ?_
  have h2 : (!W.dataLt (.str q) (.str p)) = true := hle
  cases e : W.dataLt (.str q) (.str p) with
  | false => rfl
  | true =>
    rw [e] at h2
    cases h2
theorem mid_of {g : List Str} {v : Str} (l : g.length = 3) (c : 2 ≤ g.count v) : midS g = v := by
  have pm := List.mergeSort_perm g (W.dataLe false PyData.str)
  have so := sortT_pairs g
  have lc : (sortT g).count v = g.count v := pm.count_eq v
  have ll : (sortT g).length = 3 := by rw [← l]; exact pm.length_eq
  unfold midS
  rw [← lc] at c
  obtain ⟨x, y, z, e⟩ : ∃ x y z, sortT g = [x, y, z] := match sortT g, ll with | [x, y, z], _ => ⟨x, y, z, rfl⟩
  rw [e] at so c ⊢
  show y = v
  simp only [List.pairwise_cons, List.mem_cons, List.not_mem_nil, or_false, forall_eq_or_imp, forall_eq] at so
  obtain ⟨⟨xy, xz⟩, yz, _⟩ := so
  refine Classical.byContradiction fun ny => ?_
  simp only [List.count_cons, List.count_nil] at c
  have hy : (y == v) = false := beq_eq_false_iff_ne.mpr ny
  rw [hy] at c
  have hx : x = v := Classical.byContradiction fun n => by
    rw [beq_eq_false_iff_ne.mpr n] at c
    simp only [Bool.false_eq_true, if_false] at c
    split at c <;> omega
  have hz : z = v := Classical.byContradiction fun n => by
    rw [beq_eq_false_iff_ne.mpr n] at c
    simp only [Bool.false_eq_true, if_false] at c
    split at c <;> omega
  rw [hx] at xy
  rw [hz] at yz
  exact ny (leT_total yz xy)
theorem mid_mem {g : List Str} (l : g.length = 3) : midS g ∈ g := by
  have pm := List.mergeSort_perm g (W.dataLe false PyData.str)
  have ll : (sortT g).length = 3 := by rw [← l]; exact pm.length_eq
  unfold midS
  rw [List.getD_eq_getElem?_getD, List.getElem?_eq_getElem (by omega)]
  exact pm.mem_iff.mp (List.getElem_mem _)
theorem pts_sub {xs : List Str} : ∀ (k : Nat), ∀ g ∈ ptsL k xs, ∀ y ∈ g, y ∈ xs
  | 0, g, h, y, hy => by
    rw [List.mem_singleton.mp h] at hy
    cases hy
  | k + 1, g, h, y, hy => by
    unfold ptsL prods at h
    rw [List.replicate_succ', List.foldl_append] at h
    obtain ⟨q, hq, h2⟩ := List.mem_flatMap.mp (show g ∈ step (prods (List.replicate k xs)) xs from h)
    obtain ⟨c, hc, rfl⟩ := List.mem_map.mp h2
    rcases List.mem_append.mp hy with z | z
    · exact pts_sub k q hq y z
    · rw [List.mem_singleton.mp z]
      exact hc
theorem zip_map {α β : Type} {f : α → β} : ∀ {S : List α} {p : α × β}, p ∈ S.zip (S.map f) → ∃ g ∈ S, p = (g, f g)
  | [], _, h => nomatch h
  | s :: S, p, h => by
    rw [List.map_cons, List.zip_cons_cons] at h
    rcases List.mem_cons.mp h with e | h
    · exact ⟨s, List.mem_cons_self, e⟩
    · obtain ⟨g, hg, e⟩ := zip_map h
      exact ⟨g, List.mem_cons_of_mem _ hg, e⟩
theorem good_mid {xs : List Str} (asc : AscT xs) (ok : ∀ x ∈ xs, nameOk x = true) (l1 : 1 ≤ xs.length) (l3 : xs.length ≤ 3) : VGood xs 3 (midR xs) := by
  refine ⟨asc, ok, l1, l3, .inl rfl, by unfold midR; rw [List.length_map], fun x hx => ?_, fun p hp => ?_⟩
  · obtain ⟨g, hg, rfl⟩ := List.mem_map.mp hx
    exact pts_sub 3 g hg _ (mid_mem (pts_wid xs 3 g hg))
  · unfold midR at hp
    obtain ⟨g, hg, e⟩ := zip_map hp
    rw [e]
    show winS g = none ∨ winS g = some (midS g)
    cases h : winS g with
    | none => exact .inl rfl
    | some u =>
      refine .inr ?_
      unfold winS at h
      have z0 : decide (g.length ≤ g.count u + 1) = true := List.find?_some (p := fun v => decide (g.length ≤ g.count v + 1)) h
      have z := of_decide_eq_true z0
      have l := pts_wid xs 3 g hg
      rw [mid_of (v := u) l (by omega)]
/-- Vote.middle(domain) -/
def spMid (C : Addr) : Sp := fun vs H Q _ => ∃ (d : Addr) (xs : List Str), vs = [.ref C, .ref d] ∧ H d = some (.tup (xs.map V.str)) ∧ AscT xs ∧ (∀ x ∈ xs, nameOk x = true) ∧ 1 ≤ xs.length ∧ xs.length ≤ 3 ∧
  ∀ (o : Addr) (H' : Hp), Same H H' → VtAt C H' o xs 3 (midR xs) → Q (.ref o) H'
section
variable {P : Program} {w : World} {K : PySem.W.Frag} {mg : Str → Option Value} {base : Heap}
theorem sc_vtMid : FnScope ["cls", "domain", "some"] ["cls", "domain"] (defScope s_vtMid) := ⟨rfl, rfl, rfl, by decide +kernel, rfl, by decide +kernel, by decide +kernel⟩
theorem ok_vtMid (B : Bz mg) (fi : MtF K "__init__" "Vote.__init__" s_vtInit) (F : VtF K mg) (C : VtC K mg fi.a) (f : MtF K "middle" "Vote.middle" s_vtMid) : FnOk P w K mg base CX0 6 f.a f.d ["cls", "domain"] (spMid C.C) := by
  have G4 := ok_vtInit (P := P) (w := w) (base := base) B fi F C
  have b4 : L2.Binds K fi.d ["self", "domain", "count", "results"] [] := fi.F.binds fun _ _ _ _ _ _ us hl => match us, hl with | [_, _, _, _], _ => rfl
  have G2 := ok_all_rowsF (P := P) (w := w) (base := base) B.toBs F.all
  have b2 : L2.Binds K F.all.d ["columns"] [] := F.all.F.binds fun _ _ _ _ _ _ us hl => match us, hl with | [_], _ => rfl
  refine f.F.ok sc_vtMid (fun vs H Q E h => ?_) (fun cdv A outer s H vs Q E hr h => ?_)
  · obtain ⟨d, xs, rfl, _⟩ := h
    rfl
  · obtain ⟨d, xs, rfl, hd, asc, ok, l1, l3, q⟩ := h
    have hu64 := hr.units
    have hr1 : Room 1 _ := hr.mono (by omega)
    refine ⟨_, (pss_one
      (ps_ret (pe_makeV C.made G4 hr (pv 0) b4 .nil pass0 (pa_cons (pv 1) (pa_cons pe_int (pa_cons (pe_callTy call_tuple_of (by rfl) B.n_tuple (by decide +kernel) (pa_cons (pe_lc (own := [("some", 2)]) (g := gName 2) (by rfl) sc_vtMid.nd (pi_tup (pe_call G2 hr1 rfl F.all.g F.all.F.kp b2 .nil pass0 (pa_cons (pe_op op_rep (pe_lst (pa_cons (pv 1) pa_nil)) pe_int) pa_nil))) (blkOk_by (own := [("some", 2)]) (N := ["cls", "domain", "some"]) (sc := defScope s_vtMid) (by decide +kernel))
        (fun _ _ _ _ _ => (pg_name (i := 2) sc_vtMid.nd rfl (Or.inl rfl))) (fun _ _ _ _ _ => pts_nil) (fun _ _ _ _ _ => (pe_ix (show IxR _ (rIxL K) from ix_list) (pe_callB (show CallR _ (.builtin "sorted") (rSortTx K) from cr_sortTx hu64) (by rfl) B.n_sorted (by decide +kernel) (pa_cons (pv 2) pa_nil)) pe_int (fun _ _ => rfl)))) pa_nil)) pa_nil)))))), ?_⟩
    refine ⟨_, rfl, rfl, _, rfl, _, rfl, by show 1 ≤ sizeLine; decide, fun l hl => ?_⟩
    have e1 : Same H (upd H l (.lst [V.ref d])) := same_new hl
    refine ⟨l, 3, [V.ref d], rfl, rfl, upd_same, by decide, by decide, by show 3 ≤ sizeLine; decide, fun l2 hl2 => ?_⟩
    have e2 := same_trans e1 (same_new (o := .lst (List.replicate (3 : Int).toNat [V.ref d]).flatten) hl2)
    have h2 : upd (upd H l (.lst [V.ref d])) l2 (.lst (List.replicate (3 : Int).toNat [V.ref d]).flatten) l2 = some (.lst ((List.replicate 3 d).map V.ref)) := upd_same
    generalize upd (upd H l (.lst [V.ref d])) l2 (.lst (List.replicate (3 : Int).toNat [V.ref d]).flatten) = H2 at e2 h2 ⊢
    refine ⟨l2, List.replicate 3 d, List.replicate 3 xs, rfl, h2, rows_rep (e2 _ _ hd) 3, fun i => Nat.le_trans (pts_few l3 (by decide) i) (by decide), by rw [List.length_replicate]; decide, fun p as H3 hp e3 hp3 hS => ?_⟩
    have e03 := same_trans e2 e3
    have few : (ptsL 3 xs).length ≤ 100 := by
      have z := pts_few (k := 3) l3 (by decide) 3
      rw [List.take_of_length_le (by rw [List.length_replicate]; exact Nat.le_refl _)] at z
      exact z
    refine ⟨p, rfl, ⟨_, SqT.of hp3⟩, fun D hD => ?_⟩
    refine lc_tup (K := K) (xs := as) (fun i H' => Same H3 H' ∧ H' D = some (.lst (((midR xs).take i).map V.str))) ⟨same_new hD, upd_same⟩ (fun i H' _ z => SqT.of (z.1 _ _ hp3)) ?_ ?_
    · rintro i y H4 hy ⟨e4, hD4⟩
      obtain ⟨g, hg, a, rfl, _, fa⟩ := each_get hS hy
      have gl := pts_wid xs 3 g (List.mem_of_getElem? hg)
      have il : i < (ptsL 3 xs).length := (List.getElem?_eq_some_iff.mp hg).1
      have hm : (midR xs)[i]? = some (midS g) := by
        unfold midR
        rw [List.getElem?_map, show (ptsL 3 xs)[i]? = some g from hg]
        rfl
      have sl : (sortT g).length = 3 := by
        rw [← gl]
        exact (List.mergeSort_perm g (W.dataLe false PyData.str)).length_eq
      refine ⟨rfl, _, rfl, a, g, rfl, (fa.same e4).sqT, by omega, fun b hb => ?_⟩
      have e5 : Same H4 (upd H4 b (.lst ((sortT g).map V.str))) := same_new hb
      refine ⟨b, _, 1, _, rfl, rfl, SqL.of upd_same, at_of (j := 1) rfl (by
        rw [List.getElem?_map, List.getElem?_eq_getElem (by omega)]
        rfl), _, e5 _ _ hD4, by rw [List.length_map, List.length_take, sizeLine_eq]; omega, same_put hD (same_trans e4 e5), ?_⟩
      rw [upd_same, take_next hm, List.map_append]
      have em : midS g = (sortT g)[1] := by
        unfold midS
        rw [List.getD_eq_getElem?_getD, List.getElem?_eq_getElem (by omega)]
        rfl
      rw [em]
      rfl
    · rintro H4 ⟨e4, hD4⟩
      have la := hS.length
      have lm : (midR xs).length = as.length := by
        unfold midR
        rw [List.length_map, la]
        rfl
      rw [← lm, List.take_length] at hD4
      refine ⟨D, _, rfl, .inl ⟨SqL.of hD4, fun t ht => ?_⟩⟩
      have e5 := same_trans e4 (same_new (o := .tup ((midR xs).map V.str)) ht)
      have e05 := same_trans e03 e5
      exact fun x dx hx hdx ne => make_vt (k := 3) (e05 _ _ hd) upd_same (good_mid asc ok l1 l3) hx hdx ne fun H' e' vt => ⟨rfl, q x H' (same_trans e05 e') vt⟩
end
end K01
/-! _law_points. -/
namespace K01
open PySem PySem.Spec PyProof.Rows L2 KG KS KA KX KIa KFz KTc
abbrev s__law_points : Stmt := top 22
abbrev NPp : List Str := ["_law_base", "_law_count", "_law_found", "_law_k", "_law_longer", "_law_group", "_law_value"]
def spPts : Sp := fun vs H Q _ => ∃ (d : Addr) (xs : List Str) (k : Nat), vs = [.ref d, .int (k : Nat)] ∧ H d = some (.tup (xs.map V.str)) ∧ k ≤ 4 ∧ xs.length ≤ 3 ∧
  ∀ (l : Addr) (rs : List V) (H' : Hp), H l = none → Same H H' → H' l = some (.lst rs) → RowsF H H' rs (ptsL k xs) → Q (.ref l) H'
theorem each_app {α β : Type} {R : α → β → Prop} : ∀ {as cs : List α} {bs ds : List β}, W.EachIs R as bs → W.EachIs R cs ds → W.EachIs R (as ++ cs) (bs ++ ds)
  | _, _, _, _, .nil, h => h
  | _, _, _, _, .cons r t, h => .cons r (each_app t h)
theorem pts_succ (xs : List Str) (k : Nat) : prods (List.replicate (k + 1) xs) = step (prods (List.replicate k xs)) xs := by
  unfold prods
  rw [List.replicate_succ', List.foldl_append]
  rfl
section
variable {P : Program} {w : World} {K : PySem.W.Frag} {mg : Str → Option Value} {base : Heap}
theorem sc__law_points : FnScope NPp ["_law_base", "_law_count"] (defScope s__law_points) := ⟨rfl, rfl, rfl, by decide +kernel, rfl, by decide +kernel, by decide +kernel⟩
theorem ok__law_points (B : Bs mg) (f : FnF K mg "_law_points" "_law_points" s__law_points) : FnOk P w K mg base CX0 1 f.a f.d ["_law_base", "_law_count"] spPts := by
  refine f.F.ok sc__law_points (fun vs H Q E h => ?_) (fun cdv A outer s H vs Q E hr h => ?_)
  · obtain ⟨d, xs, k, rfl, _⟩ := h
    rfl
  · obtain ⟨d, xs, k, rfl, hd, k4, l3, q⟩ := h
    refine ⟨_, (pss_cons
      (ps_set (i := 2) sc__law_points.nd rfl (Or.inl rfl) (pe_lst (pa_cons (pe_tupF pa_nil) pa_nil)))
    (pss_cons
      (ps_for PassesOwn.never rfl (pi_range1 rfl B.n_range (pa_cons (pv 1) pa_nil)) (pg_name (i := 3) sc__law_points.nd rfl (Or.inl rfl))
        (pss_cons
          (ps_set (i := 4) sc__law_points.nd rfl (Or.inl rfl) (pe_lst pa_nil))
        (pss_cons
          (ps_for PassesOwn.never rfl (pi_list (pv 2)) (pg_name (i := 5) sc__law_points.nd rfl (Or.inr rfl))
            (pss_one
              (ps_set (i := 4) sc__law_points.nd rfl (Or.inl rfl) (pe_op op_cat (pv 4) (pe_lc (own := [("_law_value", 6)]) (g := gName 6) (by rfl) sc__law_points.nd (pi_tup (pv 0)) (blkOk_by (own := [("_law_value", 6)]) (N := NPp) (sc := defScope s__law_points) (by decide +kernel)) (fun _ _ _ _ _ => (pg_name (i := 6) sc__law_points.nd rfl (Or.inl rfl))) (fun _ _ _ _ _ => pts_nil)
                (fun _ _ _ _ _ => (pe_op (show OpR _ (binaryOp .Add) (rCatF K) from op_catF) (pv 5) (pe_tupF (pa_cons (pv 6) pa_nil)))))))))
        (pss_one
          (ps_set (i := 2) sc__law_points.nd rfl (Or.inl rfl) (pv 4))))))
    (pss_one
      (ps_ret (pv 2))))), ?_⟩
    refine ⟨by show 0 ≤ sizeLine; exact Nat.zero_le _, fun t ot ht ct dt => ⟨by show 1 ≤ sizeLine; decide, fun l hl => ?_⟩⟩
    have e0 : Same H (upd (upd H t (.frz ot (.tup []))) l (.lst [V.ref t])) := same_trans (same_new ht) (same_new hl)
    refine ⟨_, rfl, k, rfl, by omega, by omega, ?_⟩
    refine for_range (lo := 0) (n := k) (fun i σ H' => ∃ (l : Addr) (rs : List V) (v3 v4 v5 : Option V), σ = [some (.ref d), some (.int (k : Nat)), some (.ref l), v3, v4, v5, none] ∧ H l = none ∧ Same H H' ∧ H' l = some (.lst rs) ∧ RowsF H H' rs (prods (List.replicate i xs)))
      ⟨l, _, none, none, none, rfl, (same_new (o := .frz ot (.tup [])) ht).free hl, e0, upd_same, .cons ⟨t, rfl, ht, ot, by rw [upd_ne (ne_of_none upd_same hl), upd_same]; rfl, ct, dt⟩ .nil⟩ ?_ ?_
    · rintro i σ H1 hi ⟨l, rs, v3, v4, v5, rfl, nl, e1, hl1, hR⟩
      refine ⟨by show 0 ≤ sizeLine; exact Nat.zero_le _, fun m0 hm0 => ?_⟩
      have e2 : Same H1 (upd H1 m0 (.lst [])) := same_new hm0
      have wd := pts_wid xs i
      have fw : (prods (List.replicate i xs)).length ≤ 100 := by
        have z := pts_few (k := i) l3 (by omega) i
        rw [List.take_of_length_le (by rw [List.length_replicate]; exact Nat.le_refl _)] at z
        exact z
      have fs : (prods (List.replicate (i + 1) xs)).length ≤ 100 := by
        have z := pts_few (k := i + 1) l3 (by omega) (i + 1)
        rw [List.take_of_length_le (by rw [List.length_replicate]; exact Nat.le_refl _)] at z
        exact z
      rw [pts_succ] at fs ⊢
      generalize prods (List.replicate i xs) = R at hR wd fw fs ⊢
      have rl := hR.length
      refine ⟨_, rfl, l, rfl, ⟨_, SqL.of (e2 _ _ hl1)⟩, ?_⟩
      refine for_list (K := K) (a := l) (xs := rs) (fun j σ H' => ∃ (m : Addr) (acc : List V) (v5 : Option V), σ = [some (.ref d), some (.int (k : Nat)), some (.ref l), some (.int (0 + (i : Int))), some (.ref m), v5, none] ∧ H m = none ∧ Same H1 H' ∧ H' m = some (.lst acc) ∧ RowsF H H' acc (step (R.take j) xs))
        ⟨m0, [], v5, rfl, e1.free hm0, e2, upd_same, .nil⟩ (fun j σ H' _ ⟨_, _, _, _, _, e, _⟩ => SqL.of (e _ _ hl1)) ?_ ?_
      · rintro j y σ H2 hy ⟨m, acc, v5, rfl, nm, e3, hm, hA⟩
        obtain ⟨g, hg, a, rfl, _, fa⟩ := each_get hR hy
        have gl := wd g (List.mem_of_getElem? hg)
        have la := hA.length
        have lst := step_len (R.take j) xs
        have lst2 := step_len R xs
        have jl : j < R.length := (List.getElem?_eq_some_iff.mp hg).1
        refine ⟨_, rfl, _, rfl, d, rfl, ⟨_, SqT.of (e3 _ _ (e1 _ _ hd))⟩, fun D hD => ?_⟩
        refine lc_tup (K := K) (xs := xs.map V.str) (fun c H' => ∃ ac, Same H2 H' ∧ H' D = some (.lst ac) ∧ RowsF H H' ac ((xs.take c).map fun v => g ++ [v])) ⟨[], same_new hD, upd_same, .nil⟩ (fun c H' _ ⟨_, e, _⟩ => SqT.of (e _ _ (e3 _ _ (e1 _ _ hd)))) ?_ ?_
        · rintro c y H3 hc ⟨ac, e4, hac, hB⟩
          rw [List.getElem?_map] at hc
          cases hx : xs[c]? with
          | none =>
            rw [hx] at hc
            cases hc
          | some x =>
            rw [hx] at hc
            obtain rfl : V.str x = y := Option.some.inj hc
            have lac : ac.length ≤ 3 := by
              have z := hB.length
              rw [List.length_map, List.length_take] at z
              omega
            have fin : ∀ {H4 : Hp} {v : V}, Same H3 H4 → H4 D = some (.lst ac) → (∃ b, v = V.ref b ∧ H b = none ∧ Fz H4 b ((g ++ [x]).map V.str)) →
                ∃ acc, H4 D = some (.lst acc) ∧ acc.length < sizeLine ∧ ∃ acc', Same H2 (upd H4 D (.lst (acc ++ [v]))) ∧ upd H4 D (.lst (acc ++ [v])) D = some (.lst acc') ∧ RowsF H (upd H4 D (.lst (acc ++ [v]))) acc' ((xs.take (c + 1)).map fun v => g ++ [v]) := fun {H4 v} e5 h4 hv => by
              refine ⟨ac, h4, by rw [sizeLine_eq]; omega, ac ++ [v], same_put hD (same_trans e4 e5), upd_same, ?_⟩
              have hrow : RowsF H H4 (ac ++ [v]) ((xs.take (c + 1)).map fun v => g ++ [v]) := by
                rw [take_next hx, List.map_append]
                exact each_snoc (hB.up e5) hv
              exact each_and hrow fun v ts _ ⟨b, e6, e7, e8⟩ => ⟨b, e6, e7, e8.put h4⟩
            have e13 := same_trans (same_trans e1 e3) e4
            refine ⟨rfl, _, rfl, _, rfl, by show 1 ≤ sizeLine; decide, fun b ob hb cb db => ?_⟩
            have e5 : Same H3 (upd H3 b (.frz ob (.tup [V.str x]))) := same_new hb
            have fb : Fz (upd H3 b (.frz ob (.tup [V.str x]))) b [V.str x] := ⟨ob, upd_same, cb, db⟩
            refine ⟨a, b, g.map V.str, [V.str x], rfl, rfl, ((((fa.same e3).same e4).same e5)).sqT, fb.sqT, ?_, (fun z => nomatch z), fun z => ?_, fun _ p op hp cp dp => ?_⟩
            · rw [List.length_map, sizeLine_eq]
              show g.length + 1 ≤ _
              omega
            · have z2 : g = [] := List.map_eq_nil_iff.mp z
              exact fin e5 (e5 _ _ hac) ⟨b, rfl, e13.free hb, by rw [z2]; exact fb⟩
            · have e6 := same_trans e5 (same_new (o := .frz op (.tup (g.map V.str ++ [V.str x]))) hp)
              exact fin e6 (e6 _ _ hac) ⟨p, rfl, (same_trans e13 e5).free hp, op, by rw [upd_same, List.map_append]; rfl, cp, dp⟩
        · rintro H3 ⟨ac, e4, hac, hB⟩
          rw [List.length_map, List.take_length] at hB
          have lac := hB.length
          rw [List.length_map] at lac
          have tl : (R.take j).length ≤ R.length := by rw [List.length_take]; omega
          have sl : (step (R.take j) xs).length ≤ 100 := by
            rw [lst]
            rw [lst2] at fs
            exact Nat.le_trans (Nat.mul_le_mul_right _ tl) fs
          refine ⟨m, D, acc, ac, rfl, rfl, e4 _ _ hm, hac, by rw [sizeLine_eq]; omega, fun p hp => ?_⟩
          have e5 := same_new (o := .lst (acc ++ ac)) hp
          refine ⟨p, acc ++ ac, _, rfl, (same_trans (same_trans e1 e3) e4).free hp, same_trans e3 (same_trans e4 e5), upd_same, ?_⟩
          rw [step_take hg]
          exact each_app ((hA.up e4).up e5) (hB.up e5)
      · rintro σ H2 ⟨m, acc, v5, rfl, nm, e3, hm, hA⟩
        rw [rl, List.take_length] at hA
        exact ⟨_, rfl, m, acc, _, _, _, rfl, nm, same_trans e1 e3, hm, hA⟩
    · rintro σ H1 ⟨l, rs, v3, v4, v5, rfl, nl, e1, hl1, hR⟩
      exact ⟨_, rfl, q l rs H1 nl e1 hl1 hR⟩
end
end K01
/-! _law_pick of a tuple; what can be shown; slices and sums of tuples that stand on the heap. -/
namespace K01
open PySem PySem.Spec PyProof.Rows L2 KG KS KA KX KLm KIa LamX
def spPickT : Sp := fun vs H Q _ => ∃ (d l a : Addr) (xs : List V) (k : Nat), vs = [.ref d, .ref a] ∧ DeckAt H d l k ∧ H a = some (.tup xs) ∧ 0 < xs.length ∧ xs.length < 1000000 ∧ k < 1000000000 ∧
  ∀ (v : V) (H' : Hp), v ∈ xs → DeckAt H' d l (k + 1) → Off d l H H' → Q v H'
theorem tup_off {H H' : Hp} {d l p : Addr} {k : Nat} {xs : List V} (h : H p = some (.tup xs)) (D : DeckAt H d l k) (o : Off d l H H') : H' p = some (.tup xs) := by
  obtain ⟨cs, m, n, hd, hl, _⟩ := D.ex
  exact o _ _ h (ne_of h hd (by intro z; cases z)) (ne_of h hl (by intro z; cases z))
section
variable {P : Program} {w : World} {K : PySem.W.Frag} {mg : Str → Option Value} {base : Heap}
theorem ok__law_pickT (B : Bi mg) (f : FnF K mg "_law_pick" "_law_pick" s__law_pick) (fd : FnF K mg "_law_draw" "_law_draw" s__law_draw) : FnOk P w K mg base CX0 2 f.a f.d ["_law_deck_here", "_law_options"] spPickT := by
  have G := ok__law_draw (P := P) (w := w) (base := base) B fd
  have bd : L2.Binds K fd.d ["_law_deck_here", "_law_many"] [] := fd.F.binds fun _ _ _ _ _ _ us hl => match us, hl with | [_, _], _ => rfl
  refine f.F.ok sc__law_pick (fun vs H Q E h => ?_) (fun cdv A outer s H vs Q E hr h => ?_)
  · obtain ⟨d, l, a, xs, k, rfl, _⟩ := h
    rfl
  · obtain ⟨d, l, a, xs, k, rfl, D, ha, h0, h1, hk, q⟩ := h
    refine ⟨_, (pss_one
      (ps_ret (pe_ix (show IxR _ (rIxT K) from ix_tup) (pv 1) (pe_call G hr rfl fd.g fd.F.kp bd .nil pass0 (pa_cons (pv 0) (pa_cons (pe_callB call_len (by rfl) B.n_len (by decide +kernel) (pa_cons (pv 1) pa_nil)) pa_nil))) (fun _ _ => rfl)))), ?_⟩
    refine ⟨_, rfl, _, rfl, _, rfl, .ref a, xs.length, rfl, Or.inr ⟨xs, SqT.of ha, rfl⟩, d, l, (xs.length : Int), k, rfl, D, by omega, by omega, hk, fun i H' i0 i1 D' o' => ?_⟩
    have hi : i.toNat < xs.length := by omega
    have hx : xs[i.toNat]? = some xs[i.toNat] := List.getElem?_eq_getElem hi
    exact ⟨a, xs, i, xs[i.toNat], rfl, rfl, SqT.of (tup_off ha D o'), at_of (j := i.toNat) (by omega) hx, q _ H' (List.getElem_mem hi) D' o'⟩
end
/-! ### what can be shown -/
structure Shw (H : Hp) (v : V) (D : PyData) (n c : Nat) : Prop where
  dq : Dq (fun _ => True) H v D
  sh : D.showable = true
  dp : D.depth ≤ n
  ct : cost D ≤ c
structure Shws (H : Hp) (xs : List V) (ds : List PyData) (n c : Nat) : Prop where
  dq : DqAll (fun _ => True) H xs ds
  sh : PyData.showableAll ds = true
  dp : PyData.depthAll ds ≤ n
  ct : costAll ds ≤ c
theorem Shw.up {H H' : Hp} {v : V} {D : PyData} {n c n2 c2 : Nat} (h : Shw H v D n c) (e : Same H H') (h1 : n ≤ n2) (h2 : c ≤ c2) : Shw H' v D n2 c2 := ⟨h.dq.same e, h.sh, Nat.le_trans h.dp h1, Nat.le_trans h.ct h2⟩
theorem Shws.up {H H' : Hp} {v : List V} {D : List PyData} {n c n2 c2 : Nat} (h : Shws H v D n c) (e : Same H H') (h1 : n ≤ n2) (h2 : c ≤ c2) : Shws H' v D n2 c2 := ⟨h.dq.same e, h.sh, Nat.le_trans h.dp h1, Nat.le_trans h.ct h2⟩
theorem Shws.nil {H : Hp} {n c : Nat} : Shws H [] [] n c := ⟨.nil, by simp only [PyData.showableAll], by simp only [PyData.depthAll]; omega, by simp only [costAll]; omega⟩
theorem Shws.cons {H : Hp} {v : V} {xs : List V} {D : PyData} {ds : List PyData} {n c c2 : Nat} (h : Shw H v D n c) (t : Shws H xs ds n c2) : Shws H (v :: xs) (D :: ds) n (c + 2 + c2) :=
  ⟨.cons h.dq t.dq, by simp only [PyData.showableAll]; rw [h.sh, t.sh]; rfl, by simp only [PyData.depthAll]; exact Nat.max_le.mpr ⟨h.dp, t.dp⟩, by simp only [costAll]; have := h.ct; have := t.ct; omega⟩
theorem Shws.app {H : Hp} {n c2 : Nat} {ys : List V} {es : List PyData} (t : Shws H ys es n c2) : ∀ {xs : List V} {ds : List PyData} {c : Nat}, Shws H xs ds n c → Shws H (xs ++ ys) (ds ++ es) n (c + c2) := by
  intro xs
  induction xs with
  | nil =>
    intro ds c h
    cases h.dq
    exact t.up (fun _ _ e => e) (Nat.le_refl _) (by omega)
  | cons x xs ih =>
    intro ds c h
    obtain ⟨dq, sh, dp, ct⟩ := h
    cases dq with
    | @cons _ _ D ds h1 h2 =>
      simp only [PyData.showableAll, Bool.and_eq_true] at sh
      simp only [PyData.depthAll] at dp
      simp only [costAll] at ct
      have z := Shws.cons ⟨h1, sh.1, Nat.le_trans (Nat.le_max_left _ _) dp, Nat.le_refl _⟩ (ih (ds := ds) (c := costAll ds) ⟨h2, sh.2, Nat.le_trans (Nat.le_max_right _ _) dp, Nat.le_refl _⟩)
      exact z.up (fun _ _ e => e) (Nat.le_refl _) (by omega)
theorem Shws.tup {H : Hp} {a : Addr} {xs : List V} {ds : List PyData} {n c : Nat} (h : H a = some (.tup xs)) (t : Shws H xs ds n c) : Shw H (.ref a) (.tuple ds) (n + 1) (c + 6) :=
  ⟨.tup trivial h t.dq, by simp only [PyData.showable]; exact t.sh, by simp only [PyData.depth]; have := t.dp; omega, by simp only [cost]; have := t.ct; omega⟩
theorem Shws.lst {H : Hp} {a : Addr} {xs : List V} {ds : List PyData} {n c : Nat} (h : H a = some (.lst xs)) (t : Shws H xs ds n c) : Shw H (.ref a) (.list ds) (n + 1) (c + 4) :=
  ⟨.lst trivial h t.dq, by simp only [PyData.showable]; exact t.sh, by simp only [PyData.depth]; have := t.dp; omega, by simp only [cost]; have := t.ct; omega⟩
theorem shw_non {H : Hp} : Shw H .non .none 0 130 := ⟨.non, by simp only [PyData.showable], by simp only [PyData.depth]; omega, by simp only [cost]; omega⟩
theorem shw_bl {H : Hp} (b : Bool) : Shw H (.bl b) (.bool b) 0 130 := ⟨.bl b, by simp only [PyData.showable], by simp only [PyData.depth]; omega, by simp only [cost]; omega⟩
theorem shw_int {H : Hp} {i : Int} (h : i.natAbs.log2 ≤ 127) : Shw H (.int i) (.int i) 0 130 := ⟨.int i, by simp only [PyData.showable, decide_eq_true_eq]; omega, by simp only [PyData.depth]; omega, by simp only [cost]; omega⟩
theorem shw_int2 {H : Hp} {i : Int} (h : i.natAbs.log2 ≤ 200) : Shw H (.int i) (.int i) 0 210 := ⟨.int i, by simp only [PyData.showable, decide_eq_true_eq]; omega, by simp only [PyData.depth]; omega, by simp only [cost]; omega⟩
def TxOk (x : Str) : Prop := x.length ≤ 12 ∧ ∀ c ∈ x.cps.toList, c < 16 ^ 8
theorem shw_tx {H : Hp} {x : Str} (h : TxOk x) : Shw H (.str x) (.str x) 0 130 := ⟨.str x, by simp only [PyData.showable], by simp only [PyData.depth]; omega, by simp only [cost]; have := PySem.StrLaws.reprText_len x h.2; have := h.1; omega⟩
theorem tx_name {x : Str} (h : nameOk x = true) : TxOk x := by
  unfold nameOk at h
  rw [Bool.and_eq_true, Bool.and_eq_true, decide_eq_true_eq] at h
  obtain ⟨h8, h1, _⟩ := h
  refine ⟨by omega, fun c hc => ?_⟩
  unfold Txt.isascii at h1
  rw [Array.all_eq_true] at h1
  obtain ⟨i, hi, rfl⟩ := List.mem_iff_getElem.mp hc
  have := of_decide_eq_true (h1 i (by simpa using hi))
  have e : x.cps.toList[i] = x.cps[i]'(by simpa using hi) := by simp
  rw [e]
  exact Nat.lt_trans this (by decide)
theorem tx_app {x y : Str} (h : nameOk x = true) (hy : y.length ≤ 4) (k : ∀ c ∈ y.cps.toList, c < 16 ^ 8) : TxOk (x ++ y) := by
  have hl : x.length ≤ 8 := by
    unfold nameOk at h
    rw [Bool.and_eq_true, decide_eq_true_eq] at h
    exact h.1
  have hx := tx_name h
  refine ⟨by rw [strLen_append]; omega, fun c hc => ?_⟩
  have e : (x ++ y).cps.toList = x.cps.toList ++ y.cps.toList := by
    show (x.cps ++ y.cps).toList = _
    simp
  rw [e] at hc
  rcases List.mem_append.mp hc with z | z
  · exact hx.2 c z
  · exact k c z
theorem shws_txs {H : Hp} : ∀ {g : List Str}, (∀ x ∈ g, TxOk x) → Shws H (g.map V.str) (g.map PyData.str) 0 (g.length * 132)
  | [], _ => Shws.nil
  | x :: g, h => by
    have z := Shws.cons (shw_tx (H := H) (h x List.mem_cons_self)) (shws_txs (H := H) (g := g) fun y hy => h y (List.mem_cons_of_mem _ hy))
    exact z.up (fun _ _ e => e) (Nat.le_refl _) (by rw [List.length_cons, Nat.succ_mul]; omega)
/-! ### tuples that stand on the heap -/
theorem slH_to {K : PySem.W.Frag} {H : Hp} {r : Addr} {rs : List V} {lo hi : Option Int} {Q : VK} (h : H r = some (.tup rs)) (q : ∀ (b : Addr) (H' : Hp), Same H H' → H' b = some (.tup (cutV rs lo hi)) → Q (.ref b) H') : rSlA K (.ref r) lo hi H Q := by
  refine ⟨r, rs, rfl, SqT.of h, fun ⟨z1, z2⟩ => q r H (fun _ _ e => e) ?_, fun _ p hp => q p _ (same_new hp) upd_same⟩
  have e : cutV rs lo hi = rs := by
    unfold cutV
    rw [z1, z2, List.drop_zero, Nat.sub_zero, List.take_length]
  rw [e]
  exact h
theorem catH_to {K : PySem.W.Frag} {H : Hp} {a b : Addr} {xs ys : List V} {Q : VK} (ha : H a = some (.tup xs)) (hb : H b = some (.tup ys)) (hl : xs.length + ys.length ≤ 1000) (q : ∀ (c : Addr) (H' : Hp), Same H H' → H' c = some (.tup (xs ++ ys)) → Q (.ref c) H') : rCatA K (.ref a) (.ref b) H Q := by
  refine ⟨a, b, xs, ys, rfl, rfl, SqT.of ha, SqT.of hb, by rw [sizeLine_eq]; omega, fun z => ?_, fun _ z => ?_, fun _ _ p hp => q p _ (same_new hp) upd_same⟩
  · refine q b H (fun _ _ e => e) ?_
    rw [z]
    exact hb
  · refine q a H (fun _ _ e => e) ?_
    rw [z, List.append_nil]
    exact ha
theorem cut_texts {g : List Str} {lo hi : Option Int} : ∃ g' : List Str, cutV (g.map V.str) lo hi = g'.map V.str ∧ (∀ x ∈ g', x ∈ g) ∧ g'.length ≤ g.length := by
  unfold cutV
  refine ⟨(g.drop (HT.sIx (g.map V.str).length 0 lo)).take (HT.sIx (g.map V.str).length (g.map V.str).length hi - HT.sIx (g.map V.str).length 0 lo), by rw [List.map_take, List.map_drop], fun x hx => List.mem_of_mem_drop (List.mem_of_mem_take hx), ?_⟩
  rw [List.length_take, List.length_drop]
  omega
/-- keys that are texts, each with True -/
def BoolsOf (g : List Str) (kvs : List (Key × V)) : Prop := ∀ p ∈ kvs, ∃ x ∈ g, p = (.inr x, .bl true)
theorem bools_put {g : List Str} {kvs : List (Key × V)} {x : Str} (h : BoolsOf g kvs) (hx : x ∈ g) : BoolsOf g (putK kvs (.inr x) (.bl true)) ∧ (putK kvs (.inr x) (.bl true)).length ≤ kvs.length + 1 := by
  unfold putK
  split
  · refine ⟨fun p hp => ?_, by rw [List.length_map]; omega⟩
    obtain ⟨q, hq, rfl⟩ := List.mem_map.mp hp
    obtain ⟨y, hy, rfl⟩ := h q hq
    refine ⟨y, hy, ?_⟩
    split <;> rfl
  · refine ⟨fun p hp => ?_, by rw [List.length_append]; exact Nat.le_refl _⟩
    rcases List.mem_append.mp hp with hp | hp
    · exact h p hp
    · exact ⟨x, hx, List.mem_singleton.mp hp⟩
theorem bools_merge {g : List Str} : ∀ (r : List Str) (kvs : List (Key × V)), (∀ x ∈ r, x ∈ g) → BoolsOf g kvs → BoolsOf g (mergeK kvs (r.map fun x => (Sum.inr x, V.bl true))) ∧ (mergeK kvs (r.map fun x => (Sum.inr x, V.bl true))).length ≤ kvs.length + r.length
  | [], kvs, _, h => ⟨h, Nat.le_refl _⟩
  | x :: r, kvs, hr, h => by
    obtain ⟨h1, h2⟩ := bools_put h (hr x List.mem_cons_self)
    obtain ⟨h3, h4⟩ := bools_merge r _ (fun y hy => hr y (List.mem_cons_of_mem _ hy)) h1
    refine ⟨h3, ?_⟩
    have e : mergeK kvs ((x :: r).map fun x => (Sum.inr x, V.bl true)) = mergeK (putK kvs (.inr x) (.bl true)) (r.map fun x => (Sum.inr x, V.bl true)) := rfl
    rw [e, List.length_cons]
    omega
theorem shw_dict {H : Hp} {a : Addr} {g : List Str} (hg : ∀ x ∈ g, TxOk x) {kvs : List (Key × V)} (h : H a = some (.dK kvs)) (b : BoolsOf g kvs) : ∃ D, Shw H (.ref a) D 1 (kvs.length * 264 + 4) := by
  have key : ∀ {kvs : List (Key × V)}, BoolsOf g kvs → ∃ ps : List (PyData × PyData), DqAll (fun _ => True) H (kvs.map fun p => kV p.1) (ps.map (·.1)) ∧ DqAll (fun _ => True) H (kvs.map fun p => p.2) (ps.map (·.2)) ∧ PyData.showableKv ps = true ∧ PyData.depthKv ps ≤ 0 ∧ costKv ps ≤ kvs.length * 264 := by
    intro kvs
    induction kvs with
    | nil => exact fun _ => ⟨[], .nil, .nil, by simp only [PyData.showableKv], by simp only [PyData.depthKv]; omega, by simp only [costKv]; omega⟩
    | cons p kvs ih =>
      intro b
      obtain ⟨ps, h1, h2, h3, h4, h5⟩ := ih fun q hq => b q (List.mem_cons_of_mem _ hq)
      obtain ⟨x, hx, rfl⟩ := b p List.mem_cons_self
      have s1 := shw_tx (H := H) (hg x hx)
      have s2 := shw_bl (H := H) true
      refine ⟨(.str x, .bool true) :: ps, .cons s1.dq h1, .cons s2.dq h2, ?_, ?_, ?_⟩
      · simp only [PyData.showableKv]
        rw [h3]
        simp [PyData.showable]
      · simp only [PyData.depthKv, PyData.depth]
        omega
      · simp only [costKv]
        have := s1.ct
        have := s2.ct
        rw [List.length_cons, Nat.succ_mul]
        omega
  obtain ⟨ps, h1, h2, h3, h4, h5⟩ := key b
  refine ⟨.dict ps, .dct trivial h h1 h2, by simp only [PyData.showable]; exact h3, by simp only [PyData.depth]; omega, by simp only [cost]; omega⟩
end K01
/-! t == (), l != []; of which type an item is. -/
namespace K01
open PySem PySem.Spec PyProof.Rows L2 KG KS KA KX KIa
/-- t == (), t a tuple of any items -/
def rEqT0 (K : PySem.W.Frag) : R2 := fun x y H Q => ∃ a b xs, x = .ref a ∧ y = .ref b ∧ SqT K H a xs ∧ SqT K H b [] ∧ Q (.bl xs.isEmpty) H
/-- l != [], l a list of any items -/
def rNeL0 (K : PySem.W.Frag) : R2 := fun x y H Q => ∃ a b xs, x = .ref a ∧ y = .ref b ∧ SqL K H a xs ∧ SqL K H b [] ∧ Q (.bl (!xs.isEmpty)) H
section
variable {X : Cx}
theorem op_eqT0 (hu : X.A.units + 64 < cLine) : OpR X (compareOp .Eq) (rEqT0 X.K) := by
  intro pins s σ H x y v u Q I rx ry h
  obtain ⟨a, b, xs, rfl, rfl, ha, hb, q⟩ := h
  cases (show v = Value.ref a from rx)
  cases (show u = Value.ref b from ry)
  obtain ⟨its, rv, pl, _⟩ := I.tuple ha
  obtain ⟨its2, rv2, pl2, _⟩ := I.tuple hb
  cases rv2
  refine SeqAt.eq_tupleAt (e := fun _ => true) pl pl2 (by omega) (fun j _ h2 => absurd h2 (by simp)) ⟨.bl _, H, I, rfl, ?_⟩
  cases rv with
  | nil => exact q
  | cons r1 r2 =>
    rw [show (List.all (List.range (min (_ :: _ : List Value).toArray.size ([] : List Value).toArray.size)) (fun _ => true) && (_ :: _ : List Value).toArray.size == ([] : List Value).toArray.size) = false by simp]
    exact q
theorem op_neL0 (hu : X.A.units + 64 < cLine) : OpR X (compareOp .NotEq) (rNeL0 X.K) := by
  intro pins s σ H x y v u Q I rx ry h
  obtain ⟨a, b, xs, rfl, rfl, ha, hb, q⟩ := h
  cases (show v = Value.ref a from rx)
  cases (show u = Value.ref b from ry)
  obtain ⟨its, rv, pl, _⟩ := I.list ha
  obtain ⟨its2, rv2, pl2, _⟩ := I.list hb
  cases rv2
  cases rv with
  | nil => exact SeqAt.RcNeAt.lists (e := fun _ => true) pl.isList pl2.isList rfl (by omega) (fun j _ h2 => absurd h2 (by simp)) _ _ _ _ ⟨.bl false, H, I, rfl, q⟩
  | cons r1 r2 => exact SeqAt.RcNeAt.lists_lengths pl.isList pl2.isList (by simp) (by omega) _ _ _ _ ⟨.bl true, H, I, rfl, q⟩
end
theorem tyL {K : PySem.W.Frag} {H : Hp} {a : Addr} {xs : List V} (h : SqL K H a xs) : TyX K H (.ref a) (.type "list") := by
  rcases h with (h | ⟨o, h⟩) | ⟨o, its, h1, h2⟩
  · exact .base (.lst h)
  · exact .base (.frz h)
  · obtain ⟨h2, h3, _⟩ := h2
    exact .kList h2 h3
/-- of which type an item is -/
theorem it_ty {K : PySem.W.Frag} {H : Hp} {v : V} {o : Option Str} (h : ItK K H v o) : ∃ t b, TyX K H v t ∧ PySem.W.kitOne K t (.type "str") = some b ∧ b = o.isSome := by
  cases h with
  | str x => exact ⟨_, true, .base (.str x), kit_ty (by decide +kernel), rfl⟩
  | int n => exact ⟨_, false, .base (.int n), kit_ty (by decide +kernel), rfl⟩
  | bl b => exact ⟨_, false, .base (.bl b), kit_ty (by decide +kernel), rfl⟩
  | non => exact ⟨_, false, .base .non, kit_ty (by decide +kernel), rfl⟩
  | lst h => exact ⟨_, false, tyL h, kit_ty (by decide +kernel), rfl⟩
  | tup h => exact ⟨_, false, tyT h, kit_ty (by decide +kernel), rfl⟩
  | dct h => exact ⟨_, false, .base (.dK h), kit_ty (by decide +kernel), rfl⟩
end K01
/-! _law_drawn. -/
namespace K01
open PySem PySem.Spec PyProof.Rows L2 KG KS KA KX KIa KFz KTc
abbrev s__law_drawn : Stmt := top 23
abbrev NDr : List Str := ["_law_deck_here", "_law_base", "_law_count", "_law_found", "_law_group", "_law_near", "_law_value"]
def spDrawn : Sp := fun vs H Q _ => ∃ (dk l b : Addr) (xs : List Str) (k kk : Nat), vs = [.ref dk, .ref b, .int (k : Nat)] ∧ DeckAt H dk l kk ∧ kk + 200 < 1000000000 ∧ H b = some (.tup (xs.map V.str)) ∧ AscT xs ∧ (∀ x ∈ xs, nameOk x = true) ∧ 1 ≤ xs.length ∧ xs.length ≤ 3 ∧ (k = 3 ∨ k = 4) ∧
  ∀ (t : Addr) (ks : List (Addr × List Str)) (rs : List Str) (H' : Hp), H t = none → DeckAt H' dk l (kk + 100) → Off dk l H H' → H' t = some (.dT (KDz.dtOf ks (rs.map V.str))) → ks.map (·.2) = ptsL k xs → (∀ p ∈ ks, H' p.1 = some (.tup (p.2.map V.str))) → VGood xs k rs → Q (.ref t) H'
/-- the values that all, or all but one, are -/
def nearS (k : Nat) (g xs : List Str) : List Str := xs.filter fun v => decide ((k : Int) - 1 ≤ (g.count v : Nat))
theorem count_two {g : List Str} {u v : Str} (n : u ≠ v) : g.count u + g.count v ≤ g.length := by
  induction g with
  | nil => simp
  | cons x g ih =>
    rw [List.count_cons, List.count_cons, List.length_cons]
    by_cases e : x = u
    · have : ¬ x = v := fun z => n (e.symm.trans z)
      rw [if_pos (by rw [e]; exact beq_self_eq_true u), if_neg (by rw [beq_eq_false_iff_ne.mpr this]; exact Bool.false_ne_true)]
      omega
    · rw [if_neg (by rw [beq_eq_false_iff_ne.mpr e]; exact Bool.false_ne_true)]
      split <;> omega
theorem near_win {xs g : List Str} {k : Nat} (hk : k = 3 ∨ k = 4) (l : g.length = k) (sub : ∀ y ∈ g, y ∈ xs) : (nearS k g xs = [] → winS g = none) ∧ ∀ u r, nearS k g xs = u :: r → winS g = none ∨ winS g = some u := by
  have two : ∀ {v : Str}, winS g = some v → v ∈ g ∧ k ≤ g.count v + 1 := fun {v} h => by
    unfold winS at h
    have z : decide (g.length ≤ g.count v + 1) = true := List.find?_some (p := fun v => decide (g.length ≤ g.count v + 1)) h
    have z2 := of_decide_eq_true z
    exact ⟨List.mem_of_find?_eq_some h, by omega⟩
  refine ⟨fun h => ?_, fun u r h => ?_⟩
  · cases e : winS g with
    | none => rfl
    | some v =>
      obtain ⟨h1, h2⟩ := two e
      have m : v ∈ nearS k g xs := List.mem_filter.mpr ⟨sub v h1, decide_eq_true (by omega)⟩
      rw [h] at m
      cases m
  · cases e : winS g with
    | none => exact .inl rfl
    | some v =>
      refine .inr (congrArg some ?_)
      obtain ⟨h1, h2⟩ := two e
      have m : u ∈ nearS k g xs := by rw [h]; exact List.mem_cons_self
      have c := of_decide_eq_true (List.mem_filter.mp m).2
      refine Classical.byContradiction fun n => ?_
      have z := count_two (g := g) n
      omega
theorem look_out {S : List (List Str)} {L : List Str} (h : L ∉ S) (vs : List Str) : lookS S vs L = none := by
  unfold lookS
  rw [Option.map_eq_none_iff, List.find?_eq_none]
  intro p hp z
  have m := (List.of_mem_zip (a := p.1) (b := p.2) hp).1
  rw [of_decide_eq_true z] at m
  exact h m
section
variable {P : Program} {w : World} {K : PySem.W.Frag} {mg : Str → Option Value} {base : Heap}
theorem sc__law_drawn : FnScope NDr ["_law_deck_here", "_law_base", "_law_count"] (defScope s__law_drawn) := ⟨rfl, rfl, rfl, by decide +kernel, rfl, by decide +kernel, by decide +kernel⟩
theorem ok__law_drawn (B : Bs mg) (f : FnF K mg "_law_drawn" "_law_drawn" s__law_drawn) (fp : FnF K mg "_law_points" "_law_points" s__law_points) (fk : FnF K mg "_law_pick" "_law_pick" s__law_pick) (fd : FnF K mg "_law_draw" "_law_draw" s__law_draw) :
    FnOk P w K mg base CX0 3 f.a f.d ["_law_deck_here", "_law_base", "_law_count"] spDrawn := by
  have GP := ok__law_points (P := P) (w := w) (base := base) B fp
  have bP : L2.Binds K fp.d ["_law_base", "_law_count"] [] := fp.F.binds fun _ _ _ _ _ _ us hl => match us, hl with | [_, _], _ => rfl
  have GT := ok__law_pickT (P := P) (w := w) (base := base) B.toBi fk fd
  have bT : L2.Binds K fk.d ["_law_deck_here", "_law_options"] [] := fk.F.binds fun _ _ _ _ _ _ us hl => match us, hl with | [_, _], _ => rfl
  refine f.F.ok sc__law_drawn (fun vs H Q E h => ?_) (fun cdv A outer s H vs Q E hr h => ?_)
  · obtain ⟨dk, l, b, xs, k, kk, rfl, _⟩ := h
    rfl
  · obtain ⟨dk, l, b, xs, k, kk, rfl, D0, hkk, hb, asc, ok, l1, l3, hk, q⟩ := h
    have hu64 := hr.units
    have hu := hu_of hr
    have hr1 : Room 1 _ := hr.mono (by omega)
    refine ⟨_, (pss_cons
      (ps_set (i := 3) sc__law_drawn.nd rfl (Or.inl rfl) pe_dnewT)
    (pss_cons
      (ps_for PassesOwn.never rfl (pi_list (pe_call GP hr1 rfl fp.g fp.F.kp bP .nil pass0 (pa_cons (pv 1) (pa_cons (pv 2) pa_nil)))) (pg_name (i := 4) sc__law_drawn.nd rfl (Or.inr rfl))
        (pss_cons
          (ps_setLc (i := 5) (own := [("_law_value", 6)]) (g := gName 6) (by rfl) sc__law_drawn.nd rfl rfl (sw_true rfl rfl rfl (by decide +kernel)) (pi_tup (pv 1)) (blkOk_by (own := [("_law_value", 6)]) (N := NDr) (sc := defScope s__law_drawn) (by decide +kernel)) (fun _ _ _ _ _ => (pg_name (i := 6) sc__law_drawn.nd rfl (Or.inl rfl)))
            (fun _ _ _ _ _ => (pts_one (pt_cmpR op_ge (pe_bmF PySem.F.plainAttrs_tuple PySem.F.slot_tuple_count PySem.F.type_tuple_count (show MtR _ "tuple.count" (rCntT K) from mt_tcount hu64) (pv 4) (pa_cons (pv 6) pa_nil)) (pe_op op_sub (pv 2) pe_int) (nomark _)))) (fun _ _ _ _ _ => (pv 6)))
        (pss_one
          (ps_thaw (ps_dput hu (pv 3) (pv 4) (pe_ifExp (pt_cmpR (op_neL0 hu64) (pv 5) (pe_lst pa_nil) (nomark _)) (pe_ix ix_list (pv 5) pe_int (fun _ _ => rfl)) (pe_call GT hr rfl fk.g fk.F.kp bT .nil pass0 (pa_cons (pv 0) (pa_cons (pv 1) pa_nil)))) rfl)))))
    (pss_one
      (ps_ret (pv 3))))), ?_⟩
    refine fun t ht => ?_
    have e0 : Same H (upd H t (.dT [])) := same_new ht
    have ht0 : upd H t (.dT []) t = some (.dT []) := upd_same
    generalize upd H t (.dT []) = H1 at e0 ht0 ⊢
    refine ⟨_, rfl, _, rfl, b, xs, k, rfl, e0 _ _ hb, by omega, l3, fun l0 rs0 H2 n0 e2 hl0 hR => ?_⟩
    obtain ⟨ks, ek, e2k, hks⟩ := rows_frz hR
    subst ek
    have e02 := same_trans e0 e2
    have nd : xs.Nodup := asc.imp fun {a b} h e => by rw [e, ltT_irr] at h; cases h
    have ndk : (ks.map (·.2)).Nodup := by rw [e2k]; exact pts_nodup nd k
    have few : ks.length ≤ 100 := by
      have z := pts_few (k := k) l3 (by omega) k
      rw [List.take_of_length_le (by rw [List.length_replicate]; exact Nat.le_refl _)] at z
      have z2 := congrArg List.length e2k
      rw [List.length_map] at z2
      rw [z2]
      exact z
    have nl0t : l0 ≠ t := fun z => by
      rw [z, ht0] at n0
      cases n0
    have nl0l : l0 ≠ l := fun z => by
      obtain ⟨cs, m, n, hd, hl, _⟩ := D0.ex
      have y := e0 _ _ hl
      rw [z, y] at n0
      cases n0
    have nl0d : l0 ≠ dk := fun z => by
      obtain ⟨cs, m, n, hd, hl, _⟩ := D0.ex
      have y := e0 _ _ hd
      rw [z, y] at n0
      cases n0
    refine ⟨l0, rfl, ⟨_, SqL.of hl0⟩, ?_⟩
    refine for_list (K := K) (a := l0) (xs := ks.map fun p => V.ref p.1) (fun i σ H' => ∃ (us : List Str) (v4 v5 : Option V), σ = [some (.ref dk), some (.ref b), some (.int (k : Nat)), some (.ref t), v4, v5, none] ∧ us.length = i ∧ DeckAt H' dk l (kk + i) ∧ Off dk l H H' ∧ H' t = some (.dT (KDz.dtOf (ks.take i) (us.map V.str))) ∧
        H' l0 = some (.lst (ks.map fun p => V.ref p.1)) ∧ (∀ p ∈ ks.take i, H' p.1 = some (.tup (p.2.map V.str))) ∧ (∀ p ∈ ks.drop i, Fz H' p.1 (p.2.map V.str)) ∧ (∀ u ∈ us, u ∈ xs) ∧ ∀ p ∈ ((ks.take i).map (·.2)).zip us, winS p.1 = none ∨ winS p.1 = some p.2)
      ⟨[], none, none, rfl, rfl, (D0.same e02).up (by omega), Off.of e02, e2 _ _ ht0, hl0, (fun _ z => nomatch z), (fun p hp => (hks p hp).2), (fun _ z => nomatch z), fun _ z => nomatch z⟩ (fun i σ H' _ ⟨_, _, _, _, _, _, _, _, z, _⟩ => SqL.of z) ?_ ?_
    · rintro i y σ H3 hy ⟨us, v4, v5, rfl, lu, D3, o3, ht3, hl3, tk, dr, inx, wn⟩
      rw [List.getElem?_map] at hy
      cases hki : ks[i]? with
      | none =>
        rw [hki] at hy
        cases hy
      | some p =>
        rw [hki] at hy
        obtain rfl : V.ref p.1 = y := Option.some.inj hy
        obtain ⟨a, g⟩ := p
        have il : i < ks.length := (List.getElem?_eq_some_iff.mp hki).1
        have hdi : ks.drop i = (a, g) :: ks.drop (i + 1) := by
          rw [List.drop_eq_getElem_cons il]
          have z := (List.getElem?_eq_some_iff.mp hki).2
          rw [z]
        have fa := dr (a, g) (by rw [hdi]; exact List.mem_cons_self)
        have gm : g ∈ ptsL k xs := by
          rw [← e2k]
          exact List.mem_map.mpr ⟨(a, g), List.mem_of_getElem? hki, rfl⟩
        have gl := pts_wid xs k g gm
        have gsub := pts_sub k g gm
        have hb3 := tup_off hb D0 o3
        have nH : ∀ p ∈ ks, H p.1 = none := fun p hp => e0.free (hks p hp).1
        obtain ⟨w1, w2⟩ := near_win hk gl gsub
        -- near
        refine ⟨_, rfl, b, rfl, ⟨_, SqT.of hb3⟩, fun D hD => ?_⟩
        refine lc_tup (K := K) (xs := xs.map V.str) (fun c H' => Same H3 H' ∧ H' D = some (.lst ((nearS k g (xs.take c)).map V.str))) ⟨same_new hD, upd_same⟩ (fun c H' _ z => SqT.of (z.1 _ _ hb3)) ?_ ?_
        · rintro c y H4 hc ⟨e4, hD4⟩
          rw [List.getElem?_map] at hc
          cases hx : xs[c]? with
          | none =>
            rw [hx] at hc
            cases hc
          | some x =>
            rw [hx] at hc
            obtain rfl : V.str x = y := Option.some.inj hc
            obtain ⟨ob, hf, hc2, hd2⟩ := fa.same e4
            have ln : (nearS k g (xs.take c)).length ≤ 3 := by
              have z := List.length_filter_le (fun v => decide ((k : Int) - 1 ≤ (g.count v : Nat))) (xs.take c)
              rw [List.length_take] at z
              show (List.filter _ _).length ≤ 3
              omega
            refine ⟨rfl, _, rfl, ⟨a, ob, _, rfl, hf, hc2, hd2⟩, _, rfl, a, g, x, rfl, rfl, (fa.same e4).sqT, _, rfl, _, _, rfl, rfl, _, _, rfl, rfl, _, rfl, ite2 (fun y => ?_) fun y => ?_⟩
            · refine ⟨_, rfl, _, hD4, by rw [List.length_map, sizeLine_eq]; omega, same_put hD e4, ?_⟩
              rw [upd_same]
              unfold nearS
              rw [take_next hx, List.filter_append, List.map_append, List.filter_cons, if_pos y]
              rfl
            · refine ⟨e4, ?_⟩
              rw [hD4]
              unfold nearS
              rw [take_next hx, List.filter_append, List.filter_cons, if_neg y, List.filter_nil, List.append_nil]
        · rintro H4 ⟨e4, hD4⟩
          rw [List.length_map, List.take_length] at hD4
          obtain ⟨ob, hf, hoc, hod⟩ := fa.same e4
          have na : H a = none := nH (a, g) (List.mem_of_getElem? hki)
          -- the row is a tuple again
          refine ⟨upd H4 a (.tup (g.map V.str)), thaw_one hf na, ?_⟩
          have at5 : upd H4 a (.tup (g.map V.str)) a = some (.tup (g.map V.str)) := upd_same
          have kp : ∀ {c : Addr} {o : HO}, H3 c = some o → c ≠ a → upd H4 a (.tup (g.map V.str)) c = some o := fun {c o} h n => by
            rw [upd_ne n]
            exact e4 _ _ h
          have frz3 := fa
          obtain ⟨ob3, hf3, _⟩ := id fa
          have ne3 : ∀ {c : Addr} {o : HO}, H3 c = some o → (∀ ob v, o ≠ .frz ob v) → c ≠ a := fun {c o} h n => ne_of h hf3 (n _ _)
          have o5 : Off dk l H (upd H4 a (.tup (g.map V.str))) := fun c o h n1 n2 => kp (o3 c o h n1 n2) (ne_of_none h na)
          have D5 : DeckAt (upd H4 a (.tup (g.map V.str))) dk l (kk + i) := by
            obtain ⟨cs, m, n, hd, hl, h3⟩ := D3.ex
            exact ⟨cs, m, n, kp hd (ne3 hd (fun _ _ z => nomatch z)), kp hl (ne3 hl (fun _ _ z => nomatch z)), h3⟩
          have ht5 := kp ht3 (ne3 ht3 (fun _ _ z => nomatch z))
          have hl5 := kp hl3 (ne3 hl3 (fun _ _ z => nomatch z))
          have hb5 := kp hb3 (ne3 hb3 (fun _ _ z => nomatch z))
          have tk5 : ∀ p ∈ ks.take i, upd H4 a (.tup (g.map V.str)) p.1 = some (.tup (p.2.map V.str)) := fun p hp => kp (tk p hp) (ne3 (tk p hp) (fun _ _ z => nomatch z))
          have dr5 : ∀ p ∈ ks.drop (i + 1), Fz (upd H4 a (.tup (g.map V.str))) p.1 (p.2.map V.str) := fun p hp => by
            obtain ⟨o1, h1, h2⟩ := dr p (by rw [hdi]; exact List.mem_cons_of_mem _ hp)
            refine ⟨o1, kp h1 fun z => ?_, h2⟩
            rw [z, hf3] at h1
            have z1 := Option.some.inj h1
            injection z1 with _ z2
            injection z2 with z3
            have e := str_map_inj z3
            have nd2 : ((ks.drop i).map (·.2)).Nodup := by
              rw [List.map_drop]
              exact ndk.sublist (List.drop_sublist _ _)
            rw [hdi, List.map_cons, List.nodup_cons] at nd2
            exact nd2.1 (List.mem_map.mpr ⟨p, hp, e.symm⟩)
          have hD5 : upd H4 a (.tup (g.map V.str)) D = some (.lst ((nearS k g xs).map V.str)) := by
            rw [upd_ne (ne_of hD4 hf (by intro z; cases z))]
            exact hD4
          generalize upd H4 a (.tup (g.map V.str)) = H5 at at5 o5 D5 ht5 hl5 hb5 tk5 dr5 hD5 ⊢
          have ltt : t ≠ l ∧ t ≠ dk := by
            obtain ⟨cs, m, n, hd, hl, _⟩ := D0.ex
            exact ⟨(ne_of_none hl ht).symm, (ne_of_none hd ht).symm⟩
          have lul : us.length ≤ 100 := by omega
          have key : ∀ (u : Str) (H6 : Hp), u ∈ xs → (winS g = none ∨ winS g = some u) → DeckAt H6 dk l (kk + i + 1) → Off dk l H5 H6 → ∃ H7, DPut H6 t (.ref a) (.str u) H7 ∧ (us ++ [u]).length = i + 1 ∧ DeckAt H7 dk l (kk + (i + 1)) ∧ Off dk l H H7 ∧ H7 t = some (.dT (KDz.dtOf (ks.take (i + 1)) ((us ++ [u]).map V.str))) ∧
              H7 l0 = some (.lst (ks.map fun p => V.ref p.1)) ∧ (∀ p ∈ ks.take (i + 1), H7 p.1 = some (.tup (p.2.map V.str))) ∧ (∀ p ∈ ks.drop (i + 1), Fz H7 p.1 (p.2.map V.str)) ∧ (∀ v ∈ us ++ [u], v ∈ xs) ∧ ∀ p ∈ ((ks.take (i + 1)).map (·.2)).zip (us ++ [u]), winS p.1 = none ∨ winS p.1 = some p.2 := fun u H6 hu1 hu2 D6 o6 => by
            have ht6 := o6 _ _ ht5 ltt.2 ltt.1
            have at6 := tup_off at5 D5 o6
            have tkn : ks.take (i + 1) = ks.take i ++ [(a, g)] := take_next hki
            have lt : (ks.take i).length = us.length := by rw [List.length_take, lu]; omega
            have ldt : (KDz.dtOf (ks.take i) (us.map V.str)).length < sizeLine := by
              unfold KDz.dtOf
              rw [List.length_zip, List.length_map, List.length_map, sizeLine_eq]
              omega
            have out : valV (KDz.dtOf (ks.take i) (us.map V.str)) (KDz.entK g) = none := by
              rw [val_look, look_out]
              · rfl
              · intro m
                have nd3 : ((ks.take (i + 1)).map (·.2)).Nodup := by
                  rw [List.map_take]
                  exact ndk.sublist (List.take_sublist _ _)
                rw [tkn, List.map_append, List.nodup_append] at nd3
                exact nd3.2.2 _ m g (by simp) rfl
            have dp : DPut H6 t (.ref a) (.str u) _ := DPut.t (k := KDz.entK g) ht6 (by rw [KDz.entK_kV]; exact at6) ldt
            have epk : putK (KDz.dtOf (ks.take i) (us.map V.str)) (KDz.entK g) (V.str u) = KDz.dtOf (ks.take (i + 1)) ((us ++ [u]).map V.str) := by
              rw [putK_new _ out, tkn]
              unfold KDz.dtOf
              rw [List.map_append, List.map_append, List.zip_append (by rw [List.length_map, List.length_map]; exact lt)]
              rfl
            rw [epk] at dp
            have kp7 : ∀ {c : Addr} {o : HO}, H6 c = some o → c ≠ t → upd H6 t (.dT (KDz.dtOf (ks.take (i + 1)) ((us ++ [u]).map V.str))) c = some o := fun {c o} h n => by
              rw [upd_ne n]
              exact h
            have tup7 : ∀ {c : Addr} {ys : List V}, H5 c = some (.tup ys) → upd H6 t (.dT (KDz.dtOf (ks.take (i + 1)) ((us ++ [u]).map V.str))) c = some (.tup ys) := fun {c ys} h => by
              have h6 := tup_off h D5 o6
              exact kp7 h6 (ne_of h6 ht6 (by intro z; cases z))
            refine ⟨_, dp, by rw [List.length_append, lu]; rfl, ?_, fun c o h n1 n2 => kp7 (o6 _ _ (o5 c o h n1 n2) n1 n2) (ne_of_none h ht), upd_same, kp7 (o6 _ _ hl5 nl0d nl0l) nl0t, fun p hp => ?_, fun p hp => ?_, fun v hv => ?_, fun p hp => ?_⟩
            · obtain ⟨cs, m, n, hd, hl, h3⟩ := (D6.up (show kk + i + 1 ≤ kk + (i + 1) by omega)).ex
              exact ⟨cs, m, n, kp7 hd ltt.2.symm, kp7 hl ltt.1.symm, h3⟩
            · rw [tkn] at hp
              rcases List.mem_append.mp hp with z | z
              · exact tup7 (tk5 p z)
              · rw [List.mem_singleton.mp z]
                exact tup7 at5
            · obtain ⟨o1, h1, h2⟩ := dr5 p hp
              have h6 : H6 p.1 = some (.frz o1 (.tup (p.2.map V.str))) := by
                obtain ⟨cs, m, n, hd, hl, _⟩ := D5.ex
                exact o6 _ _ h1 (ne_of h1 hd (by intro z; cases z)) (ne_of h1 hl (by intro z; cases z))
              exact ⟨o1, kp7 h6 (ne_of h6 ht6 (by intro z; cases z)), h2⟩
            · rcases List.mem_append.mp hv with z | z
              · exact inx v z
              · rw [List.mem_singleton.mp z]
                exact hu1
            · rw [tkn, List.map_append, List.zip_append (by rw [List.length_map]; exact lt)] at hp
              rcases List.mem_append.mp hp with z | z
              · exact wn p z
              · rw [List.mem_singleton.mp (show p ∈ [(g, u)] from z)]
                exact hu2
          refine ⟨_, rfl, by show 0 ≤ sizeLine; exact Nat.zero_le _, fun e he => ⟨D, e, (nearS k g xs).map V.str, rfl, rfl, SqL.of ((same_new he) _ _ hD5), SqL.of upd_same, _, rfl, ite2 (fun c => ?_) fun c => ?_⟩⟩
          · cases hn : nearS k g xs with
            | nil =>
              rw [hn] at c
              cases c
            | cons u r =>
              have e5 : Same H5 (upd H5 e (.lst [])) := same_new he
              have um : u ∈ xs := (List.mem_filter.mp (show u ∈ nearS k g xs by rw [hn]; exact List.mem_cons_self)).1
              obtain ⟨H7, dp, f1, f2, f3, f4, f5, f6, f7, f8, f9⟩ := key u _ um (w2 u r hn) ((D5.same e5).up (by omega)) (Off.of e5)
              rw [hn] at hD5
              exact ⟨_, rfl, D, _, 0, _, rfl, rfl, SqL.of (e5 _ _ hD5), at_of (j := 0) rfl rfl, _, rfl, _, rfl, t, H7, rfl, dp, us ++ [u], _, _, rfl, f1, f2, f3, f4, f5, f6, f7, f8, f9⟩
          · have hn : nearS k g xs = [] := by
              cases hn : nearS k g xs with
              | nil => rfl
              | cons u r =>
                rw [hn] at c
                exact absurd rfl c
            have e5 : Same H5 (upd H5 e (.lst [])) := same_new he
            refine ⟨_, rfl, _, rfl, dk, l, b, xs.map V.str, kk + i, rfl, D5.same e5, e5 _ _ hb5, by rw [List.length_map]; omega, by rw [List.length_map]; omega, by omega, fun v H6 hv D6 o6 => ?_⟩
            obtain ⟨u, hu1, rfl⟩ := List.mem_map.mp hv
            obtain ⟨H7, dp, f1, f2, f3, f4, f5, f6, f7, f8, f9⟩ := key u _ hu1 (.inl (w1 hn)) D6 ((Off.of e5).trans o6)
            exact ⟨_, rfl, _, rfl, t, H7, rfl, dp, us ++ [u], _, _, rfl, f1, f2, f3, f4, f5, f6, f7, f8, f9⟩
    · rintro σ H3 ⟨us, v4, v5, rfl, lu, D3, o3, ht3, hl3, tk, dr, inx, wn⟩
      rw [List.length_map] at lu D3 ht3 tk wn
      rw [List.take_length] at ht3 tk wn
      rw [e2k] at wn
      have lks : ks.length = (ptsL k xs).length := by
        have z := congrArg List.length e2k
        rw [List.length_map] at z
        exact z
      exact ⟨_, rfl, q t ks us H3 ht (D3.up (by omega)) o3 ht3 e2k tk ⟨asc, ok, l1, l3, hk, by rw [lu, lks], inx, wn⟩⟩
end
end K01
/-! try .. except X as n: .. except Y: .., where what is raised is always an X. -/
namespace KTr
open PySem PySem.Spec PyProof.Rows L2
/-- what the first clause wishes; the later ones are never asked -/
def wFst (K : PySem.W.Frag) (c : Value) (i : Nat) (ts : Addr → Value → Option Addr → TS) (D : Ends) : WX := fun cls d σ H => PySem.W.exmOne K cls c = some true ∧
  ∀ a, H a = none → ts a cls d ⟨fun σ' H' => D.nx (σ'.set i none) H', D.rt, fun σ' H' => D.bk (σ'.set i none) H', fun σ' H' => D.ct (σ'.set i none) H'⟩ (σ.set i (some (.ref a))) H
section
variable {X : Cx} {x n : Str} {c : Value} {i : Nat} {body suite : List Stmt} {b0 : Stmt} {np pos p1 : Pos} {more : List ExceptHandler} {tb : WX → TS} {ts : Addr → Value → Option Addr → TS}
theorem ps_tryFst (st : X.stack = X.env :: X.outer) (fr : X.env.frame = some X.env.locals) (nd : X.N.Nodup) (ix : X.N[i]? = some n) (kd : X.env.kindOf n = some .local) (nm : Names X x c)
    (hb : ∀ (W : WX) (pn : List (Addr × Obj)) (xe : Value → Shared → Prop), Takes (X.tr pn xe) W → PassesOwn (model X.prog X.w) X.A X.env xe → PSs (X.tr pn xe) body (tb W))
    (hsu : ∀ (a : Addr) (oe : Obj) (cls : Value) (d : Option Addr) (pn : List (Addr × Obj)), Zc cls d oe → (∃ vs, oe.data = .fields vs) → PSs (X.suite a ((a, oe) :: pn)) (b0 :: suite) (ts a cls d)) :
    PS X (.Try body (.ExceptHandler (some (.Name x np)) (some n) (b0 :: suite) p1 :: more) [] [] pos) fun D σ H => tb (wFst X.K c i ts D) D σ H := by
  constructor
  intro pins s σ H D I h
  have ok := I.ok
  have fs : X.A.frames = some (X.env :: X.outer) := by rw [ok.frames, st]
  apply wpAny_Try_except
  have run := (hb (wFst X.K c i ts D) (X.pn ++ pins)
    (fun e t1 => wpAny (model X.prog X.w) X.A (noteFrame e X.env) (fun _ t2 => wpAny (model X.prog X.w) X.A (setFlight e none)
      (fun _ t3 => wpAny (model X.prog X.w) X.A (handleBy e X.env (.ExceptHandler (some (.Name x np)) (some n) (b0 :: suite) p1 :: more)) (SP X pins D) X.xe t3) X.xe t2) X.xe t1)
    (fun u s' xx => ?_) PassesOwn.looking).run [] s σ H D (I.toTry _) h
  · apply wpAny_mono run
    · intro f t1 z
      cases f with
      | next =>
        obtain ⟨σ1, H1, J, q⟩ := z
        apply wpAny_execs_nil
        exact ⟨σ1, H1, J.ofTry ok, q⟩
      | brk => exact let ⟨σ1, H1, J, q⟩ := z; ⟨σ1, H1, J.ofTry ok, q⟩
      | cont => exact let ⟨σ1, H1, J, q⟩ := z; ⟨σ1, H1, J.ofTry ok, q⟩
      | ret u => exact let ⟨v, σ1, H1, J, r, q⟩ := z; ⟨v, σ1, H1, J.ofTry ok, r, q⟩
    · exact fun _ _ z => z
  · obtain ⟨a, B, sI, pins1, σ1, H1, cls, d, rfl, J1, nb, up, sky, na, os, ag, is, go⟩ := xx
    have J : Inv X pins σ1 H1 sI := J1.ofTry ok
    rw [st] at sky
    show wpAny (model X.prog X.w) X.A (noteFrame (.ref a) X.env) _ _ _
    apply Sky.land Zc.steady fs fr sky
    intro g fl ug
    have Jg : Inv X pins σ1 H1 { s' with heap := g } := J.landed nb fl.1 (up.trans ug) os ag
    obtain ⟨og, vg, eg, zg, dg⟩ := fl.there
    have off : a ∉ frs (X.env :: X.outer) := by
      intro hm
      obtain ⟨_, o2, e2, z⟩ := fl.2.2.1.mem hm
      rw [eg] at e2
      cases e2
      exact z _ dg
    have offL : a ≠ X.env.locals := by
      intro z
      exact off (List.mem_filterMap.mpr ⟨X.env, List.mem_cons_self, by rw [fr, z]⟩)
    have offF : a ∉ X.fs := by
      intro hm
      obtain ⟨e, he, q⟩ := List.mem_filterMap.mp hm
      exact off (List.mem_filterMap.mpr ⟨e, List.mem_cons_of_mem _ he, q⟩)
    have Sg := Jg.suite eg dg na offL offF
    apply wpAny_handleBy_cons (codeAny_handlers_test ?_) (by intro q; cases q)
    have ty : PySem.W.Looks (model X.prog X.w) g (typeOf (.ref a)) cls := by
      intro A Q E t k q
      exact wpAny_typeOf_ref (k _ _ eg) (by rw [zg.1]; exact q)
    have lm := PySem.W.exm_one (M := model X.prog X.w) Jg.kIn ty is
    have test : ∀ {Q E : Value → Shared → Prop}, Q c { s' with heap := g } → wpAny (model X.prog X.w) (X.A.mark (some (.ref a))) (eval (.Name x np) X.env) Q E { s' with heap := g } := by
      intro Q E q
      obtain ⟨hg, db, hm | ⟨hm, hv, hn⟩⟩ := nm
      · exact ld_glob (X := X.suite a ((a, og) :: (X.pn ++ pins))) Sg hg hm q db
      · exact ld_blt (X := X.suite a ((a, og) :: (X.pn ++ pins))) Sg hg hm hv q hn db
    apply test
    apply lm.here
    apply codeAny_handlers_suite_as
    apply HandSPX.lands_againZ fl
    intro k flk uk
    have Jk : Inv X pins σ1 H1 { s' with heap := k } := J.landed nb flk.1 ((up.trans ug).trans uk) os ag
    obtain ⟨ok2, vk, ek, zk, dk⟩ := flk.there
    have Sk := Jk.suite ek dk na offL offF
    apply store_ok (X := X.suite a ((a, ok2) :: (X.pn ++ pins))) (v := .ref a) Sk nd ix (.inl kd) rfl ?_ (.inr kd)
    intro t5 S5
    apply wpAny_mono ((hsu a ok2 cls d (X.pn ++ pins) zk ⟨_, dk⟩).run [] t5 _ H1 _ S5 (go a na)) ?_ fun _ _ z => False.elim z
    intro f t6 z
    have fin : ∀ {σ6 : L2.St} {H6 : Hp} {Q : Shared → Prop}, Inv (X.suite a ((a, ok2) :: (X.pn ++ pins))) [] σ6 H6 t6 → (∀ t7, Inv X pins (σ6.set i none) H6 t7 → Q t7) →
        wpAny (model X.prog X.w) X.A (do bindName X.env n .none; unbindBehindTheSuite X.env n p1) (fun _ t7 => Q t7) X.xe t6 := by
      intro σ6 H6 Q S6 hq
      exact gone_ok (S6.unsuite ok) nd ix kd hq
    cases f with
    | next => exact let ⟨σ6, H6, S6, q6⟩ := z; fin S6 fun t7 J7 => ⟨_, _, J7, q6⟩
    | brk => exact let ⟨σ6, H6, S6, q6⟩ := z; fin S6 fun t7 J7 => ⟨_, _, J7, q6⟩
    | cont => exact let ⟨σ6, H6, S6, q6⟩ := z; fin S6 fun t7 J7 => ⟨_, _, J7, q6⟩
    | ret u => exact let ⟨v6, σ6, H6, S6, r6, q6⟩ := z; fin S6 fun t7 J7 => ⟨_, _, _, J7, r6, q6⟩
end
end KTr
/-! _law_called. -/
namespace K01
open PySem PySem.Spec PyProof.Rows L2 KG KS KA KX KIa KFz
abbrev s__law_called : Stmt := top 25
/-- what is told of a call -/
def toldW : Sum Str Str → List V
  | .inr u => [.str "told", .str u]
  | .inl wd => [.str "no vote", .str wd]
def spCalled (K : PySem.W.Frag) (C : Addr) : Sp := fun vs H Q _ => ∃ (o : Addr) (v : V) (xs rs : List Str) (k : Nat) (g : Option (List (Option Str))), vs = [.ref o, v] ∧ VtAt C H o xs k rs ∧ VGood xs k rs ∧ GrK K H v g ∧ (∀ u, vdue xs k rs g = .inr u → ∃ (a : Addr) (gs : List Str), v = .ref a ∧ g = some (gs.map some) ∧ H a = some (.tup (gs.map V.str))) ∧
  ∀ (p : Addr) (H' : Hp), Same H H' → H' p = some (.tup (toldW (vdue xs k rs g))) → (∀ u, vdue xs k rs g = .inr u → u ∈ rs) → Q (.ref p) H'
section
variable {P : Program} {w : World} {K : PySem.W.Frag} {mg : Str → Option Value} {base : Heap}
theorem sc__law_called : FnScope ["_law_vote", "_law_group", "_law_told", "e"] ["_law_vote", "_law_group"] (defScope s__law_called) := ⟨rfl, rfl, rfl, by decide +kernel, rfl, by decide +kernel, by decide +kernel⟩
theorem ok__law_called (B : Bz mg) {fI : Addr} (C : VtC K mg fI) (N : ErC K mg) (XF : XfC K N.C) (fr : FnF K mg "is_row" "is_row" s_is_row) (fc : MtF K "__call__" "Vote.__call__" s_vtCall) (co : StX.CallO K C.C fc.a)
    (f : FnF K mg "_law_called" "_law_called" s__law_called) : FnOk P w K mg base CX0 4 f.a f.d ["_law_vote", "_law_group"] (spCalled K C.C) := by
  have G := ok_vtCall (P := P) (w := w) (base := base) B fc C N fr
  have b : L2.Binds K fc.d ["self", "some"] [] := fc.F.binds fun _ _ _ _ _ _ us hl => match us, hl with | [_, _], _ => rfl
  refine f.F.ok sc__law_called (fun vs H Q E h => ?_) (fun cdv A outer s H vs Q E hr h => ?_)
  · obtain ⟨o, v, xs, rs, k, g, rfl, _⟩ := h
    rfl
  · obtain ⟨o, v, xs, rs, k, g, rfl, hO, Gd, hg, htv, q⟩ := h
    refine ⟨_, (pss_cons
      (ps_set (i := 2) sc__law_called.nd rfl (Or.inl rfl) (pe_tup (pa_cons pe_str pa_nil)))
    (pss_cons
      (KTr.ps_tryFst (i := 3) (c := .ref N.C) (tb := fun W => tAsg (tTup (tCons (tC (.str "told")) (tCons (KCo.tCallIS C.C (spVC K C.C N.C) (WE W) (tVar 0) (tCons (tVar 1) tNil)) tNil))) (gName 2))
        (ts := fun a cls d => tAsg (tTup (tCons (tC (.str "no vote")) (tCons (tXf a cls d N.C "word" (tVar 3)) tNil))) (gName 2)) rfl rfl sc__law_called.nd rfl rfl ⟨rfl, by decide, Or.inl N.g⟩
        (fun W pn xe tk _ => pss_one (ps_set (i := 2) sc__law_called.nd rfl (Or.inl rfl) (by exact (pe_tup (pa_cons pe_str (pa_cons (KCo.pe_callIS (pv 0) co G hr b (fun σ => passAt tk σ) (pa_cons (pv 1) pa_nil)) pa_nil))))))
        (fun a oe cls d pn hz hf => pss_one (ps_set (i := 2) sc__law_called.nd rfl (Or.inl rfl) (by exact (pe_tup (pa_cons pe_str (pa_cons (pe_xf XF N.nf hz hf (pv 3)) pa_nil)))))))
    (pss_one
      (ps_ret (pv 2))))), ?_⟩
    refine ⟨by show 1 ≤ sizeLine; decide, fun t0 ht0 => ?_⟩
    have e0 : Same H (upd H t0 (.tup [V.str "odd"])) := same_new ht0
    obtain ⟨dx, d, r, t, ho, hin⟩ := id hO
    refine ⟨_, rfl, o, rfl, _, rfl, ⟨dx, _, e0 _ _ ho⟩, o, v, xs, rs, k, g, rfl, hO.up e0, Gd, hg.up e0, fun u hu => ?_, fun u H1 hd hu e1 => ?_, fun wd dd H1 hd e1 _ hdd => ?_⟩
    · obtain ⟨a, gs, h1, h2, h3⟩ := htv u hu
      exact ⟨a, gs, h1, h2, e0 _ _ h3⟩
    · refine ⟨by show 2 ≤ sizeLine; decide, fun p hp => ⟨_, rfl, ?_⟩⟩
      refine q p _ (same_trans (same_trans e0 e1) (same_new hp)) ?_ fun u' hu' => ?_
      · rw [upd_same, hd]
        rfl
      · rw [hd] at hu'
        cases hu'
        exact hu
    · refine ⟨N.ex, fun a ha => ?_⟩
      refine ⟨_, rfl, rfl, rfl, dd, _, .str wd, rfl, hdd, by simp, ?_⟩
      refine ⟨by show 2 ≤ sizeLine; decide, fun p hp => ⟨_, rfl, ?_⟩⟩
      refine q p _ (same_trans (same_trans e0 e1) (same_new hp)) ?_ fun u' hu' => ?_
      · rw [upd_same, hd]
        rfl
      · rw [hd] at hu'
        cases hu'
end
end K01
/-! _law_middle. -/
namespace K01
open PySem PySem.Spec PyProof.Rows L2 KG KS KA KX KIa KFz KTc
abbrev s__law_middle : Stmt := top 24
abbrev NMd : List Str := ["_law_base", "_law_found", "_law_group", "_law_least", "_law_greatest", "_law_rest"]
def spMd : Sp := fun vs H Q _ => ∃ (b : Addr) (xs : List Str), vs = [.ref b] ∧ H b = some (.tup (xs.map V.str)) ∧ AscT xs ∧ (∀ x ∈ xs, nameOk x = true) ∧ 1 ≤ xs.length ∧ xs.length ≤ 3 ∧
  ∀ (t : Addr) (ks : List (Addr × List Str)) (H' : Hp), H t = none → Same H H' → H' t = some (.dT (KDz.dtOf ks ((midR xs).map V.str))) → ks.map (·.2) = ptsL 3 xs → (∀ p ∈ ks, H' p.1 = some (.tup (p.2.map V.str))) → Q (.ref t) H'
def leT (a b : Str) : Prop := W.dataLt (.str b) (.str a) = false
theorem leT_refl (a : Str) : leT a a := ltT_irr a
theorem leT_anti {a b : Str} (h : leT a b) (k : leT b a) : a = b := leT_total h k
theorem leT_trans {a b c : Str} (h : leT a b) (k : leT b c) : leT a c := by
  unfold leT at *
  cases e : W.dataLt (.str c) (.str a) with
  | false => rfl
  | true =>
    cases e2 : W.dataLt (.str a) (.str b) with
    | true =>
      have z : W.dataLt (.str c) (.str b) = true := lex_trans _ _ _ e e2
      rw [k] at z
      cases z
    | false =>
      have z := leT_total h e2
      rw [z, k] at e
      cases e
theorem leT_of {a b : Str} (h : W.dataLt (.str a) (.str b) = true) : leT a b := by
  unfold leT
  cases e : W.dataLt (.str b) (.str a) with
  | false => rfl
  | true =>
    have z : W.dataLt (.str a) (.str a) = true := lex_trans _ _ _ h e
    have y : W.dataLt (.str a) (.str a) = false := ltT_irr a
    rw [y] at z
    cases z
theorem min_is : ∀ (ts : List Str) (t : Str), minS t ts ∈ t :: ts ∧ ∀ x ∈ t :: ts, leT (minS t ts) x
  | [], t => ⟨List.mem_cons_self, fun x hx => by rw [List.mem_singleton.mp hx]; exact leT_refl t⟩
  | y :: ts, t => by
    show minS (if W.dataLt (.str y) (.str t) then y else t) ts ∈ _ ∧ _
    show _ ∧ ∀ x ∈ t :: y :: ts, leT (minS (if W.dataLt (.str y) (.str t) then y else t) ts) x
    by_cases e : W.dataLt (.str y) (.str t) = true
    · rw [if_pos e]
      obtain ⟨h1, h2⟩ := min_is ts y
      refine ⟨List.mem_cons_of_mem _ h1, fun x hx => ?_⟩
      rcases List.mem_cons.mp hx with rfl | hx
      · exact leT_trans (h2 y List.mem_cons_self) (leT_of e)
      · exact h2 x hx
    · rw [if_neg e]
      obtain ⟨h1, h2⟩ := min_is ts t
      have e2 : leT t y := by
        unfold leT
        cases z : W.dataLt (.str y) (.str t) with
        | false => rfl
        | true => exact absurd z e
      refine ⟨?_, fun x hx => ?_⟩
      · rcases List.mem_cons.mp h1 with z | z
        · rw [z]; exact List.mem_cons_self
        · exact List.mem_cons_of_mem _ (List.mem_cons_of_mem _ z)
      · rcases List.mem_cons.mp hx with rfl | hx
        · exact h2 _ List.mem_cons_self
        · rcases List.mem_cons.mp hx with rfl | hx
          · exact leT_trans (h2 t List.mem_cons_self) e2
          · exact h2 x (List.mem_cons_of_mem _ hx)
theorem max_is : ∀ (ts : List Str) (t : Str), maxS t ts ∈ t :: ts ∧ ∀ x ∈ t :: ts, leT x (maxS t ts)
  | [], t => ⟨List.mem_cons_self, fun x hx => by rw [List.mem_singleton.mp hx]; exact leT_refl t⟩
  | y :: ts, t => by
    show maxS (if W.dataLt (.str t) (.str y) then y else t) ts ∈ _ ∧ _
    show _ ∧ ∀ x ∈ t :: y :: ts, leT x (maxS (if W.dataLt (.str t) (.str y) then y else t) ts)
    by_cases e : W.dataLt (.str t) (.str y) = true
    · rw [if_pos e]
      obtain ⟨h1, h2⟩ := max_is ts y
      refine ⟨List.mem_cons_of_mem _ h1, fun x hx => ?_⟩
      rcases List.mem_cons.mp hx with rfl | hx
      · exact leT_trans (leT_of e) (h2 y List.mem_cons_self)
      · exact h2 x hx
    · rw [if_neg e]
      obtain ⟨h1, h2⟩ := max_is ts t
      have e2 : leT y t := by
        unfold leT
        cases z : W.dataLt (.str t) (.str y) with
        | false => rfl
        | true => exact absurd z e
      refine ⟨?_, fun x hx => ?_⟩
      · rcases List.mem_cons.mp h1 with z | z
        · rw [z]; exact List.mem_cons_self
        · exact List.mem_cons_of_mem _ (List.mem_cons_of_mem _ z)
      · rcases List.mem_cons.mp hx with rfl | hx
        · exact h2 _ List.mem_cons_self
        · rcases List.mem_cons.mp hx with rfl | hx
          · exact leT_trans e2 (h2 t List.mem_cons_self)
          · exact h2 x (List.mem_cons_of_mem _ hx)
theorem first_of {L : List Str} {u : Str} (h : u ∈ L) : ∃ i, L[i]? = some u ∧ (∀ m, m < i → L[m]? ≠ some u) ∧ L.Perm (u :: L.eraseIdx i) := by
  induction L with
  | nil => cases h
  | cons x L ih =>
    by_cases e : x = u
    · subst e
      exact ⟨0, rfl, fun m hm => absurd hm (Nat.not_lt_zero m), .refl _⟩
    · obtain ⟨i, h1, h2, h3⟩ := ih ((List.mem_cons.mp h).resolve_left fun z => e z.symm)
      refine ⟨i + 1, h1, fun m hm => ?_, ?_⟩
      · cases m with
        | zero => exact fun z => e (Option.some.inj z)
        | succ m => exact h2 m (by omega)
      · rw [List.eraseIdx_cons_succ]
        exact (h3.cons x).trans (.swap u x _)
/-- of three, the least and the greatest removed, the middle one is left -/
theorem mid_left {x : Str} {r : List Str} (l : r.length = 2) : ∃ (i j : Nat), (x :: r)[i]? = some (minS x r) ∧ (∀ m, m < i → (x :: r)[m]? ≠ some (minS x r)) ∧ ((x :: r).eraseIdx i)[j]? = some (maxS x r) ∧ (∀ m, m < j → ((x :: r).eraseIdx i)[m]? ≠ some (maxS x r)) ∧ ((x :: r).eraseIdx i).eraseIdx j = [midS (x :: r)] := by
  obtain ⟨m1, m2⟩ := min_is r x
  obtain ⟨g1, g2⟩ := max_is r x
  obtain ⟨i, h1, h2, h3⟩ := first_of m1
  have le2 : ((x :: r).eraseIdx i).length = 2 := by
    have z := h3.length_eq
    rw [List.length_cons, List.length_cons] at z
    omega
  have mx : maxS x r ∈ (x :: r).eraseIdx i := by
    rcases List.mem_cons.mp (h3.mem_iff.mp g1) with z | z
    · have all : ∀ y ∈ (x :: r).eraseIdx i, y = maxS x r := fun y hy => by
        have hy2 := h3.mem_iff.mpr (List.mem_cons_of_mem _ hy)
        exact leT_anti (g2 y hy2) (by rw [z]; exact m2 y hy2)
      obtain ⟨a, s, e⟩ := List.exists_cons_of_ne_nil (l := (x :: r).eraseIdx i) (fun z => by rw [z] at le2; cases le2)
      rw [← all a (by rw [e]; exact List.mem_cons_self), e]
      exact List.mem_cons_self
    · exact z
  obtain ⟨j, k1, k2, k3⟩ := first_of mx
  have le1 : (((x :: r).eraseIdx i).eraseIdx j).length = 1 := by
    have z := k3.length_eq
    rw [List.length_cons] at z
    omega
  obtain ⟨m, em⟩ : ∃ m, ((x :: r).eraseIdx i).eraseIdx j = [m] := match ((x :: r).eraseIdx i).eraseIdx j, le1 with | [m], _ => ⟨m, rfl⟩
  refine ⟨i, j, h1, h2, k1, k2, ?_⟩
  rw [em] at k3 ⊢
  have pm : (x :: r).Perm [minS x r, m, maxS x r] := (h3.trans (k3.cons _)).trans (.cons _ (.swap _ _ _))
  have mm : m ∈ x :: r := pm.mem_iff.mpr (by simp)
  have so : [minS x r, m, maxS x r].Pairwise leT := by
    simp only [List.pairwise_cons, List.mem_cons, List.not_mem_nil, or_false, forall_eq_or_imp, forall_eq]
    exact ⟨⟨m2 m mm, m2 _ g1⟩, g2 m mm, fun _ z => (nomatch z), .nil⟩
  have e : sortT (x :: r) = [minS x r, m, maxS x r] := List.Perm.eq_of_pairwise (le := leT) (fun a b _ _ k1 k2 => leT_anti k1 k2) (sortT_pairs (x :: r)) so ((List.mergeSort_perm (x :: r) (W.dataLe false PyData.str)).trans pm)
  unfold midS
  rw [e]
  rfl
/-- the names min and max -/
structure By (mg : Str → Option Value) : Prop extends Bz mg where
  n_min : mg "min" = none
  n_max : mg "max" = none
section
variable {P : Program} {w : World} {K : PySem.W.Frag} {mg : Str → Option Value} {base : Heap}
theorem sc__law_middle : FnScope NMd ["_law_base"] (defScope s__law_middle) := ⟨rfl, rfl, rfl, by decide +kernel, rfl, by decide +kernel, by decide +kernel⟩
theorem ok__law_middle (B : By mg) (f : FnF K mg "_law_middle" "_law_middle" s__law_middle) (fp : FnF K mg "_law_points" "_law_points" s__law_points) : FnOk P w K mg base CX0 3 f.a f.d ["_law_base"] spMd := by
  have GP := ok__law_points (P := P) (w := w) (base := base) B.toBz.toBs fp
  have bP : L2.Binds K fp.d ["_law_base", "_law_count"] [] := fp.F.binds fun _ _ _ _ _ _ us hl => match us, hl with | [_, _], _ => rfl
  refine f.F.ok sc__law_middle (fun vs H Q E h => ?_) (fun cdv A outer s H vs Q E hr h => ?_)
  · obtain ⟨b, xs, rfl, _⟩ := h
    rfl
  · obtain ⟨b, xs, rfl, hb, asc, ok, l1, l3, q⟩ := h
    have hu64 := hr.units
    have hu := hu_of hr
    have hr1 : Room 1 _ := hr.mono (by omega)
    refine ⟨_, (pss_cons
      (ps_set (i := 1) sc__law_middle.nd rfl (Or.inl rfl) pe_dnewT)
    (pss_cons
      (ps_for PassesOwn.never rfl (pi_list (pe_call GP hr1 rfl fp.g fp.F.kp bP .nil pass0 (pa_cons (pv 0) (pa_cons pe_int pa_nil)))) (pg_name (i := 2) sc__law_middle.nd rfl (Or.inl rfl))
        (pss_cons
          (ps_par (i := 3) (j := 4) (by rfl) sc__law_middle.nd rfl rfl (by decide) rfl rfl (pa_cons (pe_callB (cr_minT hr.hd hu64) (by rfl) B.n_min (by decide +kernel) (pa_cons (pv 2) pa_nil)) (pa_cons (pe_callB (cr_maxT hr.hd hu64) (by rfl) B.n_max (by decide +kernel) (pa_cons (pv 2) pa_nil)) pa_nil)) (by rfl))
        (pss_cons
          (ps_set (i := 5) sc__law_middle.nd rfl (Or.inl rfl) (pe_callTy call_list_of (by rfl) B.n_list (by decide +kernel) (pa_cons (pv 2) pa_nil)))
        (pss_cons
          (ps_expr (pe_bm PySem.F.plainAttrs_list PySem.F.slot_list_remove PySem.F.type_list_remove (mt_tremove hu64) (pv 5) (pa_cons (pv 3) pa_nil)))
        (pss_cons
          (ps_expr (pe_bm PySem.F.plainAttrs_list PySem.F.slot_list_remove PySem.F.type_list_remove (mt_tremove hu64) (pv 5) (pa_cons (pv 4) pa_nil)))
        (pss_one
          (ps_thaw (ps_dput hu (pv 1) (pv 2) (pe_ix ix_list (pv 5) pe_int (fun _ _ => rfl)) rfl))))))))
    (pss_one
      (ps_ret (pv 1))))), ?_⟩
    refine fun t ht => ?_
    have e0 : Same H (upd H t (.dT [])) := same_new ht
    have ht0 : upd H t (.dT []) t = some (.dT []) := upd_same
    generalize upd H t (.dT []) = H1 at e0 ht0 ⊢
    refine ⟨_, rfl, b, xs, 3, rfl, e0 _ _ hb, by omega, l3, fun l0 rs0 H2 n0 e2 hl0 hR => ?_⟩
    obtain ⟨ks, ek, e2k, hks⟩ := rows_frz hR
    subst ek
    have e02 := same_trans e0 e2
    have nd : xs.Nodup := asc.imp fun {a b} h e => by rw [e, ltT_irr] at h; cases h
    have ndk : (ks.map (·.2)).Nodup := by rw [e2k]; exact pts_nodup nd 3
    have few : ks.length ≤ 100 := by
      have z := pts_few (k := 3) l3 (by omega) 3
      rw [List.take_of_length_le (by rw [List.length_replicate]; exact Nat.le_refl _)] at z
      have z2 := congrArg List.length e2k
      rw [List.length_map] at z2
      rw [z2]
      exact z
    have nl0t : l0 ≠ t := fun z => by
      rw [z, ht0] at n0
      cases n0
    have mr : (midR xs) = ks.map fun p => midS p.2 := by
      unfold midR
      rw [← e2k, List.map_map]
      rfl
    refine ⟨l0, rfl, ⟨_, SqL.of hl0⟩, ?_⟩
    refine for_list (K := K) (a := l0) (xs := ks.map fun p => V.ref p.1) (fun i σ H' => ∃ (v2 v3 v4 v5 : Option V), σ = [some (.ref b), some (.ref t), v2, v3, v4, v5] ∧ Same H H' ∧ H' t = some (.dT (KDz.dtOf (ks.take i) (((midR xs).take i).map V.str))) ∧
        H' l0 = some (.lst (ks.map fun p => V.ref p.1)) ∧ (∀ p ∈ ks.take i, H' p.1 = some (.tup (p.2.map V.str))) ∧ (∀ p ∈ ks.drop i, Fz H' p.1 (p.2.map V.str)))
      ⟨none, none, none, none, rfl, e02, e2 _ _ ht0, hl0, (fun _ z => nomatch z), (fun p hp => (hks p hp).2)⟩ (fun i σ H' _ ⟨_, _, _, _, _, _, _, z, _⟩ => SqL.of z) ?_ ?_
    · rintro i y σ H3 hy ⟨v2, v3, v4, v5, rfl, e3, ht3, hl3, tk, dr⟩
      rw [List.getElem?_map] at hy
      cases hki : ks[i]? with
      | none =>
        rw [hki] at hy
        cases hy
      | some p =>
        rw [hki] at hy
        obtain rfl : V.ref p.1 = y := Option.some.inj hy
        obtain ⟨a, g⟩ := p
        have il : i < ks.length := (List.getElem?_eq_some_iff.mp hki).1
        have hdi : ks.drop i = (a, g) :: ks.drop (i + 1) := by
          rw [List.drop_eq_getElem_cons il]
          have z := (List.getElem?_eq_some_iff.mp hki).2
          rw [z]
        have fa : Fz H3 a (g.map V.str) := dr (a, g) (by rw [hdi]; exact List.mem_cons_self)
        have gm : g ∈ ptsL 3 xs := by
          rw [← e2k]
          exact List.mem_map.mpr ⟨(a, g), List.mem_of_getElem? hki, rfl⟩
        have gl := pts_wid xs 3 g gm
        have na : H a = none := e0.free (hks (a, g) (List.mem_of_getElem? hki)).1
        have hmi : (midR xs)[i]? = some (midS g) := by
          rw [mr, List.getElem?_map, hki]
          rfl
        obtain ⟨x, r, eg⟩ : ∃ x r, g = x :: r := List.exists_cons_of_ne_nil (fun z => by rw [z] at gl; cases gl)
        have lr : r.length = 2 := by rw [eg, List.length_cons] at gl; omega
        obtain ⟨i1, j1, m1, m2, m3, m4, m5⟩ := mid_left (x := x) lr
        have sq : ∀ {H' : Hp}, Same H3 H' → SqT K H' a ((x :: r).map V.str) := fun e => by rw [← eg]; exact (fa.same e).sqT
        refine ⟨_, rfl, a, x, r, rfl, sq (fun _ _ z => z), _, rfl, a, x, r, rfl, sq (fun _ _ z => z), _, _, rfl, ?_⟩
        refine ⟨_, rfl, a, _, rfl, .inr (sq (fun _ _ z => z)), fun L hL => ?_⟩
        have s1 : Same H3 (upd H3 L (.lst ((x :: r).map V.str))) := same_new hL
        refine ⟨_, rfl, .inl ⟨rfl, _, SqL.of upd_same⟩, _, rfl, L, x :: r, minS x r, i1, rfl, rfl, upd_same, m1, m2, ?_⟩
        rw [upd_upd]
        refine ⟨_, rfl, .inl ⟨rfl, _, SqL.of upd_same⟩, _, rfl, L, (x :: r).eraseIdx i1, maxS x r, j1, rfl, rfl, upd_same, m3, m4, ?_⟩
        rw [upd_upd, m5, ← eg]
        have s3 : Same H3 (upd H3 L (.lst ([midS g].map V.str))) := same_new hL
        have hL4 : upd H3 L (.lst ([midS g].map V.str)) L = some (.lst ([midS g].map V.str)) := upd_same
        generalize upd H3 L (.lst ([midS g].map V.str)) = H4 at s3 hL4 ⊢
        obtain ⟨ob, hf, hoc, hod⟩ := fa.same s3
        -- the row is a tuple again
        refine ⟨upd H4 a (.tup (g.map V.str)), thaw_one hf na, ?_⟩
        have at5 : upd H4 a (.tup (g.map V.str)) a = some (.tup (g.map V.str)) := upd_same
        have kp : ∀ {c : Addr} {o : HO}, H4 c = some o → c ≠ a → upd H4 a (.tup (g.map V.str)) c = some o := fun {c o} h n => by
          rw [upd_ne n]
          exact h
        have ne4 : ∀ {c : Addr} {o : HO}, H4 c = some o → (∀ ob v, o ≠ .frz ob v) → c ≠ a := fun {c o} h n => ne_of h hf (n _ _)
        have e5 : Same H (upd H4 a (.tup (g.map V.str))) := fun c o h => kp (s3 _ _ (e3 _ _ h)) (ne_of_none h na)
        have ht5 := kp (s3 _ _ ht3) (ne4 (s3 _ _ ht3) (fun _ _ z => nomatch z))
        have hl5 := kp (s3 _ _ hl3) (ne4 (s3 _ _ hl3) (fun _ _ z => nomatch z))
        have hL5 := kp hL4 (ne4 hL4 (fun _ _ z => nomatch z))
        have tk5 : ∀ p ∈ ks.take i, upd H4 a (.tup (g.map V.str)) p.1 = some (.tup (p.2.map V.str)) := fun p hp => kp (s3 _ _ (tk p hp)) (ne4 (s3 _ _ (tk p hp)) (fun _ _ z => nomatch z))
        have dr5 : ∀ p ∈ ks.drop (i + 1), Fz (upd H4 a (.tup (g.map V.str))) p.1 (p.2.map V.str) := fun p hp => by
          obtain ⟨o1, h1, h2⟩ := (dr p (by rw [hdi]; exact List.mem_cons_of_mem _ hp)).same s3
          refine ⟨o1, kp h1 fun z => ?_, h2⟩
          rw [z, hf] at h1
          have z1 := Option.some.inj h1
          injection z1 with _ z2
          injection z2 with z3
          have e := str_map_inj z3
          have nd2 : ((ks.drop i).map (·.2)).Nodup := by
            rw [List.map_drop]
            exact ndk.sublist (List.drop_sublist _ _)
          rw [hdi, List.map_cons, List.nodup_cons] at nd2
          exact nd2.1 (List.mem_map.mpr ⟨p, hp, e.symm⟩)
        generalize upd H4 a (.tup (g.map V.str)) = H5 at at5 e5 ht5 hl5 hL5 tk5 dr5 ⊢
        have tkn : ks.take (i + 1) = ks.take i ++ [(a, g)] := take_next hki
        have lm : (midR xs).length = ks.length := by rw [mr, List.length_map]
        have lt : (ks.take i).length = ((midR xs).take i).length := by rw [List.length_take, List.length_take, lm]
        have ldt : (KDz.dtOf (ks.take i) (((midR xs).take i).map V.str)).length < sizeLine := by
          unfold KDz.dtOf
          rw [List.length_zip, List.length_map, List.length_map, sizeLine_eq, ← lt, List.length_take]
          omega
        have out : valV (KDz.dtOf (ks.take i) (((midR xs).take i).map V.str)) (KDz.entK g) = none := by
          rw [val_look, look_out]
          · rfl
          · intro m
            have nd3 : ((ks.take (i + 1)).map (·.2)).Nodup := by
              rw [List.map_take]
              exact ndk.sublist (List.take_sublist _ _)
            rw [tkn, List.map_append, List.nodup_append] at nd3
            exact nd3.2.2 _ m g (by simp) rfl
        have dp : DPut H5 t (.ref a) (.str (midS g)) _ := DPut.t (k := KDz.entK g) ht5 (by rw [KDz.entK_kV]; exact at5) ldt
        have epk : putK (KDz.dtOf (ks.take i) (((midR xs).take i).map V.str)) (KDz.entK g) (V.str (midS g)) = KDz.dtOf (ks.take (i + 1)) (((midR xs).take (i + 1)).map V.str) := by
          rw [putK_new _ out, tkn, take_next hmi]
          unfold KDz.dtOf
          rw [List.map_append, List.map_append, List.zip_append (by rw [List.length_map, List.length_map]; exact lt)]
          rfl
        rw [epk] at dp
        have kp7 : ∀ {c : Addr} {o : HO}, H5 c = some o → c ≠ t → upd H5 t (.dT (KDz.dtOf (ks.take (i + 1)) (((midR xs).take (i + 1)).map V.str))) c = some o := fun {c o} h n => by
          rw [upd_ne n]
          exact h
        refine ⟨_, rfl, L, _, 0, _, rfl, rfl, SqL.of hL5, at_of (j := 0) rfl rfl, _, rfl, _, rfl, t, _, rfl, dp, _, _, _, _, rfl, fun c o h => kp7 (e5 c o h) (ne_of_none h ht), upd_same, kp7 hl5 nl0t, fun p hp => ?_, fun p hp => ?_⟩
        · rw [tkn] at hp
          rcases List.mem_append.mp hp with z | z
          · exact kp7 (tk5 p z) (ne_of (tk5 p z) ht5 (by intro z; cases z))
          · rw [List.mem_singleton.mp z]
            exact kp7 at5 (ne_of at5 ht5 (by intro z; cases z))
        · obtain ⟨o1, h1, h2⟩ := dr5 p hp
          exact ⟨o1, kp7 h1 (ne_of h1 ht5 (by intro z; cases z)), h2⟩
    · rintro σ H3 ⟨v2, v3, v4, v5, rfl, e3, ht3, hl3, tk, dr⟩
      rw [List.length_map] at ht3 tk
      have lm : (midR xs).length = ks.length := by rw [mr, List.length_map]
      rw [List.take_length, ← lm, List.take_length] at ht3
      rw [List.take_length] at tk
      exact ⟨_, rfl, q t ks H3 ht e3 ht3 e2k tk⟩
end
end K01
/-! _law_due_call. -/
namespace K01
open PySem PySem.Spec PyProof.Rows L2 KG KS KA KX KIa KFz
abbrev s__law_due_call : Stmt := top 26
/-- the law's own table -/
structure TblV (H : Hp) (t : Addr) (xs : List Str) (k : Nat) (rs : List Str) : Prop where
  ex : ∃ ks : List (Addr × List Str), H t = some (.dT (KDz.dtOf ks (rs.map V.str))) ∧ ks.map (·.2) = ptsL k xs
theorem TblV.up {H H' : Hp} {t : Addr} {xs rs : List Str} {k : Nat} (h : TblV H t xs k rs) (e : Same H H') : TblV H' t xs k rs := by
  obtain ⟨ks, h1, h2⟩ := h
  exact ⟨ks, e _ _ h1, h2⟩
theorem inV_texts (x : Str) : ∀ ds : List Str, inV (.str x) (ds.map V.str) = decide (x ∈ ds)
  | [] => rfl
  | d :: ds => by
    have ih := inV_texts x ds
    unfold inV at ih ⊢
    rw [List.map_cons, List.any_cons, ih]
    by_cases e : d = x
    · subst e
      simp
      left
      show (d == d) = true
      exact beq_self_eq_true d
    · have e2 : ¬ x = d := fun z => e z.symm
      simp [e2]
      intro z
      exact absurd z (by
        show ¬ (_ : Bool) = true
        intro q
        first
          | exact e (beq_iff_eq.mp q)
          | exact e2 (beq_iff_eq.mp q))
def spDue (K : PySem.W.Frag) : Sp := fun vs H Q _ => ∃ (b t : Addr) (v : V) (xs rs : List Str) (k : Nat) (g : Option (List (Option Str))), vs = [.ref b, .int (k : Nat), .ref t, v] ∧ H b = some (.tup (xs.map V.str)) ∧ TblV H t xs k rs ∧ VGood xs k rs ∧ GrK K H v g ∧ (∀ u, vdue xs k rs g = .inr u → ∃ (a : Addr) (gs : List Str), v = .ref a ∧ g = some (gs.map some) ∧ H a = some (.tup (gs.map V.str))) ∧
  ∀ (p : Addr) (H' : Hp), Same H H' → H' p = some (.tup (toldW (vdue xs k rs g))) → Q (.ref p) H'
section
variable {P : Program} {w : World} {K : PySem.W.Frag} {mg : Str → Option Value} {base : Heap}
abbrev NDc : List Str := ["_law_base", "_law_count", "_law_table", "_law_group", "_law_item"]
theorem sc__law_due_call : FnScope NDc ["_law_base", "_law_count", "_law_table", "_law_group"] (defScope s__law_due_call) := ⟨rfl, rfl, rfl, by decide +kernel, rfl, by decide +kernel, by decide +kernel⟩
theorem ok__law_due_call (B : Bz mg) (f : FnF K mg "_law_due_call" "_law_due_call" s__law_due_call) : FnOk P w K mg base CX0 1 f.a f.d ["_law_base", "_law_count", "_law_table", "_law_group"] (spDue K) := by
  refine f.F.ok sc__law_due_call (fun vs H Q E h => ?_) (fun cdv A outer s H vs Q E hr h => ?_)
  · obtain ⟨b, t, v, xs, rs, k, g, rfl, _⟩ := h
    rfl
  · obtain ⟨b, t, v, xs, rs, k, g, rfl, hb, ⟨ks, ht, eks⟩, G, hg, htv, q⟩ := h
    have hu64 := hr.units
    have hu := hu_of hr
    refine ⟨_, (pss_cons
      (ps_if (PW.pt (pw_or (pt_not (pt_val (pe_callB call_isi (by rfl) B.n_isinstance (by decide +kernel) (pa_cons (pv 3) (pa_cons (pe_bltn (v := .ty "tuple") rfl B.n_tuple (by decide +kernel) rfl) pa_nil))))) (pw_or1 (pt_cmpR op_ne (pe_callB call_len (by rfl) B.n_len (by decide +kernel) (pa_cons (pv 3) pa_nil)) (pv 1) (nomark _)))))
        (pss_one
          (ps_ret (pe_tup (pa_cons pe_str (pa_cons pe_str pa_nil)))))
        pss_nil)
    (pss_cons
      (ps_if (pt_cmpR (op_neL0 hu64) (pe_lc (own := [("_law_item", 4)]) (g := gName 4) (by rfl) sc__law_due_call.nd (pi_tup (pv 3)) (blkOk_by (own := [("_law_item", 4)]) (N := NDc) (sc := defScope s__law_due_call) (by decide +kernel))
          (fun _ _ _ _ _ => (pg_name (i := 4) sc__law_due_call.nd rfl (Or.inl rfl)))
          (fun _ _ _ _ _ => pts_one (PW.pt (pw_or (pt_not (pt_val (pe_callB (show CallR _ (.builtin "isinstance") (rIsi K) from call_isi) (by rfl) B.n_isinstance (by decide +kernel) (pa_cons (pv 4) (pa_cons (pe_bltn (v := .ty "str") rfl B.n_str (by decide +kernel) rfl) pa_nil))))) (pw_or1 (pt_cmpR (show OpR _ (compareOp .NotIn) (rIn K true) from op_notIn_seq) (pv 4) (pv 0) (by rfl))))))
          (fun _ _ _ _ _ => (pv 4))) (pe_lst pa_nil) (nomark _))
        (pss_one
          (ps_ret (pe_tup (pa_cons pe_str (pa_cons pe_str pa_nil)))))
        pss_nil)
    (pss_one
      (ps_ret (pe_tup (pa_cons pe_str (pa_cons (pe_dget hu (pv 2) (pv 3) (fun _ _ => rfl)) pa_nil))))))), ?_⟩
    have out : ∀ (wd : Str) H1, Same H H1 → vdue xs k rs g = .inl wd → (tTup (tCons (tC (V.str "no vote")) (tCons (tC (V.str wd)) tNil))) (L2.start NDc [.ref b, .int (k : Nat), .ref t, v]) H1 Q := fun wd H1 e1 hd => by
      refine ⟨by show 2 ≤ sizeLine; decide, fun p hp => q p _ (same_trans e1 (same_new hp)) ?_⟩
      rw [upd_same, hd]
      rfl
    cases g with
    | none =>
      obtain ⟨ty, hty, kt⟩ := hg.no
      exact ⟨_, rfl, _, _, _, _, false, rfl, .ty "tuple", hty, kt, false, rfl, iteT (out "count" H (fun _ _ e => e) rfl)⟩
    | some os =>
      obtain ⟨a, vs, rfl, hs, hi, l60⟩ : ∃ a vs, v = .ref a ∧ SqT K H a vs ∧ W.EachIs (ItK K H) vs os ∧ vs.length ≤ 60 := by
        cases hg with
        | tup h1 h2 h3 => exact ⟨_, _, rfl, h1, h2, h3⟩
      have lo : vs.length = os.length := hi.length
      refine ⟨_, rfl, _, _, _, _, true, rfl, .ty "tuple", tyT hs, kit_ty (by decide +kernel), true, rfl, iteF ?_⟩
      refine ⟨_, rfl, .ref a, vs.length, rfl, .inr ⟨_, hs, rfl⟩, _, rfl, rfl, _, rfl, ite2 (fun c => ?_) fun c => ?_⟩
      · have nk : os.length ≠ k := fun z => by
          rw [show (V.int (vs.length : Nat) : V) = V.int (k : Nat) by rw [lo, z], decide_eq_true rfl] at c
          cases c
        exact out "count" H (fun _ _ e => e) (if_pos nk)
      · have lk : os.length = k := Classical.byContradiction fun z => c (by
          rw [decide_eq_false (fun y => z (by injection y with y; omega))]
          rfl)
        have e1 : Same H H := fun _ _ e => e
        refine ⟨_, rfl, a, rfl, ⟨_, hs⟩, fun D hD => ?_⟩
        refine lc_tup (K := K) (xs := vs) (fun i H' => Same H H' ∧ ∃ acc : List V, H' D = some (.lst acc) ∧ acc.isEmpty = ((os.take i).all fun o => inIt o xs) ∧ acc.length ≤ i) ⟨same_new hD, [], upd_same, rfl, Nat.le_refl _⟩ (fun i H' _ p => same_seqT p.1 hs) ?_ ?_
        · rintro i y H2 hy ⟨e2, acc, hacc, emp, few⟩
          obtain ⟨o, ho, it⟩ := each_get hi hy
          have il : i < vs.length := (List.getElem?_eq_some_iff.mp hy).1
          have it2 := it.same e2
          have al : ((os.take (i + 1)).all fun o => inIt o xs) = (((os.take i).all fun o => inIt o xs) && inIt o xs) := by
            rw [take_next ho, List.all_append, List.all_cons, List.all_nil, Bool.and_true]
          have kept : inIt o xs = false → ∃ acc2, H2 D = some (.lst acc2) ∧ acc2.length < sizeLine ∧ (Same H (upd H2 D (.lst (acc2 ++ [y]))) ∧ ∃ acc : List V, upd H2 D (.lst (acc2 ++ [y])) D = some (.lst acc) ∧ acc.isEmpty = ((os.take (i + 1)).all fun o => inIt o xs) ∧ acc.length ≤ i + 1) := fun no => by
            refine ⟨acc, hacc, by rw [sizeLine_eq]; omega, same_put hD e2, _, upd_same, ?_, by rw [List.length_append]; exact Nat.succ_le_succ few⟩
            rw [al, no, Bool.and_false]
            simp
          obtain ⟨ty, bb, hty, kt, ebb⟩ := it_ty it2
          refine ⟨rfl, _, rfl, _, _, ty, _, bb, rfl, .ty "str", hty, kt, bb, rfl, ?_⟩
          cases o with
          | none =>
            subst ebb
            exact iteT ⟨_, rfl, kept (inIt_none xs)⟩
          | some x =>
            subst ebb
            obtain rfl : y = .str x := by
              cases it2
              rfl
            refine iteF ⟨_, rfl, _, rfl, b, xs.map V.str, rfl, .inr (SqT.of (e2 _ _ hb)), rfl, flat_strs xs, _, rfl, ?_⟩
            rw [inV_texts]
            by_cases m : x ∈ xs
            · rw [decide_eq_true m]
              refine iteF ⟨e2, acc, hacc, ?_, by omega⟩
              rw [al, ← emp, inIt_some, decide_eq_true m, Bool.and_true]
            · rw [decide_eq_false m]
              exact iteT ⟨_, rfl, kept (by rw [inIt_some, decide_eq_false m])⟩
        · rintro H2 ⟨e2, acc, hacc, emp, few⟩
          rw [hi.length, List.take_length] at emp
          refine ⟨by show 0 ≤ sizeLine; exact Nat.zero_le _, fun l hl => ?_⟩
          have e3 : Same H2 (upd H2 l (.lst [])) := same_new hl
          have e03 := same_trans e2 e3
          refine ⟨D, l, acc, rfl, rfl, SqL.of (e3 _ _ hacc), SqL.of upd_same, _, rfl, ?_⟩
          rw [emp]
          cases hal : os.all fun o => inIt o xs with
          | false =>
            refine iteT (out "domain" _ e03 ?_)
            show (if os.length ≠ k then Sum.inl ("count" : Str) else if (os.all fun o => inIt o xs) = true then .inr ((lookS (ptsL k xs) rs (os.filterMap id)).getD Str.empty) else .inl "domain") = _
            rw [if_neg (fun z => z lk), hal]
            rfl
          | true =>
            refine iteF ?_
            obtain ⟨gs, rfl, rfl, sub⟩ := all_in hi hal
            rw [List.length_map] at lk
            obtain ⟨u, hu1, hu2, hu3⟩ := vdue_in G sub lk
            obtain ⟨a2, ys, ea, eg, ha2⟩ := htv u hu3
            cases ea
            have hy : gs = ys := (List.map_inj_right fun _ _ z => Option.some.inj z).mp (Option.some.inj eg)
            subst hy
            generalize upd H2 l (.lst []) = H3 at e3 e03 ⊢
            have dg := DGet.t (k := KDz.entK gs) (e03 _ _ ht) (by rw [KDz.entK_kV]; exact e03 _ _ ha2)
            rw [val_look, eks, hu2] at dg
            refine ⟨_, rfl, _, rfl, t, _, rfl, dg, by show 2 ≤ sizeLine; decide, fun pp hpp => q pp _ (same_trans e03 (same_new hpp)) ?_⟩
            rw [upd_same, hu3]
            rfl
end
end K01
/-! o.m(e, ..), o.m() of a method with a star parameter; what is raised is wished for at the slots. Texts times numbers. -/
namespace KMs
open PySem PySem.Spec PyProof.Rows L2
/-- o.m(e, ..), what is raised is wished for at the slots -/
def tMethRS (C : Addr) (m : Str) (sp : Sp) (E : L2.St → XK) (ta : TE) (t : TA) : TE := fun σ H Q => ta σ H fun x H1 => ∃ a dx fs, x = .ref a ∧ H1 a = some (.ins C dx fs) ∧ fs.lookup m = none ∧ t σ H1 fun vs H2 => sp (x :: vs) H2 Q (E σ)
section
variable {X : Cx} {CX : CXT} {k : Nat} {C f : Addr} {m : Str} {sp : Sp} {E : L2.St → XK} {o e : Expr} {es : List Expr} {ta : TE} {t : TA} {apos pos : Pos} {pl : Sem Bool}
theorem run_fnRS {pins : List (Addr × Obj)} {σ : L2.St} {H : Hp} {s : Shared} {Q : VK} {us : List Value} {vs : List V} (F : FnR X.prog X.w X.K X.mg X.base CX k f sp) (hr : Room k X.A) (hx : PassesAt CX X σ (E σ)) (I : Inv X pins σ H s) (r : Vals vs us) (h : sp vs H Q (E σ)) :
    wpAny (model X.prog X.w) X.A (call (.ref f) us) (EP X pins σ Q) X.xe s := by
  refine wpAny_call (codeAny_mono (F X.A X.stack s H us vs Q (E σ) hr I.env0 r h) fun r s' hq => ?_)
  cases r with
  | error e => exact hx pins H s e s' I hq
  | ok fl =>
    cases fl with
    | ret u => exact I.after hq
    | next => exact False.elim hq
    | brk => exact False.elim hq
    | cont => exact False.elim hq
theorem pe_methRS (he : PE X o ta) (c : Cls X.K C) (hm : Meth X.K C m f)
    (F : FnR X.prog X.w X.K X.mg X.base CX k f sp) (hr : Room k X.A) (hx : ∀ σ, PassesAt CX X σ (E σ)) (ha : PA X (e :: es) t)
    (hst : starEach (e :: es) X.env = (false, eval e X.env) :: starEach es X.env := by rfl) (hpl : (backTo pos (starEach es X.env)).any (·.1) = false := by rfl)
    (ht : eval (.Call (.Attribute o m apos) (e :: es) [] pos) X.env = (do
      let ov ← eval o X.env
      standAt apos.atName
      let (f, first) ← holding [ov] (getMethod ov m pl)
      callWith pos f first (backTo pos (starEach (e :: es) X.env)) (backToKw pos (keywordEach [] X.env))) := by rfl) :
    PE X (.Call (.Attribute o m apos) (e :: es) [] pos) (tMethRS C m sp E ta t) := by
  refine ⟨fun pins s σ H Q I h => ?_⟩
  refine PySem.W.methodCall_KW (pl := pl) (thn (he.run pins s σ H _ I h) fun u s1 ⟨x, H1, I1, rx, a, dx, fs, ex, ea, l, q⟩ => ?_) ht
  subst ex
  obtain rfl : u = Value.ref a := rx
  refine getmeth_ok I1 ea c hm l ?_
  refine PySem.W.callWith_K (first := [.ref a]) (h₀ := X.base) I.ok.mod.kin hm.kp (thn (ha.run pos pins s1 σ H1 _ I1 q) fun us s2 ⟨vs, H2, I2, r, q2⟩ => ⟨I2.kIn, ?_⟩) hst hpl
  exact run_fnRS (us := .ref a :: us) (vs := .ref a :: vs) F hr (hx σ) I2 (.cons rfl r) q2
theorem pe_methRS0 (he : PE X o ta) (c : Cls X.K C) (hm : Meth X.K C m f)
    (F : FnR X.prog X.w X.K X.mg X.base CX k f sp) (hr : Room k X.A) (hx : ∀ σ, PassesAt CX X σ (E σ))
    (ht : eval (.Call (.Attribute o m apos) [] [] pos) X.env = (do
      let ov ← eval o X.env
      standAt apos.atName
      let (f, first) ← holding [ov] (getMethod ov m pl)
      callWith pos f first (backTo pos (starEach [] X.env)) (backToKw pos (keywordEach [] X.env))) := by rfl) :
    PE X (.Call (.Attribute o m apos) [] [] pos) (tMethRS C m sp E ta tNil) := by
  refine ⟨fun pins s σ H Q I h => ?_⟩
  refine PySem.W.methodCall_KW (pl := pl) (thn (he.run pins s σ H _ I h) fun u s1 ⟨x, H1, I1, rx, a, dx, fs, ex, ea, l, q⟩ => ?_) ht
  subst ex
  obtain rfl : u = Value.ref a := rx
  refine getmeth_ok I1 ea c hm l ?_
  exact PySem.W.callWith_K0 (first := [.ref a]) I1.kIn hm.kp (run_fnRS (us := [.ref a]) (vs := [.ref a]) F hr (hx σ) I1 (.cons rfl .nil) q)
end
/-! ### texts times numbers -/
def repS (i : Str) (k : Nat) : Str := if (i.length == 0) = true then i else ⟨(List.replicate k i.cps).foldl (· ++ ·) #[]⟩
theorem fold_list {α : Type} (a : Array α) : ∀ (n : Nat) (acc : Array α), ((List.replicate n a).foldl (· ++ ·) acc).toList = acc.toList ++ (List.replicate n a.toList).flatten
  | 0, acc => by simp
  | n + 1, acc => by
    rw [List.replicate_succ, List.foldl_cons, fold_list a n, List.replicate_succ, List.flatten_cons, Array.toList_append, List.append_assoc]
theorem repS_codes {i : Str} {k : Nat} : ∀ c ∈ (repS i k).cps.toList, c ∈ i.cps.toList := by
  unfold repS
  intro c hc
  split at hc
  · exact hc
  · rw [fold_list] at hc
    simp only [List.nil_append, List.mem_flatten, List.mem_replicate] at hc
    obtain ⟨l, ⟨_, rfl⟩, h⟩ := hc
    exact h
theorem repS_len {i : Str} {k : Nat} (h : 1 ≤ k) : (repS i k).length ≤ k * i.length := by
  unfold repS
  split
  · exact Nat.le_mul_of_pos_left _ h
  · show ((List.replicate k i.cps).foldl (· ++ ·) #[]).size ≤ k * i.cps.size
    rw [← Array.length_toList, fold_list]
    simp
theorem op_mulS {X : Cx} : OpR X (binaryOp .Mult) (fun x y H Q => ∃ (i : Str) (k : Int), x = .str i ∧ y = .int k ∧ 2 ≤ k ∧ k ≤ 1000 ∧ i.length ≤ 1000 ∧ Q (.str (repS i k.toNat)) H) := by
  intro pins s σ H x y v u Q I rx ry h
  obtain ⟨i, k, rfl, rfl, h1, h2, hz, q⟩ := h
  obtain ⟨t, rfl⟩ := rx
  obtain ⟨t', rfl⟩ := ry
  have n1 : ¬ k < 1 := by omega
  have k1 : (k == 1) = false := beq_eq_false_iff_ne.mpr (by omega)
  have sz : i.length * k.toNat ≤ 1000 * 1000 := Nat.mul_le_mul hz (by omega)
  refine PySem.P.mul_str (by rw [decide_eq_false (by omega), decide_eq_false (by omega)]; rfl) (fun _ _ => ?_) (fun _ _ => ?_) ?_
  · have z : (1000 : Int) ≤ (2 ^ 63 - 1) / k := (Int.le_ediv_iff_mul_le (by omega)).mpr (by omega)
    omega
  · unfold Builtin.Str.tooLong
    rw [sizeLine_eq]
    exact decide_eq_false (by omega)
  · rw [if_neg n1, k1, Bool.false_or]
    unfold repS at q
    split
    · rename_i e
      rw [if_pos e] at q
      exact ⟨.str i, H, I, ⟨_, rfl⟩, q⟩
    · rename_i e
      rw [if_neg e] at q
      refine ⟨?_, .str _, H, I.tok _, ⟨_, rfl⟩, q⟩
      have z := repS_len (i := i) (k := k.toNat) (by omega)
      unfold repS at z
      rw [if_neg e] at z
      have y : k.toNat * i.length ≤ 1000 * 1000 := Nat.mul_le_mul (by omega) hz
      refine Nat.le_trans z ?_
      rw [sizeLine_eq]
      omega
end KMs
/-! _law_odd_call. -/
namespace K01
open PySem PySem.Spec PyProof.Rows L2 KG KS KA KX KIa KFz
abbrev s__law_odd_call : Stmt := top 27
abbrev NOd : List Str := ["_law_deck_here", "_law_base", "_law_count", "_law_group", "_law_way", "_law_at", "_law_odd", "_law_menu", "_law_k"]
/-- what is voted on stands plain -/
def PlG (H : Hp) (v : V) (g : Option (List (Option Str))) : Prop := ∀ (xs rs : List Str) (k : Nat) (u : Str), vdue xs k rs g = .inr u → ∃ (a : Addr) (gs : List Str), v = .ref a ∧ g = some (gs.map some) ∧ H a = some (.tup (gs.map V.str))
theorem plg_none {H : Hp} {v : V} : PlG H v none := fun _ _ _ _ h => nomatch h
theorem plg_tup {K : PySem.W.Frag} {H : Hp} {a : Addr} {vs : List V} {os : List (Option Str)} (h : H a = some (.tup vs)) (hi : W.EachIs (ItK K H) vs os) : PlG H (.ref a) (some os) := fun xs rs k u hd => by
  unfold vdue at hd
  dsimp only at hd
  split at hd
  · cases hd
  · split at hd
    · rename_i al
      obtain ⟨gs, rfl, rfl, _⟩ := all_in hi al
      exact ⟨a, gs, rfl, rfl, h⟩
    · cases hd
theorem PlG.up {H H' : Hp} {v : V} {g : Option (List (Option Str))} (h : PlG H v g) (e : Same H H') : PlG H' v g := fun xs rs k u hd => by
  obtain ⟨a, gs, h1, h2, h3⟩ := h xs rs k u hd
  exact ⟨a, gs, h1, h2, e _ _ h3⟩
def spOdd (K : PySem.W.Frag) : Sp := fun vs H Q _ => ∃ (d l b : Addr) (n : Nat) (xs : List Str) (k : Nat), vs = [.ref d, .ref b, .int (k : Nat)] ∧ DeckAt H d l n ∧ n + 20 < 1000000000 ∧ H b = some (.tup (xs.map V.str)) ∧ (∀ x ∈ xs, nameOk x = true) ∧ 1 ≤ xs.length ∧ xs.length ≤ 3 ∧ (k = 3 ∨ k = 4) ∧
  ∀ (v : V) (g : Option (List (Option Str))) (D : PyData) (H' : Hp), DeckAt H' d l (n + 10) → Off d l H H' → GrK K H' v g → PlG H' v g → Shw H' v D 3 10000 → Q v H'
/-- a longer text -/
theorem shw_long {H : Hp} {x : Str} (h1 : x.length ≤ 40) (h2 : ∀ c ∈ x.cps.toList, c < 16 ^ 8) : Shw H (.str x) (.str x) 0 500 := ⟨.str x, by simp only [PyData.showable], by simp only [PyData.depth]; omega, by simp only [cost]; have := PySem.StrLaws.reprText_len x h2; omega⟩
theorem sum_le : ∀ {g : List Str}, (∀ x ∈ g, x.length ≤ 8) → (g.map (·.length)).sum ≤ 8 * g.length
  | [], _ => Nat.le_refl _
  | x :: g, h => by
    have ih := sum_le (g := g) fun y hy => h y (List.mem_cons_of_mem _ hy)
    have hx := h x List.mem_cons_self
    rw [List.map_cons, List.sum_cons, List.length_cons]
    omega
theorem joinL_nil : ∀ ps : List (List Nat), TL.joinL [] ps = ps.flatten
  | [] => rfl
  | [p] => by
    show p = p ++ []
    rw [List.append_nil]
  | p :: q :: r => by
    have ih := joinL_nil (q :: r)
    show p ++ ([] ++ TL.joinL [] (q :: r)) = p ++ (q :: r).flatten
    rw [List.nil_append, ih]
theorem join_flat (g : List Str) : (Txt.join ("" : Str) g).cps.toList = (g.map fun x => x.cps.toList).flatten := by
  have e : TL.tl ("" : Str) = [] := by decide +kernel
  have z := TL.tl_join ("" : Str) g
  rw [e, joinL_nil] at z
  rw [TL.join_eq]
  exact z
theorem join_len (g : List Str) : (Txt.join ("" : Str) g).length = (g.map (·.length)).sum := by
  show (Txt.join ("" : Str) g).cps.size = _
  rw [← Array.length_toList, join_flat, List.length_flatten, List.map_map]
  congr 1
theorem join_codes (g : List Str) (c : Nat) (h : c ∈ (Txt.join ("" : Str) g).cps.toList) : ∃ x ∈ g, c ∈ x.cps.toList := by
  rw [join_flat, List.mem_flatten] at h
  obtain ⟨l, hl, hc⟩ := h
  obtain ⟨x, hx, rfl⟩ := List.mem_map.mp hl
  exact ⟨x, hx, hc⟩
section
variable {P : Program} {w : World} {K : PySem.W.Frag} {mg : Str → Option Value} {base : Heap}
theorem sc__law_odd_call : FnScope NOd ["_law_deck_here", "_law_base", "_law_count"] (defScope s__law_odd_call) := ⟨rfl, rfl, rfl, by decide +kernel, rfl, by decide +kernel, by decide +kernel⟩
theorem ok__law_odd_call (B : Bz mg) (f : FnF K mg "_law_odd_call" "_law_odd_call" s__law_odd_call) (fd : FnF K mg "_law_draw" "_law_draw" s__law_draw) (fp : FnF K mg "_law_pick" "_law_pick" s__law_pick) : FnOk P w K mg base CX0 3 f.a f.d ["_law_deck_here", "_law_base", "_law_count"] (spOdd K) := by
  have GD := ok__law_draw (P := P) (w := w) (base := base) B.toBi fd
  have bD : L2.Binds K fd.d ["_law_deck_here", "_law_many"] [] := fd.F.binds fun _ _ _ _ _ _ us hl => match us, hl with | [_, _], _ => rfl
  have GT := ok__law_pickT (P := P) (w := w) (base := base) B.toBi fp fd
  have GP := ok__law_pick (P := P) (w := w) (base := base) B.toBi fp fd
  have bP : L2.Binds K fp.d ["_law_deck_here", "_law_options"] [] := fp.F.binds fun _ _ _ _ _ _ us hl => match us, hl with | [_, _], _ => rfl
  refine f.F.ok sc__law_odd_call (fun vs H Q E h => ?_) (fun cdv A outer s H vs Q E hr h => ?_)
  · obtain ⟨d, l, b, n, xs, k, rfl, _⟩ := h
    rfl
  · obtain ⟨d, l, b, n, xs, k, rfl, D, hn, hb, ok, l1, l3, hk, q⟩ := h
    have hu64 := hr.units
    have hr1 : Room 1 _ := hr.mono (by omega)
    have hr2 : Room 2 _ := hr.mono (by omega)
    refine ⟨_, (pss_cons
      (ps_set (i := 3) sc__law_odd_call.nd rfl (Or.inl rfl) (pe_callTy call_tuple_of (by rfl) B.n_tuple (by decide +kernel) (pa_cons (pe_lc (own := [("_law_k", 8)]) (g := gName 8) (by rfl) sc__law_odd_call.nd (pi_range1 rfl B.n_range (pa_cons (pv 2) pa_nil)) (blkOk_by (own := [("_law_k", 8)]) (N := NOd) (sc := defScope s__law_odd_call) (by decide +kernel))
        (fun _ _ _ _ _ => (pg_name (i := 8) sc__law_odd_call.nd rfl (Or.inl rfl))) (fun _ _ _ _ _ => pts_nil) (fun _ _ _ _ _ => (pe_call GT hr2 rfl fp.g fp.F.kp bP .nil pass0 (pa_cons (pv 0) (pa_cons (pv 1) pa_nil))))) pa_nil)))
    (pss_cons
      (ps_par (i := 4) (j := 5) (by rfl) sc__law_odd_call.nd rfl rfl (by decide) rfl rfl (pa_cons (pe_call GD hr1 rfl fd.g fd.F.kp bD .nil pass0 (pa_cons (pv 0) (pa_cons pe_int pa_nil))) (pa_cons (pe_call GD hr1 rfl fd.g fd.F.kp bD .nil pass0 (pa_cons (pv 0) (pa_cons (pv 2) pa_nil))) pa_nil)) (by rfl))
    (pss_cons
      (ps_if (pt_cmpR op_lt (pv 4) pe_int (nomark _))
        (pss_cons
          (ps_set (i := 6) sc__law_odd_call.nd rfl (Or.inl rfl) (pe_lst (pa_cons pe_non (pa_cons pe_int (pa_cons pe_int (pa_cons pe_bl (pa_cons pe_str (pa_cons pe_str (pa_cons pe_str (pa_cons (pe_callTy call_list_of (by rfl) B.n_list (by decide +kernel) (pa_cons (pv 1) pa_nil)) (pa_cons pe_dnewK (pa_cons (pv 1)
            (pa_cons (pe_tup (pa_cons (pe_ix (show IxR _ (rIxT K) from ix_tup) (pv 1) pe_int (fun _ _ => rfl)) pa_nil)) (pa_cons (pe_op op_add_str (pe_ix (show IxR _ (rIxT K) from ix_tup) (pv 1) pe_int (fun _ _ => rfl)) pe_str) (pa_cons (pe_op op_pow pe_int pe_int) pa_nil)))))))))))))))
        (pss_one
          (ps_ret (pe_op op_catA (pe_op op_catA (pe_slice sl_tupA (pv 3) po_none (po_some (pv 5))) (pe_tup (pa_cons (pe_call GP hr2 rfl fp.g fp.F.kp bP .nil pass0 (pa_cons (pv 0) (pa_cons (pv 6) pa_nil))) pa_nil))) (pe_slice sl_tupA (pv 3) (po_some (pe_op op_add (pv 5) pe_int)) po_none)))))
        pss_nil)
    (pss_cons
      (ps_set (i := 7) sc__law_odd_call.nd rfl (Or.inl rfl) (pe_lst (pa_cons (pe_op op_catA (pe_slice sl_tupA (pv 3) po_none (po_some (pv 5))) (pe_slice sl_tupA (pv 3) (po_some (pe_op op_add (pv 5) pe_int)) po_none)) (pa_cons (pe_op op_catA (pv 3) (pe_slice sl_tupA (pv 3) po_none (po_some pe_int))) (pa_cons (pe_tup pa_nil) (pa_cons (pe_slice sl_tupA (pv 3) po_none (po_some pe_int))
        (pa_cons (pe_callTy call_list_of (by rfl) B.n_list (by decide +kernel) (pa_cons (pv 3) pa_nil)) (pa_cons pe_non (pa_cons (pv 2) (pa_cons pe_dnewK pa_nil))))))))))
    (pss_cons
      (ps_set (i := 7) sc__law_odd_call.nd rfl (Or.inl rfl) (pe_op op_cat (pv 7) (pe_lst (pa_cons (pe_op KMs.op_mulS (pe_ix (show IxR _ (rIxT K) from ix_tup) (pv 1) pe_int (fun _ _ => rfl)) (pv 2)) (pa_cons (pe_op op_catA (pe_slice sl_tupA (pv 3) po_none (po_some pe_int)) (pe_tup (pa_cons pe_str (pa_cons pe_str (pa_cons pe_non pa_nil)))))
        (pa_cons (pe_tup (pa_cons (pv 3) pa_nil)) (pa_cons (pe_op op_repT (pe_tup (pa_cons pe_non pa_nil)) (pv 2)) (pa_cons pe_bl pa_nil))))))))
    (pss_one
      (ps_ret (pe_call GP hr2 rfl fp.g fp.F.kp bP .nil pass0 (pa_cons (pv 0) (pa_cons (pe_op op_cat (pv 7) (pe_lst (pa_cons (pe_op op_repT (pe_tup (pa_cons pe_str pa_nil)) (pe_op op_add (pv 2) pe_int)) (pa_cons (pe_join pe_str (pv 3)) (pa_cons (pv 3) pa_nil))))) pa_nil)))))))))), ?_⟩
    -- group = tuple([pick(deck, base) for k in range(count)])
    obtain ⟨cs0, mm0, n0, hd0, hl0, _⟩ := id D.ex
    refine ⟨_, rfl, _, rfl, by omega, by omega, fun gl hgl => ?_⟩
    have glH : H gl = none := hgl
    have gld : gl ≠ d := (ne_of_none hd0 glH).symm
    have gll : gl ≠ l := (ne_of_none hl0 glH).symm
    have e1g : Same H (upd H gl (.lst [])) := same_new hgl
    have kt : ((k : Nat) : Int).toNat = k := Int.toNat_natCast k
    refine lc_range (lo := 0) (n := ((k : Nat) : Int).toNat) (fun i H' => ∃ got : List Str, DeckAt H' d l (n + i) ∧ Off d l H H' ∧ H' gl = some (.lst (got.map V.str)) ∧ got.length = i ∧ ∀ x ∈ got, x ∈ xs)
      ⟨[], D.same e1g, Off.of e1g, upd_same, rfl, fun _ z => nomatch z⟩ ?_ ?_
    · rintro i H2 hi ⟨got, D2, o2, hg2, gln, gin⟩
      have hi5 : i < 4 := by omega
      refine ⟨rfl, _, rfl, _, rfl, d, l, b, xs.map V.str, n + i, rfl, D2, tup_off hb D o2, by rw [List.length_map]; omega, by rw [List.length_map]; omega, by omega, fun v H3 hv D3 o3 => ?_⟩
      obtain ⟨x, hx, rfl⟩ := List.mem_map.mp hv
      have hg3 := o3 gl _ hg2 gld gll
      refine ⟨got.map V.str, hg3, by rw [List.length_map, sizeLine_eq]; omega, got ++ [x], ?_, ?_, by rw [upd_same, List.map_append]; rfl, by rw [List.length_append, gln]; rfl, fun y hy => ?_⟩
      · obtain ⟨cs, mm, nn, h1, h2, h3⟩ := D3.ex
        exact ⟨cs, mm, nn, by rw [upd_ne gld.symm]; exact h1, by rw [upd_ne gll.symm]; exact h2, h3.1, h3.2.1, h3.2.2.1, by omega⟩
      · intro c u hc n1 n2
        rw [upd_ne (ne_of_none hc glH)]
        exact o3 c u (o2 c u hc n1 n2) n1 n2
      · rcases List.mem_append.mp hy with z | z
        · exact gin y z
        · rw [List.mem_singleton.mp z]
          exact hx
    rintro H4 ⟨got, D4, o4, hg4, gln, gin⟩
    rw [kt] at gln
    have g3 : 3 ≤ got.length := by omega
    have g4 : got.length ≤ 4 := by omega
    have D4 := D4.up (k := n + 4) (by omega)
    clear hgl e1g
    refine ⟨gl, got.map V.str, rfl, .inl ⟨SqL.of hg4, fun t ht => ?_⟩⟩
    have e5 : Same H4 (upd H4 t (.tup (got.map V.str))) := same_new ht
    have hT5 : upd H4 t (.tup (got.map V.str)) t = some (.tup (got.map V.str)) := upd_same
    generalize upd H4 t (.tup (got.map V.str)) = H5 at e5 hT5 ⊢
    have D5 := D4.same e5
    have o5 := o4.trans (Off.of e5)
    -- way, at
    refine ⟨_, rfl, d, l, 8, n + 4, rfl, D5, by decide, by decide, by omega, fun wy H6 w0 w1 D6 o6 => ?_⟩
    have hT6 := tup_off hT5 D5 o6
    refine ⟨_, rfl, _, rfl, d, l, ((k : Nat) : Int), n + 5, rfl, D6, by omega, by omega, by omega, fun at_ H7 a0 a1 D7 o7 => ⟨_, _, rfl, ?_⟩⟩
    have hT7 := tup_off hT6 D6 o7
    have o07 := o5.trans (o6.trans o7)
    have hb7 := tup_off hb D o07
    have okg : ∀ x ∈ got, TxOk x := fun x hx => tx_name (ok x (gin x hx))
    have okx : ∀ x ∈ xs, TxOk x := fun x hx => tx_name (ok x hx)
    obtain ⟨x0, xr, rfl⟩ := List.exists_cons_of_ne_nil (show xs ≠ [] from fun z => by rw [z] at l1; exact absurd l1 (by decide))
    have ok0 := ok x0 List.mem_cons_self
    have at0 : atI ((x0 :: xr).map V.str) 0 = some (V.str x0) := at_of (j := 0) rfl rfl
    clear hT6 hT5 D6 D5 o6 o7 e5
    -- what is drawn of a list
    have fresh : ∀ {H8 : Hp} {p : Addr}, Same H7 H8 → H8 p = none → p ≠ d ∧ p ≠ l := fun {H8 p} e n => by
      obtain ⟨cs, mm, nn, h1, h2, _⟩ := D7.ex
      exact ⟨fun z => (by rw [z, e _ _ h1] at n; cases n), fun z => (by rw [z, e _ _ h2] at n; cases n)⟩
    refine ⟨_, rfl, _, _, rfl, rfl, _, rfl, ite2 (fun _ => ?_) fun _ => ?_⟩
    · -- group[:at] + (pick(deck, odd),) + group[at + 1:]
      refine ⟨_, rfl, b, _, rfl, .inr (SqT.of hb7), fun p1 hp1 => ?_⟩
      have f1 : Same H7 (upd H7 p1 (.lst ((x0 :: xr).map V.str))) := same_new hp1
      have h1 : upd H7 p1 (.lst ((x0 :: xr).map V.str)) p1 = some (.lst ((x0 :: xr).map V.str)) := upd_same
      generalize upd H7 p1 (.lst ((x0 :: xr).map V.str)) = HA at f1 h1 ⊢
      intro p2 hp2
      have f2 := same_trans f1 (same_new (o := .dK []) hp2)
      have h1 := same_new (o := .dK []) hp2 _ _ h1
      have h2 : upd HA p2 (.dK []) p2 = some (.dK []) := upd_same
      have n2 := fresh f1 hp2
      generalize upd HA p2 (.dK []) = HB at f2 h1 h2 ⊢
      refine ⟨_, rfl, _, rfl, b, _, 0, _, rfl, rfl, SqT.of (f2 _ _ hb7), at0, by show 1 ≤ sizeLine; decide, fun p3 hp3 => ?_⟩
      have f3 := same_trans f2 (same_new (o := .tup [V.str x0]) hp3)
      have h1 := same_new (o := .tup [V.str x0]) hp3 _ _ h1
      have h2 := same_new (o := .tup [V.str x0]) hp3 _ _ h2
      have h3 : upd HB p3 (.tup [V.str x0]) p3 = some (.tup [V.str x0]) := upd_same
      generalize upd HB p3 (.tup [V.str x0]) = HC at f3 h1 h2 h3 ⊢
      have lx0 : x0.length ≤ 12 := (tx_name ok0).1
      have lx1 : ("x" : Str).length = 1 := by decide +kernel
      have lx2 : x0.length + ("x" : Str).length ≤ sizeLine := by
        rw [sizeLine_eq]
        omega
      refine ⟨_, rfl, b, _, 0, _, rfl, rfl, SqT.of (f3 _ _ hb7), at0, _, _, rfl, rfl, lx2, _, _, rfl, rfl, ⟨by decide, by decide, by decide⟩, by show 13 ≤ sizeLine; decide, fun p4 hp4 => ?_⟩
      have n4 := fresh f3 hp4
      have n3 := fresh f2 hp3
      have n1 := fresh (fun _ _ e => e) hp1
      have f34 := same_new (o := .lst [V.non, V.int 0, V.int 1, V.bl true, V.str "", V.str "A", V.str "zz", V.ref p1, V.ref p2, V.ref b, V.ref p3, V.str (x0 ++ "x"), V.int (10 ^ (39 : Int).toNat)]) hp4
      have f4 := same_trans f3 f34
      have h1 := f34 _ _ h1
      have h2 := f34 _ _ h2
      have h3 := f34 _ _ h3
      have h4 : upd HC p4 (.lst [V.non, V.int 0, V.int 1, V.bl true, V.str "", V.str "A", V.str "zz", V.ref p1, V.ref p2, V.ref b, V.ref p3, V.str (x0 ++ "x"), V.int (10 ^ (39 : Int).toNat)]) p4 = some (.lst [V.non, V.int 0, V.int 1, V.bl true, V.str "", V.str "A", V.str "zz", V.ref p1, V.ref p2, V.ref b, V.ref p3, V.str (x0 ++ "x"), V.int (10 ^ (39 : Int).toNat)]) := upd_same
      clear f34
      generalize upd HC p4 (.lst [V.non, V.int 0, V.int 1, V.bl true, V.str "", V.str "A", V.str "zz", V.ref p1, V.ref p2, V.ref b, V.ref p3, V.str (x0 ++ "x"), V.int (10 ^ (39 : Int).toNat)]) = HD at f4 h1 h2 h3 h4 ⊢
      refine ⟨_, rfl, _, rfl, at_, rfl, slH_to (f4 _ _ hT7) fun b1 HE eE hb1 => ?_⟩
      obtain ⟨u1, eu1, su1, lu1⟩ := cut_texts (g := got) (lo := none) (hi := some at_)
      obtain ⟨u2, eu2, su2, lu2⟩ := cut_texts (g := got) (lo := some (at_ + 1)) (hi := none)
      rw [eu1] at hb1
      have f4E := same_trans f4 eE
      have D8 := D7.same f4E
      refine ⟨_, rfl, _, rfl, d, l, p4, _, n + 6, rfl, D8, eE _ _ h4, n4.2, by show 0 < 13; decide, by show 13 < 1000000; decide, by omega, fun w HF hw D9 o9 => ?_⟩
      have hT9 := tup_off (f4E _ _ hT7) D8 o9
      have hb9 := tup_off (f4E _ _ hb7) D8 o9
      have hb19 := tup_off hb1 D8 o9
      have o0F := (o07.trans (Off.of f4E)).trans o9
      have it : ∃ o D, ItK K HF w o ∧ Shw HF w D 1 600 := by
        have g1 := o9 _ _ (eE _ _ h1) n1.1 n1.2
        have g2 := o9 _ _ (eE _ _ h2) n2.1 n2.2
        have g3 := o9 _ _ (eE _ _ h3) n3.1 n3.2
        have up0 : ∀ {v : V} {D : PyData}, Shw HF v D 0 130 → Shw HF v D 1 600 := fun z => z.up (fun _ _ e => e) (by omega) (by omega)
        have lx : (x0 :: xr).length * 132 ≤ 396 := by omega
        simp only [List.mem_cons, List.not_mem_nil, or_false] at hw
        rcases hw with rfl | rfl | rfl | rfl | rfl | rfl | rfl | rfl | rfl | rfl | rfl | rfl | rfl
        · exact ⟨_, _, .non, up0 shw_non⟩
        · exact ⟨_, _, .int _, up0 (shw_int (by decide))⟩
        · exact ⟨_, _, .int _, up0 (shw_int (by decide))⟩
        · exact ⟨_, _, .bl _, up0 (shw_bl _)⟩
        · exact ⟨_, _, .str _, up0 (shw_tx ⟨by decide +kernel, by decide +kernel⟩)⟩
        · exact ⟨_, _, .str _, up0 (shw_tx ⟨by decide +kernel, by decide +kernel⟩)⟩
        · exact ⟨_, _, .str _, up0 (shw_tx ⟨by decide +kernel, by decide +kernel⟩)⟩
        · exact ⟨_, _, .lst (SqL.of g1), (Shws.lst g1 (shws_txs okx)).up (fun _ _ e => e) (by omega) (by omega)⟩
        · obtain ⟨D, z⟩ := shw_dict (g := got) okg g2 (fun _ z => nomatch z)
          exact ⟨_, D, .dct g2, z.up (fun _ _ e => e) (by omega) (by simp)⟩
        · exact ⟨_, _, .tup (SqT.of hb9), (Shws.tup hb9 (shws_txs okx)).up (fun _ _ e => e) (by omega) (by omega)⟩
        · exact ⟨_, _, .tup (SqT.of g3), (Shws.tup g3 (shws_txs (g := [x0]) fun x hx => by rw [List.mem_singleton.mp hx]; exact tx_name ok0)).up (fun _ _ e => e) (by omega) (by rw [List.length_singleton]; omega)⟩
        · exact ⟨_, _, .str _, up0 (shw_tx (tx_app ok0 (by decide +kernel) (by decide +kernel)))⟩
        · exact ⟨_, _, .int _, (shw_int2 (by decide +kernel)).up (fun _ _ e => e) (by omega) (by omega)⟩
      obtain ⟨o, Dw, itw, sw⟩ := it
      clear hw
      refine ⟨by show 1 ≤ sizeLine; decide, fun p5 hp5 => ?_⟩
      have e5 : Same HF (upd HF p5 (.tup [w])) := same_new hp5
      have h5 : upd HF p5 (.tup [w]) p5 = some (.tup [w]) := upd_same
      generalize upd HF p5 (.tup [w]) = HG at e5 h5 ⊢
      refine catH_to (e5 _ _ hb19) h5 (by rw [List.length_map]; show _ + 1 ≤ 1000; omega) fun c1 HI eI hc1 => ?_
      have e5I := same_trans e5 eI
      refine ⟨_, rfl, _, rfl, _, _, rfl, rfl, _, rfl, ?_⟩
      unfold tNoPart
      refine slH_to (e5I _ _ hT9) fun b2 HJ eJ hb2 => ?_
      rw [eu2] at hb2
      refine catH_to (eJ _ _ hc1) hb2 (by rw [List.length_append, List.length_map, List.length_map]; show _ + 1 + _ ≤ 1000; omega) fun c2 HK eK hc2 => ?_
      have eFK := same_trans e5I (same_trans eJ eK)
      refine q (.ref c2) (some ((u1.map some ++ [o]) ++ u2.map some)) (.tuple ((u1.map PyData.str ++ [Dw]) ++ u2.map PyData.str)) HK ((D9.same eFK).up (by omega)) (o0F.trans (Off.of eFK)) (.tup (SqT.of hc2) (each_app (each_app (its_texts u1) (.cons (itw.same eFK) .nil)) (its_texts u2)) ?_) (plg_tup hc2 (each_app (each_app (its_texts u1) (.cons (itw.same eFK) .nil)) (its_texts u2))) ?_
      · rw [List.length_append, List.length_append, List.length_map, List.length_map]
        show _ + 1 + _ ≤ 60
        omega
      · have s1 := (shws_txs (H := HK) (g := u1) fun x hx => okg x (su1 x hx)).up (fun _ _ e => e) (show 0 ≤ 1 by omega) (Nat.le_refl _)
        have s2 := (shws_txs (H := HK) (g := u2) fun x hx => okg x (su2 x hx)).up (fun _ _ e => e) (show 0 ≤ 1 by omega) (Nat.le_refl _)
        have s3 := Shws.cons (sw.up eFK (Nat.le_refl _) (Nat.le_refl _)) (Shws.nil (H := HK) (n := 1) (c := 0))
        exact (Shws.tup hc2 (Shws.app s2 (Shws.app s3 s1))).up (fun _ _ e => e) (by omega) (by omega)
    · -- [group[:at] + group[at + 1:], group + group[:1], (), group[:1], list(group), None, count, {}]
      have l8 : ∀ x ∈ got, x.length ≤ 8 := fun x hx => by
        have z := ok x (gin x hx)
        unfold nameOk at z
        rw [Bool.and_eq_true, decide_eq_true_eq] at z
        exact z.1
      have js := sum_le l8
      have jb : (got.map (·.length)).sum + got.length * ("" : Str).length ≤ 16777216 := by
        rw [show ("" : Str).length = 0 by decide +kernel]
        omega
      obtain ⟨u1, eu1, su1, lu1⟩ := cut_texts (g := got) (lo := none) (hi := some at_)
      obtain ⟨u2, eu2, su2, lu2⟩ := cut_texts (g := got) (lo := some (at_ + 1)) (hi := none)
      obtain ⟨u3, eu3, su3, lu3⟩ := cut_texts (g := got) (lo := none) (hi := some 1)
      obtain ⟨u4, eu4, su4, lu4⟩ := cut_texts (g := got) (lo := none) (hi := some 2)
      refine ⟨_, rfl, _, rfl, at_, rfl, slH_to (hT7) fun a1 Ha1 sHa1 va1 => ?_⟩
      have fHa1 := sHa1
      rw [eu1] at va1
      refine ⟨_, rfl, _, rfl, _, _, rfl, rfl, _, rfl, ?_⟩
      unfold tNoPart
      refine slH_to (fHa1 _ _ hT7) fun a2 Ha2 sHa2 va2 => ?_
      have fHa2 := same_trans fHa1 sHa2
      rw [eu2] at va2
      refine catH_to (sHa2 _ _ va1) va2 (by rw [List.length_map, List.length_map]; omega) fun q1 Hq1 sHq1 vq1 => ?_
      have fHq1 := same_trans fHa2 sHq1
      refine ⟨_, rfl, _, rfl, 1, rfl, slH_to (fHq1 _ _ hT7) fun a3 Ha3 sHa3 va3 => ?_⟩
      have fHa3 := same_trans fHq1 sHa3
      rw [eu3] at va3
      refine catH_to (fHa3 _ _ hT7) va3 (by rw [List.length_map, List.length_map]; omega) fun q2 Hq2 sHq2 vq2 => ?_
      have fHq2 := same_trans fHa3 sHq2
      refine ⟨by show 0 ≤ sizeLine; exact Nat.zero_le _, fun q3 hq3 => ?_⟩
      have sHq3 := same_new (o := .tup []) hq3
      have nq3 : q3 ≠ d ∧ q3 ≠ l := fresh fHq2 hq3
      have vq3 : upd Hq2 q3 (.tup []) q3 = some (.tup []) := upd_same
      generalize upd Hq2 q3 (.tup []) = Hq3 at sHq3 vq3 ⊢
      have fHq3 := same_trans fHq2 sHq3
      refine ⟨_, rfl, 1, rfl, slH_to (fHq3 _ _ hT7) fun q4 Hq4 sHq4 vq4 => ?_⟩
      have fHq4 := same_trans fHq3 sHq4
      rw [eu3] at vq4
      refine ⟨_, rfl, t, _, rfl, .inr (SqT.of (fHq4 _ _ hT7)), fun q5 hq5 => ?_⟩
      have sHq5 := same_new (o := .lst (got.map V.str)) hq5
      have nq5 : q5 ≠ d ∧ q5 ≠ l := fresh fHq4 hq5
      have vq5 : upd Hq4 q5 (.lst (got.map V.str)) q5 = some (.lst (got.map V.str)) := upd_same
      generalize upd Hq4 q5 (.lst (got.map V.str)) = Hq5 at sHq5 vq5 ⊢
      have fHq5 := same_trans fHq4 sHq5
      refine ⟨_, rfl, fun q6 hq6 => ?_⟩
      have sHq6 := same_new (o := .dK []) hq6
      have nq6 : q6 ≠ d ∧ q6 ≠ l := fresh fHq5 hq6
      have vq6 : upd Hq5 q6 (.dK []) q6 = some (.dK []) := upd_same
      generalize upd Hq5 q6 (.dK []) = Hq6 at sHq6 vq6 ⊢
      have fHq6 := same_trans fHq5 sHq6
      refine ⟨by show 8 ≤ sizeLine; decide, fun m1 hm1 => ?_⟩
      have sHm1 := same_new (o := .lst [V.ref q1, V.ref q2, V.ref q3, V.ref q4, V.ref q5, V.non, V.int (k : Nat), V.ref q6]) hm1
      have nm1 : m1 ≠ d ∧ m1 ≠ l := fresh fHq6 hm1
      have vm1 : upd Hq6 m1 (.lst [V.ref q1, V.ref q2, V.ref q3, V.ref q4, V.ref q5, V.non, V.int (k : Nat), V.ref q6]) m1 = some (.lst [V.ref q1, V.ref q2, V.ref q3, V.ref q4, V.ref q5, V.non, V.int (k : Nat), V.ref q6]) := upd_same
      generalize upd Hq6 m1 (.lst [V.ref q1, V.ref q2, V.ref q3, V.ref q4, V.ref q5, V.non, V.int (k : Nat), V.ref q6]) = Hm1 at sHm1 vm1 ⊢
      have fHm1 := same_trans fHq6 sHm1
      -- + [base[0] * count, group[:2] + ('q', 'r', None), (group,), (None,) * count, True]
      have lx0 : x0.length ≤ 12 := (tx_name ok0).1
      refine ⟨_, rfl, _, rfl, b, _, 0, _, rfl, rfl, SqT.of (fHm1 _ _ hb7), at0, _, rfl, x0, _, rfl, rfl, by omega, by omega, by omega, ?_⟩
      refine ⟨_, rfl, 2, rfl, slH_to (fHm1 _ _ hT7) fun a5 Ha5 sHa5 va5 => ?_⟩
      have fHa5 := same_trans fHm1 sHa5
      rw [eu4] at va5
      refine ⟨by show 3 ≤ sizeLine; decide, fun a6 ha6 => ?_⟩
      have sHa6 := same_new (o := .tup [V.str "q", V.str "r", V.non]) ha6
      have na6 : a6 ≠ d ∧ a6 ≠ l := fresh fHa5 ha6
      have va6 : upd Ha5 a6 (.tup [V.str "q", V.str "r", V.non]) a6 = some (.tup [V.str "q", V.str "r", V.non]) := upd_same
      generalize upd Ha5 a6 (.tup [V.str "q", V.str "r", V.non]) = Ha6 at sHa6 va6 ⊢
      have fHa6 := same_trans fHa5 sHa6
      refine catH_to (sHa6 _ _ va5) va6 (by rw [List.length_map]; show _ + 3 ≤ 1000; omega) fun q7 Hq7 sHq7 vq7 => ?_
      have fHq7 := same_trans fHa6 sHq7
      refine ⟨_, rfl, by show 1 ≤ sizeLine; decide, fun q8 hq8 => ?_⟩
      have sHq8 := same_new (o := .tup [V.ref t]) hq8
      have nq8 : q8 ≠ d ∧ q8 ≠ l := fresh fHq7 hq8
      have vq8 : upd Hq7 q8 (.tup [V.ref t]) q8 = some (.tup [V.ref t]) := upd_same
      generalize upd Hq7 q8 (.tup [V.ref t]) = Hq8 at sHq8 vq8 ⊢
      have fHq8 := same_trans fHq7 sHq8
      refine ⟨by show 1 ≤ sizeLine; decide, fun a7 ha7 => ?_⟩
      have sHa7 := same_new (o := .tup [V.non]) ha7
      have na7 : a7 ≠ d ∧ a7 ≠ l := fresh fHq8 ha7
      have va7 : upd Hq8 a7 (.tup [V.non]) a7 = some (.tup [V.non]) := upd_same
      generalize upd Hq8 a7 (.tup [V.non]) = Ha7 at sHa7 va7 ⊢
      have fHa7 := same_trans fHq8 sHa7
      refine ⟨_, rfl, a7, _, _, rfl, rfl, SqT.of va7, by simp, by omega, by omega, by decide, fun q9 hq9 => ?_⟩
      have sHq9 := same_new (o := .tup (List.replicate ((k : Nat) : Int).toNat [V.non]).flatten) hq9
      have nq9 : q9 ≠ d ∧ q9 ≠ l := fresh fHa7 hq9
      have vq9 : upd Ha7 q9 (.tup (List.replicate ((k : Nat) : Int).toNat [V.non]).flatten) q9 = some (.tup (List.replicate ((k : Nat) : Int).toNat [V.non]).flatten) := upd_same
      generalize upd Ha7 q9 (.tup (List.replicate ((k : Nat) : Int).toNat [V.non]).flatten) = Hq9 at sHq9 vq9 ⊢
      have fHq9 := same_trans fHa7 sHq9
      have rx : x0.length ≤ 8 := by
        unfold nameOk at ok0
        rw [Bool.and_eq_true, decide_eq_true_eq] at ok0
        exact ok0.1
      refine ⟨by show 5 ≤ sizeLine; decide, fun m2 hm2 => ?_⟩
      have sHm2 := same_new (o := .lst [V.str (KMs.repS x0 ((k : Nat) : Int).toNat), V.ref q7, V.ref q8, V.ref q9, V.bl true]) hm2
      have nm2 : m2 ≠ d ∧ m2 ≠ l := fresh fHq9 hm2
      have vm2 : upd Hq9 m2 (.lst [V.str (KMs.repS x0 ((k : Nat) : Int).toNat), V.ref q7, V.ref q8, V.ref q9, V.bl true]) m2 = some (.lst [V.str (KMs.repS x0 ((k : Nat) : Int).toNat), V.ref q7, V.ref q8, V.ref q9, V.bl true]) := upd_same
      generalize upd Hq9 m2 (.lst [V.str (KMs.repS x0 ((k : Nat) : Int).toNat), V.ref q7, V.ref q8, V.ref q9, V.bl true]) = Hm2 at sHm2 vm2 ⊢
      have fHm2 := same_trans fHq9 sHm2
      refine ⟨m1, m2, _, _, rfl, rfl, ((same_trans sHa5 (same_trans sHa6 (same_trans sHq7 (same_trans sHq8 (same_trans sHa7 (same_trans sHq9 sHm2)))))) _ _ vm1), vm2, by show 8 + 5 ≤ sizeLine; decide, fun m3 hm3 => ?_⟩
      have sHm3 := same_new (o := .lst ([V.ref q1, V.ref q2, V.ref q3, V.ref q4, V.ref q5, V.non, V.int (k : Nat), V.ref q6] ++ [V.str (KMs.repS x0 ((k : Nat) : Int).toNat), V.ref q7, V.ref q8, V.ref q9, V.bl true])) hm3
      have nm3 : m3 ≠ d ∧ m3 ≠ l := fresh fHm2 hm3
      have vm3 : upd Hm2 m3 (.lst ([V.ref q1, V.ref q2, V.ref q3, V.ref q4, V.ref q5, V.non, V.int (k : Nat), V.ref q6] ++ [V.str (KMs.repS x0 ((k : Nat) : Int).toNat), V.ref q7, V.ref q8, V.ref q9, V.bl true])) m3 = some (.lst ([V.ref q1, V.ref q2, V.ref q3, V.ref q4, V.ref q5, V.non, V.int (k : Nat), V.ref q6] ++ [V.str (KMs.repS x0 ((k : Nat) : Int).toNat), V.ref q7, V.ref q8, V.ref q9, V.bl true])) := upd_same
      generalize upd Hm2 m3 (.lst ([V.ref q1, V.ref q2, V.ref q3, V.ref q4, V.ref q5, V.non, V.int (k : Nat), V.ref q6] ++ [V.str (KMs.repS x0 ((k : Nat) : Int).toNat), V.ref q7, V.ref q8, V.ref q9, V.bl true])) = Hm3 at sHm3 vm3 ⊢
      have fHm3 := same_trans fHm2 sHm3
      -- pick(deck, menu + [('zz',) * (count + 1), ''.join(group), group])
      refine ⟨_, rfl, _, rfl, by show 1 ≤ sizeLine; decide, fun a8 ha8 => ?_⟩
      have sHa8 := same_new (o := .tup [V.str "zz"]) ha8
      have na8 : a8 ≠ d ∧ a8 ≠ l := fresh fHm3 ha8
      have va8 : upd Hm3 a8 (.tup [V.str "zz"]) a8 = some (.tup [V.str "zz"]) := upd_same
      generalize upd Hm3 a8 (.tup [V.str "zz"]) = Ha8 at sHa8 va8 ⊢
      have fHa8 := same_trans fHm3 sHa8
      refine ⟨_, rfl, _, _, rfl, rfl, a8, _, _, rfl, rfl, SqT.of va8, by simp, by omega, by omega, by decide, fun q10 hq10 => ?_⟩
      have sHq10 := same_new (o := .tup (List.replicate (((k : Nat) : Int) + 1).toNat [V.str "zz"]).flatten) hq10
      have nq10 : q10 ≠ d ∧ q10 ≠ l := fresh fHa8 hq10
      have vq10 : upd Ha8 q10 (.tup (List.replicate (((k : Nat) : Int) + 1).toNat [V.str "zz"]).flatten) q10 = some (.tup (List.replicate (((k : Nat) : Int) + 1).toNat [V.str "zz"]).flatten) := upd_same
      generalize upd Ha8 q10 (.tup (List.replicate (((k : Nat) : Int) + 1).toNat [V.str "zz"]).flatten) = Hq10 at sHq10 vq10 ⊢
      have fHq10 := same_trans fHa8 sHq10
      refine ⟨⟨_, rfl⟩, _, rfl, _, t, got, rfl, rfl, .inr (SqT.of (fHq10 _ _ hT7)), jb, _, rfl, by show 3 ≤ sizeLine; decide, fun m4 hm4 => ?_⟩
      have sHm4 := same_new (o := .lst [V.ref q10, V.str (Txt.join "" got), V.ref t]) hm4
      have nm4 : m4 ≠ d ∧ m4 ≠ l := fresh fHq10 hm4
      have vm4 : upd Hq10 m4 (.lst [V.ref q10, V.str (Txt.join "" got), V.ref t]) m4 = some (.lst [V.ref q10, V.str (Txt.join "" got), V.ref t]) := upd_same
      generalize upd Hq10 m4 (.lst [V.ref q10, V.str (Txt.join "" got), V.ref t]) = Hm4 at sHm4 vm4 ⊢
      have fHm4 := same_trans fHq10 sHm4
      refine ⟨m3, m4, _, _, rfl, rfl, ((same_trans sHa8 (same_trans sHq10 sHm4)) _ _ vm3), vm4, by show 13 + 3 ≤ sizeLine; decide, fun m5 hm5 => ?_⟩
      have sHm5 := same_new (o := .lst (([V.ref q1, V.ref q2, V.ref q3, V.ref q4, V.ref q5, V.non, V.int (k : Nat), V.ref q6] ++ [V.str (KMs.repS x0 ((k : Nat) : Int).toNat), V.ref q7, V.ref q8, V.ref q9, V.bl true]) ++ [V.ref q10, V.str (Txt.join "" got), V.ref t])) hm5
      have nm5 : m5 ≠ d ∧ m5 ≠ l := fresh fHm4 hm5
      have vm5 : upd Hm4 m5 (.lst (([V.ref q1, V.ref q2, V.ref q3, V.ref q4, V.ref q5, V.non, V.int (k : Nat), V.ref q6] ++ [V.str (KMs.repS x0 ((k : Nat) : Int).toNat), V.ref q7, V.ref q8, V.ref q9, V.bl true]) ++ [V.ref q10, V.str (Txt.join "" got), V.ref t])) m5 = some (.lst (([V.ref q1, V.ref q2, V.ref q3, V.ref q4, V.ref q5, V.non, V.int (k : Nat), V.ref q6] ++ [V.str (KMs.repS x0 ((k : Nat) : Int).toNat), V.ref q7, V.ref q8, V.ref q9, V.bl true]) ++ [V.ref q10, V.str (Txt.join "" got), V.ref t])) := upd_same
      generalize upd Hm4 m5 (.lst (([V.ref q1, V.ref q2, V.ref q3, V.ref q4, V.ref q5, V.non, V.int (k : Nat), V.ref q6] ++ [V.str (KMs.repS x0 ((k : Nat) : Int).toNat), V.ref q7, V.ref q8, V.ref q9, V.bl true]) ++ [V.ref q10, V.str (Txt.join "" got), V.ref t])) = Hm5 at sHm5 vm5 ⊢
      have fHm5 := same_trans fHm4 sHm5
      have D8 := D7.same fHm5
      refine ⟨d, l, m5, _, n + 6, rfl, D8, vm5, nm5.2, by show 0 < 16; decide, by show 16 < 1000000; decide, by omega, fun wv HH hw D9 o9 => ?_⟩
      have o0H := (o07.trans (Off.of fHm5)).trans o9
      have hT9 := tup_off (fHm5 _ _ hT7) D8 o9
      have gq1 := tup_off ((same_trans sHa3 (same_trans sHq2 (same_trans sHq3 (same_trans sHq4 (same_trans sHq5 (same_trans sHq6 (same_trans sHm1 (same_trans sHa5 (same_trans sHa6 (same_trans sHq7 (same_trans sHq8 (same_trans sHa7 (same_trans sHq9 (same_trans sHm2 (same_trans sHm3 (same_trans sHa8 (same_trans sHq10 (same_trans sHm4 sHm5)))))))))))))))))) _ _ vq1) D8 o9
      have gq2 := tup_off ((same_trans sHq3 (same_trans sHq4 (same_trans sHq5 (same_trans sHq6 (same_trans sHm1 (same_trans sHa5 (same_trans sHa6 (same_trans sHq7 (same_trans sHq8 (same_trans sHa7 (same_trans sHq9 (same_trans sHm2 (same_trans sHm3 (same_trans sHa8 (same_trans sHq10 (same_trans sHm4 sHm5)))))))))))))))) _ _ vq2) D8 o9
      have gq3 := tup_off ((same_trans sHq4 (same_trans sHq5 (same_trans sHq6 (same_trans sHm1 (same_trans sHa5 (same_trans sHa6 (same_trans sHq7 (same_trans sHq8 (same_trans sHa7 (same_trans sHq9 (same_trans sHm2 (same_trans sHm3 (same_trans sHa8 (same_trans sHq10 (same_trans sHm4 sHm5))))))))))))))) _ _ vq3) D8 o9
      have gq4 := tup_off ((same_trans sHq5 (same_trans sHq6 (same_trans sHm1 (same_trans sHa5 (same_trans sHa6 (same_trans sHq7 (same_trans sHq8 (same_trans sHa7 (same_trans sHq9 (same_trans sHm2 (same_trans sHm3 (same_trans sHa8 (same_trans sHq10 (same_trans sHm4 sHm5)))))))))))))) _ _ vq4) D8 o9
      have gq7 := tup_off ((same_trans sHq8 (same_trans sHa7 (same_trans sHq9 (same_trans sHm2 (same_trans sHm3 (same_trans sHa8 (same_trans sHq10 (same_trans sHm4 sHm5)))))))) _ _ vq7) D8 o9
      have gq8 := tup_off ((same_trans sHa7 (same_trans sHq9 (same_trans sHm2 (same_trans sHm3 (same_trans sHa8 (same_trans sHq10 (same_trans sHm4 sHm5))))))) _ _ vq8) D8 o9
      have gq9 := tup_off ((same_trans sHm2 (same_trans sHm3 (same_trans sHa8 (same_trans sHq10 (same_trans sHm4 sHm5))))) _ _ vq9) D8 o9
      have gq10 := tup_off ((same_trans sHm4 sHm5) _ _ vq10) D8 o9
      have gq5 := o9 _ _ ((same_trans sHq6 (same_trans sHm1 (same_trans sHa5 (same_trans sHa6 (same_trans sHq7 (same_trans sHq8 (same_trans sHa7 (same_trans sHq9 (same_trans sHm2 (same_trans sHm3 (same_trans sHa8 (same_trans sHq10 (same_trans sHm4 sHm5))))))))))))) _ _ vq5) nq5.1 nq5.2
      have gq6 := o9 _ _ ((same_trans sHm1 (same_trans sHa5 (same_trans sHa6 (same_trans sHq7 (same_trans sHq8 (same_trans sHa7 (same_trans sHq9 (same_trans sHm2 (same_trans sHm3 (same_trans sHa8 (same_trans sHq10 (same_trans sHm4 sHm5)))))))))))) _ _ vq6) nq6.1 nq6.2
      have tg : Shw HH (.ref t) _ 1 _ := Shws.tup hT9 (shws_txs okg)
      have fin : ∀ {v : V} {g : Option (List (Option Str))} {D : PyData} {n1 c1 : Nat}, GrK K HH v g → PlG HH v g → Shw HH v D n1 c1 → n1 ≤ 3 → c1 ≤ 10000 → Q v HH := fun {v g D n1 c1} h1 h2 h3 h4 h5 => q v g D HH (D9.up (by omega)) o0H h1 h2 (h3.up (fun _ _ e => e) h4 h5)
      have txs : ∀ u : List Str, (∀ x ∈ u, x ∈ got) → Shws HH (u.map V.str) (u.map PyData.str) 0 (u.length * 132) := fun u hu => shws_txs fun x hx => okg x (hu x hx)
      have tupF : ∀ {a : Addr} {vs : List V} {os : List (Option Str)} {ds : List PyData} {n1 c1 : Nat}, HH a = some (.tup vs) → W.EachIs (ItK K HH) vs os → vs.length ≤ 60 → Shws HH vs ds n1 c1 → n1 ≤ 2 → c1 ≤ 9000 → Q (.ref a) HH := fun {a vs os ds n1 c1} h1 h2 h3 h4 h5 h6 => fin (.tup (SqT.of h1) h2 h3) (plg_tup h1 h2) (Shws.tup h1 h4) (by omega) (by omega)
      have two : W.EachIs (ItK K HH) [V.str "q", V.str "r", V.non] [some "q", some "r", none] := .cons (.str _) (.cons (.str _) (.cons .non .nil))
      have stwo : Shws HH [V.str "q", V.str "r", V.non] _ 0 _ := Shws.cons (shw_tx ⟨by decide +kernel, by decide +kernel⟩) (Shws.cons (shw_tx ⟨by decide +kernel, by decide +kernel⟩) (Shws.cons shw_non (Shws.nil (c := 0))))
      have sz : Shw HH (.str "zz") _ 0 130 := shw_tx ⟨by decide +kernel, by decide +kernel⟩
      have izz : ItK K HH (.str "zz") (some "zz") := .str _
      have inn : ItK K HH .non none := .non
      have snn : Shw HH .non _ 0 130 := shw_non
      simp only [List.cons_append, List.nil_append, List.mem_cons, List.not_mem_nil, or_false] at hw
      rcases hw with rfl | rfl | rfl | rfl | rfl | rfl | rfl | rfl | rfl | rfl | rfl | rfl | rfl | rfl | rfl | rfl
      · exact tupF gq1 (each_app (its_texts u1) (its_texts u2)) (by rw [List.length_append, List.length_map, List.length_map]; omega) (Shws.app (txs u2 su2) (txs u1 su1)) (by omega) (by omega)
      · exact tupF gq2 (each_app (its_texts got) (its_texts u3)) (by rw [List.length_append, List.length_map, List.length_map]; omega) (Shws.app (txs u3 su3) (txs got fun _ z => z)) (by omega) (by omega)
      · exact tupF gq3 .nil (by show 0 ≤ 60; omega) (Shws.nil (n := 0) (c := 0)) (by omega) (by omega)
      · exact tupF gq4 (its_texts u3) (by rw [List.length_map]; omega) (txs u3 su3) (by omega) (by omega)
      · exact fin (.lst gq5) plg_none (Shws.lst gq5 (shws_txs okg)) (by omega) (by omega)
      · exact fin .non plg_none shw_non (by omega) (by omega)
      · exact fin (.int _) plg_none (shw_int (i := ((k : Nat) : Int)) (by rcases hk with rfl | rfl <;> decide)) (by omega) (by omega)
      · obtain ⟨D, z⟩ := shw_dict (g := got) okg gq6 (fun _ z => nomatch z)
        exact fin (.dct gq6) plg_none z (by omega) (by simp)
      · refine fin (.str _) plg_none (shw_long ?_ fun c hc => (tx_name ok0).2 c (KMs.repS_codes c hc)) (by omega) (by omega)
        have z := KMs.repS_len (i := x0) (k := ((k : Nat) : Int).toNat) (by omega)
        have y : ((k : Nat) : Int).toNat * x0.length ≤ 4 * 8 := Nat.mul_le_mul (by omega) rx
        omega
      · exact tupF gq7 (each_app (its_texts u4) two) (by rw [List.length_append, List.length_map]; show _ + 3 ≤ 60; omega) (Shws.app stwo (txs u4 su4)) (by omega) (by omega)
      · exact tupF gq8 (.cons (.tup (SqT.of hT9)) .nil) (by show 1 ≤ 60; omega) (Shws.cons tg (Shws.nil (c := 0))) (by omega) (by omega)
      · rcases hk with rfl | rfl
        · exact tupF (vs := [V.non, V.non, V.non]) gq9 (.cons inn (.cons inn (.cons inn .nil))) (by show 3 ≤ 60; omega) (Shws.cons snn (Shws.cons snn (Shws.cons snn (Shws.nil (c := 0))))) (by omega) (by omega)
        · exact tupF (vs := [V.non, V.non, V.non, V.non]) gq9 (.cons inn (.cons inn (.cons inn (.cons inn .nil)))) (by show 4 ≤ 60; omega) (Shws.cons snn (Shws.cons snn (Shws.cons snn (Shws.cons snn (Shws.nil (c := 0)))))) (by omega) (by omega)
      · exact fin (.bl _) plg_none (shw_bl _) (by omega) (by omega)
      · rcases hk with rfl | rfl
        · exact tupF (vs := [V.str "zz", V.str "zz", V.str "zz", V.str "zz"]) gq10 (.cons izz (.cons izz (.cons izz (.cons izz .nil)))) (by show 4 ≤ 60; omega) (Shws.cons sz (Shws.cons sz (Shws.cons sz (Shws.cons sz (Shws.nil (c := 0)))))) (by omega) (by omega)
        · exact tupF (vs := [V.str "zz", V.str "zz", V.str "zz", V.str "zz", V.str "zz"]) gq10 (.cons izz (.cons izz (.cons izz (.cons izz (.cons izz .nil))))) (by show 5 ≤ 60; omega) (Shws.cons sz (Shws.cons sz (Shws.cons sz (Shws.cons sz (Shws.cons sz (Shws.nil (c := 0))))))) (by omega) (by omega)
      · refine fin (.str _) plg_none (shw_long ?_ fun c hc => ?_) (by omega) (by omega)
        · have z := join_len got
          omega
        · obtain ⟨x, hx, hc2⟩ := join_codes got c hc
          exact (okg x hx).2 c hc2
      · exact fin (.tup (SqT.of hT9) (its_texts got) (by rw [List.length_map]; omega)) (plg_tup (K := K) hT9 (its_texts got)) tg (by omega) (by omega)
end
end K01
/-! _law_voted. -/
namespace K01
open PySem PySem.Spec PyProof.Rows L2 KG KS KA KX KIa KFz
abbrev s__law_voted : Stmt := top 28
theorem rvv_to {K : PySem.W.Frag} {C N o : Addr} {xs rs : List Str} {k n : Nat} {ls : List Addr} {rows : List (List Str)} {H1 : Hp} {Q : VK} {E : XK} (hO : VtAt C H1 o xs k rs) (G : VGood xs k rs) (hL : LsAt H1 ls rows) (l5 : ls.length ≤ 5) (hw : ∀ r ∈ rows, r.length = n ∧ ∀ x ∈ r, x ∈ xs) (n60 : n ≤ 60)
    (qv : ∀ q H', ls.length = k → Same H1 H' → H' q = some (.tup ((voteS xs k rs n rows).map V.str)) → (∀ x ∈ voteS xs k rs n rows, x ∈ rs) → Q (.ref q) H') (qe : ∀ d H', ls.length ≠ k → Same H1 H' → H' d = some (.xd [(("word" : Str), V.str "count")]) → E (.ref N) (some d) H') :
    spRVV K C N (V.ref o :: ls.map V.ref) H1 Q E :=
  ⟨[V.ref o], ls.map V.ref, rfl, rfl, by rw [List.length_map, sizeLine_eq]; omega, fun p hp => ⟨o, p, ls, xs, rs, k, n, rows, rfl, upd_same, hO.up (same_new hp), G, hL.up (same_new hp), by omega, hw, n60, fun q H' l e h1 h2 => qv q H' l (same_trans (same_new hp) e) h1 h2, fun d H' l e _ h => qe d H' l (same_trans (same_new hp) e) h⟩⟩
/-- what is told of a vote of rows -/
def Told (H' : Hp) (p : Addr) (k : Nat) (xs rs : List Str) (n m : Nat) (rows : List (List Str)) : Prop :=
  (m = k → ∃ q, H' p = some (.tup [V.str "told", V.ref q]) ∧ H' q = some (.tup ((voteS xs k rs n rows).map V.str)) ∧ ∀ x ∈ voteS xs k rs n rows, x ∈ rs) ∧ (m ≠ k → H' p = some (.tup [V.str "no vote", V.str "count"]))
def spVoted (C : Addr) : Sp := fun vs H Q _ => ∃ (o L : Addr) (ls : List Addr) (xs rs : List Str) (k n : Nat) (rows : List (List Str)), vs = [.ref o, .ref L] ∧ VtAt C H o xs k rs ∧ VGood xs k rs ∧ H L = some (.lst (ls.map V.ref)) ∧ LsAt H ls rows ∧ ls.length ≤ 5 ∧ (∀ r ∈ rows, r.length = n ∧ ∀ x ∈ r, x ∈ xs) ∧ n ≤ 60 ∧
  ∀ (p : Addr) (H' : Hp), Same H H' → Told H' p k xs rs n ls.length rows → Q (.ref p) H'
abbrev tLenIs (K : PySem.W.Frag) (n : Int) : TT := tTest (tOp rEq (tCB (fun xs H Q => ∃ x n, xs = [x] ∧ LenV K x H n ∧ Q (V.int ↑n) H) (tCons (tVar 1) tNil)) (tC (V.int n)))
abbrev tRow (K : PySem.W.Frag) (j : Int) : TE := tOp (rIxL K) (tVar 1) (tC (.int j))
abbrev tRV (K : PySem.W.Frag) (C N : Addr) (W : WX) (t : TA) : TE := KMs.tMethRS C "rows_voted" (spRVV K C N) (WE W) (tVar 0) t
abbrev tTold (t : TE) : TS := tAsg (tTup (tCons (tC (.str "told")) (tCons t tNil))) (gName 2)
def bodyV (K : PySem.W.Frag) (C N : Addr) (W : WX) : TS :=
  tIfS (tLenIs K 3) (tTold (tRV K C N W (tCons (tRow K 0) (tCons (tRow K 1) (tCons (tRow K 2) tNil)))))
    (tIfS (tLenIs K 4) (tTold (tRV K C N W (tCons (tRow K 0) (tCons (tRow K 1) (tCons (tRow K 2) (tCons (tRow K 3) tNil))))))
      (tIfS (tLenIs K 5) (tTold (tRV K C N W (tCons (tRow K 0) (tCons (tRow K 1) (tCons (tRow K 2) (tCons (tRow K 3) (tCons (tRow K 4) tNil)))))))
        (tIfS (tLenIs K 2) (tTold (tRV K C N W (tCons (tRow K 0) (tCons (tRow K 1) tNil))))
          (tTold (tIf (tLenIs K 1) (tRV K C N W (tCons (tRow K 0) tNil)) (tRV K C N W tNil))))))
section
variable {P : Program} {w : World} {K : PySem.W.Frag} {mg : Str → Option Value} {base : Heap}
theorem sc__law_voted : FnScope ["_law_vote", "_law_rows", "_law_told", "e"] ["_law_vote", "_law_rows"] (defScope s__law_voted) := ⟨rfl, rfl, rfl, by decide +kernel, rfl, by decide +kernel, by decide +kernel⟩
theorem ok__law_voted (B : Bz mg) {fI : Addr} (C : VtC K mg fI) (N : ErC K mg) (XF : XfC K N.C) (fv : MtF K "rows_voted" "Vote.rows_voted" s_vtRows) (hm : Meth K C.C "rows_voted" fv.a)
    (f : FnF K mg "_law_voted" "_law_voted" s__law_voted) : FnOk P w K mg base CX0 4 f.a f.d ["_law_vote", "_law_rows"] (spVoted C.C) := by
  have G := ok_vtRows (P := P) (w := w) (base := base) B C N fv
  refine f.F.ok sc__law_voted (fun vs H Q E h => ?_) (fun cdv A outer s H vs Q E hr h => ?_)
  · obtain ⟨o, L, ls, xs, rs, k, n, rows, rfl, _⟩ := h
    rfl
  · obtain ⟨o, L, ls, xs, rs, k, n, rows, rfl, hO, Gd, hL, hls, l5, hw, n60, q⟩ := h
    refine ⟨_, (pss_cons
      (ps_set (i := 2) sc__law_voted.nd rfl (Or.inl rfl) (pe_tup (pa_cons pe_str pa_nil)))
    (pss_cons
      (KTr.ps_tryFst (i := 3) (c := .ref N.C) (tb := bodyV K C.C N.C)
        (ts := fun a cls d => tAsg (tTup (tCons (tC (.str "no vote")) (tCons (tXf a cls d N.C "word" (tVar 3)) tNil))) (gName 2)) rfl rfl sc__law_voted.nd rfl rfl ⟨rfl, by decide, Or.inl N.g⟩
        (fun W pn xe tk _ => by
          unfold bodyV
          exact (pss_one (ps_if (pt_cmpR op_eq (pe_callB (show CallR _ (.builtin "len") (fun xs H Q => ∃ x n, xs = [x] ∧ LenV K x H n ∧ Q (V.int ↑n) H) from call_len) (by rfl) B.n_len (by decide +kernel) (pa_cons (pv 1) pa_nil)) pe_int (nomark _))
            (pss_one (ps_set (i := 2) sc__law_voted.nd rfl (Or.inl rfl) (pe_tup (pa_cons pe_str (pa_cons (KMs.pe_methRS (pv 0) C.cl hm G hr (fun σ => passAt tk σ) (pa_cons (pe_ix (show IxR _ (rIxL K) from ix_list) (pv 1) pe_int (fun _ _ => rfl)) (pa_cons (pe_ix (show IxR _ (rIxL K) from ix_list) (pv 1) pe_int (fun _ _ => rfl)) (pa_cons (pe_ix (show IxR _ (rIxL K) from ix_list) (pv 1) pe_int (fun _ _ => rfl)) pa_nil)))) pa_nil)))))
            (pss_one (ps_if (pt_cmpR op_eq (pe_callB (show CallR _ (.builtin "len") (fun xs H Q => ∃ x n, xs = [x] ∧ LenV K x H n ∧ Q (V.int ↑n) H) from call_len) (by rfl) B.n_len (by decide +kernel) (pa_cons (pv 1) pa_nil)) pe_int (nomark _))
            (pss_one (ps_set (i := 2) sc__law_voted.nd rfl (Or.inl rfl) (pe_tup (pa_cons pe_str (pa_cons (KMs.pe_methRS (pv 0) C.cl hm G hr (fun σ => passAt tk σ) (pa_cons (pe_ix (show IxR _ (rIxL K) from ix_list) (pv 1) pe_int (fun _ _ => rfl)) (pa_cons (pe_ix (show IxR _ (rIxL K) from ix_list) (pv 1) pe_int (fun _ _ => rfl)) (pa_cons (pe_ix (show IxR _ (rIxL K) from ix_list) (pv 1) pe_int (fun _ _ => rfl)) (pa_cons (pe_ix (show IxR _ (rIxL K) from ix_list) (pv 1) pe_int (fun _ _ => rfl)) pa_nil))))) pa_nil)))))
            (pss_one (ps_if (pt_cmpR op_eq (pe_callB (show CallR _ (.builtin "len") (fun xs H Q => ∃ x n, xs = [x] ∧ LenV K x H n ∧ Q (V.int ↑n) H) from call_len) (by rfl) B.n_len (by decide +kernel) (pa_cons (pv 1) pa_nil)) pe_int (nomark _))
            (pss_one (ps_set (i := 2) sc__law_voted.nd rfl (Or.inl rfl) (pe_tup (pa_cons pe_str (pa_cons (KMs.pe_methRS (pv 0) C.cl hm G hr (fun σ => passAt tk σ) (pa_cons (pe_ix (show IxR _ (rIxL K) from ix_list) (pv 1) pe_int (fun _ _ => rfl)) (pa_cons (pe_ix (show IxR _ (rIxL K) from ix_list) (pv 1) pe_int (fun _ _ => rfl)) (pa_cons (pe_ix (show IxR _ (rIxL K) from ix_list) (pv 1) pe_int (fun _ _ => rfl)) (pa_cons (pe_ix (show IxR _ (rIxL K) from ix_list) (pv 1) pe_int (fun _ _ => rfl)) (pa_cons (pe_ix (show IxR _ (rIxL K) from ix_list) (pv 1) pe_int (fun _ _ => rfl)) pa_nil)))))) pa_nil)))))
            (pss_one (ps_if (pt_cmpR op_eq (pe_callB (show CallR _ (.builtin "len") (fun xs H Q => ∃ x n, xs = [x] ∧ LenV K x H n ∧ Q (V.int ↑n) H) from call_len) (by rfl) B.n_len (by decide +kernel) (pa_cons (pv 1) pa_nil)) pe_int (nomark _))
            (pss_one (ps_set (i := 2) sc__law_voted.nd rfl (Or.inl rfl) (pe_tup (pa_cons pe_str (pa_cons (KMs.pe_methRS (pv 0) C.cl hm G hr (fun σ => passAt tk σ) (pa_cons (pe_ix (show IxR _ (rIxL K) from ix_list) (pv 1) pe_int (fun _ _ => rfl)) (pa_cons (pe_ix (show IxR _ (rIxL K) from ix_list) (pv 1) pe_int (fun _ _ => rfl)) pa_nil))) pa_nil)))))
            (pss_one (ps_set (i := 2) sc__law_voted.nd rfl (Or.inl rfl) (pe_tup (pa_cons pe_str (pa_cons (pe_ifExp (pt_cmpR op_eq (pe_callB (show CallR _ (.builtin "len") (fun xs H Q => ∃ x n, xs = [x] ∧ LenV K x H n ∧ Q (V.int ↑n) H) from call_len) (by rfl) B.n_len (by decide +kernel) (pa_cons (pv 1) pa_nil)) pe_int (nomark _)) (KMs.pe_methRS (pv 0) C.cl hm G hr (fun σ => passAt tk σ) (pa_cons (pe_ix (show IxR _ (rIxL K) from ix_list) (pv 1) pe_int (fun _ _ => rfl)) pa_nil)) (KMs.pe_methRS0 (pv 0) C.cl hm G hr (fun σ => passAt tk σ))) pa_nil))))))))))))))
        (fun a oe cls d pn hz hf => pss_one (ps_set (i := 2) sc__law_voted.nd rfl (Or.inl rfl) (by exact (pe_tup (pa_cons pe_str (pa_cons (pe_xf XF N.nf hz hf (pv 3)) pa_nil)))))))
    (pss_one
      (ps_ret (pv 2))))), ?_⟩
    refine ⟨by show 1 ≤ sizeLine; decide, fun t0 ht0 => ?_⟩
    have e0 : Same H (upd H t0 (.tup [V.str "odd"])) := same_new ht0
    generalize upd H t0 (.tup [V.str "odd"]) = H0 at e0 ⊢
    obtain ⟨dx, d, r, t, ho, hin⟩ := id hO
    have ho0 := e0 _ _ ho
    have hO0 := hO.up e0
    have hL0 := e0 _ _ hL
    have hls0 := hls.up e0
    unfold bodyV
    have cI : ∀ {m : Int}, decide (V.int (ls.length : Nat) = V.int m) = true → (ls.length : Int) = m := fun c => by
      have z := of_decide_eq_true c
      injection z
    have cO : ∀ {m : Int}, ¬ decide (V.int (ls.length : Nat) = V.int m) = true → (ls.length : Int) ≠ m := fun c z => c (decide_eq_true (by rw [z]))
    refine ⟨_, rfl, .ref L, ls.length, rfl, .inl ⟨_, SqL.of hL0, by rw [List.length_map]⟩, rfl, _, rfl, ite2 (fun c => ?_) fun c3 => ?_⟩
    · have c : ls.length = 3 := by have z := cI c; omega
      clear cI cO
      have hlen : ls.length = 3 := c
      obtain ⟨a0, a1, a2, rfl⟩ : ∃ a0 a1 a2 : Addr, ls = [a0, a1, a2] := match ls, hlen with | [a0, a1, a2], _ => ⟨a0, a1, a2, rfl⟩
      refine ⟨_, rfl, o, dx, _, rfl, ho0, rfl, _, rfl, L, _, 0, _, rfl, rfl, SqL.of hL0, at_of (j := 0) rfl rfl, _, rfl, L, _, 1, _, rfl, rfl, SqL.of hL0, at_of (j := 1) rfl rfl, _, rfl, L, _, 2, _, rfl, rfl, SqL.of hL0, at_of (j := 2) rfl rfl, rvv_to (ls := [a0, a1, a2]) hO0 Gd hls0 l5 hw n60 (fun q1 H1 lk e1 h1 h2 => ?_) (fun dd H1 lk e1 hdd => ?_)⟩
      · refine ⟨by show 2 ≤ sizeLine; decide, fun p hp => ⟨_, rfl, ?_⟩⟩
        have e2 : Same H1 (upd H1 p (.tup [V.str "told", V.ref q1])) := same_new hp
        exact q p _ (same_trans (same_trans e0 e1) e2) ⟨fun _ => ⟨q1, upd_same, e2 _ _ h1, h2⟩, fun z => absurd lk z⟩
      · refine ⟨N.ex, fun a ha => ?_⟩
        refine ⟨_, rfl, rfl, rfl, dd, _, .str "count", rfl, hdd, by simp, ?_⟩
        refine ⟨by show 2 ≤ sizeLine; decide, fun p hp => ⟨_, rfl, ?_⟩⟩
        exact q p _ (same_trans (same_trans e0 e1) (same_new hp)) ⟨fun z => absurd z lk, fun _ => upd_same⟩
    have c3 := cO c3
    refine ⟨_, rfl, .ref L, ls.length, rfl, .inl ⟨_, SqL.of hL0, by rw [List.length_map]⟩, rfl, _, rfl, ite2 (fun c => ?_) fun c4 => ?_⟩
    · have c : ls.length = 4 := by have z := cI c; omega
      clear cI cO
      have hlen : ls.length = 4 := c
      obtain ⟨a0, a1, a2, a3, rfl⟩ : ∃ a0 a1 a2 a3 : Addr, ls = [a0, a1, a2, a3] := match ls, hlen with | [a0, a1, a2, a3], _ => ⟨a0, a1, a2, a3, rfl⟩
      refine ⟨_, rfl, o, dx, _, rfl, ho0, rfl, _, rfl, L, _, 0, _, rfl, rfl, SqL.of hL0, at_of (j := 0) rfl rfl, _, rfl, L, _, 1, _, rfl, rfl, SqL.of hL0, at_of (j := 1) rfl rfl, _, rfl, L, _, 2, _, rfl, rfl, SqL.of hL0, at_of (j := 2) rfl rfl, _, rfl, L, _, 3, _, rfl, rfl, SqL.of hL0, at_of (j := 3) rfl rfl, rvv_to (ls := [a0, a1, a2, a3]) hO0 Gd hls0 l5 hw n60 (fun q1 H1 lk e1 h1 h2 => ?_) (fun dd H1 lk e1 hdd => ?_)⟩
      · refine ⟨by show 2 ≤ sizeLine; decide, fun p hp => ⟨_, rfl, ?_⟩⟩
        have e2 : Same H1 (upd H1 p (.tup [V.str "told", V.ref q1])) := same_new hp
        exact q p _ (same_trans (same_trans e0 e1) e2) ⟨fun _ => ⟨q1, upd_same, e2 _ _ h1, h2⟩, fun z => absurd lk z⟩
      · refine ⟨N.ex, fun a ha => ?_⟩
        refine ⟨_, rfl, rfl, rfl, dd, _, .str "count", rfl, hdd, by simp, ?_⟩
        refine ⟨by show 2 ≤ sizeLine; decide, fun p hp => ⟨_, rfl, ?_⟩⟩
        exact q p _ (same_trans (same_trans e0 e1) (same_new hp)) ⟨fun z => absurd z lk, fun _ => upd_same⟩
    have c4 := cO c4
    refine ⟨_, rfl, .ref L, ls.length, rfl, .inl ⟨_, SqL.of hL0, by rw [List.length_map]⟩, rfl, _, rfl, ite2 (fun c => ?_) fun c5 => ?_⟩
    · have c : ls.length = 5 := by have z := cI c; omega
      clear cI cO
      have hlen : ls.length = 5 := c
      obtain ⟨a0, a1, a2, a3, a4, rfl⟩ : ∃ a0 a1 a2 a3 a4 : Addr, ls = [a0, a1, a2, a3, a4] := match ls, hlen with | [a0, a1, a2, a3, a4], _ => ⟨a0, a1, a2, a3, a4, rfl⟩
      refine ⟨_, rfl, o, dx, _, rfl, ho0, rfl, _, rfl, L, _, 0, _, rfl, rfl, SqL.of hL0, at_of (j := 0) rfl rfl, _, rfl, L, _, 1, _, rfl, rfl, SqL.of hL0, at_of (j := 1) rfl rfl, _, rfl, L, _, 2, _, rfl, rfl, SqL.of hL0, at_of (j := 2) rfl rfl, _, rfl, L, _, 3, _, rfl, rfl, SqL.of hL0, at_of (j := 3) rfl rfl, _, rfl, L, _, 4, _, rfl, rfl, SqL.of hL0, at_of (j := 4) rfl rfl, rvv_to (ls := [a0, a1, a2, a3, a4]) hO0 Gd hls0 l5 hw n60 (fun q1 H1 lk e1 h1 h2 => ?_) (fun dd H1 lk e1 hdd => ?_)⟩
      · refine ⟨by show 2 ≤ sizeLine; decide, fun p hp => ⟨_, rfl, ?_⟩⟩
        have e2 : Same H1 (upd H1 p (.tup [V.str "told", V.ref q1])) := same_new hp
        exact q p _ (same_trans (same_trans e0 e1) e2) ⟨fun _ => ⟨q1, upd_same, e2 _ _ h1, h2⟩, fun z => absurd lk z⟩
      · refine ⟨N.ex, fun a ha => ?_⟩
        refine ⟨_, rfl, rfl, rfl, dd, _, .str "count", rfl, hdd, by simp, ?_⟩
        refine ⟨by show 2 ≤ sizeLine; decide, fun p hp => ⟨_, rfl, ?_⟩⟩
        exact q p _ (same_trans (same_trans e0 e1) (same_new hp)) ⟨fun z => absurd z lk, fun _ => upd_same⟩
    have c5 := cO c5
    refine ⟨_, rfl, .ref L, ls.length, rfl, .inl ⟨_, SqL.of hL0, by rw [List.length_map]⟩, rfl, _, rfl, ite2 (fun c => ?_) fun c2 => ?_⟩
    · have c : ls.length = 2 := by have z := cI c; omega
      clear cI cO
      have hlen : ls.length = 2 := c
      obtain ⟨a0, a1, rfl⟩ : ∃ a0 a1 : Addr, ls = [a0, a1] := match ls, hlen with | [a0, a1], _ => ⟨a0, a1, rfl⟩
      refine ⟨_, rfl, o, dx, _, rfl, ho0, rfl, _, rfl, L, _, 0, _, rfl, rfl, SqL.of hL0, at_of (j := 0) rfl rfl, _, rfl, L, _, 1, _, rfl, rfl, SqL.of hL0, at_of (j := 1) rfl rfl, rvv_to (ls := [a0, a1]) hO0 Gd hls0 l5 hw n60 (fun q1 H1 lk e1 h1 h2 => ?_) (fun dd H1 lk e1 hdd => ?_)⟩
      · refine ⟨by show 2 ≤ sizeLine; decide, fun p hp => ⟨_, rfl, ?_⟩⟩
        have e2 : Same H1 (upd H1 p (.tup [V.str "told", V.ref q1])) := same_new hp
        exact q p _ (same_trans (same_trans e0 e1) e2) ⟨fun _ => ⟨q1, upd_same, e2 _ _ h1, h2⟩, fun z => absurd lk z⟩
      · refine ⟨N.ex, fun a ha => ?_⟩
        refine ⟨_, rfl, rfl, rfl, dd, _, .str "count", rfl, hdd, by simp, ?_⟩
        refine ⟨by show 2 ≤ sizeLine; decide, fun p hp => ⟨_, rfl, ?_⟩⟩
        exact q p _ (same_trans (same_trans e0 e1) (same_new hp)) ⟨fun z => absurd z lk, fun _ => upd_same⟩
    have c2 := cO c2
    refine ⟨_, rfl, .ref L, ls.length, rfl, .inl ⟨_, SqL.of hL0, by rw [List.length_map]⟩, rfl, _, rfl, ite2 (fun c => ?_) fun c1 => ?_⟩
    · have c : ls.length = 1 := by have z := cI c; omega
      clear cI cO
      have hlen : ls.length = 1 := c
      obtain ⟨a0, rfl⟩ : ∃ a0 : Addr, ls = [a0] := match ls, hlen with | [a0], _ => ⟨a0, rfl⟩
      refine ⟨_, rfl, o, dx, _, rfl, ho0, rfl, _, rfl, L, _, 0, _, rfl, rfl, SqL.of hL0, at_of (j := 0) rfl rfl, rvv_to (ls := [a0]) hO0 Gd hls0 l5 hw n60 (fun q1 H1 lk e1 h1 h2 => ?_) (fun dd H1 lk e1 hdd => ?_)⟩
      · refine ⟨by show 2 ≤ sizeLine; decide, fun p hp => ⟨_, rfl, ?_⟩⟩
        have e2 : Same H1 (upd H1 p (.tup [V.str "told", V.ref q1])) := same_new hp
        exact q p _ (same_trans (same_trans e0 e1) e2) ⟨fun _ => ⟨q1, upd_same, e2 _ _ h1, h2⟩, fun z => absurd lk z⟩
      · refine ⟨N.ex, fun a ha => ?_⟩
        refine ⟨_, rfl, rfl, rfl, dd, _, .str "count", rfl, hdd, by simp, ?_⟩
        refine ⟨by show 2 ≤ sizeLine; decide, fun p hp => ⟨_, rfl, ?_⟩⟩
        exact q p _ (same_trans (same_trans e0 e1) (same_new hp)) ⟨fun z => absurd z lk, fun _ => upd_same⟩
    · have c1 := cO c1
      have c : ls.length = 0 := by omega
      clear cI cO c1 c2 c3 c4 c5
      have hlen : ls.length = 0 := c
      obtain rfl : ls = [] := List.eq_nil_of_length_eq_zero hlen
      refine ⟨_, rfl, o, dx, _, rfl, ho0, rfl, rvv_to (ls := []) hO0 Gd hls0 l5 hw n60 (fun q1 H1 lk e1 h1 h2 => ?_) (fun dd H1 lk e1 hdd => ?_)⟩
      · refine ⟨by show 2 ≤ sizeLine; decide, fun p hp => ⟨_, rfl, ?_⟩⟩
        have e2 : Same H1 (upd H1 p (.tup [V.str "told", V.ref q1])) := same_new hp
        exact q p _ (same_trans (same_trans e0 e1) e2) ⟨fun _ => ⟨q1, upd_same, e2 _ _ h1, h2⟩, fun z => absurd lk z⟩
      · refine ⟨N.ex, fun a ha => ?_⟩
        refine ⟨_, rfl, rfl, rfl, dd, _, .str "count", rfl, hdd, by simp, ?_⟩
        refine ⟨by show 2 ≤ sizeLine; decide, fun p hp => ⟨_, rfl, ?_⟩⟩
        exact q p _ (same_trans (same_trans e0 e1) (same_new hp)) ⟨fun z => absurd z lk, fun _ => upd_same⟩
end
end K01
/-! _law_rows_right. -/
namespace K01
open PySem PySem.Spec PyProof.Rows L2 KG KS KA KX KIa KFz
abbrev s__law_rows_right : Stmt := top 29
abbrev NRr : List Str := ["_law_deck_here", "_law_base", "_law_count", "_law_table", "_law_vote", "_law_long", "_law_many", "_law_rows", "_law_due", "_law_kept", "_law_told", "_law_k", "_law_place", "_law_row"]
def rTupOfW (K : PySem.W.Frag) : List V → Hp → VK → Prop := fun xs H Q => ∃ p ys, xs = [.ref p] ∧ ((SqL K H p ys ∧ ∀ l, H l = none → Q (.ref l) (upd H l (.tup ys))) ∨ (SqT K H p ys ∧ Q (.ref p) H))
theorem join_ifG {c : Bool} {α : Type} {I Z : α → Hp → Prop} {p : Prop} {a : α} {H : Hp} (rest : ∀ a H2, I a H2 → Z a H2) (hq : ¬ c = true → I a H) (hp : c = true → (∀ a H2, I a H2 → Z a H2) → p) : if c = true then p else Z a H := ite2 (fun h => hp h rest) fun h => rest a H (hq h)
theorem join_and {c : Bool} {α : Type} {I Z : α → Hp → Prop} {p q : Prop} {a : α} {H : Hp} (rest : ∀ a H2, I a H2 → Z a H2) (hq : ¬ c = true → I a H) (hp : c = true → (∀ a H2, I a H2 → Z a H2) → p) : if c = true then p else (if false = true then q else Z a H) := ite2 (fun h => hp h rest) fun h => iteF (rest a H (hq h))
theorem LsAt.off {H H' : Hp} {d l : Addr} {k : Nat} {ls : List Addr} {rows : List (List Str)} (h : LsAt H ls rows) (D : DeckAt H d l k) (o : Off d l H H') : LsAt H' ls rows := each_and h fun _ _ _ z => tup_off z D o
theorem LsAt.put {H : Hp} {R : Addr} {o : HO} {vs : List V} {ls : List Addr} {rows : List (List Str)} (h : LsAt H ls rows) (hR : H R = some (.lst vs)) : LsAt (upd H R o) ls rows := each_and h fun a b _ z => by
  rw [upd_ne (ne_of z hR (by intro z; cases z))]
  exact z
theorem cut_one {x : V} {r : List V} : cutV (x :: r) none (some 1) = [x] := by
  unfold cutV
  have e : HT.sIx (x :: r).length (x :: r).length (some 1) = 1 := (HT.sIx_nat _ _ 1).trans (by rw [List.length_cons]; omega)
  rw [e]
  rfl
theorem cut_two {x y : V} {r : List V} : cutV (x :: y :: r) (some 2) none = r := by
  unfold cutV
  have e : HT.sIx (x :: y :: r).length 0 (some 2) = 2 := (HT.sIx_nat _ _ 2).trans (by rw [List.length_cons, List.length_cons]; omega)
  rw [e, HT.sIx_none]
  show List.take (r.length + 1 + 1 - 2) r = r
  exact List.take_of_length_le (by omega)
/-- the data of what is told of rows -/
def tolD (k : Nat) (xs rs : List Str) (n m : Nat) (rows : List (List Str)) : PyData :=
  if m = k then .tuple [.str "told", .tuple ((voteS xs k rs n rows).map PyData.str)] else .tuple [.str "no vote", .str "count"]
theorem voteS_len {xs rs : List Str} {k n : Nat} {rows : List (List Str)} : (voteS xs k rs n rows).length = n := by
  unfold voteS
  rw [List.length_map, List.length_range]
theorem tol_shw {H : Hp} {p : Addr} {k : Nat} {xs rs : List Str} {n m : Nat} {rows : List (List Str)} (h : Told H p k xs rs n m rows) (ok : ∀ x ∈ rs, TxOk x) (n60 : n ≤ 60) : Shw H (.ref p) (tolD k xs rs n m rows) 2 8400 := by
  unfold tolD
  by_cases e : m = k
  · obtain ⟨q, h1, h2, h3⟩ := h.1 e
    rw [if_pos e]
    have s1 := Shws.tup h2 (shws_txs fun x hx => ok x (h3 x hx))
    rw [voteS_len] at s1
    have s2 := Shws.cons (shw_tx (H := H) (x := "told") ⟨by decide +kernel, by decide +kernel⟩ |>.up (fun _ _ e => e) (show 0 ≤ 0 + 1 by omega) (Nat.le_refl _)) (Shws.cons s1 (Shws.nil (c := 0)))
    exact (Shws.tup h1 s2).up (fun _ _ e => e) (by omega) (by omega)
  · rw [if_neg e]
    exact (Shws.tup (h.2 e) (shws_txs (g := ["no vote", "count"]) fun x hx => by
      simp only [List.mem_cons, List.not_mem_nil, or_false] at hx
      rcases hx with rfl | rfl <;> exact ⟨by decide +kernel, by decide +kernel⟩)).up (fun _ _ e => e) (by omega) (by decide)
theorem rows_shw {H : Hp} : ∀ {ls : List Addr} {rows : List (List Str)}, LsAt H ls rows → (∀ r ∈ rows, r.length ≤ 60 ∧ ∀ x ∈ r, TxOk x) → Shws H (ls.map V.ref) (rows.map fun r => .tuple (r.map PyData.str)) 1 (ls.length * 8000)
  | _, _, .nil, _ => Shws.nil
  | _, _, .cons (b := r) a t, h => by
    obtain ⟨l60, tx⟩ := h r List.mem_cons_self
    have s1 := (Shws.tup a (shws_txs tx)).up (fun _ _ e => e) (show 0 + 1 ≤ 1 by omega) (show _ ≤ 7990 by omega)
    exact (Shws.cons s1 (rows_shw t fun q hq => h q (List.mem_cons_of_mem _ hq))).up (fun _ _ e => e) (Nat.le_refl _) (by rw [List.length_cons, Nat.succ_mul]; omega)
theorem TblV.off {H H' : Hp} {d l t : Addr} {n k : Nat} {xs rs : List Str} (h : TblV H t xs k rs) (D : DeckAt H d l n) (o : Off d l H H') : TblV H' t xs k rs := by
  obtain ⟨ks, h1, h2⟩ := h
  obtain ⟨cs, m, n, hd, hl, _⟩ := D.ex
  exact ⟨ks, o _ _ h1 (ne_of h1 hd (by intro z; cases z)) (ne_of h1 hl (by intro z; cases z)), h2⟩
theorem VtAt.off {C : Addr} {H H' : Hp} {d l x : Addr} {n k : Nat} {xs rs : List Str} (h : VtAt C H x xs k rs) (D : DeckAt H d l n) (o : Off d l H H') : VtAt C H' x xs k rs := by
  obtain ⟨dx, d1, r, t, h1, ks, h2, h3, h4, h5⟩ := h
  obtain ⟨cs, m, n, hd, hl, _⟩ := id D.ex
  exact ⟨dx, d1, r, t, o _ _ h1 (ne_of h1 hd (by intro z; cases z)) (ne_of h1 hl (by intro z; cases z)), ks, tup_off h2 D o, tup_off h3 D o, o _ _ h4 (ne_of h4 hd (by intro z; cases z)) (ne_of h4 hl (by intro z; cases z)), h5⟩
theorem VGood.tx {xs rs : List Str} {k : Nat} (G : VGood xs k rs) : ∀ x ∈ rs, TxOk x := fun x hx => tx_name (G.ok x (G.sub x hx))
theorem DeckAt.ne {H : Hp} {d l : Addr} {n : Nat} {x : Addr} (D : DeckAt H d l n) (h : H x = none) : x ≠ d ∧ x ≠ l := by
  obtain ⟨cs, mm, nn, e1, e2, e3⟩ := D.ex
  exact ⟨fun z => (by rw [z, e1] at h; cases h), fun z => (by rw [z, e2] at h; cases h)⟩
theorem lst_off {H H' : Hp} {d l p : Addr} {k : Nat} {xs : List V} (h : H p = some (.lst xs)) (n : p ≠ l) (D : DeckAt H d l k) (o : Off d l H H') : H' p = some (.lst xs) := by
  obtain ⟨cs, m, n', hd, hl, _⟩ := D.ex
  exact o _ _ h (ne_of h hd (by intro z; cases z)) n
theorem DeckAt.put {H : Hp} {d l : Addr} {n : Nat} {x : Addr} {o : HO} (D : DeckAt H d l n) (h1 : x ≠ d) (h2 : x ≠ l) : DeckAt (upd H x o) d l n := by
  obtain ⟨cs, mm, nn, e1, e2, e3⟩ := D.ex
  exact ⟨cs, mm, nn, by rw [upd_ne h1.symm]; exact e1, by rw [upd_ne h2.symm]; exact e2, e3⟩
theorem Told.up {H H' : Hp} {p : Addr} {k : Nat} {xs rs : List Str} {n m : Nat} {rows : List (List Str)} (h : Told H p k xs rs n m rows) (e : Same H H') : Told H' p k xs rs n m rows :=
  ⟨fun z => let ⟨q, h1, h2, h3⟩ := h.1 z; ⟨q, e _ _ h1, e _ _ h2, h3⟩, fun z => e _ _ (h.2 z)⟩
def spRR (C : Addr) : Sp := fun vs H Q _ => ∃ (d l b t o : Addr) (n0 k : Nat) (xs rs : List Str), vs = [.ref d, .ref b, .int (k : Nat), .ref t, .ref o] ∧ DeckAt H d l n0 ∧ n0 + 300 < 1000000000 ∧ H b = some (.tup (xs.map V.str)) ∧ TblV H t xs k rs ∧ VtAt C H o xs k rs ∧ VGood xs k rs ∧
  ∀ (H' : Hp), DeckAt H' d l (n0 + 200) → Off d l H H' → Q (.bl true) H'
/-- the defs of the law's own that rows are voted with -/
structure RrF (K : PySem.W.Frag) (mg : Str → Option Value) where
  draw : FnF K mg "_law_draw" "_law_draw" s__law_draw
  pick : FnF K mg "_law_pick" "_law_pick" s__law_pick
  voted : FnF K mg "_law_voted" "_law_voted" s__law_voted
section
variable {P : Program} {w : World} {K : PySem.W.Frag} {mg : Str → Option Value} {base : Heap}
theorem sc__law_rows_right : FnScope NRr ["_law_deck_here", "_law_base", "_law_count", "_law_table", "_law_vote"] (defScope s__law_rows_right) := ⟨rfl, rfl, rfl, by decide +kernel, rfl, by decide +kernel, by decide +kernel⟩
theorem okN {f : Addr} {fd : FuncData} {ps : List Str} {sp : Sp} {k : Nat} {x qual : Str} {st : Stmt} {N : List Str} (F : Fun K x qual st f fd) (S : FnScope N ps (defScope st)) (len : ∀ vs H Q E, sp vs H Q E → vs.length = ps.length)
    (body : ∀ (cdv : Value) (A : Around) (outer : List Env) (s : Shared) (H : Hp) (vs : List V) (Q : VK) (E : XK),
      (A.deeper (envOfC qual (defScope st) s.heap.objs.size f cdv)).guards = some [] → Room k (A.deeper (envOfC qual (defScope st) s.heap.objs.size f cdv)) → sp vs H Q E →
      ∃ t, PSs (cxOf CX0 P w K mg base N qual (defScope st) f cdv A outer s H E).nox (defBody st) t ∧ t { nx := fun _ H' => Q .non H', rt := Q } (L2.start N vs) H) :
    FnG P w K mg base CX0 (k + 1) f fd ps sp := okG F S len fun cdv A outer s H vs Q E g hr h => by
  obtain ⟨t, h1, h2⟩ := body cdv A outer s H vs Q E g hr h
  exact ⟨t, h1.nox, h2⟩
theorem ok__law_rows_right (B : Bz mg) (hrp : mg "repr" = none) {fI : Addr} (C : VtC K mg fI) (N : ErC K mg) (XF : XfC K N.C) (fv : MtF K "rows_voted" "Vote.rows_voted" s_vtRows) (hm : Meth K C.C "rows_voted" fv.a) (R : RrF K mg)
    (f : FnF K mg "_law_rows_right" "_law_rows_right" s__law_rows_right) : FnG P w K mg base CX0 5 f.a f.d ["_law_deck_here", "_law_base", "_law_count", "_law_table", "_law_vote"] (spRR C.C) := by
  have GD := ok__law_draw (P := P) (w := w) (base := base) B.toBi R.draw
  have bD : L2.Binds K R.draw.d ["_law_deck_here", "_law_many"] [] := R.draw.F.binds fun _ _ _ _ _ _ us hl => match us, hl with | [_, _], _ => rfl
  have GT := ok__law_pickT (P := P) (w := w) (base := base) B.toBi R.pick R.draw
  have GP := ok__law_pick (P := P) (w := w) (base := base) B.toBi R.pick R.draw
  have bP : L2.Binds K R.pick.d ["_law_deck_here", "_law_options"] [] := R.pick.F.binds fun _ _ _ _ _ _ us hl => match us, hl with | [_, _], _ => rfl
  have GV := ok__law_voted (P := P) (w := w) (base := base) B C N XF fv hm R.voted
  have bV : L2.Binds K R.voted.d ["_law_vote", "_law_rows"] [] := R.voted.F.binds fun _ _ _ _ _ _ us hl => match us, hl with | [_, _], _ => rfl
  refine okN f.F sc__law_rows_right (fun vs H Q E h => ?_) (fun cdv A outer s H vs Q E hgu hr h => ?_)
  · obtain ⟨d, l, b, t, o, n0, k, xs, rs, rfl, _⟩ := h
    rfl
  · obtain ⟨d, l, b, t, o, n0, k, xs, rs, rfl, D, hn, hb, hT, hO, G, q⟩ := h
    have hu64 := hr.units
    have hu := hu_of hr
    have hr1 : Room 1 _ := hr.mono (by omega)
    have hr2 : Room 2 _ := hr.mono (by omega)
    refine ⟨_, (pss_cons
      (ps_set (i := 5) sc__law_rows_right.nd rfl (Or.inr rfl) (pe_call GP hr2 rfl R.pick.g R.pick.F.kp bP .nil pass0 (pa_cons (pv 0) (pa_cons (pe_lst (pa_cons pe_int (pa_cons pe_int (pa_cons pe_int (pa_cons pe_int (pa_cons pe_int (pa_cons pe_int (pa_cons pe_int (pa_cons pe_int pa_nil))))))))) pa_nil))))
    (pss_cons
      (ps_set (i := 6) sc__law_rows_right.nd rfl (Or.inl rfl) (pe_call GP hr2 rfl R.pick.g R.pick.F.kp bP .nil pass0 (pa_cons (pv 0) (pa_cons (pe_lst (pa_cons (pv 2) (pa_cons (pv 2) (pa_cons (pv 2) (pa_cons (pe_op op_sub pe_int (pv 2)) (pa_cons pe_int (pa_cons pe_int (pa_cons pe_int (pa_cons pe_int pa_nil))))))))) pa_nil))))
    (pss_cons
      (ps_set (i := 7) sc__law_rows_right.nd rfl (Or.inr rfl) (pe_lc (own := [("_law_k", 11)]) (g := gName 11) (by rfl) sc__law_rows_right.nd (pi_range1 rfl B.n_range (pa_cons (pv 6) pa_nil)) (blkOk_by (own := [("_law_k", 11)]) (N := NRr) (sc := defScope s__law_rows_right) (by decide +kernel)) (fun _ _ _ _ _ => (pg_name (i := 11) sc__law_rows_right.nd rfl (Or.inl rfl))) (fun _ _ _ _ _ => pts_nil)
        (fun _ _ _ _ _ => (pe_callTy (show CallR _ (.type "tuple") (rTupOfW K) from call_tuple_of) (by rfl) B.n_tuple (by decide +kernel) (pa_cons (pe_lc (own := [("_law_place", 12)]) (g := gName 12) (by rfl) sc__law_rows_right.nd (pi_range1 (by rfl) B.n_range (pa_cons (pv 5) pa_nil)) (blkOk_by (own := [("_law_place", 12)]) (N := NRr) (by kernel_rfl))
          (fun _ _ _ _ _ => (pg_name (i := 12) sc__law_rows_right.nd rfl (Or.inl rfl))) (fun _ _ _ _ _ => pts_nil) (fun _ _ _ _ _ => (pe_call GT hr2 (by rfl) R.pick.g R.pick.F.kp bP .nil pass0 (pa_cons (pv 0) (pa_cons (pv 1) pa_nil))))) pa_nil)))))
    (pss_cons
      (ps_if (PW.pt (pw_and (pt_cmpR op_gt (pv 6) pe_int (nomark _)) (pw_and1 (pt_cmpR op_eq (pe_call GD hr1 rfl R.draw.g R.draw.F.kp bD .nil pass0 (pa_cons (pv 0) (pa_cons pe_int pa_nil))) pe_int (nomark _)))))
        (pss_one
          (ps_set (i := 7) sc__law_rows_right.nd rfl (Or.inr rfl) (pe_op op_cat (pe_op op_cat (pe_slice sl_list (pv 7) po_none (po_some pe_int)) (pe_lst (pa_cons (pe_ix ix_list (pv 7) pe_int (fun _ _ => rfl)) pa_nil))) (pe_slice sl_list (pv 7) (po_some pe_int) po_none))))
        pss_nil)
    (pss_cons
      (ps_set (i := 8) sc__law_rows_right.nd rfl (Or.inl rfl) (pe_tup (pa_cons pe_str (pa_cons pe_str pa_nil))))
    (pss_cons
      (ps_if (pt_cmpR op_eq (pv 6) (pv 2) (nomark _))
        (pss_one
          (ps_set (i := 8) sc__law_rows_right.nd rfl (Or.inl rfl) (pe_tup (pa_cons pe_str (pa_cons (pe_callTy call_tuple_of (by rfl) B.n_tuple (by decide +kernel) (pa_cons (pe_lc (own := [("_law_place", 12)]) (g := gName 12) (by rfl) sc__law_rows_right.nd (pi_range1 rfl B.n_range (pa_cons (pv 5) pa_nil)) (blkOk_by (own := [("_law_place", 12)]) (N := NRr) (sc := defScope s__law_rows_right) (by decide +kernel))
            (fun _ _ _ _ _ => (pg_name (i := 12) sc__law_rows_right.nd rfl (Or.inr rfl))) (fun _ _ _ _ _ => pts_nil)
            (fun _ _ _ _ _ => (pe_dget hu (pv 3) (pe_callTy (show CallR _ (.type "tuple") (rTupOfW K) from call_tuple_of) (by rfl) B.n_tuple (by decide +kernel) (pa_cons (pe_lc (own := [("_law_row", 13)]) (g := gName 13) (by rfl) sc__law_rows_right.nd (show PI _ _ _ (iList K (tVar 7)) from pi_list (pv 7)) (blkOk_by (own := [("_law_row", 13)]) (N := NRr) (by kernel_rfl))
              (fun _ _ _ _ _ => (pg_name (i := 13) sc__law_rows_right.nd rfl (Or.inl rfl))) (fun _ _ _ _ _ => pts_nil) (fun _ _ _ _ _ => (pe_ix (show IxR _ (rIxT K) from ix_tup) (pv 13) (pv 12) (fun _ _ => rfl)))) pa_nil)) (fun _ _ => rfl)))) pa_nil)) pa_nil)))))
        pss_nil)
    (pss_cons
      (ps_set (i := 9) sc__law_rows_right.nd rfl (Or.inl rfl) (pe_callB (call_repr hgu hu64) (by rfl) hrp (by decide +kernel) (pa_cons (pv 7) pa_nil)))
    (pss_cons
      (ps_set (i := 10) sc__law_rows_right.nd rfl (Or.inl rfl) (pe_lst (pa_cons (pe_call GV hr rfl R.voted.g R.voted.F.kp bV .nil pass0 (pa_cons (pv 4) (pa_cons (pv 7) pa_nil))) (pa_cons (pe_call GV hr rfl R.voted.g R.voted.F.kp bV .nil pass0 (pa_cons (pv 4) (pa_cons (pv 7) pa_nil))) pa_nil))))
    (pss_one
      (ps_ret (pe_and (pe_cmpR op_eq (pe_callB (call_repr hgu hu64) (by rfl) hrp (by decide +kernel) (pa_cons (pv 10) pa_nil)) (pe_callB (call_repr hgu hu64) (by rfl) hrp (by decide +kernel) (pa_cons (pe_lst (pa_cons (pv 8) (pa_cons (pv 8) pa_nil))) pa_nil)) (nomark _)) (pe_one (pe_cmpR op_eq (pe_callB (call_repr hgu hu64) (by rfl) hrp (by decide +kernel) (pa_cons (pv 7) pa_nil)) (pv 9) (nomark _)))))))))))))), ?_⟩
    have toN : ∀ m : Nat, ((m : Nat) : Int).toNat = m := fun m => Int.toNat_natCast m
    -- long
    refine ⟨_, rfl, by show 8 ≤ sizeLine; decide, fun o1 ho1 => ⟨d, l, o1, _, n0, rfl, D.same (same_new ho1), upd_same, (D.ne ho1).2, by show 0 < 8; decide, by show 8 < 1000000; decide, by omega, fun v1 H1 hv1 D1 p1 => ?_⟩⟩
    have o01 := (Off.of (same_new ho1)).trans p1
    obtain ⟨lg, rfl, lg30⟩ : ∃ m : Nat, v1 = .int (m : Nat) ∧ m ≤ 30 := by
      simp only [List.mem_cons, List.not_mem_nil, or_false] at hv1
      rcases hv1 with rfl | rfl | rfl | rfl | rfl | rfl | rfl | rfl
      · exact ⟨0, rfl, by decide⟩
      · exact ⟨1, rfl, by decide⟩
      · exact ⟨2, rfl, by decide⟩
      · exact ⟨3, rfl, by decide⟩
      · exact ⟨5, rfl, by decide⟩
      · exact ⟨8, rfl, by decide⟩
      · exact ⟨16, rfl, by decide⟩
      · exact ⟨30, rfl, by decide⟩
    clear hv1 ho1 p1
    -- many
    refine ⟨_, rfl, _, rfl, _, rfl, _, rfl, _, rfl, _, _, rfl, rfl, by show 8 ≤ sizeLine; decide, fun o2 ho2 => ⟨d, l, o2, _, n0 + 1, rfl, D1.same (same_new ho2), upd_same, (D1.ne ho2).2, by show 0 < 8; decide, by show 8 < 1000000; decide, by omega, fun v2 H2 hv2 D2 p2 => ?_⟩⟩
    have o02 := (o01.trans (Off.of (same_new ho2))).trans p2
    obtain ⟨m, rfl, m5⟩ : ∃ m : Nat, v2 = .int (m : Nat) ∧ m ≤ 5 := by
      have hk := G.hk
      simp only [List.mem_cons, List.not_mem_nil, or_false] at hv2
      rcases hv2 with rfl | rfl | rfl | rfl | rfl | rfl | rfl | rfl
      · exact ⟨k, rfl, by omega⟩
      · exact ⟨k, rfl, by omega⟩
      · exact ⟨k, rfl, by omega⟩
      · exact ⟨7 - k, by congr 1; omega, by omega⟩
      · exact ⟨0, rfl, by decide⟩
      · exact ⟨1, rfl, by decide⟩
      · exact ⟨2, rfl, by decide⟩
      · exact ⟨5, rfl, by decide⟩
    clear hv2 ho2 p2 o01 D1
    have hb2 := tup_off hb D o02
    have lx := G.l3
    -- rows
    refine ⟨_, rfl, _, rfl, by omega, by omega, fun L hL => ?_⟩
    obtain ⟨nLd, nLl⟩ := D2.ne hL
    refine lc_range (lo := 0) (n := ((m : Nat) : Int).toNat) (fun i H' => ∃ (ls : List Addr) (rows : List (List Str)), DeckAt H' d l (n0 + 2 + i * 30) ∧ Off d l H2 H' ∧ H' L = some (.lst (ls.map V.ref)) ∧ ls.length = i ∧ LsAt H' ls rows ∧ ∀ r ∈ rows, r.length = lg ∧ ∀ x ∈ r, x ∈ xs)
      ⟨[], [], (D2.same (same_new hL)).up (by omega), Off.of (same_new hL), upd_same, rfl, .nil, fun _ z => nomatch z⟩ ?_ ?_
    · rintro i H3 hi ⟨ls, rows, D3, p3, hL3, lls, hLs, hrw⟩
      rw [toN] at hi
      have hb3 := tup_off hb2 D2 p3
      refine ⟨rfl, _, rfl, _, rfl, by omega, by omega, fun g hg => ?_⟩
      obtain ⟨ngd, ngl⟩ := D3.ne hg
      refine lc_range (lo := 0) (n := ((lg : Nat) : Int).toNat) (fun j H' => ∃ got : List Str, DeckAt H' d l (n0 + 2 + i * 30 + j) ∧ Off d l H3 H' ∧ H' g = some (.lst (got.map V.str)) ∧ got.length = j ∧ ∀ x ∈ got, x ∈ xs)
        ⟨[], D3.same (same_new hg), Off.of (same_new hg), upd_same, rfl, fun _ z => nomatch z⟩ ?_ ?_
      · rintro j H4 hj ⟨got, D4, p4, hg4, gln, gin⟩
        rw [toN] at hj
        refine ⟨rfl, _, rfl, _, rfl, d, l, b, xs.map V.str, n0 + 2 + i * 30 + j, rfl, D4, tup_off hb3 D3 p4, by rw [List.length_map]; exact G.l1, by rw [List.length_map]; omega, by omega, fun v H5 hv D5 p5 => ?_⟩
        obtain ⟨x, hx, rfl⟩ := List.mem_map.mp hv
        have hg5 := p5 g _ hg4 ngd ngl
        refine ⟨got.map V.str, hg5, by rw [List.length_map, sizeLine_eq]; omega, got ++ [x], D5.put ngd ngl, fun c u hc n1 n2 => ?_, by rw [upd_same, List.map_append]; rfl, by rw [List.length_append, gln]; rfl, fun y hy => ?_⟩
        · rw [upd_ne (ne_of_none hc hg)]
          exact p5 c u (p4 c u hc n1 n2) n1 n2
        · rcases List.mem_append.mp hy with z | z
          · exact gin y z
          · rw [List.mem_singleton.mp z]
            exact hx
      · rintro H4 ⟨got, D4, p4, hg4, gln, gin⟩
        rw [toN] at gln D4
        refine ⟨g, got.map V.str, rfl, .inl ⟨SqL.of hg4, fun t1 ht1 => ?_⟩⟩
        have e5 : Same H4 (upd H4 t1 (.tup (got.map V.str))) := same_new ht1
        have h5 : upd H4 t1 (.tup (got.map V.str)) t1 = some (.tup (got.map V.str)) := upd_same
        generalize upd H4 t1 (.tup (got.map V.str)) = H5 at e5 h5 ⊢
        have hL5 := e5 _ _ (p4 L _ hL3 nLd nLl)
        have hLs5 := (hLs.off D3 p4).up e5
        refine ⟨_, hL5, by rw [List.length_map, sizeLine_eq]; omega, ls ++ [t1], rows ++ [got], ((D4.same e5).put nLd nLl).up (by omega), fun c u hc n1 n2 => ?_, by rw [upd_same, List.map_append]; rfl, by rw [List.length_append, lls]; rfl, each_app (hLs5.put hL5) (.cons (by rw [upd_ne (ne_of h5 hL5 (by intro z; cases z))]; exact h5) .nil), fun r hr2 => ?_⟩
        · rw [upd_ne (ne_of_none hc hL)]
          exact e5 _ _ (p4 c u (p3 c u hc n1 n2) n1 n2)
        · rcases List.mem_append.mp hr2 with z | z
          · exact hrw r z
          · rw [List.mem_singleton.mp z]
            exact ⟨gln, gin⟩
    rintro H3 ⟨ls, rows, D3, p3, hL3, lls, hLs, hrw⟩
    rw [toN] at lls D3
    have D3 := D3.up (k := n0 + 152) (by omega)
    have o03 := o02.trans p3
    clear hL
    -- rows = rows[:1] + [rows[0]] + rows[2:]
    refine ⟨_, rfl, _, _, rfl, rfl, _, rfl, ?_⟩
    dsimp only
    have key := @join_and (decide (1 < (m : Int))) Addr (fun (L : Addr) H' => ∃ (ls : List Addr) (rows : List (List Str)), DeckAt H' d l (n0 + 160) ∧ Off d l H H' ∧ H' L = some (.lst (ls.map V.ref)) ∧ ls.length = m ∧ LsAt H' ls rows ∧ ∀ r ∈ rows, r.length = lg ∧ ∀ x ∈ r, x ∈ xs)
    apply key (a := L) (H := H3)
    case hq => exact fun _ => ⟨ls, rows, D3.up (by omega), o03, hL3, lls, hLs, hrw⟩
    case hp =>
      intro c rest
      have m2 : 2 ≤ m := by
        have z := of_decide_eq_true c
        omega
      refine ⟨_, rfl, d, l, 3, n0 + 152, rfl, D3, by decide, by decide, by omega, fun j H7 j0 j1 D7 o7 => ⟨rfl, _, rfl, ?_⟩⟩
      have hL7 := lst_off hL3 nLl D3 o7
      have hLs7 := hLs.off D3 o7
      refine ite2 (fun _ => ?_) fun _ => rest L H7 ⟨ls, rows, D7.up (by omega), o03.trans o7, hL7, lls, hLs7, hrw⟩
      obtain ⟨a0, a1, lr, rfl⟩ : ∃ a0 a1 lr, ls = a0 :: a1 :: lr := match ls, (show 2 ≤ ls.length by omega) with | a0 :: a1 :: lr, _ => ⟨a0, a1, lr, rfl⟩
      obtain ⟨r0, r1, rr, rfl⟩ : ∃ r0 r1 rr, rows = r0 :: r1 :: rr := match rows, (show 2 ≤ rows.length by have := hLs.length; omega) with | r0 :: r1 :: rr, _ => ⟨r0, r1, rr, rfl⟩
      refine ⟨_, rfl, 1, rfl, L, _, rfl, SqL.of hL7, fun s1 hs1 => ?_⟩
      have e1 : Same H7 (upd H7 s1 (.lst [V.ref a0])) := same_new hs1
      have h1 : upd H7 s1 (.lst [V.ref a0]) s1 = some (.lst [V.ref a0]) := upd_same
      rw [show cutV ((a0 :: a1 :: lr).map V.ref) none (some 1) = [V.ref a0] from cut_one]
      generalize upd H7 s1 (.lst [V.ref a0]) = HA at e1 h1 ⊢
      refine ⟨_, rfl, L, _, 0, _, rfl, rfl, SqL.of (e1 _ _ hL7), at_of (j := 0) rfl rfl, by show 1 ≤ sizeLine; decide, fun s2 hs2 => ?_⟩
      have e2 : Same HA (upd HA s2 (.lst [V.ref a0])) := same_new hs2
      have h2 : upd HA s2 (.lst [V.ref a0]) s2 = some (.lst [V.ref a0]) := upd_same
      generalize upd HA s2 (.lst [V.ref a0]) = HB at e2 h2 ⊢
      refine ⟨s1, s2, _, _, rfl, rfl, e2 _ _ h1, h2, by show 2 ≤ sizeLine; decide, fun s3 hs3 => ?_⟩
      have e3 : Same HB (upd HB s3 (.lst ([V.ref a0] ++ [V.ref a0]))) := same_new hs3
      have h3 : upd HB s3 (.lst ([V.ref a0] ++ [V.ref a0])) s3 = some (.lst ([V.ref a0] ++ [V.ref a0])) := upd_same
      generalize upd HB s3 (.lst ([V.ref a0] ++ [V.ref a0])) = HC at e3 h3 ⊢
      have e7C := same_trans e1 (same_trans e2 e3)
      refine ⟨_, rfl, 2, rfl, L, _, rfl, SqL.of (e7C _ _ hL7), fun s4 hs4 => ?_⟩
      rw [show cutV ((a0 :: a1 :: lr).map V.ref) (some 2) none = lr.map V.ref from cut_two]
      have e4 : Same HC (upd HC s4 (.lst (lr.map V.ref))) := same_new hs4
      have h4 : upd HC s4 (.lst (lr.map V.ref)) s4 = some (.lst (lr.map V.ref)) := upd_same
      generalize upd HC s4 (.lst (lr.map V.ref)) = HD at e4 h4 ⊢
      refine ⟨s3, s4, _, _, rfl, rfl, e4 _ _ h3, h4, by rw [List.length_map, sizeLine_eq]; simp only [List.length_cons] at lls; show 2 + _ ≤ _; omega, fun s5 hs5 => ?_⟩
      have e5 := same_trans e7C (same_trans e4 (same_new (o := .lst (([V.ref a0] ++ [V.ref a0]) ++ lr.map V.ref)) hs5))
      refine rest s5 _ ⟨a0 :: a0 :: lr, r0 :: r0 :: rr, (D7.same e5).up (by omega), (o03.trans o7).trans (Off.of e5), upd_same, by simpa using lls, ?_, fun r hr2 => ?_⟩
      · have z := hLs7.up e5
        cases z with
        | cons x0 z =>
          cases z with
          | cons x1 z => exact .cons x0 (.cons x0 z)
      · rcases List.mem_cons.mp hr2 with rfl | z
        · exact hrw _ List.mem_cons_self
        · rcases List.mem_cons.mp z with rfl | z
          · exact hrw _ List.mem_cons_self
          · exact hrw r (List.mem_cons_of_mem _ (List.mem_cons_of_mem _ z))
    clear key
    intro L H7 h7
    clear nLd nLl D2 hb2
    obtain ⟨ls, rows, D7, o07, hL7, lls, hLs7, hrw⟩ := h7
    have hT7 := hT.off D o07
    have hO7 := hO.off D o07
    clear hT hO hb
    obtain ⟨ks, ht7, eks⟩ := id hT7
    -- due
    refine ⟨by show 2 ≤ sizeLine; decide, fun u0 hu0 => ?_⟩
    have e78 : Same H7 (upd H7 u0 (.tup [V.str "no vote", V.str "count"])) := same_new hu0
    have h8 : upd H7 u0 (.tup [V.str "no vote", V.str "count"]) u0 = some (.tup [V.str "no vote", V.str "count"]) := upd_same
    generalize upd H7 u0 (.tup [V.str "no vote", V.str "count"]) = H8 at e78 h8 ⊢
    refine ⟨_, rfl, _, rfl, rfl, _, rfl, ?_⟩
    dsimp only
    have key := @join_ifG (decide (V.int (m : Nat) = V.int (k : Nat))) Addr (fun (u : Addr) H' => Same H7 H' ∧ Told H' u k xs rs lg ls.length rows)
    apply key (a := u0) (H := H8)
    case hq =>
      intro c
      refine ⟨e78, fun z => absurd ?_ c, fun _ => h8⟩
      exact decide_eq_true (by rw [← z, lls])
    case hp =>
      intro c rest
      have mk : m = k := by
        have z := of_decide_eq_true c
        injection z with z
        omega
      have lk : rows.length = k := by rw [← hLs7.length, lls, mk]
      refine ⟨_, rfl, _, rfl, by omega, by omega, fun v hv => ?_⟩
      refine lc_range (lo := 0) (n := ((lg : Nat) : Int).toNat) (fun j H' => Same H8 H' ∧ H' v = some (.lst (((voteS xs k rs lg rows).take j).map V.str))) ⟨same_new hv, upd_same⟩ ?_ ?_
      · rintro j H9 hj ⟨e9, hv9⟩
        rw [toN] at hj
        have e79 := same_trans e78 e9
        refine ⟨rfl, _, rfl, _, rfl, L, rfl, ⟨_, SqL.of (e79 _ _ hL7)⟩, fun c2 hc2 => ?_⟩
        refine lc_list (K := K) (xs := ls.map V.ref) (fun i H' => Same H9 H' ∧ H' c2 = some (.lst (((colS j rows).take i).map V.str))) ⟨same_new hc2, upd_same⟩ (fun i H' _ z => SqL.of (z.1 _ _ (e79 _ _ hL7))) ?_ ?_
        · rintro i y H10 hy ⟨e10, hc10⟩
          rw [List.getElem?_map] at hy
          cases hi : ls[i]? with
          | none =>
            rw [hi] at hy
            cases hy
          | some a =>
            rw [hi] at hy
            obtain rfl : V.ref a = y := Option.some.inj hy
            obtain ⟨r, hri, ha⟩ := each_get hLs7 hi
            have rl := (hrw r (List.mem_of_getElem? hri)).1
            have il : i < ls.length := (List.getElem?_eq_some_iff.mp hi).1
            have hcol : (colS j rows)[i]? = some (r.getD j Str.empty) := by
              unfold colS
              rw [List.getElem?_map, hri]
              rfl
            have hrj : (r.map V.str)[j]? = some (V.str (r.getD j Str.empty)) := by
              rw [List.getElem?_map, List.getD_eq_getElem?_getD, List.getElem?_eq_getElem (by omega)]
              rfl
            refine ⟨rfl, _, rfl, _, rfl, a, _, _, _, rfl, rfl, SqT.of ((same_trans e79 e10) _ _ ha), at_of (j := j) (by omega) hrj, _, hc10, by rw [List.length_map, List.length_take, sizeLine_eq]; omega, same_put hc2 e10, ?_⟩
            rw [upd_same, take_next hcol, List.map_append]
            rfl
        · rintro H10 ⟨e10, hc10⟩
          have lcol : (colS j rows).length = ls.length := by unfold colS; rw [List.length_map, hLs7.length]
          rw [List.length_map, ← lcol, List.take_length] at hc10
          refine ⟨c2, _, rfl, .inl ⟨SqL.of hc10, fun T hT' => ?_⟩⟩
          have e11 : Same H10 (upd H10 T (.tup ((colS j rows).map V.str))) := same_new hT'
          have h11 : upd H10 T (.tup ((colS j rows).map V.str)) T = some (.tup ((colS j rows).map V.str)) := upd_same
          generalize upd H10 T (.tup ((colS j rows).map V.str)) = H11 at e11 h11 ⊢
          have e911 := same_trans e10 e11
          obtain ⟨u, hu1, hu2⟩ := vote_in G lk hrw hj
          have dg : DGet H11 t (.ref T) (valV (KDz.dtOf ks (rs.map V.str)) (KDz.entK (colS j rows))) := DGet.t ((same_trans e79 e911) _ _ ht7) (by rw [KDz.entK_kV]; exact h11)
          rw [val_look, eks, hu2] at dg
          have hvj : (voteS xs k rs lg rows)[j]? = some u := by
            unfold voteS
            rw [List.getElem?_map, List.getElem?_range hj, Option.map_some, hu2]
            rfl
          refine ⟨t, _, rfl, dg, _, e911 _ _ hv9, by rw [List.length_map, List.length_take, sizeLine_eq]; omega, same_put hv (same_trans e9 e911), ?_⟩
          rw [upd_same, take_next hvj, List.map_append]
          rfl
      · rintro H9 ⟨e9, hv9⟩
        rw [toN, List.take_of_length_le (by rw [voteS_len]; omega)] at hv9
        refine ⟨v, _, rfl, .inl ⟨SqL.of hv9, fun q1 hq1 => ⟨by show 2 ≤ sizeLine; decide, fun u hu1 => ?_⟩⟩⟩
        have e10 : Same H9 (upd H9 q1 (.tup ((voteS xs k rs lg rows).map V.str))) := same_new hq1
        have h10 : upd H9 q1 (.tup ((voteS xs k rs lg rows).map V.str)) q1 = some (.tup ((voteS xs k rs lg rows).map V.str)) := upd_same
        generalize upd H9 q1 (.tup ((voteS xs k rs lg rows).map V.str)) = H10 at e10 h10 hu1 ⊢
        have e11 : Same H10 (upd H10 u (.tup [V.str "told", V.ref q1])) := same_new hu1
        refine rest u _ ⟨same_trans (same_trans e78 e9) (same_trans e10 e11), fun _ => ⟨q1, upd_same, e11 _ _ h10, fun x hx => ?_⟩, fun z => absurd (lls.trans mk) z⟩
        unfold voteS at hx
        obtain ⟨i, hi, rfl⟩ := List.mem_map.mp hx
        obtain ⟨u1, hu1', hu2⟩ := vote_in G lk hrw (List.mem_range.mp hi)
        rw [hu2]
        exact hu1'
    clear key h8 e78 hu0
    intro u H9 h9
    obtain ⟨e79, tl9⟩ := h9
    have hL9 := e79 _ _ hL7
    have hLs9 := hLs7.up e79
    have hO9 := hO7.up e79
    have D9 := D7.same e79
    have o09 := o07.trans (Off.of e79)
    have okr : ∀ r ∈ rows, r.length ≤ 60 ∧ ∀ x ∈ r, TxOk x := fun r hr2 => ⟨by have := (hrw r hr2).1; omega, fun x hx => tx_name (G.ok x ((hrw r hr2).2 x hx))⟩
    have sR := Shws.lst hL9 (rows_shw hLs9 okr)
    have big : ∀ {D : PyData}, cost D ≤ 100000 → D.shown.length ≤ sizeLine := fun {D} h => by
      have z := shown_cost D
      rw [sizeLine_eq]
      omega
    have cR : ls.length * 8000 + 4 ≤ 100000 := by omega
    -- kept
    refine ⟨_, rfl, fun _ => True, .ref L, _, rfl, sR.dq, sR.sh, Nat.le_trans sR.dp (by decide), big (Nat.le_trans sR.ct cR), ?_⟩
    -- told
    refine ⟨_, rfl, _, rfl, o, L, ls, xs, rs, k, lg, rows, rfl, hO9, G, hL9, hLs9, by omega, hrw, by omega, fun p1 HA eA tA => ?_⟩
    refine ⟨_, rfl, _, rfl, o, L, ls, xs, rs, k, lg, rows, rfl, hO9.up eA, G, eA _ _ hL9, hLs9.up eA, by omega, hrw, by omega, fun p2 HB eB tB => ⟨by show 2 ≤ sizeLine; decide, fun lt hlt => ?_⟩⟩
    have e6 : Same HB (upd HB lt (.lst [V.ref p1, V.ref p2])) := same_new hlt
    have h6 : upd HB lt (.lst [V.ref p1, V.ref p2]) lt = some (.lst [V.ref p1, V.ref p2]) := upd_same
    generalize upd HB lt (.lst [V.ref p1, V.ref p2]) = HC at e6 h6 ⊢
    have two : ∀ {H' : Hp} {l p1 p2 : Addr}, H' l = some (.lst [V.ref p1, V.ref p2]) → Told H' p1 k xs rs lg ls.length rows → Told H' p2 k xs rs lg ls.length rows → Shw H' (.ref l) (.list [tolD k xs rs lg ls.length rows, tolD k xs rs lg ls.length rows]) 3 20000 := fun {H' l p1 p2} h h1 h2 =>
      (Shws.lst h (Shws.cons (tol_shw h1 G.tx (by omega)) (Shws.cons (tol_shw h2 G.tx (by omega)) (Shws.nil (c := 0))))).up (fun _ _ e => e) (by omega) (by omega)
    have s6 := two h6 (tA.up (same_trans eB e6)) (tB.up e6)
    refine ⟨_, rfl, fun _ => True, .ref lt, _, rfl, s6.dq, s6.sh, Nat.le_trans s6.dp (by decide), big (Nat.le_trans s6.ct (by decide)), _, rfl, _, rfl, by show 2 ≤ sizeLine; decide, fun l2 hl2 => ?_⟩
    have e7 : Same HC (upd HC l2 (.lst [V.ref u, V.ref u])) := same_new hl2
    have e97 := same_trans (same_trans eA eB) (same_trans e6 e7)
    have s7 := two (H' := upd HC l2 (.lst [V.ref u, V.ref u])) (l := l2) upd_same (tl9.up e97) (tl9.up e97)
    refine ⟨fun _ => True, .ref l2, _, rfl, s7.dq, s7.sh, Nat.le_trans s7.dp (by decide), big (Nat.le_trans s7.ct (by decide)), rfl, true, by rw [decide_eq_true rfl], iteT ?_⟩
    refine ⟨_, rfl, fun _ => True, .ref L, _, rfl, sR.dq.same e97, sR.sh, Nat.le_trans sR.dp (by decide), big (Nat.le_trans sR.ct cR), _, rfl, rfl, ?_⟩
    rw [decide_eq_true rfl]
    exact q _ ((D9.same e97).up (by omega)) (o09.trans (Off.of e97))
end
end K01
/-! list(d.values()), d a dict with tuples of texts as keys. -/
namespace KVl
open PySem PySem.Spec PyProof.Rows L2
section
variable {prog : Program} {w : World} {A : Around} {E : Value → Shared → Prop} {s : Shared}
theorem meetsValues {d : Addr} {es : Array DictEntry} {ep : Nat} (hd : (d == sysModules) = false) :
    MeetsIn prog w (Builtin.«dict.values» ⟨[.ref d], []⟩) (fun _ R s => s.heap.DictRaw d es ep ∧
      R (.ok (.ret (.ref s.heap.objs.size))) { s with heap := s.heap.push { cls := .type "dict_values", data := .fields #[.ref d] } }) :=
  .of_wp fun A R s ⟨hm, h⟩ => by
    unfold Builtin.«dict.values»
    refine wpAny_bind ?_
    unfold Builtin.Dict.noArgs
    refine wpAny_bind (wpAny_notOrdered_dict hm.typeIs ?_)
    show wpAny _ _ (pure d) _ _ s
    refine wpAny_pure ?_
    show wpAny _ _ (Builtin.Dict.showsAll d >>= _) _ _ s
    unfold Builtin.Dict.showsAll
    rw [if_neg (by rw [hd]; exact Bool.false_ne_true)]
    refine wpAny_bind (wpAny_pure ?_)
    exact wpAny_bind (wpAny_newObj_type (wpAny_pure ⟨_, rfl, h⟩))
theorem callValues {d : Addr} {es : Array DictEntry} {ep : Nat} {Q : Value → Shared → Prop} (hd : (d == sysModules) = false) (hm : s.heap.DictRaw d es ep)
    (h : Q (.ref s.heap.objs.size) { s with heap := s.heap.push { cls := .type "dict_values", data := .fields #[.ref d] } }) : wpAny (model prog w) A (call (.builtin "dict.values") [.ref d]) Q E s :=
  call_meetsIn PySem.F.slot_dict_values hm.typeIs PySem.F.entry_dict_values (PySem.F.args_dict_values_1 _) (meetsValues (es := es) (ep := ep) hd) ⟨hm, h⟩
end
/-- the view d.values() at p -/
def valsO (p d : Addr) : HO := .ext fun h => h.IsValuesView p d
theorem valsO_ok {P : Program} {w : World} {H : Hp} {h : Heap} {p d : Addr} (e : h.get? p = some { cls := .type "dict_values", data := .fields #[.ref d] }) : ObjOk P w H h p (valsO p d) :=
  ⟨⟨_, e, rfl, rfl⟩, ⟨_, e⟩, fun h1 h2 x k => let ⟨o, ho, r⟩ := x; ⟨o, k o ho, r⟩⟩
def rValsT : V → List V → Hp → VK → Prop := fun x xs H Q => ∃ (a : Addr) (kvs : List (List L2.Key × V)), x = .ref a ∧ xs = [] ∧ H a = some (.dT kvs) ∧ ∀ p, H p = none → Q (.ref p) (upd H p (valsO p a))
def rListV : List V → Hp → VK → Prop := fun xs H Q => ∃ (p a : Addr) (kvs : List (List L2.Key × V)), xs = [.ref p] ∧ H p = some (valsO p a) ∧ H a = some (.dT kvs) ∧ ∀ l, H l = none → Q (.ref l) (upd H l (.lst (kvs.map (·.2))))
theorem kt_vals {H : Hp} : ∀ {kvs : List (List L2.Key × V)} {xs : List (List L2.Key × Addr × Value)}, KT H kvs xs → Vals (kvs.map (·.2)) (xs.map (·.2.2))
  | _, _, .nil => .nil
  | _, _, .cons h t => .cons h.2.2 (kt_vals t)
section
variable {X : Cx}
theorem mt_valuesT : MtR X "dict.values" rValsT := by
  intro pins s σ H x xs v us Q I rx rxs h
  obtain ⟨a, kvs, rfl, rfl, ha, q⟩ := h
  cases rx
  cases rxs
  obtain ⟨z, hd, xs', rel, o, es, ep, ho, hx, hdat, _⟩ := dt_of I.hok ha
  refine callValues (es := es) (ep := ep) hd ⟨o, ho, hx, hdat⟩ ?_
  have hf : H s.heap.objs.size = none := I.hok.fresh (Nat.le_refl _)
  exact ⟨.ref s.heap.objs.size, upd H s.heap.objs.size (valsO s.heap.objs.size a), I.laid (t' := s.toks) (fun b u e => Heap.get?_push_of_some _ e) (Nat.le_refl _) (valsO_ok (Heap.get?_push_size _ rfl)), rfl, q _ hf⟩
theorem call_listV (hc : X.calm = true) : CallR X (.type "list") rListV := by
  intro pins s σ H xs us Q I r h
  obtain ⟨p, a, kvs, rfl, hp, ha, q⟩ := h
  obtain rfl := Vals.ref1 r
  have view : s.heap.IsValuesView p a := (show ObjOk X.prog X.w H s.heap p (valsO p a) from I.hok p _ hp).1
  obtain ⟨z, hd, xs', rel, o, es, ep, ho, hx, hdat, hes, his, hn⟩ := dt_of I.hok ha
  have l1 : kvs.length = xs'.length := Paired.length rel
  have l2 : es.size = xs'.length := size_of_entries hes
  have hh : X.A.handled = none := I.ok.hd hc
  refine PySem.W.kdl_call (KdlSrc.rawValues (es := es) (ep := ep) (r := p) (d := a)) hh ⟨view, o, ho, hx, hdat⟩ (by omega) fun h' tk acc' c' hk hl hit => ?_
  have rv : Vals (kvs.map (·.2)) acc'.toList := by
    have e1 : acc'.toList = es.toList.map (·.val) := by
      refine List.ext_getElem? fun j => ?_
      rw [List.getElem?_map, Array.getElem?_toList, Array.getElem?_toList]
      cases hj : acc'[j]? with
      | none =>
        have h1 := Array.getElem?_eq_none_iff.mp hj
        have h2 := hit.1
        rw [Array.getElem?_eq_none (by omega)]
        rfl
      | some v =>
        obtain ⟨hi, e⟩ := hit.2 j v hj
        rw [Array.getElem?_eq_getElem hi, e]
        rfl
    rw [e1, hes, List.map_map]
    exact kt_vals rel
  exact ⟨.ref s.heap.objs.size, _, I.laid (t' := tk) hk (Nat.le_refl _) (show ObjOk X.prog X.w _ h' _ (.lst (kvs.map (·.2))) from ⟨by rw [List.length_map]; exact z, acc'.toList, c', rv, by simpa using hl⟩), rfl, q _ (I.hok.fresh (Nat.le_refl _))⟩
end
end KVl
/-! law. -/
namespace K01
open PySem PySem.Spec PyProof.Rows L2 KG KS KA KX KIa KFz
abbrev s_law : Stmt := top 30
abbrev NLw : List Str := ["_law_script", "_law_deck_here", "_law_turn", "_law_base", "_law_count", "_law_table", "_law_vote", "_law_group", "_law_again", "_law_kept", "_law_due", "_law_told", "_law_middle_here"]
/-- a classmethod of a class -/
structure MtC (K : PySem.W.Frag) (C : Addr) (mc : Value) (m qual : Str) (st : Stmt) where
  f : MtF K m qual st
  p : Addr
  M : ClX.CMet K C mc m p f.a
/-- all the defs that the law reaches -/
structure All (K : PySem.W.Frag) (mg : Str → Option Value) where
  B : By mg
  rp : mg "repr" = none
  vf : VtF K mg
  vi : MtF K "__init__" "Vote.__init__" s_vtInit
  C : VtC K mg vi.a
  J : C8.InsC K C.C
  N : ErC K mg
  XF : XfC K N.C
  call : MtF K "__call__" "Vote.__call__" s_vtCall
  co : StX.CallO K C.C call.a
  ckw : KwOne call.d ["self", "some"] "some"
  eq_ : MtF K "__eq__" "Vote.__eq__" s_vtEq
  ne_ : KO.NeC K C.C eq_.a
  nf : PySem.W.notFirst K C.C (.ref C.C) = true
  rows : MtF K "rows_voted" "Vote.rows_voted" s_vtRows
  rm : Meth K C.C "rows_voted" rows.a
  mc : Value
  rd : ClX.CRead K C.C mc
  mid : MtC K C.C mc "middle" "Vote.middle" s_vtMid
  mkw : KwOne mid.f.d ["cls", "domain"] "domain"
  deck : FnF K mg "_law_deck" "_law_deck" s__law_deck
  names : FnF K mg "_law_names" "_law_names" s__law_names
  points : FnF K mg "_law_points" "_law_points" s__law_points
  drawn : FnF K mg "_law_drawn" "_law_drawn" s__law_drawn
  middle : FnF K mg "_law_middle" "_law_middle" s__law_middle
  called : FnF K mg "_law_called" "_law_called" s__law_called
  due : FnF K mg "_law_due_call" "_law_due_call" s__law_due_call
  odd : FnF K mg "_law_odd_call" "_law_odd_call" s__law_odd_call
  R : RrF K mg
  rr : FnF K mg "_law_rows_right" "_law_rows_right" s__law_rows_right
/-- a def that may raise is called where it raises nothing -/
theorem passN {X : Cx} : Passes (L2.CX X.prog X.w) X E0 := fun _ _ _ _ _ _ _ ⟨_, _, _, _, _, _, _, _, _, _, _, _, z⟩ => z.elim
/-! ### what the law's turn needs -/
/-- a vote whose own table is not at t -/
def VtW (C : Addr) (H : Hp) (x : Addr) (xs : List Str) (k : Nat) (rs : List Str) (t : Addr) : Prop := ∃ dx d r tt, H x = some (.ins C dx (vtFs d k r tt)) ∧ VtIn H d r tt xs k rs ∧ tt ≠ t
theorem VtW.at {C : Addr} {H : Hp} {x : Addr} {xs rs : List Str} {k : Nat} {t : Addr} (h : VtW C H x xs k rs t) : VtAt C H x xs k rs := by
  obtain ⟨dx, d, r, tt, h1, h2, _⟩ := h
  exact ⟨dx, d, r, tt, h1, h2⟩
theorem VtW.up {C : Addr} {H H' : Hp} {x : Addr} {xs rs : List Str} {k : Nat} {t : Addr} (h : VtW C H x xs k rs t) (e : Same H H') : VtW C H' x xs k rs t := by
  obtain ⟨dx, d, r, tt, h1, h2, h3⟩ := h
  exact ⟨dx, d, r, tt, e _ _ h1, h2.up e, h3⟩
theorem VtW.off {C : Addr} {H H' : Hp} {d l x : Addr} {n k : Nat} {xs rs : List Str} {t : Addr} (h : VtW C H x xs k rs t) (D : DeckAt H d l n) (o : Off d l H H') : VtW C H' x xs k rs t := by
  obtain ⟨dx, d1, r, tt, h1, ⟨ks, h2, h3, h4, h5⟩, ne⟩ := h
  obtain ⟨cs, m, n, hd, hl, _⟩ := id D.ex
  exact ⟨dx, d1, r, tt, o _ _ h1 (ne_of h1 hd (by intro z; cases z)) (ne_of h1 hl (by intro z; cases z)), ⟨ks, tup_off h2 D o, tup_off h3 D o, o _ _ h4 (ne_of h4 hd (by intro z; cases z)) (ne_of h4 hl (by intro z; cases z)), h5⟩, ne⟩
/-- the law's table is locked -/
theorem VtW.lock {C : Addr} {H : Hp} {x : Addr} {xs rs : List Str} {k : Nat} {t : Addr} {od : Obj} {u : HO} {kvs : List (List L2.Key × V)} (h : VtW C H x xs k rs t) (ht : H t = some (.dT kvs)) : VtAt C (upd H t (.frz od u)) x xs k rs := by
  obtain ⟨dx, d1, r, tt, h1, ⟨ks, h2, h3, h4, h5⟩, ne⟩ := h
  refine ⟨dx, d1, r, tt, ?_, ks, ?_, ?_, ?_, h5⟩
  · rw [upd_ne (ne_of h1 ht (by intro z; cases z))]
    exact h1
  · rw [upd_ne (ne_of h2 ht (by intro z; cases z))]
    exact h2
  · rw [upd_ne (ne_of h3 ht (by intro z; cases z))]
    exact h3
  · rw [upd_ne ne]
    exact h4
theorem lock_same {H H' : Hp} {t : Addr} {od : Obj} {u : HO} (ht : H t = some u) (e : Same (upd H t (.frz od u)) H') : Same H (upd H' t u) := fun b o h => by
  by_cases z : b = t
  · subst z
    rw [ht] at h
    rw [upd_same]
    exact h
  · rw [upd_ne z]
    exact e b o (by rw [upd_ne z]; exact h)
theorem dt_get {ks : List (Addr × List Str)} {vs : List V} {i : Nat} {k : List L2.Key} {v : V} (h : (KDz.dtOf ks vs)[i]? = some (k, v)) : ∃ g ∈ ks.map (·.2), k = KDz.entK g := by
  unfold KDz.dtOf at h
  have m := (List.of_mem_zip (List.mem_of_getElem? h)).1
  obtain ⟨p, hp, e⟩ := List.mem_map.mp m
  exact ⟨p.2, List.mem_map.mpr ⟨p, hp, rfl⟩, e.symm⟩
theorem dt_vals {ks : List (Addr × List Str)} {vs : List V} (h : ks.length = vs.length) : (KDz.dtOf ks vs).map (·.2) = vs := by
  unfold KDz.dtOf
  exact List.map_snd_zip (by rw [List.length_map]; omega)
def toWD : Sum Str Str → PyData
  | .inr u => .tuple [.str "told", .str u]
  | .inl wd => .tuple [.str "no vote", .str wd]
theorem tow_shw {H : Hp} {p : Addr} {x : Sum Str Str} (h : H p = some (.tup (toldW x))) (hu : ∀ u, x = .inr u → TxOk u) (hw : ∀ wd, x = .inl wd → TxOk wd) : Shw H (.ref p) (toWD x) 1 300 := by
  cases x with
  | inl wd => exact (Shws.tup h (shws_txs (g := ["no vote", wd]) fun x hx => by
      simp only [List.mem_cons, List.not_mem_nil, or_false] at hx
      rcases hx with rfl | rfl
      · exact ⟨by decide +kernel, by decide +kernel⟩
      · exact hw _ rfl)).up (fun _ _ e => e) (by omega) (by show 2 * 132 + 6 ≤ 300; omega)
  | inr u => exact (Shws.tup h (shws_txs (g := ["told", u]) fun x hx => by
      simp only [List.mem_cons, List.not_mem_nil, or_false] at hx
      rcases hx with rfl | rfl
      · exact ⟨by decide +kernel, by decide +kernel⟩
      · exact hu _ rfl)).up (fun _ _ e => e) (by omega) (by show 2 * 132 + 6 ≤ 300; omega)
theorem vdue_word {xs rs : List Str} {k : Nat} {g : Option (List (Option Str))} {wd : Str} (h : vdue xs k rs g = .inl wd) : TxOk wd := by
  have two : ∀ x : Str, x = "count" ∨ x = "domain" → TxOk x := fun x hx => by rcases hx with rfl | rfl <;> exact ⟨by decide +kernel, by decide +kernel⟩
  cases g with
  | none =>
    cases h
    exact two _ (.inl rfl)
  | some os =>
    unfold vdue at h
    dsimp only at h
    split at h
    · cases h
      exact two _ (.inl rfl)
    · split at h
      · cases h
      · cases h
        exact two _ (.inr rfl)
theorem make_vtW {C : Addr} {H : Hp} {d r x dx t : Addr} {xs rs : List Str} {k : Nat} {Q : VK} {E : XK} {kvs : List (List L2.Key × V)} (hd : H d = some (.tup (xs.map V.str))) (hr : H r = some (.tup (rs.map V.str))) (g : VGood xs k rs) (ht : H t = some (.dT kvs))
    (hx : H x = none) (hdx : H dx = none) (ne : dx ≠ x) (q : ∀ H' : Hp, Same H H' → VtW C H' x xs k rs t → Q .non H') :
    spVI C [.ref x, .ref d, .int (k : Nat), .ref r] (upd (upd H dx (.own x)) x (.ins C dx [])) Q E := by
  have e : Same H (upd (upd H dx (.own x)) x (.ins C dx [])) := same_trans (same_new hdx) (same_new (show upd H dx (.own x) x = none by rw [upd_ne ne.symm]; exact hx))
  refine ⟨x, dx, d, r, xs, rs, k, rfl, upd_same, e _ _ hd, e _ _ hr, g, fun H' tt b ntt h1 h2 => q H' (b.fresh hx e) ⟨dx, d, r, tt, h1, h2, fun z => ?_⟩⟩
  rw [z, e _ _ ht] at ntt
  cases ntt
def spLaw (K : PySem.W.Frag) : Sp := fun vs H Q _ => ∃ (a : Addr) (ns : List Int), vs = [.ref a] ∧ SqL K H a (ns.map V.int) ∧ ns.length ≤ 63 ∧ ∀ H', Q (.bl true) H'
section
variable {P : Program} {w : World} {K : PySem.W.Frag} {mg : Str → Option Value} {base : Heap}
theorem sc_law : FnScope NLw ["_law_script"] (defScope s_law) := ⟨rfl, rfl, rfl, by decide +kernel, rfl, by decide +kernel, by decide +kernel⟩
theorem ok_law (A : All K mg) (f : FnF K mg "law" "law" s_law) : FnG P w K mg base CX0 7 f.a f.d ["_law_script"] (spLaw K) := by
  have GK := ok__law_deck (P := P) (w := w) (base := base) A.B.toBz.toBi A.deck
  have bK : L2.Binds K A.deck.d ["_law_script"] [] := A.deck.F.binds fun _ _ _ _ _ _ us hl => match us, hl with | [_], _ => rfl
  have GD := ok__law_draw (P := P) (w := w) (base := base) A.B.toBz.toBi A.R.draw
  have bD : L2.Binds K A.R.draw.d ["_law_deck_here", "_law_many"] [] := A.R.draw.F.binds fun _ _ _ _ _ _ us hl => match us, hl with | [_, _], _ => rfl
  have GN := ok__law_names (P := P) (w := w) (base := base) A.B.toBz.toBs A.names A.R.draw
  have bN : L2.Binds K A.names.d ["_law_deck_here", "_law_many"] [] := A.names.F.binds fun _ _ _ _ _ _ us hl => match us, hl with | [_, _], _ => rfl
  have GW := ok__law_drawn (P := P) (w := w) (base := base) A.B.toBz.toBs A.drawn A.points A.R.pick A.R.draw
  have bW : L2.Binds K A.drawn.d ["_law_deck_here", "_law_base", "_law_count"] [] := A.drawn.F.binds fun _ _ _ _ _ _ us hl => match us, hl with | [_, _, _], _ => rfl
  have GM := ok__law_middle (P := P) (w := w) (base := base) A.B A.middle A.points
  have bM : L2.Binds K A.middle.d ["_law_base"] [] := A.middle.F.binds fun _ _ _ _ _ _ us hl => match us, hl with | [_], _ => rfl
  have G6 := ok_vtInit (P := P) (w := w) (base := base) A.B.toBz A.vi A.vf A.C
  have b6 : L2.Binds K A.vi.d ["self", "domain", "count", "results"] [] := A.vi.F.binds fun _ _ _ _ _ _ us hl => match us, hl with | [_, _, _, _], _ => rfl
  have GC := ok__law_called (P := P) (w := w) (base := base) A.B.toBz A.C A.N A.XF A.vf.row A.call A.co A.called
  have bC : L2.Binds K A.called.d ["_law_vote", "_law_group"] [] := A.called.F.binds fun _ _ _ _ _ _ us hl => match us, hl with | [_, _], _ => rfl
  have GU := ok__law_due_call (P := P) (w := w) (base := base) A.B.toBz A.due
  have bU : L2.Binds K A.due.d ["_law_base", "_law_count", "_law_table", "_law_group"] [] := A.due.F.binds fun _ _ _ _ _ _ us hl => match us, hl with | [_, _, _, _], _ => rfl
  have GO := ok__law_odd_call (P := P) (w := w) (base := base) A.B.toBz A.odd A.R.draw A.R.pick
  have bO : L2.Binds K A.odd.d ["_law_deck_here", "_law_base", "_law_count"] [] := A.odd.F.binds fun _ _ _ _ _ _ us hl => match us, hl with | [_, _, _], _ => rfl
  have GV := ok_vtCall (P := P) (w := w) (base := base) A.B.toBz A.call A.C A.N A.vf.row
  have bV : L2.Binds K A.call.d ["self", "some"] [] := A.call.F.binds fun _ _ _ _ _ _ us hl => match us, hl with | [_, _], _ => rfl
  have GR := ok__law_rows_right (P := P) (w := w) (base := base) A.B.toBz A.rp A.C A.N A.XF A.rows A.rm A.R A.rr
  have bR : L2.Binds K A.rr.d ["_law_deck_here", "_law_base", "_law_count", "_law_table", "_law_vote"] [] := A.rr.F.binds fun _ _ _ _ _ _ us hl => match us, hl with | [_, _, _, _, _], _ => rfl
  have GL := ok_vtMid (P := P) (w := w) (base := base) A.B.toBz A.vi A.vf A.C A.mid.f
  have GLr : FnR P w K mg base CX0 6 A.mid.f.a (spMid A.C.C) := by
    obtain ⟨oc, od, kV, doc, pm, an, cdv, ct, osl, e, _, _⟩ := A.mid.f.F.ex
    refine fnR_of GL fun s us hl => ?_
    rw [e]
    exact match us, hl with | [_, _], _ => .of_eq rfl
  have GE := ok_vtEq (P := P) (w := w) (base := base) A.B.toBz A.C A.J A.eq_
  have bE : L2.Binds K A.eq_.d ["self", "other"] [] := A.eq_.F.binds fun _ _ _ _ _ _ us hl => match us, hl with | [_, _], _ => rfl
  refine okN f.F sc_law (fun vs H Q E h => ?_) (fun cdv A' outer s H vs Q E hgu hr h => ?_)
  · obtain ⟨a, ns, rfl, _⟩ := h
    rfl
  · obtain ⟨sa, ns, rfl, hs0, hlen, q⟩ := h
    have hu64 := hr.units
    have hu := hu_of hr
    have hr1 : Room 1 _ := hr.mono (by omega)
    have hr2 : Room 2 _ := hr.mono (by omega)
    have hr3 : Room 3 _ := hr.mono (by omega)
    have hr4 : Room 4 _ := hr.mono (by omega)
    have hr5 : Room 5 _ := hr.mono (by omega)
    refine ⟨_, (pss_cons
      (ps_set (i := 1) sc_law.nd rfl (Or.inl rfl) (pe_call GK hr1 rfl A.deck.g A.deck.F.kp bK .nil pass0 (pa_cons (pv 0) pa_nil)))
    (pss_cons
      (ps_for PassesOwn.never rfl (pi_range1 rfl A.B.n_range (pa_cons pe_int pa_nil)) (pg_name (i := 2) sc_law.nd rfl (Or.inl rfl))
        (pss_cons
          (ps_par (i := 3) (j := 4) (by rfl) sc_law.nd rfl rfl (by decide) rfl rfl (pa_cons (pe_call GN hr2 rfl A.names.g A.names.F.kp bN .nil pass0 (pa_cons (pv 1) (pa_cons (pe_ix ix_list (pe_lst (pa_cons pe_int (pa_cons pe_int (pa_cons pe_int (pa_cons pe_int pa_nil))))) (pe_call GD hr1 rfl A.R.draw.g A.R.draw.F.kp bD .nil pass0 (pa_cons (pv 1) (pa_cons pe_int pa_nil))) (fun _ _ => rfl)) pa_nil)))
            (pa_cons (pe_op op_add pe_int (pe_call GD hr1 rfl A.R.draw.g A.R.draw.F.kp bD .nil pass0 (pa_cons (pv 1) (pa_cons pe_int pa_nil)))) pa_nil)) (by rfl))
        (pss_cons
          (ps_set (i := 5) sc_law.nd rfl (Or.inr rfl) (pe_call GW hr3 rfl A.drawn.g A.drawn.F.kp bW .nil pass0 (pa_cons (pv 1) (pa_cons (pv 3) (pa_cons (pv 4) pa_nil)))))
        (pss_cons
          (ps_set (i := 6) sc_law.nd rfl (Or.inr rfl) (pe_make A.C.made G6 hr5 rfl A.C.g b6 .nil pass0 (pa_cons (pv 3) (pa_cons (pv 4) (pa_cons (pe_callTy call_tuple_of (by rfl) A.B.n_tuple (by decide +kernel) (pa_cons (pe_callTy (KVl.call_listV (by rfl)) (by rfl) A.B.n_list (by decide +kernel) (pa_cons (pe_bm0 PySem.F.plainAttrs_dict PySem.F.slot_dict_values PySem.F.type_dict_values KVl.mt_valuesT (pv 5)) pa_nil)) pa_nil)) pa_nil)))))
        (pss_cons
          (ps_if (pt_cmpR (op_neL0 hu64) (pe_lock (pe_lc (own := [("_law_group", 7)]) (g := gName 7) (by rfl) sc_law.nd (pi_keys (pv 5)) (blkOk_by (own := [("_law_group", 7)]) (N := NLw) (sc := defScope s_law) (by decide +kernel)) (fun _ _ _ _ _ => (pg_name (i := 7) sc_law.nd rfl (Or.inl rfl)))
              (fun _ _ _ _ _ => (pts_one (pt_cmpR op_ne (pe_callB (show CallR _ (.builtin "repr") rRepr from call_repr hgu hu64) (by rfl) A.rp (by decide +kernel) (pa_cons (pe_call GC hr4 (by rfl) A.called.g A.called.F.kp bC .nil pass0 (pa_cons (pv 6) (pa_cons (pv 7) pa_nil))) pa_nil)) (pe_callB (show CallR _ (.builtin "repr") rRepr from call_repr hgu hu64) (by rfl) A.rp (by decide +kernel) (pa_cons (pe_tup (pa_cons pe_str (pa_cons (pe_dget hu (pv 5) (pv 7) (fun _ _ => rfl)) pa_nil))) pa_nil)) (nomark _))))
              (fun _ _ _ _ _ => (pv 7)))) (pe_lst pa_nil) (nomark _))
            (pss_one
              (ps_ret pe_bl))
            pss_nil)
        (pss_cons
          (ps_for PassesOwn.never rfl (pi_range1 rfl A.B.n_range (pa_cons pe_int pa_nil)) (pg_name (i := 8) sc_law.nd rfl (Or.inl rfl))
            (pss_cons
              (ps_set (i := 7) sc_law.nd rfl (Or.inl rfl) (pe_call GO hr3 rfl A.odd.g A.odd.F.kp bO .nil pass0 (pa_cons (pv 1) (pa_cons (pv 3) (pa_cons (pv 4) pa_nil)))))
            (pss_cons
              (ps_asg (pe_tup (pa_cons (pe_callB (call_repr hgu hu64) (by rfl) A.rp (by decide +kernel) (pa_cons (pv 7) pa_nil)) (pa_cons (pe_call GU hr1 rfl A.due.g A.due.F.kp bU .nil pass0 (pa_cons (pv 3) (pa_cons (pv 4) (pa_cons (pv 5) (pa_cons (pv 7) pa_nil))))) pa_nil))) (pg_tup (by rfl) (pgs_cons (pg_name (i := 9) sc_law.nd rfl (Or.inl rfl)) (pgs_cons (pg_name (i := 10) sc_law.nd rfl (Or.inr rfl)) pgs_nil))))
            (pss_cons
              (ps_set (i := 11) sc_law.nd rfl (Or.inl rfl) (pe_lst (pa_cons (pe_call GC hr4 rfl A.called.g A.called.F.kp bC .nil pass0 (pa_cons (pv 6) (pa_cons (pv 7) pa_nil))) (pa_cons (pe_call GC hr4 rfl A.called.g A.called.F.kp bC .nil pass0 (pa_cons (pv 6) (pa_cons (pv 7) pa_nil))) pa_nil))))
            (pss_cons
              (ps_if (PW.pt (pw_or (pt_cmpR op_ne (pe_callB (call_repr hgu hu64) (by rfl) A.rp (by decide +kernel) (pa_cons (pv 11) pa_nil)) (pe_callB (call_repr hgu hu64) (by rfl) A.rp (by decide +kernel) (pa_cons (pe_lst (pa_cons (pv 10) (pa_cons (pv 10) pa_nil))) pa_nil)) (nomark _)) (pw_or1 (pt_cmpR op_ne (pe_callB (call_repr hgu hu64) (by rfl) A.rp (by decide +kernel) (pa_cons (pv 7) pa_nil)) (pv 9) (nomark _)))))
                (pss_one
                  (ps_ret pe_bl))
                pss_nil)
            (pss_one
              (ps_if (pt_not (pt_val (pe_callG GR hgu hr5 rfl A.rr.g A.rr.F.kp bR .nil pass0 (pa_cons (pv 1) (pa_cons (pv 3) (pa_cons (pv 4) (pa_cons (pv 5) (pa_cons (pv 6) pa_nil))))))))
                (pss_one
                  (ps_ret pe_bl))
                pss_nil)))))))
        (pss_cons
          (ps_asg (pe_tup (pa_cons (ClX.pe_cmeth (pe_glob (v := .ref A.C.C) rfl A.C.g rfl) A.rd A.mid.M GLr hr pass0 (pa_cons (pv 3) pa_nil)) (pa_cons (pe_call GM hr3 rfl A.middle.g A.middle.F.kp bM .nil pass0 (pa_cons (pv 3) pa_nil)) pa_nil))) (pg_tup (by rfl) (pgs_cons (pg_name (i := 12) sc_law.nd rfl (Or.inr rfl)) (pgs_cons (pg_name (i := 10) sc_law.nd rfl (Or.inr rfl)) pgs_nil))))
        (pss_cons
          (ps_if (pt_cmpR op_ne (pe_callB (call_repr hgu hu64) (by rfl) A.rp (by decide +kernel) (pa_cons (pe_tup (pa_cons (pe_fld (pv 12) rfl) (pa_cons (pe_fld (pv 12) rfl) (pa_cons (pe_fld (pv 12) rfl) pa_nil)))) pa_nil)) (pe_callB (call_repr hgu hu64) (by rfl) A.rp (by decide +kernel) (pa_cons (pe_tup (pa_cons (pv 3) (pa_cons pe_int (pa_cons (pe_callTy call_tuple_of (by rfl) A.B.n_tuple (by decide +kernel) (pa_cons (pe_callTy (KVl.call_listV (by rfl)) (by rfl) A.B.n_list (by decide +kernel) (pa_cons (pe_bm0 PySem.F.plainAttrs_dict PySem.F.slot_dict_values PySem.F.type_dict_values KVl.mt_valuesT (pv 10)) pa_nil)) pa_nil)) pa_nil)))) pa_nil)) (nomark _))
            (pss_one
              (ps_ret pe_bl))
            pss_nil)
        (pss_cons
          (ps_if (PW.pt (pw_or (pt_cmpR (op_neL0 hu64) (pe_lock (pe_lc (own := [("_law_group", 7)]) (g := gName 7) (by rfl) sc_law.nd (pi_keys (pv 10)) (blkOk_by (own := [("_law_group", 7)]) (N := NLw) (sc := defScope s_law) (by decide +kernel)) (fun _ _ _ _ _ => (pg_name (i := 7) sc_law.nd rfl (Or.inl rfl)))
              (fun _ _ _ _ _ => (pts_one (pt_cmpR op_ne (KCo.pe_callIS (ES := fun _ => E0) (pv 12) A.co GV hr3 bV (fun σ pins H s e s' I c => passN pins σ H s e s' I c) (pa_cons (pv 7) pa_nil)) (pe_dget hu (pv 10) (pv 7) (fun _ _ => rfl)) (nomark _)))) (fun _ _ _ _ _ => (pv 7)))) (pe_lst pa_nil) (nomark _))
              (pw_or1 (pt_cmpR (KO.op_neI A.ne_ GE bE hr2 pass0) (pv 12) (pe_cmeth1 (pe_glob (v := .ref A.C.C) rfl A.C.g rfl) A.rd A.mid.M GL hr A.mkw pass0 (pk_cons (pv 3) pk_nil)) (nomark _)))))
            (pss_one
              (ps_ret pe_bl))
            pss_nil)
        (pss_one
          (ps_if (pt_cmpR (op_neL0 hu64) (pe_lock (pe_lc (own := [("_law_group", 7)]) (g := gName 7) (by rfl) sc_law.nd (pi_keys (pv 5)) (blkOk_by (own := [("_law_group", 7)]) (N := NLw) (sc := defScope s_law) (by decide +kernel)) (fun _ _ _ _ _ => (pg_name (i := 7) sc_law.nd rfl (Or.inl rfl)))
              (fun _ _ _ _ _ => (pts_one (pt_cmpR op_ne (KCo.pe_callIK (pv 6) A.co GV hr3 A.ckw passN (pk_cons (pv 7) pk_nil)) (pe_dget hu (pv 5) (pv 7) (fun _ _ => rfl)) (nomark _)))) (fun _ _ _ _ _ => (pv 7)))) (pe_lst pa_nil) (nomark _))
            (pss_one
              (ps_ret pe_bl))
            pss_nil)))))))))))
    (pss_one
      (ps_ret pe_bl)))), ?_⟩
    have big : ∀ {D : PyData}, cost D ≤ 100000 → D.shown.length ≤ sizeLine := fun {D} h => by
      have z := shown_cost D
      rw [sizeLine_eq]
      omega
    refine ⟨_, rfl, sa, ns, rfl, hs0, hlen, fun d l H1 hd hl e1 D1 => ?_⟩
    refine ⟨4, rfl, by decide, by decide, ?_⟩
    refine for_range (lo := 0) (n := 4) (fun i σ H' => ∃ v2 v3 v4 v5 v6 v7 v8 v9 v10 v11 v12 : Option V, σ = [some (.ref sa), some (.ref d), v2, v3, v4, v5, v6, v7, v8, v9, v10, v11, v12] ∧ DeckAt H' d l (i * 2000))
      ⟨none, none, none, none, none, none, none, none, none, none, none, rfl, D1⟩ ?_ ?_
    · rintro i σ H2 hi ⟨v2, v3, v4, v5, v6, v7, v8, v9, v10, v11, v12, rfl, D2⟩
      obtain ⟨k0, hk0⟩ : ∃ k0, i * 2000 = k0 := ⟨_, rfl⟩
      have hkb : k0 < 8000 := by omega
      rw [hk0] at D2
      -- base
      refine ⟨_, rfl, by show 4 ≤ sizeLine; decide, fun q4 hq4 => ?_⟩
      have e3 : Same H2 (upd H2 q4 (.lst [V.int 3, V.int 2, V.int 3, V.int 1])) := same_new hq4
      have h3 : upd H2 q4 (.lst [V.int 3, V.int 2, V.int 3, V.int 1]) q4 = some (.lst [V.int 3, V.int 2, V.int 3, V.int 1]) := upd_same
      have n3 : q4 ≠ l := (D2.ne hq4).2
      generalize upd H2 q4 (.lst [V.int 3, V.int 2, V.int 3, V.int 1]) = H3 at e3 h3 ⊢
      have D3 := D2.same e3
      refine ⟨_, rfl, d, l, 4, k0, rfl, D3, by decide, by decide, by omega, fun j H4 j0 j1 D4 o4 => ?_⟩
      have h4 := lst_off h3 n3 D3 o4
      obtain ⟨m, m1, m3, hm⟩ : ∃ m : Nat, 1 ≤ m ∧ m ≤ 3 ∧ [V.int 3, V.int 2, V.int 3, V.int 1][j.toNat]? = some (V.int (m : Nat)) := by
        have : j.toNat = 0 ∨ j.toNat = 1 ∨ j.toNat = 2 ∨ j.toNat = 3 := by omega
        rcases this with z | z | z | z <;> rw [z]
        · exact ⟨3, by decide, by decide, rfl⟩
        · exact ⟨2, by decide, by decide, rfl⟩
        · exact ⟨3, by decide, by decide, rfl⟩
        · exact ⟨1, by decide, by decide, rfl⟩
      refine ⟨q4, _, j, V.int (m : Nat), rfl, rfl, SqL.of h4, at_of (j := j.toNat) (by omega) hm, d, l, m, k0 + 1, rfl, D4, by omega, by omega, fun b xs H5 _ D5 o5 hb5 xlen inP asc => ?_⟩
      have D5 := D5.up (k := k0 + 4) (by omega)
      have ok : ∀ x ∈ xs, nameOk x = true := fun x hx => pool_ok x (inP x hx)
      have l1 : 1 ≤ xs.length := by omega
      have l3 : xs.length ≤ 3 := by omega
      clear hq4 h3 h4 n3 e3 hm j0 j1 D4 o4 D3 o5
      -- count
      refine ⟨_, rfl, d, l, 2, k0 + 4, rfl, D5, by decide, by decide, by omega, fun j2 H6 a0 a1 D6 o6 => ?_⟩
      obtain ⟨k, hk, ek⟩ : ∃ k : Nat, (k = 3 ∨ k = 4) ∧ (3 : Int) + j2 = (k : Nat) := by
        have : j2 = 0 ∨ j2 = 1 := by omega
        rcases this with z | z <;> rw [z]
        · exact ⟨3, .inl rfl, rfl⟩
        · exact ⟨4, .inr rfl, rfl⟩
      refine ⟨_, _, rfl, rfl, V.ref b, V.int (k : Nat), by rw [← ek], ?_⟩
      have hb6 := tup_off hb5 D5 o6
      clear D5 hb5 o6 a0 a1 ek
      -- table
      refine ⟨_, rfl, _, rfl, _, rfl, d, l, b, xs, k, k0 + 5, rfl, D6, by omega, hb6, asc, ok, l1, l3, hk, fun t ks rs H7 ht7 D7 o7 htab eks hks G => ?_⟩
      have hb7 := tup_off hb6 D6 o7
      have lks : ks.length = (ptsL k xs).length := by
        have z := congrArg List.length eks
        rw [List.length_map] at z
        exact z
      have lrs : ks.length = (rs.map V.str).length := by rw [List.length_map, lks, G.len]
      clear D6 hb6 o7 ht7 hks
      -- vote
      refine ⟨_, rfl, _, rfl, _, rfl, .inr (.inr (.inl ⟨rfl, .inr ⟨_, htab⟩⟩)), t, _, rfl, rfl, htab, fun p1 hp1 => ⟨p1, t, _, rfl, upd_same, same_new hp1 _ _ htab, fun l2 hl2 => ⟨l2, _, rfl, .inl ⟨SqL.of upd_same, fun r hr2 => ?_⟩⟩⟩⟩
      rw [dt_vals lrs] at hr2 ⊢
      have e78 := same_trans (same_new (o := KVl.valsO p1 t) hp1) (same_trans (same_new (o := .lst (rs.map V.str)) hl2) (same_new (o := .tup (rs.map V.str)) hr2))
      refine fun x dx hx hdx ne => make_vtW (t := t) (e78 _ _ hb7) upd_same G (e78 _ _ htab) hx hdx ne fun HA eA' vt => ⟨rfl, ?_⟩
      have eA := same_trans e78 eA'
      have hbA := eA _ _ hb7
      have htA := eA _ _ htab
      have DA := D7.same eA
      clear e78 eA' hx hdx ne hr2 hl2 hp1 eA hb7 htab D7
      have vals : ∀ {g : List Str}, g ∈ ptsL k xs → ∃ u ∈ rs, lookS (ptsL k xs) rs g = some u ∧ vdue xs k rs (some (g.map some)) = .inr u := fun {g} hg => by
        obtain ⟨v, hv, h1, h2⟩ := vdue_in G (pts_sub k g hg) (pts_wid xs k g hg)
        exact ⟨v, hv, h1, h2⟩
      have k4 : k ≤ 4 := by omega
      -- the calls with the rows of the table
      refine ⟨t, _, htA, trivial, fun od => ⟨_, rfl, t, od, rfl, .inr ⟨_, upd_same, fun D hD => ?_⟩⟩⟩
      have hvL := vt.lock (od := od) (u := .dT (KDz.dtOf ks (rs.map V.str))) htA
      have htL : upd HA t (.frz od (.dT (KDz.dtOf ks (rs.map V.str)))) t = some (.frz od (.dT (KDz.dtOf ks (rs.map V.str)))) := upd_same
      refine lc_it walk_keysT (fun i H' => Same (upd HA t (.frz od (.dT (KDz.dtOf ks (rs.map V.str))))) H' ∧ H' D = some (.lst [])) ⟨same_new hD, upd_same⟩ (fun i H' _ z => z.1 _ _ htL) ?_ ?_
      · rintro i2 y H3 H3' hi2 ⟨e3, hD3⟩ ⟨rfl, k', v', q1, hkv, rfl, hq1⟩
        obtain ⟨g, hg, rfl⟩ := dt_get hkv
        rw [KDz.entK_kV] at hq1
        rw [eks] at hg
        obtain ⟨u, hu1, hu2, hu3⟩ := vals hg
        have gl := pts_wid xs k g hg
        have utx := G.tx u hu1
        refine ⟨rfl, _, rfl, _, rfl, x, .ref q1, xs, rs, k, some (g.map some), rfl, hvL.up e3, G, .tup (SqT.of hq1) (its_texts g) (by rw [List.length_map]; omega), fun _ _ => ⟨q1, g, rfl, rfl, hq1⟩, fun p H4 e4 hp _ => ?_⟩
        have s4 := tow_shw hp (fun w hw => by rw [hu3] at hw; cases hw; exact utx) fun wd hw => vdue_word hw
        refine ⟨fun _ => True, .ref p, _, rfl, s4.dq, s4.sh, Nat.le_trans s4.dp (by decide), big (Nat.le_trans s4.ct (by decide)), ?_⟩
        have e34 := same_trans e3 e4
        have dg : DGet H4 t (.ref q1) (valV (KDz.dtOf ks (rs.map V.str)) (KDz.entK g)) := .inr ⟨_, _, q1, .inr ⟨od, e34 _ _ htL⟩, rfl, by rw [KDz.entK_kV]; exact e4 _ _ hq1, rfl⟩
        rw [val_look, eks, hu2] at dg
        refine ⟨_, rfl, _, rfl, t, _, rfl, dg, by show 2 ≤ sizeLine; decide, fun tp htp => ?_⟩
        have e5 : Same H4 (upd H4 tp (.tup [V.str "told", V.str u])) := same_new htp
        have s5 := tow_shw (H := upd H4 tp (.tup [V.str "told", V.str u])) (p := tp) (x := .inr u) upd_same (fun w hw => by cases hw; exact utx) fun wd hw => nomatch hw
        refine ⟨fun _ => True, .ref tp, _, rfl, s5.dq, s5.sh, Nat.le_trans s5.dp (by decide), big (Nat.le_trans s5.ct (by decide)), rfl, false, by rw [hu3, decide_eq_true rfl]; rfl, iteF ?_⟩
        exact ⟨same_trans e34 e5, e5 _ _ (e4 _ _ hD3)⟩
      rintro H3 ⟨e3, hD3⟩
      refine ⟨e3 _ _ htL, by show 0 ≤ sizeLine; exact Nat.zero_le _, fun lz hlz => ?_⟩
      have eAB := same_trans (lock_same htA e3) (same_new (o := .lst []) hlz)
      have nDt : D ≠ t := (ne_of_none htL hD).symm
      have hDB : upd (upd H3 t (.dT (KDz.dtOf ks (rs.map V.str)))) lz (.lst []) D = some (.lst []) := same_new hlz _ _ (by rw [upd_ne nDt]; exact hD3)
      refine ⟨D, lz, [], rfl, rfl, SqL.of hDB, SqL.of upd_same, _, rfl, iteF ?_⟩
      have hbB := eAB _ _ hbA
      have htB := eAB _ _ htA
      have DB := DA.same eAB
      have vtB := vt.up eAB
      clear hDB nDt hlz e3 hD3 hvL htL hD
      generalize upd (upd H3 t (.dT (KDz.dtOf ks (rs.map V.str)))) lz (.lst []) = HB at eAB hbB htB DB vtB ⊢
      clear eAB hbA htA DA vt
      -- odd calls, rows
      refine ⟨8, rfl, by decide, by decide, ?_⟩
      refine for_range (lo := 0) (n := 8) (fun i2 σ H' => ∃ w7 w8 w9 w10 w11 : Option V, σ = [some (.ref sa), some (.ref d), some (V.int (0 + (i : Nat))), some (.ref b), some (.int (k : Nat)), some (.ref t), some (.ref x), w7, w8, w9, w10, w11, v12] ∧ DeckAt H' d l (k0 + 105 + i2 * 220) ∧ Off d l HB H')
        ⟨_, _, _, _, _, rfl, DB, Off.refl⟩ ?_ ?_
      · rintro i2 σ HC hi2 ⟨w7, w8, w9, w10, w11, rfl, DC, oC⟩
        have hbC := tup_off hbB DB oC
        have tbB : TblV HB t xs k rs := ⟨ks, htB, eks⟩
        have tbC := tbB.off DB oC
        have vtC := (vtB.off DB oC).at
        -- group
        refine ⟨_, rfl, _, rfl, _, rfl, d, l, b, k0 + 105 + i2 * 220, xs, k, rfl, DC, by omega, hbC, ok, l1, l3, hk, fun v g Dv HD DD oD hg pl sv => ?_⟩
        have hbD := tup_off hbC DC oD
        have tbD := tbC.off DC oD
        have vtD := vtC.off DC oD
        have szv : Dv.shown.length ≤ sizeLine := big (Nat.le_trans sv.ct (by decide))
        have dpv : Dv.depth ≤ 60 := Nat.le_trans sv.dp (by decide)
        have plx : ∀ u, vdue xs k rs g = .inr u → ∃ (a : Addr) (gs : List Str), v = .ref a ∧ g = some (gs.map some) ∧ HD a = some (.tup (gs.map V.str)) := fun u hu => pl xs rs k u hu
        -- kept, due
        refine ⟨_, rfl, fun _ => True, v, Dv, rfl, sv.dq, sv.sh, dpv, szv, _, rfl, _, rfl, _, rfl, _, rfl, b, t, v, xs, rs, k, g, rfl, hbD, tbD, G, hg, plx, fun p HE eE hpE => ⟨by show 2 ≤ sizeLine; decide, fun T hT => ⟨T, _, rfl, SqT.of upd_same, rfl, _, _, rfl, _, _, rfl, rfl, ?_⟩⟩⟩
        have eF : Same HE (upd HE T (.tup [V.str Dv.shown, V.ref p])) := same_new hT
        generalize upd HE T (.tup [V.str Dv.shown, V.ref p]) = HF at eF ⊢
        have eDF := same_trans eE eF
        -- told
        refine ⟨_, rfl, _, rfl, x, v, xs, rs, k, g, rfl, vtD.up eDF, G, hg.up eDF, (fun u hu => let ⟨a, gs, h1, h2, h3⟩ := plx u hu; ⟨a, gs, h1, h2, eDF _ _ h3⟩), fun p1 HG eG hp1 inr1 => ?_⟩
        have eDG := same_trans eDF eG
        refine ⟨_, rfl, _, rfl, x, v, xs, rs, k, g, rfl, vtD.up eDG, G, hg.up eDG, (fun u hu => let ⟨a, gs, h1, h2, h3⟩ := plx u hu; ⟨a, gs, h1, h2, eDG _ _ h3⟩), fun p2 HH eH hp2 _ => ⟨by show 2 ≤ sizeLine; decide, fun lt hlt => ?_⟩⟩
        have e6 : Same HH (upd HH lt (.lst [V.ref p1, V.ref p2])) := same_new hlt
        have h6 : upd HH lt (.lst [V.ref p1, V.ref p2]) lt = some (.lst [V.ref p1, V.ref p2]) := upd_same
        generalize upd HH lt (.lst [V.ref p1, V.ref p2]) = HI at e6 h6 ⊢
        have tx : ∀ u, vdue xs k rs g = .inr u → TxOk u := fun u hu => G.tx u (inr1 u hu)
        have two : ∀ {H' : Hp} {l p1 p2 : Addr}, H' l = some (.lst [V.ref p1, V.ref p2]) → H' p1 = some (.tup (toldW (vdue xs k rs g))) → H' p2 = some (.tup (toldW (vdue xs k rs g))) → Shw H' (.ref l) (.list [toWD (vdue xs k rs g), toWD (vdue xs k rs g)]) 2 608 := fun {H' l p1 p2} h h1 h2 =>
          (Shws.lst h (Shws.cons (tow_shw h1 tx fun wd hw => vdue_word hw) (Shws.cons (tow_shw h2 tx fun wd hw => vdue_word hw) (Shws.nil (c := 0))))).up (fun _ _ e => e) (by omega) (by omega)
        have s6 := two h6 (e6 _ _ (eH _ _ hp1)) (e6 _ _ hp2)
        refine ⟨_, rfl, fun _ => True, .ref lt, _, rfl, s6.dq, s6.sh, Nat.le_trans s6.dp (by decide), big (Nat.le_trans s6.ct (by decide)), _, rfl, _, rfl, by show 2 ≤ sizeLine; decide, fun l2 hl2 => ?_⟩
        have e7 : Same HI (upd HI l2 (.lst [V.ref p, V.ref p])) := same_new hl2
        have eE7 := same_trans (same_trans eF eG) (same_trans eH (same_trans e6 e7))
        have s7 := two (H' := upd HI l2 (.lst [V.ref p, V.ref p])) (l := l2) upd_same (eE7 _ _ hpE) (eE7 _ _ hpE)
        refine ⟨fun _ => True, .ref l2, _, rfl, s7.dq, s7.sh, Nat.le_trans s7.dp (by decide), big (Nat.le_trans s7.ct (by decide)), rfl, false, by rw [decide_eq_true rfl]; rfl, iteF ?_⟩
        have eD7 := same_trans eE eE7
        refine ⟨_, rfl, fun _ => True, v, Dv, rfl, sv.dq.same eD7, sv.sh, dpv, szv, _, rfl, rfl, false, by rw [decide_eq_true rfl]; rfl, iteF ?_⟩
        generalize upd HI l2 (.lst [V.ref p, V.ref p]) = HJ at e7 eE7 s7 eD7 ⊢
        have DJ := (DD.same eD7).up (k := k0 + 105 + i2 * 220 + 10) (Nat.le_refl _)
        -- rows
        refine ⟨_, rfl, _, rfl, _, rfl, _, rfl, _, rfl, d, l, b, t, x, _, k, xs, rs, rfl, DJ, by omega, eD7 _ _ hbD, tbD.up eD7, vtD.up eD7, G, fun HK DK oK => ⟨true, rfl, iteF ?_⟩⟩
        exact ⟨_, _, _, _, _, rfl, DK.up (by omega), (oC.trans oD).trans ((Off.of eD7).trans oK)⟩
      rintro σ HC ⟨w7, w8, w9, w10, w11, rfl, DC, oC⟩
      have hbC := tup_off hbB DB oC
      have tbC : TblV HC t xs k rs := (show TblV HB t xs k rs from ⟨ks, htB, eks⟩).off DB oC
      have vtC := vtB.off DB oC
      obtain ⟨ks', htC, eks'⟩ := id tbC
      clear hbB htB DB vtB oC eks ks lks lrs
      -- middle
      refine ⟨rfl, _, rfl, b, xs, rfl, hbC, asc, ok, l1, l3, fun o2 HD eD vo => ?_⟩
      refine ⟨_, rfl, b, xs, rfl, eD _ _ hbC, asc, ok, l1, l3, fun t2 k2 HE nt2 eE ht2 ek2 hk2 => ⟨by show 2 ≤ sizeLine; decide, fun T hT => ⟨T, _, rfl, SqT.of upd_same, rfl, _, _, rfl, _, _, rfl, rfl, ?_⟩⟩⟩
      have GM := good_mid asc ok l1 l3
      have vo2 : VtW A.C.C HE o2 xs 3 (midR xs) t2 := by
        obtain ⟨dx, d1, r, tt, h1, kk, g1, g2, g3, g4⟩ := vo
        exact ⟨dx, d1, r, tt, eE _ _ h1, ⟨kk, eE _ _ g1, eE _ _ g2, eE _ _ g3, g4⟩, fun z => by rw [z, nt2] at g3; cases g3⟩
      have eT : Same HE (upd HE T (.tup [V.ref o2, V.ref t2])) := same_new hT
      generalize upd HE T (.tup [V.ref o2, V.ref t2]) = HF at eT ⊢
      have eCF := same_trans eD (same_trans eE eT)
      have hbF := eCF _ _ hbC
      have ht2F := eT _ _ ht2
      have voF := vo2.up eT
      have vtF := vtC.up eCF
      have htF := eCF _ _ htC
      have DF := DC.same eCF
      clear eCF eT eE eD hT vo2 vo ht2 nt2 hk2 hbC htC vtC DC tbC HE HD
      have m100 : (midR xs).length ≤ 100 := by
        have z := pts_few (k := 3) l3 (by omega) 3
        rw [List.take_of_length_le (by rw [List.length_replicate]; exact Nat.le_refl _)] at z
        unfold midR
        rw [List.length_map]
        exact z
      have lm2 : k2.length = ((midR xs).map V.str).length := by
        have z := congrArg List.length ek2
        rw [List.length_map] at z
        unfold midR
        rw [List.length_map, List.length_map]
        exact z
      obtain ⟨dx, d1, r, tt, hins, ⟨kk, hd1, hr1', htt, ekk⟩, ntt⟩ := id voF
      have trip : ∀ {H' : Hp} {q y z : Addr}, H' q = some (.tup [V.ref y, V.int (3 : Nat), V.ref z]) → H' y = some (.tup (xs.map V.str)) → H' z = some (.tup ((midR xs).map V.str)) → Shw H' (.ref q) (.tuple [.tuple (xs.map PyData.str), .int 3, .tuple ((midR xs).map PyData.str)]) 2 20000 := fun {H' q y z} h h1 h2 => by
        have sx := shws_txs (H := H') (g := xs) fun x hx => tx_name (ok x hx)
        have sm := shws_txs (H := H') (g := midR xs) fun x hx => GM.tx x hx
        exact (Shws.tup h (Shws.cons (Shws.tup h1 sx) (Shws.cons ((shw_int (H := H') (i := 3) (by decide)).up (fun _ _ e => e) (show 0 ≤ 0 + 1 by omega) (Nat.le_refl _)) (Shws.cons (Shws.tup h2 sm) (Shws.nil (c := 0)))))).up (fun _ _ e => e) (by omega) (by omega)
      refine ⟨_, rfl, o2, A.C.C, dx, _, _, rfl, hins, A.C.cl, A.C.nd, rfl, _, rfl, o2, A.C.C, dx, _, _, rfl, hins, A.C.cl, A.C.nn, rfl, _, rfl, o2, A.C.C, dx, _, _, rfl, hins, A.C.cl, A.C.nr, rfl, by show 3 ≤ sizeLine; decide, fun tp htp => ?_⟩
      have e1 : Same HF (upd HF tp (.tup [V.ref d1, V.int (3 : Nat), V.ref r])) := same_new htp
      have s1 := trip (H' := upd HF tp (.tup [V.ref d1, V.int (3 : Nat), V.ref r])) (q := tp) upd_same (e1 _ _ hd1) (e1 _ _ hr1')
      refine ⟨fun _ => True, .ref tp, _, rfl, s1.dq, s1.sh, Nat.le_trans s1.dp (by decide), big (Nat.le_trans s1.ct (by decide)), ?_⟩
      generalize upd HF tp (.tup [V.ref d1, V.int (3 : Nat), V.ref r]) = HG at e1 ⊢
      clear htp s1
      refine ⟨_, rfl, _, rfl, .inr (.inr (.inl ⟨rfl, .inr ⟨_, e1 _ _ ht2F⟩⟩)), t2, _, rfl, rfl, e1 _ _ ht2F, fun p1 hp1 => ⟨p1, t2, _, rfl, upd_same, same_new hp1 _ _ (e1 _ _ ht2F), fun l2 hl2 => ⟨l2, _, rfl, .inl ⟨SqL.of upd_same, fun r2 hr2 => ⟨by show 3 ≤ sizeLine; decide, fun tq htq => ?_⟩⟩⟩⟩⟩
      rw [dt_vals lm2] at hr2 htq ⊢
      have e2 := same_trans (same_new (o := KVl.valsO p1 t2) hp1) (same_new (o := .lst ((midR xs).map V.str)) hl2)
      have e3 := same_new (o := .tup ((midR xs).map V.str)) hr2
      have h3 : upd (upd (upd HG p1 (KVl.valsO p1 t2)) l2 (.lst ((midR xs).map V.str))) r2 (.tup ((midR xs).map V.str)) r2 = some (.tup ((midR xs).map V.str)) := upd_same
      generalize upd (upd (upd HG p1 (KVl.valsO p1 t2)) l2 (.lst ((midR xs).map V.str))) r2 (.tup ((midR xs).map V.str)) = HH at e3 h3 htq ⊢
      have e4 : Same HH (upd HH tq (.tup [V.ref b, V.int 3, V.ref r2])) := same_new htq
      have eFI := same_trans e1 (same_trans e2 (same_trans e3 e4))
      have s4 := trip (H' := upd HH tq (.tup [V.ref b, V.int 3, V.ref r2])) (q := tq) upd_same (eFI _ _ hbF) (e4 _ _ h3)
      refine ⟨fun _ => True, .ref tq, _, rfl, s4.dq, s4.sh, Nat.le_trans s4.dp (by decide), big (Nat.le_trans s4.ct (by decide)), rfl, false, by rw [decide_eq_true rfl]; rfl, iteF ?_⟩
      generalize upd HH tq (.tup [V.ref b, V.int 3, V.ref r2]) = HI at eFI ⊢
      have hbI := eFI _ _ hbF
      have ht2I := eFI _ _ ht2F
      have voI := voF.up eFI
      have vtI := vtF.up eFI
      have htI := eFI _ _ htF
      have DI := DF.same eFI
      clear e1 e2 e3 h3 hp1 hl2 hr2 hins hd1 hr1' htt ekk ntt eFI hbF ht2F voF vtF htF DF trip
      have mvals : ∀ {g : List Str}, g ∈ ptsL 3 xs → ∃ u ∈ midR xs, lookS (ptsL 3 xs) (midR xs) g = some u ∧ vdue xs 3 (midR xs) (some (g.map some)) = .inr u := fun {g} hg => by
        obtain ⟨v, hv, h1, h2⟩ := vdue_in GM (pts_sub 3 g hg) (pts_wid xs 3 g hg)
        exact ⟨v, hv, h1, h2⟩
      -- the calls of the middle vote
      refine ⟨t2, _, ht2I, trivial, fun od => ⟨_, rfl, t2, od, rfl, .inr ⟨_, upd_same, fun D hD => ?_⟩⟩⟩
      have hvL := voI.lock (od := od) (u := .dT (KDz.dtOf k2 ((midR xs).map V.str))) ht2I
      have htL : upd HI t2 (.frz od (.dT (KDz.dtOf k2 ((midR xs).map V.str)))) t2 = some (.frz od (.dT (KDz.dtOf k2 ((midR xs).map V.str)))) := upd_same
      refine lc_it walk_keysT (fun i H' => Same (upd HI t2 (.frz od (.dT (KDz.dtOf k2 ((midR xs).map V.str))))) H' ∧ H' D = some (.lst [])) ⟨same_new hD, upd_same⟩ (fun i H' _ z => z.1 _ _ htL) ?_ ?_
      · rintro i2 y H3 H3' hi2 ⟨e3, hD3⟩ ⟨rfl, k', v', q1, hkv, rfl, hq1⟩
        obtain ⟨g, hg, rfl⟩ := dt_get hkv
        rw [KDz.entK_kV] at hq1
        rw [ek2] at hg
        obtain ⟨u, hu1, hu2, hu3⟩ := mvals hg
        have gl := pts_wid xs 3 g hg
        obtain ⟨dy, _, _, _, iy, _⟩ := hvL.up e3
        refine ⟨rfl, _, rfl, o2, rfl, _, rfl, ⟨dy, _, iy⟩, o2, .ref q1, xs, midR xs, 3, some (g.map some), rfl, hvL.up e3, GM, .tup (SqT.of hq1) (its_texts g) (by rw [List.length_map]; omega), fun _ _ => ⟨q1, g, rfl, rfl, hq1⟩, fun u' H4 hd' _ e4 => ?_, fun _ _ _ hd' => nomatch hu3.symm.trans hd'⟩
        obtain rfl : u = u' := Sum.inr.inj (hu3.symm.trans hd')
        have e34 := same_trans e3 e4
        have dg : DGet H4 t2 (.ref q1) (valV (KDz.dtOf k2 ((midR xs).map V.str)) (KDz.entK g)) := .inr ⟨_, _, q1, .inr ⟨od, e34 _ _ htL⟩, rfl, by rw [KDz.entK_kV]; exact e4 _ _ hq1, rfl⟩
        rw [val_look, ek2, hu2] at dg
        exact ⟨_, rfl, _, rfl, t2, _, rfl, dg, rfl, false, by rw [decide_eq_true rfl]; rfl, iteF ⟨e34, e4 _ _ hD3⟩⟩
      rintro H3 ⟨e3, hD3⟩
      refine ⟨e3 _ _ htL, by show 0 ≤ sizeLine; exact Nat.zero_le _, fun lz hlz => ?_⟩
      have eIJ := same_trans (lock_same ht2I e3) (same_new (o := .lst []) hlz)
      have nDt : D ≠ t2 := (ne_of_none htL hD).symm
      have hDJ : upd (upd H3 t2 (.dT (KDz.dtOf k2 ((midR xs).map V.str)))) lz (.lst []) D = some (.lst []) := same_new hlz _ _ (by rw [upd_ne nDt]; exact hD3)
      refine ⟨D, lz, [], rfl, rfl, SqL.of hDJ, SqL.of upd_same, _, rfl, iteF ?_⟩
      have hbJ := eIJ _ _ hbI
      have voJ := (voI.up eIJ).at
      have vtJ := vtI.up eIJ
      have htJ := eIJ _ _ htI
      have DJ := DI.same eIJ
      clear hDJ nDt hlz e3 hD3 hvL htL hD
      generalize upd (upd H3 t2 (.dT (KDz.dtOf k2 ((midR xs).map V.str)))) lz (.lst []) = HJ at eIJ hbJ voJ vtJ htJ DJ ⊢
      clear eIJ hbI ht2I voI vtI htI DI
      -- the middle vote is the one by name
      refine ⟨_, rfl, rfl, _, rfl, _, rfl, b, xs, rfl, hbJ, asc, ok, l1, l3, fun o3 HK eK vo3 => ?_⟩
      have voK := voJ.up eK
      obtain ⟨dy, _, _, _, iy, _⟩ := id voK
      obtain ⟨d3, _, _, _, i3, _⟩ := id vo3
      refine ⟨o2, dy, _, .ref A.C.C, rfl, iy, .base (.ins i3 A.J.cl A.J.ha A.J.hn A.J.htk A.J.hm), A.nf, o2, o3, xs, midR xs, 3, rfl, voK, vo3, ok, GM.sub, true, rfl, _, rfl, iteF ?_⟩
      have vtK := vtJ.up eK
      have htK := eK _ _ htJ
      have DK := DJ.same eK
      clear eK hbJ voJ vtJ htJ DJ voK iy i3 vo3 HJ
      -- the calls by name
      refine ⟨t, _, htK, trivial, fun od => ⟨_, rfl, t, od, rfl, .inr ⟨_, upd_same, fun D hD => ?_⟩⟩⟩
      have hvL := vtK.lock (od := od) (u := .dT (KDz.dtOf ks' (rs.map V.str))) htK
      have htL : upd HK t (.frz od (.dT (KDz.dtOf ks' (rs.map V.str)))) t = some (.frz od (.dT (KDz.dtOf ks' (rs.map V.str)))) := upd_same
      refine lc_it walk_keysT (fun i H' => Same (upd HK t (.frz od (.dT (KDz.dtOf ks' (rs.map V.str))))) H' ∧ H' D = some (.lst [])) ⟨same_new hD, upd_same⟩ (fun i H' _ z => z.1 _ _ htL) ?_ ?_
      · rintro i2 y H3 H3' hi2 ⟨e3, hD3⟩ ⟨rfl, k', v', q1, hkv, rfl, hq1⟩
        obtain ⟨g, hg, rfl⟩ := dt_get hkv
        rw [KDz.entK_kV] at hq1
        rw [eks'] at hg
        obtain ⟨u, hu1, hu2, hu3⟩ := vals hg
        have gl := pts_wid xs k g hg
        obtain ⟨dy, _, _, _, iy, _⟩ := hvL.up e3
        refine ⟨rfl, _, rfl, x, rfl, _, rfl, .ref q1, rfl, ⟨dy, _, iy⟩, x, .ref q1, xs, rs, k, some (g.map some), rfl, hvL.up e3, G, .tup (SqT.of hq1) (its_texts g) (by rw [List.length_map]; omega), fun _ _ => ⟨q1, g, rfl, rfl, hq1⟩, fun u' H4 hd' _ e4 => ?_, fun _ _ _ hd' => nomatch hu3.symm.trans hd'⟩
        obtain rfl : u = u' := Sum.inr.inj (hu3.symm.trans hd')
        have e34 := same_trans e3 e4
        have dg : DGet H4 t (.ref q1) (valV (KDz.dtOf ks' (rs.map V.str)) (KDz.entK g)) := .inr ⟨_, _, q1, .inr ⟨od, e34 _ _ htL⟩, rfl, by rw [KDz.entK_kV]; exact e4 _ _ hq1, rfl⟩
        rw [val_look, eks', hu2] at dg
        exact ⟨_, rfl, _, rfl, t, _, rfl, dg, rfl, false, by rw [decide_eq_true rfl]; rfl, iteF ⟨e34, e4 _ _ hD3⟩⟩
      rintro H3 ⟨e3, hD3⟩
      refine ⟨e3 _ _ htL, by show 0 ≤ sizeLine; exact Nat.zero_le _, fun lz hlz => ?_⟩
      have eKL := same_trans (lock_same htK e3) (same_new (o := .lst []) hlz)
      have nDt : D ≠ t := (ne_of_none htL hD).symm
      have hDL : upd (upd H3 t (.dT (KDz.dtOf ks' (rs.map V.str)))) lz (.lst []) D = some (.lst []) := same_new hlz _ _ (by rw [upd_ne nDt]; exact hD3)
      refine ⟨D, lz, [], rfl, rfl, SqL.of hDL, SqL.of upd_same, _, rfl, iteF ?_⟩
      exact ⟨_, _, _, _, _, _, _, _, _, _, _, rfl, (DK.same eKL).up (by omega)⟩
    · rintro σ H1 ⟨v2, v3, v4, v5, v6, v7, v8, v9, v10, v11, v12, rfl, D1⟩
      exact q H1
end
end K01
/-! The law's walk from a promise that leans on repr: a law is called where nothing is being shown. -/
namespace KG
open PySem PySem.Spec PyProof.Rows L2
section
variable {P : Program} {w : World} {K : PySem.W.Frag} {mg mb : Str → Option Value} {CX : CXT} {k : Nat} {fa a : Addr} {fd : FuncData} {x : Str} {sp : Sp} {s1 : Shared}
/-- what the law's call must leave -/
abbrev LawR (s1 : Shared) : Result → Shared → Prop := fun r s' => r = .ok (.ret (.bool true)) ∧ OldK s1.heap s'.heap ∧ s'.os = s1.os ∧ AllBare s'.gens
/-- from an abstract heap that knows at most the script -/
theorem law_at {o : Obj} (KI : K.In s1.heap) (n1 : s1.heap.Ns mainGlobals mg) (n2 : s1.heap.Ns builtinsNs mb) (n3 : ∀ y : Str, y ≠ "__name__" → mb y = bootBuiltins y) (lim : s1.heap.NoLimit) (g0 : s1.gens = #[]) (hr : Room k callerA)
    (ho : s1.heap.get? a = some o) (nd : ∀ es ep, o.data ≠ .dict es ep) (F : ∀ base : Heap, K.In base → base.Ns mainGlobals mg → FnG P w K mg base CX k fa fd [x] sp) (bd : ∀ (s : Shared) (u : Value), BindsTo s fd ⟨[u], []⟩ [(x, u)])
    (cx : ∀ H e s', CX [] H s1 (fun _ _ _ => False) e s' → False) (H : Hp) (only : Only H) (ok : HOk P w H s1.heap) (h1 : ∀ b, H b ≠ none → b = a) (h2 : H a ≠ none → K.lookup a = none)
    (pr : sp [.ref a] H (fun v _ => v = .bl true) fun _ _ _ => False) : codeAny (model P w) callerA (.call (.ref fa) ⟨[.ref a], []⟩) (LawR s1) s1 := by
  -- what is no object that H knows stands in the base, too
  have inB : ∀ {b : Addr} {u : Obj}, s1.heap.get? b = some u → (H b ≠ none → False) → (hidT s1.heap H).get? b = some u := fun {b u} e n => hidT_get e (by
    cases q : H b with
    | none => rfl
    | some z => exact (n (by rw [q]; exact fun y => nomatch y)).elim)
  have dictB : ∀ {b : Addr} {u : Obj} {es : Array DictEntry} {ep : Nat}, s1.heap.get? b = some u → u.data = .dict es ep → (hidT s1.heap H).get? b = some u := fun {b u es ep} e d => inB e fun z => by
    have q := h1 b z
    rw [q, ho] at e
    rw [Option.some.inj e] at nd
    exact nd _ _ d
  have nsB : ∀ {b : Addr} {m : Str → Option Value}, s1.heap.Ns b m → (hidT s1.heap H).Ns b m := fun ⟨u, es, ep, e, d, r⟩ => ⟨u, es, ep, dictB e d, d, r⟩
  have KB : K.In (hidT s1.heap H) := fun b u e => inB (KI b u e) fun z => by
    have q := h1 b z
    rw [q] at e z
    rw [h2 z] at e
    cases e
  obtain ⟨mc, l1, l2⟩ := lim
  have env : Env0 P w K mg (hidT s1.heap H) callerA [] s1 H :=
    ⟨rfl, ⟨KB, nsB n1, ⟨mb, nsB n2, n3⟩, ⟨mc, nsB l1, l2⟩⟩, fun _ _ e => of_hidT e, Nat.le_of_eq (hidT_size _ _), trivial, fun _ z => (by cases z), ok, .of_eq g0⟩
  refine codeAny_mono ((F _ KB (nsB n1)).go callerA [] s1 H ⟨[.ref a], []⟩ [.ref a] [.ref a] _ _ rfl hr env (bd s1 (.ref a)) (.cons rfl .nil) pr) ?_
  rintro (er | fl) s' z
  · exact (cx H er s' z).elim
  · cases fl with
    | ret u =>
      obtain ⟨v, H', os, bare, un, ok', r, (rfl : v = .bl true)⟩ := z
      have eu : u = Value.bool true := r
      subst eu
      refine ⟨rfl, OldK.of_keep fun b o' e => ?_, os, bare⟩
      cases q : H b with
      | none => exact un.keep b o' e q (fun z => (by cases z)) (by simp)
      | some t =>
        rcases only b with y | ⟨ob, xs, y⟩
        · rw [q] at y
          cases y
        · have y1 := (ok b _ y).1
          have y2 := (ok' b _ (un.frzs b ob _ y)).1
          rw [e] at y1
          cases y1
          exact y2
    | next => exact z.elim
    | brk => exact z.elim
    | cont => exact z.elim
end
/-- the goal that the head leaves, from such a promise -/
theorem walkG {l : PySem.W.OpenLaw} {n k : Nat} {q : Program} {loose : List Str} {XP : (Str → Option Value) → Heap → Prop} {YP : World → Heap → Prop} {d : DefRec} {K : Params → PySem.W.Frag} {CX : CXT} {sp : PySem.W.Frag → Sp} {x : Str}
    (h1 : l.most = some n) (h2 : n ≤ sizeLine) (h3 : d.params.defaults = []) (hr : Room k callerA) (hY : ∀ (w : World) (h : Heap), YP w h → (K w.params).In h)
    (F : ∀ (w : World) (mg : Str → Option Value) (fa : Addr) (h : Heap), (K w.params).In h → h.Ns mainGlobals mg → mg d.name = some (.ref fa) →
      ∃ fd : FuncData, (∀ (s : Shared) (u : Value), BindsTo s fd ⟨[u], []⟩ [(x, u)]) ∧ ∀ base : Heap, (K w.params).In base → base.Ns mainGlobals mg → FnG l.prog w (K w.params) mg base CX k fa fd [x] (sp (K w.params)))
    (pr : ∀ (K : PySem.W.Frag) (H : Hp) (a : Addr) (ns : List Int), ns.length ≤ n → Only H → SqL K H a (ns.map V.int) → sp K [.ref a] H (fun v _ => v = .bl true) fun _ _ _ => False)
    (cx : ∀ (H : Hp) (s : Shared) (e : Value) (s' : Shared), CX [] H s (fun _ _ _ => False) e s' → False) :
    PySem.W.WalkO q loose XP YP l.row.toRowW d [] (fun f vs => PySem.call f vs) := by
  refine Att.attach_call h1 h3 fun w s0 s1 mg mb fa o pm cd doc a vs ns G Y ho hd hcd hmg hobj hints hlen hg => ?_
  have KI := hY w _ Y
  obtain ⟨fd, bd, FF⟩ := F w mg fa _ KI G.T.g hmg
  have rv := vals_ints hints
  have small : ns.length ≤ sizeLine := Nat.le_trans hlen h2
  have nd : ∀ (es : Array DictEntry) (ep : Nat), (Data.seq vs.toArray 0 : Data) ≠ .dict es ep := fun _ _ z => nomatch z
  cases hk : (K w.params).lookup a with
  | some o1 =>
    have e := KI a o1 hk
    rw [hobj] at e
    cases e
    have none0 : ∀ b, (fun _ : Addr => (none : Option HO)) b ≠ none → False := fun b z => z rfl
    refine law_at KI G.T.g G.T.b G.T.builtins G.T.nolimit hg hr hobj (fun _ _ z => nomatch z) FF bd (fun H e s' => cx H s1 e s') (fun _ => none) (fun _ => .inl rfl) (fun b u z => nomatch z) (fun b z => (none0 b z).elim) (fun z => (none0 a z).elim)
      (pr _ _ _ ns hlen (fun _ => .inl rfl) (.inr ⟨_, vs.toArray, _, hk, rfl, rfl, rfl, ?_, ?_⟩))
    · rw [List.size_toArray, hints.length]
      exact small
    · simpa using rv
  | none =>
    have at_ : (fun b => if b = a then some (HO.frz { cls := .type "list", data := .seq vs.toArray } (.lst (ns.map V.int))) else none) a = some (HO.frz { cls := .type "list", data := .seq vs.toArray } (.lst (ns.map V.int))) := if_pos rfl
    have off : ∀ b, b ≠ a → (fun b => if b = a then some (HO.frz { cls := .type "list", data := .seq vs.toArray } (.lst (ns.map V.int))) else none) b = none := fun b z => if_neg z
    generalize (fun b => if b = a then some (HO.frz { cls := .type "list", data := .seq vs.toArray } (.lst (ns.map V.int))) else none) = H at at_ off
    have only : Only H := fun b => by
      by_cases z : b = a
      · rw [z]
        exact .inr ⟨_, _, at_⟩
      · exact .inl (off b z)
    have here : ∀ b, H b ≠ none → b = a := fun b z => by
      by_cases y : b = a
      · exact y
      · exact absurd (off b y) z
    have ok : HOk l.prog w H s1.heap := fun b u z => by
      have e := here b (by rw [z]; exact fun y => nomatch y)
      rw [e, at_] at z
      cases z
      rw [e]
      exact ⟨hobj, by rw [List.length_map]; exact small, vs, _, rv, hobj⟩
    exact law_at KI G.T.g G.T.b G.T.builtins G.T.nolimit hg hr hobj (fun _ _ z => nomatch z) FF bd (fun H e s' => cx H s1 e s') H only ok here (fun _ => hk) (pr _ _ _ ns hlen only (.inl (.inr ⟨_, at_⟩)))
end KG
/-! What the top has written: each def, each class, from what is read there. -/
namespace K01
open PySem PySem.Spec PyProof.Rows L2 KG KS KA KX KIa
open PySem.W (excTail)
section
variable {K : PySem.W.Frag} {h : Heap} {mg : Str → Option Value}
theorem fn_ex (X : K.In h) (G : h.Ns mainGlobals mg) {x : Str} {st : Stmt} {f : Addr} {oc kV doc pm cdv ct : Value} {od an : Option Addr} {osl : Array (Option Value)} (a : PySem.W.nsIn K mainGlobals x = some (some (.ref f)))
    (l : K.lookup f = some ⟨oc, od, .func (PySem.W.fnOf x x (defArgs st) (defBody st) (defScope st) .none kV doc pm an cdv ct), osl⟩) (c : PySem.W.codeIn K cdv x = true) (k : PySem.W.keepIn K (.ref f) = true) : ∃ e : FnF K mg x x st, e.a = f :=
  ⟨⟨f, _, fun_mk l c k, PySem.W.mg_of X G a⟩, rfl⟩
theorem mf_ex (X : K.In h) {C : Addr} {x qual : Str} {st : Stmt} {f : Addr} {oc kV doc pm cdv ct : Value} {od an : Option Addr} {osl : Array (Option Value)} (a : PySem.W.findIn K (.ref C) x = some (some (.ref f)))
    (l : K.lookup f = some ⟨oc, od, .func (PySem.W.fnOf x qual (defArgs st) (defBody st) (defScope st) .none kV doc pm an cdv ct), osl⟩) (c : PySem.W.codeIn K cdv qual = true) (k : PySem.W.keepIn K (.ref f) = true) (i : PySem.W.isFn K (.ref f) = true) :
    ∃ e : MtF K x qual st, e.a = f ∧ PySem.W.findIn K (.ref C) x = some (some (.ref e.a)) ∧ PySem.W.isFn K (.ref e.a) = true := ⟨⟨f, _, fun_mk l c k⟩, rfl, a, i⟩
theorem ci_ex (X : K.In h) {C : Addr} {x qual y : Str} {st : Stmt} {f : Addr} {oc kV doc pm cdv ct : Value} {od an : Option Addr} {osl : Array (Option Value)} (g : PySem.W.nsIn K mainGlobals y = some (some (.ref C))) (a : PySem.W.findIn K (.ref C) x = some (some (.ref f)))
    (l : K.lookup f = some ⟨oc, od, .func (PySem.W.fnOf x qual (defArgs st) (defBody st) (defScope st) .none kV doc pm an cdv ct), osl⟩) (c : PySem.W.codeIn K cdv qual = true) (k : PySem.W.keepIn K (.ref f) = true) : ∃ e : MtF K x qual st, e.a = f := ⟨⟨f, _, fun_mk l c k⟩, rfl⟩
theorem cm_ex (X : K.In h) {C p g : Addr} {mc : Value} {rest : List Value} {m qual : Str} {st : Stmt} {oc kV doc pm cdv ct : Value} {od an : Option Addr} {osl : Array (Option Value)}
    (a : PySem.W.findCls K (.ref C) mc m = some (.get (.builtin "classmethod.__get__") (.ref p) .none (.ref C))) (r : PySem.W.recIn K p "classmethod" = some (.ref g :: rest))
    (l : K.lookup g = some ⟨oc, od, .func (PySem.W.fnOf m qual (defArgs st) (defBody st) (defScope st) .none kV doc pm an cdv ct), osl⟩) (c : PySem.W.codeIn K cdv qual = true) (k : PySem.W.keepIn K (.ref g) = true) (i : PySem.W.fnIn K g = true) :
    Nonempty (MtC K C mc m qual st) := ⟨⟨⟨g, _, fun_mk l c k⟩, p, ⟨a, ⟨_, r⟩, i⟩⟩⟩
theorem rd_ex (X : K.In h) {C : Addr} {mc : Value} (r : PySem.W.readsIn K C mc = true) (g : PySem.W.specialIn K (.ref C) "__getattribute__" = some (some (.builtin "type.__getattribute__"))) : ClX.CRead K C mc := ⟨r, g⟩
theorem kw_ex {m qual : Str} {st : Stmt} {ps : List Str} {k1 : Str} (e : MtF K m qual st)
    (h : ∀ (kV doc pm : Value) (an : Option Addr) (cdv ct : Value) (u v : Value), bindArgs (PySem.W.fnOf m qual (defArgs st) (defBody st) (defScope st) .none kV doc pm an cdv ct) ⟨[u], [(k1, v)]⟩ = pure (ps.zip [u, v])) : KwOne e.d ps k1 := kwOne e.F h
theorem mm_ex (X : K.In h) {C : Addr} {x qual : Str} {st : Stmt} {f : Addr} {oc kV doc pm cdv ct : Value} {od an : Option Addr} {osl : Array (Option Value)} (a : PySem.W.findIn K (.ref C) x = some (some (.ref f)))
    (l : K.lookup f = some ⟨oc, od, .func (PySem.W.fnOf x qual (defArgs st) (defBody st) (defScope st) .none kV doc pm an cdv ct), osl⟩) (c : PySem.W.codeIn K cdv qual = true) (k : PySem.W.keepIn K (.ref f) = true) (i : PySem.W.isFn K (.ref f) = true) :
    ∃ e : MtF K x qual st, Meth K C x e.a := ⟨⟨f, _, fun_mk l c k⟩, a, i, k⟩
theorem bs_ex (X : K.In h) (G : h.Ns mainGlobals mg) {t1 t2 : Tok} (z1 : PySem.W.nsIn K mainGlobals "list" = some none) (z2 : PySem.W.nsIn K mainGlobals "int" = some none) (z3 : PySem.W.nsIn K mainGlobals "len" = some none)
    (z4 : PySem.W.nsIn K mainGlobals "range" = some none) (z5 : PySem.W.nsIn K mainGlobals "tuple" = some none) (z6 : PySem.W.nsIn K mainGlobals "repr" = some none) (z7 : PySem.W.nsIn K mainGlobals "isinstance" = some none)
    (z8 : PySem.W.nsIn K mainGlobals "all" = some none) (z9 : PySem.W.nsIn K mainGlobals "sorted" = some none) (zA : PySem.W.nsIn K mainGlobals "set" = some none) (zB : PySem.W.nsIn K mainGlobals "str" = some none) (zC : PySem.W.nsIn K mainGlobals "bool" = some none)
    (zD : PySem.W.nsIn K mainGlobals "dict" = some none) (zE : PySem.W.nsIn K mainGlobals "zip" = some none) (zF : PySem.W.nsIn K mainGlobals "min" = some none) (zG : PySem.W.nsIn K mainGlobals "max" = some none)
    (c1 : PySem.W.nsIn K mainGlobals "LONGEST_NAME" = some (some (.int 8 t1))) (c2 : PySem.W.nsIn K mainGlobals "MOST_VALUES" = some (some (.int 3 t2))) : By mg :=
  { n_list := PySem.W.mg_none_of X G z1, n_int := PySem.W.mg_none_of X G z2, n_len := PySem.W.mg_none_of X G z3, n_range := PySem.W.mg_none_of X G z4, n_tuple := PySem.W.mg_none_of X G z5, n_repr := PySem.W.mg_none_of X G z6,
    n_isinstance := PySem.W.mg_none_of X G z7, n_all := PySem.W.mg_none_of X G z8, n_sorted := PySem.W.mg_none_of X G z9, n_set := PySem.W.mg_none_of X G zA, n_str := PySem.W.mg_none_of X G zB, n_bool := PySem.W.mg_none_of X G zC,
    n_dict := PySem.W.mg_none_of X G zD, n_zip := PySem.W.mg_none_of X G zE, n_min := PySem.W.mg_none_of X G zF, n_max := PySem.W.mg_none_of X G zG, c_name := ⟨t1, PySem.W.mg_of X G c1⟩, c_vals := ⟨t2, PySem.W.mg_of X G c2⟩ }
theorem vt_ex (X : K.In h) (G : h.Ns mainGlobals mg) {C f : Addr} (g : PySem.W.nsIn K mainGlobals "Vote" = some (some (.ref C))) (pg : PySem.W.plainGet K C Str.empty = true) (hd : PySem.W.hasDictIn K C = true) (po : PySem.W.plainOver K C = true)
    (sa : PySem.W.findIn K (.ref C) "__setattr__" = some (some (.builtin "object.__setattr__"))) (mk : PySem.W.makesIn K C = true) (i : PySem.W.findIn K (.ref C) "__init__" = some (some (.ref f))) (fn : PySem.W.isFn K (.ref f) = true) (kp : PySem.W.keepIn K (.ref C) = true)
    (n1 : PySem.W.findIn K (.ref C) "domain" = some none) (n2 : PySem.W.findIn K (.ref C) "count" = some none) (n3 : PySem.W.findIn K (.ref C) "results" = some none) (n4 : PySem.W.findIn K (.ref C) "result_of" = some none)
    (ha : PySem.W.findIn K (.ref C) "__class__" = some (some (.builtin "object.__class__"))) (hn : PySem.W.specialIn K (.builtin "object.__class__") "__get__" = some (some (.builtin "getset_descriptor.__get__"))) (htk : PySem.W.takesIn K (.builtin "object.__class__") = some true)
    (hm : PySem.W.mroIn K C (.type "object") = some true) :
    ∃ tc : VtC K mg f, tc.C = C ∧ C8.InsC K tc.C := ⟨⟨C, PySem.W.mg_of X G g, ⟨pg, hd, po, sa⟩, ⟨mk, i, fn, kp⟩, n1, n2, n3, n4⟩, rfl, ⟨⟨pg, hd, po, sa⟩, ha, hn, htk, hm, by unfold PySem.W.kitOne; rw [if_pos (beq_self_eq_true _)]⟩⟩
/-- the class of the error -/
theorem er_ex (X : K.In h) (G : h.Ns mainGlobals mg) {C N f : Addr} {nm q : Str} {bs bm : List Value} {sn : List Str} {sub : List Value} {ab : Bool} {col : Option Bool} {dd : Option Addr} {m0 m1 m2 m3 m5 : Option Value} {oc kV doc pm cdv ct : Value} {od an : Option Addr} {osl : Array (Option Value)}
    (g : PySem.W.nsIn K mainGlobals "NoVote" = some (some (.ref C))) (gn : PySem.W.specialIn K (.builtin "object.__class__") "__get__" = some (some (.builtin "getset_descriptor.__get__"))) (tk : PySem.W.takesIn K (.builtin "object.__class__") = some true)
    (l : K.lookup C = some (excClassObj nm q C N bs bm true sn sub ab col dd m0 m1 m2 m3 m5 "Exception.__new__")) (tl : excTail exTl bm = true)
    (sa : PySem.W.findIn K (.ref C) "__setattr__" = some (some (.builtin "object.__setattr__"))) (ga : PySem.W.findIn K (.ref C) "__getattribute__" = some (some (.builtin "BaseException.__getattribute__"))) (gg : PySem.W.findIn K (.ref C) "__getattr__" = some none)
    (bx : PySem.W.subIn K (.ref C) (.type "BaseException") = some true) (kp : PySem.W.keepIn K (.ref C) = true) (hd : PySem.W.hasDictIn K C = true) (cl : PySem.W.findIn K (.ref C) "__class__" = some (some (.builtin "object.__class__")))
    (mo : PySem.W.mroIn K C (.type "object") = some true) (ty : PySem.W.typeIn K (.ref C) = some (.type "type"))
    (i : PySem.W.findIn K (.ref C) "__init__" = some (some (.ref f))) (t : PySem.W.typeIn K (.ref f) = some (.type "function")) (n : PySem.W.findIn K (.ref C) "word" = some none)
    (lf : K.lookup f = some ⟨oc, od, .func (PySem.W.fnOf "__init__" "NoVote.__init__" (defArgs s_noInit) (defBody s_noInit) (defScope s_noInit) .none kV doc pm an cdv ct), osl⟩) (c : PySem.W.codeIn K cdv "NoVote.__init__" = true) (k : PySem.W.keepIn K (.ref f) = true)
    (ms : PySem.W.mroIn K C (.ref C) = some true) : ∃ e : ErC K mg, XfC K e.C := by
  have hcls : (PySem.W.clsIn K C).isSome = true := by
    unfold PySem.W.clsIn
    rw [l]
    rfl
  have ex : PySem.W.exmOne K (.ref C) (.ref C) = some true := by
    unfold PySem.W.exmOne
    rw [bx, if_pos (by rfl)]
    unfold PySem.W.kitCls
    dsimp only
    rw [if_pos (by rw [hcls, ty]; exact beq_self_eq_true _)]
    exact ms
  have xf : xfB K C = true := by simp [xfB, ga, gg, bx, hd]
  exact ⟨⟨C, PySem.W.mg_of X G g, ⟨⟨nm, q, N, bs, _, sn, sub, ab, col, dd, m0, m1, m2, m3, m5, l, tl⟩, sa, ga, gg, bx, kp, hd, cl, gn, tk, mo⟩, f, _, fun_mk lf c k, i, t, n, ty, ex⟩, xfB_ok xf⟩
theorem law_ex {P : Program} {w : World} {fa : Addr} (hfa : mg "law" = some (.ref fa)) (A : All K mg) (f : FnF K mg "law" "law" s_law) :
    ∃ fd : FuncData, (∀ (s : Shared) (u : Value), BindsTo s fd ⟨[u], []⟩ [("_law_script", u)]) ∧ ∀ base : Heap, K.In base → base.Ns mainGlobals mg → FnG P w K mg base CX0 7 fa fd ["_law_script"] (spLaw K) := by
  have e : fa = f.a := Value.ref.inj (Option.some.inj (hfa.symm.trans f.g))
  subst e
  have bd : ∀ (s : Shared) (u : Value), BindsTo s f.d ⟨[u], []⟩ [("_law_script", u)] := by
    obtain ⟨oc, od, kV, doc, pm, an, cdv, ct, osl, e, _, _⟩ := f.F.ex
    rw [e]
    exact fun s u => .of_eq rfl
  exact ⟨f.d, bd, fun base _ _ => ok_law A f⟩
end
end K01
open PySem PySem.W PyProof.Rows
set_option maxRecDepth 100000 in
set_option maxHeartbeats 0 in
theorem PySem.Challenge.cw_clashnumber_k30_votes_called_holds : PySem.Challenge.rw_clashnumber_k30_votes_called.Holds := by
  w_on; o_law; k_head; (case hw => w_witness2)
  k_fill
  refine KG.walkG (l := PySem.Challenge.rw_clashnumber_k30_votes_called) (n := 63) (k := 7) (x := "_law_script") (CX := L2.CX0) (sp := K01.spLaw) rfl (by decide) rfl ⟨rfl, by decide, by decide⟩ (fun w h Y => PySem.W.kIn_of Y) ?F (fun _ _ a ns hl _ hS => ⟨a, ns, rfl, hS, hl, fun _ => rfl⟩) (fun _ _ _ _ z => z)
  case F =>
    intro w mg fa h KX G hmg
    have B := K01.bs_ex KX G (by k_is) (by k_is) (by k_is) (by k_is) (by k_is) (by k_is) (by k_is) (by k_is) (by k_is) (by k_is) (by k_is) (by k_is) (by k_is) (by k_is) (by k_is) (by k_is) (by k_is) (by k_is)
    obtain ⟨f_is_domain, -⟩ := K01.fn_ex (x := "is_domain") (st := K01.s_is_domain) KX G (by k_is) (by k_is) (by k_is) (by k_is)
    obtain ⟨f_are_names, -⟩ := K01.fn_ex (x := "are_names") (st := K01.s_are_names) KX G (by k_is) (by k_is) (by k_is) (by k_is)
    obtain ⟨f_is_name, -⟩ := K01.fn_ex (x := "is_name") (st := K01.s_is_name) KX G (by k_is) (by k_is) (by k_is) (by k_is)
    obtain ⟨f_ascending, -⟩ := K01.fn_ex (x := "ascending") (st := K01.s_ascending) KX G (by k_is) (by k_is) (by k_is) (by k_is)
    obtain ⟨f_is_row, -⟩ := K01.fn_ex (x := "is_row") (st := K01.s_is_row) KX G (by k_is) (by k_is) (by k_is) (by k_is)
    obtain ⟨f_all_rows, -⟩ := K01.fn_ex (x := "all_rows") (st := K01.s_all_rows) KX G (by k_is) (by k_is) (by k_is) (by k_is)
    obtain ⟨f_without, -⟩ := K01.fn_ex (x := "without") (st := K01.s_without) KX G (by k_is) (by k_is) (by k_is) (by k_is)
    obtain ⟨f_winner, -⟩ := K01.fn_ex (x := "winner") (st := K01.s_winner) KX G (by k_is) (by k_is) (by k_is) (by k_is)
    obtain ⟨f__law_deck, -⟩ := K01.fn_ex (x := "_law_deck") (st := K01.s__law_deck) KX G (by k_is) (by k_is) (by k_is) (by k_is)
    obtain ⟨f__law_draw, -⟩ := K01.fn_ex (x := "_law_draw") (st := K01.s__law_draw) KX G (by k_is) (by k_is) (by k_is) (by k_is)
    obtain ⟨f__law_pick, -⟩ := K01.fn_ex (x := "_law_pick") (st := K01.s__law_pick) KX G (by k_is) (by k_is) (by k_is) (by k_is)
    obtain ⟨f__law_names, -⟩ := K01.fn_ex (x := "_law_names") (st := K01.s__law_names) KX G (by k_is) (by k_is) (by k_is) (by k_is)
    obtain ⟨f__law_points, -⟩ := K01.fn_ex (x := "_law_points") (st := K01.s__law_points) KX G (by k_is) (by k_is) (by k_is) (by k_is)
    obtain ⟨f__law_drawn, -⟩ := K01.fn_ex (x := "_law_drawn") (st := K01.s__law_drawn) KX G (by k_is) (by k_is) (by k_is) (by k_is)
    obtain ⟨f__law_middle, -⟩ := K01.fn_ex (x := "_law_middle") (st := K01.s__law_middle) KX G (by k_is) (by k_is) (by k_is) (by k_is)
    obtain ⟨f__law_called, -⟩ := K01.fn_ex (x := "_law_called") (st := K01.s__law_called) KX G (by k_is) (by k_is) (by k_is) (by k_is)
    obtain ⟨f__law_due_call, -⟩ := K01.fn_ex (x := "_law_due_call") (st := K01.s__law_due_call) KX G (by k_is) (by k_is) (by k_is) (by k_is)
    obtain ⟨f__law_odd_call, -⟩ := K01.fn_ex (x := "_law_odd_call") (st := K01.s__law_odd_call) KX G (by k_is) (by k_is) (by k_is) (by k_is)
    obtain ⟨f__law_voted, -⟩ := K01.fn_ex (x := "_law_voted") (st := K01.s__law_voted) KX G (by k_is) (by k_is) (by k_is) (by k_is)
    obtain ⟨f__law_rows_right, -⟩ := K01.fn_ex (x := "_law_rows_right") (st := K01.s__law_rows_right) KX G (by k_is) (by k_is) (by k_is) (by k_is)
    obtain ⟨f_law, -⟩ := K01.fn_ex (x := "law") (st := K01.s_law) KX G (by k_is) (by k_is) (by k_is) (by k_is)
    obtain ⟨N, XF⟩ := K01.er_ex KX G (by k_is) (by k_is) (by k_is) (by k_is) (by first | rfl | decide +kernel) (by k_is) (by k_is) (by k_is) (by k_is) (by k_is) (by k_is) (by k_is) (by k_is) (by k_is) (by k_is) (by k_is) (by k_is) (by k_is) (by k_is) (by k_is) (by k_is)
    obtain ⟨vi, hvi⟩ := K01.ci_ex KX (y := "Vote") (x := "__init__") (qual := "Vote.__init__") (st := K01.s_vtInit) (by k_is) (by k_is) (by k_is) (by k_is) (by k_is)
    obtain ⟨cc, hC, J⟩ := K01.vt_ex (f := vi.a) KX G (by k_is) (by k_is) (by k_is) (by k_is) (by k_is) (by k_is) (by rw [hvi]; k_is) (by rw [hvi]; k_is) (by k_is) (by k_is) (by k_is) (by k_is) (by k_is) (by k_is) (by k_is) (by k_is) (by k_is)
    obtain ⟨m_call, hcall, i_call, n_call⟩ := K01.mf_ex KX (C := cc.C) (x := "__call__") (qual := "Vote.__call__") (st := K01.s_vtCall) (by rw [hC]; k_is) (by k_is) (by k_is) (by k_is) (by k_is)
    obtain ⟨m_eq, heq, i_eq, n_eq⟩ := K01.mf_ex KX (C := cc.C) (x := "__eq__") (qual := "Vote.__eq__") (st := K01.s_vtEq) (by rw [hC]; k_is) (by k_is) (by k_is) (by k_is) (by k_is)
    have NE : KO.NeC _ cc.C m_eq.a := ⟨by rw [hC]; k_is, by rw [hC]; k_is, i_eq, n_eq⟩
    have CO : StX.CallO _ cc.C m_call.a := ⟨i_call, n_call, by rw [hcall]; k_is⟩
    have R := K01.rd_ex KX (C := cc.C) (mc := .type "type") (by rw [hC]; k_is) (by rw [hC]; k_is)
    obtain ⟨m_mid⟩ := K01.cm_ex KX (C := cc.C) (mc := .type "type") (m := "middle") (qual := "Vote.middle") (st := K01.s_vtMid) (by rw [hC]; k_is) (by k_is) (by k_is) (by k_is) (by k_is) (by k_is)
    obtain ⟨m_rows, M_rows⟩ := K01.mm_ex KX (C := cc.C) (x := "rows_voted") (qual := "Vote.rows_voted") (st := K01.s_vtRows) (by rw [hC]; k_is) (by k_is) (by k_is) (by k_is) (by k_is)
    exact K01.law_ex hmg ⟨B, B.n_repr, ⟨f_is_domain, f_are_names, f_is_name, f_ascending, f_is_row, f_all_rows, f_winner, f_without⟩, vi, cc, J, N, XF, m_call, CO, K01.kw_ex m_call (fun _ _ _ _ _ _ _ _ => rfl), m_eq, NE, (by rw [hC]; k_is), m_rows, M_rows, _, R, m_mid, K01.kw_ex m_mid.f (fun _ _ _ _ _ _ _ _ => rfl),
      f__law_deck, f__law_names, f__law_points, f__law_drawn, f__law_middle, f__law_called, f__law_due_call, f__law_odd_call, ⟨f__law_draw, f__law_pick, f__law_voted⟩, f__law_rows_right⟩ f_law
