import PyProof.Rows.All
import Wide.All
import OpenK.AllK
import Wide.FinOn
import HandS.TupSets
import KE.KeyNested
import KE.SortData
import HandS.ForMost
import HandS.Star
import PyProof.ReprRoads
import HandS.Dict
import HandS.Style
import HandS.Evl
import HandS.IsInst
import HandS.StrMore
import HandS.Strs
import HandS.TupAny
import HandS.Lambda
import HandS.Nested
import HandS.SortKw
import KE.SortKeyHeap
import KE.DataFind
import KE.DataMinMax
import PyProof.EqKinds
import PyProof.FactsAll.dict_1
import KE.KDictZip
import KE.KDictKeyed
import KE.GoesZip
import KE.GoesMore
import KE.GoesEnum
import HandS.More
import PyProof.ListNew
import PyProof.CollectWalk
import HandS.ExcInit
import HandS.ExcSuper
import HandS.ExcIs
import HandS.ExcField
import KE.KExcInit
import HandS.Zip
import HandS.Comp
import HandS.TryMany
import HandS.ExcValue
import HandS.ForExc
import PyProof.FactsAll.subtypes_4
import PyProof.FactsAll.subtypes_1
import PyProof.StrLawsRepr
import PyProof.NeKinds
import HandS.OwnEq
import HandS.ClsMeth
import HandS.Walk
import HandS.Text
import HandS.MakeKw
import HandS.SlotsOwn
import HandS.Deep
import HandS.TupMul
import HandS.TupLe
import HandS.Ends
import HandS.EndBits
import PySem.Challenge.RW_clashnumber_k32_choices_of_any_value
set_option Elab.async false
set_option linter.all false
set_option maxRecDepth 100000
set_option maxHeartbeats 16000000
/-! Sets of texts, sets of tuples of texts and numbers: what they hold, the small questions asked of a key, adding a text. -/
namespace KS
open PySem PySem.Spec PyProof.Rows L2

/-- a member: its value, its key -/
abbrev Mem := Value × NestedKey
/-- of a set of texts (false), of a set of tuples (true) -/
def Fit : Bool → Mem → Prop
  | false, m => ∃ x t, m = (Value.str x t, NestedKey.text x)
  | true, m => ∃ c ks, m.1 = Value.ref c ∧ m.2 = NestedKey.tup ks ∧ m.2.depth ≤ 8
def ents (w : World) (L : List Mem) : List (Int × Value) := L.map fun m => (m.2.hash w, m.1)
abbrev hs (w : World) (L : List Mem) : List Int := L.map fun m => m.2.hash w
/-- the set at a: its members in the table's order -/
structure SetK (b : Bool) (w : World) (h : Heap) (a : Addr) (L : List Mem) (es : Array (Int × Value)) (ep : Nat) (t : SetTable) : Prop where
  ob : ∃ o, h.get? a = some o ∧ o.ExactSet ∧ o.data = .set es ep t
  eq : es.toList = ents w L
  nd : (L.map (·.2)).Nodup
  fit : ∀ m ∈ L, Fit b m
  key : ∀ m ∈ L, NestedIs h m.2 m.1
  ris : Ris t.place.toList
  full : t.fits es.size = true
  led : w.params.followText "set-order" = true ∨ t.led = true
  few : L.length < 64
  tab : b = true → TabOk t (hs w L) ∧ L.length * 5 < t.mask * 3
section
variable {P : Program} {w : World} {A : Around} {E : Value → Shared → Prop} {s : Shared} {b : Bool} {a : Addr} {L : List Mem} {es : Array (Int × Value)} {ep : Nat} {t : SetTable}
theorem SetK.size (R : SetK b w s.heap a L es ep t) : es.size = L.length := by
  rw [← Array.length_toList, R.eq, ents, List.length_map]
theorem ents_perm {w : World} {L L' : List Mem} (h : L.Perm L') : (ents w L).Perm (ents w L') := h.map _
theorem ents_get {w : World} {L : List Mem} {es : Array (Int × Value)} (h : es.toList = ents w L) {i : Nat} {m : Mem} (e : L[i]? = some m) : es[i]? = some (m.2.hash w, m.1) := by
  rw [← Array.getElem?_toList, h, ents, List.getElem?_map, e]
  rfl

/-! the small questions -/
theorem all_mem {h : Heap} : ∀ {ks : List NestedKey} {vs : List Value}, NestedAll h ks vs → ∀ v ∈ vs, ∃ k, NestedIs h k v ∧ k.depth ≤ NestedKey.depthAll ks
  | [], _, x, v, hv => by
    cases x
    cases hv
  | k :: ks, _, x, v, hv => by
    cases x with
    | cons x1 x2 =>
      rcases List.mem_cons.mp hv with e | hv
      · rw [e]
        exact ⟨k, x1, Nat.le_max_left _ _⟩
      · obtain ⟨k', y1, y2⟩ := all_mem x2 v hv
        exact ⟨k', y1, Nat.le_trans y2 (Nat.le_max_right _ _)⟩
theorem cls_key : ∀ (n : Nat) (k : NestedKey) (v : Value) (A : Around) (s : Shared) (Q : Bool → Shared → Prop), NestedIs s.heap k v → k.depth ≤ n → Q false s → wpAny (model P w) A (ofAClassStatement n v) Q E s
  | n, .none, _, A, s, Q, x, _, q => by
    cases x
    cases n <;> exact wpAny_pure q
  | n, .num i, _, A, s, Q, x, _, q => by
    cases x <;> cases n <;> exact wpAny_pure q
  | n, .text y, _, A, s, Q, x, _, q => by
    cases x
    cases n <;> exact wpAny_pure q
  | 0, .tup ks, _, A, s, Q, x, hd, q => by
    simp only [NestedKey.depth] at hd
    omega
  | n + 1, .tup ks, _, A, s, Q, x, hd, q => by
    cases x with
    | @tup c o vs m _ h1 h2 h3 h4 =>
      simp only [NestedKey.depth] at hd
      have ty : s.TypeIs (.ref c) "tuple" := ⟨o, h1, h2⟩
      unfold ofAClassStatement
      refine wpAny_bind (wpAny_typeOf ty ?_)
      dsimp only
      have e : (("tuple" : String) == "tuple") = true := by decide
      simp only [e, if_true, Bool.not_true, Bool.false_eq_true, if_false]
      try refine wpAny_bind (wpAny_pure ?_)
      try simp only [Bool.not_true, Bool.false_eq_true, if_false]
      show wpAny _ _ (seqItems? (.ref c) >>= _) _ _ s
      refine wpAny_bind (wpAny_seqItems h1 h3 ?_)
      dsimp only
      refine wpAny_bind ?_
      show wpAny _ _ (forIn vs _ _) _ _ s
      rw [← Array.forIn_toList]
      refine wpAny_forIn_list _ (fun rest r s' => r.1 = none ∧ s' = s ∧ ∀ u ∈ rest, u ∈ vs.toList) _ ?_ ?_ _ _ ⟨rfl, rfl, fun _ hu => hu⟩
      · rintro u rest r s' ⟨hr, rfl, hall⟩
        obtain ⟨k', y1, y2⟩ := all_mem h4 u (hall u List.mem_cons_self)
        refine wpAny_bind (cls_key n k' u A s' _ y1 (by omega) ?_)
        simp only [Bool.false_eq_true, if_false]
        exact wpAny_pure ⟨rfl, rfl, fun z hz => hall z (List.mem_cons_of_mem _ hz)⟩
      · rintro ⟨r1, r2⟩ s' ⟨hr, rfl, _⟩
        simp only at hr
        subst hr
        exact wpAny_pure q
theorem byVal_key : ∀ (n : Nat) (k : NestedKey) (v : Value) (A : Around) (s : Shared) (Q : Bool → Shared → Prop), NestedIs s.heap k v → (∀ c, Q c s) → wpAny (model P w) A (hashByValue n v) Q E s
  | n, .none, _, A, s, Q, x, q => by
    cases x
    cases n <;> exact wpAny_pure (q _)
  | n, .num i, _, A, s, Q, x, q => by
    cases x <;> cases n <;> exact wpAny_pure (q _)
  | n, .text y, _, A, s, Q, x, q => by
    cases x
    cases n <;> exact wpAny_pure (q _)
  | 0, .tup ks, _, A, s, Q, x, q => by
    cases x
    exact wpAny_pure (q _)
  | n + 1, .tup ks, _, A, s, Q, x, q => by
    cases x with
    | @tup c o vs m _ h1 h2 h3 h4 =>
      have ty : s.TypeIs (.ref c) "tuple" := ⟨o, h1, h2⟩
      unfold hashByValue
      refine wpAny_bind (wpAny_specialOf ty F.slot_tuple_hash.lookup ?_)
      show wpAny _ _ (seqItems? (.ref c) >>= _) _ _ s
      refine wpAny_bind (wpAny_seqItems h1 h3 ?_)
      refine wpAny_bind ?_
      show wpAny _ _ (forIn vs _ _) _ _ s
      rw [← Array.forIn_toList]
      refine wpAny_forIn_list _ (fun rest r s' => r.1 = none ∧ s' = s ∧ ∀ u ∈ rest, u ∈ vs.toList) _ ?_ ?_ _ _ ⟨rfl, rfl, fun _ hu => hu⟩
      · rintro u rest r s' ⟨hr, rfl, hall⟩
        obtain ⟨k', y1, y2⟩ := all_mem h4 u (hall u List.mem_cons_self)
        refine wpAny_bind (byVal_key n k' u A s' _ y1 fun c => ?_)
        cases c
        · simp only [Bool.not_false, if_true]
          exact wpAny_pure (wpAny_pure (q _))
        · simp only [Bool.not_true, Bool.false_eq_true, if_false]
          exact wpAny_pure ⟨rfl, rfl, fun z hz => hall z (List.mem_cons_of_mem _ hz)⟩
      · rintro ⟨r1, r2⟩ s' ⟨hr, rfl, _⟩
        simp only at hr
        subst hr
        exact wpAny_pure (q _)
theorem wp_two {α : Type} {M : Model} {c : Prop} [Decidable c] {x y : Sem α} {Q : α → Shared → Prop} (h1 : c → wpAny M A x Q E s) (h2 : ¬ c → wpAny M A y Q E s) : wpAny M A (if c then x else y) Q E s := by
  split
  · exact h1 (by assumption)
  · exact h2 (by assumption)
/-- a search among tuples shows nothing -/
theorem seen_key {k : NestedKey} {c : Addr} {Q : Bool → Shared → Prop} (hk : NestedIs s.heap k (.ref c)) (hd : k.depth ≤ 8) {ys : List Value} (hy : ∀ y ∈ ys, ∃ k', NestedIs s.heap k' y ∧ k'.depth ≤ 8) (q : Q false s) :
    wpAny (model P w) A (searchCouldBeSeen (.ref c) ys) Q E s := by
  unfold searchCouldBeSeen
  refine wpAny_bind ?_
  refine wpAny_forIn_list _ (fun (rest : List Value) r s' => r.1 = none ∧ s' = s ∧ ∀ y ∈ rest, y ∈ ys) _ ?_ ?_ _ _ ⟨rfl, rfl, fun _ h => h⟩
  · intro y rest r s' hI
    obtain ⟨hr, rfl, hall⟩ := hI
    obtain ⟨k', y1, y2⟩ := hy y (hall y List.mem_cons_self)
    have keep : ∀ z ∈ rest, z ∈ ys := fun z hz => hall z (List.mem_cons_of_mem _ hz)
    dsimp only
    refine wp_two (fun _ => ?_) fun _ => ?_
    · exact wpAny_pure ⟨rfl, rfl, keep⟩
    · refine wpAny_bind (quiet_key k _ 8 s' hk hd A E _ ?_)
      simp only [Bool.not_true, Bool.false_eq_true, if_false]
      refine wpAny_bind (quiet_key k' _ 8 s' y1 y2 A E _ ?_)
      simp only [Bool.not_true, Bool.false_eq_true, if_false]
      refine wpAny_bind (cls_key 8 k _ A s' _ hk hd ?_)
      simp only [Bool.false_eq_true, if_false]
      refine wpAny_bind (cls_key 8 k' _ A s' _ y1 y2 ?_)
      simp only [Bool.false_eq_true, if_false]
      exact wpAny_pure ⟨rfl, rfl, keep⟩
  · rintro ⟨r1, r2⟩ s' ⟨hr, rfl, _⟩
    simp only at hr
    subst hr
    exact wpAny_pure q
/-- what the set's own writing leaves -/
theorem key_but {h h' : Heap} {o : Obj} (ho : h.get? a = some o) (hd : o.data = .set es ep t) (sb : Heap.SameBut a h h') {k : NestedKey} {v : Value} (x : NestedIs h k v) : NestedIs h' k v :=
  NestedIs.at (fun c o2 vs n e1 e2 => (sb.2 c fun z => by
    rw [z, ho] at e1
    rw [← Option.some.inj e1, hd] at e2
    cases e2).trans e1) k v x
theorem SetK.keep {h h' : Heap} (R : SetK b w h a L es ep t) (ha : ∀ o, h.get? a = some o → h'.get? a = some o) (hk : ∀ m ∈ L, NestedIs h' m.2 m.1) : SetK b w h' a L es ep t := by
  obtain ⟨o, ho, r⟩ := R.ob
  exact { R with ob := ⟨o, ha o ho, r⟩, key := hk }
theorem setK_new {h : Heap} (b : Bool) (ho : h.get? a = some { cls := .type "set", dict := none, data := .set #[] 0 (.fresh 0 0 (!w.params.followText "set-order")) }) : SetK b w h a [] #[] 0 (.fresh 0 0 (!w.params.followText "set-order")) where
  ob := ⟨_, ho, ⟨rfl, rfl, rfl⟩, rfl⟩
  eq := rfl
  nd := List.nodup_nil
  fit := fun _ z => nomatch z
  key := fun _ z => nomatch z
  ris := List.Pairwise.nil
  full := rfl
  led := by
    show _ ∨ (!w.params.followText "set-order") = true
    cases w.params.followText "set-order"
    · exact .inr rfl
    · exact .inl rfl
  few := by decide
  tab := fun _ => ⟨⟨List.Pairwise.nil, rfl, rfl, .inl rfl, fun _ z => (by cases z), fun i h j z => (by simp at z)⟩, by show 0 * 5 < 7 * 3; decide⟩

/-! adding a text -/
theorem text_elems (h : ∀ m ∈ L, Fit false m) : ElemsOf (PySem.strKind P w) (ents w L) := fun e he => by
  obtain ⟨m, hm, rfl⟩ := List.mem_map.mp he
  obtain ⟨x, tk, rfl⟩ := h m hm
  exact ⟨⟨x, strKind_is _ _ _ _, rfl⟩, rfl⟩
theorem text_is (h : ∀ m ∈ L, Fit false m) {y : Str} : (∃ e ∈ ents w L, (PySem.strKind P w).is y e.2 = true) ↔ NestedKey.text y ∈ L.map (·.2) := by
  constructor
  · rintro ⟨e, he, q⟩
    obtain ⟨m, hm, rfl⟩ := List.mem_map.mp he
    obtain ⟨x, tk, rfl⟩ := h m hm
    have e2 : x = y := beq_iff_eq.mp (show (x == y) = true from q)
    exact List.mem_map.mpr ⟨_, hm, by rw [e2]⟩
  · intro hm
    obtain ⟨m, hm, e⟩ := List.mem_map.mp hm
    obtain ⟨x, tk, rfl⟩ := h m hm
    have e2 : x = y := NestedKey.text.inj e
    exact ⟨_, List.mem_map.mpr ⟨_, hm, rfl⟩, by
      show (x == y) = true
      rw [e2]
      exact beq_self_eq_true y⟩
/-- what adding leaves -/
def Added (b : Bool) (w : World) (s : Shared) (a : Addr) (L : List Mem) (m : Mem) (Q : Bool → Shared → Prop) : Prop := ∀ c h' L' es' ep' t', Heap.SameBut a s.heap h' → SetK b w h' a L' es' ep' t' →
  (m.2 ∈ L.map (·.2) → L' = L) → (m.2 ∉ L.map (·.2) → L'.Perm (m :: L)) → Q c { s with heap := h' }
theorem perm_back {α β : Type} (f : α → β) : ∀ (l : List β) (M : List α), l.Perm (M.map f) → ∃ M' : List α, l = M'.map f ∧ M'.Perm M
  | [], M, h => by
    have e : M.map f = [] := List.nil_perm.mp h
    have e2 : M = [] := List.map_eq_nil_iff.mp e
    exact ⟨[], rfl, by rw [e2]⟩
  | y :: r, M, h => by
    obtain ⟨x, hx, e⟩ := List.mem_map.mp (h.mem_iff.mp List.mem_cons_self)
    obtain ⟨A, B, rfl⟩ := List.append_of_mem hx
    subst e
    have pm : (A ++ x :: B).Perm (x :: (A ++ B)) := List.perm_middle
    have h2 := h.trans (pm.map f)
    rw [List.map_cons] at h2
    obtain ⟨M', e1, p⟩ := perm_back f r (A ++ B) (List.Perm.cons_inv h2)
    exact ⟨x :: M', by rw [List.map_cons, e1], (p.cons x).trans pm.symm⟩
theorem ents_of_perm {w : World} {l : List (Int × Value)} {M : List Mem} (h : l.Perm (ents w M)) : ∃ L', l = ents w L' ∧ L'.Perm M := perm_back _ l M h
theorem SetK.perm {h' : Heap} {L' : List Mem} {m : Mem} (R : SetK b w s.heap a L es ep t) (hm : m.2 ∉ L.map (·.2)) (pm : L'.Perm (m :: L)) : (L'.map (·.2)).Nodup ∧ L'.length = L.length + 1 :=
  ⟨(pm.map (·.2)).nodup_iff.mpr (by
    rw [List.map_cons]
    exact List.nodup_cons.mpr ⟨hm, R.nd⟩), by rw [pm.length_eq, List.length_cons]⟩
/-- behind a new text's storing: the table laid anew, if it is too full -/
theorem text_tail {g : Bool → Sem Unit} (hg : ∀ (c : Bool) (s1 : Shared) (Q' : Unit → Shared → Prop), Q' () s1 → wpAny (model P w) A (g c) Q' E s1)
    {o : Obj} (ho : s.heap.get? a = some o) (hex : o.ExactSet) (hd : o.data = .set es ep t) {L1 : List Mem} {es1 : Array (Int × Value)} {t1 : SetTable}
    (e1 : es1.toList = ents w L1) (nd : (L1.map (·.2)).Nodup) (fit : ∀ m ∈ L1, Fit false m) (key : ∀ m ∈ L1, NestedIs s.heap m.2 m.1) (few : L1.length < 64)
    (full : t1.fits es1.size = true) (ris : Ris t1.place.toList) (led : w.params.followText "set-order" = true ∨ t1.led = true) {d : Bool} {R : Option Bool → Shared → Prop}
    (q : ∀ h' L' es' ep' t', Heap.SameBut a s.heap h' → SetK false w h' a L' es' ep' t' → L'.Perm L1 → R (some true) { s with heap := h' }) :
    wpAny (model P w) A (do
        storeSet a es1 t1
        if (!d && t1.tooFull) = true then do
            g (relayAll t1 es1 (SetTable.grown es1.size)).2.2
            storeSet a (relayAll t1 es1 (SetTable.grown es1.size)).1 (relayAll t1 es1 (SetTable.grown es1.size)).2.1
            pure (some true)
          else pure (some true)) R E s := by
  have z1 : es1.size = L1.length := by rw [← Array.length_toList, e1, ents, List.length_map]
  refine wpAny_bind (wpAny_storeSet_of ho hd ?_ (by rw [z1, sizeLine_eq]; omega))
  have ho1 := L2.store_at (es' := es1) (t' := t1) ho hd
  have sb1 := Heap.SameBut.update s.heap a (Obj.putSet es1 t1)
  have key1 : ∀ m ∈ L1, NestedIs (s.heap.update a (Obj.putSet es1 t1)) m.2 m.1 := fun m hm => key_but ho hd sb1 (key m hm)
  split
  · have pm := relayAll_perm t1 es1 (SetTable.grown es1.size)
    have f2 := relayAll_fits t1 es1 (SetTable.grown es1.size)
    have r2 := relayAll_ris t1 es1 (SetTable.grown es1.size)
    have l2 := relayAll_led t1 es1 (SetTable.grown es1.size)
    generalize relayAll t1 es1 (SetTable.grown es1.size) = Z at pm f2 r2 l2 ⊢
    obtain ⟨es2, t2, gave⟩ := Z
    dsimp only at pm f2 r2 l2 ⊢
    rw [e1] at pm
    obtain ⟨L2', e2, p2⟩ := ents_of_perm pm
    have z2 : es2.size = L2'.length := by rw [← Array.length_toList, e2, ents, List.length_map]
    refine wpAny_bind (hg _ _ _ (wpAny_bind (wpAny_storeSet_of ho1 rfl ?_ (by rw [z2, p2.length_eq, sizeLine_eq]; omega))))
    have ho2 := L2.store_at (es' := es2) (t' := t2) ho1 rfl
    have sb2 := Heap.SameBut.update (s.heap.update a (Obj.putSet es1 t1)) a (Obj.putSet es2 t2)
    exact wpAny_pure (q _ L2' es2 _ t2 (sb1.trans sb2) ⟨⟨_, ho2, hex, rfl⟩, e2, (p2.map (·.2)).nodup_iff.mpr nd, fun m hm => fit m (p2.mem_iff.mp hm), fun m hm => key_but ho1 rfl sb2 (key1 m (p2.mem_iff.mp hm)),
      r2, f2, led.imp id fun z => by rw [l2]; exact z, by rw [p2.length_eq]; exact few, fun z => by cases z⟩ p2)
  · exact wpAny_pure (q _ L1 es1 _ t1 sb1 ⟨⟨_, ho1, hex, rfl⟩, e1, nd, fit, key1, ris, full, led, few, fun z => by cases z⟩ (List.Perm.refl _))
theorem add_text {x : Str} {tk : Tok} {Q : Bool → Shared → Prop} (R : SetK false w s.heap a L es ep t) (room : L.length + 1 < 64) (q : Added false w s a L (.str x tk, .text x) Q) :
    wpAny (model P w) A (setAddHashed a (.str x tk) (hashStr w x)) Q E s := by
  obtain ⟨o, ho, hex, hd⟩ := R.ob
  have hf := R.full
  have hel : ElemsOf (PySem.strKind P w) es.toList := by rw [R.eq]; exact text_elems R.fit
  have sc : (Value.str x tk).scannable = true := rfl
  have ki : (PySem.strKind P w).is x (.str x tk) = true := strKind_is _ _ _ _
  have zs : es.size < scanBound := by
    rw [R.size]
    show L.length < 4096
    omega
  unfold setAddHashed setAddHashedIn
  refine wpAny_holding (wpAny_bind (wpAny_setState_of ho hd hf ?_))
  dsimp only
  rw [byScan_of sc zs hel]
  simp only [↓reduceIte]
  unfold setAddByScan
  refine wpAny_bind (wpAny_bind (wpAny_rule (wpAny_bind ?_)))
  show wpAny _ _ (setScan a (.str x tk) ((PySem.strKind P w).hash x) true es) _ _ s
  refine wpAny_setScan_of ki ho hd hf hel ?_
  cases hfi : List.findIdx? (fun e => (PySem.strKind P w).is x e.2) es.toList with
  | some j =>
    dsimp only
    obtain ⟨hj, pj, _⟩ := List.findIdx?_eq_some_iff_getElem.mp hfi
    have hm : NestedKey.text x ∈ L.map (·.2) := (text_is (P := P) R.fit).1 ⟨_, by rw [← R.eq]; exact List.getElem_mem hj, pj⟩
    exact wpAny_pure (wpAny_pure (q _ s.heap L es ep t (Heap.SameBut.refl a s.heap) R (fun _ => rfl) fun z => absurd hm z))
  | none =>
    dsimp only
    have hm : NestedKey.text x ∉ L.map (·.2) := fun z => by
      obtain ⟨e, he, c1⟩ := (text_is (P := P) R.fit).2 z
      rw [← R.eq] at he
      have c2 := List.findIdx?_eq_none_iff.mp hfi e he
      rw [c1] at c2
      cases c2
    have pm := layNew_perm t es (hashStr w x) (.str x tk)
    have f1 := layNew_fits t es (hashStr w x) (.str x tk)
    have r1 := layNew_ris t es (hashStr w x) (.str x tk) R.ris
    have l1 := layNew_led t es (hashStr w x) (.str x tk)
    generalize layNew t es (hashStr w x) (.str x tk) = Z at pm f1 r1 l1 ⊢
    obtain ⟨es1, t1, was, gave⟩ := Z
    dsimp only at pm f1 r1 l1 ⊢
    have pc : es1.toList.Perm (ents w ((Value.str x tk, NestedKey.text x) :: L)) := by
      rw [Array.toList_push, R.eq] at pm
      exact pm.trans (List.perm_append_singleton _ _)
    obtain ⟨L1, e1, p1⟩ := ents_of_perm pc
    obtain ⟨nd1, n1⟩ := R.perm (h' := s.heap) hm p1
    have fit1 : ∀ m ∈ L1, Fit false m := fun m hm => by
      rcases List.mem_cons.mp (p1.mem_iff.mp hm) with z | z
      · rw [z]
        exact ⟨x, tk, rfl⟩
      · exact R.fit m z
    have key1 : ∀ m ∈ L1, NestedIs s.heap m.2 m.1 := fun m hm => by
      rcases List.mem_cons.mp (p1.mem_iff.mp hm) with z | z
      · rw [z]
        exact .text _ _
      · exact R.key m z
    have led1 : w.params.followText "set-order" = true ∨ t1.led = true := R.led.imp id fun z => by rw [l1]; exact z
    have fin : ∀ h' L' es' ep' t', Heap.SameBut a s.heap h' → SetK false w h' a L' es' ep' t' → L'.Perm L1 → Q true { s with heap := h' } := fun h' L' es' ep' t' sb r p => q true h' L' es' ep' t' sb r (fun z => absurd z hm) fun _ => p.trans p1
    have gw : ∀ (c : Bool) {s1 : Shared} {Q' : Unit → Shared → Prop}, Q' () s1 → wpAny (model P w) A (match c with | true => rule "set.scan.the-table-gave-way" | false => pure ()) Q' E s1 :=
      fun c s1 Q' h => by cases c <;> first | exact wpAny_pure h | exact wpAny_rule h
    refine wpAny_bind (gw _ ?_)
    split
    · refine wpAny_bind ?_
      rw [hashByValue_scannable 8 sc]
      refine wpAny_pure ?_
      refine text_tail (L1 := L1) ?_ ho hex hd e1 nd1 fit1 key1 (by omega) ?_ ?_ ?_ ?_
      · intro c s1 Q' h; cases c <;> first | exact wpAny_pure h | exact wpAny_rule h
      · first | (split <;> first | exact f1 | exact SetTable.fits_plain_off f1) | exact f1
      · first | (split <;> exact r1) | exact r1
      · first | (split <;> exact led1) | exact led1
      · intro h' L' es' ep' t' sb r p; dsimp only; exact wpAny_pure (fin h' L' es' ep' t' sb r p)
    · refine wpAny_bind (wpAny_pure ?_)
      simp only [↓reduceIte]
      refine text_tail (L1 := L1) ?_ ho hex hd e1 nd1 fit1 key1 (by omega) f1 r1 led1 ?_
      · intro c s1 Q' h; cases c <;> first | exact wpAny_pure h | exact wpAny_rule h
      · intro h' L' es' ep' t' sb r p; dsimp only; exact wpAny_pure (fin h' L' es' ep' t' sb r p)
end
end KS
/-! Sets of tuples: the search, adding a tuple; one promise of adding for both kinds. -/
namespace KS
open PySem PySem.Spec PyProof.Rows L2
section
variable {P : Program} {w : World} {A : Around} {E : Value → Shared → Prop} {s : Shared} {a : Addr} {L : List Mem} {es : Array (Int × Value)} {ep : Nat} {t : SetTable}
/-- the walk from the start of hash h in a table of mask m -/
abbrev go (m : Nat) (h : Int) (c : Nat) : SetTable.Probe := nth m (runAt m (SetTable.bits h % (m + 1)) (SetTable.bits h)) c
theorem go_add (m : Nat) (h : Int) (c q : Nat) : nth m (go m h c) q = go m h (c + q) := (nth_add m c _ q).symm
theorem go_j (m : Nat) (h : Int) (c q : Nat) : (nth m (go m h c) q).j = way m h (c + q) := congrArg SetTable.Probe.j (go_add m h c q)
theorem nth_dummy (m : Nat) : ∀ (n : Nat) (p : SetTable.Probe), p.dummy = none → (nth m p n).dummy = none
  | 0, _, h => h
  | n + 1, p, h => nth_dummy m n (adv m p) (by
    unfold adv
    split <;> exact h)
theorem odd_gw {t : SetTable} (h : MaskOk t.mask) : ¬ t.gaveWay = true := by
  unfold SetTable.gaveWay
  rw [mask_odd h]
  decide
/-- the search among tuples from the c-th step on; the way's first empty slot is step K -/
theorem hunt (R : SetK true w s.heap a L es ep t) {x : Addr} {k : NestedKey} (hx : NestedIs s.heap k (.ref x)) (kd : k.depth ≤ 8) (hu : A.units + 8 < cLine) {K : Nat} (hKf : K < 10 * SetTable.turns t.mask)
    (hK : way t.mask (k.hash w) K ∉ t.place.toList) (hKb : ∀ c, c < K → way t.mask (k.hash w) c ∈ t.place.toList) {Q : SetFound → Shared → Prop}
    (hin : k ∈ L.map (·.2) → Q (.there none) s) (hout : k ∉ L.map (·.2) → Q (.free (way t.mask (k.hash w) K) false) s) :
    ∀ (f c : Nat) (st : Option SetTable.Probe), st.getD (t.probeStart (k.hash w)) = go t.mask (k.hash w) c → c ≤ K → K - c < f →
      (∀ (i : Nat) m, L[i]? = some m → m.2 = k → ∃ c', c ≤ c' ∧ c' < K ∧ t.place.toList[i]? = some (way t.mask (k.hash w) c')) →
      wpAny (model P w) A (setSearchFrom a (.ref x) (k.hash w) true f st) Q E s
  | 0, c, st, _, _, hf, _ => absurd hf (Nat.not_lt_zero _)
  | f + 1, c, st, hst, hc, hf, left => by
    obtain ⟨o, ho, _, hd⟩ := R.ob
    have tb := (R.tab rfl).1
    have fin2 : ∀ (i : Nat) (m : Mem), L[i]? = some m → (fun i => (es[i]?.map (·.1)).getD 0) i = m.2.hash w := fun i m e => by
      show (es[i]?.map (·.1)).getD 0 = _
      rw [ents_get R.eq e]
      rfl
    rw [setSearchFrom_succ]
    refine wpAny_bind (wpAny_setState_of ho hd R.full ?_)
    dsimp only
    refine wp_if_neg (odd_gw tb.mok) ?_
    try refine wpAny_bind (wpAny_pure ?_)
    have sp := go_spec t R.ris tb.dm (fun i => (es[i]?.map (·.1)).getD 0) (k.hash w) (10 * SetTable.turns t.mask) (K - c) (go t.mask (k.hash w) c) (nth_dummy _ c _ rfl) (by omega)
      (fun q hq => by rw [go_j]; exact hKb (c + q) (by omega)) (by rw [go_j, show c + (K - c) = K by omega]; exact hK)
    rcases sp with ⟨q, i, hq, hi, hh, hno, hpr⟩ | ⟨hno, hpr⟩
    · rw [go_add, go_add, ← hst] at hpr
      rw [show t.probe (fun i => (es[i]?.map (·.1)).getD 0) (k.hash w) (st.getD (t.probeStart (k.hash w))) = _ from hpr]
      dsimp only
      rw [go_j] at hi
      have il : i < L.length := by
        have n1 : i < t.place.toList.length := (List.getElem?_eq_some_iff.mp hi).1
        have n2 := tb.sz
        rw [List.length_map] at n2
        rw [Array.length_toList] at n1
        omega
      have hp : L[i]? = some L[i] := List.getElem?_eq_getElem il
      generalize L[i] = m at hp
      have mm : m ∈ L := List.mem_of_getElem? hp
      obtain ⟨y, ks, e1, e2, d2⟩ := R.fit m mm
      have my := R.key m mm
      rw [e1] at my
      have slot : t.slot (way t.mask (k.hash w) (c + q)) = .live i := slot_live R.ris hi
      have rest : wpAny (model P w) A (searchRest a (.ref x) (k.hash w) true f es t (way t.mask (k.hash w) (c + q)) i (go t.mask (k.hash w) (c + (q + 1)))) Q E s := by
        unfold searchRest
        rw [ents_get R.eq hp, e1]
        dsimp only
        refine wpAny_bind (wpAny_holding (eqAt_key m.2 k A s _ _ my hx (by omega) P w _ _ ?_))
        refine wpAny_bind (wpAny_setState_of ho hd R.full ?_)
        dsimp only
        rw [← NestedKey.decide_eq]
        by_cases hkk : m.2 = k
        · refine wp_if_pos (by simp [hkk]) ?_
          exact wpAny_pure (hin (List.mem_map.mpr ⟨m, mm, hkk⟩))
        · refine wp_if_neg (by simp [hkk]) ?_
          try refine wpAny_bind (wpAny_pure ?_)
          rw [sameMem]
          dsimp only
          simp only [if_true, slot, ents_get R.eq hp, e1]
          refine wpAny_bind (wpAny_isSame_ref_self (wpAny_bind (wpAny_pure ?_)))
          simp only [if_true]
          refine wp_if_neg (by simp [hkk]) ?_
          refine hunt R hx kd hu hKf hK hKb hin hout f (c + (q + 1)) _ rfl (by omega) (by omega) fun j m' e' k' => ?_
          obtain ⟨c', a1, a2, a3⟩ := left j m' e' k'
          refine ⟨c', ?_, a2, a3⟩
          rcases Nat.lt_trichotomy c' (c + q) with z | z | z
          · exact absurd ((fin2 j m' e').trans (congrArg (NestedKey.hash w) k')) (hno (c' - c) j (by omega) (by rw [go_j, show c + (c' - c) = c' by omega]; exact a3))
          · rw [z] at a3
            have s0 := slot_live R.ris a3
            rw [slot] at s0
            injection s0 with s0
            rw [← s0, hp] at e'
            exact absurd ((congrArg Prod.snd (Option.some.inj e')).trans k') hkk
          · omega
      by_cases hl : t.led = true
      · refine wp_if_neg (by simp [hl]) ?_
        try refine wpAny_bind (wpAny_pure ?_)
        exact rest
      · refine wp_if_pos (by simp [hl]) (wpAny_bind (seen_key hx kd (fun z hz => ?_) ?_))
        · obtain ⟨e, he, ee⟩ := List.mem_map.mp hz
          have he1 : e ∈ es ∧ e.1 = k.hash w := by simpa using he
          have he2 : e ∈ es.toList := by simpa using he1.1
          rw [R.eq] at he2
          obtain ⟨m2, hm2, e3⟩ := List.mem_map.mp he2
          obtain ⟨_, _, _, _, d3⟩ := R.fit m2 hm2
          refine ⟨m2.2, ?_, d3⟩
          rw [← ee, ← e3]
          exact R.key m2 hm2
        · refine wp_if_neg (by decide) ?_
          try refine wpAny_bind (wpAny_pure ?_)
          exact rest
    · rw [go_j, show c + (K - c) = K by omega, ← hst] at hpr
      rw [show t.probe (fun i => (es[i]?.map (·.1)).getD 0) (k.hash w) (st.getD (t.probeStart (k.hash w))) = _ from hpr]
      dsimp only
      refine wpAny_pure (hout fun hm => ?_)
      obtain ⟨m0, h0, hk0⟩ := List.mem_map.mp hm
      obtain ⟨j, hj⟩ := List.mem_iff_getElem?.mp h0
      obtain ⟨c', a1, a2, a3⟩ := left j m0 hj hk0
      exact absurd ((fin2 j m0 hj).trans (congrArg (NestedKey.hash w) hk0)) (hno (c' - c) j (by omega) (by rw [go_j, show c + (c' - c) = c' by omega]; exact a3))
theorem hunt_at (R : SetK true w s.heap a L es ep t) {x : Addr} {k : NestedKey} (hx : NestedIs s.heap k (.ref x)) (kd : k.depth ≤ 8) (hu : A.units + 8 < cLine) {Q : SetFound → Shared → Prop}
    (hin : k ∈ L.map (·.2) → Q (.there none) s)
    (hout : ∀ K, k ∉ L.map (·.2) → way t.mask (k.hash w) K ∉ t.place.toList → (∀ c, c < K → way t.mask (k.hash w) c ∈ t.place.toList) → Q (.free (way t.mask (k.hash w) K) false) s) :
    wpAny (model P w) A (setSearch a (.ref x) (k.hash w) true) Q E s := by
  obtain ⟨tb, room⟩ := R.tab rfl
  have n2 := tb.sz
  rw [List.length_map] at n2
  obtain ⟨K, hKf, hK, hKb⟩ := tb.first (by rw [List.length_map]; omega) (k.hash w)
  have big : K < 100000 := by
    have : 10 * SetTable.turns t.mask ≤ 1420 := by
      unfold SetTable.turns
      rcases tb.mok with e | e | e <;> omega
    omega
  unfold setSearch
  refine hunt R hx kd hu hKf hK hKb hin (fun hn => hout K hn hK hKb) 100000 0 none rfl (Nat.zero_le _) (by omega) fun i m e ek => ?_
  have hi : (hs w L)[i]? = some (k.hash w) := by
    rw [List.getElem?_map, e, ← ek]
    rfl
  have il : i < t.place.toList.length := by
    have := (List.getElem?_eq_some_iff.mp e).1
    rw [Array.length_toList]
    omega
  obtain ⟨c, hc, ec⟩ := tb.before hK hi (List.getElem?_eq_getElem il)
  exact ⟨c, Nat.zero_le _, hc, by rw [List.getElem?_eq_getElem il, ec]⟩
end
end KS
/-! Sets of tuples: the table laid anew, adding a tuple. -/
namespace KS
open PySem PySem.Spec PyProof.Rows L2
section
variable {P : Program} {w : World} {A : Around} {E : Value → Shared → Prop} {s : Shared} {a : Addr} {L : List Mem} {es : Array (Int × Value)} {ep : Nat} {t : SetTable}
theorem range_get {α : Type} (z : α) : ∀ l : List α, (List.range l.length).map (fun i => l.getD i z) = l := fun l => by
  apply List.ext_getElem?
  intro i
  rw [List.getElem?_map]
  by_cases h : i < l.length
  · rw [List.getElem?_range h, List.getElem?_eq_getElem h]
    simp [List.getD, h]
  · rw [List.getElem?_eq_none (by rw [List.length_range]; omega), List.getElem?_eq_none (by omega)]
    rfl
theorem some_map {α β : Type} {f : α → Option β} {g : α → β} : ∀ l : List α, (∀ x ∈ l, f x = some (g x)) → l.filterMap f = l.map g
  | [], _ => rfl
  | x :: l, h => by
    rw [List.filterMap_cons_some (h x List.mem_cons_self), List.map_cons, some_map l fun y hy => h y (List.mem_cons_of_mem _ hy)]
theorem in_order {es : Array (Int × Value)} (he : es.toList = ents w L) {order : Array Nat} (hp : order.toList.Perm (List.range L.length)) :
    ∃ L2 : List Mem, (order.filterMap (es[·]?)).toList = ents w L2 ∧ L2.Perm L ∧ hs w L2 = order.toList.map fun i => (es.map (·.1)).getD i 0 := by
  have lt : ∀ i ∈ order.toList, i < L.length := fun i hi => List.mem_range.mp (hp.mem_iff.mp hi)
  have g1 : ∀ i ∈ order.toList, es[i]? = some ((fun m : Mem => (m.2.hash w, m.1)) (L.getD i (Value.none, NestedKey.none))) := fun i hi => by
    have e : L[i]? = some (L.getD i (Value.none, NestedKey.none)) := by
      rw [List.getElem?_eq_getElem (lt i hi)]
      simp [List.getD, lt i hi]
    exact ents_get he e
  refine ⟨order.toList.map fun i => L.getD i (Value.none, NestedKey.none), ?_, ?_, ?_⟩
  · rw [Array.toList_filterMap, some_map order.toList g1, ents, List.map_map]
    rfl
  · have p2 := hp.map fun i => L.getD i (Value.none, NestedKey.none)
    rw [range_get] at p2
    exact p2
  · unfold hs
    rw [List.map_map]
    refine List.map_congr_left fun i hi => ?_
    have e := g1 i hi
    have e2 : (es.map (·.1))[i]? = some ((L.getD i (Value.none, NestedKey.none)).2.hash w) := by
      rw [Array.getElem?_map, e]
      rfl
    show _ = (es.map (·.1)).getD i 0
    rw [Array.getD_eq_getD_getElem?, e2]
    rfl
theorem tups_relay {o : Obj} (ho : s.heap.get? a = some o) (hex : o.ExactSet) (hd : o.data = .set es ep t) (he : es.toList = ents w L) (full : t.fits es.size = true)
    (nd : (L.map (·.2)).Nodup) (fit : ∀ m ∈ L, Fit true m) (key : ∀ m ∈ L, NestedIs s.heap m.2 m.1) (led : w.params.followText "set-order" = true ∨ t.led = true) (few : L.length < 64) {wanted M : Nat}
    (hw : SetTable.sizeAbove wanted - 1 = M) (hM : MaskOk M) (h128 : SetTable.sizeAbove wanted ≤ 128) (hn : L.length * 5 < M * 3) {Q : Unit → Shared → Prop}
    (q : ∀ h' L' es' ep' t', Heap.SameBut a s.heap h' → SetK true w h' a L' es' ep' t' → L'.Perm L → Q () { s with heap := h' }) : wpAny (model P w) A (setRelay a wanted) Q E s := by
  have z1 : es.size = L.length := by rw [← Array.length_toList, he, ents, List.length_map]
  obtain ⟨t2, order, e, hp, T, em, el, _, ed⟩ := relaid_ok t (hs := es.map (·.1)) (wanted := wanted) hw hM (by rw [Array.size_map, z1]; omega)
  rw [Array.size_map, z1] at hp
  obtain ⟨LL, r1, r2, r3⟩ := in_order he hp
  rw [← r3] at T
  have z2 : (order.filterMap (es[·]?)).size = LL.length := by rw [← Array.length_toList, r1, ents, List.length_map]
  have z3 := r2.length_eq
  rw [setRelay_eq]
  refine wpAny_bind (wpAny_setState_of ho hd full ?_)
  dsimp only
  refine wp_if_neg (by rw [sizeLine_eq]; omega) ?_
  try refine wpAny_bind (wpAny_pure ?_)
  rw [e]
  dsimp only
  refine wpAny_bind ?_
  refine wp_if_neg (by rw [z2, z3, z1]; simp) ?_
  try refine wpAny_bind (wpAny_pure ?_)
  refine wpAny_pure ?_
  dsimp only
  refine wpAny_storeSet_of ho hd ?_ (by rw [z2, z3, sizeLine_eq]; omega)
  have sb := Heap.SameBut.update s.heap a (Obj.putSet (order.filterMap (es[·]?)) t2)
  have sz2 := T.sz
  rw [List.length_map] at sz2
  exact q _ LL _ _ t2 sb ⟨⟨_, L2.store_at ho hd, hex, rfl⟩, r1, (r2.map (·.2)).nodup_iff.mpr nd, fun m hm => fit m (r2.mem_iff.mp hm), fun m hm => key_but ho hd sb (key m (r2.mem_iff.mp hm)), T.ris, by
    unfold SetTable.fits SetTable.fill
    rw [ed, Bool.and_eq_true, beq_iff_eq, decide_eq_true_eq, z2, sz2]
    show LL.length = LL.length ∧ LL.length + 0 ≤ t2.mask
    omega, led.imp id fun z => by rw [el]; exact z, by rw [z3]; exact few, fun _ => ⟨T, by rw [z3, em]; exact hn⟩⟩ r2
theorem tab_plain {hs : List Int} {t : SetTable} (T : TabOk t hs) (c : Bool) : TabOk (if c = true then t else { t with plain := false }) hs := by
  split
  · exact T
  · exact ⟨T.ris, T.dm, T.sz, T.mok, T.bd, T.reach⟩
theorem add_tup {x : Addr} {k : NestedKey} {Q : Bool → Shared → Prop} (R : SetK true w s.heap a L es ep t) (hx : NestedIs s.heap k (.ref x)) (ft : Fit true (Value.ref x, k)) (hu : A.units + 8 < cLine) (room : L.length + 1 < 64)
    (q : Added true w s a L (.ref x, k) Q) : wpAny (model P w) A (setAddHashed a (.ref x) (k.hash w)) Q E s := by
  obtain ⟨o, ho, hex, hd⟩ := R.ob
  obtain ⟨tb, rm⟩ := R.tab rfl
  obtain ⟨_, _, _, _, kd⟩ := ft
  have zs := R.size
  unfold setAddHashed
  refine wpAny_holding ?_
  rw [show (100000 : Nat) = 99999 + 1 from rfl, setAddHashedIn_succ]
  refine wpAny_bind (wpAny_setState_of ho hd R.full ?_)
  dsimp only
  refine wp_if_neg (by simp [byScan, Value.scannable]) ?_
  try refine wpAny_bind (wpAny_pure ?_)
  refine wpAny_bind (hunt_at R hx kd hu (fun hm => ?_) fun K hm hK hb => ?_)
  · dsimp only
    exact wpAny_pure (q false s.heap L es ep t (Heap.SameBut.refl a s.heap) R (fun _ => rfl) fun z => absurd hm z)
  · dsimp only
    refine wpAny_bind (wpAny_setState_of ho hd R.full ?_)
    dsimp only
    obtain ⟨q1, q2, q3, q4, q5, q6, q7, q8, q9⟩ := tb.put hK hb
    generalize t.put (way t.mask (k.hash w) K) = pt at q1 q3 q4 q5 q6 q7 q8 q9 ⊢
    obtain ⟨t1, p⟩ := pt
    dsimp only at q1 q3 q4 q5 q6 q7 q8 q9 ⊢
    subst q1
    have fork : ∀ (G : Bool → Sem Bool) (Q' : Bool → Shared → Prop), (∀ c, wpAny (model P w) A (G c) Q' E s) → wpAny (model P w) A (do
        let c ← if t1.plain = true then hashByValue 8 (.ref x) else pure true
        G c) Q' E s := fun G Q' h => by
      dsimp only
      exact wp_two (fun _ => wpAny_bind (byVal_key 8 k _ A s _ hx h)) fun _ => wpAny_bind (wpAny_pure (h _))
    have hin : (SetTable.insertAt es (SetTable.below t.place (way t.mask (k.hash w) K)) (k.hash w, Value.ref x)).toList = ents w (L.take (SetTable.below t.place (way t.mask (k.hash w) K)) ++ (Value.ref x, k) :: L.drop (SetTable.below t.place (way t.mask (k.hash w) K))) := by
      rw [SetTable.toList_insertAt, R.eq, ents, ents, List.map_append, List.map_cons, List.map_take, List.map_drop]
    generalize SetTable.below t.place (way t.mask (k.hash w) K) = p at q2 q3 hin ⊢
    have pm := put_perm L p (Value.ref x, k)
    have hh : (hs w L).take p ++ k.hash w :: (hs w L).drop p = hs w (L.take p ++ (Value.ref x, k) :: L.drop p) := by
      unfold hs
      rw [List.map_append, List.map_cons, List.map_take, List.map_drop]
    rw [hh] at q3
    obtain ⟨nd1, n1⟩ := R.perm (h' := s.heap) hm pm
    have z1 : (SetTable.insertAt es p (k.hash w, Value.ref x)).size = L.length + 1 := by rw [← Array.length_toList, hin, ents, List.length_map, n1]
    generalize SetTable.insertAt es p (k.hash w, Value.ref x) = es1 at hin z1 ⊢
    generalize L.take p ++ (Value.ref x, k) :: L.drop p = L1 at pm q3 nd1 n1 hin
    have key0 : ∀ m ∈ L1, NestedIs s.heap m.2 m.1 := fun m hm1 => by
      rcases List.mem_cons.mp (pm.mem_iff.mp hm1) with e | z
      · rw [e]
        exact hx
      · exact R.key m z
    have fit1 : ∀ m ∈ L1, Fit true m := fun m hm1 => by
      rcases List.mem_cons.mp (pm.mem_iff.mp hm1) with e | z
      · rw [e]
        exact ⟨_, _, by assumption, by assumption, kd⟩
      · exact R.fit m z
    refine fork _ _ fun c => ?_
    have T2 := tab_plain q3 c
    have led2 : w.params.followText "set-order" = true ∨ (if c = true then t1 else { t1 with plain := false }).led = true := by
      have := R.led
      rw [← q5] at this
      cases c <;> exact this
    have m2 : (if c = true then t1 else { t1 with plain := false }).mask = t.mask := by
      rw [← q4]
      cases c <;> rfl
    have f2 : (if c = true then t1 else { t1 with plain := false }).fill = L.length + 1 := by
      rw [List.length_map] at q9
      rw [← q9]
      cases c <;> rfl
    generalize (if c = true then t1 else { t1 with plain := false }) = t2 at T2 led2 m2 f2 ⊢
    have sz2 := T2.sz
    rw [List.length_map, n1] at sz2
    have full2 : t2.fits es1.size = true := by
      unfold SetTable.fits
      rw [f2, Bool.and_eq_true, beq_iff_eq, decide_eq_true_eq, z1, sz2]
      refine ⟨rfl, ?_⟩
      have := tb.mok
      rw [m2]
      rcases this with e | e | e <;> rw [e] at rm ⊢ <;> omega
    refine wpAny_bind (wpAny_storeSet_of ho hd ?_ (by rw [z1, sizeLine_eq]; omega))
    have sb := Heap.SameBut.update s.heap a (Obj.putSet es1 t2)
    have ho1 := L2.store_at (es' := es1) (t' := t2) ho hd
    have key1 : ∀ m ∈ L1, NestedIs (s.heap.update a (Obj.putSet es1 t2)) m.2 m.1 := fun m hm1 => key_but ho hd sb (key0 m hm1)
    generalize s.heap.update a (Obj.putSet es1 t2) = h1 at sb ho1 key1 ⊢
    by_cases hf : t2.tooFull = true
    · have hfull : (L.length + 1) * 5 ≥ t2.mask * 3 := by
        have h := hf
        unfold SetTable.tooFull at h
        rw [decide_eq_true_eq, f2] at h
        exact h
      have two : (t.mask = 7 ∧ L.length = 4) ∨ (t.mask = 31 ∧ L.length = 18) := by
        rw [m2] at hfull
        rcases tb.mok with e | e | e <;> rw [e] at hfull rm
        · exact .inl ⟨e, by omega⟩
        · exact .inr ⟨e, by omega⟩
        · omega
      have lay : ∀ M, SetTable.sizeAbove (SetTable.grown (L.length + 1)) - 1 = M → MaskOk M → SetTable.sizeAbove (SetTable.grown (L.length + 1)) ≤ 128 → (L.length + 1) * 5 < M * 3 →
          wpAny (model P w) A (setRelay a (SetTable.grown (L.length + 1))) (fun _ s' => wpAny (model P w) A (pure true) Q E s') E { s with heap := h1 } := fun M h1' h2' h3' h4' =>
        tups_relay (s := { s with heap := h1 }) ho1 hex rfl hin full2 nd1 fit1 key1 led2 (by omega) h1' h2' h3' (by rw [n1]; exact h4') fun h2 L2 es2 ep2 t3 sb2 R2 pm2 =>
          wpAny_pure (q true h2 L2 es2 ep2 t3 (sb.trans sb2) R2 (fun z => absurd z hm) fun _ => pm2.trans pm)
      rw [zs]
      first
        | (refine wpAny_bind ?_; refine wp_if_pos (by simp [hf]) ?_)
        | (refine wp_if_pos (by simp [hf]) ?_; refine wpAny_bind ?_)
      rcases two with ⟨_, e2⟩ | ⟨_, e2⟩
      · exact lay 31 (by rw [e2, size_20]) (.inr (.inl rfl)) (by rw [e2, size_20]; decide) (by omega)
      · exact lay 127 (by rw [e2, size_76]) (.inr (.inr rfl)) (by rw [e2, size_76]; decide) (by omega)
    · first
        | refine wp_if_neg (by simp [hf]) ?_
        | (refine wpAny_bind ?_; refine wp_if_neg (by simp [hf]) ?_; refine wpAny_pure ?_)
      refine wpAny_pure (q true h1 L1 es1 (ep + 1) t2 sb ⟨⟨_, ho1, hex, rfl⟩, hin, nd1, fit1, key1, T2.ris, full2, led2, by omega, fun _ => ⟨T2, ?_⟩⟩ (fun z => absurd z hm) fun _ => pm)
      have h := hf
      unfold SetTable.tooFull at h
      rw [decide_eq_true_eq, f2] at h
      rw [n1]
      omega
end
end KS
/-! set(xs): xs a list or a tuple of texts, or of tuples of texts and numbers. -/
namespace KS
open PySem PySem.Spec PyProof.Rows L2
/-- what stands in the set behind the first i items -/
structure Has (ks : List Mem) (i : Nat) (L : List Mem) : Prop where
  sub : ∀ m ∈ L, m ∈ ks.take i
  all : ∀ m ∈ ks.take i, m.2 ∈ L.map (·.2)
  len : L.length ≤ i
theorem Has.nil (ks : List Mem) : Has ks 0 [] := ⟨fun _ z => (by cases z), fun m z => (by simp at z), Nat.le_refl _⟩
theorem Has.next {ks L L' : List Mem} {i : Nat} {m : Mem} (g : Has ks i L) (h : ks[i]? = some m) (c1 : m.2 ∈ L.map (·.2) → L' = L) (c2 : m.2 ∉ L.map (·.2) → L'.Perm (m :: L)) : Has ks (i + 1) L' := by
  have tn : ks.take (i + 1) = ks.take i ++ [m] := take_next h
  rcases Classical.em (m.2 ∈ L.map (·.2)) with c | c
  · rw [c1 c]
    refine ⟨fun x hx => ?_, fun x hx => ?_, Nat.le_succ_of_le g.len⟩
    · rw [tn]
      exact List.mem_append_left _ (g.sub x hx)
    · rw [tn] at hx
      rcases List.mem_append.mp hx with z | z
      · exact g.all x z
      · rw [List.mem_singleton.mp z]
        exact c
  · have pm := c2 c
    refine ⟨fun x hx => ?_, fun x hx => ?_, by rw [pm.length_eq]; exact Nat.succ_le_succ g.len⟩
    · rw [tn]
      rcases List.mem_cons.mp (pm.mem_iff.mp hx) with z | z
      · rw [z]
        exact List.mem_append_right _ (List.mem_singleton.mpr rfl)
      · exact List.mem_append_left _ (g.sub x z)
    · rw [tn] at hx
      refine (pm.map (·.2)).mem_iff.mpr ?_
      rw [List.map_cons]
      rcases List.mem_append.mp hx with z | z
      · exact List.mem_cons_of_mem _ (g.all x z)
      · rw [List.mem_singleton.mp z]
        exact List.mem_cons_self
section
variable {P : Program} {w : World} {A : Around} {E : Value → Shared → Prop} {s : Shared} {a : Addr} {b : Bool} {L : List Mem} {es : Array (Int × Value)} {ep : Nat} {t : SetTable}
theorem add_key {m : Mem} {Q : Bool → Shared → Prop} (R : SetK b w s.heap a L es ep t) (hx : NestedIs s.heap m.2 m.1) (ft : Fit b m) (hu : A.units + 8 < cLine) (room : L.length + 1 < 64)
    (q : Added b w s a L m Q) : wpAny (model P w) A (setAddHashed a m.1 (m.2.hash w)) Q E s := by
  cases b with
  | false =>
    obtain ⟨x, tk, rfl⟩ := ft
    exact add_text R room q
  | true =>
    have ft2 := ft
    obtain ⟨v, k⟩ := m
    obtain ⟨c, ks, e1, e2, d⟩ := ft
    dsimp only at e1 e2 d hx
    subst e1
    exact add_tup R hx ft2 hu room q
theorem fit_depth {m : Mem} (h : Fit b m) : m.2.depth ≤ 8 := by
  cases b with
  | false =>
    obtain ⟨x, tk, rfl⟩ := h
    exact Nat.zero_le _
  | true =>
    obtain ⟨_, _, _, _, d⟩ := h
    exact d
theorem key_keep {h h' : Heap} {k : NestedKey} {v : Value} (x : NestedIs h k v) (hk : ∀ c o, h.get? c = some o → h'.get? c = some o) : NestedIs h' k v := NestedIs.at (fun c o vs n e _ => hk c o e) k v x
theorem update_loop {I : Addr} {fp wr : List Addr} {G : Array GenState → Array GenState → Prop} {n : Nat} {Pv : Nat → Value → Prop} {St : Nat → Shared → Prop} {R : Result → Shared → Prop}
    (W : WalksS P w A.in1 I fp wr G n Pv St) (S : Addr) (hSf : S ∉ fp) (ks : List Mem) (hn : n = ks.length) (h64 : ks.length < 64) (hv : ∀ i v, Pv i v → ∃ m, ks[i]? = some m ∧ v = m.1)
    (h0 : Heap) (hk : ∀ m ∈ ks, NestedIs h0 m.2 m.1) (hf : ∀ m ∈ ks, Fit b m) (hS0 : h0.get? S = none) (hw0 : ∀ c ∈ wr, h0.get? c = none) (hu : A.in1.units + 8 < cLine) :
    ∀ (k i : Nat) (s : Shared), n - i = k → i ≤ n → St i s → (∀ c o, h0.get? c = some o → s.heap.get? c = some o) → (∃ L es ep t, SetK b w s.heap S L es ep t ∧ Has ks i L) →
      (∀ s' L es ep t, Moved (S :: wr) G s s' → SetK b w s'.heap S L es ep t → Has ks n L → (∀ c o, h0.get? c = some o → s'.heap.get? c = some o) → R (.ok (.ret .none)) s') →
      codeAny (model P w) A (.builtin "set.update.loop" ⟨[.ref S, .ref I], []⟩) R s := by
  have hSw : S ∉ wr := fun h => hSf (W.sub _ h)
  have up : ∀ c ∈ wr, c ∈ S :: wr := fun c hc => List.mem_cons_of_mem _ hc
  have stay : ∀ {s s' : Shared}, Moved wr G s s' → (∀ c o, h0.get? c = some o → s.heap.get? c = some o) → ∀ c o, h0.get? c = some o → s'.heap.get? c = some o := fun mv hp c o e =>
    mv.heap c o (fun z => by rw [hw0 c z] at e; cases e) (hp c o e)
  intro k
  induction k with
  | zero =>
    intro i s hk' hi hst hp ⟨L, es, ep, t, hS, g⟩ hR
    have e0 : i = n := by omega
    subst e0
    refine codeAny_builtin F.entry_set_update_loop ?_
    rw [Around.under_plainId F.plain_set_update_loop _]
    show wpAny _ A.in1 (pyNext (.ref I) >>= _) _ _ s
    refine wpAny_bind (W.done s _ _ hst fun s' mv => ?_)
    show wpAny _ A.in1 (ret Value.none) _ _ s'
    have hp' := stay mv hp
    exact wpAny_pure (hR s' L es ep t (mv.mono up) (hS.keep (fun o e => mv.heap S o hSw e) fun m hm => key_keep (hk m (List.mem_of_mem_take (g.sub m hm))) hp') g hp')
  | succ k ih =>
    intro i s hk' hi hst hp ⟨L, es, ep, t, hS, g⟩ hR
    have lt : i < n := by omega
    refine codeAny_builtin F.entry_set_update_loop ?_
    rw [Around.under_plainId F.plain_set_update_loop _]
    show wpAny _ A.in1 (pyNext (.ref I) >>= _) _ _ s
    refine wpAny_bind (W.item i s _ _ lt hst fun v s' hP hst' mv => ?_)
    obtain ⟨m, hm, rfl⟩ := hv i v hP
    have mk := List.mem_of_getElem? hm
    have hp' := stay mv hp
    have hS' : SetK b w s'.heap S L es ep t := hS.keep (fun o e => mv.heap S o hSw e) fun q hq => key_keep (hk q (List.mem_of_mem_take (g.sub q hq))) hp'
    have hx : NestedIs s'.heap m.2 m.1 := key_keep (hk m mk) hp'
    show wpAny _ A.in1 (holding [m.1] (setAdd S m.1) >>= _) _ _ s'
    refine wpAny_bind (wpAny_holding ?_)
    unfold setAdd
    refine wpAny_holding ?_
    refine wpAny_bind (pyHash_key m.2 m.1 A.in1 s' _ hx (by have := fit_depth (hf m mk); omega) ?_)
    refine add_key (s := { s' with toks := s'.toks + m.2.draws }) (m := m) hS' hx (hf m mk) hu (by have := g.len; omega) fun c h' L' es' ep' t' sb hS2 c1 c2 => ?_
    have g' := g.next hm c1 c2
    have hp2 : ∀ c o, h0.get? c = some o → h'.get? c = some o := fun c o e => (sb.2 c (fun z => by rw [z, hS0] at e; cases e)).trans (hp' c o e)
    refine wpAny_pure ⟨plainId_quiet F.plain_set_update_loop _, ih (i + 1) _ (by omega) lt (W.frame _ s' _ _ hst' (Nat.le_add_right _ _) fun d hd o e => ?_) hp2 ⟨L', es', ep', t', hS2, g'⟩ fun s2 L2 es2 ep2 t2 mv2 hS3 g2 hp3 => ?_⟩
    · rw [sb.2 d (fun z => hSf (by rw [← z]; exact hd))]
      exact e
    · refine hR s2 L2 es2 ep2 t2 (Moved.trans W.gtrans ((mv.mono up).then_heap (Nat.le_add_right _ _) fun d o hd e => ?_) mv2) hS3 g2 hp3
      rw [sb.2 d (fun z => hd (by rw [z]; exact List.mem_cons_self))]
      exact e
theorem gone {h : Heap} {c : Addr} (hc : h.objs.size ≤ c) : h.get? c = none := by
  cases q : h.get? c with
  | none => rfl
  | some o => exact absurd (Nat.lt_of_lt_of_le (Heap.lt_size q) hc) (Nat.lt_irrefl _)
theorem item_of {items : Array Value} {ks : List Mem} (hi : items.toList = ks.map (·.1)) : ∀ (i : Nat) (v : Value), items[i]? = some v → ∃ m, ks[i]? = some m ∧ v = m.1 := fun i v e => by
  rw [← Array.getElem?_toList, hi, List.getElem?_map] at e
  cases q : ks[i]? with
  | none =>
    rw [q] at e
    cases e
  | some m =>
    rw [q] at e
    exact ⟨m, rfl, (Option.some.inj e).symm⟩
/-- what set(xs) leaves -/
def Made (b : Bool) (w : World) (s : Shared) (ks : List Mem) (Q : Value → Shared → Prop) : Prop := ∀ (h' : Heap) (tk : Nat) L es ep t, SetK b w h' s.heap.objs.size L es ep t → Has ks ks.length L →
  (∀ c o, s.heap.get? c = some o → h'.get? c = some o) → Q (.ref s.heap.objs.size) { s with heap := h', toks := tk }
/-- the new set's object -/
abbrev newO (w : World) : Obj := { cls := .type "set", dict := none, data := .set #[] 0 (.fresh 0 0 (!w.params.followText "set-order")) }
set_option maxHeartbeats 8000000 in
theorem set_of_list {l : Addr} {items : Array Value} (b : Bool) (ks : List Mem) {Q : Value → Shared → Prop} (hh : A.handled = none) (hl : s.heap.IsList l items) (hi : items.toList = ks.map (·.1))
    (hk : ∀ m ∈ ks, NestedIs s.heap m.2 m.1) (hf : ∀ m ∈ ks, Fit b m) (h64 : ks.length < 64) (hu : A.units + 16 < cLine) (q : Made b w s ks Q) :
    wpAny (model P w) A (call (.type "set") [.ref l]) Q E s := by
  have zi : items.size = ks.length := by rw [← Array.length_toList, hi, List.length_map]
  obtain ⟨mc, mt, hmro⟩ := F.called_set.mro
  have d1 := F.called_set.made
  have d2 := F.called_set.sub
  refine wpAny_call (codeAny_of_tree ?_)
  show wpAny _ _ (callAny (.type "set") _) _ _ _
  refine wpAny_pure ⟨Code.quiet_builtin _ (by decide +kernel), codeAny_builtin F.entry_type_call ?_⟩
  rw [Around.under_plain (weight_type_call_type "set" [.ref l] []) rfl]
  have d3 := F.called_set.notType
  have d4 := F.called_set.canCreate
  have d5 := F.typeCall_set_1 (.ref l)
  repeat (any_goals (first | assumption | wp_step))
  refine codeAny_mono (code_set_led1 (.ref l) (E := E) (Q₁ := fun v s1 => v = .ref s.heap.objs.size ∧ s1 = { s with heap := s.heap.push (newO w) }) ⟨rfl, rfl⟩) fun r s1 hr => ?_
  cases r with
  | error e => exact hr
  | ok fl =>
    cases fl with
    | ret v =>
      obtain ⟨rfl, rfl⟩ := hr
      have gS : (s.heap.push (newO w)).get? s.heap.objs.size = some (newO w) := Heap.get?_push_size _ rfl
      have tS : Shared.TypeIs { s with heap := s.heap.push (newO w) } (.ref s.heap.objs.size) "set" := ⟨_, gS, rfl⟩
      have d6 := F.called_set.init.lookup
      have d7 := F.called_set.init.bind (.ref s.heap.objs.size)
      repeat (any_goals (first | assumption | wp_step))
      refine codeAny_mono (codeAny_call_builtin (R := wants (fun r s2 => r = .none ∧ ∃ h' tk L es ep t, s2 = { s with heap := h', toks := tk } ∧ SetK b w h' s.heap.objs.size L es ep t ∧ Has ks ks.length L ∧
          (∀ c o, s.heap.get? c = some o → h'.get? c = some o)) E) F.called_set.init.plain F.entry_set_init (check_set_init_1 tS ?_)) fun r2 s2 hr2 => ?_
      · obtain ⟨⟨oc, od, ot, os⟩, hol, hcl, nl, hdl⟩ := hl
        simp only at hcl hdl
        subst hcl; subst hdl
        have hol2 : (s.heap.push (newO w)).get? l = some { cls := .type "list", dict := od, data := .seq items nl, slots := os } := Heap.get?_push_of_some _ hol
        have d8 := F.sub_list_set
        have d9 := F.sub_list_frozenset
        have dA : (Value.type "list" == Value.type "dict") = false := by decide
        have hl2 : (s.heap.push (newO w)).IsList l items := ⟨_, hol2, rfl, nl, rfl⟩
        unfold Builtin.«set.__init__» noKeywords Builtin.Frozenset.updateFrom
        generalize hPI : pyIter = PI
        wp_walk
        subst hPI
        refine wpAny_pyIter_list hl2 (wpAny_bind (wpAny_runValue ?_))
        have ls : l < s.heap.objs.size := Heap.lt_size hol
        have zp : (s.heap.push (newO w)).objs.size = s.heap.objs.size + 1 := Heap.size_push ..
        have hne : l ≠ (s.heap.push (newO w)).objs.size := by
          rw [zp]
          exact Nat.ne_of_lt (Nat.lt_succ_of_lt ls)
        have hSf : s.heap.objs.size ∉ [(s.heap.push (newO w)).objs.size, l] := by
          rw [zp]
          simp only [List.mem_cons, List.mem_singleton, List.not_mem_nil, or_false, not_or]
          exact ⟨Nat.ne_of_lt (Nat.lt_succ_self _), Nat.ne_of_gt ls⟩
        refine update_loop ((Walks.list (by simp [hh]) _ l hne items).toS) s.heap.objs.size
          hSf ks zi h64 (item_of hi) s.heap hk hf (gone (Nat.le_refl _)) (fun c hc => gone (by
            rw [List.mem_singleton.mp hc, zp]
            exact Nat.le_succ _)) (by simp only [Around.in1_units]; omega) (items.size - 0) 0 _ (by omega) (Nat.zero_le _)
          ⟨⟨_, Heap.get?_push_size _ rfl, rfl, rfl⟩, hl2.push _⟩ (fun c o e => Heap.get?_push_of_some _ (Heap.get?_push_of_some _ e)) ⟨[], #[], 0, _, setK_new b (Heap.get?_push_of_some _ gS), Has.nil ks⟩ ?_
        intro s3 L es ep t mv hS g hp
        obtain ⟨h3, g3, d3, t3, o3⟩ := s3
        have eg : g3 = s.gens := mv.gens
        have ed : d3 = s.drawn := mv.drawn
        have eo : o3 = s.os := mv.os
        subst eg; subst ed; subst eo
        show wpAny _ _ _ _ _ _
        refine wpAny_pure ?_
        show wpAny _ _ (ret Value.none) _ _ _
        rw [zi] at g
        exact wpAny_pure ⟨rfl, h3, t3, L, es, ep, t, rfl, hS, g, hp⟩
      · cases r2 with
        | error e => exact hr2
        | ok fl2 =>
          cases fl2 with
          | ret r =>
            obtain ⟨rfl, h3, t3, L, es, ep, t, rfl, hS, g, hp⟩ := hr2
            repeat (any_goals (first | assumption | wp_step))
            exact q _ _ _ _ _ _ hS g hp
          | _ => exact hr2.elim
    | _ => exact hr.elim
set_option maxHeartbeats 8000000 in
theorem set_of_tuple {l : Addr} {items : Array Value} (b : Bool) (ks : List Mem) {Q : Value → Shared → Prop} (hh : A.handled = none) (hl : s.heap.IsTuple l items) (hi : items.toList = ks.map (·.1))
    (hk : ∀ m ∈ ks, NestedIs s.heap m.2 m.1) (hf : ∀ m ∈ ks, Fit b m) (h64 : ks.length < 64) (hu : A.units + 16 < cLine) (q : Made b w s ks Q) :
    wpAny (model P w) A (call (.type "set") [.ref l]) Q E s := by
  have zi : items.size = ks.length := by rw [← Array.length_toList, hi, List.length_map]
  obtain ⟨mc, mt, hmro⟩ := F.called_set.mro
  have d1 := F.called_set.made
  have d2 := F.called_set.sub
  refine wpAny_call (codeAny_of_tree ?_)
  show wpAny _ _ (callAny (.type "set") _) _ _ _
  refine wpAny_pure ⟨Code.quiet_builtin _ (by decide +kernel), codeAny_builtin F.entry_type_call ?_⟩
  rw [Around.under_plain (weight_type_call_type "set" [.ref l] []) rfl]
  have d3 := F.called_set.notType
  have d4 := F.called_set.canCreate
  have d5 := F.typeCall_set_1 (.ref l)
  repeat (any_goals (first | assumption | wp_step))
  refine codeAny_mono (code_set_led1 (.ref l) (E := E) (Q₁ := fun v s1 => v = .ref s.heap.objs.size ∧ s1 = { s with heap := s.heap.push (newO w) }) ⟨rfl, rfl⟩) fun r s1 hr => ?_
  cases r with
  | error e => exact hr
  | ok fl =>
    cases fl with
    | ret v =>
      obtain ⟨rfl, rfl⟩ := hr
      have gS : (s.heap.push (newO w)).get? s.heap.objs.size = some (newO w) := Heap.get?_push_size _ rfl
      have tS : Shared.TypeIs { s with heap := s.heap.push (newO w) } (.ref s.heap.objs.size) "set" := ⟨_, gS, rfl⟩
      have d6 := F.called_set.init.lookup
      have d7 := F.called_set.init.bind (.ref s.heap.objs.size)
      repeat (any_goals (first | assumption | wp_step))
      refine codeAny_mono (codeAny_call_builtin (R := wants (fun r s2 => r = .none ∧ ∃ h' tk L es ep t, s2 = { s with heap := h', toks := tk } ∧ SetK b w h' s.heap.objs.size L es ep t ∧ Has ks ks.length L ∧
          (∀ c o, s.heap.get? c = some o → h'.get? c = some o)) E) F.called_set.init.plain F.entry_set_init (check_set_init_1 tS ?_)) fun r2 s2 hr2 => ?_
      · obtain ⟨⟨oc, od, ot, os⟩, hol, hcl, nl, hdl⟩ := hl
        simp only at hcl hdl
        subst hcl; subst hdl
        have hol2 : (s.heap.push (newO w)).get? l = some { cls := .type "tuple", dict := od, data := .seq items nl, slots := os } := Heap.get?_push_of_some _ hol
        have d8 := F.sub_tuple_set
        have d9 := F.sub_tuple_frozenset
        have dA : (Value.type "tuple" == Value.type "dict") = false := by decide
        have hl2 : (s.heap.push (newO w)).IsTuple l items := ⟨_, hol2, rfl, nl, rfl⟩
        unfold Builtin.«set.__init__» noKeywords Builtin.Frozenset.updateFrom
        generalize hPI : pyIter = PI
        wp_walk
        subst hPI
        refine wpAny_pyIter_tuple hl2 (wpAny_bind (wpAny_runValue ?_))
        have ls : l < s.heap.objs.size := Heap.lt_size hol
        have zp : (s.heap.push (newO w)).objs.size = s.heap.objs.size + 1 := Heap.size_push ..
        have hne : l ≠ (s.heap.push (newO w)).objs.size := by
          rw [zp]
          exact Nat.ne_of_lt (Nat.lt_succ_of_lt ls)
        have hSf : s.heap.objs.size ∉ [(s.heap.push (newO w)).objs.size, l] := by
          rw [zp]
          simp only [List.mem_cons, List.mem_singleton, List.not_mem_nil, or_false, not_or]
          exact ⟨Nat.ne_of_lt (Nat.lt_succ_self _), Nat.ne_of_gt ls⟩
        refine update_loop ((Walks.tuple (by simp [hh]) _ l hne items).toS) s.heap.objs.size
          hSf ks zi h64 (item_of hi) s.heap hk hf (gone (Nat.le_refl _)) (fun c hc => gone (by
            rw [List.mem_singleton.mp hc, zp]
            exact Nat.le_succ _)) (by simp only [Around.in1_units]; omega) (items.size - 0) 0 _ (by omega) (Nat.zero_le _)
          ⟨⟨_, Heap.get?_push_size _ rfl, rfl, rfl⟩, hl2.push _⟩ (fun c o e => Heap.get?_push_of_some _ (Heap.get?_push_of_some _ e)) ⟨[], #[], 0, _, setK_new b (Heap.get?_push_of_some _ gS), Has.nil ks⟩ ?_
        intro s3 L es ep t mv hS g hp
        obtain ⟨h3, g3, d3, t3, o3⟩ := s3
        have eg : g3 = s.gens := mv.gens
        have ed : d3 = s.drawn := mv.drawn
        have eo : o3 = s.os := mv.os
        subst eg; subst ed; subst eo
        show wpAny _ _ _ _ _ _
        refine wpAny_pure ?_
        show wpAny _ _ (ret Value.none) _ _ _
        rw [zi] at g
        exact wpAny_pure ⟨rfl, h3, t3, L, es, ep, t, rfl, hS, g, hp⟩
      · cases r2 with
        | error e => exact hr2
        | ok fl2 =>
          cases fl2 with
          | ret r =>
            obtain ⟨rfl, h3, t3, L, es, ep, t, rfl, hS, g, hp⟩ := hr2
            repeat (any_goals (first | assumption | wp_step))
            exact q _ _ _ _ _ _ hS g hp
          | _ => exact hr2.elim
    | _ => exact hr.elim
end
end KS
/-! set(xs), len(set), sorted(set) as rules of the walk. -/
namespace KS
open PySem PySem.Spec PyProof.Rows L2
mutual
/-- v is the key k -/
inductive Kv (K : PySem.W.Frag) (H : Hp) : V → NestedKey → Prop
  | int (i : Int) : Kv K H (.int i) (.num i)
  | str (x : Str) : Kv K H (.str x) (.text x)
  | tup {a : Addr} {xs : List V} {ks : List NestedKey} : SqT K H a xs → KvAll K H xs ks → Kv K H (.ref a) (.tup ks)
inductive KvAll (K : PySem.W.Frag) (H : Hp) : List V → List NestedKey → Prop
  | nil : KvAll K H [] []
  | cons {v : V} {vs : List V} {k : NestedKey} {ks : List NestedKey} : Kv K H v k → KvAll K H vs ks → KvAll K H (v :: vs) (k :: ks)
end
section
variable {X : Cx} {pins : List (Addr × Obj)} {σ : L2.St} {H : Hp} {s : Shared}
mutual
theorem Kv.reads (I : Inv X pins σ H s) : ∀ (k : NestedKey) (v : V) (u : Value), Kv X.K H v k → RelV v u → NestedIs s.heap k u ∧ Reads s.heap u k.data []
  | .none, _, _, h, _ => by cases h
  | .num i, _, _, h, r => by
    cases h
    obtain ⟨t, rfl⟩ := r
    exact ⟨.int i t, .int i t⟩
  | .text x, _, _, h, r => by
    cases h
    obtain ⟨t, rfl⟩ := r
    exact ⟨.text x t, .str x t⟩
  | .tup ks, _, _, h, r => by
    cases h with
    | tup hs ha =>
      cases r
      obtain ⟨its, rv, ⟨o, ho, hc, n, hd⟩, _⟩ := I.tuple hs
      obtain ⟨q1, q2⟩ := Kv.readsAll I ks _ its ha rv
      exact ⟨.tup ho hc hd (by simpa using q1), .tuple ho hc hd (by simpa using q2)⟩
theorem Kv.readsAll (I : Inv X pins σ H s) : ∀ (ks : List NestedKey) (vs : List V) (us : List Value), KvAll X.K H vs ks → Vals vs us → NestedAll s.heap ks us ∧ ReadsAll s.heap us (NestedKey.datas ks) []
  | [], _, _, h, r => by
    cases h
    cases r
    exact ⟨.nil, .nil⟩
  | k :: ks, _, _, h, r => by
    cases h with
    | cons h1 h2 =>
      cases r with
      | cons r1 r2 =>
        obtain ⟨a1, b1⟩ := Kv.reads I k _ _ h1 r1
        obtain ⟨a2, b2⟩ := Kv.readsAll I ks _ _ h2 r2
        exact ⟨.cons a1 a2, .cons (as := []) (bs := []) b1 b2⟩
end
end
mutual
theorem Kv.dp {K : PySem.W.Frag} {H : Hp} : ∀ (k : NestedKey) (v : V), Kv K H v k → Dp K H v k.data
  | .none, _, h => by cases h
  | .num i, _, h => by
    cases h
    exact .int i
  | .text x, _, h => by
    cases h
    exact .str x
  | .tup ks, _, h => by
    cases h with
    | tup hs ha => exact .tup hs (Kv.dpAll ks _ ha)
theorem Kv.dpAll {K : PySem.W.Frag} {H : Hp} : ∀ (ks : List NestedKey) (vs : List V), KvAll K H vs ks → DpAll K H vs (NestedKey.datas ks)
  | [], _, h => by
    cases h
    exact .nil
  | k :: ks, _, h => by
    cases h with
    | cons h1 h2 => exact .cons (Kv.dp k _ h1) (Kv.dpAll ks _ h2)
end
mutual
theorem Kv.up {K : PySem.W.Frag} {H H' : Hp} (e : ∀ a xs, SqT K H a xs → SqT K H' a xs) : ∀ (k : NestedKey) (v : V), Kv K H v k → Kv K H' v k
  | .none, _, h => by cases h
  | .num i, _, h => by
    cases h
    exact .int i
  | .text x, _, h => by
    cases h
    exact .str x
  | .tup ks, _, h => by
    cases h with
    | tup hs ha => exact .tup (e _ _ hs) (Kv.upAll e ks _ ha)
theorem Kv.upAll {K : PySem.W.Frag} {H H' : Hp} (e : ∀ a xs, SqT K H a xs → SqT K H' a xs) : ∀ (ks : List NestedKey) (vs : List V), KvAll K H vs ks → KvAll K H' vs ks
  | [], _, h => by
    cases h
    exact .nil
  | k :: ks, _, h => by
    cases h with
    | cons h1 h2 => exact .cons (Kv.up e k _ h1) (Kv.upAll e ks _ h2)
end
/-- a member as it stands in the walk -/
abbrev MemV := V × NestedKey
def FitV : Bool → MemV → Prop
  | false, m => ∃ x, m = (V.str x, NestedKey.text x)
  | true, m => ∃ c ks, m.1 = V.ref c ∧ m.2 = NestedKey.tup ks ∧ m.2.depth ≤ 8
theorem FitV.fit {b : Bool} {p : MemV} {m : Mem} (h : FitV b p) (r : RelV p.1 m.1) (e : m.2 = p.2) : Fit b m := by
  cases b with
  | false =>
    obtain ⟨x, rfl⟩ := h
    obtain ⟨t, r⟩ := r
    exact ⟨x, t, Prod.ext r e⟩
  | true =>
    obtain ⟨c, ks, e1, e2, d⟩ := h
    rw [e1] at r
    exact ⟨c, ks, r, e.trans e2, by rw [e]; exact d⟩
/-- two lists of members, one of values -/
def Twin (L : List MemV) (M : List Mem) : Prop := Vals (L.map (·.1)) (M.map (·.1)) ∧ M.map (·.2) = L.map (·.2)
theorem Twin.nil : Twin [] [] := ⟨.nil, rfl⟩
theorem Twin.cons {p : MemV} {m : Mem} {L : List MemV} {M : List Mem} (r : RelV p.1 m.1) (e : m.2 = p.2) (t : Twin L M) : Twin (p :: L) (m :: M) := ⟨.cons r t.1, by rw [List.map_cons, List.map_cons, e, t.2]⟩
theorem Twin.mem : ∀ {L : List MemV} {M : List Mem}, Twin L M → ∀ m ∈ M, ∃ p ∈ L, RelV p.1 m.1 ∧ m.2 = p.2
  | [], [], _, _, h => by cases h
  | [], _ :: _, ⟨r, _⟩, _, _ => by cases r
  | _ :: _, [], ⟨r, _⟩, _, _ => by cases r
  | p :: L, m :: M, ⟨r, e⟩, x, h => by
    cases r with
    | cons r1 r2 =>
      rw [List.map_cons, List.map_cons] at e
      injection e with e1 e2
      rcases List.mem_cons.mp h with z | z
      · rw [z]
        exact ⟨p, List.mem_cons_self, r1, e1⟩
      · obtain ⟨q, hq, a, b⟩ := Twin.mem (L := L) (M := M) ⟨r2, e2⟩ x z
        exact ⟨q, List.mem_cons_of_mem _ hq, a, b⟩
theorem Twin.make : ∀ {L : List MemV} {us : List Value}, Vals (L.map (·.1)) us → ∃ M : List Mem, M.map (·.1) = us ∧ Twin L M
  | [], _, r => by
    cases r
    exact ⟨[], rfl, .nil⟩
  | p :: L, _, r => by
    cases r with
    | @cons _ u _ us r1 r2 =>
      obtain ⟨M, e, t⟩ := Twin.make (L := L) r2
      exact ⟨(u, p.2) :: M, by rw [List.map_cons, e], .cons r1 rfl t⟩
theorem Twin.pick {L : List MemV} {M : List Mem} (t : Twin L M) : ∀ {N : List Mem}, (∀ m ∈ N, m ∈ M) → ∃ L' : List MemV, Twin L' N ∧ ∀ p ∈ L', p ∈ L
  | [], _ => ⟨[], .nil, fun _ z => (by cases z)⟩
  | m :: N, h => by
    obtain ⟨p, hp, r, e⟩ := t.mem m (h m List.mem_cons_self)
    obtain ⟨L', t', hs⟩ := Twin.pick t (N := N) fun x hx => h x (List.mem_cons_of_mem _ hx)
    refine ⟨p :: L', .cons r e t', fun q hq => ?_⟩
    rcases List.mem_cons.mp hq with z | z
    · rw [z]
      exact hp
    · exact hs q z
/-- the set at a, without what its members are -/
def SetV0 (b : Bool) (w : World) (h : Heap) (a : Addr) (L : List MemV) : Prop := ∃ (M : List Mem) (es : Array (Int × Value)) (ep : Nat) (t : SetTable), Twin L M ∧
  (∃ o, h.get? a = some o ∧ o.ExactSet ∧ o.data = .set es ep t) ∧ es.toList = ents w M ∧ (M.map (·.2)).Nodup ∧ (∀ m ∈ M, Fit b m) ∧ Ris t.place.toList ∧ t.fits es.size = true ∧
  (w.params.followText "set-order" = true ∨ t.led = true) ∧ M.length < 64 ∧ (b = true → TabOk t (hs w M) ∧ M.length * 5 < t.mask * 3)
def SetV (b : Bool) (w : World) (a : Addr) (L : List MemV) : HO := .ext fun h => SetV0 b w h a L
theorem setV_ok {b : Bool} {P : Program} {w : World} {H : Hp} {h : Heap} {a : Addr} {L : List MemV} (R : SetV0 b w h a L) : ObjOk P w H h a (SetV b w a L) := by
  obtain ⟨_, _, _, _, _, ⟨o, ho, _⟩, _⟩ := id R
  refine ⟨R, ⟨o, ho⟩, fun h1 h2 p k => ?_⟩
  obtain ⟨M, es, ep, t, tw, ⟨o2, ho2, r⟩, q⟩ := (show SetV0 b w h1 a L from p)
  exact ⟨M, es, ep, t, tw, ⟨o2, k o2 ho2, r⟩, q⟩
section
variable {X : Cx}
/-- set(xs) -/
def rSetOf (X : Cx) : List V → Hp → VK → Prop := fun xs H Q => ∃ (b : Bool) (l : Addr) (ms : List MemV), xs = [V.ref l] ∧ (SqL X.K H l (ms.map (·.1)) ∨ SqT X.K H l (ms.map (·.1))) ∧ (∀ p ∈ ms, Kv X.K H p.1 p.2 ∧ FitV b p) ∧ ms.length < 64 ∧
  ∀ a L, H a = none → (∀ p ∈ L, p ∈ ms) → (∀ p ∈ ms, p.2 ∈ L.map (·.2)) → (L.map (·.2)).Nodup → Q (.ref a) (upd H a (SetV b X.w a L))
theorem cr_setOf (hc : X.calm = true) (hu : X.A.units + 64 < cLine) : CallR X (.type "set") (rSetOf X) := by
  intro pins s σ H xs us Q I r h
  obtain ⟨b, l, ms, rfl, hl, hk, h64, q⟩ := h
  rw [Vals.ref1 r]
  have hn : H s.heap.objs.size = none := I.hok.fresh (Nat.le_refl _)
  have fin : ∀ M : List Mem, Twin ms M → Made b X.w s M (EP X pins σ Q) := fun M tw h' tk L es ep t R g k => by
    obtain ⟨L', t', sub⟩ := tw.pick (N := L) fun m hm => List.mem_of_mem_take (g.sub m hm)
    refine ⟨.ref s.heap.objs.size, upd H s.heap.objs.size (SetV b X.w s.heap.objs.size L'), I.laid (t' := tk) k (Nat.le_refl _) (setV_ok ⟨L, es, ep, t, t', R.ob, R.eq, R.nd, R.fit, R.ris, R.full, R.led, R.few, R.tab⟩), rfl, q _ L' hn sub (fun p hp => ?_) ?_⟩
    · rw [← t'.2]
      have e : p.2 ∈ M.map (·.2) := by
        rw [tw.2]
        exact List.mem_map.mpr ⟨p, hp, rfl⟩
      obtain ⟨m, hm, em⟩ := List.mem_map.mp e
      rw [← em]
      exact g.all m (by rw [List.take_length]; exact hm)
    · rw [← t'.2]
      exact R.nd
  have pre : ∀ M : List Mem, Twin ms M → (∀ m ∈ M, NestedIs s.heap m.2 m.1) ∧ (∀ m ∈ M, Fit b m) ∧ M.length < 64 := fun M tw => by
    refine ⟨fun m hm => ?_, fun m hm => ?_, ?_⟩
    · obtain ⟨p, hp, r1, e1⟩ := tw.mem m hm
      rw [e1]
      exact (Kv.reads I p.2 p.1 m.1 (hk p hp).1 r1).1
    · obtain ⟨p, hp, r1, e1⟩ := tw.mem m hm
      exact (hk p hp).2.fit r1 e1
    · have z := congrArg List.length tw.2
      rw [List.length_map, List.length_map] at z
      omega
  rcases hl with hl | hl
  · obtain ⟨its, rv, pl, hz⟩ := I.list hl
    obtain ⟨M, eM, tw⟩ := Twin.make rv
    obtain ⟨p1, p2, p3⟩ := pre M tw
    exact set_of_list b M (I.ok.hd hc) pl.isList (by simpa using eM.symm) p1 p2 p3 (by omega) (fin M tw)
  · obtain ⟨its, rv, pl, hz⟩ := I.tuple hl
    obtain ⟨M, eM, tw⟩ := Twin.make rv
    obtain ⟨p1, p2, p3⟩ := pre M tw
    exact set_of_tuple b M (I.ok.hd hc) pl (by simpa using eM.symm) p1 p2 p3 (by omega) (fin M tw)
/-- len(a set) -/
def rLenSet (X : Cx) : List V → Hp → VK → Prop := fun xs H Q => ∃ (b : Bool) (a : Addr) (L : List MemV), xs = [V.ref a] ∧ H a = some (SetV b X.w a L) ∧ Q (.int L.length) H
theorem cr_lenSet : CallR X (.builtin "len") (rLenSet X) := by
  intro pins s σ H xs us Q I r h
  obtain ⟨b, a, L, rfl, ha, q⟩ := h
  rw [Vals.ref1 r]
  obtain ⟨M, es, ep, t, tw, ⟨o, ho, hex, hd⟩, eq, _, _, _, full, _, few, _⟩ := (show SetV0 b X.w s.heap a L from (I.hok a _ ha).1)
  have z1 : es.size = M.length := by rw [← Array.length_toList, eq, ents, List.length_map]
  have z2 := congrArg List.length tw.2
  rw [List.length_map, List.length_map] at z2
  exact call_len_set ho hex hd full (by rw [z1]; omega) ⟨.int L.length, H, I.tok _, ⟨_, by rw [z1, z2]⟩, q⟩
end
end KS
/-! sorted(a set) -/
namespace KS
open PySem PySem.Spec PyProof.Rows L2
theorem same_keys {α β : Type} (f : α → β) {L L' : List α} (sub : ∀ x ∈ L', x ∈ L) (pm : (L'.map f).Perm (L.map f)) (nd : (L.map f).Nodup) : L'.Perm L := by
  have inj : ∀ x ∈ L, ∀ y ∈ L, f x = f y → x = y := fun x hx y hy e => by
    obtain ⟨i, hi, rfl⟩ := List.getElem_of_mem hx
    obtain ⟨j, hj, rfl⟩ := List.getElem_of_mem hy
    have e2 : (L.map f)[i]? = (L.map f)[j]? := by
      rw [List.getElem?_map, List.getElem?_map, List.getElem?_eq_getElem hi, List.getElem?_eq_getElem hj]
      show some _ = some _
      rw [e]
    have ij : i = j := (List.getElem?_inj (by rw [List.length_map]; exact hi) nd).mp e2
    subst ij
    rfl
  have n1 : L'.Nodup := nodup_of_map (pm.nodup_iff.mpr nd)
  have n2 : L.Nodup := nodup_of_map nd
  refine (List.perm_ext_iff_of_nodup n1 n2).mpr fun x => ⟨sub x, fun hx => ?_⟩
  obtain ⟨y, hy, e⟩ := List.mem_map.mp (pm.mem_iff.mpr (List.mem_map.mpr ⟨x, hx, rfl⟩))
  rw [← inj y (sub y hy) x hx e]
  exact hy
/-- x stands behind y -/
def Aft (p q : MemV) : Prop := W.dataLt q.2.data p.2.data = false
mutual
theorem data_depth : ∀ k : NestedKey, k.data.depth = k.depth
  | .none => rfl
  | .num _ => rfl
  | .text _ => rfl
  | .tup ks => by
    show PyData.depthAll (NestedKey.datas ks) + 1 = NestedKey.depthAll ks + 1
    rw [datas_depth ks]
theorem datas_depth : ∀ ks : List NestedKey, PyData.depthAll (NestedKey.datas ks) = NestedKey.depthAll ks
  | [] => rfl
  | k :: ks => by
    show max k.data.depth (PyData.depthAll (NestedKey.datas ks)) = max k.depth (NestedKey.depthAll ks)
    rw [data_depth k, datas_depth ks]
end
section
variable {X : Cx}
/-- sorted(a set): a new list, ascending -/
def rSortSet (X : Cx) : List V → Hp → VK → Prop := fun xs H Q => ∃ (b : Bool) (a : Addr) (L : List MemV), xs = [V.ref a] ∧ H a = some (SetV b X.w a L) ∧ (∀ p ∈ L, Kv X.K H p.1 p.2) ∧
  W.AllAlike (L.map (·.2.data)) ∧ W.Sortable (L.map (·.2.data)) ∧
  ∀ (L' : List MemV) (p : Addr), L'.Perm L → L'.Pairwise Aft → H p = none → Q (.ref p) (upd H p (.lst (L'.map (·.1))))
theorem vals_each : ∀ {L : List MemV} {us : List Value}, Vals (L.map (·.1)) us → W.EachIs (fun v (p : MemV) => RelV p.1 v) us L
  | [], _, r => by
    cases r
    exact .nil
  | p :: L, _, r => by
    cases r with
    | cons r1 r2 => exact .cons r1 (vals_each r2)
theorem each_vals : ∀ {us : List Value} {L : List MemV}, W.EachIs (fun v (p : MemV) => RelV p.1 v) us L → Vals (L.map (·.1)) us
  | _, _, .nil => .nil
  | _, _, .cons r t => .cons r (each_vals t)
theorem each_and {α β : Type} {R S : α → β → Prop} : ∀ {as : List α} {bs : List β}, W.EachIs R as bs → (∀ a, ∀ b ∈ bs, R a b → S a b) → W.EachIs S as bs
  | _, _, .nil, _ => .nil
  | _, _, .cons r t, h => .cons (h _ _ List.mem_cons_self r) (each_and t fun a b hb => h a b (List.mem_cons_of_mem _ hb))
theorem cr_sortSet (hc : X.calm = true) (hu : X.A.units + 64 < cLine) : CallR X (.builtin "sorted") (rSortSet X) := by
  intro pins s σ H xs us Q I r h
  obtain ⟨b, a, L, rfl, ha, hk, al, so, q⟩ := h
  rw [Vals.ref1 r]
  obtain ⟨M, es, ep, t, tw, ⟨o, ho, hex, hd⟩, eq, nd, fit, ris, full, led, few, _⟩ := (show SetV0 b X.w s.heap a L from (I.hok a _ ha).1)
  have z1 : es.size = M.length := by rw [← Array.length_toList, eq, ents, List.length_map]
  have z2 := congrArg List.length tw.2
  rw [List.length_map, List.length_map] at z2
  have ndL : (L.map (·.2)).Nodup := by
    rw [← tw.2]
    exact nd
  refine Calls.call_function_entry kind_sorted plain_sorted entry_sorted (args_sorted1 _) ?_
  unfold Builtin.«sorted»
  refine wpAny_bind (m := checkCount "sorted" 1 1 _) (wpAny_pure (wpAny_bind (collect_set (A := X.A.in1) (I.ok.hd hc) ⟨o, ho, hex.1, hd⟩ full (by rw [z1]; show M.length < 4096; omega) ris led fun s1 vs k1 hz g1 o1 pm => ?_)))
  rw [eq, ents, List.map_map] at pm
  obtain ⟨M1, e1, p1⟩ := perm_back (fun m : Mem => m.1) vs M pm
  obtain ⟨L1, t1, sub⟩ := tw.pick (N := M1) fun m hm => p1.mem_iff.mp hm
  have pL : L1.Perm L := same_keys (fun p : MemV => p.2) sub (by rw [← t1.2, ← tw.2]; exact p1.map _) ndL
  have zL : L1.length < 64 := by
    rw [pL.length_eq]
    omega
  have rv : Vals (L1.map (·.1)) vs := by
    rw [e1]
    exact t1.1
  have zv : vs.length = L1.length := by rw [← rv.length, List.length_map]
  refine wpAny_bind (wpAny_newList ?_ (by rw [zv, sizeLine_eq]; omega))
  have hoL : (s1.heap.push (seqObj "list" vs.toArray 0)).get? s1.heap.objs.size = some (seqObj "list" vs.toArray 0) := Heap.get?_push_size _ rfl
  have pd : (L1.map (·.2.data)).Perm (L.map (·.2.data)) := pL.map _
  have al1 : W.AllAlike (L1.map (·.2.data)) := fun d hd d' hd' => al d (pd.mem_iff.mp hd) d' (pd.mem_iff.mp hd')
  have so1 : W.Sortable (L1.map (·.2.data)) := so.imp (fun h d hd => h d (pd.mem_iff.mp hd)) fun h d hd => h d (pd.mem_iff.mp hd)
  have dep : ∀ p ∈ L1, p.2.data.depth ≤ 8 := fun p hp => by
    have e : p.2 ∈ M.map (·.2) := by
      rw [tw.2]
      exact List.mem_map.mpr ⟨p, sub p hp, rfl⟩
    obtain ⟨m, hm, em⟩ := List.mem_map.mp e
    rw [data_depth, ← em]
    exact fit_depth (fit m hm)
  refine wpAny_bind (wpAny_holding (W.list_sort_data (s := { s1 with heap := s1.heap.push (seqObj "list" vs.toArray 0) }) hoL (vals_each rv) (each_and (vals_each rv) fun v p hp r0 => ⟨[], ?_, by simp⟩) al1 so1 (by rw [sizeLine_eq]; omega) (fun p hp => by have := dep p hp; simp only [Around.in1_units]; omega) fun out zo eo => ?_))
  · exact PyProof.Rows.Reads.keeps (fun b u e => Heap.get?_push_of_some _ (k1 b u e)) (Kv.reads I p.2 p.1 v (hk p (sub p hp)) r0).2
  · obtain ⟨c, hc2⟩ := sortedHeap_at (vs := vs) (out := List.toArray out) hoL
    have pS := List.mergeSort_perm L1 (W.dataLe false fun p : MemV => p.2.data)
    have oS : (L1.mergeSort (W.dataLe false fun p : MemV => p.2.data)).Pairwise Aft := by
      refine (W.sort_pairwise (W.sortLe_total _ false _) L1).imp fun {p q} hle => ?_
      have h2 : (!W.dataLt q.2.data p.2.data) = true := hle
      show W.dataLt q.2.data p.2.data = false
      cases e : W.dataLt q.2.data p.2.data with
      | false => rfl
      | true =>
        rw [e] at h2
        cases h2
    have rS := each_vals eo
    generalize L1.mergeSort (W.dataLe false fun p : MemV => p.2.data) = S at pS oS rS
    have hn : H s1.heap.objs.size = none := I.hok.fresh hz
    have keep : ∀ b u, s.heap.get? b = some u → (sortedHeap (s1.heap.push (seqObj "list" vs.toArray 0)) s1.heap.objs.size vs (List.toArray out)).get? b = some u := fun b u e => by
      have e2 := k1 b u e
      have lt := Heap.lt_size e2
      rw [sortedHeap_old (Nat.ne_of_lt lt) (by rw [size_push']; exact Nat.lt_succ_of_lt lt)]
      exact Heap.get?_push_of_some _ e2
    have len : (S.map (·.1)).length ≤ sizeLine := by
      rw [List.length_map, pS.length_eq, sizeLine_eq]
      omega
    have J : Inv X pins σ (upd H s1.heap.objs.size (.lst (S.map (·.1)))) { s with heap := sortedHeap (s1.heap.push (seqObj "list" vs.toArray 0)) s1.heap.objs.size vs (List.toArray out), gens := s1.gens, drawn := s1.drawn, toks := s1.toks } :=
      I.call (ch := []) (Un.laid keep hz hn) (I.hok.laid keep hz ⟨len, out, c, rS, by simpa using hc2⟩) (by rw [g1]; exact I.bare) (fun _ z => nomatch z)
    obtain ⟨hp1, gn1, dr1, tk1, os1⟩ := s1
    have eo1 : os1 = s.os := o1
    subst eo1
    exact wpAny_pure ⟨_, rfl, ⟨.ref hp1.objs.size, _, J, rfl, q S hp1.objs.size (pS.trans pL) oS hn⟩⟩
end
end KS
/-! Defs that are called where no repr is under way: their promise may lean on repr. -/
namespace KG
open PySem PySem.Spec PyProof.Rows L2

/-- a def's promise where nothing is being shown -/
structure FnG (P : Program) (w : World) (K : PySem.W.Frag) (mg : Str → Option Value) (base : Heap) (CX : CXT) (k : Nat) (f : Addr) (fd : FuncData) (ps : List Str) (sp : Sp) : Prop where
  size : ∀ vs H Q E, sp vs H Q E → vs.length = ps.length
  go : ∀ (A : Around) (outer : List Env) (s : Shared) (H : Hp) (args : Args) (us : List Value) (vs : List V) (Q : VK) (E : XK),
    A.guards = some [] → Room k A → Env0 P w K mg base A outer s H → BindsTo s fd args (ps.zip us) → Vals vs us → sp vs H Q E →
    codeAny (model P w) A (.call (.ref f) args) (CR CX outer P w H s Q E) s

section
variable {P : Program} {w : World} {K : PySem.W.Frag} {mg : Str → Option Value} {base : Heap} {CX : CXT} {k : Nat} {f : Addr} {fd : FuncData} {ps : List Str} {sp : Sp}
theorem FnG.of (F : FnOk P w K mg base CX k f fd ps sp) : FnG P w K mg base CX k f fd ps sp :=
  ⟨F.len, fun A outer s H args us vs Q E _ => F.run A outer s H args us vs Q E⟩
theorem FnG.up {j : Nat} (F : FnG P w K mg base CX j f fd ps sp) (h : j ≤ k) : FnG P w K mg base CX k f fd ps sp :=
  ⟨F.size, fun A outer s H args us vs Q E g hr => F.go A outer s H args us vs Q E g (hr.mono h)⟩

/-- the body's rule, where nothing is being shown -/
theorem okG {x qual : Str} {st : Stmt} {N : List Str} (F : Fun K x qual st f fd) (S : FnScope N ps (defScope st)) (len : ∀ vs H Q E, sp vs H Q E → vs.length = ps.length)
    (hbody : ∀ (cdv : Value) (A : Around) (outer : List Env) (s : Shared) (H : Hp) (vs : List V) (Q : VK) (E : XK),
      (A.deeper (envOfC qual (defScope st) s.heap.objs.size f cdv)).guards = some [] → Room k (A.deeper (envOfC qual (defScope st) s.heap.objs.size f cdv)) → sp vs H Q E →
      ∃ t, PSs (cxOf CX P w K mg base N qual (defScope st) f cdv A outer s H E) (defBody st) t ∧ t { nx := fun _ H' => Q .non H', rt := Q } (start N vs) H) :
    FnG P w K mg base CX (k + 1) f fd ps sp := by
  obtain ⟨oc, od, kV, doc, pm, an, cdv, ct, osl, rfl, lk, hcd⟩ := F.ex
  refine ⟨len, fun A outer s H args us vs Q E hg hr e0 hb rv h => ?_⟩
  refine StX.run_bnd (G := fun xs H2 => xs = vs ∧ H2 = H) lk hcd S hr e0 (fun A' Ex Q' hq => ?_) ?_
  · exact hb _ _ _ _ (hq s H vs us e0 Un.refl rfl (fun _ _ z => z) rv (len _ _ _ _ h) ⟨rfl, rfl⟩)
  · rintro s2 H2 xs ⟨ex, eH⟩ hr2
    rw [ex, eH]
    have hg2 : (A.deeper (envOfC qual (defScope st) s2.heap.objs.size f cdv)).guards = some [] := hg
    rw [eH] at *
    exact hbody cdv A outer s2 H vs Q E hg2 hr2 h
end

section
variable {X : Cx} {CX : CXT} {k : Nat} {f : Addr} {fd : FuncData} {ps : List Str} {sp : Sp} {dvs : List V} {ds : List Value} {E : XK} {x : Str} {p pos : Pos} {e : Expr} {es : List Expr} {t : TA}
/-- f(e, ..) where nothing is being shown -/
theorem pe_callG (F : FnG X.prog X.w X.K X.mg X.base CX k f fd ps sp) (hgu : X.A.guards = some []) (hr : Room k X.A) (hg : Gl X x) (hm : X.mg x = some (.ref f)) (hk : PySem.W.keepIn X.K (.ref f) = true)
    (hb : Binds X.K fd ps ds) (hd : Vals dvs ds) (hx : Passes CX X E) (ha : PA X (e :: es) t) (hdb : (x == ("__debug__" : Str)) = false := by decide)
    (he : starEach (e :: es) X.env = (false, eval e X.env) :: starEach es X.env := by rfl) (hpl : (backTo pos (starEach es X.env)).any (·.1) = false := by rfl) :
    PE X (.Call (.Name x p) (e :: es) [] pos) (tCall sp dvs E t) := by
  constructor
  intro pins s σ H Q I h
  apply wpAny_Call_Name_kw (ld_glob I hg hm ?_ hdb)
  apply PySem.W.callWith_K (h₀ := X.base) I.ok.mod.kin hk ?_ he hpl
  apply thn (ha.run pos pins s σ H _ I h)
  rintro us s1 ⟨vs, H1, I1, r, q⟩
  refine ⟨I1.kIn, ?_⟩
  have r2 : Vals (vs ++ dvs) (us ++ ds) := Vals.append r hd
  have hl : (us ++ ds).length = ps.length := by
    rw [← Paired.length r2]
    exact F.size _ _ _ _ q
  show wpAny _ _ (call (.ref f) us) _ _ _
  refine wpAny_call (codeAny_mono (F.go X.A X.stack s1 H1 ⟨us, []⟩ (us ++ ds) (vs ++ dvs) Q E hgu hr I1.env0 (hb s1 us I1.kIn hl) r2 q) ?_)
  rintro (er | fl) s' hq
  · exact hx pins σ H1 s1 er s' I1 hq
  · cases fl with
    | ret u => exact Inv.after I1 hq
    | next => exact hq.elim
    | brk => exact hq.elim
    | cont => exact hq.elim
end
end KG
namespace KG
open PySem PySem.Spec PyProof.Rows L2

mutual
/-- what is built of None, bools, ints, texts, lists, tuples and dicts that stand in the abstract heap, at addresses of Z alone -/
inductive Dq (Z : Addr → Prop) (H : Hp) : V → PyData → Prop
  | non : Dq Z H .non .none
  | bl (b : Bool) : Dq Z H (.bl b) (.bool b)
  | int (i : Int) : Dq Z H (.int i) (.int i)
  | str (x : Str) : Dq Z H (.str x) (.str x)
  | lst {a : Addr} {xs : List V} {ds : List PyData} : Z a → H a = some (.lst xs) → DqAll Z H xs ds → Dq Z H (.ref a) (.list ds)
  | tup {a : Addr} {xs : List V} {ds : List PyData} : Z a → H a = some (.tup xs) → DqAll Z H xs ds → Dq Z H (.ref a) (.tuple ds)
  | dct {a : Addr} {kvs : List (Key × V)} {ps : List (PyData × PyData)} : Z a → H a = some (.dK kvs) →
      DqAll Z H (kvs.map fun p => kV p.1) (ps.map (·.1)) → DqAll Z H (kvs.map fun p => p.2) (ps.map (·.2)) → Dq Z H (.ref a) (.dict ps)
inductive DqAll (Z : Addr → Prop) (H : Hp) : List V → List PyData → Prop
  | nil : DqAll Z H [] []
  | cons {v : V} {vs : List V} {d : PyData} {ds : List PyData} : Dq Z H v d → DqAll Z H vs ds → DqAll Z H (v :: vs) (d :: ds)
end

section
variable {Z : Addr → Prop} {H H' : Hp}
mutual
theorem Dq.keep (e : ∀ b o, Z b → H b = some o → H' b = some o) : ∀ {v : V} {d : PyData}, Dq Z H v d → Dq Z H' v d
  | _, _, .non => .non
  | _, _, .bl b => .bl b
  | _, _, .int i => .int i
  | _, _, .str x => .str x
  | _, _, .lst z h a => .lst z (e _ _ z h) (DqAll.keep e a)
  | _, _, .tup z h a => .tup z (e _ _ z h) (DqAll.keep e a)
  | _, _, .dct z h a b => .dct z (e _ _ z h) (DqAll.keep e a) (DqAll.keep e b)
theorem DqAll.keep (e : ∀ b o, Z b → H b = some o → H' b = some o) : ∀ {vs : List V} {ds : List PyData}, DqAll Z H vs ds → DqAll Z H' vs ds
  | _, _, .nil => .nil
  | _, _, .cons a b => .cons (Dq.keep e a) (DqAll.keep e b)
end
mutual
theorem Dq.mono {Z' : Addr → Prop} (e : ∀ b, Z b → Z' b) : ∀ {v : V} {d : PyData}, Dq Z H v d → Dq Z' H v d
  | _, _, .non => .non
  | _, _, .bl b => .bl b
  | _, _, .int i => .int i
  | _, _, .str x => .str x
  | _, _, .lst z h a => .lst (e _ z) h (DqAll.mono e a)
  | _, _, .tup z h a => .tup (e _ z) h (DqAll.mono e a)
  | _, _, .dct z h a b => .dct (e _ z) h (DqAll.mono e a) (DqAll.mono e b)
theorem DqAll.mono {Z' : Addr → Prop} (e : ∀ b, Z b → Z' b) : ∀ {vs : List V} {ds : List PyData}, DqAll Z H vs ds → DqAll Z' H vs ds
  | _, _, .nil => .nil
  | _, _, .cons a b => .cons (Dq.mono e a) (DqAll.mono e b)
end
theorem Dq.same (e : Same H H') {v : V} {d : PyData} (h : Dq Z H v d) : Dq Z H' v d := h.keep fun b o _ q => e b o q
theorem DqAll.same (e : Same H H') {vs : List V} {ds : List PyData} (h : DqAll Z H vs ds) : DqAll Z H' vs ds := h.keep fun b o _ q => e b o q
theorem DqAll.length : ∀ {vs : List V} {ds : List PyData}, DqAll Z H vs ds → vs.length = ds.length
  | _, _, .nil => rfl
  | _, _, .cons _ b => congrArg (· + 1) (DqAll.length b)
theorem DqAll.snoc {v : V} {d : PyData} (h : Dq Z H v d) : ∀ {vs : List V} {ds : List PyData}, DqAll Z H vs ds → DqAll Z H (vs ++ [v]) (ds ++ [d])
  | _, _, .nil => .cons h .nil
  | _, _, .cons a b => .cons a (DqAll.snoc h b)
end
mutual
/-- at most how long the text of data is -/
def cost : PyData → Nat
  | .none => 4
  | .bool _ => 5
  | .int i => i.natAbs.log2 + 3
  | .str x => (reprText x).length
  | .list xs => costAll xs + 4
  | .tuple xs => costAll xs + 6
  | .dict kvs => costKv kvs + 4
def costAll : List PyData → Nat
  | [] => 0
  | x :: xs => cost x + 2 + costAll xs
def costKv : List (PyData × PyData) → Nat
  | [] => 0
  | (k, v) :: r => cost k + cost v + 4 + costKv r
end
theorem list_len (ts : List Str) : (listText ts).length ≤ piled ts + 2 := by
  have h : (listText ts).length = (textFrom 0 "[" ts).length + 1 := by
    show (textFrom 0 "[" ts ++ "]").length = _
    rw [strLen_append]; rfl
  cases ts with
  | nil => rw [h]; exact Nat.le_refl _
  | cons t r =>
    have e : textFrom 0 "[" (t :: r) = textFrom 1 (("[" : Str) ++ (if 0 > 0 then ", " else "" : String) ++ t) r := rfl
    rw [h, e, textFrom_length_pos r 1 _ (by decide), strLen_append, strLen_append]
    show 1 + 0 + t.length + piled r + 1 ≤ t.length + 2 + piled r + 2
    omega
theorem tuple_len (ts : List Str) : (tupleText ts).length ≤ piled ts + 4 := by
  have h : (tupleText ts).length ≤ 1 + (Str.join ", " ts).length + 2 := by
    unfold tupleText
    rw [strLen_append, strLen_append]
    have : (Str.ofString (if ts.length == 1 then ",)" else ")" : String)).length ≤ 2 := by
      split <;> decide
    have e : (("(" : Str)).length = 1 := rfl
    omega
  cases ts with
  | nil => exact Nat.le_trans h (by decide)
  | cons t r =>
    have := join_length_add (t :: r) (by simp)
    omega
theorem dict_len (ts : List Str) : (dictText ts).length ≤ piled ts + 2 := by
  have h : (dictText ts).length = 1 + (Str.join ", " ts).length + 1 := by
    unfold dictText
    rw [strLen_append, strLen_append]
    rfl
  cases ts with
  | nil => exact Nat.le_trans (Nat.le_of_eq h) (by decide)
  | cons t r =>
    have := join_length_add (t :: r) (by simp)
    omega
mutual
theorem shown_cost : ∀ d : PyData, d.shown.length ≤ cost d
  | .none => by simp only [PyData.shown, cost]; decide
  | .bool b => by cases b <;> simp only [PyData.shown, cost] <;> decide
  | .int i => by
    simp only [PyData.shown, cost]
    have := int_text_length_le (a := i) (k := i.natAbs.log2 + 1) (by omega) (by omega)
    rw [PySem.ofString_length]
    omega
  | .str x => by simp only [PyData.shown, cost]; exact Nat.le_refl _
  | .list xs => by
    simp only [PyData.shown, cost]
    have := list_len (PyData.shownAll xs)
    have := shownAll_cost xs
    omega
  | .tuple xs => by
    simp only [PyData.shown, cost]
    have := tuple_len (PyData.shownAll xs)
    have := shownAll_cost xs
    omega
  | .dict kvs => by
    simp only [PyData.shown, cost]
    have := dict_len (PyData.shownKv kvs)
    have := shownKv_cost kvs
    omega
theorem shownAll_cost : ∀ xs : List PyData, piled (PyData.shownAll xs) ≤ costAll xs
  | [] => by simp only [PyData.shownAll, costAll]; exact Nat.le_refl _
  | x :: xs => by
    have := shown_cost x
    have := shownAll_cost xs
    have e : piled (PyData.shownAll (x :: xs)) = (x.shown.length + 2) + piled (PyData.shownAll xs) := by simp only [PyData.shownAll, piled, List.map_cons, List.sum_cons]
    rw [e]
    simp only [costAll]
    omega
theorem shownKv_cost : ∀ kvs : List (PyData × PyData), piled (PyData.shownKv kvs) ≤ costKv kvs
  | [] => by simp only [PyData.shownKv, costKv]; exact Nat.le_refl _
  | (k, v) :: r => by
    have h1 := shown_cost k
    have h2 := shown_cost v
    have h3 := shownKv_cost r
    have e : ((": " : Str)).length = 2 := rfl
    have q : piled (PyData.shownKv ((k, v) :: r)) = ((k.shown ++ ": " ++ v.shown).length + 2) + piled (PyData.shownKv r) := by simp only [PyData.shownKv, piled, List.map_cons, List.sum_cons]
    rw [q, strLen_append, strLen_append, e]
    simp only [costKv]
    omega
end

theorem rel_key {P : Program} {w : World} {k : Key} {u : Value} (h : (mixKind P w).is k u = true) : RelV (kV k) u := by
  rcases keyIs_shape h with ⟨i, t, rfl, rfl⟩ | ⟨x, t, rfl, rfl⟩
  · exact ⟨t, rfl⟩
  · exact ⟨t, rfl⟩
theorem pairs_keys {P : Program} {w : World} : ∀ {es : List DictEntry} {vs : List (Key × Value)} {kvs : List (Key × V)}, Pairs (mixKind P w) es vs → KV kvs vs →
    Vals (kvs.map fun p => kV p.1) (es.map (·.key)) ∧ Vals (kvs.map fun p => p.2) (es.map (·.val))
  | _, _, _, .nil, .nil => ⟨.nil, .nil⟩
  | _, _, _, .cons h1 h2 h3, .cons h4 h5 => by
    obtain ⟨e1, e2⟩ := h4
    obtain ⟨i1, i2⟩ := pairs_keys h3 h5
    refine ⟨.cons ?_ i1, .cons ?_ i2⟩
    · show RelV (kV _) _
      rw [e1]
      exact rel_key h1
    · show L2.RelV _ (DictEntry.val _)
      rw [h2]
      exact e2

section
variable {X : Cx} {pins : List (Addr × Obj)} {σ : L2.St} {H : Hp} {s : Shared} {Z : Addr → Prop}
theorem shown_mem {ds : List PyData} {n : Nat} (f : List Str → Str) (hf : ∀ {ts : List Str} {t : Str}, t ∈ ts → t.length ≤ (f ts).length) (h : (f (PyData.shownAll ds)).length ≤ n) : ∀ t ∈ PyData.shownAll ds, t.length ≤ n :=
  fun _ ht => Nat.le_trans (hf ht) h
mutual
theorem Dq.shows (I : Inv X pins σ H s) : ∀ {v : V} {d : PyData}, Dq Z H v d → ∀ (u : Value), RelV v u → d.showable = true → d.shown.length ≤ sizeLine →
    ∃ as bs, Reads s.heap u d as ∧ ReadAtMost s.heap d.depth bs ∧ ReprK X.prog X.w bs s.heap d.depth u d.shown
  | _, _, .non, u, r, _, _ => by
    obtain rfl : u = Value.none := r
    exact ⟨[], [], .none, (fun _ h => nomatch h), by simp only [PyData.shown]; exact .of_is ReprIs.none _ _ _⟩
  | _, _, .bl b, u, r, _, _ => by
    obtain rfl : u = Value.bool b := r
    exact ⟨[], [], .bool b, (fun _ h => nomatch h), by simp only [PyData.shown]; exact .of_is (ReprIs.bool b) _ _ _⟩
  | _, _, .int i, u, r, hs, _ => by
    obtain ⟨t, rfl⟩ := r
    exact ⟨[], [], .int i t, (fun _ h => nomatch h), by simp only [PyData.shown]; exact .of_is (ReprIs.int t (by simpa [PyData.showable] using hs)) _ _ _⟩
  | _, _, .str x, u, r, _, hz => by
    obtain ⟨t, rfl⟩ := r
    exact ⟨[], [], .str x t, (fun _ h => nomatch h), by simp only [PyData.shown] at hz ⊢; exact .of_is (ReprIs.str x t hz) _ _ _⟩
  | _, _, .lst (a := a) (ds := ds) _ ha hd, u, r, hs, hz => by
    obtain rfl : u = Value.ref a := r
    simp only [PyData.shown, PyData.showable] at hs hz
    obtain ⟨_, its, n, rv, ho⟩ := (show ObjOk X.prog X.w H s.heap a (.lst _) from I.hok a _ ha)
    obtain ⟨as, bs, q1, q2, q3⟩ := DqAll.shows I hd its rv hs (shown_mem listText listText_mem_le hz)
    have rr : Reads s.heap (.ref a) (.list ds) (a :: as) := .list ho rfl rfl (by simpa using q1)
    have hna : a ∉ bs := not_mem_of_deeper rr (by simp only [PyData.depth]; omega) q2
    refine ⟨_, a :: bs, rr, ReadAtMost.cons rr (by simp only [PyData.depth]; omega) q2, ?_⟩
    simp only [PyData.depth, PyData.shown]
    cases its with
    | nil =>
      cases q1
      simp only [PyData.shownAll, listText_nil]
      exact ReprK.listEmpty ho rfl rfl
    | cons x l => exact ReprK.list ho rfl rfl hna (by simpa using q3.length_eq) (fun i y e => q3.item i y (by simpa using e))
  | _, _, .tup (a := a) (ds := ds) _ ha hd, u, r, hs, hz => by
    obtain rfl : u = Value.ref a := r
    simp only [PyData.shown, PyData.showable] at hs hz
    obtain ⟨_, its, rv, o, ho, hc, n, hdat⟩ := (show ObjOk X.prog X.w H s.heap a (.tup _) from I.hok a _ ha)
    obtain ⟨as, bs, q1, q2, q3⟩ := DqAll.shows I hd its rv hs (shown_mem tupleText tupleText_mem_le hz)
    have rr : Reads s.heap (.ref a) (.tuple ds) as := .tuple ho hc hdat (by simpa using q1)
    have hna : a ∉ bs := not_mem_of_deeper rr (by simp only [PyData.depth]; omega) q2
    refine ⟨_, a :: bs, rr, ReadAtMost.cons rr (by simp only [PyData.depth]; omega) q2, ?_⟩
    simp only [PyData.depth, PyData.shown]
    exact ReprK.tuple ho hc hdat hna (by simpa using q3)
  | _, _, .dct (a := a) (ps := ps) _ ha hk hv, u, r, hs, hz => by
    obtain rfl : u = Value.ref a := r
    simp only [PyData.shown, PyData.showable] at hs hz
    obtain ⟨_, hsy, vs, rel, o, es, ep, ho, hx, hdat, _, prs, _⟩ := dk_of I.hok ha
    obtain ⟨r1, r2⟩ := pairs_keys prs rel
    obtain ⟨hs1, hs2⟩ := PyData.showableKv_split ps hs
    obtain ⟨as1, b1, q1, q2, q3⟩ := DqAll.shows I hk _ r1 hs1 (fun t ht => let ⟨p, hp, hl⟩ := PyData.shownKv_key_le ps t ht; Nat.le_trans hl (Nat.le_trans (dictText_mem_le hp) hz))
    obtain ⟨as2, b2, p1, p2, p3⟩ := DqAll.shows I hv _ r2 hs2 (fun t ht => let ⟨p, hp, hl⟩ := PyData.shownKv_val_le ps t ht; Nat.le_trans hl (Nat.le_trans (dictText_mem_le hp) hz))
    have hb : ReadAtMost s.heap (PyData.depthKv ps) (b1 ++ b2) := (q2.mono (PyData.depthAll_keys_le ps)).append (p2.mono (PyData.depthAll_vals_le ps))
    have rr : Reads s.heap (.ref a) (.dict ps) (a :: as1 ++ as2) := .dict ho hx.1 hdat q1 p1
    have hna : a ∉ b1 ++ b2 := not_mem_of_deeper rr (by simp only [PyData.depth]; omega) hb
    refine ⟨_, a :: (b1 ++ b2), rr, ReadAtMost.cons rr (by simp only [PyData.depth]; omega) hb, ?_⟩
    simp only [PyData.depth, PyData.shown, PyData.shownKv_eq]
    exact ReprK.dict ho hx.1 hdat hsy hna (ReprEntriesK.of_two es.toList _ _ (q3.more_le (fun b hb => List.mem_append_left _ hb) (PyData.depthAll_keys_le ps))
      (p3.more_le (fun b hb => List.mem_append_right _ hb) (PyData.depthAll_vals_le ps)))
theorem DqAll.shows (I : Inv X pins σ H s) : ∀ {xs : List V} {ds : List PyData}, DqAll Z H xs ds → ∀ (us : List Value), Vals xs us → PyData.showableAll ds = true → (∀ t ∈ PyData.shownAll ds, t.length ≤ sizeLine) →
    ∃ as bs, ReadsAll s.heap us ds as ∧ ReadAtMost s.heap (PyData.depthAll ds) bs ∧ ReprAllK X.prog X.w bs s.heap (PyData.depthAll ds) us (PyData.shownAll ds)
  | _, _, .nil, us, r, _, _ => by
    cases r
    exact ⟨[], [], .nil, (fun _ h => nomatch h), by simp only [PyData.shownAll]; exact .nil⟩
  | _, _, .cons (d := d) (ds := ds) h1 h2, us, r, hs, hz => by
    cases r with
    | cons r1 r2 =>
      simp only [PyData.showableAll, Bool.and_eq_true] at hs
      obtain ⟨as1, b1, q1, q2, q3⟩ := Dq.shows I h1 _ r1 hs.1 (hz _ (by simp only [PyData.shownAll]; exact List.mem_cons_self ..))
      obtain ⟨as2, b2, p1, p2, p3⟩ := DqAll.shows I h2 _ r2 hs.2 (fun t ht => hz t (by simp only [PyData.shownAll]; exact List.mem_cons_of_mem _ ht))
      refine ⟨as1 ++ as2, b1 ++ b2, .cons q1 p1, ?_, ?_⟩
      · simp only [PyData.depthAll]
        exact (q2.mono (Nat.le_max_left _ _)).append (p2.mono (Nat.le_max_right _ _))
      · simp only [PyData.depthAll, PyData.shownAll]
        exact .cons ((q3.more fun b hb => List.mem_append_left _ hb).level_le (Nat.le_max_left _ _)) (p3.more_le (fun b hb => List.mem_append_right _ hb) (Nat.le_max_right _ _))
end

/-- repr(x) of data -/
def rRepr : List V → Hp → VK → Prop := fun xs H Q => ∃ (Z : Addr → Prop) (x : V) (d : PyData), xs = [x] ∧ Dq Z H x d ∧ d.showable = true ∧ d.depth ≤ 60 ∧ d.shown.length ≤ sizeLine ∧ Q (.str d.shown) H
theorem call_repr (hg : X.A.guards = some []) (hu : X.A.units + 64 < cLine) : CallR X (.builtin "repr") rRepr := by
  intro pins s σ H xs us Q I r h
  obtain ⟨Z, x, d, rfl, hd, hs, hdp, hz, q⟩ := h
  obtain ⟨u, rfl, rx⟩ := vals1 r
  have fin : ∀ (h' : Heap) (tu : Tok) (tk : Nat), (∀ b o, s.heap.get? b = some o → h'.get? b = some o) → EP X pins σ Q (.str d.shown tu) { s with heap := h', toks := tk } := fun h' tu tk k =>
    ⟨.str d.shown, H, I.kept k, ⟨tu, rfl⟩, q⟩
  have hu2 : X.A.units + 1 < cLine := by omega
  have big : ∀ {n : Nat}, n + 1 ≤ 60 → X.A.in1.units + (n + 1) < cLine := fun {n} hn => by
    show X.A.units + 1 + (n + 1) < cLine
    omega
  obtain ⟨as, bs, rd, ra, rk⟩ := Dq.shows I hd u rx hs hz
  cases hd with
  | non =>
    obtain rfl : u = Value.none := rx
    simp only [PyData.shown] at fin
    exact PySem.P.repr_of_none (fin s.heap _ _ fun _ _ e => e)
  | bl b =>
    obtain rfl : u = Value.bool b := rx
    simp only [PyData.shown] at fin
    exact PySem.P.repr_of_bool (fin s.heap _ _ fun _ _ e => e)
  | int i =>
    obtain ⟨t, rfl⟩ := rx
    simp only [PyData.shown, PyData.showable] at fin hs
    exact PySem.P.repr_of_int (by simpa using hs) (fin s.heap _ _ fun _ _ e => e)
  | str y =>
    obtain ⟨t, rfl⟩ := rx
    simp only [PyData.shown] at fin hz
    exact PySem.P.repr_of_str (fin s.heap _ _ fun _ _ e => e) hz
  | @lst a xs ds _ ha hd =>
    obtain rfl : u = Value.ref a := rx
    simp only [PyData.shown, PyData.showable, PyData.depth] at fin hs hz hdp
    obtain ⟨_, its, n, rv, ho⟩ := (show ObjOk X.prog X.w H s.heap a (.lst _) from I.hok a _ ha)
    obtain ⟨as1, b1, q1, q2, q3⟩ := DqAll.shows I hd its rv hs (shown_mem listText listText_mem_le hz)
    have rr : Reads s.heap (.ref a) (.list ds) (a :: as1) := .list ho rfl rfl (by simpa using q1)
    have hna : a ∉ b1 := not_mem_of_deeper rr (by simp only [PyData.depth]; omega) q2
    cases its with
    | nil =>
      cases q1
      simp only [PyData.shownAll, listText_nil] at fin
      exact call_repr_slot hu2 ⟨_, ho, rfl⟩ F.slot_list_repr.toG (call_list_repr_empty ⟨_, ho, rfl⟩ ho rfl ⟨_, _, rfl, fin s.heap _ _ fun _ _ e => e⟩)
    | cons x l =>
      exact call_repr_slot hu2 ⟨_, ho, rfl⟩ F.slot_list_repr.toG (call_list_reprK (h₀ := s.heap) ho rfl rfl hna (by simpa using q3.length_eq) (fun i y e => q3.item i y (by simpa using e)) hg (fun b _ => Clear.nil b) (big hdp)
        (fun _ _ e => e) (fun h' t tk k => ⟨_, _, rfl, fin h' _ _ k⟩) hz)
  | @tup a xs ds _ ha hd =>
    obtain rfl : u = Value.ref a := rx
    simp only [PyData.shown, PyData.showable, PyData.depth] at fin hs hz hdp
    obtain ⟨_, its, rv, o, ho, hc, n, hdat⟩ := (show ObjOk X.prog X.w H s.heap a (.tup _) from I.hok a _ ha)
    obtain ⟨as1, b1, q1, q2, q3⟩ := DqAll.shows I hd its rv hs (shown_mem tupleText tupleText_mem_le hz)
    have rr : Reads s.heap (.ref a) (.tuple ds) as1 := .tuple ho hc hdat (by simpa using q1)
    have hna : a ∉ b1 := not_mem_of_deeper rr (by simp only [PyData.depth]; omega) q2
    exact call_repr_slot hu2 ⟨_, ho, hc⟩ F.slot_tuple_repr (call_tuple_reprK (h₀ := s.heap) ho hc hdat hna (by simpa using q3) hg (fun b _ => Clear.nil b) (big hdp) (fun _ _ e => e) (fun h' t tk k => ⟨_, _, rfl, fin h' _ _ k⟩) hz)
  | @dct a kvs ps _ ha hk hv =>
    obtain rfl : u = Value.ref a := rx
    simp only [PyData.shown, PyData.showable, PyData.depth, PyData.shownKv_eq] at fin hs hz hdp
    rw [← PyData.shownKv_eq] at hz
    obtain ⟨_, hsy, vs, rel, o, es, ep, ho, hx, hdat, _, prs, _⟩ := dk_of I.hok ha
    obtain ⟨r1, r2⟩ := pairs_keys prs rel
    obtain ⟨hs1, hs2⟩ := PyData.showableKv_split ps hs
    obtain ⟨as1, b1, q1, q2, q3⟩ := DqAll.shows I hk _ r1 hs1 (fun t ht => let ⟨p, hp, hl⟩ := PyData.shownKv_key_le ps t ht; Nat.le_trans hl (Nat.le_trans (dictText_mem_le hp) hz))
    obtain ⟨as2, b2, p1, p2, p3⟩ := DqAll.shows I hv _ r2 hs2 (fun t ht => let ⟨p, hp, hl⟩ := PyData.shownKv_val_le ps t ht; Nat.le_trans hl (Nat.le_trans (dictText_mem_le hp) hz))
    have hb : ReadAtMost s.heap (PyData.depthKv ps) (b1 ++ b2) := (q2.mono (PyData.depthAll_keys_le ps)).append (p2.mono (PyData.depthAll_vals_le ps))
    have rr : Reads s.heap (.ref a) (.dict ps) (a :: as1 ++ as2) := .dict ho hx.1 hdat q1 p1
    have hna : a ∉ b1 ++ b2 := not_mem_of_deeper rr (by simp only [PyData.depth]; omega) hb
    exact call_repr_slot hu2 ⟨_, ho, hx.1⟩ F.slot_dict_repr (call_dict_reprK (h₀ := s.heap) ho hx.1 hdat hsy hna (ReprEntriesK.of_two es.toList _ _ (q3.more_le (fun b hb => List.mem_append_left _ hb) (PyData.depthAll_keys_le ps))
      (p3.more_le (fun b hb => List.mem_append_right _ hb) (PyData.depthAll_vals_le ps))) hg (fun b _ => Clear.nil b) (big hdp) (fun _ _ e => e) (fun h' t tk k => ⟨_, _, rfl, fin h' _ _ k⟩) (by rw [← PyData.shownKv_eq]; exact hz))
end
end KG
/-! The deck: a dict with cells to come, a mixed number, a count of draws. -/
namespace K01
open PySem PySem.Spec PyProof.Rows L2 KG

def top (i : Nat) : Stmt := PySem.Challenge.pw_clashnumber_k32_choices_of_any_value.main.body.getD i (.Pass ⟨0, 0, 0, 0⟩)
/-- a def of the text: where it stands -/
structure FnF (K : PySem.W.Frag) (mg : Str → Option Value) (name qual : Str) (st : Stmt) where
  a : Addr
  d : FuncData
  F : Fun K name qual st a d
  g : mg name = some (.ref a)
/-- the names that are still built in -/
structure Bi (mg : Str → Option Value) : Prop where
  n_list : mg "list" = none
  n_int : mg "int" = none
  n_len : mg "len" = none
  n_range : mg "range" = none
  n_tuple : mg "tuple" = none
  n_repr : mg "repr" = none
  n_isinstance : mg "isinstance" = none
abbrev s__law_deck : Stmt := top 23
abbrev s__law_draw : Stmt := top 24
abbrev s__law_pick : Stmt := top 25

/-! ### the deck in the heap -/
def dkv (l : Addr) (m n : Int) : List (Key × V) := [(.inr "items", .ref l), (.inr "total", .int m), (.inr "draws", .int n)]
structure DeckAt (H : Hp) (a l : Addr) (k : Nat) : Prop where
  ex : ∃ (cs : List Int) (m : Int) (n : Nat), H a = some (.dK (dkv l m n)) ∧ H l = some (.lst (cs.map .int)) ∧ cs.length ≤ 63 ∧ 0 ≤ m ∧ m < 2147483629 ∧ n ≤ k
/-- all but the deck's two objects stands -/
def Off (a l : Addr) (H H' : Hp) : Prop := ∀ b o, H b = some o → b ≠ a → b ≠ l → H' b = some o
theorem Off.refl {a l : Addr} {H : Hp} : Off a l H H := fun _ _ h _ _ => h
theorem Off.trans {a l : Addr} {H H1 H2 : Hp} (x : Off a l H H1) (y : Off a l H1 H2) : Off a l H H2 := fun b o h h1 h2 => y b o (x b o h h1 h2) h1 h2
theorem Off.of {a l : Addr} {H H' : Hp} (x : Same H H') : Off a l H H' := fun b o h _ _ => x b o h
theorem DeckAt.up {H : Hp} {a l : Addr} {j k : Nat} (x : DeckAt H a l j) (h : j ≤ k) : DeckAt H a l k := by
  obtain ⟨cs, m, n, h1, h2, h3, h4, h5, h6⟩ := x.ex
  exact ⟨cs, m, n, h1, h2, h3, h4, h5, Nat.le_trans h6 h⟩
theorem DeckAt.same {H H' : Hp} {a l : Addr} {k : Nat} (x : DeckAt H a l k) (e : Same H H') : DeckAt H' a l k := by
  obtain ⟨cs, m, n, h1, h2, h3⟩ := x.ex
  exact ⟨cs, m, n, e _ _ h1, e _ _ h2, h3⟩

theorem val_cells (l : Addr) (m n : Int) : valV (dkv l m n) (.inr "items") = some (.ref l) := by
  show valV [_, _, _] _ = _
  simp [valV]
theorem val_mixed (l : Addr) (m n : Int) : valV (dkv l m n) (.inr "total") = some (.int m) := by
  have h1 : ¬ ("items" : Str) = "total" := by decide +kernel
  show valV [_, _, _] _ = _
  simp [valV, h1]
theorem val_draws (l : Addr) (m n : Int) : valV (dkv l m n) (.inr "draws") = some (.int n) := by
  have h1 : ¬ ("items" : Str) = "draws" := by decide +kernel
  have h2 : ¬ ("total" : Str) = "draws" := by decide +kernel
  show valV [_, _, _] _ = _
  simp [valV, h1, h2]
theorem put_draws (l : Addr) (m n k : Int) : putK (dkv l m n) (.inr "draws") (.int k) = dkv l m k := by
  have h1 : ¬ ("items" : Str) = "draws" := by decide +kernel
  have h2 : ¬ ("total" : Str) = "draws" := by decide +kernel
  show putK [_, _, _] _ _ = _
  simp [putK, h1, h2, dkv]
theorem put_mixed (l : Addr) (m n k : Int) : putK (dkv l m n) (.inr "total") (.int k) = dkv l k n := by
  have h1 : ¬ ("items" : Str) = "total" := by decide +kernel
  have h2 : ¬ ("draws" : Str) = "total" := by decide +kernel
  show putK [_, _, _] _ _ = _
  simp [putK, h1, h2, dkv]
theorem merge_deck (l : Addr) (m n : Int) : mergeK [] (dkv l m n) = dkv l m n := by
  have h1 : ¬ ("items" : Str) = "total" := by decide +kernel
  have h2 : ¬ ("items" : Str) = "draws" := by decide +kernel
  have h3 : ¬ ("total" : Str) = "draws" := by decide +kernel
  simp [mergeK, dkv, putK, h1, h2, h3]

/-! ### _law_deck -/
def spDeck (K : PySem.W.Frag) : Sp := fun vs H Q _ => ∃ (a : Addr) (ns : List Int), vs = [.ref a] ∧ SqL K H a (ns.map V.int) ∧ ns.length ≤ 63 ∧
  ∀ (d l : Addr) (H' : Hp), H d = none → H l = none → Same H H' → DeckAt H' d l 0 → Q (.ref d) H'
theorem cut_len {xs : List V} {i : Int} (h : xs.length ≤ 63) : (cutV xs none (some i)).length ≤ 63 := by
  unfold cutV
  rw [List.length_take, List.length_drop]
  omega
theorem cut_map {ns : List Int} {lo hi : Option Int} : ∃ ms : List Int, cutV (ns.map V.int) lo hi = ms.map V.int := by
  unfold cutV
  exact ⟨(ns.drop _).take _, by rw [List.map_take, List.map_drop]⟩
section
variable {P : Program} {w : World} {K : PySem.W.Frag} {mg : Str → Option Value} {base : Heap}
theorem sc__law_deck : FnScope ["_law_script", "_law_items", "_law_total", "_law_item"] ["_law_script"] (defScope s__law_deck) := ⟨rfl, rfl, rfl, by decide +kernel, rfl, by decide +kernel, by decide +kernel⟩
theorem ok__law_deck (B : Bi mg) (f : FnF K mg "_law_deck" "_law_deck" s__law_deck) : FnOk P w K mg base CX0 1 f.a f.d ["_law_script"] (spDeck K) := by
  refine f.F.ok sc__law_deck (fun vs H Q E h => ?_) (fun cdv A outer s H vs Q E hr h => ?_)
  · obtain ⟨a, ns, rfl, _⟩ := h
    rfl
  · obtain ⟨a, ns, rfl, hS, hlen, k⟩ := h
    have hu := hu_of hr
    refine ⟨_, (pss_cons
      (ps_par (i := 1) (j := 2) (by rfl) sc__law_deck.nd rfl rfl (by decide) rfl rfl (pa_cons (pe_callTy call_list_of (by rfl) B.n_list (by decide +kernel) (pa_cons (pe_slice sl_list (pv 0) po_none (po_some pe_int)) pa_nil)) (pa_cons pe_int pa_nil)) (by rfl))
    (pss_cons
      (ps_for PassesOwn.never rfl (pi_list (pv 1)) (pg_name (i := 3) sc__law_deck.nd rfl (Or.inl rfl))
        (pss_one
          (ps_set (i := 2) sc__law_deck.nd rfl (Or.inl rfl) (pe_op op_mod (pe_callTy call_int1 (by rfl) B.n_int (by decide +kernel) (pa_cons (pe_op op_add (pe_op op_add (pe_op op_mul (pv 2) pe_int) (pe_op op_mod (pe_callTy call_int1 (by rfl) B.n_int (by decide +kernel) (pa_cons (pv 3) pa_nil)) pe_int)) pe_int) pa_nil)) pe_int))))
    (pss_one
      (ps_ret (pe_disp (pps_cons pe_str (pe_revL (pv 1)) (pps_cons pe_str (pv 2) (pps_cons pe_str pe_int pps_nil))) (by rfl) (by rfl) (fun z => by cases z) (by decide)))))), ?_⟩
    -- list(script[:63]), 32003
    refine ⟨_, rfl, 63, rfl, a, _, rfl, hS, fun p hp => ⟨p, _, rfl, .inl (SqL.of upd_same), fun l hl => ⟨_, _, rfl, ?_⟩⟩⟩
    obtain ⟨ms, ems⟩ := cut_map (ns := ns) (lo := none) (hi := some 63)
    have lms : ms.length ≤ 63 := by
      have := cut_len (xs := ns.map V.int) (i := 63) (by rw [List.length_map]; exact hlen)
      rw [ems, List.length_map] at this
      exact this
    rw [ems] at hl ⊢
    have e1 : Same H (upd H p (.lst (ms.map V.int))) := fun b o e => by rw [upd_ne (ne_of_none e hp)]; exact e
    have e2 : Same H (upd (upd H p (.lst (ms.map V.int))) l (.lst (ms.map V.int))) := fun b o e => by rw [upd_ne (ne_of_none (e1 b o e) hl)]; exact e1 b o e
    have hl2 : upd (upd H p (.lst (ms.map V.int))) l (.lst (ms.map V.int)) l = some (.lst (ms.map V.int)) := upd_same
    have hl0 : H l = none := e1.free hl
    -- for item in items
    refine ⟨_, rfl, l, rfl, ⟨_, SqL.of hl2⟩, ?_⟩
    generalize upd (upd H p (.lst (ms.map V.int))) l (.lst (ms.map V.int)) = H3 at hl2 e2 ⊢
    refine for_list (K := K) (a := l) (xs := ms.map V.int) (fun i σ H' => ∃ (m : Int) (v : Option V), σ = [some (.ref a), some (.ref l), some (.int m), v] ∧ 0 ≤ m ∧ m < 2147483629 ∧ H' = H3) ⟨32003, none, rfl, by decide, by decide, rfl⟩
      (fun i σ H' _ ⟨_, _, _, _, _, e⟩ => by rw [e]; exact SqL.of hl2) ?_ ?_
    · rintro i y σ H' hi ⟨m, v, rfl, m0, m1, rfl⟩
      obtain ⟨z, rfl⟩ : ∃ z, y = V.int z := by
        rw [List.getElem?_map] at hi
        cases e : ms[i]? with
        | none => rw [e] at hi; cases hi
        | some z => rw [e] at hi; exact ⟨z, (Option.some.inj hi).symm⟩
      refine ⟨_, rfl, _, _, rfl, rfl, .inl (by omega), _, rfl, .inl ⟨_, rfl, _, _, rfl, rfl, (by show (0 : Int) < 2147483563; decide), _, _, rfl, rfl, _, _, rfl, rfl, .inl ⟨_, rfl, _, _, rfl, rfl, (by show (0 : Int) < 2147483629; decide), ?_⟩⟩⟩
      exact ⟨_, _, rfl, Int.emod_nonneg _ (by decide), Int.emod_lt_of_pos _ (by decide), rfl⟩
    · rintro σ H' ⟨m, v, rfl, m0, m1, rfl⟩
      -- return {'cells': cells[::-1], 'mixed': mixed, 'draws': 0}
      refine fun d hd => ⟨_, rfl, l, _, rfl, SqL.of (by rw [upd_ne (ne_of_none hl2 hd)]; exact hl2), fun c hc => ⟨_, rfl, ?_⟩⟩
      have ndc : d ≠ c := ne_of_none upd_same hc
      have hc3 : H' c = none := by rw [upd_ne (Ne.symm ndc)] at hc; exact hc
      refine ⟨by rw [upd_ne ndc, upd_same], dkv c m 0, rfl, (by show 3 ≤ 15; decide), ?_⟩
      rw [merge_deck, ← List.map_reverse]
      refine k d c _ (e2.free hd) (e2.free hc3) (fun b o e => ?_) ⟨ms.reverse, m, 0, upd_same, by rw [upd_ne (Ne.symm ndc), upd_same], by rw [List.length_reverse]; exact lms, m0, m1, Nat.le_refl _⟩
      have e4 := e2 b o e
      rw [upd_ne (ne_of_none e4 hd), upd_ne (ne_of_none e4 hc3), upd_ne (ne_of_none e4 hd)]
      exact e4

/-! ### _law_draw -/
def spDraw : Sp := fun vs H Q _ => ∃ (d l : Addr) (many : Int) (k : Nat), vs = [.ref d, .int many] ∧ DeckAt H d l k ∧ 0 < many ∧ many < 1000000 ∧ k < 1000000000 ∧
  ∀ (i : Int) (H' : Hp), 0 ≤ i → i < many → DeckAt H' d l (k + 1) → Off d l H H' → Q (.int i) H'
theorem ints_eqv : ∀ cs : List Int, PyData.eqv (.list (cs.map .int)) (.list []) = cs.isEmpty
  | [] => by decide
  | c :: r => by simp [PyData.eqv, PyData.eqvAll]
theorem ints_shaped (cs : List Int) : SeqAt.shaped (.list (cs.map .int)) = true := by
  have h : ∀ l : List Int, PyData.canLayAll0 (l.map .int) = true ∧ PyData.depthAll (l.map .int) ≤ 1 := by
    intro l
    induction l with
    | nil => exact ⟨rfl, by decide⟩
    | cons c r ih =>
      refine ⟨?_, ?_⟩
      · simp only [List.map_cons, PyData.canLayAll0, PyData.canLay0, Bool.true_and]
        exact ih.1
      · simp only [List.map_cons, PyData.depthAll, PyData.depth]
        have := ih.2
        omega
  obtain ⟨h1, h2⟩ := h cs
  unfold SeqAt.shaped
  have e1 : (PyData.list (cs.map .int)).canLay0 = true := by simpa [PyData.canLay0] using h1
  have e2 : (PyData.list (cs.map .int)).depth ≤ 64 := by
    simp only [PyData.depth]
    omega
  rw [e1, decide_eq_true e2]
  rfl
theorem ints_dp {K : PySem.W.Frag} {H : Hp} : ∀ cs : List Int, L2.DpAll K H (cs.map V.int) (cs.map .int)
  | [] => .nil
  | c :: r => .cons (.int c) (ints_dp r)
theorem sc__law_draw : FnScope ["_law_deck_here", "_law_many", "_law_turn", "_law_item", "_law_mixed"] ["_law_deck_here", "_law_many"] (defScope s__law_draw) := ⟨rfl, rfl, rfl, by decide +kernel, rfl, by decide +kernel, by decide +kernel⟩
theorem ok__law_draw (B : Bi mg) (f : FnF K mg "_law_draw" "_law_draw" s__law_draw) : FnOk P w K mg base CX0 1 f.a f.d ["_law_deck_here", "_law_many"] spDraw := by
  refine f.F.ok sc__law_draw (fun vs H Q E h => ?_) (fun cdv A outer s H vs Q E hr h => ?_)
  · obtain ⟨d, l, many, k, rfl, _⟩ := h
    rfl
  · obtain ⟨d, l, many, k, rfl, D, hm0, hm1, hk, q⟩ := h
    have hu := hu_of hr
    have hu64 := hr.units
    obtain ⟨cs, m, n, hd, hl, lcs, m0, m1, hn⟩ := D.ex
    refine ⟨_, (pss_cons
      (ps_dput hu (pv 0) pe_str (pe_op op_add (pe_dget hu (pv 0) pe_str (fun _ _ => rfl)) pe_int) rfl)
    (pss_cons
      (ps_par (i := 2) (j := 3) (by rfl) sc__law_draw.nd rfl rfl (by decide) rfl rfl (pa_cons (pe_dget hu (pv 0) pe_str (fun _ _ => rfl)) (pa_cons (pe_dget hu (pv 0) pe_str (fun _ _ => rfl)) pa_nil)) (by rfl))
    (Evl.pss_cut
      (ps_if (pt_cmpR (op_neD hu64) (pe_dget hu (pv 0) pe_str (fun _ _ => rfl)) (pe_lst pa_nil) (nomark _))
        (pss_cons
          (ps_set (i := 3) sc__law_draw.nd rfl (Or.inl rfl) (pe_bm0 PySem.F.plainAttrs_list PySem.F.slot_list_pop PySem.F.type_list_pop mt_pop (pe_dget hu (pv 0) pe_str (fun _ _ => rfl))))
        (pss_cons
          (ps_if (pt_cmpR op_ge (pv 3) (pe_op op_pow pe_int pe_int) (nomark _))
            (pss_cons
              (ps_expr (pe_bm PySem.F.plainAttrs_list PySem.F.slot_list_append PySem.F.type_list_append mt_append (pe_dget hu (pv 0) pe_str (fun _ _ => rfl)) (pa_cons (pe_op op_fdiv (pv 3) (pv 1)) pa_nil)))
            (pss_one
              (ps_ret (pe_op op_mod (pe_callTy call_int1 (by rfl) B.n_int (by decide +kernel) (pa_cons (pv 3) pa_nil)) (pv 1)))))
            pss_nil)
        (pss_one
          (ps_set (i := 3) sc__law_draw.nd rfl (Or.inl rfl) (pe_op op_add (pv 3) (pe_dget hu (pv 0) pe_str (fun _ _ => rfl)))))))
        pss_nil)
    (Evl.pss_cut
      (ps_set (i := 4) sc__law_draw.nd rfl (Or.inl rfl) (pe_op op_mod (pe_op op_mul (pe_callTy call_int1 (by rfl) B.n_int (by decide +kernel) (pa_cons (pe_op op_add (pe_op op_add (pe_op op_mod (pe_callTy call_int1 (by rfl) B.n_int (by decide +kernel) (pa_cons (pv 3) pa_nil)) pe_int) (pe_op op_mul (pe_op op_mul pe_int (pv 2)) (pv 2))) pe_int) pa_nil)) pe_int) pe_int))
    (pss_cons
      (ps_set (i := 4) sc__law_draw.nd rfl (Or.inl rfl) (pe_op op_mod (pe_callTy call_int1 (by rfl) B.n_int (by decide +kernel) (pa_cons (pe_op op_add (pe_op op_add (pe_op op_mul (pv 4) (pv 4)) (pe_op op_mul pe_int (pv 2))) pe_int) pa_nil)) pe_int))
    (pss_one
      (ps_ret (pe_op op_mod (pe_op op_fdiv (pe_op op_mod (pe_callTy call_int1 (by rfl) B.n_int (by decide +kernel) (pa_cons (pe_op op_mul (pv 4) pe_int) pa_nil)) pe_int) pe_int) (pv 1))))))))), ?_⟩
    -- deck['draws'] = deck['draws'] + 1
    have e1 : putK (dkv l m n) (.inr "draws") (.int ((n : Int) + 1)) = dkv l m ((n + 1 : Nat) : Int) := put_draws l m n _
    have nld : l ≠ d := ne_of hl hd (by intro z; cases z)
    refine ⟨_, rfl, d, _, rfl, val_draws l m n ▸ DGet.k (k := Sum.inr "draws") hd, _, _, rfl, rfl, _, rfl, d, _, rfl, DPut.k (k := Sum.inr "draws") hd (by show 3 < sizeLine; rw [sizeLine_eq]; decide), ?_⟩
    rw [e1]
    have hd1 : upd H d (.dK (dkv l m ((n + 1 : Nat) : Int))) d = some (.dK (dkv l m ((n + 1 : Nat) : Int))) := upd_same
    have hl1 : upd H d (.dK (dkv l m ((n + 1 : Nat) : Int))) l = some (.lst (cs.map .int)) := by rw [upd_ne nld]; exact hl
    have o1 : Off d l H (upd H d (.dK (dkv l m ((n + 1 : Nat) : Int)))) := fun b o e h1 _ => by rw [upd_ne h1]; exact e
    have hn1 : n + 1 ≤ k + 1 := by omega
    have hn2 : n + 1 < 1000000001 := by omega
    generalize upd H d (.dK (dkv l m ((n + 1 : Nat) : Int))) = H1 at hd1 hl1 o1 ⊢
    generalize n + 1 = t at hd1 hn1 hn2 ⊢
    -- turn, cell = deck['draws'], deck['mixed']
    refine ⟨_, rfl, d, _, rfl, val_draws l m t ▸ DGet.k (k := Sum.inr "draws") hd1, _, rfl, d, _, rfl, val_mixed l m t ▸ DGet.k (k := Sum.inr "total") hd1, _, _, rfl, ?_⟩
    -- if deck['cells'] != []: ..; behind it some int stands in cell
    refine ⟨fun σ' H2 => ∃ c : Int, σ' = [some (.ref d), some (.int many), some (.int (t : Int)), some (.int c), none] ∧ DeckAt H2 d l (k + 1) ∧ Off d l H H2, ?_, ?_⟩
    · refine ⟨_, rfl, d, .ref l, rfl, val_cells l m t ▸ DGet.k (k := Sum.inr "items") hd1, ⟨by show 0 ≤ sizeLine; exact Nat.zero_le _, fun p hp => ?_⟩⟩
      have hd2 : upd H1 p (.lst []) d = some (.dK (dkv l m (t : Int))) := by rw [upd_ne (ne_of_none hd1 hp)]; exact hd1
      have hl2 : upd H1 p (.lst []) l = some (.lst (cs.map .int)) := by rw [upd_ne (ne_of_none hl1 hp)]; exact hl1
      have hp2 : upd H1 p (.lst []) p = some (.lst []) := upd_same
      have o2 : Off d l H (upd H1 p (.lst [])) := fun b o e h1 h2 => by
        have := o1 b o e h1 h2
        rw [upd_ne (ne_of_none this hp)]
        exact this
      have npd : p ≠ d := Ne.symm (ne_of_none hd1 hp)
      have npl : p ≠ l := Ne.symm (ne_of_none hl1 hp)
      generalize upd H1 p (.lst []) = H2 at hd2 hl2 hp2 o2 ⊢
      refine ⟨.list (cs.map .int), .list [], .lst (SqL.of hl2) (ints_dp cs), .lst (SqL.of hp2) .nil, ints_shaped cs, by decide, _, rfl, ?_⟩
      rw [ints_eqv cs]
      cases cs with
      | nil => exact iteF ⟨m, rfl, ⟨[], m, t, hd2, hl2, Nat.zero_le _, m0, m1, hn1⟩, o2⟩
      | cons c0 r0 =>
        refine iteT ?_
        -- cell = deck['cells'].pop()
        obtain ⟨c, hc⟩ : ∃ c, (c0 :: r0)[(c0 :: r0).length - 1]? = some c := ⟨_, List.getElem?_eq_getElem (by simp)⟩
        generalize c0 :: r0 = cs at *
        refine ⟨_, rfl, d, .ref l, rfl, val_cells l m t ▸ DGet.k (k := Sum.inr "items") hd2, Or.inl ⟨rfl, _, SqL.of hl2⟩, l, _, .int c, rfl, rfl, hl2, by rw [List.length_map, List.getElem?_map, hc]; rfl, ?_⟩
        rw [← List.map_dropLast]
        have ldl : cs.dropLast.length ≤ 62 := by rw [List.length_dropLast]; omega
        generalize cs.dropLast = ds at ldl ⊢
        have hd3 : upd H2 l (.lst (ds.map .int)) d = some (.dK (dkv l m (t : Int))) := by rw [upd_ne (Ne.symm nld)]; exact hd2
        have hl3 : upd H2 l (.lst (ds.map .int)) l = some (.lst (ds.map .int)) := upd_same
        have o3 : Off d l H (upd H2 l (.lst (ds.map .int))) := fun b o e h1 h2 => by rw [upd_ne h2]; exact o2 b o e h1 h2
        generalize upd H2 l (.lst (ds.map .int)) = H3 at hd3 hl3 o3 ⊢
        -- if cell >= 10 ** 18
        refine ⟨_, rfl, _, _, rfl, rfl, ⟨by decide, by decide, by decide⟩, _, _, rfl, rfl, _, rfl, ite2 (fun _ => ?_) fun _ => ?_⟩
        · -- deck['cells'].append(cell // many); return int(cell) % many
          refine ⟨_, rfl, d, .ref l, rfl, val_cells l m t ▸ DGet.k (k := Sum.inr "items") hd3, Or.inl ⟨rfl, _, SqL.of hl3⟩, _, rfl, _, rfl, _, _, rfl, rfl, ⟨hm0, by omega⟩, l, _, _, rfl, rfl, hl3, by rw [List.length_map, sizeLine_eq]; omega, ?_⟩
          refine ⟨_, rfl, Or.inl ⟨_, rfl, _, rfl, _, _, rfl, rfl, hm0, ?_⟩⟩
          refine q _ _ (Int.emod_nonneg _ (by omega)) (Int.emod_lt_of_pos _ hm0) ⟨ds ++ [c / many], m, t, ?_, ?_, ?_, m0, m1, hn1⟩ fun b o e h1 h2 => ?_
          · rw [upd_ne (Ne.symm nld)]
            exact hd3
          · rw [upd_same, List.map_append]
            rfl
          · rw [List.length_append]
            show ds.length + 1 ≤ 63
            omega
          · rw [upd_ne h2]
            exact o3 b o e h1 h2
        · -- cell = cell + deck['mixed']
          refine ⟨_, rfl, _, rfl, d, _, rfl, val_mixed l m t ▸ DGet.k (k := Sum.inr "total") hd3, _, _, rfl, rfl, ?_⟩
          exact ⟨_, rfl, ⟨ds, m, t, hd3, hl3, by omega, m0, m1, hn1⟩, o3⟩
    · rintro σ' H2 ⟨c, rfl, D2, o2⟩
      have ht : (-(2 ^ 64 : Int) < (t : Int) ∧ (t : Int) < 2 ^ 64) := by omega
      -- mixed = int(int(item) % .. + .. * turn * turn + ..) * .. % ..
      refine ⟨fun σ' H' => ∃ x : Int, σ' = [some (.ref d), some (.int many), some (.int (t : Int)), some (.int c), some (.int x)] ∧ 0 ≤ x ∧ x < 2147483647 ∧ H' = H2, ?_, ?_⟩
      · refine ⟨_, rfl, Or.inl ⟨_, rfl, _, _, rfl, rfl, (by show (0 : Int) < 2147483563; decide), _, rfl, _, _, rfl, rfl, .inr ht, _, rfl, _, _, rfl, rfl, .inr ht, _, _, rfl, rfl, _, _, rfl, rfl, ?_⟩⟩
        exact Or.inl ⟨_, rfl, _, _, rfl, rfl, .inr (by decide), _, _, rfl, rfl, (by show (0 : Int) < 2147483647; decide), _, rfl, Int.emod_nonneg _ (by decide), Int.emod_lt_of_pos _ (by decide), rfl⟩
      rintro σ' H' ⟨x, rfl, hx0, hx1, rfl⟩
      -- mixed = int(mixed * mixed + .. * turn + ..) % ..
      refine ⟨_, rfl, _, rfl, _, _, rfl, rfl, .inl (by omega), _, rfl, _, _, rfl, rfl, .inr ht, _, _, rfl, rfl, _, _, rfl, rfl, Or.inl ⟨_, rfl, _, _, rfl, rfl, (by show (0 : Int) < 2147483549; decide), ?_⟩⟩
      -- return ..
      refine ⟨_, rfl, _, _, rfl, rfl, .inr (by decide), Or.inl ⟨_, rfl, _, _, rfl, rfl, (by show (0 : Int) < 2147483587; decide), _, _, rfl, rfl, ⟨by decide, by decide⟩, _, rfl, _, _, rfl, rfl, hm0, ?_⟩⟩
      exact q _ _ (Int.emod_nonneg _ (by omega)) (Int.emod_lt_of_pos _ hm0) D2 o2
end
end K01
/-! Names, ascending tuples, domains. -/
namespace K01
open PySem PySem.Spec PyProof.Rows L2 KG KS
abbrev s_is_name : Stmt := top 9
abbrev s_are_names : Stmt := top 10
abbrev s_ascending : Stmt := top 11
abbrev s_is_domain : Stmt := top 12
/-- the names of the basics -/
structure Bs (mg : Str → Option Value) : Prop extends Bi mg where
  n_all : mg "all" = none
  n_sorted : mg "sorted" = none
  n_set : mg "set" = none
  n_str : mg "str" = none
  n_bool : mg "bool" = none
  c_name : ∃ t, mg "LONGEST_NAME" = some (.int 8 t)
  c_vals : ∃ t, mg "MOST_VALUES" = some (.int 3 t)
def nameOk (x : Str) : Bool := decide (x.length ≤ 8) && (Txt.isascii x && (Txt.isalpha x && Txt.islower x))
def spName : Sp := fun vs H Q _ => ∃ x, vs = [.str x] ∧ nameOk x = true ∧ Q (.bl true) H
def spNames (K : PySem.W.Frag) : Sp := fun vs H Q _ => ∃ (a : Addr) (xs : List Str), vs = [.ref a] ∧ H a = some (.tup (xs.map V.str)) ∧ (∀ x ∈ xs, nameOk x = true) ∧ xs.Nodup ∧ xs.length < 64 ∧ ∀ H', Same H H' → Q (.bl true) H'
/-- ascending(xs) -/
def spAsc (K : PySem.W.Frag) : Sp := fun vs H Q _ => ∃ (b : Bool) (l : Addr) (ms : List MemV), vs = [V.ref l] ∧ (SqL K H l (ms.map (·.1)) ∨ SqT K H l (ms.map (·.1))) ∧ (∀ p ∈ ms, Kv K H p.1 p.2 ∧ FitV b p) ∧ ms.length < 64 ∧
  W.AllAlike (ms.map (·.2.data)) ∧ W.Sortable (ms.map (·.2.data)) ∧
  ∀ (L : List MemV) (p : Addr) (H' : Hp), (∀ m ∈ L, m ∈ ms) → (∀ m ∈ ms, m.2 ∈ L.map (·.2)) → (L.map (·.2)).Nodup → L.Pairwise Aft → H p = none → Same H H' → H' p = some (.tup (L.map (·.1))) → Q (.ref p) H'
theorem same_new {H : Hp} {p : Addr} {o : HO} (h : H p = none) : Same H (upd H p o) := fun b u e => by
  rw [upd_ne (ne_of_none e h)]
  exact e
theorem same_trans {H H1 H2 : Hp} (x : Same H H1) (y : Same H1 H2) : Same H H2 := fun b u e => y b u (x b u e)
theorem same_seqT {K : PySem.W.Frag} {H H' : Hp} {a : Addr} {xs : List V} (e : Same H H') (h : SqT K H a xs) : SqT K H' a xs := by
  rcases h with (h | ⟨o, h⟩) | h
  · exact .inl (.inl (e _ _ h))
  · exact .inl (.inr ⟨o, e _ _ h⟩)
  · exact .inr h
section
variable {P : Program} {w : World} {K : PySem.W.Frag} {mg : Str → Option Value} {base : Heap}
theorem sc_is_name : FnScope ["thing"] ["thing"] (defScope s_is_name) := ⟨rfl, rfl, rfl, by decide +kernel, rfl, by decide +kernel, by decide +kernel⟩
theorem ok_is_name (B : Bs mg) (f : FnF K mg "is_name" "is_name" s_is_name) : FnOk P w K mg base CX0 1 f.a f.d ["thing"] spName := by
  obtain ⟨tn, cn⟩ := B.c_name
  refine f.F.ok sc_is_name (fun vs H Q E h => ?_) (fun cdv A outer s H vs Q E hr h => ?_)
  · obtain ⟨n, rfl, _⟩ := h
    rfl
  · obtain ⟨x, rfl, hn, q⟩ := h
    unfold nameOk at hn
    rw [Bool.and_eq_true, Bool.and_eq_true, Bool.and_eq_true, decide_eq_true_eq] at hn
    obtain ⟨h8, h1, h2, h3⟩ := hn
    refine ⟨_, (pss_cons
      (ps_if (PW.pt (pw_or (pt_not (pt_val (pe_callB call_isi (by rfl) B.n_isinstance (by decide +kernel) (pa_cons (pv 0) (pa_cons (pe_bltn (v := .ty "str") rfl B.n_str (by decide +kernel) rfl) pa_nil)))))
        (pw_or1 (pt_cmpR op_gt (pe_callB call_len (by rfl) B.n_len (by decide +kernel) (pa_cons (pv 0) pa_nil)) (pe_glob (v := .int 8) rfl cn ⟨_, rfl⟩) (nomark _)))))
        (pss_one
          (ps_ret pe_bl))
        pss_nil)
    (pss_one
      (ps_ret (pe_and (pe_bm0 PySem.F.plainAttrs_str PySem.F.slot_str_isascii PySem.F.type_str_isascii mt_isascii (pv 0)) (pe_and (pe_bm0 PySem.F.plainAttrs_str PySem.F.slot_str_isalpha PySem.F.type_str_isalpha mt_isalpha (pv 0)) (pe_one (pe_bm0 PySem.F.plainAttrs_str PySem.F.slot_str_islower PySem.F.type_str_islower mt_islower (pv 0)))))))), ?_⟩
    refine ⟨_, rfl, _, _, _, _, true, rfl, .ty "str", .base (.str x), kit_ty (by decide +kernel), true, rfl, iteF ?_⟩
    refine ⟨_, rfl, .str x, x.length, rfl, ⟨by rw [sizeLine_eq]; omega, rfl⟩, _, _, rfl, rfl, _, rfl, ite2 (fun c => absurd (of_decide_eq_true c) (by omega)) fun _ => ?_⟩
    refine ⟨_, rfl, rfl, x, rfl, rfl, trivial, _, congrArg V.bl h1, iteT ?_⟩
    refine ⟨_, rfl, rfl, x, rfl, rfl, trivial, _, congrArg V.bl h2, iteT ?_⟩
    refine ⟨_, rfl, rfl, x, rfl, rfl, trivial, ?_⟩
    rw [h3]
    exact q
theorem sc_are_names : FnScope ["thing", "item"] ["thing"] (defScope s_are_names) := ⟨rfl, rfl, rfl, by decide +kernel, rfl, by decide +kernel, by decide +kernel⟩
theorem bls_all : ∀ (n : Nat), (List.replicate n true).all id = true
  | 0 => rfl
  | n + 1 => by
    rw [List.replicate_succ, List.all_cons, bls_all n]
    rfl
theorem texts_mem (xs : List Str) : (xs.map fun x => ((V.str x, NestedKey.text x) : MemV)).map (·.1) = xs.map V.str := by
  rw [List.map_map]
  rfl
theorem texts_len {xs : List Str} (nd : xs.Nodup) {L : List MemV} (h1 : ∀ p ∈ L, p ∈ xs.map fun x => ((V.str x, NestedKey.text x) : MemV)) (h2 : ∀ p ∈ xs.map fun x => ((V.str x, NestedKey.text x) : MemV), p.2 ∈ L.map (·.2)) (h3 : (L.map (·.2)).Nodup) : L.length = xs.length := by
  have nk : ((xs.map fun x => ((V.str x, NestedKey.text x) : MemV)).map (·.2)).Nodup := by
    rw [List.map_map]
    exact List.Pairwise.map _ (fun a b hne e => hne (NestedKey.text.inj e)) nd
  have pm : (L.map (·.2)).Perm ((xs.map fun x => ((V.str x, NestedKey.text x) : MemV)).map (·.2)) := by
    refine (List.perm_ext_iff_of_nodup h3 nk).mpr fun k => ⟨fun hk => ?_, fun hk => ?_⟩
    · obtain ⟨p, hp, e⟩ := List.mem_map.mp hk
      exact List.mem_map.mpr ⟨p, h1 p hp, e⟩
    · obtain ⟨p, hp, e⟩ := List.mem_map.mp hk
      rw [← e]
      exact h2 p hp
  have e := pm.length_eq
  rw [List.length_map, List.length_map, List.length_map] at e
  exact e
theorem ok_are_names (B : Bs mg) (f : FnF K mg "are_names" "are_names" s_are_names) (fn : FnF K mg "is_name" "is_name" s_is_name) : FnOk P w K mg base CX0 2 f.a f.d ["thing"] (spNames K) := by
  have G := ok_is_name (P := P) (w := w) (base := base) B fn
  have bn : Binds K fn.d ["thing"] [] := fn.F.binds fun _ _ _ _ _ _ us hl => match us, hl with | [_], _ => rfl
  refine f.F.ok sc_are_names (fun vs H Q E h => ?_) (fun cdv A outer s H vs Q E hr h => ?_)
  · obtain ⟨a, xs, rfl, _⟩ := h
    rfl
  · obtain ⟨a, xs, rfl, ha, ok, nd, h64, q⟩ := h
    have hu64 := hr.units
    refine ⟨_, (pss_one
      (ps_ret (pe_and (pe_callB call_isi (by rfl) B.n_isinstance (by decide +kernel) (pa_cons (pv 0) (pa_cons (pe_bltn (v := .ty "tuple") rfl B.n_tuple (by decide +kernel) rfl) pa_nil)))
        (pe_and (pe_callB (cr_all rfl) (by rfl) B.n_all (by decide +kernel) (pa_cons (pe_lc (own := [("item", 1)]) (g := gName 1) (by rfl) sc_are_names.nd (pi_tup (pv 0)) (blkOk_by (own := [("item", 1)]) (N := ["thing", "item"]) (sc := defScope s_are_names) (by decide +kernel))
            (fun _ _ _ _ _ => (pg_name (i := 1) sc_are_names.nd rfl (Or.inl rfl))) (fun _ _ _ _ _ => pts_nil) (fun _ _ _ _ _ => (pe_call G hr rfl fn.g fn.F.kp bn .nil pass0 (pa_cons (pv 1) pa_nil)))) pa_nil))
        (pe_one (pe_cmpR op_eq (pe_callB cr_lenSet (by rfl) B.n_len (by decide +kernel) (pa_cons (pe_callTy (cr_setOf rfl hu64) (by rfl) B.n_set (by decide +kernel) (pa_cons (pv 0) pa_nil)) pa_nil)) (pe_callB call_len (by rfl) B.n_len (by decide +kernel) (pa_cons (pv 0) pa_nil)) (nomark _))))))), ?_⟩
    refine ⟨_, rfl, _, _, _, _, true, rfl, .ty "tuple", .base (.tup ha), kit_ty (by decide +kernel), true, rfl, iteT ?_⟩
    -- all([is_name(item) for item in thing])
    refine ⟨_, rfl, a, rfl, ⟨_, SqT.of ha⟩, fun D hD => ?_⟩
    refine lc_tup (K := K) (xs := xs.map V.str) (fun i H' => Same H H' ∧ H' D = some (.lst (List.replicate i (V.bl true)))) ⟨same_new hD, upd_same⟩ (fun i H' _ p => SqT.of (p.1 _ _ ha)) ?_ ?_
    · rintro i y H' hi ⟨e1, eD⟩
      rw [List.getElem?_map] at hi
      cases hx : xs[i]? with
      | none =>
        rw [hx] at hi
        cases hi
      | some x =>
        rw [hx] at hi
        obtain rfl : V.str x = y := Option.some.inj hi
        have il : i < xs.length := (List.getElem?_eq_some_iff.mp hx).1
        refine ⟨rfl, _, rfl, x, rfl, ok x (List.mem_of_getElem? hx), _, eD, by rw [List.length_replicate, sizeLine_eq]; omega, fun b u e => ?_, ?_⟩
        · rw [upd_ne (by rintro rfl; rw [hD] at e; cases e)]
          exact e1 b u e
        · rw [upd_same, ← List.replicate_succ']
    · rintro H1 ⟨e1, eD⟩
      rw [List.length_map] at eD
      refine ⟨D, List.replicate xs.length true, rfl, SqL.of (by rw [List.map_replicate]; exact eD), true, congrArg V.bl (bls_all _), iteT ?_⟩
      -- len(set(thing)) == len(thing)
      have fm : ∀ p ∈ xs.map fun x => ((V.str x, NestedKey.text x) : MemV), Kv K H1 p.1 p.2 ∧ FitV false p := fun p hp => by
        obtain ⟨x, _, rfl⟩ := List.mem_map.mp hp
        exact ⟨.str x, x, rfl⟩
      refine ⟨_, rfl, false, a, xs.map fun x => ((V.str x, NestedKey.text x) : MemV), rfl, .inr (SqT.of (by rw [texts_mem]; exact e1 _ _ ha)), fm, by rw [List.length_map]; exact h64, fun S L hS h1 h2 h3 => ?_⟩
      have eS := same_trans e1 (same_new (o := SetV false w S L) hS)
      refine ⟨false, S, L, rfl, upd_same, _, rfl, _, _, rfl, .inr ⟨_, SqT.of (eS _ _ ha), rfl⟩, ?_⟩
      have el := texts_len nd h1 h2 h3
      refine ⟨rfl, ?_⟩
      rw [el, List.length_map]
      rw [decide_eq_true rfl]
      exact q _ eS
theorem sc_ascending : FnScope ["things"] ["things"] (defScope s_ascending) := ⟨rfl, rfl, rfl, by decide +kernel, rfl, by decide +kernel, by decide +kernel⟩
theorem ok_ascending (B : Bs mg) (f : FnF K mg "ascending" "ascending" s_ascending) : FnOk P w K mg base CX0 1 f.a f.d ["things"] (spAsc K) := by
  refine f.F.ok sc_ascending (fun vs H Q E h => ?_) (fun cdv A outer s H vs Q E hr h => ?_)
  · obtain ⟨b, l, ms, rfl, _⟩ := h
    rfl
  · obtain ⟨b, l, ms, rfl, hl, hk, h64, al, so, q⟩ := h
    have hu64 := hr.units
    refine ⟨_, (pss_one
      (ps_ret (pe_callTy call_tuple_of (by rfl) B.n_tuple (by decide +kernel) (pa_cons (pe_callB (cr_sortSet rfl hu64) (by rfl) B.n_sorted (by decide +kernel) (pa_cons (pe_callTy (cr_setOf rfl hu64) (by rfl) B.n_set (by decide +kernel) (pa_cons (pv 0) pa_nil)) pa_nil)) pa_nil)))), ?_⟩
    refine ⟨_, rfl, b, l, ms, rfl, hl, hk, h64, fun S L hS h1 h2 h3 => ?_⟩
    have e1 : Same H (upd H S (SetV b w S L)) := same_new hS
    have sub : ∀ d ∈ L.map (·.2.data), d ∈ ms.map (·.2.data) := fun d hd => by
      obtain ⟨p, hp, e⟩ := List.mem_map.mp hd
      exact List.mem_map.mpr ⟨p, h1 p hp, e⟩
    refine ⟨b, S, L, rfl, upd_same, fun p hp => Kv.up (fun a xs => same_seqT e1) _ _ (hk p (h1 p hp)).1, fun d hd d' hd' => al d (sub d hd) d' (sub d' hd'), so.imp (fun h d hd => h d (sub d hd)) fun h d hd => h d (sub d hd), fun L' p pm pw hp => ?_⟩
    have e2 := same_trans e1 (same_new (o := .lst (L'.map (·.1))) hp)
    refine ⟨p, L'.map (·.1), rfl, .inl ⟨SqL.of upd_same, fun t ht => ?_⟩⟩
    exact q L' t _ (fun m hm => h1 m (pm.mem_iff.mp hm)) (fun m hm => (pm.map (·.2)).mem_iff.mpr (h2 m hm)) ((pm.map (·.2)).nodup_iff.mpr h3) pw (e2.free ht) (same_trans e2 (same_new ht)) upd_same
/-- strictly ascending -/
def Bef (p q : MemV) : Prop := W.dataLt p.2.data q.2.data = true
theorem lt_asym {x y : PyData} (h : W.dataLt x y = true) : W.dataLt y x = false := by
  cases e : W.dataLt y x with
  | false => rfl
  | true =>
    have z := lex_trans _ _ _ h e
    rw [lex_irrefl] at z
    cases z
theorem bef_nodup {ms : List MemV} (h : ms.Pairwise Bef) : (ms.map (·.2)).Nodup := List.Pairwise.map _ (fun a b hb e => by
  have hb2 : W.dataLt a.2.data b.2.data = true := hb
  rw [e] at hb2
  rw [lt_asym hb2] at hb2
  cases hb2) h
/-- what ascends stays as it is -/
theorem asc_same {ms L : List MemV} (h : ms.Pairwise Bef) (h1 : ∀ m ∈ L, m ∈ ms) (h2 : ∀ m ∈ ms, m.2 ∈ L.map (·.2)) (h3 : (L.map (·.2)).Nodup) (h4 : L.Pairwise Aft) : L = ms := by
  have nd := bef_nodup h
  have pk : (L.map (·.2)).Perm (ms.map (·.2)) := (List.perm_ext_iff_of_nodup h3 nd).mpr fun k => by
    refine ⟨fun hk => ?_, fun hk => ?_⟩
    · obtain ⟨p, hp, e⟩ := List.mem_map.mp hk
      exact List.mem_map.mpr ⟨p, h1 p hp, e⟩
    · obtain ⟨p, hp, e⟩ := List.mem_map.mp hk
      rw [← e]
      exact h2 p hp
  refine List.Perm.eq_of_pairwise (le := Aft) (fun p q hp hq a1 a2 => ?_) h4 (h.imp fun {p q} hb => lt_asym hb) (same_keys (fun p : MemV => p.2) h1 pk nd)
  have mp := h1 p hp
  rcases List.getElem_of_mem mp with ⟨i, hi, rfl⟩
  rcases List.getElem_of_mem hq with ⟨j, hj, rfl⟩
  rcases Nat.lt_trichotomy i j with z | z | z
  · have b : W.dataLt ms[i].2.data ms[j].2.data = true := List.pairwise_iff_getElem.mp h i j hi hj z
    have a : W.dataLt ms[i].2.data ms[j].2.data = false := a2
    rw [b] at a
    cases a
  · subst z
    rfl
  · have b : W.dataLt ms[j].2.data ms[i].2.data = true := List.pairwise_iff_getElem.mp h j i hj hi z
    have a : W.dataLt ms[j].2.data ms[i].2.data = false := a1
    rw [b] at a
    cases a
end
end K01
/-! Domains, rows, all rows. -/
namespace K01
open PySem PySem.Spec PyProof.Rows L2 KG KS
abbrev s_is_row : Stmt := top 13
abbrev s_all_rows : Stmt := top 14
/-- two for's in a list, the inner walk over a tuple -/
theorem lc2_lt {K : PySem.W.Frag} {a : Addr} {xs : List V} {g g1 : TG} {wi1 : TI} {te : TE} {vs vs1 : List Nat} {σ : L2.St} {H1 : Hp} {D : Addr} {Qd : Hp → Prop} (Pv : Nat → Nat → Hp → Prop) (h0 : Pv 0 0 (upd H1 D (.lst [])))
    (hl : ∀ i H, i ≤ xs.length → Pv i 0 H → SqL K H a xs)
    (hs : ∀ i x H, xs[i]? = some x → Pv i 0 H → g x (wipe σ vs) H fun σ2 H2 => wipe σ2 vs = wipe σ vs ∧ wi1 σ2 H2 fun J1 H4 => ∃ (c : Addr) (ys : List V), J1 = Itt K c ∧ Pv i 0 H4 ∧ (∀ j H, j ≤ ys.length → Pv i j H → SqT K H c ys) ∧
      (∀ j y H, ys[j]? = some y → Pv i j H → g1 y (wipe σ2 vs1) H fun σ3 H5 => wipe σ3 vs1 = wipe σ2 vs1 ∧ te σ3 H5 fun y H7 => ∃ acc, H7 D = some (.lst acc) ∧ acc.length < sizeLine ∧ Pv i (j + 1) (upd H7 D (.lst (acc ++ [y])))) ∧
      ∀ H, Pv i ys.length H → Pv (i + 1) 0 H)
    (mono : ∀ x, ∀ (σ : L2.St) (H : Hp) (Q R : L2.St → Hp → Prop), (∀ σ H, Q σ H → R σ H) → g x σ H Q → g x σ H R) (mono1 : ∀ x, ∀ (σ : L2.St) (H : Hp) (Q R : L2.St → Hp → Prop), (∀ σ H, Q σ H → R σ H) → g1 x σ H Q → g1 x σ H R)
    (monoI : ∀ (σ : L2.St) (H : Hp) (Q R : It → Hp → Prop), (∀ J H, Q J H → R J H) → wi1 σ H Q → wi1 σ H R)
    (hd : ∀ H, Pv xs.length 0 H → Qd H) :
    ∃ W : Nat → Nat → Hp → Prop, (∃ m, W 0 m (upd H1 D (.lst []))) ∧ ∀ i m H, W i m H →
      ((Itl K a).stop i H ∧ Qd H) ∨ ((Itl K a).go i H ∧ ∃ Nx : Hp → Prop, (∀ H', Nx H' → ∃ m', m' < m ∧ W (i + 1) m' H') ∧ ∀ x H', (Itl K a).yld i H x H' → g x (wipe σ vs) H' fun σ2 H2 => wipe σ2 vs = wipe σ vs ∧ tYes σ2 H2 fun b H3 =>
        if b = true then wi1 σ2 H3 fun J1 H4 => ∃ W1 : Nat → Nat → Hp → Prop, (∃ m, W1 0 m H4) ∧ ∀ j k H, W1 j k H →
          (J1.stop j H ∧ Nx H) ∨ (J1.go j H ∧ ∃ Nx1 : Hp → Prop, (∀ H', Nx1 H' → ∃ k', k' < k ∧ W1 (j + 1) k' H') ∧ ∀ x H', J1.yld j H x H' → g1 x (wipe σ2 vs1) H' fun σ3 H5 => wipe σ3 vs1 = wipe σ2 vs1 ∧ tYes σ3 H5 fun b H6 =>
            if b = true then te σ3 H6 fun y H7 => ∃ acc, H7 D = some (.lst acc) ∧ acc.length < sizeLine ∧ Nx1 (upd H7 D (.lst (acc ++ [y]))) else Nx1 H6)
        else Nx H3) := by
  refine ⟨fun i m H => m = xs.length - i ∧ i ≤ xs.length ∧ Pv i 0 H, ⟨xs.length, by simp, Nat.zero_le _, h0⟩, ?_⟩
  rintro i m H ⟨rfl, hi, p⟩
  have q := hl i H hi p
  by_cases lt : i < xs.length
  · refine .inr ⟨⟨xs, xs[i], q, by simp [lt]⟩, Pv (i + 1) 0, fun H' p' => ⟨xs.length - (i + 1), by omega, rfl, lt, p'⟩, ?_⟩
    rintro x H' ⟨rfl, y⟩
    refine mono _ _ _ _ _ (fun σ2 H2 r => ?_) (hs i x _ (y xs q) p)
    refine ⟨r.1, ?_⟩
    simp only [tYes, if_true]
    refine monoI _ _ _ _ (fun J1 H4 r1 => ?_) r.2
    obtain ⟨c, ys, rfl, p4, hT, hin, hfin⟩ := r1
    refine ⟨fun j k H => k = ys.length - j ∧ j ≤ ys.length ∧ Pv i j H, ⟨ys.length, by simp, Nat.zero_le _, p4⟩, ?_⟩
    rintro j k H ⟨rfl, hj, pj⟩
    have qj := hT j H hj pj
    by_cases ltj : j < ys.length
    · refine .inr ⟨⟨ys, ys[j], qj, by simp [ltj]⟩, Pv i (j + 1), fun H' p' => ⟨ys.length - (j + 1), by omega, rfl, ltj, p'⟩, ?_⟩
      rintro z H' ⟨rfl, yz⟩
      refine mono1 _ _ _ _ _ (fun σ3 H5 r3 => ⟨r3.1, ?_⟩) (hin j z _ (yz ys qj) pj)
      exact r3.2
    · have e : j = ys.length := by omega
      subst e
      exact .inl ⟨⟨ys, qj, Nat.le_refl _⟩, hfin H pj⟩
  · have e : i = xs.length := by omega
    subst e
    exact .inl ⟨⟨xs, q, Nat.le_refl _⟩, hd H p⟩
section
variable {P : Program} {w : World} {K : PySem.W.Frag} {mg : Str → Option Value} {base : Heap}
abbrev tx (x : Str) : MemV := (V.str x, NestedKey.text x)
def txd (xs : List Str) : PyData := .tuple (xs.map PyData.str)
theorem texts_dp {H : Hp} : ∀ xs : List Str, DpAll K H (xs.map V.str) (xs.map PyData.str)
  | [] => .nil
  | x :: r => .cons (.str x) (texts_dp r)
theorem texts_eqv : ∀ xs : List Str, PyData.eqvAll (xs.map PyData.str) (xs.map PyData.str) = true
  | [] => rfl
  | x :: r => by
    rw [List.map_cons, PyData.eqvAll, texts_eqv r]
    simp [PyData.eqv]
theorem txd_shaped {xs : List Str} (hx : ∀ x ∈ xs, PyData.strOk x = true) : SeqAt.shaped (txd xs) = true := by
  have h : ∀ l : List Str, (∀ x ∈ l, PyData.strOk x = true) → PyData.canLayAll0 (l.map PyData.str) = true ∧ PyData.depthAll (l.map PyData.str) ≤ 1 := by
    intro l hl
    induction l with
    | nil => exact ⟨rfl, by decide⟩
    | cons c r ih =>
      have ih := ih fun x hx => hl x (List.mem_cons_of_mem _ hx)
      refine ⟨?_, ?_⟩
      · simp only [List.map_cons, PyData.canLayAll0, PyData.canLay0]
        rw [hl c List.mem_cons_self, ih.1]
        rfl
      · simp only [List.map_cons, PyData.depthAll, PyData.depth]
        have := ih.2
        omega
  obtain ⟨h1, h2⟩ := h xs hx
  unfold SeqAt.shaped
  have e1 : (txd xs).canLay0 = true := by simpa [txd, PyData.canLay0] using h1
  have e2 : (txd xs).depth ≤ 64 := by
    simp only [txd, PyData.depth]
    omega
  rw [e1, decide_eq_true e2]
  rfl
theorem name_strOk {x : Str} (h : nameOk x = true) : PyData.strOk x = true := by
  unfold nameOk at h
  rw [Bool.and_eq_true, Bool.and_eq_true] at h
  have h1 := h.2.1
  unfold Txt.isascii at h1
  unfold PyData.strOk
  rw [Array.all_eq_true] at h1 ⊢
  intro i hi
  have := of_decide_eq_true (h1 i hi)
  exact decide_eq_true (Nat.lt_trans this (by decide))
/-- is_domain(xs) of names that ascend -/
def spDom : Sp := fun vs H Q _ => ∃ (a : Addr) (xs : List Str), vs = [.ref a] ∧ H a = some (.tup (xs.map V.str)) ∧ (∀ x ∈ xs, nameOk x = true) ∧ (xs.map tx).Pairwise Bef ∧ 1 ≤ xs.length ∧ xs.length ≤ 3 ∧ ∀ H', Same H H' → Q (.bl true) H'
theorem bef_texts {xs : List Str} (h : (xs.map tx).Pairwise Bef) : xs.Nodup := by
  have e := nodup_of_map (bef_nodup h)
  exact nodup_of_map e
theorem texts_al (xs : List Str) : W.AllAlike ((xs.map tx).map (·.2.data)) ∧ W.Sortable ((xs.map tx).map (·.2.data)) := by
  rw [List.map_map]
  exact ⟨W.AllAlike.of fun a b => rfl, W.Sortable.others fun a => ⟨fun z => (by cases z), fun _ z => (by cases z)⟩⟩
theorem texts_kv {H : Hp} (xs : List Str) : ∀ p ∈ xs.map tx, Kv K H p.1 p.2 ∧ FitV false p := fun p hp => by
  obtain ⟨x, _, rfl⟩ := List.mem_map.mp hp
  exact ⟨.str x, x, rfl⟩
theorem sc_is_domain : FnScope ["thing"] ["thing"] (defScope s_is_domain) := ⟨rfl, rfl, rfl, by decide +kernel, rfl, by decide +kernel, by decide +kernel⟩
theorem ok_is_domain (B : Bs mg) (f : FnF K mg "is_domain" "is_domain" s_is_domain) (fa : FnF K mg "are_names" "are_names" s_are_names) (fn : FnF K mg "is_name" "is_name" s_is_name) (fs : FnF K mg "ascending" "ascending" s_ascending) :
    FnOk P w K mg base CX0 3 f.a f.d ["thing"] spDom := by
  obtain ⟨tv, cv⟩ := B.c_vals
  have G1 := ok_are_names (P := P) (w := w) (base := base) B fa fn
  have b1 : Binds K fa.d ["thing"] [] := fa.F.binds fun _ _ _ _ _ _ us hl => match us, hl with | [_], _ => rfl
  have G2 := ok_ascending (P := P) (w := w) (base := base) B fs
  have b2 : Binds K fs.d ["things"] [] := fs.F.binds fun _ _ _ _ _ _ us hl => match us, hl with | [_], _ => rfl
  refine f.F.ok sc_is_domain (fun vs H Q E h => ?_) (fun cdv A outer s H vs Q E hr h => ?_)
  · obtain ⟨a, xs, rfl, _⟩ := h
    rfl
  · obtain ⟨a, xs, rfl, ha, ok, asc, l1, l3, q⟩ := h
    have hu64 := hr.units
    have hr1 : Room 1 _ := hr.mono (by omega)
    have hr2 : Room 2 _ := hr.mono (by omega)
    refine ⟨_, (pss_one
      (ps_ret (pe_and (pe_call G1 hr2 rfl fa.g fa.F.kp b1 .nil pass0 (pa_cons (pv 0) pa_nil)) (pe_and (pe_chain op_le op_le pe_int (pe_callB call_len (by rfl) B.n_len (by decide +kernel) (pa_cons (pv 0) pa_nil)) (pe_glob (v := .int 3) rfl cv ⟨_, rfl⟩))
        (pe_one (pe_cmpR (op_eqD hu64) (pv 0) (pe_call G2 hr1 rfl fs.g fs.F.kp b2 .nil pass0 (pa_cons (pv 0) pa_nil)) (nomark _))))))), ?_⟩
    refine ⟨_, rfl, a, xs, rfl, ha, ok, bef_texts asc, by omega, fun H1 e1 => ⟨true, rfl, iteT ?_⟩⟩
    refine ⟨_, rfl, .ref a, xs.length, rfl, .inr ⟨_, SqT.of (e1 _ _ ha), by rw [List.length_map]⟩, _, _, rfl, rfl, _, rfl, ite2 (fun _ => ?_) fun c => absurd (decide_eq_true (by omega)) c⟩
    refine ⟨_, _, rfl, rfl, _, rfl, ite2 (fun _ => ?_) fun c => absurd (decide_eq_true (by omega)) c⟩
    refine ⟨_, rfl, _, rfl, false, a, xs.map tx, rfl, .inr (SqT.of (by rw [texts_mem]; exact e1 _ _ ha)), texts_kv xs, by rw [List.length_map]; omega, (texts_al xs).1, (texts_al xs).2, fun L p H2 h1 h2 h3 h4 hp e2 hL => ?_⟩
    have eL := asc_same asc h1 h2 h3 h4
    rw [eL, texts_mem] at hL
    refine ⟨txd xs, txd xs, .tup (SqT.of (e2 _ _ (e1 _ _ ha))) (texts_dp xs), .tup (SqT.of hL) (texts_dp xs), txd_shaped fun x hx => name_strOk (ok x hx), txd_shaped fun x hx => name_strOk (ok x hx), ?_⟩
    have ev : PyData.eqv (txd xs) (txd xs) = true := by
      simp only [txd, PyData.eqv]
      exact texts_eqv xs
    rw [ev]
    exact q H2 (same_trans e1 e2)
/-- is_row(row, domain, length) of a row -/
def spRow : Sp := fun vs H Q _ => ∃ (r d : Addr) (rs ds : List Str), vs = [.ref r, .ref d, .int (rs.length : Nat)] ∧ H r = some (.tup (rs.map V.str)) ∧ H d = some (.tup (ds.map V.str)) ∧ (∀ x ∈ rs, x ∈ ds) ∧ rs.length ≤ 1000 ∧ ∀ H', Same H H' → Q (.bl true) H'
theorem in_texts {x : Str} {ds : List Str} (h : x ∈ ds) : inV (.str x) (ds.map V.str) = true := by
  unfold inV
  rw [List.any_eq_true]
  exact ⟨.str x, List.mem_map.mpr ⟨x, h, rfl⟩, by show (x == x) = true; exact beq_self_eq_true x⟩
theorem sc_is_row : FnScope ["thing", "domain", "length", "value"] ["thing", "domain", "length"] (defScope s_is_row) := ⟨rfl, rfl, rfl, by decide +kernel, rfl, by decide +kernel, by decide +kernel⟩
theorem ok_is_row (B : Bs mg) (f : FnF K mg "is_row" "is_row" s_is_row) : FnOk P w K mg base CX0 1 f.a f.d ["thing", "domain", "length"] spRow := by
  refine f.F.ok sc_is_row (fun vs H Q E h => ?_) (fun cdv A outer s H vs Q E hr h => ?_)
  · obtain ⟨r, d, rs, ds, rfl, _⟩ := h
    rfl
  · obtain ⟨r, d, rs, ds, rfl, ha, hd, sub, few, q⟩ := h
    refine ⟨_, (pss_one
      (ps_ret (pe_and (pe_callB call_isi (by rfl) B.n_isinstance (by decide +kernel) (pa_cons (pv 0) (pa_cons (pe_bltn (v := .ty "tuple") rfl B.n_tuple (by decide +kernel) rfl) pa_nil)))
        (pe_and (pe_cmpR op_eq (pe_callB call_len (by rfl) B.n_len (by decide +kernel) (pa_cons (pv 0) pa_nil)) (pv 2) (nomark _))
          (pe_one (pe_callB (cr_all rfl) (by rfl) B.n_all (by decide +kernel) (pa_cons (pe_lc (own := [("value", 3)]) (g := gName 3) (by rfl) sc_is_row.nd (pi_tup (pv 0)) (blkOk_by (own := [("value", 3)]) (N := ["thing", "domain", "length", "value"]) (sc := defScope s_is_row) (by decide +kernel))
            (fun _ _ _ _ _ => (pg_name (i := 3) sc_is_row.nd rfl (Or.inl rfl))) (fun _ _ _ _ _ => pts_nil) (fun _ _ _ _ _ => (pe_cmpR (show OpR _ (compareOp .In) (rIn K false) from op_in_seq) (pv 3) (pv 1) (by rfl)))) pa_nil))))))), ?_⟩
    refine ⟨_, rfl, _, _, _, _, true, rfl, .ty "tuple", .base (.tup ha), kit_ty (by decide +kernel), true, rfl, iteT ?_⟩
    refine ⟨_, rfl, .ref r, rs.length, rfl, .inr ⟨_, SqT.of ha, by rw [List.length_map]⟩, _, rfl, rfl, true, congrArg V.bl (decide_eq_true rfl), iteT ?_⟩
    refine ⟨_, rfl, r, rfl, ⟨_, SqT.of ha⟩, fun D hD => ?_⟩
    refine lc_tup (K := K) (xs := rs.map V.str) (fun i H' => Same H H' ∧ H' D = some (.lst (List.replicate i (V.bl true)))) ⟨same_new hD, upd_same⟩ (fun i H' _ p => SqT.of (p.1 _ _ ha)) ?_ ?_
    · rintro i y H' hi ⟨e1, eD⟩
      rw [List.getElem?_map] at hi
      cases hx : rs[i]? with
      | none =>
        rw [hx] at hi
        cases hi
      | some x =>
        rw [hx] at hi
        obtain rfl : V.str x = y := Option.some.inj hi
        have il : i < rs.length := (List.getElem?_eq_some_iff.mp hx).1
        refine ⟨rfl, _, rfl, _, rfl, d, ds.map V.str, rfl, .inr (SqT.of (e1 _ _ hd)), rfl, flat_strs ds, ?_⟩
        refine ⟨_, eD, by rw [List.length_replicate, sizeLine_eq]; omega, fun b u e => ?_, ?_⟩
        · rw [upd_ne (by rintro rfl; rw [hD] at e; cases e)]
          exact e1 b u e
        · rw [upd_same, if_neg (by decide), in_texts (sub x (List.mem_of_getElem? hx)), ← List.replicate_succ']
    · rintro H1 ⟨e1, eD⟩
      rw [List.length_map] at eD
      refine ⟨D, List.replicate rs.length true, rfl, SqL.of (by rw [List.map_replicate]; exact eD), ?_⟩
      rw [bls_all]
      exact q _ e1
end
end K01
/-! All rows; a column. -/
namespace K01
open PySem PySem.Spec PyProof.Rows L2 KG KS
/-- the rows one column longer -/
def step (R : List (List Str)) (col : List Str) : List (List Str) := R.flatMap fun r => col.map fun c => r ++ [c]
def prods (cols : List (List Str)) : List (List Str) := cols.foldl step [[]]
/-- values that are rows -/
abbrev RowsAt (H : Hp) : List V → List (List Str) → Prop := W.EachIs fun v ts => ∃ a, v = V.ref a ∧ H a = some (.tup (ts.map V.str))
theorem each_snoc {α β : Type} {R : α → β → Prop} {x : α} {y : β} : ∀ {as : List α} {bs : List β}, W.EachIs R as bs → R x y → W.EachIs R (as ++ [x]) (bs ++ [y])
  | _, _, .nil, h => .cons h .nil
  | _, _, .cons r t, h => .cons r (each_snoc t h)
theorem each_get {α β : Type} {R : α → β → Prop} : ∀ {as : List α} {bs : List β}, W.EachIs R as bs → ∀ {i : Nat} {x : α}, as[i]? = some x → ∃ y, bs[i]? = some y ∧ R x y
  | _, _, .nil, _, _, e => by cases e
  | _, _, .cons r t, 0, x, e => by
    cases e
    exact ⟨_, rfl, r⟩
  | _, _, .cons r t, i + 1, x, e => each_get t e
theorem RowsAt.up {H H' : Hp} (e : Same H H') {vs : List V} {R : List (List Str)} (h : RowsAt H vs R) : RowsAt H' vs R := each_and h fun v ts _ ⟨a, e1, e2⟩ => ⟨a, e1, e _ _ e2⟩
theorem step_take {R : List (List Str)} {col : List Str} {i : Nat} {r : List Str} (h : R[i]? = some r) : step (R.take (i + 1)) col = step (R.take i) col ++ col.map fun c => r ++ [c] := by
  unfold step
  rw [take_next h, List.flatMap_append, List.flatMap_singleton]
theorem step_len : ∀ (R : List (List Str)) (col : List Str), (step R col).length = R.length * col.length
  | [], col => by simp [step]
  | r :: R, col => by
    have ih := step_len R col
    unfold step at ih ⊢
    rw [List.flatMap_cons, List.length_append, List.length_map, ih, List.length_cons, Nat.succ_mul, Nat.add_comm]
theorem step_prefix {R : List (List Str)} {col : List Str} (i : Nat) : (step (R.take i) col).length ≤ (step R col).length := by
  rw [step_len, step_len]
  exact Nat.mul_le_mul_right _ (by rw [List.length_take]; omega)
theorem prods_next {cols : List (List Str)} {i : Nat} {col : List Str} (h : cols[i]? = some col) : prods (cols.take (i + 1)) = step (prods (cols.take i)) col := by
  unfold prods
  rw [take_next h, List.foldl_append]
  rfl
theorem rows_len (_ : List (List Str)) : ∀ (R : List (List Str)) (n : Nat), (∀ r ∈ R, r.length = n) → ∀ (cols : List (List Str)) {full : List (List Str)}, List.Sublist cols full → ∀ r ∈ cols.foldl step R, r.length = n + cols.length
  | R, n, h, [], _, _, r, hr => h r hr
  | R, n, h, c :: cols, full, sl, r, hr => by
    have z := rows_len [] (step R c) (n + 1) (fun q hq => by
      unfold step at hq
      obtain ⟨r0, h0, h1⟩ := List.mem_flatMap.mp hq
      obtain ⟨x, _, rfl⟩ := List.mem_map.mp h1
      rw [List.length_append, h r0 h0]
      rfl) cols (List.Sublist.refl cols) r hr
    rw [z, List.length_cons]
    omega
theorem same_put {H H1 : Hp} {D : Addr} {o : HO} (hD : H D = none) (e : Same H H1) : Same H (upd H1 D o) := fun b u h => by
  rw [upd_ne (by rintro rfl; rw [hD] at h; cases h)]
  exact e b u h
def spRows : Sp := fun vs H Q _ => ∃ (c : Addr) (ds : List Addr) (cols : List (List Str)), vs = [.ref c] ∧ H c = some (.lst (ds.map V.ref)) ∧ RowsAt H (ds.map V.ref) cols ∧ (∀ i, (prods (cols.take i)).length ≤ 100000) ∧ cols.length ≤ 1000 ∧
  ∀ (p : Addr) (rs : List V) (H' : Hp), H p = none → Same H H' → H' p = some (.tup rs) → RowsAt H' rs (prods cols) → Q (.ref p) H'
section
variable {P : Program} {w : World} {K : PySem.W.Frag} {mg : Str → Option Value} {base : Heap}
theorem sc_all_rows : FnScope ["columns", "rows", "column", "row", "item"] ["columns"] (defScope s_all_rows) := ⟨rfl, rfl, rfl, by decide +kernel, rfl, by decide +kernel, by decide +kernel⟩
theorem ok_all_rows (B : Bs mg) (f : FnF K mg "all_rows" "all_rows" s_all_rows) : FnOk P w K mg base CX0 1 f.a f.d ["columns"] spRows := by
  refine f.F.ok sc_all_rows (fun vs H Q E h => ?_) (fun cdv A outer s H vs Q E hr h => ?_)
  · obtain ⟨c, ds, cols, rfl, _⟩ := h
    rfl
  · obtain ⟨c, ds, cols, rfl, hc, hcol, few, wide, q⟩ := h
    refine ⟨_, (pss_cons
      (ps_set (i := 1) sc_all_rows.nd rfl (Or.inl rfl) (pe_lst (pa_cons (pe_tup pa_nil) pa_nil)))
    (pss_cons
      (ps_for PassesOwn.never rfl (pi_list (pv 0)) (pg_name (i := 2) sc_all_rows.nd rfl (Or.inr rfl))
        (pss_one
          (ps_setLc2 (i := 1) (own := [("row", 3), ("item", 4)]) (vs1 := [4]) (g := gName 3) (g1 := gName 4) (by rfl) sc_all_rows.nd rfl rfl (sw_true rfl rfl rfl (by decide +kernel)) (pi_list (pv 1)) (blkOk_by (own := [("row", 3), ("item", 4)]) (N := ["columns", "rows", "column", "row", "item"]) (sc := defScope s_all_rows) (by decide +kernel)) (by decide)
            (fun _ _ _ _ _ => (pg_name (i := 3) sc_all_rows.nd rfl (Or.inl rfl))) (fun _ _ _ _ _ => pts_nil)
            (fun _ _ _ _ _ => (show PI _ _ _ (iTup K (tVar 2)) from pi_tup (pv 2))) (fun _ _ _ _ _ => (pg_name (i := 4) sc_all_rows.nd rfl (Or.inl rfl))) (fun _ _ _ _ _ => pts_nil)
            (fun _ _ _ _ _ => (pe_op (show OpR _ (binaryOp .Add) (rCatA K) from op_catA) (pv 3) (pe_tup (pa_cons (pv 4) pa_nil)))))))
    (pss_one
      (ps_ret (pe_callTy call_tuple_of (by rfl) B.n_tuple (by decide +kernel) (pa_cons (pv 1) pa_nil)))))), ?_⟩
    refine ⟨by show 0 ≤ sizeLine; exact Nat.zero_le _, fun t ht => ⟨by show 1 ≤ sizeLine; decide, fun l hl => ?_⟩⟩
    have e0 : Same H (upd (upd H t (.tup [])) l (.lst [V.ref t])) := same_trans (same_new ht) (same_new hl)
    refine ⟨_, rfl, c, rfl, ⟨_, SqL.of (e0 _ _ hc)⟩, ?_⟩
    refine for_list (K := K) (a := c) (xs := ds.map V.ref) (fun i σ H' => ∃ (l : Addr) (rs : List V) (v2 : Option V), σ = [some (.ref c), some (.ref l), v2, none, none] ∧ Same H H' ∧ H' l = some (.lst rs) ∧ RowsAt H' rs (prods (cols.take i)))
      ⟨l, _, none, rfl, e0, upd_same, .cons ⟨t, rfl, by rw [upd_ne (ne_of_none upd_same hl), upd_same]; rfl⟩ .nil⟩ (fun i σ H' _ ⟨_, _, _, _, e, _⟩ => SqL.of (e _ _ hc)) ?_ ?_
    · rintro i0 y σ H0 hi ⟨l, rs, v2, rfl, e1, hl1, hR⟩
      obtain ⟨col, hci, d, rfl, hd0⟩ := each_get hcol hi
      generalize hRR : prods (cols.take i0) = R at hR
      have pn := prods_next hci
      rw [hRR] at pn
      have lim := few (i0 + 1)
      rw [pn] at lim
      refine ⟨_, rfl, l, rfl, ⟨_, SqL.of hl1⟩, fun D hD => ?_⟩
      have hDH : H D = none := e1.free hD
      have nDl : D ≠ l := (ne_of_none hl1 hD).symm
      refine lc2_lt (K := K) (a := l) (xs := rs) (fun i j H2 => ∃ acc, Same H0 H2 ∧ H2 D = some (.lst acc) ∧ RowsAt H2 acc (step (R.take i) col ++ (col.take j).map fun c => R.getD i [] ++ [c]))
        ⟨[], same_new hD, upd_same, .nil⟩ (fun i H2 _ ⟨_, e, _⟩ => SqL.of (e _ _ hl1)) ?_ (fun x σ H Q R h q => h _ _ q) (fun x σ H Q R h q => h _ _ q) (fun σ H Q R h ⟨x, e, a, e2, q0, q1⟩ => ⟨x, e, a, e2, q0, h _ _ q1⟩) ?_
      · rintro i x H2 hx ⟨acc, e2, hacc, hA⟩
        obtain ⟨ts, hRi, a, rfl, ha0⟩ := each_get hR hx
        have gd : R.getD i [] = ts := by rw [List.getD_eq_getElem?_getD, hRi]; rfl
        have ha2 := e2 _ _ ha0
        refine ⟨rfl, _, rfl, d, rfl, ⟨_, SqT.of (e2 _ _ (e1 _ _ hd0))⟩, d, col.map V.str, rfl, ⟨acc, e2, hacc, hA⟩, fun j H3 _ ⟨_, e3, _⟩ => SqT.of (e3 _ _ (e1 _ _ hd0)), ?_, ?_⟩
        · rintro j z H3 hz ⟨ac, e3, hac, hB⟩
          rw [List.getElem?_map] at hz
          cases hcj : col[j]? with
          | none =>
            rw [hcj] at hz
            cases hz
          | some cj =>
            rw [hcj] at hz
            obtain rfl : V.str cj = z := Option.some.inj hz
            have jl : j < col.length := (List.getElem?_eq_some_iff.mp hcj).1
            have il : i < R.length := (List.getElem?_eq_some_iff.mp hRi).1
            have lac : ac.length < 100000 := by
              have l1 := hB.length
              rw [List.length_append, List.length_map, List.length_take] at l1
              have l2 := step_prefix (R := R) (col := col) (i + 1)
              rw [step_take hRi, List.length_append, List.length_map] at l2
              omega
            rw [gd] at hB
            have hrow : ∀ {H4 : Hp} {v : V}, Same H3 H4 → (∃ b, v = V.ref b ∧ H4 b = some (.tup ((ts ++ [cj]).map V.str))) → RowsAt H4 (ac ++ [v]) (step (R.take i) col ++ (col.take (j + 1)).map fun c => R.getD i [] ++ [c]) := fun e4 hv => by
              rw [gd, take_next hcj, List.map_append, ← List.append_assoc]
              exact each_snoc (hB.up e4) hv
            have fin : ∀ {H4 : Hp} {v : V}, Same H3 H4 → H4 D = some (.lst ac) → (∃ b, v = V.ref b ∧ H4 b = some (.tup ((ts ++ [cj]).map V.str))) →
                ∃ acc, H4 D = some (.lst acc) ∧ acc.length < sizeLine ∧ ∃ acc', Same H0 (upd H4 D (.lst (acc ++ [v]))) ∧ upd H4 D (.lst (acc ++ [v])) D = some (.lst acc') ∧
                  RowsAt (upd H4 D (.lst (acc ++ [v]))) acc' (step (R.take i) col ++ (col.take (j + 1)).map fun c => R.getD i [] ++ [c]) := fun {H4 v} e4 h4 hv => by
              refine ⟨ac, h4, by rw [sizeLine_eq]; omega, ac ++ [v], same_put hD (same_trans e3 e4), upd_same, ?_⟩
              refine each_and (hrow e4 hv) fun v ts _ ⟨b, e5, e6⟩ => ⟨b, e5, ?_⟩
              rw [upd_ne (ne_of e6 h4 (by intro z; cases z))]
              exact e6
            refine ⟨rfl, _, rfl, _, rfl, by show 1 ≤ sizeLine; decide, fun b hb => ?_⟩
            have e4 : Same H3 (upd H3 b (.tup [V.str cj])) := same_new hb
            refine ⟨a, b, ts.map V.str, [V.str cj], rfl, rfl, SqT.of (e4 _ _ (e3 _ _ ha0)), SqT.of upd_same, ?_, fun z => ?_, fun _ z => (nomatch z), fun _ _ p hp => ?_⟩
            · have rl := rows_len [] [[]] 0 (by simp) (cols.take i0) (List.Sublist.refl _) ts (by rw [show (cols.take i0).foldl step [[]] = R from hRR]; exact List.mem_of_getElem? hRi)
              have tl : (cols.take i0).length ≤ cols.length := (List.take_sublist _ _).length_le
              rw [List.length_map, sizeLine_eq]
              show ts.length + 1 ≤ _
              omega
            · have z2 : ts = [] := List.map_eq_nil_iff.mp z
              exact fin e4 (e4 _ _ hac) ⟨b, rfl, by rw [upd_same, z2]; rfl⟩
            · have e5 := same_trans e4 (same_new (o := .tup (ts.map V.str ++ [V.str cj])) hp)
              exact fin e5 (e5 _ _ hac) ⟨p, rfl, by rw [upd_same, List.map_append]; rfl⟩
        · rintro H3 ⟨ac, e3, hac, hB⟩
          rw [List.length_map, List.take_length, gd, ← step_take hRi] at hB
          exact ⟨ac, e3, hac, by simpa using hB⟩
      · rintro H2 ⟨acc, e2, hacc, hA⟩
        refine ⟨D, acc, _, rfl, same_trans e1 e2, hacc, ?_⟩
        rw [pn]
        rw [hR.length] at hA
        simpa using hA
    · rintro σ H1 ⟨l, rs, v2, rfl, e1, hl1, hR⟩
      refine ⟨_, rfl, l, rs, rfl, .inl ⟨SqL.of hl1, fun p hp => ?_⟩⟩
      have le : cols.length = ds.length := by rw [← hcol.length, List.length_map]
      rw [List.length_map, ← le, List.take_length] at hR
      exact q p rs _ (e1.free hp) (same_trans e1 (same_new hp)) upd_same (hR.up (same_new hp))
end
end K01
/-! The order of rows of texts; products ascend; a part of as many is the whole. -/
namespace KA
open PySem PySem.Spec PyProof.Rows L2 KS K01
/-- one row ahead of another -/
def ltR (xs ys : List Str) : Bool := W.dataLt (txd xs) (txd ys)
def ltT (x y : Str) : Bool := W.dataLt (.str x) (.str y)
theorem ltR_row (xs ys : List Str) : ltR xs ys = W.rowLt (xs.map PyData.str) (ys.map PyData.str) := W.dataLt_tuple ..
theorem eqv_str (x y : Str) : PyData.eqv (.str x) (.str y) = decide (x = y) := by
  by_cases h : x = y
  · subst h
    simp [PyData.eqv]
  · simp [PyData.eqv, h]
theorem ltR_cons (x y : Str) (xs ys : List Str) : ltR (x :: xs) (y :: ys) = if x = y then ltR xs ys else ltT x y := by
  rw [ltR_row, ltR_row]
  show PyProof.Rows.lexLt itemOrd (W.keyToksAll (.str x :: xs.map PyData.str)) (W.keyToksAll (.str y :: ys.map PyData.str)) = _
  rw [W.dataLt_cons (by rfl), eqv_str]
  by_cases h : x = y
  · rw [decide_eq_true h, if_pos rfl, if_pos h]
    rfl
  · rw [decide_eq_false h, if_neg Bool.false_ne_true, if_neg h]
    rfl
theorem ltR_irr (xs : List Str) : ltR xs xs = false := lex_irrefl _
theorem ltR_trans {a b c : List Str} (h : ltR a b = true) (k : ltR b c = true) : ltR a c = true := lex_trans _ _ _ h k
theorem ltT_irr (x : Str) : ltT x x = false := lex_irrefl _
theorem ltT_total {x y : Str} (h : ltT x y = false) (k : ltT y x = false) : x = y := by
  by_cases e : x = y
  · exact e
  · have z := ltR_cons x y [] []
    have z2 := ltR_cons y x [] []
    rw [if_neg e] at z
    rw [if_neg fun q => e q.symm] at z2
    have t := lex_total _ _ (show W.dataLt (.str x) (.str y) = false from h) (show W.dataLt (.str y) (.str x) = false from k)
    have t2 : W.keyToks (.str x) = W.keyToks (.str y) := t
    simp [W.keyToks] at t2
    exact W.str_of_cps (by rw [t2])
theorem ltR_total : ∀ {xs ys : List Str}, xs.length = ys.length → ltR xs ys = false → ltR ys xs = false → xs = ys
  | [], [], _, _, _ => rfl
  | x :: xs, y :: ys, l, h, k => by
    rw [ltR_cons] at h k
    by_cases e : x = y
    · subst e
      rw [if_pos rfl] at h k
      rw [ltR_total (Nat.succ.inj l) h k]
    · rw [if_neg e] at h
      rw [if_neg fun z => e z.symm] at k
      exact absurd (ltT_total h k) e
/-- one sign more at the end -/
theorem ltR_snoc : ∀ {xs ys : List Str} (x y : Str), xs.length = ys.length → ltR (xs ++ [x]) (ys ++ [y]) = if xs = ys then ltT x y else ltR xs ys
  | [], [], x, y, _ => by
    rw [if_pos rfl]
    show ltR [x] [y] = _
    rw [ltR_cons]
    by_cases e : x = y
    · rw [if_pos e, e, ltT_irr, ltR_irr]
    · rw [if_neg e]
  | a :: xs, b :: ys, x, y, l => by
    rw [List.cons_append, List.cons_append, ltR_cons, ltR_cons, ltR_snoc x y (Nat.succ.inj l)]
    by_cases e : a = b
    · subst e
      rw [if_pos rfl, if_pos rfl]
      by_cases e2 : xs = ys
      · subst e2
        rw [if_pos rfl, if_pos rfl]
      · rw [if_neg e2, if_neg fun z => e2 (List.cons.inj z).2]
    · rw [if_neg e, if_neg e, if_neg fun z => e (List.cons.inj z).1]
/-- rows that ascend, each once -/
abbrev Asc (R : List (List Str)) : Prop := R.Pairwise fun a b => ltR a b = true
abbrev AscT (c : List Str) : Prop := c.Pairwise fun a b => ltT a b = true
end KA
/-! sorted(rows, key=lambda x: (len(x), x)), x a tuple of texts. -/
namespace KLm
open PySem PySem.Spec PySem.W PyProof.Rows L2 LamX
/-- the function at f is this lambda -/
def LamO (f : Addr) (o : Obj) : HO := .ext fun h => h.get? f = some o
theorem lamO_ne {f : Addr} {o : Obj} (ps : Array Value) : LamO f o ≠ .tbl ps := fun z => by
  unfold LamO at z
  cases z
/-- (len(x), x) of a row -/
def kd (ts : List Str) : PyData := .tuple [.int (ts.length : Nat), .tuple (ts.map PyData.str)]
theorem reads_texts {h : Heap} : ∀ {vs : List Value} {ts : List Str} , Vals (ts.map V.str) vs → ReadsAll h vs (ts.map PyData.str) []
  | _, [], r => by
    cases r
    exact .nil
  | _, t :: ts, r => by
    rw [List.map_cons] at r
    cases r with
    | cons r1 r2 =>
      obtain ⟨k, rfl⟩ := r1
      exact .cons (as := []) (bs := []) (.str _ _) (reads_texts r2)
/-- the lambda's body: (len(x), x) -/
abbrev lamBody (x : Str) (p1 p2 p3 p4 p5 : Pos) (k : Nat) : Expr := .Tuple [.Call (.Name "len" p1) [.Name x p2] [] p3, .Name x p4] k p5
/-- what the lambda must be -/
structure LamOk (x : Str) (params : Arguments) (body : Expr) (scope : Scope) : Prop where
  S : NdefX.NScope [x] [x] [] scope
  free : ∀ y ∈ scope.names, y.2 ≠ .free
  gl : ∀ (q : Str) (L f : Addr) (c : Value), (envX q scope L f c []).kindOf ("len" : Str) = some .globalImplicit
  nd : (x == ("__debug__" : Str)) = false
  bind : ∀ (qual : Str) (pm cdv ctv u : Value), bindArgs (kla_fn "<lambda>" qual params body scope [] pm cdv ctv) ⟨[u], []⟩ = pure [(x, u)]
section
variable {X : Cx} {pins : List (Addr × Obj)} {σ : L2.St} {H : Hp} {s : Shared}
theorem lam_turn {f c' a : Addr} {pm ctv : Value} {x qual : Str} {p1 p2 p3 p4 p5 : Pos} {k : Nat} {params : Arguments} {scope : Scope} {ts : List Str} (I : Inv X pins σ H s) (hr : Room 3 X.A) (hlen : X.mg "len" = none) (L : LamOk x params (lamBody x p1 p2 p3 p4 p5 k) scope)
    (hof : s.heap.get? f = some (kla_obj "<lambda>" qual params (lamBody x p1 p2 p3 p4 p5 k) scope [] pm c' ctv)) (hco : H c' = some (CodeO c' qual)) (ha : SqT X.K H a (ts.map V.str)) (h : Heap) (tk : Nat) (kp : ∀ b o, s.heap.get? b = some o → h.get? b = some o) :
    wpAny (model X.prog X.w) X.A.in1.in1 (call (.ref f) [.ref a]) (KeyPure (kd ts) { s with heap := h, toks := tk }) (fun _ _ => False) { s with heap := h, toks := tk } := by
  have I1 : Inv X pins σ H { s with heap := h, toks := tk } := I.kept kp
  have hr1 : Room 1 X.A.in1.in1 := hr.in1.in1
  have of1 : h.get? f = some (kla_obj "<lambda>" qual params (lamBody x p1 p2 p3 p4 p5 k) scope [] pm c' ctv) := kp _ _ hof
  obtain ⟨⟨oc, vs, t, hoc, hdc, hvc⟩, _, _⟩ := I1.hok c' _ hco
  refine wpAny_call (kla_callFunE (s := { s with heap := h, toks := tk }) hr1.depth of1 rfl L.S.co L.S.gen rfl ⟨c', oc, vs, t, rfl, hoc, hdc, hvc⟩ ?_)
  rw [L.bind]
  refine wpAny_pure (wpAny_newFunctionEnv L.S.nocell (fun ⟨n, _⟩ hy => L.S.par n (by
    have z := List.mem_singleton.mp hy
    rw [show n = x from congrArg Prod.fst z]
    exact List.mem_singleton.mpr rfl)) (fun h₁ hns hsb => ⟨I1.nolimit.fresh _ hsb, ?_⟩) L.S.kind)
  have kp1 : ∀ b o, h.get? b = some o → h₁.get? b = some o := fun b o e => hsb.extBut b o (Nat.ne_of_lt (Heap.lt_size e)) (Heap.get?_push_of_some _ e)
  have e0 : Env0 X.prog X.w X.K X.mg X.base X.A.in1.in1 X.stack { s with heap := h, toks := tk } H := by
    have e := I1.env0
    exact ⟨e.frames, e.mod, e.bs, e.bsz, e.funs, e.frf, e.hok, e.bare⟩
  have J := NdefX.inv_startN (CX := fun _ _ _ _ _ _ => True) (N := [x]) (ps := [x]) (fr := []) (F := ⟨"<lambda>", qual, params, [], scope, [], c'⟩) (f := f) (E := fun _ _ _ => True) (us := [.ref a]) (vs := [.ref a]) (ws := []) (tk := tk + 1) L.S hr1.hd e0 rfl (.cons rfl .nil) ⟨rfl, fun _ _ z => (nomatch z), fun _ _ _ z => (nomatch z), fun _ _ z => (nomatch z)⟩ hns kp1
  obtain ⟨its, rv, pl, hz⟩ := J.tuple ha
  have name : ∀ {M : Model} {A : Around} {p : Pos} {Q : Value → Shared → Prop} {E : Value → Shared → Prop} {tk : Nat}, Q (.ref a) { s with heap := h₁, toks := tk } → wpAny M A (eval (.Name x p) (envX qual scope h.objs.size f (.ref c') [])) Q E { s with heap := h₁, toks := tk } := fun {M A p Q E tk} q => by
    refine wpAny_Name (wpAny_loadName_local L.S.kind (L.S.par x (List.mem_singleton.mpr rfl)) hns ?_ q) L.nd
    show List.lookup x [(x, Value.ref a)] = some (.ref a)
    simp [List.lookup]
  refine kla_codeExpr ?_
  show wpAny _ _ (eval (lamBody x p1 p2 p3 p4 p5 k) (envX qual scope h.objs.size f (.ref c') [])) _ _ _
  refine wpAny_Tuple_spliced ?_
  show wpAny _ _ (spliced [(false, eval (.Call (.Name "len" p1) [.Name x p2] [] p3) (envX qual scope h.objs.size f (.ref c') [])), (false, eval (.Name x p4) (envX qual scope h.objs.size f (.ref c') []))]) _ _ _
  refine Calls.spliced_cons (wpAny_Call_Name_kw (ld_blt J (L.gl _ _ _ _) hlen rfl ?_ (by decide) (by decide)))
  refine PyProof.Rows.callWith_builtin1 ?_ rfl rfl
  show wpAny _ _ (spliced [(false, eval (.Name x p2) (envX qual scope h.objs.size f (.ref c') []))]) _ _ _
  refine Calls.spliced_cons (name (Calls.spliced_nil ?_))
  have fit : (its.toArray.size : Int) < 2 ^ 63 := by
    rw [List.size_toArray, ← rv.length]
    rw [sizeLine_eq] at hz
    omega
  refine len_tuple pl fit ?_
  refine Calls.spliced_cons (name (Calls.spliced_nil ⟨by show 2 ≤ sizeLine; decide, ?_⟩))
  have el : its.toArray.size = ts.length := by
    rw [List.size_toArray, ← rv.length, List.length_map]
  rw [el]
  refine ⟨_, _, rfl, fun b o e => Heap.get?_push_of_some _ (kp1 b o e), ?_⟩
  obtain ⟨o, ho, hc, n, hd⟩ := pl
  refine .tuple (as := []) (Heap.get?_push_size _ rfl) rfl rfl (.cons (as := []) (bs := []) (.int _ _) (.cons (as := []) (bs := []) (.tuple (Heap.get?_push_of_some _ ho) hc hd (by simpa using reads_texts rv)) .nil))
theorem ExtN.upd {H1 H2 : Hp} {g : Addr} {o : HO} (e : ExtN H1 H2) (n : H2 g = none) : ExtN H1 (upd H2 g o) := e.trans (ExtN.of fun b u h => by rw [upd_ne (ne_of_none h n)]; exact h)
theorem ExtN.sqL {K : PySem.W.Frag} {H1 H2 : Hp} {a : Addr} {xs : List V} (e : ExtN H1 H2) (h : SqL K H1 a xs) : SqL K H2 a xs :=
  h.elim (fun h => .inl (h.elim (fun h => .inl (e _ _ h (fun _ z => by cases z))) fun ⟨o, h⟩ => .inr ⟨o, e _ _ h (fun _ z => by cases z)⟩)) fun h => .inr h
theorem ExtN.sqT {K : PySem.W.Frag} {H1 H2 : Hp} {a : Addr} {xs : List V} (e : ExtN H1 H2) (h : SqT K H1 a xs) : SqT K H2 a xs :=
  h.elim (fun h => .inl (h.elim (fun h => .inl (e _ _ h (fun _ z => by cases z))) fun ⟨o, h⟩ => .inr ⟨o, e _ _ h (fun _ z => by cases z)⟩)) fun h => .inr h
theorem alike_strs : ∀ xs ys : List Str, alikeAll (xs.map PyData.str) (ys.map PyData.str) = true
  | [], _ => by simp [alikeAll]
  | _ :: _, [] => by simp [alikeAll]
  | x :: xs, y :: ys => by
    rw [List.map_cons, List.map_cons, alikeAll, alike_strs xs ys]
    rfl
theorem depth_strs : ∀ xs : List Str, PyData.depthAll (xs.map PyData.str) ≤ 1
  | [] => by decide
  | x :: xs => by
    have := depth_strs xs
    simp only [List.map_cons, PyData.depthAll, PyData.depth]
    omega
theorem each_refs {R : Addr × List Str → Prop} : ∀ {ps : List (Addr × List Str)} {us : List Value}, Vals (ps.map fun p => V.ref p.1) us → (∀ p ∈ ps, R p) → EachIs (fun v p => v = .ref p.1 ∧ R p) us ps
  | [], us, r, _ => by
    cases r
    exact .nil
  | p :: ps, us, r, h => by
    rw [List.map_cons] at r
    cases r with
    | cons r1 r2 => exact .cons ⟨r1, h p List.mem_cons_self⟩ (each_refs r2 fun q hq => h q (List.mem_cons_of_mem _ hq))
theorem refs_each {R : Addr × List Str → Prop} : ∀ {ps : List (Addr × List Str)} {us : List Value}, EachIs (fun v p => v = .ref p.1 ∧ R p) us ps → Vals (ps.map fun p => V.ref p.1) us
  | _, _, .nil => .nil
  | _, _, .cons h t => .cons h.1 (refs_each t)
/-- sorted(e, key=lambda x: (len(x), x)) -/
def tSortLam (K : PySem.W.Frag) (T : List (Addr × Str)) (ta : TE) : TE := fun σ H Q => ta σ H fun v H1 => ∃ (l : Addr) (ps : List (Addr × List Str)), v = .ref l ∧ SqL K H1 l (ps.map fun p => V.ref p.1) ∧ (∀ p ∈ ps, SqT K H1 p.1 (p.2.map V.str)) ∧ ps.length ≤ 100000 ∧ Tabs T H1 ∧
  ∀ (g : Addr) (H2 : Hp), ExtN H1 H2 → Tabs T H2 → H2 g = none → Q (.ref g) (upd H2 g (.lst ((ps.mergeSort (dataLe false fun p => kd p.2)).map fun p => V.ref p.1)))
/-- what is asked of the items -/
def SortIn (K : PySem.W.Frag) (T : List (Addr × Str)) (Q : VK) : List V → Hp → Prop
  | [v], H1 => ∃ (l : Addr) (ps : List (Addr × List Str)), v = .ref l ∧ SqL K H1 l (ps.map fun p => V.ref p.1) ∧ (∀ p ∈ ps, SqT K H1 p.1 (p.2.map V.str)) ∧ ps.length ≤ 100000 ∧ Tabs T H1 ∧
    ∀ (g : Addr) (H2 : Hp), ExtN H1 H2 → Tabs T H2 → H2 g = none → Q (.ref g) (upd H2 g (.lst ((ps.mergeSort (dataLe false fun p => kd p.2)).map fun p => V.ref p.1)))
  | _, _ => False
theorem pe_sortLam {T : List (Addr × Str)} {c P : Addr} {x qual : Str} {p p1 p2 p3 p4 p5 pos lpos kpos : Pos} {k : Nat} {params : Arguments} {scope : Scope} {e : Expr} {ta : TE} (TB : TabB X.base X.mg c P) (hcode : X.env.code = .ref c) (hq : X.env.qual ++ "<lambda>" = qual)
    (hm : (P, qual) ∈ T) (hu : ∀ p ∈ T, p.1 = P → p.2 = qual) (hg : Gl X "sorted") (hmg : X.mg "sorted" = none) (hlen : X.mg "len" = none) (hr : Room 3 X.A) (L : LamOk x params (lamBody x p1 p2 p3 p4 p5 k) scope) (he : PE X e ta)
    (hdef : defaultsOf params X.env = ([], []) := by rfl) (hst : starEach [e] X.env = [(false, eval e X.env)] := by rfl)
    (hks : backToKw pos (keywordEach [⟨some "key", .Lambda params (lamBody x p1 p2 p3 p4 p5 k) scope lpos, kpos⟩] X.env) = [(some ("key" : Str), do let v ← eval (.Lambda params (lamBody x p1 p2 p3 p4 p5 k) scope lpos) X.env; standAt pos; pure v)] := by rfl) :
    PE X (.Call (.Name "sorted" p) [e] [⟨some "key", .Lambda params (lamBody x p1 p2 p3 p4 p5 k) scope lpos, kpos⟩] pos) (tSortLam X.K T ta) := by
  subst hq
  have clo : cloFrom X.env.cells scope.names [] = [] := by
    cases e : cloFrom X.env.cells scope.names [] with
    | nil => rfl
    | cons p r =>
      rcases cloFrom_mem (show p ∈ cloFrom X.env.cells scope.names [] by rw [e]; exact List.mem_cons_self) with z | ⟨z, _⟩
      · cases z
      · exact absurd rfl (L.free _ z)
  refine ⟨fun pins s σ H Q I h => ?_⟩
  refine wpAny_Call_Name_kw (ld_blt I hg hmg rfl ?_ (by decide) (by decide))
  have ha : PA X [e] (tCons ta tNil) := pa_cons he pa_nil hst
  have h0 : (tCons ta tNil) σ H (SortIn X.K T Q) := h
  refine PyProof.Rows.callWith_kw (thn (ha.run pos pins s σ H _ I h0) fun us s1 ⟨vs, H1, I1, r1, q1⟩ => ?_) (by rw [hst]; rfl) (by rw [hst]; rfl) (by rw [hks]; rfl) (by rw [hks]; rfl)
  obtain ⟨v, rfl⟩ : ∃ v, vs = [v] := by
    match vs, q1 with
    | [v], _ => exact ⟨v, rfl⟩
  obtain ⟨l, ps, rfl, hl, hps, few, hT, q⟩ := q1
  obtain ⟨u, rfl, ru⟩ := vals1 r1
  obtain rfl : u = Value.ref l := ru
  rw [hks]
  show wpAny _ _ (evalAll [do let v ← eval (.Lambda params (lamBody x p1 p2 p3 p4 p5 k) scope lpos) X.env; standAt pos; pure v]) _ _ s1
  refine wpAny_evalAll_cons (wpAny_bind (lam_make2 I1 TB hcode hm hu hT hdef (fun y hy e => absurd e (L.free y hy)) fun f c' pm ctv H2 s2 I2 ext hT2 hof hfn hfr hco => wpAny_bind (wpAny_standAt (wpAny_pure (wpAny_evalAll_nil ?_)))))
  rw [clo] at hof
  show wpAny _ _ (call (.builtin "sorted") [.ref l] [(Str.ofString "key", .ref f)]) _ _ _
  obtain ⟨its, rv, pl, hz⟩ := I2.list (ExtN.sqL ext hl)
  have e0 := each_refs (R := fun p => SqT X.K H2 p.1 (p.2.map V.str)) rv fun p hp => ExtN.sqT ext (hps p hp)
  refine sorted_key_data (b := false) (fun p : Addr × List Str => kd p.2) pl.isList e0 (AllAlike.of fun a b => ?_) (Sortable.tuples fun _ => ⟨_, _, rfl⟩) (by rw [sizeLine_eq]; omega) (fun p _ => ?_) (ksk_s1 _ _) (fun _ => ksk_l1 _ _) (fun _ => ksk_t1 _ _)
    (fun v p ⟨ev, hp⟩ _ h tk kp => by rw [ev]; exact lam_turn I2 hr hlen L hof hco hp h tk kp) fun out c h' tk kp _ hD ol eo => ?_
  · simp [kd, alike, alikeAll, alike_strs]
  · have d1 := depth_strs p.2
    have d2 : (kd p.2).depth ≤ 4 := by
      simp only [kd, PyData.depth, PyData.depthAll]
      omega
    have := hr.un
    omega
  · have rv2 := refs_each (R := fun p => SqT X.K H2 p.1 (p.2.map V.str)) eo
    have n0 : H2 (s2.heap.objs.size + 1) = none := I2.hok.fresh (Nat.le_succ _)
    refine ⟨.ref (s2.heap.objs.size + 1), upd H2 (s2.heap.objs.size + 1) (.lst ((ps.mergeSort (dataLe false fun p => kd p.2)).map fun p => V.ref p.1)), I2.laid (t' := tk) kp (Nat.le_succ _) ?_, rfl, q _ _ ext hT2 n0⟩
    refine ⟨by rw [List.length_map, List.length_mergeSort, sizeLine_eq]; omega, out, c, rv2, ?_⟩
    rw [hD]
end
end KLm
/-! Of texts: t.count(x), l.remove(x), min(t), max(t). -/
namespace KTc
open PySem PySem.Spec PySem.W PySem.SeqAt PyProof.Rows L2
theorem plain_txs : ∀ ts : List Str, PyData.plainAll (ts.map PyData.str) = true
  | [] => rfl
  | t :: ts => by
    rw [List.map_cons]
    simp only [PyData.plainAll, PyData.plain, Bool.true_and]
    exact plain_txs ts
theorem dep_txs : ∀ ts : List Str, PyData.depthAll (ts.map PyData.str) = 0
  | [] => rfl
  | t :: ts => by
    rw [List.map_cons]
    simp only [PyData.depthAll, PyData.depth]
    rw [dep_txs ts]
    rfl
theorem eqv_tx (a b : Str) : PyData.eqv (.str a) (.str b) = decide (a = b) := by
  simp only [PyData.eqv]
  by_cases e : a = b
  · rw [decide_eq_true e, e]; exact beq_self_eq_true b
  · rw [decide_eq_false e]; exact beq_eq_false_iff_ne.mpr e
theorem count_txs (u : Str) : ∀ ts : List Str, (ts.map PyData.str).countP (fun y => PyData.eqv y (.str u)) = ts.count u
  | [] => rfl
  | t :: ts => by
    rw [List.map_cons, List.countP_cons, count_txs u ts, List.count_cons, eqv_tx]
    by_cases e : t = u
    · simp [e]
    · simp [e]
/-- where a text stands first -/
theorem place_txs (u : Str) : ∀ (ts : List Str) (j : Nat), ts[j]? = some u → (∀ i, i < j → ts[i]? ≠ some u) → dataPlace (ts.map PyData.str) (.str u) = some j
  | t :: ts, 0, h, _ => by
    obtain rfl := Option.some.inj (show some t = some u from h)
    unfold dataPlace
    rw [List.map_cons, List.findIdx?_cons, eqv_tx, decide_eq_true rfl]
    rfl
  | t :: ts, j + 1, h, no => by
    have n0 : ¬ t = u := fun e => no 0 (Nat.succ_pos _) (by rw [← e]; rfl)
    have ih := place_txs u ts j h fun i hi => no (i + 1) (Nat.succ_lt_succ hi)
    unfold dataPlace at ih ⊢
    rw [List.map_cons, List.findIdx?_cons, eqv_tx, decide_eq_false n0, ih]
    rfl
def rCntT (K : PySem.W.Frag) : V → List V → Hp → VK → Prop := fun x xs H Q => ∃ (p : Addr) (ts : List Str) (u : Str), x = .ref p ∧ xs = [.str u] ∧ SqT K H p (ts.map V.str) ∧ Q (.int (ts.count u : Nat)) H
def rRemT : V → List V → Hp → VK → Prop := fun x xs H Q => ∃ (l : Addr) (ts : List Str) (u : Str) (j : Nat), x = .ref l ∧ xs = [.str u] ∧ H l = some (.lst (ts.map V.str)) ∧ ts[j]? = some u ∧ (∀ i, i < j → ts[i]? ≠ some u) ∧ Q .non (upd H l (.lst ((ts.eraseIdx j).map V.str)))
/-- the least text -/
def minS (t : Str) (ts : List Str) : Str := ts.foldl (fun a y => if dataLt (.str y) (.str a) then y else a) t
def maxS (t : Str) (ts : List Str) : Str := ts.foldl (fun a y => if dataLt (.str a) (.str y) then y else a) t
theorem min_txs : ∀ (ts : List Str) (t : Str), minD (.str t) (ts.map PyData.str) = .str (minS t ts)
  | [], _ => rfl
  | y :: ts, t => by
    show minD (if dataLt (.str y) (.str t) then .str y else .str t) (ts.map PyData.str) = .str (minS (if dataLt (.str y) (.str t) then y else t) ts)
    by_cases e : dataLt (.str y) (.str t) = true
    · rw [if_pos e, if_pos e]
      exact min_txs ts y
    · rw [if_neg e, if_neg e]
      exact min_txs ts t
theorem max_txs : ∀ (ts : List Str) (t : Str), maxD (.str t) (ts.map PyData.str) = .str (maxS t ts)
  | [], _ => rfl
  | y :: ts, t => by
    show maxD (if dataLt (.str t) (.str y) then .str y else .str t) (ts.map PyData.str) = .str (maxS (if dataLt (.str t) (.str y) then y else t) ts)
    by_cases e : dataLt (.str t) (.str y) = true
    · rw [if_pos e, if_pos e]
      exact max_txs ts y
    · rw [if_neg e, if_neg e]
      exact max_txs ts t
def rMinT (K : PySem.W.Frag) : List V → Hp → VK → Prop := fun vs H Q => ∃ (p : Addr) (t : Str) (ts : List Str), vs = [.ref p] ∧ SqT K H p ((t :: ts).map V.str) ∧ Q (.str (minS t ts)) H
def rMaxT (K : PySem.W.Frag) : List V → Hp → VK → Prop := fun vs H Q => ∃ (p : Addr) (t : Str) (ts : List Str), vs = [.ref p] ∧ SqT K H p ((t :: ts).map V.str) ∧ Q (.str (maxS t ts)) H
section
variable {X : Cx}
theorem mt_tcount (hu : X.A.units + 64 < cLine) : MtR X "tuple.count" (rCntT X.K) := by
  intro pins s σ H x xs v us Q I rx rxs h
  obtain ⟨p, ts, u, rfl, rfl, hs, q⟩ := h
  cases rx
  obtain ⟨v1, rfl, t, rfl⟩ := rxs.one
  obtain ⟨its, rv, pl, _⟩ := I.tuple hs
  refine count_tuple_data (d := .str u) pl (KLm.reads_texts (by simpa using rv)) (.str u t) (plain_txs ts) rfl (by rw [dep_txs]; omega) ?_
  rw [count_txs]
  exact ⟨.int (ts.count u : Nat), H, I.tok _, ⟨s.toks, rfl⟩, q⟩
theorem mt_tremove (hu : X.A.units + 64 < cLine) : MtM X "list.remove" rRemT := by
  intro pins s σ H x xs v us Q I rx rxs h
  obtain ⟨l, ts, u, j, rfl, rfl, hH, hj, hno, q⟩ := h
  cases rx
  obtain ⟨v1, rfl, t, rfl⟩ := rxs.one
  obtain ⟨z, its, n, r, hl, e⟩ := I.lstM hH
  rw [List.length_map] at hl z
  refine remove_list_data (d := .str u) (vs := its.toArray) (j := j) ⟨_, e, rfl, n, rfl⟩ (KLm.reads_texts (by simpa using r)) (.str u t) (plain_txs ts) rfl (by rw [dep_txs]; omega) (place_txs u ts j hj hno) (by rw [List.size_toArray]; omega) ?_
  have rr := r.eraseIdx j
  have em : (ts.map V.str).eraseIdx j = (ts.eraseIdx j).map V.str := by
    rw [List.eraseIdx_eq_take_drop_succ, List.eraseIdx_eq_take_drop_succ, List.map_append, List.map_take, List.map_drop]
  rw [em] at rr
  refine ⟨.non, _, I.lset (its' := its.eraseIdx j) (t' := s.toks) hH e ?_ rr ?_, rfl, q⟩
  · show its.toArray.eraseIdxIfInBounds j = (its.eraseIdx j).toArray
    rw [List.eraseIdxIfInBounds_toArray]
  · have z2 := len_erase ts j
    rw [List.length_map]
    omega
theorem alike_txs (ts : List Str) : AlikeAll (ts.map PyData.str) := by
  refine ⟨fun x hx y hy => ?_, fun x hx => ?_⟩
  · obtain ⟨a, _, rfl⟩ := List.mem_map.mp hx
    obtain ⟨b, _, rfl⟩ := List.mem_map.mp hy
    rfl
  · obtain ⟨a, _, rfl⟩ := List.mem_map.mp hx
    exact fun z => nomatch z
theorem cr_minT (hc : X.A.handled = none) (hu : X.A.units + 64 < cLine) : CallR X (.builtin "min") (rMinT X.K) := by
  intro pins s σ H vs us Q I r h
  obtain ⟨p, t, ts, rfl, hs, q⟩ := h
  obtain ⟨its, rv, pl, _⟩ := I.tuple hs
  rw [Vals.ref1 r]
  refine min_tuple_data (x := .str t) (xs := ts.map PyData.str) hc pl (KLm.reads_texts (ts := t :: ts) (by simpa using rv)) (alike_txs (t :: ts)) (by rw [show PyData.depthAll (.str t :: ts.map PyData.str) = 0 from dep_txs (t :: ts)]; omega) fun i v h' tk bs hi hr kp => ?_
  rw [min_txs] at hr
  obtain ⟨z, rfl⟩ : ∃ t', v = Value.str (minS t ts) t' := by
    cases hr with
    | str x t => exact ⟨_, rfl⟩
  exact ⟨.str (minS t ts), H, I.kept kp, ⟨z, rfl⟩, q⟩
theorem cr_maxT (hc : X.A.handled = none) (hu : X.A.units + 64 < cLine) : CallR X (.builtin "max") (rMaxT X.K) := by
  intro pins s σ H vs us Q I r h
  obtain ⟨p, t, ts, rfl, hs, q⟩ := h
  obtain ⟨its, rv, pl, _⟩ := I.tuple hs
  rw [Vals.ref1 r]
  refine max_tuple_data (x := .str t) (xs := ts.map PyData.str) hc pl (KLm.reads_texts (ts := t :: ts) (by simpa using rv)) (alike_txs (t :: ts)) (by rw [show PyData.depthAll (.str t :: ts.map PyData.str) = 0 from dep_txs (t :: ts)]; omega) fun i v h' tk bs hi hr kp => ?_
  rw [max_txs] at hr
  obtain ⟨z, rfl⟩ : ∃ t', v = Value.str (maxS t ts) t' := by
    cases hr with
    | str x t => exact ⟨_, rfl⟩
  exact ⟨.str (maxS t ts), H, I.kept kp, ⟨z, rfl⟩, q⟩
end
end KTc
/-! Tuples of which it is known that they are just tuples: made by a display or by +; methods of theirs. -/
namespace KFz
open PySem PySem.Spec PyProof.Rows L2
/-- a tuple known to the object, without a dict -/
def Fz (H : Hp) (a : Addr) (xs : List V) : Prop := ∃ o : Obj, H a = some (.frz o (.tup xs)) ∧ o.cls = .type "tuple" ∧ o.dict = none
theorem Fz.same {H H' : Hp} {a : Addr} {xs : List V} (e : ∀ b u, H b = some u → H' b = some u) (h : Fz H a xs) : Fz H' a xs := let ⟨o, h1, h2⟩ := h; ⟨o, e _ _ h1, h2⟩
theorem Fz.sqT {K : PySem.W.Frag} {H : Hp} {a : Addr} {xs : List V} (h : Fz H a xs) : SqT K H a xs := let ⟨o, h1, _⟩ := h; .inl (.inr ⟨o, h1⟩)
theorem Fz.put {H : Hp} {a D : Addr} {xs ys zs : List V} (h : Fz H a xs) (hD : H D = some (.lst ys)) : Fz (upd H D (.lst zs)) a xs := by
  obtain ⟨o, h1, h2⟩ := h
  exact ⟨o, by rw [upd_ne (ne_of h1 hD (by intro z; cases z))]; exact h1, h2⟩
def tTupF (t : TA) : TE := fun σ H Q => t σ H fun xs H1 => xs.length ≤ sizeLine ∧ ∀ (p : Addr) (o : Obj), H1 p = none → o.cls = .type "tuple" → o.dict = none → Q (.ref p) (upd H1 p (.frz o (.tup xs)))
def rCatF (K : PySem.W.Frag) : R2 := fun x y H Q => ∃ a b xs ys, x = .ref a ∧ y = .ref b ∧ SqT K H a xs ∧ SqT K H b ys ∧ xs.length + ys.length ≤ sizeLine ∧ ys ≠ [] ∧
  (xs = [] → Q (.ref b) H) ∧ (xs ≠ [] → ∀ (p : Addr) (o : Obj), H p = none → o.cls = .type "tuple" → o.dict = none → Q (.ref p) (upd H p (.frz o (.tup (xs ++ ys)))))
def tBMF (T : String) (r : V → List V → Hp → VK → Prop) (to : TE) (t : TA) : TE := fun σ H Q => to σ H fun x H1 => (∃ (a : Addr) (o : Obj) (u : HO), x = .ref a ∧ H1 a = some (.frz o u) ∧ o.cls = .type T ∧ o.dict = none) ∧ t σ H1 fun xs H2 => r x xs H2 Q
section
variable {X : Cx} {es : List Expr} {t : TA} {pos : Pos}
theorem pe_tupF {x1} (h : PA X es t) : PE X (.Tuple es x1 pos) (tTupF t) := by
  refine ⟨fun pins s σ H Q I hq => ?_⟩
  refine wpAny_Tuple_spliced (thn (h.run pos pins s σ H _ I hq) fun us s1 ⟨xs, H1, I1, r, z, q⟩ => ⟨by rw [← r.length]; exact z, ?_⟩)
  have hf : H1 s1.heap.objs.size = none := I1.hok.fresh (Nat.le_refl _)
  refine ⟨.ref s1.heap.objs.size, upd H1 s1.heap.objs.size (.frz { cls := .type "tuple", data := .seq us.toArray } (.tup xs)), I1.laid (t' := s1.toks) (fun b u e => Heap.get?_push_of_some _ e) (Nat.le_refl _) ?_, rfl, q _ _ hf rfl rfl⟩
  exact ⟨Heap.get?_push_size _ rfl, z, us, r, ⟨_, Heap.get?_push_size _ rfl, rfl, _, rfl⟩⟩
theorem op_catF : OpR X (binaryOp .Add) (rCatF X.K) := by
  intro pins s σ H x y v u Q I rx ry h
  obtain ⟨a, b, xs, ys, rfl, rfl, ha, hb, hz, hy, q1, q2⟩ := h
  cases rx
  cases ry
  obtain ⟨its, r1, p1, _⟩ := I.tuple ha
  obtain ⟨its2, r2, p2, _⟩ := I.tuple hb
  by_cases hx : xs = []
  · subst hx
    cases r1
    exact cat_tup0 p1 p2 ⟨.ref b, H, I, rfl, q1 rfl⟩
  · refine HT.cat_tup p1 p2 (fun z => hx (r1.nil_iff.mp z)) (fun z => absurd (r2.nil_iff.mp z) hy) (fun z => ?_) (by rw [← r1.length, ← r2.length]; exact hz)
    refine ⟨.ref s.heap.objs.size, _, I.laid (t' := s.toks) (o := .frz { cls := .type "tuple", data := .seq (its ++ its2).toArray } (.tup (xs ++ ys))) (fun b ob q => Heap.get?_push_of_some _ q) (Nat.le_refl _) ?_, rfl, q2 hx _ _ (I.hok.fresh (Nat.le_refl _)) rfl rfl⟩
    exact ⟨Heap.get?_push_size _ rfl, by rw [List.length_append]; exact hz, _, r1.append r2, IsTup.new _ _⟩
variable {o e : Expr} {to : TE} {name : Str} {apos cpos : Pos} {T id : String} {r : V → List V → Hp → VK → Prop}
theorem pe_bmF (pa : PlainAttrs T) (slot : Slot T name id) (hty : typeOf (.builtin id) = pure (.type "method_descriptor")) (hm : MtR X id r) (ho : PE X o to) (ha : PA X (e :: es) t)
    (hbase : attributeBase o name X.env (eval o X.env) = eval o X.env := by rfl)
    (hfew : ((backTo cpos (starEach (e :: es) X.env)).all (fun x => !x.1) && (backToKw cpos (keywordEach [] X.env)).all (fun x => x.1.isSome)
      && decide ((e :: es).length + ([] : List Keyword).length + (if ([] : List Keyword).isEmpty then 0 else 1) < 30)) = true := by rfl)
    (hline : (apos.endLine == cpos.line) = true := by rfl) (hs : starEach (e :: es) X.env = (false, eval e X.env) :: starEach es X.env := by rfl) (hplain : (backTo cpos (starEach es X.env)).any (·.1) = false := by rfl) :
    PE X (.Call (.Attribute o name apos) (e :: es) [] cpos) (tBMF T r to t) := by
  refine ⟨fun pins s σ H Q I h => ?_⟩
  refine wpAny_Call_method_late hbase hfew hline rfl (thn (ho.run pins s σ H _ I h) fun v s1 ⟨x, H1, I1, r1, ⟨a, ob, u, ex, hH, hc, hd⟩, q1⟩ => ?_)
  subst ex
  obtain rfl : v = Value.ref a := r1
  obtain ⟨hg, _⟩ := I1.hok a _ hH
  refine ⟨T, id, pa, slot, hty, ⟨ob, hg, hc⟩, fun b eb => by cases eb; exact ⟨ob, hg, hd⟩, ?_⟩
  have hA := ha.run cpos pins s1 σ H1 _ I1 q1
  rw [hs] at hA ⊢
  refine Calls.callWith_builtin (by show (false || (backTo cpos (starEach es X.env)).any (·.1)) = false; rw [hplain] <;> rfl) (Calls.evalArgs_plain ?_)
  exact thn hA fun us s2 ⟨vs, H2, I2, r2, q2⟩ => hm pins s2 σ H2 (.ref a) vs (.ref a) us Q I2 rfl r2 q2
end
end KFz
/-! all_rows: the rows are just tuples. -/
namespace K01
open PySem PySem.Spec PyProof.Rows L2 KG KS KFz
/-- rows known to the object -/
abbrev RowsF (H0 H : Hp) : List V → List (List Str) → Prop := W.EachIs fun v ts => ∃ a, v = .ref a ∧ H0 a = none ∧ Fz H a (ts.map V.str)
theorem RowsF.up {H0 H H' : Hp} (e : Same H H') {vs : List V} {R : List (List Str)} (h : RowsF H0 H vs R) : RowsF H0 H' vs R := each_and h fun v ts _ ⟨a, e1, e0, e2⟩ => ⟨a, e1, e0, e2.same e⟩
def spRowsF : Sp := fun vs H Q _ => ∃ (c : Addr) (ds : List Addr) (cols : List (List Str)), vs = [.ref c] ∧ H c = some (.lst (ds.map V.ref)) ∧ RowsAt H (ds.map V.ref) cols ∧ (∀ i, (prods (cols.take i)).length ≤ 100000) ∧ cols.length ≤ 1000 ∧
  ∀ (p : Addr) (rs : List V) (H' : Hp), H p = none → Same H H' → H' p = some (.tup rs) → RowsF H H' rs (prods cols) → Q (.ref p) H'
section
variable {P : Program} {w : World} {K : PySem.W.Frag} {mg : Str → Option Value} {base : Heap}
theorem sc_all_rowsF : FnScope ["columns", "rows", "column", "row", "item"] ["columns"] (defScope s_all_rows) := ⟨rfl, rfl, rfl, by decide +kernel, rfl, by decide +kernel, by decide +kernel⟩
theorem ok_all_rowsF (B : Bs mg) (f : FnF K mg "all_rows" "all_rows" s_all_rows) : FnOk P w K mg base CX0 1 f.a f.d ["columns"] spRowsF := by
  refine f.F.ok sc_all_rowsF (fun vs H Q E h => ?_) (fun cdv A outer s H vs Q E hr h => ?_)
  · obtain ⟨c, ds, cols, rfl, _⟩ := h
    rfl
  · obtain ⟨c, ds, cols, rfl, hc, hcol, few, wide, q⟩ := h
    refine ⟨_, (pss_cons
      (ps_set (i := 1) sc_all_rowsF.nd rfl (Or.inl rfl) (pe_lst (pa_cons (pe_tupF pa_nil) pa_nil)))
    (pss_cons
      (ps_for PassesOwn.never rfl (pi_list (pv 0)) (pg_name (i := 2) sc_all_rowsF.nd rfl (Or.inr rfl))
        (pss_one
          (ps_setLc2 (i := 1) (own := [("row", 3), ("item", 4)]) (vs1 := [4]) (g := gName 3) (g1 := gName 4) (by rfl) sc_all_rowsF.nd rfl rfl (sw_true rfl rfl rfl (by decide +kernel)) (pi_list (pv 1)) (blkOk_by (own := [("row", 3), ("item", 4)]) (N := ["columns", "rows", "column", "row", "item"]) (sc := defScope s_all_rows) (by decide +kernel)) (by decide)
            (fun _ _ _ _ _ => (pg_name (i := 3) sc_all_rowsF.nd rfl (Or.inl rfl))) (fun _ _ _ _ _ => pts_nil)
            (fun _ _ _ _ _ => (show PI _ _ _ (iTup K (tVar 2)) from pi_tup (pv 2))) (fun _ _ _ _ _ => (pg_name (i := 4) sc_all_rowsF.nd rfl (Or.inl rfl))) (fun _ _ _ _ _ => pts_nil)
            (fun _ _ _ _ _ => (pe_op (show OpR _ (binaryOp .Add) (rCatF K) from op_catF) (pv 3) (pe_tupF (pa_cons (pv 4) pa_nil)))))))
    (pss_one
      (ps_ret (pe_callTy call_tuple_of (by rfl) B.n_tuple (by decide +kernel) (pa_cons (pv 1) pa_nil)))))), ?_⟩
    refine ⟨by show 0 ≤ sizeLine; exact Nat.zero_le _, fun t ot ht ct dt => ⟨by show 1 ≤ sizeLine; decide, fun l hl => ?_⟩⟩
    have e0 : Same H (upd (upd H t (.frz ot (.tup []))) l (.lst [V.ref t])) := same_trans (same_new ht) (same_new hl)
    refine ⟨_, rfl, c, rfl, ⟨_, SqL.of (e0 _ _ hc)⟩, ?_⟩
    refine for_list (K := K) (a := c) (xs := ds.map V.ref) (fun i σ H' => ∃ (l : Addr) (rs : List V) (v2 : Option V), σ = [some (.ref c), some (.ref l), v2, none, none] ∧ Same H H' ∧ H' l = some (.lst rs) ∧ RowsF H H' rs (prods (cols.take i)))
      ⟨l, _, none, rfl, e0, upd_same, .cons ⟨t, rfl, ht, ot, by rw [upd_ne (ne_of_none upd_same hl), upd_same]; rfl, ct, dt⟩ .nil⟩ (fun i σ H' _ ⟨_, _, _, _, e, _⟩ => SqL.of (e _ _ hc)) ?_ ?_
    · rintro i0 y σ H0 hi ⟨l, rs, v2, rfl, e1, hl1, hR⟩
      obtain ⟨col, hci, d, rfl, hd0⟩ := each_get hcol hi
      generalize hRR : prods (cols.take i0) = R at hR
      have pn := prods_next hci
      rw [hRR] at pn
      have lim := few (i0 + 1)
      rw [pn] at lim
      refine ⟨_, rfl, l, rfl, ⟨_, SqL.of hl1⟩, fun D hD => ?_⟩
      have hDH : H D = none := e1.free hD
      have nDl : D ≠ l := (ne_of_none hl1 hD).symm
      refine lc2_lt (K := K) (a := l) (xs := rs) (fun i j H2 => ∃ acc, Same H0 H2 ∧ H2 D = some (.lst acc) ∧ RowsF H H2 acc (step (R.take i) col ++ (col.take j).map fun c => R.getD i [] ++ [c]))
        ⟨[], same_new hD, upd_same, .nil⟩ (fun i H2 _ ⟨_, e, _⟩ => SqL.of (e _ _ hl1)) ?_ (fun x σ H Q R h q => h _ _ q) (fun x σ H Q R h q => h _ _ q) (fun σ H Q R h ⟨x, e, a, e2, q0, q1⟩ => ⟨x, e, a, e2, q0, h _ _ q1⟩) ?_
      · rintro i x H2 hx ⟨acc, e2, hacc, hA⟩
        obtain ⟨ts, hRi, a, rfl, _, ha0⟩ := each_get hR hx
        have gd : R.getD i [] = ts := by rw [List.getD_eq_getElem?_getD, hRi]; rfl
        have ha2 := ha0.same e2
        refine ⟨rfl, _, rfl, d, rfl, ⟨_, SqT.of (e2 _ _ (e1 _ _ hd0))⟩, d, col.map V.str, rfl, ⟨acc, e2, hacc, hA⟩, fun j H3 _ ⟨_, e3, _⟩ => SqT.of (e3 _ _ (e1 _ _ hd0)), ?_, ?_⟩
        · rintro j z H3 hz ⟨ac, e3, hac, hB⟩
          rw [List.getElem?_map] at hz
          cases hcj : col[j]? with
          | none =>
            rw [hcj] at hz
            cases hz
          | some cj =>
            rw [hcj] at hz
            obtain rfl : V.str cj = z := Option.some.inj hz
            have jl : j < col.length := (List.getElem?_eq_some_iff.mp hcj).1
            have il : i < R.length := (List.getElem?_eq_some_iff.mp hRi).1
            have lac : ac.length < 100000 := by
              have l1 := hB.length
              rw [List.length_append, List.length_map, List.length_take] at l1
              have l2 := step_prefix (R := R) (col := col) (i + 1)
              rw [step_take hRi, List.length_append, List.length_map] at l2
              omega
            rw [gd] at hB
            have hrow : ∀ {H4 : Hp} {v : V}, Same H3 H4 → (∃ b, v = V.ref b ∧ H b = none ∧ Fz H4 b ((ts ++ [cj]).map V.str)) → RowsF H H4 (ac ++ [v]) (step (R.take i) col ++ (col.take (j + 1)).map fun c => R.getD i [] ++ [c]) := fun e4 hv => by
              rw [gd, take_next hcj, List.map_append, ← List.append_assoc]
              exact each_snoc (hB.up e4) hv
            have fin : ∀ {H4 : Hp} {v : V}, Same H3 H4 → H4 D = some (.lst ac) → (∃ b, v = V.ref b ∧ H b = none ∧ Fz H4 b ((ts ++ [cj]).map V.str)) →
                ∃ acc, H4 D = some (.lst acc) ∧ acc.length < sizeLine ∧ ∃ acc', Same H0 (upd H4 D (.lst (acc ++ [v]))) ∧ upd H4 D (.lst (acc ++ [v])) D = some (.lst acc') ∧
                  RowsF H (upd H4 D (.lst (acc ++ [v]))) acc' (step (R.take i) col ++ (col.take (j + 1)).map fun c => R.getD i [] ++ [c]) := fun {H4 v} e4 h4 hv => by
              refine ⟨ac, h4, by rw [sizeLine_eq]; omega, ac ++ [v], same_put hD (same_trans e3 e4), upd_same, ?_⟩
              refine each_and (hrow e4 hv) fun v ts _ ⟨b, e5, e7, e6⟩ => ⟨b, e5, e7, e6.put h4⟩
            refine ⟨rfl, _, rfl, _, rfl, by show 1 ≤ sizeLine; decide, fun b ob hb cb db => ?_⟩
            have e4 : Same H3 (upd H3 b (.frz ob (.tup [V.str cj]))) := same_new hb
            have fb : Fz (upd H3 b (.frz ob (.tup [V.str cj]))) b [V.str cj] := ⟨ob, upd_same, cb, db⟩
            refine ⟨a, b, ts.map V.str, [V.str cj], rfl, rfl, ((ha0.same e3).same e4).sqT, fb.sqT, ?_, (fun z => nomatch z), fun z => ?_, fun _ p op hp cp dp => ?_⟩
            · have rl := rows_len [] [[]] 0 (by simp) (cols.take i0) (List.Sublist.refl _) ts (by rw [show (cols.take i0).foldl step [[]] = R from hRR]; exact List.mem_of_getElem? hRi)
              have tl : (cols.take i0).length ≤ cols.length := (List.take_sublist _ _).length_le
              rw [List.length_map, sizeLine_eq]
              show ts.length + 1 ≤ _
              omega
            · have z2 : ts = [] := List.map_eq_nil_iff.mp z
              exact fin e4 (e4 _ _ hac) ⟨b, rfl, (same_trans e1 e3).free hb, by rw [z2]; exact fb⟩
            · have e5 := same_trans e4 (same_new (o := .frz op (.tup (ts.map V.str ++ [V.str cj]))) hp)
              exact fin e5 (e5 _ _ hac) ⟨p, rfl, (same_trans (same_trans e1 e3) e4).free hp, op, by rw [upd_same, List.map_append]; rfl, cp, dp⟩
        · rintro H3 ⟨ac, e3, hac, hB⟩
          rw [List.length_map, List.take_length, gd, ← step_take hRi] at hB
          exact ⟨ac, e3, hac, by simpa using hB⟩
      · rintro H2 ⟨acc, e2, hacc, hA⟩
        refine ⟨D, acc, _, rfl, same_trans e1 e2, hacc, ?_⟩
        rw [pn]
        rw [hR.length] at hA
        simpa using hA
    · rintro σ H1 ⟨l, rs, v2, rfl, e1, hl1, hR⟩
      refine ⟨_, rfl, l, rs, rfl, .inl ⟨SqL.of hl1, fun p hp => ?_⟩⟩
      have le : cols.length = ds.length := by rw [← hcol.length, List.length_map]
      rw [List.length_map, ← le, List.take_length] at hR
      exact q p rs _ (e1.free hp) (same_trans e1 (same_new hp)) upd_same (hR.up (same_new hp))
end
end K01
/-! A text beside a dict: not equal. -/
namespace KDq
open PySem PySem.SeqAt
theorem sub_dict_str : isSubtype (.type "dict") (.type "str") = pure false := by first | exact F.sub_dict_str | kernel_rfl
theorem sub_str_dict : isSubtype (.type "str") (.type "dict") = pure false := by first | exact F.sub_str_dict | kernel_rfl
theorem str_eq_declines_dict (b : Str) (u : Tok) (l : Addr) (es : Array DictEntry) (n : Nat) (dd : Option Addr) (sl : Array (Option Value)) :
    Meets (Builtin.«str.__eq__» ⟨[.str b u, .ref l], []⟩) (fun _ R s => s.heap.get? l = some { cls := .type "dict", dict := dd, data := .dict es n, slots := sl } ∧ R (.ok (.ret .notImplemented)) s) :=
  .of_wp fun prog w A R s h => by obtain ⟨hp, g, d, tk, os⟩ := s; obtain ⟨hl, h⟩ := h; wp_walk using wpAny_load hl; exact ⟨_, rfl, h⟩
theorem dict_eq_declines_str (l : Addr) (es : Array DictEntry) (n : Nat) (dd : Option Addr) (sl : Array (Option Value)) (b : Str) (u : Tok) :
    Meets (Builtin.«dict.__eq__» ⟨[.ref l, .str b u], []⟩) (fun _ R s => s.heap.get? l = some { cls := .type "dict", dict := dd, data := .dict es n, slots := sl } ∧ R (.ok (.ret .notImplemented)) s) :=
  .of_wp fun prog w A R s h => by obtain ⟨hp, g, d, tk, os⟩ := s; obtain ⟨hl, h⟩ := h; have f1 := sub_str_dict; wp_walk using wpAny_load hl; exact ⟨_, rfl, h⟩
section
variable {A : Around} {s : Shared}
theorem RcAt.str_dict {l : Addr} {o : Obj} {es : Array DictEntry} {n : Nat} (b : Str) (u : Tok) (ho : s.heap.get? l = some o) (hc : o.cls = .type "dict") (hd : o.data = .dict es n) (hu : A.units < cLine) : RcAt A s (.str b u) (.ref l) false := fun prog w E Q h => by
  obtain ⟨cls, dd, data, sl⟩ := o
  simp only at hc hd
  subst hc hd
  exact rc_eq_decline_or (k := false) (typeIs_str s b u) ⟨_, ho, rfl⟩ (by decide) sub_dict_str F.slot_str_eq F.slot_dict_eq_refl
    (fun _ hq => call_meets F.slot_str_eq (typeIs_str s b u) F.entry_str_eq (F.args_str_eq_2 _ _) (str_eq_declines_dict b u l es n dd sl) ⟨ho, hq⟩)
    (fun _ hq => call_meets F.slot_dict_eq_refl ⟨_, ho, rfl⟩ F.entry_dict_eq (F.args_dict_eq_2 _ _) (dict_eq_declines_str l es n dd sl b u) ⟨ho, hq⟩)
    (fun _ hq => wpAny_of_eq (rfl : isSame (.str b u) (.ref l) = pure false) hq) (.inr hu) h
theorem EqAt.str_dict {l : Addr} {o : Obj} {es : Array DictEntry} {n : Nat} (b : Str) (u : Tok) (ho : s.heap.get? l = some o) (hc : o.cls = .type "dict") (hd : o.data = .dict es n) (hu : A.units < cLine) : EqAt A s (.str b u) (.ref l) false := fun prog w E Q h => by
  unfold eqBool
  refine wpAny_holding ?_
  refine wpAny_ite_split (fun hab => absurd (eq_of_beq hab) nofun) (fun _ => ?_)
  exact wpAny_bind (RcAt.str_dict b u ho hc hd hu prog w E _ (wpAny_truthy_bool h))
end
end KDq
/-! x in a tuple of texts, x any value. -/
namespace KIa
open PySem PySem.Spec PyProof.Rows L2 PySem.SeqAt
/-- a text, or another value -/
inductive ItK (K : PySem.W.Frag) (H : Hp) : V → Option Str → Prop
  | str (x : Str) : ItK K H (.str x) (some x)
  | int (n : Int) : ItK K H (.int n) none
  | bl (b : Bool) : ItK K H (.bl b) none
  | non : ItK K H .non none
  | lst {a : Addr} {xs : List V} : SqL K H a xs → ItK K H (.ref a) none
  | tup {a : Addr} {xs : List V} : SqT K H a xs → ItK K H (.ref a) none
  | dct {a : Addr} {kvs : List (Key × V)} : H a = some (.dK kvs) → ItK K H (.ref a) none
def inIt (o : Option Str) (ds : List Str) : Bool := ds.any fun t => decide (o = some t)
theorem inIt_some (x : Str) (ds : List Str) : inIt (some x) ds = decide (x ∈ ds) := by
  unfold inIt
  rw [Bool.eq_iff_iff, List.any_eq_true, decide_eq_true_eq]
  refine ⟨fun ⟨t, ht, e⟩ => ?_, fun h => ⟨x, h, decide_eq_true rfl⟩⟩
  rw [Option.some.inj (of_decide_eq_true e)]
  exact ht
theorem inIt_none (ds : List Str) : inIt none ds = false := by
  unfold inIt
  rw [List.any_eq_false]
  intro t ht e
  cases of_decide_eq_true e
def rInIt (K : PySem.W.Frag) : R2 := fun x y H Q => ∃ (o : Option Str) (d : Addr) (ds : List Str), ItK K H x o ∧ y = .ref d ∧ SqT K H d (ds.map V.str) ∧ Q (.bl (inIt o ds)) H
/-- the text that a value is -/
def txtOf : Value → Option Str
  | .str t _ => some t
  | _ => none
theorem any_txt {o : Option Str} : ∀ {ds : List Str} {us : List Value}, Vals (ds.map V.str) us → (us.any fun y => decide (o = txtOf y) && (txtOf y).isSome) = inIt o ds
  | [], _, r => by
    cases r
    rfl
  | t :: ds, us, r => by
    rw [List.map_cons] at r
    cases r with
    | cons r1 r2 =>
      obtain ⟨k, rfl⟩ := r1
      have z := any_txt (o := o) r2
      unfold inIt at z ⊢
      rw [List.any_cons, List.any_cons, z]
      show (decide (o = some t) && true || _) = _
      rw [Bool.and_true]
theorem vals_txt : ∀ {ds : List Str} {us : List Value}, Vals (ds.map V.str) us → ∀ u ∈ us, ∃ t k, u = .str t k
  | [], _, r, u, h => by
    cases r
    cases h
  | t :: ds, _, r, u, h => by
    rw [List.map_cons] at r
    cases r with
    | cons r1 r2 =>
      rcases List.mem_cons.mp h with rfl | h
      · exact let ⟨k, e⟩ := r1; ⟨t, k, e⟩
      · exact vals_txt r2 u h
section
variable {X : Cx}
theorem op_inIt (hu : X.A.units + 64 < cLine) : OpR X (compareOp .In) (rInIt X.K) := by
  intro pins s σ H x y v u Q I rx ry h
  obtain ⟨o, d, ds, hx, rfl, hd, q⟩ := h
  obtain rfl : u = Value.ref d := ry
  obtain ⟨its, rv, pl, _⟩ := I.tuple hd
  have hu1 : X.A.in1.units < cLine := by
    show X.A.units + 1 < cLine
    omega
  refine in_tupleAt (fun y => decide (o = txtOf y) && (txtOf y).isSome) pl (fun y hy => ?_) ⟨.bl _, H, I, rfl, ?_⟩
  · obtain ⟨t, k, rfl⟩ := vals_txt rv y (by simpa using hy)
    show EqAt _ _ _ _ (decide (o = some t) && true)
    rw [Bool.and_true]
    cases hx with
    | str x =>
      obtain ⟨kx, rfl⟩ := rx
      have z := EqAt.str_str (A := X.A.in1) (s := s) t k x kx
      have e : (t == x) = decide (some x = some t) := by
        by_cases e : x = t
        · subst e
          simp
        · have : ¬ t = x := fun z => e z.symm
          simp [e, this]
      rw [e] at z
      exact z
    | int n =>
      obtain ⟨kx, rfl⟩ := rx
      exact EqAt.str_int t k n kx
    | bl b =>
      obtain rfl := rx
      exact EqAt.str_bool t k b
    | non =>
      obtain rfl := rx
      exact EqAt.str_none t k
    | lst hl =>
      obtain rfl := rx
      obtain ⟨is2, rv2, pl2, _⟩ := I.list hl
      exact EqAt.str_list t k pl2.isList hu1
    | tup ht =>
      obtain rfl := rx
      obtain ⟨is2, rv2, pl2, _⟩ := I.tuple ht
      exact EqAt.str_tuple t k pl2 hu1
    | dct hk =>
      obtain rfl := rx
      obtain ⟨_, _, vs, _, ob, es, ep, e1, e2, e3, e4⟩ := I.hok _ _ hk
      exact KDq.EqAt.str_dict t k e1 e2.1 e3 hu1
  · rw [show its.toArray.any (fun y => decide (o = txtOf y) && (txtOf y).isSome) = its.any (fun y => decide (o = txtOf y) && (txtOf y).isSome) by simp, any_txt rv]
    exact q
end
end KIa
/-! is_row of any values. -/
namespace K01
open PySem PySem.Spec PyProof.Rows L2 KG KS KIa
/-- is_row(row, domain, length), the row a tuple of any values -/
def spRowA (K : PySem.W.Frag) : Sp := fun vs H Q _ => ∃ (r d : Addr) (xs : List V) (os : List (Option Str)) (ds : List Str), vs = [.ref r, .ref d, .int (xs.length : Nat)] ∧ SqT K H r xs ∧ W.EachIs (ItK K H) xs os ∧ SqT K H d (ds.map V.str) ∧ xs.length ≤ 1000 ∧
  ∀ H', Same H H' → Q (.bl (os.all fun o => inIt o ds)) H'
theorem same_sqL {K : PySem.W.Frag} {H H' : Hp} {a : Addr} {xs : List V} (e : Same H H') (h : SqL K H a xs) : SqL K H' a xs :=
  h.elim (fun h => .inl (h.elim (fun h => .inl (e _ _ h)) fun ⟨o, h⟩ => .inr ⟨o, e _ _ h⟩)) fun h => .inr h
theorem _root_.KIa.ItK.same {K : PySem.W.Frag} {H H' : Hp} (e : Same H H') {v : V} {o : Option Str} (h : ItK K H v o) : ItK K H' v o := by
  cases h with
  | str x => exact .str x
  | int n => exact .int n
  | bl b => exact .bl b
  | non => exact .non
  | lst h => exact .lst (same_sqL e h)
  | tup h => exact .tup (same_seqT e h)
  | dct h => exact .dct (e _ _ h)
theorem tyT {K : PySem.W.Frag} {H : Hp} {a : Addr} {xs : List V} (h : SqT K H a xs) : TyX K H (.ref a) (.type "tuple") := by
  rcases h with (h | ⟨o, h⟩) | ⟨o, its, h1, h2⟩
  · exact .base (.tup h)
  · exact .fTuple h
  · obtain ⟨h2, h3, _⟩ := h2
    exact .kTuple h2 h3
theorem its_texts {K : PySem.W.Frag} {H : Hp} : ∀ xs : List Str, W.EachIs (ItK K H) (xs.map V.str) (xs.map some)
  | [] => .nil
  | x :: xs => .cons (.str x) (its_texts xs)
theorem all_texts (xs ds : List Str) : ((xs.map some).all fun o => inIt o ds) = decide (∀ x ∈ xs, x ∈ ds) := by
  rw [Bool.eq_iff_iff, List.all_eq_true, decide_eq_true_eq]
  refine ⟨fun h x hx => ?_, fun h o ho => ?_⟩
  · have z := h (some x) (List.mem_map.mpr ⟨x, hx, rfl⟩)
    rw [inIt_some] at z
    exact of_decide_eq_true z
  · obtain ⟨x, hx, rfl⟩ := List.mem_map.mp ho
    rw [inIt_some]
    exact decide_eq_true (h x hx)
section
variable {P : Program} {w : World} {K : PySem.W.Frag} {mg : Str → Option Value} {base : Heap}
theorem ok_is_rowA (B : Bs mg) (f : FnF K mg "is_row" "is_row" s_is_row) : FnOk P w K mg base CX0 1 f.a f.d ["thing", "domain", "length"] (spRowA K) := by
  refine f.F.ok sc_is_row (fun vs H Q E h => ?_) (fun cdv A outer s H vs Q E hr h => ?_)
  · obtain ⟨r, d, xs, os, ds, rfl, _⟩ := h
    rfl
  · obtain ⟨r, d, xs, os, ds, rfl, ha, hi, hd, few, q⟩ := h
    have hu64 := hr.units
    refine ⟨_, (pss_one
      (ps_ret (pe_and (pe_callB call_isi (by rfl) B.n_isinstance (by decide +kernel) (pa_cons (pv 0) (pa_cons (pe_bltn (v := .ty "tuple") rfl B.n_tuple (by decide +kernel) rfl) pa_nil)))
        (pe_and (pe_cmpR op_eq (pe_callB call_len (by rfl) B.n_len (by decide +kernel) (pa_cons (pv 0) pa_nil)) (pv 2) (nomark _))
          (pe_one (pe_callB (cr_all rfl) (by rfl) B.n_all (by decide +kernel) (pa_cons (pe_lc (own := [("value", 3)]) (g := gName 3) (by rfl) sc_is_row.nd (pi_tup (pv 0)) (blkOk_by (own := [("value", 3)]) (N := ["thing", "domain", "length", "value"]) (sc := defScope s_is_row) (by decide +kernel))
            (fun _ _ _ _ _ => (pg_name (i := 3) sc_is_row.nd rfl (Or.inl rfl))) (fun _ _ _ _ _ => pts_nil) (fun _ _ _ _ _ => (pe_cmpR (show OpR _ (compareOp .In) (rInIt K) from op_inIt hu64) (pv 3) (pv 1) (by rfl)))) pa_nil))))))), ?_⟩
    refine ⟨_, rfl, _, _, _, _, true, rfl, .ty "tuple", tyT ha, kit_ty (by decide +kernel), true, rfl, iteT ?_⟩
    refine ⟨_, rfl, .ref r, xs.length, rfl, .inr ⟨_, ha, rfl⟩, _, rfl, rfl, true, congrArg V.bl (decide_eq_true rfl), iteT ?_⟩
    refine ⟨_, rfl, r, rfl, ⟨_, ha⟩, fun D hD => ?_⟩
    refine lc_tup (K := K) (xs := xs) (fun i H' => Same H H' ∧ H' D = some (.lst ((os.take i).map fun o => V.bl (inIt o ds)))) ⟨same_new hD, upd_same⟩ (fun i H' _ p => same_seqT p.1 ha) ?_ ?_
    · rintro i y H' hy ⟨e1, eD⟩
      obtain ⟨o, ho, it⟩ := each_get hi hy
      have il : i < xs.length := (List.getElem?_eq_some_iff.mp hy).1
      refine ⟨rfl, _, rfl, _, rfl, o, d, ds, it.same e1, rfl, same_seqT e1 hd, ?_⟩
      refine ⟨_, eD, by rw [List.length_map, List.length_take, sizeLine_eq]; omega, same_put hD e1, ?_⟩
      rw [upd_same, take_next ho, List.map_append]
      rfl
    · rintro H1 ⟨e1, eD⟩
      rw [hi.length, List.take_length] at eD
      refine ⟨D, os.map fun o => inIt o ds, rfl, SqL.of (by rw [List.map_map]; exact eD), ?_⟩
      rw [List.all_map]
      exact q _ e1
end
end K01
/-! winner. -/
namespace K01
open PySem PySem.Spec PyProof.Rows L2 KG KS KA KTc KFz
abbrev s_winner : Stmt := top 21
abbrev s_without : Stmt := top 17
/-- these without the one -/
def wo (ts : List Str) (x : Str) : List Str := ts.filter fun y => decide (y ≠ x)
def spWo (K : PySem.W.Frag) : Sp := fun vs H Q _ => ∃ (a : Addr) (x : Str) (ts : List Str), vs = [.ref a, .str x] ∧ SqT K H a (ts.map V.str) ∧ ts.length ≤ 1000 ∧ ∀ (p : Addr) (H' : Hp), Same H H' → H' p = some (.tup ((wo ts x).map V.str)) → Q (.ref p) H'
theorem wo_count (x : Str) : ∀ ts : List Str, (wo ts x).length + ts.count x = ts.length
  | [] => rfl
  | y :: ts => by
    have ih := wo_count x ts
    unfold wo at ih ⊢
    rw [List.count_cons, List.length_cons, List.filter_cons]
    by_cases e : y = x
    · subst e
      rw [if_neg (by simp), if_pos (beq_self_eq_true y)]
      omega
    · rw [if_pos (decide_eq_true e), if_neg (by rw [beq_eq_false_iff_ne.mpr e]; exact Bool.false_ne_true), List.length_cons]
      omega
/-- the value that all, or all but one, of these are -/
def winS (ts : List Str) : Option Str := ts.find? fun v => decide (ts.length ≤ ts.count v + 1)
def optV : Option Str → V
  | some u => .str u
  | none => .non
def spWin (K : PySem.W.Frag) : Sp := fun vs H Q _ => ∃ (a : Addr) (ts : List Str), vs = [.ref a] ∧ SqT K H a (ts.map V.str) ∧ 1 ≤ ts.length ∧ ts.length ≤ 1000 ∧ ∀ H', Same H H' → Q (optV (winS ts)) H'
section
variable {P : Program} {w : World} {K : PySem.W.Frag} {mg : Str → Option Value} {base : Heap}
theorem sc_without : FnScope ["items", "item", "other"] ["items", "item"] (defScope s_without) := ⟨rfl, rfl, rfl, by decide +kernel, rfl, by decide +kernel, by decide +kernel⟩
theorem ok_without (B : Bs mg) (f : FnF K mg "without" "without" s_without) : FnOk P w K mg base CX0 1 f.a f.d ["items", "item"] (spWo K) := by
  refine f.F.ok sc_without (fun vs H Q E h => ?_) (fun cdv A outer s H vs Q E hr h => ?_)
  · obtain ⟨a, x, ts, rfl, _⟩ := h
    rfl
  · obtain ⟨a, x, ts, rfl, ha, few, q⟩ := h
    refine ⟨_, (pss_one
      (ps_ret (pe_callTy call_tuple_of (by rfl) B.n_tuple (by decide +kernel) (pa_cons (pe_lc (own := [("other", 2)]) (g := gName 2) (by rfl) sc_without.nd (pi_tup (pv 0)) (blkOk_by (own := [("other", 2)]) (N := ["items", "item", "other"]) (sc := defScope s_without) (by decide +kernel))
        (fun _ _ _ _ _ => (pg_name (i := 2) sc_without.nd rfl (Or.inl rfl))) (fun _ _ _ _ _ => (pts_one (pt_cmpR op_ne (pv 2) (pv 1) (nomark _)))) (fun _ _ _ _ _ => (pv 2))) pa_nil)))), ?_⟩
    refine ⟨_, rfl, a, rfl, ⟨_, ha⟩, fun D hD => ?_⟩
    refine lc_tup (K := K) (xs := ts.map V.str) (fun i H' => Same H H' ∧ H' D = some (.lst ((wo (ts.take i) x).map V.str))) ⟨same_new hD, upd_same⟩ (fun i H' _ z => same_seqT z.1 ha) ?_ ?_
    · rintro i y H1 hy ⟨e1, hD1⟩
      rw [List.getElem?_map] at hy
      cases hi : ts[i]? with
      | none =>
        rw [hi] at hy
        cases hy
      | some u =>
        rw [hi] at hy
        obtain rfl : V.str u = y := Option.some.inj hy
        have ln : (wo (ts.take i) x).length ≤ 1000 := by
          have z := List.length_filter_le (fun y => decide (y ≠ x)) (ts.take i)
          rw [List.length_take] at z
          show (List.filter _ _).length ≤ 1000
          omega
        refine ⟨rfl, _, rfl, _, rfl, rfl, _, rfl, ite2 (fun c => ?_) fun c => ?_⟩
        · have n : u ≠ x := fun z => by
            subst z
            rw [decide_eq_true rfl] at c
            cases c
          refine ⟨_, rfl, _, hD1, by rw [List.length_map, sizeLine_eq]; omega, same_put hD e1, ?_⟩
          rw [upd_same]
          unfold wo
          rw [take_next hi, List.filter_append, List.map_append, List.filter_cons, if_pos (decide_eq_true n)]
          rfl
        · have n : u = x := Classical.byContradiction fun z => c (by
            rw [decide_eq_false (fun y => z (by injection y))]
            rfl)
          refine ⟨e1, ?_⟩
          rw [hD1]
          unfold wo
          rw [take_next hi, List.filter_append, List.filter_cons, if_neg (by simp [n]), List.filter_nil, List.append_nil]
    · rintro H1 ⟨e1, hD1⟩
      rw [List.length_map, List.take_length] at hD1
      exact ⟨D, _, rfl, .inl ⟨SqL.of hD1, fun p hp => q p _ (same_trans e1 (same_new hp)) upd_same⟩⟩
theorem sc_winner : FnScope ["some", "value"] ["some"] (defScope s_winner) := ⟨rfl, rfl, rfl, by decide +kernel, rfl, by decide +kernel, by decide +kernel⟩
theorem find_take {α : Type} {p : α → Bool} {xs : List α} {i : Nat} {x : α} (h : xs[i]? = some x) (no : ∀ j y, j < i → xs[j]? = some y → p y = false) (hp : p x = true) : xs.find? p = some x := by
  induction xs generalizing i with
  | nil => simp at h
  | cons y ys ih =>
    cases i with
    | zero =>
      cases h
      rw [List.find?_cons, hp]
    | succ i =>
      rw [List.find?_cons, no 0 y (Nat.succ_pos _) rfl]
      exact ih h fun j z hj hz => no (j + 1) z (Nat.succ_lt_succ hj) hz
theorem ok_winner (B : Bs mg) (f : FnF K mg "winner" "winner" s_winner) (fw : FnF K mg "without" "without" s_without) : FnOk P w K mg base CX0 2 f.a f.d ["some"] (spWin K) := by
  have GW := ok_without (P := P) (w := w) (base := base) B fw
  have bW : L2.Binds K fw.d ["items", "item"] [] := fw.F.binds fun _ _ _ _ _ _ us hl => match us, hl with | [_, _], _ => rfl
  refine f.F.ok sc_winner (fun vs H Q E h => ?_) (fun cdv A outer s H vs Q E hr h => ?_)
  · obtain ⟨a, ts, rfl, _⟩ := h
    rfl
  · obtain ⟨a, ts, rfl, ha, pos, few, q⟩ := h
    have hu64 := hr.units
    refine ⟨_, (pss_cons
      (ps_for PassesOwn.never rfl (pi_tup (pv 0)) (pg_name (i := 1) sc_winner.nd rfl (Or.inl rfl))
        (pss_one
          (ps_if (pt_cmpR op_lt (pe_callB call_len (by rfl) B.n_len (by decide +kernel) (pa_cons (pe_call GW hr rfl fw.g fw.F.kp bW .nil pass0 (pa_cons (pv 0) (pa_cons (pv 1) pa_nil))) pa_nil)) pe_int (nomark _))
            (pss_one
              (ps_ret (pv 1)))
            pss_nil)))
    (pss_one
      (ps_ret pe_non))), ?_⟩
    refine ⟨_, rfl, a, rfl, ⟨_, ha⟩, ?_⟩
    have fs : ∀ {H'}, Same H H' → SqT K H' a (ts.map V.str) := fun e => same_seqT e ha
    refine for_tup (K := K) (a := a) (xs := ts.map V.str) (fun i σ H' => ∃ v1 : Option V, σ = [some (.ref a), v1] ∧ Same H H' ∧ ∀ j y, j < i → ts[j]? = some y → decide (ts.length ≤ ts.count y + 1) = false) ⟨none, rfl, fun _ _ z => z, fun _ _ z => absurd z (Nat.not_lt_zero _)⟩ (fun i σ H' _ ⟨_, _, e, _⟩ => fs e) ?_ ?_
    · rintro i y σ H1 hy ⟨v1, rfl, e1, no⟩
      rw [List.getElem?_map] at hy
      cases hi : ts[i]? with
      | none =>
        rw [hi] at hy
        cases hy
      | some x =>
        rw [hi] at hy
        obtain rfl : V.str x = y := Option.some.inj hy
        have wc := wo_count x ts
        refine ⟨_, rfl, _, rfl, a, x, ts, rfl, fs e1, few, fun p H2 e2 hp => ⟨.ref p, (wo ts x).length, rfl, .inr ⟨_, SqT.of hp, by rw [List.length_map]⟩, _, _, rfl, rfl, _, rfl, ite2 (fun c => ?_) fun c => ?_⟩⟩
        · have c := of_decide_eq_true c
          have e := find_take (p := fun v => decide (ts.length ≤ ts.count v + 1)) hi no (decide_eq_true (by omega))
          refine ⟨_, rfl, ?_⟩
          have q2 := q H2 (same_trans e1 e2)
          unfold winS at q2
          rw [e] at q2
          exact q2
        · refine ⟨_, rfl, same_trans e1 e2, fun j y hj hy => ?_⟩
          by_cases z : j < i
          · exact no j y z hy
          · obtain rfl : j = i := by omega
            obtain rfl := Option.some.inj (hi.symm.trans hy)
            refine decide_eq_false fun z2 => c (decide_eq_true ?_)
            omega
    · rintro σ H1 ⟨v1, rfl, e1, no⟩
      rw [List.length_map] at no
      have e : winS ts = none := by
        unfold winS
        rw [List.find?_eq_none]
        intro y hy z
        obtain ⟨j, hj⟩ := List.mem_iff_getElem?.mp hy
        have z2 := no j y (List.getElem?_eq_some_iff.mp hj).1 hj
        rw [z2] at z
        cases z
      have q2 := q H1 e1
      rw [e] at q2
      exact q2
end
end K01
/-! A tuple that is known to be just a tuple is a tuple again. -/
namespace KFz
open PySem PySem.Spec PyProof.Rows L2
def Thaw (X : Cx) (H H' : Hp) : Prop := ∀ b, H' b = H b ∨ (X.H_0 b = none ∧ ∃ o xs, H b = some (.frz o (.tup xs)) ∧ H' b = some (.tup xs))
section
variable {X : Cx} {pins : List (Addr × Obj)} {σ : L2.St} {H H' : Hp} {s : Shared}
theorem Thaw.none (t : Thaw X H H') {b : Addr} (h : H b = none) : H' b = none := by
  rcases t b with e | ⟨_, o, xs, e, _⟩
  · rw [e]; exact h
  · rw [h] at e; cases e
theorem Thaw.some (t : Thaw X H H') {b : Addr} {u : HO} (h : H b = some u) (n : ∀ o xs, u ≠ .frz o (.tup xs)) : H' b = some u := by
  rcases t b with e | ⟨_, o, xs, e, _⟩
  · rw [e]; exact h
  · rw [h] at e
    exact absurd (Option.some.inj e) (n o xs)
theorem Inv.thaw (I : L2.Inv X pins σ H s) (t : Thaw X H H') : L2.Inv X pins σ H' s := by
  refine ⟨I.ok, I.os, I.bare, ⟨I.base.keep, I.base.slot, fun b o h n hx => t.none (I.base.free b o h n hx), I.base.there, fun b xs q => t.some (I.base.tups b xs q) (fun _ _ z => nomatch z), fun b o u q => ?_, fun b ps q => ?_⟩, I.loc, I.cell, t.none I.free, fun x c h => t.none (I.freeC x c h), fun p hp => ?_, fun b u q => ?_, I.len⟩
  · rcases t b with e | ⟨n, _⟩
    · rw [e]; exact I.base.frzs b o u q
    · rw [n] at q; cases q
  · obtain ⟨more, e⟩ := I.base.tbls b ps q
    exact ⟨more, t.some e (fun _ _ z => nomatch z)⟩
  · obtain ⟨a1, a2, a3⟩ := I.pin p hp
    exact ⟨a1, t.none a2, a3⟩
  · have st : ∀ {o : HO}, ObjOk X.prog X.w H s.heap b o → ObjOk X.prog X.w H' s.heap b o := fun x => x.stay (fun _ _ _ e => e) (fun c e => t.some e (fun _ _ z => nomatch z)) fun c xs e => t.some e (fun _ _ z => nomatch z)
    rcases t b with e | ⟨_, o, xs, e1, e2⟩
    · rw [e] at q
      exact st (I.hok b u q)
    · rw [e2] at q
      cases q
      exact st (I.hok b _ e1).2
/-- said between two statements -/
theorem pss_thaw {st : List Stmt} {t : TS} (h : PSs X st t) : PSs X st (fun D σ H => ∃ H', Thaw X H H' ∧ t D σ H') := ⟨fun pins s σ H D I ⟨H', th, q⟩ => h.run pins s σ H' D (Inv.thaw I th) q⟩
theorem ps_thaw {st : Stmt} {t : TS} (h : PS X st t) : PS X st (fun D σ H => ∃ H', Thaw X H H' ∧ t D σ H') := ⟨fun pins s σ H D I ⟨H', th, q⟩ => h.run pins s σ H' D (Inv.thaw I th) q⟩
/-- one of them -/
theorem thaw_one {H : Hp} {a : Addr} {o : Obj} {xs : List V} (h : H a = Option.some (HO.frz o (.tup xs))) (n : X.H_0 a = Option.none) : Thaw X H (upd H a (.tup xs)) := fun b => by
  by_cases e : b = a
  · subst e
    exact .inr ⟨n, o, xs, h, upd_same⟩
  · exact .inl (upd_ne e)
end
end KFz
/-! zip over two iterators of any kind whose pairs are kept. -/
namespace KZp
open PySem
section
variable {prog : Program} {w : World} {A : Around} {E : Value → Shared → Prop} {s : Shared} {z TI TO i1 i2 T : Addr} {fp1 fp2 : List Addr} {n1 n2 i : Nat} {P1 P2 : Nat → Value → Prop} {St1 St2 : Nat → Heap → Prop} {f : Bool} {oT : Obj}
/-- the pair handed out before is still there: a new one is made -/
theorem held_item {Q : Value → Shared → Prop} (S : ZipSep2 z TI TO i1 i2 fp1 fp2) (D1 : Draws prog w A i1 fp1 n1 P1 St1) (D2 : Draws prog w A i2 fp2 n2 P2 St2) (hz : IsZipHeld s.heap z TI TO T f) (hT : s.heap.get? T = some oT)
    (hTI : IsTupOf2 s.heap TI (.ref i1) (.ref i2)) (st1 : St1 i s.heap) (st2 : St2 i s.heap) (l1 : i < n1) (l2 : i < n2)
    (hQ : ∀ x1 x2 h' tk, P1 i x1 → P2 i x2 → IsZipHeld h' z TI TO T true → St1 (i + 1) h' → St2 (i + 1) h' → IsTupOf2 h' s.heap.objs.size x1 x2 → (∀ c o, c ≠ z → c ≠ i1 → c ≠ i2 → s.heap.get? c = some o → h'.get? c = some o) → Q (.ref s.heap.objs.size) { s with heap := h', toks := tk }) :
    wpAny (model prog w) A (Builtin.«zip.__next__» ⟨[.ref z], []⟩) (fun fin s' => ∃ v, fin = .done (.ret v) ∧ Q v s') E s := by
  obtain ⟨hp, g, dr, t0, os⟩ := s
  refine wpAny_bind (m := field (.ref z) 2) (wpAny_field hz rfl (x := .bool false) rfl (wpAny_bind (m := field (.ref z) 3) (wpAny_field hz rfl (x := .ref TI) rfl (wpAny_bind (wpAny_seqItems hTI rfl (wpAny_bind (m := Builtin.SmallTypes.ownedTupleIsFree (.ref z)) (wpAny_tupleHeld_zip hz hT fun ha hza hsa => ?_)))))))
  replace hsa : Heap.SameBut z hp ha := hsa
  simp only [Bool.false_eq_true, if_false]
  refine wpAny_bind ?_
  rw [← Array.forIn_toList]
  simp only [List.forIn_cons, List.forIn_nil]
  refine wpAny_bind (wpAny_bind (wpAny_holding (wpAny_bind (m := Builtin.SmallTypes.nextOf (.ref i1)) (D1.item i ⟨ha, g, dr, t0, os⟩ _ _ l1 (D1.over st1 hsa S.zf1) fun x1 hb tb p1 sb1 hsb => wpAny_pure (wpAny_pure ?_)))))
  replace hsb : Heap.SameBut i1 ha hb := hsb
  refine wpAny_bind (wpAny_bind (wpAny_holding (wpAny_bind (m := Builtin.SmallTypes.nextOf (.ref i2)) (D2.item i ⟨hb, g, dr, tb, os⟩ _ _ l2 (D2.over (D2.over st2 hsa S.zf2) hsb S.sep1_2) fun x2 hc tc p2 sc2 hsc => wpAny_pure (wpAny_pure (wpAny_pure ?_))))))
  replace hsc : Heap.SameBut i2 hb hc := hsc
  have size : hc.objs.size = hp.objs.size := (hsc.1.trans hsb.1).trans hsa.1
  have keep : ∀ c o, c ≠ z → c ≠ i1 → c ≠ i2 → hp.get? c = some o → hc.get? c = some o := fun c o a b d e => hsc.extBut c o d (hsb.extBut c o b (hsa.extBut c o a e))
  have zc : IsZipHeld hc z TI TO T true := hsc.extBut z _ S.zi2 (hsb.extBut z _ S.zi1 hza)
  refine wpAny_bind (m := newTuple [x1, x2]) (wpAny_newTuple (wpAny_pure ⟨_, rfl, ?_⟩))
  show Q (.ref hc.objs.size) ⟨hc.push { cls := .type "tuple", data := .seq #[x1, x2] }, g, dr, tc, os⟩
  have pair : IsTupOf2 (hc.push { cls := .type "tuple", data := .seq #[x1, x2] }) hc.objs.size x1 x2 := Heap.get?_push_size _ rfl
  rw [size] at pair ⊢
  exact hQ x1 x2 _ tc p1 p2 (Heap.get?_push_of_some _ zc) (D1.frame _ _ _ (D1.over sb1 hsc S.sep2_1) fun b _ o e => Heap.get?_push_of_some _ e) (D2.frame _ _ _ sc2 fun b _ o e => Heap.get?_push_of_some _ e) pair fun c o a b d e => Heap.get?_push_of_some _ (keep c o a b d e)
theorem held_end {Q : Fin → Shared → Prop} (S : ZipSep2 z TI TO i1 i2 fp1 fp2) (D1 : Draws prog w A i1 fp1 n1 P1 St1) (hz : IsZipHeld s.heap z TI TO T f) (hT : s.heap.get? T = some oT) (hTI : IsTupOf2 s.heap TI (.ref i1) (.ref i2)) (st1 : St1 n1 s.heap)
    (hE : ∀ h' e, (∀ c o, c ≠ z → c ≠ i1 → s.heap.get? c = some o → h'.get? c = some o) → (∃ o, h'.get? e = some o ∧ o.cls = .type "StopIteration") → E (.ref e) { s with heap := h' }) : wpAny (model prog w) A (Builtin.«zip.__next__» ⟨[.ref z], []⟩) Q E s := by
  obtain ⟨hp, g, dr, t0, os⟩ := s
  refine wpAny_bind (m := field (.ref z) 2) (wpAny_field hz rfl (x := .bool false) rfl (wpAny_bind (m := field (.ref z) 3) (wpAny_field hz rfl (x := .ref TI) rfl (wpAny_bind (wpAny_seqItems hTI rfl (wpAny_bind (m := Builtin.SmallTypes.ownedTupleIsFree (.ref z)) (wpAny_tupleHeld_zip hz hT fun ha hza hsa => ?_)))))))
  replace hsa : Heap.SameBut z hp ha := hsa
  simp only [Bool.false_eq_true, if_false]
  refine wpAny_bind ?_
  rw [← Array.forIn_toList]
  simp only [List.forIn_cons, List.forIn_nil]
  exact wpAny_bind (wpAny_bind (wpAny_holding (wpAny_bind (m := Builtin.SmallTypes.nextOf (.ref i1)) (D1.done ⟨ha, g, dr, t0, os⟩ _ _ (D1.over st1 hsa S.zf1) fun h' e ext ex => hE h' e (fun c o a b q => ext c o b (hsa.extBut c o a q)) ex))))
/-- a zip as it stands after some turns; X: what is said of the pair that is out -/
def ZSt (z TI TO i1 i2 : Addr) (St1 St2 : Nat → Heap → Prop) (X : Addr → Prop) (i : Nat) (h : Heap) : Prop :=
  IsTupOf2 h TI (.ref i1) (.ref i2) ∧ St1 i h ∧ St2 i h ∧ ((IsZip h z TI TO .none ∧ ∃ a b, IsTupOf2 h TO a b) ∨ ∃ T f oT, IsZipHeld h z TI TO T f ∧ h.get? T = some oT ∧ T ≠ z ∧ T ≠ i1 ∧ T ≠ i2 ∧ X T)
theorem pn_item {X : Addr → Prop} {Q : Option Value → Shared → Prop} (S : ZipSep2 z TI TO i1 i2 fp1 fp2) (D1 : Draws prog w A.in1 i1 fp1 n1 P1 St1) (D2 : Draws prog w A.in1 i2 fp2 n2 P2 St2) (st : ZSt z TI TO i1 i2 St1 St2 X i s.heap) (l1 : i < n1) (l2 : i < n2) (hX : X s.heap.objs.size)
    (hQ : ∀ x1 x2 h' tk, P1 i x1 → P2 i x2 → IsTupOf2 h' s.heap.objs.size x1 x2 → ZSt z TI TO i1 i2 St1 St2 X (i + 1) h' → (∀ c o, c ≠ z → c ≠ TO → c ≠ i1 → c ≠ i2 → s.heap.get? c = some o → h'.get? c = some o) → Q (some (.ref s.heap.objs.size)) { s with heap := h', toks := tk }) :
    wpAny (model prog w) A (pyNext (.ref z)) Q E s := by
  obtain ⟨hTI, st1, st2, hz⟩ := st
  have new : ∀ {c : Addr} {o : Obj}, s.heap.get? c = some o → s.heap.objs.size ≠ c := fun e => Nat.ne_of_gt (Heap.lt_size e)
  have m1 : s.heap.objs.size ≠ i1 := let ⟨_, e⟩ := D1.live _ _ st1; new e
  have m2 : s.heap.objs.size ≠ i2 := let ⟨_, e⟩ := D2.live _ _ st2; new e
  rcases hz with ⟨hz, a, b, hTO⟩ | ⟨T, f, oT, hz, hT, r1, r2, r3, r4⟩
  · exact wpAny_pyNext_zipD2_item S D1 D2 hz hTI hTO st1 st2 l1 l2 fun x1 x2 h' tk p1 p2 z' _ s1 s2 pr _ k => hQ x1 x2 h' tk p1 p2 pr ⟨k _ _ S.TIz S.TITO S.TIi1 S.TIi2 hTI, s1, s2, .inr ⟨s.heap.objs.size, false, _, z', pr, new hz, m1, m2, hX⟩⟩ k
  · have ty : s.TypeIs (.ref z) "zip" := ⟨_, hz, rfl⟩
    unfold pyNext
    exact wpAny_bind (wpAny_attempt (wpAny_callSpecial?_slot (name := Str.ofString "__next__") ty F.slot_zip_next (wpAny_call_entry F.slot_zip_next ty F.entry_zip_next
      (held_item S D1 D2 hz hT hTI st1 st2 l1 l2 fun x1 x2 h' tk p1 p2 z' s1 s2 pr k => wpAny_pure (hQ x1 x2 h' tk p1 p2 pr ⟨k _ _ S.TIz S.TIi1 S.TIi2 hTI, s1, s2, .inr ⟨T, true, oT, z', k _ _ r1 r2 r3 hT, r1, r2, r3, r4⟩⟩ fun c o a _ c1 c2 e => k c o a c1 c2 e)) (F.args_zip_next_1 _))))
theorem pn_end {X : Addr → Prop} {Q : Option Value → Shared → Prop} (S : ZipSep2 z TI TO i1 i2 fp1 fp2) (D1 : Draws prog w A.in1 i1 fp1 n1 P1 St1) (D2 : Draws prog w A.in1 i2 fp2 n1 P2 St2) (st : ZSt z TI TO i1 i2 St1 St2 X n1 s.heap)
    (hQ : ∀ h' tk, (∀ c o, c ≠ z → c ≠ TO → c ≠ i1 → c ≠ i2 → s.heap.get? c = some o → h'.get? c = some o) → Q none { s with heap := h', toks := tk }) : wpAny (model prog w) A (pyNext (.ref z)) Q E s := by
  obtain ⟨hTI, st1, st2, hz⟩ := st
  rcases hz with ⟨hz, a, b, hTO⟩ | ⟨T, f, oT, hz, hT, r1, r2, r3, r4⟩
  · exact wpAny_pyNext_zipD2_end S D1 D2 hz hTI hTO st1 st2 (Nat.le_refl _) (Nat.le_refl _) (.inl rfl) hQ
  · have ty : s.TypeIs (.ref z) "zip" := ⟨_, hz, rfl⟩
    unfold pyNext
    refine wpAny_bind (wpAny_attempt (wpAny_callSpecial?_slot (name := Str.ofString "__next__") ty F.slot_zip_next (wpAny_call_entry F.slot_zip_next ty F.entry_zip_next (held_end S D1 hz hT hTI st1 fun h' e k he => ?_) (F.args_zip_next_1 _))))
    obtain ⟨o, ho, hc⟩ := he
    exact wpAny_bind (wpAny_isInstance (T := "StopIteration") (b := true) ⟨o, ho, hc⟩ isSubtype_stop (wpAny_pure (hQ _ _ fun c o a _ c1 _ e => k c o a c1 e)))
end
section
variable {prog : Program} {w : World}
/-- zip(..) as the argument of dict() -/
theorem pairZip {z TI TO i1 i2 : Addr} {fp1 fp2 : List Addr} {n : Nat} {P1 P2 : Nat → Value → Prop} {St1 St2 : Nat → Heap → Prop} (S : ZipSep2 z TI TO i1 i2 fp1 fp2) (D1 : ∀ A : Around, A.handled = none → Draws prog w A i1 fp1 n P1 St1) (D2 : ∀ A : Around, A.handled = none → Draws prog w A i2 fp2 n P2 St2)
    (t1 : ∀ h, St1 0 h → ∀ b ∈ fp1, ∃ o, h.get? b = some o) (t2 : ∀ h, St2 0 h → ∀ b ∈ fp2, ∃ o, h.get? b = some o) (A0 : Around) (hA0 : A0.handled = none) :
    PairArg prog w "zip" z (z :: TI :: TO :: (fp1 ++ fp2)) [z, TO, i1, i2] n (fun i k v => P1 i k ∧ P2 i v) (fun h => IsZip h z TI TO .none ∧ IsTupOf2 h TI (.ref i1) (.ref i2) ∧ (∃ a b, IsTupOf2 h TO a b) ∧ St1 0 h ∧ St2 0 h) where
  type := fun s ok => ⟨_, ok.1, rfl⟩
  notDict := by decide
  keep := fun h h' ok k => by
    obtain ⟨hz, hTI, ⟨a, b, hTO⟩, s1, s2⟩ := ok
    exact ⟨k _ _ hz, k _ _ hTI, ⟨a, b, k _ _ hTO⟩, (D1 A0 hA0).frame 0 h h' s1 fun b _ o e => k b o e, (D2 A0 hA0).frame 0 h h' s2 fun b _ o e => k b o e⟩
  there := fun h ok b hb => by
    obtain ⟨hz, hTI, ⟨a, c, hTO⟩, s1, s2⟩ := ok
    rcases List.mem_cons.mp hb with rfl | hb
    · exact ⟨_, hz⟩
    rcases List.mem_cons.mp hb with rfl | hb
    · exact ⟨_, hTI⟩
    rcases List.mem_cons.mp hb with rfl | hb
    · exact ⟨_, hTO⟩
    rcases List.mem_append.mp hb with hb | hb
    · exact t1 h s1 b hb
    · exact t2 h s2 b hb
  sub := fun b hb => by
    have e1 := S.mem1
    have e2 := S.mem2
    simp only [List.mem_cons, List.not_mem_nil, or_false] at hb
    rcases hb with rfl | rfl | rfl | rfl <;> simp [e1, e2]
  noKeys := fun A s Q E hA ok h => getAttrOr_miss_zip ok.1 rfl rfl rfl zip_no_keys (by decide +kernel) hA h
  iter := fun A s d Q E hA ok hd hdf h => by
    obtain ⟨hz, hTI, ⟨a, b, hTO⟩, s1, s2⟩ := ok
    have off : ∀ b, b ∈ z :: TI :: TO :: (fp1 ++ fp2) → b ≠ d := fun b hb e => hdf (e ▸ hb)
    have o1 : ∀ b ∈ fp1, b ≠ d := fun b hb => off b (by simp [hb])
    have o2 : ∀ b ∈ fp2, b ≠ d := fun b hb => off b (by simp [hb])
    refine wpAny_pyIter_zip hz (h z [z, TO, i1, i2] (ZSt z TI TO i1 i2 St1 St2 fun T => T ≠ d) s.heap s.toks ?_ ⟨hTI, s1, s2, .inl ⟨hz, a, b, hTO⟩⟩ (fun _ _ e => e) fun b hb => .inl hb)
    refine ⟨fun hm => ?_, fun i h1 h2 st k => ?_, fun i s1 Q1 E1 hi st hds hQ => ?_, fun s1 Q1 E1 st hQ => ?_⟩
    · simp only [List.mem_cons, List.not_mem_nil, or_false] at hm
      rcases hm with e | e | e | e
      · exact off z (by simp) e.symm
      · exact off TO (by simp) e.symm
      · exact o1 i1 S.mem1 e.symm
      · exact o2 i2 S.mem2 e.symm
    · obtain ⟨hTI, s1, s2, hz⟩ := st
      refine ⟨k _ _ (off TI (by simp)) hTI, (D1 A hA).frame i h1 h2 s1 fun b hb o e => k b o (o1 b hb) e, (D2 A hA).frame i h1 h2 s2 fun b hb o e => k b o (o2 b hb) e, ?_⟩
      rcases hz with ⟨hz, a, b, hTO⟩ | ⟨T, f, oT, hz, hT, r1, r2, r3, r4⟩
      · exact .inl ⟨k _ _ (off z (by simp)) hz, a, b, k _ _ (off TO (by simp)) hTO⟩
      · exact .inr ⟨T, f, oT, k _ _ (off z (by simp)) hz, k _ _ r4 hT, r1, r2, r3, r4⟩
    · exact pn_item S (D1 A.in1 hA) (D2 A.in1 hA) st hi hi (Nat.ne_of_gt hds) fun x1 x2 h' tk p1 p2 pr st' k => hQ _ x1 x2 h' tk ⟨p1, p2⟩ (.inl ⟨_, pr, rfl, _, rfl⟩) st' fun c o hc e => k c o (fun x => hc (by simp [x])) (fun x => hc (by simp [x])) (fun x => hc (by simp [x])) (fun x => hc (by simp [x])) e
    · exact pn_end S (D1 A.in1 hA) (D2 A.in1 hA) st fun h' tk k => hQ h' tk fun c o hc e => k c o (fun x => hc (by simp [x])) (fun x => hc (by simp [x])) (fun x => hc (by simp [x])) (fun x => hc (by simp [x])) e
end
end KZp
/-! dict(zip(t, u)), t a tuple of rows of texts, u a tuple. -/
namespace KDz
open PySem PySem.Spec PyProof.Rows L2
/-- the entries -/
def entK (ts : List Str) : List Key := ts.map Sum.inr
theorem entK_kV (ts : List Str) : (entK ts).map kV = ts.map V.str := by
  unfold entK
  rw [List.map_map]
  rfl
theorem entK_inj {a b : List Str} (h : entK a = entK b) : a = b := (List.map_inj_right fun _ _ z => Sum.inr.inj z).mp h
def dtOf (ks : List (Addr × List Str)) (vs : List V) : List (List Key × V) := (ks.map fun p => entK p.2).zip vs
def rawOf (ks : List (Addr × List Str)) (us : List Value) : List (List Key × Addr × Value) := (ks.zip us).map fun q => (entK q.1.2, q.1.1, q.2)
theorem rawOf_len {ks : List (Addr × List Str)} {us : List Value} (l : ks.length = us.length) : (rawOf ks us).length = ks.length := by
  unfold rawOf
  rw [List.length_map, List.length_zip, l, Nat.min_self]
theorem rawOf_keys {ks : List (Addr × List Str)} {us : List Value} (l : ks.length = us.length) : (rawOf ks us).map (·.1) = ks.map fun p => entK p.2 := by
  induction ks generalizing us with
  | nil => rfl
  | cons p ks ih =>
    match us, l with
    | u :: us, l =>
      have z := ih (us := us) (by simpa using l)
      simp only [rawOf, List.zip_cons_cons, List.map_cons] at z ⊢
      rw [z]
theorem kt_of {H : Hp} : ∀ {ks : List (Addr × List Str)} {vs : List V} {us : List Value}, ks.length = vs.length → Vals vs us → (∀ p ∈ ks, H p.1 = some (.tup (p.2.map V.str))) → KT H (dtOf ks vs) (rawOf ks us)
  | [], _, _, _, _, _ => .nil
  | p :: ks, [], _, l, _, _ => by cases l
  | p :: ks, v :: vs, _, l, r, h => by
    cases r with
    | cons r1 r2 =>
      refine .cons ⟨rfl, ?_, r1⟩ (kt_of (ks := ks) (by simpa using l) r2 fun q hq => h q (List.mem_cons_of_mem _ hq))
      show H p.1 = some (HO.tup ((entK p.2).map kV))
      rw [entK_kV]
      exact h p List.mem_cons_self
def tDictZip (K : PySem.W.Frag) (t1 t2 : TE) : TE := fun σ H Q => t1 σ H fun x H1 => t2 σ H1 fun y H2 => ∃ (a b : Addr) (ks : List (Addr × List Str)) (vs : List V), x = .ref a ∧ y = .ref b ∧ SqT K H2 a (ks.map fun p => V.ref p.1) ∧ SqT K H2 b vs ∧
  (∀ p ∈ ks, H2 p.1 = some (.tup (p.2.map V.str))) ∧ ks.length = vs.length ∧ (ks.map (·.2)).Nodup ∧ ks.length ≤ 100000 ∧ ∀ d, H2 d = none → Q (.ref d) (upd H2 d (.dT (dtOf ks vs)))
/-- what is asked of the two -/
def ZipIn (K : PySem.W.Frag) (Q : VK) : List V → Hp → Prop
  | [x, y], H2 => ∃ (a b : Addr) (ks : List (Addr × List Str)) (vs : List V), x = .ref a ∧ y = .ref b ∧ SqT K H2 a (ks.map fun p => V.ref p.1) ∧ SqT K H2 b vs ∧
    (∀ p ∈ ks, H2 p.1 = some (.tup (p.2.map V.str))) ∧ ks.length = vs.length ∧ (ks.map (·.2)).Nodup ∧ ks.length ≤ 100000 ∧ ∀ d, H2 d = none → Q (.ref d) (upd H2 d (.dT (dtOf ks vs)))
  | _, _ => False
section
variable {X : Cx} {e1 e2 : Expr} {t1 t2 : TE} {p p1 p2 pos : Pos}
theorem keep_key {w : World} {P : Program} {h h' : Heap} {k : List Key} {b : Addr} (e : ∀ o, h.get? b = some o → h'.get? b = some o) (x : (tupleKind (mixKind P w)).is h k b) : (tupleKind (mixKind P w)).is h' k b := by
  obtain ⟨o, its, n, h1, r⟩ := x
  exact ⟨o, its, n, e _ h1, r⟩
theorem pe_dictZip (ha : PA X [e1, e2] (tCons t1 (tCons t2 tNil))) (gd : Gl X "dict") (md : X.mg "dict" = none) (gz : Gl X "zip") (mz : X.mg "zip" = none) (hc : X.calm = true) (hr : Room 3 X.A)
    (he0 : starEach [Expr.Call (.Name "zip" p1) [e1, e2] [] p2] X.env = (false, eval (.Call (.Name "zip" p1) [e1, e2] [] p2) X.env) :: starEach [] X.env := by rfl)
    (he : starEach [e1, e2] X.env = (false, eval e1 X.env) :: starEach [e2] X.env := by rfl) (hpl : (backTo p2 (starEach [e2] X.env)).any (·.1) = false := by rfl) :
    PE X (.Call (.Name "dict" p) [.Call (.Name "zip" p1) [e1, e2] [] p2] [] pos) (tDictZip X.K t1 t2) := by
  refine ⟨fun pins s σ H Q I h => ?_⟩
  have h0 : (tCons t1 (tCons t2 tNil)) σ H (ZipIn X.K Q) := h
  refine wpAny_Call_Name_kw (ld_blt I gd md rfl ?_ (by decide) (by decide))
  refine PyProof.Rows.callWith_type1 ?_ he0 rfl
  rw [he0]
  refine Calls.spliced_cons (wpAny_Call_Name_kw (ld_blt I gz mz rfl ?_ (by decide) (by decide)))
  refine PyProof.Rows.callWith_type1 (thn (ha.run p2 pins s σ H _ I h0) fun us s1 ⟨vs, H1, I1, r1, q1⟩ => ?_) he hpl
  obtain ⟨x, y, rfl⟩ : ∃ x y, vs = [x, y] := by
    match vs, q1 with
    | [x, y], _ => exact ⟨x, y, rfl⟩
  obtain ⟨a, b, ks, vs, rfl, rfl, sa, sb, hk, len, nd, few, q⟩ := q1
  obtain ⟨u, v, rfl, ru, rv⟩ := vals2 r1
  obtain rfl : u = Value.ref a := ru
  obtain rfl : v = Value.ref b := rv
  obtain ⟨ia, va, pa, _⟩ := I1.tuple sa
  obtain ⟨ib, vb, pb, _⟩ := I1.tuple sb
  have la := va.length
  have lb := vb.length
  rw [List.length_map] at la
  have lta : a < s1.heap.objs.size := let ⟨_, e, _⟩ := pa; Heap.lt_size e
  have ltb : b < s1.heap.objs.size := let ⟨_, e, _⟩ := pb; Heap.lt_size e
  refine zip_begins2 (begins_tuple a ia.toArray) (begins_tuple b ib.toArray) pa pb fun h' z1 z2 z3 z4 z5 _ kp => ?_
  refine Calls.spliced_nil ?_
  have S := zip_sep2 (N := s1.heap.objs.size) (fp1 := [a]) (fp2 := [b]) (by simpa using lta) (by simpa using ltb)
  have hd : X.A.handled = none := hr.hd
  have P := KZp.pairZip (prog := X.prog) (w := X.w) S (fun A hA => Draws.tuple hA s1.heap.objs.size a (Nat.ne_of_lt lta) ia.toArray) (n := ia.toArray.size)
    (fun A hA => by
      have D := Draws.tuple (prog := X.prog) (w := X.w) hA (s1.heap.objs.size + 1) b (Nat.ne_of_lt (Nat.lt_succ_of_lt ltb)) ib.toArray
      rw [show ib.toArray.size = ia.toArray.size by rw [List.size_toArray, List.size_toArray]; omega] at D
      exact D)
    (fun g st c hc => by
      rcases List.mem_cons.mp hc with rfl | hc
      · exact let ⟨o, e, _⟩ := st.1; ⟨o, e⟩
      · rw [List.mem_singleton.mp hc]
        exact let ⟨o, e, _⟩ := st.2; ⟨o, e⟩)
    (fun g st c hc => by
      rcases List.mem_cons.mp hc with rfl | hc
      · exact let ⟨o, e, _⟩ := st.1; ⟨o, e⟩
      · rw [List.mem_singleton.mp hc]
        exact let ⟨o, e, _⟩ := st.2; ⟨o, e⟩) X.A hd
  have lu : ks.length = ib.length := by omega
  have old : ∀ {c : Addr} {o : Obj}, s1.heap.get? c = some o → c < s1.heap.objs.size := fun e => Heap.lt_size e
  have off : ∀ {c : Addr}, c < s1.heap.objs.size → c ∉ [s1.heap.objs.size + 4, s1.heap.objs.size + 3, s1.heap.objs.size, s1.heap.objs.size + 1] := fun {c} l m => by
    simp only [List.mem_cons, List.not_mem_nil, or_false] at m
    rcases m with e | e | e | e
    · exact Nat.lt_irrefl c (Nat.lt_of_lt_of_le l (e ▸ Nat.le_add_right _ _))
    · exact Nat.lt_irrefl c (Nat.lt_of_lt_of_le l (e ▸ Nat.le_add_right _ _))
    · exact Nat.lt_irrefl c (Nat.lt_of_lt_of_le l (Nat.le_of_eq e.symm))
    · exact Nat.lt_irrefl c (Nat.lt_of_lt_of_le l (e ▸ Nat.le_add_right _ _))
  have keys : ∀ x ∈ rawOf ks ib, ∃ p ∈ ks, x.1 = entK p.2 ∧ x.2.1 = p.1 := fun x hx => by
    obtain ⟨r, hr, rfl⟩ := List.mem_map.mp hx
    exact ⟨r.1, (List.of_mem_zip hr).1, rfl, rfl⟩
  have key : ∀ p ∈ ks, (tupleKind (mixKind X.prog X.w)).is s1.heap (entK p.2) p.1 := fun p hp => key_of I1.hok (by rw [entK_kV]; exact hk p hp)
  have keyLt : ∀ p ∈ ks, p.1 < s1.heap.objs.size := fun p hp => let ⟨_, _, _, e, _⟩ := key p hp; old e
  have sz : s1.heap.objs.size ≤ h'.objs.size := Nat.le_of_lt (Nat.lt_of_le_of_lt (Nat.le_add_right _ 4) (Heap.lt_size z1))
  refine call_dict_pairsH (knd := tupleKind (mixKind X.prog X.w)) (ps := rawOf ks ib) P hd ?_ ⟨z1, z2, ⟨_, _, z3⟩, ⟨⟨_, z4, rfl, rfl⟩, pa.keeps kp⟩, ⟨⟨_, z5, rfl, rfl⟩, pb.keeps kp⟩⟩ ⟨?_, fun i k v ⟨e1, e2⟩ => ?_⟩ (fun g kg x hx => ?_) ?_ fun g tk hg kg => ?_
  · exact hr.in1.in1.units0
  · rw [rawOf_len lu, List.size_toArray]
    omega
  · have f1 : ia[i]? = some k := by simpa using e1
    have f2 : ib[i]? = some v := by simpa using e2
    have li : i < ks.length := by
      have := (List.getElem?_eq_some_iff.mp f1).1
      omega
    have g0 : ks[i]? = some ks[i] := List.getElem?_eq_getElem li
    obtain ⟨u, hu, ru⟩ := va.get (show (ks.map fun p => V.ref p.1)[i]? = some (V.ref ks[i].1) by rw [List.getElem?_map, g0]; rfl)
    rw [f1] at hu
    obtain rfl : k = u := Option.some.inj hu
    refine ⟨entK ks[i].2, ks[i].1, ?_, ru⟩
    show ((ks.zip ib).map fun q => (entK q.1.2, q.1.1, q.2))[i]? = _
    rw [List.getElem?_map, (List.getElem?_zip_eq_some (z := (ks[i], v))).mpr ⟨g0, f2⟩]
    rfl
  · obtain ⟨p, hp, e1, e2⟩ := keys x hx
    rw [e1, e2]
    have lp := keyLt p hp
    exact keep_key (fun o e => kg _ _ (Nat.ne_of_lt (Nat.lt_of_lt_of_le lp sz)) (off lp) (kp _ _ e)) (key p hp)
  · rw [sizeLine_eq, List.size_toArray]
    omega
  · have ndk : ((rawOf ks ib).map (·.1)).Nodup := by
      rw [rawOf_keys lu, show (ks.map fun p => entK p.2) = (ks.map (·.2)).map entK by rw [List.map_map]; rfl]
      exact List.Pairwise.map _ (fun _ _ ne z => ne (entK_inj z)) nd
    rw [storedAllH_nil_of_nodup _ ndk] at hg
    obtain ⟨o, es, ep, g1, g2, g3, g4, _, g5⟩ := hg
    have kept : ∀ c o, s1.heap.get? c = some o → g.get? c = some o := fun c o e => kg c o (off (old e)) (kp c o e)
    have fresh : H1 h'.objs.size = none := I1.hok.fresh sz
    refine ⟨.ref h'.objs.size, upd H1 h'.objs.size (.dT (dtOf ks vs)), I1.laid (t' := tk) kept sz ?_, rfl, q _ fresh⟩
    refine ⟨?_, beq_eq_false_iff_ne.mpr (Nat.ne_of_gt (Nat.lt_of_lt_of_le I1.big sz)), rawOf ks ib, kt_of (by omega) vb fun p hp => ?_, o, es, ep, g1, g2, g3, g4, g5⟩
    · unfold dtOf
      rw [List.length_zip, List.length_map, sizeLine_eq]
      omega
    · rw [upd_ne (Nat.ne_of_lt (Nat.lt_of_lt_of_le (keyLt p hp) sz))]
      exact hk p hp
end
end KDz
/-! Drawn: one of a list. -/
namespace K01
open PySem PySem.Spec PyProof.Rows L2 KG

theorem DeckAt.back {H H' : Hp} {d l : Addr} {k : Nat} (D : DeckAt H' d l k) (o : Off d l H H') {b : Addr} (h : H' b = none) : H b = none := by
  obtain ⟨cs, m, n, h1, h2, _⟩ := D.ex
  cases q : H b with
  | none => rfl
  | some u =>
    by_cases e1 : b = d
    · rw [e1, h1] at h; cases h
    · by_cases e2 : b = l
      · rw [e2, h2] at h; cases h
      · rw [o b u q e1 e2] at h; cases h

/-! ### _law_pick -/
def spPick (K : PySem.W.Frag) : Sp := fun vs H Q _ => ∃ (d l a : Addr) (xs : List V) (k : Nat), vs = [.ref d, .ref a] ∧ DeckAt H d l k ∧ H a = some (.lst xs) ∧ a ≠ l ∧ 0 < xs.length ∧ xs.length < 1000000 ∧ k < 1000000000 ∧
  ∀ (v : V) (H' : Hp), v ∈ xs → DeckAt H' d l (k + 1) → Off d l H H' → Q v H'
section
variable {P : Program} {w : World} {K : PySem.W.Frag} {mg : Str → Option Value} {base : Heap}
theorem sc__law_pick : FnScope ["_law_deck_here", "_law_options"] ["_law_deck_here", "_law_options"] (defScope s__law_pick) := ⟨rfl, rfl, rfl, by decide +kernel, rfl, by decide +kernel, by decide +kernel⟩
theorem ok__law_pick (B : Bi mg) (f : FnF K mg "_law_pick" "_law_pick" s__law_pick) (fd : FnF K mg "_law_draw" "_law_draw" s__law_draw) : FnOk P w K mg base CX0 2 f.a f.d ["_law_deck_here", "_law_options"] (spPick K) := by
  have G := ok__law_draw (P := P) (w := w) (base := base) B fd
  have bd : Binds K fd.d ["_law_deck_here", "_law_many"] [] := fd.F.binds fun _ _ _ _ _ _ us hl => match us, hl with | [_, _], _ => rfl
  refine f.F.ok sc__law_pick (fun vs H Q E h => ?_) (fun cdv A outer s H vs Q E hr h => ?_)
  · obtain ⟨d, l, a, xs, k, rfl, _⟩ := h
    rfl
  · obtain ⟨d, l, a, xs, k, rfl, D, ha, nal, h0, h1, hk, q⟩ := h
    refine ⟨_, (pss_one
      (ps_ret (pe_ix ix_list (pv 1) (pe_call G hr rfl fd.g fd.F.kp bd .nil pass0 (pa_cons (pv 0) (pa_cons (pe_callB call_len (by rfl) B.n_len (by decide +kernel) (pa_cons (pv 1) pa_nil)) pa_nil))) (fun _ _ => rfl)))), ?_⟩
    refine ⟨_, rfl, _, rfl, _, rfl, .ref a, xs.length, rfl, Or.inl ⟨xs, SqL.of ha, rfl⟩, d, l, (xs.length : Int), k, rfl, D, by omega, by omega, hk, fun i H' i0 i1 D' o' => ?_⟩
    have nad : a ≠ d := by
      obtain ⟨cs, m, n, hd, _⟩ := D.ex
      exact ne_of ha hd (by intro z; cases z)
    have hi : i.toNat < xs.length := by omega
    have hx : xs[i.toNat]? = some xs[i.toNat] := List.getElem?_eq_getElem hi
    exact ⟨a, xs, i, xs[i.toNat], rfl, rfl, SqL.of (o' a _ ha nad nal), at_of (j := i.toNat) (by omega) hx, q _ H' (List.getElem_mem hi) D' o'⟩

end
end K01
/-! list(zip(..)). -/
namespace KZp
open PySem
theorem zip_no_len : typeLookup (.type "zip") "__len__" = pure none := by rw [typeLookup_type, builtinLookup_eq_fast]; kernel_rfl
theorem zip_no_hint : typeLookup (.type "zip") "__length_hint__" = pure none := by rw [typeLookup_type, builtinLookup_eq_fast]; kernel_rfl
section
variable {prog : Program} {w : World} {z TI TO i1 i2 : Addr} {fp1 fp2 : List Addr} {n : Nat} {P1 P2 : Nat → Value → Prop} {St1 St2 : Nat → Heap → Prop}
/-- the pairs that a list has got -/
def Got (z TO i1 i2 L : Addr) (P1 P2 : Nat → Value → Prop) (acc : Array Value) (i : Nat) (h : Heap) : Prop := acc.size = i ∧ ∀ (j : Nat) v, acc[j]? = some v → ∃ T x1 x2, v = .ref T ∧ IsTupOf2 h T x1 x2 ∧ P1 j x1 ∧ P2 j x2 ∧ T ≠ z ∧ T ≠ TO ∧ T ≠ i1 ∧ T ≠ i2 ∧ T ≠ L
theorem Got.keep {L : Addr} {acc : Array Value} {i : Nat} {h h' : Heap} (g : Got z TO i1 i2 L P1 P2 acc i h) (k : ∀ c o, c ≠ z → c ≠ TO → c ≠ i1 → c ≠ i2 → c ≠ L → h.get? c = some o → h'.get? c = some o) : Got z TO i1 i2 L P1 P2 acc i h' :=
  ⟨g.1, fun j v e => let ⟨T, x1, x2, a, b, c, d, r1, r2, r3, r4, r5⟩ := g.2 j v e; ⟨T, x1, x2, a, k _ _ r1 r2 r3 r4 r5 b, c, d, r1, r2, r3, r4, r5⟩⟩
theorem Got.push {L T : Addr} {x1 x2 : Value} {acc : Array Value} {i : Nat} {h : Heap} (g : Got z TO i1 i2 L P1 P2 acc i h) (t : IsTupOf2 h T x1 x2) (p1 : P1 i x1) (p2 : P2 i x2) (r1 : T ≠ z) (r2 : T ≠ TO) (r3 : T ≠ i1) (r4 : T ≠ i2) (r5 : T ≠ L) : Got z TO i1 i2 L P1 P2 (acc.push (.ref T)) (i + 1) h := by
  refine ⟨by rw [Array.size_push, g.1], fun j v e => ?_⟩
  rw [Array.getElem?_push] at e
  split at e
  · rename_i q
    cases e
    rw [q, g.1]
    exact ⟨T, x1, x2, rfl, t, p1, p2, r1, r2, r3, r4, r5⟩
  · exact g.2 j v e
/-- apart from a list -/
structure Apart (z TI TO : Addr) (fp1 fp2 : List Addr) (L : Addr) : Prop where
  z : z ≠ L
  TI : TI ≠ L
  TO : TO ≠ L
  f1 : ∀ b ∈ fp1, b ≠ L
  f2 : ∀ b ∈ fp2, b ≠ L
theorem ZSt.keep {A : Around} {L : Addr} {i : Nat} {h h' : Heap} (D1 : Draws prog w A i1 fp1 n P1 St1) (D2 : Draws prog w A i2 fp2 n P2 St2) (ap : Apart z TI TO fp1 fp2 L) (st : ZSt z TI TO i1 i2 St1 St2 (fun T => T ≠ L) i h) (k : ∀ b o, b ≠ L → h.get? b = some o → h'.get? b = some o) :
    ZSt z TI TO i1 i2 St1 St2 (fun T => T ≠ L) i h' := by
  obtain ⟨hTI, s1, s2, hz⟩ := st
  refine ⟨k _ _ ap.TI hTI, D1.frame i h h' s1 fun b hb o e => k b o (ap.f1 b hb) e, D2.frame i h h' s2 fun b hb o e => k b o (ap.f2 b hb) e, ?_⟩
  rcases hz with ⟨hz, a, b, hTO⟩ | ⟨T, f, oT, hz, hT, r1, r2, r3, r4⟩
  · exact .inl ⟨k _ _ ap.z hz, a, b, k _ _ ap.TO hTO⟩
  · exact .inr ⟨T, f, oT, k _ _ ap.z hz, k _ _ r4 hT, r1, r2, r3, r4⟩
abbrev lstO (acc : Array Value) (c : Nat) : Obj := { cls := .type "list", dict := none, data := .seq acc c, slots := #[] }
theorem zip_loop {A : Around} {R : Result → Shared → Prop} {L : Addr} {res : Value} (hn : n ≤ sizeLine) (S : ZipSep2 z TI TO i1 i2 fp1 fp2) (D1 : ∀ A : Around, A.handled = none → Draws prog w A i1 fp1 n P1 St1) (D2 : ∀ A : Around, A.handled = none → Draws prog w A i2 fp2 n P2 St2) (hA : A.handled = none) (ap : Apart z TI TO fp1 fp2 L) :
    ∀ (k i : Nat) (s : Shared) (acc : Array Value) (c : Nat), n - i = k → i ≤ n → ZSt z TI TO i1 i2 St1 St2 (fun T => T ≠ L) i s.heap → TO < s.heap.objs.size → s.heap.get? L = some (lstO acc c) → Got z TO i1 i2 L P1 P2 acc i s.heap →
    (∀ h' tk acc' c', (∀ b o, b ≠ z → b ≠ TO → b ≠ i1 → b ≠ i2 → b ≠ L → s.heap.get? b = some o → h'.get? b = some o) → h'.get? L = some (lstO acc' c') → Got z TO i1 i2 L P1 P2 acc' n h' → R (.ok (.ret res)) { s with heap := h', toks := tk }) →
    codeAny (model prog w) A (.builtin "list.extend.loop" ⟨[.ref L, .ref z, res], []⟩) R s := by
  intro k
  induction k with
  | zero =>
    intro i s acc c hk hi st _ hL g hR
    obtain rfl : i = n := by omega
    refine codeAny_builtin F.entry_extend_loop ?_
    rw [Around.under_plainId F.plain_extend_loop _]
    refine wpAny_bind (m := pyNext (.ref z)) (pn_end S (D1 _ hA) (D2 _ hA) st fun h' tk kp => wpAny_pure ?_)
    have e1 := ap.f1 i1 S.mem1
    have e2 := ap.f2 i2 S.mem2
    exact hR h' tk acc c (fun b o a1 a2 a3 a4 _ e => kp b o a1 a2 a3 a4 e) (kp _ _ ap.z.symm ap.TO.symm e1.symm e2.symm hL) (g.keep fun b o a1 a2 a3 a4 _ e => kp b o a1 a2 a3 a4 e)
  | succ k ih =>
    intro i s acc c hk hi st hTO hL g hR
    have lt : i < n := by omega
    have e1 := ap.f1 i1 S.mem1
    have e2 := ap.f2 i2 S.mem2
    have lL := Heap.lt_size hL
    refine codeAny_builtin F.entry_extend_loop ?_
    rw [Around.under_plainId F.plain_extend_loop _]
    obtain ⟨hp, gg, dr, t0, os⟩ := s
    have live1 := (D1 A hA).live _ _ st.2.1
    have live2 := (D2 A hA).live _ _ st.2.2.1
    have zin : ∃ o, hp.get? z = some o := by
      rcases st.2.2.2 with ⟨hz, _⟩ | ⟨_, _, _, hz, _⟩
      · exact ⟨_, hz⟩
      · exact ⟨_, hz⟩
    have m0 : hp.objs.size ≠ z := let ⟨_, e⟩ := zin; Nat.ne_of_gt (Heap.lt_size e)
    have m1 : hp.objs.size ≠ i1 := let ⟨_, e⟩ := live1; Nat.ne_of_gt (Heap.lt_size e)
    have m2 : hp.objs.size ≠ i2 := let ⟨_, e⟩ := live2; Nat.ne_of_gt (Heap.lt_size e)
    have m3 : hp.objs.size ≠ TO := Nat.ne_of_gt hTO
    have m4 : hp.objs.size ≠ L := Nat.ne_of_gt lL
    refine wpAny_bind (m := pyNext (.ref z)) (pn_item (s := ⟨hp, gg, dr, t0, os⟩) S (D1 _ hA) (D2 _ hA) st lt lt m4 fun x1 x2 h' tk p1 p2 pr st' kp => ?_)
    have hL' : h'.get? L = some (lstO acc c) := kp _ _ ap.z.symm ap.TO.symm e1.symm e2.symm hL
    have g' : Got z TO i1 i2 L P1 P2 (acc.push (.ref hp.objs.size)) (i + 1) h' := (g.keep fun b o a1 a2 a3 a4 _ e => kp b o a1 a2 a3 a4 e).push pr p1 p2 m0 m3 m1 m2 m4
    refine wpAny_bind (m := updateSeq L (·.push (.ref hp.objs.size))) (wpAny_updateSeq hL' rfl (wpAny_pure ⟨plainId_quiet F.plain_extend_loop _, ih (i + 1) _ (acc.push (.ref hp.objs.size)) _ (by omega) lt (st'.keep (D1 A hA) (D2 A hA) ap fun b o hb e => (Heap.get?_update_other _ _ (Ne.symm hb)).trans e) ?_ (Heap.get?_update_self _ hL' rfl)
      (g'.keep fun b o _ _ _ _ a e => (Heap.get?_update_other _ _ (Ne.symm a)).trans e) fun h2 tk2 acc' c' kp2 hL2 g2 => hR h2 tk2 acc' c' (fun b o a1 a2 a3 a4 a5 e => kp2 b o a1 a2 a3 a4 a5 ((Heap.get?_update_other _ _ (Ne.symm a5)).trans (kp b o a1 a2 a3 a4 e))) hL2 g2⟩) ?_ ?_)
    · show TO < (h'.update L _).objs.size
      rw [(Heap.SameBut.update h' L _).1]
      exact Nat.lt_trans hTO (Heap.lt_size pr)
    · rw [g.1]
      omega
    · show (acc.push (.ref hp.objs.size)).size ≤ sizeLine + 1
      rw [Array.size_push, g.1]
      omega
theorem zip_extend {A : Around} {R : Result → Shared → Prop} {L : Addr} {res : Value} {s : Shared} {c : Nat} (hn : n ≤ sizeLine) (S : ZipSep2 z TI TO i1 i2 fp1 fp2) (D1 : ∀ A : Around, A.handled = none → Draws prog w A i1 fp1 n P1 St1) (D2 : ∀ A : Around, A.handled = none → Draws prog w A i2 fp2 n P2 St2) (hA : A.handled = none) (ap : Apart z TI TO fp1 fp2 L)
    (hz : IsZip s.heap z TI TO .none) (st : ZSt z TI TO i1 i2 St1 St2 (fun T => T ≠ L) 0 s.heap) (hTO : TO < s.heap.objs.size) (hL : s.heap.get? L = some (lstO #[] c))
    (hR : ∀ h' tk acc' c', (∀ b o, b ≠ z → b ≠ TO → b ≠ i1 → b ≠ i2 → b ≠ L → s.heap.get? b = some o → h'.get? b = some o) → h'.get? L = some (lstO acc' c') → Got z TO i1 i2 L P1 P2 acc' n h' → R (.ok (.ret res)) { s with heap := h', toks := tk }) :
    wpAny (model prog w) A.in1 (Builtin.List.listExtendWith (.ref L) (.ref z) res) (fun fin s' => match fin with | .done f => R (.ok f) s' | .again c' => c'.quiet = true ∧ codeAny (model prog w) A c' R s') (fun e s' => R (.error e) s') s := by
  have ty : s.TypeIs (.ref z) "zip" := ⟨_, hz, rfl⟩
  have differ : Builtin.List.listSameRef (.ref L) (.ref z) = false := by simp [Builtin.List.listSameRef, ap.z.symm]
  unfold Builtin.List.listExtendWith
  refine wpAny_bind (wpAny_typeOf ty ?_)
  simp only [differ, show (Value.type "zip" == Value.type "list") = false by decide, show (Value.type "zip" == Value.type "tuple") = false by decide, Bool.or_false, Bool.false_eq_true, if_false]
  refine wpAny_bind (wpAny_pyIter_zip hz (wpAny_bind (wpAny_holding ?_)))
  unfold Builtin.List.listLengthHint
  refine wpAny_bind (wpAny_specialOf ty zip_no_len (wpAny_bind (m := specialOf (Value.ref z) (Str.ofString "__length_hint__")) (wpAny_specialOf ty zip_no_hint (wpAny_pure ?_))))
  show wpAny _ A.in1 (rule "list.extend.makes-room" >>= fun _ => Builtin.List.listTouch (.ref L) >>= fun _ => again (.builtin "list.extend.loop" ⟨[.ref L, .ref z, res], []⟩)) _ _ _
  have hL2 := Heap.get?_update_self (Obj.mapSeq (·.push Value.none)) hL rfl
  have hL3 := Heap.get?_update_self (Obj.mapSeq (·.pop)) hL2 rfl
  have oth : ∀ b o, b ≠ L → s.heap.get? b = some o → ((s.heap.update L (Obj.mapSeq (·.push Value.none))).update L (Obj.mapSeq (·.pop))).get? b = some o := fun b o hb e => (Heap.get?_update_other _ _ (Ne.symm hb)).trans ((Heap.get?_update_other _ _ (Ne.symm hb)).trans e)
  refine wpAny_bind (wpAny_rule (wpAny_bind (m := updateSeq L (·.push .none) >>= fun _ => updateSeq L (·.pop)) (wpAny_bind (wpAny_updateSeq hL rfl (wpAny_updateSeq (hz := by seq_fits) hL2 rfl ?_)))))
  refine wpAny_pure ⟨plainId_quiet F.plain_extend_loop _, zip_loop (R := R) hn S D1 D2 hA ap n 0 _ #[] _ rfl (Nat.zero_le _) (st.keep (D1 A hA) (D2 A hA) ap oth) ?_ hL3 ⟨rfl, fun j v e => by simp at e⟩ fun h' tk acc' c' k a b => hR h' tk acc' c' (fun b o a1 a2 a3 a4 a5 e => k b o a1 a2 a3 a4 a5 (oth b o a5 e)) a b⟩
  show TO < ((s.heap.update L _).update L _).objs.size
  rw [(Heap.SameBut.update _ L _).1, (Heap.SameBut.update _ L _).1]
  exact hTO
/-- list(z), z a zip just made -/
theorem call_list_zip {A : Around} {E : Value → Shared → Prop} {s : Shared} {Q : Value → Shared → Prop} (hn : n ≤ sizeLine) (S : ZipSep2 z TI TO i1 i2 fp1 fp2) (D1 : ∀ A : Around, A.handled = none → Draws prog w A i1 fp1 n P1 St1) (D2 : ∀ A : Around, A.handled = none → Draws prog w A i2 fp2 n P2 St2) (hA : A.handled = none)
    (hz : IsZip s.heap z TI TO .none) (hTI : IsTupOf2 s.heap TI (.ref i1) (.ref i2)) (hTO : ∃ a b, IsTupOf2 s.heap TO a b) (s1 : St1 0 s.heap) (s2 : St2 0 s.heap) (f1 : ∀ b ∈ fp1, b < s.heap.objs.size) (f2 : ∀ b ∈ fp2, b < s.heap.objs.size)
    (hQ : ∀ h' tk acc c, (∀ b o, b ≠ z → b ≠ TO → b ≠ i1 → b ≠ i2 → s.heap.get? b = some o → h'.get? b = some o) → h'.get? s.heap.objs.size = some (lstO acc c) → Got z TO i1 i2 s.heap.objs.size P1 P2 acc n h' → Q (.ref s.heap.objs.size) { s with heap := h', toks := tk }) :
    wpAny (model prog w) A (call (.type "list") [.ref z]) Q E s := by
  obtain ⟨a, b, hTO⟩ := hTO
  have ap : Apart z TI TO fp1 fp2 s.heap.objs.size := ⟨Nat.ne_of_lt (Heap.lt_size hz), Nat.ne_of_lt (Heap.lt_size hTI), Nat.ne_of_lt (Heap.lt_size hTO), fun b hb => Nat.ne_of_lt (f1 b hb), fun b hb => Nat.ne_of_lt (f2 b hb)⟩
  have up : ∀ b o, s.heap.get? b = some o → (s.heap.push { cls := .type "list", data := .seq #[] }).get? b = some o := fun b o e => Heap.get?_push_of_some _ e
  have st : ZSt z TI TO i1 i2 St1 St2 (fun T => T ≠ s.heap.objs.size) 0 (s.heap.push { cls := .type "list", data := .seq #[] }) :=
    ⟨up _ _ hTI, (D1 A hA).frame 0 _ _ s1 fun b _ o e => up b o e, (D2 A hA).frame 0 _ _ s2 fun b _ o e => up b o e, .inl ⟨up _ _ hz, a, b, up _ _ hTO⟩⟩
  have hL : (s.heap.push { cls := .type "list", data := .seq #[] }).get? s.heap.objs.size = some (lstO #[] 0) := Heap.get?_push_size _ rfl
  refine callType_codes (Q₁ := fun obj t => obj = .ref s.heap.objs.size ∧ t = { s with heap := s.heap.push { cls := .type "list", data := .seq #[] } }) F.called_list (F.typeCall_list_1 _) F.entry_list_init (code_list_new _ ⟨rfl, rfl⟩) fun obj t ht => ?_
  obtain ⟨rfl, rfl⟩ := ht
  refine ⟨⟨_, hL, rfl⟩, F.args_list_init_2 _ _, ?_⟩
  show wpAny _ A.in1.in1 (do let old ← Builtin.List.listItems (.ref s.heap.objs.size); Builtin.List.listUpdate (.ref s.heap.objs.size) (fun _ => #[]); letGo old.toList.reverse; Builtin.List.listExtendWith (.ref s.heap.objs.size) (.ref z) .none) _ _ _
  unfold Builtin.List.listItems
  refine wpAny_bind (wpAny_bind (m := seqItems? (.ref s.heap.objs.size)) (wpAny_seqItems hL rfl (wpAny_pure ?_)))
  have hL2 := Heap.get?_update_self (Obj.mapSeq (fun _ => (#[] : Array Value))) hL rfl
  have oth : ∀ b o, b ≠ s.heap.objs.size → (s.heap.push { cls := .type "list", data := .seq #[] }).get? b = some o → ((s.heap.push { cls := .type "list", data := .seq #[] }).update s.heap.objs.size (Obj.mapSeq (fun _ => (#[] : Array Value)))).get? b = some o := fun b o hb e => (Heap.get?_update_other _ _ (Ne.symm hb)).trans e
  refine wpAny_bind (m := updateSeq s.heap.objs.size (fun _ => #[])) (wpAny_updateSeq hL rfl (wpAny_bind (m := letGo (#[] : Array Value).toList.reverse) (wpAny_letGo ?_)))
  refine zip_extend (A := A.in1) hn S D1 D2 hA ap (oth _ _ ap.z (up _ _ hz)) (st.keep (D1 A hA) (D2 A hA) ap oth) ?_ hL2 fun h' tk acc' c' k a b => ⟨rfl, hQ h' tk acc' c' (fun b o a1 a2 a3 a4 e => k b o a1 a2 a3 a4 (Nat.ne_of_lt (Heap.lt_size e)) (oth b o (Nat.ne_of_lt (Heap.lt_size e)) (up b o e))) a b⟩
  show TO < ((s.heap.push _).update _ _).objs.size
  rw [(Heap.SameBut.update _ _ _).1]
  exact Heap.lt_size (up _ _ hTO)
end
end KZp
/-! dict(list(zip(l, u))), l a list of rows of texts, u a tuple. -/
namespace KDz
open PySem PySem.Spec PyProof.Rows L2
def tDictLZ (K : PySem.W.Frag) (t1 t2 : TE) : TE := fun σ H Q => t1 σ H fun x H1 => t2 σ H1 fun y H2 => ∃ (a b : Addr) (ks : List (Addr × List Str)) (vs : List V), x = .ref a ∧ y = .ref b ∧ SqL K H2 a (ks.map fun p => V.ref p.1) ∧ SqT K H2 b vs ∧
  (∀ p ∈ ks, H2 p.1 = some (.tup (p.2.map V.str))) ∧ ks.length = vs.length ∧ (ks.map (·.2)).Nodup ∧ ks.length ≤ 100000 ∧ ∀ d, H2 d = none → Q (.ref d) (upd H2 d (.dT (dtOf ks vs)))
/-- what is asked of the two -/
def ZipInL (K : PySem.W.Frag) (Q : VK) : List V → Hp → Prop
  | [x, y], H2 => ∃ (a b : Addr) (ks : List (Addr × List Str)) (vs : List V), x = .ref a ∧ y = .ref b ∧ SqL K H2 a (ks.map fun p => V.ref p.1) ∧ SqT K H2 b vs ∧
    (∀ p ∈ ks, H2 p.1 = some (.tup (p.2.map V.str))) ∧ ks.length = vs.length ∧ (ks.map (·.2)).Nodup ∧ ks.length ≤ 100000 ∧ ∀ d, H2 d = none → Q (.ref d) (upd H2 d (.dT (dtOf ks vs)))
  | _, _ => False
/-- the address of the j-th item -/
def refAt (acc : Array Value) (j : Nat) : Addr := match acc[j]? with
  | some (.ref T) => T
  | _ => 0
theorem refAt_eq {acc : Array Value} {j : Nat} {T : Addr} (h : acc[j]? = some (.ref T)) : refAt acc j = T := by
  unfold refAt
  rw [h]
section
variable {X : Cx} {e1 e2 : Expr} {t1 t2 : TE} {p p0 p1 p2 p3 pos : Pos}
theorem pe_dictLZ (ha : PA X [e1, e2] (tCons t1 (tCons t2 tNil))) (gd : Gl X "dict") (md : X.mg "dict" = none) (gl : Gl X "list") (ml : X.mg "list" = none) (gz : Gl X "zip") (mz : X.mg "zip" = none) (hr : Room 3 X.A)
    (he00 : starEach [Expr.Call (.Name "list" p0) [.Call (.Name "zip" p1) [e1, e2] [] p2] [] p3] X.env = (false, eval (.Call (.Name "list" p0) [.Call (.Name "zip" p1) [e1, e2] [] p2] [] p3) X.env) :: starEach [] X.env := by rfl)
    (he0 : starEach [Expr.Call (.Name "zip" p1) [e1, e2] [] p2] X.env = (false, eval (.Call (.Name "zip" p1) [e1, e2] [] p2) X.env) :: starEach [] X.env := by rfl)
    (he : starEach [e1, e2] X.env = (false, eval e1 X.env) :: starEach [e2] X.env := by rfl) (hpl : (backTo p2 (starEach [e2] X.env)).any (·.1) = false := by rfl) :
    PE X (.Call (.Name "dict" p) [.Call (.Name "list" p0) [.Call (.Name "zip" p1) [e1, e2] [] p2] [] p3] [] pos) (tDictLZ X.K t1 t2) := by
  refine ⟨fun pins s σ H Q I h => ?_⟩
  have h0 : (tCons t1 (tCons t2 tNil)) σ H (ZipInL X.K Q) := h
  refine wpAny_Call_Name_kw (ld_blt I gd md rfl ?_ (by decide) (by decide))
  refine PyProof.Rows.callWith_type1 ?_ he00 rfl
  rw [he00]
  refine Calls.spliced_cons (wpAny_Call_Name_kw (ld_blt I gl ml rfl ?_ (by decide) (by decide)))
  refine PyProof.Rows.callWith_type1 ?_ he0 rfl
  rw [he0]
  refine Calls.spliced_cons (wpAny_Call_Name_kw (ld_blt I gz mz rfl ?_ (by decide) (by decide)))
  refine PyProof.Rows.callWith_type1 (thn (ha.run p2 pins s σ H _ I h0) fun us s1 ⟨vs, H1, I1, r1, q1⟩ => ?_) he hpl
  obtain ⟨x, y, rfl⟩ : ∃ x y, vs = [x, y] := by
    match vs, q1 with
    | [x, y], _ => exact ⟨x, y, rfl⟩
  obtain ⟨a, b, ks, vs, rfl, rfl, sa, sb, hk, len, nd, few, q⟩ := q1
  obtain ⟨u, v, rfl, ru, rv⟩ := vals2 r1
  obtain rfl : u = Value.ref a := ru
  obtain rfl : v = Value.ref b := rv
  obtain ⟨ia, va, pa, _⟩ := I1.list sa
  obtain ⟨ib, vb, pb, _⟩ := I1.tuple sb
  have pa := pa.isList
  have la := va.length
  have lb := vb.length
  rw [List.length_map] at la
  have lta : a < s1.heap.objs.size := let ⟨_, e, _⟩ := pa; Heap.lt_size e
  have ltb : b < s1.heap.objs.size := let ⟨_, e, _⟩ := pb; Heap.lt_size e
  refine zip_begins2 (begins_list a ia.toArray) (begins_tuple b ib.toArray) pa pb fun h' z1 z2 z3 z4 z5 _ kp => ?_
  refine Calls.spliced_nil ?_
  have S := zip_sep2 (N := s1.heap.objs.size) (fp1 := [a]) (fp2 := [b]) (by simpa using lta) (by simpa using ltb)
  have hd : X.A.handled = none := hr.hd
  have lu : ks.length = ib.length := by omega
  have old : ∀ {c : Addr} {o : Obj}, s1.heap.get? c = some o → c < s1.heap.objs.size := fun e => Heap.lt_size e
  have off : ∀ {c : Addr}, c < s1.heap.objs.size → c ≠ s1.heap.objs.size + 4 ∧ c ≠ s1.heap.objs.size + 3 ∧ c ≠ s1.heap.objs.size ∧ c ≠ s1.heap.objs.size + 1 := fun {c} l =>
    ⟨Nat.ne_of_lt (Nat.lt_of_lt_of_le l (Nat.le_add_right _ _)), Nat.ne_of_lt (Nat.lt_of_lt_of_le l (Nat.le_add_right _ _)), Nat.ne_of_lt l, Nat.ne_of_lt (Nat.lt_of_lt_of_le l (Nat.le_add_right _ _))⟩
  have sz : s1.heap.objs.size ≤ h'.objs.size := Nat.le_of_lt (Nat.lt_of_le_of_lt (Nat.le_add_right _ 4) (Heap.lt_size z1))
  have n16 : ia.toArray.size ≤ sizeLine := by
    rw [List.size_toArray, sizeLine_eq]
    omega
  refine KZp.call_list_zip (n := ia.toArray.size) (St1 := fun i h => h.IsListIter s1.heap.objs.size a i ∧ h.IsList a ia.toArray) (St2 := fun i h => h.IsTupleIter (s1.heap.objs.size + 1) b i ∧ h.IsTuple b ib.toArray) (P1 := fun i v => ia.toArray[i]? = some v) (P2 := fun i v => ib.toArray[i]? = some v) n16 S (fun A hA => Draws.list hA s1.heap.objs.size a (Nat.ne_of_lt lta) ia.toArray)
    (fun A hA => by
      have D := Draws.tuple (prog := X.prog) (w := X.w) hA (s1.heap.objs.size + 1) b (Nat.ne_of_lt (Nat.lt_succ_of_lt ltb)) ib.toArray
      rw [show ib.toArray.size = ia.toArray.size by rw [List.size_toArray, List.size_toArray]; omega] at D
      exact D)
    hd z1 z2 ⟨_, _, z3⟩ ⟨⟨_, z4, rfl, rfl⟩, pa.at fun o e => kp _ _ e⟩ ⟨⟨_, z5, rfl, rfl⟩, pb.keeps kp⟩
    (fun c hc => by
      rcases List.mem_cons.mp hc with rfl | hc
      · exact Heap.lt_size z4
      · rw [List.mem_singleton.mp hc]
        exact Nat.lt_of_lt_of_le lta sz)
    (fun c hc => by
      rcases List.mem_cons.mp hc with rfl | hc
      · exact Heap.lt_size z5
      · rw [List.mem_singleton.mp hc]
        exact Nat.lt_of_lt_of_le ltb sz)
    fun g tk acc c kg gL got => ?_
  refine Calls.spliced_nil ?_
  have kept0 : ∀ c o, s1.heap.get? c = some o → g.get? c = some o := fun c o e => by
    obtain ⟨o1, o2, o3, o4⟩ := off (old e)
    exact kg c o o1 o2 o3 o4 (kp c o e)
  have keys : ∀ x ∈ rawOf ks ib, ∃ p ∈ ks, x.1 = entK p.2 ∧ x.2.1 = p.1 := fun x hx => by
    obtain ⟨r, hr, rfl⟩ := List.mem_map.mp hx
    exact ⟨r.1, (List.of_mem_zip hr).1, rfl, rfl⟩
  have key : ∀ p ∈ ks, (tupleKind (mixKind X.prog X.w)).is s1.heap (entK p.2) p.1 := fun p hp => key_of I1.hok (by rw [entK_kV]; exact hk p hp)
  have keyLt : ∀ p ∈ ks, p.1 < s1.heap.objs.size := fun p hp => let ⟨_, _, _, e, _⟩ := key p hp; old e
  have sg : s1.heap.objs.size ≤ g.objs.size := Nat.le_trans sz (Nat.le_of_lt (Heap.lt_size gL))
  have zl : (ia.zip ib).length = ia.length := by
    rw [List.length_zip]
    omega
  refine call_dict_pairsH (knd := tupleKind (mixKind X.prog X.w)) (ps := rawOf ks ib) (PairArg.list (prog := X.prog) (w := X.w) h'.objs.size acc (refAt acc) (ia.zip ib)) hd ?_ ⟨⟨_, c, gL, rfl, rfl, rfl⟩, ?_, fun j k v e => ?_⟩ ⟨?_, fun i k v e => ?_⟩ (fun g2 k2 x hx => ?_) ?_ fun g2 tk2 hg k2 => ?_
  · exact hr.in1.in1.units0
  · rw [got.1, zl, List.size_toArray]
  · obtain ⟨e1, e2⟩ := List.getElem?_zip_eq_some.mp e
    have lj : j < acc.size := by
      rw [got.1, List.size_toArray]
      exact (List.getElem?_eq_some_iff.mp e1).1
    obtain ⟨T, x1, x2, ev, tp, q1, q2, _⟩ := got.2 j _ (Array.getElem?_eq_getElem lj)
    have ev : acc[j]? = some (.ref T) := by rw [Array.getElem?_eq_getElem lj, ev]
    have g1 : ia[j]? = some x1 := by simpa using q1
    have g2 : ib[j]? = some x2 := by simpa using q2
    rw [e1] at g1
    rw [e2] at g2
    cases g1
    cases g2
    rw [refAt_eq ev]
    exact ⟨ev, .inl ⟨_, tp, rfl, _, rfl⟩⟩
  · rw [rawOf_len lu, zl]
    omega
  · obtain ⟨f1, f2⟩ := List.getElem?_zip_eq_some.mp e
    have f1 : ia[i]? = some k := f1
    have f2 : ib[i]? = some v := f2
    have li : i < ks.length := by
      have := (List.getElem?_eq_some_iff.mp f1).1
      omega
    have g0 : ks[i]? = some ks[i] := List.getElem?_eq_getElem li
    obtain ⟨u, hu, ru⟩ := va.get (show (ks.map fun p => V.ref p.1)[i]? = some (V.ref ks[i].1) by rw [List.getElem?_map, g0]; rfl)
    rw [f1] at hu
    obtain rfl : k = u := Option.some.inj hu
    refine ⟨entK ks[i].2, ks[i].1, ?_, ru⟩
    show ((ks.zip ib).map fun q => (entK q.1.2, q.1.1, q.2))[i]? = _
    rw [List.getElem?_map, (List.getElem?_zip_eq_some (z := (ks[i], v))).mpr ⟨g0, f2⟩]
    rfl
  · obtain ⟨p, hp, e1, e2⟩ := keys x hx
    rw [e1, e2]
    have lp := keyLt p hp
    exact keep_key (fun o e => k2 _ _ (Nat.ne_of_lt (Nat.lt_of_lt_of_le lp sg)) (by simp) (kept0 _ _ e)) (key p hp)
  · rw [zl, sizeLine_eq]
    omega
  · have ndk : ((rawOf ks ib).map (·.1)).Nodup := by
      rw [rawOf_keys lu, show (ks.map fun p => entK p.2) = (ks.map (·.2)).map entK by rw [List.map_map]; rfl]
      exact List.Pairwise.map _ (fun _ _ ne z => ne (entK_inj z)) nd
    rw [storedAllH_nil_of_nodup _ ndk] at hg
    obtain ⟨o, es, ep, g1, g2', g3, g4, _, g5⟩ := hg
    have kept : ∀ c o, s1.heap.get? c = some o → g2.get? c = some o := fun c o e => k2 c o (by simp) (kept0 c o e)
    have fresh : H1 g.objs.size = none := I1.hok.fresh sg
    refine ⟨.ref g.objs.size, upd H1 g.objs.size (.dT (dtOf ks vs)), I1.laid (t' := tk2) kept sg ?_, rfl, q _ fresh⟩
    refine ⟨?_, beq_eq_false_iff_ne.mpr (Nat.ne_of_gt (Nat.lt_of_lt_of_le I1.big sg)), rawOf ks ib, kt_of (by omega) vb fun p hp => ?_, o, es, ep, g1, g2', g3, g4, g5⟩
    · unfold dtOf
      rw [List.length_zip, List.length_map, sizeLine_eq]
      omega
    · rw [upd_ne (Nat.ne_of_lt (Nat.lt_of_lt_of_le (keyLt p hp) sg))]
      exact hk p hp
end
end KDz
/-! dict(pairs), the keys rows of texts. -/
namespace KDz
open PySem PySem.Spec PyProof.Rows L2
/-- pairs (row, value) -/
inductive PairsT (K : PySem.W.Frag) (H : Hp) : List Addr → List (Addr × List Str) → List V → Prop
  | nil : PairsT K H [] [] []
  | cons {p : Addr} {k : Addr × List Str} {v : V} {ps : List Addr} {ks : List (Addr × List Str)} {vs : List V} : SqT K H p [.ref k.1, v] → PairsT K H ps ks vs → PairsT K H (p :: ps) (k :: ks) (v :: vs)
theorem PairsT.len {K : PySem.W.Frag} {H : Hp} : ∀ {ps : List Addr} {ks : List (Addr × List Str)} {vs : List V}, PairsT K H ps ks vs → ps.length = ks.length ∧ ks.length = vs.length
  | _, _, _, .nil => ⟨rfl, rfl⟩
  | _, _, _, .cons _ t => by
    obtain ⟨a, b⟩ := t.len
    exact ⟨congrArg (· + 1) a, congrArg (· + 1) b⟩
theorem PairsT.snoc {K : PySem.W.Frag} {H : Hp} {p : Addr} {k : Addr × List Str} {v : V} (h : SqT K H p [.ref k.1, v]) : ∀ {ps : List Addr} {ks : List (Addr × List Str)} {vs : List V}, PairsT K H ps ks vs → PairsT K H (ps ++ [p]) (ks ++ [k]) (vs ++ [v])
  | _, _, _, .nil => .cons h .nil
  | _, _, _, .cons a t => .cons a (t.snoc h)
section
variable {X : Cx} {pins : List (Addr × Obj)} {σ : L2.St} {H : Hp} {s : Shared}
theorem PairsT.vals (I : Inv X pins σ H s) : ∀ {ps : List Addr} {ks : List (Addr × List Str)} {vs : List V}, PairsT X.K H ps ks vs → ∃ us : List Value, Vals vs us ∧ ∀ (i : Nat) (p : Addr), ps[i]? = some p → ∃ (k : Addr × List Str) (u : Value), ks[i]? = some k ∧ us[i]? = some u ∧ IsTup s.heap p #[.ref k.1, u]
  | _, _, _, .nil => ⟨[], .nil, fun i p e => by simp at e⟩
  | _, _, _, .cons (k := k) (v := v) h t => by
    obtain ⟨us, r, q⟩ := t.vals I
    obtain ⟨its, rv, pl, _⟩ := I.tuple h
    obtain ⟨u1, u2, rfl, e1, e2⟩ := vals2 rv
    obtain rfl : u1 = Value.ref k.1 := e1
    refine ⟨u2 :: us, .cons e2 r, fun i p e => ?_⟩
    cases i with
    | zero =>
      cases e
      exact ⟨k, u2, rfl, rfl, pl⟩
    | succ i => exact q i p e
/-- dict(pairs) -/
theorem call_dictPT (hd : X.A.handled = none) (hr : Room 3 X.A) : CallR X (.type "dict") (fun xs H Q => ∃ (a : Addr) (ps : List Addr) (ks : List (Addr × List Str)) (vs : List V), xs = [.ref a] ∧ SqL X.K H a (ps.map V.ref) ∧ PairsT X.K H ps ks vs ∧
    (∀ p ∈ ks, H p.1 = some (.tup (p.2.map V.str))) ∧ (ks.map (·.2)).Nodup ∧ ks.length ≤ 100000 ∧ ∀ d, H d = none → Q (.ref d) (upd H d (.dT (dtOf ks vs)))) := by
  intro pins s σ H xs us0 Q I r h
  obtain ⟨a, ps, ks, vs, rfl, hl, pt, hk, nd, few, q⟩ := h
  obtain ⟨u0, rfl, ru⟩ := vals1 r
  obtain rfl : u0 = Value.ref a := ru
  obtain ⟨l1, l2⟩ := pt.len
  obtain ⟨us, vu, pq⟩ := pt.vals I
  have l3 := vu.length
  obtain ⟨its, rv, pl, _⟩ := I.list hl
  have ei := refs_at rv
  subst ei
  obtain ⟨o, n, ho, hc, hdc, hdat⟩ := pl
  have lu : ks.length = us.length := by omega
  have old : ∀ {c : Addr} {o : Obj}, s.heap.get? c = some o → c < s.heap.objs.size := fun e => Heap.lt_size e
  have keys : ∀ x ∈ rawOf ks us, ∃ p ∈ ks, x.1 = entK p.2 ∧ x.2.1 = p.1 := fun x hx => by
    obtain ⟨r, hr, rfl⟩ := List.mem_map.mp hx
    exact ⟨r.1, (List.of_mem_zip hr).1, rfl, rfl⟩
  have key : ∀ p ∈ ks, (tupleKind (mixKind X.prog X.w)).is s.heap (entK p.2) p.1 := fun p hp => key_of I.hok (by rw [entK_kV]; exact hk p hp)
  have keyLt : ∀ p ∈ ks, p.1 < s.heap.objs.size := fun p hp => let ⟨_, _, _, e, _⟩ := key p hp; old e
  have zl : ((ks.map fun p => Value.ref p.1).zip us).length = ks.length := by
    rw [List.length_zip, List.length_map]
    omega
  refine call_dict_pairsH (knd := tupleKind (mixKind X.prog X.w)) (ps := rawOf ks us) (PairArg.list (prog := X.prog) (w := X.w) a (ps.map Value.ref).toArray (fun j => ps.getD j 0) ((ks.map fun p => Value.ref p.1).zip us)) hd hr.in1.in1.units0 ⟨⟨o, n, ho, hc, hdc, hdat⟩, ?_, fun j k v e => ?_⟩ ⟨?_, fun i k v e => ?_⟩ (fun g kg x hx => ?_) ?_ fun g tk hg kg => ?_
  · rw [List.size_toArray, List.length_map, zl]
    omega
  · obtain ⟨e1, e2⟩ := List.getElem?_zip_eq_some.mp e
    have e1 : (ks.map fun p => Value.ref p.1)[j]? = some k := e1
    have e2 : us[j]? = some v := e2
    have lj : j < ps.length := by
      have := (List.getElem?_eq_some_iff.mp e2).1
      omega
    have gp : ps[j]? = some ps[j] := List.getElem?_eq_getElem lj
    obtain ⟨k', u', g1, g2, tp⟩ := pq j _ gp
    rw [List.getElem?_map, g1] at e1
    rw [e2] at g2
    cases e1
    cases g2
    have gd : ps.getD j 0 = ps[j] := by rw [List.getD_eq_getElem?_getD, gp]; rfl
    refine ⟨?_, .inl ?_⟩
    · show (ps.map Value.ref).toArray[j]? = some (.ref (ps.getD j 0))
      rw [gd]
      simp [gp]
    · show s.heap.IsTuple (ps.getD j 0) _
      rw [gd]
      exact tp
  · rw [rawOf_len lu, zl]
  · obtain ⟨f1, f2⟩ := List.getElem?_zip_eq_some.mp e
    have f1 : (ks.map fun p => Value.ref p.1)[i]? = some k := f1
    have f2 : us[i]? = some v := f2
    have li : i < ks.length := by
      have := (List.getElem?_eq_some_iff.mp f2).1
      omega
    have g0 : ks[i]? = some ks[i] := List.getElem?_eq_getElem li
    rw [List.getElem?_map, g0] at f1
    cases f1
    refine ⟨entK ks[i].2, ks[i].1, ?_, rfl⟩
    show ((ks.zip us).map fun q => (entK q.1.2, q.1.1, q.2))[i]? = _
    rw [List.getElem?_map, (List.getElem?_zip_eq_some (z := (ks[i], v))).mpr ⟨g0, f2⟩]
    rfl
  · obtain ⟨p, hp, e1, e2⟩ := keys x hx
    rw [e1, e2]
    exact keep_key (fun o e => kg _ _ (Nat.ne_of_lt (keyLt p hp)) (by simp) e) (key p hp)
  · rw [zl, sizeLine_eq]
    omega
  · have ndk : ((rawOf ks us).map (·.1)).Nodup := by
      rw [rawOf_keys lu, show (ks.map fun p => entK p.2) = (ks.map (·.2)).map entK by rw [List.map_map]; rfl]
      exact List.Pairwise.map _ (fun _ _ ne z => ne (entK_inj z)) nd
    rw [storedAllH_nil_of_nodup _ ndk] at hg
    obtain ⟨o, es, ep, g1, g2, g3, g4, _, g5⟩ := hg
    have fresh : H s.heap.objs.size = none := I.hok.fresh (Nat.le_refl _)
    refine ⟨.ref s.heap.objs.size, upd H s.heap.objs.size (.dT (dtOf ks vs)), I.laid (t' := tk) (fun c o e => kg c o (by simp) e) (Nat.le_refl _) ?_, rfl, q _ fresh⟩
    refine ⟨?_, beq_eq_false_iff_ne.mpr (Nat.ne_of_gt I.big), rawOf ks us, kt_of (by omega) vu fun p hp => ?_, o, es, ep, g1, g2, g3, g4, g5⟩
    · unfold dtOf
      rw [List.length_zip, List.length_map, sizeLine_eq]
      omega
    · rw [upd_ne (Nat.ne_of_lt (keyLt p hp))]
      exact hk p hp
end
end KDz
/-! _law_names. -/
namespace K01
open PySem PySem.Spec PyProof.Rows L2 KG KS KA
abbrev s__law_names : Stmt := top 26
def pool : List Str := ["a", "ab", "b", "choice", "domain", "least", "no", "none", "yes", "z", "zzzzzzzz"]
theorem pool_len : pool.length = 11 := by decide +kernel
theorem pool_ok : ∀ x ∈ pool, nameOk x = true := by decide +kernel
theorem pool_nd : pool.Nodup := by decide +kernel
theorem rising_asc : ∀ (l : List Str) (p : Str), risingS p l = true → (p :: l).Nodup → AscT (p :: l)
  | [], p, _, _ => List.pairwise_singleton _ _
  | x :: r, p, h, nd => by
    have h1 : (!ltCps x.cps.toList p.cps.toList && risingS x r) = true := h
    rw [Bool.and_eq_true] at h1
    have nd2 := (List.nodup_cons.mp nd).2
    have ne : p ≠ x := fun e => (List.nodup_cons.mp nd).1 (by rw [e]; exact List.mem_cons_self)
    have ih := rising_asc r x h1.2 nd2
    have lt : ltT p x = true := by
      cases e : ltT p x with
      | true => rfl
      | false =>
        refine absurd (ltT_total e ?_) ne
        have z : W.dataLt (.str x) (.str p) = ltCps x.cps.toList p.cps.toList := (W.dataLt_str _ _).trans (lt_meets _ _)
        show W.dataLt (.str x) (.str p) = false
        rw [z]
        simpa using h1.1
    refine List.pairwise_cons.mpr ⟨fun y hy => ?_, ih⟩
    rcases List.mem_cons.mp hy with e | hy
    · rw [e]
      exact lt
    · exact lex_trans _ _ _ lt (List.rel_of_pairwise_cons ih hy)
theorem sorted_asc {l : List Str} (h : sortedS l = true) (nd : l.Nodup) : AscT l := by
  cases l with
  | nil => exact .nil
  | cons x r => exact rising_asc r x h nd
theorem erase_map {α β : Type} (f : α → β) (xs : List α) (k : Nat) : (xs.map f).eraseIdx k = (xs.eraseIdx k).map f := by
  rw [List.eraseIdx_eq_take_drop_succ, List.eraseIdx_eq_take_drop_succ, List.map_append, List.map_take, List.map_drop]
theorem erase_perm {α : Type} {xs ys : List α} {k : Nat} (h : k < xs.length) : (xs.eraseIdx k ++ (ys ++ [xs[k]])).Perm (xs ++ ys) := by
  have e : xs = xs.take k ++ xs[k] :: xs.drop (k + 1) := by rw [List.getElem_cons_drop, List.take_append_drop]
  have p1 : (xs ++ ys).Perm (xs[k] :: (xs.eraseIdx k) ++ ys) := by
    rw [List.eraseIdx_eq_take_drop_succ]
    have p2 : xs.Perm (xs[k] :: (xs.take k ++ xs.drop (k + 1))) := (List.Perm.of_eq e).trans List.perm_middle
    exact p2.append_right ys
  refine List.Perm.trans ?_ p1.symm
  rw [← List.append_assoc]
  exact List.perm_append_comm
/-- len(x), K said -/
abbrev rLen (K : PySem.W.Frag) : List V → Hp → VK → Prop := fun xs H Q => ∃ x n, xs = [x] ∧ LenV K x H n ∧ Q (.int (n : Nat)) H
/-- so many distinct names, ascending -/
def spNames2 : Sp := fun vs H Q _ => ∃ (d l : Addr) (m k : Nat), vs = [.ref d, .int (m : Nat)] ∧ DeckAt H d l k ∧ m ≤ 11 ∧ k + m < 1000000000 ∧
  ∀ (p : Addr) (ds : List Str) (H' : Hp), H p = none → DeckAt H' d l (k + m) → Off d l H H' → H' p = some (.tup (ds.map V.str)) → ds.length = m → (∀ x ∈ ds, x ∈ pool) → AscT ds → Q (.ref p) H'
section
variable {P : Program} {w : World} {K : PySem.W.Frag} {mg : Str → Option Value} {base : Heap}
theorem sc__law_names : FnScope ["_law_deck_here", "_law_many", "_law_pool", "_law_k"] ["_law_deck_here", "_law_many"] (defScope s__law_names) := ⟨rfl, rfl, rfl, by decide +kernel, rfl, by decide +kernel, by decide +kernel⟩
theorem ok__law_names (B : Bs mg) (f : FnF K mg "_law_names" "_law_names" s__law_names) (fd : FnF K mg "_law_draw" "_law_draw" s__law_draw) : FnOk P w K mg base CX0 2 f.a f.d ["_law_deck_here", "_law_many"] spNames2 := by
  have G := ok__law_draw (P := P) (w := w) (base := base) B.toBi fd
  have bd : L2.Binds K fd.d ["_law_deck_here", "_law_many"] [] := fd.F.binds fun _ _ _ _ _ _ us hl => match us, hl with | [_, _], _ => rfl
  refine f.F.ok sc__law_names (fun vs H Q E h => ?_) (fun cdv A outer s H vs Q E hr h => ?_)
  · obtain ⟨d, l, m, k, rfl, _⟩ := h
    rfl
  · obtain ⟨d, l, m, k, rfl, D, hm, hk, q⟩ := h
    have hr1 : Room 1 _ := hr.mono (by omega)
    refine ⟨_, (pss_cons
      (ps_set (i := 2) sc__law_names.nd rfl (Or.inr rfl) (pe_lst (pa_cons pe_str (pa_cons pe_str (pa_cons pe_str (pa_cons pe_str (pa_cons pe_str (pa_cons pe_str (pa_cons pe_str (pa_cons pe_str (pa_cons pe_str (pa_cons pe_str (pa_cons pe_str pa_nil)))))))))))))
    (pss_one
      (ps_ret (pe_callTy call_tuple_of (by rfl) B.n_tuple (by decide +kernel) (pa_cons (pe_callB cr_sortedS (by rfl) B.n_sorted (by decide +kernel) (pa_cons (pe_lc (own := [("_law_k", 3)]) (g := gName 3) (by rfl) sc__law_names.nd (pi_range1 rfl B.n_range (pa_cons (pv 1) pa_nil)) (blkOk_by (own := [("_law_k", 3)]) (N := ["_law_deck_here", "_law_many", "_law_pool", "_law_k"]) (sc := defScope s__law_names) (by decide +kernel))
        (fun _ _ _ _ _ => (pg_name (i := 3) sc__law_names.nd rfl (Or.inl rfl))) (fun _ _ _ _ _ => pts_nil)
        (fun _ _ _ _ _ => (show PE _ _ (tBM K "list" rPopAt (tVar 2) _) from pe_bm PySem.F.plainAttrs_list PySem.F.slot_list_pop PySem.F.type_list_pop mt_popAt (pv 2) (pa_cons (pe_call G hr1 rfl fd.g fd.F.kp bd .nil pass0 (pa_cons (pv 0) (pa_cons (pe_callB (show CallR _ (.builtin "len") (rLen K) from call_len) (by rfl) B.n_len (by decide +kernel) (pa_cons (pv 2) pa_nil)) pa_nil))) pa_nil)))) pa_nil)) pa_nil))))), ?_⟩
    refine ⟨by show 11 ≤ sizeLine; decide, fun L hL => ?_⟩
    obtain ⟨cs0, mm0, n0, hd0, hl0, _⟩ := D.ex
    have nLd : L ≠ d := (ne_of_none hd0 hL).symm
    have nLl : L ≠ l := (ne_of_none hl0 hL).symm
    have e0 : Same H (upd H L (.lst (pool.map V.str))) := same_new hL
    refine ⟨_, rfl, (m : Int), rfl, by omega, by omega, fun g hg => ?_⟩
    have nLg : L ≠ g := ne_of_none upd_same hg
    have gH : H g = none := by rw [upd_ne nLg.symm] at hg; exact hg
    have ngd : g ≠ d := (ne_of_none hd0 gH).symm
    have ngl : g ≠ l := (ne_of_none hl0 gH).symm
    have e1 : Same H (upd (upd H L (.lst (pool.map V.str))) g (.lst [])) := same_trans e0 (same_new hg)
    refine lc_range (lo := 0) (n := ((m : Nat) : Int).toNat) (fun i H' => ∃ (left got : List Str), DeckAt H' d l (k + i) ∧ Off d l H H' ∧
        H' L = some (.lst (left.map V.str)) ∧ H' g = some (.lst (got.map V.str)) ∧ (left ++ got).Perm pool ∧ got.length = i)
      ⟨pool, [], D.same e1, Off.of e1, by rw [upd_ne nLg, upd_same]; rfl, upd_same, by rw [List.append_nil], rfl⟩ ?_ ?_
    · rintro i H1 hi ⟨left, got, D1, o1, hL1, hg1, pm, hgl⟩
      have hi2 : i < m := by simpa using hi
      have pl := pm.length_eq
      rw [List.length_append, pool_len] at pl
      refine ⟨rfl, _, rfl, Or.inl ⟨rfl, _, SqL.of hL1⟩, _, rfl, _, rfl, .ref L, left.length, rfl, Or.inl ⟨left.map V.str, SqL.of hL1, by rw [List.length_map]⟩, d, l, (left.length : Int), k + i, rfl, D1, by omega, by omega, by omega, fun j H2 j0 j1 D2 o2 => ?_⟩
      have jl : j.toNat < left.length := by omega
      have hL2 := o2 L _ hL1 nLd nLl
      have hg2 := o2 g _ hg1 ngd ngl
      have hx : (left.map V.str)[j.toNat]? = some (V.str left[j.toNat]) := by rw [List.getElem?_map, List.getElem?_eq_getElem jl]; rfl
      refine ⟨L, left.map V.str, j, j.toNat, _, rfl, rfl, hL2, by omega, by omega, ?_, hx, got.map V.str, by rw [upd_ne nLg.symm]; exact hg2, by rw [List.length_map, sizeLine_eq]; omega, ?_⟩
      · unfold seqIndex?
        have n1 : ¬ j < 0 := by omega
        rw [List.length_map]
        simp [n1, j0, j1]
      · refine ⟨left.eraseIdx j.toNat, got ++ [left[j.toNat]], ?_, ?_, ?_, ?_, ?_, by rw [List.length_append, hgl]; rfl⟩
        · obtain ⟨cs, mm, n, h1, h2, h3⟩ := D2.ex
          exact ⟨cs, mm, n, by rw [upd_ne ngd.symm, upd_ne nLd.symm]; exact h1, by rw [upd_ne ngl.symm, upd_ne nLl.symm]; exact h2, h3.1, h3.2.1, h3.2.2.1, by omega⟩
        · intro b u hb n1 n2
          have z := o2 b u (o1 b u hb n1 n2) n1 n2
          rw [upd_ne (ne_of_none hb gH), upd_ne (ne_of_none hb hL)]
          exact z
        · rw [upd_ne nLg, upd_same, erase_map]
        · rw [upd_same, List.map_append]
          rfl
        · exact (erase_perm jl).trans pm
    · rintro H1 ⟨left, got, D1, o1, hL1, hg1, pm, hgl⟩
      have hm2 : got.length = m := by simpa using hgl
      have nd : got.Nodup := ((pm.nodup_iff).mpr pool_nd).sublist (List.sublist_append_right _ _)
      refine ⟨g, got, rfl, SqL.of hg1, by omega, fun ys p pm2 so hp => ⟨p, ys.map V.str, rfl, .inl ⟨SqL.of upd_same, fun t ht => ?_⟩⟩⟩
      have e2 : Same H1 (upd (upd H1 p (.lst (ys.map V.str))) t (.tup (ys.map V.str))) := same_trans (same_new hp) (same_new ht)
      refine q t ys _ ?_ (D1.same e2 |>.up (by simp)) (o1.trans (Off.of e2)) upd_same (by rw [pm2.length_eq, hm2]) (fun x hx => pm.mem_iff.mp (List.mem_append_right _ (pm2.mem_iff.mp hx))) (sorted_asc so (pm2.nodup_iff.mpr nd))
      exact D1.back o1 ((same_new hp).free ht)
end
end K01
/-! Exceptions of the program's own classes (over Exception, at any depth) as values: made, a field stored and read, isinstance. -/
namespace KX
open PySem PySem.Spec PySem.W PyProof.Rows

abbrev exTl : List Value := [.type "Exception", .type "BaseException", .type "object"]
/-- what the written part says of such a class -/
structure ExC (K : Frag) (C : Addr) : Prop where
  cls : ∃ nm q N bs bm sn sub ab col dd k0 k1 k2 k3 k5, K.lookup C = some (excClassObj nm q C N bs bm true sn sub ab col dd k0 k1 k2 k3 k5 "Exception.__new__") ∧ excTail exTl bm = true
  sa : findIn K (.ref C) "__setattr__" = some (some (.builtin "object.__setattr__"))
  ga : findIn K (.ref C) "__getattribute__" = some (some (.builtin "BaseException.__getattribute__"))
  gg : findIn K (.ref C) "__getattr__" = some none
  bx : subIn K (.ref C) (.type "BaseException") = some true
  kp : keepIn K (.ref C) = true
  hd : hasDictIn K C = true
  cl : findIn K (.ref C) "__class__" = some (some (.builtin "object.__class__"))
  gn : specialIn K (.builtin "object.__class__") "__get__" = some (some (.builtin "getset_descriptor.__get__"))
  tk : takesIn K (.builtin "object.__class__") = some true
  mo : mroIn K C (.type "object") = some true

section
open Builtin Builtin.ObjectAttr
variable {prog : Program} {w : World} {A : Around} {E : Value → Shared → Prop} {R : Result → Shared → Prop} {hp : Heap} {g : Array GenState} {d : Drawn} {t : Nat} {os : OsState}
theorem tail_mro {K : Frag} {C : Addr} {cd : ClassData} {bm : List Value} (hcd : clsIn K C = some cd) (hm : cd.mro = .ref C :: bm) (ht : excTail exTl bm = true) : mroIn K C (.type "object") = some true := by
  have q : (Value.ref C :: bm).contains (.type "object") = true := by
    rw [List.contains_cons, excTail_contains "object" bm ht, show exTl.contains (.type "object") = true from by decide +kernel, Bool.or_true]
  unfold mroIn
  rw [hcd, Option.bind_some, hm, if_neg (by simp), q]
/-- self.name = v on an exception that has no dict as yet -/
theorem first_store {K : Frag} {name : Str} {tk : Tok} {v : Value} {x C : Addr} {fv : Array Value} {cd : ClassData} {bm : List Value}
    (X : K.In hp) (hx : hp.get? x = some { cls := .ref C, data := .fields fv }) (hcd : clsIn K C = some cd) (hm : cd.mro = .ref C :: bm) (ht : excTail exTl bm = true) (hh : cd.hasDict = true) (ha : findIn K (.ref C) name = some none)
    (hq : ∀ h' tk' dx, (∀ b o, b ≠ x → hp.get? b = some o → h'.get? b = some o) → hp.objs.size ≤ dx → dx ≠ x → h'.get? x = some { cls := .ref C, dict := some dx, data := .fields fv } →
      h'.Ns1 dx (fun y => if y = name then some v else none) → R (.ok (.ret .none)) ⟨h', g, d, tk', os⟩) :
    codeAny (model prog w) A (.call (.builtin "object.__setattr__") ⟨[.ref x, .str name tk, v], []⟩) R ⟨hp, g, d, t, os⟩ := by
  have J : InstAt hp x { cls := .ref C, data := .fields fv } C none := ⟨hx, rfl, rfl, trivial⟩
  have ne : x ≠ hp.objs.size := Nat.ne_of_lt (Heap.lt_size hx)
  have isO : Looks (model prog w) hp (isInstance (.ref x) (.type "object")) true := J.type.andThen (looks_mroIn X (tail_mro hcd hm ht))
  have S := F.store_object
  have pass : refuseLoop (.ref x) "__setattr__" cd.mro = pure () := by
    rw [hm, refuseLoop_ref]
    exact excTail_pass _ (F.store_Exception.passes _) bm ht
  have lm : Looks (model prog w) hp (mroOf (.ref C)) cd.mro := (looks_clsIn X hcd).andThen .now
  have lt : Looks (model prog w) hp (storeTaker? none) none := .now
  have lc : Looks (model prog w) hp (classData C) cd := looks_clsIn X hcd
  refine codeAny_call_builtin S.slot.plain S.entry (@check_slot (model prog w) _ _ ⟨hp, g, d, t, os⟩ "object.__setattr__" "object" "__setattr__" (.ref x) [.str name tk, v] [] _ S.kind S.split isO (S.args (.ref x) (.str name tk) v) ?_)
  rw [osa_eq, refuse_eq]
  apply wpAny_bind
  apply wpAny_bind
  apply J.type.at
  apply wpAny_bind
  apply lm.at
  rw [pass]
  apply wpAny_pure
  apply wpAny_bind
  apply J.type.at
  apply wpAny_bind
  apply (looks_findIn X ha).at
  apply wpAny_bind
  apply lt.at
  show wpAny _ _ (storeInOwnDict (.ref x) (.ref C) (.str name tk) name v false) _ _ _
  obtain ⟨nm, bs, mro, ns, qn, hd, sn, sb, ab, col, del⟩ := cd
  have hh' : hd = true := hh
  subst hh'
  unfold storeInOwnDict ownDictForStores
  repeat (first | with_reducible apply HandSPX.store_in_new | with_reducible apply wpAny_loadPart_at hx | with_reducible apply lc.at | wp_step)
  · exact ⟨_, #[], _, (Heap.get?_update_ne _ _ _ _ ne.symm).trans (Heap.get?_push_at rfl rfl), rfl, fun e he => absurd he (by simp), fun _ => rfl⟩
  · intro h' tk' hn' hs
    have hx1 : (hp.push { cls := .type "dict", data := .dict #[] }).get? x = some { cls := .ref C, data := .fields fv } := Heap.get?_push_of_some _ hx
    exact hq h' tk' hp.objs.size (fun b o hb ho => (hs.2 b (Nat.ne_of_lt (Heap.lt_size ho))).trans ((Heap.get?_update_ne _ _ _ _ hb).trans (Heap.get?_push_of_some _ ho))) (Nat.le_refl _) ne.symm
      ((hs.2 x ne).trans (Heap.get?_update_self _ hx1 rfl)) hn'
end

open L2 KG
section
variable {X : Cx} {pins : List (Addr × Obj)} {σ : L2.St} {H : Hp} {s : Shared} {a C : Addr} {f : Str} {y : V} {u : Value} {fs : List (Str × V)}
/-- an exception of the class at C with the fields fs, made -/
def ExAt (H : Hp) (a C : Addr) (fs : List (Str × V)) : Prop := (∃ dx, H a = some (exo a C (some dx)) ∧ H dx = some (exd dx fs)) ∨ (fs = [] ∧ H a = some (exo a C none))
theorem ExAt.keep {H' : Hp} (x : ExAt H a C fs) (e : Same H H') : ExAt H' a C fs := by
  rcases x with ⟨dx, h1, h2⟩ | ⟨h0, h1⟩
  · exact .inl ⟨dx, e _ _ h1, e _ _ h2⟩
  · exact .inr ⟨h0, e _ _ h1⟩
theorem set_first {Q : Unit → Shared → Prop} {E : Value → Shared → Prop} {A : Around} (T : ExC X.K C) (I : Inv X pins σ H s) (e : H a = some (exo a C none)) (hno : findIn X.K (.ref C) f = some none) (ry : RelV y u)
    (h : ∀ dx s', H dx = none → dx ≠ a → Inv X pins σ (upd (upd H dx (exd dx [(f, y)])) a (exo a C (some dx))) s' → Q () s') : wpAny (model X.prog X.w) A (setAttr (.ref a) f u) Q E s := by
  obtain ⟨nm, q, N, bs, bm, sn, sub, ab, col, dd, k0, k1, k2, k3, k5, hC, hbm⟩ := T.cls
  have hcl : clsIn X.K C = some { name := nm, bases := bs, mro := .ref C :: bm, ns := N, qualname := q, hasDict := true, slotNames := sn, subclasses := sub, abstract := ab, collection := col, hasDel := false } := by
    unfold clsIn
    rw [hC]
    all_goals rfl
  obtain ⟨t1, ho⟩ := exo_at I.hok e
  obtain ⟨hp, g, dr, tk, os⟩ := s
  apply set_plain I.kIn (ox := { cls := .ref C, dict := none, data := .fields #[.ref t1, .none, .none, .none, .bool false, .none] }) (od := none) ⟨ho, rfl, rfl, trivial⟩ T.sa
  apply first_store I.kIn ho hcl rfl hbm rfl hno
  intro h' tk' dx kp dn dne hx hn
  have fr : H dx = none := I.hok.fresh dn
  have ndx : ∀ {b : Addr} {o : Obj}, hp.get? b = some o → b ≠ dx := fun {b o} q => Nat.ne_of_lt (Nat.lt_of_lt_of_le (Heap.lt_size q) dn)
  have nda : ∀ {b : Addr}, H b = none → b ≠ a := fun {b} n z => by rw [z, e] at n; cases n
  have there : ∀ b o, hp.get? b = some o → ∃ o', h'.get? b = some o' := fun b o q => by
    by_cases hb : b = a
    · rw [hb]; exact ⟨_, hx⟩
    · exact ⟨o, kp b o hb q⟩
  have stay : ∀ {b : Addr} {o : HO}, H b = some o → o ≠ exo a C none → upd (upd H dx (exd dx [(f, y)])) a (exo a C (some dx)) b = some o := fun {b o} q z => by
    have h1 : b ≠ a := fun w => by rw [w, e] at q; exact z (Option.some.inj q).symm
    rw [upd_ne h1, upd_ne (ne_of_none q fr)]
    exact q
  have U : Un X.fs [] H (upd (upd H dx (exd dx [(f, y)])) a (exo a C (some dx))) hp h' :=
    ⟨fun b o q n _ _ => kp b o (nda n) q, fun b o q n _ _ => ⟨o.slots, kp b o (nda n) q⟩, fun b o q n _ => by rw [upd_ne (nda n), upd_ne (ndx q)]; exact n, fun b o q _ => there b o q,
      fun b xs q => stay q exo_tup.symm, fun b o v q => stay q exo_frz.symm, fun b ps q => ⟨#[], by rw [stay q exo_tbl.symm]; simp⟩⟩
  have ok : HOk X.prog X.w (upd (upd H dx (exd dx [(f, y)])) a (exo a C (some dx))) h' := fun b o q => by
    by_cases hb : b = a
    · subst hb
      rw [upd_same] at q
      obtain rfl := Option.some.inj q
      exact exo_ok hx
    · rw [upd_ne hb] at q
      by_cases hd : b = dx
      · subst hd
        rw [upd_same] at q
        obtain rfl := Option.some.inj q
        exact exd_ok hn (relO_put (fs := []) ry fun g => True.intro)
      · rw [upd_ne hd] at q
        refine (I.hok b o q).stay (fun c v hc z => kp c v ?_ z) (fun c hc => stay hc exo_own.symm) (fun c xs hc => stay hc exo_tup.symm)
        rcases hc with hc | hc
        · rw [hc]; exact hb
        · exact fun w => by rw [w, e] at hc; exact exo_own (Option.some.inj hc)
  exact h dx _ fr dne (I.un (t' := tk') U ok)

/-- self.f = e, the first field of an exception that is being made -/
def tExSet (K : Frag) (f : Str) (to te : TE) : TS := fun D σ H => te σ H fun y H1 => to σ H1 fun x H2 => ∃ a C : Addr, x = .ref a ∧ ExC K C ∧ findIn K (.ref C) f = some none ∧ H2 a = some (exo a C none) ∧
  ∀ dx, H2 dx = none → dx ≠ a → D.nx σ (upd (upd H2 dx (exd dx [(f, y)])) a (exo a C (some dx)))
theorem ps_exset {o e : Expr} {to te : TE} {p p2 : Pos} (ho : PE X o to) (he : PE X e te) (hs : swapsWith e (some (.Attribute o f p)) p2.line X.env = pure false := by rfl) : PS X (.Assign [.Attribute o f p] e p2) (tExSet X.K f to te) := by
  constructor
  intro pins s σ H D I h
  apply plainObj_wpAny_Assign_Attribute (hs := hs)
  apply thn (he.run pins s σ H _ I h)
  rintro v s1 ⟨y, H1, I1, r1, q1⟩
  apply thn (ho.run pins s1 σ H1 _ I1 q1)
  rintro u s2 ⟨x, H2, I2, r2, a, C, ex, T, hno, ea, q⟩
  subst ex
  obtain rfl : u = Value.ref a := r2
  exact set_first T I2 ea hno r1 fun dx s' n ne J => ⟨σ, _, J, q dx n ne⟩

/-! ### C(e): the exception, its own __init__ keeping sp -/
def tExMk (C : Addr) (sp : Sp) (ta : TA) : TE := fun σ H Q => ta σ H fun vs H1 => vs.length ≤ 1000 ∧ ∀ a, H1 a = none → sp (.ref a :: vs) (upd H1 a (exo a C none)) (fun v H2 => v = .non ∧ Q (.ref a) H2) E0
theorem run_exmk {CX : CXT} {fI : Addr} {k : Nat} {fd : FuncData} {ps : List Str} {sp : Sp} {Q : VK} {us : List Value} {vs : List V} (T : ExC X.K C) (iC : findIn X.K (.ref C) "__init__" = some (some (.ref fI))) (tI : typeIn X.K (.ref fI) = some (.type "function"))
    (F1 : FnOk X.prog X.w X.K X.mg X.base CX k fI fd ps sp) (hr : Room (k + 1) X.A) (hb : L2.Binds X.K fd ps []) (hx : Passes CX X E0) (I : Inv X pins σ H s) (r : Vals vs us) (hl : vs.length ≤ 1000)
    (h : ∀ a, H a = none → sp (.ref a :: vs) (upd H a (exo a C none)) (fun v H2 => v = .non ∧ Q (.ref a) H2) E0) : wpAny (model X.prog X.w) X.A (call (.ref C) us) (EP X pins σ Q) X.xe s := by
  obtain ⟨nm, q, N, bs, bm, sn, sub, ab, col, dd, k0, k1, k2, k3, k5, hC, hbm⟩ := T.cls
  obtain ⟨hp, g, dr, tk, os⟩ := s
  have hz : us.length ≤ sizeLine := by
    rw [← Paired.length r, sizeLine_eq]
    omega
  have new : hp.objs.size ≤ hp.objs.size + 1 := Nat.le_succ _
  have kp : ∀ b o, hp.get? b = some o → ((hp.push (kdv_tup us)).push (HandSPX.excO C hp.objs.size)).get? b = some o := fun b o e => Heap.get?_push_of_some _ (Heap.get?_push_of_some _ e)
  have at_ : ((hp.push (kdv_tup us)).push (HandSPX.excO C hp.objs.size)).get? (hp.objs.size + 1) = some (HandSPX.excO C hp.objs.size) := by heap_get
  have J : Inv X pins σ (upd H (hp.objs.size + 1) (exo (hp.objs.size + 1) C none)) ⟨(hp.push (kdv_tup us)).push (HandSPX.excO C hp.objs.size), g, dr, tk, os⟩ :=
    I.laid (a := hp.objs.size + 1) (o := exo (hp.objs.size + 1) C none) (h' := (hp.push (kdv_tup us)).push (HandSPX.excO C hp.objs.size)) (t' := tk) kp new (exo_ok at_)
  have hq := h (hp.objs.size + 1) (I.hok.fresh new)
  have r2 : Vals (V.ref (hp.objs.size + 1) :: vs) (Value.ref (hp.objs.size + 1) :: us) := .cons rfl r
  have len : ((Value.ref (hp.objs.size + 1) :: us) ++ []).length = ps.length := by
    rw [List.append_nil, ← F1.len _ _ _ _ hq]
    exact (Paired.length r2).symm
  have bnd := hb ⟨(hp.push (kdv_tup us)).push (HandSPX.excO C hp.objs.size), g, dr, tk, os⟩ (Value.ref (hp.objs.size + 1) :: us) J.kIn len
  rw [List.append_nil] at bnd
  apply wpAny_call
  apply HandSPX.call_own PySem.F.excBase_Exception (fun Y => excTail_contains Y bm hbm) (I.kIn _ _ hC) (looks_findIn I.kIn iC) (fun self => bind_fn I.kIn self tI) hz
  refine codeAny_mono (F1.run _ X.stack _ _ ⟨Value.ref (hp.objs.size + 1) :: us, []⟩ (Value.ref (hp.objs.size + 1) :: us) _ _ E0 (hr.make C us []) (J.env0.make C us []) bnd r2 hq) ?_
  rintro (er | fl) s' z
  · exact hx pins σ _ _ er s' J z
  · cases fl with
    | ret u =>
      obtain ⟨v, H', I3, rv, ev, q3⟩ := Inv.after J z
      subst ev
      exact ⟨rv, ⟨V.ref (hp.objs.size + 1), H', I3, rfl, q3⟩⟩
    | next => exact z.elim
    | brk => exact z.elim
    | cont => exact z.elim
theorem pe_exmk {CX : CXT} {x : Str} {fI : Addr} {k : Nat} {fd : FuncData} {ps : List Str} {sp : Sp} {e : Expr} {es : List Expr} {ta : TA} {p pos : Pos} (T : ExC X.K C) (iC : findIn X.K (.ref C) "__init__" = some (some (.ref fI))) (tI : typeIn X.K (.ref fI) = some (.type "function"))
    (F1 : FnOk X.prog X.w X.K X.mg X.base CX k fI fd ps sp) (hr : Room (k + 1) X.A) (hb : L2.Binds X.K fd ps []) (hx : Passes CX X E0) (hg : Gl X x) (hm : X.mg x = some (.ref C)) (ha : PA X (e :: es) ta) (hdb : (x == ("__debug__" : Str)) = false := by decide)
    (he : starEach (e :: es) X.env = (false, eval e X.env) :: starEach es X.env := by rfl) (hpl : (backTo pos (starEach es X.env)).any (·.1) = false := by rfl) :
    PE X (.Call (.Name x p) (e :: es) [] pos) (tExMk C sp ta) := by
  constructor
  intro pins s σ H Q I h
  apply wpAny_Call_Name_kw (ld_glob I hg hm ?_ hdb)
  apply callWith_K (h₀ := X.base) I.ok.mod.kin T.kp ?_ he hpl
  apply thn (ha.run pos pins s σ H _ I h)
  rintro us s1 ⟨vs, H1, I1, r, hl, q⟩
  exact ⟨I1.kIn, run_exmk T iC tI F1 hr hb hx I1 r hl q⟩
end
end KX
/-! Votes: what stands on the heap, all tuples of so many values. -/
namespace K01
open PySem PySem.Spec PyProof.Rows L2 KG KS KA KX KTc KFz
def inCls (i j : Nat) : Stmt := match top i with
  | .ClassDef _ _ _ body _ _ _ _ _ _ _ => body.getD j (.Pass ⟨0, 0, 0, 0⟩)
  | s => s
theorem lc_zipT {K : PySem.W.Frag} {a b : Addr} {xs ys : List V} {g : TG} {tt : TT} {te : TE} {vs : List Nat} {σ : L2.St} {H1 : Hp} {D : Addr} {Qd : Hp → Prop} (hl : xs.length = ys.length) (Pv : Nat → Hp → Prop) (h0 : Pv 0 (upd H1 D (.lst []))) (hq : ∀ i H, Pv i H → SqT K H a xs ∧ SqT K H b ys)
    (hs : ∀ i x y T H, xs[i]? = some x → ys[i]? = some y → Pv i H → H T = none → g (.ref T) (wipe σ vs) (upd H T (.tup [x, y])) fun σ2 H2 => wipe σ2 vs = wipe σ vs ∧ tt σ2 H2 fun b H3 =>
      if b = true then te σ2 H3 fun y H4 => ∃ acc, H4 D = some (.lst acc) ∧ acc.length < sizeLine ∧ Pv (i + 1) (upd H4 D (.lst (acc ++ [y]))) else Pv (i + 1) H3) (hd : ∀ H, Pv xs.length H → Qd H) :
    ∃ W : Nat → Nat → Hp → Prop, (∃ m, W 0 m (upd H1 D (.lst []))) ∧ ∀ i m H, W i m H →
      ((RZ.ItzT K a b).stop i H ∧ Qd H) ∨ ((RZ.ItzT K a b).go i H ∧ ∃ Nx : Hp → Prop, (∀ H', Nx H' → ∃ m', m' < m ∧ W (i + 1) m' H') ∧ ∀ x H', (RZ.ItzT K a b).yld i H x H' → g x (wipe σ vs) H' fun σ2 H2 => wipe σ2 vs = wipe σ vs ∧ tt σ2 H2 fun b H3 =>
        if b = true then te σ2 H3 fun y H4 => ∃ acc, H4 D = some (.lst acc) ∧ acc.length < sizeLine ∧ Nx (upd H4 D (.lst (acc ++ [y]))) else Nx H3) := by
  refine ⟨fun i m H => m = xs.length - i ∧ i ≤ xs.length ∧ Pv i H, ⟨xs.length, by simp, Nat.zero_le _, h0⟩, ?_⟩
  rintro i m H ⟨rfl, hi, p⟩
  obtain ⟨q1, q2⟩ := hq i H p
  by_cases hlt : i < xs.length
  · have hlt2 : i < ys.length := by omega
    refine .inr ⟨⟨xs, ys, xs[i], ys[i], q1, q2, by simp [hlt], by simp [hlt2]⟩, Pv (i + 1), fun H' p' => ⟨xs.length - (i + 1), by omega, rfl, hlt, p'⟩, fun v H' y => ?_⟩
    obtain ⟨T, x, y, rfl, hT, rfl, hx, hy⟩ := y
    exact hs i x y T H (hx xs q1) (hy ys q2) p hT
  · have e : i = xs.length := by omega
    subst e
    exact .inl ⟨⟨xs, ys, q1, q2, .inl (Nat.le_refl _)⟩, hd H p⟩
structure MtF (K : PySem.W.Frag) (name qual : Str) (st : Stmt) where
  a : Addr
  d : FuncData
  F : Fun K name qual st a d
theorem ps_dead {X : Cx} {st : Stmt} : PS X st (fun _ _ _ => False) := ⟨fun _ _ _ _ _ _ h => h.elim⟩
abbrev s_vtInit : Stmt := inCls 19 0
abbrev s_vtMid : Stmt := inCls 19 1
abbrev s_vtEq : Stmt := inCls 19 2
abbrev s_vtCall : Stmt := inCls 19 3
abbrev s_vtRows : Stmt := inCls 19 4
/-- the facts of Vote -/
structure VtC (K : PySem.W.Frag) (mg : Str → Option Value) (f : Addr) where
  C : Addr
  g : mg "Vote" = some (.ref C)
  cl : Cls K C
  made : Mk K C f
  nd : NoAttr K C "domain"
  nn : NoAttr K C "count"
  nr : NoAttr K C "results"
  no : NoAttr K C "result_of"
/-- what heaps keep but for the object at x -/
def ButO (x : Addr) (H H' : Hp) : Prop := ∀ b o, H b = some o → b ≠ x → H' b = some o
theorem ButO.of {x : Addr} {H H' : Hp} (e : Same H H') : ButO x H H' := fun b o h _ => e b o h
theorem ButO.put {x : Addr} {H H1 : Hp} {o : HO} (e : ButO x H H1) : ButO x H (upd H1 x o) := fun b u h z => by
  rw [upd_ne z]
  exact e b u h z
theorem ButO.then {x : Addr} {H H1 H2 : Hp} (e : ButO x H H1) (f : Same H1 H2) : ButO x H H2 := fun b u h z => f _ _ (e b u h z)
theorem ButO.fresh {x : Addr} {H H1 H2 : Hp} (hx : H x = none) (e : Same H H1) (f : ButO x H1 H2) : Same H H2 := fun b o h => f b o (e _ _ h) fun z => by
  rw [z, hx] at h
  cases h
abbrev vtFs (d : Addr) (n : Int) (r t : Addr) : List (Str × V) := [("domain", .ref d), ("count", .int n), ("results", .ref r), ("result_of", .ref t)]
/-- all tuples of so many values -/
def ptsL (k : Nat) (xs : List Str) : List (List Str) := prods (List.replicate k xs)
/-- values, a number and results that go together -/
structure VGood (xs : List Str) (k : Nat) (rs : List Str) : Prop where
  asc : AscT xs
  ok : ∀ x ∈ xs, nameOk x = true
  l1 : 1 ≤ xs.length
  l3 : xs.length ≤ 3
  hk : k = 3 ∨ k = 4
  len : rs.length = (ptsL k xs).length
  sub : ∀ x ∈ rs, x ∈ xs
  win : ∀ p ∈ (ptsL k xs).zip rs, winS p.1 = none ∨ winS p.1 = some p.2
/-- a vote on the heap, beside what stands at x itself -/
structure VtIn (H : Hp) (d r t : Addr) (xs : List Str) (k : Nat) (rs : List Str) : Prop where
  ex : ∃ ks : List (Addr × List Str), H d = some (.tup (xs.map V.str)) ∧ H r = some (.tup (rs.map V.str)) ∧ H t = some (.dT (KDz.dtOf ks (rs.map V.str))) ∧ ks.map (·.2) = ptsL k xs
/-- the names dict and zip -/
structure Bz (mg : Str → Option Value) : Prop extends Bs mg where
  n_dict : mg "dict" = none
  n_zip : mg "zip" = none
structure VtF (K : PySem.W.Frag) (mg : Str → Option Value) where
  dom : FnF K mg "is_domain" "is_domain" s_is_domain
  nms : FnF K mg "are_names" "are_names" s_are_names
  nm : FnF K mg "is_name" "is_name" s_is_name
  asc : FnF K mg "ascending" "ascending" s_ascending
  row : FnF K mg "is_row" "is_row" s_is_row
  all : FnF K mg "all_rows" "all_rows" s_all_rows
  win : FnF K mg "winner" "winner" s_winner
  wo : FnF K mg "without" "without" s_without
theorem pts_len (xs : List Str) : ∀ k, (prods (List.replicate k xs)).length = xs.length ^ k
  | 0 => rfl
  | k + 1 => by
    unfold prods
    rw [List.replicate_succ', List.foldl_append]
    show (step (prods (List.replicate k xs)) xs).length = _
    rw [step_len, pts_len xs k, Nat.pow_succ]
theorem pts_wid (xs : List Str) : ∀ k, ∀ r ∈ prods (List.replicate k xs), r.length = k
  | 0, r, h => by
    rw [List.mem_singleton.mp h]
    rfl
  | k + 1, r, h => by
    unfold prods at h
    rw [List.replicate_succ', List.foldl_append] at h
    obtain ⟨q, hq, h2⟩ := List.mem_flatMap.mp (show r ∈ step (prods (List.replicate k xs)) xs from h)
    obtain ⟨c, _, rfl⟩ := List.mem_map.mp h2
    rw [List.length_append, pts_wid xs k q hq]
    rfl
theorem pts_nodup {xs : List Str} (hx : xs.Nodup) : ∀ k, (prods (List.replicate k xs)).Nodup
  | 0 => by
    show ([[]] : List (List Str)).Nodup
    simp
  | k + 1 => by
    have ih := pts_nodup hx k
    unfold prods
    rw [List.replicate_succ', List.foldl_append]
    show (step (prods (List.replicate k xs)) xs).Nodup
    refine List.pairwise_flatMap.mpr ⟨fun r _ => List.pairwise_map.mpr (hx.imp fun {a b} ne z => ne ?_), ih.imp fun {r q} ne x hx y hy z => ne ?_⟩
    · exact List.cons.inj (List.append_cancel_left z) |>.1
    · obtain ⟨c, _, rfl⟩ := List.mem_map.mp hx
      obtain ⟨d, _, rfl⟩ := List.mem_map.mp hy
      exact (List.append_inj' z rfl).1
theorem pts_few {xs : List Str} (h : xs.length ≤ 3) {k : Nat} (hk : k ≤ 4) (i : Nat) : (prods ((List.replicate k xs).take i)).length ≤ 100 := by
  rw [List.take_replicate, pts_len]
  calc xs.length ^ min i k ≤ 3 ^ min i k := Nat.pow_le_pow_left h _
    _ ≤ 3 ^ 4 := Nat.pow_le_pow_right (by decide) (by omega)
    _ ≤ 100 := by decide
theorem flat_rep {α : Type} {x : α} : ∀ k : Nat, (List.replicate k [x]).flatten = List.replicate k x
  | 0 => rfl
  | k + 1 => by
    rw [List.replicate_succ, List.flatten_cons, flat_rep k, List.replicate_succ]
    rfl
theorem rows_rep {H : Hp} {d : Addr} {xs : List Str} (h : H d = some (.tup (xs.map V.str))) : ∀ k : Nat, RowsAt H ((List.replicate k d).map V.ref) (List.replicate k xs)
  | 0 => .nil
  | k + 1 => .cons ⟨d, rfl, h⟩ (rows_rep h k)
/-- rows and their addresses -/
theorem rows_frz {H0 H : Hp} : ∀ {vs : List V} {R : List (List Str)}, RowsF H0 H vs R → ∃ ks : List (Addr × List Str), vs = ks.map (fun p => V.ref p.1) ∧ ks.map (·.2) = R ∧ ∀ p ∈ ks, H0 p.1 = none ∧ Fz H p.1 (p.2.map V.str)
  | _, _, .nil => ⟨[], rfl, rfl, fun _ z => nomatch z⟩
  | _, _, .cons (b := r) ⟨a, e1, e0, e2⟩ t => by
    obtain ⟨ks, h1, h2, h3⟩ := rows_frz t
    refine ⟨(a, r) :: ks, by rw [List.map_cons, e1, h1], by rw [List.map_cons, h2], fun p hp => ?_⟩
    rcases List.mem_cons.mp hp with rfl | hp
    · exact ⟨e0, e2⟩
    · exact h3 p hp
/-- these are tuples again -/
def thawN (ks : List (Addr × List Str)) (H : Hp) : Hp := fun b => match ks.find? (fun p => p.1 == b) with
  | some p => some (.tup (p.2.map V.str))
  | none => H b
theorem str_map_inj {a b : List Str} (h : a.map V.str = b.map V.str) : a = b := (List.map_inj_right fun _ _ z => V.str.inj z).mp h
theorem thawN_at {ks : List (Addr × List Str)} {H : Hp} (h : ∀ p ∈ ks, Fz H p.1 (p.2.map V.str)) : ∀ p ∈ ks, thawN ks H p.1 = some (.tup (p.2.map V.str)) := fun p hp => by
  unfold thawN
  cases e : ks.find? (fun q => q.1 == p.1) with
  | none =>
    have z := List.find?_eq_none.mp e p hp
    exact absurd (beq_self_eq_true p.1) z
  | some q =>
    have m := List.mem_of_find?_eq_some e
    have ea : q.1 = p.1 := beq_iff_eq.mp (by simpa using List.find?_some e)
    obtain ⟨o1, h1, _⟩ := h p hp
    obtain ⟨o2, h2, _⟩ := h q m
    rw [ea, h1] at h2
    have z := Option.some.inj h2
    injection z with _ z2
    injection z2 with z3
    show some (HO.tup (q.2.map V.str)) = _
    rw [z3]
theorem thawN_off {ks : List (Addr × List Str)} {H : Hp} (h : ∀ p ∈ ks, Fz H p.1 (p.2.map V.str)) {b : Addr} {u : HO} (hb : H b = some u) (n : ∀ o v, u ≠ .frz o v) : thawN ks H b = some u := by
  unfold thawN
  cases e : ks.find? (fun q => q.1 == b) with
  | none => exact hb
  | some q =>
    have m := List.mem_of_find?_eq_some e
    have ea : q.1 = b := beq_iff_eq.mp (by simpa using List.find?_some e)
    obtain ⟨o2, h2, _⟩ := h q m
    rw [ea, hb] at h2
    exact absurd (Option.some.inj h2) (n _ _)
theorem thawN_none {ks : List (Addr × List Str)} {H : Hp} {b : Addr} (h : thawN ks H b = none) : H b = none := by
  unfold thawN at h
  cases e : ks.find? (fun q => q.1 == b) with
  | none =>
    rw [e] at h
    exact h
  | some q =>
    rw [e] at h
    cases h
theorem thawN_ok {X : Cx} {ks : List (Addr × List Str)} {H : Hp} (h : ∀ p ∈ ks, X.H_0 p.1 = none ∧ Fz H p.1 (p.2.map V.str)) : Thaw X H (thawN ks H) := fun b => by
  unfold thawN
  cases e : ks.find? (fun q => q.1 == b) with
  | none => exact .inl rfl
  | some q =>
    have m := List.mem_of_find?_eq_some e
    have ea : q.1 = b := beq_iff_eq.mp (by simpa using List.find?_some e)
    obtain ⟨n, o, h2, _⟩ := h q m
    rw [ea] at n h2
    exact .inr ⟨n, o, _, h2, rfl⟩
theorem pts_sub {xs : List Str} : ∀ (k : Nat), ∀ g ∈ ptsL k xs, ∀ y ∈ g, y ∈ xs
  | 0, g, h, y, hy => by
    rw [List.mem_singleton.mp h] at hy
    cases hy
  | k + 1, g, h, y, hy => by
    unfold ptsL prods at h
    rw [List.replicate_succ', List.foldl_append] at h
    obtain ⟨q, hq, h2⟩ := List.mem_flatMap.mp (show g ∈ step (prods (List.replicate k xs)) xs from h)
    obtain ⟨c, hc, rfl⟩ := List.mem_map.mp h2
    rcases List.mem_append.mp hy with z | z
    · exact pts_sub k q hq y z
    · rw [List.mem_singleton.mp z]
      exact hc
end K01
/-! raise C(e), C an own class two deep over Exception, with its own __init__. -/
namespace KQ
open PySem PySem.Spec PySem.W PyProof.Rows PySem.Calls L2 KG KX
section
variable {X : Cx} {CX : CXT} {e : Expr} {es : List Expr} {p pos : Pos} {ta : TA}
theorem pmk_ex {x : Str} {C fI : Addr} {k : Nat} {fd : FuncData} {ps : List Str} {sp : Sp} (T : ExC X.K C) (ty : typeIn X.K (.ref C) = some (.type "type")) (iC : findIn X.K (.ref C) "__init__" = some (some (.ref fI)))
    (tI : typeIn X.K (.ref fI) = some (.type "function")) (F1 : FnOk X.prog X.w X.K X.mg X.base CX k fI fd ps sp) (hr : Room (k + 1) X.A) (hb : L2.Binds X.K fd ps []) (hx : Passes CX X (fun _ _ _ => False)) (hg : Gl X x) (hm : X.mg x = some (.ref C))
    (ha : PA X (e :: es) ta) (hdb : (x == ("__debug__" : Str)) = false := by decide) (he : starEach (e :: es) X.env = (false, eval e X.env) :: starEach es X.env := by rfl) (hpl : (backTo pos (starEach es X.env)).any (·.1) = false := by rfl) :
    PMk X (.Call (.Name x p) (e :: es) [] pos) (tMkO C sp [] ta) := by
  intro pins s σ H Q I h
  obtain ⟨nm, q, N, bs, bm, sn, sub, ab, col, dd, k0, k1, k2, k3, k5, hC, hbm⟩ := T.cls
  apply wpAny_Call_Name_kw (ld_glob I hg hm ?_ hdb)
  apply callWith_K (h₀ := X.base) I.ok.mod.kin T.kp ?_ he hpl
  apply thn (ha.run pos pins s σ H _ I h)
  rintro us s1 ⟨vs, H1, I1, r, hl, q1⟩
  refine ⟨I1.kIn, ?_⟩
  show wpAny _ _ (call (.ref C) us) _ _ _
  obtain ⟨hp, g, dr, tk, os⟩ := s1
  have new : hp.objs.size ≤ hp.objs.size + 1 := Nat.le_succ _
  have kp : ∀ b o, hp.get? b = some o → ((hp.push (kdv_tup us)).push (HandSPX.excO C hp.objs.size)).get? b = some o := fun b o z => Heap.get?_push_of_some _ (Heap.get?_push_of_some _ z)
  have at_ : ((hp.push (kdv_tup us)).push (HandSPX.excO C hp.objs.size)).get? (hp.objs.size + 1) = some (HandSPX.excO C hp.objs.size) := by heap_get
  have J : Inv X pins σ (upd H1 (hp.objs.size + 1) (exo (hp.objs.size + 1) C none)) ⟨(hp.push (kdv_tup us)).push (HandSPX.excO C hp.objs.size), g, dr, tk, os⟩ :=
    I1.laid (a := hp.objs.size + 1) (o := exo (hp.objs.size + 1) C none) (h' := (hp.push (kdv_tup us)).push (HandSPX.excO C hp.objs.size)) (t' := tk) kp new (exo_ok at_)
  have hq := q1 (hp.objs.size + 1) (I1.hok.fresh new)
  have r2 : Vals (V.ref (hp.objs.size + 1) :: (vs ++ [])) (Value.ref (hp.objs.size + 1) :: us) := by
    rw [List.append_nil]
    exact .cons rfl r
  have len : ((Value.ref (hp.objs.size + 1) :: us) ++ []).length = ps.length := by
    rw [List.append_nil]
    have z := r2.length
    rw [F1.len _ _ _ _ hq] at z
    exact z.symm
  have bnd := hb ⟨(hp.push (kdv_tup us)).push (HandSPX.excO C hp.objs.size), g, dr, tk, os⟩ (Value.ref (hp.objs.size + 1) :: us) J.kIn len
  rw [List.append_nil] at bnd
  have hz : us.length ≤ sizeLine := by
    rw [← Paired.length r, sizeLine_eq]
    omega
  apply wpAny_call
  apply HandSPX.call_own PySem.F.excBase_Exception (fun Y => excTail_contains Y bm hbm) (I1.kIn _ _ hC) (looks_findIn I1.kIn iC) (fun self => bind_fn I1.kIn self tI) hz
  refine codeAny_mono (F1.run _ X.stack _ _ ⟨Value.ref (hp.objs.size + 1) :: us, []⟩ (Value.ref (hp.objs.size + 1) :: us) _ _ (fun _ _ _ => False) (hr.make C us []) (J.env0.make C us []) bnd r2 hq) ?_
  rintro (er | fl) s' z
  · exact hx pins σ _ _ er s' J z
  · cases fl with
    | ret u =>
      obtain ⟨v, H2, os2, bare2, un2, hok2, rv, ev, d, fs, ea, ed, hd1, q2⟩ := z
      subst ev
      obtain ⟨h2, g2, d2, t2, os3⟩ := s'
      exact ⟨rv, mk_end (raises_own T.bx ty) I1 new kp un2 hok2 os2 bare2 ea ed hd1 q2⟩
    | next => exact z.elim
    | brk => exact z.elim
    | cont => exact z.elim
end
end KQ
/-! try .. except X as n: .. except Y: .., where what is raised is always an X. -/
namespace KTr
open PySem PySem.Spec PyProof.Rows L2
/-- what the first clause wishes; the later ones are never asked -/
def wFst (K : PySem.W.Frag) (c : Value) (i : Nat) (ts : Addr → Value → Option Addr → TS) (D : Ends) : WX := fun cls d σ H => PySem.W.exmOne K cls c = some true ∧
  ∀ a, H a = none → ts a cls d ⟨fun σ' H' => D.nx (σ'.set i none) H', D.rt, fun σ' H' => D.bk (σ'.set i none) H', fun σ' H' => D.ct (σ'.set i none) H'⟩ (σ.set i (some (.ref a))) H
section
variable {X : Cx} {x n : Str} {c : Value} {i : Nat} {body suite : List Stmt} {b0 : Stmt} {np pos p1 : Pos} {more : List ExceptHandler} {tb : WX → TS} {ts : Addr → Value → Option Addr → TS}
theorem ps_tryFst (st : X.stack = X.env :: X.outer) (fr : X.env.frame = some X.env.locals) (nd : X.N.Nodup) (ix : X.N[i]? = some n) (kd : X.env.kindOf n = some .local) (nm : Names X x c)
    (hb : ∀ (W : WX) (pn : List (Addr × Obj)) (xe : Value → Shared → Prop), Takes (X.tr pn xe) W → PassesOwn (model X.prog X.w) X.A X.env xe → PSs (X.tr pn xe) body (tb W))
    (hsu : ∀ (a : Addr) (oe : Obj) (cls : Value) (d : Option Addr) (pn : List (Addr × Obj)), Zc cls d oe → (∃ vs, oe.data = .fields vs) → PSs (X.suite a ((a, oe) :: pn)) (b0 :: suite) (ts a cls d)) :
    PS X (.Try body (.ExceptHandler (some (.Name x np)) (some n) (b0 :: suite) p1 :: more) [] [] pos) fun D σ H => tb (wFst X.K c i ts D) D σ H := by
  constructor
  intro pins s σ H D I h
  have ok := I.ok
  have fs : X.A.frames = some (X.env :: X.outer) := by rw [ok.frames, st]
  apply wpAny_Try_except
  have run := (hb (wFst X.K c i ts D) (X.pn ++ pins)
    (fun e t1 => wpAny (model X.prog X.w) X.A (noteFrame e X.env) (fun _ t2 => wpAny (model X.prog X.w) X.A (setFlight e none)
      (fun _ t3 => wpAny (model X.prog X.w) X.A (handleBy e X.env (.ExceptHandler (some (.Name x np)) (some n) (b0 :: suite) p1 :: more)) (SP X pins D) X.xe t3) X.xe t2) X.xe t1)
    (fun u s' xx => ?_) PassesOwn.looking).run [] s σ H D (I.toTry _) h
  · apply wpAny_mono run
    · intro f t1 z
      cases f with
      | next =>
        obtain ⟨σ1, H1, J, q⟩ := z
        apply wpAny_execs_nil
        exact ⟨σ1, H1, J.ofTry ok, q⟩
      | brk => exact let ⟨σ1, H1, J, q⟩ := z; ⟨σ1, H1, J.ofTry ok, q⟩
      | cont => exact let ⟨σ1, H1, J, q⟩ := z; ⟨σ1, H1, J.ofTry ok, q⟩
      | ret u => exact let ⟨v, σ1, H1, J, r, q⟩ := z; ⟨v, σ1, H1, J.ofTry ok, r, q⟩
    · exact fun _ _ z => z
  · obtain ⟨a, B, sI, pins1, σ1, H1, cls, d, rfl, J1, nb, up, sky, na, os, ag, is, go⟩ := xx
    have J : Inv X pins σ1 H1 sI := J1.ofTry ok
    rw [st] at sky
    show wpAny (model X.prog X.w) X.A (noteFrame (.ref a) X.env) _ _ _
    apply Sky.land Zc.steady fs fr sky
    intro g fl ug
    have Jg : Inv X pins σ1 H1 { s' with heap := g } := J.landed nb fl.1 (up.trans ug) os ag
    obtain ⟨og, vg, eg, zg, dg⟩ := fl.there
    have off : a ∉ frs (X.env :: X.outer) := by
      intro hm
      obtain ⟨_, o2, e2, z⟩ := fl.2.2.1.mem hm
      rw [eg] at e2
      cases e2
      exact z _ dg
    have offL : a ≠ X.env.locals := by
      intro z
      exact off (List.mem_filterMap.mpr ⟨X.env, List.mem_cons_self, by rw [fr, z]⟩)
    have offF : a ∉ X.fs := by
      intro hm
      obtain ⟨e, he, q⟩ := List.mem_filterMap.mp hm
      exact off (List.mem_filterMap.mpr ⟨e, List.mem_cons_of_mem _ he, q⟩)
    have Sg := Jg.suite eg dg na offL offF
    apply wpAny_handleBy_cons (codeAny_handlers_test ?_) (by intro q; cases q)
    have ty : PySem.W.Looks (model X.prog X.w) g (typeOf (.ref a)) cls := by
      intro A Q E t k q
      exact wpAny_typeOf_ref (k _ _ eg) (by rw [zg.1]; exact q)
    have lm := PySem.W.exm_one (M := model X.prog X.w) Jg.kIn ty is
    have test : ∀ {Q E : Value → Shared → Prop}, Q c { s' with heap := g } → wpAny (model X.prog X.w) (X.A.mark (some (.ref a))) (eval (.Name x np) X.env) Q E { s' with heap := g } := by
      intro Q E q
      obtain ⟨hg, db, hm | ⟨hm, hv, hn⟩⟩ := nm
      · exact ld_glob (X := X.suite a ((a, og) :: (X.pn ++ pins))) Sg hg hm q db
      · exact ld_blt (X := X.suite a ((a, og) :: (X.pn ++ pins))) Sg hg hm hv q hn db
    apply test
    apply lm.here
    apply codeAny_handlers_suite_as
    apply HandSPX.lands_againZ fl
    intro k flk uk
    have Jk : Inv X pins σ1 H1 { s' with heap := k } := J.landed nb flk.1 ((up.trans ug).trans uk) os ag
    obtain ⟨ok2, vk, ek, zk, dk⟩ := flk.there
    have Sk := Jk.suite ek dk na offL offF
    apply store_ok (X := X.suite a ((a, ok2) :: (X.pn ++ pins))) (v := .ref a) Sk nd ix (.inl kd) rfl ?_ (.inr kd)
    intro t5 S5
    apply wpAny_mono ((hsu a ok2 cls d (X.pn ++ pins) zk ⟨_, dk⟩).run [] t5 _ H1 _ S5 (go a na)) ?_ fun _ _ z => False.elim z
    intro f t6 z
    have fin : ∀ {σ6 : L2.St} {H6 : Hp} {Q : Shared → Prop}, Inv (X.suite a ((a, ok2) :: (X.pn ++ pins))) [] σ6 H6 t6 → (∀ t7, Inv X pins (σ6.set i none) H6 t7 → Q t7) →
        wpAny (model X.prog X.w) X.A (do bindName X.env n .none; unbindBehindTheSuite X.env n p1) (fun _ t7 => Q t7) X.xe t6 := by
      intro σ6 H6 Q S6 hq
      exact gone_ok (S6.unsuite ok) nd ix kd hq
    cases f with
    | next => exact let ⟨σ6, H6, S6, q6⟩ := z; fin S6 fun t7 J7 => ⟨_, _, J7, q6⟩
    | brk => exact let ⟨σ6, H6, S6, q6⟩ := z; fin S6 fun t7 J7 => ⟨_, _, J7, q6⟩
    | cont => exact let ⟨σ6, H6, S6, q6⟩ := z; fin S6 fun t7 J7 => ⟨_, _, J7, q6⟩
    | ret u => exact let ⟨v6, σ6, H6, S6, r6, q6⟩ := z; fin S6 fun t7 J7 => ⟨_, _, _, J7, r6, q6⟩
end
end KTr
namespace KX
open PySem PySem.Spec PySem.W PyProof.Rows PySem.Calls
section
variable {M : Model} {A : Around} {E : Value → Shared → Prop} {h : Heap} {g : Array GenState} {d : Drawn} {t : Nat} {os : OsState}
variable {nm q : Str} {C N : Addr} {bs bm bmB : List Value} {hdct : Bool} {sn : List Str} {sub : List Value} {ab : Bool} {col : Option Bool} {dd : Option Addr} {k0 k1 k2 k3 k5 : Option Value} {B newId initId : String}
theorem check_newK (F : ExcBaseFacts B newId initId bmB) (hT : ∀ X : String, bm.contains (.type X) = bmB.contains (.type X)) {rest : List Value} {kn : Str} {kv : Value} {Q : Unit → Shared → Prop}
    (hC : h.get? C = some (excClassObj nm q C N bs bm hdct sn sub ab col dd k0 k1 k2 k3 k5 newId)) (hq : Q () ⟨h, g, d, t, os⟩) : wpAny M A (checkBuiltinCall newId ⟨.ref C :: rest, [(kn, kv)]⟩) Q E ⟨h, g, d, t, os⟩ := by
  have hc : (Value.ref C :: bm).contains (.type B) = true := by rw [List.contains_cons, hT, F.hasB, Bool.or_true]
  have hs := F.noStar
  simp only [checkBuiltinCall, F.newKind, F.newSplit, F.newRow]
  repeat (first | refine wpAny_madeBy_exc hC ?_ | refine wpAny_staticBase_exc hC ?_ | refine wpAny_loadPart_at hC ?_ | (refine wpAny_isSubtype_exc hC ?_; rw [hc]) | simp only [bne_self_eq_false, Bool.false_eq_true, if_false] | wp_step)
  exact hq
end
section
variable {prog : Program} {w : World} {A : Around} {E : Value → Shared → Prop} {R : Result → Shared → Prop} {h : Heap} {g : Array GenState} {d : Drawn} {t : Nat} {os : OsState}
variable {nm q : Str} {C N : Addr} {bs bm bmB : List Value} {hdct : Bool} {sn : List Str} {sub : List Value} {ab : Bool} {col : Option Bool} {dd : Option Addr} {k0 k1 k2 k3 k5 : Option Value} {B newId initId : String}
theorem newK (F : ExcBaseFacts B newId initId bmB) (hT : ∀ X : String, bm.contains (.type X) = bmB.contains (.type X)) {rest : List Value} {kn : Str} {kv : Value}
    (hC : h.get? C = some (excClassObj nm q C N bs bm hdct sn sub ab col dd k0 k1 k2 k3 k5 newId))
    (hq : R (.ok (.ret (.ref (h.objs.size + 1)))) ⟨(h.push { cls := .type "tuple", data := .seq rest.toArray }).push (HandSPX.excO C h.objs.size), g, d, t, os⟩) (hrest : rest.length ≤ sizeLine) :
    codeAny (model prog w) A (.builtin newId ⟨.ref C :: rest, [(kn, kv)]⟩) R ⟨h, g, d, t, os⟩ := by
  have he := F.ends
  have c1 : (Value.ref C :: bm).contains (.type B) = true := by rw [List.contains_cons, hT, F.hasB, Bool.or_true]
  have c2 : (Value.ref C :: bm).contains (.type "AttributeError") = false := by rw [List.contains_cons, hT, F.noAttr]; rfl
  have c3 : (Value.ref C :: bm).contains (.type "NameError") = false := by rw [List.contains_cons, hT, F.noName]; rfl
  apply codeAny_builtinAt F.entry
  unfold Builtin.«BaseException.__new__»
  refine PySem.wpAt_bind ?_
  show PySem.wpAt _ _ _ (stack >>= _) _ _ _
  refine PySem.wpAt_bind (PySem.wpAt_stack fun p below => PySem.wpAt_of_wpAny ?_)
  wp_walk
  refine PySem.wpAt_of_wpAny ?_
  rw [F.owner]
  repeat (first | with_reducible refine wpAny_loadPart_at hC ?_ | with_reducible refine wpAny_madeHere_exc F.canon hC ?_ | (with_reducible refine wpAny_isSubtype_exc hC ?_; first | rw [c1] | rw [c2] | rw [c3]) | wp_step)
  show R _ _
  rw [Heap.size_push]
  exact hq
theorem type_callK (F : ExcBaseFacts B newId initId bmB) (hT : ∀ X : String, bm.contains (.type X) = bmB.contains (.type X)) {rest : List Value} {kn : Str} {kv : Value} {fI : Addr} {Q : Fin → Shared → Prop}
    (hC : h.get? C = some (excClassObj nm q C N bs bm hdct sn sub ab col dd k0 k1 k2 k3 k5 newId))
    (hi : Looks (model prog w) h (typeLookup (.ref C) "__init__") (some (.ref fI))) (hb : ∀ self, Looks (model prog w) h (bindSpecial (.ref fI) self) (.ref fI, [self])) (hrest : rest.length ≤ sizeLine)
    (hq : codeAny (model prog w) A (.call (.ref fI) ⟨.ref (h.objs.size + 1) :: rest, [(kn, kv)]⟩)
      (fun r s' => match r with | .ok (.ret v) => v = .none ∧ Q (.done (.ret (.ref (h.objs.size + 1)))) s' | .ok _ => False | .error e => E e s')
      ⟨(h.push (kdv_tup rest)).push (HandSPX.excO C h.objs.size), g, d, t, os⟩) :
    wpAny (model prog w) A (Builtin.«type.__call__» ⟨.ref C :: rest, [(kn, kv)]⟩) Q E ⟨h, g, d, t, os⟩ := by
  repeat (first | with_reducible refine wpAny_madeBy_exc hC ?_ | with_reducible refine wpAny_loadPart_at hC ?_ | wp_step)
  refine codeAny_call_builtin_code (Code.quiet_builtin _ F.quiet) (check_newK F hT hC ?_)
  refine newK F hT hC ?_ hrest
  show wpAny _ _ _ _ _ _
  have kp : ∀ b o, h.get? b = some o → ((h.push (kdv_tup rest)).push (HandSPX.excO C h.objs.size)).get? b = some o := fun b o e => Heap.get?_push_of_some _ (Heap.get?_push_of_some _ e)
  have hC1 := kp _ _ hC
  have at_ : ((h.push (kdv_tup rest)).push (HandSPX.excO C h.objs.size)).get? (h.objs.size + 1) = some (HandSPX.excO C h.objs.size) := by heap_get
  have own : (Value.ref C :: bm).contains (.ref C) = true := by simp
  have i1 := hi.keeps kp
  have b1 := (hb (.ref (h.objs.size + 1))).keeps kp
  unfold isInstance
  repeat (first | with_reducible refine wpAny_loadPart_at at_ ?_ | (with_reducible refine wpAny_isSubtype_exc hC1 ?_; rw [own]) | wp_step)
  show wpAny _ _ (typeLookup (.ref C) _) _ _ _
  refine i1.at (wpAny_holding (wpAny_bind (b1.at ?_)))
  refine wpAny_bind (wpAny_call (codeAny_mono hq fun r s' z => ?_))
  rcases r with e | (v | _ | _ | _)
  · exact z
  all_goals try exact z.elim
  obtain ⟨rfl, z⟩ := z
  first
    | exact wpAny_pure (wpAny_pure z)
    | (wp_walk; exact z)
theorem call_ownK (F : ExcBaseFacts B newId initId bmB) (hT : ∀ X : String, bm.contains (.type X) = bmB.contains (.type X)) {rest : List Value} {kn : Str} {kv : Value} {fI : Addr}
    (hC : h.get? C = some (excClassObj nm q C N bs bm hdct sn sub ab col dd k0 k1 k2 k3 k5 newId))
    (hi : Looks (model prog w) h (typeLookup (.ref C) "__init__") (some (.ref fI))) (hb : ∀ self, Looks (model prog w) h (bindSpecial (.ref fI) self) (.ref fI, [self])) (hrest : rest.length ≤ sizeLine)
    (hq : codeAny (model prog w) (A.under (.builtin "type.__call__" ⟨.ref C :: rest, [(kn, kv)]⟩)) (.call (.ref fI) ⟨.ref (h.objs.size + 1) :: rest, [(kn, kv)]⟩) (InitBack (h.objs.size + 1) R)
      ⟨(h.push (kdv_tup rest)).push (HandSPX.excO C h.objs.size), g, d, t, os⟩) :
    codeAny (model prog w) A (.call (.ref C) ⟨rest, [(kn, kv)]⟩) R ⟨h, g, d, t, os⟩ := by
  have f1 := tc_lookup
  have f2 := tc_bind (.ref C)
  have ty : (⟨h, g, d, t, os⟩ : Shared).TypeIs (.ref C) "type" := ⟨_, hC, rfl⟩
  refine codeAny_of_tree ?_
  show wpAny _ _ (callAny (.ref C) _) _ _ _
  repeat (any_goals (first | with_reducible refine wpAny_loadPart_at hC ?_ | assumption | wp_step))
  refine ⟨rfl, ?_⟩
  refine codeAny_call_builtin_at (Code.quiet_builtin _ (by decide +kernel)) entry_typeCall ?_
  refine wpAny_check_type_call_sub hC (type_callK F hT hC hi hb hrest ?_)
  refine codeAny_mono hq fun r s' z => ?_
  rcases r with e | (v | _ | _ | _) <;> exact z
end
end KX
namespace KX
open PySem PySem.Spec PySem.W PyProof.Rows PySem.Calls L2 KG
section
variable {X : Cx} {pins : List (Addr × Obj)} {σ : L2.St} {H : Hp} {s : Shared} {a C : Addr} {f : Str} {y : V} {u : Value} {fs : List (Str × V)}
/-! ### C(k = e) -/
def tExMkK (C : Addr) (sp : Sp) (tk : TA) : TE := fun σ H Q => tk σ H fun vs H1 => ∃ v, vs = [v] ∧ ∀ a, H1 a = none → sp [.ref a, v] (upd H1 a (exo a C none)) (fun v H2 => v = .non ∧ Q (.ref a) H2) E0
/-- a def's one keyword finds its place -/
def KwOne (fd : FuncData) (ps : List Str) (kn : Str) : Prop := ∀ (s : Shared) (u v : Value), BindsTo s fd ⟨[u], [(kn, v)]⟩ (ps.zip [u, v])
theorem kwOne {K : Frag} {x qual : Str} {st : Stmt} {f : Addr} {fd : FuncData} {ps : List Str} {kn : Str} (F : Fun K x qual st f fd)
    (h : ∀ (kV doc pm : Value) (an : Option Addr) (cdv ct : Value) (u v : Value), bindArgs (fnOf x qual (defArgs st) (defBody st) (defScope st) .none kV doc pm an cdv ct) ⟨[u], [(kn, v)]⟩ = pure (ps.zip [u, v])) : KwOne fd ps kn := by
  obtain ⟨oc, od, kV, doc, pm, an, cdv, ct, osl, rfl, lk, hcd⟩ := F.ex
  exact fun s u v => .of_eq (h kV doc pm an cdv ct u v)
theorem pe_exmkK {CX : CXT} {x kn : Str} {fI : Addr} {k : Nat} {fd : FuncData} {ps : List Str} {sp : Sp} {kws : List Keyword} {tk : TA} {p pos : Pos} (T : ExC X.K C) (iC : findIn X.K (.ref C) "__init__" = some (some (.ref fI))) (tI : typeIn X.K (.ref fI) = some (.type "function"))
    (F1 : FnOk X.prog X.w X.K X.mg X.base CX k fI fd ps sp) (hr : Room (k + 1) X.A) (hb : KwOne fd ps kn) (hx : Passes CX X E0) (hg : Gl X x) (hm : X.mg x = some (.ref C)) (hkw : PK X kws tk) (hall : (backToKw pos (keywordEach kws X.env)).all (·.1.isSome) = true := by rfl)
    (hks : (backToKw pos (keywordEach kws X.env)).filterMap (·.1) = [kn] := by rfl) (hdb : (x == ("__debug__" : Str)) = false := by decide)
    (hpl : ((backTo pos (starEach [] X.env)).any (·.1) || (backToKw pos (keywordEach kws X.env)).any (·.1.isNone)) = false := by rfl) : PE X (.Call (.Name x p) [] kws pos) (tExMkK C sp tk) := by
  constructor
  intro pins s σ H Q I h
  apply wpAny_Call_Name_kw (ld_glob I hg hm ?_ hdb)
  apply callWith_KW0 (h₀ := X.base) I.ok.mod.kin T.kp hall ?_ hpl
  apply thn (hkw.run pos pins s σ H _ I h)
  rintro ws s1 ⟨zs, H1, I1, rz, v, ev, q⟩
  subst ev
  obtain ⟨u, eu, ru⟩ := vals1 rz
  subst eu
  refine ⟨I1.kIn, ?_⟩
  rw [hks]
  show wpAny _ _ (call (.ref C) [] [(kn, u)]) _ _ _
  obtain ⟨nm, qn, N, bs, bm, sn, sub, ab, col, dd, k0, k1, k2, k3, k5, hC, hbm⟩ := T.cls
  obtain ⟨hp, g, dr, tkn, os⟩ := s1
  have new : hp.objs.size ≤ hp.objs.size + 1 := Nat.le_succ _
  have kp : ∀ b o, hp.get? b = some o → ((hp.push (kdv_tup [])).push (HandSPX.excO C hp.objs.size)).get? b = some o := fun b o e => Heap.get?_push_of_some _ (Heap.get?_push_of_some _ e)
  have at_ : ((hp.push (kdv_tup [])).push (HandSPX.excO C hp.objs.size)).get? (hp.objs.size + 1) = some (HandSPX.excO C hp.objs.size) := by heap_get
  have J : Inv X pins σ (upd H1 (hp.objs.size + 1) (exo (hp.objs.size + 1) C none)) ⟨(hp.push (kdv_tup [])).push (HandSPX.excO C hp.objs.size), g, dr, tkn, os⟩ :=
    I1.laid (a := hp.objs.size + 1) (o := exo (hp.objs.size + 1) C none) (h' := (hp.push (kdv_tup [])).push (HandSPX.excO C hp.objs.size)) (t' := tkn) kp new (exo_ok at_)
  have hq := q (hp.objs.size + 1) (I1.hok.fresh new)
  have r2 : Vals [V.ref (hp.objs.size + 1), v] [Value.ref (hp.objs.size + 1), u] := .cons rfl (.cons ru .nil)
  apply wpAny_call
  apply call_ownK PySem.F.excBase_Exception (fun Y => excTail_contains Y bm hbm) (I1.kIn _ _ hC) (looks_findIn I1.kIn iC) (fun self => bind_fn I1.kIn self tI) (by rw [sizeLine_eq]; decide)
  refine codeAny_mono (F1.run _ X.stack _ _ ⟨[Value.ref (hp.objs.size + 1)], [(kn, u)]⟩ [Value.ref (hp.objs.size + 1), u] _ _ E0 (hr.make C [] [(kn, u)]) (J.env0.make C [] [(kn, u)]) (hb _ _ _) r2 hq) ?_
  rintro (er | fl) s' z
  · exact hx pins σ _ _ er s' J z
  · cases fl with
    | ret u2 =>
      obtain ⟨v2, H', I3, rv, ev, q3⟩ := Inv.after J z
      subst ev
      exact ⟨rv, ⟨V.ref (hp.objs.size + 1), H', I3, rfl, q3⟩⟩
    | next => exact z.elim
    | brk => exact z.elim
    | cont => exact z.elim
/-- self.f = w, the whole of an __init__ of two parameters -/
def spSet (C : Addr) (f : Str) : Sp := fun vs H Q _ => ∃ (a : Addr) (y : V), vs = [.ref a, y] ∧ H a = some (exo a C none) ∧ ∀ dx, H dx = none → dx ≠ a → Q .non (upd (upd H dx (exd dx [(f, y)])) a (exo a C (some dx)))

/-! ### C(), a class without an __init__ of its own -/
def tExMk0 (C : Addr) : TE := fun _ H Q => ∀ a, H a = none → Q (.ref a) (upd H a (exo a C none))
theorem pe_exmk0 {x : Str} {p pos : Pos} (q : excIn X.K C exTl "Exception.__new__" = true) (kC : keepIn X.K (.ref C) = true) (hg : Gl X x) (hm : X.mg x = some (.ref C)) (hdb : (x == ("__debug__" : Str)) = false := by decide) : PE X (.Call (.Name x p) [] [] pos) (tExMk0 C) := by
  constructor
  intro pins s σ H Q I h
  apply wpAny_Call_Name_kw (ld_glob I hg hm ?_ hdb)
  refine callWith_K0 I.kIn kC ?_
  show wpAny _ _ (call (.ref C) []) _ _ _
  obtain ⟨bm, N, nm, qn, bs, hdct, sn, sub, ab, col, dd, k0, k1, k2, k3, k5, mN, hC, hN, hni, T⟩ := exc_obj I.kIn q
  refine wpAny_call_exc_subT PySem.F.excBase_Exception T hC hN hni (fun h' a hm => ?_) (by show 0 ≤ sizeLine; exact Nat.zero_le _)
  have hn : H a = none := I.hok.gone hm.new
  obtain ⟨t, ht, _, _⟩ := hm.there
  exact ⟨.ref a, upd H a (exo a C none), I.laidN hm.keeps hm.new hn (exo_ok ht), rfl, h a hn⟩

/-! ### e.f -/
def tExGet (K : Frag) (f : Str) (te : TE) : TE := fun σ H Q => te σ H fun x H1 => ∃ (a C : Addr) (fs : List (Str × V)) (v : V), x = .ref a ∧ ExC K C ∧ findIn K (.ref C) f = some none ∧ ExAt H1 a C fs ∧ fs.lookup f = some v ∧ Q v H1
theorem ex_inst (I : Inv X pins σ H s) (h : ExAt H a C fs) : ∃ ox od, InstAt s.heap a ox C od ∧ ∀ (n : Str) (v : V), fs.lookup n = some v → ∃ u o, od = some o ∧ lookIn n o = some (some u) ∧ RelV v u := by
  rcases h with ⟨dx, h1, h2⟩ | ⟨h0, h1⟩
  · obtain ⟨t1, ho⟩ := exo_at I.hok h1
    obtain ⟨mA, hns, hr⟩ := exd_at I.hok h2
    obtain ⟨od, hod, hl⟩ := lookIn_ns hns
    refine ⟨_, some od, ⟨ho, rfl, rfl, hod⟩, fun n v e => ?_⟩
    obtain ⟨u, hu, ru⟩ := RelO.some_of (v := v) (o := mA n) (by rw [← e]; exact hr n)
    exact ⟨u, od, rfl, by rw [hl, hu], ru⟩
  · obtain ⟨t1, ho⟩ := exo_at I.hok h1
    exact ⟨_, none, ⟨ho, rfl, rfl, trivial⟩, fun n v e => by rw [h0] at e; cases e⟩
theorem pe_exget {e : Expr} {te : TE} {pos : Pos} (he : PE X e te) (hb : attributeBase e f X.env (eval e X.env) = eval e X.env := by rfl) : PE X (.Attribute e f pos) (tExGet X.K f te) := by
  constructor
  intro pins s σ H Q I h
  apply attr_of hb
  apply thn (he.run pins s σ H _ I h)
  rintro u s1 ⟨x, H1, I1, rx, a, C, fs, v, ex, T, hno, ea, l, q⟩
  subst ex
  obtain rfl : u = Value.ref a := rx
  obtain ⟨ox, od, J, hf⟩ := ex_inst I1 ea
  obtain ⟨u, o, eo, hl, ru⟩ := hf f v l
  subst eo
  exact HandSPX.exc_get I1.kIn J T.ga T.gg T.bx (findObj_own T.hd hno rfl hl) (handed_of ru) ⟨v, H1, I1.tok _, ru, q⟩
end
end KX
/-! x(e, ..) and x(k = e), x a local that holds an instance. -/
namespace KCo
open PySem PySem.Spec PyProof.Rows L2 StX
section
variable {M : Model} {A : Around} {E : Value → Shared → Prop} {s : Shared} {a : Addr} {pos : Pos} {Q : Value → Shared → Prop} {args : List (Bool × Sem Value)} {kws : List (Option Str × Sem Value)}
/-- a call whose callee is an instance: by position and by name -/
theorem callI_of (hp : (args.any (·.1) || kws.any (·.1.isNone)) = false)
    (h : wpAny M A (evalArgs (.ref a) true args kws) (fun z t => (∃ C ox od, PySem.W.InstAt t.heap a ox C od ∧ ox.data = .plain) ∧ wpAny M A (call (.ref a) z.pos z.kw) Q E t) E s) : wpAny M A (callWith pos (.ref a) [] args kws) Q E s := by
  unfold callWith
  apply wpAny_bind
  apply wpAny_holding
  apply wpAny_mono h ?_ fun _ _ y => y
  rintro z t ⟨⟨C, ox, od, J, hd⟩, w⟩
  apply wpAny_bind
  apply wpAny_standAt
  have L := PySem.W.kco_keeper (M := M) J hd
  simp only [hp]
  apply wpAny_bind
  apply L.here
  have fin : ∀ {m : Sem Value}, wpAny M A m Q E t → wpAny M A (m >>= fun r => holding [r] point >>= fun _ => pure r) Q E t := by
    intro m w
    apply wpAny_bind
    apply wpAny_mono w ?_ fun _ _ y => y
    intro r t2 q
    exact wpAny_bind (wpAny_holding (wpAny_point (wpAny_pure q)))
  apply fin
  exact wpAny_operateT w
end
/-- x(e, ..) -/
def tCallI (C : Addr) (sp : Sp) (E : XK) (tf : TE) (t : TA) : TE := fun σ H Q => tf σ H fun y H1 => ∃ a, y = V.ref a ∧ t σ H1 fun vs H2 => (∃ dx fs, H2 a = some (.ins C dx fs)) ∧ sp (V.ref a :: vs) H2 Q E
/-- x(k = e) -/
def tCallIK (C : Addr) (sp : Sp) (E : XK) (tf : TE) (tk : TA) : TE := fun σ H Q => tf σ H fun y H1 => ∃ a, y = V.ref a ∧ tk σ H1 fun vs H2 => ∃ v, vs = [v] ∧ (∃ dx fs, H2 a = some (.ins C dx fs)) ∧ sp [V.ref a, v] H2 Q E
/-- x(e, ..), what is raised is wished for at the slots -/
def tCallIS (C : Addr) (sp : Sp) (E : L2.St → XK) (tf : TE) (t : TA) : TE := fun σ H Q => tf σ H fun y H1 => ∃ a, y = V.ref a ∧ t σ H1 fun vs H2 => (∃ dx fs, H2 a = some (.ins C dx fs)) ∧ sp (V.ref a :: vs) H2 Q (E σ)
section
variable {X : Cx} {CX : CXT} {k : Nat} {g C : Addr} {fd : FuncData} {ps : List Str} {sp : Sp} {E : XK} {ES : L2.St → XK} {x kn : Str} {p pos : Pos} {e : Expr} {es : List Expr} {kws : List Keyword} {tf : TE} {t tk : TA}
theorem run_callI {pins : List (Addr × Obj)} {σ : L2.St} {H : Hp} {s : Shared} {Q : VK} {a : Addr} {ags : Args} {us : List Value} {vs : List V} (c : CallO X.K C g) (F : FnOk X.prog X.w X.K X.mg X.base CX k g fd ps sp) (hr : Room k X.A)
    (hx : ∀ (e : Value) (s' : Shared), CX X.stack H s E e s' → X.xe e s') (I : Inv X pins σ H s) (hi : ∃ dx fs, H a = some (.ins C dx fs)) (hb : BindsTo s fd ⟨.ref a :: ags.pos, ags.kw⟩ (ps.zip us)) (r : Vals vs us) (h : sp vs H Q E) :
    wpAny (model X.prog X.w) X.A (call (.ref a) ags.pos ags.kw) (EP X pins σ Q) X.xe s := by
  obtain ⟨dx, fs, hi⟩ := hi
  obtain ⟨ox, od, J, hd⟩ := insC_at I (.inr ⟨dx, fs, hi⟩)
  apply wpAny_call
  apply PySem.W.kco_code I.kIn J hd c.at_ c.fn c.fi
  refine codeAny_mono (F.run X.A X.stack s H ⟨.ref a :: ags.pos, ags.kw⟩ us vs Q E hr I.env0 hb r h) ?_
  rintro (er | fl) s' z
  · exact hx er s' z
  · cases fl with
    | ret u => exact I.after z
    | next => exact z.elim
    | brk => exact z.elim
    | cont => exact z.elim
theorem insOut {pins : List (Addr × Obj)} {σ : L2.St} {H : Hp} {s : Shared} {a : Addr} (I : Inv X pins σ H s) (hi : ∃ dx fs, H a = some (.ins C dx fs)) : ∃ C ox od, PySem.W.InstAt s.heap a ox C od ∧ ox.data = .plain := by
  obtain ⟨dx, fs, hi⟩ := hi
  obtain ⟨ox, od, J, hd⟩ := insC_at I (.inr ⟨dx, fs, hi⟩)
  exact ⟨C, ox, od, J, hd⟩
theorem pe_callIS (hf : PE X (.Name x p) tf) (c : CallO X.K C g) (F : FnOk X.prog X.w X.K X.mg X.base CX k g fd ps sp) (hr : Room k X.A) (hb : L2.Binds X.K fd ps []) (hx : ∀ σ, PassesAt CX X σ (ES σ)) (ha : PA X (e :: es) t)
    (he : starEach (e :: es) X.env = (false, eval e X.env) :: starEach es X.env := by rfl) (hpl : (backTo pos (starEach es X.env)).any (·.1) = false := by rfl) : PE X (.Call (.Name x p) (e :: es) [] pos) (tCallIS C sp ES tf t) := by
  refine ⟨fun pins s σ H Q I h => ?_⟩
  refine wpAny_Call_Name_kw (thn (hf.run pins s σ H _ I h) fun u s1 ⟨y, H1, I1, ry, a, ey, q⟩ => ?_)
  subst ey
  obtain rfl : u = Value.ref a := ry
  have pl : (((backTo pos (starEach (e :: es) X.env)).any (·.1)) || (([] : List (Option Str × Sem Value)).any (·.1.isNone))) = false := by
    rw [he]
    show ((false || (backTo pos (starEach es X.env)).any (·.1)) || false) = false
    rw [hpl]
    rfl
  refine callI_of pl ?_
  have z := ha.run pos pins s1 σ H1 _ I1 q
  rw [he] at z ⊢
  refine PySem.Calls.evalArgs_plain (thn z fun us s2 ⟨vs, H2, I2, r, hi, q2⟩ => ⟨insOut I2 hi, ?_⟩)
  have r2 : Vals (V.ref a :: vs) (Value.ref a :: us) := .cons rfl r
  have len : ((Value.ref a :: us) ++ []).length = ps.length := by
    rw [List.append_nil, ← F.len _ _ _ _ q2]
    exact r2.length.symm
  have bnd := hb s2 (Value.ref a :: us) I2.kIn len
  rw [List.append_nil] at bnd
  exact run_callI (ags := ⟨us, []⟩) c F hr (fun e s' z => hx σ pins H2 s2 e s' I2 z) I2 hi bnd r2 q2
theorem pe_callIK (hf : PE X (.Name x p) tf) (c : CallO X.K C g) (F : FnOk X.prog X.w X.K X.mg X.base CX k g fd ps sp) (hr : Room k X.A) (hb : KX.KwOne fd ps kn) (hx : Passes CX X E) (hkw : PK X kws tk)
    (hall : (backToKw pos (keywordEach kws X.env)).all (·.1.isSome) = true := by rfl) (hks : (backToKw pos (keywordEach kws X.env)).filterMap (·.1) = [kn] := by rfl)
    (hpl : ((backTo pos (starEach [] X.env)).any (·.1) || (backToKw pos (keywordEach kws X.env)).any (·.1.isNone)) = false := by rfl) : PE X (.Call (.Name x p) [] kws pos) (tCallIK C sp E tf tk) := by
  refine ⟨fun pins s σ H Q I h => ?_⟩
  refine wpAny_Call_Name_kw (thn (hf.run pins s σ H _ I h) fun u s1 ⟨y, H1, I1, ry, a, ey, q⟩ => ?_)
  subst ey
  obtain rfl : u = Value.ref a := ry
  refine callI_of hpl (evalArgs_kw2_nil hall ?_)
  refine thn (hkw.run pos pins s1 σ H1 _ I1 q) ?_
  rintro us s2 ⟨vs, H2, I2, r, v, ev, hi, q2⟩
  subst ev
  obtain ⟨u, eu, ru⟩ := vals1 r
  subst eu
  refine ⟨insOut I2 hi, ?_⟩
  rw [hks]
  exact run_callI (ags := ⟨[], [(kn, u)]⟩) c F hr (fun e s' z => hx pins σ H2 s2 e s' I2 z) I2 hi (hb _ _ _) (.cons (show L2.RelV (V.ref a) (Value.ref a) from rfl) (.cons ru .nil)) q2
end
end KCo
/-! NoChoice; a vote at an address. -/
namespace K01
open PySem PySem.Spec PyProof.Rows L2 KG KS KA KX KIa
abbrev s_noInit : Stmt := inCls 5 0
/-- NoChoice -/
structure ErC (K : PySem.W.Frag) (mg : Str → Option Value) where
  C : Addr
  g : mg "NoChoice" = some (.ref C)
  T : ExC K C
  a : Addr
  d : FuncData
  F : Fun K "__init__" "NoChoice.__init__" s_noInit a d
  iC : PySem.W.findIn K (.ref C) "__init__" = some (some (.ref a))
  tI : PySem.W.typeIn K (.ref a) = some (.type "function")
  nf : PySem.W.findIn K (.ref C) "word" = some none
  ty : PySem.W.typeIn K (.ref C) = some (.type "type")
  ex : PySem.W.exmOne K (.ref C) (.ref C) = some true
/-- a vote at o -/
def VtAt (C : Addr) (H : Hp) (o : Addr) (xs : List Str) (k : Nat) (rs : List Str) : Prop := ∃ dx d r t, H o = some (.ins C dx (vtFs d k r t)) ∧ VtIn H d r t xs k rs
theorem VtIn.up {H H' : Hp} {d r t : Addr} {xs rs : List Str} {k : Nat} (h : VtIn H d r t xs k rs) (e : Same H H') : VtIn H' d r t xs k rs := by
  obtain ⟨ks, h1, h2, h3, h4⟩ := h
  exact ⟨ks, e _ _ h1, e _ _ h2, e _ _ h3, h4⟩
theorem VtAt.up {C : Addr} {H H' : Hp} {o : Addr} {xs rs : List Str} {k : Nat} (h : VtAt C H o xs k rs) (e : Same H H') : VtAt C H' o xs k rs := by
  obtain ⟨dx, d, r, t, h1, h2⟩ := h
  exact ⟨dx, d, r, t, e _ _ h1, h2.up e⟩
section
variable {P : Program} {w : World} {K : PySem.W.Frag} {mg : Str → Option Value} {base : Heap}
theorem sc_noInit : FnScope ["self", "word"] ["self", "word"] (defScope s_noInit) := ⟨rfl, rfl, rfl, by decide +kernel, rfl, by decide +kernel, by decide +kernel⟩
theorem ok_noInit (E : ErC K mg) : FnOk P w K mg base CX0 1 E.a E.d ["self", "word"] (spSet E.C "word") := by
  refine E.F.ok sc_noInit (fun vs H Q E h => ?_) (fun cdv A outer s H vs Q E' hr h => ?_)
  · obtain ⟨a, y, rfl, _⟩ := h
    rfl
  · obtain ⟨a, y, rfl, ha, q⟩ := h
    exact ⟨_, (pss_one (ps_exset (pv 0) (pv 1))), ⟨_, rfl, _, rfl, a, E.C, rfl, E.T, E.nf, ha, fun dx hd nd => q dx hd nd⟩⟩
end
end K01
/-! x not in a tuple of ints, x any value but True and False among 0 and 1. -/
namespace KCt
open PySem PySem.Spec PyProof.Rows L2 PySem.SeqAt
theorem int_eq_declines_dict (b : Int) (u : Tok) (l : Addr) (es : Array DictEntry) (n : Nat) (dd : Option Addr) (sl : Array (Option Value)) :
    Meets (Builtin.«int.__eq__» ⟨[.int b u, .ref l], []⟩) (fun _ R s => s.heap.get? l = some { cls := .type "dict", dict := dd, data := .dict es n, slots := sl } ∧ R (.ok (.ret .notImplemented)) s) :=
  .of_wp fun prog w A R s h => by obtain ⟨hp, g, d, tk, os⟩ := s; obtain ⟨hl, h⟩ := h; wp_walk using wpAny_loadPart' hl; exact ⟨_, rfl, h⟩
theorem dict_eq_declines_int (l : Addr) (es : Array DictEntry) (n : Nat) (dd : Option Addr) (sl : Array (Option Value)) (b : Int) (u : Tok) :
    Meets (Builtin.«dict.__eq__» ⟨[.ref l, .int b u], []⟩) (fun _ R s => s.heap.get? l = some { cls := .type "dict", dict := dd, data := .dict es n, slots := sl } ∧ R (.ok (.ret .notImplemented)) s) :=
  .of_wp fun prog w A R s h => by obtain ⟨hp, g, d, tk, os⟩ := s; obtain ⟨hl, h⟩ := h; have f1 := F.sub_int_dict; wp_walk using wpAny_load hl; exact ⟨_, rfl, h⟩
section
variable {A : Around} {s : Shared}
theorem RcAt.int_dict {l : Addr} {o : Obj} {es : Array DictEntry} {n : Nat} (b : Int) (u : Tok) (ho : s.heap.get? l = some o) (hc : o.cls = .type "dict") (hd : o.data = .dict es n) (hu : A.units < cLine) : RcAt A s (.int b u) (.ref l) false := fun prog w E Q h => by
  obtain ⟨cls, dd, data, sl⟩ := o
  simp only at hc hd
  subst hc hd
  exact rc_eq_decline_or (k := false) (typeIs_int s b u) ⟨_, ho, rfl⟩ (by decide) F.sub_dict_int F.slot_int_eq F.slot_dict_eq_refl
    (fun _ hq => call_meets F.slot_int_eq (typeIs_int s b u) F.entry_int_eq (F.args_int_eq_2 _ _) (int_eq_declines_dict b u l es n dd sl) ⟨ho, hq⟩)
    (fun _ hq => call_meets F.slot_dict_eq_refl ⟨_, ho, rfl⟩ F.entry_dict_eq (F.args_dict_eq_2 _ _) (dict_eq_declines_int l es n dd sl b u) ⟨ho, hq⟩)
    (fun _ hq => wpAny_of_eq (rfl : isSame (.int b u) (.ref l) = pure false) hq) (.inr hu) h
theorem EqAt.int_dict {l : Addr} {o : Obj} {es : Array DictEntry} {n : Nat} (b : Int) (u : Tok) (ho : s.heap.get? l = some o) (hc : o.cls = .type "dict") (hd : o.data = .dict es n) (hu : A.units < cLine) : EqAt A s (.int b u) (.ref l) false := fun prog w E Q h => by
  unfold eqBool
  refine wpAny_holding ?_
  refine wpAny_ite_split (fun hab => absurd (eq_of_beq hab) nofun) (fun _ => ?_)
  exact wpAny_bind (RcAt.int_dict b u ho hc hd hu prog w E _ (wpAny_truthy_bool h))
end
/-- an int, or another value -/
inductive CntK (K : PySem.W.Frag) (H : Hp) : V → Option Int → Prop
  | int (n : Int) : CntK K H (.int n) (some n)
  | str (x : Str) : CntK K H (.str x) none
  | bl (b : Bool) : CntK K H (.bl b) none
  | non : CntK K H .non none
  | lst {a : Addr} {xs : List V} : H a = some (.lst xs) → CntK K H (.ref a) none
  | tup {a : Addr} {xs : List V} : H a = some (.tup xs) → CntK K H (.ref a) none
  | dct {a : Addr} {kvs : List (Key × V)} : H a = some (.dK kvs) → CntK K H (.ref a) none
theorem CntK.up {K : PySem.W.Frag} {H H' : Hp} {v : V} {c : Option Int} (e : ∀ b o, H b = some o → H' b = some o) (h : CntK K H v c) : CntK K H' v c := by
  cases h with
  | int n => exact .int n
  | str x => exact .str x
  | bl b => exact .bl b
  | non => exact .non
  | lst h => exact .lst (e _ _ h)
  | tup h => exact .tup (e _ _ h)
  | dct h => exact .dct (e _ _ h)
def rNotCnt (K : PySem.W.Frag) : R2 := fun x y H Q => ∃ (c : Option Int) (d : Addr) (ds : List Int), CntK K H x c ∧ y = .ref d ∧ SqT K H d (ds.map V.int) ∧ (∀ n ∈ ds, 2 ≤ n) ∧ Q (.bl (!(ds.any fun n => decide (c = some n)))) H
def intOf : Value → Option Int
  | .int t _ => some t
  | _ => none
theorem any_int {c : Option Int} : ∀ {ds : List Int} {us : List Value}, Vals (ds.map V.int) us → (us.any fun y => decide (c = intOf y) && (intOf y).isSome) = ds.any fun n => decide (c = some n)
  | [], _, r => by
    cases r
    rfl
  | t :: ds, us, r => by
    rw [List.map_cons] at r
    cases r with
    | cons r1 r2 =>
      obtain ⟨k, rfl⟩ := r1
      have z := any_int (c := c) r2
      rw [List.any_cons, List.any_cons, z]
      show (decide (c = some t) && true || _) = _
      rw [Bool.and_true]
theorem vals_int : ∀ {ds : List Int} {us : List Value}, Vals (ds.map V.int) us → ∀ u ∈ us, ∃ t k, u = .int t k ∧ t ∈ ds
  | [], _, r, u, h => by
    cases r
    cases h
  | t :: ds, _, r, u, h => by
    rw [List.map_cons] at r
    cases r with
    | cons r1 r2 =>
      rcases List.mem_cons.mp h with rfl | h
      · exact let ⟨k, e⟩ := r1; ⟨t, k, e, List.mem_cons_self⟩
      · obtain ⟨t2, k, e, m⟩ := vals_int r2 u h
        exact ⟨t2, k, e, List.mem_cons_of_mem _ m⟩
section
variable {X : Cx}
theorem op_notInCnt (hu : X.A.units + 64 < cLine) : OpR X (compareOp .NotIn) (rNotCnt X.K) := by
  intro pins s σ H x y v u Q I rx ry h
  obtain ⟨c, d, ds, hx, rfl, hd, h2, q⟩ := h
  obtain rfl : u = Value.ref d := ry
  obtain ⟨its, rv, pl, _⟩ := I.tuple hd
  have hu1 : X.A.in1.units < cLine := by
    show X.A.units + 1 < cLine
    omega
  refine notIn_tupleAt (fun y => decide (c = intOf y) && (intOf y).isSome) pl (fun y hy => ?_) ⟨.bl _, H, I, rfl, ?_⟩
  · obtain ⟨t, k, rfl, mt⟩ := vals_int rv y (by simpa using hy)
    have t2 := h2 t mt
    show EqAt _ _ _ _ (decide (c = some t) && true)
    rw [Bool.and_true]
    cases hx with
    | int n =>
      obtain ⟨kx, rfl⟩ := rx
      have z := EqAt.int_int (A := X.A.in1) (s := s) t k n kx
      have e : (t == n) = decide (some n = some t) := by
        by_cases e : n = t
        · subst e
          simp
        · have : ¬ t = n := fun z => e z.symm
          simp [e, this]
      rw [e] at z
      exact z
    | str x =>
      obtain ⟨kx, rfl⟩ := rx
      exact EqAt.int_str t k x kx
    | bl b =>
      obtain rfl := rx
      have z := EqAt.int_bool (A := X.A.in1) (s := s) t k b
      have e : (t == (if b then 1 else 0)) = false := beq_eq_false_iff_ne.mpr (by cases b <;> simp <;> omega)
      rw [e] at z
      exact z
    | non =>
      obtain rfl := rx
      exact EqAt.int_none t k
    | lst hl =>
      obtain rfl := rx
      obtain ⟨is2, rv2, pl2, _⟩ := I.list (.inl (.inl hl))
      exact EqAt.int_list t k pl2.isList hu1
    | tup ht =>
      obtain rfl := rx
      obtain ⟨is2, rv2, pl2, _⟩ := I.tuple (.inl (.inl ht))
      exact EqAt.int_tuple t k pl2 hu1
    | dct hk =>
      obtain rfl := rx
      obtain ⟨_, _, vs, _, ob, es, ep, e1, e2, e3, e4⟩ := I.hok _ _ hk
      exact EqAt.int_dict t k e1 e2.1 e3 hu1
  · rw [show its.toArray.any (fun y => decide (c = intOf y) && (intOf y).isSome) = its.any (fun y => decide (c = intOf y) && (intOf y).isSome) by simp, any_int rv]
    exact q
end
end KCt
/-! _law_pick of a tuple; what can be shown; slices and sums of tuples that stand on the heap. -/
namespace K01
open PySem PySem.Spec PyProof.Rows L2 KG KS KA KX KLm KIa LamX
def spPickT : Sp := fun vs H Q _ => ∃ (d l a : Addr) (xs : List V) (k : Nat), vs = [.ref d, .ref a] ∧ DeckAt H d l k ∧ H a = some (.tup xs) ∧ 0 < xs.length ∧ xs.length < 1000000 ∧ k < 1000000000 ∧
  ∀ (v : V) (H' : Hp), v ∈ xs → DeckAt H' d l (k + 1) → Off d l H H' → Q v H'
theorem tup_off {H H' : Hp} {d l p : Addr} {k : Nat} {xs : List V} (h : H p = some (.tup xs)) (D : DeckAt H d l k) (o : Off d l H H') : H' p = some (.tup xs) := by
  obtain ⟨cs, m, n, hd, hl, _⟩ := D.ex
  exact o _ _ h (ne_of h hd (by intro z; cases z)) (ne_of h hl (by intro z; cases z))
section
variable {P : Program} {w : World} {K : PySem.W.Frag} {mg : Str → Option Value} {base : Heap}
theorem ok__law_pickT (B : Bi mg) (f : FnF K mg "_law_pick" "_law_pick" s__law_pick) (fd : FnF K mg "_law_draw" "_law_draw" s__law_draw) : FnOk P w K mg base CX0 2 f.a f.d ["_law_deck_here", "_law_options"] spPickT := by
  have G := ok__law_draw (P := P) (w := w) (base := base) B fd
  have bd : L2.Binds K fd.d ["_law_deck_here", "_law_many"] [] := fd.F.binds fun _ _ _ _ _ _ us hl => match us, hl with | [_, _], _ => rfl
  refine f.F.ok sc__law_pick (fun vs H Q E h => ?_) (fun cdv A outer s H vs Q E hr h => ?_)
  · obtain ⟨d, l, a, xs, k, rfl, _⟩ := h
    rfl
  · obtain ⟨d, l, a, xs, k, rfl, D, ha, h0, h1, hk, q⟩ := h
    refine ⟨_, (pss_one
      (ps_ret (pe_ix (show IxR _ (rIxT K) from ix_tup) (pv 1) (pe_call G hr rfl fd.g fd.F.kp bd .nil pass0 (pa_cons (pv 0) (pa_cons (pe_callB call_len (by rfl) B.n_len (by decide +kernel) (pa_cons (pv 1) pa_nil)) pa_nil))) (fun _ _ => rfl)))), ?_⟩
    refine ⟨_, rfl, _, rfl, _, rfl, .ref a, xs.length, rfl, Or.inr ⟨xs, SqT.of ha, rfl⟩, d, l, (xs.length : Int), k, rfl, D, by omega, by omega, hk, fun i H' i0 i1 D' o' => ?_⟩
    have hi : i.toNat < xs.length := by omega
    have hx : xs[i.toNat]? = some xs[i.toNat] := List.getElem?_eq_getElem hi
    exact ⟨a, xs, i, xs[i.toNat], rfl, rfl, SqT.of (tup_off ha D o'), at_of (j := i.toNat) (by omega) hx, q _ H' (List.getElem_mem hi) D' o'⟩
end
/-! ### what can be shown -/
structure Shw (H : Hp) (v : V) (D : PyData) (n c : Nat) : Prop where
  dq : Dq (fun _ => True) H v D
  sh : D.showable = true
  dp : D.depth ≤ n
  ct : cost D ≤ c
structure Shws (H : Hp) (xs : List V) (ds : List PyData) (n c : Nat) : Prop where
  dq : DqAll (fun _ => True) H xs ds
  sh : PyData.showableAll ds = true
  dp : PyData.depthAll ds ≤ n
  ct : costAll ds ≤ c
theorem Shw.up {H H' : Hp} {v : V} {D : PyData} {n c n2 c2 : Nat} (h : Shw H v D n c) (e : Same H H') (h1 : n ≤ n2) (h2 : c ≤ c2) : Shw H' v D n2 c2 := ⟨h.dq.same e, h.sh, Nat.le_trans h.dp h1, Nat.le_trans h.ct h2⟩
theorem Shws.up {H H' : Hp} {v : List V} {D : List PyData} {n c n2 c2 : Nat} (h : Shws H v D n c) (e : Same H H') (h1 : n ≤ n2) (h2 : c ≤ c2) : Shws H' v D n2 c2 := ⟨h.dq.same e, h.sh, Nat.le_trans h.dp h1, Nat.le_trans h.ct h2⟩
theorem Shws.nil {H : Hp} {n c : Nat} : Shws H [] [] n c := ⟨.nil, by simp only [PyData.showableAll], by simp only [PyData.depthAll]; omega, by simp only [costAll]; omega⟩
theorem Shws.cons {H : Hp} {v : V} {xs : List V} {D : PyData} {ds : List PyData} {n c c2 : Nat} (h : Shw H v D n c) (t : Shws H xs ds n c2) : Shws H (v :: xs) (D :: ds) n (c + 2 + c2) :=
  ⟨.cons h.dq t.dq, by simp only [PyData.showableAll]; rw [h.sh, t.sh]; rfl, by simp only [PyData.depthAll]; exact Nat.max_le.mpr ⟨h.dp, t.dp⟩, by simp only [costAll]; have := h.ct; have := t.ct; omega⟩
theorem Shws.app {H : Hp} {n c2 : Nat} {ys : List V} {es : List PyData} (t : Shws H ys es n c2) : ∀ {xs : List V} {ds : List PyData} {c : Nat}, Shws H xs ds n c → Shws H (xs ++ ys) (ds ++ es) n (c + c2) := by
  intro xs
  induction xs with
  | nil =>
    intro ds c h
    cases h.dq
    exact t.up (fun _ _ e => e) (Nat.le_refl _) (by omega)
  | cons x xs ih =>
    intro ds c h
    obtain ⟨dq, sh, dp, ct⟩ := h
    cases dq with
    | @cons _ _ D ds h1 h2 =>
      simp only [PyData.showableAll, Bool.and_eq_true] at sh
      simp only [PyData.depthAll] at dp
      simp only [costAll] at ct
      have z := Shws.cons ⟨h1, sh.1, Nat.le_trans (Nat.le_max_left _ _) dp, Nat.le_refl _⟩ (ih (ds := ds) (c := costAll ds) ⟨h2, sh.2, Nat.le_trans (Nat.le_max_right _ _) dp, Nat.le_refl _⟩)
      exact z.up (fun _ _ e => e) (Nat.le_refl _) (by omega)
theorem Shws.tup {H : Hp} {a : Addr} {xs : List V} {ds : List PyData} {n c : Nat} (h : H a = some (.tup xs)) (t : Shws H xs ds n c) : Shw H (.ref a) (.tuple ds) (n + 1) (c + 6) :=
  ⟨.tup trivial h t.dq, by simp only [PyData.showable]; exact t.sh, by simp only [PyData.depth]; have := t.dp; omega, by simp only [cost]; have := t.ct; omega⟩
theorem Shws.lst {H : Hp} {a : Addr} {xs : List V} {ds : List PyData} {n c : Nat} (h : H a = some (.lst xs)) (t : Shws H xs ds n c) : Shw H (.ref a) (.list ds) (n + 1) (c + 4) :=
  ⟨.lst trivial h t.dq, by simp only [PyData.showable]; exact t.sh, by simp only [PyData.depth]; have := t.dp; omega, by simp only [cost]; have := t.ct; omega⟩
theorem shw_non {H : Hp} : Shw H .non .none 0 130 := ⟨.non, by simp only [PyData.showable], by simp only [PyData.depth]; omega, by simp only [cost]; omega⟩
theorem shw_bl {H : Hp} (b : Bool) : Shw H (.bl b) (.bool b) 0 130 := ⟨.bl b, by simp only [PyData.showable], by simp only [PyData.depth]; omega, by simp only [cost]; omega⟩
theorem shw_int {H : Hp} {i : Int} (h : i.natAbs.log2 ≤ 127) : Shw H (.int i) (.int i) 0 130 := ⟨.int i, by simp only [PyData.showable, decide_eq_true_eq]; omega, by simp only [PyData.depth]; omega, by simp only [cost]; omega⟩
theorem shw_int2 {H : Hp} {i : Int} (h : i.natAbs.log2 ≤ 200) : Shw H (.int i) (.int i) 0 210 := ⟨.int i, by simp only [PyData.showable, decide_eq_true_eq]; omega, by simp only [PyData.depth]; omega, by simp only [cost]; omega⟩
def TxOk (x : Str) : Prop := x.length ≤ 12 ∧ ∀ c ∈ x.cps.toList, c < 16 ^ 8
theorem shw_tx {H : Hp} {x : Str} (h : TxOk x) : Shw H (.str x) (.str x) 0 130 := ⟨.str x, by simp only [PyData.showable], by simp only [PyData.depth]; omega, by simp only [cost]; have := PySem.StrLaws.reprText_len x h.2; have := h.1; omega⟩
theorem tx_name {x : Str} (h : nameOk x = true) : TxOk x := by
  unfold nameOk at h
  rw [Bool.and_eq_true, Bool.and_eq_true, decide_eq_true_eq] at h
  obtain ⟨h8, h1, _⟩ := h
  refine ⟨by omega, fun c hc => ?_⟩
  unfold Txt.isascii at h1
  rw [Array.all_eq_true] at h1
  obtain ⟨i, hi, rfl⟩ := List.mem_iff_getElem.mp hc
  have := of_decide_eq_true (h1 i (by simpa using hi))
  have e : x.cps.toList[i] = x.cps[i]'(by simpa using hi) := by simp
  rw [e]
  exact Nat.lt_trans this (by decide)
theorem tx_app {x y : Str} (h : nameOk x = true) (hy : y.length ≤ 4) (k : ∀ c ∈ y.cps.toList, c < 16 ^ 8) : TxOk (x ++ y) := by
  have hl : x.length ≤ 8 := by
    unfold nameOk at h
    rw [Bool.and_eq_true, decide_eq_true_eq] at h
    exact h.1
  have hx := tx_name h
  refine ⟨by rw [strLen_append]; omega, fun c hc => ?_⟩
  have e : (x ++ y).cps.toList = x.cps.toList ++ y.cps.toList := by
    show (x.cps ++ y.cps).toList = _
    simp
  rw [e] at hc
  rcases List.mem_append.mp hc with z | z
  · exact hx.2 c z
  · exact k c z
theorem shws_txs {H : Hp} : ∀ {g : List Str}, (∀ x ∈ g, TxOk x) → Shws H (g.map V.str) (g.map PyData.str) 0 (g.length * 132)
  | [], _ => Shws.nil
  | x :: g, h => by
    have z := Shws.cons (shw_tx (H := H) (h x List.mem_cons_self)) (shws_txs (H := H) (g := g) fun y hy => h y (List.mem_cons_of_mem _ hy))
    exact z.up (fun _ _ e => e) (Nat.le_refl _) (by rw [List.length_cons, Nat.succ_mul]; omega)
/-! ### tuples that stand on the heap -/
theorem slH_to {K : PySem.W.Frag} {H : Hp} {r : Addr} {rs : List V} {lo hi : Option Int} {Q : VK} (h : H r = some (.tup rs)) (q : ∀ (b : Addr) (H' : Hp), Same H H' → H' b = some (.tup (cutV rs lo hi)) → Q (.ref b) H') : rSlA K (.ref r) lo hi H Q := by
  refine ⟨r, rs, rfl, SqT.of h, fun ⟨z1, z2⟩ => q r H (fun _ _ e => e) ?_, fun _ p hp => q p _ (same_new hp) upd_same⟩
  have e : cutV rs lo hi = rs := by
    unfold cutV
    rw [z1, z2, List.drop_zero, Nat.sub_zero, List.take_length]
  rw [e]
  exact h
theorem catH_to {K : PySem.W.Frag} {H : Hp} {a b : Addr} {xs ys : List V} {Q : VK} (ha : H a = some (.tup xs)) (hb : H b = some (.tup ys)) (hl : xs.length + ys.length ≤ 1000) (q : ∀ (c : Addr) (H' : Hp), Same H H' → H' c = some (.tup (xs ++ ys)) → Q (.ref c) H') : rCatA K (.ref a) (.ref b) H Q := by
  refine ⟨a, b, xs, ys, rfl, rfl, SqT.of ha, SqT.of hb, by rw [sizeLine_eq]; omega, fun z => ?_, fun _ z => ?_, fun _ _ p hp => q p _ (same_new hp) upd_same⟩
  · refine q b H (fun _ _ e => e) ?_
    rw [z]
    exact hb
  · refine q a H (fun _ _ e => e) ?_
    rw [z, List.append_nil]
    exact ha
theorem cut_texts {g : List Str} {lo hi : Option Int} : ∃ g' : List Str, cutV (g.map V.str) lo hi = g'.map V.str ∧ (∀ x ∈ g', x ∈ g) ∧ g'.length ≤ g.length := by
  unfold cutV
  refine ⟨(g.drop (HT.sIx (g.map V.str).length 0 lo)).take (HT.sIx (g.map V.str).length (g.map V.str).length hi - HT.sIx (g.map V.str).length 0 lo), by rw [List.map_take, List.map_drop], fun x hx => List.mem_of_mem_drop (List.mem_of_mem_take hx), ?_⟩
  rw [List.length_take, List.length_drop]
  omega
/-- keys that are texts, each with True -/
def BoolsOf (g : List Str) (kvs : List (Key × V)) : Prop := ∀ p ∈ kvs, ∃ x ∈ g, p = (.inr x, .bl true)
theorem bools_put {g : List Str} {kvs : List (Key × V)} {x : Str} (h : BoolsOf g kvs) (hx : x ∈ g) : BoolsOf g (putK kvs (.inr x) (.bl true)) ∧ (putK kvs (.inr x) (.bl true)).length ≤ kvs.length + 1 := by
  unfold putK
  split
  · refine ⟨fun p hp => ?_, by rw [List.length_map]; omega⟩
    obtain ⟨q, hq, rfl⟩ := List.mem_map.mp hp
    obtain ⟨y, hy, rfl⟩ := h q hq
    refine ⟨y, hy, ?_⟩
    split <;> rfl
  · refine ⟨fun p hp => ?_, by rw [List.length_append]; exact Nat.le_refl _⟩
    rcases List.mem_append.mp hp with hp | hp
    · exact h p hp
    · exact ⟨x, hx, List.mem_singleton.mp hp⟩
theorem bools_merge {g : List Str} : ∀ (r : List Str) (kvs : List (Key × V)), (∀ x ∈ r, x ∈ g) → BoolsOf g kvs → BoolsOf g (mergeK kvs (r.map fun x => (Sum.inr x, V.bl true))) ∧ (mergeK kvs (r.map fun x => (Sum.inr x, V.bl true))).length ≤ kvs.length + r.length
  | [], kvs, _, h => ⟨h, Nat.le_refl _⟩
  | x :: r, kvs, hr, h => by
    obtain ⟨h1, h2⟩ := bools_put h (hr x List.mem_cons_self)
    obtain ⟨h3, h4⟩ := bools_merge r _ (fun y hy => hr y (List.mem_cons_of_mem _ hy)) h1
    refine ⟨h3, ?_⟩
    have e : mergeK kvs ((x :: r).map fun x => (Sum.inr x, V.bl true)) = mergeK (putK kvs (.inr x) (.bl true)) (r.map fun x => (Sum.inr x, V.bl true)) := rfl
    rw [e, List.length_cons]
    omega
theorem shw_dict {H : Hp} {a : Addr} {g : List Str} (hg : ∀ x ∈ g, TxOk x) {kvs : List (Key × V)} (h : H a = some (.dK kvs)) (b : BoolsOf g kvs) : ∃ D, Shw H (.ref a) D 1 (kvs.length * 264 + 4) := by
  have key : ∀ {kvs : List (Key × V)}, BoolsOf g kvs → ∃ ps : List (PyData × PyData), DqAll (fun _ => True) H (kvs.map fun p => kV p.1) (ps.map (·.1)) ∧ DqAll (fun _ => True) H (kvs.map fun p => p.2) (ps.map (·.2)) ∧ PyData.showableKv ps = true ∧ PyData.depthKv ps ≤ 0 ∧ costKv ps ≤ kvs.length * 264 := by
    intro kvs
    induction kvs with
    | nil => exact fun _ => ⟨[], .nil, .nil, by simp only [PyData.showableKv], by simp only [PyData.depthKv]; omega, by simp only [costKv]; omega⟩
    | cons p kvs ih =>
      intro b
      obtain ⟨ps, h1, h2, h3, h4, h5⟩ := ih fun q hq => b q (List.mem_cons_of_mem _ hq)
      obtain ⟨x, hx, rfl⟩ := b p List.mem_cons_self
      have s1 := shw_tx (H := H) (hg x hx)
      have s2 := shw_bl (H := H) true
      refine ⟨(.str x, .bool true) :: ps, .cons s1.dq h1, .cons s2.dq h2, ?_, ?_, ?_⟩
      · simp only [PyData.showableKv]
        rw [h3]
        simp [PyData.showable]
      · simp only [PyData.depthKv, PyData.depth]
        omega
      · simp only [costKv]
        have := s1.ct
        have := s2.ct
        rw [List.length_cons, Nat.succ_mul]
        omega
  obtain ⟨ps, h1, h2, h3, h4, h5⟩ := key b
  refine ⟨.dict ps, .dct trivial h h1 h2, by simp only [PyData.showable]; exact h3, by simp only [PyData.depth]; omega, by simp only [cost]; omega⟩
end K01
/-! t == (), l != []; of which type an item is. -/
namespace K01
open PySem PySem.Spec PyProof.Rows L2 KG KS KA KX KIa
/-- t == (), t a tuple of any items -/
def rEqT0 (K : PySem.W.Frag) : R2 := fun x y H Q => ∃ a b xs, x = .ref a ∧ y = .ref b ∧ SqT K H a xs ∧ SqT K H b [] ∧ Q (.bl xs.isEmpty) H
/-- l != [], l a list of any items -/
def rNeL0 (K : PySem.W.Frag) : R2 := fun x y H Q => ∃ a b xs, x = .ref a ∧ y = .ref b ∧ SqL K H a xs ∧ SqL K H b [] ∧ Q (.bl (!xs.isEmpty)) H
section
variable {X : Cx}
theorem op_eqT0 (hu : X.A.units + 64 < cLine) : OpR X (compareOp .Eq) (rEqT0 X.K) := by
  intro pins s σ H x y v u Q I rx ry h
  obtain ⟨a, b, xs, rfl, rfl, ha, hb, q⟩ := h
  cases (show v = Value.ref a from rx)
  cases (show u = Value.ref b from ry)
  obtain ⟨its, rv, pl, _⟩ := I.tuple ha
  obtain ⟨its2, rv2, pl2, _⟩ := I.tuple hb
  cases rv2
  refine SeqAt.eq_tupleAt (e := fun _ => true) pl pl2 (by omega) (fun j _ h2 => absurd h2 (by simp)) ⟨.bl _, H, I, rfl, ?_⟩
  cases rv with
  | nil => exact q
  | cons r1 r2 =>
    rw [show (List.all (List.range (min (_ :: _ : List Value).toArray.size ([] : List Value).toArray.size)) (fun _ => true) && (_ :: _ : List Value).toArray.size == ([] : List Value).toArray.size) = false by simp]
    exact q
theorem op_neL0 (hu : X.A.units + 64 < cLine) : OpR X (compareOp .NotEq) (rNeL0 X.K) := by
  intro pins s σ H x y v u Q I rx ry h
  obtain ⟨a, b, xs, rfl, rfl, ha, hb, q⟩ := h
  cases (show v = Value.ref a from rx)
  cases (show u = Value.ref b from ry)
  obtain ⟨its, rv, pl, _⟩ := I.list ha
  obtain ⟨its2, rv2, pl2, _⟩ := I.list hb
  cases rv2
  cases rv with
  | nil => exact SeqAt.RcNeAt.lists (e := fun _ => true) pl.isList pl2.isList rfl (by omega) (fun j _ h2 => absurd h2 (by simp)) _ _ _ _ ⟨.bl false, H, I, rfl, q⟩
  | cons r1 r2 => exact SeqAt.RcNeAt.lists_lengths pl.isList pl2.isList (by simp) (by omega) _ _ _ _ ⟨.bl true, H, I, rfl, q⟩
end
theorem tyL {K : PySem.W.Frag} {H : Hp} {a : Addr} {xs : List V} (h : SqL K H a xs) : TyX K H (.ref a) (.type "list") := by
  rcases h with (h | ⟨o, h⟩) | ⟨o, its, h1, h2⟩
  · exact .base (.lst h)
  · exact .base (.frz h)
  · obtain ⟨h2, h3, _⟩ := h2
    exact .kList h2 h3
/-- of which type an item is -/
theorem it_ty {K : PySem.W.Frag} {H : Hp} {v : V} {o : Option Str} (h : ItK K H v o) : ∃ t b, TyX K H v t ∧ PySem.W.kitOne K t (.type "str") = some b ∧ b = o.isSome := by
  cases h with
  | str x => exact ⟨_, true, .base (.str x), kit_ty (by decide +kernel), rfl⟩
  | int n => exact ⟨_, false, .base (.int n), kit_ty (by decide +kernel), rfl⟩
  | bl b => exact ⟨_, false, .base (.bl b), kit_ty (by decide +kernel), rfl⟩
  | non => exact ⟨_, false, .base .non, kit_ty (by decide +kernel), rfl⟩
  | lst h => exact ⟨_, false, tyL h, kit_ty (by decide +kernel), rfl⟩
  | tup h => exact ⟨_, false, tyT h, kit_ty (by decide +kernel), rfl⟩
  | dct h => exact ⟨_, false, .base (.dK h), kit_ty (by decide +kernel), rfl⟩
end K01
/-! is_name, are_names, is_domain, is_row of any values. -/
namespace K01
open PySem PySem.Spec PyProof.Rows L2 KG KS KA KIa
/-- any value: a tuple that stands plain, of texts and other things, or no tuple -/
inductive AnyK (K : PySem.W.Frag) (H : Hp) : V → Option (List (Option Str)) → Prop
  | tup {a : Addr} {xs : List V} {os : List (Option Str)} : H a = some (.tup xs) → W.EachIs (ItK K H) xs os → xs.length ≤ 200 → AnyK K H (.ref a) (some os)
  | non : AnyK K H .non none
  | bl (b : Bool) : AnyK K H (.bl b) none
  | str (x : Str) : AnyK K H (.str x) none
  | int (n : Int) : AnyK K H (.int n) none
  | lst {a : Addr} {xs : List V} : H a = some (.lst xs) → AnyK K H (.ref a) none
  | dct {a : Addr} {kvs : List (Key × V)} : H a = some (.dK kvs) → AnyK K H (.ref a) none
theorem AnyK.up {K : PySem.W.Frag} {H H' : Hp} {v : V} {g : Option (List (Option Str))} (e : Same H H') (h : AnyK K H v g) : AnyK K H' v g := by
  cases h with
  | tup hs hi l => exact .tup (e _ _ hs) (each_and hi fun a b _ z => z.same e) l
  | non => exact .non
  | bl b => exact .bl b
  | str x => exact .str x
  | int n => exact .int n
  | lst h => exact .lst (e _ _ h)
  | dct h => exact .dct (e _ _ h)
theorem AnyK.ty {K : PySem.W.Frag} {H : Hp} {v : V} {g : Option (List (Option Str))} (h : AnyK K H v g) : ∃ t b, TyX K H v t ∧ PySem.W.kitOne K t (.type "tuple") = some b ∧ b = g.isSome := by
  cases h with
  | tup h _ _ => exact ⟨_, true, tyT (SqT.of h), kit_ty (by decide +kernel), rfl⟩
  | non => exact ⟨_, false, .base .non, kit_ty (by decide +kernel), rfl⟩
  | bl b => exact ⟨_, false, .base (.bl b), kit_ty (by decide +kernel), rfl⟩
  | str x => exact ⟨_, false, .base (.str x), kit_ty (by decide +kernel), rfl⟩
  | int n => exact ⟨_, false, .base (.int n), kit_ty (by decide +kernel), rfl⟩
  | lst h => exact ⟨_, false, .base (.lst h), kit_ty (by decide +kernel), rfl⟩
  | dct h => exact ⟨_, false, .base (.dK h), kit_ty (by decide +kernel), rfl⟩
/-- texts that are not too long -/
def Short (os : List (Option Str)) : Prop := ∀ x, some x ∈ os → x.length ≤ 100
/-! ### names -/
def nmIt : Option Str → Bool
  | some x => nameOk x
  | none => false
def spNameA (K : PySem.W.Frag) : Sp := fun vs H Q _ => ∃ (v : V) (o : Option Str), vs = [v] ∧ ItK K H v o ∧ (∀ x, o = some x → x.length ≤ 100) ∧ Q (.bl (nmIt o)) H
/-- the texts of these are names, each once -/
def nmsIt : Option (List (Option Str)) → Bool
  | some os => os.all nmIt && decide ((os.filterMap id).Nodup)
  | none => false
def spNamesA (K : PySem.W.Frag) : Sp := fun vs H Q _ => ∃ (v : V) (g : Option (List (Option Str))), vs = [v] ∧ AnyK K H v g ∧ (∀ os, g = some os → Short os ∧ os.length < 64) ∧ ∀ H', Same H H' → Q (.bl (nmsIt g)) H'
/-- nodup, within, no longer: the same -/
theorem nodup_perm {α : Type} : ∀ {A B : List α}, A.Nodup → (∀ a ∈ A, a ∈ B) → B.length ≤ A.length → A.Perm B
  | [], [], _, _, _ => .nil
  | [], b :: B, _, _, h => absurd h (by simp)
  | a :: A, B, nd, sub, h => by
    obtain ⟨s, t, rfl⟩ := List.append_of_mem (sub a List.mem_cons_self)
    rw [List.nodup_cons] at nd
    have ih := nodup_perm (A := A) (B := s ++ t) nd.2 (fun x hx => by
      have z := sub x (List.mem_cons_of_mem _ hx)
      rcases List.mem_append.mp z with z | z
      · exact List.mem_append.mpr (.inl z)
      · rcases List.mem_cons.mp z with rfl | z
        · exact absurd hx nd.1
        · exact List.mem_append.mpr (.inr z)) (by
      rw [List.length_append, List.length_cons, List.length_cons] at h
      rw [List.length_append]
      omega)
    exact (ih.cons a).trans List.perm_middle.symm
theorem texts_of_all : ∀ {os : List (Option Str)}, (os.all nmIt) = true → ∃ xs : List Str, os = xs.map some ∧ ∀ x ∈ xs, nameOk x = true
  | [], _ => ⟨[], rfl, fun _ z => nomatch z⟩
  | o :: os, h => by
    rw [List.all_cons, Bool.and_eq_true] at h
    obtain ⟨xs, e, k⟩ := texts_of_all h.2
    cases o with
    | none => cases h.1
    | some x =>
      exact ⟨x :: xs, by rw [List.map_cons, e], fun y hy => (List.mem_cons.mp hy).elim (fun z => by rw [z]; exact h.1) (k y)⟩
theorem vs_texts {K : PySem.W.Frag} {H : Hp} : ∀ {xs : List V} {ts : List Str}, W.EachIs (ItK K H) xs (ts.map some) → xs = ts.map V.str
  | [], [], _ => rfl
  | _ :: _, [], h => nomatch h
  | [], _ :: _, h => nomatch h
  | v :: xs, t :: ts, .cons r q => by
    rw [List.map_cons, vs_texts q]
    cases r
    rfl
theorem fmap_some (g : List Str) : (g.map some).filterMap id = g := by
  induction g with
  | nil => rfl
  | cons x g ih =>
    rw [List.map_cons, List.filterMap_cons_some (by rfl), ih]
/-- a domain -/
def domIt : Option (List (Option Str)) → Bool
  | some os => os.all nmIt && (decide (1 ≤ os.length ∧ os.length ≤ 3) && decide ((os.filterMap id).Pairwise fun a b => ltT a b = true))
  | none => false
theorem domIt_iff {g : Option (List (Option Str))} : domIt g = true ↔ ∃ xs : List Str, g = some (xs.map some) ∧ (∀ x ∈ xs, nameOk x = true) ∧ AscT xs ∧ 1 ≤ xs.length ∧ xs.length ≤ 3 := by
  cases g with
  | none => exact Iff.intro (fun z => (nomatch z)) (fun ⟨_, z, _⟩ => by cases z)
  | some os =>
    unfold domIt
    rw [Bool.and_eq_true, Bool.and_eq_true, decide_eq_true_eq, decide_eq_true_eq]
    refine ⟨fun ⟨h1, h2, h3⟩ => ?_, fun ⟨xs, e, h1, h2, h3, h4⟩ => ?_⟩
    · obtain ⟨xs, rfl, ok⟩ := texts_of_all h1
      rw [fmap_some] at h3
      rw [List.length_map] at h2
      exact ⟨xs, rfl, ok, h3, h2.1, h2.2⟩
    · obtain rfl := Option.some.inj e
      refine ⟨?_, ?_, ?_⟩
      · rw [List.all_eq_true]
        intro o ho
        obtain ⟨x, hx, rfl⟩ := List.mem_map.mp ho
        exact h1 x hx
      · rw [List.length_map]
        exact ⟨h3, h4⟩
      · rw [fmap_some]
        exact h2
def spDomA (K : PySem.W.Frag) : Sp := fun vs H Q _ => ∃ (v : V) (g : Option (List (Option Str))), vs = [v] ∧ AnyK K H v g ∧ (∀ os, g = some os → Short os ∧ os.length < 64) ∧ ∀ H', Same H H' → Q (.bl (domIt g)) H'
theorem eqv_texts : ∀ xs ys : List Str, PyData.eqvAll (xs.map PyData.str) (ys.map PyData.str) = decide (xs = ys)
  | [], [] => rfl
  | [], y :: ys => by
    simp [PyData.eqvAll]
  | x :: xs, [] => by
    simp [PyData.eqvAll]
  | x :: xs, y :: ys => by
    rw [List.map_cons, List.map_cons, PyData.eqvAll, eqv_texts xs ys]
    by_cases e : x = y
    · subst e
      simp [PyData.eqv]
    · simp [PyData.eqv, e]
/-- is a row, of any value -/
def rowIt (ds : List Str) (n : Int) : Option (List (Option Str)) → Bool
  | some os => decide ((os.length : Int) = n) && os.all fun o => inIt o ds
  | none => false
def spRowG (K : PySem.W.Frag) : Sp := fun vs H Q _ => ∃ (v : V) (g : Option (List (Option Str))) (d : Addr) (ds : List Str) (n : Int), vs = [v, .ref d, .int n] ∧ AnyK K H v g ∧ SqT K H d (ds.map V.str) ∧ ∀ H', Same H H' → Q (.bl (rowIt ds n g)) H'
section
variable {P : Program} {w : World} {K : PySem.W.Frag} {mg : Str → Option Value} {base : Heap}
theorem ok_is_nameA (B : Bs mg) (f : FnF K mg "is_name" "is_name" s_is_name) : FnOk P w K mg base CX0 1 f.a f.d ["thing"] (spNameA K) := by
  obtain ⟨tn, cn⟩ := B.c_name
  refine f.F.ok sc_is_name (fun vs H Q E h => ?_) (fun cdv A outer s H vs Q E hr h => ?_)
  · obtain ⟨v, o, rfl, _⟩ := h
    rfl
  · obtain ⟨v, o, rfl, hi, sh, q⟩ := h
    refine ⟨_, (pss_cons
      (ps_if (PW.pt (pw_or (pt_not (pt_val (pe_callB call_isi (by rfl) B.n_isinstance (by decide +kernel) (pa_cons (pv 0) (pa_cons (pe_bltn (v := .ty "str") rfl B.n_str (by decide +kernel) rfl) pa_nil)))))
        (pw_or1 (pt_cmpR op_gt (pe_callB call_len (by rfl) B.n_len (by decide +kernel) (pa_cons (pv 0) pa_nil)) (pe_glob (v := .int 8) rfl cn ⟨_, rfl⟩) (nomark _)))))
        (pss_one
          (ps_ret pe_bl))
        pss_nil)
    (pss_one
      (ps_ret (pe_and (pe_bm0 PySem.F.plainAttrs_str PySem.F.slot_str_isascii PySem.F.type_str_isascii mt_isascii (pv 0)) (pe_and (pe_bm0 PySem.F.plainAttrs_str PySem.F.slot_str_isalpha PySem.F.type_str_isalpha mt_isalpha (pv 0)) (pe_one (pe_bm0 PySem.F.plainAttrs_str PySem.F.slot_str_islower PySem.F.type_str_islower mt_islower (pv 0)))))))), ?_⟩
    obtain ⟨t, b, ty, kt, eb⟩ := it_ty hi
    subst eb
    refine ⟨_, rfl, _, _, _, _, o.isSome, rfl, .ty "str", ty, kt, _, rfl, ?_⟩
    cases o with
    | none => exact iteT q
    | some x =>
      obtain rfl : v = .str x := by
        cases hi
        rfl
      have l100 := sh x rfl
      have e : nmIt (some x) = (decide (x.length ≤ 8) && (Txt.isascii x && (Txt.isalpha x && Txt.islower x))) := rfl
      rw [e] at q
      refine iteF ⟨_, rfl, .str x, x.length, rfl, ⟨by rw [sizeLine_eq]; omega, rfl⟩, _, _, rfl, rfl, _, rfl, ite2 (fun c => ?_) fun c => ?_⟩
      · have c := of_decide_eq_true c
        rw [decide_eq_false (by omega), Bool.false_and] at q
        exact q
      · have c8 : x.length ≤ 8 := Classical.byContradiction fun z => c (decide_eq_true (by omega))
        rw [decide_eq_true c8, Bool.true_and] at q
        refine ⟨_, rfl, rfl, x, rfl, rfl, trivial, _, rfl, ?_⟩
        cases h1 : Txt.isascii x with
        | false =>
          rw [h1] at q
          exact iteF q
        | true =>
          rw [h1, Bool.true_and] at q
          refine iteT ⟨_, rfl, rfl, x, rfl, rfl, trivial, _, rfl, ?_⟩
          cases h2 : Txt.isalpha x with
          | false =>
            rw [h2] at q
            exact iteF q
          | true =>
            rw [h2, Bool.true_and] at q
            exact iteT ⟨_, rfl, rfl, x, rfl, rfl, trivial, q⟩
theorem ok_are_namesA (B : Bs mg) (f : FnF K mg "are_names" "are_names" s_are_names) (fn : FnF K mg "is_name" "is_name" s_is_name) : FnOk P w K mg base CX0 2 f.a f.d ["thing"] (spNamesA K) := by
  have G := ok_is_nameA (P := P) (w := w) (base := base) B fn
  have bn : Binds K fn.d ["thing"] [] := fn.F.binds fun _ _ _ _ _ _ us hl => match us, hl with | [_], _ => rfl
  refine f.F.ok sc_are_names (fun vs H Q E h => ?_) (fun cdv A outer s H vs Q E hr h => ?_)
  · obtain ⟨v, g, rfl, _⟩ := h
    rfl
  · obtain ⟨v, g, rfl, hg, sh, q⟩ := h
    have hu64 := hr.units
    refine ⟨_, (pss_one
      (ps_ret (pe_and (pe_callB call_isi (by rfl) B.n_isinstance (by decide +kernel) (pa_cons (pv 0) (pa_cons (pe_bltn (v := .ty "tuple") rfl B.n_tuple (by decide +kernel) rfl) pa_nil)))
        (pe_and (pe_callB (cr_all rfl) (by rfl) B.n_all (by decide +kernel) (pa_cons (pe_lc (own := [("item", 1)]) (g := gName 1) (by rfl) sc_are_names.nd (pi_tup (pv 0)) (blkOk_by (own := [("item", 1)]) (N := ["thing", "item"]) (sc := defScope s_are_names) (by decide +kernel))
            (fun _ _ _ _ _ => (pg_name (i := 1) sc_are_names.nd rfl (Or.inl rfl))) (fun _ _ _ _ _ => pts_nil) (fun _ _ _ _ _ => (pe_call G hr rfl fn.g fn.F.kp bn .nil pass0 (pa_cons (pv 1) pa_nil)))) pa_nil))
        (pe_one (pe_cmpR op_eq (pe_callB cr_lenSet (by rfl) B.n_len (by decide +kernel) (pa_cons (pe_callTy (cr_setOf rfl hu64) (by rfl) B.n_set (by decide +kernel) (pa_cons (pv 0) pa_nil)) pa_nil)) (pe_callB call_len (by rfl) B.n_len (by decide +kernel) (pa_cons (pv 0) pa_nil)) (nomark _))))))), ?_⟩
    obtain ⟨t, b, ty, kt, eb⟩ := hg.ty
    subst eb
    refine ⟨_, rfl, _, _, _, _, g.isSome, rfl, .ty "tuple", ty, kt, _, rfl, ?_⟩
    cases g with
    | none => exact iteF (q H fun _ _ e => e)
    | some os =>
      obtain ⟨a, xs, rfl, ha, hi⟩ : ∃ a xs, v = .ref a ∧ H a = some (.tup xs) ∧ W.EachIs (ItK K H) xs os := by
        cases hg with
        | tup h1 h2 h3 => exact ⟨_, _, rfl, h1, h2⟩
      obtain ⟨sho, l64⟩ := sh os rfl
      have lo : xs.length = os.length := hi.length
      refine iteT ⟨_, rfl, a, rfl, ⟨_, SqT.of ha⟩, fun D hD => ?_⟩
      refine lc_tup (K := K) (xs := xs) (fun i H' => Same H H' ∧ H' D = some (.lst ((os.take i).map fun o => V.bl (nmIt o)))) ⟨same_new hD, upd_same⟩ (fun i H' _ p => SqT.of (p.1 _ _ ha)) ?_ ?_
      · rintro i y H' hy ⟨e1, eD⟩
        obtain ⟨o, ho, it⟩ := each_get hi hy
        have il : i < xs.length := (List.getElem?_eq_some_iff.mp hy).1
        refine ⟨rfl, _, rfl, y, o, rfl, it.same e1, (fun x hx => sho x (by rw [← hx]; exact List.mem_of_getElem? ho)), _, eD, by rw [List.length_map, List.length_take, sizeLine_eq]; omega, same_put hD e1, ?_⟩
        rw [upd_same, take_next ho, List.map_append]
        rfl
      · rintro H1 ⟨e1, eD⟩
        rw [lo, List.take_length] at eD
        refine ⟨D, os.map nmIt, rfl, SqL.of (by rw [List.map_map]; exact eD), _, rfl, ?_⟩
        rw [List.all_map, show (os.all (id ∘ nmIt)) = os.all nmIt from rfl]
        cases al : os.all nmIt with
        | false =>
          refine iteF ?_
          have z := q H1 e1
          rw [show nmsIt (some os) = (os.all nmIt && decide ((os.filterMap id).Nodup)) from rfl, al] at z
          exact z
        | true =>
          refine iteT ?_
          obtain ⟨ts, rfl, ok⟩ := texts_of_all al
          obtain rfl := vs_texts hi
          rw [List.length_map] at l64
          have fm : ∀ p ∈ ts.map fun x => ((V.str x, NestedKey.text x) : MemV), Kv K H1 p.1 p.2 ∧ FitV false p := fun p hp => by
            obtain ⟨x, _, rfl⟩ := List.mem_map.mp hp
            exact ⟨.str x, x, rfl⟩
          refine ⟨_, rfl, false, a, ts.map fun x => ((V.str x, NestedKey.text x) : MemV), rfl, .inr (SqT.of (by rw [texts_mem]; exact e1 _ _ ha)), fm, by rw [List.length_map]; exact l64, fun S L hS h1 h2 h3 => ?_⟩
          have eS := same_trans e1 (same_new (o := SetV false w S L) hS)
          refine ⟨false, S, L, rfl, upd_same, _, rfl, _, _, rfl, .inr ⟨_, SqT.of (eS _ _ ha), rfl⟩, rfl, ?_⟩
          have z := q _ eS
          rw [show nmsIt (some (ts.map some)) = ((ts.map some).all nmIt && decide (((ts.map some).filterMap id).Nodup)) from rfl, al, Bool.true_and, fmap_some] at z
          have key : decide (V.int (L.length : Nat) = V.int ((ts.map V.str).length : Nat)) = decide (ts.Nodup) := by
            rw [List.length_map]
            by_cases nd : ts.Nodup
            · rw [texts_len nd h1 h2 h3, decide_eq_true rfl, decide_eq_true nd]
            · rw [decide_eq_false nd]
              refine decide_eq_false fun e => nd ?_
              injection e with e
              have e : L.length = ts.length := by omega
              have pm : (L.map (·.2)).Perm ((ts.map fun x => ((V.str x, NestedKey.text x) : MemV)).map (·.2)) := nodup_perm h3 (fun k hk => by
                obtain ⟨p, hp, ek⟩ := List.mem_map.mp hk
                exact List.mem_map.mpr ⟨p, h1 p hp, ek⟩) (by rw [List.length_map, List.length_map, List.length_map]; omega)
              have nk := pm.nodup_iff.mp h3
              rw [List.map_map] at nk
              exact (List.pairwise_map.mp nk).imp fun {a b} h e => h (by rw [e])
          rw [key]
          exact z
theorem asc_dec (xs : List Str) : AscT xs = xs.Pairwise (fun a b => ltT a b = true) := rfl
theorem ok_is_domainA (B : Bs mg) (f : FnF K mg "is_domain" "is_domain" s_is_domain) (fa : FnF K mg "are_names" "are_names" s_are_names) (fn : FnF K mg "is_name" "is_name" s_is_name) (fs : FnF K mg "ascending" "ascending" s_ascending) :
    FnOk P w K mg base CX0 3 f.a f.d ["thing"] (spDomA K) := by
  obtain ⟨tv, cv⟩ := B.c_vals
  have G1 := ok_are_namesA (P := P) (w := w) (base := base) B fa fn
  have b1 : Binds K fa.d ["thing"] [] := fa.F.binds fun _ _ _ _ _ _ us hl => match us, hl with | [_], _ => rfl
  have G2 := ok_ascending (P := P) (w := w) (base := base) B fs
  have b2 : Binds K fs.d ["things"] [] := fs.F.binds fun _ _ _ _ _ _ us hl => match us, hl with | [_], _ => rfl
  refine f.F.ok sc_is_domain (fun vs H Q E h => ?_) (fun cdv A outer s H vs Q E hr h => ?_)
  · obtain ⟨v, g, rfl, _⟩ := h
    rfl
  · obtain ⟨v, g, rfl, hg, sh, q⟩ := h
    have hu64 := hr.units
    have hr1 : Room 1 _ := hr.mono (by omega)
    have hr2 : Room 2 _ := hr.mono (by omega)
    refine ⟨_, (pss_one
      (ps_ret (pe_and (pe_call G1 hr2 rfl fa.g fa.F.kp b1 .nil pass0 (pa_cons (pv 0) pa_nil)) (pe_and (pe_chain op_le op_le pe_int (pe_callB call_len (by rfl) B.n_len (by decide +kernel) (pa_cons (pv 0) pa_nil)) (pe_glob (v := .int 3) rfl cv ⟨_, rfl⟩))
        (pe_one (pe_cmpR (op_eqD hu64) (pv 0) (pe_call G2 hr1 rfl fs.g fs.F.kp b2 .nil pass0 (pa_cons (pv 0) pa_nil)) (nomark _))))))), ?_⟩
    refine ⟨_, rfl, v, g, rfl, hg, sh, fun H1 e1 => ⟨_, rfl, ?_⟩⟩
    have no : (domIt g = false) → Q (.bl false) H1 := fun e => by
      have z := q H1 e1
      rw [e] at z
      exact z
    cases nm : nmsIt g with
    | false =>
      refine iteF (no ?_)
      cases e : domIt g with
      | false => rfl
      | true =>
        obtain ⟨xs, rfl, ok, asc, _, _⟩ := domIt_iff.mp e
        have nd : xs.Nodup := asc.imp fun {a b} h e => by rw [e, ltT_irr] at h; cases h
        have al : (xs.map some).all nmIt = true := by
          rw [List.all_eq_true]
          intro o ho
          obtain ⟨x, hx, rfl⟩ := List.mem_map.mp ho
          exact ok x hx
        rw [show nmsIt (some (xs.map some)) = ((xs.map some).all nmIt && decide (((xs.map some).filterMap id).Nodup)) from rfl, al, fmap_some, decide_eq_true nd] at nm
        cases nm
    | true =>
      cases g with
      | none => cases nm
      | some os =>
        obtain ⟨a, vs, rfl, ha, hi⟩ : ∃ a xs, v = .ref a ∧ H a = some (.tup xs) ∧ W.EachIs (ItK K H) xs os := by
          cases hg with
          | tup h1 h2 h3 => exact ⟨_, _, rfl, h1, h2⟩
        rw [show nmsIt (some os) = (os.all nmIt && decide ((os.filterMap id).Nodup)) from rfl, Bool.and_eq_true, decide_eq_true_eq] at nm
        obtain ⟨al, nd⟩ := nm
        obtain ⟨xs, rfl, ok⟩ := texts_of_all al
        obtain rfl := vs_texts hi
        rw [fmap_some] at nd
        have l64 := (sh _ rfl).2
        rw [List.length_map] at l64
        have dm : domIt (some (xs.map some)) = (decide (1 ≤ xs.length ∧ xs.length ≤ 3) && decide (xs.Pairwise fun a b => ltT a b = true)) := by
          rw [show domIt (some (xs.map some)) = ((xs.map some).all nmIt && (decide (1 ≤ (xs.map some).length ∧ (xs.map some).length ≤ 3) && decide (((xs.map some).filterMap id).Pairwise fun a b => ltT a b = true))) from rfl, al, Bool.true_and, fmap_some, List.length_map]
        have no2 : ¬ (1 ≤ xs.length ∧ xs.length ≤ 3) → Q (.bl false) H1 := fun z => no (by rw [dm, decide_eq_false z]; rfl)
        refine iteT ⟨_, rfl, .ref a, xs.length, rfl, .inr ⟨_, SqT.of (e1 _ _ ha), by rw [List.length_map]⟩, _, _, rfl, rfl, _, rfl, ite2 (fun c1 => ?_) fun c1 => ⟨_, rfl, iteF (no2 fun z => c1 (decide_eq_true (by omega)))⟩⟩
        have c1 := of_decide_eq_true c1
        refine ⟨_, _, rfl, rfl, _, rfl, ite2 (fun c2 => ?_) fun c2 => no2 fun z => c2 (decide_eq_true (by omega))⟩
        have c2 := of_decide_eq_true c2
        refine ⟨_, rfl, _, rfl, false, a, xs.map tx, rfl, .inr (SqT.of (by rw [texts_mem]; exact e1 _ _ ha)), texts_kv xs, by rw [List.length_map]; omega, (texts_al xs).1, (texts_al xs).2, fun L p H2 h1 h2 h3 h4 hp e2 hL => ?_⟩
        obtain ⟨ys, eL, sub⟩ : ∃ ys : List Str, L = ys.map tx ∧ ∀ y ∈ ys, y ∈ xs := by
          clear hL h2 h3 h4
          induction L with
          | nil => exact ⟨[], rfl, fun _ z => nomatch z⟩
          | cons m L ih =>
            obtain ⟨ys, e, s⟩ := ih fun m hm => h1 m (List.mem_cons_of_mem _ hm)
            obtain ⟨x, hx, rfl⟩ := List.mem_map.mp (h1 m List.mem_cons_self)
            exact ⟨x :: ys, by rw [List.map_cons, e], fun y hy => (List.mem_cons.mp hy).elim (fun z => by rw [z]; exact hx) (s y)⟩
        rw [eL, texts_mem] at hL
        refine ⟨txd xs, txd ys, .tup (SqT.of (e2 _ _ (e1 _ _ ha))) (texts_dp xs), .tup (SqT.of hL) (texts_dp ys), txd_shaped fun x hx => name_strOk (ok x hx), txd_shaped fun x hx => name_strOk (ok x (sub x hx)), ?_⟩
        have ev : PyData.eqv (txd xs) (txd ys) = decide (xs = ys) := by
          simp only [txd, PyData.eqv]
          exact eqv_texts xs ys
        rw [ev]
        have z := q H2 (same_trans e1 e2)
        rw [dm, decide_eq_true (show 1 ≤ xs.length ∧ xs.length ≤ 3 by omega), Bool.true_and] at z
        have key : decide (xs = ys) = decide (xs.Pairwise fun a b => ltT a b = true) := by
          by_cases asc : AscT xs
          · have e := asc_same (List.pairwise_map.mpr asc) h1 h2 h3 h4
            rw [eL] at e
            have e2 : ys = xs := by
              have z := congrArg (List.map fun p : MemV => p.1) e
              rw [texts_mem, texts_mem] at z
              exact (List.map_inj_right fun _ _ z => V.str.inj z).mp z
            rw [decide_eq_true e2.symm, decide_eq_true asc]
          · rw [decide_eq_false (show ¬ (xs.Pairwise fun a b => ltT a b = true) from asc)]
            refine decide_eq_false fun e => asc ?_
            subst e
            rw [eL] at h3 h4
            rw [asc_dec]
            refine List.Pairwise.imp₂ (R := fun x y => x ≠ y) (S := fun x y => ltT y x = false) (fun x y h1 h2 => ?_) nd (List.pairwise_map.mp h4)
            cases e : ltT x y with
            | true => rfl
            | false => exact absurd (ltT_total e h2) h1
        rw [key]
        exact z
theorem ok_is_rowG (B : Bs mg) (f : FnF K mg "is_row" "is_row" s_is_row) : FnOk P w K mg base CX0 1 f.a f.d ["thing", "domain", "length"] (spRowG K) := by
  refine f.F.ok sc_is_row (fun vs H Q E h => ?_) (fun cdv A outer s H vs Q E hr h => ?_)
  · obtain ⟨v, g, d, ds, n, rfl, _⟩ := h
    rfl
  · obtain ⟨v, g, d, ds, n, rfl, hg, hd, q⟩ := h
    have hu64 := hr.units
    refine ⟨_, (pss_one
      (ps_ret (pe_and (pe_callB call_isi (by rfl) B.n_isinstance (by decide +kernel) (pa_cons (pv 0) (pa_cons (pe_bltn (v := .ty "tuple") rfl B.n_tuple (by decide +kernel) rfl) pa_nil)))
        (pe_and (pe_cmpR op_eq (pe_callB call_len (by rfl) B.n_len (by decide +kernel) (pa_cons (pv 0) pa_nil)) (pv 2) (nomark _))
          (pe_one (pe_callB (cr_all rfl) (by rfl) B.n_all (by decide +kernel) (pa_cons (pe_lc (own := [("value", 3)]) (g := gName 3) (by rfl) sc_is_row.nd (pi_tup (pv 0)) (blkOk_by (own := [("value", 3)]) (N := ["thing", "domain", "length", "value"]) (sc := defScope s_is_row) (by decide +kernel))
            (fun _ _ _ _ _ => (pg_name (i := 3) sc_is_row.nd rfl (Or.inl rfl))) (fun _ _ _ _ _ => pts_nil) (fun _ _ _ _ _ => (pe_cmpR (show OpR _ (compareOp .In) (rInIt K) from op_inIt hu64) (pv 3) (pv 1) (by rfl)))) pa_nil))))))), ?_⟩
    obtain ⟨t, b, ty, kt, eb⟩ := hg.ty
    subst eb
    refine ⟨_, rfl, _, _, _, _, g.isSome, rfl, .ty "tuple", ty, kt, _, rfl, ?_⟩
    cases g with
    | none => exact iteF (q H fun _ _ e => e)
    | some os =>
      obtain ⟨a, xs, rfl, ha, hi, few⟩ : ∃ a xs, v = .ref a ∧ H a = some (.tup xs) ∧ W.EachIs (ItK K H) xs os ∧ xs.length ≤ 200 := by
        cases hg with
        | tup h1 h2 h3 => exact ⟨_, _, rfl, h1, h2, h3⟩
      have lo : xs.length = os.length := hi.length
      refine iteT ⟨_, rfl, .ref a, xs.length, rfl, .inr ⟨_, SqT.of ha, rfl⟩, _, rfl, rfl, _, rfl, ?_⟩
      have rw1 : rowIt ds n (some os) = (decide (V.int (xs.length : Nat) = V.int n) && os.all fun o => inIt o ds) := by
        show (decide ((os.length : Int) = n) && _) = _
        congr 1
        rw [lo]
        by_cases e : (os.length : Int) = n
        · rw [decide_eq_true e, decide_eq_true (by rw [e])]
        · rw [decide_eq_false e, decide_eq_false fun z => e (by injection z)]
      rw [rw1] at q
      cases c : decide (V.int (xs.length : Nat) = V.int n) with
      | false =>
        rw [c] at q
        exact iteF (q H fun _ _ e => e)
      | true =>
        rw [c, Bool.true_and] at q
        refine iteT ⟨_, rfl, a, rfl, ⟨_, SqT.of ha⟩, fun D hD => ?_⟩
        refine lc_tup (K := K) (xs := xs) (fun i H' => Same H H' ∧ H' D = some (.lst ((os.take i).map fun o => V.bl (inIt o ds)))) ⟨same_new hD, upd_same⟩ (fun i H' _ p => SqT.of (p.1 _ _ ha)) ?_ ?_
        · rintro i y H' hy ⟨e1, eD⟩
          obtain ⟨o, ho, it⟩ := each_get hi hy
          have il : i < xs.length := (List.getElem?_eq_some_iff.mp hy).1
          refine ⟨rfl, _, rfl, _, rfl, o, d, ds, it.same e1, rfl, same_seqT e1 hd, ?_⟩
          refine ⟨_, eD, by rw [List.length_map, List.length_take, sizeLine_eq]; omega, same_put hD e1, ?_⟩
          rw [upd_same, take_next ho, List.map_append]
          rfl
        · rintro H1 ⟨e1, eD⟩
          rw [lo, List.take_length] at eD
          refine ⟨D, os.map fun o => inIt o ds, rfl, SqL.of (by rw [List.map_map]; exact eD), ?_⟩
          rw [List.all_map]
          exact q _ e1
end
end K01
/-! Vote.__init__ of any values. -/
namespace K01
open PySem PySem.Spec PyProof.Rows L2 KG KS KA KX KIa KCt
def txts : Option (List (Option Str)) → List Str
  | some os => os.filterMap id
  | none => []
def winsOk (ps : List (List Str)) (rs : List Str) : Bool := (ps.zip rs).all fun p => decide (winS p.1 = none ∨ winS p.1 = some p.2)
theorem row_texts {ds : List Str} {n : Int} {g : Option (List (Option Str))} (h : rowIt ds n g = true) : ∃ rs : List Str, g = some (rs.map some) ∧ (rs.length : Int) = n ∧ ∀ x ∈ rs, x ∈ ds := by
  cases g with
  | none => cases h
  | some os =>
    rw [show rowIt ds n (some os) = (decide ((os.length : Int) = n) && os.all fun o => inIt o ds) from rfl, Bool.and_eq_true, decide_eq_true_eq] at h
    obtain ⟨h1, h2⟩ := h
    have key : ∀ {os : List (Option Str)}, (os.all fun o => inIt o ds) = true → ∃ rs : List Str, os = rs.map some ∧ ∀ x ∈ rs, x ∈ ds := by
      intro os
      induction os with
      | nil => exact fun _ => ⟨[], rfl, fun _ z => nomatch z⟩
      | cons o os ih =>
        intro h
        rw [List.all_cons, Bool.and_eq_true] at h
        obtain ⟨rs, e, s⟩ := ih h.2
        cases o with
        | none =>
          rw [inIt_none] at h
          cases h.1
        | some x =>
          rw [inIt_some] at h
          exact ⟨x :: rs, by rw [List.map_cons, e], fun y hy => (List.mem_cons.mp hy).elim (fun z => by rw [z]; exact of_decide_eq_true h.1) (s y)⟩
    obtain ⟨rs, rfl, s⟩ := key h2
    rw [List.length_map] at h1
    exact ⟨rs, rfl, h1, s⟩
theorem any_tup {K : PySem.W.Frag} {H : Hp} {v : V} {ts : List Str} (h : AnyK K H v (some (ts.map some))) : ∃ a, v = .ref a ∧ H a = some (.tup (ts.map V.str)) := by
  cases h with
  | tup h1 h2 _ =>
    obtain rfl := vs_texts h2
    exact ⟨_, rfl, h1⟩
theorem rows_ks {H : Hp} : ∀ {vs : List V} {R : List (List Str)}, RowsAt H vs R → ∃ ks : List (Addr × List Str), vs = ks.map (fun p => V.ref p.1) ∧ ks.map (·.2) = R ∧ ∀ p ∈ ks, H p.1 = some (.tup (p.2.map V.str))
  | _, _, .nil => ⟨[], rfl, rfl, fun _ z => nomatch z⟩
  | _, _, .cons (b := r) ⟨a, e1, e2⟩ t => by
    obtain ⟨ks, h1, h2, h3⟩ := rows_ks t
    refine ⟨(a, r) :: ks, by rw [List.map_cons, e1, h1], by rw [List.map_cons, h2], fun p hp => ?_⟩
    rcases List.mem_cons.mp hp with rfl | hp
    · exact e2
    · exact h3 p hp
end K01
/-! The sets of a book's values in their order. -/
namespace KA
open PySem PySem.Spec PyProof.Rows L2 KS K01
/-- one set ahead of another: fewer values, or as many and the lesser ones -/
def ltK (a b : List Str) : Bool := W.dataLt (KLm.kd a) (KLm.kd b)
theorem ltK_eq (a b : List Str) : ltK a b = if a.length = b.length then ltR a b else decide (a.length < b.length) := by
  have e : ltK a b = W.rowLt [.int (a.length : Nat), txd a] [.int (b.length : Nat), txd b] := W.dataLt_tuple ..
  rw [e]
  show PyProof.Rows.lexLt itemOrd (W.keyToksAll (.int (a.length : Nat) :: [txd a])) (W.keyToksAll (.int (b.length : Nat) :: [txd b])) = _
  rw [W.dataLt_cons (by rfl)]
  by_cases h : a.length = b.length
  · rw [if_pos h]
    have z : PyData.eqv (.int (a.length : Nat)) (.int (b.length : Nat)) = true := by rw [h]; simp [PyData.eqv]
    rw [if_pos z]
    show PyProof.Rows.lexLt itemOrd (W.keyToksAll (txd a :: [])) (W.keyToksAll (txd b :: [])) = _
    rw [W.dataLt_cons (by simp [txd, W.alike, KLm.alike_strs])]
    by_cases q : PyData.eqv (txd a) (txd b) = true
    · rw [if_pos q]
      have e1 : W.keyToks (txd a) = W.keyToks (txd b) := (W.toks_eqv _ _ (by simp [txd, W.alike, KLm.alike_strs])).1 q
      have e2 : ltR a b = false := by
        show PyProof.Rows.lexLt itemOrd (W.keyToks (txd a)) (W.keyToks (txd b)) = false
        rw [e1]
        exact lex_irrefl _
      rw [e2]
      exact lex_irrefl _
    · rw [if_neg q]
      rfl
  · rw [if_neg h]
    have z : ¬ PyData.eqv (.int (a.length : Nat)) (.int (b.length : Nat)) = true := by
      simp only [PyData.eqv]
      intro q
      exact h (Int.ofNat.inj (of_decide_eq_true q))
    rw [if_neg z, W.dataLt_int]
    simp
theorem ltK_same {a b : List Str} (e : a.length = b.length) : ltK a b = ltR a b := by rw [ltK_eq, if_pos e]
theorem ltK_trans {a b c : List Str} (h : ltK a b = true) (k : ltK b c = true) : ltK a c = true := lex_trans _ _ _ h k
theorem ltK_total {a b : List Str} (h : ltK a b = false) (k : ltK b a = false) : a = b := by
  rw [ltK_eq] at h k
  by_cases e : a.length = b.length
  · rw [if_pos e] at h
    rw [if_pos e.symm] at k
    exact ltR_total e h k
  · rw [if_neg e] at h
    rw [if_neg fun z => e z.symm] at k
    have := of_decide_eq_false h
    have := of_decide_eq_false k
    omega
theorem ltK_asym {a b : List Str} (h : ltK a b = true) : ltK b a = false := by
  cases e : ltK b a with
  | false => rfl
  | true =>
    have z : ltK a a = true := ltK_trans h e
    have z2 : ltK a a = false := lex_irrefl _
    rw [z2] at z
    cases z
/-- the sets, as they are built -/
def subs (xs : List Str) : List (List Str) := xs.foldl (fun S x => S ++ S.map (· ++ [x])) [[]]
/-- the sets in their order -/
def nesL : List Str → List (List Str)
  | [a] => [[a]]
  | [a, b] => [[a], [b], [a, b]]
  | [a, b, c] => [[a], [b], [c], [a, b], [a, c], [b, c], [a, b, c]]
  | _ => []
theorem len3 {xs : List Str} (h : 1 ≤ xs.length) (k : xs.length ≤ 3) : (∃ a, xs = [a]) ∨ (∃ a b, xs = [a, b]) ∨ ∃ a b c, xs = [a, b, c] := by
  match xs, h, k with
  | [a], _, _ => exact .inl ⟨a, rfl⟩
  | [a, b], _, _ => exact .inr (.inl ⟨a, b, rfl⟩)
  | [a, b, c], _, _ => exact .inr (.inr ⟨a, b, c, rfl⟩)
theorem nes_perm {xs : List Str} (h : 1 ≤ xs.length) (k : xs.length ≤ 3) : (nesL xs).Perm (subs xs).tail := by
  rcases len3 h k with ⟨a, rfl⟩ | ⟨a, b, rfl⟩ | ⟨a, b, c, rfl⟩
  · exact .refl _
  · exact .refl _
  · exact .cons _ (.cons _ (.swap _ _ _))
theorem nes_asc {xs : List Str} (h : AscT xs) : (nesL xs).Pairwise fun a b => ltK a b = true := by
  have one : ∀ {a b : Str}, ltT a b = true → ltK [a] [b] = true := fun {a b} e => by
    rw [ltK_same (by simp), ltR_cons, if_neg (fun z => by rw [z, ltT_irr] at e; cases e)]
    exact e
  have len : ∀ {a b : List Str}, a.length < b.length → ltK a b = true := fun {a b} e => by
    rw [ltK_eq, if_neg (by omega)]
    exact decide_eq_true e
  have snd : ∀ {a b c : Str}, ltT b c = true → ltK [a, b] [a, c] = true := fun {a b c} e => by
    rw [ltK_same (by simp), ltR_cons, if_pos rfl, ltR_cons, if_neg (fun z => by rw [z, ltT_irr] at e; cases e)]
    exact e
  have fst : ∀ {a b c d : Str}, ltT a b = true → ltK [a, c] [b, d] = true := fun {a b c d} e => by
    rw [ltK_same (by simp), ltR_cons, if_neg (fun z => by rw [z, ltT_irr] at e; cases e)]
    exact e
  match xs, h with
  | [], _ => exact .nil
  | [a], _ => exact List.pairwise_singleton _ _
  | [a, b], h =>
    have ab := List.rel_of_pairwise_cons h (List.mem_singleton.mpr rfl)
    simp only [nesL, List.pairwise_cons, List.mem_cons, List.not_mem_nil, or_false, forall_eq_or_imp, forall_eq]
    exact ⟨⟨one ab, len (by simp)⟩, len (by simp), fun _ z => (nomatch z), .nil⟩
  | [a, b, c], h =>
    have ab := List.rel_of_pairwise_cons h List.mem_cons_self
    have ac := List.rel_of_pairwise_cons h (List.mem_cons_of_mem _ (List.mem_singleton.mpr rfl))
    have bc := List.rel_of_pairwise_cons (List.pairwise_cons.mp h).2 (List.mem_singleton.mpr rfl)
    simp only [nesL, List.pairwise_cons, List.mem_cons, List.not_mem_nil, or_false, forall_eq_or_imp, forall_eq]
    exact ⟨⟨one ab, one ac, len (by simp), len (by simp), len (by simp), len (by simp)⟩, ⟨one bc, len (by simp), len (by simp), len (by simp), len (by simp)⟩, ⟨len (by simp), len (by simp), len (by simp), len (by simp)⟩, ⟨snd bc, fst ab, len (by simp)⟩, ⟨fst ab, len (by simp)⟩, len (by simp), fun _ z => (nomatch z), .nil⟩
  | _ :: _ :: _ :: _ :: _, _ => exact .nil
theorem nes0_perm {xs : List Str} (h : 1 ≤ xs.length) (k : xs.length ≤ 3) : ([] :: nesL xs).Perm (subs xs) := by
  rcases len3 h k with ⟨a, rfl⟩ | ⟨a, b, rfl⟩ | ⟨a, b, c, rfl⟩
  · exact .refl _
  · exact .refl _
  · exact .cons _ (.cons _ (.cons _ (.swap _ _ _)))
theorem nes0_asc {xs : List Str} (h : AscT xs) : ([] :: nesL xs).Pairwise fun a b => ltK a b = true := by
  refine .cons (fun g hg => ?_) (nes_asc h)
  have ne : 0 < g.length := by
    match xs, hg with
    | [a], hg =>
      simp only [nesL, List.mem_cons, List.not_mem_nil, or_false] at hg
      rw [hg]
      simp
    | [a, b], hg =>
      simp only [nesL, List.mem_cons, List.not_mem_nil, or_false] at hg
      rcases hg with rfl | rfl | rfl <;> simp
    | [a, b, c], hg =>
      simp only [nesL, List.mem_cons, List.not_mem_nil, or_false] at hg
      rcases hg with rfl | rfl | rfl | rfl | rfl | rfl | rfl <;> simp
    | [], hg => cases hg
    | _ :: _ :: _ :: _ :: _, hg => cases hg
  rw [ltK_eq, if_neg (by show ¬ 0 = g.length; omega)]
  exact decide_eq_true ne
theorem nes0_is {xs : List Str} {G : List (List Str)} (h : AscT xs) (h1 : 1 ≤ xs.length) (h3 : xs.length ≤ 3) (p : G.Perm (subs xs)) (so : G.Pairwise fun a b => ltK b a = false) : G = [] :: nesL xs :=
  List.Perm.eq_of_pairwise (le := fun a b => ltK b a = false) (fun a b _ _ k1 k2 => ltK_total k2 k1) so ((nes0_asc h).imp fun {a b} e => ltK_asym e) (p.trans (nes0_perm h1 h3).symm)
/-- what is in the order is the order -/
theorem nes_is {xs : List Str} {G : List (List Str)} (h : AscT xs) (h1 : 1 ≤ xs.length) (h3 : xs.length ≤ 3) (p : G.Perm (subs xs).tail) (so : G.Pairwise fun a b => ltK b a = false) : G = nesL xs :=
  List.Perm.eq_of_pairwise (le := fun a b => ltK b a = false) (fun a b _ _ k1 k2 => ltK_total k2 k1) so ((nes_asc h).imp fun {a b} e => ltK_asym e) (p.trans (nes_perm h1 h3).symm)
/-- sorted by what stands before it -/
theorem sort_is {α : Type} (f : α → List Str) {xs : List Str} (ps : List α) (h : AscT xs) (h1 : 1 ≤ xs.length) (h3 : xs.length ≤ 3) (p : (ps.map f).Perm (subs xs).tail) : (ps.mergeSort (W.dataLe false fun q => KLm.kd (f q))).map f = nesL xs := by
  have so := List.pairwise_mergeSort (le := W.dataLe false fun q => KLm.kd (f q)) (fun a b c e1 e2 => ?_) (fun a b => ?_) ps
  · refine nes_is h h1 h3 (((List.mergeSort_perm ps _).map f).trans p) (List.pairwise_map.mpr (so.imp fun {a b} e => ?_))
    rw [W.dataLe_eq] at e
    have e : (!ltK (f b) (f a)) = true := e
    simpa using e
  · rw [W.dataLe_eq] at e1 e2 ⊢
    have e1 : (!ltK (f b) (f a)) = true := e1
    have e2 : (!ltK (f c) (f b)) = true := e2
    show (!ltK (f c) (f a)) = true
    simp only [Bool.not_eq_true'] at e1 e2 ⊢
    cases e : ltK (f c) (f a) with
    | false => rfl
    | true =>
      cases e3 : ltK (f a) (f b) with
      | true =>
        have z := ltK_trans e e3
        rw [e2] at z
        cases z
      | false =>
        have z := ltK_total e3 e1
        rw [z, e2] at e
        cases e
  · rw [W.dataLe_eq]
    show (!ltK (f b) (f a) || !ltK (f a) (f b)) = true
    cases e : ltK (f b) (f a) with
    | false => rfl
    | true =>
      rw [ltK_asym e]
      rfl
/-- sorted by what stands before it -/
theorem sort0_is {α : Type} (f : α → List Str) {xs : List Str} (ps : List α) (h : AscT xs) (h1 : 1 ≤ xs.length) (h3 : xs.length ≤ 3) (p : (ps.map f).Perm (subs xs)) : (ps.mergeSort (W.dataLe false fun q => KLm.kd (f q))).map f = [] :: nesL xs := by
  have so := List.pairwise_mergeSort (le := W.dataLe false fun q => KLm.kd (f q)) (fun a b c e1 e2 => ?_) (fun a b => ?_) ps
  · refine nes0_is h h1 h3 (((List.mergeSort_perm ps _).map f).trans p) (List.pairwise_map.mpr (so.imp fun {a b} e => ?_))
    rw [W.dataLe_eq] at e
    have e : (!ltK (f b) (f a)) = true := e
    simpa using e
  · rw [W.dataLe_eq] at e1 e2 ⊢
    have e1 : (!ltK (f b) (f a)) = true := e1
    have e2 : (!ltK (f c) (f b)) = true := e2
    show (!ltK (f c) (f a)) = true
    simp only [Bool.not_eq_true'] at e1 e2 ⊢
    cases e : ltK (f c) (f a) with
    | false => rfl
    | true =>
      cases e3 : ltK (f a) (f b) with
      | true =>
        have z := ltK_trans e e3
        rw [e2] at z
        cases z
      | false =>
        have z := ltK_total e3 e1
        rw [z, e2] at e
        cases e
  · rw [W.dataLe_eq]
    show (!ltK (f b) (f a) || !ltK (f a) (f b)) = true
    cases e : ltK (f b) (f a) with
    | false => rfl
    | true =>
      rw [ltK_asym e]
      rfl
end KA
/-! nonempty_sets. -/
namespace K01
open PySem PySem.Spec PyProof.Rows L2 KG KS KA LamX KLm
abbrev rLen0 (K : PySem.W.Frag) : List V → Hp → VK → Prop := fun xs H Q => ∃ x n, xs = [x] ∧ LenV K x H n ∧ Q (.int (n : Nat)) H
abbrev s_sets_up_to : Stmt := top 15
abbrev s_nonempty_sets : Stmt := top 16
/-- a def whose code object is known -/
structure FnC (K : PySem.W.Frag) (mg : Str → Option Value) (x : Str) (st : Stmt) extends FnF K mg x x st where
  c : Addr
  ex : ∃ (oc : Value) (od an : Option Addr) (osl : Array (Option Value)) (kV doc pm ct : Value), d = PySem.W.fnOf x x (defArgs st) (defBody st) (defScope st) .none kV doc pm an (.ref c) ct ∧
    K.lookup a = some ⟨oc, od, .func d, osl⟩ ∧ PySem.W.codeIn K (.ref c) x = true
section
variable {P : Program} {w : World} {K : PySem.W.Frag} {mg : Str → Option Value} {base : Heap}
theorem FnC.ok {x : Str} {st : Stmt} {N ps : List Str} {k : Nat} {sp : Sp} (f : FnC K mg x st) (S : FnScope N ps (defScope st)) (len : ∀ vs H Q E, sp vs H Q E → vs.length = ps.length)
    (hbody : ∀ (A : Around) (outer : List Env) (s : Shared) (H : Hp) (vs : List V) (Q : VK) (E : XK), Room k (A.deeper (envOfC x (defScope st) s.heap.objs.size f.a (.ref f.c))) → sp vs H Q E →
      ∃ t, PSs (cxOf CX0 P w K mg base N x (defScope st) f.a (.ref f.c) A outer s H E).nox (defBody st) t ∧ t { nx := fun _ H' => Q .non H', rt := Q } (start N vs) H) : FnOk P w K mg base CX0 (k + 1) f.a f.d ps sp := by
  obtain ⟨oc, od, an, osl, kV, doc, pm, ct, e, lk, hcd⟩ := f.ex
  rw [e] at lk ⊢
  refine fn_of lk hcd S len fun A outer s H vs Q E hr hsp => ?_
  obtain ⟨t, h, q⟩ := hbody A outer s H vs Q E hr hsp
  exact ⟨t, h.nox, q⟩
end
theorem ExtN.rows {H H' : Hp} (e : ExtN H H') {vs : List V} {R : List (List Str)} (h : RowsAt H vs R) : RowsAt H' vs R := each_and h fun v ts _ ⟨a, e1, e2⟩ => ⟨a, e1, e _ _ e2 fun _ z => by cases z⟩
theorem subs_next {xs : List Str} {i : Nat} {x : Str} (h : xs[i]? = some x) : subs (xs.take (i + 1)) = subs (xs.take i) ++ (subs (xs.take i)).map (· ++ [x]) := by
  unfold subs
  rw [take_next h, List.foldl_append]
  rfl
theorem subs_len (xs : List Str) : ∀ i, i ≤ xs.length → (subs (xs.take i)).length = 2 ^ i ∧ ∀ r ∈ subs (xs.take i), r.length ≤ i
  | 0, _ => ⟨rfl, fun r hr => by
    rw [List.take_zero] at hr
    obtain rfl := List.mem_singleton.mp hr
    exact Nat.le_refl _⟩
  | i + 1, h => by
    obtain ⟨a, b⟩ := subs_len xs i (by omega)
    have e := subs_next (List.getElem?_eq_getElem (show i < xs.length by omega))
    rw [e]
    refine ⟨by rw [List.length_append, List.length_map, a, Nat.pow_succ]; omega, fun r hr => ?_⟩
    rcases List.mem_append.mp hr with z | z
    · exact Nat.le_succ_of_le (b r z)
    · obtain ⟨q, hq, rfl⟩ := List.mem_map.mp z
      rw [List.length_append]
      exact Nat.succ_le_succ (b q hq)
/-- rows as pairs -/
theorem rows_pairs {H : Hp} : ∀ {vs : List V} {R : List (List Str)}, RowsAt H vs R → ∃ ps : List (Addr × List Str), vs = ps.map (fun p => V.ref p.1) ∧ ps.map (·.2) = R ∧ ∀ p ∈ ps, H p.1 = some (.tup (p.2.map V.str))
  | _, _, .nil => ⟨[], rfl, rfl, fun _ z => nomatch z⟩
  | _, _, .cons (b := r) ⟨a, e1, e2⟩ t => by
    obtain ⟨ps, h1, h2, h3⟩ := rows_pairs t
    refine ⟨(a, r) :: ps, by rw [List.map_cons, e1, h1], by rw [List.map_cons, h2], fun p hp => ?_⟩
    rcases List.mem_cons.mp hp with rfl | hp
    · exact e2
    · exact h3 p hp
theorem rows_of_pairs {H : Hp} : ∀ {ps : List (Addr × List Str)}, (∀ p ∈ ps, H p.1 = some (.tup (p.2.map V.str))) → RowsAt H (ps.map fun p => V.ref p.1) (ps.map (·.2))
  | [], _ => .nil
  | p :: ps, h => .cons ⟨p.1, rfl, h p List.mem_cons_self⟩ (rows_of_pairs fun q hq => h q (List.mem_cons_of_mem _ hq))
theorem cut_tail (rs : List V) : cutV rs (some 1) none = rs.tail := by
  cases rs with
  | nil => rfl
  | cons v r =>
    unfold cutV
    have e1 : HT.sIx (v :: r).length 0 (some 1) = 1 := by
      unfold HT.sIx
      simp
    have e2 : HT.sIx (v :: r).length (v :: r).length none = (v :: r).length := by
      unfold HT.sIx
      simp
    rw [e1, e2]
    simp
theorem each_appC {α β : Type} {R : α → β → Prop} : ∀ {as cs : List α} {bs ds : List β}, W.EachIs R as bs → W.EachIs R cs ds → W.EachIs R (as ++ cs) (bs ++ ds)
  | _, _, _, _, .nil, h => h
  | _, _, _, _, .cons r t, h => .cons r (each_appC t h)
theorem RowsAt.tail {H : Hp} : ∀ {vs : List V} {R : List (List Str)}, RowsAt H vs R → RowsAt H vs.tail R.tail
  | _, _, .nil => .nil
  | _, _, .cons _ t => t
/-- the name of its lambda -/
def lamQ : Str := (envOfC "sets_up_to" (defScope s_sets_up_to) 0 0 .none).qual ++ "<lambda>"
/-- all sets of them, of at most so many as there are -/
def spSup (T : List (Addr × Str)) : Sp := fun vs H Q _ => ∃ (d : Addr) (xs : List Str), vs = [.ref d, .int (xs.length : Nat)] ∧ H d = some (.tup (xs.map V.str)) ∧ AscT xs ∧ 1 ≤ xs.length ∧ xs.length ≤ 3 ∧ Tabs T H ∧
  ∀ (p : Addr) (rs : List V) (H' : Hp), ExtN H H' → Tabs T H' → H' p = some (.tup rs) → RowsAt H' rs ([] :: nesL xs) → Q (.ref p) H'
/-- the sets of a book's values in their order -/
def spNes (T : List (Addr × Str)) : Sp := fun vs H Q _ => ∃ (d : Addr) (xs : List Str), vs = [.ref d] ∧ H d = some (.tup (xs.map V.str)) ∧ AscT xs ∧ 1 ≤ xs.length ∧ xs.length ≤ 3 ∧ Tabs T H ∧
  ∀ (p : Addr) (rs : List V) (H' : Hp), ExtN H H' → Tabs T H' → H' p = some (.tup rs) → RowsAt H' rs (nesL xs) → Q (.ref p) H'
section
variable {P : Program} {w : World} {K : PySem.W.Frag} {mg : Str → Option Value} {base : Heap}
theorem sc_sets_up_to : FnScope ["items", "most", "sets", "item", "some"] ["items", "most"] (defScope s_sets_up_to) := ⟨rfl, rfl, rfl, by decide +kernel, rfl, by decide +kernel, by decide +kernel⟩
theorem ok_sets_up_to {T : List (Addr × Str)} {Pt : Addr} (B : Bs mg) (f : FnC K mg "sets_up_to" s_sets_up_to) (TB : TabB base mg f.c Pt) (hT : T = [(Pt, lamQ)]) : FnOk P w K mg base CX0 4 f.a f.d ["items", "most"] (spSup T) := by
  refine f.ok sc_sets_up_to (fun vs H Q E h => ?_) (fun A outer s H vs Q E hr h => ?_)
  · obtain ⟨c, xs, rfl, _⟩ := h
    rfl
  · obtain ⟨d, xs, rfl, hd, asc, l1, l3, hTab, q⟩ := h
    refine ⟨_, (pss_cons
      (ps_set (i := 2) sc_sets_up_to.nd rfl (Or.inl rfl) (pe_lst (pa_cons (pe_tup pa_nil) pa_nil)))
    (pss_cons
      (ps_for PassesOwn.never rfl (pi_tup (pv 0)) (pg_name (i := 3) sc_sets_up_to.nd rfl (Or.inr rfl))
        (pss_one
          (ps_set (i := 2) sc_sets_up_to.nd rfl (Or.inl rfl) (pe_op op_cat (pv 2) (pe_lc (own := [("some", 4)]) (g := gName 4) (by rfl) sc_sets_up_to.nd (pi_list (pv 2)) (blkOk_by (own := [("some", 4)]) (N := ["items", "most", "sets", "item", "some"]) (sc := defScope s_sets_up_to) (by decide +kernel)) (fun _ _ _ _ _ => (pg_name (i := 4) sc_sets_up_to.nd rfl (Or.inl rfl))) (fun _ _ _ _ _ => (pts_one (pt_cmpR op_lt (pe_callB (show CallR _ (.builtin "len") (rLen0 K) from call_len) (by rfl) B.n_len (by decide +kernel) (pa_cons (pv 4) pa_nil)) (pv 1) (nomark _))))
            (fun _ _ _ _ _ => (pe_op (show OpR _ (binaryOp .Add) (rCatA K) from op_catA) (pv 4) (pe_tup (pa_cons (pv 3) pa_nil)))))))))
    (pss_one
      (ps_ret (pe_callTy call_tuple_of (by rfl) B.n_tuple (by decide +kernel) (pa_cons (pe_sortLam (T := T) (qual := lamQ) TB rfl rfl (by rw [hT]; exact List.mem_singleton.mpr rfl) (by rw [hT]; exact fun p hp _ => by rw [List.mem_singleton.mp hp]) rfl B.n_sorted B.n_len hr ⟨NdefX.nscope_by (by decide +kernel), (by decide +kernel), (fun _ _ _ _ => rfl), rfl, (fun _ _ _ _ _ => rfl)⟩ (pv 2)) pa_nil)))))), ?_⟩
    -- sets = [()]
    refine ⟨by show 0 ≤ sizeLine; exact Nat.zero_le _, fun t ht => ⟨by show 1 ≤ sizeLine; decide, fun l hl => ?_⟩⟩
    have e0 : Same H (upd (upd H t (.tup [])) l (.lst [V.ref t])) := same_trans (same_new ht) (same_new hl)
    -- for value in values
    refine ⟨_, rfl, d, rfl, ⟨_, SqT.of (e0 _ _ hd)⟩, ?_⟩
    refine for_tup (K := K) (a := d) (xs := xs.map V.str) (fun i σ H' => ∃ (l : Addr) (rs : List V) (v2 : Option V), σ = [some (.ref d), some (.int (xs.length : Nat)), some (.ref l), v2, none] ∧ Same H H' ∧ H' l = some (.lst rs) ∧ RowsAt H' rs (subs (xs.take i)))
      ⟨l, _, none, rfl, e0, upd_same, .cons ⟨t, rfl, by rw [upd_ne (ne_of_none upd_same hl), upd_same]; rfl⟩ .nil⟩ (fun i σ H' _ ⟨_, _, _, _, e, _⟩ => SqT.of (e _ _ hd)) ?_ ?_
    · rintro i y σ H1 hi ⟨l, rs, v2, rfl, e1, hl1, hR⟩
      rw [List.getElem?_map] at hi
      cases hx : xs[i]? with
      | none =>
        rw [hx] at hi
        cases hi
      | some x =>
        rw [hx] at hi
        obtain rfl : V.str x = y := Option.some.inj hi
        have il : i < xs.length := (List.getElem?_eq_some_iff.mp hx).1
        obtain ⟨sl, sr⟩ := subs_len xs i (by omega)
        have sl4 : (subs (xs.take i)).length ≤ 4 := by
          rw [sl]
          calc 2 ^ i ≤ 2 ^ 2 := Nat.pow_le_pow_right (by decide) (by omega)
            _ ≤ 4 := by decide
        rw [subs_next hx]
        generalize subs (xs.take i) = R at hR sl4 sr ⊢
        have rl := hR.length
        refine ⟨_, rfl, _, rfl, l, rfl, ⟨_, SqL.of hl1⟩, fun D hD => ?_⟩
        have nlD : l ≠ D := ne_of_none hl1 hD
        refine lc_list (K := K) (xs := rs) (fun k H' => ∃ ac, Same H1 H' ∧ H' D = some (.lst ac) ∧ RowsAt H' ac ((R.take k).map (· ++ [x]))) ⟨[], same_new hD, upd_same, .nil⟩ (fun k H' _ ⟨_, e, _⟩ => SqL.of (e _ _ hl1)) ?_ ?_
        · rintro k z H3 hz ⟨ac, e4, hac, hB⟩
          obtain ⟨ts, hRk, b, rfl, hb⟩ := each_get hR hz
          have kl : k < R.length := (List.getElem?_eq_some_iff.mp hRk).1
          have tl := sr ts (List.mem_of_getElem? hRk)
          have lac : ac.length ≤ 4 := by
            have z := hB.length
            rw [List.length_map, List.length_take] at z
            omega
          have fin : ∀ {H4 : Hp} {v : V}, Same H3 H4 → H4 D = some (.lst ac) → (∃ b, v = V.ref b ∧ H4 b = some (.tup ((ts ++ [x]).map V.str))) →
              ∃ acc, H4 D = some (.lst acc) ∧ acc.length < sizeLine ∧ ∃ acc', Same H1 (upd H4 D (.lst (acc ++ [v]))) ∧ upd H4 D (.lst (acc ++ [v])) D = some (.lst acc') ∧
                RowsAt (upd H4 D (.lst (acc ++ [v]))) acc' ((R.take (k + 1)).map (· ++ [x])) := fun {H4 v} e5 h4 hv => by
            refine ⟨ac, h4, by rw [sizeLine_eq]; omega, ac ++ [v], same_put hD (same_trans e4 e5), upd_same, ?_⟩
            have hrow : RowsAt H4 (ac ++ [v]) ((R.take (k + 1)).map (· ++ [x])) := by
              rw [take_next hRk, List.map_append]
              exact each_snoc (hB.up e5) hv
            refine each_and hrow fun v ts _ ⟨b, e6, e7⟩ => ⟨b, e6, ?_⟩
            rw [upd_ne (ne_of e7 h4 (by intro z; cases z))]
            exact e7
          refine ⟨rfl, _, rfl, .ref b, ts.length, rfl, .inr ⟨_, SqT.of (e4 _ _ hb), by rw [List.length_map]⟩, _, rfl, _, _, rfl, rfl, _, rfl, ite2 (fun _ => ?_) fun c => absurd (decide_eq_true (show (ts.length : Int) < (xs.length : Nat) by omega)) c⟩
          refine ⟨_, rfl, _, rfl, by show 1 ≤ sizeLine; decide, fun u hu => ?_⟩
          have e5 : Same H3 (upd H3 u (.tup [V.str x])) := same_new hu
          refine ⟨b, u, ts.map V.str, [V.str x], rfl, rfl, SqT.of (e5 _ _ (e4 _ _ hb)), SqT.of upd_same, ?_, fun z => ?_, fun _ z => (nomatch z), fun _ _ p hp => ?_⟩
          · rw [List.length_map, sizeLine_eq]
            show ts.length + 1 ≤ _
            omega
          · have z2 : ts = [] := List.map_eq_nil_iff.mp z
            exact fin e5 (e5 _ _ hac) ⟨u, rfl, by rw [upd_same, z2]; rfl⟩
          · have e6 := same_trans e5 (same_new (o := .tup (ts.map V.str ++ [V.str x])) hp)
            exact fin e6 (e6 _ _ hac) ⟨p, rfl, by rw [upd_same, List.map_append]; rfl⟩
        · rintro H3 ⟨ac, e4, hac, hB⟩
          rw [rl, List.take_length] at hB
          have al := hB.length
          rw [List.length_map] at al
          refine ⟨l, D, rs, ac, rfl, rfl, e4 _ _ hl1, hac, by rw [sizeLine_eq]; omega, fun p hp => ?_⟩
          have e5 := same_new (o := .lst (rs ++ ac)) hp
          exact ⟨p, rs ++ ac, _, rfl, same_trans e1 (same_trans e4 e5), upd_same, each_appC ((hR.up e4).up e5) (hB.up e5)⟩
    · rintro σ H1 ⟨l, rs, v2, rfl, e1, hl1, hR⟩
      rw [List.length_map, List.take_length] at hR
      have sl := (subs_len xs xs.length (Nat.le_refl _)).1
      rw [List.take_length] at sl
      have sl8 : (subs xs).length ≤ 8 := by
        rw [sl]
        calc 2 ^ xs.length ≤ 2 ^ 3 := Nat.pow_le_pow_right (by decide) l3
          _ ≤ 8 := by decide
      obtain ⟨ps, hp1, hp2, hp3⟩ := rows_pairs hR
      have pl : ps.length ≤ 8 := by
        have z := congrArg List.length hp2
        rw [List.length_map] at z
        omega
      rw [hp1] at hl1
      refine ⟨_, rfl, l, ps, rfl, SqL.of hl1, fun p hp => SqT.of (hp3 p hp), by omega, hTab.ext e1, fun g H3 e3 hT3 hg => ?_⟩
      have so := sort0_is (fun p : Addr × List Str => p.2) ps asc l1 l3 (.of_eq hp2)
      have pm := List.mergeSort_perm ps (W.dataLe false fun p => kd p.2)
      generalize hqs : ps.mergeSort (W.dataLe false fun p => kd p.2) = qs at so pm ⊢
      refine ⟨g, qs.map fun p => V.ref p.1, rfl, .inl ⟨SqL.of upd_same, fun u hu => ?_⟩⟩
      have e4 : Same H3 (upd (upd H3 g (.lst (qs.map fun p => V.ref p.1))) u (.tup (qs.map fun p => V.ref p.1))) := same_trans (same_new hg) (same_new hu)
      have e5 := (ExtN.of e1).trans (e3.trans (ExtN.of e4))
      refine q u _ _ e5 (hT3.ext e4) upd_same ?_
      rw [← so]
      refine rows_of_pairs fun p hp => e4 _ _ (e3 _ _ (hp3 p (pm.mem_iff.mp hp)) fun _ z => by cases z)
theorem sc_nonempty_sets : FnScope ["items"] ["items"] (defScope s_nonempty_sets) := ⟨rfl, rfl, rfl, by decide +kernel, rfl, by decide +kernel, by decide +kernel⟩
theorem cutT_tail (rs : List V) : cutV rs (some 1) none = rs.tail := cut_tail rs
theorem ok_nonempty_sets {T : List (Addr × Str)} {Pt : Addr} (B : Bs mg) (fs : FnC K mg "sets_up_to" s_sets_up_to) (TB : TabB base mg fs.c Pt) (hT : T = [(Pt, lamQ)]) (f : FnF K mg "nonempty_sets" "nonempty_sets" s_nonempty_sets) : FnOk P w K mg base CX0 5 f.a f.d ["items"] (spNes T) := by
  have G := ok_sets_up_to (P := P) (w := w) (base := base) B fs TB hT
  have b2 : L2.Binds K fs.d ["items", "most"] [] := fs.F.binds fun _ _ _ _ _ _ us hl => match us, hl with | [_, _], _ => rfl
  refine f.F.ok sc_nonempty_sets (fun vs H Q E h => ?_) (fun cdv A outer s H vs Q E hr h => ?_)
  · obtain ⟨c, xs, rfl, _⟩ := h
    rfl
  · obtain ⟨d, xs, rfl, hd, asc, l1, l3, hTab, q⟩ := h
    refine ⟨_, (pss_one
      (ps_ret (pe_slice sl_tupA (pe_call G hr rfl fs.g fs.F.kp b2 .nil pass0 (pa_cons (pv 0) (pa_cons (pe_callB (show CallR _ (.builtin "len") (rLen0 K) from call_len) (by rfl) B.n_len (by decide +kernel) (pa_cons (pv 0) pa_nil)) pa_nil))) (po_some pe_int) po_none))), ?_⟩
    refine ⟨_, rfl, _, rfl, .ref d, xs.length, rfl, .inr ⟨_, SqT.of hd, by rw [List.length_map]⟩, d, xs, rfl, hd, asc, l1, l3, hTab, fun p rs H1 e1 T1 hp hR => ?_⟩
    refine ⟨1, rfl, p, rs, rfl, SqT.of hp, fun z => ?_, fun _ c hc => ?_⟩
    · have z2 := z.1
      have l0 := hR.length
      cases rs with
      | nil => cases l0
      | cons v r =>
        unfold HT.sIx at z2
        simp at z2
    · refine q c _ _ (e1.trans (ExtN.of (same_new hc))) (T1.ext (same_new hc)) (by rw [upd_same, cut_tail]) ?_
      exact RowsAt.tail (hR.up (same_new hc))
end
end K01
/-! What ascends of some texts; the sets; the value of a set. -/
namespace K01
open PySem PySem.Spec PyProof.Rows L2 KG KS KA KLm
theorem txs_ofC : ∀ {ys : List Str} {L : List MemV}, (∀ m ∈ L, m ∈ ys.map tx) → ∃ xs : List Str, L = xs.map tx ∧ ∀ x ∈ xs, x ∈ ys
  | _, [], _ => ⟨[], rfl, fun _ z => (nomatch z)⟩
  | ys, m :: L, h => by
    obtain ⟨x, hx, rfl⟩ := List.mem_map.mp (h m List.mem_cons_self)
    obtain ⟨xs, e, s⟩ := txs_ofC (ys := ys) (L := L) fun q hq => h q (List.mem_cons_of_mem _ hq)
    refine ⟨x :: xs, by rw [List.map_cons, e], fun z hz => ?_⟩
    rcases List.mem_cons.mp hz with e | hz
    · rw [e]
      exact hx
    · exact s z hz
theorem aft_asc {xs : List Str} (h : (xs.map tx).Pairwise Aft) (nd : ((xs.map tx).map (·.2)).Nodup) : AscT xs := by
  have nx : xs.Nodup := nodup_of_map (nodup_of_map nd)
  refine List.Pairwise.imp₂ (R := fun x y => x ≠ y) (S := fun x y => ltT y x = false) (fun x y h1 h2 => ?_) nx (List.pairwise_map.mp h)
  cases e : ltT x y with
  | true => rfl
  | false => exact absurd (ltT_total e h2) h1
theorem ltT_asymC {x y : Str} (h : ltT x y = true) : ltT y x = false := by
  cases e : ltT y x with
  | false => rfl
  | true =>
    have z : ltT x x = true := lex_trans _ _ _ h e
    rw [ltT_irr] at z
    cases z
theorem asc_nodupC {c : List Str} (h : AscT c) : c.Nodup := h.imp fun {a b} e z => by
  rw [z, ltT_irr] at e
  cases e
/-- two that ascend, of the same items -/
theorem asc_eqC {c e : List Str} (h : AscT c) (k : AscT e) (m : ∀ x, x ∈ c ↔ x ∈ e) : c = e :=
  List.Perm.eq_of_pairwise (le := fun x y => ltT x y = true) (fun a b _ _ h1 h2 => by rw [ltT_asymC h1] at h2; cases h2) h k ((List.perm_ext_iff_of_nodup (asc_nodupC h) (asc_nodupC k)).mpr m)
/-- the items of a group, ascending -/
def ascOf (xs g : List Str) : List Str := xs.filter fun x => decide (x ∈ g)
theorem ascOf_asc {xs g : List Str} (h : AscT xs) : AscT (ascOf xs g) := h.filter _
theorem ascOf_mem {xs g : List Str} {x : Str} (sub : ∀ y ∈ g, y ∈ xs) : x ∈ ascOf xs g ↔ x ∈ g := by
  unfold ascOf
  rw [List.mem_filter, decide_eq_true_eq]
  exact ⟨fun h => h.2, fun h => ⟨sub x h, h⟩⟩
theorem ascOf_is {xs g c : List Str} (h : AscT xs) (sub : ∀ y ∈ g, y ∈ xs) (k : AscT c) (m : ∀ x, x ∈ c ↔ x ∈ g) : c = ascOf xs g := asc_eqC k (ascOf_asc h) fun x => (m x).trans (ascOf_mem sub).symm
theorem filter_nes {xs : List Str} {p : Str → Bool} (h1 : 1 ≤ xs.length) (h3 : xs.length ≤ 3) (ne : xs.filter p ≠ []) : xs.filter p ∈ nesL xs := by
  rcases len3 h1 h3 with ⟨a, rfl⟩ | ⟨a, b, rfl⟩ | ⟨a, b, c, rfl⟩
  · cases ea : p a <;> simp [List.filter, ea, nesL] at ne ⊢
  · cases ea : p a <;> cases eb : p b <;> simp [List.filter, ea, eb, nesL] at ne ⊢
  · cases ea : p a <;> cases eb : p b <;> cases ec : p c <;> simp [List.filter, ea, eb, ec, nesL] at ne ⊢
theorem ascOf_nes {xs g : List Str} (h1 : 1 ≤ xs.length) (h3 : xs.length ≤ 3) (sub : ∀ y ∈ g, y ∈ xs) (ne : g ≠ []) : ascOf xs g ∈ nesL xs := by
  refine filter_nes h1 h3 fun z => ?_
  obtain ⟨y, r, rfl⟩ := List.exists_cons_of_ne_nil ne
  have m : y ∈ ascOf xs (y :: r) := (ascOf_mem sub).mpr List.mem_cons_self
  unfold ascOf at m
  rw [z] at m
  cases m
theorem nes_sub {xs g : List Str} (hg : g ∈ nesL xs) : (∀ y ∈ g, y ∈ xs) ∧ g ≠ [] ∧ g.length ≤ 3 ∧ List.Sublist g xs := by
  match xs, hg with
  | [a], hg =>
    simp only [nesL, List.mem_singleton] at hg
    subst hg
    exact ⟨fun y hy => hy, by simp, by simp, List.Sublist.refl _⟩
  | [a, b], hg =>
    simp only [nesL, List.mem_cons, List.not_mem_nil, or_false] at hg
    rcases hg with rfl | rfl | rfl <;> refine ⟨by simp, by simp, by simp, by simp⟩
  | [a, b, c], hg =>
    simp only [nesL, List.mem_cons, List.not_mem_nil, or_false] at hg
    rcases hg with rfl | rfl | rfl | rfl | rfl | rfl | rfl <;> refine ⟨by simp, by simp, by simp, ?_⟩
    · exact .cons_cons _ (List.nil_sublist _)
    · exact .cons _ (.cons_cons _ (List.nil_sublist _))
    · exact .cons _ (.cons _ (.refl _))
    · exact .cons_cons _ (.cons_cons _ (List.nil_sublist _))
    · exact .cons_cons _ (.cons _ (.refl _))
    · exact .cons _ (.refl _)
    · exact .refl _
/-- a set is what ascends of its items, in any order -/
theorem nes_asc_self {xs g : List Str} (h : AscT xs) (hg : g ∈ nesL xs) {g' : List Str} (m : ∀ x, x ∈ g' ↔ x ∈ g) : ascOf xs g' = g := by
  obtain ⟨sub, _, _, sl⟩ := nes_sub hg
  have k : AscT g := h.sublist sl
  exact (ascOf_is h (fun y hy => sub y ((m y).mp hy)) k fun x => (m x).symm).symm
theorem nes_len (xs : List Str) : (nesL xs).length ≤ 7 := by
  match xs with
  | [] => simp [nesL]
  | [a] => simp [nesL]
  | [a, b] => simp [nesL]
  | [a, b, c] => simp [nesL]
  | _ :: _ :: _ :: _ :: _ => simp [nesL]
theorem nes_nodup {xs : List Str} (h : AscT xs) : (nesL xs).Nodup := (nes_asc h).imp fun {a b} e z => by
  rw [z] at e
  have := ltK_asym e
  rw [e] at this
  cases this
/-- the singles stand first -/
theorem nes_first {xs : List Str} (h1 : 1 ≤ xs.length) (h3 : xs.length ≤ 3) : (nesL xs).take xs.length = xs.map fun x => [x] := by
  rcases len3 h1 h3 with ⟨a, rfl⟩ | ⟨a, b, rfl⟩ | ⟨a, b, c, rfl⟩ <;> rfl
theorem nes_ge {xs : List Str} (h1 : 1 ≤ xs.length) (h3 : xs.length ≤ 3) : xs.length ≤ (nesL xs).length := by
  rcases len3 h1 h3 with ⟨a, rfl⟩ | ⟨a, b, rfl⟩ | ⟨a, b, c, rfl⟩ <;> simp [nesL]
/-- the value of a set -/
def lookS (S : List (List Str)) (vs : List Str) (L : List Str) : Option Str := ((S.zip vs).find? fun p => decide (p.1 = L)).map (·.2)
theorem look_in : ∀ {S : List (List Str)} {vs : List Str} {L : List Str}, S.length = vs.length → L ∈ S → ∃ v ∈ vs, lookS S vs L = some v
  | [], _, _, _, h => nomatch h
  | s :: S, [], _, l, _ => nomatch l
  | s :: S, v :: vs, L, l, h => by
    unfold lookS
    rw [List.zip_cons_cons, List.find?_cons]
    by_cases e : s = L
    · rw [decide_eq_true e]
      exact ⟨v, List.mem_cons_self, rfl⟩
    · rw [decide_eq_false e]
      obtain ⟨u, hu, k⟩ := look_in (S := S) (vs := vs) (L := L) (Nat.succ.inj l) ((List.mem_cons.mp h).resolve_left fun z => e z.symm)
      exact ⟨u, List.mem_cons_of_mem _ hu, k⟩
theorem val_look : ∀ (ks : List (Addr × List Str)) (vs : List Str) (L : List Str), valV (KDz.dtOf ks (vs.map V.str)) (KDz.entK L) = (lookS (ks.map (·.2)) vs L).map V.str
  | [], _, _ => rfl
  | k :: ks, [], _ => by
    simp [KDz.dtOf, lookS, valV]
  | k :: ks, v :: vs, L => by
    have ih := val_look ks vs L
    unfold KDz.dtOf lookS at ih ⊢
    rw [List.map_cons, List.map_cons, List.map_cons, List.zip_cons_cons, List.zip_cons_cons, List.find?_cons]
    by_cases e : k.2 = L
    · rw [valV_pos (by rw [e]), decide_eq_true e]
      rfl
    · rw [valV_neg (fun z => e (KDz.entK_inj z)), decide_eq_false e]
      exact ih
end K01
/-! Choice(domain, results) of what is right. -/
namespace K01
open PySem PySem.Spec PyProof.Rows L2 KG KS KA KX KLm KIa LamX
abbrev s_chInit : Stmt := inCls 20 0
abbrev s_chLeast : Stmt := inCls 20 1
abbrev s_chEq : Stmt := inCls 20 2
abbrev s_chCall : Stmt := inCls 20 3
/-- the facts of Choice -/
structure ChC (K : PySem.W.Frag) (mg : Str → Option Value) (f : Addr) where
  C : Addr
  g : mg "Choice" = some (.ref C)
  cl : Cls K C
  made : Mk K C f
  nd : NoAttr K C "domain"
  nr : NoAttr K C "results"
  no : NoAttr K C "result_of"
/-- what heaps keep but for the tables and the object at x -/
def ButN (x : Addr) (H H' : Hp) : Prop := ∀ b o, H b = some o → (∀ ps, o ≠ .tbl ps) → b ≠ x → H' b = some o
theorem ButN.of {x : Addr} {H H' : Hp} (e : ExtN H H') : ButN x H H' := fun b o h n _ => e b o h n
theorem ButN.put {x : Addr} {H H1 : Hp} {o : HO} (e : ButN x H H1) : ButN x H (upd H1 x o) := fun b u h n z => by
  rw [upd_ne z]
  exact e b u h n z
theorem ButN.then {x : Addr} {H H1 H2 : Hp} (e : ButN x H H1) (f : Same H1 H2) : ButN x H H2 := fun b u h n z => f _ _ (e b u h n z)
theorem ButN.fresh {x : Addr} {H H1 H2 : Hp} (hx : H x = none) (e : Same H H1) (f : ButN x H1 H2) : ExtN H H2 := fun b o h n => f b o (e _ _ h) n fun z => by
  rw [z, hx] at h
  cases h
/-- the fields -/
abbrev chFs (d r t : Addr) : List (Str × V) := [("domain", .ref d), ("results", .ref r), ("result_of", .ref t)]
/-- values and results that go together -/
structure Good (xs rs : List Str) : Prop where
  asc : AscT xs
  ok : ∀ x ∈ xs, nameOk x = true
  l1 : 1 ≤ xs.length
  l3 : xs.length ≤ 3
  len : rs.length = (nesL xs).length
  sub : ∀ x ∈ rs, x ∈ xs
  one : rs.take xs.length = xs
/-- a choice on the heap, beside what stands at x itself -/
structure ChIn (H : Hp) (d r t : Addr) (xs rs : List Str) : Prop where
  ex : ∃ ks : List (Addr × List Str), H d = some (.tup (xs.map V.str)) ∧ H r = some (.tup (rs.map V.str)) ∧ H t = some (.dT (KDz.dtOf ks (rs.map V.str))) ∧ ks.map (·.2) = nesL xs
/-- Choice.__init__ -/
def spChI (T : List (Addr × Str)) (C : Addr) : Sp := fun vs H Q _ => ∃ (x dx d r : Addr) (xs rs : List Str), vs = [.ref x, .ref d, .ref r] ∧ H x = some (.ins C dx []) ∧ H d = some (.tup (xs.map V.str)) ∧ H r = some (.tup (rs.map V.str)) ∧ Good xs rs ∧ Tabs T H ∧
  ∀ (H' : Hp) (t : Addr), ButN x H H' → Tabs T H' → H' x = some (.ins C dx (chFs d r t)) → ChIn H' d r t xs rs → Q .non H'
theorem cut_take {rs : List V} {k : Nat} (h : k ≤ rs.length) : cutV rs none (some (k : Int)) = rs.take k := by
  unfold cutV
  have e1 : HT.sIx rs.length 0 none = 0 := by
    unfold HT.sIx
    simp
  have e2 : HT.sIx rs.length rs.length (some (k : Int)) = k := by
    have z : ¬ ((k : Int) < 0) := by omega
    simp [HT.sIx, z]
    omega
  rw [e1, e2, List.drop_zero]
  rfl
theorem tabs_but {T : List (Addr × Str)} {H H' : Hp} {x C dx : Addr} {fs : List (Str × V)} (t : Tabs T H) (hx : H x = some (.ins C dx fs)) (e : ∀ b o, H b = some o → b ≠ x → H' b = some o) : Tabs T H' := fun p hp => by
  obtain ⟨ps, h1, h2, h3⟩ := t p hp
  refine ⟨ps, e _ _ h1 (ne_of h1 hx (by intro z; cases z)), h2, fun pos cv hc => ?_⟩
  obtain ⟨c, e1, e2⟩ := h3 pos cv hc
  exact ⟨c, e1, e _ _ e2 (ne_of e2 hx (by intro z; unfold CodeO at z; cases z))⟩
/-- t[lo:hi] of a tuple, be it the whole of it or not -/
theorem slA_to {K : PySem.W.Frag} {H : Hp} {r : Addr} {rs : List V} {lo hi : Option Int} {Q : VK} (h : SqT K H r rs) (q : ∀ (b : Addr) (H' : Hp), Same H H' → SqT K H' b (cutV rs lo hi) → Q (.ref b) H') : rSlA K (.ref r) lo hi H Q := by
  refine ⟨r, rs, rfl, h, fun ⟨z1, z2⟩ => q r H (fun _ _ e => e) ?_, fun _ p hp => q p _ (same_new hp) (SqT.of upd_same)⟩
  have e : cutV rs lo hi = rs := by
    unfold cutV
    rw [z1, z2, List.drop_zero, Nat.sub_zero, List.take_length]
  rw [e]
  exact h
/-- the defs that Choice's making reaches -/
structure ChF (K : PySem.W.Frag) (mg : Str → Option Value) where
  dom : FnF K mg "is_domain" "is_domain" s_is_domain
  nms : FnF K mg "are_names" "are_names" s_are_names
  nm : FnF K mg "is_name" "is_name" s_is_name
  asc : FnF K mg "ascending" "ascending" s_ascending
  row : FnF K mg "is_row" "is_row" s_is_row
  sup : FnC K mg "sets_up_to" s_sets_up_to
  nes : FnF K mg "nonempty_sets" "nonempty_sets" s_nonempty_sets
section
variable {P : Program} {w : World} {K : PySem.W.Frag} {mg : Str → Option Value} {base : Heap}
theorem sc_chInit : FnScope ["self", "domain", "results", "arguments"] ["self", "domain", "results"] (defScope s_chInit) := ⟨rfl, rfl, rfl, by decide +kernel, rfl, by decide +kernel, by decide +kernel⟩
theorem ok_chInit {T : List (Addr × Str)} {Pt : Addr} (B : Bz mg) (f : MtF K "__init__" "Choice.__init__" s_chInit) (F : ChF K mg) (TB : TabB base mg F.sup.c Pt) (hT : T = [(Pt, lamQ)]) (C : ChC K mg f.a) :
    FnOk P w K mg base CX0 6 f.a f.d ["self", "domain", "results"] (spChI T C.C) := by
  have G1 := ok_is_domain (P := P) (w := w) (base := base) B.toBs F.dom F.nms F.nm F.asc
  have b1 : L2.Binds K F.dom.d ["thing"] [] := F.dom.F.binds fun _ _ _ _ _ _ us hl => match us, hl with | [_], _ => rfl
  have G2 := ok_nonempty_sets (P := P) (w := w) (base := base) B.toBs F.sup TB hT F.nes
  have b2 : L2.Binds K F.nes.d ["items"] [] := F.nes.F.binds fun _ _ _ _ _ _ us hl => match us, hl with | [_], _ => rfl
  have G3 := ok_is_rowA (P := P) (w := w) (base := base) B.toBs F.row
  have b3 : L2.Binds K F.row.d ["thing", "domain", "length"] [] := F.row.F.binds fun _ _ _ _ _ _ us hl => match us, hl with | [_, _, _], _ => rfl
  refine f.F.ok sc_chInit (fun vs H Q E h => ?_) (fun cdv A outer s H vs Q E hr h => ?_)
  · obtain ⟨x, dx, d, r, xs, rs, rfl, _⟩ := h
    rfl
  · obtain ⟨x, dx, d, r, xs, rs, rfl, hx, hd, hR, g, hTab, q⟩ := h
    have hu64 := hr.units
    have hr1 : Room 1 _ := hr.mono (by omega)
    have hr3 : Room 3 _ := hr.mono (by omega)
    have hr5 : Room 5 _ := hr.mono (by omega)
    refine ⟨_, (pss_cons
      (ps_if (pt_not (pt_val (pe_call G1 hr3 rfl F.dom.g F.dom.F.kp b1 .nil pass0 (pa_cons (pv 1) pa_nil))))
        (pss_one
          ps_dead)
        pss_nil)
    (pss_cons
      (ps_set (i := 3) sc_chInit.nd rfl (Or.inl rfl) (pe_call G2 hr5 rfl F.nes.g F.nes.F.kp b2 .nil pass0 (pa_cons (pv 1) pa_nil)))
    (pss_cons
      (ps_if (pt_not (pt_val (pe_call G3 hr1 rfl F.row.g F.row.F.kp b3 .nil pass0 (pa_cons (pv 2) (pa_cons (pv 1) (pa_cons (pe_callB call_len (by rfl) B.n_len (by decide +kernel) (pa_cons (pv 3) pa_nil)) pa_nil))))))
        (pss_one
          ps_dead)
        pss_nil)
    (pss_cons
      (ps_if (pt_cmpR (op_neD hu64) (pe_slice sl_tupA (pv 2) po_none (po_some (pe_callB call_len (by rfl) B.n_len (by decide +kernel) (pa_cons (pv 1) pa_nil)))) (pv 1) (nomark _))
        (pss_one
          ps_dead)
        pss_nil)
    (pss_cons
      (ps_fld (pv 0) (pv 1) rfl)
    (pss_cons
      (ps_fld (pv 0) (pv 2) rfl)
    (pss_one
      (ps_fld (pv 0) (KDz.pe_dictZip (pa_cons (pv 3) (pa_cons (pv 2) pa_nil)) rfl B.n_dict rfl B.n_zip rfl hr3) rfl)))))))), ?_⟩
    -- is_domain(domain)
    refine ⟨_, rfl, d, xs, rfl, hd, g.ok, List.pairwise_map.mpr g.asc, g.l1, g.l3, fun H1 e1 => ⟨true, rfl, iteF ?_⟩⟩
    -- nonempty_sets(domain)
    refine ⟨_, rfl, d, xs, rfl, e1 _ _ hd, g.asc, g.l1, g.l3, hTab.ext e1, fun p as H2 e2 hT2 hp hS => ?_⟩
    have x2 : ∀ {b : Addr} {o : HO}, H b = some o → (∀ ps, o ≠ .tbl ps) → H2 b = some o := fun {b o} h n => e2 _ _ (e1 _ _ h) n
    have hd2 := x2 hd (fun _ z => by cases z)
    have hr2 := x2 hR (fun _ z => by cases z)
    have hx2 := x2 hx (fun _ z => by cases z)
    obtain ⟨ks, ek, e2k, hk⟩ := rows_ks hS
    have lk : ks.length = rs.length := by
      have z := congrArg List.length e2k
      rw [List.length_map] at z
      rw [z, g.len]
    have l7 := nes_len xs
    have lr : rs.length ≤ 7 := by rw [g.len]; exact l7
    subst ek
    -- is_row(results, domain, len(arguments))
    refine ⟨_, rfl, _, rfl, _, rfl, .ref p, rs.length, rfl, .inr ⟨_, SqT.of hp, by rw [List.length_map, lk]⟩, r, d, rs.map V.str, rs.map some, xs, by rw [List.length_map]; rfl, SqT.of hr2, its_texts rs, SqT.of hd2, by rw [List.length_map]; omega, fun H3 e3 => ?_⟩
    refine ⟨true, congrArg V.bl ((all_texts rs xs).trans (decide_eq_true g.sub)), iteF ?_⟩
    -- results[:len(domain)] != domain
    have okd : ∀ y ∈ xs, PyData.strOk y = true := fun y hy => name_strOk (g.ok y hy)
    have ev : PyData.eqv (txd xs) (txd xs) = true := by
      simp only [txd, PyData.eqv]
      exact texts_eqv xs
    have ct : cutV (rs.map V.str) none (some ((xs.length : Nat) : Int)) = xs.map V.str := by
      rw [cut_take (by rw [List.length_map, g.len]; exact nes_ge g.l1 g.l3), ← List.map_take, g.one]
    refine ⟨_, rfl, _, rfl, .ref d, xs.length, rfl, .inr ⟨_, SqT.of (e3 _ _ hd2), by rw [List.length_map]⟩, _, rfl, slA_to (SqT.of (e3 _ _ hr2)) fun b H4 e4 hb => ?_⟩
    rw [ct] at hb
    refine ⟨_, rfl, txd xs, txd xs, .tup hb (texts_dp xs), .tup (SqT.of (e4 _ _ (e3 _ _ hd2))) (texts_dp xs), txd_shaped okd, txd_shaped okd, false, by rw [ev]; rfl, iteF ?_⟩
    have e24 := same_trans e3 e4
    -- self.domain, self.results
    have hx4 := e24 _ _ hx2
    have ndx : d ≠ x := ne_of hd hx (by intro z; cases z)
    have nrx : r ≠ x := ne_of hR hx (by intro z; cases z)
    refine ⟨_, rfl, _, rfl, x, C.C, dx, _, rfl, hx4, C.cl, C.nd, by decide, ?_⟩
    refine ⟨_, rfl, _, rfl, x, C.C, dx, _, rfl, upd_same, C.cl, C.nr, (by show 1 < 1000; decide), ?_⟩
    have b04 : ButN x H (upd (upd H4 x (.ins C.C dx (putF "domain" (V.ref d) []))) x (.ins C.C dx (putF "results" (V.ref r) (putF "domain" (V.ref d) [])))) := by
      refine ButN.put (ButN.put (ButN.of fun b o h n => e24 _ _ (x2 h n)))
    have kp : ∀ {b : Addr} {ts : List V}, H4 b = some (.tup ts) → (upd (upd H4 x (.ins C.C dx (putF "domain" (V.ref d) []))) x (.ins C.C dx (putF "results" (V.ref r) (putF "domain" (V.ref d) [])))) b = some (.tup ts) := fun {b ts} h => by
      have n : b ≠ x := ne_of h hx4 (by intro z; cases z)
      rw [upd_ne n, upd_ne n]
      exact h
    have hx5 : (upd (upd H4 x (.ins C.C dx (putF "domain" (V.ref d) []))) x (.ins C.C dx (putF "results" (V.ref r) (putF "domain" (V.ref d) [])))) x = some (.ins C.C dx (putF "results" (V.ref r) (putF "domain" (V.ref d) []))) := upd_same
    have tb5 : Tabs T (upd (upd H4 x (.ins C.C dx (putF "domain" (V.ref d) []))) x (.ins C.C dx (putF "results" (V.ref r) (putF "domain" (V.ref d) [])))) := by
      refine tabs_but (hT2.ext e24) hx4 fun b o h n => ?_
      rw [upd_ne n, upd_ne n]
      exact h
    generalize (upd (upd H4 x (.ins C.C dx (putF "domain" (V.ref d) []))) x (.ins C.C dx (putF "results" (V.ref r) (putF "domain" (V.ref d) [])))) = H5 at b04 kp hx5 tb5 ⊢
    -- self.result_of
    refine ⟨_, rfl, _, rfl, p, r, ks, rs.map V.str, rfl, rfl, SqT.of (kp (e24 _ _ hp)), SqT.of (kp (e24 _ _ hr2)), fun k hkk => kp (e24 _ _ (hk k hkk)), by rw [lk, List.length_map], by rw [e2k]; exact nes_nodup g.asc, by omega, fun t ht => ?_⟩
    have hx6 : upd H5 t (.dT (KDz.dtOf ks (rs.map V.str))) x = some (.ins C.C dx (putF "results" (V.ref r) (putF "domain" (V.ref d) []))) := by
      rw [upd_ne (ne_of_none hx5 ht)]
      exact hx5
    have e56 : Same H5 (upd H5 t (.dT (KDz.dtOf ks (rs.map V.str)))) := same_new ht
    have ntx : t ≠ x := fun z => by
      rw [z, hx5] at ht
      cases ht
    refine ⟨_, rfl, x, C.C, dx, _, rfl, hx6, C.cl, C.no, (by show 2 < 1000; decide), ?_⟩
    refine q _ t (ButN.put (b04.then e56)) ?_ upd_same ⟨ks, ?_, ?_, ?_, e2k⟩
    · refine tabs_but (tb5.ext e56) hx6 fun b o h n => ?_
      rw [upd_ne n]
      exact h
    · rw [upd_ne ndx]
      exact e56 _ _ (kp (e24 _ _ hd2))
    · rw [upd_ne nrx]
      exact e56 _ _ (kp (e24 _ _ hr2))
    · rw [upd_ne ntx, upd_same]
end
end K01
/-! Choice.__init__ of any values. -/
namespace K01
open PySem PySem.Spec PyProof.Rows L2 KG KS KA KX KLm KIa KCt LamX
theorem ItK.ext {K : PySem.W.Frag} {H H' : Hp} {v : V} {o : Option Str} (e : ExtN H H') (h : ItK K H v o) : ItK K H' v o := by
  cases h with
  | str x => exact .str x
  | int n => exact .int n
  | bl b => exact .bl b
  | non => exact .non
  | lst h => exact .lst (ExtN.sqL e h)
  | tup h => exact .tup (ExtN.sqT e h)
  | dct h => exact .dct (e _ _ h fun _ z => by cases z)
theorem AnyK.ext {K : PySem.W.Frag} {H H' : Hp} {v : V} {g : Option (List (Option Str))} (e : ExtN H H') (h : AnyK K H v g) : AnyK K H' v g := by
  cases h with
  | tup hs hi l => exact .tup (e _ _ hs fun _ z => by cases z) (each_and hi fun a b _ z => ItK.ext e z) l
  | non => exact .non
  | bl b => exact .bl b
  | str x => exact .str x
  | int n => exact .int n
  | lst h => exact .lst (e _ _ h fun _ z => by cases z)
  | dct h => exact .dct (e _ _ h fun _ z => by cases z)
/-- what is due: the word of the error, or nothing -/
def choiceDue (g1 g2 : Option (List (Option Str))) : Option Str :=
  if domIt g1 = true then
    (if rowIt (txts g1) ((nesL (txts g1)).length : Nat) g2 = true then
      (if (txts g2).take (txts g1).length = txts g1 then none else some "odd")
    else some "results")
  else some "domain"
/-- Choice(domain, results) of any values -/
def spCA (K : PySem.W.Frag) (T : List (Addr × Str)) (C N : Addr) : Sp := fun vs H Q E => ∃ (x dx : Addr) (v1 v2 : V) (g1 g2 : Option (List (Option Str))), vs = [.ref x, v1, v2] ∧ H x = some (.ins C dx []) ∧ AnyK K H v1 g1 ∧ (∀ os, g1 = some os → Short os ∧ os.length < 64) ∧ AnyK K H v2 g2 ∧ Tabs T H ∧
  (∀ (d r : Addr) (xs rs : List Str) (H' : Hp) (t : Addr), choiceDue g1 g2 = none → v1 = .ref d → g1 = some (xs.map some) → v2 = .ref r → g2 = some (rs.map some) → Good xs rs → ButN x H H' → Tabs T H' → H' x = some (.ins C dx (chFs d r t)) → ChIn H' d r t xs rs → Q .non H') ∧
  ∀ (wd : Str) (dd : Addr) (H' : Hp), choiceDue g1 g2 = some wd → ExtN H H' → Tabs T H' → H' dd = some (.xd [(("word" : Str), V.str wd)]) → E (.ref N) (some dd) H'
section
variable {P : Program} {w : World} {K : PySem.W.Frag} {mg : Str → Option Value} {base : Heap}
theorem ok_chInitA {T : List (Addr × Str)} {Pt : Addr} (B : Bz mg) (f : MtF K "__init__" "Choice.__init__" s_chInit) (F : ChF K mg) (TB : TabB base mg F.sup.c Pt) (hT : T = [(Pt, lamQ)]) (C : ChC K mg f.a) (N : ErC K mg) :
    FnOk P w K mg base (L2.CX P w) 6 f.a f.d ["self", "domain", "results"] (spCA K T C.C N.C) := by
  have G1 := ok_is_domainA (P := P) (w := w) (base := base) B.toBs F.dom F.nms F.nm F.asc
  have b1 : L2.Binds K F.dom.d ["thing"] [] := F.dom.F.binds fun _ _ _ _ _ _ us hl => match us, hl with | [_], _ => rfl
  have G2 := ok_nonempty_sets (P := P) (w := w) (base := base) B.toBs F.sup TB hT F.nes
  have b2 : L2.Binds K F.nes.d ["items"] [] := F.nes.F.binds fun _ _ _ _ _ _ us hl => match us, hl with | [_], _ => rfl
  have G3 := ok_is_rowG (P := P) (w := w) (base := base) B.toBs F.row
  have b3 : L2.Binds K F.row.d ["thing", "domain", "length"] [] := F.row.F.binds fun _ _ _ _ _ _ us hl => match us, hl with | [_, _, _], _ => rfl
  have G5 := ok_noInit (P := P) (w := w) (base := base) N
  have b5 : L2.Binds K N.d ["self", "word"] [] := N.F.binds fun _ _ _ _ _ _ us hl => match us, hl with | [_, _], _ => rfl
  refine f.F.okX sc_chInit (fun vs H Q E h => ?_) (fun cdv A outer s H vs Q E hr h => ?_)
  · obtain ⟨x, dx, v1, v2, g1, g2, rfl, _⟩ := h
    rfl
  · obtain ⟨x, dx, v1, v2, g1, g2, rfl, hx, h1, sh1, h2, hTab, qv, qe⟩ := h
    have hu64 := hr.units
    have hr1 : Room 1 _ := hr.mono (by omega)
    have hr2 : Room 2 _ := hr.mono (by omega)
    have hr3 : Room 3 _ := hr.mono (by omega)
    have hr5 : Room 5 _ := hr.mono (by omega)
    refine ⟨_, (pss_cons
      (ps_if (pt_not (pt_val (pe_call G1 hr3 rfl F.dom.g F.dom.F.kp b1 .nil pass0 (pa_cons (pv 1) pa_nil))))
        (pss_one
          (ps_raise (W := fun cls d _ H => E cls d H) rfl (takes_of rfl rfl rfl rfl) (KQ.pmk_ex N.T N.ty N.iC N.tI G5 hr2 b5 pass0 rfl N.g (pa_cons pe_str pa_nil))))
        pss_nil)
    (pss_cons
      (ps_set (i := 3) sc_chInit.nd rfl (Or.inl rfl) (pe_call G2 hr5 rfl F.nes.g F.nes.F.kp b2 .nil pass0 (pa_cons (pv 1) pa_nil)))
    (pss_cons
      (ps_if (pt_not (pt_val (pe_call G3 hr1 rfl F.row.g F.row.F.kp b3 .nil pass0 (pa_cons (pv 2) (pa_cons (pv 1) (pa_cons (pe_callB call_len (by rfl) B.n_len (by decide +kernel) (pa_cons (pv 3) pa_nil)) pa_nil))))))
        (pss_one
          (ps_raise (W := fun cls d _ H => E cls d H) rfl (takes_of rfl rfl rfl rfl) (KQ.pmk_ex N.T N.ty N.iC N.tI G5 hr2 b5 pass0 rfl N.g (pa_cons pe_str pa_nil))))
        pss_nil)
    (pss_cons
      (ps_if (pt_cmpR (op_neD hu64) (pe_slice sl_tupA (pv 2) po_none (po_some (pe_callB call_len (by rfl) B.n_len (by decide +kernel) (pa_cons (pv 1) pa_nil)))) (pv 1) (nomark _))
        (pss_one
          (ps_raise (W := fun cls d _ H => E cls d H) rfl (takes_of rfl rfl rfl rfl) (KQ.pmk_ex N.T N.ty N.iC N.tI G5 hr2 b5 pass0 rfl N.g (pa_cons pe_str pa_nil))))
        pss_nil)
    (pss_cons
      (ps_fld (pv 0) (pv 1) rfl)
    (pss_cons
      (ps_fld (pv 0) (pv 2) rfl)
    (pss_one
      (ps_fld (pv 0) (KDz.pe_dictZip (pa_cons (pv 3) (pa_cons (pv 2) pa_nil)) rfl B.n_dict rfl B.n_zip rfl hr3) rfl)))))))), ?_⟩
    -- the error
    have err : ∀ (wd : Str) {σ : L2.St}, choiceDue g1 g2 = some wd → ∀ H1, ExtN H H1 → Tabs T H1 → (tMkO N.C (spSet N.C "word") [] (tCons (fun σ H Q => Q (V.str wd) H) tNil)) σ H1 fun cls d H' => E cls d H' := fun wd σ hdu H1 e1 t1 => by
      refine ⟨by show 1 ≤ 1000; decide, fun a ha => ⟨a, .str wd, rfl, upd_same, fun dd hdd ndd => ⟨rfl, dd, _, upd_same, by rw [upd_ne ndd, upd_same], ?_, ?_⟩⟩⟩
      · rw [upd_ne ndd] at hdd
        exact hdd
      · have hdd1 : H1 dd = none := by
          rw [upd_ne ndd] at hdd
          exact hdd
        have rest : ∀ {b : Addr} {u : HO}, H1 b = some u → b ≠ dd ∧ b ≠ a := fun h1 => ⟨ne_of_none h1 hdd1, ne_of_none h1 ha⟩
        refine qe wd dd _ hdu (fun b u h n => ?_) (Tabs.ext t1 fun b u h => ?_) upd_same
        · have h1 := e1 _ _ h n
          obtain ⟨nb, na⟩ := rest h1
          rw [upd_ne nb, del_ne na, upd_ne na, upd_ne nb, upd_ne na]
          exact h1
        · obtain ⟨nb, na⟩ := rest h
          rw [upd_ne nb, del_ne na, upd_ne na, upd_ne nb, upd_ne na]
          exact h
    -- is_domain(domain)
    refine ⟨_, rfl, v1, g1, rfl, h1, sh1, fun H1 e1 => ⟨_, rfl, ?_⟩⟩
    have x1 : ExtN H H1 := ExtN.of e1
    have t1 := Tabs.ext hTab e1
    cases dm : domIt g1 with
    | false => exact iteT (err "domain" (by unfold choiceDue; rw [dm]; rfl) H1 x1 t1)
    | true =>
      refine iteF ?_
      obtain ⟨xs, rfl, ok, asc, l1, l3⟩ := domIt_iff.mp dm
      obtain ⟨d, rfl, hd⟩ := any_tup h1
      -- nonempty_sets(domain)
      refine ⟨_, rfl, d, xs, rfl, e1 _ _ hd, asc, l1, l3, t1, fun p as H2 e2 hT2 hp hS => ?_⟩
      have x2 : ExtN H H2 := x1.trans e2
      have l7 := nes_len xs
      obtain ⟨ks, ek, e2k, hk⟩ := rows_ks hS
      have lk : ks.length = (nesL xs).length := by
        have z := congrArg List.length e2k
        rw [List.length_map] at z
        exact z
      subst ek
      have tx1 : txts (some (xs.map some)) = xs := fmap_some xs
      have due1 : choiceDue (some (xs.map some)) g2 = (if rowIt xs ((nesL xs).length : Nat) g2 = true then (if (txts g2).take xs.length = xs then none else some ("odd" : Str)) else some ("results" : Str)) := by
        unfold choiceDue
        rw [dm, if_pos rfl, tx1]
      -- is_row(results, domain, len(arguments))
      refine ⟨_, rfl, _, rfl, _, rfl, .ref p, (nesL xs).length, rfl, .inr ⟨_, SqT.of hp, by rw [List.length_map, lk]⟩, v2, g2, d, xs, _, rfl, AnyK.ext x2 h2, SqT.of (x2 _ _ hd fun _ z => by cases z), fun H3 e3 => ⟨_, rfl, ?_⟩⟩
      have x3 : ExtN H H3 := x2.trans (ExtN.of e3)
      have t3 := Tabs.ext hT2 e3
      cases rw_ : rowIt xs ((nesL xs).length : Nat) g2 with
      | false => exact iteT (err "results" (by rw [due1, rw_]; rfl) H3 x3 t3)
      | true =>
        refine iteF ?_
        obtain ⟨rs, rfl, lR, sub⟩ := row_texts rw_
        obtain ⟨r, rfl, hR⟩ := any_tup h2
        have lR : rs.length = (nesL xs).length := by omega
        have tx2 : txts (some (rs.map some)) = rs := fmap_some rs
        rw [rw_, if_pos rfl, tx2] at due1
        have hd3 := x3 _ _ hd (fun _ z => by cases z)
        have hr3' := x3 _ _ hR (fun _ z => by cases z)
        have hx3 := x3 _ _ hx (fun _ z => by cases z)
        have ct : cutV (rs.map V.str) none (some ((xs.length : Nat) : Int)) = (rs.take xs.length).map V.str := by
          rw [cut_take (by rw [List.length_map, lR]; exact nes_ge l1 l3), ← List.map_take]
        have okd : ∀ y ∈ xs, PyData.strOk y = true := fun y hy => name_strOk (ok y hy)
        -- results[:len(domain)] != domain
        refine ⟨_, rfl, _, rfl, .ref d, xs.length, rfl, .inr ⟨_, SqT.of hd3, by rw [List.length_map]⟩, _, rfl, slA_to (SqT.of hr3') fun b H4 e4 hb => ?_⟩
        rw [ct] at hb
        have x4 : ExtN H H4 := x3.trans (ExtN.of e4)
        have t4 := Tabs.ext t3 e4
        refine ⟨_, rfl, txd (rs.take xs.length), txd xs, .tup hb (texts_dp _), .tup (SqT.of (e4 _ _ hd3)) (texts_dp xs), txd_shaped (fun y hy => okd y (sub y (List.mem_of_mem_take hy))), txd_shaped okd, _, rfl, ?_⟩
        have ev : PyData.eqv (txd (rs.take xs.length)) (txd xs) = decide (rs.take xs.length = xs) := by
          simp only [txd, PyData.eqv]
          exact eqv_texts _ _
        rw [ev]
        by_cases one : rs.take xs.length = xs
        · rw [decide_eq_true one]
          refine iteF ?_
          rw [if_pos one] at due1
          have G : Good xs rs := ⟨asc, ok, l1, l3, lR, sub, one⟩
          have hp4 := (same_trans e3 e4) _ _ hp
          have hk4 : ∀ k ∈ ks, H4 k.1 = some (.tup (k.2.map V.str)) := fun k hkk => (same_trans e3 e4) _ _ (hk k hkk)
          have hx4 := e4 _ _ hx3
          have hd4 := e4 _ _ hd3
          have hr4 := e4 _ _ hr3'
          have ndx : d ≠ x := ne_of hd hx (by intro z; cases z)
          have nrx : r ≠ x := ne_of hR hx (by intro z; cases z)
          -- self.domain, self.results
          refine ⟨_, rfl, _, rfl, x, C.C, dx, _, rfl, hx4, C.cl, C.nd, by decide, ?_⟩
          refine ⟨_, rfl, _, rfl, x, C.C, dx, _, rfl, upd_same, C.cl, C.nr, (by show 1 < 1000; decide), ?_⟩
          have b04 : ButN x H (upd (upd H4 x (.ins C.C dx (putF "domain" (V.ref d) []))) x (.ins C.C dx (putF "results" (V.ref r) (putF "domain" (V.ref d) [])))) := by
            refine ButN.put (ButN.put (ButN.of x4))
          have kp : ∀ {b : Addr} {ts : List V}, H4 b = some (.tup ts) → (upd (upd H4 x (.ins C.C dx (putF "domain" (V.ref d) []))) x (.ins C.C dx (putF "results" (V.ref r) (putF "domain" (V.ref d) [])))) b = some (.tup ts) := fun {b ts} h => by
            have n : b ≠ x := ne_of h hx4 (by intro z; cases z)
            rw [upd_ne n, upd_ne n]
            exact h
          have hx5 : (upd (upd H4 x (.ins C.C dx (putF "domain" (V.ref d) []))) x (.ins C.C dx (putF "results" (V.ref r) (putF "domain" (V.ref d) [])))) x = some (.ins C.C dx (putF "results" (V.ref r) (putF "domain" (V.ref d) []))) := upd_same
          have tb5 : Tabs T (upd (upd H4 x (.ins C.C dx (putF "domain" (V.ref d) []))) x (.ins C.C dx (putF "results" (V.ref r) (putF "domain" (V.ref d) [])))) := by
            refine tabs_but t4 hx4 fun b o h n => ?_
            rw [upd_ne n, upd_ne n]
            exact h
          generalize (upd (upd H4 x (.ins C.C dx (putF "domain" (V.ref d) []))) x (.ins C.C dx (putF "results" (V.ref r) (putF "domain" (V.ref d) [])))) = H5 at b04 kp hx5 tb5 ⊢
          -- self.result_of
          refine ⟨_, rfl, _, rfl, p, r, ks, rs.map V.str, rfl, rfl, SqT.of (kp hp4), SqT.of (kp hr4), fun k hkk => kp (hk4 k hkk), by rw [lk, List.length_map, lR], by rw [e2k]; exact nes_nodup asc, by omega, fun t ht => ?_⟩
          have hx6 : upd H5 t (.dT (KDz.dtOf ks (rs.map V.str))) x = some (.ins C.C dx (putF "results" (V.ref r) (putF "domain" (V.ref d) []))) := by
            rw [upd_ne (ne_of_none hx5 ht)]
            exact hx5
          have e56 : Same H5 (upd H5 t (.dT (KDz.dtOf ks (rs.map V.str)))) := same_new ht
          have ntx : t ≠ x := fun z => by
            rw [z, hx5] at ht
            cases ht
          refine ⟨_, rfl, x, C.C, dx, _, rfl, hx6, C.cl, C.no, (by show 2 < 1000; decide), ?_⟩
          refine qv d r xs rs _ t due1 rfl rfl rfl rfl G (ButN.put (b04.then e56)) ?_ upd_same ⟨ks, ?_, ?_, ?_, e2k⟩
          · refine tabs_but (Tabs.ext tb5 e56) hx6 fun b o h n => ?_
            rw [upd_ne n]
            exact h
          · rw [upd_ne ndx]
            exact e56 _ _ (kp hd4)
          · rw [upd_ne nrx]
            exact e56 _ _ (kp hr4)
          · rw [upd_ne ntx, upd_same]
        · rw [decide_eq_false one]
          rw [if_neg one] at due1
          exact iteT (err "odd" due1 H4 x4 t4)
end
end K01
/-! _law_is_name, _law_is_base. -/
namespace K01
open PySem PySem.Spec PyProof.Rows L2 KG KS KA KIa
abbrev s__law_is_name : Stmt := top 29
abbrev s__law_is_base : Stmt := top 30
/-- the letters -/
def abcL : List Nat := ("abcdefghijklmnopqrstuvwxyz" : Str).cps.toList
theorem abc_in : ∀ c, c < 128 → Unicode.isAlpha c = true → (Unicode.isUpper c || Unicode.isTitle c) = false → decide (c ∈ abcL) = true := by decide +kernel
theorem abc_of : ∀ c ∈ abcL, c < 128 ∧ Unicode.isAlpha c = true ∧ Unicode.isLower c = true ∧ (Unicode.isUpper c || Unicode.isTitle c) = false := by decide +kernel
theorem name_chars (x : Str) : nameOk x = (decide (0 < x.length) && (decide (x.length < 9) && x.cps.toList.all fun c => decide (c ∈ abcL))) := by
  rw [Bool.eq_iff_iff]
  unfold nameOk Txt.isascii Txt.isalpha Txt.islower
  simp only [Bool.and_eq_true, decide_eq_true_eq, Array.all_eq_true', Bool.not_eq_true', List.all_eq_true]
  refine ⟨fun ⟨h8, h1, ⟨h0, h2⟩, _, h4⟩ => ⟨by omega, by omega, fun c hc => ?_⟩, fun ⟨h0, h9, h⟩ => ⟨by omega, fun c hc => ?_, ⟨by omega, fun c hc => ?_⟩, ?_, ?_⟩⟩
  · have hm : c ∈ x.cps := Array.mem_toList_iff.mp hc
    refine of_decide_eq_true (abc_in c (h1 c hm) (h2 c hm) ?_)
    exact Array.any_eq_false.mp h4 |> fun z => by
      obtain ⟨i, hi, e⟩ := Array.mem_iff_getElem.mp hm
      have y := z i hi
      rw [e] at y
      simpa using y
  · exact (abc_of c (h c (Array.mem_toList_iff.mpr hc))).1
  · exact (abc_of c (h c (Array.mem_toList_iff.mpr hc))).2.1
  · rw [Array.any_eq_true]
    have h0' : 0 < x.cps.size := h0
    exact ⟨0, h0', (abc_of _ (h _ (Array.mem_toList_iff.mpr (Array.getElem_mem h0')))).2.2.1⟩
  · rw [Array.any_eq_false]
    intro i hi
    have y := (abc_of _ (h _ (Array.mem_toList_iff.mpr (Array.getElem_mem hi)))).2.2.2
    rw [y]
    exact Bool.false_ne_true
/-- l == [], l a list of any items -/
def rEqL0 (K : PySem.W.Frag) : R2 := fun x y H Q => ∃ a b xs, x = .ref a ∧ y = .ref b ∧ SqL K H a xs ∧ SqL K H b [] ∧ Q (.bl xs.isEmpty) H
theorem op_eqL0 {X : Cx} (hu : X.A.units + 64 < cLine) : OpR X (compareOp .Eq) (rEqL0 X.K) := by
  intro pins s σ H x y v u Q I rx ry h
  obtain ⟨a, b, xs, rfl, rfl, ha, hb, q⟩ := h
  cases (show v = Value.ref a from rx)
  cases (show u = Value.ref b from ry)
  obtain ⟨its, rv, pl, hz⟩ := I.list ha
  obtain ⟨its2, rv2, pl2, _⟩ := I.list hb
  cases rv2
  cases rv with
  | nil => exact SeqAt.eq_listAt (e := fun _ => true) pl.isList pl2.isList rfl (by omega) (fun j _ h2 => absurd h2 (by simp)) ⟨.bl true, H, I, rfl, q⟩
  | cons r1 r2 => exact SeqAt.eq_list_lengthsAt pl.isList pl2.isList (by simp) (by omega) ⟨.bl false, H, I, rfl, q⟩
theorem txs_of : ∀ {ys : List Str} {L : List MemV}, (∀ m ∈ L, m ∈ ys.map tx) → ∃ xs : List Str, L = xs.map tx ∧ ∀ x ∈ xs, x ∈ ys
  | _, [], _ => ⟨[], rfl, fun _ z => (nomatch z)⟩
  | ys, m :: L, h => by
    obtain ⟨x, hx, rfl⟩ := List.mem_map.mp (h m List.mem_cons_self)
    obtain ⟨xs, e, s⟩ := txs_of (ys := ys) (L := L) fun q hq => h q (List.mem_cons_of_mem _ hq)
    refine ⟨x :: xs, by rw [List.map_cons, e], fun z hz => ?_⟩
    rcases List.mem_cons.mp hz with e | hz
    · rw [e]
      exact hx
    · exact s z hz
theorem ltT_asym {x y : Str} (h : ltT x y = true) : ltT y x = false := by
  cases e : ltT y x with
  | false => rfl
  | true =>
    have z : ltT x x = true := lex_trans _ _ _ h e
    rw [ltT_irr] at z
    cases z
theorem asc_nodup {c : List Str} (h : AscT c) : c.Nodup := h.imp fun {a b} e z => by
  rw [z, ltT_irr] at e
  cases e
/-- two that ascend, of the same items -/
theorem asc_eq {c e : List Str} (h : AscT c) (k : AscT e) (m : ∀ x, x ∈ c ↔ x ∈ e) : c = e :=
  List.Perm.eq_of_pairwise (le := fun x y => ltT x y = true) (fun a b _ _ h1 h2 => by rw [ltT_asym h1] at h2; cases h2) h k ((List.perm_ext_iff_of_nodup (asc_nodup h) (asc_nodup k)).mpr m)
/-- what sorted(set(..)) of texts gives -/
theorem sorted_texts {xs : List Str} {L : List MemV} (h1 : ∀ m ∈ L, m ∈ xs.map tx) (h2 : ∀ m ∈ xs.map tx, m.2 ∈ L.map (·.2)) (h3 : (L.map (·.2)).Nodup) (h4 : L.Pairwise Aft) : ∃ ys : List Str, L.map (·.1) = ys.map V.str ∧ (∀ y, y ∈ ys ↔ y ∈ xs) ∧ AscT ys := by
  obtain ⟨ys, rfl, sub⟩ := txs_of h1
  refine ⟨ys, texts_mem ys, fun y => ⟨sub y, fun hy => ?_⟩, ?_⟩
  · obtain ⟨p, hp, e⟩ := List.mem_map.mp (h2 (tx y) (List.mem_map.mpr ⟨y, hy, rfl⟩))
    obtain ⟨z, hz, rfl⟩ := List.mem_map.mp hp
    rw [← NestedKey.text.inj e]
    exact hz
  · have nd : ys.Nodup := by
      rw [List.map_map] at h3
      exact (List.pairwise_map.mp h3).imp fun {a b} h e => h (by rw [e])
    refine List.Pairwise.imp₂ (R := fun x y => x ≠ y) (S := fun x y => ltT y x = false) (fun x y h1 h2 => ?_) nd (List.pairwise_map.mp h4)
    cases e : ltT x y with
    | true => rfl
    | false => exact absurd (ltT_total e h2) h1
theorem strsL_shaped {xs : List Str} (hx : ∀ x ∈ xs, PyData.strOk x = true) : SeqAt.shaped (.list (xs.map PyData.str)) = true := by
  have h : ∀ l : List Str, (∀ x ∈ l, PyData.strOk x = true) → PyData.canLayAll0 (l.map PyData.str) = true ∧ PyData.depthAll (l.map PyData.str) ≤ 1 := by
    intro l hl
    induction l with
    | nil => exact ⟨rfl, by decide⟩
    | cons c r ih =>
      have ih := ih fun x hx => hl x (List.mem_cons_of_mem _ hx)
      refine ⟨?_, ?_⟩
      · simp only [List.map_cons, PyData.canLayAll0, PyData.canLay0]
        rw [hl c List.mem_cons_self, ih.1]
        rfl
      · simp only [List.map_cons, PyData.depthAll, PyData.depth]
        have := ih.2
        omega
  obtain ⟨h1, h2⟩ := h xs hx
  unfold SeqAt.shaped
  have e1 : (PyData.list (xs.map PyData.str)).canLay0 = true := by simpa [PyData.canLay0] using h1
  have e2 : (PyData.list (xs.map PyData.str)).depth ≤ 64 := by
    simp only [PyData.depth]
    omega
  rw [e1, decide_eq_true e2]
  rfl
def spNameL (K : PySem.W.Frag) : Sp := fun vs H Q _ => ∃ (v : V) (o : Option Str), vs = [v] ∧ ItK K H v o ∧ (∀ x, o = some x → x.length ≤ 100) ∧ ∀ H', Same H H' → Q (.bl (nmIt o)) H'
section
variable {P : Program} {w : World} {K : PySem.W.Frag} {mg : Str → Option Value} {base : Heap}
theorem sc__law_is_name : FnScope ["_law_it", "_law_sign"] ["_law_it"] (defScope s__law_is_name) := ⟨rfl, rfl, rfl, by decide +kernel, rfl, by decide +kernel, by decide +kernel⟩
theorem ok__law_is_name (B : Bs mg) (f : FnF K mg "_law_is_name" "_law_is_name" s__law_is_name) : FnOk P w K mg base CX0 1 f.a f.d ["_law_it"] (spNameL K) := by
  refine f.F.ok sc__law_is_name (fun vs H Q E h => ?_) (fun cdv A outer s H vs Q E hr h => ?_)
  · obtain ⟨v, o, rfl, _⟩ := h
    rfl
  · obtain ⟨v, o, rfl, hi, sh, q⟩ := h
    have hu64 := hr.units
    refine ⟨_, (pss_cons
      (ps_if (PW.pt (pw_or (pt_not (pt_val (pe_callB call_isi (by rfl) B.n_isinstance (by decide +kernel) (pa_cons (pv 0) (pa_cons (pe_bltn (v := .ty "str") rfl B.n_str (by decide +kernel) rfl) pa_nil))))) (pw_or1 (pt_not (pt_chain op_lt op_lt pe_int (pe_callB call_len (by rfl) B.n_len (by decide +kernel) (pa_cons (pv 0) pa_nil)) pe_int)))))
        (pss_one
          (ps_ret pe_bl))
        pss_nil)
    (pss_one
      (ps_ret (pe_cmpR (op_eqL0 hu64) (pe_lc (own := [("_law_sign", 1)]) (g := gName 1) (by rfl) sc__law_is_name.nd (pi_str (pv 0)) (blkOk_by (own := [("_law_sign", 1)]) (N := ["_law_it", "_law_sign"]) (sc := defScope s__law_is_name) (by decide +kernel)) (fun _ _ _ _ _ => (pg_name (i := 1) sc__law_is_name.nd rfl (Or.inl rfl)))
        (fun _ _ _ _ _ => (pts_one (pt_cmpR op_notIn_sign (pv 1) pe_str (by rfl)))) (fun _ _ _ _ _ => (pv 1))) (pe_lst pa_nil) (nomark _))))), ?_⟩
    obtain ⟨t, b, ty, kt, eb⟩ := it_ty hi
    subst eb
    refine ⟨_, rfl, _, _, _, _, o.isSome, rfl, .ty "str", ty, kt, _, rfl, ?_⟩
    cases o with
    | none => exact iteT (q H fun _ _ e => e)
    | some x =>
      obtain rfl : v = .str x := by
        cases hi
        rfl
      have l100 := sh x rfl
      have e : nmIt (some x) = _ := name_chars x
      rw [e] at q
      refine iteF ⟨_, rfl, .str x, x.length, rfl, ⟨by rw [sizeLine_eq]; omega, rfl⟩, _, _, rfl, rfl, _, rfl, ite2 (fun c => ?_) fun c => ?_⟩
      · have c := of_decide_eq_true c
        rw [decide_eq_true (show 0 < x.length by omega), Bool.true_and] at q
        refine ⟨_, _, rfl, rfl, _, rfl, ?_⟩
        by_cases c9 : x.length < 9
        · rw [decide_eq_true c9, Bool.true_and] at q
          rw [decide_eq_true (show ((x.length : Nat) : Int) < 9 by omega)]
          refine iteF ⟨_, rfl, x, rfl, fun D hD => ?_⟩
          refine lc_it walk_str (fun i H' => Same H H' ∧ ∃ acc : List V, H' D = some (.lst acc) ∧ acc.isEmpty = ((x.cps.toList.take i).all fun c => decide (c ∈ abcL)) ∧ acc.length ≤ i) ⟨same_new hD, [], upd_same, rfl, Nat.le_refl _⟩ (fun _ _ _ _ => trivial) ?_ ?_
          · rintro i y H1 H1' hi2 ⟨e1, acc, hacc, emp, few⟩ ⟨rfl, ch, hch, rfl⟩
            have hch2 : x.cps.toList[i]? = some ch := by rw [Array.getElem?_toList]; exact hch
            have al : ((x.cps.toList.take (i + 1)).all fun c => decide (c ∈ abcL)) = (((x.cps.toList.take i).all fun c => decide (c ∈ abcL)) && decide (ch ∈ abcL)) := by
              rw [take_next hch2, List.all_append, List.all_cons, List.all_nil, Bool.and_true]
            have il : i < 9 := by
              have z : x.cps.size = x.length := rfl
              omega
            refine ⟨rfl, _, rfl, ch, _, rfl, rfl, _, rfl, ?_⟩
            show if (!decide (ch ∈ abcL)) = true then _ else _
            cases m : decide (ch ∈ abcL) with
            | true =>
              refine iteF ⟨e1, acc, hacc, ?_, by omega⟩
              rw [al, m, Bool.and_true]
              exact emp
            | false =>
              refine iteT ⟨_, rfl, acc, hacc, by rw [sizeLine_eq]; omega, same_put hD e1, _, upd_same, ?_, by rw [List.length_append]; exact Nat.succ_le_succ few⟩
              rw [al, m, Bool.and_false]
              simp
          · rintro H1 ⟨e1, acc, hacc, emp, few⟩
            rw [show x.cps.size = x.cps.toList.length by simp, List.take_length] at emp
            refine ⟨by show 0 ≤ sizeLine; exact Nat.zero_le _, fun l hl => ?_⟩
            have e2 : Same H1 (upd H1 l (.lst [])) := same_new hl
            refine ⟨D, l, acc, rfl, rfl, SqL.of (e2 _ _ hacc), SqL.of upd_same, ?_⟩
            rw [emp]
            exact q _ (same_trans e1 e2)
        · rw [decide_eq_false c9, Bool.false_and] at q
          rw [decide_eq_false (show ¬ ((x.length : Nat) : Int) < 9 by omega)]
          exact iteT (q H fun _ _ e => e)
      · have c0 : ¬ 0 < x.length := fun z => c (decide_eq_true (by omega))
        rw [decide_eq_false c0, Bool.false_and] at q
        exact ⟨_, rfl, iteT (q H fun _ _ e => e)⟩
theorem sc__law_is_base : FnScope ["_law_it", "_law_one"] ["_law_it"] (defScope s__law_is_base) := ⟨rfl, rfl, rfl, by decide +kernel, rfl, by decide +kernel, by decide +kernel⟩
theorem ok__law_is_base (B : Bs mg) (f : FnF K mg "_law_is_base" "_law_is_base" s__law_is_base) (fn : FnF K mg "_law_is_name" "_law_is_name" s__law_is_name) : FnOk P w K mg base CX0 2 f.a f.d ["_law_it"] (spDomA K) := by
  have G := ok__law_is_name (P := P) (w := w) (base := base) B fn
  have bn : Binds K fn.d ["_law_it"] [] := fn.F.binds fun _ _ _ _ _ _ us hl => match us, hl with | [_], _ => rfl
  refine f.F.ok sc__law_is_base (fun vs H Q E h => ?_) (fun cdv A outer s H vs Q E hr h => ?_)
  · obtain ⟨v, g, rfl, _⟩ := h
    rfl
  · obtain ⟨v, g, rfl, hg, sh, q⟩ := h
    have hu64 := hr.units
    refine ⟨_, (pss_cons
      (ps_if (PW.pt (pw_or (pt_not (pt_val (pe_callB call_isi (by rfl) B.n_isinstance (by decide +kernel) (pa_cons (pv 0) (pa_cons (pe_bltn (v := .ty "tuple") rfl B.n_tuple (by decide +kernel) rfl) pa_nil))))) (pw_or (pt_not (pt_chain op_lt op_lt pe_int (pe_callB call_len (by rfl) B.n_len (by decide +kernel) (pa_cons (pv 0) pa_nil)) pe_int))
          (pw_or1 (pt_cmpR (op_neL0 hu64) (pe_lc (own := [("_law_one", 1)]) (g := gName 1) (by rfl) sc__law_is_base.nd (pi_tup (pv 0)) (blkOk_by (own := [("_law_one", 1)]) (N := ["_law_it", "_law_one"]) (sc := defScope s__law_is_base) (by decide +kernel)) (fun _ _ _ _ _ => (pg_name (i := 1) sc__law_is_base.nd rfl (Or.inl rfl)))
            (fun _ _ _ _ _ => (pts_one (pt_not (pt_val (pe_call G hr (by rfl) fn.g fn.F.kp bn .nil pass0 (pa_cons (pv 1) pa_nil)))))) (fun _ _ _ _ _ => (pv 1))) (pe_lst pa_nil) (nomark _))))))
        (pss_one
          (ps_ret pe_bl))
        pss_nil)
    (pss_one
      (ps_ret (pe_cmpR (op_eqD hu64) (pe_callTy call_list_of (by rfl) B.n_list (by decide +kernel) (pa_cons (pv 0) pa_nil)) (pe_callB (cr_sortSet rfl hu64) (by rfl) B.n_sorted (by decide +kernel) (pa_cons (pe_callTy (cr_setOf rfl hu64) (by rfl) B.n_set (by decide +kernel) (pa_cons (pv 0) pa_nil)) pa_nil)) (nomark _))))), ?_⟩
    obtain ⟨t, b, ty, kt, eb⟩ := hg.ty
    subst eb
    refine ⟨_, rfl, _, _, _, _, g.isSome, rfl, .ty "tuple", ty, kt, _, rfl, ?_⟩
    cases g with
    | none => exact iteT (q H fun _ _ e => e)
    | some os =>
      obtain ⟨a, vs, rfl, ha, hi⟩ : ∃ a xs, v = .ref a ∧ H a = some (.tup xs) ∧ W.EachIs (ItK K H) xs os := by
        cases hg with
        | tup h1 h2 h3 => exact ⟨_, _, rfl, h1, h2⟩
      obtain ⟨sho, l64⟩ := sh os rfl
      have lo : vs.length = os.length := hi.length
      have dm : domIt (some os) = (os.all nmIt && (decide (1 ≤ os.length ∧ os.length ≤ 3) && decide ((os.filterMap id).Pairwise fun a b => ltT a b = true))) := rfl
      have no : ∀ H1, Same H H1 → domIt (some os) = false → Q (.bl false) H1 := fun H1 e1 e => by
        have z := q H1 e1
        rw [e] at z
        exact z
      have no2 : ¬ (1 ≤ os.length ∧ os.length ≤ 3) → Q (.bl false) H := fun z => no H (fun _ _ e => e) (by rw [dm, decide_eq_false z, Bool.false_and, Bool.and_false])
      refine iteF ⟨_, rfl, .ref a, vs.length, rfl, .inr ⟨_, SqT.of ha, rfl⟩, _, _, rfl, rfl, _, rfl, ite2 (fun c => ?_) fun c => ⟨_, rfl, iteT (no2 fun z => c (decide_eq_true (by omega)))⟩⟩
      have c := of_decide_eq_true c
      refine ⟨_, _, rfl, rfl, _, rfl, ?_⟩
      by_cases c4 : os.length < 4
      · rw [decide_eq_true (show ((vs.length : Nat) : Int) < 4 by omega)]
        refine iteF ⟨_, rfl, a, rfl, ⟨_, SqT.of ha⟩, fun D hD => ?_⟩
        refine lc_tup (K := K) (xs := vs) (fun i H' => Same H H' ∧ ∃ acc : List V, H' D = some (.lst acc) ∧ acc.isEmpty = ((os.take i).all nmIt) ∧ acc.length ≤ i) ⟨same_new hD, [], upd_same, rfl, Nat.le_refl _⟩ (fun i H' _ p => SqT.of (p.1 _ _ ha)) ?_ ?_
        · rintro i y H2 hy ⟨e2, acc, hacc, emp, few⟩
          obtain ⟨o, ho, it⟩ := each_get hi hy
          have il : i < vs.length := (List.getElem?_eq_some_iff.mp hy).1
          have al : ((os.take (i + 1)).all nmIt) = (((os.take i).all nmIt) && nmIt o) := by
            rw [take_next ho, List.all_append, List.all_cons, List.all_nil, Bool.and_true]
          refine ⟨rfl, _, rfl, y, o, rfl, it.same e2, (fun x hx => sho x (by rw [← hx]; exact List.mem_of_getElem? ho)), fun H3 e3 => ⟨_, rfl, ?_⟩⟩
          cases m : nmIt o with
          | true =>
            refine iteF ⟨same_trans e2 e3, acc, e3 _ _ hacc, ?_, by omega⟩
            rw [al, m, Bool.and_true]
            exact emp
          | false =>
            refine iteT ⟨_, rfl, acc, e3 _ _ hacc, by rw [sizeLine_eq]; omega, same_put hD (same_trans e2 e3), _, upd_same, ?_, by rw [List.length_append]; exact Nat.succ_le_succ few⟩
            rw [al, m, Bool.and_false]
            simp
        · rintro H2 ⟨e2, acc, hacc, emp, few⟩
          rw [lo, List.take_length] at emp
          refine ⟨by show 0 ≤ sizeLine; exact Nat.zero_le _, fun l hl => ?_⟩
          have e3 : Same H2 (upd H2 l (.lst [])) := same_new hl
          have e03 := same_trans e2 e3
          refine ⟨D, l, acc, rfl, rfl, SqL.of (e3 _ _ hacc), SqL.of upd_same, _, rfl, ?_⟩
          generalize upd H2 l (.lst []) = H3 at e3 e03 ⊢
          rw [emp]
          cases al : os.all nmIt with
          | false => exact iteT (no H3 e03 (by rw [dm, al, Bool.false_and]))
          | true =>
            refine iteF ?_
            obtain ⟨xs, rfl, ok⟩ := texts_of_all al
            obtain rfl := vs_texts hi
            rw [List.length_map] at l64 c4
            rw [List.length_map] at c
            have ha3 := e03 _ _ ha
            refine ⟨_, rfl, a, _, rfl, .inr (SqT.of ha3), fun l1 hl1 => ?_⟩
            have e4 : Same H3 (upd H3 l1 (.lst (xs.map V.str))) := same_new hl1
            have h4 : upd H3 l1 (.lst (xs.map V.str)) l1 = some (.lst (xs.map V.str)) := upd_same
            generalize upd H3 l1 (.lst (xs.map V.str)) = H4 at e4 h4 ⊢
            refine ⟨_, rfl, false, a, xs.map tx, rfl, .inr (SqT.of (by rw [texts_mem]; exact e4 _ _ ha3)), texts_kv xs, by rw [List.length_map]; omega, fun S L hS h1 h2 h3 => ?_⟩
            have e5 : Same H4 (upd H4 S (SetV false w S L)) := same_new hS
            have sub : ∀ d ∈ L.map (·.2.data), d ∈ (xs.map tx).map (·.2.data) := fun d hd => by
              obtain ⟨p, hp, e⟩ := List.mem_map.mp hd
              exact List.mem_map.mpr ⟨p, h1 p hp, e⟩
            obtain ⟨al1, so1⟩ := texts_al xs
            refine ⟨false, S, L, rfl, upd_same, fun p hp => Kv.up (fun a xs => same_seqT e5) _ _ (texts_kv xs p (h1 p hp)).1, fun d hd d' hd' => al1 d (sub d hd) d' (sub d' hd'), so1.imp (fun h d hd => h d (sub d hd)) fun h d hd => h d (sub d hd), fun L' p pm pw hp => ?_⟩
            obtain ⟨ys, ey, my, ay⟩ := sorted_texts (fun m hm => h1 m (pm.mem_iff.mp hm)) (fun m hm => (pm.map (·.2)).mem_iff.mpr (h2 m hm)) ((pm.map (·.2)).nodup_iff.mpr h3) pw
            rw [ey]
            have e6 := same_trans e5 (same_new (o := .lst (ys.map V.str)) hp)
            refine ⟨.list (xs.map PyData.str), .list (ys.map PyData.str), .lst (SqL.of (e6 _ _ h4)) (texts_dp xs), .lst (SqL.of upd_same) (texts_dp ys), strsL_shaped fun x hx => name_strOk (ok x hx), strsL_shaped fun x hx => name_strOk (ok x ((my x).mp hx)), ?_⟩
            have ev : PyData.eqv (.list (xs.map PyData.str)) (.list (ys.map PyData.str)) = decide (xs = ys) := by
              simp only [PyData.eqv]
              exact eqv_texts xs ys
            rw [ev]
            have z := q _ (same_trans e03 (same_trans e4 e6))
            rw [dm, al, Bool.true_and, fmap_some, List.length_map, decide_eq_true (show 1 ≤ xs.length ∧ xs.length ≤ 3 by omega), Bool.true_and] at z
            have key : decide (xs = ys) = decide (xs.Pairwise fun a b => ltT a b = true) := by
              by_cases asc : AscT xs
              · rw [decide_eq_true (asc_eq asc ay fun x => (my x).symm), decide_eq_true (show xs.Pairwise (fun a b => ltT a b = true) from asc)]
              · rw [decide_eq_false (show ¬ (xs.Pairwise fun a b => ltT a b = true) from asc)]
                exact decide_eq_false fun e => asc (by rw [e]; exact ay)
            rw [key]
            exact z
      · rw [decide_eq_false (show ¬ ((vs.length : Nat) : Int) < 4 by omega)]
        exact iteT (no2 fun z => c4 (by omega))
end
end K01
/-! Choices of which nothing is due; a choice of other names. -/
namespace K01
open PySem PySem.Spec PyProof.Rows L2 KG KS KA KX KLm KIa KCt LamX
theorem fmap_txts (xs : List Str) : txts (some (xs.map some)) = xs := fmap_some xs
theorem due_good {xs rs : List Str} (G : Good xs rs) : choiceDue (some (xs.map some)) (some (rs.map some)) = none := by
  have d : domIt (some (xs.map some)) = true := domIt_iff.mpr ⟨xs, rfl, G.ok, G.asc, G.l1, G.l3⟩
  have r : rowIt xs ((nesL xs).length : Nat) (some (rs.map some)) = true := by
    show (decide (((rs.map some).length : Int) = ((nesL xs).length : Nat)) && (rs.map some).all fun o => inIt o xs) = true
    rw [decide_eq_true (by rw [List.length_map, G.len]), Bool.true_and, List.all_eq_true]
    intro o ho
    obtain ⟨x, hx, rfl⟩ := List.mem_map.mp ho
    rw [inIt_some]
    exact decide_eq_true (G.sub x hx)
  unfold choiceDue
  rw [if_pos d, fmap_txts, fmap_txts, if_pos r, if_pos G.one]
/-! ### other names -/
def qS (x : Str) : Str := ("q" : Str) ++ x
theorem qS_cps (x : Str) : (qS x).cps.toList = ("q" : Str).cps.toList ++ x.cps.toList := by
  show (("q" : Str).cps ++ x.cps).toList = _
  simp
theorem q_cps : ("q" : Str).cps.toList = [113] := by decide +kernel
theorem qS_inj {x y : Str} (h : qS x = qS y) : x = y := by
  have z := congrArg (fun s : Str => s.cps.toList) h
  have z : (qS x).cps.toList = (qS y).cps.toList := z
  rw [qS_cps, qS_cps] at z
  have z2 := List.append_cancel_left z
  cases x
  cases y
  exact congrArg Str.mk (Array.toList_inj.mp z2)
theorem qS_len (x : Str) : (qS x).length = x.length + 1 := by
  show (qS x).cps.size = x.cps.size + 1
  rw [← Array.length_toList, ← Array.length_toList, qS_cps, q_cps]
  rfl
theorem qS_ok {x : Str} (h : nameOk x = true) (l : x.length < 8) : nameOk (qS x) = true := by
  rw [name_chars] at h ⊢
  rw [Bool.and_eq_true, Bool.and_eq_true, decide_eq_true_eq, decide_eq_true_eq, List.all_eq_true] at h ⊢
  refine ⟨by rw [qS_len]; omega, by rw [qS_len]; omega, fun c hc => ?_⟩
  rw [qS_cps, q_cps] at hc
  rcases List.mem_append.mp hc with z | z
  · rw [List.mem_singleton.mp z]
    decide +kernel
  · exact h.2.2 c z
theorem qS_lt (x y : Str) : ltT (qS x) (qS y) = ltT x y := by
  have e : ∀ a b : Str, ltT a b = ltCps a.cps.toList b.cps.toList := fun a b => (W.dataLt_str _ _).trans (lt_meets _ _)
  rw [e, e, qS_cps, qS_cps, q_cps]
  show ltCps (113 :: x.cps.toList) (113 :: y.cps.toList) = _
  have z : ∀ a b : List Nat, ltCps (113 :: a) (113 :: b) = ltCps a b := fun a b => by
    rw [ltCps]
    simp
  exact z _ _
theorem nes_q {xs : List Str} (l1 : 1 ≤ xs.length) (l3 : xs.length ≤ 3) : nesL (xs.map qS) = (nesL xs).map (List.map qS) := by
  rcases len3 l1 l3 with ⟨a, rfl⟩ | ⟨a, b, rfl⟩ | ⟨a, b, c, rfl⟩ <;> rfl
theorem good_q {xs rs : List Str} (G : Good xs rs) (h8 : ∀ x ∈ xs, x.length < 8) : Good (xs.map qS) (rs.map qS) := by
  refine ⟨?_, fun x hx => ?_, by rw [List.length_map]; exact G.l1, by rw [List.length_map]; exact G.l3, by rw [nes_q G.l1 G.l3, List.length_map, List.length_map]; exact G.len, fun x hx => ?_, ?_⟩
  · show (xs.map qS).Pairwise _
    rw [List.pairwise_map]
    exact G.asc.imp fun {a b} h => by
      rw [qS_lt]
      exact h
  · obtain ⟨y, hy, rfl⟩ := List.mem_map.mp hx
    exact qS_ok (G.ok y hy) (h8 y hy)
  · obtain ⟨y, hy, rfl⟩ := List.mem_map.mp hx
    exact List.mem_map.mpr ⟨y, G.sub y hy, rfl⟩
  · rw [List.length_map, ← List.map_take, G.one]
theorem due0 : choiceDue (some []) (some []) = some ("domain" : Str) := by
  unfold choiceDue
  rw [if_neg (show ¬ domIt (some []) = true by unfold domIt; simp)]
theorem due_word {g1 g2 : Option (List (Option Str))} {wd : Str} (h : choiceDue g1 g2 = some wd) : decide (V.str wd = V.str "") = false := by
  have key : wd = "domain" ∨ wd = "results" ∨ wd = "odd" := by
    unfold choiceDue at h
    split at h
    · split at h
      · split at h
        · cases h
        · exact .inr (.inr (Option.some.inj h).symm)
      · exact .inr (.inl (Option.some.inj h).symm)
    · exact .inl (Option.some.inj h).symm
  rcases key with rfl | rfl | rfl <;> decide +kernel
theorem q_other {xs : List Str} (h : 1 ≤ xs.length) : ¬ xs = xs.map qS := fun e => by
  cases xs with
  | nil => exact absurd h (by decide)
  | cons x r =>
    have z := (List.cons.inj e).1
    have z2 := qS_len x
    rw [← z] at z2
    omega
end K01
/-! o.m(e, ..), o.m() of a method with a star parameter; what is raised is wished for at the slots. Texts times numbers. -/
namespace KMs
open PySem PySem.Spec PyProof.Rows L2
/-- o.m(e, ..), what is raised is wished for at the slots -/
def tMethRS (C : Addr) (m : Str) (sp : Sp) (E : L2.St → XK) (ta : TE) (t : TA) : TE := fun σ H Q => ta σ H fun x H1 => ∃ a dx fs, x = .ref a ∧ H1 a = some (.ins C dx fs) ∧ fs.lookup m = none ∧ t σ H1 fun vs H2 => sp (x :: vs) H2 Q (E σ)
section
variable {X : Cx} {CX : CXT} {k : Nat} {C f : Addr} {m : Str} {sp : Sp} {E : L2.St → XK} {o e : Expr} {es : List Expr} {ta : TE} {t : TA} {apos pos : Pos} {pl : Sem Bool}
theorem run_fnRS {pins : List (Addr × Obj)} {σ : L2.St} {H : Hp} {s : Shared} {Q : VK} {us : List Value} {vs : List V} (F : FnR X.prog X.w X.K X.mg X.base CX k f sp) (hr : Room k X.A) (hx : PassesAt CX X σ (E σ)) (I : Inv X pins σ H s) (r : Vals vs us) (h : sp vs H Q (E σ)) :
    wpAny (model X.prog X.w) X.A (call (.ref f) us) (EP X pins σ Q) X.xe s := by
  refine wpAny_call (codeAny_mono (F X.A X.stack s H us vs Q (E σ) hr I.env0 r h) fun r s' hq => ?_)
  cases r with
  | error e => exact hx pins H s e s' I hq
  | ok fl =>
    cases fl with
    | ret u => exact I.after hq
    | next => exact False.elim hq
    | brk => exact False.elim hq
    | cont => exact False.elim hq
theorem pe_methRS (he : PE X o ta) (c : Cls X.K C) (hm : Meth X.K C m f)
    (F : FnR X.prog X.w X.K X.mg X.base CX k f sp) (hr : Room k X.A) (hx : ∀ σ, PassesAt CX X σ (E σ)) (ha : PA X (e :: es) t)
    (hst : starEach (e :: es) X.env = (false, eval e X.env) :: starEach es X.env := by rfl) (hpl : (backTo pos (starEach es X.env)).any (·.1) = false := by rfl)
    (ht : eval (.Call (.Attribute o m apos) (e :: es) [] pos) X.env = (do
      let ov ← eval o X.env
      standAt apos.atName
      let (f, first) ← holding [ov] (getMethod ov m pl)
      callWith pos f first (backTo pos (starEach (e :: es) X.env)) (backToKw pos (keywordEach [] X.env))) := by rfl) :
    PE X (.Call (.Attribute o m apos) (e :: es) [] pos) (tMethRS C m sp E ta t) := by
  refine ⟨fun pins s σ H Q I h => ?_⟩
  refine PySem.W.methodCall_KW (pl := pl) (thn (he.run pins s σ H _ I h) fun u s1 ⟨x, H1, I1, rx, a, dx, fs, ex, ea, l, q⟩ => ?_) ht
  subst ex
  obtain rfl : u = Value.ref a := rx
  refine getmeth_ok I1 ea c hm l ?_
  refine PySem.W.callWith_K (first := [.ref a]) (h₀ := X.base) I.ok.mod.kin hm.kp (thn (ha.run pos pins s1 σ H1 _ I1 q) fun us s2 ⟨vs, H2, I2, r, q2⟩ => ⟨I2.kIn, ?_⟩) hst hpl
  exact run_fnRS (us := .ref a :: us) (vs := .ref a :: vs) F hr (hx σ) I2 (.cons rfl r) q2
theorem pe_methRS0 (he : PE X o ta) (c : Cls X.K C) (hm : Meth X.K C m f)
    (F : FnR X.prog X.w X.K X.mg X.base CX k f sp) (hr : Room k X.A) (hx : ∀ σ, PassesAt CX X σ (E σ))
    (ht : eval (.Call (.Attribute o m apos) [] [] pos) X.env = (do
      let ov ← eval o X.env
      standAt apos.atName
      let (f, first) ← holding [ov] (getMethod ov m pl)
      callWith pos f first (backTo pos (starEach [] X.env)) (backToKw pos (keywordEach [] X.env))) := by rfl) :
    PE X (.Call (.Attribute o m apos) [] [] pos) (tMethRS C m sp E ta tNil) := by
  refine ⟨fun pins s σ H Q I h => ?_⟩
  refine PySem.W.methodCall_KW (pl := pl) (thn (he.run pins s σ H _ I h) fun u s1 ⟨x, H1, I1, rx, a, dx, fs, ex, ea, l, q⟩ => ?_) ht
  subst ex
  obtain rfl : u = Value.ref a := rx
  refine getmeth_ok I1 ea c hm l ?_
  exact PySem.W.callWith_K0 (first := [.ref a]) I1.kIn hm.kp (run_fnRS (us := [.ref a]) (vs := [.ref a]) F hr (hx σ) I1 (.cons rfl .nil) q)
end
/-! ### texts times numbers -/
def repS (i : Str) (k : Nat) : Str := if (i.length == 0) = true then i else ⟨(List.replicate k i.cps).foldl (· ++ ·) #[]⟩
theorem fold_list {α : Type} (a : Array α) : ∀ (n : Nat) (acc : Array α), ((List.replicate n a).foldl (· ++ ·) acc).toList = acc.toList ++ (List.replicate n a.toList).flatten
  | 0, acc => by simp
  | n + 1, acc => by
    rw [List.replicate_succ, List.foldl_cons, fold_list a n, List.replicate_succ, List.flatten_cons, Array.toList_append, List.append_assoc]
theorem repS_codes {i : Str} {k : Nat} : ∀ c ∈ (repS i k).cps.toList, c ∈ i.cps.toList := by
  unfold repS
  intro c hc
  split at hc
  · exact hc
  · rw [fold_list] at hc
    simp only [List.nil_append, List.mem_flatten, List.mem_replicate] at hc
    obtain ⟨l, ⟨_, rfl⟩, h⟩ := hc
    exact h
theorem repS_len {i : Str} {k : Nat} (h : 1 ≤ k) : (repS i k).length ≤ k * i.length := by
  unfold repS
  split
  · exact Nat.le_mul_of_pos_left _ h
  · show ((List.replicate k i.cps).foldl (· ++ ·) #[]).size ≤ k * i.cps.size
    rw [← Array.length_toList, fold_list]
    simp
theorem op_mulS {X : Cx} : OpR X (binaryOp .Mult) (fun x y H Q => ∃ (i : Str) (k : Int), x = .str i ∧ y = .int k ∧ 2 ≤ k ∧ k ≤ 1000 ∧ i.length ≤ 1000 ∧ Q (.str (repS i k.toNat)) H) := by
  intro pins s σ H x y v u Q I rx ry h
  obtain ⟨i, k, rfl, rfl, h1, h2, hz, q⟩ := h
  obtain ⟨t, rfl⟩ := rx
  obtain ⟨t', rfl⟩ := ry
  have n1 : ¬ k < 1 := by omega
  have k1 : (k == 1) = false := beq_eq_false_iff_ne.mpr (by omega)
  have sz : i.length * k.toNat ≤ 1000 * 1000 := Nat.mul_le_mul hz (by omega)
  refine PySem.P.mul_str (by rw [decide_eq_false (by omega), decide_eq_false (by omega)]; rfl) (fun _ _ => ?_) (fun _ _ => ?_) ?_
  · have z : (1000 : Int) ≤ (2 ^ 63 - 1) / k := (Int.le_ediv_iff_mul_le (by omega)).mpr (by omega)
    omega
  · unfold Builtin.Str.tooLong
    rw [sizeLine_eq]
    exact decide_eq_false (by omega)
  · rw [if_neg n1, k1, Bool.false_or]
    unfold repS at q
    split
    · rename_i e
      rw [if_pos e] at q
      exact ⟨.str i, H, I, ⟨_, rfl⟩, q⟩
    · rename_i e
      rw [if_neg e] at q
      refine ⟨?_, .str _, H, I.tok _, ⟨_, rfl⟩, q⟩
      have z := repS_len (i := i) (k := k.toNat) (by omega)
      unfold repS at z
      rw [if_neg e] at z
      have y : k.toNat * i.length ≤ 1000 * 1000 := Nat.mul_le_mul (by omega) hz
      refine Nat.le_trans z ?_
      rw [sizeLine_eq]
      omega
end KMs
/-! C(e, ..) and C(k = e, ..) of an own class, what is raised is wished for at the slots. -/
namespace KMk
open PySem PySem.Spec PyProof.Rows L2
def tMakeS (C : Addr) (sp : Sp) (E : L2.St → XK) (t : TA) : TE := fun σ H Q => t σ H fun vs H1 => ∀ x dx, H1 x = none → H1 dx = none → dx ≠ x →
  sp (.ref x :: vs) (upd (upd H1 dx (.own x)) x (.ins C dx [])) (fun v H2 => v = .non ∧ Q (.ref x) H2) (E σ)
def tMakeKS (C : Addr) (m : Nat) (sp : Sp) (gV : List V → List V → List V) (E : L2.St → XK) (tk : TA) : TE := fun σ H Q => tk σ H fun zs H2 => zs.length = m ∧ ∀ x dx, H2 x = none → H2 dx = none → dx ≠ x →
  sp (gV [.ref x] zs) (upd (upd H2 dx (.own x)) x (.ins C dx [])) (fun v H3 => v = .non ∧ Q (.ref x) H3) (E σ)
section
variable {X : Cx} {CX : CXT} {k : Nat} {f C : Addr} {fd : FuncData} {ps ks : List Str} {sp : Sp} {E : L2.St → XK} {x : Str} {p pos : Pos} {e : Expr} {es : List Expr} {kws : List Keyword} {t tk : TA} {g : List Value → List Value → List Value} {gV : List V → List V → List V}
theorem run_makeW {pins : List (Addr × Obj)} {σ : L2.St} {H : Hp} {s : Shared} {Q : VK} {us : List Value} {kw : List (Str × Value)} {us2 : Value → List Value} {vs2 : V → List V} (M : Mk X.K C f) (F : FnOk X.prog X.w X.K X.mg X.base CX k f fd ps sp) (hr : Room (k + 1) X.A) (hx : PassesAt CX X σ (E σ))
    (I : Inv X pins σ H s) (hb : ∀ (s : Shared) (a : Value), X.K.In s.heap → (us2 a).length = ps.length → BindsTo s fd ⟨a :: us, kw⟩ (ps.zip (us2 a))) (r : ∀ a : Addr, Vals (vs2 (.ref a)) (us2 (.ref a)))
    (h : ∀ x dx, H x = none → H dx = none → dx ≠ x → sp (vs2 (.ref x)) (upd (upd H dx (.own x)) x (.ins C dx [])) (fun v H2 => v = .non ∧ Q (.ref x) H2) (E σ)) :
    wpAny (model X.prog X.w) X.A (call (.ref C) us kw) (EP X pins σ Q) X.xe s := by
  have hq := h (s.heap.objs.size + 1) s.heap.objs.size (I.hok.fresh (Nat.le_succ _)) (I.hok.fresh (Nat.le_refl _)) (Nat.ne_of_lt (Nat.lt_succ_self _))
  have I2 := Inv.made (C := C) I
  have r2 := r (s.heap.objs.size + 1)
  have hl : (us2 (.ref (s.heap.objs.size + 1))).length = ps.length := by
    rw [← r2.length]
    exact F.len _ _ _ _ hq
  refine wpAny_call (make_map (f := f) I.kIn M.makes M.init (beq_iff_eq.mp M.fn) (codeAny_mono (F.run _ X.stack _ _ ⟨Value.ref (s.heap.objs.size + 1) :: us, kw⟩ (us2 (.ref (s.heap.objs.size + 1))) _ _ (E σ) (hr.make C us kw)
    (I2.env0.make C us kw) (hb _ _ I2.kIn hl) r2 hq) fun r s' hq' => ?_))
  cases r with
  | error e => exact hx pins _ _ e s' I2 hq'
  | ok fl =>
    cases fl with
    | ret u =>
      obtain ⟨v, H', I3, rv, ev, q3⟩ := I2.after hq'
      subst ev
      exact ⟨rv, ⟨V.ref (s.heap.objs.size + 1), H', I3, rfl, q3⟩⟩
    | next => exact False.elim hq'
    | brk => exact False.elim hq'
    | cont => exact False.elim hq'
theorem pe_makeS (M : Mk X.K C f) (F : FnOk X.prog X.w X.K X.mg X.base CX k f fd ps sp) (hr : Room (k + 1) X.A) (hg : Gl X x) (hm : X.mg x = some (.ref C)) (hb : Binds X.K fd ps []) (hx : ∀ σ, PassesAt CX X σ (E σ))
    (ha : PA X (e :: es) t) (hdb : (x == ("__debug__" : Str)) = false := by decide) (he : starEach (e :: es) X.env = (false, eval e X.env) :: starEach es X.env := by rfl) (hpl : (backTo pos (starEach es X.env)).any (·.1) = false := by rfl) :
    PE X (.Call (.Name x p) (e :: es) [] pos) (tMakeS C sp E t) := by
  refine ⟨fun pins s σ H Q I h => ?_⟩
  refine wpAny_Call_Name_kw (ld_glob I hg hm ?_ hdb)
  refine PySem.W.callWith_K (h₀ := X.base) I.ok.mod.kin M.kp (thn (ha.run pos pins s σ H _ I h) fun us s1 ⟨vs, H1, I1, r, q⟩ => ⟨I1.kIn, ?_⟩) he hpl
  refine run_makeW (us2 := fun a => a :: us) (vs2 := fun v => v :: vs) M F hr (hx σ) I1 (fun s a hk hl => ?_) (fun a => .cons rfl r) q
  have b := hb s (a :: us) hk (by rw [List.append_nil]; exact hl)
  rw [List.append_nil] at b
  exact b
theorem pe_makeKS (M : Mk X.K C f) (F : FnOk X.prog X.w X.K X.mg X.base CX k f fd ps sp) (hr : Room (k + 1) X.A) (hg : Gl X x) (hm : X.mg x = some (.ref C)) (hb : KBn X.K fd ps 1 ks g gV) (hx : ∀ σ, PassesAt CX X σ (E σ))
    (hkw : PK X kws tk) (hall : (backToKw pos (keywordEach kws X.env)).all (·.1.isSome) = true := by rfl) (hks : (backToKw pos (keywordEach kws X.env)).filterMap (·.1) = ks := by rfl)
    (hdb : (x == ("__debug__" : Str)) = false := by decide)
    (hpl : ((backTo pos (starEach [] X.env)).any (·.1) || (backToKw pos (keywordEach kws X.env)).any (·.1.isNone)) = false := by rfl) :
    PE X (.Call (.Name x p) [] kws pos) (tMakeKS C ks.length sp gV E tk) := by
  refine ⟨fun pins s σ H Q I h => ?_⟩
  refine wpAny_Call_Name_kw (ld_glob I hg hm ?_ hdb)
  refine PySem.W.callWith_KW0 (h₀ := X.base) I.ok.mod.kin M.kp hall (thn (hkw.run pos pins s σ H _ I h) fun ws s2 ⟨zs, H2, I2, rz, l2, q2⟩ => ⟨I2.kIn, ?_⟩) hpl
  rw [hks]
  exact run_makeW (us := []) (us2 := fun a => g [a] ws) (vs2 := fun v => gV [v] zs) M F hr (hx σ) I2 (fun s a hk _ => hb.to s [a] ws hk rfl (by rw [← rz.length]; exact l2)) (fun a => hb.rel (.cons rfl .nil) rz) q2
end
end KMk
/-! _law_told. -/
namespace K01
open PySem PySem.Spec PyProof.Rows L2 KG KS KA KX KLm KIa KCt LamX
abbrev s__law_told : Stmt := top 32
abbrev ksC : List Str := ["results", "domain"]
def putC {α : Type} (z : α) (us ws : List α) : List α := us ++ [ws.getD 1 z, ws.getD 0 z]
theorem vals_getD : ∀ {zs : List V} {ws : List Value}, Vals zs ws → ∀ i : Nat, L2.RelV (zs.getD i .non) (ws.getD i .none)
  | _, _, .nil, i => by
    simp
    rfl
  | _, _, .cons a b, 0 => a
  | _, _, .cons a b, i + 1 => by
    rw [List.getD_cons_succ, List.getD_cons_succ]
    exact vals_getD b i
theorem choice_kbn {K : PySem.W.Frag} (f : MtF K "__init__" "Choice.__init__" s_chInit) : KBn K f.d ["self", "domain", "results"] 1 ksC (putC .none) (putC .non) := by
  obtain ⟨oc, od, kV, doc, pm, an, cdv, ct, osl, e, lk, hcd⟩ := f.F.ex
  refine ⟨fun s us ws _ l1 l2 => ?_, fun r1 r2 => r1.append (.cons (vals_getD r2 1) (.cons (vals_getD r2 0) .nil))⟩
  rw [e]
  refine .of_eq ?_
  match us, ws, l1, l2 with
  | [a], [r, d], _, _ => rfl
/-- what is told: the choice, or the word -/
def spToldA (K : PySem.W.Frag) (T : List (Addr × Str)) (C : Addr) : Sp := fun vs H Q _ => ∃ (v1 v2 : V) (nm : Bool) (g1 g2 : Option (List (Option Str))), vs = [v1, v2, .bl nm] ∧ AnyK K H v1 g1 ∧ (∀ os, g1 = some os → Short os ∧ os.length < 64) ∧ AnyK K H v2 g2 ∧ Tabs T H ∧
  (∀ (o dx d r t : Addr) (xs rs : List Str) (H' : Hp), choiceDue g1 g2 = none → v1 = .ref d → g1 = some (xs.map some) → v2 = .ref r → g2 = some (rs.map some) → Good xs rs → ExtN H H' → Tabs T H' → H' o = some (.ins C dx (chFs d r t)) → ChIn H' d r t xs rs → Q (.ref o) H') ∧
  ∀ (wd : Str) (H' : Hp), choiceDue g1 g2 = some wd → ExtN H H' → Tabs T H' → Q (.str wd) H'
theorem choice_made {K : PySem.W.Frag} {T : List (Addr × Str)} {C N x dx : Addr} {H : Hp} {v1 v2 : V} {g1 g2 : Option (List (Option Str))} {Q : VK} {E : XK} (hx : H x = none) (hdx : H dx = none) (nd : dx ≠ x) (h1 : AnyK K H v1 g1) (sh1 : ∀ os, g1 = some os → Short os ∧ os.length < 64) (h2 : AnyK K H v2 g2) (hT : Tabs T H)
    (qv : ∀ (d r t : Addr) (xs rs : List Str) (H' : Hp), choiceDue g1 g2 = none → v1 = .ref d → g1 = some (xs.map some) → v2 = .ref r → g2 = some (rs.map some) → Good xs rs → ExtN H H' → Tabs T H' → H' x = some (.ins C dx (chFs d r t)) → ChIn H' d r t xs rs → Q .non H')
    (qe : ∀ (wd : Str) (dd : Addr) (H' : Hp), choiceDue g1 g2 = some wd → ExtN H H' → Tabs T H' → H' dd = some (.xd [(("word" : Str), V.str wd)]) → E (.ref N) (some dd) H') :
    spCA K T C N [.ref x, v1, v2] (upd (upd H dx (.own x)) x (.ins C dx [])) Q E := by
  have hx2 : upd H dx (.own x) x = none := by
    rw [upd_ne nd.symm]
    exact hx
  have e0 : Same H (upd (upd H dx (.own x)) x (.ins C dx [])) := same_trans (same_new hdx) (same_new hx2)
  refine ⟨x, dx, v1, v2, g1, g2, rfl, upd_same, h1.up e0, sh1, h2.up e0, Tabs.ext hT e0, fun d r xs rs H' t du a1 a2 a4 a5 G bo tb hx' hin => qv d r t xs rs H' du a1 a2 a4 a5 G (bo.fresh hx e0) tb hx' hin, fun wd dd H' du e1 tb hdd => qe wd dd H' du ((ExtN.of e0).trans e1) tb hdd⟩
abbrev NTo : List Str := ["_law_base", "_law_row_here", "_law_is_named", "_law_told_here", "e"]
def bodyT (K : PySem.W.Frag) (T : List (Addr × Str)) (C N : Addr) (W : WX) : TS :=
  tAsg (tIf (tB (tVar 2)) (KMk.tMakeKS C 2 (spCA K T C N) (putC .non) (WE W) (tCons (tVar 1) (tCons (tVar 0) tNil))) (KMk.tMakeS C (spCA K T C N) (WE W) (tCons (tVar 0) (tCons (tVar 1) tNil)))) (gName 3)
section
variable {P : Program} {w : World} {K : PySem.W.Frag} {mg : Str → Option Value} {base : Heap}
theorem sc__law_told : FnScope NTo ["_law_base", "_law_row_here", "_law_is_named"] (defScope s__law_told) := ⟨rfl, rfl, rfl, by decide +kernel, rfl, by decide +kernel, by decide +kernel⟩
theorem ok__law_told {T : List (Addr × Str)} {Pt : Addr} (B : Bz mg) (fi : MtF K "__init__" "Choice.__init__" s_chInit) (F : ChF K mg) (TB : TabB base mg F.sup.c Pt) (hT : T = [(Pt, lamQ)]) (C : ChC K mg fi.a) (N : ErC K mg) (XF : XfC K N.C) (f : FnF K mg "_law_told" "_law_told" s__law_told) :
    FnOk P w K mg base CX0 8 f.a f.d ["_law_base", "_law_row_here", "_law_is_named"] (spToldA K T C.C) := by
  have G := ok_chInitA (P := P) (w := w) (base := base) B fi F TB hT C N
  have bI : L2.Binds K fi.d ["self", "domain", "results"] [] := fi.F.binds fun _ _ _ _ _ _ us hl => match us, hl with | [_, _, _], _ => rfl
  refine f.F.ok sc__law_told (fun vs H Q E h => ?_) (fun cdv A outer s H vs Q E hr h => ?_)
  · obtain ⟨v1, v2, nm, g1, g2, rfl, _⟩ := h
    rfl
  · obtain ⟨v1, v2, nm, g1, g2, rfl, h1, sh1, h2, hTab, qv, qe⟩ := h
    refine ⟨_, (pss_cons
      (ps_set (i := 3) sc__law_told.nd rfl (Or.inl rfl) pe_str)
    (pss_cons
      (KTr.ps_tryFst (i := 4) (c := .ref N.C) (tb := bodyT K T C.C N.C)
        (ts := fun a cls d => tAsg (tXf a cls d N.C "word" (tVar 4)) (gName 3)) rfl rfl sc__law_told.nd rfl rfl ⟨rfl, by decide, Or.inl N.g⟩
        (fun W pn xe tk _ => by
          unfold bodyT
          exact (pss_one (ps_set (i := 3) sc__law_told.nd rfl (Or.inl rfl) (pe_ifExp (pt_val (pv 2))
            (KMk.pe_makeKS (ks := ksC) C.made G hr rfl C.g (choice_kbn fi) (fun σ => passAt tk σ) (pk_cons (pv 1) (pk_cons (pv 0) pk_nil)))
            (KMk.pe_makeS C.made G hr rfl C.g bI (fun σ => passAt tk σ) (pa_cons (pv 0) (pa_cons (pv 1) pa_nil)))))))
        (fun a oe cls d pn hz hf => pss_one (ps_set (i := 3) sc__law_told.nd rfl (Or.inl rfl) (by exact (pe_xf XF N.nf hz hf (pv 4))))))
    (pss_one
      (ps_ret (pv 3))))), ?_⟩
    refine ⟨_, rfl, nm, rfl, ?_⟩
    cases nm with
    | true =>
      refine iteT ⟨_, rfl, _, rfl, rfl, fun x dx hx hdx nd => choice_made hx hdx nd h1 sh1 h2 hTab (fun d r t xs rs H' du a1 a2 a4 a5 G e1 tb hx' hin => ?_) (fun wd dd H' du e1 tb hdd => ?_)⟩
      · exact ⟨rfl, _, rfl, qv x dx d r t xs rs H' du a1 a2 a4 a5 G e1 tb hx' hin⟩
      · refine ⟨N.ex, fun a ha => ⟨_, rfl, rfl, rfl, dd, _, .str wd, rfl, hdd, by simp, _, rfl, qe wd H' du e1 tb⟩⟩
    | false =>
      refine iteF ⟨_, rfl, _, rfl, fun x dx hx hdx nd => choice_made hx hdx nd h1 sh1 h2 hTab (fun d r t xs rs H' du a1 a2 a4 a5 G e1 tb hx' hin => ?_) (fun wd dd H' du e1 tb hdd => ?_)⟩
      · exact ⟨rfl, _, rfl, qv x dx d r t xs rs H' du a1 a2 a4 a5 G e1 tb hx' hin⟩
      · refine ⟨N.ex, fun a ha => ⟨_, rfl, rfl, rfl, dd, _, .str wd, rfl, hdd, by simp, _, rfl, qe wd H' du e1 tb⟩⟩
end
end K01
/-! Choice.least; a choice equals another. -/
namespace K01
open PySem PySem.Spec PyProof.Rows L2 KG KS KA KX KLm KIa LamX
/-- cls(..), the class in a local -/
def tMakeV (C : Addr) (sp : Sp) (dvs : List V) (E : XK) (tf : TE) (t : TA) : TE := fun σ H Q => tf σ H fun v H0 => v = .ref C ∧ tMake C sp dvs E t σ H0 Q
section
variable {X : Cx} {CX : CXT} {k : Nat} {f C : Addr} {fd : FuncData} {ps : List Str} {sp : Sp} {E : XK} {x : Str} {ds : List Value} {dvs : List V} {p pos : Pos} {e : Expr} {es : List Expr} {tf : TE} {t : TA}
theorem pe_makeV (M : Mk X.K C f) (F : FnOk X.prog X.w X.K X.mg X.base CX k f fd ps sp) (hr : Room (k + 1) X.A) (hc : PE X (.Name x p) tf) (hb : L2.Binds X.K fd ps ds) (hd : Vals dvs ds) (hx : Passes CX X E)
    (ha : PA X (e :: es) t) (he : starEach (e :: es) X.env = (false, eval e X.env) :: starEach es X.env := by rfl) (hpl : (backTo pos (starEach es X.env)).any (·.1) = false := by rfl) :
    PE X (.Call (.Name x p) (e :: es) [] pos) (tMakeV C sp dvs E tf t) := by
  refine ⟨fun pins s σ H Q I h => ?_⟩
  refine wpAny_Call_Name_kw (thn (hc.run pins s σ H _ I h) fun u s0 ⟨v, H0, I0, rv, ev, q0⟩ => ?_)
  subst ev
  obtain rfl : u = Value.ref C := rv
  refine PySem.W.callWith_K (h₀ := X.base) I0.ok.mod.kin M.kp (thn (ha.run pos pins s0 σ H0 _ I0 q0) fun us s1 ⟨vs, H1, I1, r, q⟩ => ⟨I1.kIn, ?_⟩) he hpl
  exact run_make M F hr hb hd hx I1 r q
end
/-- a choice at o -/
def ChAt (C : Addr) (H : Hp) (o : Addr) (xs rs : List Str) : Prop := ∃ dx d r t, H o = some (.ins C dx (chFs d r t)) ∧ ChIn H d r t xs rs
/-- a choice made, from the two that it is made of -/
theorem make_ch {T : List (Addr × Str)} {C : Addr} {H : Hp} {d r : Addr} {xs rs : List Str} {Q : VK} {E : XK} (hd : H d = some (.tup (xs.map V.str))) (hr : H r = some (.tup (rs.map V.str))) (g : Good xs rs) (hT : Tabs T H)
    (q : ∀ (o : Addr) (H' : Hp), H o = none → ExtN H H' → Tabs T H' → ChAt C H' o xs rs → Q (.ref o) H') :
    ∀ x dx, H x = none → H dx = none → dx ≠ x → spChI T C [.ref x, .ref d, .ref r] (upd (upd H dx (.own x)) x (.ins C dx [])) (fun v H2 => v = .non ∧ Q (.ref x) H2) E := by
  intro x dx hx hdx ne
  have e : Same H (upd (upd H dx (.own x)) x (.ins C dx [])) := same_trans (same_new hdx) (same_new (show upd H dx (.own x) x = none by rw [upd_ne ne.symm]; exact hx))
  exact ⟨x, dx, d, r, xs, rs, rfl, upd_same, e _ _ hd, e _ _ hr, g, hT.ext e, fun H' t b T' h1 h2 => ⟨rfl, q x H' hx (b.fresh hx e) T' ⟨dx, d, r, t, h1, h2⟩⟩⟩
/-- the results of the least choice -/
def leastR (xs : List Str) : List Str := (nesL xs).map fun g => g.headD Str.empty
theorem good_least {xs : List Str} (asc : AscT xs) (ok : ∀ x ∈ xs, nameOk x = true) (l1 : 1 ≤ xs.length) (l3 : xs.length ≤ 3) : Good xs (leastR xs) := by
  refine ⟨asc, ok, l1, l3, by unfold leastR; rw [List.length_map], fun x hx => ?_, ?_⟩
  · obtain ⟨g, hg, rfl⟩ := List.mem_map.mp hx
    obtain ⟨sub, ne, _, _⟩ := nes_sub hg
    obtain ⟨y, r, rfl⟩ := List.exists_cons_of_ne_nil ne
    exact sub y List.mem_cons_self
  · unfold leastR
    rw [← List.map_take, nes_first l1 l3, List.map_map]
    exact List.map_id' xs
def spLeast (T : List (Addr × Str)) (C : Addr) : Sp := fun vs H Q _ => ∃ (d : Addr) (xs : List Str), vs = [.ref C, .ref d] ∧ H d = some (.tup (xs.map V.str)) ∧ AscT xs ∧ (∀ x ∈ xs, nameOk x = true) ∧ 1 ≤ xs.length ∧ xs.length ≤ 3 ∧ Tabs T H ∧
  ∀ (o : Addr) (H' : Hp), ExtN H H' → Tabs T H' → ChAt C H' o xs (leastR xs) → Q (.ref o) H'
section
variable {P : Program} {w : World} {K : PySem.W.Frag} {mg : Str → Option Value} {base : Heap}
theorem sc_chLeast : FnScope ["cls", "domain", "some"] ["cls", "domain"] (defScope s_chLeast) := ⟨rfl, rfl, rfl, by decide +kernel, rfl, by decide +kernel, by decide +kernel⟩
theorem ok_chLeast {T : List (Addr × Str)} {Pt : Addr} (B : Bz mg) (fi : MtF K "__init__" "Choice.__init__" s_chInit) (F : ChF K mg) (TB : TabB base mg F.sup.c Pt) (hT : T = [(Pt, lamQ)]) (C : ChC K mg fi.a) (f : MtF K "least" "Choice.least" s_chLeast) :
    FnOk P w K mg base CX0 8 f.a f.d ["cls", "domain"] (spLeast T C.C) := by
  have G6 := ok_chInit (P := P) (w := w) (base := base) B fi F TB hT C
  have b6 : L2.Binds K fi.d ["self", "domain", "results"] [] := fi.F.binds fun _ _ _ _ _ _ us hl => match us, hl with | [_, _, _], _ => rfl
  have G2 := ok_nonempty_sets (P := P) (w := w) (base := base) B.toBs F.sup TB hT F.nes
  have b2 : L2.Binds K F.nes.d ["items"] [] := F.nes.F.binds fun _ _ _ _ _ _ us hl => match us, hl with | [_], _ => rfl
  refine f.F.ok sc_chLeast (fun vs H Q E h => ?_) (fun cdv A outer s H vs Q E hr h => ?_)
  · obtain ⟨d, xs, rfl, _⟩ := h
    rfl
  · obtain ⟨d, xs, rfl, hd, asc, ok, l1, l3, hTab, q⟩ := h
    have hr5 : Room 5 _ := hr.mono (by omega)
    refine ⟨_, (pss_one
      (ps_ret (pe_makeV C.made G6 hr (pv 0) b6 .nil pass0 (pa_cons (pv 1) (pa_cons (pe_callTy call_tuple_of (by rfl) B.n_tuple (by decide +kernel) (pa_cons (pe_lc (own := [("some", 2)]) (g := gName 2) (by rfl) sc_chLeast.nd (pi_tup (pe_call G2 hr5 rfl F.nes.g F.nes.F.kp b2 .nil pass0 (pa_cons (pv 1) pa_nil))) (blkOk_by (own := [("some", 2)]) (N := ["cls", "domain", "some"]) (sc := defScope s_chLeast) (by decide +kernel))
        (fun _ _ _ _ _ => (pg_name (i := 2) sc_chLeast.nd rfl (Or.inl rfl))) (fun _ _ _ _ _ => pts_nil) (fun _ _ _ _ _ => (pe_ix (show IxR _ (rIxT K) from ix_tup) (pv 2) pe_int (fun _ _ => rfl)))) pa_nil)) pa_nil))))), ?_⟩
    refine ⟨_, rfl, rfl, _, rfl, _, rfl, d, xs, rfl, hd, asc, l1, l3, hTab, fun p rs H1 e1 T1 hp hS => ?_⟩
    refine ⟨p, rfl, ⟨_, SqT.of hp⟩, fun D hD => ?_⟩
    refine lc_tup (K := K) (xs := rs) (fun i H' => Same H1 H' ∧ H' D = some (.lst (((leastR xs).take i).map V.str))) ⟨same_new hD, upd_same⟩ (fun i H' _ z => SqT.of (z.1 _ _ hp)) ?_ ?_
    · rintro i y H2 hy ⟨e2, eD⟩
      obtain ⟨g, hg, a, rfl, ha⟩ := each_get hS hy
      have il : i < (nesL xs).length := (List.getElem?_eq_some_iff.mp hg).1
      have l7 := nes_len xs
      obtain ⟨sub, ne, _, _⟩ := nes_sub (List.mem_of_getElem? hg)
      obtain ⟨z, r, rfl⟩ := List.exists_cons_of_ne_nil ne
      refine ⟨rfl, _, rfl, a, _, 0, _, rfl, rfl, SqT.of (e2 _ _ ha), at_of (j := 0) (by omega) rfl, ?_⟩
      refine ⟨_, eD, by rw [List.length_map, List.length_take, sizeLine_eq]; omega, same_put hD e2, ?_⟩
      have hl : (leastR xs)[i]? = some z := by
        unfold leastR
        rw [List.getElem?_map, hg]
        rfl
      rw [upd_same, take_next hl, List.map_append]
      rfl
    · rintro H2 ⟨e2, eD⟩
      have rl := hS.length
      have ll : (leastR xs).length = (nesL xs).length := by unfold leastR; rw [List.length_map]
      rw [rl, ← ll, List.take_length] at eD
      refine ⟨D, _, rfl, .inl ⟨SqL.of eD, fun t ht => ?_⟩⟩
      have e3 := same_trans e2 (same_new (o := .tup ((leastR xs).map V.str)) ht)
      have x3 : ExtN H (upd H2 t (.tup ((leastR xs).map V.str))) := e1.trans (ExtN.of e3)
      refine fun x dx hx hdx ne => make_ch (x3 _ _ hd (fun _ z => by cases z)) upd_same (good_least asc ok l1 l3) (T1.ext e3) (fun o H' _ e' T' ch => q o H' (x3.trans e') T' ch) x dx hx hdx ne
end
end K01
/-! Own operators of instances: x op y of one class, x == y of any y, ~x. -/
namespace KO
open PySem PySem.Spec PySem.W PyProof.Rows L2 KG
section
variable {X : Cx} {CX : CXT} {pins : List (Addr × Obj)} {σ : L2.St} {H : Hp} {s : Shared} {a C dx g : Addr} {fs : List (Str × V)} {n : Nat} {fd : FuncData} {ps : List Str} {sp : Sp} {E : XK}
theorem ins_inst (I : L2.Inv X pins σ H s) (h : H a = some (.ins C dx fs)) : ∃ ox od, InstAt s.heap a ox C od := by
  obtain ⟨mA, O, _⟩ := ins_get I.hok h
  obtain ⟨od, J, _⟩ := O.look
  exact ⟨_, od, J⟩
/-- x op y, both of the class at C, whose def for op keeps sp -/
def rBin (C : Addr) (sp : Sp) (E : XK) : R2 := fun x y H Q => ∃ a b dx dy fs gs, x = V.ref a ∧ y = V.ref b ∧ H a = some (.ins C dx fs) ∧ H b = some (.ins C dy gs) ∧ sp [x, y] H Q E
theorem op_bin {op : Operator} (hs : findIn X.K (.ref C) (PySem.dunder op.info.2) = some (some (.ref g))) (hf : isFn X.K (.ref g) = true) (hc : selfFirst X.K C = true)
    (F : FnOk X.prog X.w X.K X.mg X.base CX n g fd ps sp) (hb : L2.Binds X.K fd ps []) (hr : Room n X.A) (hx : Passes CX X E) : OpR X (binaryOp op) (rBin C sp E) := by
  intro pins s σ H x y v u Q I rx ry h
  obtain ⟨a, b, dx, dy, fs, gs, rfl, rfl, ha, hb2, q⟩ := h
  cases (show v = Value.ref a from rx)
  cases (show u = Value.ref b from ry)
  obtain ⟨ox, od, J⟩ := ins_inst I ha
  obtain ⟨oy, oe, J2⟩ := ins_inst I hb2
  obtain ⟨m, hF⟩ := I.fr
  refine binop_K (op := op) hF I.ok.mod.kin J J2.type hc hs hf ?_
  refine wpAny_mono (run_fn (us := [.ref a, .ref b]) (vs := [.ref a, .ref b]) F hr hb .nil hx I (.cons rfl (.cons rfl .nil)) q) (fun w s' z => ?_) fun _ _ x => x
  obtain ⟨z', H', I', rz, qz⟩ := z
  exact SlX.cmpback rz ⟨z', H', I', rz, qz⟩
/-- x == y, x of the class at C whose __eq__ keeps sp; y anything that is of no class below C -/
def rCmp (K : Frag) (C : Addr) (sp : Sp) (E : XK) : R2 := fun x y H Q => ∃ a dx fs t, x = V.ref a ∧ H a = some (.ins C dx fs) ∧ TyX K H y t ∧ notFirst K C t = true ∧ sp [x, y] H Q E
theorem op_cmp {op : CmpOp} (hop : ∀ a b, compareOp op a b = richCompare op a b) (hs : findIn X.K (.ref C) (cmpInfo op).2.1 = some (some (.ref g))) (hf : isFn X.K (.ref g) = true)
    (F : FnOk X.prog X.w X.K X.mg X.base CX n g fd ps sp) (hb : L2.Binds X.K fd ps []) (hr : Room n X.A) (hx : Passes CX X E) : OpR X (compareOp op) (rCmp X.K C sp E) := by
  intro pins s σ H x y v u Q I rx ry h
  obtain ⟨a, dx, fs, t, rfl, ha, ty, hn, q⟩ := h
  cases (show v = Value.ref a from rx)
  obtain ⟨ox, od, J⟩ := ins_inst I ha
  obtain ⟨P, Z, p, _⟩ := kit_of I ry ty
  obtain ⟨m, hF⟩ := I.fr
  rw [hop]
  refine cmp_K (op := op) (tb := t) hr.units0 hF I.ok.mod.kin J (Z.ty _ _ I.kIn p) hn hs hf ?_
  refine wpAny_mono (run_fn (us := [.ref a, u]) (vs := [.ref a, y]) F hr hb .nil hx I (.cons rfl (.cons ry .nil)) q) (fun w s' z => ?_) fun _ _ x => x
  obtain ⟨z', H', I', rz, qz⟩ := z
  exact SlX.cmpback rz ⟨z', H', I', rz, qz⟩
/-- ~x -/
def rUnI (C : Addr) (sp : Sp) (E : XK) : V → Hp → VK → Prop := fun x H Q => ∃ a dx fs, x = V.ref a ∧ H a = some (.ins C dx fs) ∧ sp [x] H Q E
theorem un_invI (hs : findIn X.K (.ref C) "__invert__" = some (some (.ref g))) (hf : isFn X.K (.ref g) = true) (F : FnOk X.prog X.w X.K X.mg X.base CX n g fd ps sp) (hb : L2.Binds X.K fd ps []) (hr : Room n X.A) (hx : Passes CX X E) : UnR X (unaryOp .Invert) (rUnI C sp E) := by
  intro pins s σ H x v Q I rx h
  obtain ⟨a, dx, fs, rfl, ha, q⟩ := h
  cases (show v = Value.ref a from rx)
  obtain ⟨ox, od, J⟩ := ins_inst I ha
  obtain ⟨m, hF⟩ := I.fr
  exact ksp_inv hF I.ok.mod.kin J hs hf (run_fn (us := [.ref a]) (vs := [.ref a]) F hr hb .nil hx I (.cons rfl .nil) q)
end
end KO
/-! x != y of instances whose class has an own __eq__ and no own __ne__. -/
namespace KO
open PySem PySem.Spec PySem.W PyProof.Rows L2 KG
section
variable {M : Model} {prog : Program} {w : World} {A : Around} {E : Value → Shared → Prop} {s : Shared} {K : PySem.W.Frag} {x C f L : Addr} {h₀ : Heap} {m : Str → Option Value} {ox : Obj} {od : Option Obj} {b : Value} {tb : Value}
theorem entry_ne {Q : Fin → Shared → Prop} (X : K.In s.heap) (I : PySem.W.InstAt s.heap x ox C od) (hu : A.units < cLine) (hs : findIn K (.ref C) "__eq__" = some (some (.ref f))) (hf : isFn K (.ref f) = true)
    (hcall : wpAny (model prog w) A (call (.ref f) [.ref x, b]) (fun v s' => ∃ r, v = .bool r ∧ Q (.done (.ret (.bool (!r)))) s') E s) : wpAny (model prog w) A (Builtin.«object.__ne__» ⟨[.ref x, b], []⟩) Q E s := by
  unfold Builtin.«object.__ne__»
  repeat (first
    | with_reducible refine wpAny_cRoomFor hu ?_
    | (refine wpAny_bind (m := callSpecialIfBound? (.ref x) (Str.ofString "__eq__") [b])
        (ifBound_K X I hs hf (wpAny_mono hcall (fun v s' hr => by
          obtain ⟨r, rfl, hq⟩ := hr
          repeat (first | exact hq | exact wpAny_pure hq | exact wpAny_truthy_bool hq | (refine wpAny_bind (m := truthy (.bool _)) (wpAny_truthy_bool ?_)) | wp_step)) fun _ _ e => e)))
    | wp_step)
theorem call_objNe {Q : Value → Shared → Prop} (X : K.In s.heap) (I : PySem.W.InstAt s.heap x ox C od) (hu : A.in1.units < cLine) (hm : mroIn K C (.type "object") = some true) (hs : findIn K (.ref C) "__eq__" = some (some (.ref f))) (hf : isFn K (.ref f) = true)
    (hcall : wpAny (model prog w) A.in1 (call (.ref f) [.ref x, b]) (fun v s' => ∃ r, v = .bool r ∧ Q (.bool (!r)) s') E s) : wpAny (model prog w) A (call (.builtin "object.__ne__") [.ref x, b]) Q E s :=
  wpAny_call (codeAny_call_builtin F.cmp_object.ne.plain F.cmpEntry_ne (PySem.W.check_slot F.cmpKind_ne F.cmpSplit_ne (I.type.andThen (PySem.W.looks_mroIn X hm)) (F.cmpArgs_ne _ _) (entry_ne X I hu hs hf hcall)))
theorem ifBound_objNe {args : List Value} {Q : Option Value → Shared → Prop} (X : K.In s.heap) (I : PySem.W.InstAt s.heap x ox C od) (hs : findIn K (.ref C) "__ne__" = some (some (.builtin "object.__ne__")))
    (h : wpAny M A (call (.builtin "object.__ne__") (.ref x :: args)) (fun v => Q (some v)) E s) : wpAny M A (callSpecialIfBound? (.ref x) "__ne__" args) Q E s := by
  simp only [callSpecialIfBound?, bindSpecialIfBound?]
  refine wpAny_holding (wpAny_bind (wpAny_bind (wpAny_bind (I.type.here ((PySem.W.looks_findIn X hs).here ?_)))))
  refine wpAny_bind (wpAny_askSetting (wpAny_ite ?_))
  have fin : wpAny M A (call (.builtin "object.__ne__") ([.ref x] ++ args) >>= fun v => pure (some v)) Q E s := wpAny_bind (wpAny_mono h (fun v s' h' => wpAny_pure h') fun _ _ h' => h')
  split
  · exact wpAny_bind (wpAny_of_eq (F.cmp_object.ne.bind _) (wpAny_pure (by exact fin)))
  · exact wpAny_tryCatch (wpAny_bind (wpAny_of_eq (F.cmp_object.ne.bind _) (wpAny_pure (by exact fin))))
theorem ne_K {Q : Value → Shared → Prop} (hu0 : A.units < cLine) (hu : A.in1.units < cLine) (F : Fr h₀ L s.heap m) (X₀ : K.In h₀) (I : InstAt s.heap x ox C od) (hb : Looks (model prog w) s.heap (typeOf b) tb) (hn : notFirst K C tb = true)
    (hm : mroIn K C (.type "object") = some true) (hne : findIn K (.ref C) "__ne__" = some (some (.builtin "object.__ne__"))) (hs : findIn K (.ref C) "__eq__" = some (some (.ref f))) (hf : isFn K (.ref f) = true)
    (h : wpAny (model prog w) A.in1 (call (.ref f) [.ref x, b]) (fun v s' => ∃ r, v = .bool r ∧ Q (.bool (!r)) s') E s) : wpAny (model prog w) A (richCompare .NotEq (.ref x) b) Q E s := by
  have X := X₀.keeps F.keep
  have one : wpAny (model prog w) A (tryCompare (.ref x) (cmpInfo .NotEq).2.1 b) (fun r s' => ∃ v, r = some v ∧ Q v s') E s := by
    unfold tryCompare
    refine wpAny_bind (ifBound_objNe X I hne (call_objNe X I hu hm hs hf (wpAny_mono h (fun v s' hv => ?_) fun _ _ e => e)))
    obtain ⟨r, rfl, hq⟩ := hv
    exact ⟨r, rfl, wpAny_pure ⟨_, rfl, hq⟩⟩
  unfold richCompare
  simp only [oneThing_ref]
  refine wpAny_holding (wpAny_bind (wpAny_cRoomFor hu0 ?_))
  refine wpAny_bind (I.type.here (wpAny_bind (hb.here ?_)))
  split
  · rename_i q
    have e : subIn K tb (.ref C) = some false := by
      rcases Bool.or_eq_true_iff.mp hn with e | e
      · rw [beq_iff_eq.mp e] at q; simp at q
      · exact beq_iff_eq.mp e
    refine wpAny_bind ((looks_subIn X e).here ?_)
    simp only [Bool.false_eq_true, if_false]
    refine wpAny_bind (wpAny_mono one (fun r s' z => ?_) fun _ _ e => e)
    obtain ⟨v, rfl, hq⟩ := z
    exact wpAny_pure hq
  · refine wpAny_bind (wpAny_pure ?_)
    simp only [Bool.false_eq_true, if_false]
    refine wpAny_bind (wpAny_mono one (fun r s' z => ?_) fun _ _ e => e)
    obtain ⟨v, rfl, hq⟩ := z
    exact wpAny_pure hq
end
section
variable {X : Cx} {CX : CXT} {g C : Addr} {n : Nat} {fd : FuncData} {ps : List Str} {sp : Sp} {E : XK}
def rNe (K : Frag) (C : Addr) (sp : Sp) (E : XK) : R2 := fun x y H Q => ∃ a dx fs t, x = V.ref a ∧ H a = some (.ins C dx fs) ∧ TyX K H y t ∧ notFirst K C t = true ∧ sp [x, y] H (fun v H' => ∃ b, v = .bl b ∧ Q (.bl (!b)) H') E
/-- what `!=` of a class needs -/
structure NeC (K : Frag) (C g : Addr) : Prop where
  m : mroIn K C (.type "object") = some true
  ne : findIn K (.ref C) "__ne__" = some (some (.builtin "object.__ne__"))
  eq : findIn K (.ref C) "__eq__" = some (some (.ref g))
  fn : isFn K (.ref g) = true
theorem op_neI (N : NeC X.K C g) (F : FnOk X.prog X.w X.K X.mg X.base CX n g fd ps sp) (hb : L2.Binds X.K fd ps []) (hr : Room (n + 1) X.A) (hx : Passes CX X E) : OpR X (compareOp .NotEq) (rNe X.K C sp E) := by
  intro pins s σ H x y v u Q I rx ry h
  obtain ⟨a, dx, fs, t, rfl, ha, ty, hn, q⟩ := h
  cases (show v = Value.ref a from rx)
  obtain ⟨ox, od, J⟩ := ins_inst I ha
  obtain ⟨P, Z, p, _⟩ := kit_of I ry ty
  obtain ⟨m, hF⟩ := I.fr
  show wpAny (model X.prog X.w) X.A (richCompare .NotEq (.ref a) u) _ _ _
  refine ne_K hr.units0 hr.in1.units0 hF I.ok.mod.kin J (Z.ty _ _ I.kIn p) hn N.m N.ne N.eq N.fn ?_
  have e0 : Env0 X.prog X.w X.K X.mg X.base X.A.in1 X.stack s H := by
    have e := I.env0
    exact ⟨e.frames, e.mod, e.bs, e.bsz, e.funs, e.frf, e.hok, e.bare⟩
  have hl := F.len _ _ _ _ q
  have r2 : Vals [V.ref a, y] [Value.ref a, u] := .cons rfl (.cons ry .nil)
  refine wpAny_call (codeAny_mono (F.run X.A.in1 X.stack s H ⟨[.ref a, u], []⟩ [.ref a, u] [.ref a, y] _ E hr.in1 e0 (by
    have := hb s [.ref a, u] I.kIn (by simpa using hl)
    simpa using this) r2 q) fun r s' hq => ?_)
  cases r with
  | error e => exact hx pins σ H s e s' I hq
  | ok fl =>
    cases fl with
    | ret w =>
      obtain ⟨z, H', I', rz, b, ez, q'⟩ := I.after hq
      subst ez
      cases (show w = Value.bool b from rz)
      exact ⟨b, rfl, .bl (!b), H', I', rfl, q'⟩
    | next => exact False.elim hq
    | brk => exact False.elim hq
    | cont => exact False.elim hq
end
end KO
/-! choice == x, x a choice or of another type. -/
namespace K01
open PySem PySem.Spec PyProof.Rows L2 KG KS KA KX KLm KIa LamX
def spCqA (K : PySem.W.Frag) (C : Addr) : Sp := fun vs H Q _ => ∃ (x : Addr) (y : V) (xs rs : List Str), vs = [.ref x, y] ∧ ChAt C H x xs rs ∧ (∀ z ∈ xs, nameOk z = true) ∧ (∀ z ∈ rs, z ∈ xs) ∧
  ((∃ (b : Addr) (ys ss : List Str), y = .ref b ∧ ChAt C H b ys ss ∧ (∀ z ∈ ys, nameOk z = true) ∧ (∀ z ∈ ss, z ∈ ys) ∧ Q (.bl (decide (xs = ys ∧ rs = ss))) H) ∨ (∃ t, TyX K H y t ∧ PySem.W.kitOne K t (.ref C) = some false ∧ Q (.bl false) H))
theorem eqv_txd (xs ys : List Str) : PyData.eqv (txd xs) (txd ys) = decide (xs = ys) := by
  simp only [txd, PyData.eqv]
  exact eqv_texts xs ys
theorem txd_ok {xs : List Str} (h : ∀ x ∈ xs, nameOk x = true) : SeqAt.shaped (txd xs) = true := txd_shaped fun x hx => name_strOk (h x hx)
theorem insTy {K : PySem.W.Frag} {H : Hp} {C o dx : Addr} {fs : List (Str × V)} (J : C8.InsC K C) (h : H o = some (.ins C dx fs)) : TyX K H (.ref o) (.ref C) := .base (.ins h J.cl J.ha J.hn J.htk J.hm)
section
variable {P : Program} {w : World} {K : PySem.W.Frag} {mg : Str → Option Value} {base : Heap}
theorem sc_chEq : FnScope ["self", "other"] ["self", "other"] (defScope s_chEq) := ⟨rfl, rfl, rfl, by decide +kernel, rfl, by decide +kernel, by decide +kernel⟩
theorem ok_chEqA {it : Addr} (B : Bz mg) (C : ChC K mg it) (J : C8.InsC K C.C) (f : MtF K "__eq__" "Choice.__eq__" s_chEq) : FnOk P w K mg base CX0 1 f.a f.d ["self", "other"] (spCqA K C.C) := by
  refine f.F.ok sc_chEq (fun vs H Q E h => ?_) (fun cdv A outer s H vs Q E hr h => ?_)
  · obtain ⟨x, y, xs, rs, rfl, _⟩ := h
    rfl
  · obtain ⟨x, y, xs, rs, rfl, TX, ok, sub, cs⟩ := h
    have hu64 := hr.units
    refine ⟨_, (pss_one
      (ps_ret (pe_and (pe_callB call_isi (by rfl) B.n_isinstance (by decide +kernel) (pa_cons (pv 1) (pa_cons (pe_glob (v := .ref C.C) rfl C.g rfl) pa_nil))) (pe_and (pe_cmpR (op_eqD hu64) (pe_fld (pv 0) rfl) (pe_fld (pv 1) rfl) (nomark _)) (pe_one (pe_cmpR (op_eqD hu64) (pe_fld (pv 0) rfl) (pe_fld (pv 1) rfl) (nomark _))))))), ?_⟩
    obtain ⟨dx, d, r, t, ht, ks, hd, hr1, _⟩ := TX
    have sh : SeqAt.shaped (txd xs) = true := txd_ok ok
    have sh2 : SeqAt.shaped (txd rs) = true := txd_ok fun x hx => ok x (sub x hx)
    rcases cs with ⟨b, ys, ss, rfl, TY, ok2, sub2, q⟩ | ⟨ty, hty, kt, q⟩
    · obtain ⟨dx2, d2, r2, t2, ht2, ks2, hd2, hr2, _⟩ := TY
      have sh3 : SeqAt.shaped (txd ys) = true := txd_ok ok2
      have sh4 : SeqAt.shaped (txd ss) = true := txd_ok fun x hx => ok2 x (sub2 x hx)
      refine ⟨_, rfl, _, _, _, _, true, rfl, .own _, insTy J ht2, J.me, true, rfl, iteT ?_⟩
      refine ⟨_, rfl, x, C.C, dx, _, _, rfl, ht, C.cl, C.nd, rfl, _, rfl, b, C.C, dx2, _, _, rfl, ht2, C.cl, C.nd, rfl, txd xs, txd ys, .tup (SqT.of hd) (texts_dp _), .tup (SqT.of hd2) (texts_dp _), sh, sh3, _, rfl, ?_⟩
      rw [eqv_txd]
      by_cases e1 : xs = ys
      · rw [decide_eq_true e1]
        refine iteT ⟨_, rfl, x, C.C, dx, _, _, rfl, ht, C.cl, C.nr, rfl, _, rfl, b, C.C, dx2, _, _, rfl, ht2, C.cl, C.nr, rfl, txd rs, txd ss, .tup (SqT.of hr1) (texts_dp _), .tup (SqT.of hr2) (texts_dp _), sh2, sh4, ?_⟩
        rw [eqv_txd]
        have e : decide (xs = ys ∧ rs = ss) = decide (rs = ss) := by simp [e1]
        rw [e] at q
        exact q
      · rw [decide_eq_false e1]
        rw [decide_eq_false (fun z => e1 z.1)] at q
        exact iteF q
    · exact ⟨_, rfl, _, _, _, _, false, rfl, .own _, hty, kt, false, rfl, iteF q⟩
end
end K01
/-! sorted(xs), xs a list of data of one shape. -/
namespace KSd
open PySem PySem.Spec PySem.W PyProof.Rows L2
/-- values with their data -/
abbrev Its := List (V × PyData)
def rSortD (K : PySem.W.Frag) : List V → Hp → VK → Prop := fun vs H Q => ∃ (a : Addr) (bs : Its), vs = [.ref a] ∧ SqL K H a (bs.map (·.1)) ∧ DpAll K H (bs.map (·.1)) (bs.map (·.2)) ∧ AllAlike (bs.map (·.2)) ∧ Sortable (bs.map (·.2)) ∧ bs.length < 64 ∧ (∀ b ∈ bs, b.2.depth ≤ 16) ∧
  ∀ g, H g = none → Q (.ref g) (upd H g (.lst ((bs.mergeSort (dataLe false fun b => b.2)).map (·.1))))
theorem each_rel : ∀ {bs : Its} {us : List Value}, Vals (bs.map (·.1)) us → EachIs (fun v b => L2.RelV b.1 v) us bs
  | [], _, r => by
    cases r
    exact .nil
  | b :: bs, _, r => by
    cases r with
    | cons r1 r2 => exact .cons r1 (each_rel r2)
theorem rel_each : ∀ {bs : Its} {us : List Value}, EachIs (fun v b => L2.RelV b.1 v) us bs → Vals (bs.map (·.1)) us
  | _, _, .nil => .nil
  | _, _, .cons h t => .cons h (rel_each t)
section
variable {X : Cx}
theorem each_reads {pins : List (Addr × Obj)} {σ : L2.St} {H : Hp} {s : Shared} (I : Inv X pins σ H s) : ∀ {bs : Its} {us : List Value}, Vals (bs.map (·.1)) us → DpAll X.K H (bs.map (·.1)) (bs.map (·.2)) → EachIs (fun v b => ∃ as, Reads s.heap v b.2 as) us bs
  | [], _, r, _ => by
    cases r
    exact .nil
  | b :: bs, _, r, h => by
    cases r with
    | cons r1 r2 =>
      cases h with
      | cons h1 h2 => exact .cons (Dp.reads I b.2 b.1 _ h1 r1) (each_reads I r2 h2)
theorem cr_sortD (hu : X.A.units + 64 < cLine) : CallR X (.builtin "sorted") (rSortD X.K) := by
  intro pins s σ H vs us Q I r h
  obtain ⟨a, bs, rfl, hs, hd, al, so, h64, dep, q⟩ := h
  obtain ⟨its, rv, pl, hz⟩ := I.list hs
  rw [Vals.ref1 r]
  have hn : H (s.heap.objs.size + 1) = none := I.hok.fresh (Nat.le_succ _)
  refine sorted_data (enc := fun b : V × PyData => b.2) pl.isList (each_rel rv) (each_reads I rv hd) al so (by rw [sizeLine_eq]; omega) (fun b hb => by have := dep b hb; omega) fun out zo eo => ?_
  obtain ⟨c, hc⟩ := sortedAll_at s.heap its (List.toArray out)
  have rS := rel_each eo
  have len : ((bs.mergeSort (dataLe false fun b => b.2)).map (·.1)).length ≤ sizeLine := by
    rw [List.length_map, List.length_mergeSort, sizeLine_eq]
    omega
  exact ⟨.ref _, upd H (s.heap.objs.size + 1) (.lst _), I.laid (t' := s.toks) (fun _ _ => sortedAll_old) (Nat.le_succ _) ⟨len, out, c, rS, by simpa using hc⟩, rfl, q _ hn⟩
end
end KSd
/-! _law_sets. -/
namespace K01
open PySem PySem.Spec PyProof.Rows L2 KG KS KA KX KLm KIa LamX
abbrev s__law_sets : Stmt := top 27
theorem subs_filter {xs : List Str} (h : 1 ≤ xs.length) (k : xs.length ≤ 3) : (subs xs).filter (fun g => decide (g ≠ [])) = (subs xs).tail := by
  rcases len3 h k with ⟨a, rfl⟩ | ⟨a, b, rfl⟩ | ⟨a, b, c, rfl⟩ <;> simp [subs]
theorem cut0 (rs : List V) : cutV rs none (some 0) = [] := by
  unfold cutV
  have e2 : HT.sIx rs.length rs.length (some (0 : Int)) = 0 := by simp [HT.sIx]
  rw [e2, Nat.zero_sub, List.take_zero]
theorem eqv_txd_nil (g : List Str) : PyData.eqv (txd g) (txd []) = decide (g = []) := by
  cases g with
  | nil => simp [txd, PyData.eqv, PyData.eqvAll]
  | cons x r => simp [txd, PyData.eqv, PyData.eqvAll]
/-- pairs (size, set) -/
def SzAt (H : Hp) (p : Addr × List Str) : Prop := ∃ b, H p.1 = some (.tup [.int (p.2.length : Nat), .ref b]) ∧ H b = some (.tup (p.2.map V.str))
theorem sz_dp {K : PySem.W.Frag} {H : Hp} : ∀ {ps : List (Addr × List Str)}, (∀ p ∈ ps, SzAt H p) → DpAll K H ((ps.map fun p => (V.ref p.1, kd p.2)).map (·.1)) ((ps.map fun p => (V.ref p.1, kd p.2)).map (·.2))
  | [], _ => .nil
  | p :: ps, h => by
    obtain ⟨b, h1, h2⟩ := h p List.mem_cons_self
    exact .cons (.tup (SqT.of h1) (.cons (.int _) (.cons (.tup (SqT.of h2) (texts_dp p.2)) .nil))) (sz_dp fun q hq => h q (List.mem_cons_of_mem _ hq))
def spSets : Sp := fun vs H Q _ => ∃ (d : Addr) (xs : List Str), vs = [.ref d] ∧ H d = some (.tup (xs.map V.str)) ∧ AscT xs ∧ (∀ x ∈ xs, nameOk x = true) ∧ 1 ≤ xs.length ∧ xs.length ≤ 3 ∧
  ∀ (p : Addr) (rs : List V) (H' : Hp), H p = none → Same H H' → H' p = some (.lst rs) → RowsAt H' rs (nesL xs) → Q (.ref p) H'
section
variable {P : Program} {w : World} {K : PySem.W.Frag} {mg : Str → Option Value} {base : Heap}
theorem sc__law_sets : FnScope ["_law_base", "_law_found", "_law_value", "_law_sized", "_law_some", "_law_size"] ["_law_base"] (defScope s__law_sets) := ⟨rfl, rfl, rfl, by decide +kernel, rfl, by decide +kernel, by decide +kernel⟩
theorem ok__law_sets (B : Bs mg) (f : FnF K mg "_law_sets" "_law_sets" s__law_sets) : FnOk P w K mg base CX0 1 f.a f.d ["_law_base"] spSets := by
  refine f.F.ok sc__law_sets (fun vs H Q E h => ?_) (fun cdv A outer s H vs Q E hr h => ?_)
  · obtain ⟨d, xs, rfl, _⟩ := h
    rfl
  · obtain ⟨d, xs, rfl, hd, asc, ok, l1, l3, q⟩ := h
    have hu64 := hr.units
    refine ⟨_, (pss_cons
      (ps_set (i := 1) sc__law_sets.nd rfl (Or.inl rfl) (pe_lst (pa_cons (pe_callTy call_tuple_of (by rfl) B.n_tuple (by decide +kernel) (pa_cons (pe_slice sl_tupA (pv 0) po_none (po_some pe_int)) pa_nil)) pa_nil)))
    (pss_cons
      (ps_for PassesOwn.never rfl (pi_tup (pv 0)) (pg_name (i := 2) sc__law_sets.nd rfl (Or.inr rfl))
        (pss_one
          (ps_set (i := 1) sc__law_sets.nd rfl (Or.inl rfl) (pe_op op_cat (pv 1) (pe_lc (own := [("_law_some", 4)]) (g := gName 4) (by rfl) sc__law_sets.nd (pi_list (pv 1)) (blkOk_by (own := [("_law_some", 4)]) (N := ["_law_base", "_law_found", "_law_value", "_law_sized", "_law_some", "_law_size"]) (sc := defScope s__law_sets) (by decide +kernel)) (fun _ _ _ _ _ => (pg_name (i := 4) sc__law_sets.nd rfl (Or.inl rfl))) (fun _ _ _ _ _ => pts_nil)
            (fun _ _ _ _ _ => (pe_op (show OpR _ (binaryOp .Add) (rCatA K) from op_catA) (pv 4) (pe_tup (pa_cons (pv 2) pa_nil)))))))))
    (pss_cons
      (ps_set (i := 3) sc__law_sets.nd rfl (Or.inl rfl) (pe_callB (KSd.cr_sortD hu64) (by rfl) B.n_sorted (by decide +kernel) (pa_cons (pe_lc (own := [("_law_some", 4)]) (g := gName 4) (tt := tTest (tOp (rNeD K) (tVar 4) (tTup tNil))) (by rfl) sc__law_sets.nd (pi_list (pv 1)) (blkOk_by (own := [("_law_some", 4)]) (N := ["_law_base", "_law_found", "_law_value", "_law_sized", "_law_some", "_law_size"]) (sc := defScope s__law_sets) (by decide +kernel))
          (fun _ _ _ _ _ => (pg_name (i := 4) sc__law_sets.nd rfl (Or.inl rfl))) (fun _ _ _ _ _ => pts_one (pt_cmpR (show OpR _ (compareOp .NotEq) (rNeD K) from op_neD hu64) (pv 4) (pe_tup pa_nil) (nomark _)))
          (fun _ _ _ _ _ => (pe_tup (pa_cons (pe_callB (show CallR _ (.builtin "len") (rLen K) from call_len) (by rfl) B.n_len (by decide +kernel) (pa_cons (pv 4) pa_nil)) (pa_cons (pv 4) pa_nil))))) pa_nil)))
    (pss_one
      (ps_ret (pe_lc (own := [("_law_size", 5), ("_law_some", 4)]) (g := gTup K 2 (gCons (gName 5) (gCons (gName 4) gNil))) (by rfl) sc__law_sets.nd (pi_list (pv 3)) (blkOk_by (own := [("_law_size", 5), ("_law_some", 4)]) (N := ["_law_base", "_law_found", "_law_value", "_law_sized", "_law_some", "_law_size"]) (sc := defScope s__law_sets) (by decide +kernel))
        (fun _ _ _ _ _ => (show PG _ _ (gTup K 2 (gCons (gName 5) (gCons (gName 4) gNil))) from pg_tup (by rfl) (pgs_cons (pg_name (i := 5) sc__law_sets.nd rfl (Or.inl rfl)) (pgs_cons (pg_name (i := 4) sc__law_sets.nd rfl (Or.inl rfl)) pgs_nil)))) (fun _ _ _ _ _ => pts_nil)
        (fun _ _ _ _ _ => (pv 4)))))))), ?_⟩
    -- [tuple(base[:0])]
    refine ⟨_, rfl, 0, rfl, d, _, rfl, SqT.of hd, fun ⟨_, z⟩ => ?_, fun _ t ht => ⟨t, _, rfl, .inr ⟨SqT.of upd_same, ⟨by show 1 ≤ sizeLine; decide, fun l hl => ?_⟩⟩⟩⟩
    · have e2 : HT.sIx (xs.map V.str).length (xs.map V.str).length (some (0 : Int)) = 0 := by simp [HT.sIx]
      rw [e2, List.length_map] at z
      omega
    rw [cut0] at hl ⊢
    have e0 : Same H (upd (upd H t (.tup [])) l (.lst [V.ref t])) := same_trans (same_new ht) (same_new hl)
    -- for value in base
    refine ⟨_, rfl, d, rfl, ⟨_, SqT.of (e0 _ _ hd)⟩, ?_⟩
    refine for_tup (K := K) (a := d) (xs := xs.map V.str) (fun i σ H' => ∃ (l : Addr) (rs : List V) (v2 v4 : Option V), σ = [some (.ref d), some (.ref l), v2, none, v4, none] ∧ Same H H' ∧ H' l = some (.lst rs) ∧ RowsAt H' rs (subs (xs.take i)))
      ⟨l, _, none, none, rfl, e0, upd_same, .cons ⟨t, rfl, by rw [upd_ne (ne_of_none upd_same hl), upd_same]; rfl⟩ .nil⟩ (fun i σ H' _ ⟨_, _, _, _, _, e, _⟩ => SqT.of (e _ _ hd)) ?_ ?_
    · rintro i y σ H1 hi ⟨l, rs, v2, v4, rfl, e1, hl1, hR⟩
      rw [List.getElem?_map] at hi
      cases hx : xs[i]? with
      | none =>
        rw [hx] at hi
        cases hi
      | some x =>
        rw [hx] at hi
        obtain rfl : V.str x = y := Option.some.inj hi
        have il : i < xs.length := (List.getElem?_eq_some_iff.mp hx).1
        obtain ⟨sl, sr⟩ := subs_len xs i (by omega)
        have sl4 : (subs (xs.take i)).length ≤ 4 := by
          rw [sl]
          calc 2 ^ i ≤ 2 ^ 2 := Nat.pow_le_pow_right (by decide) (by omega)
            _ ≤ 4 := by decide
        rw [subs_next hx]
        generalize subs (xs.take i) = R at hR sl4 sr ⊢
        have rl := hR.length
        refine ⟨_, rfl, _, rfl, l, rfl, ⟨_, SqL.of hl1⟩, fun D hD => ?_⟩
        have nlD : l ≠ D := ne_of_none hl1 hD
        refine lc_list (K := K) (xs := rs) (fun k H' => ∃ ac, Same H1 H' ∧ H' D = some (.lst ac) ∧ RowsAt H' ac ((R.take k).map (· ++ [x]))) ⟨[], same_new hD, upd_same, .nil⟩ (fun k H' _ ⟨_, e, _⟩ => SqL.of (e _ _ hl1)) ?_ ?_
        · rintro k z H3 hz ⟨ac, e4, hac, hB⟩
          obtain ⟨ts, hRk, b, rfl, hb⟩ := each_get hR hz
          have kl : k < R.length := (List.getElem?_eq_some_iff.mp hRk).1
          have tl := sr ts (List.mem_of_getElem? hRk)
          have lac : ac.length ≤ 4 := by
            have z := hB.length
            rw [List.length_map, List.length_take] at z
            omega
          have fin : ∀ {H4 : Hp} {v : V}, Same H3 H4 → H4 D = some (.lst ac) → (∃ b, v = V.ref b ∧ H4 b = some (.tup ((ts ++ [x]).map V.str))) →
              ∃ acc, H4 D = some (.lst acc) ∧ acc.length < sizeLine ∧ ∃ acc', Same H1 (upd H4 D (.lst (acc ++ [v]))) ∧ upd H4 D (.lst (acc ++ [v])) D = some (.lst acc') ∧
                RowsAt (upd H4 D (.lst (acc ++ [v]))) acc' ((R.take (k + 1)).map (· ++ [x])) := fun {H4 v} e5 h4 hv => by
            refine ⟨ac, h4, by rw [sizeLine_eq]; omega, ac ++ [v], same_put hD (same_trans e4 e5), upd_same, ?_⟩
            have hrow : RowsAt H4 (ac ++ [v]) ((R.take (k + 1)).map (· ++ [x])) := by
              rw [take_next hRk, List.map_append]
              exact each_snoc (hB.up e5) hv
            refine each_and hrow fun v ts _ ⟨b, e6, e7⟩ => ⟨b, e6, ?_⟩
            rw [upd_ne (ne_of e7 h4 (by intro z; cases z))]
            exact e7
          refine ⟨rfl, _, rfl, _, rfl, by show 1 ≤ sizeLine; decide, fun u hu => ?_⟩
          have e5 : Same H3 (upd H3 u (.tup [V.str x])) := same_new hu
          refine ⟨b, u, ts.map V.str, [V.str x], rfl, rfl, SqT.of (e5 _ _ (e4 _ _ hb)), SqT.of upd_same, ?_, fun z => ?_, fun _ z => (nomatch z), fun _ _ p hp => ?_⟩
          · rw [List.length_map, sizeLine_eq]
            show ts.length + 1 ≤ _
            omega
          · have z2 : ts = [] := List.map_eq_nil_iff.mp z
            exact fin e5 (e5 _ _ hac) ⟨u, rfl, by rw [upd_same, z2]; rfl⟩
          · have e6 := same_trans e5 (same_new (o := .tup (ts.map V.str ++ [V.str x])) hp)
            exact fin e6 (e6 _ _ hac) ⟨p, rfl, by rw [upd_same, List.map_append]; rfl⟩
        · rintro H3 ⟨ac, e4, hac, hB⟩
          rw [rl, List.take_length] at hB
          have al := hB.length
          rw [List.length_map] at al
          refine ⟨l, D, rs, ac, rfl, rfl, e4 _ _ hl1, hac, by rw [sizeLine_eq]; omega, fun p hp => ?_⟩
          have e5 := same_new (o := .lst (rs ++ ac)) hp
          exact ⟨p, rs ++ ac, _, _, rfl, same_trans e1 (same_trans e4 e5), upd_same, each_appC ((hR.up e4).up e5) (hB.up e5)⟩
    · rintro σ H1 ⟨l, rs, v2, v4, rfl, e1, hl1, hR⟩
      rw [List.length_map, List.take_length] at hR
      obtain ⟨sl, sr⟩ := subs_len xs xs.length (Nat.le_refl _)
      rw [List.take_length] at sl sr
      have sl8 : (subs xs).length ≤ 8 := by
        rw [sl]
        calc 2 ^ xs.length ≤ 2 ^ 3 := Nat.pow_le_pow_right (by decide) l3
          _ ≤ 8 := by decide
      have rl := hR.length
      have mem : ∀ g ∈ subs xs, ∀ y ∈ g, PyData.strOk y = true := fun g hg y hy => by
        by_cases e : g = []
        · rw [e] at hy
          cases hy
        · have z : g ∈ (subs xs).tail := by
            rw [← subs_filter l1 l3, List.mem_filter]
            exact ⟨hg, decide_eq_true e⟩
          exact name_strOk (ok y ((nes_sub ((nes_perm l1 l3).mem_iff.mpr z)).1 y hy))
      -- sorted([(len(group), group) for group in found if group != ()])
      refine ⟨_, rfl, l, rfl, ⟨_, SqL.of hl1⟩, fun D hD => ?_⟩
      refine lc_list (K := K) (xs := rs) (fun k H' => ∃ ps : List (Addr × List Str), Same H1 H' ∧ H' D = some (.lst (ps.map fun p => V.ref p.1)) ∧ ps.map (·.2) = ((subs xs).take k).filter (fun g => decide (g ≠ [])) ∧ ∀ p ∈ ps, SzAt H' p)
        ⟨[], same_new hD, upd_same, rfl, fun _ z => nomatch z⟩ (fun k H' _ ⟨_, e, _⟩ => SqL.of (e _ _ hl1)) ?_ ?_
      · rintro k z H3 hz ⟨ps, e4, hD3, eps, hps⟩
        obtain ⟨ts, hRk, b, rfl, hb⟩ := each_get hR hz
        have kl : k < (subs xs).length := (List.getElem?_eq_some_iff.mp hRk).1
        have mts := List.mem_of_getElem? hRk
        have tl := sr ts mts
        have lps : ps.length ≤ 8 := by
          have z := congrArg List.length eps
          rw [List.length_map] at z
          have z2 := List.length_filter_le (fun g : List Str => decide (g ≠ [])) ((subs xs).take k)
          rw [List.length_take] at z2
          omega
        refine ⟨rfl, _, rfl, by show 0 ≤ sizeLine; exact Nat.zero_le _, fun u hu => ?_⟩
        have e5 : Same H3 (upd H3 u (.tup [])) := same_new hu
        have hb5 := e5 _ _ (e4 _ _ hb)
        refine ⟨txd ts, txd [], .tup (SqT.of hb5) (texts_dp ts), .tup (SqT.of upd_same) .nil, txd_shaped (mem ts mts), by decide +kernel, _, rfl, ?_⟩
        rw [eqv_txd_nil]
        by_cases ne : ts = []
        · rw [decide_eq_true ne]
          refine iteF ⟨ps, same_trans e4 e5, e5 _ _ hD3, ?_, fun p hp => ?_⟩
          · rw [take_next hRk, List.filter_append, eps, ne]
            simp
          · obtain ⟨c, h1, h2⟩ := hps p hp
            exact ⟨c, e5 _ _ h1, e5 _ _ h2⟩
        · rw [decide_eq_false ne]
          refine iteT ⟨_, rfl, .ref b, ts.length, rfl, .inr ⟨_, SqT.of hb5, by rw [List.length_map]⟩, _, rfl, by show 2 ≤ sizeLine; decide, fun v hv => ?_⟩
          have e6 := same_trans e5 (same_new (o := .tup [V.int (ts.length : Nat), V.ref b]) hv)
          refine ⟨_, e6 _ _ hD3, by rw [List.length_map, sizeLine_eq]; omega, ps ++ [(v, ts)], same_put hD (same_trans e4 e6), by rw [upd_same, List.map_append]; rfl, ?_, fun p hp => ?_⟩
          · rw [List.map_append, take_next hRk, List.filter_append, eps]
            simp [ne]
          · have go : SzAt (upd (upd H3 u (.tup [])) v (.tup [V.int (ts.length : Nat), V.ref b])) p := by
              rcases List.mem_append.mp hp with hp | hp
              · obtain ⟨c, h1, h2⟩ := hps p hp
                exact ⟨c, e6 _ _ h1, e6 _ _ h2⟩
              · rw [List.mem_singleton.mp hp]
                exact ⟨b, upd_same, e6 _ _ (e4 _ _ hb)⟩
            obtain ⟨c, h1, h2⟩ := go
            have hD4 := e6 _ _ hD3
            exact ⟨c, by rw [upd_ne (ne_of h1 hD4 (by intro z; cases z))]; exact h1, by rw [upd_ne (ne_of h2 hD4 (by intro z; cases z))]; exact h2⟩
      · rintro H3 ⟨ps, e4, hD3, eps, hps⟩
        rw [rl, List.take_length, subs_filter l1 l3] at eps
        have lps : ps.length ≤ 8 := by
          have z := congrArg List.length eps
          rw [List.length_map, List.length_tail] at z
          omega
        have em : (ps.map fun p => ((V.ref p.1, kd p.2) : V × PyData)).map (·.1) = ps.map fun p => V.ref p.1 := by
          rw [List.map_map]
          rfl
        refine ⟨D, ps.map fun p => (V.ref p.1, kd p.2), rfl, by rw [em]; exact SqL.of hD3, sz_dp hps, ?_, ?_, by rw [List.length_map]; omega, ?_, fun g hg => ?_⟩
        · rw [List.map_map]
          exact W.AllAlike.of fun a b => by simp [kd, W.alike, W.alikeAll, alike_strs]
        · rw [List.map_map]
          exact W.Sortable.tuples fun _ => ⟨_, _, rfl⟩
        · intro b hb
          obtain ⟨p, _, rfl⟩ := List.mem_map.mp hb
          have d1 := depth_strs p.2
          simp only [kd, PyData.depth, PyData.depthAll]
          omega
        have so : ((ps.map fun p => ((V.ref p.1, kd p.2) : V × PyData)).mergeSort (W.dataLe false fun b => b.2)).map (·.1) = (ps.mergeSort (W.dataLe false fun p => kd p.2)).map fun p => V.ref p.1 := by
          rw [← List.map_mergeSort (f := fun p : Addr × List Str => ((V.ref p.1, kd p.2) : V × PyData)) (r := W.dataLe false fun p => kd p.2) (fun a _ b _ => rfl), List.map_map]
          rfl
        rw [so]
        have e5 : Same H3 (upd H3 g (.lst ((ps.mergeSort (W.dataLe false fun p => kd p.2)).map fun p => V.ref p.1))) := same_new hg
        have ss := sort_is (fun p : Addr × List Str => p.2) ps asc l1 l3 (.of_eq eps)
        have pm := List.mergeSort_perm ps (W.dataLe false fun p => kd p.2)
        have hg5 : upd H3 g (.lst ((ps.mergeSort (W.dataLe false fun p => kd p.2)).map fun p => V.ref p.1)) g = some (.lst ((ps.mergeSort (W.dataLe false fun p => kd p.2)).map fun p => V.ref p.1)) := upd_same
        generalize ps.mergeSort (W.dataLe false fun p => kd p.2) = qs at e5 ss pm hg5 ⊢
        have hqs : ∀ p ∈ qs, SzAt (upd H3 g (.lst (qs.map fun p => V.ref p.1))) p := fun p hp => by
          obtain ⟨c, h1, h2⟩ := hps p (pm.mem_iff.mp hp)
          exact ⟨c, e5 _ _ h1, e5 _ _ h2⟩
        generalize upd H3 g (.lst (qs.map fun p => V.ref p.1)) = H5 at e5 hg5 hqs ⊢
        have e15 := same_trans e4 e5
        have l7 := nes_len xs
        have lq : qs.length = (nesL xs).length := by
          have z := congrArg List.length ss
          rw [List.length_map] at z
          exact z
        -- [group for size, group in sized]
        refine ⟨_, rfl, g, rfl, ⟨_, SqL.of hg5⟩, fun D2 hD2 => ?_⟩
        refine lc_list (K := K) (xs := qs.map fun p => V.ref p.1) (fun k H' => ∃ ac, Same H5 H' ∧ H' D2 = some (.lst ac) ∧ RowsAt H' ac ((nesL xs).take k)) ⟨[], same_new hD2, upd_same, .nil⟩ (fun k H' _ ⟨_, e, _⟩ => SqL.of (e _ _ hg5)) ?_ ?_
        · rintro k z H6 hz ⟨ac, e6, hac, hB⟩
          rw [List.getElem?_map] at hz
          cases hk : qs[k]? with
          | none =>
            rw [hk] at hz
            cases hz
          | some p =>
            rw [hk] at hz
            obtain rfl : V.ref p.1 = z := Option.some.inj hz
            obtain ⟨c, h1, h2⟩ := hqs p (List.mem_of_getElem? hk)
            have hn : (nesL xs)[k]? = some p.2 := by
              rw [← ss, List.getElem?_map, hk]
              rfl
            have kl : k < (nesL xs).length := (List.getElem?_eq_some_iff.mp hn).1
            have lac : ac.length ≤ 8 := by
              have z := hB.length
              rw [List.length_take] at z
              omega
            refine ⟨p.1, _, rfl, SqT.of (e6 _ _ h1), rfl, _, _, rfl, _, _, rfl, rfl, rfl, _, rfl, ac, hac, by rw [sizeLine_eq]; omega, ac ++ [V.ref c], same_put hD2 e6, upd_same, ?_⟩
            have hrow : RowsAt H6 (ac ++ [V.ref c]) ((nesL xs).take (k + 1)) := by
              rw [take_next hn]
              exact each_snoc hB ⟨c, rfl, e6 _ _ h2⟩
            refine each_and hrow fun v ts _ ⟨b, e7, e8⟩ => ⟨b, e7, ?_⟩
            rw [upd_ne (ne_of e8 hac (by intro z; cases z))]
            exact e8
        · rintro H6 ⟨ac, e6, hac, hB⟩
          rw [List.length_map, lq, List.take_length] at hB
          exact q D2 ac H6 (e1.free (e15.free hD2)) (same_trans e1 (same_trans e15 e6)) hac hB
end
end K01
/-! _law_row. -/
namespace K01
open PySem PySem.Spec PyProof.Rows L2 KG KS KA KX KLm KIa LamX
abbrev s__law_row : Stmt := top 28
abbrev NRw : List Str := ["_law_deck_here", "_law_base", "_law_some"]
def spRow2 : Sp := fun vs H Q _ => ∃ (d l b : Addr) (xs : List Str) (k : Nat), vs = [.ref d, .ref b] ∧ DeckAt H d l k ∧ k + 20 < 1000000000 ∧ H b = some (.tup (xs.map V.str)) ∧ AscT xs ∧ (∀ x ∈ xs, nameOk x = true) ∧ 1 ≤ xs.length ∧ xs.length ≤ 3 ∧
  ∀ (t : Addr) (rs : List Str) (H' : Hp), H t = none → DeckAt H' d l (k + 10) → Off d l H H' → H' t = some (.tup (rs.map V.str)) → Good xs rs → Q (.ref t) H'
section
variable {P : Program} {w : World} {K : PySem.W.Frag} {mg : Str → Option Value} {base : Heap}
theorem lst_off {H H' : Hp} {d l p : Addr} {k : Nat} {xs : List V} (h : H p = some (.lst xs)) (n : p ≠ l) (D : DeckAt H d l k) (o : Off d l H H') : H' p = some (.lst xs) := by
  obtain ⟨cs, m, nn, hd, hl, _⟩ := D.ex
  exact o _ _ h (ne_of h hd (by intro z; cases z)) n
theorem off_free {d l p : Addr} {H H' : Hp} (o : Off d l H H') (h : H' p = none) (n1 : p ≠ d) (n2 : p ≠ l) : H p = none := by
  cases e : H p with
  | none => rfl
  | some u =>
    rw [o p u e n1 n2] at h
    cases h
theorem sc__law_row : FnScope NRw ["_law_deck_here", "_law_base"] (defScope s__law_row) := ⟨rfl, rfl, rfl, by decide +kernel, rfl, by decide +kernel, by decide +kernel⟩
theorem ok__law_row (B : Bs mg) (f : FnF K mg "_law_row" "_law_row" s__law_row) (fs : FnF K mg "_law_sets" "_law_sets" s__law_sets) (fk : FnF K mg "_law_pick" "_law_pick" s__law_pick) (fd : FnF K mg "_law_draw" "_law_draw" s__law_draw) : FnOk P w K mg base CX0 3 f.a f.d ["_law_deck_here", "_law_base"] spRow2 := by
  have GS := ok__law_sets (P := P) (w := w) (base := base) B fs
  have bS : L2.Binds K fs.d ["_law_base"] [] := fs.F.binds fun _ _ _ _ _ _ us hl => match us, hl with | [_], _ => rfl
  have GT := ok__law_pickT (P := P) (w := w) (base := base) B.toBi fk fd
  have bT : L2.Binds K fk.d ["_law_deck_here", "_law_options"] [] := fk.F.binds fun _ _ _ _ _ _ us hl => match us, hl with | [_, _], _ => rfl
  refine f.F.ok sc__law_row (fun vs H Q E h => ?_) (fun cdv A outer s H vs Q E hr h => ?_)
  · obtain ⟨d, l, b, xs, k, rfl, _⟩ := h
    rfl
  · obtain ⟨d, l, b, xs, k, rfl, D5, hkk, hb5, asc, ok, l1, l3, q⟩ := h
    have hu64 := hr.units
    have hr1 : Room 1 _ := hr.mono (by omega)
    refine ⟨_, (pss_one
      (ps_ret (pe_callTy call_tuple_of (by rfl) B.n_tuple (by decide +kernel) (pa_cons (pe_lc (own := [("_law_some", 2)]) (g := gName 2) (by rfl) sc__law_row.nd (pi_list (pe_call GS hr1 rfl fs.g fs.F.kp bS .nil pass0 (pa_cons (pv 1) pa_nil))) (blkOk_by (own := [("_law_some", 2)]) (N := NRw) (sc := defScope s__law_row) (by decide +kernel)) (fun _ _ _ _ _ => (pg_name (i := 2) sc__law_row.nd rfl (Or.inl rfl))) (fun _ _ _ _ _ => pts_nil)
        (fun _ _ _ _ _ => (pe_ifExp (pt_cmpR op_eq (pe_callB (show CallR _ (.builtin "len") (rLen0 K) from call_len) (by rfl) B.n_len (by decide +kernel) (pa_cons (pv 2) pa_nil)) pe_int (nomark _)) (pe_ix (show IxR _ (rIxT K) from ix_tup) (pv 2) pe_int (fun _ _ => rfl)) (pe_call GT hr rfl fk.g fk.F.kp bT .nil pass0 (pa_cons (pv 0) (pa_cons (pv 1) pa_nil)))))) pa_nil)))), ?_⟩
    refine ⟨_, rfl, b, xs, rfl, hb5, asc, ok, l1, l3, fun p rs H6 hp e6 hp6 hS => ?_⟩
    obtain ⟨ks, ek, e2k, hk6⟩ := rows_pairs hS
    subst ek
    clear hS
    have npl : p ≠ l := by
      obtain ⟨cs, mm, nn, _, hl2, _⟩ := D5.ex
      exact (ne_of_none hl2 hp).symm
    have D6 := D5.same e6
    have hb6 := e6 _ _ hb5
    have l7 := nes_len xs
    have lk : ks.length = (nesL xs).length := by
      have z := congrArg List.length e2k
      rw [List.length_map] at z
      exact z
    have e6' := e6
    clear hp e6 D5 hb5
    -- row
    have g_of : ∀ {i : Nat} {y : V}, (ks.map fun p => V.ref p.1)[i]? = some y → ∃ (a : Addr) (g : List Str), y = V.ref a ∧ ks[i]? = some (a, g) ∧ (nesL xs)[i]? = some g ∧ g ∈ nesL xs := fun {i y} h => by
      rw [List.getElem?_map] at h
      cases hx : ks[i]? with
      | none =>
        rw [hx] at h
        cases h
      | some pp =>
        rw [hx] at h
        have e : (nesL xs)[i]? = some pp.2 := by
          rw [← e2k, List.getElem?_map, hx]
          rfl
        exact ⟨pp.1, pp.2, (Option.some.inj h).symm, rfl, e, List.mem_of_getElem? e⟩
    refine ⟨p, rfl, ⟨_, SqL.of hp6⟩, fun D hD => ?_⟩
    have nDl : D ≠ l := by
      obtain ⟨cs, mm, nn, _, hl2, _⟩ := D6.ex
      exact (ne_of_none hl2 hD).symm
    have nDd : D ≠ d := by
      obtain ⟨cs, mm, nn, hd2, _, _⟩ := D6.ex
      exact (ne_of_none hd2 hD).symm
    have eD : Same H6 (upd H6 D (.lst [])) := same_new hD
    refine lc_list (K := K) (xs := ks.map fun p => V.ref p.1) (fun i H' => ∃ row : List Str, DeckAt H' d l (k + i) ∧ Off d l H6 H' ∧ H' D = some (.lst (row.map V.str)) ∧ row.length = i ∧ (∀ x ∈ row, x ∈ xs) ∧ row.take xs.length = xs.take i)
      ⟨[], D6.same eD, Off.of eD, upd_same, rfl, (fun _ z => nomatch z), by simp⟩ (fun i H' _ ⟨_, _, o, _⟩ => SqL.of (lst_off hp6 npl D6 o)) ?_ ?_
    · rintro i2 y H7 hy ⟨row, D7, o7, hD7, rln, rin, rtk⟩
      obtain ⟨a, g, rfl, hki, hgi, hgm⟩ := g_of hy
      obtain ⟨sub, ne, g3, _⟩ := nes_sub hgm
      have il : i2 < (nesL xs).length := (List.getElem?_eq_some_iff.mp hgi).1
      have ha := tup_off (hk6 _ (List.mem_of_getElem? hki)) D6 o7
      have hb7 := tup_off hb6 D6 o7
      have put : ∀ {H8 : Hp} {x : Str}, DeckAt H8 d l (k + (i2 + 1)) → Off d l H6 H8 → H8 D = some (.lst (row.map V.str)) → x ∈ xs → (i2 < xs.length → x = xs.getD i2 Str.empty) →
          ∃ acc, H8 D = some (.lst acc) ∧ acc.length < sizeLine ∧ ∃ row2 : List Str, DeckAt (upd H8 D (.lst (acc ++ [V.str x]))) d l (k + (i2 + 1)) ∧ Off d l H6 (upd H8 D (.lst (acc ++ [V.str x]))) ∧ (upd H8 D (.lst (acc ++ [V.str x]))) D = some (.lst (row2.map V.str)) ∧ row2.length = i2 + 1 ∧
            (∀ x ∈ row2, x ∈ xs) ∧ row2.take xs.length = xs.take (i2 + 1) := fun {H8 x} D8 o8 hD8 hx hfst => by
        refine ⟨_, hD8, by rw [List.length_map, sizeLine_eq]; omega, row ++ [x], ?_, ?_, by rw [upd_same, List.map_append]; rfl, by rw [List.length_append, rln]; rfl, fun y hy => ?_, ?_⟩
        · obtain ⟨cs, mm, nn, h1, h2, h3⟩ := D8.ex
          exact ⟨cs, mm, nn, by rw [upd_ne nDd.symm]; exact h1, by rw [upd_ne nDl.symm]; exact h2, h3⟩
        · intro c u hc n1 n2
          rw [upd_ne (ne_of_none hc hD)]
          exact o8 c u hc n1 n2
        · rcases List.mem_append.mp hy with z | z
          · exact rin y z
          · rw [List.mem_singleton.mp z]
            exact hx
        · by_cases lt : i2 < xs.length
          · have hxi : xs[i2]? = some x := by
              rw [hfst lt, List.getD_eq_getElem?_getD, List.getElem?_eq_getElem lt]
              rfl
            have r1 : row.take xs.length = row := List.take_of_length_le (by omega)
            rw [r1] at rtk
            rw [List.take_of_length_le (by rw [List.length_append]; show row.length + 1 ≤ _; omega), take_next hxi, rtk]
          · rw [List.take_append_of_le_length (by omega), rtk, List.take_of_length_le (by omega), List.take_of_length_le (by omega)]
      have first : i2 < xs.length → g = [xs.getD i2 Str.empty] := fun lt => by
        have z := congrArg (fun L => L[i2]?) (nes_first l1 l3)
        rw [List.getElem?_take, if_pos lt, hgi, List.getElem?_map, List.getElem?_eq_getElem lt] at z
        have z2 := Option.some.inj z
        rw [z2, List.getD_eq_getElem?_getD, List.getElem?_eq_getElem lt]
        rfl
      obtain ⟨x0, gr, rfl⟩ := List.exists_cons_of_ne_nil ne
      refine ⟨rfl, _, rfl, .ref a, (x0 :: gr).length, rfl, .inr ⟨_, SqT.of ha, by rw [List.length_map]⟩, rfl, _, rfl, ite2 (fun _ => ?_) fun c => ?_⟩
      · refine ⟨_, rfl, a, _, 0, _, rfl, rfl, SqT.of ha, at_of (j := 0) rfl rfl, put (D7.up (by omega)) o7 hD7 (sub x0 List.mem_cons_self) fun lt => ?_⟩
        exact (List.cons.inj (first lt)).1
      · refine ⟨_, rfl, _, rfl, d, l, b, xs.map V.str, k + i2, rfl, D7, hb7, by rw [List.length_map]; omega, by rw [List.length_map]; omega, by omega, fun v H8 hv D8 o8 => ?_⟩
        obtain ⟨x, hx, rfl⟩ := List.mem_map.mp hv
        refine put (D8.up (by omega)) (o7.trans o8) (lst_off hD7 nDl D7 o8) hx fun lt => absurd ?_ c
        have z := first lt
        rw [z]
        exact decide_eq_true rfl
    rintro H7 ⟨row, D7, o7, hD7, rln, rin, rtk⟩
    rw [List.length_map] at D7 rln rtk
    have D7 := D7.up (k := k + 7) (by omega)
    rw [lk] at rln
    have G : Good xs row := ⟨asc, ok, l1, l3, rln, rin, by rw [rtk, lk, List.take_of_length_le (nes_ge l1 l3)]⟩
    refine ⟨D, _, rfl, .inl ⟨SqL.of hD7, fun t ht => ?_⟩⟩
    have e8 : Same H7 (upd H7 t (.tup (row.map V.str))) := same_new ht
    have D8 := D7.same e8
    have nt : t ≠ d ∧ t ≠ l := by
      obtain ⟨cs, mm, nn, hd2, hl2, _⟩ := D7.ex
      exact ⟨(ne_of_none hd2 ht).symm, (ne_of_none hl2 ht).symm⟩
    have o0 : Off d l H H7 := (Off.of e6').trans o7
    exact q t row _ (off_free o0 ht nt.1 nt.2) (D8.up (by omega)) (o0.trans (Off.of e8)) upd_same G
end
end K01
/-! for a, b in zip(l, t), l a list, t a tuple of one length. -/
namespace KZm
open PySem PySem.Spec PySem.F PySem.SeqAt PyProof.Rows L2 RZ
def ItzM (K : PySem.W.Frag) (l t : Addr) : It :=
  ⟨fun j G => ∃ (vs ws : List V) (v w : V), vs[j]? = some v ∧ ws[j]? = some w ∧ SqL K G l vs ∧ SqT K G t ws,
    fun j G v G' => ∃ (c : Addr) (v1 v2 : V), G c = none ∧ v = .ref c ∧ G' = upd G c (.tup [v1, v2]) ∧ (∀ vs, SqL K G l vs → vs[j]? = some v1) ∧ ∀ ws, SqT K G t ws → ws[j]? = some v2,
    fun j G => ∃ vs ws : List V, SqL K G l vs ∧ SqT K G t ws ∧ vs.length = j ∧ ws.length = j⟩
/-- what stands of the zip at a turn -/
def StM (z ti to i1 i2 l t : Addr) (j : Nat) (h : Heap) : Prop :=
  IsZip h z ti to .none ∧ IsPair h ti (.ref i1) (.ref i2) ∧ (∃ u v, IsPair h to u v) ∧ h.IsListIter i1 l j ∧ h.IsTupleIter i2 t j
abbrev five (z ti to i1 i2 : Addr) : List Addr := [z, ti, to, i1, i2]
theorem five_or {c z ti to i1 i2 : Addr} (h : c ∈ five z ti to i1 i2) : c = z ∨ c = ti ∨ c = to ∨ c = i1 ∨ c = i2 := by
  simpa [five] using h
theorem off5 {c z ti to i1 i2 : Addr} (h : c ∉ five z ti to i1 i2) : c ≠ z ∧ c ≠ to ∧ c ≠ i1 ∧ c ≠ i2 := by
  simp only [five, List.mem_cons, List.not_mem_nil, or_false, not_or] at h
  exact ⟨h.1, h.2.2.1, h.2.2.2.1, h.2.2.2.2⟩
theorem StM.obj {z ti to i1 i2 l t : Addr} {j : Nat} {h : Heap} (st : StM z ti to i1 i2 l t j h) {c : Addr} (hc : c ∈ five z ti to i1 i2) : ∃ o, h.get? c = some o ∧ ∀ v, o.data ≠ .cell v := by
  obtain ⟨a1, a2, ⟨u, v, a3⟩, ⟨o1, e1, _, d1⟩, ⟨o2, e2, _, d2⟩⟩ := st
  rcases five_or hc with y | y | y | y | y <;> rw [y]
  · exact ⟨_, a1, fun _ y => by cases y⟩
  · exact ⟨_, a2, fun _ y => by cases y⟩
  · exact ⟨_, a3, fun _ y => by cases y⟩
  · exact ⟨o1, e1, fun _ y => by rw [y] at d1; cases d1⟩
  · exact ⟨o2, e2, fun _ y => by rw [y] at d2; cases d2⟩
theorem turn_zipM {P : Program} {w : World} {K : PySem.W.Frag} {es : List Expr} {k : Nat} {tp : Pos} {l t z ti to i1 i2 : Addr} (S : ZipSep2 z ti to i1 i2 [i1, l] [i2, t]) :
    Turn P w K (.Tuple es k tp) (ItzM K l t) (five z ti to i1 i2) z (StM z ti to i1 i2 l t) where
  mem := List.mem_cons_self
  obj := fun j h st c hc => st.obj hc
  keep := fun j h h' st kp => by
    obtain ⟨a1, a2, ⟨u, v, a3⟩, a4, a5⟩ := st
    have m : ∀ c, c = z ∨ c = ti ∨ c = to ∨ c = i1 ∨ c = i2 → ∀ o, h.get? c = some o → h'.get? c = some o := fun c hc o e => kp c (by simpa [five] using hc) o e
    exact ⟨m z (.inl rfl) _ a1, m ti (.inr (.inl rfl)) _ a2, ⟨u, v, m to (.inr (.inr (.inl rfl))) _ a3⟩, a4.at (m i1 (.inr (.inr (.inr (.inl rfl))))), a5.at (m i2 (.inr (.inr (.inr (.inr rfl)))))⟩
  item := by
    intro X e1 e2 e3 hc j pins s σ H E I hf st hg
    subst e1 e2 e3
    have hh : X.A.handled = none := I.ok.hd hc
    have old : ∀ c, c ∈ five z ti to i1 i2 → c < s.heap.objs.size := fun c m => let ⟨o, ho, _⟩ := st.obj m; Heap.lt_size ho
    obtain ⟨a1, a2, ⟨u0, v0, a3⟩, a4, a5⟩ := st
    obtain ⟨vs, ws, v, w, hv, hw, sl, stt⟩ := hg
    obtain ⟨I1, r1, p1, _⟩ := I.list sl
    obtain ⟨I2, r2, p2, _⟩ := I.tuple stt
    obtain ⟨x1, hx1, rx1⟩ := r1.get hv
    obtain ⟨x2, hx2, rx2⟩ := r2.get hw
    have ne1 : l ≠ i1 := fun e => by
      obtain ⟨o, ho, hcl, _⟩ := p1.isList
      obtain ⟨o', ho', hcl', _⟩ := a4
      rw [e, ho'] at ho
      obtain rfl := Option.some.inj ho
      rw [hcl'] at hcl
      exact absurd hcl (by decide)
    have ne2 : t ≠ i2 := fun e => by
      obtain ⟨o, ho, hcl, _⟩ := p2
      obtain ⟨o', ho', hcl', _⟩ := a5
      rw [e, ho'] at ho
      obtain rfl := Option.some.inj ho
      rw [hcl'] at hcl
      exact absurd hcl (by decide)
    have l1 : j < I1.toArray.size := by
      rw [List.size_toArray]
      exact (List.getElem?_eq_some_iff.mp hx1).1
    have l2 : j < I2.toArray.size := by
      rw [List.size_toArray]
      exact (List.getElem?_eq_some_iff.mp hx2).1
    refine wpAny_pyNext_zipD2_item S (Draws.list (A := X.A.in1) hh i1 l ne1 I1.toArray) (Draws.tuple (A := X.A.in1) hh i2 t ne2 I2.toArray) a1 a2 a3 ⟨a4, p1.isList⟩ ⟨a5, p2⟩ l1 l2 fun y1 y2 g1 tk q1 q2 zg og s1 s2 pg sg kg => ?_
    obtain rfl : x1 = y1 := by
      have q1' : I1[j]? = some y1 := by simpa using q1
      rw [hx1] at q1'
      exact Option.some.inj q1'
    obtain rfl : x2 = y2 := by
      have q2' : I2[j]? = some y2 := by simpa using q2
      rw [hx2] at q2'
      exact Option.some.inj q2'
    have zl : z < s.heap.objs.size := old z List.mem_cons_self
    refine ⟨_, rfl, wpAny_letOwnedTupleGo_zip (s := { s with heap := g1, toks := tk }) zg fun g2 zg2 sb => ?_⟩
    have up : ∀ c o, c ≠ z → g1.get? c = some o → g2.get? c = some o := fun c o n e => (sb.2 c n).trans e
    have pr : g2.get? s.heap.objs.size = some { cls := .type "tuple", data := .seq #[x1, x2] } := up _ _ (Nat.ne_of_gt zl) pg
    have ob : ObjOk X.prog X.w (upd H s.heap.objs.size (.tup [v, w])) g2 s.heap.objs.size (.tup [v, w]) :=
      ⟨by show 2 ≤ sizeLine; decide, [x1, x2], .cons rx1 (.cons rx2 .nil), ⟨_, pr, rfl, _, rfl⟩⟩
    have J : Inv X pins σ (upd H s.heap.objs.size (.tup [v, w])) { s with heap := g2, toks := tk } :=
      I.turnedNew (t' := tk) (ch := five z ti to i1 i2) (fun c o n e => by
        obtain ⟨n1, n2, n3, n4⟩ := off5 n
        exact up c o n1 (kg c o n1 n2 n3 n4 e)) hf (Nat.le_refl _) ob
    refine ⟨.ref s.heap.objs.size, _, J, rfl, ⟨_, v, w, I.hok.fresh (Nat.le_refl _), rfl, rfl, fun vs' h' => ?_, fun ws' h' => ?_⟩, ⟨zg2, up _ _ S.TIz (kg _ _ S.TIz S.TITO S.TIi1 S.TIi2 a2), ⟨x1, x2, up _ _ S.TOz og⟩, s1.1.at fun o e => up _ o S.zi1.symm e, s2.1.at fun o e => up _ o S.zi2.symm e⟩, fun c m => ?_⟩
    · rw [I.list_inj h' sl]
      exact hv
    · rw [I.tuple_inj h' stt]
      exact hw
    · rw [upd_ne (Nat.ne_of_lt (old c m))]
      exact (hf c m).1
  done := by
    intro X e1 e2 e3 hc j pins s σ H E I hf st hg
    subst e1 e2 e3
    have hh : X.A.handled = none := I.ok.hd hc
    obtain ⟨a1, a2, ⟨u0, v0, a3⟩, a4, a5⟩ := st
    obtain ⟨vs, ws, sl, stt, n1, n2⟩ := hg
    obtain ⟨I1, r1, p1, _⟩ := I.list sl
    obtain ⟨I2, r2, p2, _⟩ := I.tuple stt
    have ne1 : l ≠ i1 := fun e => by
      obtain ⟨o, ho, hcl, _⟩ := p1.isList
      obtain ⟨o', ho', hcl', _⟩ := a4
      rw [e, ho'] at ho
      obtain rfl := Option.some.inj ho
      rw [hcl'] at hcl
      exact absurd hcl (by decide)
    have ne2 : t ≠ i2 := fun e => by
      obtain ⟨o, ho, hcl, _⟩ := p2
      obtain ⟨o', ho', hcl', _⟩ := a5
      rw [e, ho'] at ho
      obtain rfl := Option.some.inj ho
      rw [hcl'] at hcl
      exact absurd hcl (by decide)
    have m1 := r1.length
    have m2 := r2.length
    have z1 : I1.toArray.size = j := by rw [List.size_toArray]; omega
    have z2 : I2.toArray.size = j := by rw [List.size_toArray]; omega
    exact wpAny_pyNext_zipD2_end S (Draws.list (A := X.A.in1) hh i1 l ne1 I1.toArray) (Draws.tuple (A := X.A.in1) hh i2 t ne2 I2.toArray) a1 a2 a3 ⟨a4, p1.isList⟩ ⟨a5, p2⟩ (by omega) (by omega) (.inl z1.symm) fun g1 tk kg => ⟨rfl, I.turnedL (t' := tk) (ch := five z ti to i1 i2) (fun c o n e => by
      obtain ⟨n1, n2, n3, n4⟩ := off5 n
      exact kg c o n1 n2 n3 n4 e) hf⟩
  self := fun A j s Q E st h => wpAny_pyIter_zip st.1 h
def iZipM (K : PySem.W.Frag) (ta : TA) : TI := fun σ H R => ta σ H fun vs G => ∃ (l t : Addr) (xs ys : List V), vs = [.ref l, .ref t] ∧ SqL K G l xs ∧ SqT K G t ys ∧ R (ItzM K l t) G
theorem pi_zipM {X : Cx} {e f : Expr} {ta : TA} {p pos tp : Pos} {es : List Expr} {k : Nat} (hg : Gl X "zip") (hm : X.mg "zip" = none) (ha : PA X [e, f] ta)
    (hs : starEach [e, f] X.env = (false, eval e X.env) :: starEach [f] X.env := by rfl) (hpl : (backTo pos (starEach [f] X.env)).any (·.1) = false := by rfl) :
    PI X (.Tuple es k tp) (.Call (.Name "zip" p) [e, f] [] pos) (iZipM X.K ta) := by
  refine ⟨fun pins s σ H R I h => ?_⟩
  refine Call_ (ld_blt I hg hm PyProof.Rows.boot_zip (PyProof.Rows.callWith_type1 (thn (ha.run pos pins s σ H _ I h) fun us s1 ⟨vs, G, J, rr, l, t, xs, ys, ev, sl, stt, q⟩ => ?_) hs hpl))
  subst ev
  obtain ⟨u, v, rfl, ru, rv⟩ := vals2 rr
  obtain rfl : u = Value.ref l := ru
  obtain rfl : v = Value.ref t := rv
  obtain ⟨I1, r1, p1, _⟩ := J.list sl
  obtain ⟨I2, r2, p2, _⟩ := J.tuple stt
  have p1 := p1.isList
  have lt1 : l < s1.heap.objs.size := let ⟨_, y, _⟩ := p1; Heap.lt_size y
  have lt2 : t < s1.heap.objs.size := let ⟨_, y, _⟩ := p2; Heap.lt_size y
  have S := zip_sep2 (N := s1.heap.objs.size) (fp1 := [l]) (fp2 := [t]) (by simpa using lt1) (by simpa using lt2)
  refine zip_begins2 (begins_list l I1.toArray) (begins_tuple t I2.toArray) p1 p2 fun h' z1 z2 z3 z4 z5 _ kp => wpAny_pyIter_zip z1 ?_
  refine ⟨s1.heap.objs.size + 4, five (s1.heap.objs.size + 4) (s1.heap.objs.size + 2) (s1.heap.objs.size + 3) s1.heap.objs.size (s1.heap.objs.size + 1), _, _, G, rfl, J.kept (t' := s1.toks) kp, turn_zipM S, ⟨z1, z2, ⟨_, _, z3⟩, ⟨_, z4, rfl, rfl⟩, ⟨_, z5, rfl, rfl⟩⟩, fun c m => ?_, q⟩
  have le : s1.heap.objs.size ≤ c := by
    rcases five_or m with y | y | y | y | y <;> rw [y] <;> first | exact Nat.le_refl _ | exact Nat.le_add_right _ _
  exact J.fpOk le (J.hok.fresh le)
/-- for a, b in zip(l, t): .., of one length -/
theorem for_zipM {K : PySem.W.Frag} {l t : Addr} {vs ws : List V} {g : TG} {tb : TS} {D : Ends} {σ : L2.St} {H : Hp} (hl : vs.length = ws.length) (Pv : Nat → L2.St → Hp → Prop) (h0 : Pv 0 σ H) (hq : ∀ j σ H, Pv j σ H → SqL K H l vs ∧ SqT K H t ws)
    (hs : ∀ (j : Nat) (v w : V) (c : Addr) (σ : L2.St) (H : Hp), vs[j]? = some v → ws[j]? = some w → Pv j σ H → H c = none → g (.ref c) σ (upd H c (.tup [v, w])) fun σ2 H2 => tb { D with nx := Pv (j + 1), ct := Pv (j + 1), bk := D.nx } σ2 H2) (hd : ∀ σ H, Pv vs.length σ H → D.nx σ H) :
    ∃ W : Nat → Nat → L2.St → Hp → Prop, (∃ m, W 0 m σ H) ∧ ∀ j m σ H, W j m σ H →
      ((ItzM K l t).stop j H ∧ D.nx σ H) ∨ ((ItzM K l t).go j H ∧ ∃ N : L2.St → Hp → Prop, (∀ σ' H', N σ' H' → ∃ m', m' < m ∧ W (j + 1) m' σ' H') ∧ ∀ v H', (ItzM K l t).yld j H v H' → g v σ H' fun σ2 H2 => tb { D with nx := N, ct := N, bk := D.nx } σ2 H2) := by
  refine ⟨fun j m σ H => m = vs.length - j ∧ j ≤ vs.length ∧ Pv j σ H, ⟨vs.length, rfl, Nat.zero_le _, h0⟩, fun j m σ H y => ?_⟩
  obtain ⟨rfl, le, p⟩ := y
  obtain ⟨q1, q2⟩ := hq j σ H p
  rcases Nat.lt_or_ge j vs.length with lt | ge
  · have lt2 : j < ws.length := by omega
    refine .inr ⟨⟨vs, ws, vs[j], ws[j], by simp [lt], by simp [lt2], q1, q2⟩, Pv (j + 1), fun σ' H' p' => ⟨vs.length - (j + 1), by omega, rfl, lt, p'⟩, fun v H' y => ?_⟩
    obtain ⟨c, v1, v2, hc, rfl, rfl, f1, f2⟩ := y
    exact hs j v1 v2 c σ H (f1 vs q1) (f2 ws q2) p hc
  · have e : j = vs.length := by omega
    subst e
    exact .inl ⟨⟨vs, ws, q1, q2, rfl, hl.symm⟩, hd σ H p⟩
end KZm
/-! _law_due. -/
namespace K01
open PySem PySem.Spec PyProof.Rows L2 KG KS KA KX KLm KIa KCt LamX
abbrev s__law_due : Stmt := top 31
abbrev NDe : List Str := ["_law_base", "_law_row_here", "_law_sets_here", "_law_value", "_law_some"]
theorem inV_texts (x : Str) : ∀ ds : List Str, inV (.str x) (ds.map V.str) = decide (x ∈ ds)
  | [] => rfl
  | d :: ds => by
    have ih := inV_texts x ds
    unfold inV at ih ⊢
    rw [List.map_cons, List.any_cons, ih]
    by_cases e : d = x
    · subst e
      simp
      left
      show (d == d) = true
      exact beq_self_eq_true d
    · have e2 : ¬ x = d := fun z => e z.symm
      simp [e2]
      intro z
      exact absurd z (by
        show ¬ (_ : Bool) = true
        intro q
        first
          | exact e (beq_iff_eq.mp q)
          | exact e2 (beq_iff_eq.mp q))
/-- a set of one must have that one -/
def oneBad (p : List Str × Str) : Bool := decide (p.1.length = 1) && !decide (p.1 = [p.2])
theorem odd_iff {xs rs : List Str} (asc : AscT xs) (l1 : 1 ≤ xs.length) (l3 : xs.length ≤ 3) (len : rs.length = (nesL xs).length) : (((nesL xs).zip rs).all fun p => !oneBad p) = decide (rs.take xs.length = xs) := by
  have ge := nes_ge l1 l3
  have fst : ∀ i (h : i < xs.length), (nesL xs)[i]? = some [xs[i]] := fun i h => by
    have z := congrArg (fun L => L[i]?) (nes_first l1 l3)
    rw [List.getElem?_take, if_pos h, List.getElem?_map, List.getElem?_eq_getElem h] at z
    exact z
  rw [Bool.eq_iff_iff, List.all_eq_true, decide_eq_true_eq]
  refine ⟨fun h => ?_, fun h p hp => ?_⟩
  · refine List.ext_getElem (by rw [List.length_take]; omega) fun i h1 h2 => ?_
    have ir : i < rs.length := by omega
    have m : ([xs[i]], rs[i]) ∈ (nesL xs).zip rs := List.mem_of_getElem? (i := i) (by
      rw [List.getElem?_zip_eq_some]
      exact ⟨fst i h2, List.getElem?_eq_getElem ir⟩)
    have z := h _ m
    unfold oneBad at z
    rw [decide_eq_true (show ([xs[i]] : List Str).length = 1 from rfl), Bool.true_and, Bool.not_not, decide_eq_true_eq] at z
    rw [List.getElem_take]
    exact (List.cons.inj z).1.symm
  · obtain ⟨i, hi⟩ := List.mem_iff_getElem?.mp hp
    rw [List.getElem?_zip_eq_some] at hi
    obtain ⟨hg, hu⟩ := hi
    obtain ⟨g, u⟩ := p
    unfold oneBad
    by_cases o : g.length = 1
    · obtain ⟨x, rfl⟩ : ∃ x, g = [x] := match g, o with | [x], _ => ⟨x, rfl⟩
      have xm : x ∈ xs := (nes_sub (List.mem_of_getElem? hg)).1 x List.mem_cons_self
      obtain ⟨j, hj, ej⟩ := List.mem_iff_getElem.mp xm
      have fj := fst j hj
      rw [ej] at fj
      have gi := (List.getElem?_eq_some_iff.mp hg)
      have gj := (List.getElem?_eq_some_iff.mp fj)
      obtain ⟨li, ei⟩ := gi
      obtain ⟨lj, ej2⟩ := gj
      have ij : i = j := by
        rcases Nat.lt_trichotomy i j with z | z | z
        · exact absurd (ei.trans ej2.symm) (List.pairwise_iff_getElem.mp (nes_nodup asc) i j li lj z)
        · exact z
        · exact absurd (ej2.trans ei.symm) (List.pairwise_iff_getElem.mp (nes_nodup asc) j i lj li z)
      subst ij
      have uu : u = x := by
        have z := congrArg (fun L => L[i]?) h
        rw [List.getElem?_take, if_pos hj, hu, List.getElem?_eq_getElem hj, ej] at z
        exact Option.some.inj z
      rw [uu]
      simp
    · simp [o]
def spDueA (K : PySem.W.Frag) : Sp := fun vs H Q _ => ∃ (v1 v2 : V) (g1 g2 : Option (List (Option Str))), vs = [v1, v2] ∧ AnyK K H v1 g1 ∧ (∀ os, g1 = some os → Short os ∧ os.length < 64) ∧ AnyK K H v2 g2 ∧
  ∀ H', Same H H' → Q (.str ((choiceDue g1 g2).getD "")) H'
section
variable {P : Program} {w : World} {K : PySem.W.Frag} {mg : Str → Option Value} {base : Heap}
theorem sc__law_due : FnScope NDe ["_law_base", "_law_row_here"] (defScope s__law_due) := ⟨rfl, rfl, rfl, by decide +kernel, rfl, by decide +kernel, by decide +kernel⟩
theorem ok__law_due (B : Bz mg) (f : FnF K mg "_law_due" "_law_due" s__law_due) (fd : FnF K mg "_law_is_base" "_law_is_base" s__law_is_base) (fm : FnF K mg "_law_is_name" "_law_is_name" s__law_is_name) (fs : FnF K mg "_law_sets" "_law_sets" s__law_sets) :
    FnOk P w K mg base CX0 3 f.a f.d ["_law_base", "_law_row_here"] (spDueA K) := by
  have GD := ok__law_is_base (P := P) (w := w) (base := base) B.toBs fd fm
  have bD : L2.Binds K fd.d ["_law_it"] [] := fd.F.binds fun _ _ _ _ _ _ us hl => match us, hl with | [_], _ => rfl
  have GP := ok__law_sets (P := P) (w := w) (base := base) B.toBs fs
  have bP : L2.Binds K fs.d ["_law_base"] [] := fs.F.binds fun _ _ _ _ _ _ us hl => match us, hl with | [_], _ => rfl
  refine f.F.ok sc__law_due (fun vs H Q E h => ?_) (fun cdv A outer s H vs Q E hr h => ?_)
  · obtain ⟨v1, v2, g1, g2, rfl, _⟩ := h
    rfl
  · obtain ⟨v1, v2, g1, g2, rfl, h1, sh1, h2, q⟩ := h
    have hu64 := hr.units
    have hr1 : Room 1 _ := hr.mono (by omega)
    refine ⟨_, (pss_cons
      (ps_if (pt_not (pt_val (pe_call GD hr rfl fd.g fd.F.kp bD .nil pass0 (pa_cons (pv 0) pa_nil))))
        (pss_one
          (ps_ret pe_str))
        pss_nil)
    (pss_cons
      (ps_set (i := 2) sc__law_due.nd rfl (Or.inl rfl) (pe_call GP hr1 rfl fs.g fs.F.kp bP .nil pass0 (pa_cons (pv 0) pa_nil)))
    (pss_cons
      (ps_if (PW.pt (pw_or (pt_not (pt_val (pe_callB call_isi (by rfl) B.n_isinstance (by decide +kernel) (pa_cons (pv 1) (pa_cons (pe_bltn (v := .ty "tuple") rfl B.n_tuple (by decide +kernel) rfl) pa_nil))))) (pw_or1 (pt_cmpR op_ne (pe_callB call_len (by rfl) B.n_len (by decide +kernel) (pa_cons (pv 1) pa_nil)) (pe_callB call_len (by rfl) B.n_len (by decide +kernel) (pa_cons (pv 2) pa_nil)) (nomark _)))))
        (pss_one
          (ps_ret pe_str))
        pss_nil)
    (pss_cons
      (ps_if (pt_cmpR (op_neL0 hu64) (pe_lc (own := [("_law_value", 3)]) (g := gName 3) (by rfl) sc__law_due.nd (pi_tup (pv 1)) (blkOk_by (own := [("_law_value", 3)]) (N := NDe) (sc := defScope s__law_due) (by decide +kernel)) (fun _ _ _ _ _ => (pg_name (i := 3) sc__law_due.nd rfl (Or.inl rfl)))
          (fun _ _ _ _ _ => pts_one (PW.pt (pw_or (pt_not (pt_val (pe_callB (show CallR _ (.builtin "isinstance") (rIsi K) from call_isi) (by rfl) B.n_isinstance (by decide +kernel) (pa_cons (pv 3) (pa_cons (pe_bltn (v := .ty "str") rfl B.n_str (by decide +kernel) rfl) pa_nil))))) (pw_or1 (pt_cmpR (show OpR _ (compareOp .NotIn) (rIn K true) from op_notIn_seq) (pv 3) (pv 0) (by rfl))))))
          (fun _ _ _ _ _ => (pv 3))) (pe_lst pa_nil) (nomark _))
        (pss_one
          (ps_ret pe_str))
        pss_nil)
    (pss_cons
      (ps_for PassesOwn.never rfl (KZm.pi_zipM rfl B.n_zip (pa_cons (pv 2) (pa_cons (pv 1) pa_nil))) (show PG _ _ (gTup K 2 (gCons (gName 4) (gCons (gName 3) gNil))) from pg_tup (by rfl) (pgs_cons (pg_name (i := 4) sc__law_due.nd rfl (Or.inl rfl)) (pgs_cons (pg_name (i := 3) sc__law_due.nd rfl (Or.inl rfl)) pgs_nil)))
        (pss_one
          (ps_if (PW.pt (pw_and (pt_cmpR op_eq (pe_callB call_len (by rfl) B.n_len (by decide +kernel) (pa_cons (pv 4) pa_nil)) pe_int (nomark _)) (pw_and1 (pt_cmpR (op_neD hu64) (pv 4) (pe_tup (pa_cons (pv 3) pa_nil)) (nomark _)))))
            (pss_one
              (ps_ret pe_str))
            pss_nil)))
    (pss_one
      (ps_ret pe_str))))))), ?_⟩
    refine ⟨_, rfl, v1, g1, rfl, h1, sh1, fun H1 e1 => ⟨_, rfl, ?_⟩⟩
    have out : ∀ (wd : Str) (H2 : Hp), Same H H2 → choiceDue g1 g2 = some wd → Q (.str wd) H2 := fun wd H2 e2 hd => by
      have z := q H2 e2
      rw [hd] at z
      exact z
    cases dm : domIt g1 with
    | false => exact iteT (out "domain" H1 e1 (by unfold choiceDue; rw [dm]; rfl))
    | true =>
      refine iteF ?_
      obtain ⟨xs, rfl, ok, asc, l1, l3⟩ := domIt_iff.mp dm
      obtain ⟨d, rfl, hd⟩ := any_tup h1
      have due1 : choiceDue (some (xs.map some)) g2 = (if rowIt xs ((nesL xs).length : Nat) g2 = true then (if (txts g2).take xs.length = xs then none else some ("odd" : Str)) else some ("results" : Str)) := by
        unfold choiceDue
        rw [dm, if_pos rfl, show txts (some (xs.map some)) = xs from fmap_some xs]
      refine ⟨_, rfl, d, xs, rfl, e1 _ _ hd, asc, ok, l1, l3, fun l0 rs0 H3 n0 e3 hl0 hR => ⟨_, rfl, ?_⟩⟩
      have e03 := same_trans e1 e3
      have hL : rs0.length = (nesL xs).length := hR.length
      have rbad : ∀ H4, Same H H4 → rowIt xs ((nesL xs).length : Nat) g2 = false → Q (.str "results") H4 := fun H4 e4 n => out "results" H4 e4 (by rw [due1, n]; rfl)
      obtain ⟨ty, bb, hty, kt, ebb⟩ := (h2.up e03).ty
      subst ebb
      refine ⟨_, _, _, _, g2.isSome, rfl, .ty "tuple", hty, kt, _, rfl, ?_⟩
      cases g2 with
      | none => exact iteT (rbad H3 e03 rfl)
      | some os =>
        obtain ⟨a, vs, rfl, ha, hi, l200⟩ : ∃ a vs, v2 = .ref a ∧ H a = some (.tup vs) ∧ W.EachIs (ItK K H) vs os ∧ vs.length ≤ 200 := by
          cases h2 with
          | tup h1 h2 h3 => exact ⟨_, _, rfl, h1, h2, h3⟩
        have lo : vs.length = os.length := hi.length
        have ri : rowIt xs ((nesL xs).length : Nat) (some os) = (decide ((os.length : Int) = ((nesL xs).length : Nat)) && os.all fun o => inIt o xs) := rfl
        have ha3 := e03 _ _ ha
        refine iteF ⟨_, rfl, .ref a, vs.length, rfl, .inr ⟨_, SqT.of ha3, rfl⟩, _, rfl, .ref l0, rs0.length, rfl, .inl ⟨_, SqL.of hl0, rfl⟩, rfl, _, rfl, ite2 (fun cc => ?_) fun cc => ?_⟩
        · refine rbad H3 e03 ?_
          rw [ri, decide_eq_false, Bool.false_and]
          intro z
          rw [show (V.int (vs.length : Nat) : V) = V.int (rs0.length : Nat) by rw [lo, hL]; exact congrArg V.int z, decide_eq_true rfl] at cc
          cases cc
        · have lk : os.length = (nesL xs).length := Classical.byContradiction fun z => cc (by
            rw [decide_eq_false (fun y => z (by injection y with y; omega))]
            rfl)
          refine ⟨_, rfl, a, rfl, ⟨_, SqT.of ha3⟩, fun D hD => ?_⟩
          refine lc_tup (K := K) (xs := vs) (fun i H' => Same H3 H' ∧ ∃ acc : List V, H' D = some (.lst acc) ∧ acc.isEmpty = ((os.take i).all fun o => inIt o xs) ∧ acc.length ≤ i) ⟨same_new hD, [], upd_same, rfl, Nat.le_refl _⟩ (fun i H' _ p => SqT.of (p.1 _ _ ha3)) ?_ ?_
          · rintro i y H4 hy ⟨e4, acc, hacc, emp, few⟩
            obtain ⟨o, ho, it⟩ := each_get hi hy
            have il : i < vs.length := (List.getElem?_eq_some_iff.mp hy).1
            have it2 := (it.same e03).same e4
            have al : ((os.take (i + 1)).all fun o => inIt o xs) = (((os.take i).all fun o => inIt o xs) && inIt o xs) := by
              rw [take_next ho, List.all_append, List.all_cons, List.all_nil, Bool.and_true]
            have kept : inIt o xs = false → ∃ acc2, H4 D = some (.lst acc2) ∧ acc2.length < sizeLine ∧ (Same H3 (upd H4 D (.lst (acc2 ++ [y]))) ∧ ∃ acc : List V, upd H4 D (.lst (acc2 ++ [y])) D = some (.lst acc) ∧ acc.isEmpty = ((os.take (i + 1)).all fun o => inIt o xs) ∧ acc.length ≤ i + 1) := fun no => by
              refine ⟨acc, hacc, by rw [sizeLine_eq]; omega, same_put hD e4, _, upd_same, ?_, by rw [List.length_append]; exact Nat.succ_le_succ few⟩
              rw [al, no, Bool.and_false]
              simp
            obtain ⟨ty, bb, hty, kt, ebb⟩ := it_ty it2
            refine ⟨rfl, _, rfl, _, _, ty, _, bb, rfl, .ty "str", hty, kt, bb, rfl, ?_⟩
            cases o with
            | none =>
              subst ebb
              exact iteT ⟨_, rfl, kept (inIt_none xs)⟩
            | some x =>
              subst ebb
              obtain rfl : y = .str x := by
                cases it2
                rfl
              refine iteF ⟨_, rfl, _, rfl, d, xs.map V.str, rfl, .inr (SqT.of (e4 _ _ (e03 _ _ hd))), rfl, flat_strs xs, _, rfl, ?_⟩
              rw [inV_texts]
              by_cases m : x ∈ xs
              · rw [decide_eq_true m]
                refine iteF ⟨e4, acc, hacc, ?_, by omega⟩
                rw [al, ← emp, inIt_some, decide_eq_true m, Bool.and_true]
              · rw [decide_eq_false m]
                exact iteT ⟨_, rfl, kept (by rw [inIt_some, decide_eq_false m])⟩
          · rintro H4 ⟨e4, acc, hacc, emp, few⟩
            rw [lo, List.take_length] at emp
            refine ⟨by show 0 ≤ sizeLine; exact Nat.zero_le _, fun l hl => ?_⟩
            have e5 : Same H4 (upd H4 l (.lst [])) := same_new hl
            have e35 := same_trans e4 e5
            have e05 := same_trans e03 e35
            refine ⟨D, l, acc, rfl, rfl, SqL.of (e5 _ _ hacc), SqL.of upd_same, _, rfl, ?_⟩
            rw [emp]
            generalize upd H4 l (.lst []) = H5 at e5 e35 e05 ⊢
            cases hal : os.all fun o => inIt o xs with
            | false => exact iteT (rbad H5 e05 (by rw [ri, hal, Bool.and_false]))
            | true =>
              refine iteF ?_
              have rw1 : rowIt xs ((nesL xs).length : Nat) (some os) = true := by
                rw [ri, hal, decide_eq_true (by omega)]
                rfl
              obtain ⟨us, eus, lus, sub⟩ := row_texts rw1
              obtain rfl := Option.some.inj eus
              obtain rfl := vs_texts hi
              have lu : us.length = (nesL xs).length := by omega
              have tx2 : txts (some (us.map some)) = us := fmap_some us
              rw [rw1, if_pos rfl, tx2] at due1
              have ha5 := e35 _ _ ha3
              have hl5 := e35 _ _ hl0
              refine ⟨_, rfl, _, rfl, l0, a, rs0, us.map V.str, rfl, SqL.of hl5, SqT.of ha5, ?_⟩
              refine KZm.for_zipM (K := K) (l := l0) (t := a) (vs := rs0) (ws := us.map V.str) (by rw [List.length_map, hL, lu]) (fun j σ H' => ∃ v3 v4 : Option V, σ = [some (.ref d), some (.ref a), some (.ref l0), v3, v4] ∧ Same H5 H' ∧ (((nesL xs).zip us).take j).all (fun p => !oneBad p) = true)
                ⟨_, _, rfl, fun _ _ e => e, rfl⟩ (fun j σ H' ⟨_, _, _, e, _⟩ => ⟨SqL.of (e _ _ hl5), SqT.of (e _ _ ha5)⟩) ?_ ?_
              · rintro j y1 y2 c σ H6 hy1 hy2 ⟨v3, v4, rfl, e6, good⟩ hcn6
                obtain ⟨ts, hts, b, rfl, fb⟩ := each_get hR hy1
                rw [List.getElem?_map] at hy2
                cases hri : us[j]? with
                | none =>
                  rw [hri] at hy2
                  cases hy2
                | some u =>
                  rw [hri] at hy2
                  obtain rfl : V.str u = y2 := Option.some.inj hy2
                  have e7 : Same H6 (upd H6 c (.tup [V.ref b, V.str u])) := same_new hcn6
                  have h7 : upd H6 c (.tup [V.ref b, V.str u]) c = some (.tup [V.ref b, V.str u]) := upd_same
                  generalize upd H6 c (.tup [V.ref b, V.str u]) = H7 at e7 h7 ⊢
                  have e57 := same_trans e6 e7
                  have fb7 := e57 _ _ (e35 _ _ fb)
                  have tsub := (nes_sub (List.mem_of_getElem? hts)).1
                  have um := sub u (List.mem_of_getElem? hri)
                  have zj : ((nesL xs).zip us)[j]? = some (ts, u) := by
                    rw [List.getElem?_zip_eq_some]
                    exact ⟨hts, hri⟩
                  have nx : (((nesL xs).zip us).take (j + 1)).all (fun p => !oneBad p) = !oneBad (ts, u) := by
                    rw [take_next zj, List.all_append, good, List.all_cons, List.all_nil, Bool.and_true, Bool.true_and]
                  refine ⟨c, _, rfl, SqT.of h7, rfl, _, _, rfl, _, _, rfl, rfl, _, rfl, .ref b, _, rfl, .inr ⟨_, SqT.of fb7, rfl⟩, rfl, _, rfl, ite2 (fun one => ?_) fun one => ?_⟩
                  · have one : ts.length = 1 := by
                      have z := of_decide_eq_true one
                      injection z with z
                      rw [List.length_map] at z
                      omega
                    refine ⟨_, rfl, _, rfl, by show 1 ≤ sizeLine; decide, fun m hm => ?_⟩
                    have f1 : Same H7 (upd H7 m (.tup [V.str u])) := same_new hm
                    have g1 : upd H7 m (.tup [V.str u]) m = some (.tup (([u] : List Str).map V.str)) := upd_same
                    generalize upd H7 m (.tup [V.str u]) = H8 at f1 g1 ⊢
                    have e58 := same_trans e57 f1
                    have shs : SeqAt.shaped (txd ts) = true := txd_shaped fun y hy => name_strOk (ok y (tsub y hy))
                    have sh1' : SeqAt.shaped (txd [u]) = true := txd_shaped fun y hy => by
                      rw [List.mem_singleton.mp hy]
                      exact name_strOk (ok u um)
                    refine ⟨txd ts, txd [u], .tup (SqT.of (f1 _ _ fb7)) (texts_dp _), .tup (SqT.of g1) (texts_dp _), shs, sh1', _, rfl, ?_⟩
                    have ev : PyData.eqv (txd ts) (txd [u]) = decide (ts = [u]) := by
                      simp only [txd, PyData.eqv]
                      exact eqv_texts _ _
                    rw [ev]
                    have ob : oneBad (ts, u) = !decide (ts = [u]) := by
                      unfold oneBad
                      rw [decide_eq_true one, Bool.true_and]
                    by_cases eq1 : ts = [u]
                    · rw [decide_eq_true eq1]
                      rw [ob, decide_eq_true eq1] at nx
                      exact iteF ⟨_, _, rfl, e58, nx⟩
                    · rw [decide_eq_false eq1]
                      rw [ob, decide_eq_false eq1] at nx
                      refine iteT (out "odd" H8 (same_trans e05 e58) ?_)
                      have bad : (((nesL xs).zip us).all fun p => !oneBad p) = false := by
                        rw [List.all_eq_false]
                        exact ⟨(ts, u), List.mem_of_getElem? zj, by rw [ob, decide_eq_false eq1]; simp⟩
                      rw [odd_iff asc l1 l3 lu] at bad
                      rw [due1, if_neg (of_decide_eq_false bad)]
                  · have n1 : ¬ ts.length = 1 := fun z => one (decide_eq_true (by rw [List.length_map, z]; rfl))
                    have ob : oneBad (ts, u) = false := by
                      unfold oneBad
                      rw [decide_eq_false n1, Bool.false_and]
                    rw [ob] at nx
                    exact ⟨_, _, rfl, e57, nx⟩
              · rintro σ H6 ⟨v3, v4, rfl, e6, good⟩
                have gd : us.take xs.length = xs := by
                  have z : ((nesL xs).zip us).length = rs0.length := by rw [List.length_zip, hL, lu]; omega
                  rw [← z, List.take_length, odd_iff asc l1 l3 lu] at good
                  exact of_decide_eq_true good
                have z := q H6 (same_trans e05 e6)
                rw [due1, if_pos gd] at z
                exact z
end
end K01
/-! Vote.__init__ of what is right. -/
namespace K01
open PySem PySem.Spec PyProof.Rows L2 KG KS KA KX KTc KFz
def spVI (C : Addr) : Sp := fun vs H Q _ => ∃ (x dx d r : Addr) (xs rs : List Str) (k : Nat), vs = [.ref x, .ref d, .int (k : Nat), .ref r] ∧ H x = some (.ins C dx []) ∧ H d = some (.tup (xs.map V.str)) ∧ H r = some (.tup (rs.map V.str)) ∧ VGood xs k rs ∧
  ∀ (H' : Hp) (t : Addr), ButO x H H' → H t = none → H' x = some (.ins C dx (vtFs d k r t)) → VtIn H' d r t xs k rs → Q .non H'
section
variable {P : Program} {w : World} {K : PySem.W.Frag} {mg : Str → Option Value} {base : Heap}
abbrev NVi : List Str := ["self", "domain", "count", "results", "arguments", "some", "result"]
theorem sc_vtInit : FnScope NVi ["self", "domain", "count", "results"] (defScope s_vtInit) := ⟨rfl, rfl, rfl, by decide +kernel, rfl, by decide +kernel, by decide +kernel⟩
theorem ok_vtInit (B : Bz mg) (f : MtF K "__init__" "Vote.__init__" s_vtInit) (F : VtF K mg) (C : VtC K mg f.a) :
    FnOk P w K mg base CX0 4 f.a f.d ["self", "domain", "count", "results"] (spVI C.C) := by
  have G1 := ok_is_domain (P := P) (w := w) (base := base) B.toBs F.dom F.nms F.nm F.asc
  have b1 : L2.Binds K F.dom.d ["thing"] [] := F.dom.F.binds fun _ _ _ _ _ _ us hl => match us, hl with | [_], _ => rfl
  have G2 := ok_all_rowsF (P := P) (w := w) (base := base) B.toBs F.all
  have b2 : L2.Binds K F.all.d ["columns"] [] := F.all.F.binds fun _ _ _ _ _ _ us hl => match us, hl with | [_], _ => rfl
  have G3 := ok_is_row (P := P) (w := w) (base := base) B.toBs F.row
  have b3 : L2.Binds K F.row.d ["thing", "domain", "length"] [] := F.row.F.binds fun _ _ _ _ _ _ us hl => match us, hl with | [_, _, _], _ => rfl
  have G4 := ok_winner (P := P) (w := w) (base := base) B.toBs F.win F.wo
  have b4 : L2.Binds K F.win.d ["some"] [] := F.win.F.binds fun _ _ _ _ _ _ us hl => match us, hl with | [_], _ => rfl
  refine f.F.ok sc_vtInit (fun vs H Q E h => ?_) (fun cdv A outer s H vs Q E hr h => ?_)
  · obtain ⟨x, dx, d, r, xs, rs, k, rfl, _⟩ := h
    rfl
  · obtain ⟨x, dx, d, r, xs, rs, k, rfl, hx, hd, hR, g, q⟩ := h
    have hu64 := hr.units
    have hr1 : Room 1 _ := hr.mono (by omega)
    have hr3 : Room 3 _ := hr.mono (by omega)
    have hr2 : Room 2 _ := hr.mono (by omega)
    refine ⟨_, (pss_cons
      (ps_if (pt_not (pt_val (pe_call G1 hr3 rfl F.dom.g F.dom.F.kp b1 .nil pass0 (pa_cons (pv 1) pa_nil))))
        (pss_one
          ps_dead)
        pss_nil)
    (pss_cons
      (ps_if (pt_cmpR op_notIn_seq (pv 2) (pe_tup (pa_cons pe_int (pa_cons pe_int pa_nil))) (by rfl))
        (pss_one
          ps_dead)
        pss_nil)
    (pss_cons
      (ps_set (i := 4) sc_vtInit.nd rfl (Or.inl rfl) (pe_call G2 hr1 rfl F.all.g F.all.F.kp b2 .nil pass0 (pa_cons (pe_op op_rep (pe_lst (pa_cons (pv 1) pa_nil)) (pv 2)) pa_nil)))
    (pss_cons
      (ps_if (pt_not (pt_val (pe_call G3 hr1 rfl F.row.g F.row.F.kp b3 .nil pass0 (pa_cons (pv 3) (pa_cons (pv 1) (pa_cons (pe_callB call_len (by rfl) B.n_len (by decide +kernel) (pa_cons (pv 4) pa_nil)) pa_nil))))))
        (pss_one
          ps_dead)
        pss_nil)
    (pss_cons
      (ps_if (pt_not (pt_val (pe_callB (cr_all rfl) (by rfl) B.n_all (by decide +kernel) (pa_cons (pe_lc (own := [("some", 5), ("result", 6)]) (g := gTup K 2 (gCons (gName 5) (gCons (gName 6) gNil))) (by rfl) sc_vtInit.nd (RZ.pi_zipA rfl B.n_zip (pa_cons (pv 4) (pa_cons (pv 3) pa_nil))) (blkOk_by (own := [("some", 5), ("result", 6)]) (N := NVi) (sc := defScope s_vtInit) (by decide +kernel))
        (fun _ _ _ _ _ => (show PG _ _ (gTup K 2 (gCons (gName 5) (gCons (gName 6) gNil))) from pg_tup (by rfl) (pgs_cons (pg_name (i := 5) sc_vtInit.nd rfl (Or.inl rfl)) (pgs_cons (pg_name (i := 6) sc_vtInit.nd rfl (Or.inl rfl)) pgs_nil)))) (fun _ _ _ _ _ => pts_nil)
        (fun _ _ _ _ _ => (pe_cmpR (show OpR _ (compareOp .In) (rIn K false) from op_in_seq) (pe_call G4 hr2 rfl F.win.g F.win.F.kp b4 .nil pass0 (pa_cons (pv 5) pa_nil)) (pe_tup (pa_cons pe_non (pa_cons (pv 6) pa_nil))) (by rfl)))) pa_nil))))
        (pss_one
          ps_dead)
        pss_nil)
    (pss_cons
      (ps_fld (pv 0) (pv 1) rfl)
    (pss_cons
      (ps_fld (pv 0) (pv 2) rfl)
    (pss_cons
      (ps_fld (pv 0) (pv 3) rfl)
    (pss_one
      (ps_thaw (ps_fld (pv 0) (KDz.pe_dictZip (pa_cons (pv 4) (pa_cons (pv 3) pa_nil)) rfl B.n_dict rfl B.n_zip rfl hr3) rfl))))))))))), ?_⟩
    -- is_domain(domain)
    refine ⟨_, rfl, d, xs, rfl, hd, g.ok, List.pairwise_map.mpr g.asc, g.l1, g.l3, fun H1 e1 => ⟨true, rfl, iteF ?_⟩⟩
    -- count not in (3, 4)
    refine ⟨_, rfl, by show 2 ≤ sizeLine; decide, fun t ht => ?_⟩
    have e2 : Same H (upd H1 t (.tup [V.int 3, V.int 4])) := same_trans e1 (same_new ht)
    refine ⟨t, _, rfl, .inr (SqT.of upd_same), rfl, rfl, false, ?_, iteF ?_⟩
    · rcases g.hk with z | z <;> rw [z] <;> rfl
    generalize upd H1 t (.tup [V.int 3, V.int 4]) = H2 at e2 ⊢
    -- [domain] * count
    refine ⟨_, rfl, by show 1 ≤ sizeLine; decide, fun l hl => ⟨_, rfl, ?_⟩⟩
    have e3 : Same H (upd H2 l (.lst [V.ref d])) := same_trans e2 (same_new hl)
    have hk4 : k ≤ 4 := by rcases g.hk with z | z <;> omega
    refine ⟨l, k, [V.ref d], rfl, rfl, upd_same, by omega, by omega, by show 1 * ((k : Int).toNat) ≤ _; rw [sizeLine_eq]; omega, fun l2 hl2 => ?_⟩
    have e4 := same_trans e3 (same_new (o := .lst (List.replicate (k : Int).toNat [V.ref d]).flatten) hl2)
    have h4 : upd (upd H2 l (.lst [V.ref d])) l2 (.lst (List.replicate (k : Int).toNat [V.ref d]).flatten) l2 = some (.lst ((List.replicate k d).map V.ref)) := by
      rw [upd_same]
      congr 2
      rw [Int.toNat_natCast, List.map_replicate]
      exact flat_rep k
    generalize upd (upd H2 l (.lst [V.ref d])) l2 (.lst (List.replicate (k : Int).toNat [V.ref d]).flatten) = H4 at e4 h4 ⊢
    -- all_rows(..)
    have hd4 := e4 _ _ hd
    refine ⟨l2, List.replicate k d, List.replicate k xs, rfl, h4, rows_rep hd4 k, fun i => Nat.le_trans (pts_few g.l3 hk4 i) (by decide), by rw [List.length_replicate]; omega, fun p as H5 hp e5 hp5 hS => ?_⟩
    have e05 := same_trans e4 e5
    have hL := hS.length
    have lR : rs.length = as.length := by rw [hL]; exact g.len
    have few : rs.length ≤ 100 := by
      have z := pts_few g.l3 hk4 k
      rw [List.take_of_length_le (by rw [List.length_replicate]; exact Nat.le_refl _)] at z
      rw [g.len]
      exact z
    -- is_row(results, domain, len(arguments))
    refine ⟨_, rfl, _, rfl, _, rfl, .ref p, rs.length, rfl, .inr ⟨_, SqT.of hp5, lR⟩, r, d, rs, xs, rfl, e05 _ _ hR, e05 _ _ hd, g.sub, by omega, fun H6 e6 => ⟨true, rfl, iteF ?_⟩⟩
    have e06 := same_trans e05 e6
    have hp6 := e6 _ _ hp5
    have hS6 := hS.up e6
    have hr6 := e06 _ _ hR
    -- all([winner(some) in (None, result) ..])
    refine ⟨_, rfl, _, rfl, p, r, as, rs.map V.str, rfl, .inr ⟨SqT.of hp6, SqT.of hr6, fun D hD => ?_⟩⟩
    refine lc_zipT (K := K) (xs := as) (ys := rs.map V.str) (by rw [List.length_map]; exact lR.symm) (fun i H' => Same H6 H' ∧ H' D = some (.lst (List.replicate i (V.bl true)))) ⟨same_new hD, upd_same⟩ (fun i H' z => ⟨SqT.of (z.1 _ _ hp6), SqT.of (z.1 _ _ hr6)⟩) ?_ ?_
    · rintro i y1 y2 T H7 hy1 hy2 ⟨e7, hD7⟩ hT
      obtain ⟨ts, hts, a, rfl, _, fa⟩ := each_get hS6 hy1
      rw [List.getElem?_map] at hy2
      cases hri : rs[i]? with
      | none =>
        rw [hri] at hy2
        cases hy2
      | some u =>
        rw [hri] at hy2
        obtain rfl : V.str u = y2 := Option.some.inj hy2
        have il : i < rs.length := (List.getElem?_eq_some_iff.mp hri).1
        have e8 : Same H7 (upd H7 T (.tup [V.ref a, V.str u])) := same_new hT
        have h8 : upd H7 T (.tup [V.ref a, V.str u]) T = some (.tup [V.ref a, V.str u]) := upd_same
        generalize upd H7 T (.tup [V.ref a, V.str u]) = H8 at e8 h8 ⊢
        have wid : ts.length = k := pts_wid xs k ts (List.mem_of_getElem? hts)
        have wn := g.win (ts, u) (List.mem_of_getElem? (i := i) (by rw [List.getElem?_zip_eq_some]; exact ⟨hts, hri⟩))
        have fl : flatV (optV (winS ts)) = true := by cases winS ts <;> rfl
        have iv : inV (optV (winS ts)) [V.non, V.str u] = true := by
          rcases wn with z | z
          · rw [show winS ts = none from z]; rfl
          · rw [show winS ts = some u from z]
            show (false || ((u == u) || false)) = true
            rw [beq_self_eq_true]
            rfl
        refine ⟨T, _, rfl, SqT.of h8, rfl, _, _, rfl, _, _, rfl, rfl, rfl, _, rfl, a, ts, rfl, ((fa.same e7).same e8).sqT, by rcases g.hk with z | z <;> omega, by omega, fun HA eA => ⟨_, rfl, by show 2 ≤ sizeLine; decide, fun b hb => ?_⟩⟩
        have e9 : Same H8 (upd HA b (.tup [V.non, V.str u])) := same_trans eA (same_new hb)
        refine ⟨b, _, rfl, .inr (SqT.of upd_same), fl, rfl, _, e9 _ _ (e8 _ _ hD7), by rw [List.length_replicate, sizeLine_eq]; omega, same_put hD (same_trans e7 (same_trans e8 e9)), ?_⟩
        rw [upd_same]
        show some (HO.lst (List.replicate i (V.bl true) ++ [V.bl (inV (optV (winS ts)) [V.non, V.str u])])) = _
        rw [iv, ← List.replicate_succ']
    · rintro H7 ⟨e7, hD7⟩
      rw [← lR] at hD7
      refine ⟨D, List.replicate rs.length true, rfl, SqL.of (by rw [List.map_replicate]; exact hD7), true, congrArg V.bl (bls_all _), iteF ?_⟩
      have e07 := same_trans e06 e7
      have hS7 := hS6.up e7
      have hp7 := e7 _ _ hp6
      have hx7 := e07 _ _ hx
      have ndx : d ≠ x := ne_of hd hx (by intro z; cases z)
      have nrx : r ≠ x := ne_of hR hx (by intro z; cases z)
      have npx : p ≠ x := ne_of hp7 hx7 (by intro z; cases z)
      -- self.domain, self.count, self.results
      refine ⟨_, rfl, _, rfl, x, C.C, dx, _, rfl, hx7, C.cl, C.nd, by decide, ?_⟩
      refine ⟨_, rfl, _, rfl, x, C.C, dx, _, rfl, upd_same, C.cl, C.nn, (by show 1 < 1000; decide), ?_⟩
      refine ⟨_, rfl, _, rfl, x, C.C, dx, _, rfl, upd_same, C.cl, C.nr, (by show 2 < 1000; decide), ?_⟩
      rw [upd_upd, upd_upd]
      have b7 : ButO x H (upd H7 x (.ins C.C dx (putF "results" (V.ref r) (putF "count" (V.int (k : Nat)) (putF "domain" (V.ref d) []))))) := ButO.put (ButO.of e07)
      have hx8 : upd H7 x (.ins C.C dx (putF "results" (V.ref r) (putF "count" (V.int (k : Nat)) (putF "domain" (V.ref d) [])))) x = some (.ins C.C dx (putF "results" (V.ref r) (putF "count" (V.int (k : Nat)) (putF "domain" (V.ref d) [])))) := upd_same
      have kp : ∀ {b : Addr} {o : HO}, H7 b = some o → b ≠ x → upd H7 x (.ins C.C dx (putF "results" (V.ref r) (putF "count" (V.int (k : Nat)) (putF "domain" (V.ref d) [])))) b = some o := fun {b o} h n => by
        rw [upd_ne n]
        exact h
      obtain ⟨ks, ek, e2k, hks⟩ := rows_frz hS7
      subst ek
      have hks8 : ∀ q ∈ ks, H q.1 = none ∧ Fz (upd H7 x (.ins C.C dx (putF "results" (V.ref r) (putF "count" (V.int (k : Nat)) (putF "domain" (V.ref d) []))))) q.1 (q.2.map V.str) := fun q hq => by
        obtain ⟨n0, o, h1, h2⟩ := hks q hq
        exact ⟨e4.free n0, o, kp h1 (ne_of h1 hx7 (by intro z; cases z)), h2⟩
      have hd8 := kp (e07 _ _ hd) ndx
      have hr8 := kp (e07 _ _ hR) nrx
      have hp8 := kp hp7 npx
      generalize upd H7 x (.ins C.C dx (putF "results" (V.ref r) (putF "count" (V.int (k : Nat)) (putF "domain" (V.ref d) [])))) = H8 at b7 hx8 hks8 hd8 hr8 hp8 ⊢
      -- the rows are tuples again
      have th := thawN_at (H := H8) fun q hq => (hks8 q hq).2
      have off : ∀ {b : Addr} {u : HO}, H8 b = some u → (∀ o v, u ≠ .frz o v) → thawN ks H8 b = some u := fun hb n => thawN_off (fun q hq => (hks8 q hq).2) hb n
      have b9 : ButO x H (thawN ks H8) := fun b o h n => by
        have h8 := b7 b o h n
        cases e : ks.find? (fun q => q.1 == b) with
        | none =>
          unfold thawN
          rw [e]
          exact h8
        | some q =>
          have m := List.mem_of_find?_eq_some e
          have ea : q.1 = b := beq_iff_eq.mp (by simpa using List.find?_some e)
          have z := (hks8 q m).1
          rw [ea, h] at z
          cases z
      refine ⟨thawN ks H8, thawN_ok hks8, ?_⟩
      have hx9 := off hx8 (fun _ _ z => nomatch z)
      have hd9 := off hd8 (fun _ _ z => nomatch z)
      have hr9 := off hr8 (fun _ _ z => nomatch z)
      have hp9 := off hp8 (fun _ _ z => nomatch z)
      generalize thawN ks H8 = H9 at th b9 hx9 hd9 hr9 hp9 ⊢
      -- self.result_of
      have lk : ks.length = rs.length := by
        have z := congrArg List.length e2k
        rw [List.length_map] at z
        rw [z]
        exact g.len.symm
      have nd : xs.Nodup := g.asc.imp fun {a b} h e => by rw [e, ltT_irr] at h; cases h
      refine ⟨_, rfl, _, rfl, p, r, ks, rs.map V.str, rfl, rfl, SqT.of hp9, SqT.of hr9, th, by rw [lk, List.length_map], by rw [e2k]; exact pts_nodup nd k, by omega, fun t ht => ?_⟩
      have hx10 : upd H9 t (.dT (KDz.dtOf ks (rs.map V.str))) x = some (.ins C.C dx (putF "results" (V.ref r) (putF "count" (V.int (k : Nat)) (putF "domain" (V.ref d) [])))) := by
        rw [upd_ne (ne_of_none hx9 ht)]
        exact hx9
      have e910 : Same H9 (upd H9 t (.dT (KDz.dtOf ks (rs.map V.str)))) := same_new ht
      have ntx : t ≠ x := fun z => by
        rw [z, hx9] at ht
        cases ht
      refine ⟨_, rfl, x, C.C, dx, _, rfl, hx10, C.cl, C.no, (by show 3 < 1000; decide), ?_⟩
      have htH : H t = none := by
        cases e : H t with
        | none => rfl
        | some o =>
          have z := b9 t o e ntx
          rw [ht] at z
          cases z
      refine q _ t (ButO.put (b9.then e910)) htH upd_same ⟨ks, ?_, ?_, ?_, e2k⟩
      · rw [upd_ne ndx]
        exact e910 _ _ hd9
      · rw [upd_ne nrx]
        exact e910 _ _ hr9
      · rw [upd_ne ntx, upd_same]
end
end K01
/-! sorted(t), t a tuple of texts. -/
namespace KTc
open PySem PySem.Spec PySem.W PySem.SeqAt PyProof.Rows L2 KS
/-- the texts in order, repeated ones too -/
def sortT (ts : List Str) : List Str := ts.mergeSort (dataLe false PyData.str)
def rSortTx (K : PySem.W.Frag) : List V → Hp → VK → Prop := fun vs H Q => ∃ (a : Addr) (ts : List Str), vs = [.ref a] ∧ SqT K H a (ts.map V.str) ∧ ts.length < 64 ∧ ∀ g, H g = none → Q (.ref g) (upd H g (.lst ((sortT ts).map V.str)))
theorem each_txs : ∀ {ts : List Str} {us : List Value}, Vals (ts.map V.str) us → EachIs (fun v b => L2.RelV (.str b) v) us ts
  | [], _, .nil => .nil
  | _ :: _, _, .cons a b => .cons a (each_txs b)
theorem txs_each : ∀ {ts : List Str} {us : List Value}, EachIs (fun v b => L2.RelV (.str b) v) us ts → Vals (ts.map V.str) us
  | _, _, .nil => .nil
  | _, _, .cons a b => .cons a (txs_each b)
section
variable {X : Cx} {pins : List (Addr × Obj)} {σ : L2.St} {H : Hp} {s : Shared}
/-- what is tracked stands there -/
theorem obj_there {P : Program} {w : World} {H : Hp} {h : Heap} {a : Addr} {u : HO} (x : ObjOk P w H h a u) : ∃ o, h.get? a = some o := by
  cases u with
  | lst xs => obtain ⟨_, _, _, _, e⟩ := x; exact ⟨_, e⟩
  | tup xs => obtain ⟨_, _, _, ob, e, _⟩ := x; exact ⟨_, e⟩
  | dK kvs => obtain ⟨_, _, _, _, o, _, _, e, _⟩ := x; exact ⟨_, e⟩
  | dT kvs => obtain ⟨_, _, _, _, o, _, _, e, _⟩ := x; exact ⟨_, e⟩
  | set S n => obtain ⟨o, _, _, _, e, _⟩ := x; exact ⟨_, e⟩
  | ins C dx fs => obtain ⟨_, _, _, e, _⟩ := x; exact ⟨_, e⟩
  | own y => exact x
  | xd fs => obtain ⟨_, ⟨_, _, _, e, _⟩, _⟩ := x; exact ⟨_, e⟩
  | rng lo hi => obtain ⟨_, _, _, e⟩ := x; exact ⟨_, e⟩
  | frz ob u => exact ⟨_, x.1⟩
  | tbl ps => exact ⟨_, x⟩
  | met f y => exact ⟨_, x⟩
  | ext φ => exact x.2.1
/-- a thing laid where nothing was -/
theorem Inv.laidA {h' : Heap} {a : Addr} {o : HO} {t' : Nat} (I : L2.Inv X pins σ H s) (k : ∀ b u, s.heap.get? b = some u → h'.get? b = some u) (hp : ∀ b u, s.heap.get? b = some u → b ≠ a) (hn : H a = none) (new : ObjOk X.prog X.w (upd H a o) h' a o) :
    L2.Inv X pins σ (upd H a o) { s with heap := h', toks := t' } := by
  refine I.un ⟨fun b u q _ _ _ => k b u q, fun b u q _ _ _ => ⟨u.slots, k b u q⟩, fun b u q n _ => by rw [upd_ne (hp b u q)]; exact n, fun b u q _ => ⟨u, k b u q⟩, fun b xs q => by rw [upd_ne (ne_of_none q hn)]; exact q, fun b u xs q => by rw [upd_ne (ne_of_none q hn)]; exact q, fun b ps q => ⟨#[], by rw [upd_ne (ne_of_none q hn), q]; simp⟩⟩ fun b u q => ?_
  by_cases e : b = a
  · subst e
    rw [upd_same] at q
    cases q
    exact new
  · rw [upd_ne e] at q
    exact (I.hok b u q).stay (fun c v _ r => k c v r) (fun c r => by rw [upd_ne (ne_of_none r hn)]; exact r) fun c xs r => by rw [upd_ne (ne_of_none r hn)]; exact r
theorem cr_sortTx (hu : X.A.units + 64 < cLine) : CallR X (.builtin "sorted") (rSortTx X.K) := by
  intro pins s σ H vs us Q I r h
  obtain ⟨a, ts, rfl, hs, h64, q⟩ := h
  obtain ⟨its, rv, pl, hz⟩ := I.tuple hs
  rw [Vals.ref1 r]
  obtain ⟨o, ho, hc, n, hd⟩ := id pl
  have zl : its.length = ts.length := by rw [← rv.length, List.length_map]
  refine Calls.call_function_entry kind_sorted plain_sorted entry_sorted (args_sorted1 _) ?_
  unfold Builtin.«sorted»
  refine wpAny_bind (m := checkCount "sorted" 1 1 _) (wpAny_pure (wpAny_bind (wpAny_collect_seq a (.inr rfl) ho hc hd (fun h1 k1 => ?_) (by rw [List.size_toArray, zl, sizeLine_eq]; omega))))
  refine wpAny_bind (wpAny_newList ?_ (by show its.length ≤ sizeLine; rw [zl, sizeLine_eq]; omega))
  have hoL : (h1.push (seqObj "list" its.toArray 0)).get? h1.objs.size = some (seqObj "list" its.toArray 0) := Heap.get?_push_size _ rfl
  have al : AllAlike (ts.map PyData.str) := fun x hx y hy => by
    obtain ⟨b, _, rfl⟩ := List.mem_map.mp hx
    obtain ⟨c, _, rfl⟩ := List.mem_map.mp hy
    rfl
  have so : Sortable (ts.map PyData.str) := .inr fun d hd => by
    obtain ⟨b, _, rfl⟩ := List.mem_map.mp hd
    refine ⟨?_, ?_⟩
    · intro z; cases z
    · intro xs z; cases z
  refine wpAny_bind (wpAny_holding (W.list_sort_data (s := { s with heap := h1.push (seqObj "list" its.toArray 0) }) (vs := its) (enc := PyData.str) hoL (each_txs rv) (each_and (each_txs rv) fun v p hp r0 => ⟨[], ?_, by simp⟩) al so (by rw [sizeLine_eq]; omega) (fun p hp => by show X.A.in1.units + 1 + 0 < cLine; simp only [Around.in1_units]; omega) fun out zo eo => ?_))
  · obtain ⟨t, rfl⟩ := r0
    exact .str p t
  · obtain ⟨c, hc2⟩ := sortedHeap_at (vs := its) (out := List.toArray out) hoL
    have rS := txs_each eo
    have hn : H h1.objs.size = none := by
      cases e : H h1.objs.size with
      | none => rfl
      | some u =>
        obtain ⟨o, ho2⟩ := obj_there (I.hok _ _ e)
        exact absurd (Heap.lt_size (k1 _ _ ho2)) (Nat.lt_irrefl _)
    have keep : ∀ b u, s.heap.get? b = some u → (sortedHeap (h1.push (seqObj "list" its.toArray 0)) h1.objs.size its (List.toArray out)).get? b = some u := fun b u e => by
      have e2 := k1 b u e
      have lt := Heap.lt_size e2
      rw [sortedHeap_old (Nat.ne_of_lt lt) (by rw [size_push']; exact Nat.lt_succ_of_lt lt)]
      exact Heap.get?_push_of_some _ e2
    have len : ((sortT ts).map V.str).length ≤ sizeLine := by
      unfold sortT
      rw [List.length_map, List.length_mergeSort, sizeLine_eq]
      omega
    have J : L2.Inv X pins σ (upd H h1.objs.size (.lst ((sortT ts).map V.str))) { s with heap := sortedHeap (h1.push (seqObj "list" its.toArray 0)) h1.objs.size its (List.toArray out), toks := s.toks } :=
      Inv.laidA I keep (fun b u e => Nat.ne_of_lt (Heap.lt_size (k1 b u e))) hn ⟨len, out, c, rS, by simpa using hc2⟩
    exact wpAny_pure ⟨_, rfl, ⟨.ref h1.objs.size, _, J, rfl, q h1.objs.size hn⟩⟩
end
end KTc
/-! Vote.middle. -/
namespace K01
open PySem PySem.Spec PyProof.Rows L2 KG KS KA KX KIa KFz KTc
/-- a vote made, with any claim about what it answers -/
theorem make_vt {C : Addr} {H : Hp} {d r x dx : Addr} {xs rs : List Str} {k : Nat} {Q : VK} {E : XK} (hd : H d = some (.tup (xs.map V.str))) (hr : H r = some (.tup (rs.map V.str))) (g : VGood xs k rs)
    (hx : H x = none) (hdx : H dx = none) (ne : dx ≠ x) (q : ∀ H' : Hp, Same H H' → VtAt C H' x xs k rs → Q .non H') :
    spVI C [.ref x, .ref d, .int (k : Nat), .ref r] (upd (upd H dx (.own x)) x (.ins C dx [])) Q E := by
  have e : Same H (upd (upd H dx (.own x)) x (.ins C dx [])) := same_trans (same_new hdx) (same_new (show upd H dx (.own x) x = none by rw [upd_ne ne.symm]; exact hx))
  exact ⟨x, dx, d, r, xs, rs, k, rfl, upd_same, e _ _ hd, e _ _ hr, g, fun H' t b _ h1 h2 => q H' (b.fresh hx e) ⟨dx, d, r, t, h1, h2⟩⟩
/-- the middle one of three -/
def midS (g : List Str) : Str := (sortT g).getD 1 Str.empty
def midR (xs : List Str) : List Str := (ptsL 3 xs).map midS
theorem leT_total {a b : Str} (h : W.dataLt (.str b) (.str a) = false) (k : W.dataLt (.str a) (.str b) = false) : a = b := ltT_total k h
theorem sortT_pairs (g : List Str) : (sortT g).Pairwise fun a b => W.dataLt (.str b) (.str a) = false := by
  refine (W.sort_pairwise (W.sortLe_total _ false _) g).imp fun {p q} hle => ?_
  have h2 : (!W.dataLt (.str q) (.str p)) = true := hle
  cases e : W.dataLt (.str q) (.str p) with
  | false => rfl
  | true =>
    rw [e] at h2
    cases h2
theorem mid_of {g : List Str} {v : Str} (l : g.length = 3) (c : 2 ≤ g.count v) : midS g = v := by
  have pm := List.mergeSort_perm g (W.dataLe false PyData.str)
  have so := sortT_pairs g
  have lc : (sortT g).count v = g.count v := pm.count_eq v
  have ll : (sortT g).length = 3 := by rw [← l]; exact pm.length_eq
  unfold midS
  rw [← lc] at c
  obtain ⟨x, y, z, e⟩ : ∃ x y z, sortT g = [x, y, z] := match sortT g, ll with | [x, y, z], _ => ⟨x, y, z, rfl⟩
  rw [e] at so c ⊢
  show y = v
  simp only [List.pairwise_cons, List.mem_cons, List.not_mem_nil, or_false, forall_eq_or_imp, forall_eq] at so
  obtain ⟨⟨xy, xz⟩, yz, _⟩ := so
  refine Classical.byContradiction fun ny => ?_
  simp only [List.count_cons, List.count_nil] at c
  have hy : (y == v) = false := beq_eq_false_iff_ne.mpr ny
  rw [hy] at c
  have hx : x = v := Classical.byContradiction fun n => by
    rw [beq_eq_false_iff_ne.mpr n] at c
    simp only [Bool.false_eq_true, if_false] at c
    split at c <;> omega
  have hz : z = v := Classical.byContradiction fun n => by
    rw [beq_eq_false_iff_ne.mpr n] at c
    simp only [Bool.false_eq_true, if_false] at c
    split at c <;> omega
  rw [hx] at xy
  rw [hz] at yz
  exact ny (leT_total yz xy)
theorem mid_mem {g : List Str} (l : g.length = 3) : midS g ∈ g := by
  have pm := List.mergeSort_perm g (W.dataLe false PyData.str)
  have ll : (sortT g).length = 3 := by rw [← l]; exact pm.length_eq
  unfold midS
  rw [List.getD_eq_getElem?_getD, List.getElem?_eq_getElem (by omega)]
  exact pm.mem_iff.mp (List.getElem_mem _)
theorem zip_map {α β : Type} {f : α → β} : ∀ {S : List α} {p : α × β}, p ∈ S.zip (S.map f) → ∃ g ∈ S, p = (g, f g)
  | [], _, h => nomatch h
  | s :: S, p, h => by
    rw [List.map_cons, List.zip_cons_cons] at h
    rcases List.mem_cons.mp h with e | h
    · exact ⟨s, List.mem_cons_self, e⟩
    · obtain ⟨g, hg, e⟩ := zip_map h
      exact ⟨g, List.mem_cons_of_mem _ hg, e⟩
theorem good_mid {xs : List Str} (asc : AscT xs) (ok : ∀ x ∈ xs, nameOk x = true) (l1 : 1 ≤ xs.length) (l3 : xs.length ≤ 3) : VGood xs 3 (midR xs) := by
  refine ⟨asc, ok, l1, l3, .inl rfl, by unfold midR; rw [List.length_map], fun x hx => ?_, fun p hp => ?_⟩
  · obtain ⟨g, hg, rfl⟩ := List.mem_map.mp hx
    exact pts_sub 3 g hg _ (mid_mem (pts_wid xs 3 g hg))
  · unfold midR at hp
    obtain ⟨g, hg, e⟩ := zip_map hp
    rw [e]
    show winS g = none ∨ winS g = some (midS g)
    cases h : winS g with
    | none => exact .inl rfl
    | some u =>
      refine .inr ?_
      unfold winS at h
      have z0 : decide (g.length ≤ g.count u + 1) = true := List.find?_some (p := fun v => decide (g.length ≤ g.count v + 1)) h
      have z := of_decide_eq_true z0
      have l := pts_wid xs 3 g hg
      rw [mid_of (v := u) l (by omega)]
/-- Vote.middle(domain) -/
def spMid (C : Addr) : Sp := fun vs H Q _ => ∃ (d : Addr) (xs : List Str), vs = [.ref C, .ref d] ∧ H d = some (.tup (xs.map V.str)) ∧ AscT xs ∧ (∀ x ∈ xs, nameOk x = true) ∧ 1 ≤ xs.length ∧ xs.length ≤ 3 ∧
  ∀ (o : Addr) (H' : Hp), Same H H' → VtAt C H' o xs 3 (midR xs) → Q (.ref o) H'
section
variable {P : Program} {w : World} {K : PySem.W.Frag} {mg : Str → Option Value} {base : Heap}
theorem sc_vtMid : FnScope ["cls", "domain", "some"] ["cls", "domain"] (defScope s_vtMid) := ⟨rfl, rfl, rfl, by decide +kernel, rfl, by decide +kernel, by decide +kernel⟩
theorem ok_vtMid (B : Bz mg) (fi : MtF K "__init__" "Vote.__init__" s_vtInit) (F : VtF K mg) (C : VtC K mg fi.a) (f : MtF K "middle" "Vote.middle" s_vtMid) : FnOk P w K mg base CX0 6 f.a f.d ["cls", "domain"] (spMid C.C) := by
  have G4 := ok_vtInit (P := P) (w := w) (base := base) B fi F C
  have b4 : L2.Binds K fi.d ["self", "domain", "count", "results"] [] := fi.F.binds fun _ _ _ _ _ _ us hl => match us, hl with | [_, _, _, _], _ => rfl
  have G2 := ok_all_rowsF (P := P) (w := w) (base := base) B.toBs F.all
  have b2 : L2.Binds K F.all.d ["columns"] [] := F.all.F.binds fun _ _ _ _ _ _ us hl => match us, hl with | [_], _ => rfl
  refine f.F.ok sc_vtMid (fun vs H Q E h => ?_) (fun cdv A outer s H vs Q E hr h => ?_)
  · obtain ⟨d, xs, rfl, _⟩ := h
    rfl
  · obtain ⟨d, xs, rfl, hd, asc, ok, l1, l3, q⟩ := h
    have hu64 := hr.units
    have hr1 : Room 1 _ := hr.mono (by omega)
    refine ⟨_, (pss_one
      (ps_ret (pe_makeV C.made G4 hr (pv 0) b4 .nil pass0 (pa_cons (pv 1) (pa_cons pe_int (pa_cons (pe_callTy call_tuple_of (by rfl) B.n_tuple (by decide +kernel) (pa_cons (pe_lc (own := [("some", 2)]) (g := gName 2) (by rfl) sc_vtMid.nd (pi_tup (pe_call G2 hr1 rfl F.all.g F.all.F.kp b2 .nil pass0 (pa_cons (pe_op op_rep (pe_lst (pa_cons (pv 1) pa_nil)) pe_int) pa_nil))) (blkOk_by (own := [("some", 2)]) (N := ["cls", "domain", "some"]) (sc := defScope s_vtMid) (by decide +kernel))
        (fun _ _ _ _ _ => (pg_name (i := 2) sc_vtMid.nd rfl (Or.inl rfl))) (fun _ _ _ _ _ => pts_nil) (fun _ _ _ _ _ => (pe_ix (show IxR _ (rIxL K) from ix_list) (pe_callB (show CallR _ (.builtin "sorted") (rSortTx K) from cr_sortTx hu64) (by rfl) B.n_sorted (by decide +kernel) (pa_cons (pv 2) pa_nil)) pe_int (fun _ _ => rfl)))) pa_nil)) pa_nil)))))), ?_⟩
    refine ⟨_, rfl, rfl, _, rfl, _, rfl, by show 1 ≤ sizeLine; decide, fun l hl => ?_⟩
    have e1 : Same H (upd H l (.lst [V.ref d])) := same_new hl
    refine ⟨l, 3, [V.ref d], rfl, rfl, upd_same, by decide, by decide, by show 3 ≤ sizeLine; decide, fun l2 hl2 => ?_⟩
    have e2 := same_trans e1 (same_new (o := .lst (List.replicate (3 : Int).toNat [V.ref d]).flatten) hl2)
    have h2 : upd (upd H l (.lst [V.ref d])) l2 (.lst (List.replicate (3 : Int).toNat [V.ref d]).flatten) l2 = some (.lst ((List.replicate 3 d).map V.ref)) := upd_same
    generalize upd (upd H l (.lst [V.ref d])) l2 (.lst (List.replicate (3 : Int).toNat [V.ref d]).flatten) = H2 at e2 h2 ⊢
    refine ⟨l2, List.replicate 3 d, List.replicate 3 xs, rfl, h2, rows_rep (e2 _ _ hd) 3, fun i => Nat.le_trans (pts_few l3 (by decide) i) (by decide), by rw [List.length_replicate]; decide, fun p as H3 hp e3 hp3 hS => ?_⟩
    have e03 := same_trans e2 e3
    have few : (ptsL 3 xs).length ≤ 100 := by
      have z := pts_few (k := 3) l3 (by decide) 3
      rw [List.take_of_length_le (by rw [List.length_replicate]; exact Nat.le_refl _)] at z
      exact z
    refine ⟨p, rfl, ⟨_, SqT.of hp3⟩, fun D hD => ?_⟩
    refine lc_tup (K := K) (xs := as) (fun i H' => Same H3 H' ∧ H' D = some (.lst (((midR xs).take i).map V.str))) ⟨same_new hD, upd_same⟩ (fun i H' _ z => SqT.of (z.1 _ _ hp3)) ?_ ?_
    · rintro i y H4 hy ⟨e4, hD4⟩
      obtain ⟨g, hg, a, rfl, _, fa⟩ := each_get hS hy
      have gl := pts_wid xs 3 g (List.mem_of_getElem? hg)
      have il : i < (ptsL 3 xs).length := (List.getElem?_eq_some_iff.mp hg).1
      have hm : (midR xs)[i]? = some (midS g) := by
        unfold midR
        rw [List.getElem?_map, show (ptsL 3 xs)[i]? = some g from hg]
        rfl
      have sl : (sortT g).length = 3 := by
        rw [← gl]
        exact (List.mergeSort_perm g (W.dataLe false PyData.str)).length_eq
      refine ⟨rfl, _, rfl, a, g, rfl, (fa.same e4).sqT, by omega, fun b hb => ?_⟩
      have e5 : Same H4 (upd H4 b (.lst ((sortT g).map V.str))) := same_new hb
      refine ⟨b, _, 1, _, rfl, rfl, SqL.of upd_same, at_of (j := 1) rfl (by
        rw [List.getElem?_map, List.getElem?_eq_getElem (by omega)]
        rfl), _, e5 _ _ hD4, by rw [List.length_map, List.length_take, sizeLine_eq]; omega, same_put hD (same_trans e4 e5), ?_⟩
      rw [upd_same, take_next hm, List.map_append]
      have em : midS g = (sortT g)[1] := by
        unfold midS
        rw [List.getD_eq_getElem?_getD, List.getElem?_eq_getElem (by omega)]
        rfl
      rw [em]
      rfl
    · rintro H4 ⟨e4, hD4⟩
      have la := hS.length
      have lm : (midR xs).length = as.length := by
        unfold midR
        rw [List.length_map, la]
        rfl
      rw [← lm, List.take_length] at hD4
      refine ⟨D, _, rfl, .inl ⟨SqL.of hD4, fun t ht => ?_⟩⟩
      have e5 := same_trans e4 (same_new (o := .tup ((midR xs).map V.str)) ht)
      have e05 := same_trans e03 e5
      exact fun x dx hx hdx ne => make_vt (k := 3) (e05 _ _ hd) upd_same (good_mid asc ok l1 l3) hx hdx ne fun H' e' vt => ⟨rfl, q x H' (same_trans e05 e') vt⟩
end
end K01
/-! _law_same. -/
namespace K01
open PySem PySem.Spec PyProof.Rows L2 KG KS KA KX KLm KIa KCt LamX
abbrev s__law_same : Stmt := top 35
abbrev NSm : List Str := ["_law_deck_here", "_law_base", "_law_row_here", "_law_told_here", "_law_other", "_law_longer", "_law_moved", "_law_value"]
/-- a classmethod of a class -/
structure MtC (K : PySem.W.Frag) (C : Addr) (mc : Value) (m qual : Str) (st : Stmt) where
  f : MtF K m qual st
  p : Addr
  M : ClX.CMet K C mc m p f.a
/-- a def that may raise is called where it raises nothing -/
theorem passN {X : Cx} : Passes (L2.CX X.prog X.w) X E0 := fun _ _ _ _ _ _ _ ⟨_, _, _, _, _, _, _, _, _, _, _, _, z⟩ => z.elim
/-- a def's promise by position -/
theorem fnR_of {P : Program} {w : World} {K : PySem.W.Frag} {mg : Str → Option Value} {base : Heap} {CX : CXT} {k : Nat} {f : Addr} {fd : FuncData} {ps : List Str} {sp : Sp} (F : FnOk P w K mg base CX k f fd ps sp)
    (hb : ∀ (s : Shared) (us : List Value), us.length = ps.length → BindsTo s fd ⟨us, []⟩ (ps.zip us)) : FnR P w K mg base CX k f sp := fun A outer s H us vs Q E hr e0 r h =>
  F.run A outer s H ⟨us, []⟩ us vs Q E hr e0 (hb s us (by rw [← r.length]; exact F.len _ _ _ _ h)) r h
theorem DeckAt.extN {H H' : Hp} {d l : Addr} {k : Nat} (D : DeckAt H d l k) (e : ExtN H H') : DeckAt H' d l k := by
  obtain ⟨cs, m, n, h1, h2, h3⟩ := D.ex
  exact ⟨cs, m, n, e _ _ h1 (fun _ z => by cases z), e _ _ h2 (fun _ z => by cases z), h3⟩
theorem Tabs.off {T : List (Addr × Str)} {H H' : Hp} {d l : Addr} {k : Nat} (t : Tabs T H) (D : DeckAt H d l k) (o : Off d l H H') : Tabs T H' := fun p hp => by
  obtain ⟨cs, m, n, hd, hl, _⟩ := D.ex
  obtain ⟨ps, h1, h2, h3⟩ := t p hp
  refine ⟨ps, o _ _ h1 (ne_of h1 hd (by intro z; cases z)) (ne_of h1 hl (by intro z; cases z)), h2, fun pos cv hc => ?_⟩
  obtain ⟨c, e1, e2⟩ := h3 pos cv hc
  exact ⟨c, e1, o _ _ e2 (ne_of e2 hd (by intro z; unfold CodeO at z; cases z)) (ne_of e2 hl (by intro z; unfold CodeO at z; cases z))⟩
theorem tup_ext {H H' : Hp} {p : Addr} {xs : List V} (h : H p = some (.tup xs)) (e : ExtN H H') : H' p = some (.tup xs) := e _ _ h fun _ z => by cases z
theorem ChIn.up {H H' : Hp} {d r t : Addr} {xs rs : List Str} (h : ChIn H d r t xs rs) (e : ExtN H H') : ChIn H' d r t xs rs := by
  obtain ⟨ks, h1, h2, h3, h4⟩ := h
  exact ⟨ks, e _ _ h1 (fun _ z => by cases z), e _ _ h2 (fun _ z => by cases z), e _ _ h3 (fun _ z => by cases z), h4⟩
theorem ChAt.up {C : Addr} {H H' : Hp} {o : Addr} {xs rs : List Str} (h : ChAt C H o xs rs) (e : ExtN H H') : ChAt C H' o xs rs := by
  obtain ⟨dx, d, r, t, h1, h2⟩ := h
  exact ⟨dx, d, r, t, e _ _ h1 (fun _ z => by cases z), h2.up e⟩
theorem ChAt.off {C : Addr} {H H' : Hp} {d l x : Addr} {k : Nat} {xs rs : List Str} (h : ChAt C H x xs rs) (D : DeckAt H d l k) (o : Off d l H H') : ChAt C H' x xs rs := by
  obtain ⟨dx, d1, r, t, h1, ks, h2, h3, h4, h5⟩ := h
  obtain ⟨cs, m, n, hd, hl, _⟩ := id D.ex
  refine ⟨dx, d1, r, t, o _ _ h1 (ne_of h1 hd (by intro z; cases z)) (ne_of h1 hl (by intro z; cases z)), ks, tup_off h2 D o, tup_off h3 D o, o _ _ h4 (ne_of h4 hd (by intro z; cases z)) (ne_of h4 hl (by intro z; cases z)), h5⟩
theorem ChAt.ins {C : Addr} {H : Hp} {o : Addr} {xs rs : List Str} (h : ChAt C H o xs rs) : ∃ p : Addr × List (Str × V), H o = some (.ins C p.1 p.2) := by
  obtain ⟨dx, d, r, t, h1, _⟩ := h
  exact ⟨(dx, _), h1⟩
section
variable {K : PySem.W.Frag} {H : Hp} {x y : Addr} {xs ys rs ss : List Str} {Q : VK} {E : XK} {C : Addr} {p p2 : Addr × List (Str × V)} {T : List (Addr × Str)}
theorem cmp_ch (J : C8.InsC K C) (nV : PySem.W.notFirst K C (.ref C) = true) (ix : H x = some (.ins C p.1 p.2)) (hx : ChAt C H x xs rs) (o1 : ∀ z ∈ xs, nameOk z = true) (s1 : ∀ z ∈ rs, z ∈ xs) (iy : H y = some (.ins C p2.1 p2.2)) (hy : ChAt C H y ys ss) (o2 : ∀ z ∈ ys, nameOk z = true) (s2 : ∀ z ∈ ss, z ∈ ys)
    (q : Q (.bl (decide (xs = ys ∧ rs = ss))) H) : KO.rCmp K C (spCqA K C) E (.ref x) (.ref y) H Q :=
  ⟨x, p.1, p.2, .ref C, rfl, ix, insTy J iy, nV, x, .ref y, xs, rs, rfl, hx, o1, s1, .inl ⟨y, ys, ss, rfl, hy, o2, s2, q⟩⟩
theorem ne_ch (J : C8.InsC K C) (nV : PySem.W.notFirst K C (.ref C) = true) (ix : H x = some (.ins C p.1 p.2)) (hx : ChAt C H x xs rs) (o1 : ∀ z ∈ xs, nameOk z = true) (s1 : ∀ z ∈ rs, z ∈ xs) (iy : H y = some (.ins C p2.1 p2.2)) (hy : ChAt C H y ys ss) (o2 : ∀ z ∈ ys, nameOk z = true) (s2 : ∀ z ∈ ss, z ∈ ys)
    (q : Q (.bl (!decide (xs = ys ∧ rs = ss))) H) : KO.rNe K C (spCqA K C) E (.ref x) (.ref y) H Q :=
  ⟨x, p.1, p.2, .ref C, rfl, ix, insTy J iy, nV, x, .ref y, xs, rs, rfl, hx, o1, s1, .inl ⟨y, ys, ss, rfl, hy, o2, s2, _, rfl, q⟩⟩
theorem cmp_other {v : V} {t : Value} (ix : H x = some (.ins C p.1 p.2)) (hx : ChAt C H x xs rs) (o1 : ∀ z ∈ xs, nameOk z = true) (s1 : ∀ z ∈ rs, z ∈ xs) (ty : TyX K H v t) (nt : PySem.W.notFirst K C t = true) (kt : PySem.W.kitOne K t (.ref C) = some false)
    (q : Q (.bl false) H) : KO.rCmp K C (spCqA K C) E (.ref x) v H Q :=
  ⟨x, p.1, p.2, t, rfl, ix, ty, nt, x, v, xs, rs, rfl, hx, o1, s1, .inr ⟨t, ty, kt, q⟩⟩
theorem ne_other {v : V} {t : Value} (ix : H x = some (.ins C p.1 p.2)) (hx : ChAt C H x xs rs) (o1 : ∀ z ∈ xs, nameOk z = true) (s1 : ∀ z ∈ rs, z ∈ xs) (ty : TyX K H v t) (nt : PySem.W.notFirst K C t = true) (kt : PySem.W.kitOne K t (.ref C) = some false)
    (q : Q (.bl true) H) : KO.rNe K C (spCqA K C) E (.ref x) v H Q :=
  ⟨x, p.1, p.2, t, rfl, ix, ty, nt, x, v, xs, rs, rfl, hx, o1, s1, .inr ⟨t, ty, kt, _, rfl, q⟩⟩
theorem few_rows (G : Good xs rs) : 1 ≤ rs.length ∧ rs.length ≤ 7 := by
  have a := nes_len xs
  have b := nes_ge G.l1 G.l3
  have c := G.len
  have d := G.l1
  omega
theorem any_txs {a : Addr} {L : List Str} (h : H a = some (.tup (L.map V.str))) (l : L.length ≤ 200) : AnyK K H (.ref a) (some (L.map some)) := .tup h (its_texts L) (by rw [List.length_map]; exact l)
theorem short_names {L : List Str} (h : ∀ x ∈ L, nameOk x = true) : Short (L.map some) := fun x hx => by
  obtain ⟨y, hy, e⟩ := List.mem_map.mp hx
  obtain rfl := Option.some.inj e
  have := (tx_name (h y hy)).1
  omega
theorem map_some_inj {a b : List Str} (h : (some (a.map some) : Option (List (Option Str))) = some (b.map some)) : a = b := (List.map_inj_right fun _ _ z => Option.some.inj z).mp (Option.some.inj h)
/-- a choice made of what is right -/
theorem ch_new {N o dx b r : Addr} (hx : H o = none) (hdx : H dx = none) (nd : dx ≠ o) (hb : H b = some (.tup (xs.map V.str))) (hr : H r = some (.tup (rs.map V.str))) (G : Good xs rs) (hT : Tabs T H)
    (q : ∀ H', ExtN H H' → Tabs T H' → ChAt C H' o xs rs → Q .non H') : spCA K T C N [.ref o, .ref b, .ref r] (upd (upd H dx (.own o)) o (.ins C dx [])) Q E := by
  have f := few_rows G
  refine choice_made hx hdx nd (any_txs hb (by have := G.l3; omega)) (fun os e => ?_) (any_txs hr (by omega)) hT (fun d' r' t xs' rs' H' _ a1 a2 a4 a5 _ e1 tb hx' hin => ?_) (fun wd dd H' du _ _ _ => ?_)
  · obtain rfl := Option.some.inj e
    exact ⟨short_names G.ok, by rw [List.length_map]; have := G.l3; omega⟩
  · cases a1
    cases a4
    obtain rfl := map_some_inj a2
    obtain rfl := map_some_inj a5
    exact q H' e1 tb ⟨dx, b, r, t, hx', hin⟩
  · rw [due_good G] at du
    cases du
end
theorem okN {P : Program} {w : World} {K : PySem.W.Frag} {mg : Str → Option Value} {base : Heap} {f : Addr} {fd : FuncData} {ps : List Str} {sp : Sp} {k : Nat} {x qual : Str} {st : Stmt} {N : List Str} (F : Fun K x qual st f fd) (S : FnScope N ps (defScope st)) (len : ∀ vs H Q E, sp vs H Q E → vs.length = ps.length)
    (body : ∀ (cdv : Value) (A : Around) (outer : List Env) (s : Shared) (H : Hp) (vs : List V) (Q : VK) (E : XK),
      (A.deeper (envOfC qual (defScope st) s.heap.objs.size f cdv)).guards = some [] → Room k (A.deeper (envOfC qual (defScope st) s.heap.objs.size f cdv)) → sp vs H Q E →
      ∃ t, PSs (cxOf CX0 P w K mg base N qual (defScope st) f cdv A outer s H E).nox (defBody st) t ∧ t { nx := fun _ H' => Q .non H', rt := Q } (L2.start N vs) H) :
    FnG P w K mg base CX0 (k + 1) f fd ps sp := okG F S len fun cdv A outer s H vs Q E g hr h => by
  obtain ⟨t, h1, h2⟩ := body cdv A outer s H vs Q E g hr h
  exact ⟨t, h1.nox, h2⟩
/-- the facts and defs that it reaches -/
structure SmF (K : PySem.W.Frag) (mg : Str → Option Value) where
  B : Bz mg
  cf : ChF K mg
  ci : MtF K "__init__" "Choice.__init__" s_chInit
  C : ChC K mg ci.a
  JC : C8.InsC K C.C
  N : ErC K mg
  XF : XfC K N.C
  eq_ : MtF K "__eq__" "Choice.__eq__" s_chEq
  ne_ : KO.NeC K C.C eq_.a
  nV : PySem.W.notFirst K C.C (.ref C.C) = true
  nT : PySem.W.notFirst K C.C (.type "tuple") = true
  kT : PySem.W.kitOne K (.type "tuple") (.ref C.C) = some false
  vf : VtF K mg
  vi : MtF K "__init__" "Vote.__init__" s_vtInit
  V : VtC K mg vi.a
  JV : C8.InsC K V.C
  nC : PySem.W.notFirst K C.C (.ref V.C) = true
  kC : PySem.W.kitOne K (.ref V.C) (.ref C.C) = some false
  mc : Value
  rd : ClX.CRead K V.C mc
  mid : MtC K V.C mc "middle" "Vote.middle" s_vtMid
  draw : FnF K mg "_law_draw" "_law_draw" s__law_draw
  pick : FnF K mg "_law_pick" "_law_pick" s__law_pick
  sets : FnF K mg "_law_sets" "_law_sets" s__law_sets
  row : FnF K mg "_law_row" "_law_row" s__law_row
  told : FnF K mg "_law_told" "_law_told" s__law_told
def spSame (T : List (Addr × Str)) : Sp := fun vs H Q _ => ∃ (dk l b r : Addr) (xs rs : List Str) (kk : Nat), vs = [.ref dk, .ref b, .ref r] ∧ DeckAt H dk l kk ∧ kk + 1000 < 1000000000 ∧ H b = some (.tup (xs.map V.str)) ∧ H r = some (.tup (rs.map V.str)) ∧ Good xs rs ∧ Tabs T H ∧
  ∀ (H' : Hp), DeckAt H' dk l (kk + 300) → Tabs T H' → (∀ (p : Addr) (ts : List V), H p = some (.tup ts) → H' p = some (.tup ts)) → Q (.bl true) H'
section
variable {P : Program} {w : World} {K : PySem.W.Frag} {mg : Str → Option Value} {base : Heap}
theorem sc__law_same : FnScope NSm ["_law_deck_here", "_law_base", "_law_row_here"] (defScope s__law_same) := ⟨rfl, rfl, rfl, by decide +kernel, rfl, by decide +kernel, by decide +kernel⟩
theorem ok__law_same {Pt : Addr} (A : SmF K mg) (TB : TabB base mg A.cf.sup.c Pt) (f : FnF K mg "_law_same" "_law_same" s__law_same) : FnG P w K mg base CX0 9 f.a f.d ["_law_deck_here", "_law_base", "_law_row_here"] (spSame [(Pt, lamQ)]) := by
  have hT : [(Pt, lamQ)] = [(Pt, lamQ)] := rfl
  have GD := ok__law_draw (P := P) (w := w) (base := base) A.B.toBi A.draw
  have bD : L2.Binds K A.draw.d ["_law_deck_here", "_law_many"] [] := A.draw.F.binds fun _ _ _ _ _ _ us hl => match us, hl with | [_, _], _ => rfl
  have GO := ok__law_told (P := P) (w := w) (base := base) A.B A.ci A.cf TB hT A.C A.N A.XF A.told
  have bO : L2.Binds K A.told.d ["_law_base", "_law_row_here", "_law_is_named"] [] := A.told.F.binds fun _ _ _ _ _ _ us hl => match us, hl with | [_, _, _], _ => rfl
  have GR := ok__law_row (P := P) (w := w) (base := base) A.B.toBs A.row A.sets A.pick A.draw
  have bR : L2.Binds K A.row.d ["_law_deck_here", "_law_base"] [] := A.row.F.binds fun _ _ _ _ _ _ us hl => match us, hl with | [_, _], _ => rfl
  have GC := ok_chInitA (P := P) (w := w) (base := base) A.B A.ci A.cf TB hT A.C A.N
  have bC : L2.Binds K A.ci.d ["self", "domain", "results"] [] := A.ci.F.binds fun _ _ _ _ _ _ us hl => match us, hl with | [_, _, _], _ => rfl
  have GE := ok_chEqA (P := P) (w := w) (base := base) A.B A.C A.JC A.eq_
  have bE : L2.Binds K A.eq_.d ["self", "other"] [] := A.eq_.F.binds fun _ _ _ _ _ _ us hl => match us, hl with | [_, _], _ => rfl
  have GM := ok_vtMid (P := P) (w := w) (base := base) A.B A.vi A.vf A.V A.mid.f
  have GMr : FnR P w K mg base CX0 6 A.mid.f.a (spMid A.V.C) := by
    obtain ⟨oc, od, kV, doc, pm, an, cdv, ct, osl, e, _, _⟩ := A.mid.f.F.ex
    refine fnR_of GM fun s us hl => ?_
    rw [e]
    exact match us, hl with | [_, _], _ => .of_eq rfl
  refine okN f.F sc__law_same (fun vs H Q E h => ?_) (fun cdv A' outer s H vs Q E hgu hr h => ?_)
  · obtain ⟨dk, l, b, r, xs, rs, kk, rfl, _⟩ := h
    rfl
  · obtain ⟨dk, l, b, r, xs, rs, kk, rfl, D0, hkk, hb, hrr, G, T0, q⟩ := h
    have hu64 := hr.units
    have hr1 : Room 1 _ := hr.mono (by omega)
    have hr2 : Room 2 _ := hr.mono (by omega)
    have hr3 : Room 3 _ := hr.mono (by omega)
    have hr6 : Room 6 _ := hr.mono (by omega)
    have hr7 : Room 7 _ := hr.mono (by omega)
    refine ⟨_, (pss_cons
      (ps_set (i := 3) sc__law_same.nd rfl (Or.inl rfl) (pe_call GO hr rfl A.told.g A.told.F.kp bO .nil pass0 (pa_cons (pv 1) (pa_cons (pv 2) (pa_cons (pe_cmpR op_eq (pe_call GD hr1 rfl A.draw.g A.draw.F.kp bD .nil pass0 (pa_cons (pv 0) (pa_cons pe_int pa_nil))) pe_int (nomark _)) pa_nil)))))
    (pss_cons
      (ps_if (PW.pt (pw_or (pt_not (pt_val (pe_callB call_isi (by rfl) A.B.n_isinstance (by decide +kernel) (pa_cons (pv 3) (pa_cons (pe_glob (v := .ref A.C.C) rfl A.C.g rfl) pa_nil))))) (pw_or1 (pt_cmpR op_ne (pe_callB (call_repr hgu hu64) (by rfl) A.B.n_repr (by decide +kernel) (pa_cons (pe_tup (pa_cons (pe_fld (pv 3) rfl) (pa_cons (pe_fld (pv 3) rfl) pa_nil))) pa_nil)) (pe_callB (call_repr hgu hu64) (by rfl) A.B.n_repr (by decide +kernel) (pa_cons (pe_tup (pa_cons (pv 1) (pa_cons (pv 2) pa_nil))) pa_nil)) (nomark _)))))
        (pss_one
          (ps_ret pe_bl))
        pss_nil)
    (pss_cons
      (ps_if (PW.pt (pw_or (pt_cmpR (KO.op_neI A.ne_ GE bE hr2 pass0) (pv 3) (pe_make A.C.made GC hr7 rfl A.C.g bC .nil passN (pa_cons (pv 1) (pa_cons (pv 2) pa_nil))) (nomark _)) (pw_or1 (pt_not (pt_cmpR (KO.op_cmp (op := .Eq) (fun _ _ => rfl) A.ne_.eq A.ne_.fn GE bE hr1 pass0) (pv 3) (pe_make A.C.made GC hr7 rfl A.C.g bC .nil passN (pa_cons (pv 1) (pa_cons (pv 2) pa_nil))) (nomark _))))))
        (pss_one
          (ps_ret pe_bl))
        pss_nil)
    (pss_cons
      (ps_set (i := 4) sc__law_same.nd rfl (Or.inl rfl) (pe_call GR hr3 rfl A.row.g A.row.F.kp bR .nil pass0 (pa_cons (pv 0) (pa_cons (pv 1) pa_nil))))
    (pss_cons
      (ps_if (PW.pt (pw_or (pt_cmpR op_ne (pe_cmpR (KO.op_cmp (op := .Eq) (fun _ _ => rfl) A.ne_.eq A.ne_.fn GE bE hr1 pass0) (pv 3) (pe_make A.C.made GC hr7 rfl A.C.g bC .nil passN (pa_cons (pv 1) (pa_cons (pv 4) pa_nil))) (nomark _)) (pe_cmpR (op_eqD hu64) (pv 4) (pv 2) (nomark _)) (nomark _)) (pw_or1 (pt_cmpR op_ne (pe_cmpR (KO.op_neI A.ne_ GE bE hr2 pass0) (pv 3) (pe_make A.C.made GC hr7 rfl A.C.g bC .nil passN (pa_cons (pv 1) (pa_cons (pv 4) pa_nil))) (nomark _)) (pe_cmpR (op_neD hu64) (pv 4) (pv 2) (nomark _)) (nomark _)))))
        (pss_one
          (ps_ret pe_bl))
        pss_nil)
    (pss_cons
      (ps_if (PW.pt (pw_or (pt_cmpR (KO.op_cmp (op := .Eq) (fun _ _ => rfl) A.ne_.eq A.ne_.fn GE bE hr1 pass0) (pv 3) (pe_tup (pa_cons (pv 1) (pa_cons (pv 2) pa_nil))) (nomark _)) (pw_or (pt_cmpR (KO.op_cmp (op := .Eq) (fun _ _ => rfl) A.ne_.eq A.ne_.fn GE bE hr1 pass0) (pv 3) (pv 2) (nomark _)) (pw_or (pt_cmpR (KO.op_cmp (op := .Eq) (fun _ _ => rfl) A.ne_.eq A.ne_.fn GE bE hr1 pass0) (pv 3) (ClX.pe_cmeth (pe_glob (v := .ref A.V.C) rfl A.V.g rfl) A.rd A.mid.M GMr hr6 pass0 (pa_cons (pv 1) pa_nil)) (nomark _)) (pw_or1 (pt_not (pt_cmpR (KO.op_neI A.ne_ GE bE hr2 pass0) (pv 3) (ClX.pe_cmeth (pe_glob (v := .ref A.V.C) rfl A.V.g rfl) A.rd A.mid.M GMr hr6 pass0 (pa_cons (pv 1) pa_nil)) (nomark _))))))))
        (pss_one
          (ps_ret pe_bl))
        pss_nil)
    (pss_cons
      (ps_set (i := 5) sc__law_same.nd rfl (Or.inl rfl) (pe_callTy call_tuple_of (by rfl) A.B.n_tuple (by decide +kernel) (pa_cons (pe_lc (own := [("_law_value", 7)]) (g := gName 7) (by rfl) sc__law_same.nd (pi_tup (pv 1)) (blkOk_by (own := [("_law_value", 7)]) (N := NSm) (sc := defScope s__law_same) (by decide +kernel)) (fun _ _ _ _ _ => (pg_name (i := 7) sc__law_same.nd rfl (Or.inl rfl))) (fun _ _ _ _ _ => (pts_one (pt_cmpR op_lt (pe_callB (show CallR _ (.builtin "len") (rLen0 K) from call_len) (by rfl) A.B.n_len (by decide +kernel) (pa_cons (pv 7) pa_nil)) pe_int (nomark _)))) (fun _ _ _ _ _ => (pe_op op_add_str pe_str (pv 7)))) pa_nil)))
    (pss_cons
      (ps_if (pt_cmpR op_eq (pe_callB call_len (by rfl) A.B.n_len (by decide +kernel) (pa_cons (pv 5) pa_nil)) (pe_callB call_len (by rfl) A.B.n_len (by decide +kernel) (pa_cons (pv 1) pa_nil)) (nomark _))
        (pss_cons
          (ps_set (i := 6) sc__law_same.nd rfl (Or.inl rfl) (pe_make A.C.made GC hr7 rfl A.C.g bC .nil passN (pa_cons (pv 5) (pa_cons (pe_callTy call_tuple_of (by rfl) A.B.n_tuple (by decide +kernel) (pa_cons (pe_lc (own := [("_law_value", 7)]) (g := gName 7) (by rfl) sc__law_same.nd (pi_tup (pv 2)) (blkOk_by (own := [("_law_value", 7)]) (N := NSm) (sc := defScope s__law_same) (by decide +kernel)) (fun _ _ _ _ _ => (pg_name (i := 7) sc__law_same.nd rfl (Or.inl rfl))) (fun _ _ _ _ _ => pts_nil) (fun _ _ _ _ _ => (pe_op op_add_str pe_str (pv 7)))) pa_nil)) pa_nil))))
        (pss_one
          (ps_ret (pe_and (pe_not (pe_cmpR (KO.op_cmp (op := .Eq) (fun _ _ => rfl) A.ne_.eq A.ne_.fn GE bE hr1 pass0) (pv 3) (pv 6) (nomark _))) (pe_one (pe_cmpR (KO.op_neI A.ne_ GE bE hr2 pass0) (pv 3) (pv 6) (nomark _)))))))
        pss_nil)
    (pss_one
      (ps_ret pe_bl)))))))))), ?_⟩
    -- told
    refine ⟨_, rfl, _, rfl, _, rfl, dk, l, 2, kk, rfl, D0, by decide, by decide, by omega, fun j0 H1 _ _ D1 o1 => ⟨rfl, ?_⟩⟩
    have hb1 := tup_off hb D0 o1
    have hr1' := tup_off hrr D0 o1
    have T1 := Tabs.off T0 D0 o1
    have few := few_rows G
    have l3 := G.l3
    refine ⟨.ref b, .ref r, _, some (xs.map some), some (rs.map some), rfl, any_txs hb1 (by omega), (fun os e => by
      obtain rfl := Option.some.inj e
      exact ⟨short_names G.ok, by rw [List.length_map]; omega⟩), any_txs hr1' (by omega), T1, fun o dx d' r' t xs' rs' H2 _ a1 a2 a4 a5 _ e2 T2 ho2 hin2 => ?_, fun wd H' du _ _ => (by rw [due_good G] at du; cases du)⟩
    cases a1
    cases a4
    obtain rfl := map_some_inj a2
    obtain rfl := map_some_inj a5
    clear a2 a5
    have D2 := D1.extN e2
    have hb2 := tup_ext hb1 e2
    have hr2' := tup_ext hr1' e2
    have V2 : ChAt A.C.C H2 o xs rs := ⟨dx, b, r, t, ho2, hin2⟩
    have k1 : ∀ (p : Addr) (ts : List V), H p = some (.tup ts) → H2 p = some (.tup ts) := fun p ts hp => tup_ext (tup_off hp D0 o1) e2
    have subO : ∀ x ∈ rs, nameOk x = true := fun x hx => G.ok x (G.sub x hx)
    clear hb1 hr1' D1 o1 T1
    -- isinstance, repr
    have big : ∀ {D : PyData}, cost D ≤ 20000 → D.shown.length ≤ sizeLine := fun {D} h => by
      have z := shown_cost D
      rw [sizeLine_eq]
      omega
    have two : ∀ {H' : Hp} {p : Addr}, H' p = some (.tup [V.ref b, V.ref r]) → H' b = some (.tup (xs.map V.str)) → H' r = some (.tup (rs.map V.str)) → Shw H' (.ref p) (.tuple [.tuple (xs.map PyData.str), .tuple (rs.map PyData.str)]) 2 20000 := fun {H' p} h h1 h2 =>
      (Shws.tup h (Shws.cons ((Shws.tup h1 (shws_txs fun x hx => tx_name (G.ok x hx))).up (fun _ _ e => e) (show 0 + 1 ≤ 1 by omega) (Nat.le_refl _)) (Shws.cons (Shws.tup h2 (shws_txs fun x hx => tx_name (subO x hx))) (Shws.nil (c := 0))))).up (fun _ _ e => e) (by omega) (by omega)
    refine ⟨_, rfl, _, _, _, _, true, rfl, .own _, insTy A.JC ho2, A.JC.me, _, rfl, iteF ?_⟩
    refine ⟨_, rfl, o, A.C.C, dx, _, _, rfl, ho2, A.C.cl, A.C.nd, rfl, _, rfl, o, A.C.C, dx, _, _, rfl, ho2, A.C.cl, A.C.nr, rfl, by show 2 ≤ sizeLine; decide, fun p1 hp1 => ?_⟩
    have e3 : Same H2 (upd H2 p1 (.tup [V.ref b, V.ref r])) := same_new hp1
    have v3 : upd H2 p1 (.tup [V.ref b, V.ref r]) p1 = some (.tup [V.ref b, V.ref r]) := upd_same
    generalize upd H2 p1 (.tup [V.ref b, V.ref r]) = H3 at e3 v3 ⊢
    have s3 := two v3 (e3 _ _ hb2) (e3 _ _ hr2')
    refine ⟨fun _ => True, .ref p1, _, rfl, s3.dq, s3.sh, Nat.le_trans s3.dp (by decide), big s3.ct, _, rfl, _, rfl, by show 2 ≤ sizeLine; decide, fun p2 hp2 => ?_⟩
    have e4 := same_trans e3 (same_new (o := .tup [V.ref b, V.ref r]) hp2)
    have v4 : upd H3 p2 (.tup [V.ref b, V.ref r]) p2 = some (.tup [V.ref b, V.ref r]) := upd_same
    generalize upd H3 p2 (.tup [V.ref b, V.ref r]) = H4 at e4 v4 ⊢
    have hb4 := e4 _ _ hb2
    have hr4 := e4 _ _ hr2'
    have s4 := two v4 hb4 hr4
    refine ⟨fun _ => True, .ref p2, _, rfl, s4.dq, s4.sh, Nat.le_trans s4.dp (by decide), big s4.ct, rfl, false, by rw [decide_eq_true rfl]; rfl, iteF ?_⟩
    have V4 := V2.up (ExtN.of e4)
    have D4 := D2.same e4
    have T4 := Tabs.ext T2 e4
    have k4 : ∀ (p : Addr) (ts : List V), H p = some (.tup ts) → H4 p = some (.tup ts) := fun p ts hp => e4 _ _ (k1 p ts hp)
    clear e3 v3 s3 e4 v4 s4 hp1 hp2 hb2 hr2' V2 D2 T2 k1 hin2 ho2 e2
    have eqT : ∀ {a1 c1 : List Str}, decide (a1 = a1 ∧ c1 = c1) = true := fun {a1 c1} => decide_eq_true ⟨rfl, rfl⟩
    -- told != Choice(..), told == Choice(..)
    refine ⟨_, rfl, _, rfl, _, rfl, fun x5 dx5 hx5 hdx5 nd5 => ch_new hx5 hdx5 nd5 hb4 hr4 G T4 fun H5 e5 T5 V5 => ⟨rfl, ?_⟩⟩
    obtain ⟨i5, j5⟩ := (V4.up e5).ins
    obtain ⟨i5', j5'⟩ := V5.ins
    refine ne_ch A.JC A.nV j5 (V4.up e5) G.ok G.sub j5' V5 G.ok G.sub ⟨_, rfl, ?_⟩
    rw [eqT]
    refine iteF ⟨_, rfl, _, rfl, _, rfl, fun x6 dx6 hx6 hdx6 nd6 => ch_new hx6 hdx6 nd6 (tup_ext hb4 e5) (tup_ext hr4 e5) G T5 fun H6 e6' T6 V6 => ⟨rfl, ?_⟩⟩
    have e6 := e5.trans e6'
    obtain ⟨i6, j6⟩ := (V4.up e6).ins
    obtain ⟨i6', j6'⟩ := V6.ins
    refine cmp_ch A.JC A.nV j6 (V4.up e6) G.ok G.sub j6' V6 G.ok G.sub ⟨_, rfl, ?_⟩
    rw [eqT]
    refine iteF ?_
    have W6 := V4.up e6
    have D6 := D4.extN e6
    have hb6 := tup_ext hb4 e6
    have hr6' := tup_ext hr4 e6
    have k6 : ∀ (p : Addr) (ts : List V), H p = some (.tup ts) → H6 p = some (.tup ts) := fun p ts hp => tup_ext (k4 p ts hp) e6
    clear hx5 hdx5 nd5 V5 j5 j5' hx6 hdx6 nd6 V6 j6 j6' e5 e6' e6 V4 D4 T4 T5 hb4 hr4 k4
    -- other
    refine ⟨_, rfl, _, rfl, dk, l, b, xs, kk + 1, rfl, D6, by omega, hb6, G.asc, G.ok, G.l1, G.l3, fun oa ss H7 _ D7 o7 ho7 GS => ?_⟩
    have hb7 := tup_off hb6 D6 o7
    have hr7 := tup_off hr6' D6 o7
    have W7 := W6.off D6 o7
    have T7 := Tabs.off T6 D6 o7
    have k7 : ∀ (p : Addr) (ts : List V), H p = some (.tup ts) → H7 p = some (.tup ts) := fun p ts hp => tup_off (k6 p ts hp) D6 o7
    clear D6 o7 hb6 hr6' W6 T6 k6
    have sh1 : SeqAt.shaped (txd ss) = true := txd_ok fun x hx => G.ok x (GS.sub x hx)
    have sh2 : SeqAt.shaped (txd rs) = true := txd_ok subO
    have same2 : decide (xs = xs ∧ rs = ss) = decide (ss = rs) := by
      by_cases e : rs = ss
      · rw [decide_eq_true ⟨rfl, e⟩, decide_eq_true e.symm]
      · rw [decide_eq_false (fun z => e z.2), decide_eq_false (fun z => e z.symm)]
    refine ⟨_, rfl, _, rfl, _, rfl, fun x8 dx8 hx8 hdx8 nd8 => ch_new hx8 hdx8 nd8 hb7 ho7 GS T7 fun H8 e8 T8 V8 => ⟨rfl, ?_⟩⟩
    have W8 := W7.up e8
    have hb8 := tup_ext hb7 e8
    have hr8 := tup_ext hr7 e8
    have ho8 := tup_ext ho7 e8
    obtain ⟨i8, j8⟩ := W8.ins
    obtain ⟨i8', j8'⟩ := V8.ins
    refine cmp_ch A.JC A.nV j8 W8 G.ok G.sub j8' V8 G.ok GS.sub ⟨_, rfl, _, rfl, txd ss, txd rs, .tup (SqT.of ho8) (texts_dp _), .tup (SqT.of hr8) (texts_dp _), sh1, sh2, rfl, _, rfl, ?_⟩
    rw [eqv_txd, same2, decide_eq_true rfl]
    refine iteF ⟨_, rfl, _, rfl, _, rfl, fun x9 dx9 hx9 hdx9 nd9 => ch_new hx9 hdx9 nd9 hb8 ho8 GS T8 fun H9 e9' T9 V9 => ⟨rfl, ?_⟩⟩
    have e9 := e8.trans e9'
    have W9 := W7.up e9
    have D9 := D7.extN e9
    have hb9 := tup_ext hb7 e9
    have hr9 := tup_ext hr7 e9
    have ho9 := tup_ext ho7 e9
    have k9 : ∀ (p : Addr) (ts : List V), H p = some (.tup ts) → H9 p = some (.tup ts) := fun p ts hp => tup_ext (k7 p ts hp) e9
    obtain ⟨i9, j9⟩ := W9.ins
    obtain ⟨i9', j9'⟩ := V9.ins
    refine ne_ch A.JC A.nV j9 W9 G.ok G.sub j9' V9 G.ok GS.sub ⟨_, rfl, _, rfl, txd ss, txd rs, .tup (SqT.of ho9) (texts_dp _), .tup (SqT.of hr9) (texts_dp _), sh1, sh2, rfl, _, rfl, ?_⟩
    rw [eqv_txd, same2, decide_eq_true rfl]
    refine iteF ?_
    clear hx8 hdx8 nd8 hx9 hdx9 nd9 e8 e9' e9 j8 j8' j9 j9' W7 W8 D7 T7 T8 hb7 hr7 ho7 hb8 hr8 ho8 ho9 k7 V8 V9 sh1 sh2 same2 GS
    -- told == (base, row), told == row, Vote.middle
    refine ⟨_, rfl, _, rfl, _, rfl, by show 2 ≤ sizeLine; decide, fun p3 hp3 => ?_⟩
    have eD : Same H9 (upd H9 p3 (.tup [V.ref b, V.ref r])) := same_new hp3
    have vD : upd H9 p3 (.tup [V.ref b, V.ref r]) p3 = some (.tup [V.ref b, V.ref r]) := upd_same
    generalize upd H9 p3 (.tup [V.ref b, V.ref r]) = HD at eD vD ⊢
    have WD := W9.up (ExtN.of eD)
    have hbD := eD _ _ hb9
    have hrD := eD _ _ hr9
    obtain ⟨iD, jD⟩ := WD.ins
    refine cmp_other jD WD G.ok G.sub (tyT (SqT.of vD)) A.nT A.kT ⟨_, rfl, iteF ⟨_, rfl, _, rfl, cmp_other jD WD G.ok G.sub (tyT (SqT.of hrD)) A.nT A.kT ⟨_, rfl, iteF ?_⟩⟩⟩
    refine ⟨_, rfl, rfl, _, rfl, b, xs, rfl, hbD, G.asc, G.ok, G.l1, G.l3, fun y1 HE eE vE => ?_⟩
    have WE_ := WD.up (ExtN.of eE)
    obtain ⟨iE, jE⟩ := WE_.ins
    obtain ⟨da, d1a, r1a, t1a, ic1, _⟩ := id vE
    refine cmp_other jE WE_ G.ok G.sub (insTy A.JV ic1) A.nC A.kC ⟨_, rfl, iteF ⟨_, rfl, rfl, _, rfl, b, xs, rfl, eE _ _ hbD, G.asc, G.ok, G.l1, G.l3, fun y2 HA eA' vA => ?_⟩⟩
    have eA := same_trans eD (same_trans eE eA')
    have WA := W9.up (ExtN.of eA)
    have DA := D9.same eA
    have TA_ := Tabs.ext T9 eA
    have hbA := eA _ _ hb9
    have hrA := eA _ _ hr9
    have kA : ∀ (p : Addr) (ts : List V), H p = some (.tup ts) → HA p = some (.tup ts) := fun p ts hp => eA _ _ (k9 p ts hp)
    obtain ⟨iA, jA⟩ := WA.ins
    obtain ⟨db, d1b, r1b, t1b, ic2, _⟩ := id vA
    refine ne_other jA WA G.ok G.sub (insTy A.JV ic2) A.nC A.kC ⟨_, rfl, iteF ?_⟩
    clear hp3 eD vD WD hbD hrD jD eE vE WE_ jE eA' eA W9 D9 T9 hb9 hr9 k9 jA
    -- longer
    refine ⟨_, rfl, b, rfl, ⟨_, SqT.of hbA⟩, fun Dl hDl => ?_⟩
    let F : Nat → List Str := fun c => ((xs.take c).filter fun v => decide (v.length < 8)).map qS
    have lF : ∀ c, (F c).length ≤ 3 := fun c => by
      have z := List.length_filter_le (fun v : Str => decide (v.length < 8)) (xs.take c)
      rw [List.length_take] at z
      have := G.l3
      show (List.map qS _).length ≤ 3
      rw [List.length_map]
      omega
    refine lc_tup (K := K) (xs := xs.map V.str) (fun c H' => Same HA H' ∧ H' Dl = some (.lst ((F c).map V.str))) ⟨same_new hDl, upd_same⟩ (fun c H' _ z => SqT.of (z.1 _ _ hbA)) ?_ ?_
    · rintro c y HB hc ⟨eB, hDB⟩
      rw [List.getElem?_map] at hc
      cases hx : xs[c]? with
      | none =>
        rw [hx] at hc
        cases hc
      | some x =>
        rw [hx] at hc
        obtain rfl : V.str x = y := Option.some.inj hc
        have nx : F (c + 1) = F c ++ if decide (x.length < 8) = true then [qS x] else [] := by
          show List.map qS (List.filter _ (xs.take (c + 1))) = _
          rw [take_next hx, List.filter_append, List.map_append, List.filter_cons]
          congr 1
          split <;> rfl
        have l12 := (tx_name (G.ok x (List.mem_of_getElem? hx))).1
        have lc := lF c
        refine ⟨rfl, _, rfl, .str x, x.length, rfl, ⟨by rw [sizeLine_eq]; omega, rfl⟩, _, _, rfl, rfl, _, rfl, ite2 (fun y => ?_) fun y => ?_⟩
        · have y : x.length < 8 := by
            have z := of_decide_eq_true y
            omega
          refine ⟨_, rfl, _, _, rfl, rfl, ?_, _, hDB, by rw [List.length_map, sizeLine_eq]; omega, same_put hDl eB, ?_⟩
          · have z := qS_len x
            have z2 : (qS x).length = ("q" : Str).length + x.length := by
              rw [z, show ("q" : Str).length = 1 by decide +kernel]
              omega
            rw [← z2, z, sizeLine_eq]
            omega
          · rw [upd_same, nx, if_pos (decide_eq_true y), List.map_append]
            rfl
        · refine ⟨eB, ?_⟩
          have y : ¬ decide (x.length < 8) = true := fun z => y (decide_eq_true (by have := of_decide_eq_true z; omega))
          rw [hDB, nx, if_neg y, List.append_nil]
    rintro HB ⟨eB, hDB⟩
    refine ⟨Dl, _, rfl, .inl ⟨SqL.of hDB, fun lt hlt => ?_⟩⟩
    have eC := same_trans eB (same_new (o := .tup ((F (xs.map V.str).length).map V.str)) hlt)
    have hLD : upd HB lt (.tup ((F (xs.map V.str).length).map V.str)) lt = some (.tup ((F (xs.map V.str).length).map V.str)) := upd_same
    generalize upd HB lt (.tup ((F (xs.map V.str).length).map V.str)) = HD at eC hLD ⊢
    have WD := WA.up (ExtN.of eC)
    have DD := DA.same eC
    have TD := Tabs.ext TA_ eC
    have hbD := eC _ _ hbA
    have hrD := eC _ _ hrA
    have kD : ∀ (p : Addr) (ts : List V), H p = some (.tup ts) → HD p = some (.tup ts) := fun p ts hp => eC _ _ (kA p ts hp)
    have eF : F (xs.map V.str).length = (xs.filter fun v => decide (v.length < 8)).map qS := by
      show List.map qS (List.filter _ (xs.take (xs.map V.str).length)) = _
      rw [List.length_map, List.take_length]
    rw [eF] at hLD
    clear eC eB hDB hlt hDl WA DA TA_ hbA hrA kA lF eF
    -- len(longer) == len(base)
    refine ⟨_, rfl, .ref lt, _, rfl, .inr ⟨_, SqT.of hLD, rfl⟩, _, rfl, .ref b, _, rfl, .inr ⟨_, SqT.of hbD, rfl⟩, rfl, _, rfl, ite2 (fun c => ?_) fun c => ?_⟩
    · have h8 : ∀ x ∈ xs, x.length < 8 := by
        have z := of_decide_eq_true c
        injection z with z
        rw [List.length_map, List.length_map, List.length_map] at z
        have z2 : (xs.filter fun v : Str => decide (v.length < 8)).length = xs.length := by omega
        exact fun x hx => of_decide_eq_true (List.length_filter_eq_length_iff.mp z2 x hx)
      have ef : (xs.filter fun v : Str => decide (v.length < 8)) = xs := List.filter_eq_self.mpr fun x hx => decide_eq_true (h8 x hx)
      rw [ef] at hLD
      have GQ := good_q G h8
      refine ⟨_, rfl, _, rfl, r, rfl, ⟨_, SqT.of hrD⟩, fun Dm hDm => ?_⟩
      refine lc_tup (K := K) (xs := rs.map V.str) (fun c H' => Same HD H' ∧ H' Dm = some (.lst (((rs.map qS).take c).map V.str))) ⟨same_new hDm, upd_same⟩ (fun c H' _ z => SqT.of (z.1 _ _ hrD)) ?_ ?_
      · rintro c y HE hc ⟨eE, hDE⟩
        rw [List.getElem?_map] at hc
        cases hx : rs[c]? with
        | none =>
          rw [hx] at hc
          cases hc
        | some x =>
          rw [hx] at hc
          obtain rfl : V.str x = y := Option.some.inj hc
          have hq : (rs.map qS)[c]? = some (qS x) := by
            rw [List.getElem?_map, hx]
            rfl
          have il : c < rs.length := (List.getElem?_eq_some_iff.mp hx).1
          have l12 := (tx_name (subO x (List.mem_of_getElem? hx))).1
          refine ⟨rfl, _, rfl, _, _, rfl, rfl, ?_, _, hDE, by rw [List.length_map, List.length_take, sizeLine_eq]; omega, same_put hDm eE, ?_⟩
          · have z := qS_len x
            have z2 : (qS x).length = ("q" : Str).length + x.length := by
              rw [z, show ("q" : Str).length = 1 by decide +kernel]
              omega
            rw [← z2, z, sizeLine_eq]
            omega
          · rw [upd_same, take_next hq, List.map_append]
            rfl
      rintro HE ⟨eE, hDE⟩
      rw [List.length_map, show rs.length = (rs.map qS).length by rw [List.length_map], List.take_length] at hDE
      refine ⟨Dm, _, rfl, .inl ⟨SqL.of hDE, fun mt hmt => ?_⟩⟩
      have eG := same_trans eE (same_new (o := .tup ((rs.map qS).map V.str)) hmt)
      have hMG : upd HE mt (.tup ((rs.map qS).map V.str)) mt = some (.tup ((rs.map qS).map V.str)) := upd_same
      generalize upd HE mt (.tup ((rs.map qS).map V.str)) = HG at eG hMG ⊢
      refine fun xH dxH hxH hdxH ndH => ch_new hxH hdxH ndH (eG _ _ hLD) hMG GQ (Tabs.ext TD eG) fun HI eI' TI_ VI => ⟨rfl, ?_⟩
      have eI := (ExtN.of eG).trans eI'
      have WI := WD.up eI
      have DI := DD.extN eI
      obtain ⟨iI, jI⟩ := WI.ins
      obtain ⟨iI', jI'⟩ := VI.ins
      have nf : decide (xs = xs.map qS ∧ rs = rs.map qS) = false := decide_eq_false fun z => q_other G.l1 z.1
      refine ⟨_, rfl, _, rfl, cmp_ch A.JC A.nV jI WI G.ok G.sub jI' VI GQ.ok GQ.sub ⟨_, rfl, _, rfl, ?_⟩⟩
      rw [nf]
      refine iteT ⟨_, rfl, _, rfl, ne_ch A.JC A.nV jI WI G.ok G.sub jI' VI GQ.ok GQ.sub ?_⟩
      rw [nf]
      exact q HI (DI.up (by omega)) TI_ (fun p ts hp => tup_ext (kD p ts hp) eI)
    · exact q HD (DD.up (by omega)) TD kD
end
end K01
namespace KX
open PySem PySem.Spec PySem.W PyProof.Rows PySem.Calls L2 KG
section
variable {prog : Program} {w : World} {A : Around} {E : Value → Shared → Prop} {s : Shared} {K : Frag} {x C : Addr} {ox : Obj} {od : Option Obj}
theorem find_data {name : Str} {a g : Value} (hd : hasDictIn K C = true) (ha : findIn K (.ref C) name = some (some a)) (hg : specialIn K a "__get__" = some (some g)) (ht : takesIn K a = some true) : findObj K C od name = some (.bind g a) := by
  obtain ⟨c, hc, _⟩ := any_some hd
  unfold findObj
  rw [hc, Option.bind_some, ha, Option.bind_some]
  simp only [hg, ht, Option.bind_some]
/-- e.__class__ -/
theorem class_of_ex {Q : Option Value → Shared → Prop} (T : ExC K C) (X : K.In s.heap) (I : InstAt s.heap x ox C od) (h : Q (some (.ref C)) { s with toks := s.toks + 1 }) : wpAny (model prog w) A (getAttr? (.ref x) "__class__") Q E s := by
  have hf : findObj K C od "__class__" = some (.bind (.builtin "getset_descriptor.__get__") (.builtin "object.__class__")) := find_data T.hd T.cl T.gn T.tk
  obtain ⟨hp, g, d, t, os⟩ := s
  have ty := I.type (M := model prog w)
  have l1 := looks_findIn (M := model prog w) X T.ga
  have l2 := looks_findIn (M := model prog w) X T.gg
  have l3 := looks_find (M := model prog w) X I hf
  have isB : Looks (model prog w) hp (isInstance (.ref x) (.type "BaseException")) true := ty.andThen (looks_subIn X T.bx)
  have z0 : (false && onTheHeap (Value.builtin "BaseException.__getattribute__")) = false := rfl
  have z2 : (Value.builtin "BaseException.__getattribute__" == Value.builtin "object.__getattribute__") = false := by decide +kernel
  have z1 : (onTheHeap (Value.ref C) && Value.builtin "BaseException.__getattribute__" == Value.builtin "object.__getattribute__") = false := by
    rw [z2]
    rfl
  unfold getAttr? getAttrBy? getAttrBy
  refine wpAny_bind (wpAny_mkText (wpAny_bind (wpAny_attempt (wpAny_holding (wpAny_bind (ty.at (wpAny_bind (l1.at ?_))))))))
  show wpAny _ _ (if (onTheHeap (Value.ref C) && Value.builtin "BaseException.__getattribute__" == Value.builtin "object.__getattribute__") = true then _ else _) _ _ _
  rw [z1, if_neg Bool.false_ne_true]
  unfold getAttrByItsOwn hookBefore
  apply wpAny_bind
  rw [if_pos (show onTheHeap (Value.ref C) = true from rfl)]
  refine l2.at (wpAny_bind (wpAny_attempt (wpAny_holding ?_)))
  unfold callGetattribute
  rw [z0, if_neg Bool.false_ne_true]
  unfold boundAndCalled
  rw [PySem.F.excAttr_ValueError.ga.bind (.ref x)]
  refine wpAny_bind (wpAny_pure ?_)
  show wpAny _ _ (call (.builtin "BaseException.__getattribute__") [.ref x, .str "__class__" t]) _ _ _
  apply wpAny_call
  apply codeAny_call_builtin PySem.F.excAttr_ValueError.ga.plain PySem.F.entry_bexc_ga
  refine @check_slot (model prog w) _ _ ⟨hp, g, d, t + 1, os⟩ "BaseException.__getattribute__" "BaseException" "__getattribute__" (.ref x) [.str "__class__" t] [] _ (by decide +kernel) (by decide +kernel) isB (PySem.F.args_bexc_ga (.ref x) (.str "__class__" t)) ?_
  unfold Builtin.«object.__getattribute__»
  refine wpAny_bind (wpAny_of_eq (a := ((Value.ref x : Value), [Value.str "__class__" t])) (by first | rfl | (simp only [slotArgs]; rfl)) ?_)
  refine wpAny_bind (wpAny_pure (wpAny_bind (ty.at (wpAny_bind (l3.at ?_)))))
  show wpAny _ _ (holding [Value.builtin "object.__class__"] (call (.builtin "getset_descriptor.__get__") [.builtin "object.__class__", .ref x, .ref C]) >>= ret) _ _ _
  refine wpAny_bind (wpAny_holding (wpAny_call (class_get (s := ⟨hp, g, d, t + 1, os⟩) (ox := ox) (od := od) X I T.mo (wpAny_pure ?_))))
  show wpAny _ _ (handedOut (.ref C)) _ _ _
  rw [handedOut_of (v := .ref C) rfl]
  first
    | exact wpAny_pure h
    | exact wpAny_pure (wpAny_pure h)
    | exact wpAny_pure (wpAny_bind (wpAny_pure (wpAny_pure h)))
theorem cls_obj (T : ExC K C) : ∃ c d cd sl, K.lookup C = some ⟨c, d, .cls cd, sl⟩ := by
  obtain ⟨cd, hc, _⟩ := any_some T.hd
  unfold clsIn at hc
  split at hc
  · rename_i c d cd2 sl ho
    exact ⟨c, d, cd2, sl, ho⟩
  · cases hc
theorem kit_ex (T : ExC K C) : KitX K (.ref x) (.ref C) (fun h => ∃ ox od, InstAt h x ox C od) where
  ty := fun _ _ _ ⟨_, _, I⟩ => I.type
  it := fun _ _ X _ => by
    obtain ⟨c, d, cd, sl, ho⟩ := cls_obj T
    intro A' Q' E' s' k q
    unfold isType loadHead
    exact wpAny_bind (wpAny_loadPart (k _ _ (X _ _ ho)) (wpAny_pure q))
  ne := fun h tp dd its n sl X htp => by
    obtain ⟨c, d, cd, sl2, ho⟩ := cls_obj T
    cases e : (Value.ref C == Value.ref tp) with
    | false => rfl
    | true =>
      have e2 : C = tp := Value.ref.inj (beq_iff_eq.mp e)
      subst e2
      have z := (X _ _ ho).symm.trans htp
      cases z
  ca := fun X ⟨_, _, I⟩ k => class_of_ex T X I k
end
section
variable {X : Cx}
/-- isinstance(e, c), e an exception that was made -/
def rIsiE (K : Frag) : List V → Hp → VK → Prop := fun xs H Q => ∃ (a C : Addr) (fs : List (Str × V)) (c : V) (u : Value) (b : Bool), xs = [.ref a, c] ∧ ExC K C ∧ ExAt H a C fs ∧ ClsV c u ∧ kitOne K (.ref C) u = some b ∧ Q (.bl b) H
theorem call_isiE : CallR X (.builtin "isinstance") (rIsiE X.K) := by
  intro pins s σ H xs us Q I r h
  obtain ⟨a, C, fs, c, u, b, rfl, T, ea, k, e, q⟩ := h
  obtain ⟨u1, u2, rfl, r1, r2⟩ := vals2 r
  obtain rfl : u1 = Value.ref a := r1
  have e2 := k.eq r2
  subst e2
  obtain ⟨ox, od, J, _⟩ := ex_inst I ea
  exact kia_one (kit_ex T) I.kIn ⟨ox, od, J⟩ e (fun z => nomatch z) fun tk => ⟨.bl b, H, I.tok tk, rfl, q⟩
/-- isinstance(e, (c1, c2, ..)) -/
def rIsiET (K : Frag) : List V → Hp → VK → Prop := fun xs H Q => ∃ (a C tp : Addr) (fs : List (Str × V)) (cs : List V) (us : List Value) (b : Bool), xs = [.ref a, .ref tp] ∧ ExC K C ∧ ExAt H a C fs ∧ H tp = some (.tup cs) ∧ Paired ClsV cs us ∧
  kitAny K (.ref C) us = some b ∧ Q (.bl b) H
theorem call_isiET : CallR X (.builtin "isinstance") (rIsiET X.K) := by
  intro pins s σ H xs us Q I r h
  obtain ⟨a, C, tp, fs, cs, ws, b, rfl, T, ea, hT, k, e, q⟩ := h
  obtain ⟨u1, u2, rfl, r1, r2⟩ := vals2 r
  obtain rfl : u1 = Value.ref a := r1
  obtain rfl : u2 = Value.ref tp := r2
  obtain ⟨ox, od, J, _⟩ := ex_inst I ea
  obtain ⟨_, its, rv, o, h1, h2, n, h3⟩ := (show ObjOk X.prog X.w H s.heap tp (.tup cs) from I.hok tp _ hT)
  have e3 := ClsV.all k rv
  subst e3
  obtain ⟨oc, od2, dt, sl⟩ := o
  obtain rfl : oc = Value.type "tuple" := h2
  obtain rfl : dt = Data.seq its.toArray n := h3
  exact kia_tup (kit_ex T) I.kIn ⟨ox, od, J⟩ h1 e (fun z => nomatch z) fun tk => ⟨.bl b, H, I.tok tk, rfl, q⟩
end
end KX
/-! t[::-1], t a tuple. -/
namespace KTv
open PySem PySem.Spec PyProof.Rows L2 HT
theorem adj_back (n : Nat) : Builtin.Slice.sliceAdjust none none (-1) (n : Int) = ((n : Int) - 1, -1) := by
  unfold Builtin.Slice.sliceAdjust
  rfl
theorem places_back (n : Nat) : Builtin.Slice.slicePlaces ((n : Int) - 1) (-1) (-1) = n := by
  unfold Builtin.Slice.slicePlaces
  have h1 : ¬ ((-1 : Int) > 0) := by decide
  simp only [h1, if_false]
  by_cases h : (n : Int) - 1 > -1
  · rw [if_pos h]
    have e : ((n : Int) - 1 - -1 - 1) / (- -1) + 1 = (n : Int) := by
      rw [show (- -1 : Int) = 1 by decide, Int.ediv_one]
      omega
    rw [e, Int.toNat_natCast]
  · rw [if_neg h]
    have : n = 0 := by omega
    rw [this]
    rfl
theorem fm_congr {α β : Type} {f g : α → Option β} : ∀ {l : List α}, (∀ x ∈ l, f x = g x) → l.filterMap f = l.filterMap g
  | [], _ => rfl
  | x :: l, h => by
    rw [List.filterMap_cons, List.filterMap_cons, h x List.mem_cons_self, fm_congr fun y hy => h y (List.mem_cons_of_mem _ hy)]
theorem pick_back (items : Array Value) : ((List.range items.size).filterMap fun k : Nat => items[((items.size : Int) - 1 + (k : Int) * (-1)).toNat]?) = items.toList.reverse := by
  have e : (List.range items.size).filterMap (fun k : Nat => items[((items.size : Int) - 1 + (k : Int) * (-1)).toNat]?) = ((List.range items.size).map fun k => items.size - 1 - k).filterMap (items[·]?) := by
    rw [List.filterMap_map]
    refine fm_congr fun k hk => ?_
    have := List.mem_range.mp hk
    show items[((items.size : Int) - 1 + (k : Int) * (-1)).toNat]? = items[items.size - 1 - k]?
    congr 1
    omega
  rw [e, W.krv_range, List.filterMap_reverse, W.krv_all]
section
variable {prog : Program} {w : World} {A : Around} {E : Value → Shared → Prop} {s : Shared}
theorem slice_back {sl : Addr} {vl vu vs : Value} {n : Nat} {Q : Int × Int × Nat → Shared → Prop} (hs : s.heap.IsSliceOf sl vl vu vs) (pl : IsPart vl none) (pu : IsPart vu none) (ps : IsPart vs (some (-1))) (h : Q ((n : Int) - 1, -1, n) s) :
    wpAny (model prog w) A (Builtin.Slice.sliceApplied (.ref sl) (pure (n : Int))) Q E s := by
  obtain ⟨o, ho, _, hd⟩ := id hs
  unfold Builtin.Slice.sliceApplied Builtin.Slice.sliceFields
  apply wpAny_bind
  refine wpAny_bind (wpAny_field ho hd (x := vl) rfl ?_)
  refine wpAny_bind (wpAny_field ho hd (x := vu) rfl ?_)
  refine wpAny_bind (wpAny_field ho hd (x := vs) rfl (wpAny_pure ?_))
  refine wpAny_bind (slicePart_ ps ?_)
  show wpAny _ _ (if ((-1 : Int) == 0) = true then _ else _) _ _ s
  rw [if_neg (by decide)]
  refine wpAny_bind (slicePart_ pl (wpAny_bind (slicePart_ pu (wpAny_bind (wpAny_pure ?_)))))
  show wpAny _ _ (match Builtin.Slice.sliceAdjust none none (-1) (n : Int) with
    | (lo, hi) => pure (lo, (-1 : Int), Builtin.Slice.slicePlaces lo hi (-1))) _ _ s
  rw [adj_back]
  show wpAny _ _ (pure ((n : Int) - 1, (-1 : Int), Builtin.Slice.slicePlaces ((n : Int) - 1) (-1) (-1))) _ _ s
  rw [places_back]
  exact wpAny_pure h
theorem get_back {t sl : Addr} {items : Array Value} {vl vu vs : Value} {Q : Value → Shared → Prop} (ht : IsTup s.heap t items) (hs : s.heap.IsSliceOf sl vl vu vs) (pl : IsPart vl none) (pu : IsPart vu none) (ps : IsPart vs (some (-1))) (hz : items.size ≤ sizeLine)
    (h : Q (.ref s.heap.objs.size) { s with heap := s.heap.push { cls := .type "tuple", data := .seq items.toList.reverse.toArray } }) : wpAny (model prog w) A (getItem (.ref t) (.ref sl)) Q E s := by
  have fit : sizeOk (.seq items.toList.reverse.toArray) := by
    show items.toList.reverse.toArray.size ≤ sizeLine
    rw [List.size_toArray, List.length_reverse, Array.length_toList]
    exact hz
  obtain ⟨o, ho, hc, hd⟩ := id hs
  have ty : s.TypeIs (.ref sl) "slice" := ⟨o, ho, hc⟩
  unfold getItem
  try with_reducible apply wpAny_holding
  first
    | apply wpAny_bind (wpAny_pure ?_)
    | skip
  refine wpAny_bind (wpAny_sequenceKey ht.typeIs (by decide) ?_)
  refine wpAny_bind (wpAny_callSpecial?_slot (name := Str.ofString "__getitem__") ht.typeIs slot_tuple_getitem (wpAny_call_entry slot_tuple_getitem ht.typeIs entry_tuple_getitem ?_ (args_tuple_getitem _ _)))
  show wpAny _ _ (Builtin.Tuple.tupleItemsOf (.ref t) >>= _) _ _ s
  refine wpAny_bind (tupleItemsOf_ ht (wpAny_bind (wpAny_typeOf ty ?_)))
  rw [if_pos (by decide)]
  refine wpAny_bind (slice_back hs pl pu ps ?_)
  have no : ¬ ((((items.size : Int) - 1) == 0 && (-1 : Int) == 1 && items.size == items.size) = true) := by
    rw [show ((-1 : Int) == 1) = false by decide, Bool.and_false, Bool.false_and]
    exact Bool.false_ne_true
  show wpAny _ _ (if (((items.size : Int) - 1) == 0 && (-1 : Int) == 1 && items.size == items.size) = true then _ else _) _ _ s
  rw [if_neg no, pick_back]
  first
    | exact wpAny_bind (m := Builtin.Tuple.tupleExact _) (wpAny_newObj_type (wpAny_pure ⟨_, rfl, wpAny_pure h⟩) fit)
    | exact wpAny_bind (m := Builtin.Tuple.tupleExact _) (wpAny_newObj_type (wpAny_bind (wpAny_pure (wpAny_pure ⟨_, rfl, wpAny_pure h⟩))) fit)
    | exact wpAny_bind (wpAny_bind (m := Builtin.Tuple.tupleExact _) (wpAny_newObj_type (wpAny_pure (wpAny_pure ⟨_, rfl, wpAny_pure h⟩)) fit))
    | exact wpAny_bind (wpAny_bind (m := Builtin.Tuple.tupleExact _) (wpAny_newObj_type (wpAny_pure ⟨_, rfl, wpAny_pure h⟩) fit))
end
def tRevT (K : PySem.W.Frag) (te : TE) : TE := fun σ H Q => te σ H fun x H1 => ∃ a xs, x = .ref a ∧ SqT K H1 a xs ∧ ∀ p, H1 p = none → Q (.ref p) (upd H1 p (.tup xs.reverse))
section
variable {X : Cx}
theorem pe_revT {e : Expr} {te : TE} {k : Nat} {p1 p2 p3 pos : Pos} (he : PE X e te) : PE X (.Subscript e (.Slice none none (some (.UnaryOp .USub (.Constant (.int 1) k p1) p2)) p3) pos) (tRevT X.K te) := by
  constructor
  intro pins s σ H Q I h
  apply Subscript_
  apply thn (he.run pins s σ H _ I h)
  rintro v s1 ⟨x, H1, I1, r1, a, xs, ex, hx, q⟩
  subst ex
  cases r1
  have st : PO X (some (.UnaryOp .USub (.Constant (.int 1) k p1) p2)) (tPart (tUn (rU fun i => .int (-i)) (tC (.int 1)))) := po_some (pe_un un_neg pe_int)
  apply wpAny_Slice
  apply thn (po_none.run pins s1 σ H1 (fun o H2 => o = none ∧ H2 = H1) I1 ⟨rfl, rfl⟩)
  rintro vl s2 ⟨l, H2, I2, pl, rfl, rfl⟩
  apply thn (po_none.run pins s2 σ H2 (fun o H3 => o = none ∧ H3 = H2) I2 ⟨rfl, rfl⟩)
  rintro vu s3 ⟨u, H3, I3, pu, rfl, rfl⟩
  apply thn (st.run pins s3 σ H3 (fun o H4 => o = some (-1) ∧ H4 = H3) I3 ⟨1, rfl, -1, rfl, rfl, rfl⟩)
  rintro vs s4 ⟨o, H4, I4, ps, rfl, rfl⟩
  have I5 : Inv X pins σ H4 { s4 with heap := s4.heap.push { cls := .type "slice", data := .fields #[vl, vu, vs] } } := I4.kept (t' := s4.toks) fun b ob z => Heap.get?_push_of_some _ z
  obtain ⟨its, r, ht, hz⟩ := I5.tuple hx
  have len := r.length
  show wpAny (model X.prog X.w) X.A (subscriptTail e (.Slice none none (some (.UnaryOp .USub (.Constant (.int 1) k p1) p2)) p3) (.ref a) (.ref s4.heap.objs.size)) (EP X pins σ Q) X.xe _
  apply tail_any (ops := [.ref a, .ref s4.heap.objs.size]) ht.typeIs slot_tuple_getitem.lookup ?_ (by with_unfolding_all rfl)
  refine get_back ht (Heap.IsSliceOf.new _ vl vu vs) pl pu ps (by rw [List.size_toArray]; omega) ?_
  refine ⟨.ref _, _, I5.laid (t' := s4.toks) (o := .tup xs.reverse) (fun b ob z => Heap.get?_push_of_some _ z) (Nat.le_refl _) ?_, rfl, q _ (I5.hok.fresh (Nat.le_refl _))⟩
  exact ⟨by rw [List.length_reverse]; exact hz, _, r.reverse, IsTup.new _ _⟩
end
end KTv
/-! _law_odd_base. -/
namespace K01
open PySem PySem.Spec PyProof.Rows L2 KG KS KA KX KIa KCt

/-- what is new stands, and all tuples -/
def KeptB (H H' H'' : Hp) : Prop := (∀ a o, H a = none → H' a = some o → H'' a = some o) ∧ ∀ p ts, H' p = some (.tup ts) → H'' p = some (.tup ts)
def txOkB (x : Str) : Bool := decide (x.length ≤ 12) && x.cps.toList.all fun c => decide (c < 16 ^ 8)
theorem lits_ok {L : List Str} (h : L.all txOkB = true) : ∀ x ∈ L, TxOk x := fun x hx => by
  have z := List.all_eq_true.mp h x hx
  unfold txOkB at z
  rw [Bool.and_eq_true, decide_eq_true_eq, List.all_eq_true] at z
  exact ⟨z.1, fun c hc => of_decide_eq_true (z.2 c hc)⟩
def shortB (os : List (Option Str)) : Bool := os.all fun o => match o with
  | some x => decide (x.length ≤ 100)
  | none => true
theorem short_of {os : List (Option Str)} (h : shortB os = true) : Short os := fun x hx => of_decide_eq_true (List.all_eq_true.mp h (some x) hx)
theorem short_txs {L : List Str} (h : ∀ x ∈ L, TxOk x) : Short (L.map some) := fun x hx => by
  obtain ⟨y, hy, e⟩ := List.mem_map.mp hx
  obtain rfl := Option.some.inj e
  have := (h y hy).1
  omega
def GoodD (K : PySem.W.Frag) (H : Hp) (v : V) : Prop := ∃ (g : Option (List (Option Str))) (D : PyData), AnyK K H v g ∧ (∀ os, g = some os → Short os ∧ os.length < 64) ∧ Shw H v D 3 16000
def GoodC (K : PySem.W.Frag) (H : Hp) (v : V) : Prop := ∃ (c : Option Int) (D : PyData), CntK K H v c ∧ Shw H v D 3 16000
def GoodR (K : PySem.W.Frag) (H : Hp) (v : V) : Prop := ∃ (g : Option (List (Option Str))) (D : PyData), AnyK K H v g ∧ Shw H v D 3 16000
theorem GoodD.r {K : PySem.W.Frag} {H : Hp} {v : V} (h : GoodD K H v) : GoodR K H v := let ⟨g, D, h1, _, h2⟩ := h; ⟨g, D, h1, h2⟩
section
variable {K : PySem.W.Frag} {H : Hp} {a : Addr}
theorem shw3 {v : V} {D : PyData} {n c : Nat} (h : Shw H v D n c) (h1 : n ≤ 3) (h2 : c ≤ 16000) : Shw H v D 3 16000 := h.up (fun _ _ e => e) h1 h2
theorem goodD_txs {L : List Str} (h : H a = some (.tup (L.map V.str))) (ok : ∀ x ∈ L, TxOk x) (l : L.length ≤ 60) : GoodD K H (.ref a) :=
  ⟨_, _, .tup h (its_texts L) (by rw [List.length_map]; omega), fun os e => by
    obtain rfl := Option.some.inj e
    exact ⟨short_txs ok, by rw [List.length_map]; omega⟩, shw3 (Shws.tup h (shws_txs ok)) (by omega) (by omega)⟩
theorem goodR_txs {L : List Str} (h : H a = some (.tup (L.map V.str))) (ok : ∀ x ∈ L, TxOk x) (l : L.length ≤ 100) : GoodR K H (.ref a) :=
  ⟨_, _, .tup h (its_texts L) (by rw [List.length_map]; omega), shw3 (Shws.tup h (shws_txs ok)) (by omega) (by omega)⟩
theorem goodD_tup {vs : List V} {os : List (Option Str)} {ds : List PyData} {n c : Nat} (h : H a = some (.tup vs)) (i : W.EachIs (ItK K H) vs os) (sh : shortB os = true) (l : vs.length ≤ 60) (s : Shws H vs ds n c) (h1 : n ≤ 2) (h2 : c ≤ 15000) : GoodD K H (.ref a) :=
  ⟨_, _, .tup h i (by omega), fun os' e => by
    obtain rfl := Option.some.inj e
    exact ⟨short_of sh, by rw [← i.length]; omega⟩, shw3 (Shws.tup h s) (by omega) (by omega)⟩
theorem no_os {v : V} (P : List (Option Str) → Prop) : ∀ os, (none : Option (List (Option Str))) = some os → P os := fun _ z => nomatch z
theorem goodD_non : GoodD K H .non := ⟨_, _, .non, (fun _ z => nomatch z), shw3 shw_non (by omega) (by omega)⟩
theorem goodD_bl (b : Bool) : GoodD K H (.bl b) := ⟨_, _, .bl b, (fun _ z => nomatch z), shw3 (shw_bl b) (by omega) (by omega)⟩
theorem goodD_int {i : Int} (h : i.natAbs.log2 ≤ 200) : GoodD K H (.int i) := ⟨_, _, .int i, (fun _ z => nomatch z), shw3 (shw_int2 h) (by omega) (by omega)⟩
theorem goodD_str {x : Str} (h : TxOk x) : GoodD K H (.str x) := ⟨_, _, .str x, (fun _ z => nomatch z), shw3 (shw_tx h) (by omega) (by omega)⟩
theorem goodD_lst {L : List Str} (h : H a = some (.lst (L.map V.str))) (ok : ∀ x ∈ L, TxOk x) (l : L.length ≤ 100) : GoodD K H (.ref a) := ⟨_, _, .lst h, (fun _ z => nomatch z), shw3 (Shws.lst h (shws_txs ok)) (by omega) (by omega)⟩
theorem shw_d0 (h : H a = some (.dK [])) : Shw H (.ref a) (.dict []) 1 4 := ⟨.dct trivial h .nil .nil, by simp only [PyData.showable, PyData.showableKv], by simp only [PyData.depth, PyData.depthKv]; omega, by simp only [cost, costKv]; omega⟩
theorem shw_d1 {x : Str} {i : Int} (h : H a = some (.dK [(.inr x, .int i)])) (hx : TxOk x) (hi : i.natAbs.log2 ≤ 127) : Shw H (.ref a) (.dict [(.str x, .int i)]) 1 300 := by
  have s1 := shw_tx (H := H) hx
  have s2 := shw_int (H := H) hi
  refine ⟨.dct trivial h (.cons s1.dq .nil) (.cons s2.dq .nil), ?_, ?_, ?_⟩
  · simp only [PyData.showable, PyData.showableKv]
    have z := s2.sh
    simp only [PyData.showable] at z
    rw [z]
    rfl
  · simp only [PyData.depth, PyData.depthKv]
    omega
  · simp only [cost, costKv]
    have := s1.ct
    have := s2.ct
    simp only [cost] at this
    simp only [cost] at *
    omega
theorem goodD_d0 (h : H a = some (.dK [])) : GoodD K H (.ref a) := ⟨_, _, .dct h, (fun _ z => nomatch z), shw3 (shw_d0 h) (by omega) (by omega)⟩
theorem goodD_d1 {x : Str} {i : Int} (h : H a = some (.dK [(.inr x, .int i)])) (hx : TxOk x) (hi : i.natAbs.log2 ≤ 127) : GoodD K H (.ref a) := ⟨_, _, .dct h, (fun _ z => nomatch z), shw3 (shw_d1 h hx hi) (by omega) (by omega)⟩
end
theorem same_new2 {H : Hp} {p : Addr} {o1 o2 : HO} (h : H p = none) : Same H (upd (upd H p o1) p o2) := fun b u e => by
  rw [upd_ne (ne_of_none e h), upd_ne (ne_of_none e h)]
  exact e

abbrev s__law_odd_base : Stmt := top 33
abbrev NOd : List Str := ["_law_deck_here", "_law_base", "_law_some"]
def spOddD (K : PySem.W.Frag) : Sp := fun vs H Q _ => ∃ (d l b : Addr) (n : Nat) (xs : List Str), vs = [.ref d, .ref b] ∧ DeckAt H d l n ∧ n + 20 < 1000000000 ∧ H b = some (.tup (xs.map V.str)) ∧ (∀ x ∈ xs, nameOk x = true) ∧ 1 ≤ xs.length ∧ xs.length ≤ 3 ∧
  ∀ (v : V) (H' : Hp), DeckAt H' d l (n + 10) → Off d l H H' → (∀ H'', KeptB H H' H'' → GoodD K H'' v) → Q v H'
section
variable {P : Program} {w : World} {K : PySem.W.Frag} {mg : Str → Option Value} {base : Heap}
theorem sc__law_odd_base : FnScope NOd ["_law_deck_here", "_law_base"] (defScope s__law_odd_base) := ⟨rfl, rfl, rfl, by decide +kernel, rfl, by decide +kernel, by decide +kernel⟩
theorem ok__law_odd_base (B : Bs mg) (f : FnF K mg "_law_odd_base" "_law_odd_base" s__law_odd_base) (fd : FnF K mg "_law_draw" "_law_draw" s__law_draw) (fp : FnF K mg "_law_pick" "_law_pick" s__law_pick) : FnOk P w K mg base CX0 3 f.a f.d ["_law_deck_here", "_law_base"] (spOddD K) := by
  have GP := ok__law_pick (P := P) (w := w) (base := base) B.toBi fp fd
  have bP : L2.Binds K fp.d ["_law_deck_here", "_law_options"] [] := fp.F.binds fun _ _ _ _ _ _ us hl => match us, hl with | [_, _], _ => rfl
  refine f.F.ok sc__law_odd_base (fun vs H Q E h => ?_) (fun cdv A outer s H vs Q E hr h => ?_)
  · obtain ⟨d, l, b, n, xs, rfl, _⟩ := h
    rfl
  · obtain ⟨d, l, b, n, xs, rfl, D0, hn, hb, ok, l1, l3, q⟩ := h
    refine ⟨_, (pss_cons
      (ps_set (i := 2) sc__law_odd_base.nd rfl (Or.inl rfl) (pe_lst (pa_cons pe_non (pa_cons pe_int (pa_cons pe_bl (pa_cons pe_str (pa_cons (pe_ix (show IxR _ (rIxT K) from ix_tup) (pv 1) pe_int (fun _ _ => rfl)) (pa_cons (pe_callTy call_list_of (by rfl) B.n_list (by decide +kernel) (pa_cons (pv 1) pa_nil)) (pa_cons (pe_tup pa_nil) (pa_cons (pe_op op_catA (pv 1) (pe_slice sl_tupA (pv 1) po_none (po_some pe_int))) (pa_cons (KTv.pe_revT (pv 1)) (pa_cons (pe_tup (pa_cons pe_str pa_nil)) (pa_cons (pe_tup (pa_cons pe_str pa_nil)) (pa_cons pe_dnewK pa_nil))))))))))))))
    (pss_cons
      (ps_set (i := 2) sc__law_odd_base.nd rfl (Or.inl rfl) (pe_op op_cat (pv 2) (pe_lst (pa_cons (pe_tup (pa_cons pe_str (pa_cons pe_str (pa_cons pe_str (pa_cons pe_str pa_nil))))) (pa_cons (pe_tup (pa_cons pe_str pa_nil)) (pa_cons (pe_tup (pa_cons pe_str (pa_cons pe_str pa_nil))) (pa_cons (pe_tup (pa_cons pe_str (pa_cons pe_int pa_nil))) (pa_cons (pe_tup (pa_cons pe_str (pa_cons pe_non pa_nil))) (pa_cons (pe_tup (pa_cons (pe_tup (pa_cons pe_str pa_nil)) pa_nil)) (pa_cons (pe_tup (pa_cons pe_str pa_nil)) pa_nil))))))))))
    (pss_cons
      (ps_set (i := 2) sc__law_odd_base.nd rfl (Or.inl rfl) (pe_op op_cat (pv 2) (pe_lst (pa_cons (pe_tup (pa_cons (pe_lst (pa_cons pe_str pa_nil)) pa_nil)) (pa_cons (pe_tup (pa_cons pe_str (pa_cons pe_str pa_nil))) (pa_cons (pe_tup (pa_cons pe_str pa_nil)) (pa_cons (pe_tup (pa_cons pe_bl pa_nil)) (pa_cons (pe_tup (pa_cons pe_str pa_nil)) (pa_cons (pe_disp (pps_cons pe_str pe_int pps_nil) (by rfl) (by rfl) (fun z => by cases z) (by decide)) (pa_cons (pe_op op_catA (pv 1) (pe_tup (pa_cons pe_str pa_nil))) (pa_cons (pe_op op_pow pe_int pe_int) pa_nil)))))))))))
    (pss_one
      (ps_ret (pe_call GP hr rfl fp.g fp.F.kp bP .nil pass0 (pa_cons (pv 0) (pa_cons (pv 2) pa_nil)))))))), ?_⟩
    have f0 : Same H H := fun _ _ e => e
    have vb := hb
    have okx : ∀ x ∈ xs, TxOk x := fun x hx => tx_name (ok x hx)
    obtain ⟨x0, xr, exs⟩ := List.exists_cons_of_ne_nil (show xs ≠ [] from fun z => by rw [z] at l1; exact absurd l1 (by decide))
    have ok0 := ok x0 (by rw [exs]; exact List.mem_cons_self)
    have at0 : atI (xs.map V.str) 0 = some (V.str x0) := by
      rw [exs]
      exact at_of (j := 0) rfl rfl
    obtain ⟨u1, eu1, su1, lu1⟩ := cut_texts (g := xs) (lo := none) (hi := some 1)
    have fresh : ∀ {H8 : Hp} {p : Addr}, Same H H8 → H8 p = none → p ≠ d ∧ p ≠ l := fun {H8 p} e n => by
      obtain ⟨cs, mm, nn, h1, h2, _⟩ := D0.ex
      exact ⟨fun z => (by rw [z, e _ _ h1] at n; cases n), fun z => (by rw [z, e _ _ h2] at n; cases n)⟩
    refine ⟨_, rfl, b, _, 0, _, rfl, rfl, SqT.of vb, at0, _, rfl, b, _, rfl, .inr (SqT.of vb), fun p1 hp1 => ?_⟩
    have s1 := same_new (o := .lst (xs.map V.str)) hp1
    have n1 := fresh f0 hp1
    have z1 := f0.free hp1
    have vb := s1 _ _ vb
    have v1 : upd H p1 (.lst (xs.map V.str)) p1 = some (.lst (xs.map V.str)) := upd_same
    have f1 := same_trans f0 s1
    clear s1
    generalize upd H p1 (.lst (xs.map V.str)) = H_1 at f1 vb v1 ⊢
    refine ⟨by show 0 ≤ sizeLine; exact Nat.zero_le _, fun p2 hp2 => ?_⟩
    have s2 := same_new (o := .tup []) hp2
    have n2 := fresh f1 hp2
    have z2 := f1.free hp2
    have vb := s2 _ _ vb
    have v1 := s2 _ _ v1
    have v2 : upd H_1 p2 (.tup []) p2 = some (.tup []) := upd_same
    have f2 := same_trans f1 s2
    clear s2
    generalize upd H_1 p2 (.tup []) = H_2 at f2 vb v1 v2 ⊢
    refine ⟨_, rfl, _, rfl, 1, rfl, slH_to vb fun p3 H_3 s3 v3 => ?_⟩
    have vb := s3 _ _ vb
    have v1 := s3 _ _ v1
    have v2 := s3 _ _ v2
    have f3 := same_trans f2 s3
    clear s3
    rw [eu1] at v3
    refine catH_to vb v3 (by rw [List.length_map, List.length_map]; omega) fun p4 H_4 s4 v4 => ?_
    have vb := s4 _ _ vb
    have v1 := s4 _ _ v1
    have v2 := s4 _ _ v2
    have v3 := s4 _ _ v3
    have f4 := same_trans f3 s4
    clear s4
    rw [← List.map_append] at v4
    refine ⟨_, rfl, b, _, rfl, SqT.of vb, fun p5 hp5 => ?_⟩
    have s5 := same_new (o := .tup (xs.map V.str).reverse) hp5
    have n5 := fresh f4 hp5
    have z5 := f4.free hp5
    have vb := s5 _ _ vb
    have v1 := s5 _ _ v1
    have v2 := s5 _ _ v2
    have v3 := s5 _ _ v3
    have v4 := s5 _ _ v4
    have v5 : upd H_4 p5 (.tup (xs.map V.str).reverse) p5 = some (.tup (xs.map V.str).reverse) := upd_same
    have f5 := same_trans f4 s5
    clear s5
    generalize upd H_4 p5 (.tup (xs.map V.str).reverse) = H_5 at f5 vb v1 v2 v3 v4 v5 ⊢
    refine ⟨by show 1 ≤ sizeLine; decide, fun p6 hp6 => ?_⟩
    have s6 := same_new (o := .tup [V.str "A"]) hp6
    have n6 := fresh f5 hp6
    have z6 := f5.free hp6
    have vb := s6 _ _ vb
    have v1 := s6 _ _ v1
    have v2 := s6 _ _ v2
    have v3 := s6 _ _ v3
    have v4 := s6 _ _ v4
    have v5 := s6 _ _ v5
    have v6 : upd H_5 p6 (.tup [V.str "A"]) p6 = some (.tup [V.str "A"]) := upd_same
    have f6 := same_trans f5 s6
    clear s6
    generalize upd H_5 p6 (.tup [V.str "A"]) = H_6 at f6 vb v1 v2 v3 v4 v5 v6 ⊢
    refine ⟨by show 1 ≤ sizeLine; decide, fun p7 hp7 => ?_⟩
    have s7 := same_new (o := .tup [V.str ""]) hp7
    have n7 := fresh f6 hp7
    have z7 := f6.free hp7
    have vb := s7 _ _ vb
    have v1 := s7 _ _ v1
    have v2 := s7 _ _ v2
    have v3 := s7 _ _ v3
    have v4 := s7 _ _ v4
    have v5 := s7 _ _ v5
    have v6 := s7 _ _ v6
    have v7 : upd H_6 p7 (.tup [V.str ""]) p7 = some (.tup [V.str ""]) := upd_same
    have f7 := same_trans f6 s7
    clear s7
    generalize upd H_6 p7 (.tup [V.str ""]) = H_7 at f7 vb v1 v2 v3 v4 v5 v6 v7 ⊢
    intro p8 hp8
    have s8 := same_new (o := .dK []) hp8
    have n8 := fresh f7 hp8
    have z8 := f7.free hp8
    have vb := s8 _ _ vb
    have v1 := s8 _ _ v1
    have v2 := s8 _ _ v2
    have v3 := s8 _ _ v3
    have v4 := s8 _ _ v4
    have v5 := s8 _ _ v5
    have v6 := s8 _ _ v6
    have v7 := s8 _ _ v7
    have v8 : upd H_7 p8 (.dK []) p8 = some (.dK []) := upd_same
    have f8 := same_trans f7 s8
    clear s8
    generalize upd H_7 p8 (.dK []) = H_8 at f8 vb v1 v2 v3 v4 v5 v6 v7 v8 ⊢
    refine ⟨by show 12 ≤ sizeLine; decide, fun p9 hp9 => ?_⟩
    have s9 := same_new (o := .lst [V.non, V.int 5, V.bl true, V.str "", V.str x0, V.ref p1, V.ref p2, V.ref p4, V.ref p5, V.ref p6, V.ref p7, V.ref p8]) hp9
    have n9 := fresh f8 hp9
    have z9 := f8.free hp9
    have vb := s9 _ _ vb
    have v1 := s9 _ _ v1
    have v2 := s9 _ _ v2
    have v3 := s9 _ _ v3
    have v4 := s9 _ _ v4
    have v5 := s9 _ _ v5
    have v6 := s9 _ _ v6
    have v7 := s9 _ _ v7
    have v8 := s9 _ _ v8
    have v9 : upd H_8 p9 (.lst [V.non, V.int 5, V.bl true, V.str "", V.str x0, V.ref p1, V.ref p2, V.ref p4, V.ref p5, V.ref p6, V.ref p7, V.ref p8]) p9 = some (.lst [V.non, V.int 5, V.bl true, V.str "", V.str x0, V.ref p1, V.ref p2, V.ref p4, V.ref p5, V.ref p6, V.ref p7, V.ref p8]) := upd_same
    have f9 := same_trans f8 s9
    clear s9
    generalize upd H_8 p9 (.lst [V.non, V.int 5, V.bl true, V.str "", V.str x0, V.ref p1, V.ref p2, V.ref p4, V.ref p5, V.ref p6, V.ref p7, V.ref p8]) = H_9 at f9 vb v1 v2 v3 v4 v5 v6 v7 v8 v9 ⊢
    refine ⟨_, rfl, by show 4 ≤ sizeLine; decide, fun p10 hp10 => ?_⟩
    have s10 := same_new (o := .tup [V.str "a", V.str "b", V.str "c", V.str "d"]) hp10
    have n10 := fresh f9 hp10
    have z10 := f9.free hp10
    have vb := s10 _ _ vb
    have v1 := s10 _ _ v1
    have v2 := s10 _ _ v2
    have v3 := s10 _ _ v3
    have v4 := s10 _ _ v4
    have v5 := s10 _ _ v5
    have v6 := s10 _ _ v6
    have v7 := s10 _ _ v7
    have v8 := s10 _ _ v8
    have v9 := s10 _ _ v9
    have v10 : upd H_9 p10 (.tup [V.str "a", V.str "b", V.str "c", V.str "d"]) p10 = some (.tup [V.str "a", V.str "b", V.str "c", V.str "d"]) := upd_same
    have f10 := same_trans f9 s10
    clear s10
    generalize upd H_9 p10 (.tup [V.str "a", V.str "b", V.str "c", V.str "d"]) = H_10 at f10 vb v1 v2 v3 v4 v5 v6 v7 v8 v9 v10 ⊢
    refine ⟨by show 1 ≤ sizeLine; decide, fun p11 hp11 => ?_⟩
    have s11 := same_new (o := .tup [V.str "abcdefghi"]) hp11
    have n11 := fresh f10 hp11
    have z11 := f10.free hp11
    have vb := s11 _ _ vb
    have v1 := s11 _ _ v1
    have v2 := s11 _ _ v2
    have v3 := s11 _ _ v3
    have v4 := s11 _ _ v4
    have v5 := s11 _ _ v5
    have v6 := s11 _ _ v6
    have v7 := s11 _ _ v7
    have v8 := s11 _ _ v8
    have v9 := s11 _ _ v9
    have v10 := s11 _ _ v10
    have v11 : upd H_10 p11 (.tup [V.str "abcdefghi"]) p11 = some (.tup [V.str "abcdefghi"]) := upd_same
    have f11 := same_trans f10 s11
    clear s11
    generalize upd H_10 p11 (.tup [V.str "abcdefghi"]) = H_11 at f11 vb v1 v2 v3 v4 v5 v6 v7 v8 v9 v10 v11 ⊢
    refine ⟨by show 2 ≤ sizeLine; decide, fun p12 hp12 => ?_⟩
    have s12 := same_new (o := .tup [V.str "b", V.str "a"]) hp12
    have n12 := fresh f11 hp12
    have z12 := f11.free hp12
    have vb := s12 _ _ vb
    have v1 := s12 _ _ v1
    have v2 := s12 _ _ v2
    have v3 := s12 _ _ v3
    have v4 := s12 _ _ v4
    have v5 := s12 _ _ v5
    have v6 := s12 _ _ v6
    have v7 := s12 _ _ v7
    have v8 := s12 _ _ v8
    have v9 := s12 _ _ v9
    have v10 := s12 _ _ v10
    have v11 := s12 _ _ v11
    have v12 : upd H_11 p12 (.tup [V.str "b", V.str "a"]) p12 = some (.tup [V.str "b", V.str "a"]) := upd_same
    have f12 := same_trans f11 s12
    clear s12
    generalize upd H_11 p12 (.tup [V.str "b", V.str "a"]) = H_12 at f12 vb v1 v2 v3 v4 v5 v6 v7 v8 v9 v10 v11 v12 ⊢
    refine ⟨by show 2 ≤ sizeLine; decide, fun p13 hp13 => ?_⟩
    have s13 := same_new (o := .tup [V.str "a", V.int 1]) hp13
    have n13 := fresh f12 hp13
    have z13 := f12.free hp13
    have vb := s13 _ _ vb
    have v1 := s13 _ _ v1
    have v2 := s13 _ _ v2
    have v3 := s13 _ _ v3
    have v4 := s13 _ _ v4
    have v5 := s13 _ _ v5
    have v6 := s13 _ _ v6
    have v7 := s13 _ _ v7
    have v8 := s13 _ _ v8
    have v9 := s13 _ _ v9
    have v10 := s13 _ _ v10
    have v11 := s13 _ _ v11
    have v12 := s13 _ _ v12
    have v13 : upd H_12 p13 (.tup [V.str "a", V.int 1]) p13 = some (.tup [V.str "a", V.int 1]) := upd_same
    have f13 := same_trans f12 s13
    clear s13
    generalize upd H_12 p13 (.tup [V.str "a", V.int 1]) = H_13 at f13 vb v1 v2 v3 v4 v5 v6 v7 v8 v9 v10 v11 v12 v13 ⊢
    refine ⟨by show 2 ≤ sizeLine; decide, fun p14 hp14 => ?_⟩
    have s14 := same_new (o := .tup [V.str "a", V.non]) hp14
    have n14 := fresh f13 hp14
    have z14 := f13.free hp14
    have vb := s14 _ _ vb
    have v1 := s14 _ _ v1
    have v2 := s14 _ _ v2
    have v3 := s14 _ _ v3
    have v4 := s14 _ _ v4
    have v5 := s14 _ _ v5
    have v6 := s14 _ _ v6
    have v7 := s14 _ _ v7
    have v8 := s14 _ _ v8
    have v9 := s14 _ _ v9
    have v10 := s14 _ _ v10
    have v11 := s14 _ _ v11
    have v12 := s14 _ _ v12
    have v13 := s14 _ _ v13
    have v14 : upd H_13 p14 (.tup [V.str "a", V.non]) p14 = some (.tup [V.str "a", V.non]) := upd_same
    have f14 := same_trans f13 s14
    clear s14
    generalize upd H_13 p14 (.tup [V.str "a", V.non]) = H_14 at f14 vb v1 v2 v3 v4 v5 v6 v7 v8 v9 v10 v11 v12 v13 v14 ⊢
    refine ⟨by show 1 ≤ sizeLine; decide, fun p15 hp15 => ?_⟩
    have s15 := same_new (o := .tup [V.str "a"]) hp15
    have n15 := fresh f14 hp15
    have z15 := f14.free hp15
    have vb := s15 _ _ vb
    have v1 := s15 _ _ v1
    have v2 := s15 _ _ v2
    have v3 := s15 _ _ v3
    have v4 := s15 _ _ v4
    have v5 := s15 _ _ v5
    have v6 := s15 _ _ v6
    have v7 := s15 _ _ v7
    have v8 := s15 _ _ v8
    have v9 := s15 _ _ v9
    have v10 := s15 _ _ v10
    have v11 := s15 _ _ v11
    have v12 := s15 _ _ v12
    have v13 := s15 _ _ v13
    have v14 := s15 _ _ v14
    have v15 : upd H_14 p15 (.tup [V.str "a"]) p15 = some (.tup [V.str "a"]) := upd_same
    have f15 := same_trans f14 s15
    clear s15
    generalize upd H_14 p15 (.tup [V.str "a"]) = H_15 at f15 vb v1 v2 v3 v4 v5 v6 v7 v8 v9 v10 v11 v12 v13 v14 v15 ⊢
    refine ⟨by show 1 ≤ sizeLine; decide, fun p16 hp16 => ?_⟩
    have s16 := same_new (o := .tup [V.ref p15]) hp16
    have n16 := fresh f15 hp16
    have z16 := f15.free hp16
    have vb := s16 _ _ vb
    have v1 := s16 _ _ v1
    have v2 := s16 _ _ v2
    have v3 := s16 _ _ v3
    have v4 := s16 _ _ v4
    have v5 := s16 _ _ v5
    have v6 := s16 _ _ v6
    have v7 := s16 _ _ v7
    have v8 := s16 _ _ v8
    have v9 := s16 _ _ v9
    have v10 := s16 _ _ v10
    have v11 := s16 _ _ v11
    have v12 := s16 _ _ v12
    have v13 := s16 _ _ v13
    have v14 := s16 _ _ v14
    have v15 := s16 _ _ v15
    have v16 : upd H_15 p16 (.tup [V.ref p15]) p16 = some (.tup [V.ref p15]) := upd_same
    have f16 := same_trans f15 s16
    clear s16
    generalize upd H_15 p16 (.tup [V.ref p15]) = H_16 at f16 vb v1 v2 v3 v4 v5 v6 v7 v8 v9 v10 v11 v12 v13 v14 v15 v16 ⊢
    refine ⟨by show 1 ≤ sizeLine; decide, fun p17 hp17 => ?_⟩
    have s17 := same_new (o := .tup [V.str "a1"]) hp17
    have n17 := fresh f16 hp17
    have z17 := f16.free hp17
    have vb := s17 _ _ vb
    have v1 := s17 _ _ v1
    have v2 := s17 _ _ v2
    have v3 := s17 _ _ v3
    have v4 := s17 _ _ v4
    have v5 := s17 _ _ v5
    have v6 := s17 _ _ v6
    have v7 := s17 _ _ v7
    have v8 := s17 _ _ v8
    have v9 := s17 _ _ v9
    have v10 := s17 _ _ v10
    have v11 := s17 _ _ v11
    have v12 := s17 _ _ v12
    have v13 := s17 _ _ v13
    have v14 := s17 _ _ v14
    have v15 := s17 _ _ v15
    have v16 := s17 _ _ v16
    have v17 : upd H_16 p17 (.tup [V.str "a1"]) p17 = some (.tup [V.str "a1"]) := upd_same
    have f17 := same_trans f16 s17
    clear s17
    generalize upd H_16 p17 (.tup [V.str "a1"]) = H_17 at f17 vb v1 v2 v3 v4 v5 v6 v7 v8 v9 v10 v11 v12 v13 v14 v15 v16 v17 ⊢
    refine ⟨by show 7 ≤ sizeLine; decide, fun p18 hp18 => ?_⟩
    have s18 := same_new (o := .lst [V.ref p10, V.ref p11, V.ref p12, V.ref p13, V.ref p14, V.ref p16, V.ref p17]) hp18
    have n18 := fresh f17 hp18
    have z18 := f17.free hp18
    have vb := s18 _ _ vb
    have v1 := s18 _ _ v1
    have v2 := s18 _ _ v2
    have v3 := s18 _ _ v3
    have v4 := s18 _ _ v4
    have v5 := s18 _ _ v5
    have v6 := s18 _ _ v6
    have v7 := s18 _ _ v7
    have v8 := s18 _ _ v8
    have v9 := s18 _ _ v9
    have v10 := s18 _ _ v10
    have v11 := s18 _ _ v11
    have v12 := s18 _ _ v12
    have v13 := s18 _ _ v13
    have v14 := s18 _ _ v14
    have v15 := s18 _ _ v15
    have v16 := s18 _ _ v16
    have v17 := s18 _ _ v17
    have v18 : upd H_17 p18 (.lst [V.ref p10, V.ref p11, V.ref p12, V.ref p13, V.ref p14, V.ref p16, V.ref p17]) p18 = some (.lst [V.ref p10, V.ref p11, V.ref p12, V.ref p13, V.ref p14, V.ref p16, V.ref p17]) := upd_same
    have f18 := same_trans f17 s18
    clear s18
    generalize upd H_17 p18 (.lst [V.ref p10, V.ref p11, V.ref p12, V.ref p13, V.ref p14, V.ref p16, V.ref p17]) = H_18 at f18 vb v1 v2 v3 v4 v5 v6 v7 v8 v9 v10 v11 v12 v13 v14 v15 v16 v17 v18 ⊢
    refine ⟨p9, p18, _, _, rfl, rfl, v9, v18, by show 12 + 7 ≤ sizeLine; decide, fun p19 hp19 => ?_⟩
    have s19 := same_new (o := .lst ([V.non, V.int 5, V.bl true, V.str "", V.str x0, V.ref p1, V.ref p2, V.ref p4, V.ref p5, V.ref p6, V.ref p7, V.ref p8] ++ [V.ref p10, V.ref p11, V.ref p12, V.ref p13, V.ref p14, V.ref p16, V.ref p17])) hp19
    have n19 := fresh f18 hp19
    have z19 := f18.free hp19
    have vb := s19 _ _ vb
    have v1 := s19 _ _ v1
    have v2 := s19 _ _ v2
    have v3 := s19 _ _ v3
    have v4 := s19 _ _ v4
    have v5 := s19 _ _ v5
    have v6 := s19 _ _ v6
    have v7 := s19 _ _ v7
    have v8 := s19 _ _ v8
    have v9 := s19 _ _ v9
    have v10 := s19 _ _ v10
    have v11 := s19 _ _ v11
    have v12 := s19 _ _ v12
    have v13 := s19 _ _ v13
    have v14 := s19 _ _ v14
    have v15 := s19 _ _ v15
    have v16 := s19 _ _ v16
    have v17 := s19 _ _ v17
    have v18 := s19 _ _ v18
    have v19 : upd H_18 p19 (.lst ([V.non, V.int 5, V.bl true, V.str "", V.str x0, V.ref p1, V.ref p2, V.ref p4, V.ref p5, V.ref p6, V.ref p7, V.ref p8] ++ [V.ref p10, V.ref p11, V.ref p12, V.ref p13, V.ref p14, V.ref p16, V.ref p17])) p19 = some (.lst ([V.non, V.int 5, V.bl true, V.str "", V.str x0, V.ref p1, V.ref p2, V.ref p4, V.ref p5, V.ref p6, V.ref p7, V.ref p8] ++ [V.ref p10, V.ref p11, V.ref p12, V.ref p13, V.ref p14, V.ref p16, V.ref p17])) := upd_same
    have f19 := same_trans f18 s19
    clear s19
    generalize upd H_18 p19 (.lst ([V.non, V.int 5, V.bl true, V.str "", V.str x0, V.ref p1, V.ref p2, V.ref p4, V.ref p5, V.ref p6, V.ref p7, V.ref p8] ++ [V.ref p10, V.ref p11, V.ref p12, V.ref p13, V.ref p14, V.ref p16, V.ref p17])) = H_19 at f19 vb v1 v2 v3 v4 v5 v6 v7 v8 v9 v10 v11 v12 v13 v14 v15 v16 v17 v18 v19 ⊢
    refine ⟨_, rfl, by show 1 ≤ sizeLine; decide, fun p20 hp20 => ?_⟩
    have s20 := same_new (o := .lst [V.str "a"]) hp20
    have n20 := fresh f19 hp20
    have z20 := f19.free hp20
    have vb := s20 _ _ vb
    have v1 := s20 _ _ v1
    have v2 := s20 _ _ v2
    have v3 := s20 _ _ v3
    have v4 := s20 _ _ v4
    have v5 := s20 _ _ v5
    have v6 := s20 _ _ v6
    have v7 := s20 _ _ v7
    have v8 := s20 _ _ v8
    have v9 := s20 _ _ v9
    have v10 := s20 _ _ v10
    have v11 := s20 _ _ v11
    have v12 := s20 _ _ v12
    have v13 := s20 _ _ v13
    have v14 := s20 _ _ v14
    have v15 := s20 _ _ v15
    have v16 := s20 _ _ v16
    have v17 := s20 _ _ v17
    have v18 := s20 _ _ v18
    have v19 := s20 _ _ v19
    have v20 : upd H_19 p20 (.lst [V.str "a"]) p20 = some (.lst [V.str "a"]) := upd_same
    have f20 := same_trans f19 s20
    clear s20
    generalize upd H_19 p20 (.lst [V.str "a"]) = H_20 at f20 vb v1 v2 v3 v4 v5 v6 v7 v8 v9 v10 v11 v12 v13 v14 v15 v16 v17 v18 v19 v20 ⊢
    refine ⟨by show 1 ≤ sizeLine; decide, fun p21 hp21 => ?_⟩
    have s21 := same_new (o := .tup [V.ref p20]) hp21
    have n21 := fresh f20 hp21
    have z21 := f20.free hp21
    have vb := s21 _ _ vb
    have v1 := s21 _ _ v1
    have v2 := s21 _ _ v2
    have v3 := s21 _ _ v3
    have v4 := s21 _ _ v4
    have v5 := s21 _ _ v5
    have v6 := s21 _ _ v6
    have v7 := s21 _ _ v7
    have v8 := s21 _ _ v8
    have v9 := s21 _ _ v9
    have v10 := s21 _ _ v10
    have v11 := s21 _ _ v11
    have v12 := s21 _ _ v12
    have v13 := s21 _ _ v13
    have v14 := s21 _ _ v14
    have v15 := s21 _ _ v15
    have v16 := s21 _ _ v16
    have v17 := s21 _ _ v17
    have v18 := s21 _ _ v18
    have v19 := s21 _ _ v19
    have v20 := s21 _ _ v20
    have v21 : upd H_20 p21 (.tup [V.ref p20]) p21 = some (.tup [V.ref p20]) := upd_same
    have f21 := same_trans f20 s21
    clear s21
    generalize upd H_20 p21 (.tup [V.ref p20]) = H_21 at f21 vb v1 v2 v3 v4 v5 v6 v7 v8 v9 v10 v11 v12 v13 v14 v15 v16 v17 v18 v19 v20 v21 ⊢
    refine ⟨by show 2 ≤ sizeLine; decide, fun p22 hp22 => ?_⟩
    have s22 := same_new (o := .tup [V.str "a", V.str "a"]) hp22
    have n22 := fresh f21 hp22
    have z22 := f21.free hp22
    have vb := s22 _ _ vb
    have v1 := s22 _ _ v1
    have v2 := s22 _ _ v2
    have v3 := s22 _ _ v3
    have v4 := s22 _ _ v4
    have v5 := s22 _ _ v5
    have v6 := s22 _ _ v6
    have v7 := s22 _ _ v7
    have v8 := s22 _ _ v8
    have v9 := s22 _ _ v9
    have v10 := s22 _ _ v10
    have v11 := s22 _ _ v11
    have v12 := s22 _ _ v12
    have v13 := s22 _ _ v13
    have v14 := s22 _ _ v14
    have v15 := s22 _ _ v15
    have v16 := s22 _ _ v16
    have v17 := s22 _ _ v17
    have v18 := s22 _ _ v18
    have v19 := s22 _ _ v19
    have v20 := s22 _ _ v20
    have v21 := s22 _ _ v21
    have v22 : upd H_21 p22 (.tup [V.str "a", V.str "a"]) p22 = some (.tup [V.str "a", V.str "a"]) := upd_same
    have f22 := same_trans f21 s22
    clear s22
    generalize upd H_21 p22 (.tup [V.str "a", V.str "a"]) = H_22 at f22 vb v1 v2 v3 v4 v5 v6 v7 v8 v9 v10 v11 v12 v13 v14 v15 v16 v17 v18 v19 v20 v21 v22 ⊢
    refine ⟨by show 1 ≤ sizeLine; decide, fun p23 hp23 => ?_⟩
    have s23 := same_new (o := .tup [V.str "a b"]) hp23
    have n23 := fresh f22 hp23
    have z23 := f22.free hp23
    have vb := s23 _ _ vb
    have v1 := s23 _ _ v1
    have v2 := s23 _ _ v2
    have v3 := s23 _ _ v3
    have v4 := s23 _ _ v4
    have v5 := s23 _ _ v5
    have v6 := s23 _ _ v6
    have v7 := s23 _ _ v7
    have v8 := s23 _ _ v8
    have v9 := s23 _ _ v9
    have v10 := s23 _ _ v10
    have v11 := s23 _ _ v11
    have v12 := s23 _ _ v12
    have v13 := s23 _ _ v13
    have v14 := s23 _ _ v14
    have v15 := s23 _ _ v15
    have v16 := s23 _ _ v16
    have v17 := s23 _ _ v17
    have v18 := s23 _ _ v18
    have v19 := s23 _ _ v19
    have v20 := s23 _ _ v20
    have v21 := s23 _ _ v21
    have v22 := s23 _ _ v22
    have v23 : upd H_22 p23 (.tup [V.str "a b"]) p23 = some (.tup [V.str "a b"]) := upd_same
    have f23 := same_trans f22 s23
    clear s23
    generalize upd H_22 p23 (.tup [V.str "a b"]) = H_23 at f23 vb v1 v2 v3 v4 v5 v6 v7 v8 v9 v10 v11 v12 v13 v14 v15 v16 v17 v18 v19 v20 v21 v22 v23 ⊢
    refine ⟨by show 1 ≤ sizeLine; decide, fun p24 hp24 => ?_⟩
    have s24 := same_new (o := .tup [V.bl true]) hp24
    have n24 := fresh f23 hp24
    have z24 := f23.free hp24
    have vb := s24 _ _ vb
    have v1 := s24 _ _ v1
    have v2 := s24 _ _ v2
    have v3 := s24 _ _ v3
    have v4 := s24 _ _ v4
    have v5 := s24 _ _ v5
    have v6 := s24 _ _ v6
    have v7 := s24 _ _ v7
    have v8 := s24 _ _ v8
    have v9 := s24 _ _ v9
    have v10 := s24 _ _ v10
    have v11 := s24 _ _ v11
    have v12 := s24 _ _ v12
    have v13 := s24 _ _ v13
    have v14 := s24 _ _ v14
    have v15 := s24 _ _ v15
    have v16 := s24 _ _ v16
    have v17 := s24 _ _ v17
    have v18 := s24 _ _ v18
    have v19 := s24 _ _ v19
    have v20 := s24 _ _ v20
    have v21 := s24 _ _ v21
    have v22 := s24 _ _ v22
    have v23 := s24 _ _ v23
    have v24 : upd H_23 p24 (.tup [V.bl true]) p24 = some (.tup [V.bl true]) := upd_same
    have f24 := same_trans f23 s24
    clear s24
    generalize upd H_23 p24 (.tup [V.bl true]) = H_24 at f24 vb v1 v2 v3 v4 v5 v6 v7 v8 v9 v10 v11 v12 v13 v14 v15 v16 v17 v18 v19 v20 v21 v22 v23 v24 ⊢
    refine ⟨by show 1 ≤ sizeLine; decide, fun p25 hp25 => ?_⟩
    have s25 := same_new (o := .tup [V.str "a\n"]) hp25
    have n25 := fresh f24 hp25
    have z25 := f24.free hp25
    have vb := s25 _ _ vb
    have v1 := s25 _ _ v1
    have v2 := s25 _ _ v2
    have v3 := s25 _ _ v3
    have v4 := s25 _ _ v4
    have v5 := s25 _ _ v5
    have v6 := s25 _ _ v6
    have v7 := s25 _ _ v7
    have v8 := s25 _ _ v8
    have v9 := s25 _ _ v9
    have v10 := s25 _ _ v10
    have v11 := s25 _ _ v11
    have v12 := s25 _ _ v12
    have v13 := s25 _ _ v13
    have v14 := s25 _ _ v14
    have v15 := s25 _ _ v15
    have v16 := s25 _ _ v16
    have v17 := s25 _ _ v17
    have v18 := s25 _ _ v18
    have v19 := s25 _ _ v19
    have v20 := s25 _ _ v20
    have v21 := s25 _ _ v21
    have v22 := s25 _ _ v22
    have v23 := s25 _ _ v23
    have v24 := s25 _ _ v24
    have v25 : upd H_24 p25 (.tup [V.str "a\n"]) p25 = some (.tup [V.str "a\n"]) := upd_same
    have f25 := same_trans f24 s25
    clear s25
    generalize upd H_24 p25 (.tup [V.str "a\n"]) = H_25 at f25 vb v1 v2 v3 v4 v5 v6 v7 v8 v9 v10 v11 v12 v13 v14 v15 v16 v17 v18 v19 v20 v21 v22 v23 v24 v25 ⊢
    intro p26 hp26
    refine ⟨upd_same, [(.inr "a", .int 1)], rfl, by decide, ?_⟩
    have s26 := same_new2 (o1 := .dK []) (o2 := .dK (mergeK [] [(.inr "a", .int 1)])) hp26
    have n26 := fresh f25 hp26
    have z26 := f25.free hp26
    have vb := s26 _ _ vb
    have v1 := s26 _ _ v1
    have v2 := s26 _ _ v2
    have v3 := s26 _ _ v3
    have v4 := s26 _ _ v4
    have v5 := s26 _ _ v5
    have v6 := s26 _ _ v6
    have v7 := s26 _ _ v7
    have v8 := s26 _ _ v8
    have v9 := s26 _ _ v9
    have v10 := s26 _ _ v10
    have v11 := s26 _ _ v11
    have v12 := s26 _ _ v12
    have v13 := s26 _ _ v13
    have v14 := s26 _ _ v14
    have v15 := s26 _ _ v15
    have v16 := s26 _ _ v16
    have v17 := s26 _ _ v17
    have v18 := s26 _ _ v18
    have v19 := s26 _ _ v19
    have v20 := s26 _ _ v20
    have v21 := s26 _ _ v21
    have v22 := s26 _ _ v22
    have v23 := s26 _ _ v23
    have v24 := s26 _ _ v24
    have v25 := s26 _ _ v25
    have v26 : upd (upd H_25 p26 (.dK [])) p26 (.dK (mergeK [] [(.inr "a", .int 1)])) p26 = some (.dK (mergeK [] [(.inr "a", .int 1)])) := upd_same
    have f26 := same_trans f25 s26
    clear s26
    generalize upd (upd H_25 p26 (.dK [])) p26 (.dK (mergeK [] [(.inr "a", .int 1)])) = H_26 at f26 vb v1 v2 v3 v4 v5 v6 v7 v8 v9 v10 v11 v12 v13 v14 v15 v16 v17 v18 v19 v20 v21 v22 v23 v24 v25 v26 ⊢
    refine ⟨_, rfl, by show 1 ≤ sizeLine; decide, fun p27 hp27 => ?_⟩
    have s27 := same_new (o := .tup [V.str "zzzzzzzzz"]) hp27
    have n27 := fresh f26 hp27
    have z27 := f26.free hp27
    have vb := s27 _ _ vb
    have v1 := s27 _ _ v1
    have v2 := s27 _ _ v2
    have v3 := s27 _ _ v3
    have v4 := s27 _ _ v4
    have v5 := s27 _ _ v5
    have v6 := s27 _ _ v6
    have v7 := s27 _ _ v7
    have v8 := s27 _ _ v8
    have v9 := s27 _ _ v9
    have v10 := s27 _ _ v10
    have v11 := s27 _ _ v11
    have v12 := s27 _ _ v12
    have v13 := s27 _ _ v13
    have v14 := s27 _ _ v14
    have v15 := s27 _ _ v15
    have v16 := s27 _ _ v16
    have v17 := s27 _ _ v17
    have v18 := s27 _ _ v18
    have v19 := s27 _ _ v19
    have v20 := s27 _ _ v20
    have v21 := s27 _ _ v21
    have v22 := s27 _ _ v22
    have v23 := s27 _ _ v23
    have v24 := s27 _ _ v24
    have v25 := s27 _ _ v25
    have v26 := s27 _ _ v26
    have v27 : upd H_26 p27 (.tup [V.str "zzzzzzzzz"]) p27 = some (.tup [V.str "zzzzzzzzz"]) := upd_same
    have f27 := same_trans f26 s27
    clear s27
    generalize upd H_26 p27 (.tup [V.str "zzzzzzzzz"]) = H_27 at f27 vb v1 v2 v3 v4 v5 v6 v7 v8 v9 v10 v11 v12 v13 v14 v15 v16 v17 v18 v19 v20 v21 v22 v23 v24 v25 v26 v27 ⊢
    refine catH_to vb v27 (by rw [List.length_map]; show _ + 1 ≤ 1000; omega) fun p28 H_28 s28 v28 => ?_
    have vb := s28 _ _ vb
    have v1 := s28 _ _ v1
    have v2 := s28 _ _ v2
    have v3 := s28 _ _ v3
    have v4 := s28 _ _ v4
    have v5 := s28 _ _ v5
    have v6 := s28 _ _ v6
    have v7 := s28 _ _ v7
    have v8 := s28 _ _ v8
    have v9 := s28 _ _ v9
    have v10 := s28 _ _ v10
    have v11 := s28 _ _ v11
    have v12 := s28 _ _ v12
    have v13 := s28 _ _ v13
    have v14 := s28 _ _ v14
    have v15 := s28 _ _ v15
    have v16 := s28 _ _ v16
    have v17 := s28 _ _ v17
    have v18 := s28 _ _ v18
    have v19 := s28 _ _ v19
    have v20 := s28 _ _ v20
    have v21 := s28 _ _ v21
    have v22 := s28 _ _ v22
    have v23 := s28 _ _ v23
    have v24 := s28 _ _ v24
    have v25 := s28 _ _ v25
    have v26 := s28 _ _ v26
    have v27 := s28 _ _ v27
    have f28 := same_trans f27 s28
    clear s28
    refine ⟨_, _, rfl, rfl, ⟨by decide, by decide, by decide⟩, by show 8 ≤ sizeLine; decide, fun p29 hp29 => ?_⟩
    have s29 := same_new (o := .lst [V.ref p21, V.ref p22, V.ref p23, V.ref p24, V.ref p25, V.ref p26, V.ref p28, V.int (10 ^ (39 : Int).toNat)]) hp29
    have n29 := fresh f28 hp29
    have z29 := f28.free hp29
    have vb := s29 _ _ vb
    have v1 := s29 _ _ v1
    have v2 := s29 _ _ v2
    have v3 := s29 _ _ v3
    have v4 := s29 _ _ v4
    have v5 := s29 _ _ v5
    have v6 := s29 _ _ v6
    have v7 := s29 _ _ v7
    have v8 := s29 _ _ v8
    have v9 := s29 _ _ v9
    have v10 := s29 _ _ v10
    have v11 := s29 _ _ v11
    have v12 := s29 _ _ v12
    have v13 := s29 _ _ v13
    have v14 := s29 _ _ v14
    have v15 := s29 _ _ v15
    have v16 := s29 _ _ v16
    have v17 := s29 _ _ v17
    have v18 := s29 _ _ v18
    have v19 := s29 _ _ v19
    have v20 := s29 _ _ v20
    have v21 := s29 _ _ v21
    have v22 := s29 _ _ v22
    have v23 := s29 _ _ v23
    have v24 := s29 _ _ v24
    have v25 := s29 _ _ v25
    have v26 := s29 _ _ v26
    have v27 := s29 _ _ v27
    have v28 := s29 _ _ v28
    have v29 : upd H_28 p29 (.lst [V.ref p21, V.ref p22, V.ref p23, V.ref p24, V.ref p25, V.ref p26, V.ref p28, V.int (10 ^ (39 : Int).toNat)]) p29 = some (.lst [V.ref p21, V.ref p22, V.ref p23, V.ref p24, V.ref p25, V.ref p26, V.ref p28, V.int (10 ^ (39 : Int).toNat)]) := upd_same
    have f29 := same_trans f28 s29
    clear s29
    generalize upd H_28 p29 (.lst [V.ref p21, V.ref p22, V.ref p23, V.ref p24, V.ref p25, V.ref p26, V.ref p28, V.int (10 ^ (39 : Int).toNat)]) = H_29 at f29 vb v1 v2 v3 v4 v5 v6 v7 v8 v9 v10 v11 v12 v13 v14 v15 v16 v17 v18 v19 v20 v21 v22 v23 v24 v25 v26 v27 v28 v29 ⊢
    refine ⟨p19, p29, _, _, rfl, rfl, v19, v29, by show 19 + 8 ≤ sizeLine; decide, fun p30 hp30 => ?_⟩
    have s30 := same_new (o := .lst (([V.non, V.int 5, V.bl true, V.str "", V.str x0, V.ref p1, V.ref p2, V.ref p4, V.ref p5, V.ref p6, V.ref p7, V.ref p8] ++ [V.ref p10, V.ref p11, V.ref p12, V.ref p13, V.ref p14, V.ref p16, V.ref p17]) ++ [V.ref p21, V.ref p22, V.ref p23, V.ref p24, V.ref p25, V.ref p26, V.ref p28, V.int (10 ^ (39 : Int).toNat)])) hp30
    have n30 := fresh f29 hp30
    have z30 := f29.free hp30
    have vb := s30 _ _ vb
    have v1 := s30 _ _ v1
    have v2 := s30 _ _ v2
    have v3 := s30 _ _ v3
    have v4 := s30 _ _ v4
    have v5 := s30 _ _ v5
    have v6 := s30 _ _ v6
    have v7 := s30 _ _ v7
    have v8 := s30 _ _ v8
    have v9 := s30 _ _ v9
    have v10 := s30 _ _ v10
    have v11 := s30 _ _ v11
    have v12 := s30 _ _ v12
    have v13 := s30 _ _ v13
    have v14 := s30 _ _ v14
    have v15 := s30 _ _ v15
    have v16 := s30 _ _ v16
    have v17 := s30 _ _ v17
    have v18 := s30 _ _ v18
    have v19 := s30 _ _ v19
    have v20 := s30 _ _ v20
    have v21 := s30 _ _ v21
    have v22 := s30 _ _ v22
    have v23 := s30 _ _ v23
    have v24 := s30 _ _ v24
    have v25 := s30 _ _ v25
    have v26 := s30 _ _ v26
    have v27 := s30 _ _ v27
    have v28 := s30 _ _ v28
    have v29 := s30 _ _ v29
    have v30 : upd H_29 p30 (.lst (([V.non, V.int 5, V.bl true, V.str "", V.str x0, V.ref p1, V.ref p2, V.ref p4, V.ref p5, V.ref p6, V.ref p7, V.ref p8] ++ [V.ref p10, V.ref p11, V.ref p12, V.ref p13, V.ref p14, V.ref p16, V.ref p17]) ++ [V.ref p21, V.ref p22, V.ref p23, V.ref p24, V.ref p25, V.ref p26, V.ref p28, V.int (10 ^ (39 : Int).toNat)])) p30 = some (.lst (([V.non, V.int 5, V.bl true, V.str "", V.str x0, V.ref p1, V.ref p2, V.ref p4, V.ref p5, V.ref p6, V.ref p7, V.ref p8] ++ [V.ref p10, V.ref p11, V.ref p12, V.ref p13, V.ref p14, V.ref p16, V.ref p17]) ++ [V.ref p21, V.ref p22, V.ref p23, V.ref p24, V.ref p25, V.ref p26, V.ref p28, V.int (10 ^ (39 : Int).toNat)])) := upd_same
    have f30 := same_trans f29 s30
    clear s30
    generalize upd H_29 p30 (.lst (([V.non, V.int 5, V.bl true, V.str "", V.str x0, V.ref p1, V.ref p2, V.ref p4, V.ref p5, V.ref p6, V.ref p7, V.ref p8] ++ [V.ref p10, V.ref p11, V.ref p12, V.ref p13, V.ref p14, V.ref p16, V.ref p17]) ++ [V.ref p21, V.ref p22, V.ref p23, V.ref p24, V.ref p25, V.ref p26, V.ref p28, V.int (10 ^ (39 : Int).toNat)])) = H_30 at f30 vb v1 v2 v3 v4 v5 v6 v7 v8 v9 v10 v11 v12 v13 v14 v15 v16 v17 v18 v19 v20 v21 v22 v23 v24 v25 v26 v27 v28 v29 v30 ⊢
    have D8 := D0.same f30
    refine ⟨_, rfl, _, rfl, d, l, p30, _, n, rfl, D8, v30, n30.2, by show 0 < 27; decide, by show 27 < 1000000; decide, by omega, fun wv HH hw D9 o9 => ?_⟩
    refine q wv HH (D9.up (by omega)) ((Off.of f30).trans o9) fun HG K2 => ?_
    have fin : GoodD K HG wv → GoodD K HG wv := fun z => z
    simp only [List.cons_append, List.nil_append, List.mem_cons, List.not_mem_nil, or_false] at hw
    rcases hw with rfl | rfl | rfl | rfl | rfl | rfl | rfl | rfl | rfl | rfl | rfl | rfl | rfl | rfl | rfl | rfl | rfl | rfl | rfl | rfl | rfl | rfl | rfl | rfl | rfl | rfl | rfl
    · exact fin goodD_non
    · exact fin (goodD_int (by decide +kernel))
    · exact fin (goodD_bl _)
    · exact fin (goodD_str ⟨by decide +kernel, by decide +kernel⟩)
    · exact fin (goodD_str (tx_name ok0))
    · exact fin (goodD_lst (K2.1 _ _ z1 (o9 _ _ v1 n1.1 n1.2)) okx (by omega))
    · exact fin (goodD_txs (L := []) (K2.2 _ _ (tup_off v2 D8 o9)) (lits_ok (L := []) (by decide +kernel)) (by decide))
    · exact fin (goodD_txs (K2.2 _ _ (tup_off v4 D8 o9)) (fun x hx => (List.mem_append.mp hx).elim (okx x) fun z => okx x (su1 x z)) (by rw [List.length_append]; omega))
    · have z := K2.2 _ _ (tup_off v5 D8 o9)
      rw [← List.map_reverse] at z
      exact fin (goodD_txs z (fun x hx => okx x (List.mem_reverse.mp hx)) (by rw [List.length_reverse]; omega))
    · exact fin (goodD_txs (L := ["A"]) (K2.2 _ _ (tup_off v6 D8 o9)) (lits_ok (L := ["A"]) (by decide +kernel)) (by decide))
    · exact fin (goodD_txs (L := [""]) (K2.2 _ _ (tup_off v7 D8 o9)) (lits_ok (L := [""]) (by decide +kernel)) (by decide))
    · exact fin (goodD_d0 (K2.1 _ _ z8 (o9 _ _ v8 n8.1 n8.2)))
    · exact fin (goodD_txs (L := ["a", "b", "c", "d"]) (K2.2 _ _ (tup_off v10 D8 o9)) (lits_ok (L := ["a", "b", "c", "d"]) (by decide +kernel)) (by decide))
    · exact fin (goodD_txs (L := ["abcdefghi"]) (K2.2 _ _ (tup_off v11 D8 o9)) (lits_ok (L := ["abcdefghi"]) (by decide +kernel)) (by decide))
    · exact fin (goodD_txs (L := ["b", "a"]) (K2.2 _ _ (tup_off v12 D8 o9)) (lits_ok (L := ["b", "a"]) (by decide +kernel)) (by decide))
    · exact fin (goodD_tup (K2.2 _ _ (tup_off v13 D8 o9)) (.cons (.str _) (.cons (.int _) .nil)) (by decide +kernel) (by decide) (Shws.cons (shw_tx ⟨by decide +kernel, by decide +kernel⟩) (Shws.cons (shw_int (by decide +kernel)) (Shws.nil (n := 0) (c := 0)))) (by omega) (by omega))
    · exact fin (goodD_tup (K2.2 _ _ (tup_off v14 D8 o9)) (.cons (.str _) (.cons .non .nil)) (by decide +kernel) (by decide) (Shws.cons (shw_tx ⟨by decide +kernel, by decide +kernel⟩) (Shws.cons shw_non (Shws.nil (n := 0) (c := 0)))) (by omega) (by omega))
    · exact fin (goodD_tup (K2.2 _ _ (tup_off v16 D8 o9)) (.cons (.tup (SqT.of (K2.2 _ _ (tup_off v15 D8 o9)))) .nil) (by decide +kernel) (by show 1 ≤ 60; decide) (Shws.cons (Shws.tup (K2.2 _ _ (tup_off v15 D8 o9)) (shws_txs (g := ["a"]) (lits_ok (L := ["a"]) (by decide +kernel)))) (Shws.nil (c := 0))) (by omega) (by decide))
    · exact fin (goodD_txs (L := ["a1"]) (K2.2 _ _ (tup_off v17 D8 o9)) (lits_ok (L := ["a1"]) (by decide +kernel)) (by decide))
    · exact fin (goodD_tup (K2.2 _ _ (tup_off v21 D8 o9)) (.cons (.lst (SqL.of (K2.1 _ _ z20 (o9 _ _ v20 n20.1 n20.2)))) .nil) (by decide +kernel) (by show 1 ≤ 60; decide) (Shws.cons (Shws.lst (K2.1 _ _ z20 (o9 _ _ v20 n20.1 n20.2)) (shws_txs (g := ["a"]) (lits_ok (L := ["a"]) (by decide +kernel)))) (Shws.nil (c := 0))) (by omega) (by decide))
    · exact fin (goodD_txs (L := ["a", "a"]) (K2.2 _ _ (tup_off v22 D8 o9)) (lits_ok (L := ["a", "a"]) (by decide +kernel)) (by decide))
    · exact fin (goodD_txs (L := ["a b"]) (K2.2 _ _ (tup_off v23 D8 o9)) (lits_ok (L := ["a b"]) (by decide +kernel)) (by decide))
    · exact fin (goodD_tup (K2.2 _ _ (tup_off v24 D8 o9)) (.cons (.bl _) .nil) (by decide +kernel) (by decide) (Shws.cons (shw_bl _) (Shws.nil (n := 0) (c := 0))) (by omega) (by omega))
    · exact fin (goodD_txs (L := ["a\n"]) (K2.2 _ _ (tup_off v25 D8 o9)) (lits_ok (L := ["a\n"]) (by decide +kernel)) (by decide))
    · exact fin (goodD_d1 (K2.1 _ _ z26 (o9 _ _ v26 n26.1 n26.2)) ⟨by decide +kernel, by decide +kernel⟩ (by decide +kernel))
    · exact fin (goodD_txs (L := xs ++ [("zzzzzzzzz" : Str)]) (by rw [List.map_append]; exact K2.2 _ _ (tup_off v28 D8 o9)) (fun x hx => (List.mem_append.mp hx).elim (okx x) fun z => (lits_ok (L := ["zzzzzzzzz"]) (by decide +kernel)) x z) (by rw [List.length_append]; show _ + 1 ≤ 60; omega))
    · exact fin (goodD_int (by decide +kernel))
end
end K01
/-! _law_odd_row. -/
namespace K01
open PySem PySem.Spec PyProof.Rows L2 KG KS KA KX KIa KCt
abbrev s__law_odd_row : Stmt := top 34
abbrev NOr : List Str := ["_law_deck_here", "_law_base", "_law_row_here", "_law_way", "_law_at", "_law_odd", "_law_some"]
theorem sIx_at {n d : Nat} {v : Int} (h : 0 ≤ v) : HT.sIx n d (some v) = min v.toNat n := by
  show (if v < 0 then (v + (n : Int)).toNat else min v.toNat n) = _
  rw [if_neg (by omega)]
theorem cut_texts2 {g : List Str} {lo hi : Option Int} : ∃ g' : List Str, cutV (g.map V.str) lo hi = g'.map V.str ∧ (∀ x ∈ g', x ∈ g) ∧ g'.length ≤ HT.sIx g.length g.length hi - HT.sIx g.length 0 lo := by
  unfold cutV
  refine ⟨(g.drop (HT.sIx (g.map V.str).length 0 lo)).take (HT.sIx (g.map V.str).length (g.map V.str).length hi - HT.sIx (g.map V.str).length 0 lo), by rw [List.map_take, List.map_drop], fun x hx => List.mem_of_mem_drop (List.mem_of_mem_take hx), ?_⟩
  rw [List.length_take, List.length_map]
  omega
theorem sum_le : ∀ {g : List Str}, (∀ x ∈ g, x.length ≤ 12) → (g.map (·.length)).sum ≤ 12 * g.length
  | [], _ => Nat.le_refl _
  | x :: g, h => by
    have ih := sum_le (g := g) fun y hy => h y (List.mem_cons_of_mem _ hy)
    have hx := h x List.mem_cons_self
    rw [List.map_cons, List.sum_cons, List.length_cons]
    omega
theorem joinL_nil : ∀ ps : List (List Nat), TL.joinL [] ps = ps.flatten
  | [] => rfl
  | [p] => by
    show p = p ++ []
    rw [List.append_nil]
  | p :: q :: r => by
    have ih := joinL_nil (q :: r)
    show p ++ ([] ++ TL.joinL [] (q :: r)) = p ++ (q :: r).flatten
    rw [List.nil_append, ih]
theorem join_flat (g : List Str) : (Txt.join ("" : Str) g).cps.toList = (g.map fun x => x.cps.toList).flatten := by
  have e : TL.tl ("" : Str) = [] := by decide +kernel
  have z := TL.tl_join ("" : Str) g
  rw [e, joinL_nil] at z
  rw [TL.join_eq]
  exact z
theorem join_len (g : List Str) : (Txt.join ("" : Str) g).length = (g.map (·.length)).sum := by
  show (Txt.join ("" : Str) g).cps.size = _
  rw [← Array.length_toList, join_flat, List.length_flatten, List.map_map]
  congr 1
theorem join_codes (g : List Str) (c : Nat) (h : c ∈ (Txt.join ("" : Str) g).cps.toList) : ∃ x ∈ g, c ∈ x.cps.toList := by
  rw [join_flat, List.mem_flatten] at h
  obtain ⟨l, hl, hc⟩ := h
  obtain ⟨x, hx, rfl⟩ := List.mem_map.mp hl
  exact ⟨x, hx, hc⟩
theorem shw_long {H : Hp} {x : Str} (h1 : x.length ≤ 1100) (h2 : ∀ c ∈ x.cps.toList, c < 16 ^ 8) : Shw H (.str x) (.str x) 0 12000 := ⟨.str x, by simp only [PyData.showable], by simp only [PyData.depth]; omega, by simp only [cost]; have := PySem.StrLaws.reprText_len x h2; omega⟩
theorem goodR_tup {K : PySem.W.Frag} {H : Hp} {a : Addr} {vs : List V} {os : List (Option Str)} {ds : List PyData} {n c : Nat} (h : H a = some (.tup vs)) (i : W.EachIs (ItK K H) vs os) (l : vs.length ≤ 200) (s : Shws H vs ds n c) (h1 : n ≤ 2) (h2 : c ≤ 15000) : GoodR K H (.ref a) := ⟨_, _, .tup h i l, shw3 (Shws.tup h s) (by omega) (by omega)⟩
def spOddR (K : PySem.W.Frag) : Sp := fun vs H Q _ => ∃ (d l b r : Addr) (n : Nat) (xs rs : List Str), vs = [.ref d, .ref b, .ref r] ∧ DeckAt H d l n ∧ n + 20 < 1000000000 ∧ H b = some (.tup (xs.map V.str)) ∧ H r = some (.tup (rs.map V.str)) ∧ (∀ x ∈ xs, nameOk x = true) ∧ (∀ x ∈ rs, x ∈ xs) ∧ 1 ≤ xs.length ∧ xs.length ≤ 3 ∧ 1 ≤ rs.length ∧ rs.length ≤ 7 ∧
  ∀ (v : V) (H' : Hp), DeckAt H' d l (n + 10) → Off d l H H' → (∀ H'', KeptB H H' H'' → GoodR K H'' v) → Q v H'
section
variable {P : Program} {w : World} {K : PySem.W.Frag} {mg : Str → Option Value} {base : Heap}
theorem sc__law_odd_row : FnScope NOr ["_law_deck_here", "_law_base", "_law_row_here"] (defScope s__law_odd_row) := ⟨rfl, rfl, rfl, by decide +kernel, rfl, by decide +kernel, by decide +kernel⟩
theorem ok__law_odd_row (B : Bs mg) (f : FnF K mg "_law_odd_row" "_law_odd_row" s__law_odd_row) (fd : FnF K mg "_law_draw" "_law_draw" s__law_draw) (fp : FnF K mg "_law_pick" "_law_pick" s__law_pick) : FnOk P w K mg base CX0 3 f.a f.d ["_law_deck_here", "_law_base", "_law_row_here"] (spOddR K) := by
  have GD := ok__law_draw (P := P) (w := w) (base := base) B.toBi fd
  have bD : L2.Binds K fd.d ["_law_deck_here", "_law_many"] [] := fd.F.binds fun _ _ _ _ _ _ us hl => match us, hl with | [_, _], _ => rfl
  have GP := ok__law_pick (P := P) (w := w) (base := base) B.toBi fp fd
  have bP : L2.Binds K fp.d ["_law_deck_here", "_law_options"] [] := fp.F.binds fun _ _ _ _ _ _ us hl => match us, hl with | [_, _], _ => rfl
  refine f.F.ok sc__law_odd_row (fun vs H Q E h => ?_) (fun cdv A outer s H vs Q E hr h => ?_)
  · obtain ⟨d, l, b, r, n, xs, rs, rfl, _⟩ := h
    rfl
  · obtain ⟨d, l, b, r, n, xs, rs, rfl, D, hn, hb, hrr, ok, sub, l1, l3, m1, m81, q⟩ := h
    have hu64 := hr.units
    have hr1 : Room 1 _ := hr.mono (by omega)
    refine ⟨_, (pss_cons
      (ps_par (i := 3) (j := 4) (by rfl) sc__law_odd_row.nd rfl rfl (by decide) rfl rfl (pa_cons (pe_call GD hr1 rfl fd.g fd.F.kp bD .nil pass0 (pa_cons (pv 0) (pa_cons pe_int pa_nil))) (pa_cons (pe_call GD hr1 rfl fd.g fd.F.kp bD .nil pass0 (pa_cons (pv 0) (pa_cons (pe_callB call_len (by rfl) B.n_len (by decide +kernel) (pa_cons (pv 2) pa_nil)) pa_nil))) pa_nil)) (by rfl))
    (pss_cons
      (ps_if (pt_cmpR op_lt (pv 3) pe_int (nomark _))
        (pss_cons
          (ps_set (i := 5) sc__law_odd_row.nd rfl (Or.inl rfl) (pe_lst (pa_cons pe_non (pa_cons pe_int (pa_cons pe_bl (pa_cons pe_str (pa_cons pe_str (pa_cons pe_str (pa_cons (pv 1) (pa_cons (pe_callTy call_list_of (by rfl) B.n_list (by decide +kernel) (pa_cons (pv 1) pa_nil)) (pa_cons pe_dnewK (pa_cons (pe_op op_add_str (pe_ix (show IxR _ (rIxT K) from ix_tup) (pv 1) pe_int (fun _ _ => rfl)) pe_str) (pa_cons (pe_tup (pa_cons (pe_ix (show IxR _ (rIxT K) from ix_tup) (pv 1) pe_int (fun _ _ => rfl)) pa_nil)) pa_nil)))))))))))))
        (pss_one
          (ps_ret (pe_op op_catA (pe_op op_catA (pe_slice sl_tupA (pv 2) po_none (po_some (pv 4))) (pe_tup (pa_cons (pe_call GP hr rfl fp.g fp.F.kp bP .nil pass0 (pa_cons (pv 0) (pa_cons (pe_op op_cat (pv 5) (pe_op op_rep (pe_callTy call_list_of (by rfl) B.n_list (by decide +kernel) (pa_cons (pv 1) pa_nil)) pe_int)) pa_nil))) pa_nil))) (pe_slice sl_tupA (pv 2) (po_some (pe_op op_add (pv 4) pe_int)) po_none)))))
        pss_nil)
    (pss_cons
      (ps_set (i := 6) sc__law_odd_row.nd rfl (Or.inl rfl) (pe_lst (pa_cons (pe_op op_catA (pe_slice sl_tupA (pv 2) po_none (po_some (pv 4))) (pe_slice sl_tupA (pv 2) (po_some (pe_op op_add (pv 4) pe_int)) po_none)) (pa_cons (pe_op op_catA (pe_op op_catA (pe_slice sl_tupA (pv 2) po_none (po_some (pv 4))) (pe_slice sl_tupA (pv 2) (po_some (pv 4)) (po_some (pe_op op_add (pv 4) pe_int)))) (pe_slice sl_tupA (pv 2) (po_some (pv 4)) po_none)) (pa_cons (KTv.pe_revT (pv 2)) (pa_cons (pe_callTy call_list_of (by rfl) B.n_list (by decide +kernel) (pa_cons (pv 2) pa_nil)) (pa_cons (pe_op op_catA (pv 2) (pe_slice sl_tupA (pv 1) po_none (po_some pe_int))) pa_nil)))))))
    (pss_one
      (ps_ret (pe_call GP hr rfl fp.g fp.F.kp bP .nil pass0 (pa_cons (pv 0) (pa_cons (pe_op op_cat (pv 6) (pe_lst (pa_cons (pe_tup pa_nil) (pa_cons pe_non (pa_cons (pe_join pe_str (pv 2)) (pa_cons pe_dnewK (pa_cons (pe_tup (pa_cons (pv 2) pa_nil)) (pa_cons pe_int (pa_cons (pv 1) (pa_cons (pe_op op_repT (pv 1) pe_int) (pa_cons (pe_op op_catA (pe_slice sl_tupA (pv 2) (po_some pe_int) po_none) (pe_slice sl_tupA (pv 2) po_none (po_some pe_int))) pa_nil))))))))))) pa_nil)))))))), ?_⟩
    refine ⟨_, rfl, d, l, 9, n, rfl, D, by decide, by decide, by omega, fun wy H6 w0 w1 D6 o6 => ?_⟩
    have hb6 := tup_off hb D o6
    have hr6 := tup_off hrr D o6
    refine ⟨_, rfl, _, rfl, .ref r, rs.length, rfl, .inr ⟨_, SqT.of hr6, by rw [List.length_map]⟩, d, l, ((rs.length : Nat) : Int), n + 1, rfl, D6, by omega, by omega, by omega, fun at_ H7 a0 a1 D7 o7 => ⟨_, _, rfl, ?_⟩⟩
    have vb := tup_off hb6 D6 o7
    have vr := tup_off hr6 D6 o7
    have o07 := o6.trans o7
    have okx : ∀ x ∈ xs, TxOk x := fun x hx => tx_name (ok x hx)
    have okr : ∀ x ∈ rs, TxOk x := fun x hx => okx x (sub x hx)
    obtain ⟨x0, xr, exs⟩ := List.exists_cons_of_ne_nil (show xs ≠ [] from fun z => by rw [z] at l1; exact absurd l1 (by decide))
    have ok0 := ok x0 (by rw [exs]; exact List.mem_cons_self)
    have at0 : atI (xs.map V.str) 0 = some (V.str x0) := by
      rw [exs]
      exact at_of (j := 0) rfl rfl
    clear hb6 hr6 o6 o7
    have f0 : Same H7 H7 := fun _ _ e => e
    have fresh : ∀ {H8 : Hp} {p : Addr}, Same H7 H8 → H8 p = none → p ≠ d ∧ p ≠ l := fun {H8 p} e n => by
      obtain ⟨cs, mm, nn, h1, h2, _⟩ := D7.ex
      exact ⟨fun z => (by rw [z, e _ _ h1] at n; cases n), fun z => (by rw [z, e _ _ h2] at n; cases n)⟩
    obtain ⟨u1, eu1, su1, lu1⟩ := cut_texts2 (g := rs) (lo := none) (hi := some at_)
    obtain ⟨u2, eu2, su2, lu2⟩ := cut_texts2 (g := rs) (lo := some (at_ + 1)) (hi := none)
    obtain ⟨u3, eu3, su3, lu3⟩ := cut_texts2 (g := rs) (lo := some at_) (hi := some (at_ + 1))
    obtain ⟨u4, eu4, su4, lu4⟩ := cut_texts2 (g := rs) (lo := some at_) (hi := none)
    obtain ⟨u5, eu5, su5, lu5⟩ := cut_texts (g := xs) (lo := none) (hi := some 1)
    obtain ⟨u6, eu6, su6, lu6⟩ := cut_texts (g := rs) (lo := some 1) (hi := none)
    obtain ⟨u7, eu7, su7, lu7⟩ := cut_texts (g := rs) (lo := none) (hi := some 1)
    rw [sIx_at a0, HT.sIx_none] at lu1
    rw [sIx_at (show 0 ≤ at_ + 1 by omega), HT.sIx_none] at lu2
    rw [sIx_at a0, sIx_at (show 0 ≤ at_ + 1 by omega)] at lu3
    rw [sIx_at a0, HT.sIx_none] at lu4
    have lu12 : u1.length + u2.length ≤ rs.length := by omega
    have lu134 : u1.length + u3.length + u4.length ≤ rs.length + 1 := by omega
    have lu1 : u1.length ≤ rs.length := by omega
    have lu3 : u3.length ≤ rs.length := by omega
    have lu2 : u2.length ≤ rs.length := by omega
    have lu4 : u4.length ≤ rs.length := by omega
    refine ⟨_, rfl, _, _, rfl, rfl, _, rfl, ite2 (fun _ => ?_) fun _ => ?_⟩
    · refine ⟨_, rfl, _, rfl, b, _, rfl, .inr (SqT.of vb), fun p1 hp1 => ?_⟩
      have s1 := same_new (o := .lst (xs.map V.str)) hp1
      have n1 := fresh f0 hp1
      have z1 := off_free o07 (f0.free hp1) n1.1 n1.2
      have vb := s1 _ _ vb
      have vr := s1 _ _ vr
      have v1 : upd H7 p1 (.lst (xs.map V.str)) p1 = some (.lst (xs.map V.str)) := upd_same
      have f1 := same_trans f0 s1
      clear s1
      generalize upd H7 p1 (.lst (xs.map V.str)) = H_1 at f1 vb vr v1 ⊢
      intro p2 hp2
      have s2 := same_new (o := .dK []) hp2
      have n2 := fresh f1 hp2
      have z2 := off_free o07 (f1.free hp2) n2.1 n2.2
      have vb := s2 _ _ vb
      have vr := s2 _ _ vr
      have v1 := s2 _ _ v1
      have v2 : upd H_1 p2 (.dK []) p2 = some (.dK []) := upd_same
      have f2 := same_trans f1 s2
      clear s2
      generalize upd H_1 p2 (.dK []) = H_2 at f2 vb vr v1 v2 ⊢
      have lx0 : x0.length ≤ 12 := (tx_name ok0).1
      have lx1 : ("x" : Str).length = 1 := by decide +kernel
      have lx2 : x0.length + ("x" : Str).length ≤ sizeLine := by
        rw [sizeLine_eq]
        omega
      refine ⟨_, rfl, b, _, 0, _, rfl, rfl, SqT.of vb, at0, _, _, rfl, rfl, lx2, _, rfl, b, _, 0, _, rfl, rfl, SqT.of vb, at0, by show 1 ≤ sizeLine; decide, fun p3 hp3 => ?_⟩
      have s3 := same_new (o := .tup [V.str x0]) hp3
      have n3 := fresh f2 hp3
      have z3 := off_free o07 (f2.free hp3) n3.1 n3.2
      have vb := s3 _ _ vb
      have vr := s3 _ _ vr
      have v1 := s3 _ _ v1
      have v2 := s3 _ _ v2
      have v3 : upd H_2 p3 (.tup [V.str x0]) p3 = some (.tup [V.str x0]) := upd_same
      have f3 := same_trans f2 s3
      clear s3
      generalize upd H_2 p3 (.tup [V.str x0]) = H_3 at f3 vb vr v1 v2 v3 ⊢
      refine ⟨by show 11 ≤ sizeLine; decide, fun p4 hp4 => ?_⟩
      have s4 := same_new (o := .lst [V.non, V.int 0, V.bl true, V.str "", V.str "A", V.str "zzzzzzzzz", V.ref b, V.ref p1, V.ref p2, V.str (x0 ++ "x"), V.ref p3]) hp4
      have n4 := fresh f3 hp4
      have z4 := off_free o07 (f3.free hp4) n4.1 n4.2
      have vb := s4 _ _ vb
      have vr := s4 _ _ vr
      have v1 := s4 _ _ v1
      have v2 := s4 _ _ v2
      have v3 := s4 _ _ v3
      have v4 : upd H_3 p4 (.lst [V.non, V.int 0, V.bl true, V.str "", V.str "A", V.str "zzzzzzzzz", V.ref b, V.ref p1, V.ref p2, V.str (x0 ++ "x"), V.ref p3]) p4 = some (.lst [V.non, V.int 0, V.bl true, V.str "", V.str "A", V.str "zzzzzzzzz", V.ref b, V.ref p1, V.ref p2, V.str (x0 ++ "x"), V.ref p3]) := upd_same
      have f4 := same_trans f3 s4
      clear s4
      generalize upd H_3 p4 (.lst [V.non, V.int 0, V.bl true, V.str "", V.str "A", V.str "zzzzzzzzz", V.ref b, V.ref p1, V.ref p2, V.str (x0 ++ "x"), V.ref p3]) = H_4 at f4 vb vr v1 v2 v3 v4 ⊢
      refine ⟨_, rfl, _, rfl, at_, rfl, slH_to vr fun p5 H_5 s5 v5 => ?_⟩
      have vb := s5 _ _ vb
      have vr := s5 _ _ vr
      have v1 := s5 _ _ v1
      have v2 := s5 _ _ v2
      have v3 := s5 _ _ v3
      have v4 := s5 _ _ v4
      have f5 := same_trans f4 s5
      clear s5
      rw [eu1] at v5
      refine ⟨_, rfl, _, rfl, _, rfl, b, _, rfl, .inr (SqT.of vb), fun p6 hp6 => ?_⟩
      have s6 := same_new (o := .lst (xs.map V.str)) hp6
      have n6 := fresh f5 hp6
      have z6 := off_free o07 (f5.free hp6) n6.1 n6.2
      have vb := s6 _ _ vb
      have vr := s6 _ _ vr
      have v1 := s6 _ _ v1
      have v2 := s6 _ _ v2
      have v3 := s6 _ _ v3
      have v4 := s6 _ _ v4
      have v5 := s6 _ _ v5
      have v6 : upd H_5 p6 (.lst (xs.map V.str)) p6 = some (.lst (xs.map V.str)) := upd_same
      have f6 := same_trans f5 s6
      clear s6
      generalize upd H_5 p6 (.lst (xs.map V.str)) = H_6 at f6 vb vr v1 v2 v3 v4 v5 v6 ⊢
      refine ⟨p6, 6, xs.map V.str, rfl, rfl, v6, by decide, by decide, by rw [List.length_map, sizeLine_eq]; show xs.length * 6 ≤ _; omega, fun p7 hp7 => ?_⟩
      have s7 := same_new (o := .lst (List.replicate (6 : Int).toNat (xs.map V.str)).flatten) hp7
      have n7 := fresh f6 hp7
      have z7 := off_free o07 (f6.free hp7) n7.1 n7.2
      have vb := s7 _ _ vb
      have vr := s7 _ _ vr
      have v1 := s7 _ _ v1
      have v2 := s7 _ _ v2
      have v3 := s7 _ _ v3
      have v4 := s7 _ _ v4
      have v5 := s7 _ _ v5
      have v6 := s7 _ _ v6
      have v7 : upd H_6 p7 (.lst (List.replicate (6 : Int).toNat (xs.map V.str)).flatten) p7 = some (.lst (List.replicate (6 : Int).toNat (xs.map V.str)).flatten) := upd_same
      have f7 := same_trans f6 s7
      clear s7
      generalize upd H_6 p7 (.lst (List.replicate (6 : Int).toNat (xs.map V.str)).flatten) = H_7 at f7 vb vr v1 v2 v3 v4 v5 v6 v7 ⊢
      have lrep : (List.replicate (6 : Int).toNat (xs.map V.str)).flatten.length ≤ 18 := by
        show (List.replicate 6 (xs.map V.str)).flatten.length ≤ 18
        rw [List.length_flatten, List.map_replicate, List.sum_replicate_nat, List.length_map]
        omega
      refine ⟨p4, p7, _, _, rfl, rfl, v4, v7, by rw [sizeLine_eq]; show 11 + _ ≤ _; omega, fun p8 hp8 => ?_⟩
      have s8 := same_new (o := .lst ([V.non, V.int 0, V.bl true, V.str "", V.str "A", V.str "zzzzzzzzz", V.ref b, V.ref p1, V.ref p2, V.str (x0 ++ "x"), V.ref p3] ++ (List.replicate (6 : Int).toNat (xs.map V.str)).flatten)) hp8
      have n8 := fresh f7 hp8
      have z8 := off_free o07 (f7.free hp8) n8.1 n8.2
      have vb := s8 _ _ vb
      have vr := s8 _ _ vr
      have v1 := s8 _ _ v1
      have v2 := s8 _ _ v2
      have v3 := s8 _ _ v3
      have v4 := s8 _ _ v4
      have v5 := s8 _ _ v5
      have v6 := s8 _ _ v6
      have v7 := s8 _ _ v7
      have v8 : upd H_7 p8 (.lst ([V.non, V.int 0, V.bl true, V.str "", V.str "A", V.str "zzzzzzzzz", V.ref b, V.ref p1, V.ref p2, V.str (x0 ++ "x"), V.ref p3] ++ (List.replicate (6 : Int).toNat (xs.map V.str)).flatten)) p8 = some (.lst ([V.non, V.int 0, V.bl true, V.str "", V.str "A", V.str "zzzzzzzzz", V.ref b, V.ref p1, V.ref p2, V.str (x0 ++ "x"), V.ref p3] ++ (List.replicate (6 : Int).toNat (xs.map V.str)).flatten)) := upd_same
      have f8 := same_trans f7 s8
      clear s8
      generalize upd H_7 p8 (.lst ([V.non, V.int 0, V.bl true, V.str "", V.str "A", V.str "zzzzzzzzz", V.ref b, V.ref p1, V.ref p2, V.str (x0 ++ "x"), V.ref p3] ++ (List.replicate (6 : Int).toNat (xs.map V.str)).flatten)) = H_8 at f8 vb vr v1 v2 v3 v4 v5 v6 v7 v8 ⊢
      have D8 := D7.same f8
      refine ⟨d, l, p8, _, n + 2, rfl, D8, v8, n8.2, by rw [List.length_append]; show 0 < 11 + _; omega, by rw [List.length_append]; show 11 + _ < 1000000; omega, by omega, fun wv HF hw D9 o9 => ?_⟩
      have hT9 := tup_off vr D8 o9
      have hb9 := tup_off vb D8 o9
      have hs9 := tup_off v5 D8 o9
      have o0F := (o07.trans (Off.of f8)).trans o9
      have it : ∀ HG, KeptB H HF HG → ∃ o D, ItK K HG wv o ∧ Shw HG wv D 1 600 := fun HG K2 => by
        have hb9 := K2.2 _ _ hb9
        have up0 : ∀ {v : V} {D : PyData}, Shw HG v D 0 130 → Shw HG v D 1 600 := fun z => z.up (fun _ _ e => e) (by omega) (by omega)
        rcases List.mem_append.mp hw with hw | hw
        · simp only [List.mem_cons, List.not_mem_nil, or_false] at hw
          rcases hw with rfl | rfl | rfl | rfl | rfl | rfl | rfl | rfl | rfl | rfl | rfl
          · exact ⟨_, _, .non, up0 shw_non⟩
          · exact ⟨_, _, .int _, up0 (shw_int (by decide +kernel))⟩
          · exact ⟨_, _, .bl _, up0 (shw_bl _)⟩
          · exact ⟨_, _, .str _, up0 (shw_tx ⟨by decide +kernel, by decide +kernel⟩)⟩
          · exact ⟨_, _, .str _, up0 (shw_tx ⟨by decide +kernel, by decide +kernel⟩)⟩
          · exact ⟨_, _, .str _, up0 (shw_tx ⟨by decide +kernel, by decide +kernel⟩)⟩
          · exact ⟨_, _, .tup (SqT.of hb9), (Shws.tup hb9 (shws_txs okx)).up (fun _ _ e => e) (by omega) (by omega)⟩
          · exact ⟨_, _, .lst (SqL.of (K2.1 _ _ z1 (o9 _ _ v1 n1.1 n1.2))), (Shws.lst (K2.1 _ _ z1 (o9 _ _ v1 n1.1 n1.2)) (shws_txs okx)).up (fun _ _ e => e) (by omega) (by omega)⟩
          · exact ⟨_, _, .dct (K2.1 _ _ z2 (o9 _ _ v2 n2.1 n2.2)), (shw_d0 (K2.1 _ _ z2 (o9 _ _ v2 n2.1 n2.2))).up (fun _ _ e => e) (by omega) (by omega)⟩
          · exact ⟨_, _, .str _, up0 (shw_tx (tx_app ok0 (by decide +kernel) (by decide +kernel)))⟩
          · have z := K2.2 _ _ (tup_off v3 D8 o9)
            exact ⟨_, _, .tup (SqT.of z), (Shws.tup z (shws_txs (g := [x0]) fun x hx => by rw [List.mem_singleton.mp hx]; exact tx_name ok0)).up (fun _ _ e => e) (by omega) (by rw [List.length_singleton]; omega)⟩
        · obtain ⟨l6, h6, hw⟩ := List.mem_flatten.mp hw
          rw [List.eq_of_mem_replicate h6] at hw
          obtain ⟨x, hx, rfl⟩ := List.mem_map.mp hw
          exact ⟨_, _, .str _, up0 (shw_tx (okx x hx))⟩
      clear hw
      refine ⟨by show 1 ≤ sizeLine; decide, fun p5 hp5 => ?_⟩
      have e5 : Same HF (upd HF p5 (.tup [wv])) := same_new hp5
      have h5 : upd HF p5 (.tup [wv]) p5 = some (.tup [wv]) := upd_same
      generalize upd HF p5 (.tup [wv]) = HP at e5 h5 ⊢
      refine catH_to (e5 _ _ hs9) h5 (by rw [List.length_map]; show _ + 1 ≤ 1000; omega) fun c1 HI eI hc1 => ?_
      have e5I := same_trans e5 eI
      refine ⟨_, rfl, _, rfl, _, _, rfl, rfl, _, rfl, ?_⟩
      unfold tNoPart
      refine slH_to (e5I _ _ hT9) fun b2 HJ eJ hb2 => ?_
      rw [eu2] at hb2
      refine catH_to (eJ _ _ hc1) hb2 (by rw [List.length_append, List.length_map, List.length_map]; show _ + 1 + _ ≤ 1000; omega) fun c2 HK eK hc2 => ?_
      have eFK := same_trans e5I (same_trans eJ eK)
      refine q (.ref c2) HK ((D9.same eFK).up (by omega)) (o0F.trans (Off.of eFK)) fun HG K2 => ?_
      obtain ⟨ov, Dw, itw, sw⟩ := it HG ⟨fun a o h1 h2 => K2.1 a o h1 (eFK _ _ h2), fun p ts h => K2.2 p ts (eFK _ _ h)⟩
      have s1 := (shws_txs (H := HG) (g := u1) fun x hx => okr x (su1 x hx)).up (fun _ _ e => e) (show 0 ≤ 1 by omega) (Nat.le_refl _)
      have s2 := (shws_txs (H := HG) (g := u2) fun x hx => okr x (su2 x hx)).up (fun _ _ e => e) (show 0 ≤ 1 by omega) (Nat.le_refl _)
      have s3 := Shws.cons sw (Shws.nil (H := HG) (n := 1) (c := 0))
      exact goodR_tup (K2.2 _ _ hc2) (each_appC (each_appC (its_texts u1) (.cons itw .nil)) (its_texts u2)) (by rw [List.length_append, List.length_append, List.length_map, List.length_map]; show _ + 1 + _ ≤ 200; omega) (Shws.app s2 (Shws.app s3 s1)) (by omega) (by omega)
    · have js := sum_le fun x hx => (okr x hx).1
      have jb : (rs.map (·.length)).sum + rs.length * ("" : Str).length ≤ 16777216 := by
        rw [show ("" : Str).length = 0 by decide +kernel]
        omega
      refine ⟨_, rfl, _, rfl, at_, rfl, slH_to vr fun p1 H_1 s1 v1 => ?_⟩
      have vb := s1 _ _ vb
      have vr := s1 _ _ vr
      have f1 := same_trans f0 s1
      clear s1
      rw [eu1] at v1
      refine ⟨_, rfl, _, rfl, _, _, rfl, rfl, _, rfl, ?_⟩
      unfold tNoPart
      refine slH_to vr fun p2 H_2 s2 v2 => ?_
      have vb := s2 _ _ vb
      have vr := s2 _ _ vr
      have v1 := s2 _ _ v1
      have f2 := same_trans f1 s2
      clear s2
      rw [eu2] at v2
      refine catH_to v1 v2 (by rw [List.length_map, List.length_map]; omega) fun p3 H_3 s3 v3 => ?_
      have vb := s3 _ _ vb
      have vr := s3 _ _ vr
      have v1 := s3 _ _ v1
      have v2 := s3 _ _ v2
      have f3 := same_trans f2 s3
      clear s3
      rw [← List.map_append] at v3
      refine ⟨_, rfl, _, rfl, at_, rfl, slH_to vr fun p4 H_4 s4 v4 => ?_⟩
      have vb := s4 _ _ vb
      have vr := s4 _ _ vr
      have v1 := s4 _ _ v1
      have v2 := s4 _ _ v2
      have v3 := s4 _ _ v3
      have f4 := same_trans f3 s4
      clear s4
      rw [eu1] at v4
      refine ⟨_, rfl, _, rfl, at_, rfl, _, rfl, _, _, rfl, rfl, _, rfl, slH_to vr fun p5 H_5 s5 v5 => ?_⟩
      have vb := s5 _ _ vb
      have vr := s5 _ _ vr
      have v1 := s5 _ _ v1
      have v2 := s5 _ _ v2
      have v3 := s5 _ _ v3
      have v4 := s5 _ _ v4
      have f5 := same_trans f4 s5
      clear s5
      rw [eu3] at v5
      refine catH_to v4 v5 (by rw [List.length_map, List.length_map]; omega) fun p6 H_6 s6 v6 => ?_
      have vb := s6 _ _ vb
      have vr := s6 _ _ vr
      have v1 := s6 _ _ v1
      have v2 := s6 _ _ v2
      have v3 := s6 _ _ v3
      have v4 := s6 _ _ v4
      have v5 := s6 _ _ v5
      have f6 := same_trans f5 s6
      clear s6
      rw [← List.map_append] at v6
      refine ⟨_, rfl, _, rfl, at_, rfl, ?_⟩
      refine slH_to vr fun p7 H_7 s7 v7 => ?_
      have vb := s7 _ _ vb
      have vr := s7 _ _ vr
      have v1 := s7 _ _ v1
      have v2 := s7 _ _ v2
      have v3 := s7 _ _ v3
      have v4 := s7 _ _ v4
      have v5 := s7 _ _ v5
      have v6 := s7 _ _ v6
      have f7 := same_trans f6 s7
      clear s7
      rw [eu4] at v7
      refine catH_to v6 v7 (by rw [List.length_map, List.length_append, List.length_map]; omega) fun p8 H_8 s8 v8 => ?_
      have vb := s8 _ _ vb
      have vr := s8 _ _ vr
      have v1 := s8 _ _ v1
      have v2 := s8 _ _ v2
      have v3 := s8 _ _ v3
      have v4 := s8 _ _ v4
      have v5 := s8 _ _ v5
      have v6 := s8 _ _ v6
      have v7 := s8 _ _ v7
      have f8 := same_trans f7 s8
      clear s8
      rw [← List.map_append] at v8
      refine ⟨_, rfl, r, _, rfl, SqT.of vr, fun p9 hp9 => ?_⟩
      have s9 := same_new (o := .tup (rs.map V.str).reverse) hp9
      have n9 := fresh f8 hp9
      have z9 := off_free o07 (f8.free hp9) n9.1 n9.2
      have vb := s9 _ _ vb
      have vr := s9 _ _ vr
      have v1 := s9 _ _ v1
      have v2 := s9 _ _ v2
      have v3 := s9 _ _ v3
      have v4 := s9 _ _ v4
      have v5 := s9 _ _ v5
      have v6 := s9 _ _ v6
      have v7 := s9 _ _ v7
      have v8 := s9 _ _ v8
      have v9 : upd H_8 p9 (.tup (rs.map V.str).reverse) p9 = some (.tup (rs.map V.str).reverse) := upd_same
      have f9 := same_trans f8 s9
      clear s9
      generalize upd H_8 p9 (.tup (rs.map V.str).reverse) = H_9 at f9 vb vr v1 v2 v3 v4 v5 v6 v7 v8 v9 ⊢
      refine ⟨_, rfl, r, _, rfl, .inr (SqT.of vr), fun p10 hp10 => ?_⟩
      have s10 := same_new (o := .lst (rs.map V.str)) hp10
      have n10 := fresh f9 hp10
      have z10 := off_free o07 (f9.free hp10) n10.1 n10.2
      have vb := s10 _ _ vb
      have vr := s10 _ _ vr
      have v1 := s10 _ _ v1
      have v2 := s10 _ _ v2
      have v3 := s10 _ _ v3
      have v4 := s10 _ _ v4
      have v5 := s10 _ _ v5
      have v6 := s10 _ _ v6
      have v7 := s10 _ _ v7
      have v8 := s10 _ _ v8
      have v9 := s10 _ _ v9
      have v10 : upd H_9 p10 (.lst (rs.map V.str)) p10 = some (.lst (rs.map V.str)) := upd_same
      have f10 := same_trans f9 s10
      clear s10
      generalize upd H_9 p10 (.lst (rs.map V.str)) = H_10 at f10 vb vr v1 v2 v3 v4 v5 v6 v7 v8 v9 v10 ⊢
      refine ⟨_, rfl, _, rfl, 1, rfl, slH_to vb fun p11 H_11 s11 v11 => ?_⟩
      have vb := s11 _ _ vb
      have vr := s11 _ _ vr
      have v1 := s11 _ _ v1
      have v2 := s11 _ _ v2
      have v3 := s11 _ _ v3
      have v4 := s11 _ _ v4
      have v5 := s11 _ _ v5
      have v6 := s11 _ _ v6
      have v7 := s11 _ _ v7
      have v8 := s11 _ _ v8
      have v9 := s11 _ _ v9
      have v10 := s11 _ _ v10
      have f11 := same_trans f10 s11
      clear s11
      rw [eu5] at v11
      refine catH_to vr v11 (by rw [List.length_map, List.length_map]; omega) fun p12 H_12 s12 v12 => ?_
      have vb := s12 _ _ vb
      have vr := s12 _ _ vr
      have v1 := s12 _ _ v1
      have v2 := s12 _ _ v2
      have v3 := s12 _ _ v3
      have v4 := s12 _ _ v4
      have v5 := s12 _ _ v5
      have v6 := s12 _ _ v6
      have v7 := s12 _ _ v7
      have v8 := s12 _ _ v8
      have v9 := s12 _ _ v9
      have v10 := s12 _ _ v10
      have v11 := s12 _ _ v11
      have f12 := same_trans f11 s12
      clear s12
      rw [← List.map_append] at v12
      refine ⟨by show 5 ≤ sizeLine; decide, fun p13 hp13 => ?_⟩
      have s13 := same_new (o := .lst [V.ref p3, V.ref p8, V.ref p9, V.ref p10, V.ref p12]) hp13
      have n13 := fresh f12 hp13
      have z13 := off_free o07 (f12.free hp13) n13.1 n13.2
      have vb := s13 _ _ vb
      have vr := s13 _ _ vr
      have v1 := s13 _ _ v1
      have v2 := s13 _ _ v2
      have v3 := s13 _ _ v3
      have v4 := s13 _ _ v4
      have v5 := s13 _ _ v5
      have v6 := s13 _ _ v6
      have v7 := s13 _ _ v7
      have v8 := s13 _ _ v8
      have v9 := s13 _ _ v9
      have v10 := s13 _ _ v10
      have v11 := s13 _ _ v11
      have v12 := s13 _ _ v12
      have v13 : upd H_12 p13 (.lst [V.ref p3, V.ref p8, V.ref p9, V.ref p10, V.ref p12]) p13 = some (.lst [V.ref p3, V.ref p8, V.ref p9, V.ref p10, V.ref p12]) := upd_same
      have f13 := same_trans f12 s13
      clear s13
      generalize upd H_12 p13 (.lst [V.ref p3, V.ref p8, V.ref p9, V.ref p10, V.ref p12]) = H_13 at f13 vb vr v1 v2 v3 v4 v5 v6 v7 v8 v9 v10 v11 v12 v13 ⊢
      refine ⟨_, rfl, _, rfl, by show 0 ≤ sizeLine; exact Nat.zero_le _, fun p14 hp14 => ?_⟩
      have s14 := same_new (o := .tup []) hp14
      have n14 := fresh f13 hp14
      have z14 := off_free o07 (f13.free hp14) n14.1 n14.2
      have vb := s14 _ _ vb
      have vr := s14 _ _ vr
      have v1 := s14 _ _ v1
      have v2 := s14 _ _ v2
      have v3 := s14 _ _ v3
      have v4 := s14 _ _ v4
      have v5 := s14 _ _ v5
      have v6 := s14 _ _ v6
      have v7 := s14 _ _ v7
      have v8 := s14 _ _ v8
      have v9 := s14 _ _ v9
      have v10 := s14 _ _ v10
      have v11 := s14 _ _ v11
      have v12 := s14 _ _ v12
      have v13 := s14 _ _ v13
      have v14 : upd H_13 p14 (.tup []) p14 = some (.tup []) := upd_same
      have f14 := same_trans f13 s14
      clear s14
      generalize upd H_13 p14 (.tup []) = H_14 at f14 vb vr v1 v2 v3 v4 v5 v6 v7 v8 v9 v10 v11 v12 v13 v14 ⊢
      refine ⟨⟨_, rfl⟩, _, rfl, _, r, rs, rfl, rfl, .inr (SqT.of vr), jb, fun p15 hp15 => ?_⟩
      have s15 := same_new (o := .dK []) hp15
      have n15 := fresh f14 hp15
      have z15 := off_free o07 (f14.free hp15) n15.1 n15.2
      have vb := s15 _ _ vb
      have vr := s15 _ _ vr
      have v1 := s15 _ _ v1
      have v2 := s15 _ _ v2
      have v3 := s15 _ _ v3
      have v4 := s15 _ _ v4
      have v5 := s15 _ _ v5
      have v6 := s15 _ _ v6
      have v7 := s15 _ _ v7
      have v8 := s15 _ _ v8
      have v9 := s15 _ _ v9
      have v10 := s15 _ _ v10
      have v11 := s15 _ _ v11
      have v12 := s15 _ _ v12
      have v13 := s15 _ _ v13
      have v14 := s15 _ _ v14
      have v15 : upd H_14 p15 (.dK []) p15 = some (.dK []) := upd_same
      have f15 := same_trans f14 s15
      clear s15
      generalize upd H_14 p15 (.dK []) = H_15 at f15 vb vr v1 v2 v3 v4 v5 v6 v7 v8 v9 v10 v11 v12 v13 v14 v15 ⊢
      refine ⟨_, rfl, by show 1 ≤ sizeLine; decide, fun p16 hp16 => ?_⟩
      have s16 := same_new (o := .tup [V.ref r]) hp16
      have n16 := fresh f15 hp16
      have z16 := off_free o07 (f15.free hp16) n16.1 n16.2
      have vb := s16 _ _ vb
      have vr := s16 _ _ vr
      have v1 := s16 _ _ v1
      have v2 := s16 _ _ v2
      have v3 := s16 _ _ v3
      have v4 := s16 _ _ v4
      have v5 := s16 _ _ v5
      have v6 := s16 _ _ v6
      have v7 := s16 _ _ v7
      have v8 := s16 _ _ v8
      have v9 := s16 _ _ v9
      have v10 := s16 _ _ v10
      have v11 := s16 _ _ v11
      have v12 := s16 _ _ v12
      have v13 := s16 _ _ v13
      have v14 := s16 _ _ v14
      have v15 := s16 _ _ v15
      have v16 : upd H_15 p16 (.tup [V.ref r]) p16 = some (.tup [V.ref r]) := upd_same
      have f16 := same_trans f15 s16
      clear s16
      generalize upd H_15 p16 (.tup [V.ref r]) = H_16 at f16 vb vr v1 v2 v3 v4 v5 v6 v7 v8 v9 v10 v11 v12 v13 v14 v15 v16 ⊢
      refine ⟨_, rfl, _, rfl, b, _, _, rfl, rfl, SqT.of vb, (by rw [exs]; exact fun z => nomatch z), by omega, by omega, by rw [List.length_map]; omega, fun p17 hp17 => ?_⟩
      have s17 := same_new (o := .tup (List.replicate (2 : Int).toNat (xs.map V.str)).flatten) hp17
      have n17 := fresh f16 hp17
      have z17 := off_free o07 (f16.free hp17) n17.1 n17.2
      have vb := s17 _ _ vb
      have vr := s17 _ _ vr
      have v1 := s17 _ _ v1
      have v2 := s17 _ _ v2
      have v3 := s17 _ _ v3
      have v4 := s17 _ _ v4
      have v5 := s17 _ _ v5
      have v6 := s17 _ _ v6
      have v7 := s17 _ _ v7
      have v8 := s17 _ _ v8
      have v9 := s17 _ _ v9
      have v10 := s17 _ _ v10
      have v11 := s17 _ _ v11
      have v12 := s17 _ _ v12
      have v13 := s17 _ _ v13
      have v14 := s17 _ _ v14
      have v15 := s17 _ _ v15
      have v16 := s17 _ _ v16
      have v17 : upd H_16 p17 (.tup (List.replicate (2 : Int).toNat (xs.map V.str)).flatten) p17 = some (.tup (List.replicate (2 : Int).toNat (xs.map V.str)).flatten) := upd_same
      have f17 := same_trans f16 s17
      clear s17
      generalize upd H_16 p17 (.tup (List.replicate (2 : Int).toNat (xs.map V.str)).flatten) = H_17 at f17 vb vr v1 v2 v3 v4 v5 v6 v7 v8 v9 v10 v11 v12 v13 v14 v15 v16 v17 ⊢
      refine ⟨_, rfl, 1, rfl, ?_⟩
      refine slH_to vr fun p18 H_18 s18 v18 => ?_
      have vb := s18 _ _ vb
      have vr := s18 _ _ vr
      have v1 := s18 _ _ v1
      have v2 := s18 _ _ v2
      have v3 := s18 _ _ v3
      have v4 := s18 _ _ v4
      have v5 := s18 _ _ v5
      have v6 := s18 _ _ v6
      have v7 := s18 _ _ v7
      have v8 := s18 _ _ v8
      have v9 := s18 _ _ v9
      have v10 := s18 _ _ v10
      have v11 := s18 _ _ v11
      have v12 := s18 _ _ v12
      have v13 := s18 _ _ v13
      have v14 := s18 _ _ v14
      have v15 := s18 _ _ v15
      have v16 := s18 _ _ v16
      have v17 := s18 _ _ v17
      have f18 := same_trans f17 s18
      clear s18
      rw [eu6] at v18
      refine ⟨_, rfl, 1, rfl, slH_to vr fun p19 H_19 s19 v19 => ?_⟩
      have vb := s19 _ _ vb
      have vr := s19 _ _ vr
      have v1 := s19 _ _ v1
      have v2 := s19 _ _ v2
      have v3 := s19 _ _ v3
      have v4 := s19 _ _ v4
      have v5 := s19 _ _ v5
      have v6 := s19 _ _ v6
      have v7 := s19 _ _ v7
      have v8 := s19 _ _ v8
      have v9 := s19 _ _ v9
      have v10 := s19 _ _ v10
      have v11 := s19 _ _ v11
      have v12 := s19 _ _ v12
      have v13 := s19 _ _ v13
      have v14 := s19 _ _ v14
      have v15 := s19 _ _ v15
      have v16 := s19 _ _ v16
      have v17 := s19 _ _ v17
      have v18 := s19 _ _ v18
      have f19 := same_trans f18 s19
      clear s19
      rw [eu7] at v19
      refine catH_to v18 v19 (by rw [List.length_map, List.length_map]; omega) fun p20 H_20 s20 v20 => ?_
      have vb := s20 _ _ vb
      have vr := s20 _ _ vr
      have v1 := s20 _ _ v1
      have v2 := s20 _ _ v2
      have v3 := s20 _ _ v3
      have v4 := s20 _ _ v4
      have v5 := s20 _ _ v5
      have v6 := s20 _ _ v6
      have v7 := s20 _ _ v7
      have v8 := s20 _ _ v8
      have v9 := s20 _ _ v9
      have v10 := s20 _ _ v10
      have v11 := s20 _ _ v11
      have v12 := s20 _ _ v12
      have v13 := s20 _ _ v13
      have v14 := s20 _ _ v14
      have v15 := s20 _ _ v15
      have v16 := s20 _ _ v16
      have v17 := s20 _ _ v17
      have v18 := s20 _ _ v18
      have v19 := s20 _ _ v19
      have f20 := same_trans f19 s20
      clear s20
      rw [← List.map_append] at v20
      refine ⟨by show 9 ≤ sizeLine; decide, fun p21 hp21 => ?_⟩
      have s21 := same_new (o := .lst [V.ref p14, V.non, V.str (Txt.join "" rs), V.ref p15, V.ref p16, V.int 7, V.ref b, V.ref p17, V.ref p20]) hp21
      have n21 := fresh f20 hp21
      have z21 := off_free o07 (f20.free hp21) n21.1 n21.2
      have vb := s21 _ _ vb
      have vr := s21 _ _ vr
      have v1 := s21 _ _ v1
      have v2 := s21 _ _ v2
      have v3 := s21 _ _ v3
      have v4 := s21 _ _ v4
      have v5 := s21 _ _ v5
      have v6 := s21 _ _ v6
      have v7 := s21 _ _ v7
      have v8 := s21 _ _ v8
      have v9 := s21 _ _ v9
      have v10 := s21 _ _ v10
      have v11 := s21 _ _ v11
      have v12 := s21 _ _ v12
      have v13 := s21 _ _ v13
      have v14 := s21 _ _ v14
      have v15 := s21 _ _ v15
      have v16 := s21 _ _ v16
      have v17 := s21 _ _ v17
      have v18 := s21 _ _ v18
      have v19 := s21 _ _ v19
      have v20 := s21 _ _ v20
      have v21 : upd H_20 p21 (.lst [V.ref p14, V.non, V.str (Txt.join "" rs), V.ref p15, V.ref p16, V.int 7, V.ref b, V.ref p17, V.ref p20]) p21 = some (.lst [V.ref p14, V.non, V.str (Txt.join "" rs), V.ref p15, V.ref p16, V.int 7, V.ref b, V.ref p17, V.ref p20]) := upd_same
      have f21 := same_trans f20 s21
      clear s21
      generalize upd H_20 p21 (.lst [V.ref p14, V.non, V.str (Txt.join "" rs), V.ref p15, V.ref p16, V.int 7, V.ref b, V.ref p17, V.ref p20]) = H_21 at f21 vb vr v1 v2 v3 v4 v5 v6 v7 v8 v9 v10 v11 v12 v13 v14 v15 v16 v17 v18 v19 v20 v21 ⊢
      refine ⟨p13, p21, _, _, rfl, rfl, v13, v21, by show 5 + 9 ≤ sizeLine; decide, fun p22 hp22 => ?_⟩
      have s22 := same_new (o := .lst ([V.ref p3, V.ref p8, V.ref p9, V.ref p10, V.ref p12] ++ [V.ref p14, V.non, V.str (Txt.join "" rs), V.ref p15, V.ref p16, V.int 7, V.ref b, V.ref p17, V.ref p20])) hp22
      have n22 := fresh f21 hp22
      have z22 := off_free o07 (f21.free hp22) n22.1 n22.2
      have vb := s22 _ _ vb
      have vr := s22 _ _ vr
      have v1 := s22 _ _ v1
      have v2 := s22 _ _ v2
      have v3 := s22 _ _ v3
      have v4 := s22 _ _ v4
      have v5 := s22 _ _ v5
      have v6 := s22 _ _ v6
      have v7 := s22 _ _ v7
      have v8 := s22 _ _ v8
      have v9 := s22 _ _ v9
      have v10 := s22 _ _ v10
      have v11 := s22 _ _ v11
      have v12 := s22 _ _ v12
      have v13 := s22 _ _ v13
      have v14 := s22 _ _ v14
      have v15 := s22 _ _ v15
      have v16 := s22 _ _ v16
      have v17 := s22 _ _ v17
      have v18 := s22 _ _ v18
      have v19 := s22 _ _ v19
      have v20 := s22 _ _ v20
      have v21 := s22 _ _ v21
      have v22 : upd H_21 p22 (.lst ([V.ref p3, V.ref p8, V.ref p9, V.ref p10, V.ref p12] ++ [V.ref p14, V.non, V.str (Txt.join "" rs), V.ref p15, V.ref p16, V.int 7, V.ref b, V.ref p17, V.ref p20])) p22 = some (.lst ([V.ref p3, V.ref p8, V.ref p9, V.ref p10, V.ref p12] ++ [V.ref p14, V.non, V.str (Txt.join "" rs), V.ref p15, V.ref p16, V.int 7, V.ref b, V.ref p17, V.ref p20])) := upd_same
      have f22 := same_trans f21 s22
      clear s22
      generalize upd H_21 p22 (.lst ([V.ref p3, V.ref p8, V.ref p9, V.ref p10, V.ref p12] ++ [V.ref p14, V.non, V.str (Txt.join "" rs), V.ref p15, V.ref p16, V.int 7, V.ref b, V.ref p17, V.ref p20])) = H_22 at f22 vb vr v1 v2 v3 v4 v5 v6 v7 v8 v9 v10 v11 v12 v13 v14 v15 v16 v17 v18 v19 v20 v21 v22 ⊢
      have D8 := D7.same f22
      refine ⟨d, l, p22, _, n + 2, rfl, D8, v22, n22.2, by show 0 < 14; decide, by show 14 < 1000000; decide, by omega, fun wv HH hw D9 o9 => ?_⟩
      refine q wv HH (D9.up (by omega)) ((o07.trans (Off.of f22)).trans o9) fun HG K2 => ?_
      have fin : GoodR K HG wv → GoodR K HG wv := fun z => z
      have gr := K2.2 _ _ (tup_off vr D8 o9)
      have gb := K2.2 _ _ (tup_off vb D8 o9)
      simp only [List.cons_append, List.nil_append, List.mem_cons, List.not_mem_nil, or_false] at hw
      rcases hw with rfl | rfl | rfl | rfl | rfl | rfl | rfl | rfl | rfl | rfl | rfl | rfl | rfl | rfl
      · exact fin (goodR_txs (K2.2 _ _ (tup_off v3 D8 o9)) (fun x hx => (List.mem_append.mp hx).elim (fun z => okr x (su1 x z)) fun z => okr x (su2 x z)) (by rw [List.length_append]; omega))
      · exact fin (goodR_txs (K2.2 _ _ (tup_off v8 D8 o9)) (fun x hx => (List.mem_append.mp hx).elim (fun y => (List.mem_append.mp y).elim (fun z => okr x (su1 x z)) fun z => okr x (su3 x z)) fun z => okr x (su4 x z)) (by rw [List.length_append, List.length_append]; omega))
      · have z := K2.2 _ _ (tup_off v9 D8 o9)
        rw [← List.map_reverse] at z
        exact fin (goodR_txs z (fun x hx => okr x (List.mem_reverse.mp hx)) (by rw [List.length_reverse]; omega))
      · exact fin (goodD_lst (K2.1 _ _ z10 (o9 _ _ v10 n10.1 n10.2)) okr (by omega)).r
      · exact fin (goodR_txs (K2.2 _ _ (tup_off v12 D8 o9)) (fun x hx => (List.mem_append.mp hx).elim (okr x) fun z => okx x (su5 x z)) (by rw [List.length_append]; omega))
      · exact fin (goodR_txs (L := []) (K2.2 _ _ (tup_off v14 D8 o9)) (fun _ z => nomatch z) (by decide))
      · exact fin goodD_non.r
      · refine fin ⟨_, _, .str _, shw3 (shw_long ?_ fun c hc => ?_) (by omega) (by omega)⟩
        · rw [join_len]
          omega
        · obtain ⟨x, hx, hc2⟩ := join_codes rs c hc
          exact (okr x hx).2 c hc2
      · exact fin (goodD_d0 (K2.1 _ _ z15 (o9 _ _ v15 n15.1 n15.2))).r
      · exact fin (goodR_tup (K2.2 _ _ (tup_off v16 D8 o9)) (.cons (.tup (SqT.of gr)) .nil) (by show 1 ≤ 200; decide) (Shws.cons (Shws.tup gr (shws_txs okr)) (Shws.nil (c := 0))) (by omega) (by omega))
      · exact fin (goodD_int (by decide +kernel)).r
      · exact fin (goodR_txs gb okx (by omega))
      · have z := K2.2 _ _ (tup_off v17 D8 o9)
        have e : (List.replicate (2 : Int).toNat (xs.map V.str)).flatten = (xs ++ xs).map V.str := by
          show xs.map V.str ++ (xs.map V.str ++ []) = _
          rw [List.append_nil, List.map_append]
        rw [e] at z
        exact fin (goodR_txs z (fun x hx => (List.mem_append.mp hx).elim (okx x) (okx x)) (by rw [List.length_append]; omega))
      · exact fin (goodR_txs (K2.2 _ _ (tup_off v20 D8 o9)) (fun x hx => (List.mem_append.mp hx).elim (fun z => okr x (su6 x z)) fun z => okr x (su7 x z)) (by rw [List.length_append]; omega))
end
end K01
/-! isinstance(e, C) of an error caught that has fields; what stands while a list's items change. -/
namespace K01
open PySem PySem.Spec PyProof.Rows L2 KG KS KA KX KIa KCt
/-- isinstance(e, c), e the error that the suite holds, with its fields -/
def rIsX (K : PySem.W.Frag) (a : Addr) (cls : Value) (d : Option Addr) : List V → Hp → VK → Prop := fun xs H Q => ∃ (C dd : Addr) (fs : List (Str × V)) (c : V) (u : Value) (b : Bool), xs = [.ref a, c] ∧ cls = .ref C ∧ d = some dd ∧ H dd = some (.xd fs) ∧ ExC K C ∧ ClsV c u ∧ PySem.W.kitOne K (.ref C) u = some b ∧ Q (.bl b) H
theorem call_isX {X : Cx} {a : Addr} {oe : Obj} {cls : Value} {d : Option Addr} {pn : List (Addr × Obj)} (hz : Zc cls d oe) (hf : ∃ vs, oe.data = .fields vs) : CallR (X.suite a ((a, oe) :: pn)) (.builtin "isinstance") (rIsX X.K a cls d) := by
  intro pins s σ H xs us Q I r h
  obtain ⟨C, dd, fs, c, u, b, rfl, rfl, rfl, hdd, T, k, e, q⟩ := h
  obtain ⟨u1, u2, rfl, r1, r2⟩ := vals2 r
  obtain rfl : u1 = Value.ref a := r1
  have e2 := k.eq r2
  subst e2
  obtain ⟨ha, _⟩ := I.pin (a, oe) (List.mem_append_left _ List.mem_cons_self)
  obtain ⟨vs, hd⟩ := hf
  obtain ⟨mA, hns, _⟩ := (show ObjOk X.prog X.w H s.heap dd (.xd fs) from I.hok dd _ hdd)
  obtain ⟨od, ho, _⟩ := lookIn_ns hns
  have J : PySem.W.InstAt s.heap a oe C (some od) := ⟨ha, hz.1, by unfold PySem.W.notCls; rw [hd] <;> rfl, by rw [hz.2]; exact ho⟩
  exact PySem.W.kia_one (kit_ex T) I.kIn ⟨oe, some od, J⟩ e (fun z => nomatch z) fun tk => ⟨.bl b, H, I.tok tk, rfl, q⟩
/-- what is not the deck's and not the list at mt stands -/
def KeptM (d l mt : Addr) (H H' : Hp) : Prop := ∀ a o, H a = some o → a ≠ d → a ≠ l → a ≠ mt → H' a = some o
theorem KeptM.refl {d l mt : Addr} {H : Hp} : KeptM d l mt H H := fun _ _ h _ _ _ => h
theorem KeptM.trans {d l mt : Addr} {H H1 H2 : Hp} (x : KeptM d l mt H H1) (y : KeptM d l mt H1 H2) : KeptM d l mt H H2 := fun a o h n1 n2 n3 => y a o (x a o h n1 n2 n3) n1 n2 n3
theorem KeptM.off {d l mt : Addr} {H H' : Hp} (x : Off d l H H') : KeptM d l mt H H' := fun a o h n1 n2 _ => x a o h n1 n2
theorem KeptM.put {d l mt : Addr} {H : Hp} {o : HO} : KeptM d l mt H (upd H mt o) := fun a u h _ _ n => by
  rw [upd_ne n]
  exact h
theorem KeptM.tup {d l mt p : Addr} {H H' : Hp} {ts xs : List V} {k : Nat} (x : KeptM d l mt H H') (D : DeckAt H d l k) (hm : H mt = some (.lst xs)) (h : H p = some (.tup ts)) : H' p = some (.tup ts) := by
  obtain ⟨cs, m, n, hd, hl, _⟩ := D.ex
  exact x _ _ h (ne_of h hd (by intro z; cases z)) (ne_of h hl (by intro z; cases z)) (ne_of h hm (by intro z; cases z))
theorem KeptM.keptB {d l mt : Addr} {H0 H H' : Hp} {xs ys : List V} {k j : Nat} (x : KeptM d l mt H H') (D0 : DeckAt H0 d l j) (hm0 : H0 mt = some (.lst ys)) (D : DeckAt H d l k) (hm : H mt = some (.lst xs)) : KeptB H0 H H' := by
  refine ⟨fun a o h1 h2 => ?_, fun p ts h => x.tup D hm h⟩
  obtain ⟨cs, m, n, hd, hl, _⟩ := D0.ex
  refine x a o h2 ?_ ?_ ?_ <;> intro z
  · rw [z, hd] at h1
    cases h1
  · rw [z, hl] at h1
    cases h1
  · rw [z, hm0] at h1
    cases h1
def RobD (K : PySem.W.Frag) (d l mt : Addr) (H : Hp) (v : V) : Prop := ∀ H', KeptM d l mt H H' → GoodD K H' v
def RobR (K : PySem.W.Frag) (d l mt : Addr) (H : Hp) (v : V) : Prop := ∀ H', KeptM d l mt H H' → GoodR K H' v
/-- the list of two that is tried -/
def MadeAt (K : PySem.W.Frag) (d l mt : Addr) (H : Hp) : Prop := ∃ v1 v2 : V, H mt = some (.lst [v1, v2]) ∧ RobD K d l mt H v1 ∧ RobR K d l mt H v2
theorem joinZ {I Z : Hp → Prop} {G : Prop} (first : (∀ H2, I H2 → Z H2) → G) (rest : ∀ H2, I H2 → Z H2) : G := first rest
end K01
/-! law. -/
namespace K01
open PySem PySem.Spec PyProof.Rows L2 KG KS KA KX KLm KIa KCt LamX
abbrev s_law : Stmt := top 36
abbrev NLw : List Str := ["_law_script", "_law_deck_here", "_law_turn", "_law_base", "_law_row_here", "_law_again", "_law_made", "_law_way", "_law_kept", "_law_due_here", "_law_is_named", "_law_told_here", "_law_right", "_law_word", "e"]
mutual
theorem dq_ext {Z : Addr → Prop} {H H' : Hp} (e : ExtN H H') : ∀ {v : V} {d : PyData}, Dq Z H v d → Dq Z H' v d
  | _, _, .non => .non
  | _, _, .bl b => .bl b
  | _, _, .int i => .int i
  | _, _, .str x => .str x
  | _, _, .lst z h a => .lst z (e _ _ h fun _ y => by cases y) (dqs_ext e a)
  | _, _, .tup z h a => .tup z (e _ _ h fun _ y => by cases y) (dqs_ext e a)
  | _, _, .dct z h a b => .dct z (e _ _ h fun _ y => by cases y) (dqs_ext e a) (dqs_ext e b)
theorem dqs_ext {Z : Addr → Prop} {H H' : Hp} (e : ExtN H H') : ∀ {vs : List V} {ds : List PyData}, DqAll Z H vs ds → DqAll Z H' vs ds
  | _, _, .nil => .nil
  | _, _, .cons a b => .cons (dq_ext e a) (dqs_ext e b)
end
/-- all that the law reaches -/
structure All (K : PySem.W.Frag) (mg : Str → Option Value) where
  S : SmF K mg
  deck : FnF K mg "_law_deck" "_law_deck" s__law_deck
  names : FnF K mg "_law_names" "_law_names" s__law_names
  same : FnF K mg "_law_same" "_law_same" s__law_same
  due : FnF K mg "_law_due" "_law_due" s__law_due
  isd : FnF K mg "_law_is_base" "_law_is_base" s__law_is_base
  isn : FnF K mg "_law_is_name" "_law_is_name" s__law_is_name
  oddD : FnF K mg "_law_odd_base" "_law_odd_base" s__law_odd_base
  oddR : FnF K mg "_law_odd_row" "_law_odd_row" s__law_odd_row
  EB : Addr
  gB : mg "ClashnumberError" = some (.ref EB)
  xB : PySem.W.exmOne K (.ref S.N.C) (.ref EB) = some true
  EV : Addr
  gV : mg "NoVote" = some (.ref EV)
  kV : PySem.W.kitOne K (.ref S.N.C) (.ref EV) = some false
  ET : Addr
  gT : mg "NoTable" = some (.ref ET)
  kT : PySem.W.kitOne K (.ref S.N.C) (.ref ET) = some false
  kN : PySem.W.kitOne K (.ref S.N.C) (.ref S.N.C) = some true
def spLaw (K : PySem.W.Frag) (T : Addr) : Sp := fun vs H Q _ => ∃ (a : Addr) (ns : List Int), vs = [.ref a] ∧ SqL K H a (ns.map V.int) ∧ ns.length ≤ 63 ∧ H T = some (.tbl #[]) ∧ ∀ H', Q (.bl true) H'
theorem deck_put {H : Hp} {d l p : Addr} {k : Nat} {o : HO} (D : DeckAt H d l k) (n1 : p ≠ d) (n2 : p ≠ l) : DeckAt (upd H p o) d l k := by
  obtain ⟨cs, m, n, hd, hl, z⟩ := D.ex
  exact ⟨cs, m, n, by rw [upd_ne n1.symm]; exact hd, by rw [upd_ne n2.symm]; exact hl, z⟩
theorem tabs_put {T : List (Addr × Str)} {H : Hp} {p : Addr} {xs ys : List V} (t : Tabs T H) (hp : H p = some (.lst xs)) : Tabs T (upd H p (.lst ys)) := fun q hq => by
  obtain ⟨ps, h1, h2, h3⟩ := t q hq
  refine ⟨ps, by rw [upd_ne (ne_of h1 hp (by intro z; cases z))]; exact h1, h2, fun pos cv hc => ?_⟩
  obtain ⟨c, e1, e2⟩ := h3 pos cv hc
  exact ⟨c, e1, by rw [upd_ne (ne_of e2 hp (by intro z; unfold CodeO at z; cases z))]; exact e2⟩
/-- the word that the last error tells -/
def tryB (K : PySem.W.Frag) (T : List (Addr × Str)) (C N : Addr) (W : WX) : TS := tDrop (KMk.tMakeS C (spCA K T C N) (WE W) (tCons (tTup tNil) (tCons (tTup tNil) tNil)))
section
variable {P : Program} {w : World} {K : PySem.W.Frag} {mg : Str → Option Value} {base : Heap}
theorem sc_law : FnScope NLw ["_law_script"] (defScope s_law) := ⟨rfl, rfl, rfl, by decide +kernel, rfl, by decide +kernel, by decide +kernel⟩
theorem ok_law {Pt : Addr} (A : All K mg) (TB : TabB base mg A.S.cf.sup.c Pt) (f : FnF K mg "law" "law" s_law) : FnG P w K mg base CX0 10 f.a f.d ["_law_script"] (spLaw K Pt) := by
  have hT : [(Pt, lamQ)] = [(Pt, lamQ)] := rfl
  have B := A.S.B
  have GK := ok__law_deck (P := P) (w := w) (base := base) B.toBi A.deck
  have bK : L2.Binds K A.deck.d ["_law_script"] [] := A.deck.F.binds fun _ _ _ _ _ _ us hl => match us, hl with | [_], _ => rfl
  have GD := ok__law_draw (P := P) (w := w) (base := base) B.toBi A.S.draw
  have bD : L2.Binds K A.S.draw.d ["_law_deck_here", "_law_many"] [] := A.S.draw.F.binds fun _ _ _ _ _ _ us hl => match us, hl with | [_, _], _ => rfl
  have GN := ok__law_names (P := P) (w := w) (base := base) B.toBs A.names A.S.draw
  have bN : L2.Binds K A.names.d ["_law_deck_here", "_law_many"] [] := A.names.F.binds fun _ _ _ _ _ _ us hl => match us, hl with | [_, _], _ => rfl
  have GR := ok__law_row (P := P) (w := w) (base := base) B.toBs A.S.row A.S.sets A.S.pick A.S.draw
  have bR : L2.Binds K A.S.row.d ["_law_deck_here", "_law_base"] [] := A.S.row.F.binds fun _ _ _ _ _ _ us hl => match us, hl with | [_, _], _ => rfl
  have GS := ok__law_same (P := P) (w := w) (base := base) A.S TB A.same
  have bS : L2.Binds K A.same.d ["_law_deck_here", "_law_base", "_law_row_here"] [] := A.same.F.binds fun _ _ _ _ _ _ us hl => match us, hl with | [_, _, _], _ => rfl
  have GU := ok__law_due (P := P) (w := w) (base := base) B A.due A.isd A.isn A.S.sets
  have bU : L2.Binds K A.due.d ["_law_base", "_law_row_here"] [] := A.due.F.binds fun _ _ _ _ _ _ us hl => match us, hl with | [_, _], _ => rfl
  have GO := ok__law_told (P := P) (w := w) (base := base) B A.S.ci A.S.cf TB hT A.S.C A.S.N A.S.XF A.S.told
  have bO : L2.Binds K A.S.told.d ["_law_base", "_law_row_here", "_law_is_named"] [] := A.S.told.F.binds fun _ _ _ _ _ _ us hl => match us, hl with | [_, _, _], _ => rfl
  have G1 := ok__law_odd_base (P := P) (w := w) (base := base) B.toBs A.oddD A.S.draw A.S.pick
  have b1 : L2.Binds K A.oddD.d ["_law_deck_here", "_law_base"] [] := A.oddD.F.binds fun _ _ _ _ _ _ us hl => match us, hl with | [_, _], _ => rfl
  have G3 := ok__law_odd_row (P := P) (w := w) (base := base) B.toBs A.oddR A.S.draw A.S.pick
  have b3 : L2.Binds K A.oddR.d ["_law_deck_here", "_law_base", "_law_row_here"] [] := A.oddR.F.binds fun _ _ _ _ _ _ us hl => match us, hl with | [_, _, _], _ => rfl
  have GC := ok_chInitA (P := P) (w := w) (base := base) B A.S.ci A.S.cf TB hT A.S.C A.S.N
  have bC : L2.Binds K A.S.ci.d ["self", "domain", "results"] [] := A.S.ci.F.binds fun _ _ _ _ _ _ us hl => match us, hl with | [_, _, _], _ => rfl
  refine okN f.F sc_law (fun vs H Q E h => ?_) (fun cdv A' outer s H vs Q E hgu hr h => ?_)
  · obtain ⟨a, ns, rfl, _⟩ := h
    rfl
  · obtain ⟨sa, ns, rfl, hs0, hlen, hPt, q⟩ := h
    have hu64 := hr.units
    have hr1 : Room 1 _ := hr.mono (by omega)
    have hr2 : Room 2 _ := hr.mono (by omega)
    have hr3 : Room 3 _ := hr.mono (by omega)
    have hr7 : Room 7 _ := hr.mono (by omega)
    have hr8 : Room 8 _ := hr.mono (by omega)
    refine ⟨_, (pss_cons
      (ps_set (i := 1) sc_law.nd rfl (Or.inl rfl) (pe_call GK hr1 rfl A.deck.g A.deck.F.kp bK .nil pass0 (pa_cons (pv 0) pa_nil)))
    (pss_cons
      (ps_for PassesOwn.never rfl (pi_range1 rfl B.n_range (pa_cons pe_int pa_nil)) (pg_name (i := 2) sc_law.nd rfl (Or.inl rfl)) (pss_cons
      (ps_set (i := 3) sc_law.nd rfl (Or.inl rfl) (pe_call GN hr2 rfl A.names.g A.names.F.kp bN .nil pass0 (pa_cons (pv 1) (pa_cons (pe_ix ix_list (pe_lst (pa_cons pe_int (pa_cons pe_int (pa_cons pe_int (pa_cons pe_int pa_nil))))) (pe_call GD hr1 rfl A.S.draw.g A.S.draw.F.kp bD .nil pass0 (pa_cons (pv 1) (pa_cons pe_int pa_nil))) (fun _ _ => rfl)) pa_nil))))
    (pss_cons
      (ps_set (i := 4) sc_law.nd rfl (Or.inl rfl) (pe_call GR hr3 rfl A.S.row.g A.S.row.F.kp bR .nil pass0 (pa_cons (pv 1) (pa_cons (pv 3) pa_nil))))
    (pss_cons
      (ps_if (pt_not (pt_val (pe_callG GS hgu hr rfl A.same.g A.same.F.kp bS .nil pass0 (pa_cons (pv 1) (pa_cons (pv 3) (pa_cons (pv 4) pa_nil)))))) (pss_one (ps_ret pe_bl)) pss_nil)
    (pss_one
      (ps_for PassesOwn.never rfl (pi_range1 rfl B.n_range (pa_cons pe_int pa_nil)) (pg_name (i := 5) sc_law.nd rfl (Or.inl rfl)) (pss_cons
      (ps_par (i := 6) (j := 7) (by rfl) sc_law.nd rfl rfl (by decide) rfl rfl (pa_cons (pe_lst (pa_cons (pv 3) (pa_cons (pv 4) pa_nil))) (pa_cons (pe_call GD hr1 rfl A.S.draw.g A.S.draw.F.kp bD .nil pass0 (pa_cons (pv 1) (pa_cons pe_int pa_nil))) pa_nil)) (by rfl))
    (pss_cons
      (ps_if (pt_cmpR op_lt (pv 7) pe_int (nomark _)) (pss_one (ps_asg (pe_call G3 hr3 rfl A.oddR.g A.oddR.F.kp b3 .nil pass0 (pa_cons (pv 1) (pa_cons (pv 3) (pa_cons (pv 4) pa_nil)))) (pg_sub (pv 6) pe_int set_list))) pss_nil)
    (pss_cons
      (ps_if (pt_cmpR op_gt (pv 7) pe_int (nomark _)) (pss_one (ps_asg (pe_call G1 hr3 rfl A.oddD.g A.oddD.F.kp b1 .nil pass0 (pa_cons (pv 1) (pa_cons (pv 3) pa_nil))) (pg_sub (pv 6) pe_int set_list))) pss_nil)
    (pss_cons
      (ps_par (i := 8) (j := 9) (by rfl) sc_law.nd rfl rfl (by decide) rfl rfl (pa_cons (pe_callB (call_repr hgu hu64) (by rfl) B.n_repr (by decide +kernel) (pa_cons (pv 6) pa_nil)) (pa_cons (pe_call GU hr3 rfl A.due.g A.due.F.kp bU .nil pass0 (pa_cons (pe_ix ix_list (pv 6) pe_int (fun _ _ => rfl)) (pa_cons (pe_ix ix_list (pv 6) pe_int (fun _ _ => rfl)) pa_nil))) pa_nil)) (by rfl))
    (pss_one
      (ps_for PassesOwn.never rfl (pi_tup (pe_tup (pa_cons pe_bl (pa_cons pe_bl pa_nil)))) (pg_name (i := 10) sc_law.nd rfl (Or.inl rfl)) (pss_cons
      (ps_set (i := 11) sc_law.nd rfl (Or.inl rfl) (pe_call GO hr8 rfl A.S.told.g A.S.told.F.kp bO .nil pass0 (pa_cons (pe_ix ix_list (pv 6) pe_int (fun _ _ => rfl)) (pa_cons (pe_ix ix_list (pv 6) pe_int (fun _ _ => rfl)) (pa_cons (pv 10) pa_nil)))))
    (pss_cons
      (ps_set (i := 12) sc_law.nd rfl (Or.inl rfl) (pe_ifExp (pt_cmpR op_eq (pv 9) pe_str (nomark _)) (pe_callB call_isi (by rfl) B.n_isinstance (by decide +kernel) (pa_cons (pv 11) (pa_cons (pe_glob (v := .ref A.S.C.C) rfl A.S.C.g rfl) pa_nil))) (pe_cmpR op_eq (pv 11) (pv 9) (nomark _))))
    (pss_one
      (ps_if (PW.pt (pw_or (pt_cmpR op_isnot_bl (pv 12) pe_bl (nomark _)) (pw_or1 (pt_cmpR op_ne (pe_callB (call_repr hgu hu64) (by rfl) B.n_repr (by decide +kernel) (pa_cons (pv 6) pa_nil)) (pv 8) (nomark _))))) (pss_one (ps_ret pe_bl)) pss_nil))))))))))))))))
    (pss_cons
      (ps_set (i := 13) sc_law.nd rfl (Or.inl rfl) pe_str)
    (pss_cons
      (KTr.ps_tryFst (i := 14) (c := .ref A.EB) (tb := tryB K [(Pt, lamQ)] A.S.C.C A.S.N.C)
        (ts := fun a cls d => _) rfl rfl sc_law.nd rfl rfl ⟨rfl, by decide, Or.inl A.gB⟩
        (fun W pn xe tk _ => by
          unfold tryB
          exact (pss_one (ps_expr (KMk.pe_makeS A.S.C.made GC hr7 rfl A.S.C.g bC (fun σ => passAt tk σ) (pa_cons (pe_tup pa_nil) (pa_cons (pe_tup pa_nil) pa_nil))))))
        (fun a oe cls d pn hz hf => pss_one (ps_if (PW.pt (pw_and (pt_val (pe_callB (call_isX hz hf) (by rfl) B.n_isinstance (by decide +kernel) (pa_cons (pv 14) (pa_cons (pe_glob (v := .ref A.S.N.C) rfl A.S.N.g rfl) pa_nil)))) (pw_and (pt_not (pt_val (pe_callB (call_isX hz hf) (by rfl) B.n_isinstance (by decide +kernel) (pa_cons (pv 14) (pa_cons (pe_glob (v := .ref A.EV) rfl A.gV rfl) pa_nil))))) (pw_and1 (pt_not (pt_val (pe_callB (call_isX hz hf) (by rfl) B.n_isinstance (by decide +kernel) (pa_cons (pv 14) (pa_cons (pe_glob (v := .ref A.ET) rfl A.gT rfl) pa_nil))))))))) 
          (pss_one (ps_set (i := 13) sc_law.nd rfl (Or.inl rfl) (pe_xf A.S.XF A.S.N.nf hz hf (pv 14))))
          pss_nil)))
    (pss_one
      (ps_ret (pe_cmpR op_eq (pv 13) pe_str (nomark _)))))))), ?_⟩
    refine ⟨_, rfl, sa, ns, rfl, hs0, hlen, fun d l H1 hd hl e1 D1 => ?_⟩
    have T1 : Tabs [(Pt, lamQ)] H1 := Tabs.ext (fun p hp => by
      rw [List.mem_singleton.mp hp]
      exact TabS.nil hPt) e1
    refine ⟨5, rfl, by decide, by decide, ?_⟩
    refine for_range (lo := 0) (n := 5) (fun i σ H' => ∃ v2 v3 v4 v5 v6 v7 v8 v9 v10 v11 v12 v13 v14 : Option V, σ = [some (.ref sa), some (.ref d), v2, v3, v4, v5, v6, v7, v8, v9, v10, v11, v12, v13, v14] ∧ DeckAt H' d l (i * 2000) ∧ Tabs [(Pt, lamQ)] H')
      ⟨none, none, none, none, none, none, none, none, none, none, none, none, none, rfl, D1, T1⟩ ?_ ?_
    · rintro i σ H2 hi ⟨v2, v3, v4, v5, v6, v7, v8, v9, v10, v11, v12, v13, v14, rfl, D2, T2⟩
      obtain ⟨k0, hk0⟩ : ∃ k0, i * 2000 = k0 := ⟨_, rfl⟩
      have hkb : k0 < 10000 := by omega
      rw [hk0] at D2
      -- base
      refine ⟨_, rfl, by show 4 ≤ sizeLine; decide, fun q4 hq4 => ?_⟩
      have e3 : Same H2 (upd H2 q4 (.lst [V.int 3, V.int 2, V.int 3, V.int 1])) := same_new hq4
      have h3 : upd H2 q4 (.lst [V.int 3, V.int 2, V.int 3, V.int 1]) q4 = some (.lst [V.int 3, V.int 2, V.int 3, V.int 1]) := upd_same
      have n3 : q4 ≠ l := by
        obtain ⟨cs, mm, nn, _, hl2, _⟩ := D2.ex
        exact (ne_of_none hl2 hq4).symm
      generalize upd H2 q4 (.lst [V.int 3, V.int 2, V.int 3, V.int 1]) = H3 at e3 h3 ⊢
      have D3 := D2.same e3
      have T3 := Tabs.ext T2 e3
      refine ⟨_, rfl, d, l, 4, k0, rfl, D3, by decide, by decide, by omega, fun j H4 j0 j1 D4 o4 => ?_⟩
      have T4 := Tabs.off T3 D3 o4
      have h4 := lst_off h3 n3 D3 o4
      obtain ⟨m, m1, m3, hm⟩ : ∃ m : Nat, 1 ≤ m ∧ m ≤ 3 ∧ [V.int 3, V.int 2, V.int 3, V.int 1][j.toNat]? = some (V.int (m : Nat)) := by
        have : j.toNat = 0 ∨ j.toNat = 1 ∨ j.toNat = 2 ∨ j.toNat = 3 := by omega
        rcases this with z | z | z | z <;> rw [z]
        · exact ⟨3, by decide, by decide, rfl⟩
        · exact ⟨2, by decide, by decide, rfl⟩
        · exact ⟨3, by decide, by decide, rfl⟩
        · exact ⟨1, by decide, by decide, rfl⟩
      refine ⟨q4, _, j, V.int (m : Nat), rfl, rfl, SqL.of h4, at_of (j := j.toNat) (by omega) hm, d, l, m, k0 + 1, rfl, D4, by omega, by omega, fun b xs H5 _ D5 o5 hb5 xlen inP asc => ?_⟩
      have T5 := Tabs.off T4 D4 o5
      have D5 := D5.up (k := k0 + 4) (by omega)
      have ok : ∀ x ∈ xs, nameOk x = true := fun x hx => pool_ok x (inP x hx)
      have l1 : 1 ≤ xs.length := by omega
      have l3 : xs.length ≤ 3 := by omega
      clear hq4 h3 h4 n3 e3 hm j0 j1 D3 D4 T3 T4 o4 o5 T2 D2
      -- row
      refine ⟨_, rfl, _, rfl, d, l, b, xs, k0 + 4, rfl, D5, by omega, hb5, asc, ok, l1, l3, fun r rs H7 _ D7 o7 hr7' G => ?_⟩
      have hb7 := tup_off hb5 D5 o7
      have T7 := Tabs.off T5 D5 o7
      clear hb5 T5 D5 o7
      -- same
      refine ⟨_, rfl, _, rfl, _, rfl, d, l, b, r, xs, rs, k0 + 14, rfl, D7, by omega, hb7, hr7', G, T7, fun H8 D8 T8 k8 => ⟨true, rfl, iteF ?_⟩⟩
      have hb8 := k8 _ _ hb7
      have hr8 := k8 _ _ hr7'
      have D8 := D8.up (k := k0 + 500) (by omega)
      have few := few_rows G
      have okr : ∀ x ∈ rs, TxOk x := fun x hx => tx_name (ok x (G.sub x hx))
      have okx : ∀ x ∈ xs, TxOk x := fun x hx => tx_name (ok x hx)
      clear D7 T7 hb7 hr7' k8
      refine ⟨8, rfl, by decide, by decide, ?_⟩
      refine for_range (lo := 0) (n := 8) (fun i2 σ H' => ∃ v5 v6 v7 v8 v9 v10 v11 v12 v13 v14 : Option V, σ = [some (.ref sa), some (.ref d), some (.int (0 + (i : Int))), some (.ref b), some (.ref r), v5, v6, v7, v8, v9, v10, v11, v12, v13, v14] ∧ DeckAt H' d l (k0 + 500 + i2 * 100) ∧ Tabs [(Pt, lamQ)] H' ∧ H' b = some (.tup (xs.map V.str)) ∧ H' r = some (.tup (rs.map V.str)))
        ⟨_, _, _, _, _, _, _, _, _, _, rfl, D8, T8, hb8, hr8⟩ ?_ ?_
      · rintro i2 σ H9 hi2 ⟨w5, w6, w7, w8, w9, w10, w11, w12, w13, w14, rfl, D9, T9, hb9, hr9⟩
        clear D8 T8 hb8 hr8
        obtain ⟨k1, hk1⟩ : ∃ k1, k0 + 500 + i2 * 100 = k1 := ⟨_, rfl⟩
        have hk1b : k1 < 20000 := by omega
        rw [hk1] at D9
        -- made, way
        refine ⟨_, rfl, _, rfl, by show 2 ≤ sizeLine; decide, fun mt hmt => ?_⟩
        have eA : Same H9 (upd H9 mt (.lst [V.ref b, V.ref r])) := same_new hmt
        have hmA : upd H9 mt (.lst [V.ref b, V.ref r]) mt = some (.lst [V.ref b, V.ref r]) := upd_same
        have nm : mt ≠ d ∧ mt ≠ l := by
          obtain ⟨cs, mm, nn, hd2, hl2, _⟩ := D9.ex
          exact ⟨(ne_of_none hd2 hmt).symm, (ne_of_none hl2 hmt).symm⟩
        generalize upd H9 mt (.lst [V.ref b, V.ref r]) = HA at eA hmA ⊢
        have DA := D9.same eA
        have TA_ := Tabs.ext T9 eA
        have hbA := eA _ _ hb9
        have hrA := eA _ _ hr9
        refine ⟨_, rfl, d, l, 4, k1, rfl, DA, by decide, by decide, by omega, fun wy HB y0 y1 DB oB => ⟨_, _, rfl, ?_⟩⟩
        have hmB := lst_off hmA nm.2 DA oB
        have TB_ := Tabs.off TA_ DA oB
        have hbB := tup_off hbA DA oB
        have hrB := tup_off hrA DA oB
        have MB : MadeAt K d l mt HB := ⟨_, _, hmB, fun H' x => goodD_txs (x.tup DB hmB hbB) okx (by omega), fun H' x => goodR_txs (x.tup DB hmB hrB) okr (by omega)⟩
        clear D9 T9 hb9 hr9 hmt eA hmA DA TA_ hbA hrA oB hmB
        -- row
        refine @joinZ (fun H' => DeckAt H' d l (k1 + 11) ∧ Tabs [(Pt, lamQ)] H' ∧ H' b = some (.tup (xs.map V.str)) ∧ H' r = some (.tup (rs.map V.str)) ∧ MadeAt K d l mt H') ?Z1 _ ?first1 ?rest1
        case first1 =>
          intro rest
          obtain ⟨v1, v2', hm2, r1, r3⟩ := id MB
          refine ⟨_, rfl, _, _, rfl, rfl, _, rfl, ite2 (fun _ => ?_) fun _ => ?_⟩
          · refine ⟨_, rfl, _, rfl, _, rfl, d, l, b, r, k1 + 1, xs, rs, rfl, DB, by omega, hbB, hrB, ok, G.sub, l1, l3, few.1, few.2, fun v HC DC oC gv => ?_⟩
            have hmC := lst_off hm2 nm.2 DB oC
            have kC : KeptM d l mt HB (upd HC mt (.lst ([v1, v2'].set 1 v))) := (KeptM.off oC).trans .put
            have p2 : DeckAt (upd HC mt (.lst ([v1, v2'].set 1 v))) d l (k1 + 11) ∧ Tabs [(Pt, lamQ)] (upd HC mt (.lst ([v1, v2'].set 1 v))) ∧ (upd HC mt (.lst ([v1, v2'].set 1 v))) b = some (.tup (xs.map V.str)) ∧ (upd HC mt (.lst ([v1, v2'].set 1 v))) r = some (.tup (rs.map V.str)) ∧ MadeAt K d l mt (upd HC mt (.lst ([v1, v2'].set 1 v))) :=
              ⟨deck_put (DC.up (by omega)) nm.1 nm.2, tabs_put (Tabs.off TB_ DB oC) hmC, kC.tup DB hm2 hbB, kC.tup DB hm2 hrB, _, _, upd_same, fun H' x => r1 H' (kC.trans x), fun H' x => gv H' ((KeptM.put.trans x).keptB DB hm2 DC hmC)⟩
            refine ⟨_, rfl, mt, _, 1, 1, rfl, rfl, hmC, rfl, ?_⟩
            generalize upd HC mt (.lst ([v1, v2'].set 1 v)) = HG at p2 ⊢
            exact rest HG p2
          · exact rest HB ⟨DB.up (by omega), TB_, hbB, hrB, MB⟩
        case rest1 =>
          clear DB TB_ hbB hrB MB HB
          rintro HB ⟨DB, TB_, hbB, hrB, MB⟩
          refine @joinZ (fun H' => DeckAt H' d l (k1 + 21) ∧ Tabs [(Pt, lamQ)] H' ∧ H' b = some (.tup (xs.map V.str)) ∧ H' r = some (.tup (rs.map V.str)) ∧ MadeAt K d l mt H') ?Z2 _ ?first2 ?rest2
          case first2 =>
            intro rest
            obtain ⟨v1, v2', hm2, r1, r3⟩ := id MB
            refine ⟨_, rfl, _, _, rfl, rfl, _, rfl, ite2 (fun _ => ?_) fun _ => ?_⟩
            · refine ⟨_, rfl, _, rfl, d, l, b, k1 + 11, xs, rfl, DB, by omega, hbB, ok, l1, l3, fun v HC DC oC gv => ?_⟩
              have hmC := lst_off hm2 nm.2 DB oC
              have kC : KeptM d l mt HB (upd HC mt (.lst ([v1, v2'].set 0 v))) := (KeptM.off oC).trans .put
              have p2 : DeckAt (upd HC mt (.lst ([v1, v2'].set 0 v))) d l (k1 + 21) ∧ Tabs [(Pt, lamQ)] (upd HC mt (.lst ([v1, v2'].set 0 v))) ∧ (upd HC mt (.lst ([v1, v2'].set 0 v))) b = some (.tup (xs.map V.str)) ∧ (upd HC mt (.lst ([v1, v2'].set 0 v))) r = some (.tup (rs.map V.str)) ∧ MadeAt K d l mt (upd HC mt (.lst ([v1, v2'].set 0 v))) :=
                ⟨deck_put (DC.up (by omega)) nm.1 nm.2, tabs_put (Tabs.off TB_ DB oC) hmC, kC.tup DB hm2 hbB, kC.tup DB hm2 hrB, _, _, upd_same, fun H' x => gv H' ((KeptM.put.trans x).keptB DB hm2 DC hmC), fun H' x => r3 H' (kC.trans x)⟩
              refine ⟨_, rfl, mt, _, 0, 0, rfl, rfl, hmC, rfl, ?_⟩
              generalize upd HC mt (.lst ([v1, v2'].set 0 v)) = HG at p2 ⊢
              exact rest HG p2
            · exact rest HB ⟨DB.up (by omega), TB_, hbB, hrB, MB⟩
          case rest2 =>
            clear DB TB_ hbB hrB MB HB
            rintro HB ⟨DB, TB_, hbB, hrB, v1, v2', hm, r1, r3⟩
            obtain ⟨g1, D1', a1, sh1, s1⟩ := r1 HB .refl
            obtain ⟨g2, D3', a3, s3⟩ := r3 HB .refl
            clear r1 r3
            have sm : Shw HB (.ref mt) (.list [D1', D3']) 4 50000 := (Shws.lst hm (Shws.cons s1 (Shws.cons s3 (Shws.nil (c := 0))))).up (fun _ _ e => e) (by omega) (by omega)
            have big : (PyData.list [D1', D3']).shown.length ≤ sizeLine := by
              have z := shown_cost (PyData.list [D1', D3'])
              have := sm.ct
              rw [sizeLine_eq]
              omega
            have dp : (PyData.list [D1', D3']).depth ≤ 60 := Nat.le_trans sm.dp (by decide)
            -- kept, due
            refine ⟨_, rfl, fun _ => True, .ref mt, _, rfl, sm.dq, sm.sh, dp, big, _, rfl, mt, _, 0, v1, rfl, rfl, SqL.of hm, at_of (j := 0) rfl rfl, _, rfl, mt, _, 1, v2', rfl, rfl, SqL.of hm, at_of (j := 1) rfl rfl,
              v1, v2', g1, g2, rfl, a1, sh1, a3, fun HC eC => ⟨_, _, rfl, ?_⟩⟩
            -- named or not
            refine ⟨by show 2 ≤ sizeLine; decide, fun tt htt => ?_⟩
            have eD : Same HB (upd HC tt (.tup [V.bl false, V.bl true])) := same_trans eC (same_new htt)
            have hTt : upd HC tt (.tup [V.bl false, V.bl true]) tt = some (.tup [V.bl false, V.bl true]) := upd_same
            generalize upd HC tt (.tup [V.bl false, V.bl true]) = HD at eD hTt ⊢
            have TD := Tabs.ext TB_ eD
            refine ⟨tt, rfl, ⟨_, SqT.of hTt⟩, ?_⟩
            refine for_tup (K := K) (a := tt) (xs := [V.bl false, V.bl true]) (fun c3 σ H' => ∃ v10 v11 v12 v13 v14 : Option V, σ = [some (.ref sa), some (.ref d), some (.int (0 + (i : Int))), some (.ref b), some (.ref r), some (.int (0 + (i2 : Int))), some (.ref mt), some (.int wy), some (.str (PyData.list [D1', D3']).shown), some (.str ((choiceDue g1 g2).getD "")), v10, v11, v12, v13, v14] ∧ ExtN HD H' ∧ Tabs [(Pt, lamQ)] H')
              ⟨_, _, _, _, _, rfl, ExtN.of (fun _ _ e => e), TD⟩ (fun c3 σ H' _ ⟨_, _, _, _, _, _, e, _⟩ => SqT.of (tup_ext hTt e)) ?_ ?_
            · rintro c3 y σ HE hy ⟨v10, v11, v12, v13, v14, rfl, eE, TE_⟩
              obtain ⟨nb, rfl⟩ : ∃ nb : Bool, y = V.bl nb := by
                match c3, hy with
                | 0, hy => exact ⟨false, (Option.some.inj hy).symm⟩
                | 1, hy => exact ⟨true, (Option.some.inj hy).symm⟩
              have e0 : ExtN HB HE := (ExtN.of eD).trans eE
              have hmE : HE mt = some (.lst [v1, v2']) := e0 _ _ hm fun _ z => by cases z
              refine ⟨_, rfl, mt, _, 0, v1, rfl, rfl, SqL.of hmE, at_of (j := 0) rfl rfl, _, rfl, mt, _, 1, v2', rfl, rfl, SqL.of hmE, at_of (j := 1) rfl rfl, _, rfl,
                v1, v2', nb, g1, g2, rfl, AnyK.ext e0 a1, sh1, AnyK.ext e0 a3, TE_, fun o dx d' r' t xs' rs' HF du _ _ _ _ _ eF TF hoF _ => ?_, fun wd HF du eF TF => ?_⟩
              · have eBF := e0.trans eF
                refine ⟨_, rfl, rfl, _, rfl, ?_⟩
                rw [du]
                refine iteT ⟨_, rfl, _, _, _, _, true, rfl, .own _, insTy A.S.JC hoF, A.S.JC.me, _, rfl, _, _, rfl, rfl, _, rfl, iteF ?_⟩
                refine ⟨_, rfl, fun _ => True, .ref mt, _, rfl, dq_ext eBF sm.dq, sm.sh, dp, big, _, rfl, rfl, false, by rw [decide_eq_true rfl]; rfl, iteF ?_⟩
                exact ⟨_, _, _, _, _, rfl, eE.trans eF, TF⟩
              · have eBF := e0.trans eF
                refine ⟨_, rfl, rfl, _, rfl, ?_⟩
                rw [du]
                rw [show ((some wd).getD "" : Str) = wd from rfl, due_word du]
                refine iteF ⟨_, rfl, _, rfl, rfl, _, rfl, _, _, rfl, rfl, _, rfl, ?_⟩
                rw [decide_eq_true (show V.str wd = V.str wd from rfl)]
                refine iteF ⟨_, rfl, fun _ => True, .ref mt, _, rfl, dq_ext eBF sm.dq, sm.sh, dp, big, _, rfl, rfl, false, by rw [decide_eq_true rfl]; rfl, iteF ?_⟩
                exact ⟨_, _, _, _, _, rfl, eE.trans eF, TF⟩
            · rintro σ HE ⟨v10, v11, v12, v13, v14, rfl, eE, TE_⟩
              have e0 : ExtN HB HE := (ExtN.of eD).trans eE
              exact ⟨_, _, _, _, _, _, _, _, _, _, rfl, (DB.extN e0).up (by omega), TE_, tup_ext hbB e0, tup_ext hrB e0⟩
      · rintro σ H9 ⟨w5, w6, w7, w8, w9, w10, w11, w12, w13, w14, rfl, D9, T9, hb9, hr9⟩
        exact ⟨_, _, _, _, _, _, _, _, _, _, _, _, _, rfl, D9.up (by omega), T9⟩
    · rintro σ H2 ⟨v2, v3, v4, v5, v6, v7, v8, v9, v10, v11, v12, v13, v14, rfl, D2, T2⟩
      refine ⟨by show 0 ≤ sizeLine; exact Nat.zero_le _, fun t1 ht1 => ⟨by show 0 ≤ sizeLine; exact Nat.zero_le _, fun t2 ht2 => fun x dx hx hdx nd => ?_⟩⟩
      refine choice_made (g1 := some []) (g2 := some []) hx hdx nd (.tup (same_new ht2 _ _ upd_same) .nil (by decide)) (fun os e => ?_) (.tup upd_same .nil (by decide)) (Tabs.ext T2 (same_trans (same_new ht1) (same_new ht2))) (fun d' r' t xs' rs' H' du _ _ _ _ _ _ _ _ _ => ?_) (fun wd dd H' du e1' _ hdd => ?_)
      · obtain rfl := Option.some.inj e
        exact ⟨fun _ z => (nomatch z), by decide⟩
      · rw [due0] at du
        cases du
      · obtain rfl : ("domain" : Str) = wd := Option.some.inj (due0.symm.trans du)
        refine ⟨A.xB, fun a ha => ?_⟩
        refine ⟨_, rfl, A.S.N.C, dd, _, _, _, true, rfl, rfl, rfl, hdd, A.S.N.T, .own _, A.kN, _, rfl, iteT ?_⟩
        refine ⟨_, rfl, A.S.N.C, dd, _, _, _, false, rfl, rfl, rfl, hdd, A.S.N.T, .own _, A.kV, _, rfl, iteT ?_⟩
        refine ⟨_, rfl, A.S.N.C, dd, _, _, _, false, rfl, rfl, rfl, hdd, A.S.N.T, .own _, A.kT, _, rfl, iteT ?_⟩
        refine ⟨_, rfl, rfl, rfl, dd, _, .str "domain", rfl, hdd, by simp, _, rfl, rfl, ?_⟩
        rw [decide_eq_true rfl]
        exact q _
end
end K01
/-! The law's walk from a promise that leans on repr: a law is called where nothing is being shown. -/
namespace KG
open PySem PySem.Spec PyProof.Rows L2
section
variable {P : Program} {w : World} {K : PySem.W.Frag} {mg mb : Str → Option Value} {CX : CXT} {k : Nat} {fa a : Addr} {fd : FuncData} {x : Str} {sp : Sp} {s1 : Shared}
/-- what the law's call must leave -/
abbrev LawR (s1 : Shared) : Result → Shared → Prop := fun r s' => r = .ok (.ret (.bool true)) ∧ OldK s1.heap s'.heap ∧ s'.os = s1.os ∧ AllBare s'.gens
/-- from an abstract heap that knows at most the script -/
theorem law_at {o : Obj} (KI : K.In s1.heap) (n1 : s1.heap.Ns mainGlobals mg) (n2 : s1.heap.Ns builtinsNs mb) (n3 : ∀ y : Str, y ≠ "__name__" → mb y = bootBuiltins y) (lim : s1.heap.NoLimit) (g0 : s1.gens = #[]) (hr : Room k callerA)
    (ho : s1.heap.get? a = some o) (nd : ∀ es ep, o.data ≠ .dict es ep) (F : ∀ base : Heap, K.In base → base.Ns mainGlobals mg → FnG P w K mg base CX k fa fd [x] sp) (bd : ∀ (s : Shared) (u : Value), BindsTo s fd ⟨[u], []⟩ [(x, u)])
    (cx : ∀ H e s', CX [] H s1 (fun _ _ _ => False) e s' → False) (H : Hp) (only : Only H) (ok : HOk P w H s1.heap) (h1 : ∀ b, H b ≠ none → b = a) (h2 : H a ≠ none → K.lookup a = none)
    (pr : sp [.ref a] H (fun v _ => v = .bl true) fun _ _ _ => False) : codeAny (model P w) callerA (.call (.ref fa) ⟨[.ref a], []⟩) (LawR s1) s1 := by
  -- what is no object that H knows stands in the base, too
  have inB : ∀ {b : Addr} {u : Obj}, s1.heap.get? b = some u → (H b ≠ none → False) → (hidT s1.heap H).get? b = some u := fun {b u} e n => hidT_get e (by
    cases q : H b with
    | none => rfl
    | some z => exact (n (by rw [q]; exact fun y => nomatch y)).elim)
  have dictB : ∀ {b : Addr} {u : Obj} {es : Array DictEntry} {ep : Nat}, s1.heap.get? b = some u → u.data = .dict es ep → (hidT s1.heap H).get? b = some u := fun {b u es ep} e d => inB e fun z => by
    have q := h1 b z
    rw [q, ho] at e
    rw [Option.some.inj e] at nd
    exact nd _ _ d
  have nsB : ∀ {b : Addr} {m : Str → Option Value}, s1.heap.Ns b m → (hidT s1.heap H).Ns b m := fun ⟨u, es, ep, e, d, r⟩ => ⟨u, es, ep, dictB e d, d, r⟩
  have KB : K.In (hidT s1.heap H) := fun b u e => inB (KI b u e) fun z => by
    have q := h1 b z
    rw [q] at e z
    rw [h2 z] at e
    cases e
  obtain ⟨mc, l1, l2⟩ := lim
  have env : Env0 P w K mg (hidT s1.heap H) callerA [] s1 H :=
    ⟨rfl, ⟨KB, nsB n1, ⟨mb, nsB n2, n3⟩, ⟨mc, nsB l1, l2⟩⟩, fun _ _ e => of_hidT e, Nat.le_of_eq (hidT_size _ _), trivial, fun _ z => (by cases z), ok, .of_eq g0⟩
  refine codeAny_mono ((F _ KB (nsB n1)).go callerA [] s1 H ⟨[.ref a], []⟩ [.ref a] [.ref a] _ _ rfl hr env (bd s1 (.ref a)) (.cons rfl .nil) pr) ?_
  rintro (er | fl) s' z
  · exact (cx H er s' z).elim
  · cases fl with
    | ret u =>
      obtain ⟨v, H', os, bare, un, ok', r, (rfl : v = .bl true)⟩ := z
      have eu : u = Value.bool true := r
      subst eu
      refine ⟨rfl, OldK.of_keep fun b o' e => ?_, os, bare⟩
      cases q : H b with
      | none => exact un.keep b o' e q (fun z => (by cases z)) (by simp)
      | some t =>
        rcases only b with y | ⟨ob, xs, y⟩
        · rw [q] at y
          cases y
        · have y1 := (ok b _ y).1
          have y2 := (ok' b _ (un.frzs b ob _ y)).1
          rw [e] at y1
          cases y1
          exact y2
    | next => exact z.elim
    | brk => exact z.elim
    | cont => exact z.elim
end
/-- the goal that the head leaves, from such a promise -/
theorem walkG {l : PySem.W.OpenLaw} {n k : Nat} {q : Program} {loose : List Str} {XP : (Str → Option Value) → Heap → Prop} {YP : World → Heap → Prop} {d : DefRec} {K : Params → PySem.W.Frag} {CX : CXT} {sp : PySem.W.Frag → Sp} {x : Str}
    (h1 : l.most = some n) (h2 : n ≤ sizeLine) (h3 : d.params.defaults = []) (hr : Room k callerA) (hY : ∀ (w : World) (h : Heap), YP w h → (K w.params).In h)
    (F : ∀ (w : World) (mg : Str → Option Value) (fa : Addr) (h : Heap), (K w.params).In h → h.Ns mainGlobals mg → mg d.name = some (.ref fa) →
      ∃ fd : FuncData, (∀ (s : Shared) (u : Value), BindsTo s fd ⟨[u], []⟩ [(x, u)]) ∧ ∀ base : Heap, (K w.params).In base → base.Ns mainGlobals mg → FnG l.prog w (K w.params) mg base CX k fa fd [x] (sp (K w.params)))
    (pr : ∀ (K : PySem.W.Frag) (H : Hp) (a : Addr) (ns : List Int), ns.length ≤ n → Only H → SqL K H a (ns.map V.int) → sp K [.ref a] H (fun v _ => v = .bl true) fun _ _ _ => False)
    (cx : ∀ (H : Hp) (s : Shared) (e : Value) (s' : Shared), CX [] H s (fun _ _ _ => False) e s' → False) :
    PySem.W.WalkO q loose XP YP l.row.toRowW d [] (fun f vs => PySem.call f vs) := by
  refine Att.attach_call h1 h3 fun w s0 s1 mg mb fa o pm cd doc a vs ns G Y ho hd hcd hmg hobj hints hlen hg => ?_
  have KI := hY w _ Y
  obtain ⟨fd, bd, FF⟩ := F w mg fa _ KI G.T.g hmg
  have rv := vals_ints hints
  have small : ns.length ≤ sizeLine := Nat.le_trans hlen h2
  have nd : ∀ (es : Array DictEntry) (ep : Nat), (Data.seq vs.toArray 0 : Data) ≠ .dict es ep := fun _ _ z => nomatch z
  cases hk : (K w.params).lookup a with
  | some o1 =>
    have e := KI a o1 hk
    rw [hobj] at e
    cases e
    have none0 : ∀ b, (fun _ : Addr => (none : Option HO)) b ≠ none → False := fun b z => z rfl
    refine law_at KI G.T.g G.T.b G.T.builtins G.T.nolimit hg hr hobj (fun _ _ z => nomatch z) FF bd (fun H e s' => cx H s1 e s') (fun _ => none) (fun _ => .inl rfl) (fun b u z => nomatch z) (fun b z => (none0 b z).elim) (fun z => (none0 a z).elim)
      (pr _ _ _ ns hlen (fun _ => .inl rfl) (.inr ⟨_, vs.toArray, _, hk, rfl, rfl, rfl, ?_, ?_⟩))
    · rw [List.size_toArray, hints.length]
      exact small
    · simpa using rv
  | none =>
    have at_ : (fun b => if b = a then some (HO.frz { cls := .type "list", data := .seq vs.toArray } (.lst (ns.map V.int))) else none) a = some (HO.frz { cls := .type "list", data := .seq vs.toArray } (.lst (ns.map V.int))) := if_pos rfl
    have off : ∀ b, b ≠ a → (fun b => if b = a then some (HO.frz { cls := .type "list", data := .seq vs.toArray } (.lst (ns.map V.int))) else none) b = none := fun b z => if_neg z
    generalize (fun b => if b = a then some (HO.frz { cls := .type "list", data := .seq vs.toArray } (.lst (ns.map V.int))) else none) = H at at_ off
    have only : Only H := fun b => by
      by_cases z : b = a
      · rw [z]
        exact .inr ⟨_, _, at_⟩
      · exact .inl (off b z)
    have here : ∀ b, H b ≠ none → b = a := fun b z => by
      by_cases y : b = a
      · exact y
      · exact absurd (off b y) z
    have ok : HOk l.prog w H s1.heap := fun b u z => by
      have e := here b (by rw [z]; exact fun y => nomatch y)
      rw [e, at_] at z
      cases z
      rw [e]
      exact ⟨hobj, by rw [List.length_map]; exact small, vs, _, rv, hobj⟩
    exact law_at KI G.T.g G.T.b G.T.builtins G.T.nolimit hg hr hobj (fun _ _ z => nomatch z) FF bd (fun H e s' => cx H s1 e s') H only ok here (fun _ => hk) (pr _ _ _ ns hlen only (.inl (.inr ⟨_, at_⟩)))
end KG
/-! The law's walk from a promise that leans on repr, where one def holds a lambda: its code object's table is empty at the law's start, and may have grown behind it. -/
namespace KG
open PySem PySem.Spec PyProof.Rows L2 LamX
section
variable {P : Program} {w : World} {K : PySem.W.Frag} {mg mb : Str → Option Value} {CX : CXT} {k : Nat} {fa a c T : Addr} {fd : FuncData} {x : Str} {sp : Sp} {s1 : Shared}
abbrev tab0 : Obj := { cls := .none, data := .fields #[] }
/-- from an abstract heap that knows the table, and at most the script beside it -/
theorem law_atT {o : Obj} (KI : K.In s1.heap) (n1 : s1.heap.Ns mainGlobals mg) (n2 : s1.heap.Ns builtinsNs mb) (n3 : ∀ y : Str, y ≠ "__name__" → mb y = bootBuiltins y) (lim : s1.heap.NoLimit) (g0 : s1.gens = #[]) (hr : Room k callerA)
    (ho : s1.heap.get? a = some o) (ol : o.cls = .type "list") (od : ∃ vs n, o.data = .seq vs n) (hT : s1.heap.get? T = some tab0) (hC : PySem.W.CodeHd s1.heap c T) (nT : K.lookup T = none)
    (bm : ∃ (bm : Addr) (ob : Obj), mg "__builtins__" = some (.ref bm) ∧ bm ≠ builtinsNs ∧ s1.heap.get? bm = some ob ∧ ob.cls = .type "module" ∧ ob.dict = some builtinsNs ∧ ob.data = .plain)
    (F : ∀ base : Heap, K.In base → base.Ns mainGlobals mg → TabB base mg c T → FnG P w K mg base CX k fa fd [x] sp) (bd : ∀ (s : Shared) (u : Value), BindsTo s fd ⟨[u], []⟩ [(x, u)])
    (cx : ∀ H e s', CX [] H s1 (fun _ _ _ => False) e s' → False) (H : Hp) (hHT : H T = some (.tbl #[])) (only : ∀ b, b ≠ T → H b = none ∨ ∃ ob xs, H b = some (.frz ob (.lst xs))) (ok : HOk P w H s1.heap) (h1 : ∀ b, H b ≠ none → b = a ∨ b = T) (h2 : H a ≠ none → K.lookup a = none)
    (pr : sp [.ref a] H (fun v _ => v = .bl true) fun _ _ _ => False) : codeAny (model P w) callerA (.call (.ref fa) ⟨[.ref a], []⟩) (LawR s1) s1 := by
  have naT : a ≠ T := fun z => by
    rw [z, hT] at ho
    cases ho
    cases ol
  -- what is neither the script nor the table stands in the base, too
  have inB : ∀ {b : Addr} {u : Obj}, s1.heap.get? b = some u → u.cls ≠ .type "list" → u ≠ tab0 → (hidT s1.heap H).get? b = some u := fun {b u} e e1 e2 => hidT_get e (by
    cases q : H b with
    | none => rfl
    | some z =>
      rcases h1 b (by rw [q]; exact fun y => nomatch y) with y | y
      · rw [y, ho] at e
        exact (e1 (by rw [← Option.some.inj e]; exact ol)).elim
      · rw [y, hT] at e
        exact (e2 (Option.some.inj e).symm).elim)
  have dictB : ∀ {b : Addr} {u : Obj} {es : Array DictEntry} {ep : Nat}, s1.heap.get? b = some u → u.data = .dict es ep → (hidT s1.heap H).get? b = some u := fun {b u es ep} e d => hidT_get e (by
    cases q : H b with
    | none => rfl
    | some z =>
      rcases h1 b (by rw [q]; exact fun y => nomatch y) with y | y
      · rw [y, ho] at e
        cases e
        obtain ⟨vs, n, z⟩ := od
        rw [d] at z
        cases z
      · rw [y, hT] at e
        cases e
        cases d)
  have nsB : ∀ {b : Addr} {m : Str → Option Value}, s1.heap.Ns b m → (hidT s1.heap H).Ns b m := fun ⟨u, es, ep, e, d, r⟩ => ⟨u, es, ep, dictB e d, d, r⟩
  have KB : K.In (hidT s1.heap H) := fun b u e => hidT_get (KI b u e) (by
    cases q : H b with
    | none => rfl
    | some z =>
      rcases h1 b (by rw [q]; exact fun y => nomatch y) with y | y
      · have z2 := h2 (by rw [← y, q]; exact fun y => nomatch y)
        rw [y, z2] at e
        cases e
      · rw [y, nT] at e
        cases e)
  obtain ⟨mc, l1, l2⟩ := lim
  have env : Env0 P w K mg (hidT s1.heap H) callerA [] s1 H :=
    ⟨rfl, ⟨KB, nsB n1, ⟨mb, nsB n2, n3⟩, ⟨mc, nsB l1, l2⟩⟩, fun _ _ e => of_hidT e, Nat.le_of_eq (hidT_size _ _), trivial, fun _ z => (by cases z), ok, .of_eq g0⟩
  have TB : TabB (hidT s1.heap H) mg c T := by
    refine ⟨?_, ?_, fun z => ?_⟩
    · obtain ⟨oc, vs, r1, r2, r3, r4, r5, r6, r7, e, ec, ed, r⟩ := hC
      exact ⟨oc, vs, r1, r2, r3, r4, r5, r6, r7, inB e (by rw [ec]; decide) (fun z => by rw [z] at ec; cases ec), ec, ed, r⟩
    · obtain ⟨m, om, e1, e2, e3, e4, e5, e6⟩ := bm
      refine ⟨m, om, e1, e2, fun z => ?_, fun z => ?_, inB e3 (by rw [e4]; decide) (fun z => by rw [z] at e4; cases e4), e4, e5, e6⟩
      · obtain ⟨u, es, ep, f1, f2, _⟩ := n1
        rw [← z, e3] at f1
        cases f1
        rw [e6] at f2
        cases f2
      · rw [z, hT] at e3
        cases e3
        cases e4
    · obtain ⟨u, es, ep, f1, f2, _⟩ := n1
      rw [z, hT] at f1
      cases f1
      cases f2
  refine codeAny_mono ((F _ KB (nsB n1) TB).go callerA [] s1 H ⟨[.ref a], []⟩ [.ref a] [.ref a] _ _ rfl hr env (bd s1 (.ref a)) (.cons rfl .nil) pr) ?_
  rintro (er | fl) s' z
  · exact (cx H er s' z).elim
  · cases fl with
    | ret u =>
      obtain ⟨v, H', os, bare, un, ok', r, (rfl : v = .bl true)⟩ := z
      have eu : u = Value.bool true := r
      subst eu
      obtain ⟨more, hT'⟩ := un.tbls T #[] hHT
      have gT : s'.heap.get? T = some { cls := .none, data := .fields (#[] ++ more) } := ok' T _ hT'
      have kept : ∀ b o', b ≠ T → s1.heap.get? b = some o' → s'.heap.get? b = some o' := fun b o' nb e => by
        cases q : H b with
        | none => exact un.keep b o' e q (fun z => (by cases z)) (by simp)
        | some t =>
          rcases only b nb with y | ⟨ob, xs, y⟩
          · rw [q] at y
            cases y
          · have y1 := (ok b _ y).1
            have y2 := (ok' b _ (un.frzs b ob _ y)).1
            rw [e] at y1
            cases y1
            exact y2
      refine ⟨rfl, ⟨fun b o' e => ?_, fun b o' e => ?_⟩, os, bare⟩
      · by_cases hb : b = T
        · rw [hb, hT] at e
          cases e
          rw [hb]
          exact .inr (.inl ⟨(hC.tab hT).isCodeTable, rfl, #[], more, rfl, gT⟩)
        · exact .inl (kept b o' hb e)
      · by_cases hb : b = T
        · rw [hb]
          exact ⟨_, gT⟩
        · exact ⟨o', kept b o' hb e⟩
    | next => exact z.elim
    | brk => exact z.elim
    | cont => exact z.elim
end
/-- a def of the top whose code object stands in the fragment, its table not -/
structure CodeAt (K : PySem.W.Frag) (mg : Str → Option Value) (nm : Str) (c T : Addr) : Prop where
  ex : ∃ (g : Addr) (o : Obj) (gd : FuncData) (e : Value) (dd : Option Addr) (vs : Array Value) (sl : Array (Option Value)), mg nm = some (.ref g) ∧ K.lookup g = some o ∧ o.data = .func gd ∧ gd.code = .ref c ∧ K.lookup c = some ⟨e, dd, .fields vs, sl⟩ ∧ vs[11]? = some (.ref T)
  out : K.lookup T = none
/-- the goal that the head leaves, from such a promise -/
theorem walkT {l : PySem.W.OpenLaw} {n k : Nat} {q : Program} {loose : List Str} {XP : (Str → Option Value) → Heap → Prop} {YP : World → Heap → Prop} {d : DefRec} {K : Params → PySem.W.Frag} {CX : CXT} {sp : PySem.W.Frag → Addr → Sp} {x nm : Str}
    (h1 : l.most = some n) (h2 : n ≤ sizeLine) (h3 : d.params.defaults = []) (hr : Room k callerA) (hrec : ((recsOf q).any fun e => e.name == nm) = true) (hY : ∀ (w : World) (h : Heap), YP w h → (K w.params).In h)
    (F : ∀ (w : World) (mg : Str → Option Value) (fa : Addr) (h : Heap), (K w.params).In h → h.Ns mainGlobals mg → mg d.name = some (.ref fa) →
      ∃ (fd : FuncData) (c T : Addr), CodeAt (K w.params) mg nm c T ∧ (∀ (s : Shared) (u : Value), BindsTo s fd ⟨[u], []⟩ [(x, u)]) ∧ ∀ base : Heap, (K w.params).In base → base.Ns mainGlobals mg → TabB base mg c T → FnG l.prog w (K w.params) mg base CX k fa fd [x] (sp (K w.params) T))
    (pr : ∀ (K : PySem.W.Frag) (H : Hp) (a T : Addr) (ns : List Int), ns.length ≤ n → H T = some (.tbl #[]) → SqL K H a (ns.map V.int) → sp K T [.ref a] H (fun v _ => v = .bl true) fun _ _ _ => False)
    (cx : ∀ (H : Hp) (s : Shared) (e : Value) (s' : Shared), CX [] H s (fun _ _ _ => False) e s' → False) :
    PySem.W.WalkO q loose XP YP l.row.toRowW d [] (fun f vs => PySem.call f vs) := by
  refine Att.attach_call h1 h3 fun w s0 s1 mg mb fa o pm cd doc a vs ns G Y ho hd hcd hmg hobj hints hlen hg => ?_
  have KI := hY w _ Y
  obtain ⟨fd, c, T, CA, bd, FF⟩ := F w mg fa _ KI G.T.g hmg
  obtain ⟨hC, hT⟩ : PySem.W.CodeHd s1.heap c T ∧ s1.heap.get? T = some tab0 := by
    obtain ⟨g, og, gd, e, dd, us, sl, k1, k2, k3, k4, k5, k6⟩ := CA.ex
    obtain ⟨dL, hm, hn1⟩ := List.any_eq_true.mp hrec
    obtain ⟨g', og', gd', c', T', f1, f2, f3, f4, f5, f6⟩ := G.T.tab dL hm
    rw [beq_iff_eq.mp hn1, k1] at f1
    cases f1
    rw [KI _ _ k2] at f2
    cases f2
    rw [k3] at f3
    cases f3
    rw [k4] at f4
    cases f4
    obtain ⟨oc, vc, e1, e2, e3, e4⟩ := f6.1
    have e5 := e1
    rw [KI _ _ k5] at e5
    cases e5
    cases e3
    rw [k6] at e4
    cases e4
    exact ⟨.of f5 f6, f6.2⟩
  have rv := vals_ints hints
  have small : ns.length ≤ sizeLine := Nat.le_trans hlen h2
  have naT : a ≠ T := fun z => by
    rw [z, hT] at hobj
    cases hobj
  cases hk : (K w.params).lookup a with
  | some o1 =>
    have e := KI a o1 hk
    rw [hobj] at e
    cases e
    have at_ : (fun b => if b = T then some (HO.tbl #[]) else none) T = some (HO.tbl #[]) := if_pos rfl
    have off : ∀ b, b ≠ T → (fun b => if b = T then some (HO.tbl #[]) else none) b = none := fun b z => if_neg z
    generalize (fun b => if b = T then some (HO.tbl #[]) else none) = H at at_ off
    have here : ∀ b, H b ≠ none → b = T := fun b z => by
      by_cases y : b = T
      · exact y
      · exact absurd (off b y) z
    refine law_atT KI G.T.g G.T.b G.T.builtins G.T.nolimit hg hr hobj rfl ⟨_, _, rfl⟩ hT hC CA.out G.T.bmain FF bd (fun H e s' => cx H s1 e s') H at_ (fun b z => .inl (off b z)) (fun b u z => ?_) (fun b z => .inr (here b z)) (fun z => absurd (here a z) naT)
      (pr _ _ _ _ ns hlen at_ (.inr ⟨_, vs.toArray, _, hk, rfl, rfl, rfl, ?_, ?_⟩))
    · have e := here b (by rw [z]; exact fun y => nomatch y)
      rw [e, at_] at z
      cases z
      rw [e]
      exact hT
    · rw [List.size_toArray, hints.length]
      exact small
    · simpa using rv
  | none =>
    have at_ : (fun b => if b = a then some (HO.frz { cls := .type "list", data := .seq vs.toArray } (.lst (ns.map V.int))) else if b = T then some (HO.tbl #[]) else none) a = some (HO.frz { cls := .type "list", data := .seq vs.toArray } (.lst (ns.map V.int))) := if_pos rfl
    have atT : (fun b => if b = a then some (HO.frz { cls := .type "list", data := .seq vs.toArray } (.lst (ns.map V.int))) else if b = T then some (HO.tbl #[]) else none) T = some (HO.tbl #[]) := (if_neg (Ne.symm naT)).trans (if_pos rfl)
    have off : ∀ b, b ≠ a → b ≠ T → (fun b => if b = a then some (HO.frz { cls := .type "list", data := .seq vs.toArray } (.lst (ns.map V.int))) else if b = T then some (HO.tbl #[]) else none) b = none := fun b z y => (if_neg z).trans (if_neg y)
    generalize (fun b => if b = a then some (HO.frz { cls := .type "list", data := .seq vs.toArray } (.lst (ns.map V.int))) else if b = T then some (HO.tbl #[]) else none) = H at at_ atT off
    have here : ∀ b, H b ≠ none → b = a ∨ b = T := fun b z => by
      by_cases y : b = a
      · exact .inl y
      · by_cases y2 : b = T
        · exact .inr y2
        · exact absurd (off b y y2) z
    have ok : HOk l.prog w H s1.heap := fun b u z => by
      rcases here b (by rw [z]; exact fun y => nomatch y) with e | e
      · rw [e, at_] at z
        cases z
        rw [e]
        exact ⟨hobj, by rw [List.length_map]; exact small, vs, _, rv, hobj⟩
      · rw [e, atT] at z
        cases z
        rw [e]
        exact hT
    refine law_atT KI G.T.g G.T.b G.T.builtins G.T.nolimit hg hr hobj rfl ⟨_, _, rfl⟩ hT hC CA.out G.T.bmain FF bd (fun H e s' => cx H s1 e s') H atT (fun b z => ?_) ok here (fun _ => hk) (pr _ _ _ _ ns hlen atT (.inl (.inr ⟨_, at_⟩)))
    by_cases y : b = a
    · rw [y]
      exact .inr ⟨_, _, at_⟩
    · exact .inl (off b y z)
end KG
/-! What the top has written: each def, each class, from what is read there. -/
namespace K01
open PySem PySem.Spec PyProof.Rows L2 KG KS KA KX KLm KIa LamX
open PySem.W (excTail)
section
variable {K : PySem.W.Frag} {h : Heap} {mg : Str → Option Value}
theorem fn_ex (X : K.In h) (G : h.Ns mainGlobals mg) {x : Str} {st : Stmt} {f : Addr} {oc kV doc pm cdv ct : Value} {od an : Option Addr} {osl : Array (Option Value)} (a : PySem.W.nsIn K mainGlobals x = some (some (.ref f)))
    (l : K.lookup f = some ⟨oc, od, .func (PySem.W.fnOf x x (defArgs st) (defBody st) (defScope st) .none kV doc pm an cdv ct), osl⟩) (c : PySem.W.codeIn K cdv x = true) (k : PySem.W.keepIn K (.ref f) = true) : ∃ e : FnF K mg x x st, e.a = f :=
  ⟨⟨f, _, fun_mk l c k, PySem.W.mg_of X G a⟩, rfl⟩
/-- a def and its code object -/
theorem fc_ex (X : K.In h) (G : h.Ns mainGlobals mg) {x : Str} {st : Stmt} {f cd T : Addr} {oc kV doc pm ct e : Value} {od an dd : Option Addr} {osl sl : Array (Option Value)} {vs : Array Value} (a : PySem.W.nsIn K mainGlobals x = some (some (.ref f)))
    (l : K.lookup f = some ⟨oc, od, .func (PySem.W.fnOf x x (defArgs st) (defBody st) (defScope st) .none kV doc pm an (.ref cd) ct), osl⟩) (c : PySem.W.codeIn K (.ref cd) x = true) (k : PySem.W.keepIn K (.ref f) = true)
    (lc : K.lookup cd = some ⟨e, dd, .fields vs, sl⟩) (t : vs[11]? = some (.ref T)) (o : K.lookup T = none) : ∃ e : FnC K mg x st, e.c = cd ∧ CodeAt K mg x cd T :=
  ⟨⟨⟨f, _, fun_mk l c k, PySem.W.mg_of X G a⟩, cd, ⟨oc, od, an, osl, kV, doc, pm, ct, rfl, l, c⟩⟩, rfl, ⟨⟨f, _, _, e, dd, vs, sl, PySem.W.mg_of X G a, l, rfl, rfl, lc, t⟩, o⟩⟩
theorem mf_ex (X : K.In h) {C : Addr} {x qual : Str} {st : Stmt} {f : Addr} {oc kV doc pm cdv ct : Value} {od an : Option Addr} {osl : Array (Option Value)} (a : PySem.W.findIn K (.ref C) x = some (some (.ref f)))
    (l : K.lookup f = some ⟨oc, od, .func (PySem.W.fnOf x qual (defArgs st) (defBody st) (defScope st) .none kV doc pm an cdv ct), osl⟩) (c : PySem.W.codeIn K cdv qual = true) (k : PySem.W.keepIn K (.ref f) = true) (i : PySem.W.isFn K (.ref f) = true) :
    ∃ e : MtF K x qual st, e.a = f ∧ PySem.W.findIn K (.ref C) x = some (some (.ref e.a)) ∧ PySem.W.isFn K (.ref e.a) = true := ⟨⟨f, _, fun_mk l c k⟩, rfl, a, i⟩
theorem ci_ex (X : K.In h) {C : Addr} {x qual y : Str} {st : Stmt} {f : Addr} {oc kV doc pm cdv ct : Value} {od an : Option Addr} {osl : Array (Option Value)} (g : PySem.W.nsIn K mainGlobals y = some (some (.ref C))) (a : PySem.W.findIn K (.ref C) x = some (some (.ref f)))
    (l : K.lookup f = some ⟨oc, od, .func (PySem.W.fnOf x qual (defArgs st) (defBody st) (defScope st) .none kV doc pm an cdv ct), osl⟩) (c : PySem.W.codeIn K cdv qual = true) (k : PySem.W.keepIn K (.ref f) = true) : ∃ e : MtF K x qual st, e.a = f := ⟨⟨f, _, fun_mk l c k⟩, rfl⟩
theorem cm_ex (X : K.In h) {C p g : Addr} {mc : Value} {rest : List Value} {m qual : Str} {st : Stmt} {oc kV doc pm cdv ct : Value} {od an : Option Addr} {osl : Array (Option Value)}
    (a : PySem.W.findCls K (.ref C) mc m = some (.get (.builtin "classmethod.__get__") (.ref p) .none (.ref C))) (r : PySem.W.recIn K p "classmethod" = some (.ref g :: rest))
    (l : K.lookup g = some ⟨oc, od, .func (PySem.W.fnOf m qual (defArgs st) (defBody st) (defScope st) .none kV doc pm an cdv ct), osl⟩) (c : PySem.W.codeIn K cdv qual = true) (k : PySem.W.keepIn K (.ref g) = true) (i : PySem.W.fnIn K g = true) :
    Nonempty (MtC K C mc m qual st) := ⟨⟨⟨g, _, fun_mk l c k⟩, p, ⟨a, ⟨_, r⟩, i⟩⟩⟩
theorem rd_ex (X : K.In h) {C : Addr} {mc : Value} (r : PySem.W.readsIn K C mc = true) (g : PySem.W.specialIn K (.ref C) "__getattribute__" = some (some (.builtin "type.__getattribute__"))) : ClX.CRead K C mc := ⟨r, g⟩
theorem kw_ex {m qual : Str} {st : Stmt} {ps : List Str} {k1 : Str} (e : MtF K m qual st)
    (h : ∀ (kV doc pm : Value) (an : Option Addr) (cdv ct : Value) (u v : Value), bindArgs (PySem.W.fnOf m qual (defArgs st) (defBody st) (defScope st) .none kV doc pm an cdv ct) ⟨[u], [(k1, v)]⟩ = pure (ps.zip [u, v])) : KwOne e.d ps k1 := kwOne e.F h
theorem bs_ex (X : K.In h) (G : h.Ns mainGlobals mg) {t1 t2 : Tok} (z1 : PySem.W.nsIn K mainGlobals "list" = some none) (z2 : PySem.W.nsIn K mainGlobals "int" = some none) (z3 : PySem.W.nsIn K mainGlobals "len" = some none)
    (z4 : PySem.W.nsIn K mainGlobals "range" = some none) (z5 : PySem.W.nsIn K mainGlobals "tuple" = some none) (z6 : PySem.W.nsIn K mainGlobals "repr" = some none) (z7 : PySem.W.nsIn K mainGlobals "isinstance" = some none)
    (z8 : PySem.W.nsIn K mainGlobals "all" = some none) (z9 : PySem.W.nsIn K mainGlobals "sorted" = some none) (zA : PySem.W.nsIn K mainGlobals "set" = some none) (zB : PySem.W.nsIn K mainGlobals "str" = some none) (zC : PySem.W.nsIn K mainGlobals "bool" = some none)
    (zD : PySem.W.nsIn K mainGlobals "dict" = some none) (zE : PySem.W.nsIn K mainGlobals "zip" = some none)
    (c1 : PySem.W.nsIn K mainGlobals "LONGEST_NAME" = some (some (.int 8 t1))) (c2 : PySem.W.nsIn K mainGlobals "MOST_VALUES" = some (some (.int 3 t2))) : Bz mg :=
  { n_list := PySem.W.mg_none_of X G z1, n_int := PySem.W.mg_none_of X G z2, n_len := PySem.W.mg_none_of X G z3, n_range := PySem.W.mg_none_of X G z4, n_tuple := PySem.W.mg_none_of X G z5, n_repr := PySem.W.mg_none_of X G z6,
    n_isinstance := PySem.W.mg_none_of X G z7, n_all := PySem.W.mg_none_of X G z8, n_sorted := PySem.W.mg_none_of X G z9, n_set := PySem.W.mg_none_of X G zA, n_str := PySem.W.mg_none_of X G zB, n_bool := PySem.W.mg_none_of X G zC,
    n_dict := PySem.W.mg_none_of X G zD, n_zip := PySem.W.mg_none_of X G zE, c_name := ⟨t1, PySem.W.mg_of X G c1⟩, c_vals := ⟨t2, PySem.W.mg_of X G c2⟩ }
theorem ch_ex (X : K.In h) (G : h.Ns mainGlobals mg) {C f : Addr} (g : PySem.W.nsIn K mainGlobals "Choice" = some (some (.ref C))) (pg : PySem.W.plainGet K C Str.empty = true) (hd : PySem.W.hasDictIn K C = true) (po : PySem.W.plainOver K C = true)
    (sa : PySem.W.findIn K (.ref C) "__setattr__" = some (some (.builtin "object.__setattr__"))) (mk : PySem.W.makesIn K C = true) (i : PySem.W.findIn K (.ref C) "__init__" = some (some (.ref f))) (fn : PySem.W.isFn K (.ref f) = true) (kp : PySem.W.keepIn K (.ref C) = true)
    (n1 : PySem.W.findIn K (.ref C) "domain" = some none) (n2 : PySem.W.findIn K (.ref C) "results" = some none) (n3 : PySem.W.findIn K (.ref C) "result_of" = some none)
    (ha : PySem.W.findIn K (.ref C) "__class__" = some (some (.builtin "object.__class__"))) (hn : PySem.W.specialIn K (.builtin "object.__class__") "__get__" = some (some (.builtin "getset_descriptor.__get__"))) (htk : PySem.W.takesIn K (.builtin "object.__class__") = some true)
    (hm : PySem.W.mroIn K C (.type "object") = some true) :
    ∃ tc : ChC K mg f, tc.C = C ∧ C8.InsC K tc.C := ⟨⟨C, PySem.W.mg_of X G g, ⟨pg, hd, po, sa⟩, ⟨mk, i, fn, kp⟩, n1, n2, n3⟩, rfl, ⟨⟨pg, hd, po, sa⟩, ha, hn, htk, hm, by unfold PySem.W.kitOne; rw [if_pos (beq_self_eq_true _)]⟩⟩
theorem vt_ex (X : K.In h) (G : h.Ns mainGlobals mg) {C f : Addr} (g : PySem.W.nsIn K mainGlobals "Vote" = some (some (.ref C))) (pg : PySem.W.plainGet K C Str.empty = true) (hd : PySem.W.hasDictIn K C = true) (po : PySem.W.plainOver K C = true)
    (sa : PySem.W.findIn K (.ref C) "__setattr__" = some (some (.builtin "object.__setattr__"))) (mk : PySem.W.makesIn K C = true) (i : PySem.W.findIn K (.ref C) "__init__" = some (some (.ref f))) (fn : PySem.W.isFn K (.ref f) = true) (kp : PySem.W.keepIn K (.ref C) = true)
    (n1 : PySem.W.findIn K (.ref C) "domain" = some none) (n2 : PySem.W.findIn K (.ref C) "count" = some none) (n3 : PySem.W.findIn K (.ref C) "results" = some none) (n4 : PySem.W.findIn K (.ref C) "result_of" = some none)
    (ha : PySem.W.findIn K (.ref C) "__class__" = some (some (.builtin "object.__class__"))) (hn : PySem.W.specialIn K (.builtin "object.__class__") "__get__" = some (some (.builtin "getset_descriptor.__get__"))) (htk : PySem.W.takesIn K (.builtin "object.__class__") = some true)
    (hm : PySem.W.mroIn K C (.type "object") = some true) :
    ∃ tc : VtC K mg f, tc.C = C ∧ C8.InsC K tc.C := ⟨⟨C, PySem.W.mg_of X G g, ⟨pg, hd, po, sa⟩, ⟨mk, i, fn, kp⟩, n1, n2, n3, n4⟩, rfl, ⟨⟨pg, hd, po, sa⟩, ha, hn, htk, hm, by unfold PySem.W.kitOne; rw [if_pos (beq_self_eq_true _)]⟩⟩
/-- the class of the error -/
theorem er_ex (X : K.In h) (G : h.Ns mainGlobals mg) {C N f : Addr} {nm q : Str} {bs bm : List Value} {sn : List Str} {sub : List Value} {ab : Bool} {col : Option Bool} {dd : Option Addr} {m0 m1 m2 m3 m5 : Option Value} {oc kV doc pm cdv ct : Value} {od an : Option Addr} {osl : Array (Option Value)}
    (g : PySem.W.nsIn K mainGlobals "NoChoice" = some (some (.ref C))) (gn : PySem.W.specialIn K (.builtin "object.__class__") "__get__" = some (some (.builtin "getset_descriptor.__get__"))) (tk : PySem.W.takesIn K (.builtin "object.__class__") = some true)
    (l : K.lookup C = some (excClassObj nm q C N bs bm true sn sub ab col dd m0 m1 m2 m3 m5 "Exception.__new__")) (tl : excTail exTl bm = true)
    (sa : PySem.W.findIn K (.ref C) "__setattr__" = some (some (.builtin "object.__setattr__"))) (ga : PySem.W.findIn K (.ref C) "__getattribute__" = some (some (.builtin "BaseException.__getattribute__"))) (gg : PySem.W.findIn K (.ref C) "__getattr__" = some none)
    (bx : PySem.W.subIn K (.ref C) (.type "BaseException") = some true) (kp : PySem.W.keepIn K (.ref C) = true) (hd : PySem.W.hasDictIn K C = true) (cl : PySem.W.findIn K (.ref C) "__class__" = some (some (.builtin "object.__class__")))
    (mo : PySem.W.mroIn K C (.type "object") = some true) (ty : PySem.W.typeIn K (.ref C) = some (.type "type"))
    (i : PySem.W.findIn K (.ref C) "__init__" = some (some (.ref f))) (t : PySem.W.typeIn K (.ref f) = some (.type "function")) (n : PySem.W.findIn K (.ref C) "word" = some none)
    (lf : K.lookup f = some ⟨oc, od, .func (PySem.W.fnOf "__init__" "NoChoice.__init__" (defArgs s_noInit) (defBody s_noInit) (defScope s_noInit) .none kV doc pm an cdv ct), osl⟩) (c : PySem.W.codeIn K cdv "NoChoice.__init__" = true) (k : PySem.W.keepIn K (.ref f) = true)
    (ms : PySem.W.mroIn K C (.ref C) = some true) : ∃ e : ErC K mg, e.C = C ∧ XfC K e.C := by
  have hcls : (PySem.W.clsIn K C).isSome = true := by
    unfold PySem.W.clsIn
    rw [l]
    rfl
  have ex : PySem.W.exmOne K (.ref C) (.ref C) = some true := by
    unfold PySem.W.exmOne
    rw [bx, if_pos (by rfl)]
    unfold PySem.W.kitCls
    dsimp only
    rw [if_pos (by rw [hcls, ty]; exact beq_self_eq_true _)]
    exact ms
  have xf : xfB K C = true := by simp [xfB, ga, gg, bx, hd]
  exact ⟨⟨C, PySem.W.mg_of X G g, ⟨⟨nm, q, N, bs, _, sn, sub, ab, col, dd, m0, m1, m2, m3, m5, l, tl⟩, sa, ga, gg, bx, kp, hd, cl, gn, tk, mo⟩, f, _, fun_mk lf c k, i, t, n, ty, ex⟩, rfl, xfB_ok xf⟩
theorem nf_sub {t : Value} {C : Addr} (h : PySem.W.subIn K t (.ref C) = some false) : PySem.W.notFirst K C t = true := by
  unfold PySem.W.notFirst
  rw [h]
  simp
theorem nf_self {C : Addr} : PySem.W.notFirst K C (.ref C) = true := by
  unfold PySem.W.notFirst
  rw [beq_self_eq_true, Bool.true_or]
theorem kit_no {t : Value} {C : Addr} (hd : PySem.W.hasDictIn K C = true) (ty : PySem.W.typeIn K (.ref C) = some (.type "type")) (h : PySem.W.subIn K t (.ref C) = some false) (ne : (t == Value.ref C) = false) : PySem.W.kitOne K t (.ref C) = some false := by
  obtain ⟨cd, hc, _⟩ := PySem.W.any_some hd
  unfold PySem.W.kitOne
  rw [ne, if_neg Bool.false_ne_true]
  unfold PySem.W.kitCls
  dsimp only
  rw [if_pos (by rw [hc, ty]; exact beq_self_eq_true _)]
  exact h
theorem kit_self {C : Addr} : PySem.W.kitOne K (.ref C) (.ref C) = some true := by
  unfold PySem.W.kitOne
  rw [if_pos (beq_self_eq_true _)]
theorem cls_ex (X : K.In h) (G : h.Ns mainGlobals mg) {x : Str} {C t : Addr} {b : Bool} (g : PySem.W.nsIn K mainGlobals x = some (some (.ref C))) (hd : PySem.W.hasDictIn K C = true) (ty : PySem.W.typeIn K (.ref C) = some (.type "type")) (bx : PySem.W.subIn K (.ref C) (.type "BaseException") = some true) (s : PySem.W.subIn K (.ref t) (.ref C) = some b) :
    ∃ e : Addr, e = C ∧ mg x = some (.ref e) ∧ PySem.W.hasDictIn K e = true ∧ PySem.W.typeIn K (.ref e) = some (.type "type") ∧ PySem.W.subIn K (.ref e) (.type "BaseException") = some true ∧ PySem.W.subIn K (.ref t) (.ref e) = some b := ⟨C, rfl, PySem.W.mg_of X G g, hd, ty, bx, s⟩
theorem vt_facts (X : K.In h) {c V d C : Addr} (hV : c = V) (hC : d = C) (a : PySem.W.hasDictIn K V = true) (b : PySem.W.typeIn K (.ref V) = some (.type "type")) (s : PySem.W.subIn K (.ref C) (.ref V) = some false) : PySem.W.hasDictIn K c = true ∧ PySem.W.typeIn K (.ref c) = some (.type "type") ∧ PySem.W.subIn K (.ref d) (.ref c) = some false := by
  rw [hV, hC]
  exact ⟨a, b, s⟩
theorem sub_tuple {C : Addr} : PySem.W.subIn K (.type "tuple") (.ref C) = some false := by
  with_unfolding_all rfl
theorem law_ex {P : Program} {w : World} {fa T cd : Addr} (ca : CodeAt K mg "sets_up_to" cd T) (hfa : mg "law" = some (.ref fa)) (A : All K mg) (f : FnF K mg "law" "law" s_law) :
    ∃ fd : FuncData, (∀ (s : Shared) (u : Value), BindsTo s fd ⟨[u], []⟩ [("_law_script", u)]) ∧ ∀ base : Heap, K.In base → base.Ns mainGlobals mg → TabB base mg A.S.cf.sup.c T → FnG P w K mg base CX0 10 fa fd ["_law_script"] (spLaw K T) := by
  have e : fa = f.a := Value.ref.inj (Option.some.inj (hfa.symm.trans f.g))
  subst e
  have bd : ∀ (s : Shared) (u : Value), BindsTo s f.d ⟨[u], []⟩ [("_law_script", u)] := by
    obtain ⟨oc, od, kV, doc, pm, an, cdv, ct, osl, e, _, _⟩ := f.F.ex
    rw [e]
    exact fun s u => .of_eq rfl
  exact ⟨f.d, bd, fun base _ _ TB => ok_law A TB f⟩
end
end K01
open PySem PySem.W PyProof.Rows
set_option maxRecDepth 100000 in
set_option maxHeartbeats 0 in
theorem PySem.Challenge.cw_clashnumber_k32_choices_of_any_value_holds : PySem.Challenge.rw_clashnumber_k32_choices_of_any_value.Holds := by
  w_on; o_law; k_head; (case hw => w_witness2)
  k_fill
  refine KG.walkT (l := PySem.Challenge.rw_clashnumber_k32_choices_of_any_value) (n := 63) (k := 10) (x := "_law_script") (nm := "sets_up_to") (CX := L2.CX0) (sp := K01.spLaw) rfl (by decide) rfl ⟨rfl, by decide, by decide⟩ (by decide +kernel) (fun w h Y => PySem.W.km_in_of Y) ?F (fun K H a T ns hl hT hS => ⟨a, ns, rfl, hS, hl, hT, fun _ => rfl⟩) (fun _ _ _ _ z => z)
  case F =>
    intro w mg fa h KX G hmg
    have B := K01.bs_ex KX G (by k_is) (by k_is) (by k_is) (by k_is) (by k_is) (by k_is) (by k_is) (by k_is) (by k_is) (by k_is) (by k_is) (by k_is) (by k_is) (by k_is) (by k_is) (by k_is)
    obtain ⟨f_is_domain, -⟩ := K01.fn_ex (x := "is_domain") (st := K01.s_is_domain) KX G (by k_is) (by k_is) (by k_is) (by k_is)
    obtain ⟨f_are_names, -⟩ := K01.fn_ex (x := "are_names") (st := K01.s_are_names) KX G (by k_is) (by k_is) (by k_is) (by k_is)
    obtain ⟨f_is_name, -⟩ := K01.fn_ex (x := "is_name") (st := K01.s_is_name) KX G (by k_is) (by k_is) (by k_is) (by k_is)
    obtain ⟨f_ascending, -⟩ := K01.fn_ex (x := "ascending") (st := K01.s_ascending) KX G (by k_is) (by k_is) (by k_is) (by k_is)
    obtain ⟨f_is_row, -⟩ := K01.fn_ex (x := "is_row") (st := K01.s_is_row) KX G (by k_is) (by k_is) (by k_is) (by k_is)
    obtain ⟨f_all_rows, -⟩ := K01.fn_ex (x := "all_rows") (st := K01.s_all_rows) KX G (by k_is) (by k_is) (by k_is) (by k_is)
    obtain ⟨f_without, -⟩ := K01.fn_ex (x := "without") (st := K01.s_without) KX G (by k_is) (by k_is) (by k_is) (by k_is)
    obtain ⟨f_winner, -⟩ := K01.fn_ex (x := "winner") (st := K01.s_winner) KX G (by k_is) (by k_is) (by k_is) (by k_is)
    obtain ⟨f_nonempty_sets, -⟩ := K01.fn_ex (x := "nonempty_sets") (st := K01.s_nonempty_sets) KX G (by k_is) (by k_is) (by k_is) (by k_is)
    obtain ⟨f_sup, hcd, CA⟩ := K01.fc_ex (x := "sets_up_to") (st := K01.s_sets_up_to) KX G (by k_is) (by k_is) (by k_is) (by k_is) (by k_is) (by rfl) (by kernel_rfl)
    obtain ⟨f__law_deck, -⟩ := K01.fn_ex (x := "_law_deck") (st := K01.s__law_deck) KX G (by k_is) (by k_is) (by k_is) (by k_is)
    obtain ⟨f__law_draw, -⟩ := K01.fn_ex (x := "_law_draw") (st := K01.s__law_draw) KX G (by k_is) (by k_is) (by k_is) (by k_is)
    obtain ⟨f__law_pick, -⟩ := K01.fn_ex (x := "_law_pick") (st := K01.s__law_pick) KX G (by k_is) (by k_is) (by k_is) (by k_is)
    obtain ⟨f__law_names, -⟩ := K01.fn_ex (x := "_law_names") (st := K01.s__law_names) KX G (by k_is) (by k_is) (by k_is) (by k_is)
    obtain ⟨f__law_sets, -⟩ := K01.fn_ex (x := "_law_sets") (st := K01.s__law_sets) KX G (by k_is) (by k_is) (by k_is) (by k_is)
    obtain ⟨f__law_row, -⟩ := K01.fn_ex (x := "_law_row") (st := K01.s__law_row) KX G (by k_is) (by k_is) (by k_is) (by k_is)
    obtain ⟨f__law_is_name, -⟩ := K01.fn_ex (x := "_law_is_name") (st := K01.s__law_is_name) KX G (by k_is) (by k_is) (by k_is) (by k_is)
    obtain ⟨f__law_is_base, -⟩ := K01.fn_ex (x := "_law_is_base") (st := K01.s__law_is_base) KX G (by k_is) (by k_is) (by k_is) (by k_is)
    obtain ⟨f__law_due, -⟩ := K01.fn_ex (x := "_law_due") (st := K01.s__law_due) KX G (by k_is) (by k_is) (by k_is) (by k_is)
    obtain ⟨f__law_told, -⟩ := K01.fn_ex (x := "_law_told") (st := K01.s__law_told) KX G (by k_is) (by k_is) (by k_is) (by k_is)
    obtain ⟨f__law_odd_base, -⟩ := K01.fn_ex (x := "_law_odd_base") (st := K01.s__law_odd_base) KX G (by k_is) (by k_is) (by k_is) (by k_is)
    obtain ⟨f__law_odd_row, -⟩ := K01.fn_ex (x := "_law_odd_row") (st := K01.s__law_odd_row) KX G (by k_is) (by k_is) (by k_is) (by k_is)
    obtain ⟨f__law_same, -⟩ := K01.fn_ex (x := "_law_same") (st := K01.s__law_same) KX G (by k_is) (by k_is) (by k_is) (by k_is)
    obtain ⟨f_law, -⟩ := K01.fn_ex (x := "law") (st := K01.s_law) KX G (by k_is) (by k_is) (by k_is) (by k_is)
    obtain ⟨N, hN, XF⟩ := K01.er_ex KX G (by k_is) (by k_is) (by k_is) (by k_is) (by first | rfl | decide +kernel) (by k_is) (by k_is) (by k_is) (by k_is) (by k_is) (by k_is) (by k_is) (by k_is) (by k_is) (by k_is) (by k_is) (by k_is) (by k_is) (by k_is) (by k_is) (by k_is)
    obtain ⟨vi, hvi⟩ := K01.ci_ex KX (y := "Vote") (x := "__init__") (qual := "Vote.__init__") (st := K01.s_vtInit) (by k_is) (by k_is) (by k_is) (by k_is) (by k_is)
    obtain ⟨vc, hV, JV⟩ := K01.vt_ex (f := vi.a) KX G (by k_is) (by k_is) (by k_is) (by k_is) (by k_is) (by k_is) (by rw [hvi]; k_is) (by rw [hvi]; k_is) (by k_is) (by k_is) (by k_is) (by k_is) (by k_is) (by k_is) (by k_is) (by k_is) (by k_is)
    obtain ⟨ci, hci⟩ := K01.ci_ex KX (y := "Choice") (x := "__init__") (qual := "Choice.__init__") (st := K01.s_chInit) (by k_is) (by k_is) (by k_is) (by k_is) (by k_is)
    obtain ⟨cc, hC, JC⟩ := K01.ch_ex (f := ci.a) KX G (by k_is) (by k_is) (by k_is) (by k_is) (by k_is) (by k_is) (by rw [hci]; k_is) (by rw [hci]; k_is) (by k_is) (by k_is) (by k_is) (by k_is) (by k_is) (by k_is) (by k_is) (by k_is)
    obtain ⟨m_eq, heq, i_eq, n_eq⟩ := K01.mf_ex KX (C := cc.C) (x := "__eq__") (qual := "Choice.__eq__") (st := K01.s_chEq) (by rw [hC]; k_is) (by k_is) (by k_is) (by k_is) (by k_is)
    have NE : KO.NeC _ cc.C m_eq.a := ⟨by rw [hC]; k_is, by rw [hC]; k_is, i_eq, n_eq⟩
    have R := K01.rd_ex KX (C := vc.C) (mc := .type "type") (by rw [hV]; k_is) (by rw [hV]; k_is)
    obtain ⟨m_mid⟩ := K01.cm_ex KX (C := vc.C) (mc := .type "type") (m := "middle") (qual := "Vote.middle") (st := K01.s_vtMid) (by rw [hV]; k_is) (by k_is) (by k_is) (by k_is) (by k_is) (by k_is)
    obtain ⟨hdC, tyC, sC⟩ := K01.vt_facts KX hC hV (by k_is) (by k_is) (by k_is)
    have neC := (show (Value.ref vc.C == Value.ref cc.C) = false by rw [hV, hC]; decide)
    obtain ⟨eb, hB0, gB, hB1, hB2, hB3, hB4⟩ := K01.cls_ex (x := "ClashnumberError") (t := N.C) (b := true) KX G (by k_is) (by k_is) (by k_is) (by k_is) (by rw [hN]; k_is)
    obtain ⟨ec, hC0, gC, hC1, hC2, hC3, hC4⟩ := K01.cls_ex (x := "NoVote") (t := N.C) (b := false) KX G (by k_is) (by k_is) (by k_is) (by k_is) (by rw [hN]; k_is)
    obtain ⟨et, hT0, gT, hT1, hT2, hT3, hT4⟩ := K01.cls_ex (x := "NoTable") (t := N.C) (b := false) KX G (by k_is) (by k_is) (by k_is) (by k_is) (by rw [hN]; k_is)
    obtain ⟨fd, bd, FF⟩ := K01.law_ex (P := PySem.Challenge.rw_clashnumber_k32_choices_of_any_value.prog) (w := w) CA hmg ⟨⟨B, ⟨f_is_domain, f_are_names, f_is_name, f_ascending, f_is_row, f_sup, f_nonempty_sets⟩, ci, cc, JC, N, XF, m_eq, NE, K01.nf_self, K01.nf_sub K01.sub_tuple, K01.kit_no hdC tyC K01.sub_tuple rfl,
        ⟨f_is_domain, f_are_names, f_is_name, f_ascending, f_is_row, f_all_rows, f_winner, f_without⟩, vi, vc, JV, K01.nf_sub sC, K01.kit_no hdC tyC sC neC, _, R, m_mid, f__law_draw, f__law_pick, f__law_sets, f__law_row, f__law_told⟩,
      f__law_deck, f__law_names, f__law_same, f__law_due, f__law_is_base, f__law_is_name, f__law_odd_base, f__law_odd_row, eb, gB, PySem.W.exm_ref hB3 hB1 hB2 hB4, ec, gC, K01.kit_no hC1 hC2 hC4 (by rw [hC0, hN]; decide), et, gT, K01.kit_no hT1 hT2 hT4 (by rw [hT0, hN]; decide), K01.kit_self⟩ f_law
    exact ⟨fd, _, _, CA, bd, fun base KB NB TB => FF base KB NB (hcd ▸ TB)⟩
