import PyProof.Rows.All
import Wide.All
import OpenK.AllK
import Wide.FinOn
import HandS.TupSets
import KE.KeyNested
import KE.SortData
import HandS.ForMost
import HandS.Star
import PyProof.ReprRoads
import HandS.Dict
import HandS.Style
import HandS.Evl
import HandS.IsInst
import HandS.StrMore
import HandS.Strs
import HandS.TupAny
import HandS.Defaults
import HandS.Codes
import KE.DataEq
import HandS.ExcInit
import HandS.ExcSuper
import HandS.ExcIs
import HandS.ExcField
import KE.KExcInit
import HandS.ExcValue
import HandS.More
import HandS.SlotsOwn
import HandS.OwnEq
import HandS.ClsMeth
import HandS.Ends
import PySem.Challenge.RW_clashnumber_k04_columns_picked_cut
set_option Elab.async false
set_option linter.all false
set_option maxRecDepth 100000
set_option maxHeartbeats 16000000
/-! Sets of texts, sets of tuples of texts and numbers: what they hold, the small questions asked of a key, adding a text. -/
namespace KS
open PySem PySem.Spec PyProof.Rows L2

/-- a member: its value, its key -/
abbrev Mem := Value × NestedKey
/-- of a set of texts (false), of a set of tuples (true) -/
def Fit : Bool → Mem → Prop
  | false, m => ∃ x t, m = (Value.str x t, NestedKey.text x)
  | true, m => ∃ c ks, m.1 = Value.ref c ∧ m.2 = NestedKey.tup ks ∧ m.2.depth ≤ 8
def ents (w : World) (L : List Mem) : List (Int × Value) := L.map fun m => (m.2.hash w, m.1)
abbrev hs (w : World) (L : List Mem) : List Int := L.map fun m => m.2.hash w
/-- the set at a: its members in the table's order -/
structure SetK (b : Bool) (w : World) (h : Heap) (a : Addr) (L : List Mem) (es : Array (Int × Value)) (ep : Nat) (t : SetTable) : Prop where
  ob : ∃ o, h.get? a = some o ∧ o.ExactSet ∧ o.data = .set es ep t
  eq : es.toList = ents w L
  nd : (L.map (·.2)).Nodup
  fit : ∀ m ∈ L, Fit b m
  key : ∀ m ∈ L, NestedIs h m.2 m.1
  ris : Ris t.place.toList
  full : t.fits es.size = true
  led : w.params.followText "set-order" = true ∨ t.led = true
  few : L.length < 64
  tab : b = true → TabOk t (hs w L) ∧ L.length * 5 < t.mask * 3
section
variable {P : Program} {w : World} {A : Around} {E : Value → Shared → Prop} {s : Shared} {b : Bool} {a : Addr} {L : List Mem} {es : Array (Int × Value)} {ep : Nat} {t : SetTable}
theorem SetK.size (R : SetK b w s.heap a L es ep t) : es.size = L.length := by
  rw [← Array.length_toList, R.eq, ents, List.length_map]
theorem ents_perm {w : World} {L L' : List Mem} (h : L.Perm L') : (ents w L).Perm (ents w L') := h.map _
theorem ents_get {w : World} {L : List Mem} {es : Array (Int × Value)} (h : es.toList = ents w L) {i : Nat} {m : Mem} (e : L[i]? = some m) : es[i]? = some (m.2.hash w, m.1) := by
  rw [← Array.getElem?_toList, h, ents, List.getElem?_map, e]
  rfl

/-! the small questions -/
theorem all_mem {h : Heap} : ∀ {ks : List NestedKey} {vs : List Value}, NestedAll h ks vs → ∀ v ∈ vs, ∃ k, NestedIs h k v ∧ k.depth ≤ NestedKey.depthAll ks
  | [], _, x, v, hv => by
    cases x
    cases hv
  | k :: ks, _, x, v, hv => by
    cases x with
    | cons x1 x2 =>
      rcases List.mem_cons.mp hv with e | hv
      · rw [e]
        exact ⟨k, x1, Nat.le_max_left _ _⟩
      · obtain ⟨k', y1, y2⟩ := all_mem x2 v hv
        exact ⟨k', y1, Nat.le_trans y2 (Nat.le_max_right _ _)⟩
theorem cls_key : ∀ (n : Nat) (k : NestedKey) (v : Value) (A : Around) (s : Shared) (Q : Bool → Shared → Prop), NestedIs s.heap k v → k.depth ≤ n → Q false s → wpAny (model P w) A (ofAClassStatement n v) Q E s
  | n, .none, _, A, s, Q, x, _, q => by
    cases x
    cases n <;> exact wpAny_pure q
  | n, .num i, _, A, s, Q, x, _, q => by
    cases x <;> cases n <;> exact wpAny_pure q
  | n, .text y, _, A, s, Q, x, _, q => by
    cases x
    cases n <;> exact wpAny_pure q
  | 0, .tup ks, _, A, s, Q, x, hd, q => by
    simp only [NestedKey.depth] at hd
    omega
  | n + 1, .tup ks, _, A, s, Q, x, hd, q => by
    cases x with
    | @tup c o vs m _ h1 h2 h3 h4 =>
      simp only [NestedKey.depth] at hd
      have ty : s.TypeIs (.ref c) "tuple" := ⟨o, h1, h2⟩
      unfold ofAClassStatement
      refine wpAny_bind (wpAny_typeOf ty ?_)
      dsimp only
      have e : (("tuple" : String) == "tuple") = true := by decide
      simp only [e, if_true, Bool.not_true, Bool.false_eq_true, if_false]
      try refine wpAny_bind (wpAny_pure ?_)
      try simp only [Bool.not_true, Bool.false_eq_true, if_false]
      show wpAny _ _ (seqItems? (.ref c) >>= _) _ _ s
      refine wpAny_bind (wpAny_seqItems h1 h3 ?_)
      dsimp only
      refine wpAny_bind ?_
      show wpAny _ _ (forIn vs _ _) _ _ s
      rw [← Array.forIn_toList]
      refine wpAny_forIn_list _ (fun rest r s' => r.1 = none ∧ s' = s ∧ ∀ u ∈ rest, u ∈ vs.toList) _ ?_ ?_ _ _ ⟨rfl, rfl, fun _ hu => hu⟩
      · rintro u rest r s' ⟨hr, rfl, hall⟩
        obtain ⟨k', y1, y2⟩ := all_mem h4 u (hall u List.mem_cons_self)
        refine wpAny_bind (cls_key n k' u A s' _ y1 (by omega) ?_)
        simp only [Bool.false_eq_true, if_false]
        exact wpAny_pure ⟨rfl, rfl, fun z hz => hall z (List.mem_cons_of_mem _ hz)⟩
      · rintro ⟨r1, r2⟩ s' ⟨hr, rfl, _⟩
        simp only at hr
        subst hr
        exact wpAny_pure q
theorem byVal_key : ∀ (n : Nat) (k : NestedKey) (v : Value) (A : Around) (s : Shared) (Q : Bool → Shared → Prop), NestedIs s.heap k v → (∀ c, Q c s) → wpAny (model P w) A (hashByValue n v) Q E s
  | n, .none, _, A, s, Q, x, q => by
    cases x
    cases n <;> exact wpAny_pure (q _)
  | n, .num i, _, A, s, Q, x, q => by
    cases x <;> cases n <;> exact wpAny_pure (q _)
  | n, .text y, _, A, s, Q, x, q => by
    cases x
    cases n <;> exact wpAny_pure (q _)
  | 0, .tup ks, _, A, s, Q, x, q => by
    cases x
    exact wpAny_pure (q _)
  | n + 1, .tup ks, _, A, s, Q, x, q => by
    cases x with
    | @tup c o vs m _ h1 h2 h3 h4 =>
      have ty : s.TypeIs (.ref c) "tuple" := ⟨o, h1, h2⟩
      unfold hashByValue
      refine wpAny_bind (wpAny_specialOf ty F.slot_tuple_hash.lookup ?_)
      show wpAny _ _ (seqItems? (.ref c) >>= _) _ _ s
      refine wpAny_bind (wpAny_seqItems h1 h3 ?_)
      refine wpAny_bind ?_
      show wpAny _ _ (forIn vs _ _) _ _ s
      rw [← Array.forIn_toList]
      refine wpAny_forIn_list _ (fun rest r s' => r.1 = none ∧ s' = s ∧ ∀ u ∈ rest, u ∈ vs.toList) _ ?_ ?_ _ _ ⟨rfl, rfl, fun _ hu => hu⟩
      · rintro u rest r s' ⟨hr, rfl, hall⟩
        obtain ⟨k', y1, y2⟩ := all_mem h4 u (hall u List.mem_cons_self)
        refine wpAny_bind (byVal_key n k' u A s' _ y1 fun c => ?_)
        cases c
        · simp only [Bool.not_false, if_true]
          exact wpAny_pure (wpAny_pure (q _))
        · simp only [Bool.not_true, Bool.false_eq_true, if_false]
          exact wpAny_pure ⟨rfl, rfl, fun z hz => hall z (List.mem_cons_of_mem _ hz)⟩
      · rintro ⟨r1, r2⟩ s' ⟨hr, rfl, _⟩
        simp only at hr
        subst hr
        exact wpAny_pure (q _)
theorem wp_two {α : Type} {M : Model} {c : Prop} [Decidable c] {x y : Sem α} {Q : α → Shared → Prop} (h1 : c → wpAny M A x Q E s) (h2 : ¬ c → wpAny M A y Q E s) : wpAny M A (if c then x else y) Q E s := by
  split
  · exact h1 (by assumption)
  · exact h2 (by assumption)
/-- a search among tuples shows nothing -/
theorem seen_key {k : NestedKey} {c : Addr} {Q : Bool → Shared → Prop} (hk : NestedIs s.heap k (.ref c)) (hd : k.depth ≤ 8) {ys : List Value} (hy : ∀ y ∈ ys, ∃ k', NestedIs s.heap k' y ∧ k'.depth ≤ 8) (q : Q false s) :
    wpAny (model P w) A (searchCouldBeSeen (.ref c) ys) Q E s := by
  unfold searchCouldBeSeen
  refine wpAny_bind ?_
  refine wpAny_forIn_list _ (fun (rest : List Value) r s' => r.1 = none ∧ s' = s ∧ ∀ y ∈ rest, y ∈ ys) _ ?_ ?_ _ _ ⟨rfl, rfl, fun _ h => h⟩
  · intro y rest r s' hI
    obtain ⟨hr, rfl, hall⟩ := hI
    obtain ⟨k', y1, y2⟩ := hy y (hall y List.mem_cons_self)
    have keep : ∀ z ∈ rest, z ∈ ys := fun z hz => hall z (List.mem_cons_of_mem _ hz)
    dsimp only
    refine wp_two (fun _ => ?_) fun _ => ?_
    · exact wpAny_pure ⟨rfl, rfl, keep⟩
    · refine wpAny_bind (quiet_key k _ 8 s' hk hd A E _ ?_)
      simp only [Bool.not_true, Bool.false_eq_true, if_false]
      refine wpAny_bind (quiet_key k' _ 8 s' y1 y2 A E _ ?_)
      simp only [Bool.not_true, Bool.false_eq_true, if_false]
      refine wpAny_bind (cls_key 8 k _ A s' _ hk hd ?_)
      simp only [Bool.false_eq_true, if_false]
      refine wpAny_bind (cls_key 8 k' _ A s' _ y1 y2 ?_)
      simp only [Bool.false_eq_true, if_false]
      exact wpAny_pure ⟨rfl, rfl, keep⟩
  · rintro ⟨r1, r2⟩ s' ⟨hr, rfl, _⟩
    simp only at hr
    subst hr
    exact wpAny_pure q
/-- what the set's own writing leaves -/
theorem key_but {h h' : Heap} {o : Obj} (ho : h.get? a = some o) (hd : o.data = .set es ep t) (sb : Heap.SameBut a h h') {k : NestedKey} {v : Value} (x : NestedIs h k v) : NestedIs h' k v :=
  NestedIs.at (fun c o2 vs n e1 e2 => (sb.2 c fun z => by
    rw [z, ho] at e1
    rw [← Option.some.inj e1, hd] at e2
    cases e2).trans e1) k v x
theorem SetK.keep {h h' : Heap} (R : SetK b w h a L es ep t) (ha : ∀ o, h.get? a = some o → h'.get? a = some o) (hk : ∀ m ∈ L, NestedIs h' m.2 m.1) : SetK b w h' a L es ep t := by
  obtain ⟨o, ho, r⟩ := R.ob
  exact { R with ob := ⟨o, ha o ho, r⟩, key := hk }
theorem setK_new {h : Heap} (b : Bool) (ho : h.get? a = some { cls := .type "set", dict := none, data := .set #[] 0 (.fresh 0 0 (!w.params.followText "set-order")) }) : SetK b w h a [] #[] 0 (.fresh 0 0 (!w.params.followText "set-order")) where
  ob := ⟨_, ho, ⟨rfl, rfl, rfl⟩, rfl⟩
  eq := rfl
  nd := List.nodup_nil
  fit := fun _ z => nomatch z
  key := fun _ z => nomatch z
  ris := List.Pairwise.nil
  full := rfl
  led := by
    show _ ∨ (!w.params.followText "set-order") = true
    cases w.params.followText "set-order"
    · exact .inr rfl
    · exact .inl rfl
  few := by decide
  tab := fun _ => ⟨⟨List.Pairwise.nil, rfl, rfl, .inl rfl, fun _ z => (by cases z), fun i h j z => (by simp at z)⟩, by show 0 * 5 < 7 * 3; decide⟩

/-! adding a text -/
theorem text_elems (h : ∀ m ∈ L, Fit false m) : ElemsOf (PySem.strKind P w) (ents w L) := fun e he => by
  obtain ⟨m, hm, rfl⟩ := List.mem_map.mp he
  obtain ⟨x, tk, rfl⟩ := h m hm
  exact ⟨⟨x, strKind_is _ _ _ _, rfl⟩, rfl⟩
theorem text_is (h : ∀ m ∈ L, Fit false m) {y : Str} : (∃ e ∈ ents w L, (PySem.strKind P w).is y e.2 = true) ↔ NestedKey.text y ∈ L.map (·.2) := by
  constructor
  · rintro ⟨e, he, q⟩
    obtain ⟨m, hm, rfl⟩ := List.mem_map.mp he
    obtain ⟨x, tk, rfl⟩ := h m hm
    have e2 : x = y := beq_iff_eq.mp (show (x == y) = true from q)
    exact List.mem_map.mpr ⟨_, hm, by rw [e2]⟩
  · intro hm
    obtain ⟨m, hm, e⟩ := List.mem_map.mp hm
    obtain ⟨x, tk, rfl⟩ := h m hm
    have e2 : x = y := NestedKey.text.inj e
    exact ⟨_, List.mem_map.mpr ⟨_, hm, rfl⟩, by
      show (x == y) = true
      rw [e2]
      exact beq_self_eq_true y⟩
/-- what adding leaves -/
def Added (b : Bool) (w : World) (s : Shared) (a : Addr) (L : List Mem) (m : Mem) (Q : Bool → Shared → Prop) : Prop := ∀ c h' L' es' ep' t', Heap.SameBut a s.heap h' → SetK b w h' a L' es' ep' t' →
  (m.2 ∈ L.map (·.2) → L' = L) → (m.2 ∉ L.map (·.2) → L'.Perm (m :: L)) → Q c { s with heap := h' }
theorem perm_back {α β : Type} (f : α → β) : ∀ (l : List β) (M : List α), l.Perm (M.map f) → ∃ M' : List α, l = M'.map f ∧ M'.Perm M
  | [], M, h => by
    have e : M.map f = [] := List.nil_perm.mp h
    have e2 : M = [] := List.map_eq_nil_iff.mp e
    exact ⟨[], rfl, by rw [e2]⟩
  | y :: r, M, h => by
    obtain ⟨x, hx, e⟩ := List.mem_map.mp (h.mem_iff.mp List.mem_cons_self)
    obtain ⟨A, B, rfl⟩ := List.append_of_mem hx
    subst e
    have pm : (A ++ x :: B).Perm (x :: (A ++ B)) := List.perm_middle
    have h2 := h.trans (pm.map f)
    rw [List.map_cons] at h2
    obtain ⟨M', e1, p⟩ := perm_back f r (A ++ B) (List.Perm.cons_inv h2)
    exact ⟨x :: M', by rw [List.map_cons, e1], (p.cons x).trans pm.symm⟩
theorem ents_of_perm {w : World} {l : List (Int × Value)} {M : List Mem} (h : l.Perm (ents w M)) : ∃ L', l = ents w L' ∧ L'.Perm M := perm_back _ l M h
theorem SetK.perm {h' : Heap} {L' : List Mem} {m : Mem} (R : SetK b w s.heap a L es ep t) (hm : m.2 ∉ L.map (·.2)) (pm : L'.Perm (m :: L)) : (L'.map (·.2)).Nodup ∧ L'.length = L.length + 1 :=
  ⟨(pm.map (·.2)).nodup_iff.mpr (by
    rw [List.map_cons]
    exact List.nodup_cons.mpr ⟨hm, R.nd⟩), by rw [pm.length_eq, List.length_cons]⟩
/-- behind a new text's storing: the table laid anew, if it is too full -/
theorem text_tail {g : Bool → Sem Unit} (hg : ∀ (c : Bool) (s1 : Shared) (Q' : Unit → Shared → Prop), Q' () s1 → wpAny (model P w) A (g c) Q' E s1)
    {o : Obj} (ho : s.heap.get? a = some o) (hex : o.ExactSet) (hd : o.data = .set es ep t) {L1 : List Mem} {es1 : Array (Int × Value)} {t1 : SetTable}
    (e1 : es1.toList = ents w L1) (nd : (L1.map (·.2)).Nodup) (fit : ∀ m ∈ L1, Fit false m) (key : ∀ m ∈ L1, NestedIs s.heap m.2 m.1) (few : L1.length < 64)
    (full : t1.fits es1.size = true) (ris : Ris t1.place.toList) (led : w.params.followText "set-order" = true ∨ t1.led = true) {d : Bool} {R : Option Bool → Shared → Prop}
    (q : ∀ h' L' es' ep' t', Heap.SameBut a s.heap h' → SetK false w h' a L' es' ep' t' → L'.Perm L1 → R (some true) { s with heap := h' }) :
    wpAny (model P w) A (do
        storeSet a es1 t1
        if (!d && t1.tooFull) = true then do
            g (relayAll t1 es1 (SetTable.grown es1.size)).2.2
            storeSet a (relayAll t1 es1 (SetTable.grown es1.size)).1 (relayAll t1 es1 (SetTable.grown es1.size)).2.1
            pure (some true)
          else pure (some true)) R E s := by
  have z1 : es1.size = L1.length := by rw [← Array.length_toList, e1, ents, List.length_map]
  refine wpAny_bind (wpAny_storeSet_of ho hd ?_ (by rw [z1, sizeLine_eq]; omega))
  have ho1 := L2.store_at (es' := es1) (t' := t1) ho hd
  have sb1 := Heap.SameBut.update s.heap a (Obj.putSet es1 t1)
  have key1 : ∀ m ∈ L1, NestedIs (s.heap.update a (Obj.putSet es1 t1)) m.2 m.1 := fun m hm => key_but ho hd sb1 (key m hm)
  split
  · have pm := relayAll_perm t1 es1 (SetTable.grown es1.size)
    have f2 := relayAll_fits t1 es1 (SetTable.grown es1.size)
    have r2 := relayAll_ris t1 es1 (SetTable.grown es1.size)
    have l2 := relayAll_led t1 es1 (SetTable.grown es1.size)
    generalize relayAll t1 es1 (SetTable.grown es1.size) = Z at pm f2 r2 l2 ⊢
    obtain ⟨es2, t2, gave⟩ := Z
    dsimp only at pm f2 r2 l2 ⊢
    rw [e1] at pm
    obtain ⟨L2', e2, p2⟩ := ents_of_perm pm
    have z2 : es2.size = L2'.length := by rw [← Array.length_toList, e2, ents, List.length_map]
    refine wpAny_bind (hg _ _ _ (wpAny_bind (wpAny_storeSet_of ho1 rfl ?_ (by rw [z2, p2.length_eq, sizeLine_eq]; omega))))
    have ho2 := L2.store_at (es' := es2) (t' := t2) ho1 rfl
    have sb2 := Heap.SameBut.update (s.heap.update a (Obj.putSet es1 t1)) a (Obj.putSet es2 t2)
    exact wpAny_pure (q _ L2' es2 _ t2 (sb1.trans sb2) ⟨⟨_, ho2, hex, rfl⟩, e2, (p2.map (·.2)).nodup_iff.mpr nd, fun m hm => fit m (p2.mem_iff.mp hm), fun m hm => key_but ho1 rfl sb2 (key1 m (p2.mem_iff.mp hm)),
      r2, f2, led.imp id fun z => by rw [l2]; exact z, by rw [p2.length_eq]; exact few, fun z => by cases z⟩ p2)
  · exact wpAny_pure (q _ L1 es1 _ t1 sb1 ⟨⟨_, ho1, hex, rfl⟩, e1, nd, fit, key1, ris, full, led, few, fun z => by cases z⟩ (List.Perm.refl _))
theorem add_text {x : Str} {tk : Tok} {Q : Bool → Shared → Prop} (R : SetK false w s.heap a L es ep t) (room : L.length + 1 < 64) (q : Added false w s a L (.str x tk, .text x) Q) :
    wpAny (model P w) A (setAddHashed a (.str x tk) (hashStr w x)) Q E s := by
  obtain ⟨o, ho, hex, hd⟩ := R.ob
  have hf := R.full
  have hel : ElemsOf (PySem.strKind P w) es.toList := by rw [R.eq]; exact text_elems R.fit
  have sc : (Value.str x tk).scannable = true := rfl
  have ki : (PySem.strKind P w).is x (.str x tk) = true := strKind_is _ _ _ _
  have zs : es.size < scanBound := by
    rw [R.size]
    show L.length < 4096
    omega
  unfold setAddHashed setAddHashedIn
  refine wpAny_holding (wpAny_bind (wpAny_setState_of ho hd hf ?_))
  dsimp only
  rw [byScan_of sc zs hel]
  simp only [↓reduceIte]
  unfold setAddByScan
  refine wpAny_bind (wpAny_bind (wpAny_rule (wpAny_bind ?_)))
  show wpAny _ _ (setScan a (.str x tk) ((PySem.strKind P w).hash x) true es) _ _ s
  refine wpAny_setScan_of ki ho hd hf hel ?_
  cases hfi : List.findIdx? (fun e => (PySem.strKind P w).is x e.2) es.toList with
  | some j =>
    dsimp only
    obtain ⟨hj, pj, _⟩ := List.findIdx?_eq_some_iff_getElem.mp hfi
    have hm : NestedKey.text x ∈ L.map (·.2) := (text_is (P := P) R.fit).1 ⟨_, by rw [← R.eq]; exact List.getElem_mem hj, pj⟩
    exact wpAny_pure (wpAny_pure (q _ s.heap L es ep t (Heap.SameBut.refl a s.heap) R (fun _ => rfl) fun z => absurd hm z))
  | none =>
    dsimp only
    have hm : NestedKey.text x ∉ L.map (·.2) := fun z => by
      obtain ⟨e, he, c1⟩ := (text_is (P := P) R.fit).2 z
      rw [← R.eq] at he
      have c2 := List.findIdx?_eq_none_iff.mp hfi e he
      rw [c1] at c2
      cases c2
    have pm := layNew_perm t es (hashStr w x) (.str x tk)
    have f1 := layNew_fits t es (hashStr w x) (.str x tk)
    have r1 := layNew_ris t es (hashStr w x) (.str x tk) R.ris
    have l1 := layNew_led t es (hashStr w x) (.str x tk)
    generalize layNew t es (hashStr w x) (.str x tk) = Z at pm f1 r1 l1 ⊢
    obtain ⟨es1, t1, was, gave⟩ := Z
    dsimp only at pm f1 r1 l1 ⊢
    have pc : es1.toList.Perm (ents w ((Value.str x tk, NestedKey.text x) :: L)) := by
      rw [Array.toList_push, R.eq] at pm
      exact pm.trans (List.perm_append_singleton _ _)
    obtain ⟨L1, e1, p1⟩ := ents_of_perm pc
    obtain ⟨nd1, n1⟩ := R.perm (h' := s.heap) hm p1
    have fit1 : ∀ m ∈ L1, Fit false m := fun m hm => by
      rcases List.mem_cons.mp (p1.mem_iff.mp hm) with z | z
      · rw [z]
        exact ⟨x, tk, rfl⟩
      · exact R.fit m z
    have key1 : ∀ m ∈ L1, NestedIs s.heap m.2 m.1 := fun m hm => by
      rcases List.mem_cons.mp (p1.mem_iff.mp hm) with z | z
      · rw [z]
        exact .text _ _
      · exact R.key m z
    have led1 : w.params.followText "set-order" = true ∨ t1.led = true := R.led.imp id fun z => by rw [l1]; exact z
    have fin : ∀ h' L' es' ep' t', Heap.SameBut a s.heap h' → SetK false w h' a L' es' ep' t' → L'.Perm L1 → Q true { s with heap := h' } := fun h' L' es' ep' t' sb r p => q true h' L' es' ep' t' sb r (fun z => absurd z hm) fun _ => p.trans p1
    have gw : ∀ (c : Bool) {s1 : Shared} {Q' : Unit → Shared → Prop}, Q' () s1 → wpAny (model P w) A (match c with | true => rule "set.scan.the-table-gave-way" | false => pure ()) Q' E s1 :=
      fun c s1 Q' h => by cases c <;> first | exact wpAny_pure h | exact wpAny_rule h
    refine wpAny_bind (gw _ ?_)
    split
    · refine wpAny_bind ?_
      rw [hashByValue_scannable 8 sc]
      refine wpAny_pure ?_
      refine text_tail (L1 := L1) ?_ ho hex hd e1 nd1 fit1 key1 (by omega) ?_ ?_ ?_ ?_
      · intro c s1 Q' h; cases c <;> first | exact wpAny_pure h | exact wpAny_rule h
      · first | (split <;> first | exact f1 | exact SetTable.fits_plain_off f1) | exact f1
      · first | (split <;> exact r1) | exact r1
      · first | (split <;> exact led1) | exact led1
      · intro h' L' es' ep' t' sb r p; dsimp only; exact wpAny_pure (fin h' L' es' ep' t' sb r p)
    · refine wpAny_bind (wpAny_pure ?_)
      simp only [↓reduceIte]
      refine text_tail (L1 := L1) ?_ ho hex hd e1 nd1 fit1 key1 (by omega) f1 r1 led1 ?_
      · intro c s1 Q' h; cases c <;> first | exact wpAny_pure h | exact wpAny_rule h
      · intro h' L' es' ep' t' sb r p; dsimp only; exact wpAny_pure (fin h' L' es' ep' t' sb r p)
end
end KS
/-! Sets of tuples: the search, adding a tuple; one promise of adding for both kinds. -/
namespace KS
open PySem PySem.Spec PyProof.Rows L2
section
variable {P : Program} {w : World} {A : Around} {E : Value → Shared → Prop} {s : Shared} {a : Addr} {L : List Mem} {es : Array (Int × Value)} {ep : Nat} {t : SetTable}
/-- the walk from the start of hash h in a table of mask m -/
abbrev go (m : Nat) (h : Int) (c : Nat) : SetTable.Probe := nth m (runAt m (SetTable.bits h % (m + 1)) (SetTable.bits h)) c
theorem go_add (m : Nat) (h : Int) (c q : Nat) : nth m (go m h c) q = go m h (c + q) := (nth_add m c _ q).symm
theorem go_j (m : Nat) (h : Int) (c q : Nat) : (nth m (go m h c) q).j = way m h (c + q) := congrArg SetTable.Probe.j (go_add m h c q)
theorem nth_dummy (m : Nat) : ∀ (n : Nat) (p : SetTable.Probe), p.dummy = none → (nth m p n).dummy = none
  | 0, _, h => h
  | n + 1, p, h => nth_dummy m n (adv m p) (by
    unfold adv
    split <;> exact h)
theorem odd_gw {t : SetTable} (h : MaskOk t.mask) : ¬ t.gaveWay = true := by
  unfold SetTable.gaveWay
  rw [mask_odd h]
  decide
/-- the search among tuples from the c-th step on; the way's first empty slot is step K -/
theorem hunt (R : SetK true w s.heap a L es ep t) {x : Addr} {k : NestedKey} (hx : NestedIs s.heap k (.ref x)) (kd : k.depth ≤ 8) (hu : A.units + 8 < cLine) {K : Nat} (hKf : K < 10 * SetTable.turns t.mask)
    (hK : way t.mask (k.hash w) K ∉ t.place.toList) (hKb : ∀ c, c < K → way t.mask (k.hash w) c ∈ t.place.toList) {Q : SetFound → Shared → Prop}
    (hin : k ∈ L.map (·.2) → Q (.there none) s) (hout : k ∉ L.map (·.2) → Q (.free (way t.mask (k.hash w) K) false) s) :
    ∀ (f c : Nat) (st : Option SetTable.Probe), st.getD (t.probeStart (k.hash w)) = go t.mask (k.hash w) c → c ≤ K → K - c < f →
      (∀ (i : Nat) m, L[i]? = some m → m.2 = k → ∃ c', c ≤ c' ∧ c' < K ∧ t.place.toList[i]? = some (way t.mask (k.hash w) c')) →
      wpAny (model P w) A (setSearchFrom a (.ref x) (k.hash w) true f st) Q E s
  | 0, c, st, _, _, hf, _ => absurd hf (Nat.not_lt_zero _)
  | f + 1, c, st, hst, hc, hf, left => by
    obtain ⟨o, ho, _, hd⟩ := R.ob
    have tb := (R.tab rfl).1
    have fin2 : ∀ (i : Nat) (m : Mem), L[i]? = some m → (fun i => (es[i]?.map (·.1)).getD 0) i = m.2.hash w := fun i m e => by
      show (es[i]?.map (·.1)).getD 0 = _
      rw [ents_get R.eq e]
      rfl
    rw [setSearchFrom_succ]
    refine wpAny_bind (wpAny_setState_of ho hd R.full ?_)
    dsimp only
    refine wp_if_neg (odd_gw tb.mok) ?_
    try refine wpAny_bind (wpAny_pure ?_)
    have sp := go_spec t R.ris tb.dm (fun i => (es[i]?.map (·.1)).getD 0) (k.hash w) (10 * SetTable.turns t.mask) (K - c) (go t.mask (k.hash w) c) (nth_dummy _ c _ rfl) (by omega)
      (fun q hq => by rw [go_j]; exact hKb (c + q) (by omega)) (by rw [go_j, show c + (K - c) = K by omega]; exact hK)
    rcases sp with ⟨q, i, hq, hi, hh, hno, hpr⟩ | ⟨hno, hpr⟩
    · rw [go_add, go_add, ← hst] at hpr
      rw [show t.probe (fun i => (es[i]?.map (·.1)).getD 0) (k.hash w) (st.getD (t.probeStart (k.hash w))) = _ from hpr]
      dsimp only
      rw [go_j] at hi
      have il : i < L.length := by
        have n1 : i < t.place.toList.length := (List.getElem?_eq_some_iff.mp hi).1
        have n2 := tb.sz
        rw [List.length_map] at n2
        rw [Array.length_toList] at n1
        omega
      have hp : L[i]? = some L[i] := List.getElem?_eq_getElem il
      generalize L[i] = m at hp
      have mm : m ∈ L := List.mem_of_getElem? hp
      obtain ⟨y, ks, e1, e2, d2⟩ := R.fit m mm
      have my := R.key m mm
      rw [e1] at my
      have slot : t.slot (way t.mask (k.hash w) (c + q)) = .live i := slot_live R.ris hi
      have rest : wpAny (model P w) A (searchRest a (.ref x) (k.hash w) true f es t (way t.mask (k.hash w) (c + q)) i (go t.mask (k.hash w) (c + (q + 1)))) Q E s := by
        unfold searchRest
        rw [ents_get R.eq hp, e1]
        dsimp only
        refine wpAny_bind (wpAny_holding (eqAt_key m.2 k A s _ _ my hx (by omega) P w _ _ ?_))
        refine wpAny_bind (wpAny_setState_of ho hd R.full ?_)
        dsimp only
        rw [← NestedKey.decide_eq]
        by_cases hkk : m.2 = k
        · refine wp_if_pos (by simp [hkk]) ?_
          exact wpAny_pure (hin (List.mem_map.mpr ⟨m, mm, hkk⟩))
        · refine wp_if_neg (by simp [hkk]) ?_
          try refine wpAny_bind (wpAny_pure ?_)
          rw [sameMem]
          dsimp only
          simp only [if_true, slot, ents_get R.eq hp, e1]
          refine wpAny_bind (wpAny_isSame_ref_self (wpAny_bind (wpAny_pure ?_)))
          simp only [if_true]
          refine wp_if_neg (by simp [hkk]) ?_
          refine hunt R hx kd hu hKf hK hKb hin hout f (c + (q + 1)) _ rfl (by omega) (by omega) fun j m' e' k' => ?_
          obtain ⟨c', a1, a2, a3⟩ := left j m' e' k'
          refine ⟨c', ?_, a2, a3⟩
          rcases Nat.lt_trichotomy c' (c + q) with z | z | z
          · exact absurd ((fin2 j m' e').trans (congrArg (NestedKey.hash w) k')) (hno (c' - c) j (by omega) (by rw [go_j, show c + (c' - c) = c' by omega]; exact a3))
          · rw [z] at a3
            have s0 := slot_live R.ris a3
            rw [slot] at s0
            injection s0 with s0
            rw [← s0, hp] at e'
            exact absurd ((congrArg Prod.snd (Option.some.inj e')).trans k') hkk
          · omega
      by_cases hl : t.led = true
      · refine wp_if_neg (by simp [hl]) ?_
        try refine wpAny_bind (wpAny_pure ?_)
        exact rest
      · refine wp_if_pos (by simp [hl]) (wpAny_bind (seen_key hx kd (fun z hz => ?_) ?_))
        · obtain ⟨e, he, ee⟩ := List.mem_map.mp hz
          have he1 : e ∈ es ∧ e.1 = k.hash w := by simpa using he
          have he2 : e ∈ es.toList := by simpa using he1.1
          rw [R.eq] at he2
          obtain ⟨m2, hm2, e3⟩ := List.mem_map.mp he2
          obtain ⟨_, _, _, _, d3⟩ := R.fit m2 hm2
          refine ⟨m2.2, ?_, d3⟩
          rw [← ee, ← e3]
          exact R.key m2 hm2
        · refine wp_if_neg (by decide) ?_
          try refine wpAny_bind (wpAny_pure ?_)
          exact rest
    · rw [go_j, show c + (K - c) = K by omega, ← hst] at hpr
      rw [show t.probe (fun i => (es[i]?.map (·.1)).getD 0) (k.hash w) (st.getD (t.probeStart (k.hash w))) = _ from hpr]
      dsimp only
      refine wpAny_pure (hout fun hm => ?_)
      obtain ⟨m0, h0, hk0⟩ := List.mem_map.mp hm
      obtain ⟨j, hj⟩ := List.mem_iff_getElem?.mp h0
      obtain ⟨c', a1, a2, a3⟩ := left j m0 hj hk0
      exact absurd ((fin2 j m0 hj).trans (congrArg (NestedKey.hash w) hk0)) (hno (c' - c) j (by omega) (by rw [go_j, show c + (c' - c) = c' by omega]; exact a3))
theorem hunt_at (R : SetK true w s.heap a L es ep t) {x : Addr} {k : NestedKey} (hx : NestedIs s.heap k (.ref x)) (kd : k.depth ≤ 8) (hu : A.units + 8 < cLine) {Q : SetFound → Shared → Prop}
    (hin : k ∈ L.map (·.2) → Q (.there none) s)
    (hout : ∀ K, k ∉ L.map (·.2) → way t.mask (k.hash w) K ∉ t.place.toList → (∀ c, c < K → way t.mask (k.hash w) c ∈ t.place.toList) → Q (.free (way t.mask (k.hash w) K) false) s) :
    wpAny (model P w) A (setSearch a (.ref x) (k.hash w) true) Q E s := by
  obtain ⟨tb, room⟩ := R.tab rfl
  have n2 := tb.sz
  rw [List.length_map] at n2
  obtain ⟨K, hKf, hK, hKb⟩ := tb.first (by rw [List.length_map]; omega) (k.hash w)
  have big : K < 100000 := by
    have : 10 * SetTable.turns t.mask ≤ 1420 := by
      unfold SetTable.turns
      rcases tb.mok with e | e | e <;> omega
    omega
  unfold setSearch
  refine hunt R hx kd hu hKf hK hKb hin (fun hn => hout K hn hK hKb) 100000 0 none rfl (Nat.zero_le _) (by omega) fun i m e ek => ?_
  have hi : (hs w L)[i]? = some (k.hash w) := by
    rw [List.getElem?_map, e, ← ek]
    rfl
  have il : i < t.place.toList.length := by
    have := (List.getElem?_eq_some_iff.mp e).1
    rw [Array.length_toList]
    omega
  obtain ⟨c, hc, ec⟩ := tb.before hK hi (List.getElem?_eq_getElem il)
  exact ⟨c, Nat.zero_le _, hc, by rw [List.getElem?_eq_getElem il, ec]⟩
end
end KS
/-! Sets of tuples: the table laid anew, adding a tuple. -/
namespace KS
open PySem PySem.Spec PyProof.Rows L2
section
variable {P : Program} {w : World} {A : Around} {E : Value → Shared → Prop} {s : Shared} {a : Addr} {L : List Mem} {es : Array (Int × Value)} {ep : Nat} {t : SetTable}
theorem range_get {α : Type} (z : α) : ∀ l : List α, (List.range l.length).map (fun i => l.getD i z) = l := fun l => by
  apply List.ext_getElem?
  intro i
  rw [List.getElem?_map]
  by_cases h : i < l.length
  · rw [List.getElem?_range h, List.getElem?_eq_getElem h]
    simp [List.getD, h]
  · rw [List.getElem?_eq_none (by rw [List.length_range]; omega), List.getElem?_eq_none (by omega)]
    rfl
theorem some_map {α β : Type} {f : α → Option β} {g : α → β} : ∀ l : List α, (∀ x ∈ l, f x = some (g x)) → l.filterMap f = l.map g
  | [], _ => rfl
  | x :: l, h => by
    rw [List.filterMap_cons_some (h x List.mem_cons_self), List.map_cons, some_map l fun y hy => h y (List.mem_cons_of_mem _ hy)]
theorem in_order {es : Array (Int × Value)} (he : es.toList = ents w L) {order : Array Nat} (hp : order.toList.Perm (List.range L.length)) :
    ∃ L2 : List Mem, (order.filterMap (es[·]?)).toList = ents w L2 ∧ L2.Perm L ∧ hs w L2 = order.toList.map fun i => (es.map (·.1)).getD i 0 := by
  have lt : ∀ i ∈ order.toList, i < L.length := fun i hi => List.mem_range.mp (hp.mem_iff.mp hi)
  have g1 : ∀ i ∈ order.toList, es[i]? = some ((fun m : Mem => (m.2.hash w, m.1)) (L.getD i (Value.none, NestedKey.none))) := fun i hi => by
    have e : L[i]? = some (L.getD i (Value.none, NestedKey.none)) := by
      rw [List.getElem?_eq_getElem (lt i hi)]
      simp [List.getD, lt i hi]
    exact ents_get he e
  refine ⟨order.toList.map fun i => L.getD i (Value.none, NestedKey.none), ?_, ?_, ?_⟩
  · rw [Array.toList_filterMap, some_map order.toList g1, ents, List.map_map]
    rfl
  · have p2 := hp.map fun i => L.getD i (Value.none, NestedKey.none)
    rw [range_get] at p2
    exact p2
  · unfold hs
    rw [List.map_map]
    refine List.map_congr_left fun i hi => ?_
    have e := g1 i hi
    have e2 : (es.map (·.1))[i]? = some ((L.getD i (Value.none, NestedKey.none)).2.hash w) := by
      rw [Array.getElem?_map, e]
      rfl
    show _ = (es.map (·.1)).getD i 0
    rw [Array.getD_eq_getD_getElem?, e2]
    rfl
theorem tups_relay {o : Obj} (ho : s.heap.get? a = some o) (hex : o.ExactSet) (hd : o.data = .set es ep t) (he : es.toList = ents w L) (full : t.fits es.size = true)
    (nd : (L.map (·.2)).Nodup) (fit : ∀ m ∈ L, Fit true m) (key : ∀ m ∈ L, NestedIs s.heap m.2 m.1) (led : w.params.followText "set-order" = true ∨ t.led = true) (few : L.length < 64) {wanted M : Nat}
    (hw : SetTable.sizeAbove wanted - 1 = M) (hM : MaskOk M) (h128 : SetTable.sizeAbove wanted ≤ 128) (hn : L.length * 5 < M * 3) {Q : Unit → Shared → Prop}
    (q : ∀ h' L' es' ep' t', Heap.SameBut a s.heap h' → SetK true w h' a L' es' ep' t' → L'.Perm L → Q () { s with heap := h' }) : wpAny (model P w) A (setRelay a wanted) Q E s := by
  have z1 : es.size = L.length := by rw [← Array.length_toList, he, ents, List.length_map]
  obtain ⟨t2, order, e, hp, T, em, el, _, ed⟩ := relaid_ok t (hs := es.map (·.1)) (wanted := wanted) hw hM (by rw [Array.size_map, z1]; omega)
  rw [Array.size_map, z1] at hp
  obtain ⟨LL, r1, r2, r3⟩ := in_order he hp
  rw [← r3] at T
  have z2 : (order.filterMap (es[·]?)).size = LL.length := by rw [← Array.length_toList, r1, ents, List.length_map]
  have z3 := r2.length_eq
  rw [setRelay_eq]
  refine wpAny_bind (wpAny_setState_of ho hd full ?_)
  dsimp only
  refine wp_if_neg (by rw [sizeLine_eq]; omega) ?_
  try refine wpAny_bind (wpAny_pure ?_)
  rw [e]
  dsimp only
  refine wpAny_bind ?_
  refine wp_if_neg (by rw [z2, z3, z1]; simp) ?_
  try refine wpAny_bind (wpAny_pure ?_)
  refine wpAny_pure ?_
  dsimp only
  refine wpAny_storeSet_of ho hd ?_ (by rw [z2, z3, sizeLine_eq]; omega)
  have sb := Heap.SameBut.update s.heap a (Obj.putSet (order.filterMap (es[·]?)) t2)
  have sz2 := T.sz
  rw [List.length_map] at sz2
  exact q _ LL _ _ t2 sb ⟨⟨_, L2.store_at ho hd, hex, rfl⟩, r1, (r2.map (·.2)).nodup_iff.mpr nd, fun m hm => fit m (r2.mem_iff.mp hm), fun m hm => key_but ho hd sb (key m (r2.mem_iff.mp hm)), T.ris, by
    unfold SetTable.fits SetTable.fill
    rw [ed, Bool.and_eq_true, beq_iff_eq, decide_eq_true_eq, z2, sz2]
    show LL.length = LL.length ∧ LL.length + 0 ≤ t2.mask
    omega, led.imp id fun z => by rw [el]; exact z, by rw [z3]; exact few, fun _ => ⟨T, by rw [z3, em]; exact hn⟩⟩ r2
theorem tab_plain {hs : List Int} {t : SetTable} (T : TabOk t hs) (c : Bool) : TabOk (if c = true then t else { t with plain := false }) hs := by
  split
  · exact T
  · exact ⟨T.ris, T.dm, T.sz, T.mok, T.bd, T.reach⟩
theorem add_tup {x : Addr} {k : NestedKey} {Q : Bool → Shared → Prop} (R : SetK true w s.heap a L es ep t) (hx : NestedIs s.heap k (.ref x)) (ft : Fit true (Value.ref x, k)) (hu : A.units + 8 < cLine) (room : L.length + 1 < 64)
    (q : Added true w s a L (.ref x, k) Q) : wpAny (model P w) A (setAddHashed a (.ref x) (k.hash w)) Q E s := by
  obtain ⟨o, ho, hex, hd⟩ := R.ob
  obtain ⟨tb, rm⟩ := R.tab rfl
  obtain ⟨_, _, _, _, kd⟩ := ft
  have zs := R.size
  unfold setAddHashed
  refine wpAny_holding ?_
  rw [show (100000 : Nat) = 99999 + 1 from rfl, setAddHashedIn_succ]
  refine wpAny_bind (wpAny_setState_of ho hd R.full ?_)
  dsimp only
  refine wp_if_neg (by simp [byScan, Value.scannable]) ?_
  try refine wpAny_bind (wpAny_pure ?_)
  refine wpAny_bind (hunt_at R hx kd hu (fun hm => ?_) fun K hm hK hb => ?_)
  · dsimp only
    exact wpAny_pure (q false s.heap L es ep t (Heap.SameBut.refl a s.heap) R (fun _ => rfl) fun z => absurd hm z)
  · dsimp only
    refine wpAny_bind (wpAny_setState_of ho hd R.full ?_)
    dsimp only
    obtain ⟨q1, q2, q3, q4, q5, q6, q7, q8, q9⟩ := tb.put hK hb
    generalize t.put (way t.mask (k.hash w) K) = pt at q1 q3 q4 q5 q6 q7 q8 q9 ⊢
    obtain ⟨t1, p⟩ := pt
    dsimp only at q1 q3 q4 q5 q6 q7 q8 q9 ⊢
    subst q1
    have fork : ∀ (G : Bool → Sem Bool) (Q' : Bool → Shared → Prop), (∀ c, wpAny (model P w) A (G c) Q' E s) → wpAny (model P w) A (do
        let c ← if t1.plain = true then hashByValue 8 (.ref x) else pure true
        G c) Q' E s := fun G Q' h => by
      dsimp only
      exact wp_two (fun _ => wpAny_bind (byVal_key 8 k _ A s _ hx h)) fun _ => wpAny_bind (wpAny_pure (h _))
    have hin : (SetTable.insertAt es (SetTable.below t.place (way t.mask (k.hash w) K)) (k.hash w, Value.ref x)).toList = ents w (L.take (SetTable.below t.place (way t.mask (k.hash w) K)) ++ (Value.ref x, k) :: L.drop (SetTable.below t.place (way t.mask (k.hash w) K))) := by
      rw [SetTable.toList_insertAt, R.eq, ents, ents, List.map_append, List.map_cons, List.map_take, List.map_drop]
    generalize SetTable.below t.place (way t.mask (k.hash w) K) = p at q2 q3 hin ⊢
    have pm := put_perm L p (Value.ref x, k)
    have hh : (hs w L).take p ++ k.hash w :: (hs w L).drop p = hs w (L.take p ++ (Value.ref x, k) :: L.drop p) := by
      unfold hs
      rw [List.map_append, List.map_cons, List.map_take, List.map_drop]
    rw [hh] at q3
    obtain ⟨nd1, n1⟩ := R.perm (h' := s.heap) hm pm
    have z1 : (SetTable.insertAt es p (k.hash w, Value.ref x)).size = L.length + 1 := by rw [← Array.length_toList, hin, ents, List.length_map, n1]
    generalize SetTable.insertAt es p (k.hash w, Value.ref x) = es1 at hin z1 ⊢
    generalize L.take p ++ (Value.ref x, k) :: L.drop p = L1 at pm q3 nd1 n1 hin
    have key0 : ∀ m ∈ L1, NestedIs s.heap m.2 m.1 := fun m hm1 => by
      rcases List.mem_cons.mp (pm.mem_iff.mp hm1) with e | z
      · rw [e]
        exact hx
      · exact R.key m z
    have fit1 : ∀ m ∈ L1, Fit true m := fun m hm1 => by
      rcases List.mem_cons.mp (pm.mem_iff.mp hm1) with e | z
      · rw [e]
        exact ⟨_, _, by assumption, by assumption, kd⟩
      · exact R.fit m z
    refine fork _ _ fun c => ?_
    have T2 := tab_plain q3 c
    have led2 : w.params.followText "set-order" = true ∨ (if c = true then t1 else { t1 with plain := false }).led = true := by
      have := R.led
      rw [← q5] at this
      cases c <;> exact this
    have m2 : (if c = true then t1 else { t1 with plain := false }).mask = t.mask := by
      rw [← q4]
      cases c <;> rfl
    have f2 : (if c = true then t1 else { t1 with plain := false }).fill = L.length + 1 := by
      rw [List.length_map] at q9
      rw [← q9]
      cases c <;> rfl
    generalize (if c = true then t1 else { t1 with plain := false }) = t2 at T2 led2 m2 f2 ⊢
    have sz2 := T2.sz
    rw [List.length_map, n1] at sz2
    have full2 : t2.fits es1.size = true := by
      unfold SetTable.fits
      rw [f2, Bool.and_eq_true, beq_iff_eq, decide_eq_true_eq, z1, sz2]
      refine ⟨rfl, ?_⟩
      have := tb.mok
      rw [m2]
      rcases this with e | e | e <;> rw [e] at rm ⊢ <;> omega
    refine wpAny_bind (wpAny_storeSet_of ho hd ?_ (by rw [z1, sizeLine_eq]; omega))
    have sb := Heap.SameBut.update s.heap a (Obj.putSet es1 t2)
    have ho1 := L2.store_at (es' := es1) (t' := t2) ho hd
    have key1 : ∀ m ∈ L1, NestedIs (s.heap.update a (Obj.putSet es1 t2)) m.2 m.1 := fun m hm1 => key_but ho hd sb (key0 m hm1)
    generalize s.heap.update a (Obj.putSet es1 t2) = h1 at sb ho1 key1 ⊢
    by_cases hf : t2.tooFull = true
    · have hfull : (L.length + 1) * 5 ≥ t2.mask * 3 := by
        have h := hf
        unfold SetTable.tooFull at h
        rw [decide_eq_true_eq, f2] at h
        exact h
      have two : (t.mask = 7 ∧ L.length = 4) ∨ (t.mask = 31 ∧ L.length = 18) := by
        rw [m2] at hfull
        rcases tb.mok with e | e | e <;> rw [e] at hfull rm
        · exact .inl ⟨e, by omega⟩
        · exact .inr ⟨e, by omega⟩
        · omega
      have lay : ∀ M, SetTable.sizeAbove (SetTable.grown (L.length + 1)) - 1 = M → MaskOk M → SetTable.sizeAbove (SetTable.grown (L.length + 1)) ≤ 128 → (L.length + 1) * 5 < M * 3 →
          wpAny (model P w) A (setRelay a (SetTable.grown (L.length + 1))) (fun _ s' => wpAny (model P w) A (pure true) Q E s') E { s with heap := h1 } := fun M h1' h2' h3' h4' =>
        tups_relay (s := { s with heap := h1 }) ho1 hex rfl hin full2 nd1 fit1 key1 led2 (by omega) h1' h2' h3' (by rw [n1]; exact h4') fun h2 L2 es2 ep2 t3 sb2 R2 pm2 =>
          wpAny_pure (q true h2 L2 es2 ep2 t3 (sb.trans sb2) R2 (fun z => absurd z hm) fun _ => pm2.trans pm)
      rw [zs]
      first
        | (refine wpAny_bind ?_; refine wp_if_pos (by simp [hf]) ?_)
        | (refine wp_if_pos (by simp [hf]) ?_; refine wpAny_bind ?_)
      rcases two with ⟨_, e2⟩ | ⟨_, e2⟩
      · exact lay 31 (by rw [e2, size_20]) (.inr (.inl rfl)) (by rw [e2, size_20]; decide) (by omega)
      · exact lay 127 (by rw [e2, size_76]) (.inr (.inr rfl)) (by rw [e2, size_76]; decide) (by omega)
    · first
        | refine wp_if_neg (by simp [hf]) ?_
        | (refine wpAny_bind ?_; refine wp_if_neg (by simp [hf]) ?_; refine wpAny_pure ?_)
      refine wpAny_pure (q true h1 L1 es1 (ep + 1) t2 sb ⟨⟨_, ho1, hex, rfl⟩, hin, nd1, fit1, key1, T2.ris, full2, led2, by omega, fun _ => ⟨T2, ?_⟩⟩ (fun z => absurd z hm) fun _ => pm)
      have h := hf
      unfold SetTable.tooFull at h
      rw [decide_eq_true_eq, f2] at h
      rw [n1]
      omega
end
end KS
/-! set(xs): xs a list or a tuple of texts, or of tuples of texts and numbers. -/
namespace KS
open PySem PySem.Spec PyProof.Rows L2
/-- what stands in the set behind the first i items -/
structure Has (ks : List Mem) (i : Nat) (L : List Mem) : Prop where
  sub : ∀ m ∈ L, m ∈ ks.take i
  all : ∀ m ∈ ks.take i, m.2 ∈ L.map (·.2)
  len : L.length ≤ i
theorem Has.nil (ks : List Mem) : Has ks 0 [] := ⟨fun _ z => (by cases z), fun m z => (by simp at z), Nat.le_refl _⟩
theorem Has.next {ks L L' : List Mem} {i : Nat} {m : Mem} (g : Has ks i L) (h : ks[i]? = some m) (c1 : m.2 ∈ L.map (·.2) → L' = L) (c2 : m.2 ∉ L.map (·.2) → L'.Perm (m :: L)) : Has ks (i + 1) L' := by
  have tn : ks.take (i + 1) = ks.take i ++ [m] := take_next h
  rcases Classical.em (m.2 ∈ L.map (·.2)) with c | c
  · rw [c1 c]
    refine ⟨fun x hx => ?_, fun x hx => ?_, Nat.le_succ_of_le g.len⟩
    · rw [tn]
      exact List.mem_append_left _ (g.sub x hx)
    · rw [tn] at hx
      rcases List.mem_append.mp hx with z | z
      · exact g.all x z
      · rw [List.mem_singleton.mp z]
        exact c
  · have pm := c2 c
    refine ⟨fun x hx => ?_, fun x hx => ?_, by rw [pm.length_eq]; exact Nat.succ_le_succ g.len⟩
    · rw [tn]
      rcases List.mem_cons.mp (pm.mem_iff.mp hx) with z | z
      · rw [z]
        exact List.mem_append_right _ (List.mem_singleton.mpr rfl)
      · exact List.mem_append_left _ (g.sub x z)
    · rw [tn] at hx
      refine (pm.map (·.2)).mem_iff.mpr ?_
      rw [List.map_cons]
      rcases List.mem_append.mp hx with z | z
      · exact List.mem_cons_of_mem _ (g.all x z)
      · rw [List.mem_singleton.mp z]
        exact List.mem_cons_self
section
variable {P : Program} {w : World} {A : Around} {E : Value → Shared → Prop} {s : Shared} {a : Addr} {b : Bool} {L : List Mem} {es : Array (Int × Value)} {ep : Nat} {t : SetTable}
theorem add_key {m : Mem} {Q : Bool → Shared → Prop} (R : SetK b w s.heap a L es ep t) (hx : NestedIs s.heap m.2 m.1) (ft : Fit b m) (hu : A.units + 8 < cLine) (room : L.length + 1 < 64)
    (q : Added b w s a L m Q) : wpAny (model P w) A (setAddHashed a m.1 (m.2.hash w)) Q E s := by
  cases b with
  | false =>
    obtain ⟨x, tk, rfl⟩ := ft
    exact add_text R room q
  | true =>
    have ft2 := ft
    obtain ⟨v, k⟩ := m
    obtain ⟨c, ks, e1, e2, d⟩ := ft
    dsimp only at e1 e2 d hx
    subst e1
    exact add_tup R hx ft2 hu room q
theorem fit_depth {m : Mem} (h : Fit b m) : m.2.depth ≤ 8 := by
  cases b with
  | false =>
    obtain ⟨x, tk, rfl⟩ := h
    exact Nat.zero_le _
  | true =>
    obtain ⟨_, _, _, _, d⟩ := h
    exact d
theorem key_keep {h h' : Heap} {k : NestedKey} {v : Value} (x : NestedIs h k v) (hk : ∀ c o, h.get? c = some o → h'.get? c = some o) : NestedIs h' k v := NestedIs.at (fun c o vs n e _ => hk c o e) k v x
theorem update_loop {I : Addr} {fp wr : List Addr} {G : Array GenState → Array GenState → Prop} {n : Nat} {Pv : Nat → Value → Prop} {St : Nat → Shared → Prop} {R : Result → Shared → Prop}
    (W : WalksS P w A.in1 I fp wr G n Pv St) (S : Addr) (hSf : S ∉ fp) (ks : List Mem) (hn : n = ks.length) (h64 : ks.length < 64) (hv : ∀ i v, Pv i v → ∃ m, ks[i]? = some m ∧ v = m.1)
    (h0 : Heap) (hk : ∀ m ∈ ks, NestedIs h0 m.2 m.1) (hf : ∀ m ∈ ks, Fit b m) (hS0 : h0.get? S = none) (hw0 : ∀ c ∈ wr, h0.get? c = none) (hu : A.in1.units + 8 < cLine) :
    ∀ (k i : Nat) (s : Shared), n - i = k → i ≤ n → St i s → (∀ c o, h0.get? c = some o → s.heap.get? c = some o) → (∃ L es ep t, SetK b w s.heap S L es ep t ∧ Has ks i L) →
      (∀ s' L es ep t, Moved (S :: wr) G s s' → SetK b w s'.heap S L es ep t → Has ks n L → (∀ c o, h0.get? c = some o → s'.heap.get? c = some o) → R (.ok (.ret .none)) s') →
      codeAny (model P w) A (.builtin "set.update.loop" ⟨[.ref S, .ref I], []⟩) R s := by
  have hSw : S ∉ wr := fun h => hSf (W.sub _ h)
  have up : ∀ c ∈ wr, c ∈ S :: wr := fun c hc => List.mem_cons_of_mem _ hc
  have stay : ∀ {s s' : Shared}, Moved wr G s s' → (∀ c o, h0.get? c = some o → s.heap.get? c = some o) → ∀ c o, h0.get? c = some o → s'.heap.get? c = some o := fun mv hp c o e =>
    mv.heap c o (fun z => by rw [hw0 c z] at e; cases e) (hp c o e)
  intro k
  induction k with
  | zero =>
    intro i s hk' hi hst hp ⟨L, es, ep, t, hS, g⟩ hR
    have e0 : i = n := by omega
    subst e0
    refine codeAny_builtin F.entry_set_update_loop ?_
    rw [Around.under_plainId F.plain_set_update_loop _]
    show wpAny _ A.in1 (pyNext (.ref I) >>= _) _ _ s
    refine wpAny_bind (W.done s _ _ hst fun s' mv => ?_)
    show wpAny _ A.in1 (ret Value.none) _ _ s'
    have hp' := stay mv hp
    exact wpAny_pure (hR s' L es ep t (mv.mono up) (hS.keep (fun o e => mv.heap S o hSw e) fun m hm => key_keep (hk m (List.mem_of_mem_take (g.sub m hm))) hp') g hp')
  | succ k ih =>
    intro i s hk' hi hst hp ⟨L, es, ep, t, hS, g⟩ hR
    have lt : i < n := by omega
    refine codeAny_builtin F.entry_set_update_loop ?_
    rw [Around.under_plainId F.plain_set_update_loop _]
    show wpAny _ A.in1 (pyNext (.ref I) >>= _) _ _ s
    refine wpAny_bind (W.item i s _ _ lt hst fun v s' hP hst' mv => ?_)
    obtain ⟨m, hm, rfl⟩ := hv i v hP
    have mk := List.mem_of_getElem? hm
    have hp' := stay mv hp
    have hS' : SetK b w s'.heap S L es ep t := hS.keep (fun o e => mv.heap S o hSw e) fun q hq => key_keep (hk q (List.mem_of_mem_take (g.sub q hq))) hp'
    have hx : NestedIs s'.heap m.2 m.1 := key_keep (hk m mk) hp'
    show wpAny _ A.in1 (holding [m.1] (setAdd S m.1) >>= _) _ _ s'
    refine wpAny_bind (wpAny_holding ?_)
    unfold setAdd
    refine wpAny_holding ?_
    refine wpAny_bind (pyHash_key m.2 m.1 A.in1 s' _ hx (by have := fit_depth (hf m mk); omega) ?_)
    refine add_key (s := { s' with toks := s'.toks + m.2.draws }) (m := m) hS' hx (hf m mk) hu (by have := g.len; omega) fun c h' L' es' ep' t' sb hS2 c1 c2 => ?_
    have g' := g.next hm c1 c2
    have hp2 : ∀ c o, h0.get? c = some o → h'.get? c = some o := fun c o e => (sb.2 c (fun z => by rw [z, hS0] at e; cases e)).trans (hp' c o e)
    refine wpAny_pure ⟨plainId_quiet F.plain_set_update_loop _, ih (i + 1) _ (by omega) lt (W.frame _ s' _ _ hst' (Nat.le_add_right _ _) fun d hd o e => ?_) hp2 ⟨L', es', ep', t', hS2, g'⟩ fun s2 L2 es2 ep2 t2 mv2 hS3 g2 hp3 => ?_⟩
    · rw [sb.2 d (fun z => hSf (by rw [← z]; exact hd))]
      exact e
    · refine hR s2 L2 es2 ep2 t2 (Moved.trans W.gtrans ((mv.mono up).then_heap (Nat.le_add_right _ _) fun d o hd e => ?_) mv2) hS3 g2 hp3
      rw [sb.2 d (fun z => hd (by rw [z]; exact List.mem_cons_self))]
      exact e
theorem gone {h : Heap} {c : Addr} (hc : h.objs.size ≤ c) : h.get? c = none := by
  cases q : h.get? c with
  | none => rfl
  | some o => exact absurd (Nat.lt_of_lt_of_le (Heap.lt_size q) hc) (Nat.lt_irrefl _)
theorem item_of {items : Array Value} {ks : List Mem} (hi : items.toList = ks.map (·.1)) : ∀ (i : Nat) (v : Value), items[i]? = some v → ∃ m, ks[i]? = some m ∧ v = m.1 := fun i v e => by
  rw [← Array.getElem?_toList, hi, List.getElem?_map] at e
  cases q : ks[i]? with
  | none =>
    rw [q] at e
    cases e
  | some m =>
    rw [q] at e
    exact ⟨m, rfl, (Option.some.inj e).symm⟩
/-- what set(xs) leaves -/
def Made (b : Bool) (w : World) (s : Shared) (ks : List Mem) (Q : Value → Shared → Prop) : Prop := ∀ (h' : Heap) (tk : Nat) L es ep t, SetK b w h' s.heap.objs.size L es ep t → Has ks ks.length L →
  (∀ c o, s.heap.get? c = some o → h'.get? c = some o) → Q (.ref s.heap.objs.size) { s with heap := h', toks := tk }
/-- the new set's object -/
abbrev newO (w : World) : Obj := { cls := .type "set", dict := none, data := .set #[] 0 (.fresh 0 0 (!w.params.followText "set-order")) }
set_option maxHeartbeats 8000000 in
theorem set_of_list {l : Addr} {items : Array Value} (b : Bool) (ks : List Mem) {Q : Value → Shared → Prop} (hh : A.handled = none) (hl : s.heap.IsList l items) (hi : items.toList = ks.map (·.1))
    (hk : ∀ m ∈ ks, NestedIs s.heap m.2 m.1) (hf : ∀ m ∈ ks, Fit b m) (h64 : ks.length < 64) (hu : A.units + 16 < cLine) (q : Made b w s ks Q) :
    wpAny (model P w) A (call (.type "set") [.ref l]) Q E s := by
  have zi : items.size = ks.length := by rw [← Array.length_toList, hi, List.length_map]
  obtain ⟨mc, mt, hmro⟩ := F.called_set.mro
  have d1 := F.called_set.made
  have d2 := F.called_set.sub
  refine wpAny_call (codeAny_of_tree ?_)
  show wpAny _ _ (callAny (.type "set") _) _ _ _
  refine wpAny_pure ⟨Code.quiet_builtin _ (by decide +kernel), codeAny_builtin F.entry_type_call ?_⟩
  rw [Around.under_plain (weight_type_call_type "set" [.ref l] []) rfl]
  have d3 := F.called_set.notType
  have d4 := F.called_set.canCreate
  have d5 := F.typeCall_set_1 (.ref l)
  repeat (any_goals (first | assumption | wp_step))
  refine codeAny_mono (code_set_led1 (.ref l) (E := E) (Q₁ := fun v s1 => v = .ref s.heap.objs.size ∧ s1 = { s with heap := s.heap.push (newO w) }) ⟨rfl, rfl⟩) fun r s1 hr => ?_
  cases r with
  | error e => exact hr
  | ok fl =>
    cases fl with
    | ret v =>
      obtain ⟨rfl, rfl⟩ := hr
      have gS : (s.heap.push (newO w)).get? s.heap.objs.size = some (newO w) := Heap.get?_push_size _ rfl
      have tS : Shared.TypeIs { s with heap := s.heap.push (newO w) } (.ref s.heap.objs.size) "set" := ⟨_, gS, rfl⟩
      have d6 := F.called_set.init.lookup
      have d7 := F.called_set.init.bind (.ref s.heap.objs.size)
      repeat (any_goals (first | assumption | wp_step))
      refine codeAny_mono (codeAny_call_builtin (R := wants (fun r s2 => r = .none ∧ ∃ h' tk L es ep t, s2 = { s with heap := h', toks := tk } ∧ SetK b w h' s.heap.objs.size L es ep t ∧ Has ks ks.length L ∧
          (∀ c o, s.heap.get? c = some o → h'.get? c = some o)) E) F.called_set.init.plain F.entry_set_init (check_set_init_1 tS ?_)) fun r2 s2 hr2 => ?_
      · obtain ⟨⟨oc, od, ot, os⟩, hol, hcl, nl, hdl⟩ := hl
        simp only at hcl hdl
        subst hcl; subst hdl
        have hol2 : (s.heap.push (newO w)).get? l = some { cls := .type "list", dict := od, data := .seq items nl, slots := os } := Heap.get?_push_of_some _ hol
        have d8 := F.sub_list_set
        have d9 := F.sub_list_frozenset
        have dA : (Value.type "list" == Value.type "dict") = false := by decide
        have hl2 : (s.heap.push (newO w)).IsList l items := ⟨_, hol2, rfl, nl, rfl⟩
        unfold Builtin.«set.__init__» noKeywords Builtin.Frozenset.updateFrom
        generalize hPI : pyIter = PI
        wp_walk
        subst hPI
        refine wpAny_pyIter_list hl2 (wpAny_bind (wpAny_runValue ?_))
        have ls : l < s.heap.objs.size := Heap.lt_size hol
        have zp : (s.heap.push (newO w)).objs.size = s.heap.objs.size + 1 := Heap.size_push ..
        have hne : l ≠ (s.heap.push (newO w)).objs.size := by
          rw [zp]
          exact Nat.ne_of_lt (Nat.lt_succ_of_lt ls)
        have hSf : s.heap.objs.size ∉ [(s.heap.push (newO w)).objs.size, l] := by
          rw [zp]
          simp only [List.mem_cons, List.mem_singleton, List.not_mem_nil, or_false, not_or]
          exact ⟨Nat.ne_of_lt (Nat.lt_succ_self _), Nat.ne_of_gt ls⟩
        refine update_loop ((Walks.list (by simp [hh]) _ l hne items).toS) s.heap.objs.size
          hSf ks zi h64 (item_of hi) s.heap hk hf (gone (Nat.le_refl _)) (fun c hc => gone (by
            rw [List.mem_singleton.mp hc, zp]
            exact Nat.le_succ _)) (by simp only [Around.in1_units]; omega) (items.size - 0) 0 _ (by omega) (Nat.zero_le _)
          ⟨⟨_, Heap.get?_push_size _ rfl, rfl, rfl⟩, hl2.push _⟩ (fun c o e => Heap.get?_push_of_some _ (Heap.get?_push_of_some _ e)) ⟨[], #[], 0, _, setK_new b (Heap.get?_push_of_some _ gS), Has.nil ks⟩ ?_
        intro s3 L es ep t mv hS g hp
        obtain ⟨h3, g3, d3, t3, o3⟩ := s3
        have eg : g3 = s.gens := mv.gens
        have ed : d3 = s.drawn := mv.drawn
        have eo : o3 = s.os := mv.os
        subst eg; subst ed; subst eo
        show wpAny _ _ _ _ _ _
        refine wpAny_pure ?_
        show wpAny _ _ (ret Value.none) _ _ _
        rw [zi] at g
        exact wpAny_pure ⟨rfl, h3, t3, L, es, ep, t, rfl, hS, g, hp⟩
      · cases r2 with
        | error e => exact hr2
        | ok fl2 =>
          cases fl2 with
          | ret r =>
            obtain ⟨rfl, h3, t3, L, es, ep, t, rfl, hS, g, hp⟩ := hr2
            repeat (any_goals (first | assumption | wp_step))
            exact q _ _ _ _ _ _ hS g hp
          | _ => exact hr2.elim
    | _ => exact hr.elim
set_option maxHeartbeats 8000000 in
theorem set_of_tuple {l : Addr} {items : Array Value} (b : Bool) (ks : List Mem) {Q : Value → Shared → Prop} (hh : A.handled = none) (hl : s.heap.IsTuple l items) (hi : items.toList = ks.map (·.1))
    (hk : ∀ m ∈ ks, NestedIs s.heap m.2 m.1) (hf : ∀ m ∈ ks, Fit b m) (h64 : ks.length < 64) (hu : A.units + 16 < cLine) (q : Made b w s ks Q) :
    wpAny (model P w) A (call (.type "set") [.ref l]) Q E s := by
  have zi : items.size = ks.length := by rw [← Array.length_toList, hi, List.length_map]
  obtain ⟨mc, mt, hmro⟩ := F.called_set.mro
  have d1 := F.called_set.made
  have d2 := F.called_set.sub
  refine wpAny_call (codeAny_of_tree ?_)
  show wpAny _ _ (callAny (.type "set") _) _ _ _
  refine wpAny_pure ⟨Code.quiet_builtin _ (by decide +kernel), codeAny_builtin F.entry_type_call ?_⟩
  rw [Around.under_plain (weight_type_call_type "set" [.ref l] []) rfl]
  have d3 := F.called_set.notType
  have d4 := F.called_set.canCreate
  have d5 := F.typeCall_set_1 (.ref l)
  repeat (any_goals (first | assumption | wp_step))
  refine codeAny_mono (code_set_led1 (.ref l) (E := E) (Q₁ := fun v s1 => v = .ref s.heap.objs.size ∧ s1 = { s with heap := s.heap.push (newO w) }) ⟨rfl, rfl⟩) fun r s1 hr => ?_
  cases r with
  | error e => exact hr
  | ok fl =>
    cases fl with
    | ret v =>
      obtain ⟨rfl, rfl⟩ := hr
      have gS : (s.heap.push (newO w)).get? s.heap.objs.size = some (newO w) := Heap.get?_push_size _ rfl
      have tS : Shared.TypeIs { s with heap := s.heap.push (newO w) } (.ref s.heap.objs.size) "set" := ⟨_, gS, rfl⟩
      have d6 := F.called_set.init.lookup
      have d7 := F.called_set.init.bind (.ref s.heap.objs.size)
      repeat (any_goals (first | assumption | wp_step))
      refine codeAny_mono (codeAny_call_builtin (R := wants (fun r s2 => r = .none ∧ ∃ h' tk L es ep t, s2 = { s with heap := h', toks := tk } ∧ SetK b w h' s.heap.objs.size L es ep t ∧ Has ks ks.length L ∧
          (∀ c o, s.heap.get? c = some o → h'.get? c = some o)) E) F.called_set.init.plain F.entry_set_init (check_set_init_1 tS ?_)) fun r2 s2 hr2 => ?_
      · obtain ⟨⟨oc, od, ot, os⟩, hol, hcl, nl, hdl⟩ := hl
        simp only at hcl hdl
        subst hcl; subst hdl
        have hol2 : (s.heap.push (newO w)).get? l = some { cls := .type "tuple", dict := od, data := .seq items nl, slots := os } := Heap.get?_push_of_some _ hol
        have d8 := F.sub_tuple_set
        have d9 := F.sub_tuple_frozenset
        have dA : (Value.type "tuple" == Value.type "dict") = false := by decide
        have hl2 : (s.heap.push (newO w)).IsTuple l items := ⟨_, hol2, rfl, nl, rfl⟩
        unfold Builtin.«set.__init__» noKeywords Builtin.Frozenset.updateFrom
        generalize hPI : pyIter = PI
        wp_walk
        subst hPI
        refine wpAny_pyIter_tuple hl2 (wpAny_bind (wpAny_runValue ?_))
        have ls : l < s.heap.objs.size := Heap.lt_size hol
        have zp : (s.heap.push (newO w)).objs.size = s.heap.objs.size + 1 := Heap.size_push ..
        have hne : l ≠ (s.heap.push (newO w)).objs.size := by
          rw [zp]
          exact Nat.ne_of_lt (Nat.lt_succ_of_lt ls)
        have hSf : s.heap.objs.size ∉ [(s.heap.push (newO w)).objs.size, l] := by
          rw [zp]
          simp only [List.mem_cons, List.mem_singleton, List.not_mem_nil, or_false, not_or]
          exact ⟨Nat.ne_of_lt (Nat.lt_succ_self _), Nat.ne_of_gt ls⟩
        refine update_loop ((Walks.tuple (by simp [hh]) _ l hne items).toS) s.heap.objs.size
          hSf ks zi h64 (item_of hi) s.heap hk hf (gone (Nat.le_refl _)) (fun c hc => gone (by
            rw [List.mem_singleton.mp hc, zp]
            exact Nat.le_succ _)) (by simp only [Around.in1_units]; omega) (items.size - 0) 0 _ (by omega) (Nat.zero_le _)
          ⟨⟨_, Heap.get?_push_size _ rfl, rfl, rfl⟩, hl2.push _⟩ (fun c o e => Heap.get?_push_of_some _ (Heap.get?_push_of_some _ e)) ⟨[], #[], 0, _, setK_new b (Heap.get?_push_of_some _ gS), Has.nil ks⟩ ?_
        intro s3 L es ep t mv hS g hp
        obtain ⟨h3, g3, d3, t3, o3⟩ := s3
        have eg : g3 = s.gens := mv.gens
        have ed : d3 = s.drawn := mv.drawn
        have eo : o3 = s.os := mv.os
        subst eg; subst ed; subst eo
        show wpAny _ _ _ _ _ _
        refine wpAny_pure ?_
        show wpAny _ _ (ret Value.none) _ _ _
        rw [zi] at g
        exact wpAny_pure ⟨rfl, h3, t3, L, es, ep, t, rfl, hS, g, hp⟩
      · cases r2 with
        | error e => exact hr2
        | ok fl2 =>
          cases fl2 with
          | ret r =>
            obtain ⟨rfl, h3, t3, L, es, ep, t, rfl, hS, g, hp⟩ := hr2
            repeat (any_goals (first | assumption | wp_step))
            exact q _ _ _ _ _ _ hS g hp
          | _ => exact hr2.elim
    | _ => exact hr.elim
end
end KS
/-! set(xs), len(set), sorted(set) as rules of the walk. -/
namespace KS
open PySem PySem.Spec PyProof.Rows L2
mutual
/-- v is the key k -/
inductive Kv (K : PySem.W.Frag) (H : Hp) : V → NestedKey → Prop
  | int (i : Int) : Kv K H (.int i) (.num i)
  | str (x : Str) : Kv K H (.str x) (.text x)
  | tup {a : Addr} {xs : List V} {ks : List NestedKey} : SqT K H a xs → KvAll K H xs ks → Kv K H (.ref a) (.tup ks)
inductive KvAll (K : PySem.W.Frag) (H : Hp) : List V → List NestedKey → Prop
  | nil : KvAll K H [] []
  | cons {v : V} {vs : List V} {k : NestedKey} {ks : List NestedKey} : Kv K H v k → KvAll K H vs ks → KvAll K H (v :: vs) (k :: ks)
end
section
variable {X : Cx} {pins : List (Addr × Obj)} {σ : L2.St} {H : Hp} {s : Shared}
mutual
theorem Kv.reads (I : Inv X pins σ H s) : ∀ (k : NestedKey) (v : V) (u : Value), Kv X.K H v k → RelV v u → NestedIs s.heap k u ∧ Reads s.heap u k.data []
  | .none, _, _, h, _ => by cases h
  | .num i, _, _, h, r => by
    cases h
    obtain ⟨t, rfl⟩ := r
    exact ⟨.int i t, .int i t⟩
  | .text x, _, _, h, r => by
    cases h
    obtain ⟨t, rfl⟩ := r
    exact ⟨.text x t, .str x t⟩
  | .tup ks, _, _, h, r => by
    cases h with
    | tup hs ha =>
      cases r
      obtain ⟨its, rv, ⟨o, ho, hc, n, hd⟩, _⟩ := I.tuple hs
      obtain ⟨q1, q2⟩ := Kv.readsAll I ks _ its ha rv
      exact ⟨.tup ho hc hd (by simpa using q1), .tuple ho hc hd (by simpa using q2)⟩
theorem Kv.readsAll (I : Inv X pins σ H s) : ∀ (ks : List NestedKey) (vs : List V) (us : List Value), KvAll X.K H vs ks → Vals vs us → NestedAll s.heap ks us ∧ ReadsAll s.heap us (NestedKey.datas ks) []
  | [], _, _, h, r => by
    cases h
    cases r
    exact ⟨.nil, .nil⟩
  | k :: ks, _, _, h, r => by
    cases h with
    | cons h1 h2 =>
      cases r with
      | cons r1 r2 =>
        obtain ⟨a1, b1⟩ := Kv.reads I k _ _ h1 r1
        obtain ⟨a2, b2⟩ := Kv.readsAll I ks _ _ h2 r2
        exact ⟨.cons a1 a2, .cons (as := []) (bs := []) b1 b2⟩
end
end
mutual
theorem Kv.dp {K : PySem.W.Frag} {H : Hp} : ∀ (k : NestedKey) (v : V), Kv K H v k → Dp K H v k.data
  | .none, _, h => by cases h
  | .num i, _, h => by
    cases h
    exact .int i
  | .text x, _, h => by
    cases h
    exact .str x
  | .tup ks, _, h => by
    cases h with
    | tup hs ha => exact .tup hs (Kv.dpAll ks _ ha)
theorem Kv.dpAll {K : PySem.W.Frag} {H : Hp} : ∀ (ks : List NestedKey) (vs : List V), KvAll K H vs ks → DpAll K H vs (NestedKey.datas ks)
  | [], _, h => by
    cases h
    exact .nil
  | k :: ks, _, h => by
    cases h with
    | cons h1 h2 => exact .cons (Kv.dp k _ h1) (Kv.dpAll ks _ h2)
end
mutual
theorem Kv.up {K : PySem.W.Frag} {H H' : Hp} (e : ∀ a xs, SqT K H a xs → SqT K H' a xs) : ∀ (k : NestedKey) (v : V), Kv K H v k → Kv K H' v k
  | .none, _, h => by cases h
  | .num i, _, h => by
    cases h
    exact .int i
  | .text x, _, h => by
    cases h
    exact .str x
  | .tup ks, _, h => by
    cases h with
    | tup hs ha => exact .tup (e _ _ hs) (Kv.upAll e ks _ ha)
theorem Kv.upAll {K : PySem.W.Frag} {H H' : Hp} (e : ∀ a xs, SqT K H a xs → SqT K H' a xs) : ∀ (ks : List NestedKey) (vs : List V), KvAll K H vs ks → KvAll K H' vs ks
  | [], _, h => by
    cases h
    exact .nil
  | k :: ks, _, h => by
    cases h with
    | cons h1 h2 => exact .cons (Kv.up e k _ h1) (Kv.upAll e ks _ h2)
end
/-- a member as it stands in the walk -/
abbrev MemV := V × NestedKey
def FitV : Bool → MemV → Prop
  | false, m => ∃ x, m = (V.str x, NestedKey.text x)
  | true, m => ∃ c ks, m.1 = V.ref c ∧ m.2 = NestedKey.tup ks ∧ m.2.depth ≤ 8
theorem FitV.fit {b : Bool} {p : MemV} {m : Mem} (h : FitV b p) (r : RelV p.1 m.1) (e : m.2 = p.2) : Fit b m := by
  cases b with
  | false =>
    obtain ⟨x, rfl⟩ := h
    obtain ⟨t, r⟩ := r
    exact ⟨x, t, Prod.ext r e⟩
  | true =>
    obtain ⟨c, ks, e1, e2, d⟩ := h
    rw [e1] at r
    exact ⟨c, ks, r, e.trans e2, by rw [e]; exact d⟩
/-- two lists of members, one of values -/
def Twin (L : List MemV) (M : List Mem) : Prop := Vals (L.map (·.1)) (M.map (·.1)) ∧ M.map (·.2) = L.map (·.2)
theorem Twin.nil : Twin [] [] := ⟨.nil, rfl⟩
theorem Twin.cons {p : MemV} {m : Mem} {L : List MemV} {M : List Mem} (r : RelV p.1 m.1) (e : m.2 = p.2) (t : Twin L M) : Twin (p :: L) (m :: M) := ⟨.cons r t.1, by rw [List.map_cons, List.map_cons, e, t.2]⟩
theorem Twin.mem : ∀ {L : List MemV} {M : List Mem}, Twin L M → ∀ m ∈ M, ∃ p ∈ L, RelV p.1 m.1 ∧ m.2 = p.2
  | [], [], _, _, h => by cases h
  | [], _ :: _, ⟨r, _⟩, _, _ => by cases r
  | _ :: _, [], ⟨r, _⟩, _, _ => by cases r
  | p :: L, m :: M, ⟨r, e⟩, x, h => by
    cases r with
    | cons r1 r2 =>
      rw [List.map_cons, List.map_cons] at e
      injection e with e1 e2
      rcases List.mem_cons.mp h with z | z
      · rw [z]
        exact ⟨p, List.mem_cons_self, r1, e1⟩
      · obtain ⟨q, hq, a, b⟩ := Twin.mem (L := L) (M := M) ⟨r2, e2⟩ x z
        exact ⟨q, List.mem_cons_of_mem _ hq, a, b⟩
theorem Twin.make : ∀ {L : List MemV} {us : List Value}, Vals (L.map (·.1)) us → ∃ M : List Mem, M.map (·.1) = us ∧ Twin L M
  | [], _, r => by
    cases r
    exact ⟨[], rfl, .nil⟩
  | p :: L, _, r => by
    cases r with
    | @cons _ u _ us r1 r2 =>
      obtain ⟨M, e, t⟩ := Twin.make (L := L) r2
      exact ⟨(u, p.2) :: M, by rw [List.map_cons, e], .cons r1 rfl t⟩
theorem Twin.pick {L : List MemV} {M : List Mem} (t : Twin L M) : ∀ {N : List Mem}, (∀ m ∈ N, m ∈ M) → ∃ L' : List MemV, Twin L' N ∧ ∀ p ∈ L', p ∈ L
  | [], _ => ⟨[], .nil, fun _ z => (by cases z)⟩
  | m :: N, h => by
    obtain ⟨p, hp, r, e⟩ := t.mem m (h m List.mem_cons_self)
    obtain ⟨L', t', hs⟩ := Twin.pick t (N := N) fun x hx => h x (List.mem_cons_of_mem _ hx)
    refine ⟨p :: L', .cons r e t', fun q hq => ?_⟩
    rcases List.mem_cons.mp hq with z | z
    · rw [z]
      exact hp
    · exact hs q z
/-- the set at a, without what its members are -/
def SetV0 (b : Bool) (w : World) (h : Heap) (a : Addr) (L : List MemV) : Prop := ∃ (M : List Mem) (es : Array (Int × Value)) (ep : Nat) (t : SetTable), Twin L M ∧
  (∃ o, h.get? a = some o ∧ o.ExactSet ∧ o.data = .set es ep t) ∧ es.toList = ents w M ∧ (M.map (·.2)).Nodup ∧ (∀ m ∈ M, Fit b m) ∧ Ris t.place.toList ∧ t.fits es.size = true ∧
  (w.params.followText "set-order" = true ∨ t.led = true) ∧ M.length < 64 ∧ (b = true → TabOk t (hs w M) ∧ M.length * 5 < t.mask * 3)
def SetV (b : Bool) (w : World) (a : Addr) (L : List MemV) : HO := .ext fun h => SetV0 b w h a L
theorem setV_ok {b : Bool} {P : Program} {w : World} {H : Hp} {h : Heap} {a : Addr} {L : List MemV} (R : SetV0 b w h a L) : ObjOk P w H h a (SetV b w a L) := by
  obtain ⟨_, _, _, _, _, ⟨o, ho, _⟩, _⟩ := id R
  refine ⟨R, ⟨o, ho⟩, fun h1 h2 p k => ?_⟩
  obtain ⟨M, es, ep, t, tw, ⟨o2, ho2, r⟩, q⟩ := (show SetV0 b w h1 a L from p)
  exact ⟨M, es, ep, t, tw, ⟨o2, k o2 ho2, r⟩, q⟩
section
variable {X : Cx}
/-- set(xs) -/
def rSetOf (X : Cx) : List V → Hp → VK → Prop := fun xs H Q => ∃ (b : Bool) (l : Addr) (ms : List MemV), xs = [V.ref l] ∧ (SqL X.K H l (ms.map (·.1)) ∨ SqT X.K H l (ms.map (·.1))) ∧ (∀ p ∈ ms, Kv X.K H p.1 p.2 ∧ FitV b p) ∧ ms.length < 64 ∧
  ∀ a L, H a = none → (∀ p ∈ L, p ∈ ms) → (∀ p ∈ ms, p.2 ∈ L.map (·.2)) → (L.map (·.2)).Nodup → Q (.ref a) (upd H a (SetV b X.w a L))
theorem cr_setOf (hc : X.calm = true) (hu : X.A.units + 64 < cLine) : CallR X (.type "set") (rSetOf X) := by
  intro pins s σ H xs us Q I r h
  obtain ⟨b, l, ms, rfl, hl, hk, h64, q⟩ := h
  rw [Vals.ref1 r]
  have hn : H s.heap.objs.size = none := I.hok.fresh (Nat.le_refl _)
  have fin : ∀ M : List Mem, Twin ms M → Made b X.w s M (EP X pins σ Q) := fun M tw h' tk L es ep t R g k => by
    obtain ⟨L', t', sub⟩ := tw.pick (N := L) fun m hm => List.mem_of_mem_take (g.sub m hm)
    refine ⟨.ref s.heap.objs.size, upd H s.heap.objs.size (SetV b X.w s.heap.objs.size L'), I.laid (t' := tk) k (Nat.le_refl _) (setV_ok ⟨L, es, ep, t, t', R.ob, R.eq, R.nd, R.fit, R.ris, R.full, R.led, R.few, R.tab⟩), rfl, q _ L' hn sub (fun p hp => ?_) ?_⟩
    · rw [← t'.2]
      have e : p.2 ∈ M.map (·.2) := by
        rw [tw.2]
        exact List.mem_map.mpr ⟨p, hp, rfl⟩
      obtain ⟨m, hm, em⟩ := List.mem_map.mp e
      rw [← em]
      exact g.all m (by rw [List.take_length]; exact hm)
    · rw [← t'.2]
      exact R.nd
  have pre : ∀ M : List Mem, Twin ms M → (∀ m ∈ M, NestedIs s.heap m.2 m.1) ∧ (∀ m ∈ M, Fit b m) ∧ M.length < 64 := fun M tw => by
    refine ⟨fun m hm => ?_, fun m hm => ?_, ?_⟩
    · obtain ⟨p, hp, r1, e1⟩ := tw.mem m hm
      rw [e1]
      exact (Kv.reads I p.2 p.1 m.1 (hk p hp).1 r1).1
    · obtain ⟨p, hp, r1, e1⟩ := tw.mem m hm
      exact (hk p hp).2.fit r1 e1
    · have z := congrArg List.length tw.2
      rw [List.length_map, List.length_map] at z
      omega
  rcases hl with hl | hl
  · obtain ⟨its, rv, pl, hz⟩ := I.list hl
    obtain ⟨M, eM, tw⟩ := Twin.make rv
    obtain ⟨p1, p2, p3⟩ := pre M tw
    exact set_of_list b M (I.ok.hd hc) pl.isList (by simpa using eM.symm) p1 p2 p3 (by omega) (fin M tw)
  · obtain ⟨its, rv, pl, hz⟩ := I.tuple hl
    obtain ⟨M, eM, tw⟩ := Twin.make rv
    obtain ⟨p1, p2, p3⟩ := pre M tw
    exact set_of_tuple b M (I.ok.hd hc) pl (by simpa using eM.symm) p1 p2 p3 (by omega) (fin M tw)
/-- len(a set) -/
def rLenSet (X : Cx) : List V → Hp → VK → Prop := fun xs H Q => ∃ (b : Bool) (a : Addr) (L : List MemV), xs = [V.ref a] ∧ H a = some (SetV b X.w a L) ∧ Q (.int L.length) H
theorem cr_lenSet : CallR X (.builtin "len") (rLenSet X) := by
  intro pins s σ H xs us Q I r h
  obtain ⟨b, a, L, rfl, ha, q⟩ := h
  rw [Vals.ref1 r]
  obtain ⟨M, es, ep, t, tw, ⟨o, ho, hex, hd⟩, eq, _, _, _, full, _, few, _⟩ := (show SetV0 b X.w s.heap a L from (I.hok a _ ha).1)
  have z1 : es.size = M.length := by rw [← Array.length_toList, eq, ents, List.length_map]
  have z2 := congrArg List.length tw.2
  rw [List.length_map, List.length_map] at z2
  exact call_len_set ho hex hd full (by rw [z1]; omega) ⟨.int L.length, H, I.tok _, ⟨_, by rw [z1, z2]⟩, q⟩
end
end KS
/-! sorted(a set) -/
namespace KS
open PySem PySem.Spec PyProof.Rows L2
theorem same_keys {α β : Type} (f : α → β) {L L' : List α} (sub : ∀ x ∈ L', x ∈ L) (pm : (L'.map f).Perm (L.map f)) (nd : (L.map f).Nodup) : L'.Perm L := by
  have inj : ∀ x ∈ L, ∀ y ∈ L, f x = f y → x = y := fun x hx y hy e => by
    obtain ⟨i, hi, rfl⟩ := List.getElem_of_mem hx
    obtain ⟨j, hj, rfl⟩ := List.getElem_of_mem hy
    have e2 : (L.map f)[i]? = (L.map f)[j]? := by
      rw [List.getElem?_map, List.getElem?_map, List.getElem?_eq_getElem hi, List.getElem?_eq_getElem hj]
      show some _ = some _
      rw [e]
    have ij : i = j := (List.getElem?_inj (by rw [List.length_map]; exact hi) nd).mp e2
    subst ij
    rfl
  have n1 : L'.Nodup := nodup_of_map (pm.nodup_iff.mpr nd)
  have n2 : L.Nodup := nodup_of_map nd
  refine (List.perm_ext_iff_of_nodup n1 n2).mpr fun x => ⟨sub x, fun hx => ?_⟩
  obtain ⟨y, hy, e⟩ := List.mem_map.mp (pm.mem_iff.mpr (List.mem_map.mpr ⟨x, hx, rfl⟩))
  rw [← inj y (sub y hy) x hx e]
  exact hy
/-- x stands behind y -/
def Aft (p q : MemV) : Prop := W.dataLt q.2.data p.2.data = false
mutual
theorem data_depth : ∀ k : NestedKey, k.data.depth = k.depth
  | .none => rfl
  | .num _ => rfl
  | .text _ => rfl
  | .tup ks => by
    show PyData.depthAll (NestedKey.datas ks) + 1 = NestedKey.depthAll ks + 1
    rw [datas_depth ks]
theorem datas_depth : ∀ ks : List NestedKey, PyData.depthAll (NestedKey.datas ks) = NestedKey.depthAll ks
  | [] => rfl
  | k :: ks => by
    show max k.data.depth (PyData.depthAll (NestedKey.datas ks)) = max k.depth (NestedKey.depthAll ks)
    rw [data_depth k, datas_depth ks]
end
section
variable {X : Cx}
/-- sorted(a set): a new list, ascending -/
def rSortSet (X : Cx) : List V → Hp → VK → Prop := fun xs H Q => ∃ (b : Bool) (a : Addr) (L : List MemV), xs = [V.ref a] ∧ H a = some (SetV b X.w a L) ∧ (∀ p ∈ L, Kv X.K H p.1 p.2) ∧
  W.AllAlike (L.map (·.2.data)) ∧ W.Sortable (L.map (·.2.data)) ∧
  ∀ (L' : List MemV) (p : Addr), L'.Perm L → L'.Pairwise Aft → H p = none → Q (.ref p) (upd H p (.lst (L'.map (·.1))))
theorem vals_each : ∀ {L : List MemV} {us : List Value}, Vals (L.map (·.1)) us → W.EachIs (fun v (p : MemV) => RelV p.1 v) us L
  | [], _, r => by
    cases r
    exact .nil
  | p :: L, _, r => by
    cases r with
    | cons r1 r2 => exact .cons r1 (vals_each r2)
theorem each_vals : ∀ {us : List Value} {L : List MemV}, W.EachIs (fun v (p : MemV) => RelV p.1 v) us L → Vals (L.map (·.1)) us
  | _, _, .nil => .nil
  | _, _, .cons r t => .cons r (each_vals t)
theorem each_and {α β : Type} {R S : α → β → Prop} : ∀ {as : List α} {bs : List β}, W.EachIs R as bs → (∀ a, ∀ b ∈ bs, R a b → S a b) → W.EachIs S as bs
  | _, _, .nil, _ => .nil
  | _, _, .cons r t, h => .cons (h _ _ List.mem_cons_self r) (each_and t fun a b hb => h a b (List.mem_cons_of_mem _ hb))
theorem cr_sortSet (hc : X.calm = true) (hu : X.A.units + 64 < cLine) : CallR X (.builtin "sorted") (rSortSet X) := by
  intro pins s σ H xs us Q I r h
  obtain ⟨b, a, L, rfl, ha, hk, al, so, q⟩ := h
  rw [Vals.ref1 r]
  obtain ⟨M, es, ep, t, tw, ⟨o, ho, hex, hd⟩, eq, nd, fit, ris, full, led, few, _⟩ := (show SetV0 b X.w s.heap a L from (I.hok a _ ha).1)
  have z1 : es.size = M.length := by rw [← Array.length_toList, eq, ents, List.length_map]
  have z2 := congrArg List.length tw.2
  rw [List.length_map, List.length_map] at z2
  have ndL : (L.map (·.2)).Nodup := by
    rw [← tw.2]
    exact nd
  refine Calls.call_function_entry kind_sorted plain_sorted entry_sorted (args_sorted1 _) ?_
  unfold Builtin.«sorted»
  refine wpAny_bind (m := checkCount "sorted" 1 1 _) (wpAny_pure (wpAny_bind (collect_set (A := X.A.in1) (I.ok.hd hc) ⟨o, ho, hex.1, hd⟩ full (by rw [z1]; show M.length < 4096; omega) ris led fun s1 vs k1 hz g1 o1 pm => ?_)))
  rw [eq, ents, List.map_map] at pm
  obtain ⟨M1, e1, p1⟩ := perm_back (fun m : Mem => m.1) vs M pm
  obtain ⟨L1, t1, sub⟩ := tw.pick (N := M1) fun m hm => p1.mem_iff.mp hm
  have pL : L1.Perm L := same_keys (fun p : MemV => p.2) sub (by rw [← t1.2, ← tw.2]; exact p1.map _) ndL
  have zL : L1.length < 64 := by
    rw [pL.length_eq]
    omega
  have rv : Vals (L1.map (·.1)) vs := by
    rw [e1]
    exact t1.1
  have zv : vs.length = L1.length := by rw [← rv.length, List.length_map]
  refine wpAny_bind (wpAny_newList ?_ (by rw [zv, sizeLine_eq]; omega))
  have hoL : (s1.heap.push (seqObj "list" vs.toArray 0)).get? s1.heap.objs.size = some (seqObj "list" vs.toArray 0) := Heap.get?_push_size _ rfl
  have pd : (L1.map (·.2.data)).Perm (L.map (·.2.data)) := pL.map _
  have al1 : W.AllAlike (L1.map (·.2.data)) := fun d hd d' hd' => al d (pd.mem_iff.mp hd) d' (pd.mem_iff.mp hd')
  have so1 : W.Sortable (L1.map (·.2.data)) := so.imp (fun h d hd => h d (pd.mem_iff.mp hd)) fun h d hd => h d (pd.mem_iff.mp hd)
  have dep : ∀ p ∈ L1, p.2.data.depth ≤ 8 := fun p hp => by
    have e : p.2 ∈ M.map (·.2) := by
      rw [tw.2]
      exact List.mem_map.mpr ⟨p, sub p hp, rfl⟩
    obtain ⟨m, hm, em⟩ := List.mem_map.mp e
    rw [data_depth, ← em]
    exact fit_depth (fit m hm)
  refine wpAny_bind (wpAny_holding (W.list_sort_data (s := { s1 with heap := s1.heap.push (seqObj "list" vs.toArray 0) }) hoL (vals_each rv) (each_and (vals_each rv) fun v p hp r0 => ⟨[], ?_, by simp⟩) al1 so1 (by rw [sizeLine_eq]; omega) (fun p hp => by have := dep p hp; simp only [Around.in1_units]; omega) fun out zo eo => ?_))
  · exact PyProof.Rows.Reads.keeps (fun b u e => Heap.get?_push_of_some _ (k1 b u e)) (Kv.reads I p.2 p.1 v (hk p (sub p hp)) r0).2
  · obtain ⟨c, hc2⟩ := sortedHeap_at (vs := vs) (out := List.toArray out) hoL
    have pS := List.mergeSort_perm L1 (W.dataLe false fun p : MemV => p.2.data)
    have oS : (L1.mergeSort (W.dataLe false fun p : MemV => p.2.data)).Pairwise Aft := by
      refine (W.sort_pairwise (W.sortLe_total _ false _) L1).imp fun {p q} hle => ?_
      have h2 : (!W.dataLt q.2.data p.2.data) = true := hle
      show W.dataLt q.2.data p.2.data = false
      cases e : W.dataLt q.2.data p.2.data with
      | false => rfl
      | true =>
        rw [e] at h2
        cases h2
    have rS := each_vals eo
    generalize L1.mergeSort (W.dataLe false fun p : MemV => p.2.data) = S at pS oS rS
    have hn : H s1.heap.objs.size = none := I.hok.fresh hz
    have keep : ∀ b u, s.heap.get? b = some u → (sortedHeap (s1.heap.push (seqObj "list" vs.toArray 0)) s1.heap.objs.size vs (List.toArray out)).get? b = some u := fun b u e => by
      have e2 := k1 b u e
      have lt := Heap.lt_size e2
      rw [sortedHeap_old (Nat.ne_of_lt lt) (by rw [size_push']; exact Nat.lt_succ_of_lt lt)]
      exact Heap.get?_push_of_some _ e2
    have len : (S.map (·.1)).length ≤ sizeLine := by
      rw [List.length_map, pS.length_eq, sizeLine_eq]
      omega
    have J : Inv X pins σ (upd H s1.heap.objs.size (.lst (S.map (·.1)))) { s with heap := sortedHeap (s1.heap.push (seqObj "list" vs.toArray 0)) s1.heap.objs.size vs (List.toArray out), gens := s1.gens, drawn := s1.drawn, toks := s1.toks } :=
      I.call (ch := []) (Un.laid keep hz hn) (I.hok.laid keep hz ⟨len, out, c, rS, by simpa using hc2⟩) (by rw [g1]; exact I.bare) (fun _ z => nomatch z)
    obtain ⟨hp1, gn1, dr1, tk1, os1⟩ := s1
    have eo1 : os1 = s.os := o1
    subst eo1
    exact wpAny_pure ⟨_, rfl, ⟨.ref hp1.objs.size, _, J, rfl, q S hp1.objs.size (pS.trans pL) oS hn⟩⟩
end
end KS
/-! Defs that are called where no repr is under way: their promise may lean on repr. -/
namespace KG
open PySem PySem.Spec PyProof.Rows L2

/-- a def's promise where nothing is being shown -/
structure FnG (P : Program) (w : World) (K : PySem.W.Frag) (mg : Str → Option Value) (base : Heap) (CX : CXT) (k : Nat) (f : Addr) (fd : FuncData) (ps : List Str) (sp : Sp) : Prop where
  size : ∀ vs H Q E, sp vs H Q E → vs.length = ps.length
  go : ∀ (A : Around) (outer : List Env) (s : Shared) (H : Hp) (args : Args) (us : List Value) (vs : List V) (Q : VK) (E : XK),
    A.guards = some [] → Room k A → Env0 P w K mg base A outer s H → BindsTo s fd args (ps.zip us) → Vals vs us → sp vs H Q E →
    codeAny (model P w) A (.call (.ref f) args) (CR CX outer P w H s Q E) s

section
variable {P : Program} {w : World} {K : PySem.W.Frag} {mg : Str → Option Value} {base : Heap} {CX : CXT} {k : Nat} {f : Addr} {fd : FuncData} {ps : List Str} {sp : Sp}
theorem FnG.of (F : FnOk P w K mg base CX k f fd ps sp) : FnG P w K mg base CX k f fd ps sp :=
  ⟨F.len, fun A outer s H args us vs Q E _ => F.run A outer s H args us vs Q E⟩
theorem FnG.up {j : Nat} (F : FnG P w K mg base CX j f fd ps sp) (h : j ≤ k) : FnG P w K mg base CX k f fd ps sp :=
  ⟨F.size, fun A outer s H args us vs Q E g hr => F.go A outer s H args us vs Q E g (hr.mono h)⟩

/-- the body's rule, where nothing is being shown -/
theorem okG {x qual : Str} {st : Stmt} {N : List Str} (F : Fun K x qual st f fd) (S : FnScope N ps (defScope st)) (len : ∀ vs H Q E, sp vs H Q E → vs.length = ps.length)
    (hbody : ∀ (cdv : Value) (A : Around) (outer : List Env) (s : Shared) (H : Hp) (vs : List V) (Q : VK) (E : XK),
      (A.deeper (envOfC qual (defScope st) s.heap.objs.size f cdv)).guards = some [] → Room k (A.deeper (envOfC qual (defScope st) s.heap.objs.size f cdv)) → sp vs H Q E →
      ∃ t, PSs (cxOf CX P w K mg base N qual (defScope st) f cdv A outer s H E) (defBody st) t ∧ t { nx := fun _ H' => Q .non H', rt := Q } (start N vs) H) :
    FnG P w K mg base CX (k + 1) f fd ps sp := by
  obtain ⟨oc, od, kV, doc, pm, an, cdv, ct, osl, rfl, lk, hcd⟩ := F.ex
  refine ⟨len, fun A outer s H args us vs Q E hg hr e0 hb rv h => ?_⟩
  refine StX.run_bnd (G := fun xs H2 => xs = vs ∧ H2 = H) lk hcd S hr e0 (fun A' Ex Q' hq => ?_) ?_
  · exact hb _ _ _ _ (hq s H vs us e0 Un.refl rfl (fun _ _ z => z) rv (len _ _ _ _ h) ⟨rfl, rfl⟩)
  · rintro s2 H2 xs ⟨ex, eH⟩ hr2
    rw [ex, eH]
    have hg2 : (A.deeper (envOfC qual (defScope st) s2.heap.objs.size f cdv)).guards = some [] := hg
    rw [eH] at *
    exact hbody cdv A outer s2 H vs Q E hg2 hr2 h
end

section
variable {X : Cx} {CX : CXT} {k : Nat} {f : Addr} {fd : FuncData} {ps : List Str} {sp : Sp} {dvs : List V} {ds : List Value} {E : XK} {x : Str} {p pos : Pos} {e : Expr} {es : List Expr} {t : TA}
/-- f(e, ..) where nothing is being shown -/
theorem pe_callG (F : FnG X.prog X.w X.K X.mg X.base CX k f fd ps sp) (hgu : X.A.guards = some []) (hr : Room k X.A) (hg : Gl X x) (hm : X.mg x = some (.ref f)) (hk : PySem.W.keepIn X.K (.ref f) = true)
    (hb : Binds X.K fd ps ds) (hd : Vals dvs ds) (hx : Passes CX X E) (ha : PA X (e :: es) t) (hdb : (x == ("__debug__" : Str)) = false := by decide)
    (he : starEach (e :: es) X.env = (false, eval e X.env) :: starEach es X.env := by rfl) (hpl : (backTo pos (starEach es X.env)).any (·.1) = false := by rfl) :
    PE X (.Call (.Name x p) (e :: es) [] pos) (tCall sp dvs E t) := by
  constructor
  intro pins s σ H Q I h
  apply wpAny_Call_Name_kw (ld_glob I hg hm ?_ hdb)
  apply PySem.W.callWith_K (h₀ := X.base) I.ok.mod.kin hk ?_ he hpl
  apply thn (ha.run pos pins s σ H _ I h)
  rintro us s1 ⟨vs, H1, I1, r, q⟩
  refine ⟨I1.kIn, ?_⟩
  have r2 : Vals (vs ++ dvs) (us ++ ds) := Vals.append r hd
  have hl : (us ++ ds).length = ps.length := by
    rw [← Paired.length r2]
    exact F.size _ _ _ _ q
  show wpAny _ _ (call (.ref f) us) _ _ _
  refine wpAny_call (codeAny_mono (F.go X.A X.stack s1 H1 ⟨us, []⟩ (us ++ ds) (vs ++ dvs) Q E hgu hr I1.env0 (hb s1 us I1.kIn hl) r2 q) ?_)
  rintro (er | fl) s' hq
  · exact hx pins σ H1 s1 er s' I1 hq
  · cases fl with
    | ret u => exact Inv.after I1 hq
    | next => exact hq.elim
    | brk => exact hq.elim
    | cont => exact hq.elim
end
end KG
namespace KG
open PySem PySem.Spec PyProof.Rows L2

mutual
/-- what is built of None, bools, ints, texts, lists, tuples and dicts that stand in the abstract heap, at addresses of Z alone -/
inductive Dq (Z : Addr → Prop) (H : Hp) : V → PyData → Prop
  | non : Dq Z H .non .none
  | bl (b : Bool) : Dq Z H (.bl b) (.bool b)
  | int (i : Int) : Dq Z H (.int i) (.int i)
  | str (x : Str) : Dq Z H (.str x) (.str x)
  | lst {a : Addr} {xs : List V} {ds : List PyData} : Z a → H a = some (.lst xs) → DqAll Z H xs ds → Dq Z H (.ref a) (.list ds)
  | tup {a : Addr} {xs : List V} {ds : List PyData} : Z a → H a = some (.tup xs) → DqAll Z H xs ds → Dq Z H (.ref a) (.tuple ds)
  | dct {a : Addr} {kvs : List (Key × V)} {ps : List (PyData × PyData)} : Z a → H a = some (.dK kvs) →
      DqAll Z H (kvs.map fun p => kV p.1) (ps.map (·.1)) → DqAll Z H (kvs.map fun p => p.2) (ps.map (·.2)) → Dq Z H (.ref a) (.dict ps)
inductive DqAll (Z : Addr → Prop) (H : Hp) : List V → List PyData → Prop
  | nil : DqAll Z H [] []
  | cons {v : V} {vs : List V} {d : PyData} {ds : List PyData} : Dq Z H v d → DqAll Z H vs ds → DqAll Z H (v :: vs) (d :: ds)
end

section
variable {Z : Addr → Prop} {H H' : Hp}
mutual
theorem Dq.keep (e : ∀ b o, Z b → H b = some o → H' b = some o) : ∀ {v : V} {d : PyData}, Dq Z H v d → Dq Z H' v d
  | _, _, .non => .non
  | _, _, .bl b => .bl b
  | _, _, .int i => .int i
  | _, _, .str x => .str x
  | _, _, .lst z h a => .lst z (e _ _ z h) (DqAll.keep e a)
  | _, _, .tup z h a => .tup z (e _ _ z h) (DqAll.keep e a)
  | _, _, .dct z h a b => .dct z (e _ _ z h) (DqAll.keep e a) (DqAll.keep e b)
theorem DqAll.keep (e : ∀ b o, Z b → H b = some o → H' b = some o) : ∀ {vs : List V} {ds : List PyData}, DqAll Z H vs ds → DqAll Z H' vs ds
  | _, _, .nil => .nil
  | _, _, .cons a b => .cons (Dq.keep e a) (DqAll.keep e b)
end
mutual
theorem Dq.mono {Z' : Addr → Prop} (e : ∀ b, Z b → Z' b) : ∀ {v : V} {d : PyData}, Dq Z H v d → Dq Z' H v d
  | _, _, .non => .non
  | _, _, .bl b => .bl b
  | _, _, .int i => .int i
  | _, _, .str x => .str x
  | _, _, .lst z h a => .lst (e _ z) h (DqAll.mono e a)
  | _, _, .tup z h a => .tup (e _ z) h (DqAll.mono e a)
  | _, _, .dct z h a b => .dct (e _ z) h (DqAll.mono e a) (DqAll.mono e b)
theorem DqAll.mono {Z' : Addr → Prop} (e : ∀ b, Z b → Z' b) : ∀ {vs : List V} {ds : List PyData}, DqAll Z H vs ds → DqAll Z' H vs ds
  | _, _, .nil => .nil
  | _, _, .cons a b => .cons (Dq.mono e a) (DqAll.mono e b)
end
theorem Dq.same (e : Same H H') {v : V} {d : PyData} (h : Dq Z H v d) : Dq Z H' v d := h.keep fun b o _ q => e b o q
theorem DqAll.same (e : Same H H') {vs : List V} {ds : List PyData} (h : DqAll Z H vs ds) : DqAll Z H' vs ds := h.keep fun b o _ q => e b o q
theorem DqAll.length : ∀ {vs : List V} {ds : List PyData}, DqAll Z H vs ds → vs.length = ds.length
  | _, _, .nil => rfl
  | _, _, .cons _ b => congrArg (· + 1) (DqAll.length b)
theorem DqAll.snoc {v : V} {d : PyData} (h : Dq Z H v d) : ∀ {vs : List V} {ds : List PyData}, DqAll Z H vs ds → DqAll Z H (vs ++ [v]) (ds ++ [d])
  | _, _, .nil => .cons h .nil
  | _, _, .cons a b => .cons a (DqAll.snoc h b)
end
mutual
/-- at most how long the text of data is -/
def cost : PyData → Nat
  | .none => 4
  | .bool _ => 5
  | .int i => i.natAbs.log2 + 3
  | .str x => (reprText x).length
  | .list xs => costAll xs + 4
  | .tuple xs => costAll xs + 6
  | .dict kvs => costKv kvs + 4
def costAll : List PyData → Nat
  | [] => 0
  | x :: xs => cost x + 2 + costAll xs
def costKv : List (PyData × PyData) → Nat
  | [] => 0
  | (k, v) :: r => cost k + cost v + 4 + costKv r
end
theorem list_len (ts : List Str) : (listText ts).length ≤ piled ts + 2 := by
  have h : (listText ts).length = (textFrom 0 "[" ts).length + 1 := by
    show (textFrom 0 "[" ts ++ "]").length = _
    rw [strLen_append]; rfl
  cases ts with
  | nil => rw [h]; exact Nat.le_refl _
  | cons t r =>
    have e : textFrom 0 "[" (t :: r) = textFrom 1 (("[" : Str) ++ (if 0 > 0 then ", " else "" : String) ++ t) r := rfl
    rw [h, e, textFrom_length_pos r 1 _ (by decide), strLen_append, strLen_append]
    show 1 + 0 + t.length + piled r + 1 ≤ t.length + 2 + piled r + 2
    omega
theorem tuple_len (ts : List Str) : (tupleText ts).length ≤ piled ts + 4 := by
  have h : (tupleText ts).length ≤ 1 + (Str.join ", " ts).length + 2 := by
    unfold tupleText
    rw [strLen_append, strLen_append]
    have : (Str.ofString (if ts.length == 1 then ",)" else ")" : String)).length ≤ 2 := by
      split <;> decide
    have e : (("(" : Str)).length = 1 := rfl
    omega
  cases ts with
  | nil => exact Nat.le_trans h (by decide)
  | cons t r =>
    have := join_length_add (t :: r) (by simp)
    omega
theorem dict_len (ts : List Str) : (dictText ts).length ≤ piled ts + 2 := by
  have h : (dictText ts).length = 1 + (Str.join ", " ts).length + 1 := by
    unfold dictText
    rw [strLen_append, strLen_append]
    rfl
  cases ts with
  | nil => exact Nat.le_trans (Nat.le_of_eq h) (by decide)
  | cons t r =>
    have := join_length_add (t :: r) (by simp)
    omega
mutual
theorem shown_cost : ∀ d : PyData, d.shown.length ≤ cost d
  | .none => by simp only [PyData.shown, cost]; decide
  | .bool b => by cases b <;> simp only [PyData.shown, cost] <;> decide
  | .int i => by
    simp only [PyData.shown, cost]
    have := int_text_length_le (a := i) (k := i.natAbs.log2 + 1) (by omega) (by omega)
    rw [PySem.ofString_length]
    omega
  | .str x => by simp only [PyData.shown, cost]; exact Nat.le_refl _
  | .list xs => by
    simp only [PyData.shown, cost]
    have := list_len (PyData.shownAll xs)
    have := shownAll_cost xs
    omega
  | .tuple xs => by
    simp only [PyData.shown, cost]
    have := tuple_len (PyData.shownAll xs)
    have := shownAll_cost xs
    omega
  | .dict kvs => by
    simp only [PyData.shown, cost]
    have := dict_len (PyData.shownKv kvs)
    have := shownKv_cost kvs
    omega
theorem shownAll_cost : ∀ xs : List PyData, piled (PyData.shownAll xs) ≤ costAll xs
  | [] => by simp only [PyData.shownAll, costAll]; exact Nat.le_refl _
  | x :: xs => by
    have := shown_cost x
    have := shownAll_cost xs
    have e : piled (PyData.shownAll (x :: xs)) = (x.shown.length + 2) + piled (PyData.shownAll xs) := by simp only [PyData.shownAll, piled, List.map_cons, List.sum_cons]
    rw [e]
    simp only [costAll]
    omega
theorem shownKv_cost : ∀ kvs : List (PyData × PyData), piled (PyData.shownKv kvs) ≤ costKv kvs
  | [] => by simp only [PyData.shownKv, costKv]; exact Nat.le_refl _
  | (k, v) :: r => by
    have h1 := shown_cost k
    have h2 := shown_cost v
    have h3 := shownKv_cost r
    have e : ((": " : Str)).length = 2 := rfl
    have q : piled (PyData.shownKv ((k, v) :: r)) = ((k.shown ++ ": " ++ v.shown).length + 2) + piled (PyData.shownKv r) := by simp only [PyData.shownKv, piled, List.map_cons, List.sum_cons]
    rw [q, strLen_append, strLen_append, e]
    simp only [costKv]
    omega
end

theorem rel_key {P : Program} {w : World} {k : Key} {u : Value} (h : (mixKind P w).is k u = true) : RelV (kV k) u := by
  rcases keyIs_shape h with ⟨i, t, rfl, rfl⟩ | ⟨x, t, rfl, rfl⟩
  · exact ⟨t, rfl⟩
  · exact ⟨t, rfl⟩
theorem pairs_keys {P : Program} {w : World} : ∀ {es : List DictEntry} {vs : List (Key × Value)} {kvs : List (Key × V)}, Pairs (mixKind P w) es vs → KV kvs vs →
    Vals (kvs.map fun p => kV p.1) (es.map (·.key)) ∧ Vals (kvs.map fun p => p.2) (es.map (·.val))
  | _, _, _, .nil, .nil => ⟨.nil, .nil⟩
  | _, _, _, .cons h1 h2 h3, .cons h4 h5 => by
    obtain ⟨e1, e2⟩ := h4
    obtain ⟨i1, i2⟩ := pairs_keys h3 h5
    refine ⟨.cons ?_ i1, .cons ?_ i2⟩
    · show RelV (kV _) _
      rw [e1]
      exact rel_key h1
    · show L2.RelV _ (DictEntry.val _)
      rw [h2]
      exact e2

section
variable {X : Cx} {pins : List (Addr × Obj)} {σ : L2.St} {H : Hp} {s : Shared} {Z : Addr → Prop}
theorem shown_mem {ds : List PyData} {n : Nat} (f : List Str → Str) (hf : ∀ {ts : List Str} {t : Str}, t ∈ ts → t.length ≤ (f ts).length) (h : (f (PyData.shownAll ds)).length ≤ n) : ∀ t ∈ PyData.shownAll ds, t.length ≤ n :=
  fun _ ht => Nat.le_trans (hf ht) h
mutual
theorem Dq.shows (I : Inv X pins σ H s) : ∀ {v : V} {d : PyData}, Dq Z H v d → ∀ (u : Value), RelV v u → d.showable = true → d.shown.length ≤ sizeLine →
    ∃ as bs, Reads s.heap u d as ∧ ReadAtMost s.heap d.depth bs ∧ ReprK X.prog X.w bs s.heap d.depth u d.shown
  | _, _, .non, u, r, _, _ => by
    obtain rfl : u = Value.none := r
    exact ⟨[], [], .none, (fun _ h => nomatch h), by simp only [PyData.shown]; exact .of_is ReprIs.none _ _ _⟩
  | _, _, .bl b, u, r, _, _ => by
    obtain rfl : u = Value.bool b := r
    exact ⟨[], [], .bool b, (fun _ h => nomatch h), by simp only [PyData.shown]; exact .of_is (ReprIs.bool b) _ _ _⟩
  | _, _, .int i, u, r, hs, _ => by
    obtain ⟨t, rfl⟩ := r
    exact ⟨[], [], .int i t, (fun _ h => nomatch h), by simp only [PyData.shown]; exact .of_is (ReprIs.int t (by simpa [PyData.showable] using hs)) _ _ _⟩
  | _, _, .str x, u, r, _, hz => by
    obtain ⟨t, rfl⟩ := r
    exact ⟨[], [], .str x t, (fun _ h => nomatch h), by simp only [PyData.shown] at hz ⊢; exact .of_is (ReprIs.str x t hz) _ _ _⟩
  | _, _, .lst (a := a) (ds := ds) _ ha hd, u, r, hs, hz => by
    obtain rfl : u = Value.ref a := r
    simp only [PyData.shown, PyData.showable] at hs hz
    obtain ⟨_, its, n, rv, ho⟩ := (show ObjOk X.prog X.w H s.heap a (.lst _) from I.hok a _ ha)
    obtain ⟨as, bs, q1, q2, q3⟩ := DqAll.shows I hd its rv hs (shown_mem listText listText_mem_le hz)
    have rr : Reads s.heap (.ref a) (.list ds) (a :: as) := .list ho rfl rfl (by simpa using q1)
    have hna : a ∉ bs := not_mem_of_deeper rr (by simp only [PyData.depth]; omega) q2
    refine ⟨_, a :: bs, rr, ReadAtMost.cons rr (by simp only [PyData.depth]; omega) q2, ?_⟩
    simp only [PyData.depth, PyData.shown]
    cases its with
    | nil =>
      cases q1
      simp only [PyData.shownAll, listText_nil]
      exact ReprK.listEmpty ho rfl rfl
    | cons x l => exact ReprK.list ho rfl rfl hna (by simpa using q3.length_eq) (fun i y e => q3.item i y (by simpa using e))
  | _, _, .tup (a := a) (ds := ds) _ ha hd, u, r, hs, hz => by
    obtain rfl : u = Value.ref a := r
    simp only [PyData.shown, PyData.showable] at hs hz
    obtain ⟨_, its, rv, o, ho, hc, n, hdat⟩ := (show ObjOk X.prog X.w H s.heap a (.tup _) from I.hok a _ ha)
    obtain ⟨as, bs, q1, q2, q3⟩ := DqAll.shows I hd its rv hs (shown_mem tupleText tupleText_mem_le hz)
    have rr : Reads s.heap (.ref a) (.tuple ds) as := .tuple ho hc hdat (by simpa using q1)
    have hna : a ∉ bs := not_mem_of_deeper rr (by simp only [PyData.depth]; omega) q2
    refine ⟨_, a :: bs, rr, ReadAtMost.cons rr (by simp only [PyData.depth]; omega) q2, ?_⟩
    simp only [PyData.depth, PyData.shown]
    exact ReprK.tuple ho hc hdat hna (by simpa using q3)
  | _, _, .dct (a := a) (ps := ps) _ ha hk hv, u, r, hs, hz => by
    obtain rfl : u = Value.ref a := r
    simp only [PyData.shown, PyData.showable] at hs hz
    obtain ⟨_, hsy, vs, rel, o, es, ep, ho, hx, hdat, _, prs, _⟩ := dk_of I.hok ha
    obtain ⟨r1, r2⟩ := pairs_keys prs rel
    obtain ⟨hs1, hs2⟩ := PyData.showableKv_split ps hs
    obtain ⟨as1, b1, q1, q2, q3⟩ := DqAll.shows I hk _ r1 hs1 (fun t ht => let ⟨p, hp, hl⟩ := PyData.shownKv_key_le ps t ht; Nat.le_trans hl (Nat.le_trans (dictText_mem_le hp) hz))
    obtain ⟨as2, b2, p1, p2, p3⟩ := DqAll.shows I hv _ r2 hs2 (fun t ht => let ⟨p, hp, hl⟩ := PyData.shownKv_val_le ps t ht; Nat.le_trans hl (Nat.le_trans (dictText_mem_le hp) hz))
    have hb : ReadAtMost s.heap (PyData.depthKv ps) (b1 ++ b2) := (q2.mono (PyData.depthAll_keys_le ps)).append (p2.mono (PyData.depthAll_vals_le ps))
    have rr : Reads s.heap (.ref a) (.dict ps) (a :: as1 ++ as2) := .dict ho hx.1 hdat q1 p1
    have hna : a ∉ b1 ++ b2 := not_mem_of_deeper rr (by simp only [PyData.depth]; omega) hb
    refine ⟨_, a :: (b1 ++ b2), rr, ReadAtMost.cons rr (by simp only [PyData.depth]; omega) hb, ?_⟩
    simp only [PyData.depth, PyData.shown, PyData.shownKv_eq]
    exact ReprK.dict ho hx.1 hdat hsy hna (ReprEntriesK.of_two es.toList _ _ (q3.more_le (fun b hb => List.mem_append_left _ hb) (PyData.depthAll_keys_le ps))
      (p3.more_le (fun b hb => List.mem_append_right _ hb) (PyData.depthAll_vals_le ps)))
theorem DqAll.shows (I : Inv X pins σ H s) : ∀ {xs : List V} {ds : List PyData}, DqAll Z H xs ds → ∀ (us : List Value), Vals xs us → PyData.showableAll ds = true → (∀ t ∈ PyData.shownAll ds, t.length ≤ sizeLine) →
    ∃ as bs, ReadsAll s.heap us ds as ∧ ReadAtMost s.heap (PyData.depthAll ds) bs ∧ ReprAllK X.prog X.w bs s.heap (PyData.depthAll ds) us (PyData.shownAll ds)
  | _, _, .nil, us, r, _, _ => by
    cases r
    exact ⟨[], [], .nil, (fun _ h => nomatch h), by simp only [PyData.shownAll]; exact .nil⟩
  | _, _, .cons (d := d) (ds := ds) h1 h2, us, r, hs, hz => by
    cases r with
    | cons r1 r2 =>
      simp only [PyData.showableAll, Bool.and_eq_true] at hs
      obtain ⟨as1, b1, q1, q2, q3⟩ := Dq.shows I h1 _ r1 hs.1 (hz _ (by simp only [PyData.shownAll]; exact List.mem_cons_self ..))
      obtain ⟨as2, b2, p1, p2, p3⟩ := DqAll.shows I h2 _ r2 hs.2 (fun t ht => hz t (by simp only [PyData.shownAll]; exact List.mem_cons_of_mem _ ht))
      refine ⟨as1 ++ as2, b1 ++ b2, .cons q1 p1, ?_, ?_⟩
      · simp only [PyData.depthAll]
        exact (q2.mono (Nat.le_max_left _ _)).append (p2.mono (Nat.le_max_right _ _))
      · simp only [PyData.depthAll, PyData.shownAll]
        exact .cons ((q3.more fun b hb => List.mem_append_left _ hb).level_le (Nat.le_max_left _ _)) (p3.more_le (fun b hb => List.mem_append_right _ hb) (Nat.le_max_right _ _))
end

/-- repr(x) of data -/
def rRepr : List V → Hp → VK → Prop := fun xs H Q => ∃ (Z : Addr → Prop) (x : V) (d : PyData), xs = [x] ∧ Dq Z H x d ∧ d.showable = true ∧ d.depth ≤ 60 ∧ d.shown.length ≤ sizeLine ∧ Q (.str d.shown) H
theorem call_repr (hg : X.A.guards = some []) (hu : X.A.units + 64 < cLine) : CallR X (.builtin "repr") rRepr := by
  intro pins s σ H xs us Q I r h
  obtain ⟨Z, x, d, rfl, hd, hs, hdp, hz, q⟩ := h
  obtain ⟨u, rfl, rx⟩ := vals1 r
  have fin : ∀ (h' : Heap) (tu : Tok) (tk : Nat), (∀ b o, s.heap.get? b = some o → h'.get? b = some o) → EP X pins σ Q (.str d.shown tu) { s with heap := h', toks := tk } := fun h' tu tk k =>
    ⟨.str d.shown, H, I.kept k, ⟨tu, rfl⟩, q⟩
  have hu2 : X.A.units + 1 < cLine := by omega
  have big : ∀ {n : Nat}, n + 1 ≤ 60 → X.A.in1.units + (n + 1) < cLine := fun {n} hn => by
    show X.A.units + 1 + (n + 1) < cLine
    omega
  obtain ⟨as, bs, rd, ra, rk⟩ := Dq.shows I hd u rx hs hz
  cases hd with
  | non =>
    obtain rfl : u = Value.none := rx
    simp only [PyData.shown] at fin
    exact PySem.P.repr_of_none (fin s.heap _ _ fun _ _ e => e)
  | bl b =>
    obtain rfl : u = Value.bool b := rx
    simp only [PyData.shown] at fin
    exact PySem.P.repr_of_bool (fin s.heap _ _ fun _ _ e => e)
  | int i =>
    obtain ⟨t, rfl⟩ := rx
    simp only [PyData.shown, PyData.showable] at fin hs
    exact PySem.P.repr_of_int (by simpa using hs) (fin s.heap _ _ fun _ _ e => e)
  | str y =>
    obtain ⟨t, rfl⟩ := rx
    simp only [PyData.shown] at fin hz
    exact PySem.P.repr_of_str (fin s.heap _ _ fun _ _ e => e) hz
  | @lst a xs ds _ ha hd =>
    obtain rfl : u = Value.ref a := rx
    simp only [PyData.shown, PyData.showable, PyData.depth] at fin hs hz hdp
    obtain ⟨_, its, n, rv, ho⟩ := (show ObjOk X.prog X.w H s.heap a (.lst _) from I.hok a _ ha)
    obtain ⟨as1, b1, q1, q2, q3⟩ := DqAll.shows I hd its rv hs (shown_mem listText listText_mem_le hz)
    have rr : Reads s.heap (.ref a) (.list ds) (a :: as1) := .list ho rfl rfl (by simpa using q1)
    have hna : a ∉ b1 := not_mem_of_deeper rr (by simp only [PyData.depth]; omega) q2
    cases its with
    | nil =>
      cases q1
      simp only [PyData.shownAll, listText_nil] at fin
      exact call_repr_slot hu2 ⟨_, ho, rfl⟩ F.slot_list_repr.toG (call_list_repr_empty ⟨_, ho, rfl⟩ ho rfl ⟨_, _, rfl, fin s.heap _ _ fun _ _ e => e⟩)
    | cons x l =>
      exact call_repr_slot hu2 ⟨_, ho, rfl⟩ F.slot_list_repr.toG (call_list_reprK (h₀ := s.heap) ho rfl rfl hna (by simpa using q3.length_eq) (fun i y e => q3.item i y (by simpa using e)) hg (fun b _ => Clear.nil b) (big hdp)
        (fun _ _ e => e) (fun h' t tk k => ⟨_, _, rfl, fin h' _ _ k⟩) hz)
  | @tup a xs ds _ ha hd =>
    obtain rfl : u = Value.ref a := rx
    simp only [PyData.shown, PyData.showable, PyData.depth] at fin hs hz hdp
    obtain ⟨_, its, rv, o, ho, hc, n, hdat⟩ := (show ObjOk X.prog X.w H s.heap a (.tup _) from I.hok a _ ha)
    obtain ⟨as1, b1, q1, q2, q3⟩ := DqAll.shows I hd its rv hs (shown_mem tupleText tupleText_mem_le hz)
    have rr : Reads s.heap (.ref a) (.tuple ds) as1 := .tuple ho hc hdat (by simpa using q1)
    have hna : a ∉ b1 := not_mem_of_deeper rr (by simp only [PyData.depth]; omega) q2
    exact call_repr_slot hu2 ⟨_, ho, hc⟩ F.slot_tuple_repr (call_tuple_reprK (h₀ := s.heap) ho hc hdat hna (by simpa using q3) hg (fun b _ => Clear.nil b) (big hdp) (fun _ _ e => e) (fun h' t tk k => ⟨_, _, rfl, fin h' _ _ k⟩) hz)
  | @dct a kvs ps _ ha hk hv =>
    obtain rfl : u = Value.ref a := rx
    simp only [PyData.shown, PyData.showable, PyData.depth, PyData.shownKv_eq] at fin hs hz hdp
    rw [← PyData.shownKv_eq] at hz
    obtain ⟨_, hsy, vs, rel, o, es, ep, ho, hx, hdat, _, prs, _⟩ := dk_of I.hok ha
    obtain ⟨r1, r2⟩ := pairs_keys prs rel
    obtain ⟨hs1, hs2⟩ := PyData.showableKv_split ps hs
    obtain ⟨as1, b1, q1, q2, q3⟩ := DqAll.shows I hk _ r1 hs1 (fun t ht => let ⟨p, hp, hl⟩ := PyData.shownKv_key_le ps t ht; Nat.le_trans hl (Nat.le_trans (dictText_mem_le hp) hz))
    obtain ⟨as2, b2, p1, p2, p3⟩ := DqAll.shows I hv _ r2 hs2 (fun t ht => let ⟨p, hp, hl⟩ := PyData.shownKv_val_le ps t ht; Nat.le_trans hl (Nat.le_trans (dictText_mem_le hp) hz))
    have hb : ReadAtMost s.heap (PyData.depthKv ps) (b1 ++ b2) := (q2.mono (PyData.depthAll_keys_le ps)).append (p2.mono (PyData.depthAll_vals_le ps))
    have rr : Reads s.heap (.ref a) (.dict ps) (a :: as1 ++ as2) := .dict ho hx.1 hdat q1 p1
    have hna : a ∉ b1 ++ b2 := not_mem_of_deeper rr (by simp only [PyData.depth]; omega) hb
    exact call_repr_slot hu2 ⟨_, ho, hx.1⟩ F.slot_dict_repr (call_dict_reprK (h₀ := s.heap) ho hx.1 hdat hsy hna (ReprEntriesK.of_two es.toList _ _ (q3.more_le (fun b hb => List.mem_append_left _ hb) (PyData.depthAll_keys_le ps))
      (p3.more_le (fun b hb => List.mem_append_right _ hb) (PyData.depthAll_vals_le ps))) hg (fun b _ => Clear.nil b) (big hdp) (fun _ _ e => e) (fun h' t tk k => ⟨_, _, rfl, fin h' _ _ k⟩) (by rw [← PyData.shownKv_eq]; exact hz))
end
end KG
/-! The deck: a dict with cells to come, a mixed number, a count of draws. -/
namespace K01
open PySem PySem.Spec PyProof.Rows L2 KG

def top (i : Nat) : Stmt := PySem.Challenge.pw_clashnumber_k04_columns_picked_cut.main.body.getD i (.Pass ⟨0, 0, 0, 0⟩)
/-- a def of the text: where it stands -/
structure FnF (K : PySem.W.Frag) (mg : Str → Option Value) (name qual : Str) (st : Stmt) where
  a : Addr
  d : FuncData
  F : Fun K name qual st a d
  g : mg name = some (.ref a)
/-- the names that are still built in -/
structure Bi (mg : Str → Option Value) : Prop where
  n_list : mg "list" = none
  n_int : mg "int" = none
  n_len : mg "len" = none
  n_range : mg "range" = none
  n_tuple : mg "tuple" = none
  n_repr : mg "repr" = none
  n_isinstance : mg "isinstance" = none
abbrev s__law_deck : Stmt := top 19
abbrev s__law_draw : Stmt := top 20
abbrev s__law_pick : Stmt := top 21

/-! ### the deck in the heap -/
def dkv (l : Addr) (m n : Int) : List (Key × V) := [(.inr "cells", .ref l), (.inr "mixed", .int m), (.inr "draws", .int n)]
structure DeckAt (H : Hp) (a l : Addr) (k : Nat) : Prop where
  ex : ∃ (cs : List Int) (m : Int) (n : Nat), H a = some (.dK (dkv l m n)) ∧ H l = some (.lst (cs.map .int)) ∧ cs.length ≤ 63 ∧ 0 ≤ m ∧ m < 2147483587 ∧ n ≤ k
/-- all but the deck's two objects stands -/
def Off (a l : Addr) (H H' : Hp) : Prop := ∀ b o, H b = some o → b ≠ a → b ≠ l → H' b = some o
theorem Off.refl {a l : Addr} {H : Hp} : Off a l H H := fun _ _ h _ _ => h
theorem Off.trans {a l : Addr} {H H1 H2 : Hp} (x : Off a l H H1) (y : Off a l H1 H2) : Off a l H H2 := fun b o h h1 h2 => y b o (x b o h h1 h2) h1 h2
theorem Off.of {a l : Addr} {H H' : Hp} (x : Same H H') : Off a l H H' := fun b o h _ _ => x b o h
theorem DeckAt.up {H : Hp} {a l : Addr} {j k : Nat} (x : DeckAt H a l j) (h : j ≤ k) : DeckAt H a l k := by
  obtain ⟨cs, m, n, h1, h2, h3, h4, h5, h6⟩ := x.ex
  exact ⟨cs, m, n, h1, h2, h3, h4, h5, Nat.le_trans h6 h⟩
theorem DeckAt.same {H H' : Hp} {a l : Addr} {k : Nat} (x : DeckAt H a l k) (e : Same H H') : DeckAt H' a l k := by
  obtain ⟨cs, m, n, h1, h2, h3⟩ := x.ex
  exact ⟨cs, m, n, e _ _ h1, e _ _ h2, h3⟩

theorem val_cells (l : Addr) (m n : Int) : valV (dkv l m n) (.inr "cells") = some (.ref l) := by
  show valV [_, _, _] _ = _
  simp [valV]
theorem val_mixed (l : Addr) (m n : Int) : valV (dkv l m n) (.inr "mixed") = some (.int m) := by
  have h1 : ¬ ("cells" : Str) = "mixed" := by decide +kernel
  show valV [_, _, _] _ = _
  simp [valV, h1]
theorem val_draws (l : Addr) (m n : Int) : valV (dkv l m n) (.inr "draws") = some (.int n) := by
  have h1 : ¬ ("cells" : Str) = "draws" := by decide +kernel
  have h2 : ¬ ("mixed" : Str) = "draws" := by decide +kernel
  show valV [_, _, _] _ = _
  simp [valV, h1, h2]
theorem put_draws (l : Addr) (m n k : Int) : putK (dkv l m n) (.inr "draws") (.int k) = dkv l m k := by
  have h1 : ¬ ("cells" : Str) = "draws" := by decide +kernel
  have h2 : ¬ ("mixed" : Str) = "draws" := by decide +kernel
  show putK [_, _, _] _ _ = _
  simp [putK, h1, h2, dkv]
theorem put_mixed (l : Addr) (m n k : Int) : putK (dkv l m n) (.inr "mixed") (.int k) = dkv l k n := by
  have h1 : ¬ ("cells" : Str) = "mixed" := by decide +kernel
  have h2 : ¬ ("draws" : Str) = "mixed" := by decide +kernel
  show putK [_, _, _] _ _ = _
  simp [putK, h1, h2, dkv]
theorem merge_deck (l : Addr) (m n : Int) : mergeK [] (dkv l m n) = dkv l m n := by
  have h1 : ¬ ("cells" : Str) = "mixed" := by decide +kernel
  have h2 : ¬ ("cells" : Str) = "draws" := by decide +kernel
  have h3 : ¬ ("mixed" : Str) = "draws" := by decide +kernel
  simp [mergeK, dkv, putK, h1, h2, h3]

/-! ### _law_deck -/
def spDeck (K : PySem.W.Frag) : Sp := fun vs H Q _ => ∃ (a : Addr) (ns : List Int), vs = [.ref a] ∧ SqL K H a (ns.map V.int) ∧ ns.length ≤ 63 ∧
  ∀ (d l : Addr) (H' : Hp), H d = none → H l = none → Same H H' → DeckAt H' d l 0 → Q (.ref d) H'
theorem cut_len {xs : List V} {i : Int} (h : xs.length ≤ 63) : (cutV xs none (some i)).length ≤ 63 := by
  unfold cutV
  rw [List.length_take, List.length_drop]
  omega
theorem cut_map {ns : List Int} {lo hi : Option Int} : ∃ ms : List Int, cutV (ns.map V.int) lo hi = ms.map V.int := by
  unfold cutV
  exact ⟨(ns.drop _).take _, by rw [List.map_take, List.map_drop]⟩
section
variable {P : Program} {w : World} {K : PySem.W.Frag} {mg : Str → Option Value} {base : Heap}
theorem sc__law_deck : FnScope ["_law_script", "_law_cells", "_law_mixed_here", "_law_cell"] ["_law_script"] (defScope s__law_deck) := ⟨rfl, rfl, rfl, by decide +kernel, rfl, by decide +kernel, by decide +kernel⟩
theorem ok__law_deck (B : Bi mg) (f : FnF K mg "_law_deck" "_law_deck" s__law_deck) : FnOk P w K mg base CX0 1 f.a f.d ["_law_script"] (spDeck K) := by
  refine f.F.ok sc__law_deck (fun vs H Q E h => ?_) (fun cdv A outer s H vs Q E hr h => ?_)
  · obtain ⟨a, ns, rfl, _⟩ := h
    rfl
  · obtain ⟨a, ns, rfl, hS, hlen, k⟩ := h
    have hu := hu_of hr
    refine ⟨_, (pss_cons
      (ps_par (i := 1) (j := 2) (by rfl) sc__law_deck.nd rfl rfl (by decide) rfl rfl (pa_cons (pe_callTy call_list_of (by rfl) B.n_list (by decide +kernel) (pa_cons (pe_slice sl_list (pv 0) po_none (po_some pe_int)) pa_nil)) (pa_cons pe_int pa_nil)) (by rfl))
    (pss_cons
      (ps_for PassesOwn.never rfl (pi_list (pe_slice sl_list (pv 0) po_none (po_some pe_int))) (pg_name (i := 3) sc__law_deck.nd rfl (Or.inl rfl))
        (pss_one
          (ps_set (i := 2) sc__law_deck.nd rfl (Or.inl rfl) (pe_op op_mod (pe_callTy call_int1 (by rfl) B.n_int (by decide +kernel) (pa_cons (pe_op op_add (pe_op op_add (pe_op op_mul (pv 2) pe_int) (pe_op op_mod (pe_callTy call_int1 (by rfl) B.n_int (by decide +kernel) (pa_cons (pv 3) pa_nil)) pe_int)) pe_int) pa_nil)) pe_int))))
    (pss_one
      (ps_ret (pe_disp (pps_cons pe_str (pe_revL (pv 1)) (pps_cons pe_str (pv 2) (pps_cons pe_str pe_int pps_nil))) (by rfl) (by rfl) (fun z => by cases z) (by decide)))))), ?_⟩
    -- list(script[:63]), 61057
    refine ⟨_, rfl, 63, rfl, a, _, rfl, hS, fun p hp => ⟨p, _, rfl, .inl (SqL.of upd_same), fun l hl => ⟨_, _, rfl, ?_⟩⟩⟩
    obtain ⟨ms, ems⟩ := cut_map (ns := ns) (lo := none) (hi := some 63)
    have lms : ms.length ≤ 63 := by
      have := cut_len (xs := ns.map V.int) (i := 63) (by rw [List.length_map]; exact hlen)
      rw [ems, List.length_map] at this
      exact this
    rw [ems] at hl ⊢
    have e1 : Same H (upd H p (.lst (ms.map V.int))) := fun b o e => by rw [upd_ne (ne_of_none e hp)]; exact e
    have e2 : Same H (upd (upd H p (.lst (ms.map V.int))) l (.lst (ms.map V.int))) := fun b o e => by rw [upd_ne (ne_of_none (e1 b o e) hl)]; exact e1 b o e
    -- for cell in script[:63]
    refine ⟨_, rfl, 63, rfl, a, _, rfl, e2.seq hS, fun q hq => ⟨q, rfl, ⟨_, SqL.of upd_same⟩, ?_⟩⟩
    rw [ems]
    have hH3 : upd (upd (upd H p (.lst (ms.map V.int))) l (.lst (ms.map V.int))) q (.lst (ms.map V.int)) l = some (.lst (ms.map V.int)) := by rw [upd_ne (ne_of_none upd_same hq), upd_same]
    have hQ3 : upd (upd (upd H p (.lst (ms.map V.int))) l (.lst (ms.map V.int))) q (.lst (ms.map V.int)) q = some (.lst (ms.map V.int)) := upd_same
    have e3 : Same H (upd (upd (upd H p (.lst (ms.map V.int))) l (.lst (ms.map V.int))) q (.lst (ms.map V.int))) := fun b o e => by rw [upd_ne (ne_of_none (e2 b o e) hq)]; exact e2 b o e
    have hl0 : H l = none := e1.free hl
    generalize upd (upd (upd H p (.lst (ms.map V.int))) l (.lst (ms.map V.int))) q (.lst (ms.map V.int)) = H3 at hH3 hQ3 e3 ⊢
    refine for_list (K := K) (a := q) (xs := ms.map V.int) (fun i σ H' => ∃ (m : Int) (v : Option V), σ = [some (.ref a), some (.ref l), some (.int m), v] ∧ 0 ≤ m ∧ m < 2147483587 ∧ H' = H3) ⟨61057, none, rfl, by decide, by decide, rfl⟩
      (fun i σ H' _ ⟨_, _, _, _, _, e⟩ => by rw [e]; exact SqL.of hQ3) ?_ ?_
    · rintro i y σ H' hi ⟨m, v, rfl, m0, m1, rfl⟩
      obtain ⟨z, rfl⟩ : ∃ z, y = V.int z := by
        rw [List.getElem?_map] at hi
        cases e : ms[i]? with
        | none => rw [e] at hi; cases hi
        | some z => rw [e] at hi; exact ⟨z, (Option.some.inj hi).symm⟩
      refine ⟨_, rfl, _, _, rfl, rfl, .inl (by omega), _, rfl, .inl ⟨_, rfl, _, _, rfl, rfl, (by show (0 : Int) < 2147483629; decide), _, _, rfl, rfl, _, _, rfl, rfl, .inl ⟨_, rfl, _, _, rfl, rfl, (by show (0 : Int) < 2147483587; decide), ?_⟩⟩⟩
      exact ⟨_, _, rfl, Int.emod_nonneg _ (by decide), Int.emod_lt_of_pos _ (by decide), rfl⟩
    · rintro σ H' ⟨m, v, rfl, m0, m1, rfl⟩
      -- return {'cells': cells[::-1], 'mixed': mixed, 'draws': 0}
      refine fun d hd => ⟨_, rfl, l, _, rfl, SqL.of (by rw [upd_ne (ne_of_none hH3 hd)]; exact hH3), fun c hc => ⟨_, rfl, ?_⟩⟩
      have ndc : d ≠ c := ne_of_none upd_same hc
      have hc3 : H' c = none := by rw [upd_ne (Ne.symm ndc)] at hc; exact hc
      refine ⟨by rw [upd_ne ndc, upd_same], dkv c m 0, rfl, (by show 3 ≤ 15; decide), ?_⟩
      rw [merge_deck, ← List.map_reverse]
      refine k d c _ (e3.free hd) (e3.free hc3) (fun b o e => ?_) ⟨ms.reverse, m, 0, upd_same, by rw [upd_ne (Ne.symm ndc), upd_same], by rw [List.length_reverse]; exact lms, m0, m1, Nat.le_refl _⟩
      have e4 := e3 b o e
      rw [upd_ne (ne_of_none e4 hd), upd_ne (ne_of_none e4 hc3), upd_ne (ne_of_none e4 hd)]
      exact e4

/-! ### _law_draw -/
def spDraw : Sp := fun vs H Q _ => ∃ (d l : Addr) (many : Int) (k : Nat), vs = [.ref d, .int many] ∧ DeckAt H d l k ∧ 0 < many ∧ many < 1000000 ∧ k < 1000000000 ∧
  ∀ (i : Int) (H' : Hp), 0 ≤ i → i < many → DeckAt H' d l (k + 1) → Off d l H H' → Q (.int i) H'
theorem ints_eqv : ∀ cs : List Int, PyData.eqv (.list (cs.map .int)) (.list []) = cs.isEmpty
  | [] => by decide
  | c :: r => by simp [PyData.eqv, PyData.eqvAll]
theorem ints_shaped (cs : List Int) : SeqAt.shaped (.list (cs.map .int)) = true := by
  have h : ∀ l : List Int, PyData.canLayAll0 (l.map .int) = true ∧ PyData.depthAll (l.map .int) ≤ 1 := by
    intro l
    induction l with
    | nil => exact ⟨rfl, by decide⟩
    | cons c r ih =>
      refine ⟨?_, ?_⟩
      · simp only [List.map_cons, PyData.canLayAll0, PyData.canLay0, Bool.true_and]
        exact ih.1
      · simp only [List.map_cons, PyData.depthAll, PyData.depth]
        have := ih.2
        omega
  obtain ⟨h1, h2⟩ := h cs
  unfold SeqAt.shaped
  have e1 : (PyData.list (cs.map .int)).canLay0 = true := by simpa [PyData.canLay0] using h1
  have e2 : (PyData.list (cs.map .int)).depth ≤ 64 := by
    simp only [PyData.depth]
    omega
  rw [e1, decide_eq_true e2]
  rfl
theorem ints_dp {K : PySem.W.Frag} {H : Hp} : ∀ cs : List Int, L2.DpAll K H (cs.map V.int) (cs.map .int)
  | [] => .nil
  | c :: r => .cons (.int c) (ints_dp r)
theorem sc__law_draw : FnScope ["_law_deck_here", "_law_many", "_law_turn", "_law_cell", "_law_mixed_here"] ["_law_deck_here", "_law_many"] (defScope s__law_draw) := ⟨rfl, rfl, rfl, by decide +kernel, rfl, by decide +kernel, by decide +kernel⟩
theorem ok__law_draw (B : Bi mg) (f : FnF K mg "_law_draw" "_law_draw" s__law_draw) : FnOk P w K mg base CX0 1 f.a f.d ["_law_deck_here", "_law_many"] spDraw := by
  refine f.F.ok sc__law_draw (fun vs H Q E h => ?_) (fun cdv A outer s H vs Q E hr h => ?_)
  · obtain ⟨d, l, many, k, rfl, _⟩ := h
    rfl
  · obtain ⟨d, l, many, k, rfl, D, hm0, hm1, hk, q⟩ := h
    have hu := hu_of hr
    have hu64 := hr.units
    obtain ⟨cs, m, n, hd, hl, lcs, m0, m1, hn⟩ := D.ex
    refine ⟨_, (pss_cons
      (ps_dput hu (pv 0) pe_str (pe_op op_add (pe_dget hu (pv 0) pe_str (fun _ _ => rfl)) pe_int) rfl)
    (pss_cons
      (ps_par (i := 2) (j := 3) (by rfl) sc__law_draw.nd rfl rfl (by decide) rfl rfl (pa_cons (pe_dget hu (pv 0) pe_str (fun _ _ => rfl)) (pa_cons (pe_dget hu (pv 0) pe_str (fun _ _ => rfl)) pa_nil)) (by rfl))
    (Evl.pss_cut
      (ps_if (pt_cmpR (op_neD hu64) (pe_dget hu (pv 0) pe_str (fun _ _ => rfl)) (pe_lst pa_nil) (nomark _))
        (pss_cons
          (ps_set (i := 3) sc__law_draw.nd rfl (Or.inl rfl) (pe_bm0 PySem.F.plainAttrs_list PySem.F.slot_list_pop PySem.F.type_list_pop mt_pop (pe_dget hu (pv 0) pe_str (fun _ _ => rfl))))
        (pss_cons
          (ps_if (pt_cmpR op_ge (pv 3) (pe_op op_pow pe_int pe_int) (nomark _))
            (pss_cons
              (ps_expr (pe_bm PySem.F.plainAttrs_list PySem.F.slot_list_append PySem.F.type_list_append mt_append (pe_dget hu (pv 0) pe_str (fun _ _ => rfl)) (pa_cons (pe_op op_fdiv (pv 3) (pv 1)) pa_nil)))
            (pss_one
              (ps_ret (pe_op op_mod (pe_callTy call_int1 (by rfl) B.n_int (by decide +kernel) (pa_cons (pv 3) pa_nil)) (pv 1)))))
            pss_nil)
        (pss_one
          (ps_set (i := 3) sc__law_draw.nd rfl (Or.inl rfl) (pe_op op_add (pv 3) (pe_dget hu (pv 0) pe_str (fun _ _ => rfl)))))))
        pss_nil)
    (pss_cons
      (ps_set (i := 4) sc__law_draw.nd rfl (Or.inl rfl) (pe_op op_add (pe_op op_add (pe_op op_mod (pe_callTy call_int1 (by rfl) B.n_int (by decide +kernel) (pa_cons (pv 3) pa_nil)) pe_int) (pe_op op_mul (pe_op op_mul pe_int (pv 2)) (pv 2))) pe_int))
    (Evl.pss_cut
      (ps_set (i := 4) sc__law_draw.nd rfl (Or.inl rfl) (pe_op op_mod (pe_callTy call_int1 (by rfl) B.n_int (by decide +kernel) (pa_cons (pe_op op_mul (pv 4) pe_int) pa_nil)) pe_int))
    (pss_cons
      (ps_set (i := 4) sc__law_draw.nd rfl (Or.inl rfl) (pe_op op_mod (pe_callTy call_int1 (by rfl) B.n_int (by decide +kernel) (pa_cons (pe_op op_add (pe_op op_add (pe_op op_mul (pv 4) (pv 4)) (pe_op op_mul pe_int (pv 2))) pe_int) pa_nil)) pe_int))
    (pss_one
      (ps_ret (pe_op op_mod (pe_op op_fdiv (pe_op op_mod (pe_callTy call_int1 (by rfl) B.n_int (by decide +kernel) (pa_cons (pe_op op_mul (pv 4) pe_int) pa_nil)) pe_int) pe_int) (pv 1)))))))))), ?_⟩
    -- deck['draws'] = deck['draws'] + 1
    have e1 : putK (dkv l m n) (.inr "draws") (.int ((n : Int) + 1)) = dkv l m ((n + 1 : Nat) : Int) := put_draws l m n _
    have nld : l ≠ d := ne_of hl hd (by intro z; cases z)
    refine ⟨_, rfl, d, _, rfl, val_draws l m n ▸ DGet.k (k := Sum.inr "draws") hd, _, _, rfl, rfl, _, rfl, d, _, rfl, DPut.k (k := Sum.inr "draws") hd (by show 3 < sizeLine; rw [sizeLine_eq]; decide), ?_⟩
    rw [e1]
    have hd1 : upd H d (.dK (dkv l m ((n + 1 : Nat) : Int))) d = some (.dK (dkv l m ((n + 1 : Nat) : Int))) := upd_same
    have hl1 : upd H d (.dK (dkv l m ((n + 1 : Nat) : Int))) l = some (.lst (cs.map .int)) := by rw [upd_ne nld]; exact hl
    have o1 : Off d l H (upd H d (.dK (dkv l m ((n + 1 : Nat) : Int)))) := fun b o e h1 _ => by rw [upd_ne h1]; exact e
    have hn1 : n + 1 ≤ k + 1 := by omega
    have hn2 : n + 1 < 1000000001 := by omega
    generalize upd H d (.dK (dkv l m ((n + 1 : Nat) : Int))) = H1 at hd1 hl1 o1 ⊢
    generalize n + 1 = t at hd1 hn1 hn2 ⊢
    -- turn, cell = deck['draws'], deck['mixed']
    refine ⟨_, rfl, d, _, rfl, val_draws l m t ▸ DGet.k (k := Sum.inr "draws") hd1, _, rfl, d, _, rfl, val_mixed l m t ▸ DGet.k (k := Sum.inr "mixed") hd1, _, _, rfl, ?_⟩
    -- if deck['cells'] != []: ..; behind it some int stands in cell
    refine ⟨fun σ' H2 => ∃ c : Int, σ' = [some (.ref d), some (.int many), some (.int (t : Int)), some (.int c), none] ∧ DeckAt H2 d l (k + 1) ∧ Off d l H H2, ?_, ?_⟩
    · refine ⟨_, rfl, d, .ref l, rfl, val_cells l m t ▸ DGet.k (k := Sum.inr "cells") hd1, ⟨by show 0 ≤ sizeLine; exact Nat.zero_le _, fun p hp => ?_⟩⟩
      have hd2 : upd H1 p (.lst []) d = some (.dK (dkv l m (t : Int))) := by rw [upd_ne (ne_of_none hd1 hp)]; exact hd1
      have hl2 : upd H1 p (.lst []) l = some (.lst (cs.map .int)) := by rw [upd_ne (ne_of_none hl1 hp)]; exact hl1
      have hp2 : upd H1 p (.lst []) p = some (.lst []) := upd_same
      have o2 : Off d l H (upd H1 p (.lst [])) := fun b o e h1 h2 => by
        have := o1 b o e h1 h2
        rw [upd_ne (ne_of_none this hp)]
        exact this
      have npd : p ≠ d := Ne.symm (ne_of_none hd1 hp)
      have npl : p ≠ l := Ne.symm (ne_of_none hl1 hp)
      generalize upd H1 p (.lst []) = H2 at hd2 hl2 hp2 o2 ⊢
      refine ⟨.list (cs.map .int), .list [], .lst (SqL.of hl2) (ints_dp cs), .lst (SqL.of hp2) .nil, ints_shaped cs, by decide, _, rfl, ?_⟩
      rw [ints_eqv cs]
      cases cs with
      | nil => exact iteF ⟨m, rfl, ⟨[], m, t, hd2, hl2, Nat.zero_le _, m0, m1, hn1⟩, o2⟩
      | cons c0 r0 =>
        refine iteT ?_
        -- cell = deck['cells'].pop()
        obtain ⟨c, hc⟩ : ∃ c, (c0 :: r0)[(c0 :: r0).length - 1]? = some c := ⟨_, List.getElem?_eq_getElem (by simp)⟩
        generalize c0 :: r0 = cs at *
        refine ⟨_, rfl, d, .ref l, rfl, val_cells l m t ▸ DGet.k (k := Sum.inr "cells") hd2, Or.inl ⟨rfl, _, SqL.of hl2⟩, l, _, .int c, rfl, rfl, hl2, by rw [List.length_map, List.getElem?_map, hc]; rfl, ?_⟩
        rw [← List.map_dropLast]
        have ldl : cs.dropLast.length ≤ 62 := by rw [List.length_dropLast]; omega
        generalize cs.dropLast = ds at ldl ⊢
        have hd3 : upd H2 l (.lst (ds.map .int)) d = some (.dK (dkv l m (t : Int))) := by rw [upd_ne (Ne.symm nld)]; exact hd2
        have hl3 : upd H2 l (.lst (ds.map .int)) l = some (.lst (ds.map .int)) := upd_same
        have o3 : Off d l H (upd H2 l (.lst (ds.map .int))) := fun b o e h1 h2 => by rw [upd_ne h2]; exact o2 b o e h1 h2
        generalize upd H2 l (.lst (ds.map .int)) = H3 at hd3 hl3 o3 ⊢
        -- if cell >= 10 ** 18
        refine ⟨_, rfl, _, _, rfl, rfl, ⟨by decide, by decide, by decide⟩, _, _, rfl, rfl, _, rfl, ite2 (fun _ => ?_) fun _ => ?_⟩
        · -- deck['cells'].append(cell // many); return int(cell) % many
          refine ⟨_, rfl, d, .ref l, rfl, val_cells l m t ▸ DGet.k (k := Sum.inr "cells") hd3, Or.inl ⟨rfl, _, SqL.of hl3⟩, _, rfl, _, rfl, _, _, rfl, rfl, ⟨hm0, by omega⟩, l, _, _, rfl, rfl, hl3, by rw [List.length_map, sizeLine_eq]; omega, ?_⟩
          refine ⟨_, rfl, Or.inl ⟨_, rfl, _, rfl, _, _, rfl, rfl, hm0, ?_⟩⟩
          refine q _ _ (Int.emod_nonneg _ (by omega)) (Int.emod_lt_of_pos _ hm0) ⟨ds ++ [c / many], m, t, ?_, ?_, ?_, m0, m1, hn1⟩ fun b o e h1 h2 => ?_
          · rw [upd_ne (Ne.symm nld)]
            exact hd3
          · rw [upd_same, List.map_append]
            rfl
          · rw [List.length_append]
            show ds.length + 1 ≤ 63
            omega
          · rw [upd_ne h2]
            exact o3 b o e h1 h2
        · -- cell = cell + deck['mixed']
          refine ⟨_, rfl, _, rfl, d, _, rfl, val_mixed l m t ▸ DGet.k (k := Sum.inr "mixed") hd3, _, _, rfl, rfl, ?_⟩
          exact ⟨_, rfl, ⟨ds, m, t, hd3, hl3, by omega, m0, m1, hn1⟩, o3⟩
    · rintro σ' H2 ⟨c, rfl, D2, o2⟩
      have ht : (-(2 ^ 64 : Int) < (t : Int) ∧ (t : Int) < 2 ^ 64) := by omega
      -- mixed = int(cell) % .. + .. * turn * turn + ..
      refine ⟨_, rfl, Or.inl ⟨_, rfl, _, _, rfl, rfl, (by show (0 : Int) < 2147483629; decide), _, rfl, _, _, rfl, rfl, .inr ht, _, rfl, _, _, rfl, rfl, .inr ht, _, _, rfl, rfl, _, _, rfl, rfl, ?_⟩⟩
      -- mixed = int(mixed * ..) % ..
      refine ⟨fun σ' H' => ∃ x : Int, σ' = [some (.ref d), some (.int many), some (.int (t : Int)), some (.int c), some (.int x)] ∧ 0 ≤ x ∧ x < 2147483647 ∧ H' = H2,
        ⟨_, rfl, _, _, rfl, rfl, .inr (by decide), Or.inl ⟨_, rfl, _, _, rfl, rfl, (by show (0 : Int) < 2147483647; decide), _, rfl, Int.emod_nonneg _ (by decide), Int.emod_lt_of_pos _ (by decide), rfl⟩⟩, ?_⟩
      rintro σ' H' ⟨x, rfl, hx0, hx1, rfl⟩
      -- mixed = int(mixed * mixed + .. * turn + ..) % ..
      refine ⟨_, rfl, _, rfl, _, _, rfl, rfl, .inl (by omega), _, rfl, _, _, rfl, rfl, .inr ht, _, _, rfl, rfl, _, _, rfl, rfl, Or.inl ⟨_, rfl, _, _, rfl, rfl, (by show (0 : Int) < 2147483587; decide), ?_⟩⟩
      -- return ..
      refine ⟨_, rfl, _, _, rfl, rfl, .inr (by decide), Or.inl ⟨_, rfl, _, _, rfl, rfl, (by show (0 : Int) < 2147483563; decide), _, _, rfl, rfl, ⟨by decide, by decide⟩, _, rfl, _, _, rfl, rfl, hm0, ?_⟩⟩
      exact q _ _ (Int.emod_nonneg _ (by omega)) (Int.emod_lt_of_pos _ hm0) D2 o2
end
end K01
/-! Names, ascending tuples, domains. -/
namespace K01
open PySem PySem.Spec PyProof.Rows L2 KG KS
abbrev s_is_integer : Stmt := top 6
abbrev s_is_name : Stmt := top 7
abbrev s_are_names : Stmt := top 8
abbrev s_ascending : Stmt := top 9
abbrev s_is_domain : Stmt := top 10
/-- the names of the basics -/
structure Bs (mg : Str → Option Value) : Prop extends Bi mg where
  n_all : mg "all" = none
  n_sorted : mg "sorted" = none
  n_set : mg "set" = none
  n_str : mg "str" = none
  n_bool : mg "bool" = none
  c_name : ∃ t, mg "LONGEST_NAME" = some (.int 8 t)
  c_vals : ∃ t, mg "MOST_VALUES" = some (.int 3 t)
  c_width : ∃ t, mg "MOST_WIDTH" = some (.int 3 t)
def spInt : Sp := fun vs H Q _ => ∃ n, vs = [.int n] ∧ Q (.bl true) H
def nameOk (x : Str) : Bool := decide (x.length ≤ 8) && (Txt.isascii x && (Txt.isalpha x && Txt.islower x))
def spName : Sp := fun vs H Q _ => ∃ x, vs = [.str x] ∧ nameOk x = true ∧ Q (.bl true) H
def spNames (K : PySem.W.Frag) : Sp := fun vs H Q _ => ∃ (a : Addr) (xs : List Str), vs = [.ref a] ∧ H a = some (.tup (xs.map V.str)) ∧ (∀ x ∈ xs, nameOk x = true) ∧ xs.Nodup ∧ xs.length < 64 ∧ ∀ H', Same H H' → Q (.bl true) H'
/-- ascending(xs) -/
def spAsc (K : PySem.W.Frag) : Sp := fun vs H Q _ => ∃ (b : Bool) (l : Addr) (ms : List MemV), vs = [V.ref l] ∧ (SqL K H l (ms.map (·.1)) ∨ SqT K H l (ms.map (·.1))) ∧ (∀ p ∈ ms, Kv K H p.1 p.2 ∧ FitV b p) ∧ ms.length < 64 ∧
  W.AllAlike (ms.map (·.2.data)) ∧ W.Sortable (ms.map (·.2.data)) ∧
  ∀ (L : List MemV) (p : Addr) (H' : Hp), (∀ m ∈ L, m ∈ ms) → (∀ m ∈ ms, m.2 ∈ L.map (·.2)) → (L.map (·.2)).Nodup → L.Pairwise Aft → H p = none → Same H H' → H' p = some (.tup (L.map (·.1))) → Q (.ref p) H'
theorem same_new {H : Hp} {p : Addr} {o : HO} (h : H p = none) : Same H (upd H p o) := fun b u e => by
  rw [upd_ne (ne_of_none e h)]
  exact e
theorem same_trans {H H1 H2 : Hp} (x : Same H H1) (y : Same H1 H2) : Same H H2 := fun b u e => y b u (x b u e)
theorem same_seqT {K : PySem.W.Frag} {H H' : Hp} {a : Addr} {xs : List V} (e : Same H H') (h : SqT K H a xs) : SqT K H' a xs := by
  rcases h with (h | ⟨o, h⟩) | h
  · exact .inl (.inl (e _ _ h))
  · exact .inl (.inr ⟨o, e _ _ h⟩)
  · exact .inr h
section
variable {P : Program} {w : World} {K : PySem.W.Frag} {mg : Str → Option Value} {base : Heap}
theorem sc_is_integer : FnScope ["thing"] ["thing"] (defScope s_is_integer) := ⟨rfl, rfl, rfl, by decide +kernel, rfl, by decide +kernel, by decide +kernel⟩
theorem ok_is_integer (B : Bs mg) (f : FnF K mg "is_integer" "is_integer" s_is_integer) : FnOk P w K mg base CX0 1 f.a f.d ["thing"] spInt := by
  refine f.F.ok sc_is_integer (fun vs H Q E h => ?_) (fun cdv A outer s H vs Q E hr h => ?_)
  · obtain ⟨n, rfl, _⟩ := h
    rfl
  · obtain ⟨n, rfl, q⟩ := h
    refine ⟨_, (pss_one
      (ps_ret (pe_and (pe_callB call_isi (by rfl) B.n_isinstance (by decide +kernel) (pa_cons (pv 0) (pa_cons (pe_bltn (v := .ty "int") rfl B.n_int (by decide +kernel) rfl) pa_nil)))
        (pe_one (pe_not (pe_callB call_isi (by rfl) B.n_isinstance (by decide +kernel) (pa_cons (pv 0) (pa_cons (pe_bltn (v := .ty "bool") rfl B.n_bool (by decide +kernel) rfl) pa_nil)))))))), ?_⟩
    refine ⟨_, rfl, _, _, _, _, true, rfl, .ty "int", .base (.int n), kit_ty (by decide +kernel), true, rfl, iteT ?_⟩
    exact ⟨_, rfl, _, _, _, _, false, rfl, .ty "bool", .base (.int n), kit_ty (by decide +kernel), false, rfl, q⟩
theorem sc_is_name : FnScope ["thing"] ["thing"] (defScope s_is_name) := ⟨rfl, rfl, rfl, by decide +kernel, rfl, by decide +kernel, by decide +kernel⟩
theorem ok_is_name (B : Bs mg) (f : FnF K mg "is_name" "is_name" s_is_name) : FnOk P w K mg base CX0 1 f.a f.d ["thing"] spName := by
  obtain ⟨tn, cn⟩ := B.c_name
  refine f.F.ok sc_is_name (fun vs H Q E h => ?_) (fun cdv A outer s H vs Q E hr h => ?_)
  · obtain ⟨n, rfl, _⟩ := h
    rfl
  · obtain ⟨x, rfl, hn, q⟩ := h
    unfold nameOk at hn
    rw [Bool.and_eq_true, Bool.and_eq_true, Bool.and_eq_true, decide_eq_true_eq] at hn
    obtain ⟨h8, h1, h2, h3⟩ := hn
    refine ⟨_, (pss_cons
      (ps_if (PW.pt (pw_or (pt_not (pt_val (pe_callB call_isi (by rfl) B.n_isinstance (by decide +kernel) (pa_cons (pv 0) (pa_cons (pe_bltn (v := .ty "str") rfl B.n_str (by decide +kernel) rfl) pa_nil)))))
        (pw_or1 (pt_cmpR op_gt (pe_callB call_len (by rfl) B.n_len (by decide +kernel) (pa_cons (pv 0) pa_nil)) (pe_glob (v := .int 8) rfl cn ⟨_, rfl⟩) (nomark _)))))
        (pss_one
          (ps_ret pe_bl))
        pss_nil)
    (pss_one
      (ps_ret (pe_and (pe_bm0 PySem.F.plainAttrs_str PySem.F.slot_str_isascii PySem.F.type_str_isascii mt_isascii (pv 0)) (pe_and (pe_bm0 PySem.F.plainAttrs_str PySem.F.slot_str_isalpha PySem.F.type_str_isalpha mt_isalpha (pv 0)) (pe_one (pe_bm0 PySem.F.plainAttrs_str PySem.F.slot_str_islower PySem.F.type_str_islower mt_islower (pv 0)))))))), ?_⟩
    refine ⟨_, rfl, _, _, _, _, true, rfl, .ty "str", .base (.str x), kit_ty (by decide +kernel), true, rfl, iteF ?_⟩
    refine ⟨_, rfl, .str x, x.length, rfl, ⟨by rw [sizeLine_eq]; omega, rfl⟩, _, _, rfl, rfl, _, rfl, ite2 (fun c => absurd (of_decide_eq_true c) (by omega)) fun _ => ?_⟩
    refine ⟨_, rfl, rfl, x, rfl, rfl, trivial, _, congrArg V.bl h1, iteT ?_⟩
    refine ⟨_, rfl, rfl, x, rfl, rfl, trivial, _, congrArg V.bl h2, iteT ?_⟩
    refine ⟨_, rfl, rfl, x, rfl, rfl, trivial, ?_⟩
    rw [h3]
    exact q
theorem sc_are_names : FnScope ["thing", "item"] ["thing"] (defScope s_are_names) := ⟨rfl, rfl, rfl, by decide +kernel, rfl, by decide +kernel, by decide +kernel⟩
theorem bls_all : ∀ (n : Nat), (List.replicate n true).all id = true
  | 0 => rfl
  | n + 1 => by
    rw [List.replicate_succ, List.all_cons, bls_all n]
    rfl
theorem texts_mem (xs : List Str) : (xs.map fun x => ((V.str x, NestedKey.text x) : MemV)).map (·.1) = xs.map V.str := by
  rw [List.map_map]
  rfl
theorem texts_len {xs : List Str} (nd : xs.Nodup) {L : List MemV} (h1 : ∀ p ∈ L, p ∈ xs.map fun x => ((V.str x, NestedKey.text x) : MemV)) (h2 : ∀ p ∈ xs.map fun x => ((V.str x, NestedKey.text x) : MemV), p.2 ∈ L.map (·.2)) (h3 : (L.map (·.2)).Nodup) : L.length = xs.length := by
  have nk : ((xs.map fun x => ((V.str x, NestedKey.text x) : MemV)).map (·.2)).Nodup := by
    rw [List.map_map]
    exact List.Pairwise.map _ (fun a b hne e => hne (NestedKey.text.inj e)) nd
  have pm : (L.map (·.2)).Perm ((xs.map fun x => ((V.str x, NestedKey.text x) : MemV)).map (·.2)) := by
    refine (List.perm_ext_iff_of_nodup h3 nk).mpr fun k => ⟨fun hk => ?_, fun hk => ?_⟩
    · obtain ⟨p, hp, e⟩ := List.mem_map.mp hk
      exact List.mem_map.mpr ⟨p, h1 p hp, e⟩
    · obtain ⟨p, hp, e⟩ := List.mem_map.mp hk
      rw [← e]
      exact h2 p hp
  have e := pm.length_eq
  rw [List.length_map, List.length_map, List.length_map] at e
  exact e
theorem ok_are_names (B : Bs mg) (f : FnF K mg "are_names" "are_names" s_are_names) (fn : FnF K mg "is_name" "is_name" s_is_name) : FnOk P w K mg base CX0 2 f.a f.d ["thing"] (spNames K) := by
  have G := ok_is_name (P := P) (w := w) (base := base) B fn
  have bn : Binds K fn.d ["thing"] [] := fn.F.binds fun _ _ _ _ _ _ us hl => match us, hl with | [_], _ => rfl
  refine f.F.ok sc_are_names (fun vs H Q E h => ?_) (fun cdv A outer s H vs Q E hr h => ?_)
  · obtain ⟨a, xs, rfl, _⟩ := h
    rfl
  · obtain ⟨a, xs, rfl, ha, ok, nd, h64, q⟩ := h
    have hu64 := hr.units
    refine ⟨_, (pss_one
      (ps_ret (pe_and (pe_callB call_isi (by rfl) B.n_isinstance (by decide +kernel) (pa_cons (pv 0) (pa_cons (pe_bltn (v := .ty "tuple") rfl B.n_tuple (by decide +kernel) rfl) pa_nil)))
        (pe_and (pe_callB (cr_all rfl) (by rfl) B.n_all (by decide +kernel) (pa_cons (pe_lc (own := [("item", 1)]) (g := gName 1) (by rfl) sc_are_names.nd (pi_tup (pv 0)) (blkOk_by (own := [("item", 1)]) (N := ["thing", "item"]) (sc := defScope s_are_names) (by decide +kernel))
            (fun _ _ _ _ _ => (pg_name (i := 1) sc_are_names.nd rfl (Or.inl rfl))) (fun _ _ _ _ _ => pts_nil) (fun _ _ _ _ _ => (pe_call G hr rfl fn.g fn.F.kp bn .nil pass0 (pa_cons (pv 1) pa_nil)))) pa_nil))
        (pe_one (pe_cmpR op_eq (pe_callB cr_lenSet (by rfl) B.n_len (by decide +kernel) (pa_cons (pe_callTy (cr_setOf rfl hu64) (by rfl) B.n_set (by decide +kernel) (pa_cons (pv 0) pa_nil)) pa_nil)) (pe_callB call_len (by rfl) B.n_len (by decide +kernel) (pa_cons (pv 0) pa_nil)) (nomark _))))))), ?_⟩
    refine ⟨_, rfl, _, _, _, _, true, rfl, .ty "tuple", .base (.tup ha), kit_ty (by decide +kernel), true, rfl, iteT ?_⟩
    -- all([is_name(item) for item in thing])
    refine ⟨_, rfl, a, rfl, ⟨_, SqT.of ha⟩, fun D hD => ?_⟩
    refine lc_tup (K := K) (xs := xs.map V.str) (fun i H' => Same H H' ∧ H' D = some (.lst (List.replicate i (V.bl true)))) ⟨same_new hD, upd_same⟩ (fun i H' _ p => SqT.of (p.1 _ _ ha)) ?_ ?_
    · rintro i y H' hi ⟨e1, eD⟩
      rw [List.getElem?_map] at hi
      cases hx : xs[i]? with
      | none =>
        rw [hx] at hi
        cases hi
      | some x =>
        rw [hx] at hi
        obtain rfl : V.str x = y := Option.some.inj hi
        have il : i < xs.length := (List.getElem?_eq_some_iff.mp hx).1
        refine ⟨rfl, _, rfl, x, rfl, ok x (List.mem_of_getElem? hx), _, eD, by rw [List.length_replicate, sizeLine_eq]; omega, fun b u e => ?_, ?_⟩
        · rw [upd_ne (by rintro rfl; rw [hD] at e; cases e)]
          exact e1 b u e
        · rw [upd_same, ← List.replicate_succ']
    · rintro H1 ⟨e1, eD⟩
      rw [List.length_map] at eD
      refine ⟨D, List.replicate xs.length true, rfl, SqL.of (by rw [List.map_replicate]; exact eD), true, congrArg V.bl (bls_all _), iteT ?_⟩
      -- len(set(thing)) == len(thing)
      have fm : ∀ p ∈ xs.map fun x => ((V.str x, NestedKey.text x) : MemV), Kv K H1 p.1 p.2 ∧ FitV false p := fun p hp => by
        obtain ⟨x, _, rfl⟩ := List.mem_map.mp hp
        exact ⟨.str x, x, rfl⟩
      refine ⟨_, rfl, false, a, xs.map fun x => ((V.str x, NestedKey.text x) : MemV), rfl, .inr (SqT.of (by rw [texts_mem]; exact e1 _ _ ha)), fm, by rw [List.length_map]; exact h64, fun S L hS h1 h2 h3 => ?_⟩
      have eS := same_trans e1 (same_new (o := SetV false w S L) hS)
      refine ⟨false, S, L, rfl, upd_same, _, rfl, _, _, rfl, .inr ⟨_, SqT.of (eS _ _ ha), rfl⟩, ?_⟩
      have el := texts_len nd h1 h2 h3
      refine ⟨rfl, ?_⟩
      rw [el, List.length_map]
      rw [decide_eq_true rfl]
      exact q _ eS
theorem sc_ascending : FnScope ["things"] ["things"] (defScope s_ascending) := ⟨rfl, rfl, rfl, by decide +kernel, rfl, by decide +kernel, by decide +kernel⟩
theorem ok_ascending (B : Bs mg) (f : FnF K mg "ascending" "ascending" s_ascending) : FnOk P w K mg base CX0 1 f.a f.d ["things"] (spAsc K) := by
  refine f.F.ok sc_ascending (fun vs H Q E h => ?_) (fun cdv A outer s H vs Q E hr h => ?_)
  · obtain ⟨b, l, ms, rfl, _⟩ := h
    rfl
  · obtain ⟨b, l, ms, rfl, hl, hk, h64, al, so, q⟩ := h
    have hu64 := hr.units
    refine ⟨_, (pss_one
      (ps_ret (pe_callTy call_tuple_of (by rfl) B.n_tuple (by decide +kernel) (pa_cons (pe_callB (cr_sortSet rfl hu64) (by rfl) B.n_sorted (by decide +kernel) (pa_cons (pe_callTy (cr_setOf rfl hu64) (by rfl) B.n_set (by decide +kernel) (pa_cons (pv 0) pa_nil)) pa_nil)) pa_nil)))), ?_⟩
    refine ⟨_, rfl, b, l, ms, rfl, hl, hk, h64, fun S L hS h1 h2 h3 => ?_⟩
    have e1 : Same H (upd H S (SetV b w S L)) := same_new hS
    have sub : ∀ d ∈ L.map (·.2.data), d ∈ ms.map (·.2.data) := fun d hd => by
      obtain ⟨p, hp, e⟩ := List.mem_map.mp hd
      exact List.mem_map.mpr ⟨p, h1 p hp, e⟩
    refine ⟨b, S, L, rfl, upd_same, fun p hp => Kv.up (fun a xs => same_seqT e1) _ _ (hk p (h1 p hp)).1, fun d hd d' hd' => al d (sub d hd) d' (sub d' hd'), so.imp (fun h d hd => h d (sub d hd)) fun h d hd => h d (sub d hd), fun L' p pm pw hp => ?_⟩
    have e2 := same_trans e1 (same_new (o := .lst (L'.map (·.1))) hp)
    refine ⟨p, L'.map (·.1), rfl, .inl ⟨SqL.of upd_same, fun t ht => ?_⟩⟩
    exact q L' t _ (fun m hm => h1 m (pm.mem_iff.mp hm)) (fun m hm => (pm.map (·.2)).mem_iff.mpr (h2 m hm)) ((pm.map (·.2)).nodup_iff.mpr h3) pw (e2.free ht) (same_trans e2 (same_new ht)) upd_same
/-- strictly ascending -/
def Bef (p q : MemV) : Prop := W.dataLt p.2.data q.2.data = true
theorem lt_asym {x y : PyData} (h : W.dataLt x y = true) : W.dataLt y x = false := by
  cases e : W.dataLt y x with
  | false => rfl
  | true =>
    have z := lex_trans _ _ _ h e
    rw [lex_irrefl] at z
    cases z
theorem bef_nodup {ms : List MemV} (h : ms.Pairwise Bef) : (ms.map (·.2)).Nodup := List.Pairwise.map _ (fun a b hb e => by
  have hb2 : W.dataLt a.2.data b.2.data = true := hb
  rw [e] at hb2
  rw [lt_asym hb2] at hb2
  cases hb2) h
/-- what ascends stays as it is -/
theorem asc_same {ms L : List MemV} (h : ms.Pairwise Bef) (h1 : ∀ m ∈ L, m ∈ ms) (h2 : ∀ m ∈ ms, m.2 ∈ L.map (·.2)) (h3 : (L.map (·.2)).Nodup) (h4 : L.Pairwise Aft) : L = ms := by
  have nd := bef_nodup h
  have pk : (L.map (·.2)).Perm (ms.map (·.2)) := (List.perm_ext_iff_of_nodup h3 nd).mpr fun k => by
    refine ⟨fun hk => ?_, fun hk => ?_⟩
    · obtain ⟨p, hp, e⟩ := List.mem_map.mp hk
      exact List.mem_map.mpr ⟨p, h1 p hp, e⟩
    · obtain ⟨p, hp, e⟩ := List.mem_map.mp hk
      rw [← e]
      exact h2 p hp
  refine List.Perm.eq_of_pairwise (le := Aft) (fun p q hp hq a1 a2 => ?_) h4 (h.imp fun {p q} hb => lt_asym hb) (same_keys (fun p : MemV => p.2) h1 pk nd)
  have mp := h1 p hp
  rcases List.getElem_of_mem mp with ⟨i, hi, rfl⟩
  rcases List.getElem_of_mem hq with ⟨j, hj, rfl⟩
  rcases Nat.lt_trichotomy i j with z | z | z
  · have b : W.dataLt ms[i].2.data ms[j].2.data = true := List.pairwise_iff_getElem.mp h i j hi hj z
    have a : W.dataLt ms[i].2.data ms[j].2.data = false := a2
    rw [b] at a
    cases a
  · subst z
    rfl
  · have b : W.dataLt ms[j].2.data ms[i].2.data = true := List.pairwise_iff_getElem.mp h j i hj hi z
    have a : W.dataLt ms[j].2.data ms[i].2.data = false := a1
    rw [b] at a
    cases a
end
end K01
/-! Domains, rows, all rows. -/
namespace K01
open PySem PySem.Spec PyProof.Rows L2 KG KS
abbrev s_is_row : Stmt := top 11
abbrev s_all_rows : Stmt := top 12
abbrev s_column_of : Stmt := top 16
/-- two for's in a list, the inner walk over a tuple -/
theorem lc2_lt {K : PySem.W.Frag} {a : Addr} {xs : List V} {g g1 : TG} {wi1 : TI} {te : TE} {vs vs1 : List Nat} {σ : L2.St} {H1 : Hp} {D : Addr} {Qd : Hp → Prop} (Pv : Nat → Nat → Hp → Prop) (h0 : Pv 0 0 (upd H1 D (.lst [])))
    (hl : ∀ i H, i ≤ xs.length → Pv i 0 H → SqL K H a xs)
    (hs : ∀ i x H, xs[i]? = some x → Pv i 0 H → g x (wipe σ vs) H fun σ2 H2 => wipe σ2 vs = wipe σ vs ∧ wi1 σ2 H2 fun J1 H4 => ∃ (c : Addr) (ys : List V), J1 = Itt K c ∧ Pv i 0 H4 ∧ (∀ j H, j ≤ ys.length → Pv i j H → SqT K H c ys) ∧
      (∀ j y H, ys[j]? = some y → Pv i j H → g1 y (wipe σ2 vs1) H fun σ3 H5 => wipe σ3 vs1 = wipe σ2 vs1 ∧ te σ3 H5 fun y H7 => ∃ acc, H7 D = some (.lst acc) ∧ acc.length < sizeLine ∧ Pv i (j + 1) (upd H7 D (.lst (acc ++ [y])))) ∧
      ∀ H, Pv i ys.length H → Pv (i + 1) 0 H)
    (mono : ∀ x, ∀ (σ : L2.St) (H : Hp) (Q R : L2.St → Hp → Prop), (∀ σ H, Q σ H → R σ H) → g x σ H Q → g x σ H R) (mono1 : ∀ x, ∀ (σ : L2.St) (H : Hp) (Q R : L2.St → Hp → Prop), (∀ σ H, Q σ H → R σ H) → g1 x σ H Q → g1 x σ H R)
    (monoI : ∀ (σ : L2.St) (H : Hp) (Q R : It → Hp → Prop), (∀ J H, Q J H → R J H) → wi1 σ H Q → wi1 σ H R)
    (hd : ∀ H, Pv xs.length 0 H → Qd H) :
    ∃ W : Nat → Nat → Hp → Prop, (∃ m, W 0 m (upd H1 D (.lst []))) ∧ ∀ i m H, W i m H →
      ((Itl K a).stop i H ∧ Qd H) ∨ ((Itl K a).go i H ∧ ∃ Nx : Hp → Prop, (∀ H', Nx H' → ∃ m', m' < m ∧ W (i + 1) m' H') ∧ ∀ x H', (Itl K a).yld i H x H' → g x (wipe σ vs) H' fun σ2 H2 => wipe σ2 vs = wipe σ vs ∧ tYes σ2 H2 fun b H3 =>
        if b = true then wi1 σ2 H3 fun J1 H4 => ∃ W1 : Nat → Nat → Hp → Prop, (∃ m, W1 0 m H4) ∧ ∀ j k H, W1 j k H →
          (J1.stop j H ∧ Nx H) ∨ (J1.go j H ∧ ∃ Nx1 : Hp → Prop, (∀ H', Nx1 H' → ∃ k', k' < k ∧ W1 (j + 1) k' H') ∧ ∀ x H', J1.yld j H x H' → g1 x (wipe σ2 vs1) H' fun σ3 H5 => wipe σ3 vs1 = wipe σ2 vs1 ∧ tYes σ3 H5 fun b H6 =>
            if b = true then te σ3 H6 fun y H7 => ∃ acc, H7 D = some (.lst acc) ∧ acc.length < sizeLine ∧ Nx1 (upd H7 D (.lst (acc ++ [y]))) else Nx1 H6)
        else Nx H3) := by
  refine ⟨fun i m H => m = xs.length - i ∧ i ≤ xs.length ∧ Pv i 0 H, ⟨xs.length, by simp, Nat.zero_le _, h0⟩, ?_⟩
  rintro i m H ⟨rfl, hi, p⟩
  have q := hl i H hi p
  by_cases lt : i < xs.length
  · refine .inr ⟨⟨xs, xs[i], q, by simp [lt]⟩, Pv (i + 1) 0, fun H' p' => ⟨xs.length - (i + 1), by omega, rfl, lt, p'⟩, ?_⟩
    rintro x H' ⟨rfl, y⟩
    refine mono _ _ _ _ _ (fun σ2 H2 r => ?_) (hs i x _ (y xs q) p)
    refine ⟨r.1, ?_⟩
    simp only [tYes, if_true]
    refine monoI _ _ _ _ (fun J1 H4 r1 => ?_) r.2
    obtain ⟨c, ys, rfl, p4, hT, hin, hfin⟩ := r1
    refine ⟨fun j k H => k = ys.length - j ∧ j ≤ ys.length ∧ Pv i j H, ⟨ys.length, by simp, Nat.zero_le _, p4⟩, ?_⟩
    rintro j k H ⟨rfl, hj, pj⟩
    have qj := hT j H hj pj
    by_cases ltj : j < ys.length
    · refine .inr ⟨⟨ys, ys[j], qj, by simp [ltj]⟩, Pv i (j + 1), fun H' p' => ⟨ys.length - (j + 1), by omega, rfl, ltj, p'⟩, ?_⟩
      rintro z H' ⟨rfl, yz⟩
      refine mono1 _ _ _ _ _ (fun σ3 H5 r3 => ⟨r3.1, ?_⟩) (hin j z _ (yz ys qj) pj)
      exact r3.2
    · have e : j = ys.length := by omega
      subst e
      exact .inl ⟨⟨ys, qj, Nat.le_refl _⟩, hfin H pj⟩
  · have e : i = xs.length := by omega
    subst e
    exact .inl ⟨⟨xs, q, Nat.le_refl _⟩, hd H p⟩
section
variable {P : Program} {w : World} {K : PySem.W.Frag} {mg : Str → Option Value} {base : Heap}
abbrev tx (x : Str) : MemV := (V.str x, NestedKey.text x)
def txd (xs : List Str) : PyData := .tuple (xs.map PyData.str)
theorem texts_dp {H : Hp} : ∀ xs : List Str, DpAll K H (xs.map V.str) (xs.map PyData.str)
  | [] => .nil
  | x :: r => .cons (.str x) (texts_dp r)
theorem texts_eqv : ∀ xs : List Str, PyData.eqvAll (xs.map PyData.str) (xs.map PyData.str) = true
  | [] => rfl
  | x :: r => by
    rw [List.map_cons, PyData.eqvAll, texts_eqv r]
    simp [PyData.eqv]
theorem txd_shaped {xs : List Str} (hx : ∀ x ∈ xs, PyData.strOk x = true) : SeqAt.shaped (txd xs) = true := by
  have h : ∀ l : List Str, (∀ x ∈ l, PyData.strOk x = true) → PyData.canLayAll0 (l.map PyData.str) = true ∧ PyData.depthAll (l.map PyData.str) ≤ 1 := by
    intro l hl
    induction l with
    | nil => exact ⟨rfl, by decide⟩
    | cons c r ih =>
      have ih := ih fun x hx => hl x (List.mem_cons_of_mem _ hx)
      refine ⟨?_, ?_⟩
      · simp only [List.map_cons, PyData.canLayAll0, PyData.canLay0]
        rw [hl c List.mem_cons_self, ih.1]
        rfl
      · simp only [List.map_cons, PyData.depthAll, PyData.depth]
        have := ih.2
        omega
  obtain ⟨h1, h2⟩ := h xs hx
  unfold SeqAt.shaped
  have e1 : (txd xs).canLay0 = true := by simpa [txd, PyData.canLay0] using h1
  have e2 : (txd xs).depth ≤ 64 := by
    simp only [txd, PyData.depth]
    omega
  rw [e1, decide_eq_true e2]
  rfl
theorem name_strOk {x : Str} (h : nameOk x = true) : PyData.strOk x = true := by
  unfold nameOk at h
  rw [Bool.and_eq_true, Bool.and_eq_true] at h
  have h1 := h.2.1
  unfold Txt.isascii at h1
  unfold PyData.strOk
  rw [Array.all_eq_true] at h1 ⊢
  intro i hi
  have := of_decide_eq_true (h1 i hi)
  exact decide_eq_true (Nat.lt_trans this (by decide))
/-- is_domain(xs) of names that ascend -/
def spDom : Sp := fun vs H Q _ => ∃ (a : Addr) (xs : List Str), vs = [.ref a] ∧ H a = some (.tup (xs.map V.str)) ∧ (∀ x ∈ xs, nameOk x = true) ∧ (xs.map tx).Pairwise Bef ∧ 1 ≤ xs.length ∧ xs.length ≤ 3 ∧ ∀ H', Same H H' → Q (.bl true) H'
theorem bef_texts {xs : List Str} (h : (xs.map tx).Pairwise Bef) : xs.Nodup := by
  have e := nodup_of_map (bef_nodup h)
  exact nodup_of_map e
theorem texts_al (xs : List Str) : W.AllAlike ((xs.map tx).map (·.2.data)) ∧ W.Sortable ((xs.map tx).map (·.2.data)) := by
  rw [List.map_map]
  exact ⟨W.AllAlike.of fun a b => rfl, W.Sortable.others fun a => ⟨fun z => (by cases z), fun _ z => (by cases z)⟩⟩
theorem texts_kv {H : Hp} (xs : List Str) : ∀ p ∈ xs.map tx, Kv K H p.1 p.2 ∧ FitV false p := fun p hp => by
  obtain ⟨x, _, rfl⟩ := List.mem_map.mp hp
  exact ⟨.str x, x, rfl⟩
theorem sc_is_domain : FnScope ["thing"] ["thing"] (defScope s_is_domain) := ⟨rfl, rfl, rfl, by decide +kernel, rfl, by decide +kernel, by decide +kernel⟩
theorem ok_is_domain (B : Bs mg) (f : FnF K mg "is_domain" "is_domain" s_is_domain) (fa : FnF K mg "are_names" "are_names" s_are_names) (fn : FnF K mg "is_name" "is_name" s_is_name) (fs : FnF K mg "ascending" "ascending" s_ascending) :
    FnOk P w K mg base CX0 3 f.a f.d ["thing"] spDom := by
  obtain ⟨tv, cv⟩ := B.c_vals
  have G1 := ok_are_names (P := P) (w := w) (base := base) B fa fn
  have b1 : Binds K fa.d ["thing"] [] := fa.F.binds fun _ _ _ _ _ _ us hl => match us, hl with | [_], _ => rfl
  have G2 := ok_ascending (P := P) (w := w) (base := base) B fs
  have b2 : Binds K fs.d ["things"] [] := fs.F.binds fun _ _ _ _ _ _ us hl => match us, hl with | [_], _ => rfl
  refine f.F.ok sc_is_domain (fun vs H Q E h => ?_) (fun cdv A outer s H vs Q E hr h => ?_)
  · obtain ⟨a, xs, rfl, _⟩ := h
    rfl
  · obtain ⟨a, xs, rfl, ha, ok, asc, l1, l3, q⟩ := h
    have hu64 := hr.units
    have hr1 : Room 1 _ := hr.mono (by omega)
    have hr2 : Room 2 _ := hr.mono (by omega)
    refine ⟨_, (pss_one
      (ps_ret (pe_and (pe_call G1 hr2 rfl fa.g fa.F.kp b1 .nil pass0 (pa_cons (pv 0) pa_nil)) (pe_and (pe_chain op_le op_le pe_int (pe_callB call_len (by rfl) B.n_len (by decide +kernel) (pa_cons (pv 0) pa_nil)) (pe_glob (v := .int 3) rfl cv ⟨_, rfl⟩))
        (pe_one (pe_cmpR (op_eqD hu64) (pv 0) (pe_call G2 hr1 rfl fs.g fs.F.kp b2 .nil pass0 (pa_cons (pv 0) pa_nil)) (nomark _))))))), ?_⟩
    refine ⟨_, rfl, a, xs, rfl, ha, ok, bef_texts asc, by omega, fun H1 e1 => ⟨true, rfl, iteT ?_⟩⟩
    refine ⟨_, rfl, .ref a, xs.length, rfl, .inr ⟨_, SqT.of (e1 _ _ ha), by rw [List.length_map]⟩, _, _, rfl, rfl, _, rfl, ite2 (fun _ => ?_) fun c => absurd (decide_eq_true (by omega)) c⟩
    refine ⟨_, _, rfl, rfl, _, rfl, ite2 (fun _ => ?_) fun c => absurd (decide_eq_true (by omega)) c⟩
    refine ⟨_, rfl, _, rfl, false, a, xs.map tx, rfl, .inr (SqT.of (by rw [texts_mem]; exact e1 _ _ ha)), texts_kv xs, by rw [List.length_map]; omega, (texts_al xs).1, (texts_al xs).2, fun L p H2 h1 h2 h3 h4 hp e2 hL => ?_⟩
    have eL := asc_same asc h1 h2 h3 h4
    rw [eL, texts_mem] at hL
    refine ⟨txd xs, txd xs, .tup (SqT.of (e2 _ _ (e1 _ _ ha))) (texts_dp xs), .tup (SqT.of hL) (texts_dp xs), txd_shaped fun x hx => name_strOk (ok x hx), txd_shaped fun x hx => name_strOk (ok x hx), ?_⟩
    have ev : PyData.eqv (txd xs) (txd xs) = true := by
      simp only [txd, PyData.eqv]
      exact texts_eqv xs
    rw [ev]
    exact q H2 (same_trans e1 e2)
/-- is_row(row, domain, length) of a row -/
def spRow : Sp := fun vs H Q _ => ∃ (r d : Addr) (rs ds : List Str), vs = [.ref r, .ref d, .int (rs.length : Nat)] ∧ H r = some (.tup (rs.map V.str)) ∧ H d = some (.tup (ds.map V.str)) ∧ (∀ x ∈ rs, x ∈ ds) ∧ rs.length ≤ 1000 ∧ ∀ H', Same H H' → Q (.bl true) H'
theorem in_texts {x : Str} {ds : List Str} (h : x ∈ ds) : inV (.str x) (ds.map V.str) = true := by
  unfold inV
  rw [List.any_eq_true]
  exact ⟨.str x, List.mem_map.mpr ⟨x, h, rfl⟩, by show (x == x) = true; exact beq_self_eq_true x⟩
theorem sc_is_row : FnScope ["thing", "domain", "length", "value"] ["thing", "domain", "length"] (defScope s_is_row) := ⟨rfl, rfl, rfl, by decide +kernel, rfl, by decide +kernel, by decide +kernel⟩
theorem ok_is_row (B : Bs mg) (f : FnF K mg "is_row" "is_row" s_is_row) : FnOk P w K mg base CX0 1 f.a f.d ["thing", "domain", "length"] spRow := by
  refine f.F.ok sc_is_row (fun vs H Q E h => ?_) (fun cdv A outer s H vs Q E hr h => ?_)
  · obtain ⟨r, d, rs, ds, rfl, _⟩ := h
    rfl
  · obtain ⟨r, d, rs, ds, rfl, ha, hd, sub, few, q⟩ := h
    refine ⟨_, (pss_one
      (ps_ret (pe_and (pe_callB call_isi (by rfl) B.n_isinstance (by decide +kernel) (pa_cons (pv 0) (pa_cons (pe_bltn (v := .ty "tuple") rfl B.n_tuple (by decide +kernel) rfl) pa_nil)))
        (pe_and (pe_cmpR op_eq (pe_callB call_len (by rfl) B.n_len (by decide +kernel) (pa_cons (pv 0) pa_nil)) (pv 2) (nomark _))
          (pe_one (pe_callB (cr_all rfl) (by rfl) B.n_all (by decide +kernel) (pa_cons (pe_lc (own := [("value", 3)]) (g := gName 3) (by rfl) sc_is_row.nd (pi_tup (pv 0)) (blkOk_by (own := [("value", 3)]) (N := ["thing", "domain", "length", "value"]) (sc := defScope s_is_row) (by decide +kernel))
            (fun _ _ _ _ _ => (pg_name (i := 3) sc_is_row.nd rfl (Or.inl rfl))) (fun _ _ _ _ _ => pts_nil) (fun _ _ _ _ _ => (pe_cmpR (show OpR _ (compareOp .In) (rIn K false) from op_in_seq) (pv 3) (pv 1) (by rfl)))) pa_nil))))))), ?_⟩
    refine ⟨_, rfl, _, _, _, _, true, rfl, .ty "tuple", .base (.tup ha), kit_ty (by decide +kernel), true, rfl, iteT ?_⟩
    refine ⟨_, rfl, .ref r, rs.length, rfl, .inr ⟨_, SqT.of ha, by rw [List.length_map]⟩, _, rfl, rfl, true, congrArg V.bl (decide_eq_true rfl), iteT ?_⟩
    refine ⟨_, rfl, r, rfl, ⟨_, SqT.of ha⟩, fun D hD => ?_⟩
    refine lc_tup (K := K) (xs := rs.map V.str) (fun i H' => Same H H' ∧ H' D = some (.lst (List.replicate i (V.bl true)))) ⟨same_new hD, upd_same⟩ (fun i H' _ p => SqT.of (p.1 _ _ ha)) ?_ ?_
    · rintro i y H' hi ⟨e1, eD⟩
      rw [List.getElem?_map] at hi
      cases hx : rs[i]? with
      | none =>
        rw [hx] at hi
        cases hi
      | some x =>
        rw [hx] at hi
        obtain rfl : V.str x = y := Option.some.inj hi
        have il : i < rs.length := (List.getElem?_eq_some_iff.mp hx).1
        refine ⟨rfl, _, rfl, _, rfl, d, ds.map V.str, rfl, .inr (SqT.of (e1 _ _ hd)), rfl, flat_strs ds, ?_⟩
        refine ⟨_, eD, by rw [List.length_replicate, sizeLine_eq]; omega, fun b u e => ?_, ?_⟩
        · rw [upd_ne (by rintro rfl; rw [hD] at e; cases e)]
          exact e1 b u e
        · rw [upd_same, if_neg (by decide), in_texts (sub x (List.mem_of_getElem? hx)), ← List.replicate_succ']
    · rintro H1 ⟨e1, eD⟩
      rw [List.length_map] at eD
      refine ⟨D, List.replicate rs.length true, rfl, SqL.of (by rw [List.map_replicate]; exact eD), ?_⟩
      rw [bls_all]
      exact q _ e1
end
end K01
/-! All rows; a column. -/
namespace K01
open PySem PySem.Spec PyProof.Rows L2 KG KS
/-- the rows one column longer -/
def step (R : List (List Str)) (col : List Str) : List (List Str) := R.flatMap fun r => col.map fun c => r ++ [c]
def prods (cols : List (List Str)) : List (List Str) := cols.foldl step [[]]
/-- values that are rows -/
abbrev RowsAt (H : Hp) : List V → List (List Str) → Prop := W.EachIs fun v ts => ∃ a, v = V.ref a ∧ H a = some (.tup (ts.map V.str))
theorem each_snoc {α β : Type} {R : α → β → Prop} {x : α} {y : β} : ∀ {as : List α} {bs : List β}, W.EachIs R as bs → R x y → W.EachIs R (as ++ [x]) (bs ++ [y])
  | _, _, .nil, h => .cons h .nil
  | _, _, .cons r t, h => .cons r (each_snoc t h)
theorem each_get {α β : Type} {R : α → β → Prop} : ∀ {as : List α} {bs : List β}, W.EachIs R as bs → ∀ {i : Nat} {x : α}, as[i]? = some x → ∃ y, bs[i]? = some y ∧ R x y
  | _, _, .nil, _, _, e => by cases e
  | _, _, .cons r t, 0, x, e => by
    cases e
    exact ⟨_, rfl, r⟩
  | _, _, .cons r t, i + 1, x, e => each_get t e
theorem RowsAt.up {H H' : Hp} (e : Same H H') {vs : List V} {R : List (List Str)} (h : RowsAt H vs R) : RowsAt H' vs R := each_and h fun v ts _ ⟨a, e1, e2⟩ => ⟨a, e1, e _ _ e2⟩
theorem step_take {R : List (List Str)} {col : List Str} {i : Nat} {r : List Str} (h : R[i]? = some r) : step (R.take (i + 1)) col = step (R.take i) col ++ col.map fun c => r ++ [c] := by
  unfold step
  rw [take_next h, List.flatMap_append, List.flatMap_singleton]
theorem step_len : ∀ (R : List (List Str)) (col : List Str), (step R col).length = R.length * col.length
  | [], col => by simp [step]
  | r :: R, col => by
    have ih := step_len R col
    unfold step at ih ⊢
    rw [List.flatMap_cons, List.length_append, List.length_map, ih, List.length_cons, Nat.succ_mul, Nat.add_comm]
theorem step_prefix {R : List (List Str)} {col : List Str} (i : Nat) : (step (R.take i) col).length ≤ (step R col).length := by
  rw [step_len, step_len]
  exact Nat.mul_le_mul_right _ (by rw [List.length_take]; omega)
theorem prods_next {cols : List (List Str)} {i : Nat} {col : List Str} (h : cols[i]? = some col) : prods (cols.take (i + 1)) = step (prods (cols.take i)) col := by
  unfold prods
  rw [take_next h, List.foldl_append]
  rfl
theorem rows_len (_ : List (List Str)) : ∀ (R : List (List Str)) (n : Nat), (∀ r ∈ R, r.length = n) → ∀ (cols : List (List Str)) {full : List (List Str)}, List.Sublist cols full → ∀ r ∈ cols.foldl step R, r.length = n + cols.length
  | R, n, h, [], _, _, r, hr => h r hr
  | R, n, h, c :: cols, full, sl, r, hr => by
    have z := rows_len [] (step R c) (n + 1) (fun q hq => by
      unfold step at hq
      obtain ⟨r0, h0, h1⟩ := List.mem_flatMap.mp hq
      obtain ⟨x, _, rfl⟩ := List.mem_map.mp h1
      rw [List.length_append, h r0 h0]
      rfl) cols (List.Sublist.refl cols) r hr
    rw [z, List.length_cons]
    omega
theorem same_put {H H1 : Hp} {D : Addr} {o : HO} (hD : H D = none) (e : Same H H1) : Same H (upd H1 D o) := fun b u h => by
  rw [upd_ne (by rintro rfl; rw [hD] at h; cases h)]
  exact e b u h
def spRows : Sp := fun vs H Q _ => ∃ (c : Addr) (ds : List Addr) (cols : List (List Str)), vs = [.ref c] ∧ H c = some (.lst (ds.map V.ref)) ∧ RowsAt H (ds.map V.ref) cols ∧ (∀ i, (prods (cols.take i)).length ≤ 100000) ∧ cols.length ≤ 1000 ∧
  ∀ (p : Addr) (rs : List V) (H' : Hp), H p = none → Same H H' → H' p = some (.tup rs) → RowsAt H' rs (prods cols) → Q (.ref p) H'
section
variable {P : Program} {w : World} {K : PySem.W.Frag} {mg : Str → Option Value} {base : Heap}
theorem sc_all_rows : FnScope ["columns", "rows", "column", "row", "item"] ["columns"] (defScope s_all_rows) := ⟨rfl, rfl, rfl, by decide +kernel, rfl, by decide +kernel, by decide +kernel⟩
theorem ok_all_rows (B : Bs mg) (f : FnF K mg "all_rows" "all_rows" s_all_rows) : FnOk P w K mg base CX0 1 f.a f.d ["columns"] spRows := by
  refine f.F.ok sc_all_rows (fun vs H Q E h => ?_) (fun cdv A outer s H vs Q E hr h => ?_)
  · obtain ⟨c, ds, cols, rfl, _⟩ := h
    rfl
  · obtain ⟨c, ds, cols, rfl, hc, hcol, few, wide, q⟩ := h
    refine ⟨_, (pss_cons
      (ps_set (i := 1) sc_all_rows.nd rfl (Or.inl rfl) (pe_lst (pa_cons (pe_tup pa_nil) pa_nil)))
    (pss_cons
      (ps_for PassesOwn.never rfl (pi_list (pv 0)) (pg_name (i := 2) sc_all_rows.nd rfl (Or.inr rfl))
        (pss_one
          (ps_setLc2 (i := 1) (own := [("row", 3), ("item", 4)]) (vs1 := [4]) (g := gName 3) (g1 := gName 4) (by rfl) sc_all_rows.nd rfl rfl (sw_true rfl rfl rfl (by decide +kernel)) (pi_list (pv 1)) (blkOk_by (own := [("row", 3), ("item", 4)]) (N := ["columns", "rows", "column", "row", "item"]) (sc := defScope s_all_rows) (by decide +kernel)) (by decide)
            (fun _ _ _ _ _ => (pg_name (i := 3) sc_all_rows.nd rfl (Or.inl rfl))) (fun _ _ _ _ _ => pts_nil)
            (fun _ _ _ _ _ => (show PI _ _ _ (iTup K (tVar 2)) from pi_tup (pv 2))) (fun _ _ _ _ _ => (pg_name (i := 4) sc_all_rows.nd rfl (Or.inl rfl))) (fun _ _ _ _ _ => pts_nil)
            (fun _ _ _ _ _ => (pe_op (show OpR _ (binaryOp .Add) (rCatA K) from op_catA) (pv 3) (pe_tup (pa_cons (pv 4) pa_nil)))))))
    (pss_one
      (ps_ret (pe_callTy call_tuple_of (by rfl) B.n_tuple (by decide +kernel) (pa_cons (pv 1) pa_nil)))))), ?_⟩
    refine ⟨by show 0 ≤ sizeLine; exact Nat.zero_le _, fun t ht => ⟨by show 1 ≤ sizeLine; decide, fun l hl => ?_⟩⟩
    have e0 : Same H (upd (upd H t (.tup [])) l (.lst [V.ref t])) := same_trans (same_new ht) (same_new hl)
    refine ⟨_, rfl, c, rfl, ⟨_, SqL.of (e0 _ _ hc)⟩, ?_⟩
    refine for_list (K := K) (a := c) (xs := ds.map V.ref) (fun i σ H' => ∃ (l : Addr) (rs : List V) (v2 : Option V), σ = [some (.ref c), some (.ref l), v2, none, none] ∧ Same H H' ∧ H' l = some (.lst rs) ∧ RowsAt H' rs (prods (cols.take i)))
      ⟨l, _, none, rfl, e0, upd_same, .cons ⟨t, rfl, by rw [upd_ne (ne_of_none upd_same hl), upd_same]; rfl⟩ .nil⟩ (fun i σ H' _ ⟨_, _, _, _, e, _⟩ => SqL.of (e _ _ hc)) ?_ ?_
    · rintro i0 y σ H0 hi ⟨l, rs, v2, rfl, e1, hl1, hR⟩
      obtain ⟨col, hci, d, rfl, hd0⟩ := each_get hcol hi
      generalize hRR : prods (cols.take i0) = R at hR
      have pn := prods_next hci
      rw [hRR] at pn
      have lim := few (i0 + 1)
      rw [pn] at lim
      refine ⟨_, rfl, l, rfl, ⟨_, SqL.of hl1⟩, fun D hD => ?_⟩
      have hDH : H D = none := e1.free hD
      have nDl : D ≠ l := (ne_of_none hl1 hD).symm
      refine lc2_lt (K := K) (a := l) (xs := rs) (fun i j H2 => ∃ acc, Same H0 H2 ∧ H2 D = some (.lst acc) ∧ RowsAt H2 acc (step (R.take i) col ++ (col.take j).map fun c => R.getD i [] ++ [c]))
        ⟨[], same_new hD, upd_same, .nil⟩ (fun i H2 _ ⟨_, e, _⟩ => SqL.of (e _ _ hl1)) ?_ (fun x σ H Q R h q => h _ _ q) (fun x σ H Q R h q => h _ _ q) (fun σ H Q R h ⟨x, e, a, e2, q0, q1⟩ => ⟨x, e, a, e2, q0, h _ _ q1⟩) ?_
      · rintro i x H2 hx ⟨acc, e2, hacc, hA⟩
        obtain ⟨ts, hRi, a, rfl, ha0⟩ := each_get hR hx
        have gd : R.getD i [] = ts := by rw [List.getD_eq_getElem?_getD, hRi]; rfl
        have ha2 := e2 _ _ ha0
        refine ⟨rfl, _, rfl, d, rfl, ⟨_, SqT.of (e2 _ _ (e1 _ _ hd0))⟩, d, col.map V.str, rfl, ⟨acc, e2, hacc, hA⟩, fun j H3 _ ⟨_, e3, _⟩ => SqT.of (e3 _ _ (e1 _ _ hd0)), ?_, ?_⟩
        · rintro j z H3 hz ⟨ac, e3, hac, hB⟩
          rw [List.getElem?_map] at hz
          cases hcj : col[j]? with
          | none =>
            rw [hcj] at hz
            cases hz
          | some cj =>
            rw [hcj] at hz
            obtain rfl : V.str cj = z := Option.some.inj hz
            have jl : j < col.length := (List.getElem?_eq_some_iff.mp hcj).1
            have il : i < R.length := (List.getElem?_eq_some_iff.mp hRi).1
            have lac : ac.length < 100000 := by
              have l1 := hB.length
              rw [List.length_append, List.length_map, List.length_take] at l1
              have l2 := step_prefix (R := R) (col := col) (i + 1)
              rw [step_take hRi, List.length_append, List.length_map] at l2
              omega
            rw [gd] at hB
            have hrow : ∀ {H4 : Hp} {v : V}, Same H3 H4 → (∃ b, v = V.ref b ∧ H4 b = some (.tup ((ts ++ [cj]).map V.str))) → RowsAt H4 (ac ++ [v]) (step (R.take i) col ++ (col.take (j + 1)).map fun c => R.getD i [] ++ [c]) := fun e4 hv => by
              rw [gd, take_next hcj, List.map_append, ← List.append_assoc]
              exact each_snoc (hB.up e4) hv
            have fin : ∀ {H4 : Hp} {v : V}, Same H3 H4 → H4 D = some (.lst ac) → (∃ b, v = V.ref b ∧ H4 b = some (.tup ((ts ++ [cj]).map V.str))) →
                ∃ acc, H4 D = some (.lst acc) ∧ acc.length < sizeLine ∧ ∃ acc', Same H0 (upd H4 D (.lst (acc ++ [v]))) ∧ upd H4 D (.lst (acc ++ [v])) D = some (.lst acc') ∧
                  RowsAt (upd H4 D (.lst (acc ++ [v]))) acc' (step (R.take i) col ++ (col.take (j + 1)).map fun c => R.getD i [] ++ [c]) := fun {H4 v} e4 h4 hv => by
              refine ⟨ac, h4, by rw [sizeLine_eq]; omega, ac ++ [v], same_put hD (same_trans e3 e4), upd_same, ?_⟩
              refine each_and (hrow e4 hv) fun v ts _ ⟨b, e5, e6⟩ => ⟨b, e5, ?_⟩
              rw [upd_ne (ne_of e6 h4 (by intro z; cases z))]
              exact e6
            refine ⟨rfl, _, rfl, _, rfl, by show 1 ≤ sizeLine; decide, fun b hb => ?_⟩
            have e4 : Same H3 (upd H3 b (.tup [V.str cj])) := same_new hb
            refine ⟨a, b, ts.map V.str, [V.str cj], rfl, rfl, SqT.of (e4 _ _ (e3 _ _ ha0)), SqT.of upd_same, ?_, fun z => ?_, fun _ z => (nomatch z), fun _ _ p hp => ?_⟩
            · have rl := rows_len [] [[]] 0 (by simp) (cols.take i0) (List.Sublist.refl _) ts (by rw [show (cols.take i0).foldl step [[]] = R from hRR]; exact List.mem_of_getElem? hRi)
              have tl : (cols.take i0).length ≤ cols.length := (List.take_sublist _ _).length_le
              rw [List.length_map, sizeLine_eq]
              show ts.length + 1 ≤ _
              omega
            · have z2 : ts = [] := List.map_eq_nil_iff.mp z
              exact fin e4 (e4 _ _ hac) ⟨b, rfl, by rw [upd_same, z2]; rfl⟩
            · have e5 := same_trans e4 (same_new (o := .tup (ts.map V.str ++ [V.str cj])) hp)
              exact fin e5 (e5 _ _ hac) ⟨p, rfl, by rw [upd_same, List.map_append]; rfl⟩
        · rintro H3 ⟨ac, e3, hac, hB⟩
          rw [List.length_map, List.take_length, gd, ← step_take hRi] at hB
          exact ⟨ac, e3, hac, by simpa using hB⟩
      · rintro H2 ⟨acc, e2, hacc, hA⟩
        refine ⟨D, acc, _, rfl, same_trans e1 e2, hacc, ?_⟩
        rw [pn]
        rw [hR.length] at hA
        simpa using hA
    · rintro σ H1 ⟨l, rs, v2, rfl, e1, hl1, hR⟩
      refine ⟨_, rfl, l, rs, rfl, .inl ⟨SqL.of hl1, fun p hp => ?_⟩⟩
      have le : cols.length = ds.length := by rw [← hcol.length, List.length_map]
      rw [List.length_map, ← le, List.take_length] at hR
      exact q p rs _ (e1.free hp) (same_trans e1 (same_new hp)) upd_same (hR.up (same_new hp))
end
end K01
/-! A column; a table made of what is valid. -/
namespace K01
open PySem PySem.Spec PyProof.Rows L2 KG KS
def inCls (i j : Nat) : Stmt := match top i with
  | .ClassDef _ _ _ body _ _ _ _ _ _ _ => body.getD j (.Pass ⟨0, 0, 0, 0⟩)
  | s => s
/-- a method of a class: where it stands -/
structure MtF (K : PySem.W.Frag) (name qual : Str) (st : Stmt) where
  a : Addr
  d : FuncData
  F : Fun K name qual st a d
abbrev s_tabInit : Stmt := inCls 15 0
/-- the facts of Table -/
structure TabC (K : PySem.W.Frag) (mg : Str → Option Value) (f : Addr) where
  C : Addr
  g : mg "Table" = some (.ref C)
  cl : Cls K C
  made : Mk K C f
  nd : NoAttr K C "domain"
  nw : NoAttr K C "width"
  nr : NoAttr K C "rows"
  nf : NoAttr K C "is_full"
  np : NoAttr K C "is_product"
/-- no statement is reached here -/
theorem ps_dead {X : Cx} {st : Stmt} : PS X st (fun _ _ _ => False) := ⟨fun _ _ _ _ _ _ h => h.elim⟩
theorem tx_list : ∀ {ys : List Str} {L : List MemV}, (∀ m ∈ L, m ∈ ys.map tx) → ∃ xs : List Str, L = xs.map tx ∧ ∀ x ∈ xs, x ∈ ys
  | _, [], _ => ⟨[], rfl, fun _ z => (nomatch z)⟩
  | ys, m :: L, h => by
    obtain ⟨x, hx, rfl⟩ := List.mem_map.mp (h m List.mem_cons_self)
    obtain ⟨xs, e, s⟩ := tx_list (ys := ys) (L := L) fun q hq => h q (List.mem_cons_of_mem _ hq)
    refine ⟨x :: xs, by rw [List.map_cons, e], fun z hz => ?_⟩
    rcases List.mem_cons.mp hz with e | hz
    · rw [e]
      exact hx
    · exact s z hz
def colv (R : List (List Str)) (pl : Nat) : List Str := R.map fun row => row.getD pl Str.empty
/-- column_of(rows, place) -/
def spCol : Sp := fun vs H Q _ => ∃ (r : Addr) (rs : List V) (R : List (List Str)) (pl : Nat), vs = [.ref r, .int (pl : Nat)] ∧ H r = some (.tup rs) ∧ RowsAt H rs R ∧ (∀ row ∈ R, pl < row.length) ∧ R.length < 64 ∧ pl < 1000 ∧
  ∀ (p : Addr) (xs : List Str) (H' : Hp), H p = none → Same H H' → H' p = some (.tup (xs.map V.str)) → (∀ x, x ∈ xs ↔ ∃ row ∈ R, row[pl]? = some x) → ((xs.map tx).map (·.2)).Nodup → (xs.map tx).Pairwise Aft → Q (.ref p) H'
section
variable {P : Program} {w : World} {K : PySem.W.Frag} {mg : Str → Option Value} {base : Heap}
theorem sc_column_of : FnScope ["rows", "place", "row"] ["rows", "place"] (defScope s_column_of) := ⟨rfl, rfl, rfl, by decide +kernel, rfl, by decide +kernel, by decide +kernel⟩
theorem ok_column_of (B : Bs mg) (f : FnF K mg "column_of" "column_of" s_column_of) (fs : FnF K mg "ascending" "ascending" s_ascending) : FnOk P w K mg base CX0 2 f.a f.d ["rows", "place"] spCol := by
  have G2 := ok_ascending (P := P) (w := w) (base := base) B fs
  have b2 : Binds K fs.d ["things"] [] := fs.F.binds fun _ _ _ _ _ _ us hl => match us, hl with | [_], _ => rfl
  refine f.F.ok sc_column_of (fun vs H Q E h => ?_) (fun cdv A outer s H vs Q E hr h => ?_)
  · obtain ⟨r, rs, R, pl, rfl, _⟩ := h
    rfl
  · obtain ⟨r, rs, R, pl, rfl, hr0, hR, hpl, h64, h1000, q⟩ := h
    have hr1 : Room 1 _ := hr.mono (by omega)
    refine ⟨_, (pss_one
      (ps_ret (pe_call G2 hr1 rfl fs.g fs.F.kp b2 .nil pass0 (pa_cons (pe_lc (own := [("row", 2)]) (g := gName 2) (by rfl) sc_column_of.nd (pi_tup (pv 0)) (blkOk_by (own := [("row", 2)]) (N := ["rows", "place", "row"]) (sc := defScope s_column_of) (by decide +kernel))
        (fun _ _ _ _ _ => (pg_name (i := 2) sc_column_of.nd rfl (Or.inl rfl))) (fun _ _ _ _ _ => pts_nil) (fun _ _ _ _ _ => (pe_ix (show IxR _ (rIxT K) from ix_tup) (pv 2) (pv 1) (fun _ _ => rfl)))) pa_nil)))), ?_⟩
    refine ⟨_, rfl, r, rfl, ⟨_, SqT.of hr0⟩, fun D hD => ?_⟩
    refine lc_tup (K := K) (xs := rs) (fun i H' => Same H H' ∧ H' D = some (.lst (((colv R pl).take i).map V.str))) ⟨same_new hD, upd_same⟩ (fun i H' _ p => SqT.of (p.1 _ _ hr0)) ?_ ?_
    · rintro i y H' hi ⟨e1, eD⟩
      obtain ⟨row, hrow, a, rfl, ha⟩ := each_get hR hi
      have lp := hpl row (List.mem_of_getElem? hrow)
      have gp : row[pl]? = some (row.getD pl Str.empty) := by
        rw [List.getElem?_eq_getElem lp]
        simp [List.getD, lp]
      have cp : (colv R pl)[i]? = some (row.getD pl Str.empty) := by
        unfold colv
        rw [List.getElem?_map, hrow]
        rfl
      have il : i < R.length := (List.getElem?_eq_some_iff.mp hrow).1
      refine ⟨rfl, _, rfl, _, rfl, a, row.map V.str, (pl : Nat), .str (row.getD pl Str.empty), rfl, rfl, SqT.of (e1 _ _ ha), atI_nat (by rw [List.getElem?_map, gp]; rfl), _, eD, by rw [List.length_map, List.length_take, sizeLine_eq]; omega, same_put hD e1, ?_⟩
      rw [upd_same, take_next cp, List.map_append]
      rfl
    · rintro H1 ⟨e1, eD⟩
      rw [hR.length] at eD
      have ct : (colv R pl).take R.length = colv R pl := by
        rw [← List.length_map (f := fun row : List Str => row.getD pl Str.empty)]
        exact List.take_length
      rw [ct] at eD
      have cl : (colv R pl).length = R.length := List.length_map ..
      refine ⟨false, D, (colv R pl).map tx, rfl, .inl (SqL.of (by rw [texts_mem]; exact eD)), texts_kv _, by rw [List.length_map, cl]; exact h64, (texts_al _).1, (texts_al _).2, fun L p H2 h1 h2 h3 h4 hp e2 hL => ?_⟩
      obtain ⟨xs, rfl, hx⟩ := tx_list h1
      rw [texts_mem] at hL
      refine q p xs H2 (e1.free hp) (same_trans e1 e2) hL (fun x => ⟨fun hm => ?_, fun ⟨row, hm, e⟩ => ?_⟩) h3 h4
      · obtain ⟨row, hrow, e⟩ := List.mem_map.mp (hx x hm)
        refine ⟨row, hrow, ?_⟩
        have lp := hpl row hrow
        rw [← e, List.getElem?_eq_getElem lp]
        simp [List.getD, lp]
      · have mc : x ∈ colv R pl := List.mem_map.mpr ⟨row, hm, by rw [List.getD_eq_getElem?_getD, e]; rfl⟩
        have z := h2 (tx x) (List.mem_map.mpr ⟨x, mc, rfl⟩)
        rw [List.map_map] at z
        obtain ⟨y, hy, e3⟩ := List.mem_map.mp z
        have e4 : y = x := NestedKey.text.inj e3
        rw [← e4]
        exact hy
end
end K01
/-! Rows as data; Table(domain, width, rows) of what is valid. -/
namespace K01
open PySem PySem.Spec PyProof.Rows L2 KG KS
/-- a row as a key -/
def kr (ts : List Str) : NestedKey := .tup (ts.map NestedKey.text)
theorem kr_inj {a b : List Str} (h : kr a = kr b) : a = b := by
  have e : a.map NestedKey.text = b.map NestedKey.text := NestedKey.tup.inj h
  exact (List.map_inj_right fun x y z => NestedKey.text.inj z).mp e
theorem datas_texts : ∀ ts : List Str, NestedKey.datas (ts.map NestedKey.text) = ts.map PyData.str
  | [] => rfl
  | t :: ts => by
    rw [List.map_cons, List.map_cons, NestedKey.datas, datas_texts ts]
    rfl
theorem kr_data (ts : List Str) : (kr ts).data = txd ts := by
  show PyData.tuple (NestedKey.datas (ts.map NestedKey.text)) = txd ts
  rw [datas_texts]
  rfl
theorem depth_texts : ∀ ts : List Str, NestedKey.depthAll (ts.map NestedKey.text) = 0
  | [] => rfl
  | t :: ts => by
    rw [List.map_cons, NestedKey.depthAll, depth_texts ts]
    rfl
theorem kv_texts {K : PySem.W.Frag} {H : Hp} : ∀ ts : List Str, KvAll K H (ts.map V.str) (ts.map NestedKey.text)
  | [] => .nil
  | t :: ts => .cons (.str t) (kv_texts ts)
theorem kv_row {K : PySem.W.Frag} {H : Hp} {a : Addr} {ts : List Str} (h : H a = some (.tup (ts.map V.str))) : Kv K H (.ref a) (kr ts) ∧ FitV true (V.ref a, kr ts) := by
  refine ⟨.tup (SqT.of h) (kv_texts ts), a, _, rfl, rfl, ?_⟩
  show NestedKey.depthAll (ts.map NestedKey.text) + 1 ≤ 8
  rw [depth_texts]
  decide
/-- rows as members -/
theorem rows_mem {K : PySem.W.Frag} {H : Hp} : ∀ {vs : List V} {R : List (List Str)}, RowsAt H vs R → ∃ ms : List MemV, ms.map (·.1) = vs ∧ ms.map (·.2) = R.map kr ∧ ∀ p ∈ ms, (Kv K H p.1 p.2 ∧ FitV true p) ∧ ∃ ts ∈ R, p.2 = kr ts ∧ ∃ a, p.1 = V.ref a ∧ H a = some (.tup (ts.map V.str))
  | _, _, .nil => ⟨[], rfl, rfl, fun _ z => (nomatch z)⟩
  | _, _, .cons ⟨a, e1, e2⟩ t => by
    obtain ⟨ms, h1, h2, h3⟩ := rows_mem (K := K) t
    subst e1
    refine ⟨(V.ref a, kr _) :: ms, by rw [List.map_cons, h1], by rw [List.map_cons, List.map_cons, h2], fun p hp => ?_⟩
    rcases List.mem_cons.mp hp with z | z
    · rw [z]
      exact ⟨kv_row e2, _, List.mem_cons_self, rfl, a, rfl, e2⟩
    · obtain ⟨q, ts, hts, q2⟩ := h3 p z
      exact ⟨q, ts, List.mem_cons_of_mem _ hts, q2⟩
theorem rows_back {H : Hp} {R : List (List Str)} : ∀ {L : List MemV}, (∀ p ∈ L, ∃ ts ∈ R, p.2 = kr ts ∧ ∃ a, p.1 = V.ref a ∧ H a = some (.tup (ts.map V.str))) → ∃ R', RowsAt H (L.map (·.1)) R' ∧ L.map (·.2) = R'.map kr ∧ ∀ ts ∈ R', ts ∈ R
  | [], _ => ⟨[], .nil, rfl, fun _ z => (nomatch z)⟩
  | p :: L, h => by
    obtain ⟨ts, hts, e, a, e1, e2⟩ := h p List.mem_cons_self
    obtain ⟨R', h1, h2, h3⟩ := rows_back (L := L) fun q hq => h q (List.mem_cons_of_mem _ hq)
    refine ⟨ts :: R', .cons ⟨a, e1, e2⟩ h1, by rw [List.map_cons, List.map_cons, h2, e], fun x hx => ?_⟩
    rcases List.mem_cons.mp hx with z | z
    · rw [z]
      exact hts
    · exact h3 x z
/-- rows as data -/
def rowsD (R : List (List Str)) : PyData := .tuple (R.map txd)
theorem rows_dp {K : PySem.W.Frag} {H : Hp} : ∀ {vs : List V} {R : List (List Str)}, RowsAt H vs R → DpAll K H vs (R.map txd)
  | _, _, .nil => .nil
  | _, _, .cons ⟨a, e1, e2⟩ t => by
    subst e1
    exact .cons (.tup (SqT.of e2) (texts_dp _)) (rows_dp t)
theorem txd_flat {xs : List Str} (hx : ∀ x ∈ xs, PyData.strOk x = true) : (txd xs).canLay0 = true ∧ (txd xs).depth ≤ 1 := by
  induction xs with
  | nil => exact ⟨rfl, by decide⟩
  | cons c r ih =>
    obtain ⟨i1, i2⟩ := ih fun x hx' => hx x (List.mem_cons_of_mem _ hx')
    simp only [txd, PyData.canLay0, PyData.depth] at i1 i2 ⊢
    refine ⟨?_, ?_⟩
    · simp only [List.map_cons, PyData.canLayAll0, PyData.canLay0]
      rw [hx c List.mem_cons_self, i1]
      rfl
    · simp only [List.map_cons, PyData.depthAll, PyData.depth]
      omega
theorem rows_shaped {R : List (List Str)} (h : ∀ r ∈ R, ∀ x ∈ r, PyData.strOk x = true) : SeqAt.shaped (rowsD R) = true := by
  have key : ∀ l : List (List Str), (∀ r ∈ l, ∀ x ∈ r, PyData.strOk x = true) → PyData.canLayAll0 (l.map txd) = true ∧ PyData.depthAll (l.map txd) ≤ 1 := by
    intro l hl
    induction l with
    | nil => exact ⟨rfl, by decide⟩
    | cons c r ih =>
      obtain ⟨i1, i2⟩ := ih fun x hx => hl x (List.mem_cons_of_mem _ hx)
      obtain ⟨c1, c2⟩ := txd_flat (hl c List.mem_cons_self)
      refine ⟨?_, ?_⟩
      · simp only [List.map_cons, PyData.canLayAll0]
        rw [c1, i1]
        rfl
      · simp only [List.map_cons, PyData.depthAll]
        omega
  obtain ⟨h1, h2⟩ := key R h
  unfold SeqAt.shaped
  have e1 : (rowsD R).canLay0 = true := by simpa [rowsD, PyData.canLay0] using h1
  have e2 : (rowsD R).depth ≤ 64 := by
    simp only [rowsD, PyData.depth]
    omega
  rw [e1, decide_eq_true e2]
  rfl
theorem alike_texts : ∀ xs ys : List Str, W.alikeAll (xs.map PyData.str) (ys.map PyData.str) = true
  | [], _ => by simp [W.alikeAll]
  | _ :: _, [] => by simp [W.alikeAll]
  | x :: xs, y :: ys => by
    rw [List.map_cons, List.map_cons, W.alikeAll, alike_texts xs ys]
    rfl
theorem rows_al {ms : List MemV} {R : List (List Str)} (h : ∀ p ∈ ms, ∃ ts ∈ R, p.2 = kr ts) (h1 : ∀ r ∈ R, 1 ≤ r.length) : W.AllAlike (ms.map (·.2.data)) ∧ W.Sortable (ms.map (·.2.data)) := by
  have g : ∀ d ∈ ms.map (·.2.data), ∃ ts ∈ R, d = txd ts := fun d hd => by
    obtain ⟨p, hp, rfl⟩ := List.mem_map.mp hd
    obtain ⟨ts, hts, e⟩ := h p hp
    exact ⟨ts, hts, by rw [e, kr_data]⟩
  refine ⟨fun d hd d' hd' => ?_, .inl fun d hd => ?_⟩
  · obtain ⟨ts, _, rfl⟩ := g d hd
    obtain ⟨us, _, rfl⟩ := g d' hd'
    exact alike_texts ts us
  · obtain ⟨ts, hts, rfl⟩ := g d hd
    have := h1 ts hts
    cases ts with
    | nil => exact absurd this (by decide)
    | cons x r => exact ⟨.str x, r.map PyData.str, rfl⟩
theorem prods_mem : ∀ (cols R : List (List Str)), ∀ r ∈ cols.foldl step R, ∀ x ∈ r, (∃ c ∈ cols, x ∈ c) ∨ ∃ r0 ∈ R, x ∈ r0
  | [], R, r, hr, x, hx => .inr ⟨r, hr, hx⟩
  | c :: cols, R, r, hr, x, hx => by
    rcases prods_mem cols (step R c) r hr x hx with ⟨c', h1, h2⟩ | ⟨r0, h1, h2⟩
    · exact .inl ⟨c', List.mem_cons_of_mem _ h1, h2⟩
    · unfold step at h1
      obtain ⟨r1, a1, a2⟩ := List.mem_flatMap.mp h1
      obtain ⟨y, b1, rfl⟩ := List.mem_map.mp a2
      rcases List.mem_append.mp h2 with z | z
      · exact .inr ⟨r1, a1, z⟩
      · rw [List.mem_singleton.mp z]
        exact .inl ⟨c, List.mem_cons_self, b1⟩
theorem prods_ok {cols : List (List Str)} (h : ∀ c ∈ cols, ∀ x ∈ c, PyData.strOk x = true) : ∀ r ∈ prods cols, ∀ x ∈ r, PyData.strOk x = true := fun r hr x hx => by
  rcases prods_mem cols [[]] r hr x hx with ⟨c, h1, h2⟩ | ⟨r0, h1, h2⟩
  · exact h c h1 x h2
  · rw [List.mem_singleton.mp h1] at h2
    cases h2
theorem prods_few : ∀ (cols R : List (List Str)), (∀ c ∈ cols, c.length ≤ 3) → (cols.foldl step R).length ≤ R.length * 3 ^ cols.length
  | [], R, _ => by simp
  | c :: cols, R, h => by
    have z := prods_few cols (step R c) fun x hx => h x (List.mem_cons_of_mem _ hx)
    rw [step_len] at z
    have l := h c List.mem_cons_self
    rw [List.length_cons, Nat.pow_succ]
    refine Nat.le_trans (show _ ≤ _ from z) ?_
    rw [Nat.mul_assoc, Nat.mul_comm (3 ^ cols.length) 3]
    exact Nat.mul_le_mul_left _ (Nat.mul_le_mul_right _ l)
theorem few_of {cols : List (List Str)} (h : ∀ c ∈ cols, c.length ≤ 3) (n : cols.length ≤ 3) (i : Nat) : (prods (cols.take i)).length ≤ 100000 := by
  have z := prods_few (cols.take i) [[]] fun c hc => h c (List.mem_of_mem_take hc)
  have l : (cols.take i).length ≤ 3 := by
    rw [List.length_take]
    omega
  have p : 3 ^ (cols.take i).length ≤ 3 ^ 3 := Nat.pow_le_pow_right (by decide) l
  unfold prods
  have e : ([[]] : List (List Str)).length = 1 := rfl
  rw [e] at z
  omega
end K01
/-! The order of rows of texts; products ascend; a part of as many is the whole. -/
namespace KA
open PySem PySem.Spec PyProof.Rows L2 KS K01
/-- one row ahead of another -/
def ltR (xs ys : List Str) : Bool := W.dataLt (txd xs) (txd ys)
def ltT (x y : Str) : Bool := W.dataLt (.str x) (.str y)
theorem ltR_row (xs ys : List Str) : ltR xs ys = W.rowLt (xs.map PyData.str) (ys.map PyData.str) := W.dataLt_tuple ..
theorem eqv_str (x y : Str) : PyData.eqv (.str x) (.str y) = decide (x = y) := by
  by_cases h : x = y
  · subst h
    simp [PyData.eqv]
  · simp [PyData.eqv, h]
theorem ltR_cons (x y : Str) (xs ys : List Str) : ltR (x :: xs) (y :: ys) = if x = y then ltR xs ys else ltT x y := by
  rw [ltR_row, ltR_row]
  show PyProof.Rows.lexLt itemOrd (W.keyToksAll (.str x :: xs.map PyData.str)) (W.keyToksAll (.str y :: ys.map PyData.str)) = _
  rw [W.dataLt_cons (by rfl), eqv_str]
  by_cases h : x = y
  · rw [decide_eq_true h, if_pos rfl, if_pos h]
    rfl
  · rw [decide_eq_false h, if_neg Bool.false_ne_true, if_neg h]
    rfl
theorem ltR_irr (xs : List Str) : ltR xs xs = false := lex_irrefl _
theorem ltR_trans {a b c : List Str} (h : ltR a b = true) (k : ltR b c = true) : ltR a c = true := lex_trans _ _ _ h k
theorem ltT_irr (x : Str) : ltT x x = false := lex_irrefl _
theorem ltT_total {x y : Str} (h : ltT x y = false) (k : ltT y x = false) : x = y := by
  by_cases e : x = y
  · exact e
  · have z := ltR_cons x y [] []
    have z2 := ltR_cons y x [] []
    rw [if_neg e] at z
    rw [if_neg fun q => e q.symm] at z2
    have t := lex_total _ _ (show W.dataLt (.str x) (.str y) = false from h) (show W.dataLt (.str y) (.str x) = false from k)
    have t2 : W.keyToks (.str x) = W.keyToks (.str y) := t
    simp [W.keyToks] at t2
    exact W.str_of_cps (by rw [t2])
theorem ltR_total : ∀ {xs ys : List Str}, xs.length = ys.length → ltR xs ys = false → ltR ys xs = false → xs = ys
  | [], [], _, _, _ => rfl
  | x :: xs, y :: ys, l, h, k => by
    rw [ltR_cons] at h k
    by_cases e : x = y
    · subst e
      rw [if_pos rfl] at h k
      rw [ltR_total (Nat.succ.inj l) h k]
    · rw [if_neg e] at h
      rw [if_neg fun z => e z.symm] at k
      exact absurd (ltT_total h k) e
/-- one sign more at the end -/
theorem ltR_snoc : ∀ {xs ys : List Str} (x y : Str), xs.length = ys.length → ltR (xs ++ [x]) (ys ++ [y]) = if xs = ys then ltT x y else ltR xs ys
  | [], [], x, y, _ => by
    rw [if_pos rfl]
    show ltR [x] [y] = _
    rw [ltR_cons]
    by_cases e : x = y
    · rw [if_pos e, e, ltT_irr, ltR_irr]
    · rw [if_neg e]
  | a :: xs, b :: ys, x, y, l => by
    rw [List.cons_append, List.cons_append, ltR_cons, ltR_cons, ltR_snoc x y (Nat.succ.inj l)]
    by_cases e : a = b
    · subst e
      rw [if_pos rfl, if_pos rfl]
      by_cases e2 : xs = ys
      · subst e2
        rw [if_pos rfl, if_pos rfl]
      · rw [if_neg e2, if_neg fun z => e2 (List.cons.inj z).2]
    · rw [if_neg e, if_neg e, if_neg fun z => e (List.cons.inj z).1]
/-- rows that ascend, each once -/
abbrev Asc (R : List (List Str)) : Prop := R.Pairwise fun a b => ltR a b = true
abbrev AscT (c : List Str) : Prop := c.Pairwise fun a b => ltT a b = true
theorem step_asc {R : List (List Str)} {c : List Str} {n : Nat} (hR : Asc R) (hl : ∀ r ∈ R, r.length = n) (hc : AscT c) : Asc (K01.step R c) := by
  unfold K01.step
  refine List.pairwise_flatMap.mpr ⟨fun r _ => ?_, ?_⟩
  · refine List.pairwise_map.mpr (hc.imp fun {x y} h => ?_)
    rw [ltR_snoc x y rfl, if_pos rfl]
    exact h
  · refine hR.imp_of_mem fun {r q} hr hq h => ?_
    intro a ha b hb
    obtain ⟨x, _, rfl⟩ := List.mem_map.mp ha
    obtain ⟨y, _, rfl⟩ := List.mem_map.mp hb
    rw [ltR_snoc x y ((hl r hr).trans (hl q hq).symm)]
    by_cases e : r = q
    · rw [e, ltR_irr] at h
      cases h
    · rw [if_neg e]
      exact h
theorem prods_asc : ∀ (cols R : List (List Str)) (n : Nat), Asc R → (∀ r ∈ R, r.length = n) → (∀ c ∈ cols, AscT c) → Asc (cols.foldl K01.step R)
  | [], R, n, h, _, _ => h
  | c :: cols, R, n, h, hl, hc => by
    refine prods_asc cols (K01.step R c) (n + 1) (step_asc h hl (hc c List.mem_cons_self)) (fun q hq => ?_) fun x hx => hc x (List.mem_cons_of_mem _ hx)
    unfold K01.step at hq
    obtain ⟨r, hr, h1⟩ := List.mem_flatMap.mp hq
    obtain ⟨x, _, rfl⟩ := List.mem_map.mp h1
    rw [List.length_append, hl r hr]
    rfl
theorem asc_nodup {R : List (List Str)} (h : Asc R) : R.Nodup := h.imp fun {a b} l e => by
  rw [e, ltR_irr] at l
  cases l
theorem asc_eq {A B : List (List Str)} (hA : Asc A) (hB : Asc B) (h : A.Perm B) : A = B :=
  List.Perm.eq_of_pairwise (le := fun a b => ltR a b = true) (fun a b _ _ h1 h2 => by
    have z := ltR_trans h1 h2
    rw [ltR_irr] at z
    cases z) hA hB h
theorem perm_of_sub {α : Type} : ∀ (l D : List α), l.Nodup → (∀ x ∈ l, x ∈ D) → D.length ≤ l.length → l.Perm D
  | [], D, _, _, h => by
    have e : D = [] := List.length_eq_zero_iff.mp (Nat.le_zero.mp h)
    rw [e]
  | x :: l, D, nd, sub, h => by
    obtain ⟨A, B, rfl⟩ := List.append_of_mem (sub x List.mem_cons_self)
    obtain ⟨n1, n2⟩ := List.nodup_cons.mp nd
    have pm : (A ++ x :: B).Perm (x :: (A ++ B)) := List.perm_middle
    refine (List.Perm.cons x (perm_of_sub l (A ++ B) n2 (fun y hy => ?_) ?_)).trans pm.symm
    · rcases List.mem_cons.mp (pm.mem_iff.mp (sub y (List.mem_cons_of_mem _ hy))) with e | z
      · rw [e] at hy
        exact absurd hy n1
      · exact z
    · have z := pm.length_eq
      rw [z, List.length_cons, List.length_cons] at h
      omega
/-- a part of as many is the whole -/
theorem part_whole {A B : List (List Str)} (hA : Asc A) (hB : Asc B) (sub : ∀ x ∈ A, x ∈ B) : A = B ↔ A.length = B.length :=
  ⟨fun e => by rw [e], fun l => asc_eq hA hB (perm_of_sub A B (asc_nodup hA) sub (Nat.le_of_eq l.symm))⟩
theorem eqv_texts : ∀ xs ys : List Str, PyData.eqvAll (xs.map PyData.str) (ys.map PyData.str) = decide (xs = ys)
  | [], [] => rfl
  | [], _ :: _ => rfl
  | _ :: _, [] => rfl
  | x :: xs, y :: ys => by
    rw [List.map_cons, List.map_cons, PyData.eqvAll, eqv_str, eqv_texts xs ys]
    by_cases h : x = y <;> by_cases k : xs = ys <;> simp [h, k]
theorem eqv_row (xs ys : List Str) : PyData.eqv (txd xs) (txd ys) = decide (xs = ys) := by
  rw [← eqv_texts]
  simp only [txd, PyData.eqv]
theorem eqv_rows : ∀ A B : List (List Str), PyData.eqvAll (A.map txd) (B.map txd) = decide (A = B)
  | [], [] => rfl
  | [], _ :: _ => rfl
  | _ :: _, [] => rfl
  | x :: xs, y :: ys => by
    rw [List.map_cons, List.map_cons, PyData.eqvAll, eqv_row, eqv_rows xs ys]
    by_cases h : x = y <;> by_cases k : xs = ys <;> simp [h, k]
theorem eqv_rowsD (A B : List (List Str)) : PyData.eqv (rowsD A) (rowsD B) = decide (A = B) := by
  rw [← eqv_rows]
  simp only [rowsD, PyData.eqv]
end KA
/-! Table(domain, width, rows) of what is valid. -/
namespace K01
open PySem PySem.Spec PyProof.Rows L2 KG KS KA
theorem nodup_len {α : Type} : ∀ (l D : List α), l.Nodup → (∀ x ∈ l, x ∈ D) → l.length ≤ D.length
  | [], _, _, _ => Nat.zero_le _
  | x :: l, D, nd, sub => by
    obtain ⟨A, B, rfl⟩ := List.append_of_mem (sub x List.mem_cons_self)
    obtain ⟨n1, n2⟩ := List.nodup_cons.mp nd
    have z := nodup_len l (A ++ B) n2 fun y hy => by
      rcases List.mem_append.mp (sub y (List.mem_cons_of_mem _ hy)) with c | c
      · exact List.mem_append_left _ c
      · rcases List.mem_cons.mp c with e | c
        · rw [e] at hy
          exact absurd hy n1
        · exact List.mem_append_right _ c
    rw [List.length_append] at z ⊢
    rw [List.length_cons, List.length_cons]
    omega
theorem flat_rep {α : Type} (v : α) : ∀ n, (List.replicate n [v]).flatten = List.replicate n v
  | 0 => rfl
  | n + 1 => by
    rw [List.replicate_succ, List.flatten_cons, flat_rep v n]
    rfl
/-- all but the object at x stands -/
def But (x : Addr) (H H' : Hp) : Prop := ∀ b o, H b = some o → b ≠ x → H' b = some o
theorem But.put {x : Addr} {H H1 : Hp} {o : HO} (e : But x H H1) : But x H (upd H1 x o) := fun b u h n => by
  rw [upd_ne n]
  exact e b u h n
theorem But.then {x : Addr} {H H1 H2 : Hp} (e : But x H H1) (f : Same H1 H2) : But x H H2 := fun b u h n => f _ _ (e b u h n)
theorem But.of {x : Addr} {H H1 : Hp} (e : Same H H1) : But x H H1 := fun b u h _ => e b u h
theorem RowsAt.but {x : Addr} {H H' : Hp} {o : HO} (e : But x H H') (hx : H x = some o) (no : ∀ ts : List Str, o ≠ .tup (ts.map V.str)) {vs : List V} {R : List (List Str)} (h : RowsAt H vs R) : RowsAt H' vs R :=
  each_and h fun v ts _ ⟨a, e1, e2⟩ => ⟨a, e1, e _ _ e2 fun z => by
    rw [z, hx] at e2
    exact no ts (Option.some.inj e2)⟩
theorem putF_new {f : Str} {v : V} : ∀ fs : List (Str × V), (fs.all fun p => decide (p.1 ≠ f)) = true → putF f v fs = fs ++ [(f, v)]
  | [], _ => rfl
  | (g, x) :: r, h => by
    rw [List.all_cons, Bool.and_eq_true, decide_eq_true_eq] at h
    show (if g = f then _ else _) = _
    rw [if_neg h.1, putF_new r h.2]
    rfl
abbrev F1 (d : Addr) : List (Str × V) := [("domain", V.ref d)]
abbrev F2 (d : Addr) (n : Nat) : List (Str × V) := F1 d ++ [(("width" : Str), V.int (n : Nat))]
abbrev F3 (d : Addr) (n : Nat) (p : Addr) : List (Str × V) := F2 d n ++ [(("rows" : Str), V.ref p)]
abbrev F4 (d : Addr) (n : Nat) (p : Addr) (b : Bool) : List (Str × V) := F3 d n p ++ [(("is_full" : Str), V.bl b)]
abbrev tabFs (d p : Addr) (n : Nat) (b1 b2 : Bool) : List (Str × V) := [("domain", .ref d), ("width", .int (n : Nat)), ("rows", .ref p), ("is_full", .bl b1), ("is_product", .bl b2)]
/-- the columns of rows: each ascending, each once -/
def ColsOf (R : List (List Str)) (n : Nat) (cols : List (List Str)) : Prop := cols.length = n ∧ ∀ (i : Nat) c, cols[i]? = some c → AscT c ∧ ∀ x, x ∈ c ↔ ∃ row ∈ R, row[i]? = some x
theorem aft_texts {xs : List Str} (h : (xs.map tx).Pairwise Aft) (nd : ((xs.map tx).map (·.2)).Nodup) : AscT xs := by
  have nx : xs.Nodup := nodup_of_map (nodup_of_map nd)
  refine List.Pairwise.imp₂ (R := fun x y => x ≠ y) (S := fun x y => ltT y x = false) (fun x y h1 h2 => ?_) nx (List.pairwise_map.mp h)
  cases e : ltT x y with
  | true => rfl
  | false => exact absurd (ltT_total e h2) h1
theorem aft_rows {L : List MemV} {R : List (List Str)} {n : Nat} (e : L.map (·.2) = R.map kr) (h : L.Pairwise Aft) (nd : (L.map (·.2)).Nodup) (len : ∀ r ∈ R, r.length = n) : Asc R := by
  have h1 : (L.map (·.2)).Pairwise fun k l => W.dataLt l.data k.data = false := List.pairwise_map.mpr h
  rw [e] at h1 nd
  have h2 := List.pairwise_map.mp h1
  have nR : R.Nodup := nodup_of_map nd
  refine List.Pairwise.imp_of_mem (fun {a b} ha hb z => ?_) (List.Pairwise.and nR h2)
  obtain ⟨z1, z2⟩ := z
  rw [kr_data, kr_data] at z2
  cases q : ltR a b with
  | true => rfl
  | false => exact absurd (ltR_total ((len a ha).trans (len b hb).symm) q z2) z1
/-- a tuple, laid here or written in the text -/
def TupAt (K : PySem.W.Frag) (H : Hp) (r : Addr) (rs : List V) : Prop := ∀ H', Same H H' → SqT K H' r rs ∧ TyX K H' (.ref r) (.type "tuple")
theorem TupAt.of {K : PySem.W.Frag} {H : Hp} {r : Addr} {rs : List V} (h : H r = some (.tup rs)) : TupAt K H r rs := fun H' e => ⟨SqT.of (e _ _ h), .base (.tup (e _ _ h))⟩
def spTabS (K : PySem.W.Frag) (C : Addr) : Sp := fun vs H Q _ => ∃ (x dx d r : Addr) (n : Nat) (ds : List Str) (rs : List V) (R : List (List Str)), vs = [.ref x, .ref d, .int (n : Nat), .ref r] ∧ H x = some (.ins C dx []) ∧
  H d = some (.tup (ds.map V.str)) ∧ (∀ y ∈ ds, nameOk y = true) ∧ (ds.map tx).Pairwise Bef ∧ 1 ≤ ds.length ∧ ds.length ≤ 3 ∧ 1 ≤ n ∧ n ≤ 3 ∧
  TupAt K H r rs ∧ RowsAt H rs R ∧ (∀ row ∈ R, row.length = n ∧ ∀ y ∈ row, y ∈ ds) ∧ R.length < 64 ∧
  ∀ (H' : Hp) (p : Addr) (ks : List V) (R' cols : List (List Str)), But x H H' → H' x = some (.ins C dx (tabFs d p n (decide (R' = prods (List.replicate n ds))) (decide (R' = prods cols)))) → H' p = some (.tup ks) → H p = none → RowsAt H' ks R' →
    (∀ row, row ∈ R' ↔ row ∈ R) → Asc R' → ColsOf R' n cols → Q .non H'
def spTab (C : Addr) : Sp := fun vs H Q _ => ∃ (x dx d r : Addr) (n : Nat) (ds : List Str) (rs : List V) (R : List (List Str)), vs = [.ref x, .ref d, .int (n : Nat), .ref r] ∧ H x = some (.ins C dx []) ∧
  H d = some (.tup (ds.map V.str)) ∧ (∀ y ∈ ds, nameOk y = true) ∧ (ds.map tx).Pairwise Bef ∧ 1 ≤ ds.length ∧ ds.length ≤ 3 ∧ 1 ≤ n ∧ n ≤ 3 ∧
  H r = some (.tup rs) ∧ RowsAt H rs R ∧ (∀ row ∈ R, row.length = n ∧ ∀ y ∈ row, y ∈ ds) ∧ R.length < 64 ∧
  ∀ (H' : Hp) (p : Addr) (ks : List V) (R' cols : List (List Str)), But x H H' → H' x = some (.ins C dx (tabFs d p n (decide (R' = prods (List.replicate n ds))) (decide (R' = prods cols)))) → H' p = some (.tup ks) → H p = none → RowsAt H' ks R' →
    (∀ row, row ∈ R' ↔ row ∈ R) → Asc R' → ColsOf R' n cols → Q .non H'
section
variable {P : Program} {w : World} {K : PySem.W.Frag} {mg : Str → Option Value} {base : Heap}
theorem sc_tabInit : FnScope ["self", "domain", "width", "rows", "kept", "row", "place"] ["self", "domain", "width", "rows"] (defScope s_tabInit) := ⟨rfl, rfl, rfl, by decide +kernel, rfl, by decide +kernel, by decide +kernel⟩
/-- a method with one default -/
structure MtD (K : PySem.W.Frag) (name qual : Str) (st : Stmt) where
  a : Addr
  d : FuncData
  v : V
  F : FunD K name qual (defArgs st) (defBody st) (defScope st) [v] [] a d
theorem okD {name qual : Str} {st : Stmt} {N ps : List Str} {k : Nat} {sp : Sp} (f : MtD K name qual st) (S : FnScope N ps (defScope st)) (len : ∀ vs H Q E, sp vs H Q E → vs.length = ps.length)
    (body : ∀ (cdv : Value) (A : Around) (outer : List Env) (s : Shared) (H : Hp) (vs : List V) (Q : VK) (E : XK), Room k (A.deeper (envOfC qual (defScope st) s.heap.objs.size f.a cdv)) → sp vs H Q E →
      ∃ t, PSs (cxOf CX0 P w K mg base N qual (defScope st) f.a cdv A outer s H E).nox (defBody st) t ∧ t { nx := fun _ H' => Q .non H', rt := Q } (L2.start N vs) H) : FnOk P w K mg base CX0 (k + 1) f.a f.d ps sp :=
  f.F.ok S len fun cdv A outer s H vs Q E hr h => by
    obtain ⟨t, h1, h2⟩ := body cdv A outer s H vs Q E hr h
    exact ⟨t, h1.nox, h2⟩
/-- the defs that Table's making reaches -/
structure TabF (K : PySem.W.Frag) (mg : Str → Option Value) where
  dom : FnF K mg "is_domain" "is_domain" s_is_domain
  nms : FnF K mg "are_names" "are_names" s_are_names
  nm : FnF K mg "is_name" "is_name" s_is_name
  asc : FnF K mg "ascending" "ascending" s_ascending
  int : FnF K mg "is_integer" "is_integer" s_is_integer
  row : FnF K mg "is_row" "is_row" s_is_row
  all : FnF K mg "all_rows" "all_rows" s_all_rows
  col : FnF K mg "column_of" "column_of" s_column_of
theorem ok_tabInitS (B : Bs mg) (f : MtD K "__init__" "Table.__init__" s_tabInit) (F : TabF K mg) (T : TabC K mg f.a) : FnOk P w K mg base CX0 4 f.a f.d ["self", "domain", "width", "rows"] (spTabS K T.C) := by
  obtain ⟨tw, cw⟩ := B.c_width
  have G1 := ok_is_domain (P := P) (w := w) (base := base) B F.dom F.nms F.nm F.asc
  have b1 : Binds K F.dom.d ["thing"] [] := F.dom.F.binds fun _ _ _ _ _ _ us hl => match us, hl with | [_], _ => rfl
  have G2 := ok_is_integer (P := P) (w := w) (base := base) B F.int
  have b2 : Binds K F.int.d ["thing"] [] := F.int.F.binds fun _ _ _ _ _ _ us hl => match us, hl with | [_], _ => rfl
  have G3 := ok_is_row (P := P) (w := w) (base := base) B F.row
  have b3 : Binds K F.row.d ["thing", "domain", "length"] [] := F.row.F.binds fun _ _ _ _ _ _ us hl => match us, hl with | [_, _, _], _ => rfl
  have G4 := ok_ascending (P := P) (w := w) (base := base) B F.asc
  have b4 : Binds K F.asc.d ["things"] [] := F.asc.F.binds fun _ _ _ _ _ _ us hl => match us, hl with | [_], _ => rfl
  have G5 := ok_all_rows (P := P) (w := w) (base := base) B F.all
  have b5 : Binds K F.all.d ["columns"] [] := F.all.F.binds fun _ _ _ _ _ _ us hl => match us, hl with | [_], _ => rfl
  have G6 := ok_column_of (P := P) (w := w) (base := base) B F.col F.asc
  have b6 : Binds K F.col.d ["rows", "place"] [] := F.col.F.binds fun _ _ _ _ _ _ us hl => match us, hl with | [_, _], _ => rfl
  refine okD f sc_tabInit (fun vs H Q E h => ?_) (fun cdv A outer s H vs Q E hr h => ?_)
  · obtain ⟨x, dx, d, r, n, ds, rs, R, rfl, _⟩ := h
    rfl
  · obtain ⟨x, dx, d, r, n, ds, rs, R, rfl, hx, hd, ok, asc, l1, l3, n1, n3, hr0, hR, hrow, h64, q⟩ := h
    have hu64 := hr.units
    have hr1 : Room 1 _ := hr.mono (by omega)
    have hr2 : Room 2 _ := hr.mono (by omega)
    have hr3 : Room 3 _ := hr.mono (by omega)
    refine ⟨_, (pss_cons
      (ps_if (pt_not (pt_val (pe_call G1 hr3 rfl F.dom.g F.dom.F.kp b1 .nil pass0 (pa_cons (pv 1) pa_nil))))
        (pss_one
          ps_dead)
        pss_nil)
    (pss_cons
      (ps_if (PW.pt (pw_or (pt_not (pt_val (pe_call G2 hr1 rfl F.int.g F.int.F.kp b2 .nil pass0 (pa_cons (pv 2) pa_nil)))) (pw_or1 (pt_not (pt_chain op_le op_le pe_int (pv 2) (pe_glob (v := .int 3) rfl cw ⟨_, rfl⟩))))))
        (pss_one
          ps_dead)
        pss_nil)
    (pss_cons
      (ps_if (PW.pt (pw_or (pt_not (pt_val (pe_callB call_isi (by rfl) B.n_isinstance (by decide +kernel) (pa_cons (pv 3) (pa_cons (pe_bltn (v := .ty "tuple") rfl B.n_tuple (by decide +kernel) rfl) pa_nil)))))
          (pw_or1 (pt_not (pt_val (pe_callB (cr_all rfl) (by rfl) B.n_all (by decide +kernel) (pa_cons (pe_lc (own := [("row", 5)]) (g := gName 5) (by rfl) sc_tabInit.nd (pi_tup (pv 3)) (blkOk_by (own := [("row", 5)]) (N := ["self", "domain", "width", "rows", "kept", "row", "place"]) (sc := defScope s_tabInit) (by decide +kernel))
            (fun _ _ _ _ _ => (pg_name (i := 5) sc_tabInit.nd rfl (Or.inl rfl))) (fun _ _ _ _ _ => pts_nil) (fun _ _ _ _ _ => (pe_call G3 hr1 rfl F.row.g F.row.F.kp b3 .nil pass0 (pa_cons (pv 5) (pa_cons (pv 1) (pa_cons (pv 2) pa_nil)))))) pa_nil)))))))
        (pss_one
          ps_dead)
        pss_nil)
    (pss_cons
      (ps_set (i := 4) sc_tabInit.nd rfl (Or.inr rfl) (pe_call G4 hr1 rfl F.asc.g F.asc.F.kp b4 .nil pass0 (pa_cons (pv 3) pa_nil)))
    (pss_cons
      (ps_fld (pv 0) (pv 1) rfl)
    (pss_cons
      (ps_fld (pv 0) (pv 2) rfl)
    (pss_cons
      (ps_fld (pv 0) (pv 4) rfl)
    (pss_cons
      (ps_fld (pv 0) (pe_cmpR (op_eqD hu64) (pv 4) (pe_call G5 hr1 rfl F.all.g F.all.F.kp b5 .nil pass0 (pa_cons (pe_op op_rep (pe_lst (pa_cons (pv 1) pa_nil)) (pv 2)) pa_nil)) (nomark _)) rfl)
    (pss_one
      (ps_fld (pv 0) (pe_cmpR (op_eqD hu64) (pv 4) (pe_call G5 hr1 rfl F.all.g F.all.F.kp b5 .nil pass0 (pa_cons (pe_lc (own := [("place", 6)]) (g := gName 6) (by rfl) sc_tabInit.nd (pi_range1 rfl B.n_range (pa_cons (pv 2) pa_nil)) (blkOk_by (own := [("place", 6)]) (N := ["self", "domain", "width", "rows", "kept", "row", "place"]) (sc := defScope s_tabInit) (by decide +kernel))
        (fun _ _ _ _ _ => (pg_name (i := 6) sc_tabInit.nd rfl (Or.inl rfl))) (fun _ _ _ _ _ => pts_nil) (fun _ _ _ _ _ => (pe_call G6 hr2 rfl F.col.g F.col.F.kp b6 .nil pass0 (pa_cons (pv 4) (pa_cons (pv 6) pa_nil))))) pa_nil)) (nomark _)) rfl)))))))))), ?_⟩
    -- is_domain(domain)
    refine ⟨_, rfl, d, ds, rfl, hd, ok, asc, l1, l3, fun H1 e1 => ⟨true, rfl, iteF ?_⟩⟩
    -- is_integer(width), 1 <= width <= MOST_WIDTH
    refine ⟨_, rfl, _, rfl, true, rfl, iteF ?_⟩
    refine ⟨_, rfl, _, _, rfl, rfl, _, rfl, ite2 (fun _ => ?_) fun c => absurd (decide_eq_true (by omega)) c⟩
    refine ⟨_, _, rfl, rfl, _, rfl, iteNS (by omega) ?_⟩
    -- isinstance(rows, tuple) and all([is_row(row, domain, width) for row in rows])
    refine ⟨_, rfl, _, _, _, _, true, rfl, .ty "tuple", (hr0 H1 e1).2, kit_ty (by decide +kernel), true, rfl, iteF ?_⟩
    refine ⟨_, rfl, r, rfl, ⟨_, (hr0 H1 e1).1⟩, fun D hD => ?_⟩
    refine lc_tup (K := K) (xs := rs) (fun i H' => Same H1 H' ∧ H' D = some (.lst (List.replicate i (V.bl true)))) ⟨same_new hD, upd_same⟩ (fun i H' _ p => (hr0 H' (same_trans e1 p.1)).1) ?_ ?_
    · rintro i y H' hi ⟨e2, eD⟩
      obtain ⟨row, hri, a, rfl, ha⟩ := each_get hR hi
      have mr := List.mem_of_getElem? hri
      obtain ⟨len, sub⟩ := hrow row mr
      have il : i < R.length := (List.getElem?_eq_some_iff.mp hri).1
      refine ⟨rfl, _, rfl, _, rfl, _, rfl, a, d, row, ds, by rw [len]; rfl, e2 _ _ (e1 _ _ ha), e2 _ _ (e1 _ _ hd), sub, by omega, fun H3 e3 => ?_⟩
      refine ⟨_, e3 _ _ eD, by rw [List.length_replicate, sizeLine_eq]; omega, same_put hD (same_trans e2 e3), ?_⟩
      rw [upd_same, ← List.replicate_succ']
    rintro H2 ⟨e2, eD⟩
    refine ⟨D, List.replicate rs.length true, rfl, SqL.of (by rw [List.map_replicate]; exact eD), true, congrArg V.bl (bls_all _), iteF ?_⟩
    have e02 := same_trans e1 e2
    have hR2 := hR.up e02
    -- kept = ascending(rows)
    obtain ⟨ms, m1, m2, m3⟩ := rows_mem (K := K) hR2
    have row1 : ∀ t ∈ R, 1 ≤ t.length := fun t ht => by rw [(hrow t ht).1]; exact n1
    have mal := rows_al (ms := ms) (R := R) (fun p hp => by obtain ⟨_, ts, h1, h2, _⟩ := m3 p hp; exact ⟨ts, h1, h2⟩) row1
    have ml : ms.length = R.length := by
      have z := congrArg List.length m2
      rw [List.length_map, List.length_map] at z
      exact z
    refine ⟨_, rfl, true, r, ms, rfl, .inr (by rw [m1]; exact (hr0 H2 e02).1), fun p hp => (m3 p hp).1, by omega, mal.1, mal.2, fun L p H3 h1 h2 h3 h4 hp e3 hL => ?_⟩
    have e03 := same_trans e02 e3
    obtain ⟨R', a1, a2, a3⟩ := rows_back (H := H3) (R := R) (L := L) fun m hm => by
      obtain ⟨_, ts, z1, z2, a, z3, z4⟩ := m3 m (h1 m hm)
      exact ⟨ts, z1, z2, a, z3, e3 _ _ z4⟩
    have rows_iff : ∀ row, row ∈ R' ↔ row ∈ R := fun row => ⟨a3 row, fun hm => by
      have z : kr row ∈ ms.map (·.2) := by
        rw [m2]
        exact List.mem_map.mpr ⟨row, hm, rfl⟩
      obtain ⟨m, hm2, e⟩ := List.mem_map.mp z
      have z2 := h2 m hm2
      rw [e, a2] at z2
      obtain ⟨row2, hm3, e2⟩ := List.mem_map.mp z2
      rw [← kr_inj e2]
      exact hm3⟩
    have rows_asc : Asc R' := aft_rows a2 h4 h3 fun r hm => (hrow r (a3 r hm)).1
    have rlen : R'.length < 64 := by
      have z := congrArg List.length a2
      rw [List.length_map, List.length_map] at z
      have z2 : L.length ≤ ms.length := by
        have := nodup_of_map h3
        exact nodup_len _ _ this h1
      omega
    -- self.domain, self.width, self.rows
    have hx3 := e03 _ _ hx
    refine ⟨_, rfl, _, rfl, x, T.C, dx, _, rfl, hx3, T.cl, T.nd, by decide, ?_⟩
    rw [show putF "domain" (V.ref d) [] = F1 d from putF_new _ rfl]
    refine ⟨_, rfl, _, rfl, x, T.C, dx, _, rfl, upd_same, T.cl, T.nw, (by show 1 < 1000; decide), ?_⟩
    rw [show putF "width" (V.int (n : Nat)) (F1 d) = F2 d n from putF_new _ rfl]
    refine ⟨_, rfl, _, rfl, x, T.C, dx, _, rfl, upd_same, T.cl, T.nr, (by show 2 < 1000; decide), ?_⟩
    rw [show putF "rows" (V.ref p) (F2 d n) = F3 d n p from putF_new _ rfl]
    have npx : p ≠ x := fun z => by
      rw [z] at hp
      rw [e02 _ _ hx] at hp
      cases hp
    have h34 : But x H3 (upd (upd (upd H3 x (.ins T.C dx (F1 d))) x (.ins T.C dx (F2 d n))) x (.ins T.C dx (F3 d n p))) :=
      But.put (But.put (But.put (But.of (Same.refl H3))))
    have hx4 : upd (upd (upd H3 x (.ins T.C dx (F1 d))) x (.ins T.C dx (F2 d n))) x (.ins T.C dx (F3 d n p)) x = some (.ins T.C dx (F3 d n p)) := upd_same
    generalize upd (upd (upd H3 x (.ins T.C dx (F1 d))) x (.ins T.C dx (F2 d n))) x (.ins T.C dx (F3 d n p)) = H4 at h34 hx4 ⊢
    have ndx : d ≠ x := ne_of hd hx (by intro z; cases z)
    have hd4 : H4 d = some (.tup (ds.map V.str)) := h34 _ _ (e03 _ _ hd) ndx
    have hp4 : H4 p = some (.tup (L.map (·.1))) := h34 _ _ hL npx
    have hR4 : RowsAt H4 (L.map (·.1)) R' := RowsAt.but h34 hx3 (fun ts z => by cases z) a1
    have ok3 : ∀ y ∈ ds, PyData.strOk y = true := fun y hy => name_strOk (ok y hy)
    have okR : ∀ t ∈ R', ∀ y ∈ t, PyData.strOk y = true := fun t ht y hy => ok3 y ((hrow t (a3 t ht)).2 y hy)
    -- self.is_full
    refine ⟨_, rfl, _, rfl, by show 1 ≤ sizeLine; decide, fun l hl => ⟨_, rfl, l, (n : Nat), [V.ref d], rfl, rfl, upd_same, by omega, by omega, (by rw [sizeLine_eq]; show 1 * _ ≤ _; omega), fun u hu => ?_⟩⟩
    have e45 : Same H4 (upd (upd H4 l (.lst [V.ref d])) u (.lst (List.replicate (n : Int).toNat [V.ref d]).flatten)) := same_trans (same_new hl) (same_new hu)
    have hu5 : upd (upd H4 l (.lst [V.ref d])) u (.lst (List.replicate (n : Int).toNat [V.ref d]).flatten) u = some (.lst ((List.replicate n d).map V.ref)) := by
      rw [upd_same, flat_rep, List.map_replicate]
      rfl
    generalize upd (upd H4 l (.lst [V.ref d])) u (.lst (List.replicate (n : Int).toNat [V.ref d]).flatten) = H5 at e45 hu5 ⊢
    have hR5 : RowsAt H5 ((List.replicate n d).map V.ref) (List.replicate n ds) := by
      rw [List.map_replicate]
      have key : ∀ k, RowsAt H5 (List.replicate k (V.ref d)) (List.replicate k ds) := fun k => by
        induction k with
        | zero => exact .nil
        | succ k ih => exact .cons ⟨d, rfl, e45 _ _ hd4⟩ ih
      exact key n
    refine ⟨u, List.replicate n d, List.replicate n ds, rfl, hu5, hR5, few_of (fun c hc => by rw [List.eq_of_mem_replicate hc]; exact l3) (by rw [List.length_replicate]; exact n3), by rw [List.length_replicate]; omega, fun pf fs H6 hpf e56 hpf6 hRf => ?_⟩
    have e46 := same_trans e45 e56
    refine ⟨rowsD R', rowsD (prods (List.replicate n ds)), .tup (SqT.of (e46 _ _ hp4)) (rows_dp (hR4.up e46)), .tup (SqT.of hpf6) (rows_dp hRf), rows_shaped okR, rows_shaped (prods_ok fun c hc => by rw [List.eq_of_mem_replicate hc]; exact ok3), ?_⟩
    rw [eqv_rowsD]
    generalize hb1 : decide (R' = prods (List.replicate n ds)) = b1
    have hx6 := e46 _ _ hx4
    refine ⟨_, rfl, x, T.C, dx, _, rfl, hx6, T.cl, T.nf, (by show 3 < 1000; decide), ?_⟩
    rw [show putF "is_full" (V.bl b1) (F3 d n p) = F4 d n p b1 from putF_new _ rfl]
    have h67 : But x H6 (upd H6 x (.ins T.C dx (F4 d n p b1))) := But.put (But.of (Same.refl H6))
    have hx7 : upd H6 x (.ins T.C dx (F4 d n p b1)) x = some (.ins T.C dx (F4 d n p b1)) := upd_same
    generalize upd H6 x (.ins T.C dx (F4 d n p b1)) = H7 at h67 hx7 ⊢
    have hp7 : H7 p = some (.tup (L.map (·.1))) := h67 _ _ (e46 _ _ hp4) npx
    have hR7 : RowsAt H7 (L.map (·.1)) R' := RowsAt.but h67 hx6 (fun ts z => by cases z) (hR4.up e46)
    -- self.is_product
    refine ⟨_, rfl, _, rfl, (n : Nat), rfl, by omega, by omega, fun D2 hD2 => ?_⟩
    refine lc_range (lo := 0) (n := ((n : Nat) : Int).toNat) (fun i H' => ∃ (cs : List Addr) (cols : List (List Str)), Same H7 H' ∧ H' D2 = some (.lst (cs.map V.ref)) ∧ RowsAt H' (cs.map V.ref) cols ∧ cols.length = i ∧ (∀ c ∈ cols, c.length ≤ 3) ∧ (∀ c ∈ cols, ∀ y ∈ c, y ∈ ds) ∧ ∀ (j : Nat) c, cols[j]? = some c → AscT c ∧ ∀ x, x ∈ c ↔ ∃ row ∈ R', row[j]? = some x)
      ⟨[], [], same_new hD2, upd_same, .nil, rfl, fun _ z => (nomatch z), fun _ z => (nomatch z), fun _ _ z => (nomatch z)⟩ ?_ ?_
    · rintro i H' hi ⟨cs, cols, e8, hD8, hR8, len, c3, cds, cdef⟩
      refine ⟨rfl, _, rfl, _, rfl, p, L.map (·.1), R', i, by rw [Int.zero_add]; rfl, e8 _ _ hp7, hR7.up e8, fun row hm => by rw [(hrow row (a3 row hm)).1]; omega, rlen, by omega, fun pc xs H9 hpc e9 hpc9 iff nd aft => ?_⟩
      have xds : ∀ y ∈ xs, y ∈ ds := fun y hy => by
        obtain ⟨row, hm, e⟩ := (iff y).1 hy
        exact (hrow row (a3 row hm)).2 y (List.mem_of_getElem? e)
      have xnd : xs.Nodup := nodup_of_map (nodup_of_map nd)
      have x3 : xs.length ≤ 3 := Nat.le_trans (nodup_len _ _ xnd xds) l3
      have cl : cs.length = i := by rw [← len, ← hR8.length, List.length_map]
      refine ⟨_, e9 _ _ hD8, by rw [List.length_map, sizeLine_eq]; omega, cs ++ [pc], cols ++ [xs], same_put hD2 (same_trans e8 e9), by rw [upd_same, List.map_append]; rfl, ?_, by rw [List.length_append, len]; rfl, fun c hc => ?_, fun c hc => ?_, fun j c hc => ?_⟩
      · rw [List.map_append]
        refine each_and (each_snoc (hR8.up e9) ⟨pc, rfl, hpc9⟩) fun v ts _ ⟨b, e5, e6⟩ => ⟨b, e5, ?_⟩
        rw [upd_ne (ne_of e6 (e9 _ _ hD8) (by intro z; cases z))]
        exact e6
      · rcases List.mem_append.mp hc with z | z
        · exact c3 c z
        · rw [List.mem_singleton.mp z]
          exact x3
      · rcases List.mem_append.mp hc with z | z
        · exact cds c z
        · rw [List.mem_singleton.mp z]
          exact xds
      · by_cases jl : j < cols.length
        · rw [List.getElem?_append_left jl] at hc
          exact cdef j c hc
        · rw [List.getElem?_append_right (by omega)] at hc
          have j0 : j - cols.length = 0 := by
            have z := (List.getElem?_eq_some_iff.mp hc).1
            rw [List.length_singleton] at z
            omega
          rw [j0] at hc
          cases hc
          have ji : j = i := by omega
          rw [ji]
          exact ⟨aft_texts aft nd, iff⟩
    · rintro H8 ⟨cs, cols, e8, hD8, hR8, len, c3, cds, cdef⟩
      refine ⟨D2, cs, cols, rfl, hD8, hR8, few_of c3 (by omega), by omega, fun pg gs H9 hpg e9 hpg9 hRg => ?_⟩
      have e79 := same_trans e8 e9
      refine ⟨rowsD R', rowsD (prods cols), .tup (SqT.of (e79 _ _ hp7)) (rows_dp (hR7.up e79)), .tup (SqT.of hpg9) (rows_dp hRg), rows_shaped okR, rows_shaped (prods_ok fun c hc y hy => ok3 y (cds c hc y hy)), ?_⟩
      rw [eqv_rowsD]
      generalize hb2 : decide (R' = prods cols) = b2
      have hx9 := e79 _ _ hx7
      refine ⟨_, rfl, x, T.C, dx, _, rfl, hx9, T.cl, T.np, (by show 4 < 1000; decide), ?_⟩
      rw [show putF "is_product" (V.bl b2) (F4 d n p b1) = tabFs d p n b1 b2 from putF_new _ rfl]
      have h9 : But x H9 (upd H9 x (.ins T.C dx (tabFs d p n b1 b2))) := But.put (But.of (Same.refl H9))
      subst hb1 hb2
      refine q _ p (L.map (·.1)) R' cols (fun b o e nx => h9 _ _ (e79 _ _ (h67 _ _ (e46 _ _ (h34 _ _ (e03 _ _ e) nx)) nx)) nx) upd_same (h9 _ _ (e79 _ _ hp7) npx) (e02.free hp) (RowsAt.but h9 hx9 (fun ts z => by cases z) (hR7.up e79)) rows_iff rows_asc ⟨by rw [len]; omega, cdef⟩
theorem ok_tabInit (B : Bs mg) (f : MtD K "__init__" "Table.__init__" s_tabInit) (F : TabF K mg) (T : TabC K mg f.a) : FnOk P w K mg base CX0 4 f.a f.d ["self", "domain", "width", "rows"] (spTab T.C) :=
  (ok_tabInitS B f F T).imp fun vs H Q E h => by
    obtain ⟨x, dx, d, r, n, ds, rs, R, e, hx, hd, ok, asc, l1, l3, n1, n3, hr0, rest⟩ := h
    exact ⟨x, dx, d, r, n, ds, rs, R, e, hx, hd, ok, asc, l1, l3, n1, n3, .of hr0, rest⟩
end
end K01
/-! Drawn: one of a list. -/
namespace K01
open PySem PySem.Spec PyProof.Rows L2 KG

theorem DeckAt.back {H H' : Hp} {d l : Addr} {k : Nat} (D : DeckAt H' d l k) (o : Off d l H H') {b : Addr} (h : H' b = none) : H b = none := by
  obtain ⟨cs, m, n, h1, h2, _⟩ := D.ex
  cases q : H b with
  | none => rfl
  | some u =>
    by_cases e1 : b = d
    · rw [e1, h1] at h; cases h
    · by_cases e2 : b = l
      · rw [e2, h2] at h; cases h
      · rw [o b u q e1 e2] at h; cases h

/-! ### _law_pick -/
def spPick (K : PySem.W.Frag) : Sp := fun vs H Q _ => ∃ (d l a : Addr) (xs : List V) (k : Nat), vs = [.ref d, .ref a] ∧ DeckAt H d l k ∧ H a = some (.lst xs) ∧ a ≠ l ∧ 0 < xs.length ∧ xs.length < 1000000 ∧ k < 1000000000 ∧
  ∀ (v : V) (H' : Hp), v ∈ xs → DeckAt H' d l (k + 1) → Off d l H H' → Q v H'
section
variable {P : Program} {w : World} {K : PySem.W.Frag} {mg : Str → Option Value} {base : Heap}
theorem sc__law_pick : FnScope ["_law_deck_here", "_law_some"] ["_law_deck_here", "_law_some"] (defScope s__law_pick) := ⟨rfl, rfl, rfl, by decide +kernel, rfl, by decide +kernel, by decide +kernel⟩
theorem ok__law_pick (B : Bi mg) (f : FnF K mg "_law_pick" "_law_pick" s__law_pick) (fd : FnF K mg "_law_draw" "_law_draw" s__law_draw) : FnOk P w K mg base CX0 2 f.a f.d ["_law_deck_here", "_law_some"] (spPick K) := by
  have G := ok__law_draw (P := P) (w := w) (base := base) B fd
  have bd : Binds K fd.d ["_law_deck_here", "_law_many"] [] := fd.F.binds fun _ _ _ _ _ _ us hl => match us, hl with | [_, _], _ => rfl
  refine f.F.ok sc__law_pick (fun vs H Q E h => ?_) (fun cdv A outer s H vs Q E hr h => ?_)
  · obtain ⟨d, l, a, xs, k, rfl, _⟩ := h
    rfl
  · obtain ⟨d, l, a, xs, k, rfl, D, ha, nal, h0, h1, hk, q⟩ := h
    refine ⟨_, (pss_one
      (ps_ret (pe_ix ix_list (pv 1) (pe_call G hr rfl fd.g fd.F.kp bd .nil pass0 (pa_cons (pv 0) (pa_cons (pe_callB call_len (by rfl) B.n_len (by decide +kernel) (pa_cons (pv 1) pa_nil)) pa_nil))) (fun _ _ => rfl)))), ?_⟩
    refine ⟨_, rfl, _, rfl, _, rfl, .ref a, xs.length, rfl, Or.inl ⟨xs, SqL.of ha, rfl⟩, d, l, (xs.length : Int), k, rfl, D, by omega, by omega, hk, fun i H' i0 i1 D' o' => ?_⟩
    have nad : a ≠ d := by
      obtain ⟨cs, m, n, hd, _⟩ := D.ex
      exact ne_of ha hd (by intro z; cases z)
    have hi : i.toNat < xs.length := by omega
    have hx : xs[i.toNat]? = some xs[i.toNat] := List.getElem?_eq_getElem hi
    exact ⟨a, xs, i, xs[i.toNat], rfl, rfl, SqL.of (o' a _ ha nad nal), at_of (j := i.toNat) (by omega) hx, q _ H' (List.getElem_mem hi) D' o'⟩

end
end K01
/-! Drawn words: distinct names, ascending. -/
namespace K01
open PySem PySem.Spec PyProof.Rows L2 KG KS KA
abbrev s__law_words : Stmt := top 22
abbrev poolText : Str := "b d dd one two three cut full product row zzzzzzzy zzzzzzzz"
def pool : List Str := Txt.split poolText " "
theorem pool_len : pool.length = 12 := by decide +kernel
theorem pool_ok : ∀ x ∈ pool, nameOk x = true := by decide +kernel
theorem pool_nd : pool.Nodup := by decide +kernel
theorem rising_asc : ∀ (l : List Str) (p : Str), risingS p l = true → (p :: l).Nodup → AscT (p :: l)
  | [], p, _, _ => List.pairwise_singleton _ _
  | x :: r, p, h, nd => by
    have h1 : (!ltCps x.cps.toList p.cps.toList && risingS x r) = true := h
    rw [Bool.and_eq_true] at h1
    have nd2 := (List.nodup_cons.mp nd).2
    have ne : p ≠ x := fun e => (List.nodup_cons.mp nd).1 (by rw [e]; exact List.mem_cons_self)
    have ih := rising_asc r x h1.2 nd2
    have lt : ltT p x = true := by
      cases e : ltT p x with
      | true => rfl
      | false =>
        refine absurd (ltT_total e ?_) ne
        have z : W.dataLt (.str x) (.str p) = ltCps x.cps.toList p.cps.toList := (W.dataLt_str _ _).trans (lt_meets _ _)
        show W.dataLt (.str x) (.str p) = false
        rw [z]
        simpa using h1.1
    refine List.pairwise_cons.mpr ⟨fun y hy => ?_, ih⟩
    rcases List.mem_cons.mp hy with e | hy
    · rw [e]
      exact lt
    · exact lex_trans _ _ _ lt (List.rel_of_pairwise_cons ih hy)
theorem sorted_asc {l : List Str} (h : sortedS l = true) (nd : l.Nodup) : AscT l := by
  cases l with
  | nil => exact .nil
  | cons x r => exact rising_asc r x h nd
theorem erase_map {α β : Type} (f : α → β) (xs : List α) (k : Nat) : (xs.map f).eraseIdx k = (xs.eraseIdx k).map f := by
  rw [List.eraseIdx_eq_take_drop_succ, List.eraseIdx_eq_take_drop_succ, List.map_append, List.map_take, List.map_drop]
theorem erase_perm {α : Type} {xs ys : List α} {k : Nat} (h : k < xs.length) : (xs.eraseIdx k ++ (ys ++ [xs[k]])).Perm (xs ++ ys) := by
  have e : xs = xs.take k ++ xs[k] :: xs.drop (k + 1) := by rw [List.getElem_cons_drop, List.take_append_drop]
  have p1 : (xs ++ ys).Perm (xs[k] :: (xs.eraseIdx k) ++ ys) := by
    rw [List.eraseIdx_eq_take_drop_succ]
    have p2 : xs.Perm (xs[k] :: (xs.take k ++ xs.drop (k + 1))) := (List.Perm.of_eq e).trans List.perm_middle
    exact p2.append_right ys
  refine List.Perm.trans ?_ p1.symm
  rw [← List.append_assoc]
  exact List.perm_append_comm
/-- so many distinct names, ascending -/
def spWords : Sp := fun vs H Q _ => ∃ (d l : Addr) (m k : Nat), vs = [.ref d, .int (m : Nat)] ∧ DeckAt H d l k ∧ m ≤ 12 ∧ k + m < 1000000000 ∧
  ∀ (p : Addr) (ds : List Str) (H' : Hp), H p = none → DeckAt H' d l (k + m) → Off d l H H' → H' p = some (.tup (ds.map V.str)) → ds.length = m → (∀ x ∈ ds, x ∈ pool) → AscT ds → Q (.ref p) H'
section
variable {P : Program} {w : World} {K : PySem.W.Frag} {mg : Str → Option Value} {base : Heap}
theorem sc__law_words : FnScope ["_law_deck_here", "_law_many", "_law_left", "_law_got", "_law_k"] ["_law_deck_here", "_law_many"] (defScope s__law_words) := ⟨rfl, rfl, rfl, by decide +kernel, rfl, by decide +kernel, by decide +kernel⟩
theorem ok__law_words (B : Bs mg) (f : FnF K mg "_law_words" "_law_words" s__law_words) (fd : FnF K mg "_law_draw" "_law_draw" s__law_draw) : FnOk P w K mg base CX0 2 f.a f.d ["_law_deck_here", "_law_many"] spWords := by
  have G := ok__law_draw (P := P) (w := w) (base := base) B.toBi fd
  have bd : Binds K fd.d ["_law_deck_here", "_law_many"] [] := fd.F.binds fun _ _ _ _ _ _ us hl => match us, hl with | [_, _], _ => rfl
  refine f.F.ok sc__law_words (fun vs H Q E h => ?_) (fun cdv A outer s H vs Q E hr h => ?_)
  · obtain ⟨d, l, m, k, rfl, _⟩ := h
    rfl
  · obtain ⟨d, l, m, k, rfl, D, hm, hk, q⟩ := h
    have hr1 : Room 1 _ := hr.mono (by omega)
    refine ⟨_, (pss_cons
      (ps_par (i := 2) (j := 3) (by rfl) sc__law_words.nd rfl rfl (by decide) rfl rfl (pa_cons (pe_split pe_str pe_str) (pa_cons (pe_lst pa_nil) pa_nil)) (by rfl))
    (pss_cons
      (ps_for PassesOwn.never rfl (pi_range1 rfl B.n_range (pa_cons (pv 1) pa_nil)) (pg_name (i := 4) sc__law_words.nd rfl (Or.inl rfl))
        (pss_one
          (ps_expr (pe_bm PySem.F.plainAttrs_list PySem.F.slot_list_append PySem.F.type_list_append mt_append (pv 3) (pa_cons (pe_bm PySem.F.plainAttrs_list PySem.F.slot_list_pop PySem.F.type_list_pop mt_popAt (pv 2) (pa_cons (pe_call G hr1 rfl fd.g fd.F.kp bd .nil pass0 (pa_cons (pv 0) (pa_cons (pe_callB call_len (by rfl) B.n_len (by decide +kernel) (pa_cons (pv 2) pa_nil)) pa_nil))) pa_nil)) pa_nil)))))
    (pss_one
      (ps_ret (pe_callTy call_tuple_of (by rfl) B.n_tuple (by decide +kernel) (pa_cons (pe_callB cr_sortedS (by rfl) B.n_sorted (by decide +kernel) (pa_cons (pv 3) pa_nil)) pa_nil)))))), ?_⟩
    refine ⟨⟨_, rfl⟩, _, _, rfl, rfl, by decide +kernel, by rw [sizeLine_eq]; decide +kernel, fun L hL => ⟨by show 0 ≤ sizeLine; exact Nat.zero_le _, fun g hg => ?_⟩⟩
    obtain ⟨cs0, mm0, n0, hd0, hl0, _⟩ := D.ex
    have nLd : L ≠ d := (ne_of_none hd0 hL).symm
    have nLl : L ≠ l := (ne_of_none hl0 hL).symm
    have nLg : L ≠ g := ne_of_none upd_same hg
    have gH : H g = none := by rw [upd_ne nLg.symm] at hg; exact hg
    have ngd : g ≠ d := (ne_of_none hd0 gH).symm
    have ngl : g ≠ l := (ne_of_none hl0 gH).symm
    have e0 : Same H (upd (upd H L (.lst ((Txt.split poolText " ").map V.str))) g (.lst [])) := same_trans (same_new hL) (same_new hg)
    refine ⟨_, _, rfl, _, rfl, (m : Int), rfl, by omega, by omega, ?_⟩
    refine for_range (lo := 0) (n := ((m : Nat) : Int).toNat) (fun i σ H' => ∃ (left got : List Str) (v4 : Option V), σ = [some (.ref d), some (.int (m : Nat)), some (.ref L), some (.ref g), v4] ∧ DeckAt H' d l (k + i) ∧ Off d l H H' ∧
        H' L = some (.lst (left.map V.str)) ∧ H' g = some (.lst (got.map V.str)) ∧ (left ++ got).Perm pool ∧ got.length = i)
      ⟨pool, [], none, rfl, D.same e0, Off.of e0, by rw [upd_ne nLg, upd_same]; rfl, upd_same, by rw [List.append_nil], rfl⟩ ?_ ?_
    · rintro i σ H1 hi ⟨left, got, v4, rfl, D1, o1, hL1, hg1, pm, hgl⟩
      have hi2 : i < m := by simpa using hi
      have pl := pm.length_eq
      rw [List.length_append, pool_len] at pl
      refine ⟨_, rfl, Or.inl ⟨rfl, _, SqL.of hg1⟩, _, rfl, Or.inl ⟨rfl, _, SqL.of hL1⟩, _, rfl, _, rfl, .ref L, left.length, rfl, Or.inl ⟨left.map V.str, SqL.of hL1, by rw [List.length_map]⟩, d, l, (left.length : Int), k + i, rfl, D1, by omega, by omega, by omega, fun j H2 j0 j1 D2 o2 => ?_⟩
      have jl : j.toNat < left.length := by omega
      have hL2 := o2 L _ hL1 nLd nLl
      have hg2 := o2 g _ hg1 ngd ngl
      have hx : (left.map V.str)[j.toNat]? = some (V.str left[j.toNat]) := by rw [List.getElem?_map, List.getElem?_eq_getElem jl]; rfl
      refine ⟨L, left.map V.str, j, j.toNat, _, rfl, rfl, hL2, by omega, by omega, ?_, hx, g, got.map V.str, _, rfl, rfl, by rw [upd_ne nLg.symm]; exact hg2, by rw [List.length_map, sizeLine_eq]; omega, ?_⟩
      · unfold seqIndex?
        have n1 : ¬ j < 0 := by omega
        rw [List.length_map]
        simp [n1, j0, j1]
      · refine ⟨left.eraseIdx j.toNat, got ++ [left[j.toNat]], _, rfl, ?_, ?_, ?_, ?_, ?_, by rw [List.length_append, hgl]; rfl⟩
        · obtain ⟨cs, mm, n, h1, h2, h3⟩ := D2.ex
          exact ⟨cs, mm, n, by rw [upd_ne ngd.symm, upd_ne nLd.symm]; exact h1, by rw [upd_ne ngl.symm, upd_ne nLl.symm]; exact h2, h3.1, h3.2.1, h3.2.2.1, by omega⟩
        · intro b u hb n1 n2
          have z := o2 b u (o1 b u hb n1 n2) n1 n2
          rw [upd_ne (ne_of_none hb gH), upd_ne (ne_of_none hb hL)]
          exact z
        · rw [upd_ne nLg, upd_same, erase_map]
        · rw [upd_same, List.map_append]
          rfl
        · exact (erase_perm jl).trans pm
    · rintro σ H1 ⟨left, got, v4, rfl, D1, o1, hL1, hg1, pm, hgl⟩
      have hm2 : got.length = m := by simpa using hgl
      have nd : got.Nodup := ((pm.nodup_iff).mpr pool_nd).sublist (List.sublist_append_right _ _)
      refine ⟨_, rfl, g, got, rfl, SqL.of hg1, by omega, fun ys p pm2 so hp => ⟨p, ys.map V.str, rfl, .inl ⟨SqL.of upd_same, fun t ht => ?_⟩⟩⟩
      have e2 : Same H1 (upd (upd H1 p (.lst (ys.map V.str))) t (.tup (ys.map V.str))) := same_trans (same_new hp) (same_new ht)
      have pm3 := pm2

      refine q t ys _ ?_ (D1.same e2 |>.up (by simp)) (o1.trans (Off.of e2)) upd_same (by rw [pm2.length_eq, hm2]) (fun x hx => pm.mem_iff.mp (List.mem_append_right _ (pm2.mem_iff.mp hx))) (sorted_asc so (pm2.nodup_iff.mpr nd))
      exact D1.back o1 ((same_new hp).free ht)
end
end K01
/-! All rows of so many words. -/
namespace K01
open PySem PySem.Spec PyProof.Rows L2 KG KS KA
theorem each_app {α β : Type} {R : α → β → Prop} : ∀ {as cs : List α} {bs ds : List β}, W.EachIs R as bs → W.EachIs R cs ds → W.EachIs R (as ++ cs) (bs ++ ds)
  | _, _, _, _, .nil, k => k
  | _, _, _, _, .cons h t, k => .cons h (each_app t k)
/-- all rows of n texts -/
def allR (n : Nat) (ds : List Str) : List (List Str) := prods (List.replicate n ds)
theorem allR_succ (n : Nat) (ds : List Str) : allR (n + 1) ds = step (allR n ds) ds := by
  unfold allR prods
  rw [List.replicate_succ', List.foldl_append]
  rfl
theorem allR_len : ∀ (n : Nat) (ds : List Str), (allR n ds).length = ds.length ^ n
  | 0, _ => rfl
  | n + 1, ds => by rw [allR_succ, step_len, allR_len n ds, Nat.pow_succ]
theorem allR_le {n : Nat} {ds : List Str} (h : n ≤ 3) (k : ds.length ≤ 3) : (allR n ds).length ≤ 27 := by
  rw [allR_len]
  calc ds.length ^ n ≤ 3 ^ n := Nat.pow_le_pow_left k n
    _ ≤ 3 ^ 3 := Nat.pow_le_pow_right (by decide) h
theorem allR_row {n : Nat} {ds r : List Str} (h : r ∈ allR n ds) : r.length = n := by
  have z := rows_len [] [[]] 0 (by simp) (List.replicate n ds) (List.Sublist.refl _) r h
  rw [List.length_replicate] at z
  omega
section
variable {P : Program} {w : World} {K : PySem.W.Frag} {mg : Str → Option Value} {base : Heap}
end
end K01
/-! Some of all rows. -/
namespace K01
open PySem PySem.Spec PyProof.Rows L2 KG KS KA
theorem RowsAt.off {H H' : Hp} {d l : Addr} {k : Nat} {vs : List V} {R : List (List Str)} (h : RowsAt H vs R) (D : DeckAt H d l k) (o : Off d l H H') : RowsAt H' vs R := by
  obtain ⟨cs, m, n, h1, h2, _⟩ := D.ex
  exact each_and h fun v ts _ ⟨a, e1, e2⟩ => ⟨a, e1, o _ _ e2 (ne_of e2 h1 (by intro z; cases z)) (ne_of e2 h2 (by intro z; cases z))⟩
theorem DeckAt.ne {H : Hp} {d l p : Addr} {k : Nat} (D : DeckAt H d l k) (h : H p = none) : p ≠ d ∧ p ≠ l := by
  obtain ⟨cs, m, n, h1, h2, _⟩ := D.ex
  exact ⟨(ne_of_none h1 h).symm, (ne_of_none h2 h).symm⟩
theorem at_end {α : Type} {xs : List α} (h : 1 ≤ xs.length) {j : Int} (j0 : 0 ≤ j) (j2 : j < 2) : ∃ v, atI xs (j - 1) = some v ∧ v ∈ xs := by
  have ne : xs ≠ [] := by rintro rfl; simp at h
  by_cases c : j = 0
  · subst c
    refine ⟨xs.getLast ne, ?_, List.getLast_mem ne⟩
    have z := atI_last xs.dropLast (xs.getLast ne)
    rw [List.dropLast_concat_getLast] at z
    exact z
  · obtain rfl : j = 1 := by omega
    exact ⟨xs[0], atI_nat (j := 0) (List.getElem?_eq_getElem h), List.getElem_mem _⟩
theorem sub_more {α : Type} {R E : List α} {i : Nat} {r : α} (h : R.Sublist (E.take i)) (e : E[i]? = some r) : (R ++ [r]).Sublist (E.take (i + 1)) := by
  rw [take_next e]
  exact h.append (List.Sublist.refl _)
theorem sub_skip {α : Type} {R E : List α} {i : Nat} (h : R.Sublist (E.take i)) : R.Sublist (E.take (i + 1)) := by
  refine h.trans ?_
  rw [List.take_add_one]
  exact List.sublist_append_left _ _
section
variable {P : Program} {w : World} {K : PySem.W.Frag} {mg : Str → Option Value} {base : Heap}
end
end K01
/-! Tables as data: how long their texts are; which rows a product has. -/
namespace K01
open PySem PySem.Spec PyProof.Rows L2 KG KS KA
theorem mem_fold : ∀ (cols : List (List Str)) (R : List (List Str)) (q s : List Str), q ∈ R → s.length = cols.length → (∀ (i : Nat) c x, cols[i]? = some c → s[i]? = some x → x ∈ c) → q ++ s ∈ cols.foldl step R
  | [], R, q, s, h, l, _ => by
    have e : s = [] := List.length_eq_zero_iff.mp l
    rw [e, List.append_nil]
    exact h
  | c :: cols, R, q, s, h, l, k => by
    cases s with
    | nil => cases l
    | cons y s =>
      have z : (q ++ [y]) ++ s ∈ cols.foldl step (step R c) := mem_fold cols (step R c) (q ++ [y]) s (List.mem_flatMap.mpr ⟨q, h, List.mem_map.mpr ⟨y, k 0 c y rfl rfl, rfl⟩⟩) (Nat.succ.inj l) fun i c x h1 h2 => k (i + 1) c x h1 h2
      rw [List.append_assoc] at z
      exact z
theorem mem_prods {cols : List (List Str)} {s : List Str} (l : s.length = cols.length) (k : ∀ (i : Nat) c x, cols[i]? = some c → s[i]? = some x → x ∈ c) : s ∈ prods cols := mem_fold cols [[]] [] s List.mem_cons_self l k
theorem mem_allR {n : Nat} {ds s : List Str} (l : s.length = n) (k : ∀ x ∈ s, x ∈ ds) : s ∈ allR n ds := mem_prods (by rw [List.length_replicate, l]) fun i c x h1 h2 => by
  have e : c = ds := List.eq_of_mem_replicate (List.mem_of_getElem? h1)
  rw [e]
  exact k x (List.mem_of_getElem? h2)
theorem allR_asc {n : Nat} {ds : List Str} (h : AscT ds) : Asc (allR n ds) := prods_asc (List.replicate n ds) [[]] 0 (List.pairwise_singleton _ _) (by simp) fun c hc => by
  rw [List.eq_of_mem_replicate hc]
  exact h
theorem prods_asc0 {cols : List (List Str)} (h : ∀ c ∈ cols, AscT c) : Asc (prods cols) := prods_asc cols [[]] 0 (List.pairwise_singleton _ _) (by simp) h
theorem fold_len : ∀ (cols R : List (List Str)), (cols.foldl step R).length = cols.foldl (fun k c => k * c.length) R.length
  | [], _ => rfl
  | c :: cols, R => by
    show ((cols.foldl step (step R c)).length) = cols.foldl (fun k c => k * c.length) (R.length * c.length)
    rw [fold_len cols, step_len]
theorem prods_len (cols : List (List Str)) : (prods cols).length = cols.foldl (fun k c => k * c.length) 1 := fold_len cols [[]]
theorem cols_sub {R cols : List (List Str)} {n : Nat} (h : ColsOf R n cols) (len : ∀ r ∈ R, r.length = n) : ∀ r ∈ R, r ∈ prods cols := fun r hr => mem_prods (by rw [len r hr, h.1]) fun i c x h1 h2 => ((h.2 i c h1).2 x).mpr ⟨r, hr, h2⟩
theorem cols_asc {R cols : List (List Str)} {n : Nat} (h : ColsOf R n cols) : Asc (prods cols) := prods_asc0 fun c hc => by
  obtain ⟨i, hi⟩ := List.getElem?_of_mem hc
  exact (h.2 i c hi).1
/-! texts -/
theorem name_cost {x : Str} (h : nameOk x = true) : cost (.str x) ≤ 82 := by
  unfold nameOk at h
  simp only [Bool.and_eq_true, decide_eq_true_eq] at h
  have a := h.2.1
  unfold Txt.isascii at a
  rw [Array.all_eq_true] at a
  have z := StrLaws.reprText_len x fun c hc => by
    obtain ⟨i, hi⟩ := List.getElem?_of_mem hc
    have hl : i < x.cps.size := by
      have := (List.getElem?_eq_some_iff.mp hi).1
      simpa using this
    have e : x.cps[i] = c := by
      have := (List.getElem?_eq_some_iff.mp hi).2
      simpa using this
    have b := of_decide_eq_true (a i hl)
    rw [e] at b
    exact Nat.lt_trans b (by decide)
  show (reprText x).length ≤ 82
  omega
theorem texts_cost : ∀ {xs : List Str}, (∀ x ∈ xs, nameOk x = true) → costAll (xs.map PyData.str) ≤ 84 * xs.length
  | [], _ => Nat.zero_le _
  | x :: xs, h => by
    have a := name_cost (h x List.mem_cons_self)
    have b := texts_cost fun y hy => h y (List.mem_cons_of_mem _ hy)
    show cost (.str x) + 2 + costAll (xs.map PyData.str) ≤ 84 * (xs.length + 1)
    omega
theorem rows_cost {n : Nat} : ∀ {R : List (List Str)}, (∀ r ∈ R, r.length ≤ n ∧ ∀ x ∈ r, nameOk x = true) → costAll (R.map txd) ≤ (84 * n + 8) * R.length
  | [], _ => Nat.zero_le _
  | r :: R, h => by
    have hr := h r List.mem_cons_self
    have a := texts_cost hr.2
    have b := rows_cost (n := n) fun y hy => h y (List.mem_cons_of_mem _ hy)
    show (costAll (r.map PyData.str) + 6) + 2 + costAll (R.map txd) ≤ (84 * n + 8) * (R.length + 1)
    have c : 84 * r.length ≤ 84 * n := Nat.mul_le_mul_left _ hr.1
    rw [Nat.mul_succ]
    omega
theorem texts_show : ∀ xs : List Str, PyData.showableAll (xs.map PyData.str) = true
  | [] => rfl
  | x :: xs => by
    show (true && PyData.showableAll (xs.map PyData.str)) = true
    rw [texts_show xs]
    rfl
theorem rows_show : ∀ R : List (List Str), PyData.showableAll (R.map txd) = true
  | [] => rfl
  | r :: R => by
    show (PyData.showableAll (r.map PyData.str) && PyData.showableAll (R.map txd)) = true
    rw [texts_show r, rows_show R]
    rfl
theorem texts_depth : ∀ xs : List Str, PyData.depthAll (xs.map PyData.str) ≤ 1
  | [] => by decide
  | x :: xs => by
    simp only [List.map_cons, PyData.depthAll, PyData.depth]
    have := texts_depth xs
    omega
theorem rows_depth : ∀ R : List (List Str), PyData.depthAll (R.map txd) ≤ 2
  | [] => by decide
  | r :: R => by
    simp only [List.map_cons, PyData.depthAll]
    have h1 := rows_depth R
    have h2 := texts_depth r
    have h3 : (txd r).depth ≤ 2 := by
      simp only [txd, PyData.depth]
      omega
    omega
theorem texts_dq {Z : Addr → Prop} {H : Hp} : ∀ xs : List Str, DqAll Z H (xs.map V.str) (xs.map PyData.str)
  | [] => .nil
  | x :: xs => .cons (.str x) (texts_dq xs)
theorem rows_dq {H : Hp} : ∀ {vs : List V} {R : List (List Str)}, RowsAt H vs R → DqAll (fun _ => True) H vs (R.map txd)
  | _, _, .nil => .nil
  | _, _, .cons ⟨a, e, h⟩ t => by
    rw [e]
    exact .cons (.tup trivial h (texts_dq _)) (rows_dq t)
/-- what a table holds, as data -/
def tabD (ds : List Str) (n : Nat) (R : List (List Str)) : PyData := .tuple [txd ds, .int (n : Nat), rowsD R]
theorem tabD_fits {ds : List Str} {n : Nat} {R : List (List Str)} (hd : ∀ x ∈ ds, nameOk x = true) (d3 : ds.length ≤ 3) (n3 : n ≤ 3) (hR : ∀ r ∈ R, r.length = n ∧ ∀ x ∈ r, x ∈ ds) (h64 : R.length < 64) :
    (tabD ds n R).showable = true ∧ (tabD ds n R).depth ≤ 60 ∧ (tabD ds n R).shown.length ≤ sizeLine := by
  have hl : (n : Int).natAbs.log2 < 1920 := by
    have : (n : Int).natAbs ≤ 3 := by omega
    have z : (n : Int).natAbs.log2 ≤ (n : Int).natAbs := Nat.log2_le_self _
    omega
  refine ⟨?_, ?_, ?_⟩
  · show (PyData.showableAll (ds.map PyData.str) && (decide ((n : Int).natAbs.log2 < 1920) && (PyData.showableAll (R.map txd) && true))) = true
    rw [texts_show, rows_show, decide_eq_true hl]
    rfl
  · have h1 := texts_depth ds
    have h2 := rows_depth R
    simp only [tabD, txd, rowsD, PyData.depth, PyData.depthAll] at *
    omega
  · refine Nat.le_trans (shown_cost _) ?_
    have h1 := texts_cost hd
    have h2 := rows_cost (n := 3) (R := R) fun r hr => ⟨by rw [(hR r hr).1]; exact n3, fun x hx => hd x ((hR r hr).2 x hx)⟩
    have z : (n : Int).natAbs.log2 ≤ (n : Int).natAbs := Nat.log2_le_self _
    show (costAll (ds.map PyData.str) + 6) + 2 + (((n : Int).natAbs.log2 + 3) + 2 + ((costAll (R.map txd) + 6) + 2 + 0)) + 6 ≤ sizeLine
    rw [sizeLine_eq]
    omega
end K01
/-! Whether a table holds these rows. -/
namespace K01
open PySem PySem.Spec PyProof.Rows L2 KG KS KA
/-- a table at t -/
structure TabAt (C : Addr) (H : Hp) (t : Addr) (ds : List Str) (n : Nat) (R : List (List Str)) : Prop where
  ex : ∃ (dx d p : Addr) (rs : List V) (cols : List (List Str)), H t = some (.ins C dx (tabFs d p n (decide (R = allR n ds)) (decide (R = prods cols)))) ∧ H d = some (.tup (ds.map V.str)) ∧ H p = some (.tup rs) ∧ RowsAt H rs R ∧ ColsOf R n cols
  asc : Asc R
  row : ∀ r ∈ R, r.length = n ∧ ∀ x ∈ r, x ∈ ds
  h64 : R.length < 64
  dom : AscT ds ∧ (∀ x ∈ ds, nameOk x = true) ∧ 1 ≤ ds.length ∧ ds.length ≤ 3 ∧ 1 ≤ n ∧ n ≤ 3
theorem TabAt.up {C : Addr} {H H' : Hp} {t : Addr} {ds : List Str} {n : Nat} {R : List (List Str)} (T : TabAt C H t ds n R) (e : Same H H') : TabAt C H' t ds n R := by
  obtain ⟨dx, d, p, rs, cols, h1, h2, h3, h4, h5⟩ := T.ex
  exact ⟨⟨dx, d, p, rs, cols, e _ _ h1, e _ _ h2, e _ _ h3, h4.up e, h5⟩, T.asc, T.row, T.h64, T.dom⟩
section
variable {P : Program} {w : World} {K : PySem.W.Frag} {mg : Str → Option Value} {base : Heap}
theorem okN {f : Addr} {fd : FuncData} {ps : List Str} {sp : Sp} {k : Nat} {x qual : Str} {st : Stmt} {N : List Str} (F : Fun K x qual st f fd) (S : FnScope N ps (defScope st)) (len : ∀ vs H Q E, sp vs H Q E → vs.length = ps.length)
    (body : ∀ (cdv : Value) (A : Around) (outer : List Env) (s : Shared) (H : Hp) (vs : List V) (Q : VK) (E : XK),
      (A.deeper (envOfC qual (defScope st) s.heap.objs.size f cdv)).guards = some [] → Room k (A.deeper (envOfC qual (defScope st) s.heap.objs.size f cdv)) → sp vs H Q E →
      ∃ t, PSs (cxOf CX0 P w K mg base N qual (defScope st) f cdv A outer s H E).nox (defBody st) t ∧ t { nx := fun _ H' => Q .non H', rt := Q } (L2.start N vs) H) :
    FnG P w K mg base CX0 (k + 1) f fd ps sp := okG F S len fun cdv A outer s H vs Q E g hr h => by
  obtain ⟨t, h1, h2⟩ := body cdv A outer s H vs Q E g hr h
  exact ⟨t, h1.nox, h2⟩
end
end K01
/-! row in rows; tables that are alike. -/
namespace K01
open PySem PySem.Spec PyProof.Rows L2 KG KS KA
section
variable {X : Cx}
theorem texts_plain : ∀ xs : List Str, PyData.plainAll (xs.map PyData.str) = true
  | [] => rfl
  | x :: xs => by
    show (true && PyData.plainAll (xs.map PyData.str)) = true
    rw [texts_plain xs]
    rfl
theorem rows_plain : ∀ R : List (List Str), PyData.plainAll (R.map txd) = true
  | [] => rfl
  | r :: R => by
    show (PyData.plainAll (r.map PyData.str) && PyData.plainAll (R.map txd)) = true
    rw [texts_plain r, rows_plain R]
    rfl
theorem any_rows (r : List Str) : ∀ R : List (List Str), ((R.map txd).any fun y => PyData.eqv y (txd r)) = decide (r ∈ R)
  | [] => rfl
  | q :: R => by
    rw [List.map_cons, List.any_cons, any_rows r R, eqv_row]
    by_cases e : q = r
    · simp [e]
    · have e2 : r ≠ q := fun z => e z.symm
      simp [e, e2]
def rInRows (K : PySem.W.Frag) : R2 := fun x y H Q => ∃ (r : List Str) (R : List (List Str)), Dp K H x (txd r) ∧ Dp K H y (rowsD R) ∧ Q (.bl (decide (r ∈ R))) H
def rOutRows (K : PySem.W.Frag) : R2 := fun x y H Q => ∃ (r : List Str) (R : List (List Str)), Dp K H x (txd r) ∧ Dp K H y (rowsD R) ∧ Q (.bl (!decide (r ∈ R))) H
theorem row_room {r : List Str} {n m : Nat} (h : n + 64 < m) (k : Nat) : n + 1 + min k (txd r).depth < m := by
  have a := texts_depth r
  have b : (txd r).depth ≤ 2 := by
    simp only [txd, PyData.depth]
    omega
  have c := Nat.min_le_right k (txd r).depth
  omega
theorem op_inRows (hu : X.A.units + 64 < cLine) : OpR X (compareOp .In) (rInRows X.K) := by
  intro pins s σ H x y v u Q I rx ry h
  obtain ⟨r, R, hd, he, q⟩ := h
  obtain ⟨as, r1⟩ := Dp.reads I (txd r) x v hd rx
  obtain ⟨bs, r2⟩ := Dp.reads I (rowsD R) y u he ry
  refine SeqAt.in_tuple_data r2 r1 (rows_plain R) (texts_plain r) (row_room hu _) ?_
  rw [any_rows]
  exact ⟨.bl _, H, I, rfl, q⟩
theorem op_outRows (hu : X.A.units + 64 < cLine) : OpR X (compareOp .NotIn) (rOutRows X.K) := by
  intro pins s σ H x y v u Q I rx ry h
  obtain ⟨r, R, hd, he, q⟩ := h
  obtain ⟨as, r1⟩ := Dp.reads I (txd r) x v hd rx
  obtain ⟨bs, r2⟩ := Dp.reads I (rowsD R) y u he ry
  refine SeqAt.notIn_tuple_data r2 r1 (rows_plain R) (texts_plain r) (row_room hu _) ?_
  rw [any_rows]
  exact ⟨.bl _, H, I, rfl, q⟩
end
abbrev s_check_alike : Stmt := top 17
/-- check_alike(x, y) of tables that are alike -/
def spAlike (C : Addr) : Sp := fun vs H Q _ => ∃ (x y : Addr) (ds : List Str) (n : Nat) (R S : List (List Str)), vs = [.ref x, .ref y] ∧ TabAt C H x ds n R ∧ TabAt C H y ds n S ∧ Q .non H
section
variable {P : Program} {w : World} {K : PySem.W.Frag} {mg : Str → Option Value} {base : Heap}
theorem sc_check_alike : FnScope ["table", "other"] ["table", "other"] (defScope s_check_alike) := ⟨rfl, rfl, rfl, by decide +kernel, rfl, by decide +kernel, by decide +kernel⟩
theorem ok_check_alike {it : Addr} (B : Bs mg) (T : TabC K mg it) (J : C8.InsC K T.C) (f : FnF K mg "check_alike" "check_alike" s_check_alike) : FnOk P w K mg base CX0 1 f.a f.d ["table", "other"] (spAlike T.C) := by
  refine f.F.ok sc_check_alike (fun vs H Q E h => ?_) (fun cdv A outer s H vs Q E hr h => ?_)
  · obtain ⟨x, y, ds, n, R, S, rfl, _⟩ := h
    rfl
  · obtain ⟨x, y, ds, n, R, S, rfl, TX, TY, q⟩ := h
    have hu64 := hr.units
    refine ⟨_, (pss_one
      (ps_if (PW.pt (pw_or (pt_not (pt_val (pe_callB (C8.call_isC J) (by rfl) B.n_isinstance (by decide +kernel) (pa_cons (pv 1) (pa_cons (pe_glob (v := .ref T.C) rfl T.g rfl) pa_nil))))) (pw_or (pt_cmpR (op_neD hu64) (pe_fld (pv 0) rfl) (pe_fld (pv 1) rfl) (nomark _)) (pw_or1 (pt_cmpR op_ne (pe_fld (pv 0) rfl) (pe_fld (pv 1) rfl) (nomark _))))))
        (pss_one
          ps_dead)
        pss_nil)), ?_⟩
    obtain ⟨dx, d, p, rs, cols, ht, hd, hp, hR, hC⟩ := TX.ex
    obtain ⟨dx2, d2, p2, rs2, cols2, ht2, hd2, hp2, hR2, hC2⟩ := TY.ex
    have ok := TX.dom.2.1
    have sh : SeqAt.shaped (txd ds) = true := txd_shaped fun x hx => name_strOk (ok x hx)
    refine ⟨_, rfl, y, dx2, _, rfl, ht2, true, rfl, ?_⟩
    refine iteF ⟨_, rfl, x, T.C, dx, _, _, rfl, ht, T.cl, T.nd, rfl, _, rfl, y, T.C, dx2, _, _, rfl, ht2, T.cl, T.nd, rfl, txd ds, txd ds, .tup (SqT.of hd) (texts_dp _), .tup (SqT.of hd2) (texts_dp _), sh, sh, _, rfl, ?_⟩
    rw [eqv_row, decide_eq_true rfl]
    refine iteF ⟨_, rfl, x, T.C, dx, _, _, rfl, ht, T.cl, T.nw, rfl, _, rfl, y, T.C, dx2, _, _, rfl, ht2, T.cl, T.nw, rfl, rfl, _, rfl, ?_⟩
    rw [decide_eq_true rfl]
    exact iteF q
end
end K01
/-! Tables that operators make. -/
namespace K01
open PySem PySem.Spec PyProof.Rows L2 KG KS KA
theorem TabAt.le {C : Addr} {H : Hp} {t : Addr} {ds : List Str} {n : Nat} {R : List (List Str)} (T : TabAt C H t ds n R) : R.length ≤ 27 := by
  obtain ⟨dasc, dok, d1, d3, n1, n3⟩ := T.dom
  have sub : ∀ r ∈ R, r ∈ allR n ds := fun r hr => mem_allR (T.row r hr).1 (T.row r hr).2
  have lim := allR_le n3 d3
  rcases Nat.le_total R.length (allR n ds).length with h | h
  · omega
  · have := (perm_of_sub R (allR n ds) (asc_nodup T.asc) sub h).length_eq
    omega
theorem iteT' {b : Bool} {p q : Prop} (c : b = true) (h : p) : if b = true then p else q := by rw [if_pos c]; exact h
theorem iteF' {b : Bool} {p q : Prop} (c : ¬ b = true) (h : q) : if b = true then p else q := by rw [if_neg c]; exact h
/-- a table made of rows that stand on the heap -/
theorem make_tab {C : Addr} {H : Hp} {d r : Addr} {ds : List Str} {n : Nat} {rs : List V} {R : List (List Str)} {Q : VK} {E : XK} (hd : H d = some (.tup (ds.map V.str)))
    (dom : AscT ds ∧ (∀ x ∈ ds, nameOk x = true) ∧ 1 ≤ ds.length ∧ ds.length ≤ 3 ∧ 1 ≤ n ∧ n ≤ 3) (hr : H r = some (.tup rs)) (hR : RowsAt H rs R) (row : ∀ q ∈ R, q.length = n ∧ ∀ x ∈ q, x ∈ ds) (h64 : R.length < 64)
    (q : ∀ (o : Addr) (H' : Hp) (R' : List (List Str)), H o = none → Same H H' → TabAt C H' o ds n R' → (∀ row, row ∈ R' ↔ row ∈ R) → Q (.ref o) H') :
    ∀ x dx, H x = none → H dx = none → dx ≠ x → spTab C (.ref x :: ([.ref d, .int (n : Nat), .ref r] ++ [])) (upd (upd H dx (.own x)) x (.ins C dx [])) (fun v H2 => v = .non ∧ Q (.ref x) H2) E := by
  obtain ⟨dasc, dok, d1, d3, n1, n3⟩ := dom
  intro o dx ho hdx nox
  have e5 := same_trans (same_new (o := .own o) hdx) (same_new (o := .ins C dx []) (show upd H dx (.own o) o = none by rw [upd_ne nox.symm]; exact ho))
  refine ⟨o, dx, d, r, n, ds, rs, R, rfl, upd_same, e5 _ _ hd, dok, List.pairwise_map.mpr dasc, d1, d3, n1, n3, e5 _ _ hr, hR.up e5, row, h64, fun H6 pk ks R' cols but hx6 hpk hn hR' mem asc co => ⟨rfl, ?_⟩⟩
  have e6 : Same H H6 := fun b u e => but _ _ (e5 _ _ e) (fun z => by
    rw [z] at e
    rw [e] at ho
    cases ho)
  have row' : ∀ q ∈ R', q.length = n ∧ ∀ x ∈ q, x ∈ ds := fun q hq => row q ((mem q).mp hq)
  refine q o H6 R' ho e6 ⟨⟨dx, d, pk, ks, cols, hx6, e6 _ _ hd, hpk, hR', co⟩, asc, row', ?_, dasc, dok, d1, d3, n1, n3⟩ mem
  rcases Nat.le_total R'.length R.length with h | h
  · omega
  · have := (perm_of_sub R' R (asc_nodup asc) (fun x hx => (mem x).mp hx) h).length_eq
    omega
/-- one step of [row for row in rows if ..] -/
theorem filt_step {H1 H3 : Hp} {D b : Addr} {ac : List V} {R : List (List Str)} {i : Nat} {ts : List Str} (p : List Str → Bool) (hD : H1 D = none) (e : Same H1 H3) (hac : H3 D = some (.lst ac)) (hB : RowsAt H3 ac ((R.take i).filter p))
    (hRi : R[i]? = some ts) (hb : H3 b = some (.tup (ts.map V.str))) (lim : R.length < 100000) :
    if p ts = true then ∃ acc, H3 D = some (.lst acc) ∧ acc.length < sizeLine ∧ ∃ ac', Same H1 (upd H3 D (.lst (acc ++ [V.ref b]))) ∧ upd H3 D (.lst (acc ++ [V.ref b])) D = some (.lst ac') ∧ RowsAt (upd H3 D (.lst (acc ++ [V.ref b]))) ac' ((R.take (i + 1)).filter p)
    else ∃ ac', Same H1 H3 ∧ H3 D = some (.lst ac') ∧ RowsAt H3 ac' ((R.take (i + 1)).filter p) := by
  have la := hB.length
  have l2 : ((R.take i).filter p).length ≤ R.length := Nat.le_trans (List.length_filter_le _ _) (List.take_sublist _ _).length_le
  rw [take_next hRi, List.filter_append]
  by_cases c : p ts = true
  · rw [if_pos c]
    refine ⟨ac, hac, by rw [sizeLine_eq]; omega, ac ++ [V.ref b], same_put hD e, upd_same, ?_⟩
    have hrow := each_snoc hB (show ∃ a, V.ref b = V.ref a ∧ H3 a = some (.tup (ts.map V.str)) from ⟨b, rfl, hb⟩)
    rw [show [ts].filter p = [ts] by simp [c]]
    refine each_and hrow fun v ts _ ⟨b, e6, e7⟩ => ⟨b, e6, ?_⟩
    rw [upd_ne (ne_of e7 hac (by intro z; cases z))]
    exact e7
  · rw [if_neg c, show [ts].filter p = [] by simp [c], List.append_nil]
    exact ⟨ac, e, hac, hB⟩
section
variable {P : Program} {w : World} {K : PySem.W.Frag} {mg : Str → Option Value} {base : Heap}
end
end K01
/-! Lists of rows: row in list, sorted(list), [row for row in list if ..]. -/
namespace K01
open PySem PySem.Spec PyProof.Rows L2 KG KS KA
section
variable {X : Cx}
abbrev rowsDL (R : List (List Str)) : PyData := .list (R.map txd)
def rInRowsL (K : PySem.W.Frag) : R2 := fun x y H Q => ∃ (r : List Str) (R : List (List Str)), Dp K H x (txd r) ∧ Dp K H y (rowsDL R) ∧ Q (.bl (decide (r ∈ R))) H
def rOutRowsL (K : PySem.W.Frag) : R2 := fun x y H Q => ∃ (r : List Str) (R : List (List Str)), Dp K H x (txd r) ∧ Dp K H y (rowsDL R) ∧ Q (.bl (!decide (r ∈ R))) H
theorem op_inRowsL (hu : X.A.units + 64 < cLine) : OpR X (compareOp .In) (rInRowsL X.K) := by
  intro pins s σ H x y v u Q I rx ry h
  obtain ⟨r, R, hd, he, q⟩ := h
  obtain ⟨as, r1⟩ := Dp.reads I (txd r) x v hd rx
  obtain ⟨bs, r2⟩ := Dp.reads I (rowsDL R) y u he ry
  refine SeqAt.in_list_data r2 r1 (rows_plain R) (texts_plain r) (row_room hu _) ?_
  rw [any_rows]
  exact ⟨.bl _, H, I, rfl, q⟩
theorem op_outRowsL (hu : X.A.units + 64 < cLine) : OpR X (compareOp .NotIn) (rOutRowsL X.K) := by
  intro pins s σ H x y v u Q I rx ry h
  obtain ⟨r, R, hd, he, q⟩ := h
  obtain ⟨as, r1⟩ := Dp.reads I (txd r) x v hd rx
  obtain ⟨bs, r2⟩ := Dp.reads I (rowsDL R) y u he ry
  refine SeqAt.notIn_list_data r2 r1 (rows_plain R) (texts_plain r) (row_room hu _) ?_
  rw [any_rows]
  exact ⟨.bl _, H, I, rfl, q⟩
/-- sorted(l) of a list of rows that ascend already: a new list of the same -/
def rSortRows (X : Cx) : List V → Hp → VK → Prop := fun xs H Q => ∃ (a : Addr) (rs : List V) (R : List (List Str)), xs = [V.ref a] ∧ SqL X.K H a rs ∧ RowsAt H rs R ∧ Asc R ∧ R.length < 64 ∧ (∀ r ∈ R, 1 ≤ r.length) ∧
  ∀ p, H p = none → Q (.ref p) (upd H p (.lst rs))
theorem cr_sortRows (hu : X.A.units + 64 < cLine) : CallR X (.builtin "sorted") (rSortRows X) := by
  intro pins s σ H xs us Q I r h
  obtain ⟨a, rs, R, rfl, ha, hR, asc, h64, row1, q⟩ := h
  rw [Vals.ref1 r]
  obtain ⟨its, rv, hl, _⟩ := I.list ha
  obtain ⟨ms, m1, m2, m3⟩ := rows_mem (K := X.K) hR
  have al := rows_al (ms := ms) (R := R) (fun p hp => by obtain ⟨_, ts, h1, h2, _⟩ := m3 p hp; exact ⟨ts, h1, h2⟩) row1
  have ml : ms.length = R.length := by
    have z := congrArg List.length m2
    rw [List.length_map, List.length_map] at z
    exact z
  subst m1
  have bef : ms.Pairwise Bef := by
    have z : (ms.map (·.2)).Pairwise fun k k' => W.dataLt k.data k'.data = true := by
      rw [m2]
      refine List.Pairwise.map kr (fun x y e => ?_) asc
      rw [kr_data, kr_data]
      exact e
    have z2 := List.pairwise_map.mp z
    exact z2
  refine W.sorted_data (vs := its) (R := fun v (p : MemV) => RelV p.1 v) (enc := fun p : MemV => p.2.data) hl.isList (vals_each rv) (each_and (vals_each rv) fun v p hp r0 => ⟨[], (Kv.reads I p.2 p.1 v (m3 p hp).1.1 r0).2⟩) al.1 al.2 (by rw [sizeLine_eq]; omega) (fun p hp => ?_) fun out zo eo => ?_
  · obtain ⟨_, ts, _, e, _⟩ := m3 p hp
    have d1 : p.2.data.depth ≤ 2 := by
      rw [e, kr_data]
      have a := texts_depth ts
      simp only [txd, PyData.depth]
      omega
    omega
  · obtain ⟨c, hc2⟩ := sortedAll_at s.heap its out.toArray
    have pS := List.mergeSort_perm ms (W.dataLe false fun p : MemV => p.2.data)
    have oS : (ms.mergeSort (W.dataLe false fun p : MemV => p.2.data)).Pairwise Aft := by
      refine (W.sort_pairwise (W.sortLe_total _ false _) ms).imp fun {p q} hle => ?_
      have h2 : (!W.dataLt q.2.data p.2.data) = true := hle
      show W.dataLt q.2.data p.2.data = false
      cases e : W.dataLt q.2.data p.2.data with
      | false => rfl
      | true =>
        rw [e] at h2
        cases h2
    have eS : ms.mergeSort (W.dataLe false fun p : MemV => p.2.data) = ms :=
      asc_same bef (fun m hm => pS.mem_iff.mp hm) (fun m hm => List.mem_map.mpr ⟨m, pS.mem_iff.mpr hm, rfl⟩) ((pS.map (·.2)).nodup_iff.mpr (bef_nodup bef)) oS
    rw [eS] at eo
    have rS := each_vals eo
    have len : (ms.map (·.1)).length ≤ sizeLine := by
      rw [List.length_map, sizeLine_eq]
      omega
    exact ⟨.ref _, upd H (s.heap.objs.size + 1) (.lst (ms.map (·.1))), I.laid (t' := s.toks) (fun _ _ => PyProof.Rows.sortedAll_old) (Nat.le_succ _) ⟨len, out, c, rS, by simpa using hc2⟩, rfl, q _ (I.hok.fresh (Nat.le_succ _))⟩
end
/-- [row for row in list if ..] -/
theorem lc_filt {K : PySem.W.Frag} {e : Addr} {es : List V} {E : List (List Str)} {k : Nat} {tt : TT} {vs : List Nat} {σ : L2.St} {H1 : Hp} {D : Addr} {Qd : Hp → Prop} (p : List Str → Bool)
    (hD : H1 D = none) (he : H1 e = some (.lst es)) (hE : RowsAt H1 es E) (lim : E.length < 100000) (hk : k < σ.length) (hv : ∀ v : V, wipe ((wipe σ vs).set k (some v)) vs = wipe σ vs)
    (ht : ∀ (ts : List Str) (b : Addr) (H3 : Hp) (Z : Bool → Hp → Prop), Same H1 H3 → H3 b = some (.tup (ts.map V.str)) → Z (p ts) H3 → tt ((wipe σ vs).set k (some (.ref b))) H3 Z)
    (q : ∀ (ac : List V) (H' : Hp), Same H1 H' → H' D = some (.lst ac) → RowsAt H' ac (E.filter p) → Qd H') :
    ∃ W : Nat → Nat → Hp → Prop, (∃ m, W 0 m (upd H1 D (.lst []))) ∧ ∀ i m H, W i m H →
      ((Itl K e).stop i H ∧ Qd H) ∨ ((Itl K e).go i H ∧ ∃ Nx : Hp → Prop, (∀ H', Nx H' → ∃ m', m' < m ∧ W (i + 1) m' H') ∧ ∀ x H', (Itl K e).yld i H x H' → gName k x (wipe σ vs) H' fun σ2 H2 => wipe σ2 vs = wipe σ vs ∧ tt σ2 H2 fun b H3 =>
        if b = true then tVar k σ2 H3 fun y H4 => ∃ acc, H4 D = some (.lst acc) ∧ acc.length < sizeLine ∧ Nx (upd H4 D (.lst (acc ++ [y]))) else Nx H3) := by
  refine lc_list (K := K) (xs := es) (fun i H' => ∃ ac, Same H1 H' ∧ H' D = some (.lst ac) ∧ RowsAt H' ac ((E.take i).filter p)) ⟨[], same_new hD, upd_same, .nil⟩ (fun i H' _ ⟨_, e1, _⟩ => SqL.of (e1 _ _ he)) ?_ ?_
  · rintro i z H3 hz ⟨ac, e3, hac, hB⟩
    obtain ⟨ts, hEi, b, rfl, hb⟩ := each_get hE hz
    refine ⟨hv _, ht ts b H3 _ e3 (e3 _ _ hb) ?_⟩
    have z := filt_step p hD e3 hac hB hEi (e3 _ _ hb) lim
    show if p ts = true then _ else _
    by_cases c : p ts = true
    · rw [if_pos c] at z ⊢
      obtain ⟨acc, h1, h2, h3⟩ := z
      exact ⟨.ref b, by rw [List.getElem?_set_self (by rw [wipe_length]; exact hk)], acc, h1, h2, h3⟩
    · rw [if_neg c] at z ⊢
      exact z
  · rintro H3 ⟨ac, e3, hac, hB⟩
    rw [hE.length, List.take_length] at hB
    exact q ac H3 e3 hac hB
/-- what a made table holds -/
theorem tab_due {C : Addr} {H : Hp} {o : Addr} {ds : List Str} {n : Nat} {R D : List (List Str)} (T : TabAt C H o ds n R) (hD : Asc D) (m : ∀ row, row ∈ R ↔ row ∈ D) : R = D :=
  asc_eq T.asc hD ((List.perm_ext_iff_of_nodup (asc_nodup T.asc) (asc_nodup hD)).mpr m)
end K01
/-! ~table -/
namespace K01
open PySem PySem.Spec PyProof.Rows L2 KG KS KA
abbrev s_tabNot : Stmt := inCls 15 11
/-- ~table -/
def spNot (C : Addr) : Sp := fun vs H Q _ => ∃ (x : Addr) (ds : List Str) (n : Nat) (R : List (List Str)), vs = [.ref x] ∧ TabAt C H x ds n R ∧
  ∀ (o : Addr) (H' : Hp) (R' : List (List Str)), H o = none → Same H H' → TabAt C H' o ds n R' → (∀ row, row ∈ R' ↔ (row ∈ allR n ds ∧ row ∉ R)) → Q (.ref o) H'
theorem allR_mem {n : Nat} {ds r : List Str} (h : r ∈ allR n ds) : ∀ x ∈ r, x ∈ ds := by
  induction n generalizing r with
  | zero =>
    have e : r = [] := List.mem_singleton.mp h
    rw [e]
    exact fun _ z => (nomatch z)
  | succ n ih =>
    rw [allR_succ] at h
    obtain ⟨q, hq, h2⟩ := List.mem_flatMap.mp h
    obtain ⟨c, hc, rfl⟩ := List.mem_map.mp h2
    intro x hx
    rcases List.mem_append.mp hx with h3 | h3
    · exact ih hq x h3
    · rw [List.mem_singleton.mp h3]
      exact hc
section
variable {P : Program} {w : World} {K : PySem.W.Frag} {mg : Str → Option Value} {base : Heap}
theorem sc_tabNot : FnScope ["self", "others", "row"] ["self"] (defScope s_tabNot) := ⟨rfl, rfl, rfl, by decide +kernel, rfl, by decide +kernel, by decide +kernel⟩
theorem ok_tabNot (B : Bs mg) (ti : MtD K "__init__" "Table.__init__" s_tabInit) (F : TabF K mg) (T : TabC K mg ti.a) (J : C8.InsC K T.C) (f : MtF K "__invert__" "Table.__invert__" s_tabNot) :
    FnOk P w K mg base CX0 6 f.a f.d ["self"] (spNot T.C) := by
  have G5 := ok_all_rows (P := P) (w := w) (base := base) B F.all
  have b5 : Binds K F.all.d ["columns"] [] := F.all.F.binds fun _ _ _ _ _ _ us hl => match us, hl with | [_], _ => rfl
  have G6 := ok_tabInit (P := P) (w := w) (base := base) B ti F T
  have b6 : Binds K ti.d ["self", "domain", "width", "rows"] [] := by
    obtain ⟨ds, r, b⟩ := ti.F.binds1 (ps := ["self", "domain", "width", "rows"]) 4 1 (by simp) rfl fun _ _ _ _ _ _ _ us its h1 h2 => match us, its, h1, h2 with | [_, _, _, _], [_], _, _ => ⟨_, rfl, rfl⟩
    cases (show Vals [] ds from r)
    exact b
  refine f.F.ok sc_tabNot (fun vs H Q E h => ?_) (fun cdv A outer s H vs Q E hr h => ?_)
  · obtain ⟨x, ds, n, R, rfl, _⟩ := h
    rfl
  · obtain ⟨x, ds, n, R, rfl, TX, q⟩ := h
    have hu64 := hr.units
    have hr1 : Room 1 _ := hr.mono (by omega)
    have hr5 : Room 5 _ := hr.mono (by omega)
    refine ⟨_, (pss_cons
      (ps_setLc (i := 1) (own := [("row", 2)]) (g := gName 2) (by rfl) sc_tabNot.nd rfl rfl (sw_true rfl rfl rfl (by decide +kernel)) (pi_tup (pe_call G5 hr1 rfl F.all.g F.all.F.kp b5 .nil pass0 (pa_cons (pe_op op_rep (pe_lst (pa_cons (pe_fld (pv 0) rfl) pa_nil)) (pe_fld (pv 0) rfl)) pa_nil))) (blkOk_by (own := [("row", 2)]) (N := ["self", "others", "row"]) (sc := defScope s_tabNot) (by decide +kernel)) (fun _ _ _ _ _ => (pg_name (i := 2) sc_tabNot.nd rfl (Or.inl rfl))) (fun _ _ _ _ _ => (pts_one (pt_cmpR (show OpR _ (compareOp .NotIn) (rOutRows K) from op_outRows hu64) (pv 2) (show PE _ _ (tFld K (tVar 0) "rows") from pe_fld (pv 0) rfl) (by rfl)))) (fun _ _ _ _ _ => (pv 2)))
    (pss_one
      (ps_ret (pe_make T.made G6 hr5 rfl T.g b6 .nil pass0 (pa_cons (pe_fld (pv 0) rfl) (pa_cons (pe_fld (pv 0) rfl) (pa_cons (pe_callTy call_tuple_of (by rfl) B.n_tuple (by decide +kernel) (pa_cons (pv 1) pa_nil)) pa_nil))))))), ?_⟩
    obtain ⟨dx, d, p, rs, cols, ht, hd, hp, hR, hC⟩ := TX.ex
    obtain ⟨dasc, dok, d1, d3, n1, n3⟩ := TX.dom
    refine ⟨_, rfl, x, T.C, dx, _, _, rfl, ht, T.cl, T.nd, rfl, by show 1 ≤ sizeLine; decide, fun l hl => ?_⟩
    have el : Same H (upd H l (.lst [V.ref d])) := same_new hl
    refine ⟨_, rfl, x, T.C, dx, _, _, rfl, el _ _ ht, T.cl, T.nw, rfl, l, (n : Nat), [V.ref d], rfl, rfl, upd_same, by omega, by omega, (by rw [sizeLine_eq]; show 1 * _ ≤ _; omega), fun u hu => ?_⟩
    have e5 : Same H (upd (upd H l (.lst [V.ref d])) u (.lst (List.replicate (n : Int).toNat [V.ref d]).flatten)) := same_trans el (same_new hu)
    have hu5 : upd (upd H l (.lst [V.ref d])) u (.lst (List.replicate (n : Int).toNat [V.ref d]).flatten) u = some (.lst ((List.replicate n d).map V.ref)) := by
      rw [upd_same, flat_rep, List.map_replicate]
      rfl
    generalize upd (upd H l (.lst [V.ref d])) u (.lst (List.replicate (n : Int).toNat [V.ref d]).flatten) = H5 at e5 hu5 ⊢
    have hR5 : RowsAt H5 ((List.replicate n d).map V.ref) (List.replicate n ds) := by
      rw [List.map_replicate]
      have key : ∀ k, RowsAt H5 (List.replicate k (V.ref d)) (List.replicate k ds) := fun k => by
        induction k with
        | zero => exact .nil
        | succ k ih => exact .cons ⟨d, rfl, e5 _ _ hd⟩ ih
      exact key n
    refine ⟨u, List.replicate n d, List.replicate n ds, rfl, hu5, hR5, few_of (fun c hc => by rw [List.eq_of_mem_replicate hc]; exact d3) (by rw [List.length_replicate]; exact n3), by rw [List.length_replicate]; omega, fun pf fs H6 hpf e56 hpf6 hRf => ?_⟩
    have hRf : RowsAt H6 fs (allR n ds) := hRf
    have e6 := same_trans e5 e56
    have lim := allR_le n3 d3
    refine ⟨pf, rfl, ⟨_, SqT.of hpf6⟩, fun D hD => ?_⟩
    refine lc_tup (K := K) (xs := fs) (fun i H' => ∃ ac, Same H6 H' ∧ H' D = some (.lst ac) ∧ RowsAt H' ac (((allR n ds).take i).filter fun r => !decide (r ∈ R))) ⟨[], same_new hD, upd_same, .nil⟩ (fun i H' _ ⟨_, e, _⟩ => SqT.of (e _ _ hpf6)) ?_ ?_
    · rintro i z H3 hz ⟨ac, e3, hac, hB⟩
      obtain ⟨ts, hRi, b, rfl, hb⟩ := each_get hRf hz
      have e63 := same_trans e6 e3
      refine ⟨rfl, _, rfl, _, rfl, x, T.C, dx, _, _, rfl, e63 _ _ ht, T.cl, T.nr, rfl, ts, R, .tup (SqT.of (e3 _ _ hb)) (texts_dp ts), .tup (SqT.of (e63 _ _ hp)) (rows_dp (hR.up e63)), ?_⟩
      have z := filt_step (fun r => !decide (r ∈ R)) hD e3 hac hB hRi (e3 _ _ hb) (by omega)
      have z : if (!decide (ts ∈ R)) = true then _ else _ := z
      refine ⟨_, rfl, ?_⟩
      by_cases c : (!decide (ts ∈ R)) = true
      · rw [if_pos c] at z
        obtain ⟨acc, h1, h2, h3⟩ := z
        exact iteT' c ⟨_, rfl, acc, h1, h2, h3⟩
      · rw [if_neg c] at z
        exact iteF' c z
    · rintro H3 ⟨ac, e3, hac, hB⟩
      rw [hRf.length, List.take_length] at hB
      have e63 := same_trans e6 e3
      refine ⟨_, rfl, x, T.C, dx, _, _, rfl, e63 _ _ ht, T.cl, T.nd, rfl, _, rfl, x, T.C, dx, _, _, rfl, e63 _ _ ht, T.cl, T.nw, rfl, ?_⟩
      refine ⟨_, rfl, D, ac, rfl, .inl ⟨SqL.of hac, fun t ht0 => ?_⟩⟩
      have e4 : Same H3 (upd H3 t (.tup ac)) := same_new ht0
      have e34 := same_trans e63 e4
      refine make_tab (e34 _ _ hd) TX.dom upd_same (hB.up e4) (fun r hr => ⟨allR_row (List.mem_filter.mp hr).1, allR_mem (List.mem_filter.mp hr).1⟩) (by have := List.length_filter_le (fun r => !decide (r ∈ R)) (allR n ds); omega) fun o H' R' ho e5 TO mem => ?_
      refine q o H' R' (e34.free ho) (same_trans e34 e5) TO fun row => ?_
      rw [mem row, List.mem_filter]
      simp
end
end K01
/-! table == table -/
namespace K01
open PySem PySem.Spec PyProof.Rows L2 KG KS KA
abbrev s_tabEq : Stmt := inCls 15 3
/-- table == table, over the same values, of the same width -/
def spEq (C : Addr) : Sp := fun vs H Q _ => ∃ (x y : Addr) (ds : List Str) (n : Nat) (R S : List (List Str)), vs = [.ref x, .ref y] ∧ TabAt C H x ds n R ∧ TabAt C H y ds n S ∧ Q (.bl (decide (R = S))) H
section
variable {P : Program} {w : World} {K : PySem.W.Frag} {mg : Str → Option Value} {base : Heap}
theorem sc_tabEq : FnScope ["self", "other"] ["self", "other"] (defScope s_tabEq) := ⟨rfl, rfl, rfl, by decide +kernel, rfl, by decide +kernel, by decide +kernel⟩
theorem ok_tabEq {it : Addr} (B : Bs mg) (T : TabC K mg it) (J : C8.InsC K T.C) (f : MtF K "__eq__" "Table.__eq__" s_tabEq) : FnOk P w K mg base CX0 1 f.a f.d ["self", "other"] (spEq T.C) := by
  refine f.F.ok sc_tabEq (fun vs H Q E h => ?_) (fun cdv A outer s H vs Q E hr h => ?_)
  · obtain ⟨x, y, ds, n, R, S, rfl, _⟩ := h
    rfl
  · obtain ⟨x, y, ds, n, R, S, rfl, TX, TY, q⟩ := h
    have hu64 := hr.units
    refine ⟨_, (pss_one
      (ps_ret (pe_and (pe_callB (C8.call_isC J) (by rfl) B.n_isinstance (by decide +kernel) (pa_cons (pv 1) (pa_cons (pe_glob (v := .ref T.C) rfl T.g rfl) pa_nil))) (pe_and (pe_cmpR (op_eqD hu64) (pe_fld (pv 0) rfl) (pe_fld (pv 1) rfl) (nomark _)) (pe_and (pe_cmpR op_eq (pe_fld (pv 0) rfl) (pe_fld (pv 1) rfl) (nomark _)) (pe_one (pe_cmpR (op_eqD hu64) (pe_fld (pv 0) rfl) (pe_fld (pv 1) rfl) (nomark _)))))))), ?_⟩
    obtain ⟨dx, d, p, rs, cols, ht, hd, hp, hR, hC⟩ := TX.ex
    obtain ⟨dx2, d2, p2, rs2, cols2, ht2, hd2, hp2, hR2, hC2⟩ := TY.ex
    have ok := TX.dom.2.1
    have sh : SeqAt.shaped (txd ds) = true := txd_shaped fun x hx => name_strOk (ok x hx)
    have okR : ∀ t ∈ R, ∀ y ∈ t, PyData.strOk y = true := fun t ht y hy => name_strOk (ok y ((TX.row t ht).2 y hy))
    have okS : ∀ t ∈ S, ∀ y ∈ t, PyData.strOk y = true := fun t ht y hy => name_strOk (ok y ((TY.row t ht).2 y hy))
    refine ⟨_, rfl, y, dx2, _, rfl, ht2, ?_⟩
    refine ⟨true, rfl, iteT ?_⟩
    refine ⟨_, rfl, x, T.C, dx, _, _, rfl, ht, T.cl, T.nd, rfl, _, rfl, y, T.C, dx2, _, _, rfl, ht2, T.cl, T.nd, rfl, txd ds, txd ds, .tup (SqT.of hd) (texts_dp _), .tup (SqT.of hd2) (texts_dp _), sh, sh, true, by rw [eqv_row, decide_eq_true rfl], iteT ?_⟩
    refine ⟨_, rfl, x, T.C, dx, _, _, rfl, ht, T.cl, T.nw, rfl, _, rfl, y, T.C, dx2, _, _, rfl, ht2, T.cl, T.nw, rfl, rfl, true, by rw [decide_eq_true rfl], iteT ?_⟩
    refine ⟨_, rfl, x, T.C, dx, _, _, rfl, ht, T.cl, T.nr, rfl, _, rfl, y, T.C, dx2, _, _, rfl, ht2, T.cl, T.nr, rfl, rowsD R, rowsD S, .tup (SqT.of hp) (rows_dp hR), .tup (SqT.of hp2) (rows_dp hR2), rows_shaped okR, rows_shaped okS, ?_⟩
    rw [eqv_rowsD]
    exact q
end
end K01
/-! _law_alike_right. -/
namespace K01
open PySem PySem.Spec PyProof.Rows L2 KG KS KA
abbrev DomOk (ds : List Str) (n : Nat) : Prop := AscT ds ∧ (∀ x ∈ ds, nameOk x = true) ∧ 1 ≤ ds.length ∧ ds.length ≤ 3 ∧ 1 ≤ n ∧ n ≤ 3
theorem spTab_imp {C : Addr} {vs : List V} {H : Hp} {Q Q' : VK} {E E' : XK} (h : spTab C vs H Q E) (k : ∀ v H', Q v H' → Q' v H') : spTab C vs H Q' E' := by
  obtain ⟨x, dx, d, r, n, ds, rs, R, e, h1, h2, h3, h4, h5, h6, h7, h8, h9, hA, hB, hC, q⟩ := h
  exact ⟨x, dx, d, r, n, ds, rs, R, e, h1, h2, h3, h4, h5, h6, h7, h8, h9, hA, hB, hC, fun H' p ks R' cols a1 a2 a3 a4 a5 a6 a7 a8 => k _ _ (q H' p ks R' cols a1 a2 a3 a4 a5 a6 a7 a8)⟩
theorem make_tab2 {C : Addr} {H : Hp} {d r : Addr} {ds : List Str} {n : Nat} {rs : List V} {R D : List (List Str)} (hd : H d = some (.tup (ds.map V.str)))
    (dom : DomOk ds n) (hr : H r = some (.tup rs)) (hR : RowsAt H rs R) (row : ∀ q ∈ R, q.length = n ∧ ∀ x ∈ q, x ∈ ds) (h64 : R.length < 64) (hD : Asc D) (m : ∀ row, row ∈ R ↔ row ∈ D)
    {x dx : Addr} (hx : H x = none) (hdx : H dx = none) (nox : dx ≠ x) {Q : VK} {E : XK} (q : ∀ H', Same H H' → TabAt C H' x ds n D → Q .non H') :
    spTab C (.ref x :: ([.ref d, .int (n : Nat), .ref r] ++ [])) (upd (upd H dx (.own x)) x (.ins C dx [])) Q E := by
  refine spTab_imp (E := fun _ _ _ => False) (make_tab (Q := fun v H' => ∃ o, v = V.ref o ∧ Same H H' ∧ TabAt C H' o ds n D) hd dom hr hR row h64 (fun o H' R' ho e T m' => ?_) x dx hx hdx nox) ?_
  · have z := tab_due T hD fun row => (m' row).trans (m row)
    subst z
    exact ⟨o, rfl, e, T⟩
  · rintro v H' ⟨rfl, o, e, e2, T⟩
    cases e
    exact q H' e2 T
theorem each_rev {H : Hp} : ∀ {vs : List V} {R : List (List Str)}, RowsAt H vs R → RowsAt H vs.reverse R.reverse
  | _, _, .nil => .nil
  | _, _, .cons h t => by
    rw [List.reverse_cons, List.reverse_cons]
    exact each_snoc (each_rev t) h
section
variable {P : Program} {w : World} {K : PySem.W.Frag} {mg : Str → Option Value} {base : Heap}
end
end K01
/-! _law_times_right. -/
namespace K01
open PySem PySem.Spec PyProof.Rows L2 KG KS KA
theorem TabAt.off {C : Addr} {H H' : Hp} {d l : Addr} {k : Nat} {t : Addr} {ds : List Str} {n : Nat} {R : List (List Str)} (T : TabAt C H t ds n R) (D : DeckAt H d l k) (o : Off d l H H') : TabAt C H' t ds n R := by
  obtain ⟨dx, a, p, rs, cols, h1, h2, h3, h4, h5⟩ := T.ex
  obtain ⟨cs, m, c, g1, g2, _⟩ := id D.ex
  have ne : ∀ {b : Addr} {u : HO}, H b = some u → (∀ kvs, u ≠ .dK kvs) → (∀ xs, u ≠ .lst xs) → H' b = some u := fun {b u} e z1 z2 => o b u e (ne_of e g1 (z1 _)) (ne_of e g2 (z2 _))
  exact ⟨⟨dx, a, p, rs, cols, ne h1 (fun _ z => nomatch z) (fun _ z => nomatch z), ne h2 (fun _ z => nomatch z) (fun _ z => nomatch z), ne h3 (fun _ z => nomatch z) (fun _ z => nomatch z), h4.off D o, h5⟩, T.asc, T.row, T.h64, T.dom⟩
theorem tup_off {H H' : Hp} {d l : Addr} {k : Nat} {b : Addr} {xs : List V} (e : H b = some (.tup xs)) (D : DeckAt H d l k) (o : Off d l H H') : H' b = some (.tup xs) := by
  obtain ⟨cs, m, c, g1, g2, _⟩ := id D.ex
  exact o b _ e (ne_of e g1 (fun z => nomatch z)) (ne_of e g2 (fun z => nomatch z))
theorem lst_off {H H' : Hp} {d l : Addr} {k : Nat} {b : Addr} {xs : List V} (e : H b = some (.lst xs)) (n : b ≠ l) (D : DeckAt H d l k) (o : Off d l H H') : H' b = some (.lst xs) := by
  obtain ⟨cs, m, c, g1, g2, _⟩ := id D.ex
  exact o b _ e (ne_of e g1 (fun z => nomatch z)) n
section
variable {P : Program} {w : World} {K : PySem.W.Frag} {mg : Str → Option Value} {base : Heap}
end
end K01
/-! _law_unlike_right. -/
namespace K01
open PySem PySem.Spec PyProof.Rows L2 KG KS KA
theorem cat_tup {K : PySem.W.Frag} {H : Hp} {a b : Addr} {xs ys : List V} {Q : VK} (ha : H a = some (.tup xs)) (hb : H b = some (.tup ys)) (hx : xs ≠ []) (sz : xs.length + ys.length ≤ 1000)
    (q : ∀ p H', Same H H' → H' p = some (.tup (xs ++ ys)) → Q (.ref p) H') : rCatA K (.ref a) (.ref b) H Q := by
  refine ⟨a, b, xs, ys, rfl, rfl, SqT.of ha, SqT.of hb, by rw [sizeLine_eq]; omega, fun z => absurd z hx, fun _ z => ?_, fun _ _ p hp => q p _ (same_new hp) upd_same⟩
  subst z
  exact q a H (Same.refl H) (by rw [List.append_nil]; exact ha)
theorem cut_tup {K : PySem.W.Frag} {H : Hp} {a : Addr} {xs : List V} {lo hi : Option Int} {Q : VK} (ha : H a = some (.tup xs)) (q : ∀ p H', Same H H' → H' p = some (.tup (cutV xs lo hi)) → Q (.ref p) H') : rSlA K (.ref a) lo hi H Q := by
  refine ⟨a, xs, rfl, SqT.of ha, fun z => q a H (Same.refl H) ?_, fun _ p hp => q p _ (same_new hp) upd_same⟩
  unfold cutV
  rw [z.1, z.2, List.drop_zero, Nat.sub_zero, List.take_length]
  exact ha
theorem cutV_map (ds : List Str) (lo hi : Option Int) : ∃ es : List Str, cutV (ds.map V.str) lo hi = es.map V.str ∧ es.Sublist ds := by
  unfold cutV
  rw [← List.map_drop, ← List.map_take]
  exact ⟨_, rfl, (List.take_sublist _ _).trans (List.drop_sublist _ _)⟩
theorem cut3 (ys : List Str) : cutV (ys.map V.str) none (some 3) = (ys.take 3).map V.str := by
  have e : HT.sIx (ys.map V.str).length (ys.map V.str).length (some 3) = min 3 (ys.map V.str).length := HT.sIx_nat _ _ 3
  unfold cutV
  rw [e, HT.sIx_none, List.drop_zero, Nat.sub_zero, List.length_map, ← List.map_take]
  congr 1
  by_cases c : 3 ≤ ys.length
  · rw [Nat.min_eq_left c]
  · rw [Nat.min_eq_right (by omega), List.take_length, List.take_of_length_le (by omega)]
section
variable {P : Program} {w : World} {K : PySem.W.Frag} {mg : Str → Option Value} {base : Heap}
end
end K01
/-! Rules said with w and K, for a comprehension within another. -/
namespace K01
open PySem PySem.Spec PyProof.Rows L2 KG KS KA
theorem pss_dead {X : Cx} {st : List Stmt} : PSs X st (fun _ _ _ => False) := ⟨fun _ _ _ _ _ _ h => h.elim⟩
def rSetOfW (w : World) (K : PySem.W.Frag) : List V → Hp → VK → Prop := fun xs H Q => ∃ (b : Bool) (l : Addr) (ms : List MemV), xs = [V.ref l] ∧ (SqL K H l (ms.map (·.1)) ∨ SqT K H l (ms.map (·.1))) ∧ (∀ p ∈ ms, Kv K H p.1 p.2 ∧ FitV b p) ∧ ms.length < 64 ∧
  ∀ a L, H a = none → (∀ p ∈ L, p ∈ ms) → (∀ p ∈ ms, p.2 ∈ L.map (·.2)) → (L.map (·.2)).Nodup → Q (.ref a) (upd H a (SetV b w a L))
def rSortSetW (w : World) (K : PySem.W.Frag) : List V → Hp → VK → Prop := fun xs H Q => ∃ (b : Bool) (a : Addr) (L : List MemV), xs = [V.ref a] ∧ H a = some (SetV b w a L) ∧ (∀ p ∈ L, Kv K H p.1 p.2) ∧
  W.AllAlike (L.map (·.2.data)) ∧ W.Sortable (L.map (·.2.data)) ∧
  ∀ (L' : List MemV) (p : Addr), L'.Perm L → L'.Pairwise Aft → H p = none → Q (.ref p) (upd H p (.lst (L'.map (·.1))))
section
variable {X : Cx}
theorem cr_setOfW (hc : X.calm = true) (hu : X.A.units + 64 < cLine) : CallR X (.type "set") (rSetOfW X.w X.K) := cr_setOf hc hu
theorem cr_sortSetW (hc : X.calm = true) (hu : X.A.units + 64 < cLine) : CallR X (.builtin "sorted") (rSortSetW X.w X.K) := cr_sortSet hc hu
end
end K01
/-! _law_mixed, _law_parts. -/
namespace K01
open PySem PySem.Spec PyProof.Rows L2 KG KS KA
abbrev s__law_mixed : Stmt := top 23
abbrev s__law_parts : Stmt := top 27
/-- the items in some order -/
def spMixed : Sp := fun vs H Q _ => ∃ (d l a : Addr) (xs : List Str) (k : Nat), vs = [.ref d, .ref a] ∧ DeckAt H d l k ∧ H a = some (.tup (xs.map V.str)) ∧ xs.length ≤ 12 ∧ k + xs.length < 1000000000 ∧
  ∀ (p : Addr) (ys : List Str) (H' : Hp), H p = none → DeckAt H' d l (k + xs.length) → Off d l H H' → H' p = some (.tup (ys.map V.str)) → ys.Perm xs → Q (.ref p) H'
/-- some of the words, in their order, not none -/
def partsOf (ds : List Str) : List (List Str) := ds.foldl (fun g w => g ++ g.map fun r => r ++ [w]) [[]]
theorem parts_next {ds : List Str} {i : Nat} {w : Str} (h : ds[i]? = some w) : partsOf (ds.take (i + 1)) = partsOf (ds.take i) ++ (partsOf (ds.take i)).map fun r => r ++ [w] := by
  unfold partsOf
  rw [take_next h, List.foldl_append]
  rfl
theorem parts_len : ∀ (ds : List Str) (g : List (List Str)), (ds.foldl (fun g w => g ++ g.map fun r => r ++ [w]) g).length = g.length * 2 ^ ds.length
  | [], g => by rw [List.length_nil, Nat.pow_zero, Nat.mul_one]; rfl
  | w :: ds, g => by
    rw [List.foldl_cons, parts_len ds, List.length_append, List.length_map, List.length_cons, Nat.pow_succ]
    have : g.length + g.length = g.length * 2 := by omega
    rw [this, Nat.mul_assoc, Nat.mul_comm 2]
theorem partsOf_len (ds : List Str) : (partsOf ds).length = 2 ^ ds.length := (parts_len ds [[]]).trans (Nat.one_mul _)
theorem parts_sub : ∀ (ds g0 : List Str) (g : List (List Str)), (∀ r ∈ g, r.Sublist g0) → ∀ r ∈ ds.foldl (fun g w => g ++ g.map fun r => r ++ [w]) g, r.Sublist (g0 ++ ds)
  | [], g0, g, h, r, hr => by
    rw [List.append_nil]
    exact h r hr
  | w :: ds, g0, g, h, r, hr => by
    have z := parts_sub ds (g0 ++ [w]) (g ++ g.map fun r => r ++ [w]) (fun q hq => by
      rcases List.mem_append.mp hq with hq | hq
      · exact (h q hq).trans (List.sublist_append_left _ _)
      · obtain ⟨q0, h0, rfl⟩ := List.mem_map.mp hq
        exact (h q0 h0).append (List.Sublist.refl _)) r hr
    rw [List.append_assoc] at z
    exact z
theorem parts_head : ∀ (ds : List Str) (g : List (List Str)), (∀ r ∈ g.drop 1, r ≠ []) → 1 ≤ g.length → ∀ r ∈ (ds.foldl (fun g w => g ++ g.map fun r => r ++ [w]) g).drop 1, r ≠ []
  | [], g, h, _, r, hr => h r hr
  | w :: ds, g, h, l, r, hr => by
    refine parts_head ds (g ++ g.map fun r => r ++ [w]) (fun q hq => ?_) (by rw [List.length_append]; omega) r hr
    rw [List.drop_append_of_le_length l] at hq
    rcases List.mem_append.mp hq with hq | hq
    · exact h q hq
    · obtain ⟨q0, h0, rfl⟩ := List.mem_map.mp hq
      simp
/-- the parts of the words -/
def spParts : Sp := fun vs H Q _ => ∃ (a : Addr) (ds : List Str), vs = [.ref a] ∧ H a = some (.tup (ds.map V.str)) ∧ ds.length ≤ 3 ∧
  ∀ (p : Addr) (rs : List V) (R : List (List Str)) (H' : Hp), H p = none → Same H H' → H' p = some (.lst rs) → RowsAt H' rs R → R.length ≤ 7 → (∀ r ∈ R, r.Sublist ds ∧ r ≠ []) → Q (.ref p) H'
theorem each_drop {α β : Type} {R : α → β → Prop} : ∀ (n : Nat) {as : List α} {bs : List β}, W.EachIs R as bs → W.EachIs R (as.drop n) (bs.drop n)
  | 0, _, _, h => h
  | _ + 1, _, _, .nil => .nil
  | n + 1, _, _, .cons _ t => each_drop n t
section
variable {P : Program} {w : World} {K : PySem.W.Frag} {mg : Str → Option Value} {base : Heap}
theorem sc__law_mixed : FnScope ["_law_deck_here", "_law_items", "_law_left", "_law_got", "_law_k"] ["_law_deck_here", "_law_items"] (defScope s__law_mixed) := ⟨rfl, rfl, rfl, by decide +kernel, rfl, by decide +kernel, by decide +kernel⟩
theorem ok__law_mixed (B : Bs mg) (f : FnF K mg "_law_mixed" "_law_mixed" s__law_mixed) (fd : FnF K mg "_law_draw" "_law_draw" s__law_draw) : FnOk P w K mg base CX0 2 f.a f.d ["_law_deck_here", "_law_items"] spMixed := by
  have G := ok__law_draw (P := P) (w := w) (base := base) B.toBi fd
  have bd : Binds K fd.d ["_law_deck_here", "_law_many"] [] := fd.F.binds fun _ _ _ _ _ _ us hl => match us, hl with | [_, _], _ => rfl
  refine f.F.ok sc__law_mixed (fun vs H Q E h => ?_) (fun cdv A outer s H vs Q E hr h => ?_)
  · obtain ⟨d, l, a, xs, k, rfl, _⟩ := h
    rfl
  · obtain ⟨d, l, a, xs, k, rfl, D, ha, hm, hk, q⟩ := h
    have hr1 : Room 1 _ := hr.mono (by omega)
    refine ⟨_, (pss_cons
      (ps_par (i := 2) (j := 3) (by rfl) sc__law_mixed.nd rfl rfl (by decide) rfl rfl (pa_cons (pe_callTy call_list_of (by rfl) B.n_list (by decide +kernel) (pa_cons (pv 1) pa_nil)) (pa_cons (pe_lst pa_nil) pa_nil)) (by rfl))
    (pss_cons
      (ps_for PassesOwn.never rfl (pi_range1 rfl B.n_range (pa_cons (pe_callB call_len (by rfl) B.n_len (by decide +kernel) (pa_cons (pv 1) pa_nil)) pa_nil)) (pg_name (i := 4) sc__law_mixed.nd rfl (Or.inl rfl))
        (pss_one
          (ps_expr (pe_bm PySem.F.plainAttrs_list PySem.F.slot_list_append PySem.F.type_list_append mt_append (pv 3) (pa_cons (pe_bm PySem.F.plainAttrs_list PySem.F.slot_list_pop PySem.F.type_list_pop mt_popAt (pv 2) (pa_cons (pe_call G hr1 rfl fd.g fd.F.kp bd .nil pass0 (pa_cons (pv 0) (pa_cons (pe_callB call_len (by rfl) B.n_len (by decide +kernel) (pa_cons (pv 2) pa_nil)) pa_nil))) pa_nil)) pa_nil)))))
    (pss_one
      (ps_ret (pe_callTy call_tuple_of (by rfl) B.n_tuple (by decide +kernel) (pa_cons (pv 3) pa_nil)))))), ?_⟩
    obtain ⟨cs0, mm0, n0, hd0, hl0, _⟩ := D.ex
    refine ⟨_, rfl, a, _, rfl, .inr (SqT.of ha), fun L hL => ⟨by show 0 ≤ sizeLine; exact Nat.zero_le _, fun g hg => ?_⟩⟩
    have nLd : L ≠ d := (ne_of_none hd0 hL).symm
    have nLl : L ≠ l := (ne_of_none hl0 hL).symm
    have nLg : L ≠ g := ne_of_none upd_same hg
    have gH : H g = none := by rw [upd_ne nLg.symm] at hg; exact hg
    have ngd : g ≠ d := (ne_of_none hd0 gH).symm
    have ngl : g ≠ l := (ne_of_none hl0 gH).symm
    have e0 : Same H (upd (upd H L (.lst (xs.map V.str))) g (.lst [])) := same_trans (same_new hL) (same_new hg)
    refine ⟨_, _, rfl, _, rfl, .ref a, xs.length, rfl, Or.inr ⟨xs.map V.str, SqT.of (e0 _ _ ha), by rw [List.length_map]⟩, (xs.length : Int), rfl, by omega, by omega, ?_⟩
    refine for_range (lo := 0) (n := ((xs.length : Nat) : Int).toNat) (fun i σ H' => ∃ (left got : List Str) (v4 : Option V), σ = [some (.ref d), some (.ref a), some (.ref L), some (.ref g), v4] ∧ DeckAt H' d l (k + i) ∧ Off d l H H' ∧
        H' L = some (.lst (left.map V.str)) ∧ H' g = some (.lst (got.map V.str)) ∧ (left ++ got).Perm xs ∧ got.length = i)
      ⟨xs, [], none, rfl, D.same e0, Off.of e0, by rw [upd_ne nLg, upd_same], upd_same, by rw [List.append_nil], rfl⟩ ?_ ?_
    · rintro i σ H1 hi ⟨left, got, v4, rfl, D1, o1, hL1, hg1, pm, hgl⟩
      have hi2 : i < xs.length := by simpa using hi
      have pl := pm.length_eq
      rw [List.length_append] at pl
      refine ⟨_, rfl, Or.inl ⟨rfl, _, SqL.of hg1⟩, _, rfl, Or.inl ⟨rfl, _, SqL.of hL1⟩, _, rfl, _, rfl, .ref L, left.length, rfl, Or.inl ⟨left.map V.str, SqL.of hL1, by rw [List.length_map]⟩, d, l, (left.length : Int), k + i, rfl, D1, by omega, by omega, by omega, fun j H2 j0 j1 D2 o2 => ?_⟩
      have jl : j.toNat < left.length := by omega
      have hL2 := o2 L _ hL1 nLd nLl
      have hg2 := o2 g _ hg1 ngd ngl
      have hx : (left.map V.str)[j.toNat]? = some (V.str left[j.toNat]) := by rw [List.getElem?_map, List.getElem?_eq_getElem jl]; rfl
      refine ⟨L, left.map V.str, j, j.toNat, _, rfl, rfl, hL2, by omega, by omega, ?_, hx, g, got.map V.str, _, rfl, rfl, by rw [upd_ne nLg.symm]; exact hg2, by rw [List.length_map, sizeLine_eq]; omega, ?_⟩
      · unfold seqIndex?
        have n1 : ¬ j < 0 := by omega
        rw [List.length_map]
        simp [n1, j0, j1]
      · refine ⟨left.eraseIdx j.toNat, got ++ [left[j.toNat]], _, rfl, ?_, ?_, ?_, ?_, ?_, by rw [List.length_append, hgl]; rfl⟩
        · obtain ⟨cs, mm, n, h1, h2, h3⟩ := D2.ex
          exact ⟨cs, mm, n, by rw [upd_ne ngd.symm, upd_ne nLd.symm]; exact h1, by rw [upd_ne ngl.symm, upd_ne nLl.symm]; exact h2, h3.1, h3.2.1, h3.2.2.1, by omega⟩
        · intro b u hb n1 n2
          have z := o2 b u (o1 b u hb n1 n2) n1 n2
          rw [upd_ne (ne_of_none hb gH), upd_ne (ne_of_none hb hL)]
          exact z
        · rw [upd_ne nLg, upd_same, erase_map]
        · rw [upd_same, List.map_append]
          rfl
        · exact (erase_perm jl).trans pm
    · rintro σ H1 ⟨left, got, v4, rfl, D1, o1, hL1, hg1, pm, hgl⟩
      have hm2 : got.length = xs.length := by simpa using hgl
      have pl := pm.length_eq
      rw [List.length_append] at pl
      have l0 : left = [] := List.length_eq_zero_iff.mp (by omega)
      rw [l0, List.nil_append] at pm
      refine ⟨_, rfl, g, got.map V.str, rfl, .inl ⟨SqL.of hg1, fun t ht => ?_⟩⟩
      have e2 : Same H1 (upd H1 t (.tup (got.map V.str))) := same_new ht
      exact q t got _ (D1.back o1 ht) (D1.same e2 |>.up (by simp)) (o1.trans (Off.of e2)) upd_same pm
theorem sc__law_parts : FnScope ["_law_words_here", "_law_got", "_law_word", "_law_part"] ["_law_words_here"] (defScope s__law_parts) := ⟨rfl, rfl, rfl, by decide +kernel, rfl, by decide +kernel, by decide +kernel⟩
theorem ok__law_parts (B : Bs mg) (f : FnF K mg "_law_parts" "_law_parts" s__law_parts) : FnOk P w K mg base CX0 1 f.a f.d ["_law_words_here"] spParts := by
  refine f.F.ok sc__law_parts (fun vs H Q E h => ?_) (fun cdv A outer s H vs Q E hr h => ?_)
  · obtain ⟨a, ds, rfl, _⟩ := h
    rfl
  · obtain ⟨a, ds, rfl, ha, h3, q⟩ := h
    refine ⟨_, (pss_cons
      (ps_set (i := 1) sc__law_parts.nd rfl (Or.inl rfl) (pe_lst (pa_cons (pe_tup pa_nil) pa_nil)))
    (pss_cons
      (ps_for PassesOwn.never rfl (pi_tup (pv 0)) (pg_name (i := 2) sc__law_parts.nd rfl (Or.inr rfl))
        (pss_one
          (ps_set (i := 1) sc__law_parts.nd rfl (Or.inl rfl) (pe_op op_cat (pv 1) (pe_lc (own := [("_law_part", 3)]) (g := gName 3) (by rfl) sc__law_parts.nd (pi_list (pv 1)) (blkOk_by (own := [("_law_part", 3)]) (N := ["_law_words_here", "_law_got", "_law_word", "_law_part"]) (sc := defScope s__law_parts) (by decide +kernel)) (fun _ _ _ _ _ => (pg_name (i := 3) sc__law_parts.nd rfl (Or.inl rfl))) (fun _ _ _ _ _ => pts_nil)
            (fun _ _ _ _ _ => (pe_op (show OpR _ (binaryOp .Add) (rCatA K) from op_catA) (pv 3) (pe_tup (pa_cons (pv 2) pa_nil)))))))))
    (pss_one
      (ps_ret (pe_slice sl_list (pv 1) (po_some pe_int) po_none))))), ?_⟩
    refine ⟨by show 0 ≤ sizeLine; exact Nat.zero_le _, fun t ht => ⟨by show 1 ≤ sizeLine; decide, fun g0 hg0 => ?_⟩⟩
    have e0 : Same H (upd (upd H t (.tup [])) g0 (.lst [V.ref t])) := same_trans (same_new ht) (same_new hg0)
    have g0H : H g0 = none := (same_new ht).free hg0
    refine ⟨_, rfl, a, rfl, ⟨_, SqT.of (e0 _ _ ha)⟩, ?_⟩
    refine for_tup (K := K) (a := a) (xs := ds.map V.str) (fun i σ H' => ∃ (g : Addr) (rs : List V) (v2 : Option V), σ = [some (.ref a), some (.ref g), v2, none] ∧ H g = none ∧ Same H H' ∧ H' g = some (.lst rs) ∧ RowsAt H' rs (partsOf (ds.take i)))
      ⟨g0, _, none, rfl, g0H, e0, upd_same, .cons ⟨t, rfl, by rw [upd_ne (ne_of_none upd_same hg0), upd_same]; rfl⟩ .nil⟩ (fun i σ H' _ ⟨_, _, _, _, _, e, _⟩ => SqT.of (e _ _ ha)) ?_ ?_
    · rintro i y σ H1 hi ⟨g, rs, v2, rfl, gH, e1, hg, hR⟩
      rw [List.getElem?_map] at hi
      cases hx : ds[i]? with
      | none =>
        rw [hx] at hi
        cases hi
      | some x =>
        rw [hx] at hi
        obtain rfl : V.str x = y := Option.some.inj hi
        have il : i < ds.length := (List.getElem?_eq_some_iff.mp hx).1
        have pl : (partsOf (ds.take i)).length ≤ 4 := by
          rw [partsOf_len, List.length_take]
          calc 2 ^ min i ds.length ≤ 2 ^ 2 := Nat.pow_le_pow_right (by decide) (by omega)
            _ = 4 := rfl
        have hl := hR.length
        have sub : ∀ r ∈ partsOf (ds.take i), r.Sublist (ds.take i) := parts_sub (ds.take i) [] [[]] (by simp)
        refine ⟨_, rfl, _, rfl, g, rfl, ⟨_, SqL.of hg⟩, fun D hD => ?_⟩
        refine lc_list (K := K) (xs := rs) (fun j H' => ∃ ac, Same H1 H' ∧ H' D = some (.lst ac) ∧ RowsAt H' ac (((partsOf (ds.take i)).take j).map fun r => r ++ [x])) ⟨[], same_new hD, upd_same, .nil⟩ (fun j H' _ ⟨_, e, _⟩ => SqL.of (e _ _ hg)) ?_ ?_
        · rintro j z H2 hz ⟨ac, e2, hac, hB⟩
          obtain ⟨ts, hRj, b, rfl, hb⟩ := each_get hR hz
          have la := hB.length
          rw [List.length_map, List.length_take] at la
          have tl : ts.length ≤ 3 := Nat.le_trans (sub ts (List.mem_of_getElem? hRj)).length_le (by rw [List.length_take]; omega)
          refine ⟨rfl, _, rfl, _, rfl, by show 1 ≤ sizeLine; decide, fun u hu => ?_⟩
          have e3 : Same H2 (upd H2 u (.tup [V.str x])) := same_new hu
          have fin : ∀ {H4 : Hp} {p : Addr}, Same H2 H4 → H4 p = some (.tup ((ts ++ [x]).map V.str)) → ∃ acc, H4 D = some (.lst acc) ∧ acc.length < sizeLine ∧ ∃ acc', Same H1 (upd H4 D (.lst (acc ++ [V.ref p]))) ∧ upd H4 D (.lst (acc ++ [V.ref p])) D = some (.lst acc') ∧
              RowsAt (upd H4 D (.lst (acc ++ [V.ref p]))) acc' (((partsOf (ds.take i)).take (j + 1)).map fun r => r ++ [x]) := fun {H4 p} e4 hp => by
            refine ⟨ac, e4 _ _ hac, by rw [sizeLine_eq]; omega, ac ++ [V.ref p], same_put hD (same_trans e2 e4), upd_same, ?_⟩
            have hrow : RowsAt H4 (ac ++ [V.ref p]) (((partsOf (ds.take i)).take (j + 1)).map fun r => r ++ [x]) := by
              rw [take_next hRj, List.map_append]
              exact each_snoc (hB.up e4) ⟨p, rfl, hp⟩
            refine each_and hrow fun v ts _ ⟨b, e6, e7⟩ => ⟨b, e6, ?_⟩
            rw [upd_ne (ne_of e7 (e4 _ _ hac) (by intro z; cases z))]
            exact e7
          refine ⟨b, u, ts.map V.str, [V.str x], rfl, rfl, SqT.of (e3 _ _ (e2 _ _ hb)), SqT.of upd_same, by rw [List.length_map, sizeLine_eq]; show ts.length + 1 ≤ _; omega, fun z => ?_, fun _ z => (nomatch z), fun _ _ p hp => ?_⟩
          · have z2 : ts = [] := List.map_eq_nil_iff.mp z
            exact fin e3 (by rw [upd_same, z2]; rfl)
          · exact fin (same_trans e3 (same_new hp)) (by rw [upd_same, List.map_append]; rfl)
        · rintro H2 ⟨ac, e2, hac, hB⟩
          rw [hl, List.take_length] at hB
          have lb := hB.length
          rw [List.length_map] at lb
          refine ⟨g, D, rs, ac, rfl, rfl, e2 _ _ hg, hac, by rw [sizeLine_eq]; omega, fun p hp => ?_⟩
          have e3 : Same H2 (upd H2 p (.lst (rs ++ ac))) := same_new hp
          refine ⟨p, rs ++ ac, _, rfl, e1.free (e2.free hp), same_trans e1 (same_trans e2 e3), upd_same, ?_⟩
          rw [parts_next hx]
          exact each_app (hR.up (same_trans e2 e3)) (hB.up e3)
    · rintro σ H1 ⟨g, rs, v2, rfl, gH, e1, hg, hR⟩
      rw [List.length_map, List.take_length] at hR
      refine ⟨_, rfl, 1, rfl, ?_⟩
      dsimp only [tNoPart]
      refine ⟨g, rs, rfl, SqL.of hg, fun p hp => ?_⟩
      have e2 : Same H1 (upd H1 p (.lst (cutV rs (some 1) none))) := same_new hp
      have hz := hR.length
      have pl : (partsOf ds).length ≤ 8 := by
        rw [partsOf_len]
        calc 2 ^ ds.length ≤ 2 ^ 3 := Nat.pow_le_pow_right (by decide) h3
          _ = 8 := rfl
      have p1 : 1 ≤ (partsOf ds).length := by
        rw [partsOf_len]
        exact Nat.pow_pos (by decide)
      have ec : cutV rs (some 1) none = rs.drop 1 := by
        have z : HT.sIx rs.length 0 (some 1) = min 1 rs.length := HT.sIx_nat _ _ 1
        unfold cutV
        rw [z, HT.sIx_none, Nat.min_eq_left (by omega)]
        exact List.take_of_length_le (by rw [List.length_drop]; omega)
      refine q p (rs.drop 1) ((partsOf ds).drop 1) _ (e1.free hp) (same_trans e1 e2) (by rw [upd_same, ec]) (RowsAt.up e2 (each_drop 1 hR)) (by rw [List.length_drop]; omega) fun r hr => ⟨?_, parts_head ds [[]] (by simp) (by simp) r hr⟩
      have z := parts_sub ds [] [[]] (by simp) r (List.mem_of_mem_drop hr)
      exact z
end
end K01
/-! _law_rows_of: columns that are tuples; columns that are lists. -/
namespace K01
open PySem PySem.Spec PyProof.Rows L2 KG KS KA
abbrev s__law_rows_of : Stmt := top 24
/-- values that are lists of texts -/
abbrev LstsAt (H : Hp) : List V → List (List Str) → Prop := W.EachIs fun v ts => ∃ a, v = V.ref a ∧ H a = some (.lst (ts.map V.str))
theorem LstsAt.up {H H' : Hp} (e : Same H H') {vs : List V} {R : List (List Str)} (h : LstsAt H vs R) : LstsAt H' vs R := each_and h fun v ts _ ⟨a, e1, e2⟩ => ⟨a, e1, e _ _ e2⟩
/-- all rows of these columns, as a list -/
def spRowsOf : Sp := fun vs H Q _ => ∃ (c : Addr) (cs : List V) (cols : List (List Str)), vs = [.ref c] ∧ H c = some (.lst cs) ∧ RowsAt H cs cols ∧ (∀ col ∈ cols, col.length ≤ 3) ∧ cols.length ≤ 3 ∧
  ∀ (p : Addr) (rs : List V) (H' : Hp), H p = none → Same H H' → H' p = some (.lst rs) → RowsAt H' rs (prods cols) → Q (.ref p) H'
def spRowsOfL : Sp := fun vs H Q _ => ∃ (c : Addr) (cs : List V) (cols : List (List Str)), vs = [.ref c] ∧ H c = some (.lst cs) ∧ LstsAt H cs cols ∧ (∀ col ∈ cols, col.length ≤ 3) ∧ cols.length ≤ 3 ∧
  ∀ (p : Addr) (rs : List V) (H' : Hp), H p = none → Same H H' → H' p = some (.lst rs) → RowsAt H' rs (prods cols) → Q (.ref p) H'
theorem prods_few3 : ∀ (cols : List (List Str)), (∀ col ∈ cols, col.length ≤ 3) → (prods cols).length ≤ 3 ^ cols.length := fun cols h => by
  rw [prods_len]
  have key : ∀ (l : List (List Str)) (k : Nat), (∀ c ∈ l, c.length ≤ 3) → l.foldl (fun k c => k * c.length) k ≤ k * 3 ^ l.length := by
    intro l
    induction l with
    | nil => intro k _; simp
    | cons c l ih =>
      intro k hc
      rw [List.foldl_cons, List.length_cons, Nat.pow_succ]
      refine Nat.le_trans (ih _ fun x hx => hc x (List.mem_cons_of_mem _ hx)) ?_
      rw [Nat.mul_comm (3 ^ l.length) 3, ← Nat.mul_assoc]
      exact Nat.mul_le_mul_right _ (Nat.mul_le_mul_left _ (hc c List.mem_cons_self))
  have z := key cols 1 h
  rw [Nat.one_mul] at z
  exact z
section
variable {P : Program} {w : World} {K : PySem.W.Frag} {mg : Str → Option Value} {base : Heap}
theorem sc__law_rows_of : FnScope ["_law_columns", "_law_got", "_law_column", "_law_longer", "_law_line", "_law_item"] ["_law_columns"] (defScope s__law_rows_of) := ⟨rfl, rfl, rfl, by decide +kernel, rfl, by decide +kernel, by decide +kernel⟩
theorem ok__law_rows_of (B : Bs mg) (f : FnF K mg "_law_rows_of" "_law_rows_of" s__law_rows_of) : FnOk P w K mg base CX0 1 f.a f.d ["_law_columns"] spRowsOf := by
  refine f.F.ok sc__law_rows_of (fun vs H Q E h => ?_) (fun cdv A outer s H vs Q E hr h => ?_)
  · obtain ⟨c, cs, cols, rfl, _⟩ := h
    rfl
  · obtain ⟨c, cs, cols, rfl, hc, hC, c3, n3, q⟩ := h
    refine ⟨_, (pss_cons
      (ps_set (i := 1) sc__law_rows_of.nd rfl (Or.inl rfl) (pe_lst (pa_cons (pe_tup pa_nil) pa_nil)))
    (pss_cons
      (ps_for PassesOwn.never rfl (pi_list (pv 0)) (pg_name (i := 2) sc__law_rows_of.nd rfl (Or.inl rfl))
        (pss_cons
          (ps_set (i := 3) sc__law_rows_of.nd rfl (Or.inl rfl) (pe_lst pa_nil))
        (pss_cons
          (ps_for PassesOwn.never rfl (pi_list (pv 1)) (pg_name (i := 4) sc__law_rows_of.nd rfl (Or.inr rfl))
            (pss_one
              (ps_set (i := 3) sc__law_rows_of.nd rfl (Or.inl rfl) (pe_op op_cat (pv 3) (pe_lc (own := [("_law_item", 5)]) (g := gName 5) (by rfl) sc__law_rows_of.nd (pi_tup (pv 2)) (blkOk_by (own := [("_law_item", 5)]) (N := ["_law_columns", "_law_got", "_law_column", "_law_longer", "_law_line", "_law_item"]) (sc := defScope s__law_rows_of) (by decide +kernel)) (fun _ _ _ _ _ => (pg_name (i := 5) sc__law_rows_of.nd rfl (Or.inl rfl))) (fun _ _ _ _ _ => pts_nil)
                (fun _ _ _ _ _ => (pe_op (show OpR _ (binaryOp .Add) (rCatA K) from op_catA) (pv 4) (pe_tup (pa_cons (pv 5) pa_nil)))))))))
        (pss_one
          (ps_set (i := 1) sc__law_rows_of.nd rfl (Or.inl rfl) (pv 3))))))
    (pss_one
      (ps_ret (pv 1))))), ?_⟩
    refine ⟨by show 0 ≤ sizeLine; exact Nat.zero_le _, fun t ht => ⟨by show 1 ≤ sizeLine; decide, fun g0 hg0 => ?_⟩⟩
    have e0 : Same H (upd (upd H t (.tup [])) g0 (.lst [V.ref t])) := same_trans (same_new ht) (same_new hg0)
    have g0H : H g0 = none := (same_new ht).free hg0
    refine ⟨_, rfl, c, rfl, ⟨_, SqL.of (e0 _ _ hc)⟩, ?_⟩
    refine for_list (K := K) (a := c) (xs := cs) (fun i σ H' => ∃ (g : Addr) (rs : List V) (v2 v3 v4 : Option V), σ = [some (.ref c), some (.ref g), v2, v3, v4, none] ∧ H g = none ∧ Same H H' ∧ H' g = some (.lst rs) ∧ RowsAt H' rs (prods (cols.take i)))
      ⟨g0, _, none, none, none, rfl, g0H, e0, upd_same, .cons ⟨t, rfl, by rw [upd_ne (ne_of_none upd_same hg0), upd_same]; rfl⟩ .nil⟩ (fun i σ H' _ ⟨_, _, _, _, _, _, _, e, _⟩ => SqL.of (e _ _ hc)) ?_ ?_
    · rintro i y σ H1 hi ⟨g, rs, v2, v3, v4, rfl, gH, e1, hg, hR⟩
      obtain ⟨ds, hci, a, rfl, ha⟩ := each_get hC hi
      have ha := e1 _ _ ha
      have il : i < cols.length := (List.getElem?_eq_some_iff.mp hci).1
      have lim : (prods (cols.take (i + 1))).length ≤ 27 := by
        refine Nat.le_trans (prods_few3 _ fun x hx => c3 x (List.mem_of_mem_take hx)) ?_
        calc 3 ^ (cols.take (i + 1)).length ≤ 3 ^ 3 := Nat.pow_le_pow_right (by decide) (by rw [List.length_take]; omega)
          _ = 27 := rfl
      have rowlen : ∀ r ∈ prods (cols.take i), r.length ≤ 3 := fun r hr => by
        have z := rows_len [] [[]] 0 (by simp) (cols.take i) (List.Sublist.refl _) r hr
        rw [List.length_take] at z
        omega
      rw [prods_next hci] at lim ⊢
      have d3 := c3 ds (List.mem_of_getElem? hci)
      generalize prods (cols.take i) = R at hR lim rowlen ⊢
      refine ⟨by show 0 ≤ sizeLine; exact Nat.zero_le _, fun l0 hl0 => ?_⟩
      have l0H : H l0 = none := e1.free hl0
      have e2 : Same H1 (upd H1 l0 (.lst [])) := same_new hl0
      refine ⟨_, rfl, g, rfl, ⟨_, SqL.of (e2 _ _ hg)⟩, ?_⟩
      refine for_list (K := K) (a := g) (xs := rs) (fun j σ H' => ∃ (l : Addr) (acc : List V) (v4 : Option V), σ = [some (.ref c), some (.ref g), some (.ref a), some (.ref l), v4, none] ∧ H l = none ∧ Same H1 H' ∧ H' l = some (.lst acc) ∧ RowsAt H' acc (step (R.take j) ds))
        ⟨l0, _, v4, rfl, l0H, e2, upd_same, .nil⟩ (fun j σ H' _ ⟨_, _, _, _, _, e, _⟩ => SqL.of (e _ _ hg)) ?_ ?_
      · rintro j y σ H2 hj ⟨l, acc, v4, rfl, lH, e3, hl, hA⟩
        obtain ⟨ts, hRj, b, rfl, hb⟩ := each_get hR hj
        have hb2 := e3 _ _ hb
        have len1 : (step (R.take (j + 1)) ds).length ≤ 27 := Nat.le_trans (step_prefix _) lim
        rw [step_take hRj, List.length_append, List.length_map] at len1
        have tl : ts.length ≤ 3 := rowlen ts (List.mem_of_getElem? hRj)
        refine ⟨_, rfl, _, rfl, a, rfl, ⟨_, SqT.of (e3 _ _ ha)⟩, fun D hD => ?_⟩
        refine lc_tup (K := K) (xs := ds.map V.str) (fun k H' => ∃ ac, Same H2 H' ∧ H' D = some (.lst ac) ∧ RowsAt H' ac ((ds.take k).map fun c => ts ++ [c])) ⟨[], same_new hD, upd_same, .nil⟩ (fun k H' _ ⟨_, e, _⟩ => SqT.of (e _ _ (e3 _ _ ha))) ?_ ?_
        · rintro k z H3 hz ⟨ac, e4, hac, hB⟩
          rw [List.getElem?_map] at hz
          cases hck : ds[k]? with
          | none =>
            rw [hck] at hz
            cases hz
          | some ck =>
            rw [hck] at hz
            obtain rfl : V.str ck = z := Option.some.inj hz
            have kl : k < ds.length := (List.getElem?_eq_some_iff.mp hck).1
            have lac : ac.length ≤ 27 := by
              have z := hB.length
              rw [List.length_map, List.length_take] at z
              omega
            have fin : ∀ {H4 : Hp} {v : V}, Same H3 H4 → H4 D = some (.lst ac) → (∃ b, v = V.ref b ∧ H4 b = some (.tup ((ts ++ [ck]).map V.str))) →
                ∃ acc, H4 D = some (.lst acc) ∧ acc.length < sizeLine ∧ ∃ acc', Same H2 (upd H4 D (.lst (acc ++ [v]))) ∧ upd H4 D (.lst (acc ++ [v])) D = some (.lst acc') ∧
                  RowsAt (upd H4 D (.lst (acc ++ [v]))) acc' ((ds.take (k + 1)).map fun c => ts ++ [c]) := fun {H4 v} e5 h4 hv => by
              refine ⟨ac, h4, by rw [sizeLine_eq]; omega, ac ++ [v], same_put hD (same_trans e4 e5), upd_same, ?_⟩
              have hrow : RowsAt H4 (ac ++ [v]) ((ds.take (k + 1)).map fun c => ts ++ [c]) := by
                rw [take_next hck, List.map_append]
                exact each_snoc (hB.up e5) hv
              refine each_and hrow fun v ts _ ⟨b, e6, e7⟩ => ⟨b, e6, ?_⟩
              rw [upd_ne (ne_of e7 h4 (by intro z; cases z))]
              exact e7
            refine ⟨rfl, _, rfl, _, rfl, by show 1 ≤ sizeLine; decide, fun u hu => ?_⟩
            have e5 : Same H3 (upd H3 u (.tup [V.str ck])) := same_new hu
            refine ⟨b, u, ts.map V.str, [V.str ck], rfl, rfl, SqT.of (e5 _ _ (e4 _ _ hb2)), SqT.of upd_same, ?_, fun z => ?_, fun _ z => (nomatch z), fun _ _ p hp => ?_⟩
            · rw [List.length_map, sizeLine_eq]
              show ts.length + 1 ≤ _
              omega
            · have z2 : ts = [] := List.map_eq_nil_iff.mp z
              exact fin e5 (e5 _ _ hac) ⟨u, rfl, by rw [upd_same, z2]; rfl⟩
            · have e6 := same_trans e5 (same_new (o := .tup (ts.map V.str ++ [V.str ck])) hp)
              exact fin e6 (e6 _ _ hac) ⟨p, rfl, by rw [upd_same, List.map_append]; rfl⟩
        · rintro H3 ⟨ac, e4, hac, hB⟩
          rw [List.length_map, List.take_length] at hB
          have lA := hA.length
          have lB := hB.length
          rw [List.length_map] at lB
          refine ⟨l, D, acc, ac, rfl, rfl, e4 _ _ hl, hac, by rw [sizeLine_eq]; omega, fun p hp => ?_⟩
          have e5 : Same H3 (upd H3 p (.lst (acc ++ ac))) := same_new hp
          refine ⟨p, acc ++ ac, _, rfl, e1.free (e3.free (e4.free hp)), same_trans e3 (same_trans e4 e5), upd_same, ?_⟩
          rw [step_take hRj]
          exact each_app (hA.up (same_trans e4 e5)) (hB.up e5)
      · rintro σ H2 ⟨l, acc, v4, rfl, lH, e3, hl, hA⟩
        refine ⟨_, rfl, l, acc, _, _, _, rfl, lH, same_trans e1 e3, hl, ?_⟩
        rw [hR.length, List.take_length] at hA
        exact hA
    · rintro σ H1 ⟨g, rs, v2, v3, v4, rfl, gH, e1, hg, hR⟩
      refine ⟨_, rfl, ?_⟩
      rw [hC.length, List.take_length] at hR
      exact q g rs H1 gH e1 hg hR
theorem ok__law_rows_ofL (B : Bs mg) (f : FnF K mg "_law_rows_of" "_law_rows_of" s__law_rows_of) : FnOk P w K mg base CX0 1 f.a f.d ["_law_columns"] spRowsOfL := by
  refine f.F.ok sc__law_rows_of (fun vs H Q E h => ?_) (fun cdv A outer s H vs Q E hr h => ?_)
  · obtain ⟨c, cs, cols, rfl, _⟩ := h
    rfl
  · obtain ⟨c, cs, cols, rfl, hc, hC, c3, n3, q⟩ := h
    refine ⟨_, (pss_cons
      (ps_set (i := 1) sc__law_rows_of.nd rfl (Or.inl rfl) (pe_lst (pa_cons (pe_tup pa_nil) pa_nil)))
    (pss_cons
      (ps_for PassesOwn.never rfl (pi_list (pv 0)) (pg_name (i := 2) sc__law_rows_of.nd rfl (Or.inl rfl))
        (pss_cons
          (ps_set (i := 3) sc__law_rows_of.nd rfl (Or.inl rfl) (pe_lst pa_nil))
        (pss_cons
          (ps_for PassesOwn.never rfl (pi_list (pv 1)) (pg_name (i := 4) sc__law_rows_of.nd rfl (Or.inr rfl))
            (pss_one
              (ps_set (i := 3) sc__law_rows_of.nd rfl (Or.inl rfl) (pe_op op_cat (pv 3) (pe_lc (own := [("_law_item", 5)]) (g := gName 5) (by rfl) sc__law_rows_of.nd (pi_list (pv 2)) (blkOk_by (own := [("_law_item", 5)]) (N := ["_law_columns", "_law_got", "_law_column", "_law_longer", "_law_line", "_law_item"]) (sc := defScope s__law_rows_of) (by decide +kernel)) (fun _ _ _ _ _ => (pg_name (i := 5) sc__law_rows_of.nd rfl (Or.inl rfl))) (fun _ _ _ _ _ => pts_nil)
                (fun _ _ _ _ _ => (pe_op (show OpR _ (binaryOp .Add) (rCatA K) from op_catA) (pv 4) (pe_tup (pa_cons (pv 5) pa_nil)))))))))
        (pss_one
          (ps_set (i := 1) sc__law_rows_of.nd rfl (Or.inl rfl) (pv 3))))))
    (pss_one
      (ps_ret (pv 1))))), ?_⟩
    refine ⟨by show 0 ≤ sizeLine; exact Nat.zero_le _, fun t ht => ⟨by show 1 ≤ sizeLine; decide, fun g0 hg0 => ?_⟩⟩
    have e0 : Same H (upd (upd H t (.tup [])) g0 (.lst [V.ref t])) := same_trans (same_new ht) (same_new hg0)
    have g0H : H g0 = none := (same_new ht).free hg0
    refine ⟨_, rfl, c, rfl, ⟨_, SqL.of (e0 _ _ hc)⟩, ?_⟩
    refine for_list (K := K) (a := c) (xs := cs) (fun i σ H' => ∃ (g : Addr) (rs : List V) (v2 v3 v4 : Option V), σ = [some (.ref c), some (.ref g), v2, v3, v4, none] ∧ H g = none ∧ Same H H' ∧ H' g = some (.lst rs) ∧ RowsAt H' rs (prods (cols.take i)))
      ⟨g0, _, none, none, none, rfl, g0H, e0, upd_same, .cons ⟨t, rfl, by rw [upd_ne (ne_of_none upd_same hg0), upd_same]; rfl⟩ .nil⟩ (fun i σ H' _ ⟨_, _, _, _, _, _, _, e, _⟩ => SqL.of (e _ _ hc)) ?_ ?_
    · rintro i y σ H1 hi ⟨g, rs, v2, v3, v4, rfl, gH, e1, hg, hR⟩
      obtain ⟨ds, hci, a, rfl, ha⟩ := each_get hC hi
      have ha := e1 _ _ ha
      have il : i < cols.length := (List.getElem?_eq_some_iff.mp hci).1
      have lim : (prods (cols.take (i + 1))).length ≤ 27 := by
        refine Nat.le_trans (prods_few3 _ fun x hx => c3 x (List.mem_of_mem_take hx)) ?_
        calc 3 ^ (cols.take (i + 1)).length ≤ 3 ^ 3 := Nat.pow_le_pow_right (by decide) (by rw [List.length_take]; omega)
          _ = 27 := rfl
      have rowlen : ∀ r ∈ prods (cols.take i), r.length ≤ 3 := fun r hr => by
        have z := rows_len [] [[]] 0 (by simp) (cols.take i) (List.Sublist.refl _) r hr
        rw [List.length_take] at z
        omega
      rw [prods_next hci] at lim ⊢
      have d3 := c3 ds (List.mem_of_getElem? hci)
      generalize prods (cols.take i) = R at hR lim rowlen ⊢
      refine ⟨by show 0 ≤ sizeLine; exact Nat.zero_le _, fun l0 hl0 => ?_⟩
      have l0H : H l0 = none := e1.free hl0
      have e2 : Same H1 (upd H1 l0 (.lst [])) := same_new hl0
      refine ⟨_, rfl, g, rfl, ⟨_, SqL.of (e2 _ _ hg)⟩, ?_⟩
      refine for_list (K := K) (a := g) (xs := rs) (fun j σ H' => ∃ (l : Addr) (acc : List V) (v4 : Option V), σ = [some (.ref c), some (.ref g), some (.ref a), some (.ref l), v4, none] ∧ H l = none ∧ Same H1 H' ∧ H' l = some (.lst acc) ∧ RowsAt H' acc (step (R.take j) ds))
        ⟨l0, _, v4, rfl, l0H, e2, upd_same, .nil⟩ (fun j σ H' _ ⟨_, _, _, _, _, e, _⟩ => SqL.of (e _ _ hg)) ?_ ?_
      · rintro j y σ H2 hj ⟨l, acc, v4, rfl, lH, e3, hl, hA⟩
        obtain ⟨ts, hRj, b, rfl, hb⟩ := each_get hR hj
        have hb2 := e3 _ _ hb
        have len1 : (step (R.take (j + 1)) ds).length ≤ 27 := Nat.le_trans (step_prefix _) lim
        rw [step_take hRj, List.length_append, List.length_map] at len1
        have tl : ts.length ≤ 3 := rowlen ts (List.mem_of_getElem? hRj)
        refine ⟨_, rfl, _, rfl, a, rfl, ⟨_, SqL.of (e3 _ _ ha)⟩, fun D hD => ?_⟩
        refine lc_list (K := K) (xs := ds.map V.str) (fun k H' => ∃ ac, Same H2 H' ∧ H' D = some (.lst ac) ∧ RowsAt H' ac ((ds.take k).map fun c => ts ++ [c])) ⟨[], same_new hD, upd_same, .nil⟩ (fun k H' _ ⟨_, e, _⟩ => SqL.of (e _ _ (e3 _ _ ha))) ?_ ?_
        · rintro k z H3 hz ⟨ac, e4, hac, hB⟩
          rw [List.getElem?_map] at hz
          cases hck : ds[k]? with
          | none =>
            rw [hck] at hz
            cases hz
          | some ck =>
            rw [hck] at hz
            obtain rfl : V.str ck = z := Option.some.inj hz
            have kl : k < ds.length := (List.getElem?_eq_some_iff.mp hck).1
            have lac : ac.length ≤ 27 := by
              have z := hB.length
              rw [List.length_map, List.length_take] at z
              omega
            have fin : ∀ {H4 : Hp} {v : V}, Same H3 H4 → H4 D = some (.lst ac) → (∃ b, v = V.ref b ∧ H4 b = some (.tup ((ts ++ [ck]).map V.str))) →
                ∃ acc, H4 D = some (.lst acc) ∧ acc.length < sizeLine ∧ ∃ acc', Same H2 (upd H4 D (.lst (acc ++ [v]))) ∧ upd H4 D (.lst (acc ++ [v])) D = some (.lst acc') ∧
                  RowsAt (upd H4 D (.lst (acc ++ [v]))) acc' ((ds.take (k + 1)).map fun c => ts ++ [c]) := fun {H4 v} e5 h4 hv => by
              refine ⟨ac, h4, by rw [sizeLine_eq]; omega, ac ++ [v], same_put hD (same_trans e4 e5), upd_same, ?_⟩
              have hrow : RowsAt H4 (ac ++ [v]) ((ds.take (k + 1)).map fun c => ts ++ [c]) := by
                rw [take_next hck, List.map_append]
                exact each_snoc (hB.up e5) hv
              refine each_and hrow fun v ts _ ⟨b, e6, e7⟩ => ⟨b, e6, ?_⟩
              rw [upd_ne (ne_of e7 h4 (by intro z; cases z))]
              exact e7
            refine ⟨rfl, _, rfl, _, rfl, by show 1 ≤ sizeLine; decide, fun u hu => ?_⟩
            have e5 : Same H3 (upd H3 u (.tup [V.str ck])) := same_new hu
            refine ⟨b, u, ts.map V.str, [V.str ck], rfl, rfl, SqT.of (e5 _ _ (e4 _ _ hb2)), SqT.of upd_same, ?_, fun z => ?_, fun _ z => (nomatch z), fun _ _ p hp => ?_⟩
            · rw [List.length_map, sizeLine_eq]
              show ts.length + 1 ≤ _
              omega
            · have z2 : ts = [] := List.map_eq_nil_iff.mp z
              exact fin e5 (e5 _ _ hac) ⟨u, rfl, by rw [upd_same, z2]; rfl⟩
            · have e6 := same_trans e5 (same_new (o := .tup (ts.map V.str ++ [V.str ck])) hp)
              exact fin e6 (e6 _ _ hac) ⟨p, rfl, by rw [upd_same, List.map_append]; rfl⟩
        · rintro H3 ⟨ac, e4, hac, hB⟩
          rw [List.length_map, List.take_length] at hB
          have lA := hA.length
          have lB := hB.length
          rw [List.length_map] at lB
          refine ⟨l, D, acc, ac, rfl, rfl, e4 _ _ hl, hac, by rw [sizeLine_eq]; omega, fun p hp => ?_⟩
          have e5 : Same H3 (upd H3 p (.lst (acc ++ ac))) := same_new hp
          refine ⟨p, acc ++ ac, _, rfl, e1.free (e3.free (e4.free hp)), same_trans e3 (same_trans e4 e5), upd_same, ?_⟩
          rw [step_take hRj]
          exact each_app (hA.up (same_trans e4 e5)) (hB.up e5)
      · rintro σ H2 ⟨l, acc, v4, rfl, lH, e3, hl, hA⟩
        refine ⟨_, rfl, l, acc, _, _, _, rfl, lH, same_trans e1 e3, hl, ?_⟩
        rw [hR.length, List.take_length] at hA
        exact hA
    · rintro σ H1 ⟨g, rs, v2, v3, v4, rfl, gH, e1, hg, hR⟩
      refine ⟨_, rfl, ?_⟩
      rw [hC.length, List.take_length] at hR
      exact q g rs H1 gH e1 hg hR
end
end K01
/-! _law_lines: rows that are drawn. -/
namespace K01
open PySem PySem.Spec PyProof.Rows L2 KG KS KA
abbrev s__law_lines : Stmt := top 25
/-- [row for row in list if ..], the row known to be of the list -/
theorem lc_filtM {K : PySem.W.Frag} {e : Addr} {es : List V} {E : List (List Str)} {k : Nat} {tt : TT} {vs : List Nat} {σ : L2.St} {H1 : Hp} {D : Addr} {Qd : Hp → Prop} (p : List Str → Bool)
    (hD : H1 D = none) (he : H1 e = some (.lst es)) (hE : RowsAt H1 es E) (lim : E.length < 100000) (hk : k < σ.length) (hv : ∀ v : V, wipe ((wipe σ vs).set k (some v)) vs = wipe σ vs)
    (ht : ∀ (ts : List Str) (b : Addr) (H3 : Hp) (Z : Bool → Hp → Prop), ts ∈ E → Same H1 H3 → H3 b = some (.tup (ts.map V.str)) → Z (p ts) H3 → tt ((wipe σ vs).set k (some (.ref b))) H3 Z)
    (q : ∀ (ac : List V) (H' : Hp), Same H1 H' → H' D = some (.lst ac) → RowsAt H' ac (E.filter p) → Qd H') :
    ∃ W : Nat → Nat → Hp → Prop, (∃ m, W 0 m (upd H1 D (.lst []))) ∧ ∀ i m H, W i m H →
      ((Itl K e).stop i H ∧ Qd H) ∨ ((Itl K e).go i H ∧ ∃ Nx : Hp → Prop, (∀ H', Nx H' → ∃ m', m' < m ∧ W (i + 1) m' H') ∧ ∀ x H', (Itl K e).yld i H x H' → gName k x (wipe σ vs) H' fun σ2 H2 => wipe σ2 vs = wipe σ vs ∧ tt σ2 H2 fun b H3 =>
        if b = true then tVar k σ2 H3 fun y H4 => ∃ acc, H4 D = some (.lst acc) ∧ acc.length < sizeLine ∧ Nx (upd H4 D (.lst (acc ++ [y]))) else Nx H3) := by
  refine lc_list (K := K) (xs := es) (fun i H' => ∃ ac, Same H1 H' ∧ H' D = some (.lst ac) ∧ RowsAt H' ac ((E.take i).filter p)) ⟨[], same_new hD, upd_same, .nil⟩ (fun i H' _ ⟨_, e1, _⟩ => SqL.of (e1 _ _ he)) ?_ ?_
  · rintro i z H3 hz ⟨ac, e3, hac, hB⟩
    obtain ⟨ts, hEi, b, rfl, hb⟩ := each_get hE hz
    refine ⟨hv _, ht ts b H3 _ (List.mem_of_getElem? hEi) e3 (e3 _ _ hb) ?_⟩
    have z := filt_step p hD e3 hac hB hEi (e3 _ _ hb) lim
    show if p ts = true then _ else _
    by_cases c : p ts = true
    · rw [if_pos c] at z ⊢
      obtain ⟨acc, h1, h2, h3⟩ := z
      exact ⟨.ref b, by rw [List.getElem?_set_self (by rw [wipe_length]; exact hk)], acc, h1, h2, h3⟩
    · rw [if_neg c] at z ⊢
      exact z
  · rintro H3 ⟨ac, e3, hac, hB⟩
    rw [hE.length, List.take_length] at hB
    exact q ac H3 e3 hac hB
theorem DeckAt.put {H : Hp} {d l D : Addr} {k : Nat} {o : HO} (x : DeckAt H d l k) (h : D ≠ d ∧ D ≠ l) : DeckAt (upd H D o) d l k := by
  obtain ⟨cs, mm, n, h1, h2, h3⟩ := x.ex
  exact ⟨cs, mm, n, by rw [upd_ne h.1.symm]; exact h1, by rw [upd_ne h.2.symm]; exact h2, h3⟩
theorem Off.put {H H' : Hp} {d l D : Addr} {o : HO} (x : Off d l H H') (h : H D = none) : Off d l H (upd H' D o) := fun b u hb n1 n2 => by
  rw [upd_ne (ne_of_none hb h)]
  exact x b u hb n1 n2
/-- lists of texts, none of them the deck's, none at C -/
abbrev LstsOff (l C : Addr) (H : Hp) : List V → List (List Str) → Prop := W.EachIs fun v ts => ∃ a, v = V.ref a ∧ (a ≠ l ∧ a ≠ C) ∧ H a = some (.lst (ts.map V.str))
theorem LstsOff.off {H H' : Hp} {d l C : Addr} {k : Nat} {vs : List V} {R : List (List Str)} (h : LstsOff l C H vs R) (D : DeckAt H d l k) (o : Off d l H H') : LstsOff l C H' vs R :=
  each_and h fun v ts _ ⟨a, e1, n, e2⟩ => ⟨a, e1, n, lst_off e2 n.1 D o⟩
theorem LstsOff.up {H H' : Hp} {l C : Addr} {vs : List V} {R : List (List Str)} (h : LstsOff l C H vs R) (e : Same H H') : LstsOff l C H' vs R := each_and h fun v ts _ ⟨a, e1, n, e2⟩ => ⟨a, e1, n, e _ _ e2⟩
theorem LstsOff.put {H : Hp} {l C : Addr} {o : HO} {vs : List V} {R : List (List Str)} (h : LstsOff l C H vs R) : LstsOff l C (upd H C o) vs R := each_and h fun v ts _ ⟨a, e1, n, e2⟩ => ⟨a, e1, n, by rw [upd_ne n.2]; exact e2⟩
theorem LstsOff.at_ {H : Hp} {l C : Addr} {vs : List V} {R : List (List Str)} (h : LstsOff l C H vs R) : LstsAt H vs R := each_and h fun v ts _ ⟨a, e1, n, e2⟩ => ⟨a, e1, e2⟩
theorem fold_in {P : Str → Prop} : ∀ (cols R : List (List Str)), (∀ c ∈ cols, ∀ x ∈ c, P x) → (∀ r ∈ R, ∀ x ∈ r, P x) → ∀ r ∈ cols.foldl step R, ∀ x ∈ r, P x
  | [], R, _, h, r, hr => h r hr
  | c :: cols, R, hc, h, r, hr => fold_in cols (step R c) (fun c' h' => hc c' (List.mem_cons_of_mem _ h')) (fun q hq x hx => by
      obtain ⟨q0, h0, h1⟩ := List.mem_flatMap.mp hq
      obtain ⟨y, hy, rfl⟩ := List.mem_map.mp h1
      rcases List.mem_append.mp hx with h2 | h2
      · exact h q0 h0 x h2
      · rw [List.mem_singleton.mp h2]
        exact hc c List.mem_cons_self y hy) r hr
theorem prods_in {P : Str → Prop} {cols : List (List Str)} (h : ∀ c ∈ cols, ∀ x ∈ c, P x) : ∀ r ∈ prods cols, ∀ x ∈ r, P x := fold_in cols [[]] h (by simp)
theorem prods_row {cols : List (List Str)} {r : List Str} (h : r ∈ prods cols) : r.length = cols.length := by
  have z := rows_len [] [[]] 0 (by simp) cols (List.Sublist.refl _) r h
  omega
theorem rows_few {ds : List Str} {n : Nat} {R : List (List Str)} (dom : DomOk ds n) (asc : Asc R) (row : ∀ r ∈ R, r.length = n ∧ ∀ x ∈ r, x ∈ ds) : R.length ≤ 27 := by
  have sub : ∀ r ∈ R, r ∈ allR n ds := fun r hr => mem_allR (row r hr).1 (row r hr).2
  have lim := allR_le dom.2.2.2.2.2 dom.2.2.2.1
  rcases Nat.le_total R.length (allR n ds).length with h | h
  · omega
  · have := (perm_of_sub R (allR n ds) (asc_nodup asc) sub h).length_eq
    omega
/-- drawn rows, ascending -/
def spLinesR : Sp := fun vs H Q _ => ∃ (d l wd : Addr) (ds : List Str) (n k : Nat), vs = [.ref d, .ref wd, .int (n : Nat)] ∧ DeckAt H d l k ∧ k + 40 < 1000000000 ∧ DomOk ds n ∧ H wd = some (.tup (ds.map V.str)) ∧
  ∀ (p : Addr) (rs : List V) (R : List (List Str)) (H' : Hp), H' p = some (.lst rs) → RowsAt H' rs R → Asc R → (∀ r ∈ R, r.length = n ∧ ∀ x ∈ r, x ∈ ds) → p ≠ l → DeckAt H' d l (k + 40) → Off d l H H' → Q (.ref p) H'
section
variable {P : Program} {w : World} {K : PySem.W.Frag} {mg : Str → Option Value} {base : Heap}
theorem sc__law_lines : FnScope ["_law_deck_here", "_law_words_here", "_law_size", "_law_columns", "_law_every", "_law_way", "_law_gone", "_law_k", "_law_word", "_law_line"] ["_law_deck_here", "_law_words_here", "_law_size"] (defScope s__law_lines) := ⟨rfl, rfl, rfl, by decide +kernel, rfl, by decide +kernel, by decide +kernel⟩
theorem ok__law_lines (B : Bs mg) (f : FnF K mg "_law_lines" "_law_lines" s__law_lines) (fd : FnF K mg "_law_draw" "_law_draw" s__law_draw) (fp : FnF K mg "_law_pick" "_law_pick" s__law_pick) (fr : FnF K mg "_law_rows_of" "_law_rows_of" s__law_rows_of) :
    FnOk P w K mg base CX0 3 f.a f.d ["_law_deck_here", "_law_words_here", "_law_size"] spLinesR := by
  have GD := ok__law_draw (P := P) (w := w) (base := base) B.toBi fd
  have bD : Binds K fd.d ["_law_deck_here", "_law_many"] [] := fd.F.binds fun _ _ _ _ _ _ us hl => match us, hl with | [_, _], _ => rfl
  have GP := ok__law_pick (P := P) (w := w) (base := base) B.toBi fp fd
  have bP : Binds K fp.d ["_law_deck_here", "_law_some"] [] := fp.F.binds fun _ _ _ _ _ _ us hl => match us, hl with | [_, _], _ => rfl
  have GR := ok__law_rows_of (P := P) (w := w) (base := base) B fr
  have GRL := ok__law_rows_ofL (P := P) (w := w) (base := base) B fr
  have bR : Binds K fr.d ["_law_columns"] [] := fr.F.binds fun _ _ _ _ _ _ us hl => match us, hl with | [_], _ => rfl
  refine f.F.ok sc__law_lines (fun vs H Q E h => ?_) (fun cdv A outer s H vs Q E hr h => ?_)
  · obtain ⟨d, l, wd, ds, n, k, rfl, _⟩ := h
    rfl
  · obtain ⟨d, l, wd, ds, n, k, rfl, D, hk, dom, hwd, q⟩ := h
    have hu64 := hr.units
    have hr1 : Room 1 _ := hr.mono (by omega)
    refine ⟨_, (pss_cons
      (ps_setLc (i := 3) (own := [("_law_k", 7)]) (g := gName 7) (by rfl) sc__law_lines.nd rfl rfl (sw_true rfl rfl rfl (by decide +kernel)) (pi_range1 rfl B.n_range (pa_cons (pv 2) pa_nil)) (blkOk_by (own := [("_law_k", 7)]) (N := ["_law_deck_here", "_law_words_here", "_law_size", "_law_columns", "_law_every", "_law_way", "_law_gone", "_law_k", "_law_word", "_law_line"]) (sc := defScope s__law_lines) (by decide +kernel)) (fun _ _ _ _ _ => (pg_name (i := 7) sc__law_lines.nd rfl (Or.inl rfl))) (fun _ _ _ _ _ => pts_nil)
        (fun _ _ _ _ _ => (pe_lc (own := [("_law_word", 8)]) (g := gName 8) (by rfl) sc__law_lines.nd (show PI _ _ _ (iTup K (tVar 1)) from pi_tup (pv 1)) (blkOk_by (own := [("_law_word", 8)]) (N := ["_law_deck_here", "_law_words_here", "_law_size", "_law_columns", "_law_every", "_law_way", "_law_gone", "_law_k", "_law_word", "_law_line"]) (by kernel_rfl)) (fun _ _ _ _ _ => (pg_name (i := 8) sc__law_lines.nd rfl (Or.inl rfl)))
          (fun _ _ _ _ _ => (pts_one (pt_cmpR op_gt (pe_call GD hr1 (by rfl) fd.g fd.F.kp bD .nil pass0 (pa_cons (pv 0) (pa_cons pe_int pa_nil))) pe_int (nomark _)))) (fun _ _ _ _ _ => (pv 8)))))
    (pss_cons
      (ps_asg (pe_tup (pa_cons (pe_call GR hr1 rfl fr.g fr.F.kp bR .nil pass0 (pa_cons (pe_op op_rep (pe_lst (pa_cons (pv 1) pa_nil)) (pv 2)) pa_nil)) (pa_cons (pe_call GD hr1 rfl fd.g fd.F.kp bD .nil pass0 (pa_cons (pv 0) (pa_cons pe_int pa_nil))) pa_nil))) (pg_tup (by rfl) (pgs_cons (pg_name (i := 4) sc__law_lines.nd rfl (Or.inl rfl)) (pgs_cons (pg_name (i := 5) sc__law_lines.nd rfl (Or.inr rfl)) pgs_nil))))
    (pss_cons
      (ps_if (pt_cmpR op_lt (pv 5) pe_int (nomark _))
        (pss_one
          (ps_ret (pe_call GRL hr1 rfl fr.g fr.F.kp bR .nil pass0 (pa_cons (pv 3) pa_nil))))
        pss_nil)
    (pss_cons
      (ps_if (pt_cmpR op_eq (pv 5) pe_int (nomark _))
        (pss_cons
          (ps_set (i := 6) sc__law_lines.nd rfl (Or.inr rfl) (pe_call GP hr rfl fp.g fp.F.kp bP .nil pass0 (pa_cons (pv 0) (pa_cons (pv 4) pa_nil))))
        (pss_one
          (ps_ret (pe_lc (own := [("_law_line", 9)]) (g := gName 9) (by rfl) sc__law_lines.nd (pi_list (pe_call GRL hr1 rfl fr.g fr.F.kp bR .nil pass0 (pa_cons (pv 3) pa_nil))) (blkOk_by (own := [("_law_line", 9)]) (N := ["_law_deck_here", "_law_words_here", "_law_size", "_law_columns", "_law_every", "_law_way", "_law_gone", "_law_k", "_law_word", "_law_line"]) (sc := defScope s__law_lines) (by decide +kernel)) (fun _ _ _ _ _ => (pg_name (i := 9) sc__law_lines.nd rfl (Or.inl rfl)))
            (fun _ _ _ _ _ => (pts_one (pt_cmpR (show OpR _ (compareOp .NotEq) (rNeD K) from op_neD hu64) (pv 9) (pv 6) (nomark _)))) (fun _ _ _ _ _ => (pv 9))))))
        pss_nil)
    (pss_one
      (ps_ret (pe_lc (own := [("_law_line", 9)]) (g := gName 9) (by rfl) sc__law_lines.nd (pi_list (pv 4)) (blkOk_by (own := [("_law_line", 9)]) (N := ["_law_deck_here", "_law_words_here", "_law_size", "_law_columns", "_law_every", "_law_way", "_law_gone", "_law_k", "_law_word", "_law_line"]) (sc := defScope s__law_lines) (by decide +kernel)) (fun _ _ _ _ _ => (pg_name (i := 9) sc__law_lines.nd rfl (Or.inl rfl)))
        (fun _ _ _ _ _ => (pts_one (pt_cmpR op_eq (pe_call GD hr1 (by rfl) fd.g fd.F.kp bD .nil pass0 (pa_cons (pv 0) (pa_cons (pe_op op_sub (pv 5) pe_int) pa_nil))) pe_int (nomark _)))) (fun _ _ _ _ _ => (pv 9))))))))), ?_⟩
    have dasc := dom.1
    have d3 := dom.2.2.2.1
    have n3 := dom.2.2.2.2.2
    -- columns
    refine ⟨_, rfl, (n : Nat), rfl, by omega, by omega, fun C hC => ?_⟩
    have hCl := D.ne hC
    refine lc_range (lo := 0) (n := ((n : Nat) : Int).toNat) (fun i H' => ∃ (cs : List V) (cols : List (List Str)), Off d l H H' ∧ DeckAt H' d l (k + 3 * i) ∧ H' C = some (.lst cs) ∧ LstsOff l C H' cs cols ∧ cols.length = i ∧ ∀ c ∈ cols, c.Sublist ds)
      ⟨[], [], Off.of (same_new hC), D.same (same_new hC), upd_same, .nil, rfl, fun _ z => (nomatch z)⟩ ?_ ?_
    · rintro i H1 hi ⟨cs, cols, o1, D1, hC1, hL, len, sub⟩
      have hi2 : i < n := by simpa using hi
      have hwd1 := tup_off hwd D o1
      refine ⟨rfl, _, rfl, wd, rfl, ⟨_, SqT.of hwd1⟩, fun I hI => ?_⟩
      have hIl := D1.ne hI
      have nCI : I ≠ C := (ne_of_none hC1 hI).symm
      refine lc_tup (K := K) (xs := ds.map V.str) (fun j H' => ∃ (c : List Str), Off d l H1 H' ∧ DeckAt H' d l (k + 3 * i + j) ∧ H' I = some (.lst (c.map V.str)) ∧ c.Sublist (ds.take j)) ⟨[], Off.of (same_new hI), D1.same (same_new hI), upd_same, List.nil_sublist _⟩
        (fun j H' _ ⟨_, o, _⟩ => SqT.of (tup_off hwd1 D1 o)) ?_ ?_
      · rintro j z H2 hz ⟨c, o2, D2, hI2, sb⟩
        rw [List.getElem?_map] at hz
        cases hx : ds[j]? with
        | none =>
          rw [hx] at hz
          cases hz
        | some x =>
          rw [hx] at hz
          obtain rfl : V.str x = z := Option.some.inj hz
          have jl : j < ds.length := (List.getElem?_eq_some_iff.mp hx).1
          refine ⟨rfl, _, rfl, d, l, 3, k + 3 * i + j, rfl, D2, by decide, by decide, by omega, fun m H3 m0 m1 D3 o3 => ⟨_, _, rfl, rfl, _, rfl, ?_⟩⟩
          have hI3 := lst_off hI2 hIl.2 D2 o3
          have sl := sb.length_le
          rw [List.length_take] at sl
          cases (decide (m > 0)) with
          | false => exact ⟨c, o2.trans o3, D3, hI3, sub_skip sb⟩
          | true =>
            refine ⟨_, rfl, _, hI3, by rw [List.length_map, sizeLine_eq]; omega, c ++ [x], (o2.trans o3).put hI, D3.put hIl, by rw [upd_same, List.map_append]; rfl, sub_more sb hx⟩
      · rintro H2 ⟨c, o2, D2, hI2, sb⟩
        rw [List.length_map] at D2
        rw [List.length_map, List.take_length] at sb
        have hC2 := lst_off hC1 hCl.2 D1 o2
        refine ⟨cs, hC2, by have := hL.length; rw [sizeLine_eq]; omega, cs ++ [.ref I], cols ++ [c], (o1.trans o2).put hC, (D2.up (k := k + 3 * (i + 1)) (by omega)).put hCl, upd_same, ?_, by rw [List.length_append, len]; rfl, fun x hx => ?_⟩
        · exact LstsOff.put (each_snoc (hL.off D1 o2) ⟨I, rfl, ⟨hIl.2, nCI⟩, hI2⟩)
        · rcases List.mem_append.mp hx with h | h
          · exact sub x h
          · rw [List.mem_singleton.mp h]
            exact sb
    · rintro H1 ⟨cs, cols, o1, D1, hC1, hL, len, sub⟩
      have len : cols.length = n := by simpa using len
      have D1 : DeckAt H1 d l (k + 9) := D1.up (by simp; omega)
      have hwd1 := tup_off hwd D o1
      have colA : ∀ c ∈ cols, AscT c := fun c hc => List.Pairwise.sublist (sub c hc) dasc
      have col3 : ∀ c ∈ cols, c.length ≤ 3 := fun c hc => Nat.le_trans (sub c hc).length_le d3
      have pasc : Asc (prods cols) := prods_asc0 colA
      have prow : ∀ r ∈ prods cols, r.length = n ∧ ∀ x ∈ r, x ∈ ds := fun r hr => ⟨by rw [prods_row hr, len], prods_in (P := fun x => x ∈ ds) (fun c hc x hx => (sub c hc).subset hx) r hr⟩
      have Easc : Asc (allR n ds) := allR_asc dasc
      have Erow : ∀ r ∈ allR n ds, r.length = n ∧ ∀ x ∈ r, x ∈ ds := fun r hr => ⟨allR_row hr, allR_mem hr⟩
      -- every, way
      refine ⟨_, rfl, by show 1 ≤ sizeLine; decide, fun u hu => ⟨_, rfl, u, (n : Nat), [V.ref wd], rfl, rfl, upd_same, by omega, by omega, (by rw [sizeLine_eq]; show 1 * _ ≤ _; omega), fun v hv => ?_⟩⟩
      have e2 : Same H1 (upd (upd H1 u (.lst [V.ref wd])) v (.lst (List.replicate (n : Int).toNat [V.ref wd]).flatten)) := same_trans (same_new hu) (same_new hv)
      have hv2 : upd (upd H1 u (.lst [V.ref wd])) v (.lst (List.replicate (n : Int).toNat [V.ref wd]).flatten) v = some (.lst (List.replicate n (V.ref wd))) := by
        rw [upd_same, flat_rep]
        rfl
      generalize upd (upd H1 u (.lst [V.ref wd])) v (.lst (List.replicate (n : Int).toNat [V.ref wd]).flatten) = H2 at e2 hv2 ⊢
      have rep : RowsAt H2 (List.replicate n (V.ref wd)) (List.replicate n ds) := by
        have key : ∀ k, RowsAt H2 (List.replicate k (V.ref wd)) (List.replicate k ds) := fun k => by
          induction k with
          | zero => exact .nil
          | succ k ih => exact .cons ⟨wd, rfl, e2 _ _ hwd1⟩ ih
        exact key n
      refine ⟨v, _, List.replicate n ds, rfl, hv2, rep, fun c hc => by rw [List.eq_of_mem_replicate hc]; exact d3, by rw [List.length_replicate]; exact n3, fun ev es H3 hev e3 hev3 hE => ?_⟩
      have hE : RowsAt H3 es (allR n ds) := hE
      have e13 := same_trans e2 e3
      have D3 := D1.same e13
      have nev : ev ≠ l := ((D1.same e2).ne hev).2
      refine ⟨_, rfl, d, l, 6, k + 9, rfl, D3, by decide, by decide, by omega, fun way H4 w0 w1 D4 o4 => ⟨by show 2 ≤ sizeLine; decide, fun tp htp => ?_⟩⟩
      have e5 : Same H4 (upd H4 tp (.tup [V.ref ev, V.int way])) := same_new htp
      refine ⟨tp, _, rfl, SqT.of upd_same, rfl, _, _, rfl, _, _, rfl, rfl, ?_⟩
      have D5 := D4.same e5
      have hev5 := e5 _ _ (lst_off hev3 nev D3 o4)
      have hE5 := (hE.off D3 o4).up e5
      have hC5 := e5 _ _ (lst_off (e13 _ _ hC1) hCl.2 D3 o4)
      have hL5 := ((hL.up e13).off D3 o4).up e5
      have o5 := o1.trans ((Off.of e13).trans (o4.trans (Off.of e5)))
      generalize upd H4 tp (.tup [V.ref ev, V.int way]) = H5 at D5 hev5 hE5 hC5 hL5 o5 ⊢
      clear o4 e5 htp hwd1 hE hev3 hev e3 e13 D3 D4 hv2 rep e2 hu hv
      -- way < 2
      refine ⟨_, rfl, _, _, rfl, rfl, _, rfl, ite2 (fun c => ?_) fun c1 => ?_⟩
      · refine ⟨_, rfl, C, cs, cols, rfl, hC5, hL5.at_, col3, by omega, fun p rs H6 hp e6 hp6 hR => ?_⟩
        exact q p rs (prods cols) H6 hp6 hR pasc prow (D5.ne hp).2 ((D5.same e6).up (by omega)) (o5.trans (Off.of e6))
      have es27 : es.length ≤ 27 := by
        rw [hE5.length]
        exact allR_le n3 d3
      have es1 : 1 ≤ es.length := by
        rw [hE5.length, allR_len]
        exact Nat.pow_pos dom.2.2.1
      refine ⟨_, rfl, rfl, _, rfl, ite2 (fun c => ?_) fun c2 => ?_⟩
      · -- all rows but one
        refine ⟨_, rfl, _, rfl, d, l, ev, es, k + 10, rfl, D5, hev5, nev, by omega, by omega, by omega, fun v H6 hv D6 o6 => ?_⟩
        obtain ⟨gi, hgi⟩ := List.getElem?_of_mem hv
        obtain ⟨gt, hgt, gb, rfl, hgb⟩ := each_get (hE5.off D5 o6) hgi
        have gm := Erow gt (List.mem_of_getElem? hgt)
        refine ⟨_, rfl, C, cs, cols, rfl, lst_off hC5 hCl.2 D5 o6, (hL5.off D5 o6).at_, col3, by omega, fun p rs H7 hp e7 hp7 hR => ⟨p, rfl, ⟨_, SqL.of hp7⟩, fun G hG => ?_⟩⟩
        have pf := rows_few dom pasc prow
        refine lc_filtM (K := K) (k := 9) (fun r => !decide (r = gt)) hG hp7 hR (by omega) (by show 9 < 10; decide) (fun v => rfl) (fun ts x H' Z mt e hx z => ?_) fun ac H8 e8 hG8 hac => ?_
        · refine ⟨_, rfl, _, rfl, txd ts, txd gt, .tup (SqT.of hx) (texts_dp ts), .tup (SqT.of (e _ _ (e7 _ _ hgb))) (texts_dp gt), txd_shaped fun x hx => name_strOk (dom.2.1 x ((prow ts mt).2 x hx)), txd_shaped fun x hx => name_strOk (dom.2.1 x (gm.2 x hx)), _, rfl, ?_⟩
          rw [eqv_row]
          exact z
        · have D7 := D6.same e7
          exact q G ac _ H8 hG8 hac (pasc.filter _) (fun r hr => prow r (List.mem_filter.mp hr).1) (D7.ne hG).2 ((D7.same e8).up (by omega)) (o5.trans (o6.trans (Off.of (same_trans e7 e8))))
      · -- some of all rows
        have w3 : 3 ≤ way := by
          have a1 : ¬ way < 2 := fun z => c1 (decide_eq_true z)
          have a2 : ¬ way = 2 := fun z => c2 (by rw [z]; rfl)
          omega
        refine ⟨_, rfl, ev, rfl, ⟨_, SqL.of hev5⟩, fun G hG => ?_⟩
        have hGl := D5.ne hG
        refine lc_list (K := K) (xs := es) (fun i H' => ∃ (ac : List V) (R : List (List Str)), Off d l H5 H' ∧ DeckAt H' d l (k + 10 + i) ∧ H' G = some (.lst ac) ∧ RowsAt H' ac R ∧ R.Sublist ((allR n ds).take i)) ⟨[], [], Off.of (same_new hG), D5.same (same_new hG), upd_same, .nil, List.nil_sublist _⟩ (fun i H' _ ⟨_, _, o, _⟩ => SqL.of (lst_off hev5 nev D5 o)) ?_ ?_
        · rintro i z H6 hz ⟨ac, R, o6, D6, hac, hB, sb⟩
          obtain ⟨ts, hEi, b, rfl, hb⟩ := each_get hE5 hz
          have il : i < es.length := (List.getElem?_eq_some_iff.mp hz).1
          have lR := (sb.trans (List.take_sublist _ _)).length_le
          have lac := hB.length
          have lE := hE5.length
          refine ⟨rfl, _, rfl, _, rfl, _, _, rfl, rfl, d, l, way - 1, k + 10 + i, rfl, D6, by omega, by omega, by omega, fun j H7 j0 j1 D7 o7 => ?_⟩
          have hac7 := lst_off hac hGl.2 D6 o7
          have hB7 := hB.off D6 o7
          have hb7 := tup_off (tup_off hb D5 o6) D6 o7
          refine ⟨rfl, _, rfl, ?_⟩
          cases (decide (V.int j = V.int 0)) with
          | false => exact ⟨ac, R, o6.trans o7, D7, hac7, hB7, sub_skip sb⟩
          | true =>
            refine ⟨_, rfl, ac, hac7, by rw [sizeLine_eq]; omega, ac ++ [V.ref b], R ++ [ts], (o6.trans o7).put hG, D7.put hGl, upd_same, ?_, sub_more sb hEi⟩
            have hrow := each_snoc hB7 (show ∃ a, V.ref b = V.ref a ∧ H7 a = some (.tup (ts.map V.str)) from ⟨b, rfl, hb7⟩)
            refine each_and hrow fun v ts _ ⟨b, e6, e7⟩ => ⟨b, e6, ?_⟩
            rw [upd_ne (ne_of e7 hac7 (by intro z; cases z))]
            exact e7
        · rintro H6 ⟨ac, R, o6, D6, hac, hB, sb⟩
          have sb := sb.trans (List.take_sublist _ _)
          exact q G ac R H6 hac hB (Easc.sublist sb) (fun r hr => Erow r (sb.subset hr)) hGl.2 (D6.up (by omega)) (o5.trans o6)
end
end K01
/-! _law_is: whether a table holds these rows. -/
namespace K01
open PySem PySem.Spec PyProof.Rows L2 KG KS KA
abbrev s__law_is : Stmt := top 26
def spIs (C : Addr) : Sp := fun vs H Q _ => ∃ (t wd ls : Addr) (n : Nat) (ds : List Str) (rs' : List V) (R : List (List Str)), vs = [.ref t, .ref wd, .int (n : Nat), .ref ls] ∧ TabAt C H t ds n R ∧ H wd = some (.tup (ds.map V.str)) ∧
  H ls = some (.lst rs') ∧ RowsAt H rs' R ∧ ∀ H', Same H H' → Q (.bl true) H'
theorem rowsL_shaped {R : List (List Str)} (h : ∀ r ∈ R, ∀ x ∈ r, PyData.strOk x = true) : SeqAt.shaped (rowsDL R) = true := by
  have key : ∀ l : List (List Str), (∀ r ∈ l, ∀ x ∈ r, PyData.strOk x = true) → PyData.canLayAll0 (l.map txd) = true ∧ PyData.depthAll (l.map txd) ≤ 1 := by
    intro l hl
    induction l with
    | nil => exact ⟨rfl, by decide⟩
    | cons c r ih =>
      obtain ⟨i1, i2⟩ := ih fun x hx => hl x (List.mem_cons_of_mem _ hx)
      obtain ⟨c1, c2⟩ := txd_flat (hl c List.mem_cons_self)
      refine ⟨?_, ?_⟩
      · simp only [List.map_cons, PyData.canLayAll0]
        rw [c1, i1]
        rfl
      · simp only [List.map_cons, PyData.depthAll]
        omega
  obtain ⟨k1, k2⟩ := key R h
  unfold SeqAt.shaped
  rw [Bool.and_eq_true, decide_eq_true_eq]
  refine ⟨?_, ?_⟩
  · simp only [rowsDL, PyData.canLay0]
    exact k1
  · simp only [rowsDL, PyData.depth]
    omega
theorem eqv_rowsDL (A B : List (List Str)) : PyData.eqv (rowsDL A) (rowsDL B) = decide (A = B) := by
  rw [← eqv_rows]
  simp only [rowsDL, PyData.eqv]
/-- the distinct values at a place, ascending -/
theorem col_of {R : List (List Str)} {n i : Nat} {c : List Str} (row : ∀ r ∈ R, r.length = n) (hi : i < n) {xs : List Str} (hx : ∀ x ∈ xs, x ∈ colv R i) (h2 : ∀ m ∈ (colv R i).map tx, m.2 ∈ (xs.map tx).map (·.2)) : ∀ x, x ∈ xs ↔ ∃ r ∈ R, r[i]? = some x := fun x => by
  refine ⟨fun hm => ?_, fun ⟨r, hr, e⟩ => ?_⟩
  · obtain ⟨r, hr, e⟩ := List.mem_map.mp (hx x hm)
    have lp : i < r.length := by rw [row r hr]; exact hi
    refine ⟨r, hr, ?_⟩
    rw [← e, List.getElem?_eq_getElem lp]
    simp [List.getD, lp]
  · have hm : x ∈ colv R i := List.mem_map.mpr ⟨r, hr, by rw [List.getD_eq_getElem?_getD, e]; rfl⟩
    obtain ⟨q, hq, e2⟩ := List.mem_map.mp (h2 (tx x) (List.mem_map.mpr ⟨x, hm, rfl⟩))
    obtain ⟨y, hy, rfl⟩ := List.mem_map.mp hq
    have e3 : NestedKey.text y = NestedKey.text x := e2
    cases e3
    exact hy
theorem cols_eq {R : List (List Str)} {n : Nat} {cols cols' : List (List Str)} (h : ColsOf R n cols) (h' : ColsOf R n cols') : cols = cols' := by
  refine List.ext_getElem (by rw [h.1, h'.1]) fun i hi hi' => ?_
  obtain ⟨a1, m1⟩ := h.2 i _ (List.getElem?_eq_getElem hi)
  obtain ⟨a2, m2⟩ := h'.2 i _ (List.getElem?_eq_getElem hi')
  have n1 : cols[i].Nodup := a1.imp fun {a b} l e => by
    rw [e, ltT_irr] at l
    cases l
  have n2 : cols'[i].Nodup := a2.imp fun {a b} l e => by
    rw [e, ltT_irr] at l
    cases l
  refine List.Perm.eq_of_pairwise (le := fun a b => ltT a b = true) (fun a b _ _ h1 h2 => ?_) a1 a2 ((List.perm_ext_iff_of_nodup n1 n2).mpr fun x => (m1 x).trans (m2 x).symm)
  have z : ltT a a = true := lex_trans _ _ _ h1 h2
  rw [ltT_irr] at z
  cases z
section
variable {P : Program} {w : World} {K : PySem.W.Frag} {mg : Str → Option Value} {base : Heap}
theorem sc__law_is : FnScope ["_law_made", "_law_words_here", "_law_size", "_law_lines_here", "_law_columns", "_law_full", "_law_whole", "_law_spot", "_law_line"] ["_law_made", "_law_words_here", "_law_size", "_law_lines_here"] (defScope s__law_is) := ⟨rfl, rfl, rfl, by decide +kernel, rfl, by decide +kernel, by decide +kernel⟩
theorem ok__law_is {it : Addr} (B : Bs mg) (T : TabC K mg it) (J : C8.InsC K T.C) (f : FnF K mg "_law_is" "_law_is" s__law_is) (fr : FnF K mg "_law_rows_of" "_law_rows_of" s__law_rows_of) :
    FnG P w K mg base CX0 2 f.a f.d ["_law_made", "_law_words_here", "_law_size", "_law_lines_here"] (spIs T.C) := by
  have GR := ok__law_rows_of (P := P) (w := w) (base := base) B fr
  have GRL := ok__law_rows_ofL (P := P) (w := w) (base := base) B fr
  have bR : Binds K fr.d ["_law_columns"] [] := fr.F.binds fun _ _ _ _ _ _ us hl => match us, hl with | [_], _ => rfl
  refine okN f.F sc__law_is (fun vs H Q E h => ?_) (fun cdv A outer s H vs Q E hgu hr h => ?_)
  · obtain ⟨t, wd, ls, n, ds, rs', R, rfl, _⟩ := h
    rfl
  · obtain ⟨t, wd, ls, n, ds, rs', R, rfl, TA, hwd, hls, hR', q⟩ := h
    have hu64 := hr.units
    refine ⟨_, (pss_cons
      (ps_if (pt_not (pt_val (pe_callB (C8.call_isC J) (by rfl) B.n_isinstance (by decide +kernel) (pa_cons (pv 0) (pa_cons (pe_glob (v := .ref T.C) rfl T.g rfl) pa_nil)))))
        (pss_one
          (ps_ret pe_bl))
        pss_nil)
    (pss_cons
      (ps_if (pt_cmpR op_ne (pe_callB (call_repr hgu hu64) (by rfl) B.n_repr (by decide +kernel) (pa_cons (pe_tup (pa_cons (pe_fld (pv 0) rfl) (pa_cons (pe_fld (pv 0) rfl) (pa_cons (pe_fld (pv 0) rfl) pa_nil)))) pa_nil)) (pe_callB (call_repr hgu hu64) (by rfl) B.n_repr (by decide +kernel) (pa_cons (pe_tup (pa_cons (pv 1) (pa_cons (pv 2) (pa_cons (pe_callTy call_tuple_of (by rfl) B.n_tuple (by decide +kernel) (pa_cons (pv 3) pa_nil)) pa_nil)))) pa_nil)) (nomark _))
        (pss_one
          (ps_ret pe_bl))
        pss_nil)
    (pss_cons
      (ps_setLc (i := 4) (own := [("_law_spot", 7)]) (g := gName 7) (by rfl) sc__law_is.nd rfl rfl (sw_true rfl rfl rfl (by decide +kernel)) (pi_range1 rfl B.n_range (pa_cons (pv 2) pa_nil)) (blkOk_by (own := [("_law_spot", 7)]) (N := ["_law_made", "_law_words_here", "_law_size", "_law_lines_here", "_law_columns", "_law_full", "_law_whole", "_law_spot", "_law_line"]) (sc := defScope s__law_is) (by decide +kernel)) (fun _ _ _ _ _ => (pg_name (i := 7) sc__law_is.nd rfl (Or.inr rfl))) (fun _ _ _ _ _ => pts_nil)
        (fun _ _ _ _ _ => (pe_callB (show CallR _ (.builtin "sorted") (rSortSetW w K) from cr_sortSetW (by rfl) hu64) (by rfl) B.n_sorted (by decide +kernel) (pa_cons (pe_callTy (show CallR _ (.type "set") (rSetOfW w K) from cr_setOfW (by rfl) hu64) (by rfl) B.n_set (by decide +kernel) (pa_cons (pe_lc (own := [("_law_line", 8)]) (g := gName 8) (by rfl) sc__law_is.nd (show PI _ _ _ (iList K (tVar 3)) from pi_list (pv 3)) (blkOk_by (own := [("_law_line", 8)]) (N := ["_law_made", "_law_words_here", "_law_size", "_law_lines_here", "_law_columns", "_law_full", "_law_whole", "_law_spot", "_law_line"]) (by kernel_rfl)) (fun _ _ _ _ _ => (pg_name (i := 8) sc__law_is.nd rfl (Or.inl rfl))) (fun _ _ _ _ _ => pts_nil) (fun _ _ _ _ _ => (pe_ix (show IxR _ (rIxT K) from ix_tup) (pv 8) (pv 7) (fun _ _ => rfl)))) pa_nil)) pa_nil))))
    (pss_cons
      (ps_set (i := 5) sc__law_is.nd rfl (Or.inl rfl) (pe_cmpR (op_eqD hu64) (pe_call GR hr rfl fr.g fr.F.kp bR .nil pass0 (pa_cons (pe_op op_rep (pe_lst (pa_cons (pv 1) pa_nil)) (pv 2)) pa_nil)) (pe_callTy call_list_of (by rfl) B.n_list (by decide +kernel) (pa_cons (pv 3) pa_nil)) (nomark _)))
    (pss_cons
      (ps_set (i := 6) sc__law_is.nd rfl (Or.inl rfl) (pe_cmpR (op_eqD hu64) (pe_call GRL hr rfl fr.g fr.F.kp bR .nil pass0 (pa_cons (pv 4) pa_nil)) (pe_callTy call_list_of (by rfl) B.n_list (by decide +kernel) (pa_cons (pv 3) pa_nil)) (nomark _)))
    (pss_one
      (ps_ret (pe_cmpR op_eq (pe_callB (call_repr hgu hu64) (by rfl) B.n_repr (by decide +kernel) (pa_cons (pe_tup (pa_cons (pe_fld (pv 0) rfl) (pa_cons (pe_fld (pv 0) rfl) pa_nil))) pa_nil)) (pe_callB (call_repr hgu hu64) (by rfl) B.n_repr (by decide +kernel) (pa_cons (pe_tup (pa_cons (pv 5) (pa_cons (pv 6) pa_nil))) pa_nil)) (nomark _))))))))), ?_⟩
    obtain ⟨dx, d, p, rs, cols, ht, hd, hp, hR, hC⟩ := TA.ex
    have dom : DomOk ds n := TA.dom
    obtain ⟨dasc, dok, d1, d3, n1, n3⟩ := TA.dom
    obtain ⟨sh, dp, big⟩ := tabD_fits dok d3 n3 TA.row TA.h64
    refine ⟨_, rfl, t, dx, _, rfl, ht, true, rfl, iteF ?_⟩
    have txq : ∀ {H' : Hp} {a : Addr} {xs : List Str}, H' a = some (.tup (xs.map V.str)) → Dq (fun _ => True) H' (.ref a) (txd xs) := fun h => .tup trivial h (texts_dq _)
    refine ⟨_, rfl, t, T.C, dx, _, _, rfl, ht, T.cl, T.nd, rfl, _, rfl, t, T.C, dx, _, _, rfl, ht, T.cl, T.nw, rfl, _, rfl, t, T.C, dx, _, _, rfl, ht, T.cl, T.nr, rfl, by show 3 ≤ sizeLine; decide, fun u1 hu1 => ?_⟩
    have e1 : Same H (upd H u1 (.tup [V.ref d, V.int (n : Nat), V.ref p])) := same_new hu1
    refine ⟨fun _ => True, .ref u1, tabD ds n R, rfl, .tup trivial upd_same (.cons (txq (e1 _ _ hd)) (.cons (.int _) (.cons (.tup trivial (e1 _ _ hp) (rows_dq (hR.up e1))) .nil))), sh, dp, big, ?_⟩
    refine ⟨_, rfl, _, rfl, _, rfl, ls, rs', rfl, .inl ⟨SqL.of (e1 _ _ hls), fun u2 hu2 => ⟨by show 3 ≤ sizeLine; decide, fun u3 hu3 => ?_⟩⟩⟩
    generalize upd H u1 (.tup [V.ref d, V.int (n : Nat), V.ref p]) = H1 at e1 hu2 hu3 ⊢
    have e2 : Same H1 (upd H1 u2 (.tup rs')) := same_new hu2
    have hu22 : upd H1 u2 (.tup rs') u2 = some (.tup rs') := upd_same
    generalize upd H1 u2 (.tup rs') = H2 at e2 hu22 hu3 ⊢
    have e3 : Same H2 (upd H2 u3 (.tup [V.ref wd, V.int (n : Nat), V.ref u2])) := same_new hu3
    have hu33 : upd H2 u3 (.tup [V.ref wd, V.int (n : Nat), V.ref u2]) u3 = some (.tup [V.ref wd, V.int (n : Nat), V.ref u2]) := upd_same
    generalize upd H2 u3 (.tup [V.ref wd, V.int (n : Nat), V.ref u2]) = H3 at e3 hu33 ⊢
    have e13 : Same H H3 := same_trans e1 (same_trans e2 e3)
    refine ⟨fun _ => True, .ref u3, tabD ds n R, rfl, .tup trivial hu33 (.cons (txq (e13 _ _ hwd)) (.cons (.int _) (.cons (.tup trivial (e3 _ _ hu22) (rows_dq (hR'.up e13))) .nil))), sh, dp, big, rfl, _, rfl, ?_⟩
    rw [decide_eq_true (rfl : V.str (tabD ds n R).shown = V.str (tabD ds n R).shown)]
    refine iteF ?_
    have ht3 := e13 _ _ ht
    have hls3 := e13 _ _ hls
    have hwd3 := e13 _ _ hwd
    have hR3 := hR'.up e13
    clear hu33 e3 hu22 e2 hu1 hu2 hu3
    -- columns
    have rl : ∀ r ∈ R, r.length = n := fun r hr => (TA.row r hr).1
    have h64 := TA.h64
    refine ⟨_, rfl, (n : Nat), rfl, by omega, by omega, fun C hC3 => ?_⟩
    refine lc_range (lo := 0) (n := ((n : Nat) : Int).toNat) (fun i H' => ∃ (cs : List Addr) (cols' : List (List Str)), Same H3 H' ∧ H' C = some (.lst (cs.map V.ref)) ∧ LstsOff C C H' (cs.map V.ref) cols' ∧ cols'.length = i ∧ (∀ c ∈ cols', c.length ≤ 3) ∧ (∀ c ∈ cols', ∀ y ∈ c, y ∈ ds) ∧ ∀ (j : Nat) c, cols'[j]? = some c → AscT c ∧ ∀ x, x ∈ c ↔ ∃ row ∈ R, row[j]? = some x)
      ⟨[], [], same_new hC3, upd_same, .nil, rfl, fun _ z => (nomatch z), fun _ z => (nomatch z), fun _ _ z => (nomatch z)⟩ ?_ ?_
    · rintro i H4 hi ⟨cs, cols', e4, hC4, hL4, len, c3, cds, cdef⟩
      have hi2 : i < n := by simpa using hi
      have hls4 := e4 _ _ hls3
      have hR4 := hR3.up e4
      refine ⟨rfl, _, rfl, ls, rfl, ⟨_, SqL.of hls4⟩, fun D hD => ?_⟩
      have nCD : D ≠ C := (ne_of_none hC4 hD).symm
      refine lc_list (K := K) (xs := rs') (fun j H' => Same H4 H' ∧ H' D = some (.lst (((colv R i).take j).map V.str))) ⟨same_new hD, upd_same⟩ (fun j H' _ p => SqL.of (p.1 _ _ hls4)) ?_ ?_
      · rintro j y H' hj ⟨e5, eD⟩
        obtain ⟨row, hrow, a, rfl, ha⟩ := each_get hR4 hj
        have lp : i < row.length := by rw [rl row (List.mem_of_getElem? hrow)]; exact hi2
        have gp : row[i]? = some (row.getD i Str.empty) := by
          rw [List.getElem?_eq_getElem lp]
          simp [List.getD, lp]
        have cp : (colv R i)[j]? = some (row.getD i Str.empty) := by
          unfold colv
          rw [List.getElem?_map, hrow]
          rfl
        have jl : j < R.length := (List.getElem?_eq_some_iff.mp hrow).1
        rw [Int.zero_add]
        refine ⟨rfl, _, rfl, _, rfl, a, row.map V.str, (i : Nat), .str (row.getD i Str.empty), rfl, rfl, SqT.of (e5 _ _ ha), atI_nat (by rw [List.getElem?_map, gp]; rfl), _, eD, by rw [List.length_map, List.length_take, sizeLine_eq]; omega, same_put hD e5, ?_⟩
        rw [upd_same, take_next cp, List.map_append]
        rfl
      · rintro H5 ⟨e5, eD⟩
        rw [hR4.length] at eD
        have cl : (colv R i).length = R.length := List.length_map ..
        rw [← cl, List.take_length] at eD
        refine ⟨false, D, (colv R i).map tx, rfl, .inl (SqL.of (by rw [texts_mem]; exact eD)), texts_kv _, by rw [List.length_map, cl]; exact TA.h64, fun S L hS h1 h2 h3 => ?_⟩
        obtain ⟨xs0, rfl, hx0⟩ := tx_list h1
        have e6 : Same H5 (upd H5 S (SetV false w S (xs0.map tx))) := same_new hS
        refine ⟨false, S, xs0.map tx, rfl, upd_same, fun p hp => (texts_kv xs0 p hp).1, (texts_al xs0).1, (texts_al xs0).2, fun L' g pm aft hg => ?_⟩
        obtain ⟨xs, rfl, hx⟩ := tx_list (ys := xs0) (L := L') fun m hm => pm.mem_iff.mp hm
        have nd : ((xs.map tx).map (·.2)).Nodup := (pm.map (·.2)).nodup_iff.mpr h3
        have xasc : AscT xs := aft_texts aft nd
        have e7 : Same (upd H5 S (SetV false w S (xs0.map tx))) (upd (upd H5 S (SetV false w S (xs0.map tx))) g (.lst ((xs.map tx).map (·.1)))) := same_new hg
        have e47 := same_trans e5 (same_trans e6 e7)
        have hg7 : upd (upd H5 S (SetV false w S (xs0.map tx))) g (.lst ((xs.map tx).map (·.1))) g = some (.lst (xs.map V.str)) := by rw [upd_same, texts_mem]
        have ng : g ≠ C := (ne_of_none (same_trans e5 e6 _ _ hC4) hg).symm
        generalize upd (upd H5 S (SetV false w S (xs0.map tx))) g (.lst ((xs.map tx).map (·.1))) = H7 at e47 hg7 ⊢
        have iff := col_of (c := xs) rl hi2 (fun x hm => hx0 x (hx x hm)) fun m hm => (pm.map (·.2)).mem_iff.mpr (h2 m hm)
        have xds : ∀ y ∈ xs, y ∈ ds := fun y hy => by
          obtain ⟨row, hm, e⟩ := (iff y).1 hy
          exact (TA.row row hm).2 y (List.mem_of_getElem? e)
        have xnd : xs.Nodup := nodup_of_map (nodup_of_map nd)
        have x3 : xs.length ≤ 3 := Nat.le_trans (nodup_len _ _ xnd xds) d3
        have cl2 : cs.length = i := by rw [← len, ← hL4.length, List.length_map]
        refine ⟨_, e47 _ _ hC4, by rw [List.length_map, sizeLine_eq]; omega, cs ++ [g], cols' ++ [xs], same_put hC3 (same_trans e4 e47), by rw [upd_same, List.map_append]; rfl, ?_, by rw [List.length_append, len]; rfl, fun c hc => ?_, fun c hc => ?_, fun j c hc => ?_⟩
        · rw [List.map_append]
          exact LstsOff.put (each_snoc (hL4.up e47) ⟨g, rfl, ⟨ng, ng⟩, hg7⟩)
        · rcases List.mem_append.mp hc with z | z
          · exact c3 c z
          · rw [List.mem_singleton.mp z]
            exact x3
        · rcases List.mem_append.mp hc with z | z
          · exact cds c z
          · rw [List.mem_singleton.mp z]
            exact xds
        · by_cases jl : j < cols'.length
          · rw [List.getElem?_append_left jl] at hc
            exact cdef j c hc
          · rw [List.getElem?_append_right (by omega)] at hc
            have j0 : j - cols'.length = 0 := by
              have z := (List.getElem?_eq_some_iff.mp hc).1
              rw [List.length_singleton] at z
              omega
            rw [j0] at hc
            cases hc
            have ji : j = i := by omega
            rw [ji]
            exact ⟨xasc, iff⟩
    · rintro H4 ⟨cs, cols', e4, hC4, hL4, len, c3, cds, cdef⟩
      have len : cols'.length = n := by simpa using len
      have ec : cols' = cols := cols_eq ⟨len, cdef⟩ hC
      subst ec
      have hls4 := e4 _ _ hls3
      have hR4 := hR3.up e4
      have hwd4 := e4 _ _ hwd3
      -- full
      refine ⟨_, rfl, by show 1 ≤ sizeLine; decide, fun u hu => ⟨_, rfl, u, (n : Nat), [V.ref wd], rfl, rfl, upd_same, by omega, by omega, (by rw [sizeLine_eq]; show 1 * _ ≤ _; omega), fun v hv => ?_⟩⟩
      have e5 : Same H4 (upd (upd H4 u (.lst [V.ref wd])) v (.lst (List.replicate (n : Int).toNat [V.ref wd]).flatten)) := same_trans (same_new hu) (same_new hv)
      have hv5 : upd (upd H4 u (.lst [V.ref wd])) v (.lst (List.replicate (n : Int).toNat [V.ref wd]).flatten) v = some (.lst (List.replicate n (V.ref wd))) := by
        rw [upd_same, flat_rep]
        rfl
      generalize upd (upd H4 u (.lst [V.ref wd])) v (.lst (List.replicate (n : Int).toNat [V.ref wd]).flatten) = H5 at e5 hv5 ⊢
      have rep : RowsAt H5 (List.replicate n (V.ref wd)) (List.replicate n ds) := by
        have key : ∀ k, RowsAt H5 (List.replicate k (V.ref wd)) (List.replicate k ds) := fun k => by
          induction k with
          | zero => exact .nil
          | succ k ih => exact .cons ⟨wd, rfl, e5 _ _ hwd4⟩ ih
        exact key n
      refine ⟨v, _, List.replicate n ds, rfl, hv5, rep, fun c hc => by rw [List.eq_of_mem_replicate hc]; exact d3, by rw [List.length_replicate]; exact n3, fun ev es H6 hev e6 hev6 hE => ?_⟩
      have hE : RowsAt H6 es (allR n ds) := hE
      have e46 := same_trans e5 e6
      refine ⟨_, rfl, ls, rs', rfl, .inl (SqL.of (e46 _ _ hls4)), fun m hm => ?_⟩
      have e7 : Same H6 (upd H6 m (.lst rs')) := same_new hm
      have ok3 : ∀ y ∈ ds, PyData.strOk y = true := fun y hy => name_strOk (dok y hy)
      have shR : SeqAt.shaped (rowsDL R) = true := rowsL_shaped fun r hr y hy => ok3 y ((TA.row r hr).2 y hy)
      have shE : SeqAt.shaped (rowsDL (allR n ds)) = true := rowsL_shaped fun r hr y hy => ok3 y (allR_mem hr y hy)
      have shP : SeqAt.shaped (rowsDL (prods cols')) = true := rowsL_shaped fun r hr y hy => ok3 y (prods_in (P := fun x => x ∈ ds) cds r hr y hy)
      refine ⟨rowsDL (allR n ds), rowsDL R, .lst (SqL.of (e7 _ _ hev6)) (rows_dp (hE.up e7)), .lst (SqL.of upd_same) (rows_dp ((hR4.up e46).up e7)), shE, shR, ?_⟩
      rw [eqv_rowsDL]
      have e47 := same_trans e46 e7
      generalize upd H6 m (.lst rs') = H7 at e47 e7 ⊢
      -- whole
      refine ⟨_, rfl, C, _, cols', rfl, e47 _ _ hC4, (hL4.up e47).at_, c3, by omega, fun pv ps H8 hpv e8 hpv8 hP => ?_⟩
      have e48 := same_trans e47 e8
      refine ⟨_, rfl, ls, rs', rfl, .inl (SqL.of (e48 _ _ hls4)), fun m2 hm2 => ?_⟩
      have e9 : Same H8 (upd H8 m2 (.lst rs')) := same_new hm2
      refine ⟨rowsDL (prods cols'), rowsDL R, .lst (SqL.of (e9 _ _ hpv8)) (rows_dp (hP.up e9)), .lst (SqL.of upd_same) (rows_dp ((hR4.up e48).up e9)), shP, shR, ?_⟩
      rw [eqv_rowsDL]
      have e49 := same_trans e48 e9
      generalize upd H8 m2 (.lst rs') = H9 at e49 ⊢
      have ht9 := e49 _ _ (e4 _ _ ht3)
      have full : decide (allR n ds = R) = decide (R = allR n ds) := decide_eq_decide.mpr eq_comm
      have prod : decide (prods cols' = R) = decide (R = prods cols') := decide_eq_decide.mpr eq_comm
      rw [full, prod]
      refine ⟨_, rfl, t, T.C, dx, _, _, rfl, ht9, T.cl, T.nf, rfl, _, rfl, t, T.C, dx, _, _, rfl, ht9, T.cl, T.np, rfl, by show 2 ≤ sizeLine; decide, fun w1 hw1 => ?_⟩
      have b2D : ∀ {H' : Hp} {a : Addr} {x y : Bool}, H' a = some (.tup [V.bl x, V.bl y]) → Dq (fun _ => True) H' (.ref a) (.tuple [.bool x, .bool y]) := fun h => .tup trivial h (.cons (.bl _) (.cons (.bl _) .nil))
      have bs : ∀ {x y : Bool}, (PyData.tuple [.bool x, .bool y]).showable = true ∧ (PyData.tuple [.bool x, .bool y]).depth ≤ 60 ∧ (PyData.tuple [.bool x, .bool y]).shown.length ≤ sizeLine := fun {x y} => ⟨rfl, by simp only [PyData.depth, PyData.depthAll]; omega, Nat.le_trans (shown_cost _) (by show 5 + 2 + (5 + 2 + 0) + 6 ≤ sizeLine; rw [sizeLine_eq]; omega)⟩
      have eA : Same H9 (upd H9 w1 (.tup [V.bl (decide (R = allR n ds)), V.bl (decide (R = prods cols'))])) := same_new hw1
      refine ⟨fun _ => True, .ref w1, _, rfl, b2D upd_same, bs.1, bs.2.1, bs.2.2, ?_⟩
      generalize upd H9 w1 (.tup [V.bl (decide (R = allR n ds)), V.bl (decide (R = prods cols'))]) = HA at eA ⊢
      refine ⟨_, rfl, _, rfl, by show 2 ≤ sizeLine; decide, fun w2 hw2 => ?_⟩
      refine ⟨fun _ => True, .ref w2, _, rfl, b2D upd_same, bs.1, bs.2.1, bs.2.2, rfl, ?_⟩
      rw [decide_eq_true rfl]
      exact q _ (same_trans e13 (same_trans e4 (same_trans e49 (same_trans eA (same_new hw2)))))
end
end K01
/-! Exceptions of the program's own classes (over Exception, at any depth) as values: made, a field stored and read, isinstance. -/
namespace KX
open PySem PySem.Spec PySem.W PyProof.Rows

abbrev exTl : List Value := [.type "Exception", .type "BaseException", .type "object"]
/-- what the written part says of such a class -/
structure ExC (K : Frag) (C : Addr) : Prop where
  cls : ∃ nm q N bs bm sn sub ab col dd k0 k1 k2 k3 k5, K.lookup C = some (excClassObj nm q C N bs bm true sn sub ab col dd k0 k1 k2 k3 k5 "Exception.__new__") ∧ excTail exTl bm = true
  sa : findIn K (.ref C) "__setattr__" = some (some (.builtin "object.__setattr__"))
  ga : findIn K (.ref C) "__getattribute__" = some (some (.builtin "BaseException.__getattribute__"))
  gg : findIn K (.ref C) "__getattr__" = some none
  bx : subIn K (.ref C) (.type "BaseException") = some true
  kp : keepIn K (.ref C) = true
  hd : hasDictIn K C = true
  cl : findIn K (.ref C) "__class__" = some (some (.builtin "object.__class__"))
  gn : specialIn K (.builtin "object.__class__") "__get__" = some (some (.builtin "getset_descriptor.__get__"))
  tk : takesIn K (.builtin "object.__class__") = some true
  mo : mroIn K C (.type "object") = some true

section
open Builtin Builtin.ObjectAttr
variable {prog : Program} {w : World} {A : Around} {E : Value → Shared → Prop} {R : Result → Shared → Prop} {hp : Heap} {g : Array GenState} {d : Drawn} {t : Nat} {os : OsState}
theorem tail_mro {K : Frag} {C : Addr} {cd : ClassData} {bm : List Value} (hcd : clsIn K C = some cd) (hm : cd.mro = .ref C :: bm) (ht : excTail exTl bm = true) : mroIn K C (.type "object") = some true := by
  have q : (Value.ref C :: bm).contains (.type "object") = true := by
    rw [List.contains_cons, excTail_contains "object" bm ht, show exTl.contains (.type "object") = true from by decide +kernel, Bool.or_true]
  unfold mroIn
  rw [hcd, Option.bind_some, hm, if_neg (by simp), q]
/-- self.name = v on an exception that has no dict as yet -/
theorem first_store {K : Frag} {name : Str} {tk : Tok} {v : Value} {x C : Addr} {fv : Array Value} {cd : ClassData} {bm : List Value}
    (X : K.In hp) (hx : hp.get? x = some { cls := .ref C, data := .fields fv }) (hcd : clsIn K C = some cd) (hm : cd.mro = .ref C :: bm) (ht : excTail exTl bm = true) (hh : cd.hasDict = true) (ha : findIn K (.ref C) name = some none)
    (hq : ∀ h' tk' dx, (∀ b o, b ≠ x → hp.get? b = some o → h'.get? b = some o) → hp.objs.size ≤ dx → dx ≠ x → h'.get? x = some { cls := .ref C, dict := some dx, data := .fields fv } →
      h'.Ns1 dx (fun y => if y = name then some v else none) → R (.ok (.ret .none)) ⟨h', g, d, tk', os⟩) :
    codeAny (model prog w) A (.call (.builtin "object.__setattr__") ⟨[.ref x, .str name tk, v], []⟩) R ⟨hp, g, d, t, os⟩ := by
  have J : InstAt hp x { cls := .ref C, data := .fields fv } C none := ⟨hx, rfl, rfl, trivial⟩
  have ne : x ≠ hp.objs.size := Nat.ne_of_lt (Heap.lt_size hx)
  have isO : Looks (model prog w) hp (isInstance (.ref x) (.type "object")) true := J.type.andThen (looks_mroIn X (tail_mro hcd hm ht))
  have S := F.store_object
  have pass : refuseLoop (.ref x) "__setattr__" cd.mro = pure () := by
    rw [hm, refuseLoop_ref]
    exact excTail_pass _ (F.store_Exception.passes _) bm ht
  have lm : Looks (model prog w) hp (mroOf (.ref C)) cd.mro := (looks_clsIn X hcd).andThen .now
  have lt : Looks (model prog w) hp (storeTaker? none) none := .now
  have lc : Looks (model prog w) hp (classData C) cd := looks_clsIn X hcd
  refine codeAny_call_builtin S.slot.plain S.entry (@check_slot (model prog w) _ _ ⟨hp, g, d, t, os⟩ "object.__setattr__" "object" "__setattr__" (.ref x) [.str name tk, v] [] _ S.kind S.split isO (S.args (.ref x) (.str name tk) v) ?_)
  rw [osa_eq, refuse_eq]
  apply wpAny_bind
  apply wpAny_bind
  apply J.type.at
  apply wpAny_bind
  apply lm.at
  rw [pass]
  apply wpAny_pure
  apply wpAny_bind
  apply J.type.at
  apply wpAny_bind
  apply (looks_findIn X ha).at
  apply wpAny_bind
  apply lt.at
  show wpAny _ _ (storeInOwnDict (.ref x) (.ref C) (.str name tk) name v false) _ _ _
  obtain ⟨nm, bs, mro, ns, qn, hd, sn, sb, ab, col, del⟩ := cd
  have hh' : hd = true := hh
  subst hh'
  unfold storeInOwnDict ownDictForStores
  repeat (first | with_reducible apply HandSPX.store_in_new | with_reducible apply wpAny_loadPart_at hx | with_reducible apply lc.at | wp_step)
  · exact ⟨_, #[], _, (Heap.get?_update_ne _ _ _ _ ne.symm).trans (Heap.get?_push_at rfl rfl), rfl, fun e he => absurd he (by simp), fun _ => rfl⟩
  · intro h' tk' hn' hs
    have hx1 : (hp.push { cls := .type "dict", data := .dict #[] }).get? x = some { cls := .ref C, data := .fields fv } := Heap.get?_push_of_some _ hx
    exact hq h' tk' hp.objs.size (fun b o hb ho => (hs.2 b (Nat.ne_of_lt (Heap.lt_size ho))).trans ((Heap.get?_update_ne _ _ _ _ hb).trans (Heap.get?_push_of_some _ ho))) (Nat.le_refl _) ne.symm
      ((hs.2 x ne).trans (Heap.get?_update_self _ hx1 rfl)) hn'
end

open L2 KG
section
variable {X : Cx} {pins : List (Addr × Obj)} {σ : L2.St} {H : Hp} {s : Shared} {a C : Addr} {f : Str} {y : V} {u : Value} {fs : List (Str × V)}
/-- an exception of the class at C with the fields fs, made -/
def ExAt (H : Hp) (a C : Addr) (fs : List (Str × V)) : Prop := (∃ dx, H a = some (exo a C (some dx)) ∧ H dx = some (exd dx fs)) ∨ (fs = [] ∧ H a = some (exo a C none))
theorem ExAt.keep {H' : Hp} (x : ExAt H a C fs) (e : Same H H') : ExAt H' a C fs := by
  rcases x with ⟨dx, h1, h2⟩ | ⟨h0, h1⟩
  · exact .inl ⟨dx, e _ _ h1, e _ _ h2⟩
  · exact .inr ⟨h0, e _ _ h1⟩
theorem set_first {Q : Unit → Shared → Prop} {E : Value → Shared → Prop} {A : Around} (T : ExC X.K C) (I : Inv X pins σ H s) (e : H a = some (exo a C none)) (hno : findIn X.K (.ref C) f = some none) (ry : RelV y u)
    (h : ∀ dx s', H dx = none → dx ≠ a → Inv X pins σ (upd (upd H dx (exd dx [(f, y)])) a (exo a C (some dx))) s' → Q () s') : wpAny (model X.prog X.w) A (setAttr (.ref a) f u) Q E s := by
  obtain ⟨nm, q, N, bs, bm, sn, sub, ab, col, dd, k0, k1, k2, k3, k5, hC, hbm⟩ := T.cls
  have hcl : clsIn X.K C = some { name := nm, bases := bs, mro := .ref C :: bm, ns := N, qualname := q, hasDict := true, slotNames := sn, subclasses := sub, abstract := ab, collection := col, hasDel := false } := by
    unfold clsIn
    rw [hC]
    all_goals rfl
  obtain ⟨t1, ho⟩ := exo_at I.hok e
  obtain ⟨hp, g, dr, tk, os⟩ := s
  apply set_plain I.kIn (ox := { cls := .ref C, dict := none, data := .fields #[.ref t1, .none, .none, .none, .bool false, .none] }) (od := none) ⟨ho, rfl, rfl, trivial⟩ T.sa
  apply first_store I.kIn ho hcl rfl hbm rfl hno
  intro h' tk' dx kp dn dne hx hn
  have fr : H dx = none := I.hok.fresh dn
  have ndx : ∀ {b : Addr} {o : Obj}, hp.get? b = some o → b ≠ dx := fun {b o} q => Nat.ne_of_lt (Nat.lt_of_lt_of_le (Heap.lt_size q) dn)
  have nda : ∀ {b : Addr}, H b = none → b ≠ a := fun {b} n z => by rw [z, e] at n; cases n
  have there : ∀ b o, hp.get? b = some o → ∃ o', h'.get? b = some o' := fun b o q => by
    by_cases hb : b = a
    · rw [hb]; exact ⟨_, hx⟩
    · exact ⟨o, kp b o hb q⟩
  have stay : ∀ {b : Addr} {o : HO}, H b = some o → o ≠ exo a C none → upd (upd H dx (exd dx [(f, y)])) a (exo a C (some dx)) b = some o := fun {b o} q z => by
    have h1 : b ≠ a := fun w => by rw [w, e] at q; exact z (Option.some.inj q).symm
    rw [upd_ne h1, upd_ne (ne_of_none q fr)]
    exact q
  have U : Un X.fs [] H (upd (upd H dx (exd dx [(f, y)])) a (exo a C (some dx))) hp h' :=
    ⟨fun b o q n _ _ => kp b o (nda n) q, fun b o q n _ _ => ⟨o.slots, kp b o (nda n) q⟩, fun b o q n _ => by rw [upd_ne (nda n), upd_ne (ndx q)]; exact n, fun b o q _ => there b o q,
      fun b xs q => stay q exo_tup.symm, fun b o v q => stay q exo_frz.symm, fun b ps q => ⟨#[], by rw [stay q exo_tbl.symm]; simp⟩⟩
  have ok : HOk X.prog X.w (upd (upd H dx (exd dx [(f, y)])) a (exo a C (some dx))) h' := fun b o q => by
    by_cases hb : b = a
    · subst hb
      rw [upd_same] at q
      obtain rfl := Option.some.inj q
      exact exo_ok hx
    · rw [upd_ne hb] at q
      by_cases hd : b = dx
      · subst hd
        rw [upd_same] at q
        obtain rfl := Option.some.inj q
        exact exd_ok hn (relO_put (fs := []) ry fun g => True.intro)
      · rw [upd_ne hd] at q
        refine (I.hok b o q).stay (fun c v hc z => kp c v ?_ z) (fun c hc => stay hc exo_own.symm) (fun c xs hc => stay hc exo_tup.symm)
        rcases hc with hc | hc
        · rw [hc]; exact hb
        · exact fun w => by rw [w, e] at hc; exact exo_own (Option.some.inj hc)
  exact h dx _ fr dne (I.un (t' := tk') U ok)

/-- self.f = e, the first field of an exception that is being made -/
def tExSet (K : Frag) (f : Str) (to te : TE) : TS := fun D σ H => te σ H fun y H1 => to σ H1 fun x H2 => ∃ a C : Addr, x = .ref a ∧ ExC K C ∧ findIn K (.ref C) f = some none ∧ H2 a = some (exo a C none) ∧
  ∀ dx, H2 dx = none → dx ≠ a → D.nx σ (upd (upd H2 dx (exd dx [(f, y)])) a (exo a C (some dx)))
theorem ps_exset {o e : Expr} {to te : TE} {p p2 : Pos} (ho : PE X o to) (he : PE X e te) (hs : swapsWith e (some (.Attribute o f p)) p2.line X.env = pure false := by rfl) : PS X (.Assign [.Attribute o f p] e p2) (tExSet X.K f to te) := by
  constructor
  intro pins s σ H D I h
  apply plainObj_wpAny_Assign_Attribute (hs := hs)
  apply thn (he.run pins s σ H _ I h)
  rintro v s1 ⟨y, H1, I1, r1, q1⟩
  apply thn (ho.run pins s1 σ H1 _ I1 q1)
  rintro u s2 ⟨x, H2, I2, r2, a, C, ex, T, hno, ea, q⟩
  subst ex
  obtain rfl : u = Value.ref a := r2
  exact set_first T I2 ea hno r1 fun dx s' n ne J => ⟨σ, _, J, q dx n ne⟩

/-! ### C(e): the exception, its own __init__ keeping sp -/
def tExMk (C : Addr) (sp : Sp) (ta : TA) : TE := fun σ H Q => ta σ H fun vs H1 => vs.length ≤ 1000 ∧ ∀ a, H1 a = none → sp (.ref a :: vs) (upd H1 a (exo a C none)) (fun v H2 => v = .non ∧ Q (.ref a) H2) E0
theorem run_exmk {CX : CXT} {fI : Addr} {k : Nat} {fd : FuncData} {ps : List Str} {sp : Sp} {Q : VK} {us : List Value} {vs : List V} (T : ExC X.K C) (iC : findIn X.K (.ref C) "__init__" = some (some (.ref fI))) (tI : typeIn X.K (.ref fI) = some (.type "function"))
    (F1 : FnOk X.prog X.w X.K X.mg X.base CX k fI fd ps sp) (hr : Room (k + 1) X.A) (hb : L2.Binds X.K fd ps []) (hx : Passes CX X E0) (I : Inv X pins σ H s) (r : Vals vs us) (hl : vs.length ≤ 1000)
    (h : ∀ a, H a = none → sp (.ref a :: vs) (upd H a (exo a C none)) (fun v H2 => v = .non ∧ Q (.ref a) H2) E0) : wpAny (model X.prog X.w) X.A (call (.ref C) us) (EP X pins σ Q) X.xe s := by
  obtain ⟨nm, q, N, bs, bm, sn, sub, ab, col, dd, k0, k1, k2, k3, k5, hC, hbm⟩ := T.cls
  obtain ⟨hp, g, dr, tk, os⟩ := s
  have hz : us.length ≤ sizeLine := by
    rw [← Paired.length r, sizeLine_eq]
    omega
  have new : hp.objs.size ≤ hp.objs.size + 1 := Nat.le_succ _
  have kp : ∀ b o, hp.get? b = some o → ((hp.push (kdv_tup us)).push (HandSPX.excO C hp.objs.size)).get? b = some o := fun b o e => Heap.get?_push_of_some _ (Heap.get?_push_of_some _ e)
  have at_ : ((hp.push (kdv_tup us)).push (HandSPX.excO C hp.objs.size)).get? (hp.objs.size + 1) = some (HandSPX.excO C hp.objs.size) := by heap_get
  have J : Inv X pins σ (upd H (hp.objs.size + 1) (exo (hp.objs.size + 1) C none)) ⟨(hp.push (kdv_tup us)).push (HandSPX.excO C hp.objs.size), g, dr, tk, os⟩ :=
    I.laid (a := hp.objs.size + 1) (o := exo (hp.objs.size + 1) C none) (h' := (hp.push (kdv_tup us)).push (HandSPX.excO C hp.objs.size)) (t' := tk) kp new (exo_ok at_)
  have hq := h (hp.objs.size + 1) (I.hok.fresh new)
  have r2 : Vals (V.ref (hp.objs.size + 1) :: vs) (Value.ref (hp.objs.size + 1) :: us) := .cons rfl r
  have len : ((Value.ref (hp.objs.size + 1) :: us) ++ []).length = ps.length := by
    rw [List.append_nil, ← F1.len _ _ _ _ hq]
    exact (Paired.length r2).symm
  have bnd := hb ⟨(hp.push (kdv_tup us)).push (HandSPX.excO C hp.objs.size), g, dr, tk, os⟩ (Value.ref (hp.objs.size + 1) :: us) J.kIn len
  rw [List.append_nil] at bnd
  apply wpAny_call
  apply HandSPX.call_own PySem.F.excBase_Exception (fun Y => excTail_contains Y bm hbm) (I.kIn _ _ hC) (looks_findIn I.kIn iC) (fun self => bind_fn I.kIn self tI) hz
  refine codeAny_mono (F1.run _ X.stack _ _ ⟨Value.ref (hp.objs.size + 1) :: us, []⟩ (Value.ref (hp.objs.size + 1) :: us) _ _ E0 (hr.make C us []) (J.env0.make C us []) bnd r2 hq) ?_
  rintro (er | fl) s' z
  · exact hx pins σ _ _ er s' J z
  · cases fl with
    | ret u =>
      obtain ⟨v, H', I3, rv, ev, q3⟩ := Inv.after J z
      subst ev
      exact ⟨rv, ⟨V.ref (hp.objs.size + 1), H', I3, rfl, q3⟩⟩
    | next => exact z.elim
    | brk => exact z.elim
    | cont => exact z.elim
theorem pe_exmk {CX : CXT} {x : Str} {fI : Addr} {k : Nat} {fd : FuncData} {ps : List Str} {sp : Sp} {e : Expr} {es : List Expr} {ta : TA} {p pos : Pos} (T : ExC X.K C) (iC : findIn X.K (.ref C) "__init__" = some (some (.ref fI))) (tI : typeIn X.K (.ref fI) = some (.type "function"))
    (F1 : FnOk X.prog X.w X.K X.mg X.base CX k fI fd ps sp) (hr : Room (k + 1) X.A) (hb : L2.Binds X.K fd ps []) (hx : Passes CX X E0) (hg : Gl X x) (hm : X.mg x = some (.ref C)) (ha : PA X (e :: es) ta) (hdb : (x == ("__debug__" : Str)) = false := by decide)
    (he : starEach (e :: es) X.env = (false, eval e X.env) :: starEach es X.env := by rfl) (hpl : (backTo pos (starEach es X.env)).any (·.1) = false := by rfl) :
    PE X (.Call (.Name x p) (e :: es) [] pos) (tExMk C sp ta) := by
  constructor
  intro pins s σ H Q I h
  apply wpAny_Call_Name_kw (ld_glob I hg hm ?_ hdb)
  apply callWith_K (h₀ := X.base) I.ok.mod.kin T.kp ?_ he hpl
  apply thn (ha.run pos pins s σ H _ I h)
  rintro us s1 ⟨vs, H1, I1, r, hl, q⟩
  exact ⟨I1.kIn, run_exmk T iC tI F1 hr hb hx I1 r hl q⟩
end
end KX
namespace KX
open PySem PySem.Spec PySem.W PyProof.Rows PySem.Calls
section
variable {M : Model} {A : Around} {E : Value → Shared → Prop} {h : Heap} {g : Array GenState} {d : Drawn} {t : Nat} {os : OsState}
variable {nm q : Str} {C N : Addr} {bs bm bmB : List Value} {hdct : Bool} {sn : List Str} {sub : List Value} {ab : Bool} {col : Option Bool} {dd : Option Addr} {k0 k1 k2 k3 k5 : Option Value} {B newId initId : String}
theorem check_newK (F : ExcBaseFacts B newId initId bmB) (hT : ∀ X : String, bm.contains (.type X) = bmB.contains (.type X)) {rest : List Value} {kn : Str} {kv : Value} {Q : Unit → Shared → Prop}
    (hC : h.get? C = some (excClassObj nm q C N bs bm hdct sn sub ab col dd k0 k1 k2 k3 k5 newId)) (hq : Q () ⟨h, g, d, t, os⟩) : wpAny M A (checkBuiltinCall newId ⟨.ref C :: rest, [(kn, kv)]⟩) Q E ⟨h, g, d, t, os⟩ := by
  have hc : (Value.ref C :: bm).contains (.type B) = true := by rw [List.contains_cons, hT, F.hasB, Bool.or_true]
  have hs := F.noStar
  simp only [checkBuiltinCall, F.newKind, F.newSplit, F.newRow]
  repeat (first | refine wpAny_madeBy_exc hC ?_ | refine wpAny_staticBase_exc hC ?_ | refine wpAny_loadPart_at hC ?_ | (refine wpAny_isSubtype_exc hC ?_; rw [hc]) | simp only [bne_self_eq_false, Bool.false_eq_true, if_false] | wp_step)
  exact hq
end
section
variable {prog : Program} {w : World} {A : Around} {E : Value → Shared → Prop} {R : Result → Shared → Prop} {h : Heap} {g : Array GenState} {d : Drawn} {t : Nat} {os : OsState}
variable {nm q : Str} {C N : Addr} {bs bm bmB : List Value} {hdct : Bool} {sn : List Str} {sub : List Value} {ab : Bool} {col : Option Bool} {dd : Option Addr} {k0 k1 k2 k3 k5 : Option Value} {B newId initId : String}
theorem newK (F : ExcBaseFacts B newId initId bmB) (hT : ∀ X : String, bm.contains (.type X) = bmB.contains (.type X)) {rest : List Value} {kn : Str} {kv : Value}
    (hC : h.get? C = some (excClassObj nm q C N bs bm hdct sn sub ab col dd k0 k1 k2 k3 k5 newId))
    (hq : R (.ok (.ret (.ref (h.objs.size + 1)))) ⟨(h.push { cls := .type "tuple", data := .seq rest.toArray }).push (HandSPX.excO C h.objs.size), g, d, t, os⟩) (hrest : rest.length ≤ sizeLine) :
    codeAny (model prog w) A (.builtin newId ⟨.ref C :: rest, [(kn, kv)]⟩) R ⟨h, g, d, t, os⟩ := by
  have he := F.ends
  have c1 : (Value.ref C :: bm).contains (.type B) = true := by rw [List.contains_cons, hT, F.hasB, Bool.or_true]
  have c2 : (Value.ref C :: bm).contains (.type "AttributeError") = false := by rw [List.contains_cons, hT, F.noAttr]; rfl
  have c3 : (Value.ref C :: bm).contains (.type "NameError") = false := by rw [List.contains_cons, hT, F.noName]; rfl
  apply codeAny_builtinAt F.entry
  unfold Builtin.«BaseException.__new__»
  refine PySem.wpAt_bind ?_
  show PySem.wpAt _ _ _ (stack >>= _) _ _ _
  refine PySem.wpAt_bind (PySem.wpAt_stack fun p below => PySem.wpAt_of_wpAny ?_)
  wp_walk
  refine PySem.wpAt_of_wpAny ?_
  rw [F.owner]
  repeat (first | with_reducible refine wpAny_loadPart_at hC ?_ | with_reducible refine wpAny_madeHere_exc F.canon hC ?_ | (with_reducible refine wpAny_isSubtype_exc hC ?_; first | rw [c1] | rw [c2] | rw [c3]) | wp_step)
  show R _ _
  rw [Heap.size_push]
  exact hq
theorem type_callK (F : ExcBaseFacts B newId initId bmB) (hT : ∀ X : String, bm.contains (.type X) = bmB.contains (.type X)) {rest : List Value} {kn : Str} {kv : Value} {fI : Addr} {Q : Fin → Shared → Prop}
    (hC : h.get? C = some (excClassObj nm q C N bs bm hdct sn sub ab col dd k0 k1 k2 k3 k5 newId))
    (hi : Looks (model prog w) h (typeLookup (.ref C) "__init__") (some (.ref fI))) (hb : ∀ self, Looks (model prog w) h (bindSpecial (.ref fI) self) (.ref fI, [self])) (hrest : rest.length ≤ sizeLine)
    (hq : codeAny (model prog w) A (.call (.ref fI) ⟨.ref (h.objs.size + 1) :: rest, [(kn, kv)]⟩)
      (fun r s' => match r with | .ok (.ret v) => v = .none ∧ Q (.done (.ret (.ref (h.objs.size + 1)))) s' | .ok _ => False | .error e => E e s')
      ⟨(h.push (kdv_tup rest)).push (HandSPX.excO C h.objs.size), g, d, t, os⟩) :
    wpAny (model prog w) A (Builtin.«type.__call__» ⟨.ref C :: rest, [(kn, kv)]⟩) Q E ⟨h, g, d, t, os⟩ := by
  repeat (first | with_reducible refine wpAny_madeBy_exc hC ?_ | with_reducible refine wpAny_loadPart_at hC ?_ | wp_step)
  refine codeAny_call_builtin_code (Code.quiet_builtin _ F.quiet) (check_newK F hT hC ?_)
  refine newK F hT hC ?_ hrest
  show wpAny _ _ _ _ _ _
  have kp : ∀ b o, h.get? b = some o → ((h.push (kdv_tup rest)).push (HandSPX.excO C h.objs.size)).get? b = some o := fun b o e => Heap.get?_push_of_some _ (Heap.get?_push_of_some _ e)
  have hC1 := kp _ _ hC
  have at_ : ((h.push (kdv_tup rest)).push (HandSPX.excO C h.objs.size)).get? (h.objs.size + 1) = some (HandSPX.excO C h.objs.size) := by heap_get
  have own : (Value.ref C :: bm).contains (.ref C) = true := by simp
  have i1 := hi.keeps kp
  have b1 := (hb (.ref (h.objs.size + 1))).keeps kp
  unfold isInstance
  repeat (first | with_reducible refine wpAny_loadPart_at at_ ?_ | (with_reducible refine wpAny_isSubtype_exc hC1 ?_; rw [own]) | wp_step)
  show wpAny _ _ (typeLookup (.ref C) _) _ _ _
  refine i1.at (wpAny_holding (wpAny_bind (b1.at ?_)))
  refine wpAny_bind (wpAny_call (codeAny_mono hq fun r s' z => ?_))
  rcases r with e | (v | _ | _ | _)
  · exact z
  all_goals try exact z.elim
  obtain ⟨rfl, z⟩ := z
  first
    | exact wpAny_pure (wpAny_pure z)
    | (wp_walk; exact z)
theorem call_ownK (F : ExcBaseFacts B newId initId bmB) (hT : ∀ X : String, bm.contains (.type X) = bmB.contains (.type X)) {rest : List Value} {kn : Str} {kv : Value} {fI : Addr}
    (hC : h.get? C = some (excClassObj nm q C N bs bm hdct sn sub ab col dd k0 k1 k2 k3 k5 newId))
    (hi : Looks (model prog w) h (typeLookup (.ref C) "__init__") (some (.ref fI))) (hb : ∀ self, Looks (model prog w) h (bindSpecial (.ref fI) self) (.ref fI, [self])) (hrest : rest.length ≤ sizeLine)
    (hq : codeAny (model prog w) (A.under (.builtin "type.__call__" ⟨.ref C :: rest, [(kn, kv)]⟩)) (.call (.ref fI) ⟨.ref (h.objs.size + 1) :: rest, [(kn, kv)]⟩) (InitBack (h.objs.size + 1) R)
      ⟨(h.push (kdv_tup rest)).push (HandSPX.excO C h.objs.size), g, d, t, os⟩) :
    codeAny (model prog w) A (.call (.ref C) ⟨rest, [(kn, kv)]⟩) R ⟨h, g, d, t, os⟩ := by
  have f1 := tc_lookup
  have f2 := tc_bind (.ref C)
  have ty : (⟨h, g, d, t, os⟩ : Shared).TypeIs (.ref C) "type" := ⟨_, hC, rfl⟩
  refine codeAny_of_tree ?_
  show wpAny _ _ (callAny (.ref C) _) _ _ _
  repeat (any_goals (first | with_reducible refine wpAny_loadPart_at hC ?_ | assumption | wp_step))
  refine ⟨rfl, ?_⟩
  refine codeAny_call_builtin_at (Code.quiet_builtin _ (by decide +kernel)) entry_typeCall ?_
  refine wpAny_check_type_call_sub hC (type_callK F hT hC hi hb hrest ?_)
  refine codeAny_mono hq fun r s' z => ?_
  rcases r with e | (v | _ | _ | _) <;> exact z
end
end KX
namespace KX
open PySem PySem.Spec PySem.W PyProof.Rows PySem.Calls L2 KG
section
variable {X : Cx} {pins : List (Addr × Obj)} {σ : L2.St} {H : Hp} {s : Shared} {a C : Addr} {f : Str} {y : V} {u : Value} {fs : List (Str × V)}
/-! ### C(k = e) -/
def tExMkK (C : Addr) (sp : Sp) (tk : TA) : TE := fun σ H Q => tk σ H fun vs H1 => ∃ v, vs = [v] ∧ ∀ a, H1 a = none → sp [.ref a, v] (upd H1 a (exo a C none)) (fun v H2 => v = .non ∧ Q (.ref a) H2) E0
/-- a def's one keyword finds its place -/
def KwOne (fd : FuncData) (ps : List Str) (kn : Str) : Prop := ∀ (s : Shared) (u v : Value), BindsTo s fd ⟨[u], [(kn, v)]⟩ (ps.zip [u, v])
theorem kwOne {K : Frag} {x qual : Str} {st : Stmt} {f : Addr} {fd : FuncData} {ps : List Str} {kn : Str} (F : Fun K x qual st f fd)
    (h : ∀ (kV doc pm : Value) (an : Option Addr) (cdv ct : Value) (u v : Value), bindArgs (fnOf x qual (defArgs st) (defBody st) (defScope st) .none kV doc pm an cdv ct) ⟨[u], [(kn, v)]⟩ = pure (ps.zip [u, v])) : KwOne fd ps kn := by
  obtain ⟨oc, od, kV, doc, pm, an, cdv, ct, osl, rfl, lk, hcd⟩ := F.ex
  exact fun s u v => .of_eq (h kV doc pm an cdv ct u v)
theorem pe_exmkK {CX : CXT} {x kn : Str} {fI : Addr} {k : Nat} {fd : FuncData} {ps : List Str} {sp : Sp} {kws : List Keyword} {tk : TA} {p pos : Pos} (T : ExC X.K C) (iC : findIn X.K (.ref C) "__init__" = some (some (.ref fI))) (tI : typeIn X.K (.ref fI) = some (.type "function"))
    (F1 : FnOk X.prog X.w X.K X.mg X.base CX k fI fd ps sp) (hr : Room (k + 1) X.A) (hb : KwOne fd ps kn) (hx : Passes CX X E0) (hg : Gl X x) (hm : X.mg x = some (.ref C)) (hkw : PK X kws tk) (hall : (backToKw pos (keywordEach kws X.env)).all (·.1.isSome) = true := by rfl)
    (hks : (backToKw pos (keywordEach kws X.env)).filterMap (·.1) = [kn] := by rfl) (hdb : (x == ("__debug__" : Str)) = false := by decide)
    (hpl : ((backTo pos (starEach [] X.env)).any (·.1) || (backToKw pos (keywordEach kws X.env)).any (·.1.isNone)) = false := by rfl) : PE X (.Call (.Name x p) [] kws pos) (tExMkK C sp tk) := by
  constructor
  intro pins s σ H Q I h
  apply wpAny_Call_Name_kw (ld_glob I hg hm ?_ hdb)
  apply callWith_KW0 (h₀ := X.base) I.ok.mod.kin T.kp hall ?_ hpl
  apply thn (hkw.run pos pins s σ H _ I h)
  rintro ws s1 ⟨zs, H1, I1, rz, v, ev, q⟩
  subst ev
  obtain ⟨u, eu, ru⟩ := vals1 rz
  subst eu
  refine ⟨I1.kIn, ?_⟩
  rw [hks]
  show wpAny _ _ (call (.ref C) [] [(kn, u)]) _ _ _
  obtain ⟨nm, qn, N, bs, bm, sn, sub, ab, col, dd, k0, k1, k2, k3, k5, hC, hbm⟩ := T.cls
  obtain ⟨hp, g, dr, tkn, os⟩ := s1
  have new : hp.objs.size ≤ hp.objs.size + 1 := Nat.le_succ _
  have kp : ∀ b o, hp.get? b = some o → ((hp.push (kdv_tup [])).push (HandSPX.excO C hp.objs.size)).get? b = some o := fun b o e => Heap.get?_push_of_some _ (Heap.get?_push_of_some _ e)
  have at_ : ((hp.push (kdv_tup [])).push (HandSPX.excO C hp.objs.size)).get? (hp.objs.size + 1) = some (HandSPX.excO C hp.objs.size) := by heap_get
  have J : Inv X pins σ (upd H1 (hp.objs.size + 1) (exo (hp.objs.size + 1) C none)) ⟨(hp.push (kdv_tup [])).push (HandSPX.excO C hp.objs.size), g, dr, tkn, os⟩ :=
    I1.laid (a := hp.objs.size + 1) (o := exo (hp.objs.size + 1) C none) (h' := (hp.push (kdv_tup [])).push (HandSPX.excO C hp.objs.size)) (t' := tkn) kp new (exo_ok at_)
  have hq := q (hp.objs.size + 1) (I1.hok.fresh new)
  have r2 : Vals [V.ref (hp.objs.size + 1), v] [Value.ref (hp.objs.size + 1), u] := .cons rfl (.cons ru .nil)
  apply wpAny_call
  apply call_ownK PySem.F.excBase_Exception (fun Y => excTail_contains Y bm hbm) (I1.kIn _ _ hC) (looks_findIn I1.kIn iC) (fun self => bind_fn I1.kIn self tI) (by rw [sizeLine_eq]; decide)
  refine codeAny_mono (F1.run _ X.stack _ _ ⟨[Value.ref (hp.objs.size + 1)], [(kn, u)]⟩ [Value.ref (hp.objs.size + 1), u] _ _ E0 (hr.make C [] [(kn, u)]) (J.env0.make C [] [(kn, u)]) (hb _ _ _) r2 hq) ?_
  rintro (er | fl) s' z
  · exact hx pins σ _ _ er s' J z
  · cases fl with
    | ret u2 =>
      obtain ⟨v2, H', I3, rv, ev, q3⟩ := Inv.after J z
      subst ev
      exact ⟨rv, ⟨V.ref (hp.objs.size + 1), H', I3, rfl, q3⟩⟩
    | next => exact z.elim
    | brk => exact z.elim
    | cont => exact z.elim
/-- self.f = w, the whole of an __init__ of two parameters -/
def spSet (C : Addr) (f : Str) : Sp := fun vs H Q _ => ∃ (a : Addr) (y : V), vs = [.ref a, y] ∧ H a = some (exo a C none) ∧ ∀ dx, H dx = none → dx ≠ a → Q .non (upd (upd H dx (exd dx [(f, y)])) a (exo a C (some dx)))

/-! ### C(), a class without an __init__ of its own -/
def tExMk0 (C : Addr) : TE := fun _ H Q => ∀ a, H a = none → Q (.ref a) (upd H a (exo a C none))
theorem pe_exmk0 {x : Str} {p pos : Pos} (q : excIn X.K C exTl "Exception.__new__" = true) (kC : keepIn X.K (.ref C) = true) (hg : Gl X x) (hm : X.mg x = some (.ref C)) (hdb : (x == ("__debug__" : Str)) = false := by decide) : PE X (.Call (.Name x p) [] [] pos) (tExMk0 C) := by
  constructor
  intro pins s σ H Q I h
  apply wpAny_Call_Name_kw (ld_glob I hg hm ?_ hdb)
  refine callWith_K0 I.kIn kC ?_
  show wpAny _ _ (call (.ref C) []) _ _ _
  obtain ⟨bm, N, nm, qn, bs, hdct, sn, sub, ab, col, dd, k0, k1, k2, k3, k5, mN, hC, hN, hni, T⟩ := exc_obj I.kIn q
  refine wpAny_call_exc_subT PySem.F.excBase_Exception T hC hN hni (fun h' a hm => ?_) (by show 0 ≤ sizeLine; exact Nat.zero_le _)
  have hn : H a = none := I.hok.gone hm.new
  obtain ⟨t, ht, _, _⟩ := hm.there
  exact ⟨.ref a, upd H a (exo a C none), I.laidN hm.keeps hm.new hn (exo_ok ht), rfl, h a hn⟩

/-! ### e.f -/
def tExGet (K : Frag) (f : Str) (te : TE) : TE := fun σ H Q => te σ H fun x H1 => ∃ (a C : Addr) (fs : List (Str × V)) (v : V), x = .ref a ∧ ExC K C ∧ findIn K (.ref C) f = some none ∧ ExAt H1 a C fs ∧ fs.lookup f = some v ∧ Q v H1
theorem ex_inst (I : Inv X pins σ H s) (h : ExAt H a C fs) : ∃ ox od, InstAt s.heap a ox C od ∧ ∀ (n : Str) (v : V), fs.lookup n = some v → ∃ u o, od = some o ∧ lookIn n o = some (some u) ∧ RelV v u := by
  rcases h with ⟨dx, h1, h2⟩ | ⟨h0, h1⟩
  · obtain ⟨t1, ho⟩ := exo_at I.hok h1
    obtain ⟨mA, hns, hr⟩ := exd_at I.hok h2
    obtain ⟨od, hod, hl⟩ := lookIn_ns hns
    refine ⟨_, some od, ⟨ho, rfl, rfl, hod⟩, fun n v e => ?_⟩
    obtain ⟨u, hu, ru⟩ := RelO.some_of (v := v) (o := mA n) (by rw [← e]; exact hr n)
    exact ⟨u, od, rfl, by rw [hl, hu], ru⟩
  · obtain ⟨t1, ho⟩ := exo_at I.hok h1
    exact ⟨_, none, ⟨ho, rfl, rfl, trivial⟩, fun n v e => by rw [h0] at e; cases e⟩
theorem pe_exget {e : Expr} {te : TE} {pos : Pos} (he : PE X e te) (hb : attributeBase e f X.env (eval e X.env) = eval e X.env := by rfl) : PE X (.Attribute e f pos) (tExGet X.K f te) := by
  constructor
  intro pins s σ H Q I h
  apply attr_of hb
  apply thn (he.run pins s σ H _ I h)
  rintro u s1 ⟨x, H1, I1, rx, a, C, fs, v, ex, T, hno, ea, l, q⟩
  subst ex
  obtain rfl : u = Value.ref a := rx
  obtain ⟨ox, od, J, hf⟩ := ex_inst I1 ea
  obtain ⟨u, o, eo, hl, ru⟩ := hf f v l
  subst eo
  exact HandSPX.exc_get I1.kIn J T.ga T.gg T.bx (findObj_own T.hd hno rfl hl) (handed_of ru) ⟨v, H1, I1.tok _, ru, q⟩
end
end KX
/-! Table.column, by position and by name; _law_columns_right. -/
namespace K01
open PySem PySem.Spec PyProof.Rows L2 KG KS KA KX
abbrev s_tabColumn : Stmt := inCls 15 12
abbrev s__law_columns_right : Stmt := top 28
def rTupOfW (K : PySem.W.Frag) : List V → Hp → VK → Prop := fun xs H Q => ∃ p ys, xs = [.ref p] ∧ ((SqL K H p ys ∧ ∀ l, H l = none → Q (.ref l) (upd H l (.tup ys))) ∨ (SqT K H p ys ∧ Q (.ref p) H))
/-! ### o.m(k = e) -/
def tMethKw (C : Addr) (m : Str) (sp : Sp) (E : XK) (ta : TE) (tk : TA) : TE := fun σ H Q => ta σ H fun x H1 => ∃ a dx fs, x = V.ref a ∧ H1 a = some (.ins C dx fs) ∧ fs.lookup m = none ∧ tk σ H1 fun zs H2 => ∃ v, zs = [v] ∧ sp [x, v] H2 Q E
section
variable {X : Cx} {CX : CXT} {k : Nat} {f C : Addr} {fd : FuncData} {ps : List Str} {sp : Sp} {E : XK} {m kn : Str} {pos apos : Pos} {o : Expr} {kws : List Keyword} {ta : TE} {tk : TA}
theorem pe_methKw {pl : Sem Bool} (he : PE X o ta) (c : L2.Cls X.K C) (hm : Meth X.K C m f) (F : FnOk X.prog X.w X.K X.mg X.base CX k f fd ps sp) (hr : Room k X.A) (hb : KwOne fd ps kn) (hx : Passes CX X E) (hkw : PK X kws tk)
    (hall : (backToKw pos (keywordEach kws X.env)).all (·.1.isSome) = true := by rfl) (hks : (backToKw pos (keywordEach kws X.env)).filterMap (·.1) = [kn] := by rfl)
    (hpl : ((backTo pos (starEach [] X.env)).any (·.1) || (backToKw pos (keywordEach kws X.env)).any (·.1.isNone)) = false := by rfl)
    (ht : eval (.Call (.Attribute o m apos) [] kws pos) X.env = (do
      let ov ← eval o X.env
      standAt apos.atName
      let (f, first) ← holding [ov] (getMethod ov m pl)
      callWith pos f first (backTo pos (starEach [] X.env)) (backToKw pos (keywordEach kws X.env))) := by rfl) : PE X (.Call (.Attribute o m apos) [] kws pos) (tMethKw C m sp E ta tk) := by
  refine ⟨fun pins s σ H Q I h => ?_⟩
  refine PySem.W.methodCall_KW (pl := pl) (thn (he.run pins s σ H _ I h) fun u s1 ⟨x, H1, I1, rx, a, dx, fs, ex, ea, l, q⟩ => ?_) ht
  subst ex
  obtain rfl : u = Value.ref a := rx
  refine getmeth_ok I1 ea c hm l ?_
  refine PySem.W.callWith_KW0 (first := [.ref a]) (h₀ := X.base) I.ok.mod.kin hm.kp hall ?_ hpl
  refine thn (hkw.run pos pins s1 σ H1 _ I1 q) ?_
  rintro ws s2 ⟨zs, H2, I2, rz, v, ev, q2⟩
  subst ev
  obtain ⟨u, eu, ru⟩ := vals1 rz
  subst eu
  refine ⟨I2.kIn, ?_⟩
  rw [hks]
  show wpAny _ _ (call (.ref f) [.ref a] [(kn, u)]) _ _ _
  refine wpAny_call (codeAny_mono (F.run X.A X.stack s2 H2 ⟨[.ref a], [(kn, u)]⟩ [.ref a, u] [.ref a, v] Q E hr I2.env0 (hb _ _ _) (.cons rfl (.cons ru .nil)) q2) ?_)
  rintro (er | fl) s' z
  · exact hx pins σ H2 s2 er s' I2 z
  · cases fl with
    | ret u => exact I2.after z
    | next => exact z.elim
    | brk => exact z.elim
    | cont => exact z.elim
end
/-- a method whose one keyword is told -/
structure MtK (K : PySem.W.Frag) (C : Addr) (m qual : Str) (st : Stmt) (ps : List Str) (kn : Str) where
  f : MtF K m qual st
  M : Meth K C m f.a
  kw : KwOne f.d ps kn
def spColumn (C : Addr) : Sp := fun vs H Q _ => ∃ (t : Addr) (pl n : Nat) (ds : List Str) (R : List (List Str)), vs = [.ref t, .int (pl : Nat)] ∧ TabAt C H t ds n R ∧ pl < n ∧
  ∀ (p : Addr) (xs : List Str) (H' : Hp), H p = none → Same H H' → H' p = some (.tup (xs.map V.str)) → AscT xs → (∀ x, x ∈ xs ↔ ∃ row ∈ R, row[pl]? = some x) → Q (.ref p) H'
theorem tab_look {d p : Addr} {n : Nat} {b1 b2 : Bool} : (tabFs d p n b1 b2).lookup ("column" : Str) = none ∧ (tabFs d p n b1 b2).lookup ("picked" : Str) = none ∧ (tabFs d p n b1 b2).lookup ("cut" : Str) = none := ⟨rfl, rfl, rfl⟩
theorem drop_last {α : Type} {xs : List α} {n : Nat} {c : α} (len : xs.length = n + 1) (h : xs[n]? = some c) : xs.drop n = [c] := by
  have lt : n < xs.length := by omega
  rw [List.drop_eq_getElem_cons lt, List.drop_of_length_le (by omega)]
  rw [List.getElem?_eq_getElem lt] at h
  rw [Option.some.inj h]
theorem cut_last {xs : List V} {n : Nat} (len : xs.length = n + 1) : cutV xs (some (-1)) none = xs.drop n := by
  have e : HT.sIx xs.length 0 (some (-1)) = n := by
    show (if (-1 : Int) < 0 then ((-1 : Int) + (xs.length : Int)).toNat else min (-1 : Int).toNat xs.length) = n
    rw [if_pos (by decide)]
    omega
  unfold cutV
  rw [e, HT.sIx_none]
  exact List.take_of_length_le (by rw [List.length_drop]; omega)
/-- lists of texts turned into tuples -/
def colsD (R : List (List Str)) : PyData := .list (R.map txd)
theorem colsD_fits {ds : List Str} {R : List (List Str)} (hd : ∀ x ∈ ds, nameOk x = true) (hR : ∀ r ∈ R, r.length ≤ 3 ∧ ∀ x ∈ r, x ∈ ds) (h4 : R.length ≤ 40) : (colsD R).showable = true ∧ (colsD R).depth ≤ 60 ∧ (colsD R).shown.length ≤ sizeLine := by
  refine ⟨rows_show R, ?_, ?_⟩
  · have h2 := rows_depth R
    simp only [colsD, PyData.depth]
    omega
  · refine Nat.le_trans (shown_cost _) ?_
    have h2 := rows_cost (n := 3) (R := R) fun r hr => ⟨(hR r hr).1, fun x hx => hd x ((hR r hr).2 x hx)⟩
    show costAll (R.map txd) + 4 ≤ sizeLine
    rw [sizeLine_eq]
    omega
theorem asc_ext {a b : List Str} (h1 : AscT a) (h2 : AscT b) (m : ∀ x, x ∈ a ↔ x ∈ b) : a = b := by
  have nd : ∀ {c : List Str}, AscT c → c.Nodup := fun h => h.imp fun {a b} l e => by
    rw [e, ltT_irr] at l
    cases l
  refine List.Perm.eq_of_pairwise (le := fun a b => ltT a b = true) (fun a b _ _ h1 h2 => ?_) h1 h2 ((List.perm_ext_iff_of_nodup (nd h1) (nd h2)).mpr m)
  have z : ltT a a = true := lex_trans _ _ _ h1 h2
  rw [ltT_irr] at z
  cases z
theorem bool_fits (b : Bool) : (PyData.bool b).showable = true ∧ (PyData.bool b).depth ≤ 60 ∧ (PyData.bool b).shown.length ≤ sizeLine :=
  ⟨rfl, by simp [PyData.depth], Nat.le_trans (shown_cost _) (by show 5 ≤ sizeLine; rw [sizeLine_eq]; omega)⟩
def spColsR (C : Addr) : Sp := fun vs H Q _ => ∃ (t ls : Addr) (n : Nat) (ds : List Str) (rs' : List V) (R : List (List Str)), vs = [.ref t, .int (n : Nat), .ref ls] ∧ TabAt C H t ds n R ∧ H ls = some (.lst rs') ∧ RowsAt H rs' R ∧ ∀ H', Same H H' → Q (.bl true) H'
section
variable {P : Program} {w : World} {K : PySem.W.Frag} {mg : Str → Option Value} {base : Heap}
theorem sc_tabColumn : FnScope ["self", "place"] ["self", "place"] (defScope s_tabColumn) := ⟨rfl, rfl, rfl, by decide +kernel, rfl, by decide +kernel, by decide +kernel⟩
theorem ok_tabColumn {it : Addr} (B : Bs mg) (T : TabC K mg it) (fc : FnF K mg "column_of" "column_of" s_column_of) (fs : FnF K mg "ascending" "ascending" s_ascending) (f : MtF K "column" "Table.column" s_tabColumn) :
    FnOk P w K mg base CX0 3 f.a f.d ["self", "place"] (spColumn T.C) := by
  have G := ok_column_of (P := P) (w := w) (base := base) B fc fs
  have b : L2.Binds K fc.d ["rows", "place"] [] := fc.F.binds fun _ _ _ _ _ _ us hl => match us, hl with | [_, _], _ => rfl
  refine f.F.ok sc_tabColumn (fun vs H Q E h => ?_) (fun cdv A outer s H vs Q E hr h => ?_)
  · obtain ⟨t, pl, n, ds, R, rfl, _⟩ := h
    rfl
  · obtain ⟨t, pl, n, ds, R, rfl, TA, hp, q⟩ := h
    refine ⟨_, (pss_one
      (ps_ret (pe_call G hr rfl fc.g fc.F.kp b .nil pass0 (pa_cons (pe_fld (pv 0) rfl) (pa_cons (pv 1) pa_nil))))), ?_⟩
    obtain ⟨dx, d, p, rs, cols, ht, hd, hp2, hR, hC⟩ := TA.ex
    have n3 := TA.dom.2.2.2.2.2
    refine ⟨_, rfl, t, T.C, dx, _, _, rfl, ht, T.cl, T.nr, rfl, _, rfl, p, rs, R, pl, rfl, hp2, hR, fun row hr => by rw [(TA.row row hr).1]; exact hp, TA.h64, by omega, fun g xs H' hg e hg' iff nd aft => ?_⟩
    exact q g xs H' hg e hg' (aft_texts aft nd) iff
theorem sc__law_columns_right : FnScope ["_law_made", "_law_size", "_law_lines_here", "_law_columns", "_law_told", "_law_spot", "_law_line", "_law_column"] ["_law_made", "_law_size", "_law_lines_here"] (defScope s__law_columns_right) := ⟨rfl, rfl, rfl, by decide +kernel, rfl, by decide +kernel, by decide +kernel⟩
theorem ok__law_columns_right {it : Addr} (B : Bs mg) (T : TabC K mg it) (f : FnF K mg "_law_columns_right" "_law_columns_right" s__law_columns_right) (fr : FnF K mg "_law_rows_of" "_law_rows_of" s__law_rows_of)
    (fc : FnF K mg "column_of" "column_of" s_column_of) (fs : FnF K mg "ascending" "ascending" s_ascending) (mk : MtK K T.C "column" "Table.column" s_tabColumn ["self", "place"] "place") :
    FnG P w K mg base CX0 4 f.a f.d ["_law_made", "_law_size", "_law_lines_here"] (spColsR T.C) := by
  have GR := ok__law_rows_of (P := P) (w := w) (base := base) B fr
  have GRL := ok__law_rows_ofL (P := P) (w := w) (base := base) B fr
  have bR : L2.Binds K fr.d ["_law_columns"] [] := fr.F.binds fun _ _ _ _ _ _ us hl => match us, hl with | [_], _ => rfl
  have GC := ok_tabColumn (P := P) (w := w) (base := base) B T fc fs mk.f
  have bC : L2.Binds K mk.f.d ["self", "place"] [] := mk.f.F.binds fun _ _ _ _ _ _ us hl => match us, hl with | [_, _], _ => rfl
  refine okN f.F sc__law_columns_right (fun vs H Q E h => ?_) (fun cdv A outer s H vs Q E hgu hr h => ?_)
  · obtain ⟨t, ls, n, ds, rs', R, rfl, _⟩ := h
    rfl
  · obtain ⟨t, ls, n, ds, rs', R, rfl, TA, hls, hR', q⟩ := h
    have hu64 := hr.units
    have hr1 : Room 1 _ := hr.mono (by omega)
    refine ⟨_, (pss_cons
      (ps_setLc (i := 3) (own := [("_law_spot", 5)]) (g := gName 5) (by rfl) sc__law_columns_right.nd rfl rfl (sw_true rfl rfl rfl (by decide +kernel)) (pi_range1 rfl B.n_range (pa_cons (pv 1) pa_nil)) (blkOk_by (own := [("_law_spot", 5)]) (N := ["_law_made", "_law_size", "_law_lines_here", "_law_columns", "_law_told", "_law_spot", "_law_line", "_law_column"]) (sc := defScope s__law_columns_right) (by decide +kernel)) (fun _ _ _ _ _ => (pg_name (i := 5) sc__law_columns_right.nd rfl (Or.inr rfl))) (fun _ _ _ _ _ => pts_nil)
        (fun _ _ _ _ _ => (pe_callB (show CallR _ (.builtin "sorted") (rSortSetW w K) from cr_sortSetW (by rfl) hu64) (by rfl) B.n_sorted (by decide +kernel) (pa_cons (pe_callTy (show CallR _ (.type "set") (rSetOfW w K) from cr_setOfW (by rfl) hu64) (by rfl) B.n_set (by decide +kernel) (pa_cons (pe_lc (own := [("_law_line", 6)]) (g := gName 6) (by rfl) sc__law_columns_right.nd (show PI _ _ _ (iList K (tVar 2)) from pi_list (pv 2)) (blkOk_by (own := [("_law_line", 6)]) (N := ["_law_made", "_law_size", "_law_lines_here", "_law_columns", "_law_told", "_law_spot", "_law_line", "_law_column"]) (by kernel_rfl)) (fun _ _ _ _ _ => (pg_name (i := 6) sc__law_columns_right.nd rfl (Or.inl rfl))) (fun _ _ _ _ _ => pts_nil) (fun _ _ _ _ _ => (pe_ix (show IxR _ (rIxT K) from ix_tup) (pv 6) (pv 5) (fun _ _ => rfl)))) pa_nil)) pa_nil))))
    (pss_cons
      (ps_set (i := 4) sc__law_columns_right.nd rfl (Or.inl rfl) (pe_op op_cat (pe_lc (own := [("_law_spot", 5)]) (g := gName 5) (by rfl) sc__law_columns_right.nd (pi_range1 rfl B.n_range (pa_cons (pv 1) pa_nil)) (blkOk_by (own := [("_law_spot", 5)]) (N := ["_law_made", "_law_size", "_law_lines_here", "_law_columns", "_law_told", "_law_spot", "_law_line", "_law_column"]) (sc := defScope s__law_columns_right) (by decide +kernel)) (fun _ _ _ _ _ => (pg_name (i := 5) sc__law_columns_right.nd rfl (Or.inl rfl))) (fun _ _ _ _ _ => pts_nil)
        (fun _ _ _ _ _ => (pe_meth (pv 0) T.cl mk.M GC hr bC .nil pass0 (pa_cons (pv 5) pa_nil)))) (pe_lst (pa_cons (pe_methKw (pv 0) T.cl mk.M GC hr mk.kw pass0 (pk_cons (pe_op op_sub (pv 1) pe_int) pk_nil)) pa_nil))))
    (pss_cons
      (ps_if (pt_cmpR op_ne (pe_callB (call_repr hgu hu64) (by rfl) B.n_repr (by decide +kernel) (pa_cons (pv 4) pa_nil)) (pe_callB (call_repr hgu hu64) (by rfl) B.n_repr (by decide +kernel) (pa_cons (pe_lc (own := [("_law_column", 7)]) (g := gName 7) (by rfl) sc__law_columns_right.nd (pi_list (pe_op op_cat (pv 3) (pe_slice sl_list (pv 3) (po_some (pe_un un_neg pe_int)) po_none))) (blkOk_by (own := [("_law_column", 7)]) (N := ["_law_made", "_law_size", "_law_lines_here", "_law_columns", "_law_told", "_law_spot", "_law_line", "_law_column"]) (sc := defScope s__law_columns_right) (by decide +kernel)) (fun _ _ _ _ _ => (pg_name (i := 7) sc__law_columns_right.nd rfl (Or.inl rfl))) (fun _ _ _ _ _ => pts_nil)
          (fun _ _ _ _ _ => (pe_callTy (show CallR _ (.type "tuple") (rTupOfW K) from call_tuple_of) (by rfl) B.n_tuple (by decide +kernel) (pa_cons (pv 7) pa_nil)))) pa_nil)) (nomark _))
        (pss_one
          (ps_ret pe_bl))
        pss_nil)
    (pss_cons
      (ps_if (pt_cmpR op_ne (pe_callB (call_repr hgu hu64) (by rfl) B.n_repr (by decide +kernel) (pa_cons (pe_fld (pv 0) rfl) pa_nil)) (pe_callB (call_repr hgu hu64) (by rfl) B.n_repr (by decide +kernel) (pa_cons (pe_cmpR (op_eqD hu64) (pe_call GRL hr1 rfl fr.g fr.F.kp bR .nil pass0 (pa_cons (pv 3) pa_nil)) (pv 2) (nomark _)) pa_nil)) (nomark _))
        (pss_one
          (ps_ret pe_bl))
        pss_nil)
    (pss_one
      (ps_ret (pe_cmpR op_eq (pe_callB (call_repr hgu hu64) (by rfl) B.n_repr (by decide +kernel) (pa_cons (pe_fld (pv 0) rfl) pa_nil)) (pe_callB (call_repr hgu hu64) (by rfl) B.n_repr (by decide +kernel) (pa_cons (pe_cmpR (op_eqD hu64) (pe_call GR hr1 rfl fr.g fr.F.kp bR .nil pass0 (pa_cons (pe_op op_rep (pe_lst (pa_cons (pe_fld (pv 0) rfl) pa_nil)) (pv 1)) pa_nil)) (pv 2) (nomark _)) pa_nil)) (nomark _)))))))), ?_⟩
    obtain ⟨dx, d, p, rs, cols, ht, hd, hp, hR, hC⟩ := TA.ex
    have dom : DomOk ds n := TA.dom
    obtain ⟨dasc, dok, d1, d3, n1, n3⟩ := TA.dom
    -- columns
    have rl : ∀ r ∈ R, r.length = n := fun r hr => (TA.row r hr).1
    have h64 := TA.h64
    refine ⟨_, rfl, (n : Nat), rfl, by omega, by omega, fun C hC0 => ?_⟩
    refine lc_range (lo := 0) (n := ((n : Nat) : Int).toNat) (fun i H' => ∃ (cs : List Addr) (cols' : List (List Str)), Same H H' ∧ H' C = some (.lst (cs.map V.ref)) ∧ LstsOff C C H' (cs.map V.ref) cols' ∧ cols'.length = i ∧ (∀ c ∈ cols', c.length ≤ 3) ∧ (∀ c ∈ cols', ∀ y ∈ c, y ∈ ds) ∧ ∀ (j : Nat) c, cols'[j]? = some c → AscT c ∧ ∀ x, x ∈ c ↔ ∃ row ∈ R, row[j]? = some x)
      ⟨[], [], same_new hC0, upd_same, .nil, rfl, fun _ z => (nomatch z), fun _ z => (nomatch z), fun _ _ z => (nomatch z)⟩ ?_ ?_
    · rintro i H4 hi ⟨cs, cols', e4, hC4, hL4, len, c3, cds, cdef⟩
      have hi2 : i < n := by simpa using hi
      have hls4 := e4 _ _ hls
      have hR4 := hR'.up e4
      refine ⟨rfl, _, rfl, ls, rfl, ⟨_, SqL.of hls4⟩, fun D hD => ?_⟩
      have nCD : D ≠ C := (ne_of_none hC4 hD).symm
      refine lc_list (K := K) (xs := rs') (fun j H' => Same H4 H' ∧ H' D = some (.lst (((colv R i).take j).map V.str))) ⟨same_new hD, upd_same⟩ (fun j H' _ p => SqL.of (p.1 _ _ hls4)) ?_ ?_
      · rintro j y H' hj ⟨e5, eD⟩
        obtain ⟨row, hrow, a, rfl, ha⟩ := each_get hR4 hj
        have lp : i < row.length := by rw [rl row (List.mem_of_getElem? hrow)]; exact hi2
        have gp : row[i]? = some (row.getD i Str.empty) := by
          rw [List.getElem?_eq_getElem lp]
          simp [List.getD, lp]
        have cp : (colv R i)[j]? = some (row.getD i Str.empty) := by
          unfold colv
          rw [List.getElem?_map, hrow]
          rfl
        have jl : j < R.length := (List.getElem?_eq_some_iff.mp hrow).1
        rw [Int.zero_add]
        refine ⟨rfl, _, rfl, _, rfl, a, row.map V.str, (i : Nat), .str (row.getD i Str.empty), rfl, rfl, SqT.of (e5 _ _ ha), atI_nat (by rw [List.getElem?_map, gp]; rfl), _, eD, by rw [List.length_map, List.length_take, sizeLine_eq]; omega, same_put hD e5, ?_⟩
        rw [upd_same, take_next cp, List.map_append]
        rfl
      · rintro H5 ⟨e5, eD⟩
        rw [hR4.length] at eD
        have cl : (colv R i).length = R.length := List.length_map ..
        rw [← cl, List.take_length] at eD
        refine ⟨false, D, (colv R i).map tx, rfl, .inl (SqL.of (by rw [texts_mem]; exact eD)), texts_kv _, by rw [List.length_map, cl]; exact TA.h64, fun S L hS h1 h2 h3 => ?_⟩
        obtain ⟨xs0, rfl, hx0⟩ := tx_list h1
        have e6 : Same H5 (upd H5 S (SetV false w S (xs0.map tx))) := same_new hS
        refine ⟨false, S, xs0.map tx, rfl, upd_same, fun p hp => (texts_kv xs0 p hp).1, (texts_al xs0).1, (texts_al xs0).2, fun L' g pm aft hg => ?_⟩
        obtain ⟨xs, rfl, hx⟩ := tx_list (ys := xs0) (L := L') fun m hm => pm.mem_iff.mp hm
        have nd : ((xs.map tx).map (·.2)).Nodup := (pm.map (·.2)).nodup_iff.mpr h3
        have xasc : AscT xs := aft_texts aft nd
        have e7 : Same (upd H5 S (SetV false w S (xs0.map tx))) (upd (upd H5 S (SetV false w S (xs0.map tx))) g (.lst ((xs.map tx).map (·.1)))) := same_new hg
        have e47 := same_trans e5 (same_trans e6 e7)
        have hg7 : upd (upd H5 S (SetV false w S (xs0.map tx))) g (.lst ((xs.map tx).map (·.1))) g = some (.lst (xs.map V.str)) := by rw [upd_same, texts_mem]
        have ng : g ≠ C := (ne_of_none (same_trans e5 e6 _ _ hC4) hg).symm
        generalize upd (upd H5 S (SetV false w S (xs0.map tx))) g (.lst ((xs.map tx).map (·.1))) = H7 at e47 hg7 ⊢
        have iff := col_of (c := xs) rl hi2 (fun x hm => hx0 x (hx x hm)) fun m hm => (pm.map (·.2)).mem_iff.mpr (h2 m hm)
        have xds : ∀ y ∈ xs, y ∈ ds := fun y hy => by
          obtain ⟨row, hm, e⟩ := (iff y).1 hy
          exact (TA.row row hm).2 y (List.mem_of_getElem? e)
        have xnd : xs.Nodup := nodup_of_map (nodup_of_map nd)
        have x3 : xs.length ≤ 3 := Nat.le_trans (nodup_len _ _ xnd xds) d3
        have cl2 : cs.length = i := by rw [← len, ← hL4.length, List.length_map]
        refine ⟨_, e47 _ _ hC4, by rw [List.length_map, sizeLine_eq]; omega, cs ++ [g], cols' ++ [xs], same_put hC0 (same_trans e4 e47), by rw [upd_same, List.map_append]; rfl, ?_, by rw [List.length_append, len]; rfl, fun c hc => ?_, fun c hc => ?_, fun j c hc => ?_⟩
        · rw [List.map_append]
          exact LstsOff.put (each_snoc (hL4.up e47) ⟨g, rfl, ⟨ng, ng⟩, hg7⟩)
        · rcases List.mem_append.mp hc with z | z
          · exact c3 c z
          · rw [List.mem_singleton.mp z]
            exact x3
        · rcases List.mem_append.mp hc with z | z
          · exact cds c z
          · rw [List.mem_singleton.mp z]
            exact xds
        · by_cases jl : j < cols'.length
          · rw [List.getElem?_append_left jl] at hc
            exact cdef j c hc
          · rw [List.getElem?_append_right (by omega)] at hc
            have j0 : j - cols'.length = 0 := by
              have z := (List.getElem?_eq_some_iff.mp hc).1
              rw [List.length_singleton] at z
              omega
            rw [j0] at hc
            cases hc
            have ji : j = i := by omega
            rw [ji]
            exact ⟨xasc, iff⟩
    · rintro H4 ⟨cs, cols', e4, hC4, hL4, len, c3, cds, cdef⟩
      have len : cols'.length = n := by simpa using len
      have ec : cols' = cols := cols_eq ⟨len, cdef⟩ hC
      subst ec
      have hls4 := e4 _ _ hls
      have hR4 := hR'.up e4
      have ht4 := e4 _ _ ht
      obtain ⟨m, hm⟩ : ∃ m, n = m + 1 := ⟨n - 1, by omega⟩
      obtain ⟨cm, hcm⟩ : ∃ c, cols'[m]? = some c := ⟨_, List.getElem?_eq_getElem (by omega)⟩
      have hcl := hL4.length
      rw [List.length_map] at hcl
      -- told
      refine ⟨_, rfl, (n : Nat), rfl, by omega, by omega, fun D hD => ?_⟩
      refine lc_range (lo := 0) (n := ((n : Nat) : Int).toNat) (fun i H' => ∃ ps : List V, Same H4 H' ∧ H' D = some (.lst ps) ∧ RowsAt H' ps (cols'.take i)) ⟨[], same_new hD, upd_same, .nil⟩ ?_ ?_
      · rintro i H5 hi ⟨ps, e5, hD5, hP⟩
        have hi2 : i < n := by simpa using hi
        obtain ⟨c, hci⟩ : ∃ c, cols'[i]? = some c := ⟨_, List.getElem?_eq_getElem (by omega)⟩
        refine ⟨rfl, _, rfl, t, dx, _, rfl, e5 _ _ ht4, tab_look.1, _, rfl, t, i, n, ds, R, by rw [Int.zero_add]; rfl, (TA.up e4).up e5, hi2, fun g xs H6 hg e6 hg6 asc iff => ?_⟩
        obtain ⟨cA, cM⟩ := hC.2 i c hci
        have ex : xs = c := asc_ext asc cA fun x => (iff x).trans (cM x).symm
        subst ex
        have lp := hP.length
        rw [List.length_take] at lp
        refine ⟨ps, e6 _ _ hD5, by rw [sizeLine_eq]; omega, ps ++ [.ref g], same_put hD (same_trans e5 e6), upd_same, ?_⟩
        have hrow : RowsAt H6 (ps ++ [.ref g]) (cols'.take (i + 1)) := by
          rw [take_next hci]
          exact each_snoc (hP.up e6) ⟨g, rfl, hg6⟩
        refine each_and hrow fun v ts _ ⟨b, e8, e9⟩ => ⟨b, e8, ?_⟩
        rw [upd_ne (ne_of e9 (e6 _ _ hD5) (by intro z; cases z))]
        exact e9
      rintro H5 ⟨ps, e5, hD5, hP⟩
      have tk : cols'.take ((n : Nat) : Int).toNat = cols' := by
        rw [show ((n : Nat) : Int).toNat = cols'.length by rw [len]; simp]
        exact List.take_length
      rw [tk] at hP
      have lp := hP.length
      refine ⟨_, rfl, t, dx, _, rfl, e5 _ _ ht4, tab_look.1, _, rfl, _, _, rfl, rfl, _, rfl, ?_⟩
      refine ⟨t, m, n, ds, R, by show [V.ref t, V.int (((n : Nat) : Int) - 1)] = [V.ref t, V.int ((m : Nat) : Int)]; rw [show ((n : Nat) : Int) - 1 = ((m : Nat) : Int) by omega], (TA.up e4).up e5, by omega, fun g xs H6 hg e6 hg6 asc iff => ?_⟩
      obtain ⟨cA, cM⟩ := hC.2 m cm hcm
      have ex : xs = cm := asc_ext asc cA fun x => (iff x).trans (cM x).symm
      subst ex
      refine ⟨by show 1 ≤ sizeLine; decide, fun u hu => ?_⟩
      have e7 : Same H6 (upd H6 u (.lst [V.ref g])) := same_new hu
      refine ⟨D, u, ps, [V.ref g], rfl, rfl, e7 _ _ (e6 _ _ hD5), upd_same, by rw [sizeLine_eq]; show ps.length + 1 ≤ _; omega, fun tl htl => ?_⟩
      have e8 := same_trans e7 (same_new (o := .lst (ps ++ [V.ref g])) htl)
      have htl8 : upd (upd H6 u (.lst [V.ref g])) tl (.lst (ps ++ [V.ref g])) tl = some (.lst (ps ++ [V.ref g])) := upd_same
      have hT8 : RowsAt (upd (upd H6 u (.lst [V.ref g])) tl (.lst (ps ++ [V.ref g]))) (ps ++ [V.ref g]) (cols' ++ [xs]) := each_snoc ((hP.up e6).up e8) ⟨g, rfl, e8 _ _ hg6⟩
      have e48 := same_trans e5 (same_trans e6 e8)
      generalize upd (upd H6 u (.lst [V.ref g])) tl (.lst (ps ++ [V.ref g])) = H8 at e48 htl8 hT8 ⊢
      obtain ⟨sh, dp, big⟩ := colsD_fits (R := cols' ++ [xs]) dok (fun r hr => by
        rcases List.mem_append.mp hr with h | h
        · exact ⟨c3 r h, cds r h⟩
        · rw [List.mem_singleton.mp h]
          exact ⟨c3 xs (List.mem_of_getElem? hcm), cds xs (List.mem_of_getElem? hcm)⟩) (by rw [List.length_append, List.length_singleton]; omega)
      refine ⟨_, rfl, fun _ => True, .ref tl, colsD (cols' ++ [xs]), rfl, .lst trivial htl8 (rows_dq hT8), sh, dp, big, ?_⟩
      -- [tuple(column) for column in columns + columns[-1:]]
      have hC8 := e48 _ _ hC4
      have hL8 := hL4.up e48
      refine ⟨_, rfl, _, rfl, _, rfl, _, rfl, ?_⟩
      dsimp only [tNoPart]
      refine ⟨C, cs.map V.ref, rfl, SqL.of hC8, fun c2 hc2 => ?_⟩
      have e9 : Same H8 (upd H8 c2 (.lst (cutV (cs.map V.ref) (some (-1)) none))) := same_new hc2
      rw [cut_last (n := m) (by rw [List.length_map]; omega)] at e9 ⊢
      refine ⟨C, c2, cs.map V.ref, _, rfl, rfl, e9 _ _ hC8, upd_same, by rw [List.length_map, List.length_drop, List.length_map, sizeLine_eq]; omega, fun c4 hc4 => ?_⟩
      have eA := same_trans e9 (same_new (o := .lst (cs.map V.ref ++ (cs.map V.ref).drop m)) hc4)
      have hc4A : upd (upd H8 c2 (.lst ((cs.map V.ref).drop m))) c4 (.lst (cs.map V.ref ++ (cs.map V.ref).drop m)) c4 = some (.lst (cs.map V.ref ++ (cs.map V.ref).drop m)) := upd_same
      have hLA : LstsAt (upd (upd H8 c2 (.lst ((cs.map V.ref).drop m))) c4 (.lst (cs.map V.ref ++ (cs.map V.ref).drop m))) (cs.map V.ref ++ (cs.map V.ref).drop m) (cols' ++ [xs]) := by
        have z := each_app hL8.at_ (each_drop m hL8.at_)
        rw [drop_last (n := m) (by omega) hcm] at z
        exact LstsAt.up eA z
      have e4A := same_trans e48 eA
      generalize upd (upd H8 c2 (.lst ((cs.map V.ref).drop m))) c4 (.lst (cs.map V.ref ++ (cs.map V.ref).drop m)) = HA at e4A hc4A hLA ⊢
      have la := hLA.length
      refine ⟨c4, rfl, ⟨_, SqL.of hc4A⟩, fun G hG => ?_⟩
      refine lc_list (K := K) (xs := cs.map V.ref ++ (cs.map V.ref).drop m) (fun i H' => ∃ ps : List V, Same HA H' ∧ H' G = some (.lst ps) ∧ RowsAt H' ps ((cols' ++ [xs]).take i)) ⟨[], same_new hG, upd_same, .nil⟩ (fun i H' _ ⟨_, e, _⟩ => SqL.of (e _ _ hc4A)) ?_ ?_
      · rintro i y HB hi ⟨qs, eB, hGB, hQ⟩
        obtain ⟨ts, hti, b, rfl, hb⟩ := each_get hLA hi
        have lq := hQ.length
        rw [List.length_take] at lq
        have il : i < (cols' ++ [xs]).length := (List.getElem?_eq_some_iff.mp hti).1
        rw [List.length_append, List.length_singleton] at il
        refine ⟨rfl, _, rfl, b, _, rfl, .inl ⟨SqL.of (eB _ _ hb), fun h hh => ?_⟩⟩
        have eC : Same HB (upd HB h (.tup (ts.map V.str))) := same_new hh
        refine ⟨qs, eC _ _ hGB, by rw [sizeLine_eq]; omega, qs ++ [.ref h], same_put hG (same_trans eB eC), upd_same, ?_⟩
        have hrow : RowsAt (upd HB h (.tup (ts.map V.str))) (qs ++ [.ref h]) ((cols' ++ [xs]).take (i + 1)) := by
          rw [take_next hti]
          exact each_snoc (hQ.up eC) ⟨h, rfl, upd_same⟩
        refine each_and hrow fun v ts _ ⟨b, e8, e9⟩ => ⟨b, e8, ?_⟩
        rw [upd_ne (ne_of e9 (eC _ _ hGB) (by intro z; cases z))]
        exact e9
      rintro HB ⟨qs, eB, hGB, hQ⟩
      rw [hLA.length, List.take_length] at hQ
      refine ⟨fun _ => True, .ref G, colsD (cols' ++ [xs]), rfl, .lst trivial hGB (rows_dq hQ), sh, dp, big, rfl, _, rfl, ?_⟩
      rw [decide_eq_true (rfl : V.str (colsD (cols' ++ [xs])).shown = V.str (colsD (cols' ++ [xs])).shown)]
      refine iteF ?_
      have e4B := same_trans e4A eB
      clear hQ hGB hLA hc4A eA hT8 htl8 e8 e7 hP
      have ok3 : ∀ y ∈ ds, PyData.strOk y = true := fun y hy => name_strOk (dok y hy)
      have shR : SeqAt.shaped (rowsDL R) = true := rowsL_shaped fun r hr y hy => ok3 y ((TA.row r hr).2 y hy)
      have shE : SeqAt.shaped (rowsDL (allR n ds)) = true := rowsL_shaped fun r hr y hy => ok3 y (allR_mem hr y hy)
      have shP : SeqAt.shaped (rowsDL (prods cols')) = true := rowsL_shaped fun r hr y hy => ok3 y (prods_in (P := fun x => x ∈ ds) cds r hr y hy)
      have full : decide (allR n ds = R) = decide (R = allR n ds) := decide_eq_decide.mpr eq_comm
      have prod : decide (prods cols' = R) = decide (R = prods cols') := decide_eq_decide.mpr eq_comm
      -- is_product
      refine ⟨_, rfl, t, T.C, dx, _, _, rfl, e4B _ _ ht4, T.cl, T.np, rfl, fun _ => True, .bl _, .bool _, rfl, .bl _, (bool_fits _).1, (bool_fits _).2.1, (bool_fits _).2.2, ?_⟩
      refine ⟨_, rfl, C, _, cols', rfl, e4B _ _ hC4, (hL4.up e4B).at_, c3, by omega, fun pv ps2 HC hpv eC hpvC hPC => ?_⟩
      have e4C := same_trans e4B eC
      refine ⟨_, rfl, rowsDL (prods cols'), rowsDL R, .lst (SqL.of hpvC) (rows_dp hPC), .lst (SqL.of (e4C _ _ hls4)) (rows_dp (hR4.up e4C)), shP, shR, ?_⟩
      rw [eqv_rowsDL, prod]
      refine ⟨fun _ => True, .bl _, .bool _, rfl, .bl _, (bool_fits _).1, (bool_fits _).2.1, (bool_fits _).2.2, rfl, _, rfl, ?_⟩
      rw [decide_eq_true rfl]
      refine iteF ?_
      -- is_full
      refine ⟨_, rfl, t, T.C, dx, _, _, rfl, e4C _ _ ht4, T.cl, T.nf, rfl, fun _ => True, .bl _, .bool _, rfl, .bl _, (bool_fits _).1, (bool_fits _).2.1, (bool_fits _).2.2, ?_⟩
      refine ⟨_, rfl, t, T.C, dx, _, _, rfl, e4C _ _ ht4, T.cl, T.nd, rfl, by show 1 ≤ sizeLine; decide, fun u2 hu2 => ⟨_, rfl, u2, (n : Nat), [V.ref d], rfl, rfl, upd_same, by omega, by omega, (by rw [sizeLine_eq]; show 1 * _ ≤ _; omega), fun v hv => ?_⟩⟩
      have eD : Same HC (upd (upd HC u2 (.lst [V.ref d])) v (.lst (List.replicate (n : Int).toNat [V.ref d]).flatten)) := same_trans (same_new hu2) (same_new hv)
      have hvD : upd (upd HC u2 (.lst [V.ref d])) v (.lst (List.replicate (n : Int).toNat [V.ref d]).flatten) v = some (.lst (List.replicate n (V.ref d))) := by
        rw [upd_same, flat_rep]
        rfl
      generalize upd (upd HC u2 (.lst [V.ref d])) v (.lst (List.replicate (n : Int).toNat [V.ref d]).flatten) = HD at eD hvD ⊢
      have e4D := same_trans e4C eD
      have rep : RowsAt HD (List.replicate n (V.ref d)) (List.replicate n ds) := by
        have key : ∀ k, RowsAt HD (List.replicate k (V.ref d)) (List.replicate k ds) := fun k => by
          induction k with
          | zero => exact .nil
          | succ k ih => exact .cons ⟨d, rfl, e4D _ _ (e4 _ _ hd)⟩ ih
        exact key n
      refine ⟨v, _, List.replicate n ds, rfl, hvD, rep, fun c hc => by rw [List.eq_of_mem_replicate hc]; exact d3, by rw [List.length_replicate]; exact n3, fun ev es HE hev eE hevE hE => ?_⟩
      have hE : RowsAt HE es (allR n ds) := hE
      have e4E := same_trans e4D eE
      refine ⟨_, rfl, rowsDL (allR n ds), rowsDL R, .lst (SqL.of hevE) (rows_dp hE), .lst (SqL.of (e4E _ _ hls4)) (rows_dp (hR4.up e4E)), shE, shR, ?_⟩
      rw [eqv_rowsDL, full]
      refine ⟨fun _ => True, .bl _, .bool _, rfl, .bl _, (bool_fits _).1, (bool_fits _).2.1, (bool_fits _).2.2, rfl, ?_⟩
      rw [decide_eq_true rfl]
      exact q _ (same_trans e4 e4E)
end
end K01
/-! Table.picked; _law_picked. -/
namespace K01
open PySem PySem.Spec PyProof.Rows L2 KG KS KA KX
abbrev s_tabPicked : Stmt := inCls 15 13
abbrev s__law_picked : Stmt := top 29
theorem wayIs {a b : Nat} (h : decide (V.int (a : Nat) = V.int (b : Nat)) = true) : a = b := by
  have z := V.int.inj (of_decide_eq_true h)
  omega
theorem wayNot {a b : Nat} (h : ¬ decide (V.int (a : Nat) = V.int (b : Nat)) = true) : a ≠ b := fun e => h (by rw [e]; exact decide_eq_true rfl)
/-- the values of a row at these places -/
def pickR (pls : List Nat) (r : List Str) : List Str := pls.map fun pl => r.getD pl Str.empty
def spPk (C : Addr) : Sp := fun vs H Q _ => ∃ (t p : Addr) (pls : List Nat) (n : Nat) (ds : List Str) (R : List (List Str)), vs = [.ref t, .ref p] ∧ TabAt C H t ds n R ∧ H p = some (.tup (pls.map fun pl => V.int (pl : Nat))) ∧ 1 ≤ pls.length ∧ pls.length ≤ 3 ∧ (∀ pl ∈ pls, pl < n) ∧
  ∀ (o : Addr) (H' : Hp) (R' : List (List Str)), Same H H' → TabAt C H' o ds pls.length R' → (∀ row, row ∈ R' ↔ row ∈ R.map (pickR pls)) → Q (.ref o) H'
/-- made.picked(place, ..) -/
abbrev spPkV (C : Addr) : Sp := fun vs H Q E => ∃ ws rest, vs = ws ++ rest ∧ ws.length = (["self"] : List Str).length ∧ rest.length ≤ sizeLine ∧ ∀ p, H p = Option.none → spPk C (ws ++ [V.ref p]) (upd H p (.tup rest)) Q E
/-- _law_picked(made, spots) -/
def spPicked (C : Addr) : Sp := fun vs H Q _ => ∃ (t p : Addr) (pls : List Nat) (n : Nat) (ds : List Str) (R : List (List Str)), vs = [.ref t, .ref p] ∧ TabAt C H t ds n R ∧ H p = some (.lst (pls.map fun pl => V.int (pl : Nat))) ∧ 1 ≤ pls.length ∧ pls.length ≤ 3 ∧ (∀ pl ∈ pls, pl < n) ∧
  ∀ (o : Addr) (H' : Hp) (R' : List (List Str)), Same H H' → TabAt C H' o ds pls.length R' → (∀ row, row ∈ R' ↔ row ∈ R.map (pickR pls)) → Q (.ref o) H'
section
variable {P : Program} {w : World} {K : PySem.W.Frag} {mg : Str → Option Value} {base : Heap}
theorem sc_tabPicked : FnScope ["self", "places", "rows", "row", "place"] ((["self"] : List Str) ++ [("places" : Str)]) (defScope s_tabPicked) := ⟨rfl, rfl, rfl, by decide +kernel, rfl, by decide +kernel, by decide +kernel⟩
theorem ok_tabPicked (B : Bs mg) (ti : MtD K "__init__" "Table.__init__" s_tabInit) (F : TabF K mg) (T : TabC K mg ti.a) (f : MtF K "picked" "Table.picked" s_tabPicked) : FnR P w K mg base CX0 6 f.a (spPkV T.C) := by
  have G6 := ok_tabInit (P := P) (w := w) (base := base) B ti F T
  have b6 : L2.Binds K ti.d ["self", "domain", "width", "rows"] [] := by
    obtain ⟨ds, r, b⟩ := ti.F.binds1 (ps := ["self", "domain", "width", "rows"]) 4 1 (by simp) rfl fun _ _ _ _ _ _ _ us its h1 h2 => match us, its, h1, h2 with | [_, _, _, _], [_], _, _ => ⟨_, rfl, rfl⟩
    cases (show Vals [] ds from r)
    exact b
  obtain ⟨oc, od, kV, doc, pm, an, cdv, ct, osl, ed, lk, hcd⟩ := f.F.ex
  rw [ed] at lk
  refine StX.fn_star (ps := (["self"] : List Str)) (pv := "places") (sp := spPk T.C) lk hcd sc_tabPicked StX.cxUp_none (StX.bind_star1 (B := fun us => bindArgs (PySem.W.fnOf "picked" "Table.picked" (defArgs s_tabPicked) (defBody s_tabPicked) (defScope s_tabPicked) .none kV doc pm an cdv ct) ⟨us, []⟩) (fun _ => rfl) (fun _ _ _ => rfl)) (fun A outer s H vs Q E hr h => ?_)
  obtain ⟨t, p, pls, n, ds, R, rfl, TA, hp, l1, l3, lt, q⟩ := h
  have hu64 := hr.units
  have hr5 : Room 5 _ := hr.mono (by omega)
  refine ⟨_, (pss_cons
      (ps_setLc (i := 2) (own := [("row", 3)]) (g := gName 3) (by rfl) sc_tabPicked.nd rfl rfl (sw_true rfl rfl rfl (by decide +kernel)) (pi_tup (pe_fld (pv 0) rfl)) (blkOk_by (own := [("row", 3)]) (N := ["self", "places", "rows", "row", "place"]) (sc := defScope s_tabPicked) (by decide +kernel)) (fun _ _ _ _ _ => (pg_name (i := 3) sc_tabPicked.nd rfl (Or.inr rfl))) (fun _ _ _ _ _ => pts_nil)
        (fun _ _ _ _ _ => (pe_callTy (show CallR _ (.type "tuple") (rTupOfW K) from call_tuple_of) (by rfl) B.n_tuple (by decide +kernel) (pa_cons (pe_lc (own := [("place", 4)]) (g := gName 4) (by rfl) sc_tabPicked.nd (show PI _ _ _ (iTup K (tVar 1)) from pi_tup (pv 1)) (blkOk_by (own := [("place", 4)]) (N := ["self", "places", "rows", "row", "place"]) (by kernel_rfl)) (fun _ _ _ _ _ => (pg_name (i := 4) sc_tabPicked.nd rfl (Or.inl rfl))) (fun _ _ _ _ _ => pts_nil)
          (fun _ _ _ _ _ => (pe_ix (show IxR _ (rIxT K) from ix_tup) (pv 3) (pv 4) (fun _ _ => rfl)))) pa_nil))))
    (pss_one
      (ps_ret (pe_make T.made G6 hr5 rfl T.g b6 .nil pass0 (pa_cons (pe_fld (pv 0) rfl) (pa_cons (pe_callB call_len (by rfl) B.n_len (by decide +kernel) (pa_cons (pv 1) pa_nil)) (pa_cons (pe_callTy call_tuple_of (by rfl) B.n_tuple (by decide +kernel) (pa_cons (pv 2) pa_nil)) pa_nil))))))), ?_⟩
  obtain ⟨dx, d, pr, rs, cols, ht, hd, hpr, hR, hC⟩ := TA.ex
  have h64 := TA.h64
  refine ⟨_, rfl, t, T.C, dx, _, _, rfl, ht, T.cl, T.nr, rfl, pr, rfl, ⟨_, SqT.of hpr⟩, fun D hD => ?_⟩
  refine lc_tup (K := K) (xs := rs) (fun i H' => ∃ ac, Same H H' ∧ H' D = some (.lst ac) ∧ RowsAt H' ac ((R.take i).map (pickR pls))) ⟨[], same_new hD, upd_same, .nil⟩ (fun i H' _ ⟨_, e, _⟩ => SqT.of (e _ _ hpr)) ?_ ?_
  · rintro i z H1 hz ⟨ac, e1, hac, hA⟩
    obtain ⟨ts, hRi, a, rfl, ha⟩ := each_get hR hz
    have tl := (TA.row ts (List.mem_of_getElem? hRi)).1
    have la := hA.length
    rw [List.length_map, List.length_take] at la
    refine ⟨rfl, _, rfl, p, rfl, ⟨_, SqT.of (e1 _ _ hp)⟩, fun I hI => ?_⟩
    refine lc_tup (K := K) (xs := pls.map fun pl => V.int (pl : Nat)) (fun j H' => Same H1 H' ∧ H' I = some (.lst ((pickR (pls.take j) ts).map V.str))) ⟨same_new hI, upd_same⟩ (fun j H' _ p => SqT.of (p.1 _ _ (e1 _ _ hp))) ?_ ?_
    · rintro j y H2 hj ⟨e2, hI2⟩
      rw [List.getElem?_map] at hj
      cases hx : pls[j]? with
      | none =>
        rw [hx] at hj
        cases hj
      | some pl =>
        rw [hx] at hj
        obtain rfl : V.int (pl : Nat) = y := Option.some.inj hj
        have lp : pl < ts.length := by rw [tl]; exact lt pl (List.mem_of_getElem? hx)
        have gp : ts[pl]? = some (ts.getD pl Str.empty) := by
          rw [List.getElem?_eq_getElem lp]
          simp [List.getD, lp]
        refine ⟨rfl, _, rfl, _, rfl, a, ts.map V.str, (pl : Nat), .str (ts.getD pl Str.empty), rfl, rfl, SqT.of (e2 _ _ (e1 _ _ ha)), atI_nat (by rw [List.getElem?_map, gp]; rfl), _, hI2, ?_, same_put hI e2, ?_⟩
        · unfold pickR
          rw [List.length_map, List.length_map, List.length_take, sizeLine_eq]
          omega
        · unfold pickR
          rw [upd_same, take_next hx, List.map_append, List.map_append]
          rfl
    · rintro H2 ⟨e2, hI2⟩
      rw [List.length_map, List.take_length] at hI2
      refine ⟨I, _, rfl, .inl ⟨SqL.of hI2, fun u hu => ?_⟩⟩
      have e3 : Same H2 (upd H2 u (.tup ((pickR pls ts).map V.str))) := same_new hu
      refine ⟨ac, e3 _ _ (e2 _ _ hac), by rw [sizeLine_eq]; omega, ac ++ [.ref u], same_put hD (same_trans e1 (same_trans e2 e3)), upd_same, ?_⟩
      have hrow : RowsAt (upd H2 u (.tup ((pickR pls ts).map V.str))) (ac ++ [.ref u]) ((R.take (i + 1)).map (pickR pls)) := by
        rw [take_next hRi, List.map_append]
        exact each_snoc (hA.up (same_trans e2 e3)) ⟨u, rfl, upd_same⟩
      refine each_and hrow fun v ts _ ⟨b, e8, e9⟩ => ⟨b, e8, ?_⟩
      rw [upd_ne (ne_of e9 (e3 _ _ (e2 _ _ hac)) (by intro z; cases z))]
      exact e9
  · rintro H1 ⟨ac, e1, hac, hA⟩
    rw [hR.length, List.take_length] at hA
    refine ⟨_, rfl, t, T.C, dx, _, _, rfl, e1 _ _ ht, T.cl, T.nd, rfl, _, rfl, .ref p, pls.length, rfl, .inr ⟨_, SqT.of (e1 _ _ hp), by rw [List.length_map]⟩, _, rfl, D, ac, rfl, .inl ⟨SqL.of hac, fun u hu => ?_⟩⟩
    have e2 : Same H1 (upd H1 u (.tup ac)) := same_new hu
    have e12 := same_trans e1 e2
    refine make_tab (e12 _ _ hd) ⟨TA.dom.1, TA.dom.2.1, TA.dom.2.2.1, TA.dom.2.2.2.1, l1, l3⟩ upd_same (hA.up e2) (fun r hr => ?_) (by rw [List.length_map]; exact h64) fun o H' R' ho e5 TO mem => ?_
    · obtain ⟨r0, h0, rfl⟩ := List.mem_map.mp hr
      refine ⟨by unfold pickR; rw [List.length_map], fun x hx => ?_⟩
      obtain ⟨pl, hpl, rfl⟩ := List.mem_map.mp hx
      obtain ⟨z1, z2⟩ := TA.row r0 h0
      have lp : pl < r0.length := by rw [z1]; exact lt pl hpl
      have e : r0.getD pl Str.empty = r0[pl] := by simp [List.getD, lp]
      rw [e]
      exact z2 _ (List.getElem_mem lp)
    · exact q o H' R' (same_trans e12 e5) TO mem
theorem sc__law_picked : FnScope ["_law_made", "_law_spots"] ["_law_made", "_law_spots"] (defScope s__law_picked) := ⟨rfl, rfl, rfl, by decide +kernel, rfl, by decide +kernel, by decide +kernel⟩
theorem ok__law_picked (B : Bs mg) (ti : MtD K "__init__" "Table.__init__" s_tabInit) (F : TabF K mg) (T : TabC K mg ti.a) (fp : MtF K "picked" "Table.picked" s_tabPicked) (M : Meth K T.C "picked" fp.a) (f : FnF K mg "_law_picked" "_law_picked" s__law_picked) :
    FnOk P w K mg base CX0 7 f.a f.d ["_law_made", "_law_spots"] (spPicked T.C) := by
  have G := ok_tabPicked (P := P) (w := w) (base := base) B ti F T fp
  refine f.F.ok sc__law_picked (fun vs H Q E h => ?_) (fun cdv A outer s H vs Q E hr h => ?_)
  · obtain ⟨t, p, pls, n, ds, R, rfl, _⟩ := h
    rfl
  · obtain ⟨t, p, pls, n, ds, R, rfl, TA, hp, l1, l3, lt, q⟩ := h
    refine ⟨_, (pss_cons
      (ps_if (pt_cmpR op_eq (pe_callB call_len (by rfl) B.n_len (by decide +kernel) (pa_cons (pv 1) pa_nil)) pe_int (nomark _))
        (pss_one
          (ps_ret (pe_methR (pv 0) T.cl M G hr pass0 (pa_cons (pe_ix ix_list (pv 1) pe_int (fun _ _ => rfl)) pa_nil))))
        pss_nil)
    (pss_cons
      (ps_if (pt_cmpR op_eq (pe_callB call_len (by rfl) B.n_len (by decide +kernel) (pa_cons (pv 1) pa_nil)) pe_int (nomark _))
        (pss_one
          (ps_ret (pe_methR (pv 0) T.cl M G hr pass0 (pa_cons (pe_ix ix_list (pv 1) pe_int (fun _ _ => rfl)) (pa_cons (pe_ix ix_list (pv 1) pe_int (fun _ _ => rfl)) pa_nil)))))
        pss_nil)
    (pss_one
      (ps_ret (pe_methR (pv 0) T.cl M G hr pass0 (pa_cons (pe_ix ix_list (pv 1) pe_int (fun _ _ => rfl)) (pa_cons (pe_ix ix_list (pv 1) pe_int (fun _ _ => rfl)) (pa_cons (pe_ix ix_list (pv 1) pe_int (fun _ _ => rfl)) pa_nil)))))))), ?_⟩
    obtain ⟨dx, d, pr, rs, cols, ht, _⟩ := id TA.ex
    have at_ : ∀ {j : Nat} {pl : Nat}, pls[j]? = some pl → atI (pls.map fun pl => V.int (pl : Nat)) (j : Int) = some (V.int (pl : Nat)) := fun {j pl} h => atI_nat (by rw [List.getElem?_map, h]; rfl)
    have fin : ∀ (rest : List V), rest = pls.map (fun pl => V.int (pl : Nat)) → spPkV T.C (.ref t :: rest) H Q E0 := fun rest er => by
      subst er
      refine ⟨[.ref t], _, rfl, rfl, by rw [List.length_map, sizeLine_eq]; omega, fun g hg => ?_⟩
      have e : Same H (upd H g (.tup (pls.map fun pl => V.int (pl : Nat)))) := same_new hg
      exact ⟨t, g, pls, n, ds, R, rfl, TA.up e, upd_same, l1, l3, lt, fun o H' R' e2 => q o H' R' (same_trans e e2)⟩
    refine ⟨_, rfl, .ref p, pls.length, rfl, .inl ⟨_, SqL.of hp, by rw [List.length_map]⟩, rfl, _, rfl, ite2 (fun c => ?_) fun c1 => ?_⟩
    · have l : pls.length = 1 := wayIs c
      match pls, l with
      | [x], _ =>
        exact ⟨_, rfl, t, dx, _, rfl, ht, tab_look.2.1, _, rfl, p, _, 0, _, rfl, rfl, SqL.of hp, at_ (j := 0) rfl, fin [V.int (x : Nat)] rfl⟩
    refine ⟨_, rfl, .ref p, pls.length, rfl, .inl ⟨_, SqL.of hp, by rw [List.length_map]⟩, rfl, _, rfl, ite2 (fun c => ?_) fun c2 => ?_⟩
    · have l : pls.length = 2 := wayIs c
      match pls, l with
      | [x, y], _ =>
        exact ⟨_, rfl, t, dx, _, rfl, ht, tab_look.2.1, _, rfl, p, _, 0, _, rfl, rfl, SqL.of hp, at_ (j := 0) rfl, _, rfl, p, _, 1, _, rfl, rfl, SqL.of hp, at_ (j := 1) rfl, fin [V.int (x : Nat), V.int (y : Nat)] rfl⟩
    have n1 : pls.length ≠ 1 := wayNot c1
    have n2 : pls.length ≠ 2 := wayNot c2
    match pls, (show pls.length = 3 by omega) with
    | [x, y, z], _ =>
      exact ⟨_, rfl, t, dx, _, rfl, ht, tab_look.2.1, _, rfl, p, _, 0, _, rfl, rfl, SqL.of hp, at_ (j := 0) rfl, _, rfl, p, _, 1, _, rfl, rfl, SqL.of hp, at_ (j := 1) rfl, _, rfl, p, _, 2, _, rfl, rfl, SqL.of hp, at_ (j := 2) rfl, fin [V.int (x : Nat), V.int (y : Nat), V.int (z : Nat)] rfl⟩
end
end K01
/-! _law_picked_right. -/
namespace K01
open PySem PySem.Spec PyProof.Rows L2 KG KS KA KX
abbrev s__law_picked_right : Stmt := top 30
theorem rows_sorted {K : PySem.W.Frag} {H H3 : Hp} {R : List (List Str)} {ms L : List MemV} {n : Nat} (m2 : ms.map (·.2) = R.map kr)
    (m3 : ∀ p ∈ ms, (Kv K H p.1 p.2 ∧ FitV true p) ∧ ∃ ts ∈ R, p.2 = kr ts ∧ ∃ a, p.1 = V.ref a ∧ H a = some (.tup (ts.map V.str))) (e3 : Same H H3) (h1 : ∀ m ∈ L, m ∈ ms) (h2 : ∀ m ∈ ms, m.2 ∈ L.map (·.2)) (h3 : (L.map (·.2)).Nodup) (h4 : L.Pairwise Aft)
    (len : ∀ r ∈ R, r.length = n) : ∃ R', RowsAt H3 (L.map (·.1)) R' ∧ Asc R' ∧ ∀ row, row ∈ R' ↔ row ∈ R := by
  obtain ⟨R', a1, a2, a3⟩ := rows_back (H := H3) (R := R) (L := L) fun m hm => by
    obtain ⟨_, ts, z1, z2, a, z3, z4⟩ := m3 m (h1 m hm)
    exact ⟨ts, z1, z2, a, z3, e3 _ _ z4⟩
  refine ⟨R', a1, aft_rows a2 h4 h3 fun r hm => len r (a3 r hm), fun row => ⟨a3 row, fun hm => ?_⟩⟩
  have z : kr row ∈ ms.map (·.2) := by
    rw [m2]
    exact List.mem_map.mpr ⟨row, hm, rfl⟩
  obtain ⟨m, hm2, e⟩ := List.mem_map.mp z
  have z2 := h2 m hm2
  rw [e, a2] at z2
  obtain ⟨row2, hm3, e2⟩ := List.mem_map.mp z2
  rw [← kr_inj e2]
  exact hm3
def spPickR (C : Addr) : Sp := fun vs H Q _ => ∃ (d l t wd ls : Addr) (k n : Nat) (ds : List Str) (rs' : List V) (R : List (List Str)), vs = [.ref d, .ref t, .ref wd, .int (n : Nat), .ref ls] ∧ DeckAt H d l k ∧ k + 9 < 1000000000 ∧ TabAt C H t ds n R ∧ H wd = some (.tup (ds.map V.str)) ∧
  H ls = some (.lst rs') ∧ RowsAt H rs' R ∧ ls ≠ l ∧ ∀ H', DeckAt H' d l (k + 9) → Off d l H H' → Q (.bl true) H'
section
variable {P : Program} {w : World} {K : PySem.W.Frag} {mg : Str → Option Value} {base : Heap}
theorem sc__law_picked_right : FnScope ["_law_deck_here", "_law_made", "_law_words_here", "_law_size", "_law_lines_here", "_law_k", "_law_spots", "_law_due", "_law_j", "_law_line", "_law_spot"] ["_law_deck_here", "_law_made", "_law_words_here", "_law_size", "_law_lines_here"] (defScope s__law_picked_right) := ⟨rfl, rfl, rfl, by decide +kernel, rfl, by decide +kernel, by decide +kernel⟩
theorem ok__law_picked_right (B : Bs mg) (ti : MtD K "__init__" "Table.__init__" s_tabInit) (F : TabF K mg) (T : TabC K mg ti.a) (J : C8.InsC K T.C) (fp : MtF K "picked" "Table.picked" s_tabPicked) (M : Meth K T.C "picked" fp.a) (fk : FnF K mg "_law_picked" "_law_picked" s__law_picked)
    (fr : FnF K mg "_law_rows_of" "_law_rows_of" s__law_rows_of) (fi : FnF K mg "_law_is" "_law_is" s__law_is) (fd : FnF K mg "_law_draw" "_law_draw" s__law_draw) (f : FnF K mg "_law_picked_right" "_law_picked_right" s__law_picked_right) :
    FnG P w K mg base CX0 8 f.a f.d ["_law_deck_here", "_law_made", "_law_words_here", "_law_size", "_law_lines_here"] (spPickR T.C) := by
  have GK := ok__law_picked (P := P) (w := w) (base := base) B ti F T fp M fk
  have bK : L2.Binds K fk.d ["_law_made", "_law_spots"] [] := fk.F.binds fun _ _ _ _ _ _ us hl => match us, hl with | [_, _], _ => rfl
  have GD := ok__law_draw (P := P) (w := w) (base := base) B.toBi fd
  have bD : L2.Binds K fd.d ["_law_deck_here", "_law_many"] [] := fd.F.binds fun _ _ _ _ _ _ us hl => match us, hl with | [_, _], _ => rfl
  have GI := ok__law_is (P := P) (w := w) (base := base) B T J fi fr
  have bI : L2.Binds K fi.d ["_law_made", "_law_words_here", "_law_size", "_law_lines_here"] [] := fi.F.binds fun _ _ _ _ _ _ us hl => match us, hl with | [_, _, _, _], _ => rfl
  refine okN f.F sc__law_picked_right (fun vs H Q E h => ?_) (fun cdv A outer s H vs Q E hgu hr h => ?_)
  · obtain ⟨d, l, t, wd, ls, k, n, ds, rs', R, rfl, _⟩ := h
    rfl
  · obtain ⟨d, l, t, wd, ls, k, n, ds, rs', R, rfl, D, hk, TA, hwd, hls, hR, nls, q⟩ := h
    have hu64 := hr.units
    have hr1 : Room 1 _ := hr.mono (by omega)
    have hr2 : Room 2 _ := hr.mono (by omega)
    refine ⟨_, (pss_cons
      (ps_for PassesOwn.never rfl (pi_range1 rfl B.n_range (pa_cons pe_int pa_nil)) (pg_name (i := 5) sc__law_picked_right.nd rfl (Or.inl rfl))
        (pss_cons
          (ps_set (i := 6) sc__law_picked_right.nd rfl (Or.inr rfl) (pe_lc (own := [("_law_j", 8)]) (g := gName 8) (by rfl) sc__law_picked_right.nd (pi_range1 rfl B.n_range (pa_cons (pe_op op_add (pv 5) pe_int) pa_nil)) (blkOk_by (own := [("_law_j", 8)]) (N := ["_law_deck_here", "_law_made", "_law_words_here", "_law_size", "_law_lines_here", "_law_k", "_law_spots", "_law_due", "_law_j", "_law_line", "_law_spot"]) (sc := defScope s__law_picked_right) (by decide +kernel)) (fun _ _ _ _ _ => (pg_name (i := 8) sc__law_picked_right.nd rfl (Or.inl rfl))) (fun _ _ _ _ _ => pts_nil)
            (fun _ _ _ _ _ => (pe_call GD hr1 (by rfl) fd.g fd.F.kp bD .nil pass0 (pa_cons (pv 0) (pa_cons (pv 3) pa_nil))))))
        (pss_cons
          (ps_set (i := 7) sc__law_picked_right.nd rfl (Or.inl rfl) (pe_callB (cr_sortSet rfl hu64) (by rfl) B.n_sorted (by decide +kernel) (pa_cons (pe_callTy (cr_setOf rfl hu64) (by rfl) B.n_set (by decide +kernel) (pa_cons (pe_lc (own := [("_law_line", 9)]) (g := gName 9) (by rfl) sc__law_picked_right.nd (pi_list (pv 4)) (blkOk_by (own := [("_law_line", 9)]) (N := ["_law_deck_here", "_law_made", "_law_words_here", "_law_size", "_law_lines_here", "_law_k", "_law_spots", "_law_due", "_law_j", "_law_line", "_law_spot"]) (sc := defScope s__law_picked_right) (by decide +kernel)) (fun _ _ _ _ _ => (pg_name (i := 9) sc__law_picked_right.nd rfl (Or.inr rfl))) (fun _ _ _ _ _ => pts_nil)
            (fun _ _ _ _ _ => (pe_callTy (show CallR _ (.type "tuple") (rTupOfW K) from call_tuple_of) (by rfl) B.n_tuple (by decide +kernel) (pa_cons (pe_lc (own := [("_law_spot", 10)]) (g := gName 10) (by rfl) sc__law_picked_right.nd (show PI _ _ _ (iList K (tVar 6)) from pi_list (pv 6)) (blkOk_by (own := [("_law_spot", 10)]) (N := ["_law_deck_here", "_law_made", "_law_words_here", "_law_size", "_law_lines_here", "_law_k", "_law_spots", "_law_due", "_law_j", "_law_line", "_law_spot"]) (by kernel_rfl)) (fun _ _ _ _ _ => (pg_name (i := 10) sc__law_picked_right.nd rfl (Or.inl rfl))) (fun _ _ _ _ _ => pts_nil)
              (fun _ _ _ _ _ => (pe_ix (show IxR _ (rIxT K) from ix_tup) (pv 9) (pv 10) (fun _ _ => rfl)))) pa_nil)))) pa_nil)) pa_nil)))
        (pss_one
          (ps_if (pt_not (pt_val (pe_callG GI hgu hr2 rfl fi.g fi.F.kp bI .nil pass0 (pa_cons (pe_call GK hr rfl fk.g fk.F.kp bK .nil pass0 (pa_cons (pv 1) (pa_cons (pv 6) pa_nil))) (pa_cons (pv 2) (pa_cons (pe_op op_add (pv 5) pe_int) (pa_cons (pv 7) pa_nil)))))))
            (pss_one
              (ps_ret pe_bl))
            pss_nil)))))
    (pss_one
      (ps_ret pe_bl))), ?_⟩
    obtain ⟨dasc, dok, d1, d3, n1, n3⟩ := TA.dom
    refine ⟨3, rfl, by decide, by decide, ?_⟩
    refine for_range (lo := 0) (n := 3) (fun i σ H' => ∃ v5 v6 v7 : Option V, σ = [some (.ref d), some (.ref t), some (.ref wd), some (.int (n : Nat)), some (.ref ls), v5, v6, v7, none, none, none] ∧ Off d l H H' ∧ DeckAt H' d l (k + 3 * i)) ⟨none, none, none, rfl, Off.refl, D⟩ ?_ ?_
    · rintro i σ H1 hi ⟨v5, v6, v7, rfl, o1, D1⟩
      rw [Int.zero_add]
      have TA1 := TA.off D o1
      have hwd1 := tup_off hwd D o1
      have hls1 := lst_off hls nls D o1
      have hR1 := hR.off D o1
      obtain ⟨k1, hk1⟩ : ∃ k1, k + 3 * i = k1 := ⟨_, rfl⟩
      have hkb : k1 ≤ k + 6 ∧ k1 + (i + 1) ≤ k + 3 * (i + 1) := ⟨by omega, by omega⟩
      rw [hk1] at D1
      -- spots
      refine ⟨_, rfl, _, _, rfl, rfl, _, rfl, by omega, by omega, fun S hS => ?_⟩
      have hSl := D1.ne hS
      refine lc_range (lo := 0) (n := ((i : Int) + 1).toNat) (fun j H' => ∃ pls : List Nat, Off d l H1 H' ∧ DeckAt H' d l (k1 + j) ∧ H' S = some (.lst (pls.map fun pl => V.int (pl : Nat))) ∧ pls.length = j ∧ ∀ pl ∈ pls, pl < n) ⟨[], Off.of (same_new hS), D1.same (same_new hS), upd_same, rfl, fun _ z => nomatch z⟩ ?_ ?_
      · rintro j H2 hj ⟨pls, o2, D2, hS2, len, lt⟩
        have hj2 : j < i + 1 := by omega
        refine ⟨rfl, _, rfl, _, rfl, d, l, (n : Nat), k1 + j, rfl, D2, by omega, by omega, by omega, fun m H3 m0 m1 D3 o3 => ?_⟩
        have hS3 := lst_off hS2 hSl.2 D2 o3
        refine ⟨_, hS3, by rw [List.length_map, sizeLine_eq]; omega, pls ++ [m.toNat], (o2.trans o3).put hS, D3.put hSl, ?_, by rw [List.length_append, len]; rfl, fun pl hpl => ?_⟩
        · rw [upd_same, List.map_append, show V.int m = V.int ((m.toNat : Nat) : Int) by rw [Int.toNat_of_nonneg m0]]
          rfl
        · rcases List.mem_append.mp hpl with h | h
          · exact lt pl h
          · rw [List.mem_singleton.mp h]
            omega
      rintro H2 ⟨pls, o2, D2, hS2, len, lt⟩
      have len : pls.length = i + 1 := by omega
      have TA2 := TA1.off D1 o2
      have hwd2 := tup_off hwd1 D1 o2
      have hls2 := lst_off hls1 nls D1 o2
      have hR2 := hR1.off D1 o2
      -- due
      refine ⟨_, rfl, ls, rfl, ⟨_, SqL.of hls2⟩, fun G hG => ?_⟩
      have h64 := TA.h64
      refine lc_list (K := K) (xs := rs') (fun j H' => ∃ ac, Same H2 H' ∧ H' G = some (.lst ac) ∧ RowsAt H' ac ((R.take j).map (pickR pls))) ⟨[], same_new hG, upd_same, .nil⟩ (fun j H' _ ⟨_, e, _⟩ => SqL.of (e _ _ hls2)) ?_ ?_
      · rintro j z H3 hz ⟨ac, e3, hac, hA⟩
        obtain ⟨ts, hRj, a, rfl, ha⟩ := each_get hR2 hz
        have tl := (TA.row ts (List.mem_of_getElem? hRj)).1
        have la := hA.length
        rw [List.length_map, List.length_take] at la
        refine ⟨rfl, _, rfl, S, rfl, ⟨_, SqL.of (e3 _ _ hS2)⟩, fun I hI => ?_⟩
        refine lc_list (K := K) (xs := pls.map fun pl => V.int (pl : Nat)) (fun m H' => Same H3 H' ∧ H' I = some (.lst ((pickR (pls.take m) ts).map V.str))) ⟨same_new hI, upd_same⟩ (fun m H' _ p => SqL.of (p.1 _ _ (e3 _ _ hS2))) ?_ ?_
        · rintro m y H4 hm ⟨e4, hI4⟩
          rw [List.getElem?_map] at hm
          cases hx : pls[m]? with
          | none =>
            rw [hx] at hm
            cases hm
          | some pl =>
            rw [hx] at hm
            obtain rfl : V.int (pl : Nat) = y := Option.some.inj hm
            have lp : pl < ts.length := by rw [tl]; exact lt pl (List.mem_of_getElem? hx)
            have gp : ts[pl]? = some (ts.getD pl Str.empty) := by
              rw [List.getElem?_eq_getElem lp]
              simp [List.getD, lp]
            refine ⟨rfl, _, rfl, _, rfl, a, ts.map V.str, (pl : Nat), .str (ts.getD pl Str.empty), rfl, rfl, SqT.of (e4 _ _ (e3 _ _ ha)), atI_nat (by rw [List.getElem?_map, gp]; rfl), _, hI4, ?_, same_put hI e4, ?_⟩
            · unfold pickR
              rw [List.length_map, List.length_map, List.length_take, sizeLine_eq]
              omega
            · unfold pickR
              rw [upd_same, take_next hx, List.map_append, List.map_append]
              rfl
        · rintro H4 ⟨e4, hI4⟩
          rw [List.length_map, List.take_length] at hI4
          refine ⟨I, _, rfl, .inl ⟨SqL.of hI4, fun u hu => ?_⟩⟩
          have e5 : Same H4 (upd H4 u (.tup ((pickR pls ts).map V.str))) := same_new hu
          refine ⟨ac, e5 _ _ (e4 _ _ hac), by rw [sizeLine_eq]; omega, ac ++ [.ref u], same_put hG (same_trans e3 (same_trans e4 e5)), upd_same, ?_⟩
          have hrow : RowsAt (upd H4 u (.tup ((pickR pls ts).map V.str))) (ac ++ [.ref u]) ((R.take (j + 1)).map (pickR pls)) := by
            rw [take_next hRj, List.map_append]
            exact each_snoc (hA.up (same_trans e4 e5)) ⟨u, rfl, upd_same⟩
          refine each_and hrow fun v ts _ ⟨b, e8, e9⟩ => ⟨b, e8, ?_⟩
          rw [upd_ne (ne_of e9 (e5 _ _ (e4 _ _ hac)) (by intro z; cases z))]
          exact e9
      rintro H3 ⟨ac, e3, hac, hA⟩
      rw [hR2.length, List.take_length] at hA
      have plen : ∀ r ∈ R.map (pickR pls), r.length = i + 1 := fun r hr => by
        obtain ⟨r0, _, rfl⟩ := List.mem_map.mp hr
        unfold pickR
        rw [List.length_map, len]
      obtain ⟨ms, m1, m2, m3⟩ := rows_mem (K := K) hA
      have mal := rows_al (ms := ms) (R := R.map (pickR pls)) (fun p hp => by obtain ⟨_, ts, h1, h2, _⟩ := m3 p hp; exact ⟨ts, h1, h2⟩) fun r hr => by rw [plen r hr]; omega
      have ml : ms.length = R.length := by
        have z := congrArg List.length m2
        rw [List.length_map, List.length_map, List.length_map] at z
        exact z
      refine ⟨true, G, ms, rfl, .inl (SqL.of (by rw [m1]; exact hac)), fun p hp => (m3 p hp).1, by omega, fun T0 L hT h1 h2 h3 => ?_⟩
      have e4 : Same H3 (upd H3 T0 (SetV true w T0 L)) := same_new hT
      have sub : ∀ x ∈ L.map (·.2.data), x ∈ ms.map (·.2.data) := fun x hx => by
        obtain ⟨p, hp, e⟩ := List.mem_map.mp hx
        exact List.mem_map.mpr ⟨p, h1 p hp, e⟩
      refine ⟨true, T0, L, rfl, upd_same, fun p hp => Kv.up (fun a xs => same_seqT e4) _ _ (m3 p (h1 p hp)).1.1, fun x hx y hy => mal.1 x (sub x hx) y (sub y hy), mal.2.imp (fun h x hx => h x (sub x hx)) fun h x hx => h x (sub x hx), fun L' g pm aft hg => ?_⟩
      have e5 := same_trans e4 (same_new (o := .lst (L'.map (·.1))) hg)
      obtain ⟨R', hR', asc', mem'⟩ := rows_sorted (K := K) (L := L') m2 m3 e5 (fun m hm => h1 m (pm.mem_iff.mp hm)) (fun m hm => (pm.map (·.2)).mem_iff.mpr (h2 m hm)) ((pm.map (·.2)).nodup_iff.mpr h3) aft plen
      have hg5 : upd (upd H3 T0 (SetV true w T0 L)) g (.lst (L'.map (·.1))) g = some (.lst (L'.map (·.1))) := upd_same
      have e25 := same_trans e3 e5
      -- _law_is(_law_picked(made, spots), words, k + 1, due)
      refine ⟨_, rfl, _, rfl, t, S, pls, n, ds, R, rfl, TA2.up e25, e25 _ _ hS2, by omega, by omega, lt, fun o H6 R2 e6 TO mem => ?_⟩
      have z := tab_due TO asc' fun row => (mem row).trans (mem' row).symm
      subst z
      have e26 := same_trans e25 e6
      refine ⟨_, rfl, _, rfl, _, _, rfl, rfl, _, rfl, o, wd, g, i + 1, ds, _, R2, rfl, by rw [← len]; exact TO, e26 _ _ hwd2, e6 _ _ hg5, hR'.up e6, fun H7 e7 => ⟨true, rfl, iteF ?_⟩⟩
      refine ⟨_, _, _, rfl, o1.trans (o2.trans (Off.of (same_trans e26 e7))), ?_⟩
      exact (D2.same (same_trans e26 e7)).up (by omega)
    · rintro σ H1 ⟨v5, v6, v7, rfl, o1, D1⟩
      exact q H1 D1 o1
end
end K01
/-! Own operators of instances: x op y of one class, x == y of any y, ~x. -/
namespace KO
open PySem PySem.Spec PySem.W PyProof.Rows L2 KG
section
variable {X : Cx} {CX : CXT} {pins : List (Addr × Obj)} {σ : L2.St} {H : Hp} {s : Shared} {a C dx g : Addr} {fs : List (Str × V)} {n : Nat} {fd : FuncData} {ps : List Str} {sp : Sp} {E : XK}
theorem ins_inst (I : L2.Inv X pins σ H s) (h : H a = some (.ins C dx fs)) : ∃ ox od, InstAt s.heap a ox C od := by
  obtain ⟨mA, O, _⟩ := ins_get I.hok h
  obtain ⟨od, J, _⟩ := O.look
  exact ⟨_, od, J⟩
/-- x op y, both of the class at C, whose def for op keeps sp -/
def rBin (C : Addr) (sp : Sp) (E : XK) : R2 := fun x y H Q => ∃ a b dx dy fs gs, x = V.ref a ∧ y = V.ref b ∧ H a = some (.ins C dx fs) ∧ H b = some (.ins C dy gs) ∧ sp [x, y] H Q E
theorem op_bin {op : Operator} (hs : findIn X.K (.ref C) (PySem.dunder op.info.2) = some (some (.ref g))) (hf : isFn X.K (.ref g) = true) (hc : selfFirst X.K C = true)
    (F : FnOk X.prog X.w X.K X.mg X.base CX n g fd ps sp) (hb : L2.Binds X.K fd ps []) (hr : Room n X.A) (hx : Passes CX X E) : OpR X (binaryOp op) (rBin C sp E) := by
  intro pins s σ H x y v u Q I rx ry h
  obtain ⟨a, b, dx, dy, fs, gs, rfl, rfl, ha, hb2, q⟩ := h
  cases (show v = Value.ref a from rx)
  cases (show u = Value.ref b from ry)
  obtain ⟨ox, od, J⟩ := ins_inst I ha
  obtain ⟨oy, oe, J2⟩ := ins_inst I hb2
  obtain ⟨m, hF⟩ := I.fr
  refine binop_K (op := op) hF I.ok.mod.kin J J2.type hc hs hf ?_
  refine wpAny_mono (run_fn (us := [.ref a, .ref b]) (vs := [.ref a, .ref b]) F hr hb .nil hx I (.cons rfl (.cons rfl .nil)) q) (fun w s' z => ?_) fun _ _ x => x
  obtain ⟨z', H', I', rz, qz⟩ := z
  exact SlX.cmpback rz ⟨z', H', I', rz, qz⟩
/-- x == y, x of the class at C whose __eq__ keeps sp; y anything that is of no class below C -/
def rCmp (K : Frag) (C : Addr) (sp : Sp) (E : XK) : R2 := fun x y H Q => ∃ a dx fs t, x = V.ref a ∧ H a = some (.ins C dx fs) ∧ TyX K H y t ∧ notFirst K C t = true ∧ sp [x, y] H Q E
theorem op_cmp {op : CmpOp} (hop : ∀ a b, compareOp op a b = richCompare op a b) (hs : findIn X.K (.ref C) (cmpInfo op).2.1 = some (some (.ref g))) (hf : isFn X.K (.ref g) = true)
    (F : FnOk X.prog X.w X.K X.mg X.base CX n g fd ps sp) (hb : L2.Binds X.K fd ps []) (hr : Room n X.A) (hx : Passes CX X E) : OpR X (compareOp op) (rCmp X.K C sp E) := by
  intro pins s σ H x y v u Q I rx ry h
  obtain ⟨a, dx, fs, t, rfl, ha, ty, hn, q⟩ := h
  cases (show v = Value.ref a from rx)
  obtain ⟨ox, od, J⟩ := ins_inst I ha
  obtain ⟨P, Z, p, _⟩ := kit_of I ry ty
  obtain ⟨m, hF⟩ := I.fr
  rw [hop]
  refine cmp_K (op := op) (tb := t) hr.units0 hF I.ok.mod.kin J (Z.ty _ _ I.kIn p) hn hs hf ?_
  refine wpAny_mono (run_fn (us := [.ref a, u]) (vs := [.ref a, y]) F hr hb .nil hx I (.cons rfl (.cons ry .nil)) q) (fun w s' z => ?_) fun _ _ x => x
  obtain ⟨z', H', I', rz, qz⟩ := z
  exact SlX.cmpback rz ⟨z', H', I', rz, qz⟩
/-- ~x -/
def rUnI (C : Addr) (sp : Sp) (E : XK) : V → Hp → VK → Prop := fun x H Q => ∃ a dx fs, x = V.ref a ∧ H a = some (.ins C dx fs) ∧ sp [x] H Q E
theorem un_invI (hs : findIn X.K (.ref C) "__invert__" = some (some (.ref g))) (hf : isFn X.K (.ref g) = true) (F : FnOk X.prog X.w X.K X.mg X.base CX n g fd ps sp) (hb : L2.Binds X.K fd ps []) (hr : Room n X.A) (hx : Passes CX X E) : UnR X (unaryOp .Invert) (rUnI C sp E) := by
  intro pins s σ H x v Q I rx h
  obtain ⟨a, dx, fs, rfl, ha, q⟩ := h
  cases (show v = Value.ref a from rx)
  obtain ⟨ox, od, J⟩ := ins_inst I ha
  obtain ⟨m, hF⟩ := I.fr
  exact ksp_inv hF I.ok.mod.kin J hs hf (run_fn (us := [.ref a]) (vs := [.ref a]) F hr hb .nil hx I (.cons rfl .nil) q)
end
end KO
/-! x != y of instances whose class has an own __eq__ and no own __ne__. -/
namespace KO
open PySem PySem.Spec PySem.W PyProof.Rows L2 KG
section
variable {M : Model} {prog : Program} {w : World} {A : Around} {E : Value → Shared → Prop} {s : Shared} {K : PySem.W.Frag} {x C f L : Addr} {h₀ : Heap} {m : Str → Option Value} {ox : Obj} {od : Option Obj} {b : Value} {tb : Value}
theorem entry_ne {Q : Fin → Shared → Prop} (X : K.In s.heap) (I : PySem.W.InstAt s.heap x ox C od) (hu : A.units < cLine) (hs : findIn K (.ref C) "__eq__" = some (some (.ref f))) (hf : isFn K (.ref f) = true)
    (hcall : wpAny (model prog w) A (call (.ref f) [.ref x, b]) (fun v s' => ∃ r, v = .bool r ∧ Q (.done (.ret (.bool (!r)))) s') E s) : wpAny (model prog w) A (Builtin.«object.__ne__» ⟨[.ref x, b], []⟩) Q E s := by
  unfold Builtin.«object.__ne__»
  repeat (first
    | with_reducible refine wpAny_cRoomFor hu ?_
    | (refine wpAny_bind (m := callSpecialIfBound? (.ref x) (Str.ofString "__eq__") [b])
        (ifBound_K X I hs hf (wpAny_mono hcall (fun v s' hr => by
          obtain ⟨r, rfl, hq⟩ := hr
          repeat (first | exact hq | exact wpAny_pure hq | exact wpAny_truthy_bool hq | (refine wpAny_bind (m := truthy (.bool _)) (wpAny_truthy_bool ?_)) | wp_step)) fun _ _ e => e)))
    | wp_step)
theorem call_objNe {Q : Value → Shared → Prop} (X : K.In s.heap) (I : PySem.W.InstAt s.heap x ox C od) (hu : A.in1.units < cLine) (hm : mroIn K C (.type "object") = some true) (hs : findIn K (.ref C) "__eq__" = some (some (.ref f))) (hf : isFn K (.ref f) = true)
    (hcall : wpAny (model prog w) A.in1 (call (.ref f) [.ref x, b]) (fun v s' => ∃ r, v = .bool r ∧ Q (.bool (!r)) s') E s) : wpAny (model prog w) A (call (.builtin "object.__ne__") [.ref x, b]) Q E s :=
  wpAny_call (codeAny_call_builtin F.cmp_object.ne.plain F.cmpEntry_ne (PySem.W.check_slot F.cmpKind_ne F.cmpSplit_ne (I.type.andThen (PySem.W.looks_mroIn X hm)) (F.cmpArgs_ne _ _) (entry_ne X I hu hs hf hcall)))
theorem ifBound_objNe {args : List Value} {Q : Option Value → Shared → Prop} (X : K.In s.heap) (I : PySem.W.InstAt s.heap x ox C od) (hs : findIn K (.ref C) "__ne__" = some (some (.builtin "object.__ne__")))
    (h : wpAny M A (call (.builtin "object.__ne__") (.ref x :: args)) (fun v => Q (some v)) E s) : wpAny M A (callSpecialIfBound? (.ref x) "__ne__" args) Q E s := by
  simp only [callSpecialIfBound?, bindSpecialIfBound?]
  refine wpAny_holding (wpAny_bind (wpAny_bind (wpAny_bind (I.type.here ((PySem.W.looks_findIn X hs).here ?_)))))
  refine wpAny_bind (wpAny_askSetting (wpAny_ite ?_))
  have fin : wpAny M A (call (.builtin "object.__ne__") ([.ref x] ++ args) >>= fun v => pure (some v)) Q E s := wpAny_bind (wpAny_mono h (fun v s' h' => wpAny_pure h') fun _ _ h' => h')
  split
  · exact wpAny_bind (wpAny_of_eq (F.cmp_object.ne.bind _) (wpAny_pure (by exact fin)))
  · exact wpAny_tryCatch (wpAny_bind (wpAny_of_eq (F.cmp_object.ne.bind _) (wpAny_pure (by exact fin))))
theorem ne_K {Q : Value → Shared → Prop} (hu0 : A.units < cLine) (hu : A.in1.units < cLine) (F : Fr h₀ L s.heap m) (X₀ : K.In h₀) (I : InstAt s.heap x ox C od) (hb : Looks (model prog w) s.heap (typeOf b) tb) (hn : notFirst K C tb = true)
    (hm : mroIn K C (.type "object") = some true) (hne : findIn K (.ref C) "__ne__" = some (some (.builtin "object.__ne__"))) (hs : findIn K (.ref C) "__eq__" = some (some (.ref f))) (hf : isFn K (.ref f) = true)
    (h : wpAny (model prog w) A.in1 (call (.ref f) [.ref x, b]) (fun v s' => ∃ r, v = .bool r ∧ Q (.bool (!r)) s') E s) : wpAny (model prog w) A (richCompare .NotEq (.ref x) b) Q E s := by
  have X := X₀.keeps F.keep
  have one : wpAny (model prog w) A (tryCompare (.ref x) (cmpInfo .NotEq).2.1 b) (fun r s' => ∃ v, r = some v ∧ Q v s') E s := by
    unfold tryCompare
    refine wpAny_bind (ifBound_objNe X I hne (call_objNe X I hu hm hs hf (wpAny_mono h (fun v s' hv => ?_) fun _ _ e => e)))
    obtain ⟨r, rfl, hq⟩ := hv
    exact ⟨r, rfl, wpAny_pure ⟨_, rfl, hq⟩⟩
  unfold richCompare
  simp only [oneThing_ref]
  refine wpAny_holding (wpAny_bind (wpAny_cRoomFor hu0 ?_))
  refine wpAny_bind (I.type.here (wpAny_bind (hb.here ?_)))
  split
  · rename_i q
    have e : subIn K tb (.ref C) = some false := by
      rcases Bool.or_eq_true_iff.mp hn with e | e
      · rw [beq_iff_eq.mp e] at q; simp at q
      · exact beq_iff_eq.mp e
    refine wpAny_bind ((looks_subIn X e).here ?_)
    simp only [Bool.false_eq_true, if_false]
    refine wpAny_bind (wpAny_mono one (fun r s' z => ?_) fun _ _ e => e)
    obtain ⟨v, rfl, hq⟩ := z
    exact wpAny_pure hq
  · refine wpAny_bind (wpAny_pure ?_)
    simp only [Bool.false_eq_true, if_false]
    refine wpAny_bind (wpAny_mono one (fun r s' z => ?_) fun _ _ e => e)
    obtain ⟨v, rfl, hq⟩ := z
    exact wpAny_pure hq
end
section
variable {X : Cx} {CX : CXT} {g C : Addr} {n : Nat} {fd : FuncData} {ps : List Str} {sp : Sp} {E : XK}
def rNe (K : Frag) (C : Addr) (sp : Sp) (E : XK) : R2 := fun x y H Q => ∃ a dx fs t, x = V.ref a ∧ H a = some (.ins C dx fs) ∧ TyX K H y t ∧ notFirst K C t = true ∧ sp [x, y] H (fun v H' => ∃ b, v = .bl b ∧ Q (.bl (!b)) H') E
/-- what `!=` of a class needs -/
structure NeC (K : Frag) (C g : Addr) : Prop where
  m : mroIn K C (.type "object") = some true
  ne : findIn K (.ref C) "__ne__" = some (some (.builtin "object.__ne__"))
  eq : findIn K (.ref C) "__eq__" = some (some (.ref g))
  fn : isFn K (.ref g) = true
theorem op_neI (N : NeC X.K C g) (F : FnOk X.prog X.w X.K X.mg X.base CX n g fd ps sp) (hb : L2.Binds X.K fd ps []) (hr : Room (n + 1) X.A) (hx : Passes CX X E) : OpR X (compareOp .NotEq) (rNe X.K C sp E) := by
  intro pins s σ H x y v u Q I rx ry h
  obtain ⟨a, dx, fs, t, rfl, ha, ty, hn, q⟩ := h
  cases (show v = Value.ref a from rx)
  obtain ⟨ox, od, J⟩ := ins_inst I ha
  obtain ⟨P, Z, p, _⟩ := kit_of I ry ty
  obtain ⟨m, hF⟩ := I.fr
  show wpAny (model X.prog X.w) X.A (richCompare .NotEq (.ref a) u) _ _ _
  refine ne_K hr.units0 hr.in1.units0 hF I.ok.mod.kin J (Z.ty _ _ I.kIn p) hn N.m N.ne N.eq N.fn ?_
  have e0 : Env0 X.prog X.w X.K X.mg X.base X.A.in1 X.stack s H := by
    have e := I.env0
    exact ⟨e.frames, e.mod, e.bs, e.bsz, e.funs, e.frf, e.hok, e.bare⟩
  have hl := F.len _ _ _ _ q
  have r2 : Vals [V.ref a, y] [Value.ref a, u] := .cons rfl (.cons ry .nil)
  refine wpAny_call (codeAny_mono (F.run X.A.in1 X.stack s H ⟨[.ref a, u], []⟩ [.ref a, u] [.ref a, y] _ E hr.in1 e0 (by
    have := hb s [.ref a, u] I.kIn (by simpa using hl)
    simpa using this) r2 q) fun r s' hq => ?_)
  cases r with
  | error e => exact hx pins σ H s e s' I hq
  | ok fl =>
    cases fl with
    | ret w =>
      obtain ⟨z, H', I', rz, b, ez, q'⟩ := I.after hq
      subst ez
      cases (show w = Value.bool b from rz)
      exact ⟨b, rfl, .bl (!b), H', I', rfl, q'⟩
    | next => exact False.elim hq
    | brk => exact False.elim hq
    | cont => exact False.elim hq
end
end KO
/-! Table.cut; _law_cut_right. -/
namespace K01
open PySem PySem.Spec PyProof.Rows L2 KG KS KA KX
abbrev s_tabCut : Stmt := inCls 15 14
abbrev s__law_cut_right : Stmt := top 31
theorem inV_texts (x : Str) (ds : List Str) : inV (.str x) (ds.map V.str) = decide (x ∈ ds) := by
  by_cases h : x ∈ ds
  · rw [in_texts h, decide_eq_true h]
  · rw [decide_eq_false h]
    unfold inV
    rw [List.any_eq_false]
    intro y hy
    obtain ⟨z, hz, rfl⟩ := List.mem_map.mp hy
    show ¬ (z == x) = true
    intro e
    rw [← eq_of_beq e] at h
    exact h hz
theorem all_in (rs ds : List Str) : (rs.map fun x => decide (x ∈ ds)).all id = decide (∀ x ∈ rs, x ∈ ds) := by
  rw [Bool.eq_iff_iff, List.all_eq_true, decide_eq_true_eq]
  refine ⟨fun h x hx => ?_, fun h b hb => ?_⟩
  · exact of_decide_eq_true (h _ (List.mem_map.mpr ⟨x, hx, rfl⟩))
  · obtain ⟨x, hx, rfl⟩ := List.mem_map.mp hb
    exact decide_eq_true (h x hx)
/-- is_row(row, domain, length) of texts -/
def spRowB : Sp := fun vs H Q _ => ∃ (r d : Addr) (rs ds : List Str), vs = [.ref r, .ref d, .int (rs.length : Nat)] ∧ H r = some (.tup (rs.map V.str)) ∧ H d = some (.tup (ds.map V.str)) ∧ rs.length ≤ 1000 ∧ ∀ H', Same H H' → Q (.bl (decide (∀ x ∈ rs, x ∈ ds))) H'
/-- [row for row in list if ..], the test may make objects -/
theorem filt_go {e : Addr} {E : List (List Str)} {k : Nat} {tt : TT} {vs : List Nat} {σ : L2.St} {H1 : Hp} {D : Addr} (p : List Str → Bool)
    (hD : H1 D = none) (lim : E.length < 100000) (hk : k < σ.length)
    (ht : ∀ (ts : List Str) (b : Addr) (H3 : Hp) (Z : Bool → Hp → Prop), ts ∈ E → Same H1 H3 → H3 b = some (.tup (ts.map V.str)) → (∀ H4, Same H3 H4 → Z (p ts) H4) → tt ((wipe σ vs).set k (some (.ref b))) H3 Z)
    {i : Nat} {ts : List Str} {b : Addr} {H3 : Hp} {ac : List V} (hEi : E[i]? = some ts) (hb : H3 b = some (.tup (ts.map V.str))) (e3 : Same H1 H3) (hac : H3 D = some (.lst ac)) (hB : RowsAt H3 ac ((E.take i).filter p)) :
    tt ((wipe σ vs).set k (some (.ref b))) H3 fun b' H4 => if b' = true then tVar k ((wipe σ vs).set k (some (.ref b))) H4 fun y H5 => ∃ acc, H5 D = some (.lst acc) ∧ acc.length < sizeLine ∧ (∃ ac, Same H1 (upd H5 D (.lst (acc ++ [y]))) ∧ upd H5 D (.lst (acc ++ [y])) D = some (.lst ac) ∧ RowsAt (upd H5 D (.lst (acc ++ [y]))) ac ((E.take (i + 1)).filter p))
      else ∃ ac, Same H1 H4 ∧ H4 D = some (.lst ac) ∧ RowsAt H4 ac ((E.take (i + 1)).filter p) := by
  refine ht ts b H3 _ (List.mem_of_getElem? hEi) e3 hb fun H4 e4 => ?_
  have z := filt_step p hD (same_trans e3 e4) (e4 _ _ hac) (hB.up e4) hEi (e4 _ _ hb) lim
  by_cases c : p ts = true
  · rw [if_pos c] at z ⊢
    obtain ⟨acc, h1, h2, h3⟩ := z
    exact ⟨.ref b, by rw [List.getElem?_set_self (by rw [wipe_length]; exact hk)], acc, h1, h2, h3⟩
  · rw [if_neg c] at z ⊢
    exact z
theorem lc_filtS {K : PySem.W.Frag} {e : Addr} {es : List V} {E : List (List Str)} {k : Nat} {tt : TT} {vs : List Nat} {σ : L2.St} {H1 : Hp} {D : Addr} {Qd : Hp → Prop} (p : List Str → Bool)
    (hD : H1 D = none) (he : H1 e = some (.lst es)) (hE : RowsAt H1 es E) (lim : E.length < 100000) (hk : k < σ.length) (hv : ∀ v : V, wipe ((wipe σ vs).set k (some v)) vs = wipe σ vs)
    (ht : ∀ (ts : List Str) (b : Addr) (H3 : Hp) (Z : Bool → Hp → Prop), ts ∈ E → Same H1 H3 → H3 b = some (.tup (ts.map V.str)) → (∀ H4, Same H3 H4 → Z (p ts) H4) → tt ((wipe σ vs).set k (some (.ref b))) H3 Z)
    (q : ∀ (ac : List V) (H' : Hp), Same H1 H' → H' D = some (.lst ac) → RowsAt H' ac (E.filter p) → Qd H') :
    ∃ W : Nat → Nat → Hp → Prop, (∃ m, W 0 m (upd H1 D (.lst []))) ∧ ∀ i m H, W i m H →
      ((Itl K e).stop i H ∧ Qd H) ∨ ((Itl K e).go i H ∧ ∃ Nx : Hp → Prop, (∀ H', Nx H' → ∃ m', m' < m ∧ W (i + 1) m' H') ∧ ∀ x H', (Itl K e).yld i H x H' → gName k x (wipe σ vs) H' fun σ2 H2 => wipe σ2 vs = wipe σ vs ∧ tt σ2 H2 fun b H3 =>
        if b = true then tVar k σ2 H3 fun y H4 => ∃ acc, H4 D = some (.lst acc) ∧ acc.length < sizeLine ∧ Nx (upd H4 D (.lst (acc ++ [y]))) else Nx H3) := by
  refine lc_list (K := K) (xs := es) (fun i H' => ∃ ac, Same H1 H' ∧ H' D = some (.lst ac) ∧ RowsAt H' ac ((E.take i).filter p)) ⟨[], same_new hD, upd_same, .nil⟩ (fun i H' _ ⟨_, e1, _⟩ => SqL.of (e1 _ _ he)) ?_ ?_
  · rintro i z H3 hz ⟨ac, e3, hac, hB⟩
    obtain ⟨ts, hEi, b, rfl, hb⟩ := each_get hE hz
    exact ⟨hv _, filt_go (e := e) p hD lim hk ht hEi (e3 _ _ hb) e3 hac hB⟩
  · rintro H3 ⟨ac, e3, hac, hB⟩
    rw [hE.length, List.take_length] at hB
    exact q ac H3 e3 hac hB
theorem lc_filtT {K : PySem.W.Frag} {e : Addr} {es : List V} {E : List (List Str)} {k : Nat} {tt : TT} {vs : List Nat} {σ : L2.St} {H1 : Hp} {D : Addr} {Qd : Hp → Prop} (p : List Str → Bool)
    (hD : H1 D = none) (he : H1 e = some (.tup es)) (hE : RowsAt H1 es E) (lim : E.length < 100000) (hk : k < σ.length) (hv : ∀ v : V, wipe ((wipe σ vs).set k (some v)) vs = wipe σ vs)
    (ht : ∀ (ts : List Str) (b : Addr) (H3 : Hp) (Z : Bool → Hp → Prop), ts ∈ E → Same H1 H3 → H3 b = some (.tup (ts.map V.str)) → (∀ H4, Same H3 H4 → Z (p ts) H4) → tt ((wipe σ vs).set k (some (.ref b))) H3 Z)
    (q : ∀ (ac : List V) (H' : Hp), Same H1 H' → H' D = some (.lst ac) → RowsAt H' ac (E.filter p) → Qd H') :
    ∃ W : Nat → Nat → Hp → Prop, (∃ m, W 0 m (upd H1 D (.lst []))) ∧ ∀ i m H, W i m H →
      ((Itt K e).stop i H ∧ Qd H) ∨ ((Itt K e).go i H ∧ ∃ Nx : Hp → Prop, (∀ H', Nx H' → ∃ m', m' < m ∧ W (i + 1) m' H') ∧ ∀ x H', (Itt K e).yld i H x H' → gName k x (wipe σ vs) H' fun σ2 H2 => wipe σ2 vs = wipe σ vs ∧ tt σ2 H2 fun b H3 =>
        if b = true then tVar k σ2 H3 fun y H4 => ∃ acc, H4 D = some (.lst acc) ∧ acc.length < sizeLine ∧ Nx (upd H4 D (.lst (acc ++ [y]))) else Nx H3) := by
  refine lc_tup (K := K) (xs := es) (fun i H' => ∃ ac, Same H1 H' ∧ H' D = some (.lst ac) ∧ RowsAt H' ac ((E.take i).filter p)) ⟨[], same_new hD, upd_same, .nil⟩ (fun i H' _ ⟨_, e1, _⟩ => SqT.of (e1 _ _ he)) ?_ ?_
  · rintro i z H3 hz ⟨ac, e3, hac, hB⟩
    obtain ⟨ts, hEi, b, rfl, hb⟩ := each_get hE hz
    exact ⟨hv _, filt_go (e := e) p hD lim hk ht hEi (e3 _ _ hb) e3 hac hB⟩
  · rintro H3 ⟨ac, e3, hac, hB⟩
    rw [hE.length, List.take_length] at hB
    exact q ac H3 e3 hac hB
def spCut (C : Addr) : Sp := fun vs H Q _ => ∃ (t vd : Addr) (n : Nat) (ds es : List Str) (R : List (List Str)), vs = [.ref t, .ref vd] ∧ TabAt C H t ds n R ∧ H vd = some (.tup (es.map V.str)) ∧ AscT es ∧ (∀ x ∈ es, nameOk x = true) ∧ 1 ≤ es.length ∧ es.length ≤ 3 ∧
  ∀ (o : Addr) (H' : Hp) (R' : List (List Str)), Same H H' → TabAt C H' o es n R' → (∀ row, row ∈ R' ↔ row ∈ R ∧ ∀ x ∈ row, x ∈ es) → Q (.ref o) H'
section
variable {P : Program} {w : World} {K : PySem.W.Frag} {mg : Str → Option Value} {base : Heap}
theorem ok_is_rowB (B : Bs mg) (f : FnF K mg "is_row" "is_row" s_is_row) : FnOk P w K mg base CX0 1 f.a f.d ["thing", "domain", "length"] spRowB := by
  refine f.F.ok sc_is_row (fun vs H Q E h => ?_) (fun cdv A outer s H vs Q E hr h => ?_)
  · obtain ⟨r, d, rs, ds, rfl, _⟩ := h
    rfl
  · obtain ⟨r, d, rs, ds, rfl, ha, hd, few, q⟩ := h
    refine ⟨_, (pss_one
      (ps_ret (pe_and (pe_callB call_isi (by rfl) B.n_isinstance (by decide +kernel) (pa_cons (pv 0) (pa_cons (pe_bltn (v := .ty "tuple") rfl B.n_tuple (by decide +kernel) rfl) pa_nil)))
        (pe_and (pe_cmpR op_eq (pe_callB call_len (by rfl) B.n_len (by decide +kernel) (pa_cons (pv 0) pa_nil)) (pv 2) (nomark _))
          (pe_one (pe_callB (cr_all rfl) (by rfl) B.n_all (by decide +kernel) (pa_cons (pe_lc (own := [("value", 3)]) (g := gName 3) (by rfl) sc_is_row.nd (pi_tup (pv 0)) (blkOk_by (own := [("value", 3)]) (N := ["thing", "domain", "length", "value"]) (sc := defScope s_is_row) (by decide +kernel))
            (fun _ _ _ _ _ => (pg_name (i := 3) sc_is_row.nd rfl (Or.inl rfl))) (fun _ _ _ _ _ => pts_nil) (fun _ _ _ _ _ => (pe_cmpR (show OpR _ (compareOp .In) (rIn K false) from op_in_seq) (pv 3) (pv 1) (by rfl)))) pa_nil))))))), ?_⟩
    refine ⟨_, rfl, _, _, _, _, true, rfl, .ty "tuple", .base (.tup ha), kit_ty (by decide +kernel), true, rfl, iteT ?_⟩
    refine ⟨_, rfl, .ref r, rs.length, rfl, .inr ⟨_, SqT.of ha, by rw [List.length_map]⟩, _, rfl, rfl, true, congrArg V.bl (decide_eq_true rfl), iteT ?_⟩
    refine ⟨_, rfl, r, rfl, ⟨_, SqT.of ha⟩, fun D hD => ?_⟩
    refine lc_tup (K := K) (xs := rs.map V.str) (fun i H' => Same H H' ∧ H' D = some (.lst ((rs.take i).map fun x => V.bl (decide (x ∈ ds))))) ⟨same_new hD, upd_same⟩ (fun i H' _ p => SqT.of (p.1 _ _ ha)) ?_ ?_
    · rintro i y H' hi ⟨e1, eD⟩
      rw [List.getElem?_map] at hi
      cases hx : rs[i]? with
      | none =>
        rw [hx] at hi
        cases hi
      | some x =>
        rw [hx] at hi
        obtain rfl : V.str x = y := Option.some.inj hi
        refine ⟨rfl, _, rfl, _, rfl, d, ds.map V.str, rfl, .inr (SqT.of (e1 _ _ hd)), rfl, flat_strs ds, ?_⟩
        refine ⟨_, eD, by rw [List.length_map, List.length_take, sizeLine_eq]; omega, same_put hD e1, ?_⟩
        rw [upd_same, if_neg (by decide), inV_texts, take_next hx, List.map_append]
        rfl
    · rintro H1 ⟨e1, eD⟩
      rw [List.length_map, List.take_length] at eD
      refine ⟨D, rs.map fun x => decide (x ∈ ds), rfl, SqL.of (by rw [List.map_map]; exact eD), ?_⟩
      rw [all_in]
      exact q _ e1
theorem sc_tabCut : FnScope ["self", "values", "rows", "row"] ["self", "values"] (defScope s_tabCut) := ⟨rfl, rfl, rfl, by decide +kernel, rfl, by decide +kernel, by decide +kernel⟩
theorem ok_tabCut (B : Bs mg) (ti : MtD K "__init__" "Table.__init__" s_tabInit) (F : TabF K mg) (T : TabC K mg ti.a) (f : MtF K "cut" "Table.cut" s_tabCut) : FnOk P w K mg base CX0 6 f.a f.d ["self", "values"] (spCut T.C) := by
  have G6 := ok_tabInit (P := P) (w := w) (base := base) B ti F T
  have b6 : L2.Binds K ti.d ["self", "domain", "width", "rows"] [] := by
    obtain ⟨ds, r, b⟩ := ti.F.binds1 (ps := ["self", "domain", "width", "rows"]) 4 1 (by simp) rfl fun _ _ _ _ _ _ _ us its h1 h2 => match us, its, h1, h2 with | [_, _, _, _], [_], _, _ => ⟨_, rfl, rfl⟩
    cases (show Vals [] ds from r)
    exact b
  have G1 := ok_is_rowB (P := P) (w := w) (base := base) B F.row
  have b1 : L2.Binds K F.row.d ["thing", "domain", "length"] [] := F.row.F.binds fun _ _ _ _ _ _ us hl => match us, hl with | [_, _, _], _ => rfl
  refine f.F.ok sc_tabCut (fun vs H Q E h => ?_) (fun cdv A outer s H vs Q E hr h => ?_)
  · obtain ⟨t, vd, n, ds, es, R, rfl, _⟩ := h
    rfl
  · obtain ⟨t, vd, n, ds, es, R, rfl, TA, hvd, easc, eok, l1, l3, q⟩ := h
    have hr5 : Room 5 _ := hr.mono (by omega)
    have hr1 : Room 1 _ := hr.mono (by omega)
    refine ⟨_, (pss_cons
      (ps_setLc (i := 2) (own := [("row", 3)]) (g := gName 3) (by rfl) sc_tabCut.nd rfl rfl (sw_true rfl rfl rfl (by decide +kernel)) (pi_tup (pe_fld (pv 0) rfl)) (blkOk_by (own := [("row", 3)]) (N := ["self", "values", "rows", "row"]) (sc := defScope s_tabCut) (by decide +kernel)) (fun _ _ _ _ _ => (pg_name (i := 3) sc_tabCut.nd rfl (Or.inl rfl)))
        (fun _ _ _ _ _ => (pts_one (pt_val (pe_call G1 hr1 (by rfl) F.row.g F.row.F.kp b1 .nil pass0 (pa_cons (pv 3) (pa_cons (pv 1) (pa_cons (show PE _ _ (tFld K (tVar 0) "width") from pe_fld (pv 0) rfl) pa_nil))))))) (fun _ _ _ _ _ => (pv 3)))
    (pss_one
      (ps_ret (pe_make T.made G6 hr5 rfl T.g b6 .nil pass0 (pa_cons (pv 1) (pa_cons (pe_fld (pv 0) rfl) (pa_cons (pe_callTy call_tuple_of (by rfl) B.n_tuple (by decide +kernel) (pa_cons (pv 2) pa_nil)) pa_nil))))))), ?_⟩
    obtain ⟨dx, d, pr, rs, cols, ht, hd, hpr, hR, hC⟩ := TA.ex
    have h64 := TA.h64
    refine ⟨_, rfl, t, T.C, dx, _, _, rfl, ht, T.cl, T.nr, rfl, pr, rfl, ⟨_, SqT.of hpr⟩, fun D hD => ?_⟩
    refine lc_filtT (K := K) (fun r => decide (∀ x ∈ r, x ∈ es)) hD hpr hR (by omega) (by show 3 < 4; omega) (fun _ => rfl) (fun ts b H3 Z hts e3 hb z => ?_) fun ac H1 e1 hac hA => ?_
    · have tl := (TA.row ts hts).1
      have n3 := TA.dom.2.2.2.2.2
      exact ⟨_, rfl, _, rfl, _, rfl, t, T.C, dx, _, _, rfl, e3 _ _ ht, T.cl, T.nw, rfl, b, vd, ts, es, by rw [tl]; rfl, hb, e3 _ _ hvd, by omega, fun H4 e4 => ⟨_, rfl, z H4 e4⟩⟩
    · refine ⟨_, rfl, _, rfl, t, T.C, dx, _, _, rfl, e1 _ _ ht, T.cl, T.nw, rfl, _, rfl, D, ac, rfl, .inl ⟨SqL.of hac, fun u hu => ?_⟩⟩
      have e2 : Same H1 (upd H1 u (.tup ac)) := same_new hu
      have e12 := same_trans e1 e2
      have n13 := TA.dom.2.2.2.2
      refine make_tab (e12 _ _ hvd) ⟨easc, eok, l1, l3, n13.1, n13.2⟩ upd_same (hA.up e2) (fun r hr => ?_) (by have := List.length_filter_le (fun r => decide (∀ x ∈ r, x ∈ es)) R; omega) fun o H' R' ho e5 TO mem => ?_
      · obtain ⟨h0, h1⟩ := List.mem_filter.mp hr
        exact ⟨(TA.row r h0).1, of_decide_eq_true h1⟩
      · refine q o H' R' (same_trans e12 e5) TO fun row => ?_
        rw [mem row, List.mem_filter, decide_eq_true_eq]
end
end K01
/-! _law_cut_right. -/
namespace K01
open PySem PySem.Spec PyProof.Rows L2 KG KS KA KX
theorem eqv_nil (F : List Str) : PyData.eqv (.list (F.map PyData.str)) (.list []) = decide (F = []) := by
  cases F with
  | nil => rfl
  | cons x r => rw [decide_eq_false (by intro z; cases z)]; simp [PyData.eqv, PyData.eqvAll]
theorem strsL_shaped {xs : List Str} (hx : ∀ x ∈ xs, PyData.strOk x = true) : SeqAt.shaped (.list (xs.map PyData.str)) = true := by
  obtain ⟨h1, h2⟩ := txd_flat hx
  simp only [txd, PyData.canLay0, PyData.depth] at h1 h2
  unfold SeqAt.shaped
  rw [Bool.and_eq_true, decide_eq_true_eq]
  refine ⟨?_, ?_⟩
  · simp only [PyData.canLay0]
    exact h1
  · simp only [PyData.depth]
    omega
theorem out_none (ts es : List Str) : decide (ts.filter (fun x => !decide (x ∈ es)) = []) = decide (∀ x ∈ ts, x ∈ es) := by
  refine decide_eq_decide.mpr ?_
  rw [List.filter_eq_nil_iff]
  simp
/-- _law_cut_right(made, words, size, lines) -/
def spCutR (C : Addr) : Sp := fun vs H Q _ => ∃ (t wd ls : Addr) (n : Nat) (ds : List Str) (rs' : List V) (R : List (List Str)), vs = [.ref t, .ref wd, .int (n : Nat), .ref ls] ∧ TabAt C H t ds n R ∧ H wd = some (.tup (ds.map V.str)) ∧
  H ls = some (.lst rs') ∧ RowsAt H rs' R ∧ ∀ H', Same H H' → Q (.bl true) H'
section
variable {P : Program} {w : World} {K : PySem.W.Frag} {mg : Str → Option Value} {base : Heap}
theorem sc__law_cut_right : FnScope ["_law_made", "_law_words_here", "_law_size", "_law_lines_here", "_law_part", "_law_due", "_law_line", "_law_word"] ["_law_made", "_law_words_here", "_law_size", "_law_lines_here"] (defScope s__law_cut_right) := ⟨rfl, rfl, rfl, by decide +kernel, rfl, by decide +kernel, by decide +kernel⟩
theorem ok__law_cut_right (B : Bs mg) (ti : MtD K "__init__" "Table.__init__" s_tabInit) (F : TabF K mg) (T : TabC K mg ti.a) (J : C8.InsC K T.C) (mk : MtK K T.C "cut" "Table.cut" s_tabCut ["self", "values"] "values")
    (fe : MtF K "__eq__" "Table.__eq__" s_tabEq) (N : KO.NeC K T.C fe.a) (nf : PySem.W.notFirst K T.C (.ref T.C) = true) (fp : FnF K mg "_law_parts" "_law_parts" s__law_parts)
    (fr : FnF K mg "_law_rows_of" "_law_rows_of" s__law_rows_of) (fi : FnF K mg "_law_is" "_law_is" s__law_is) (f : FnF K mg "_law_cut_right" "_law_cut_right" s__law_cut_right) :
    FnG P w K mg base CX0 7 f.a f.d ["_law_made", "_law_words_here", "_law_size", "_law_lines_here"] (spCutR T.C) := by
  have GC := ok_tabCut (P := P) (w := w) (base := base) B ti F T mk.f
  have bC : L2.Binds K mk.f.d ["self", "values"] [] := mk.f.F.binds fun _ _ _ _ _ _ us hl => match us, hl with | [_, _], _ => rfl
  have GE := ok_tabEq (P := P) (w := w) (base := base) B T J fe
  have bE : L2.Binds K fe.d ["self", "other"] [] := fe.F.binds fun _ _ _ _ _ _ us hl => match us, hl with | [_, _], _ => rfl
  have GP := ok__law_parts (P := P) (w := w) (base := base) B fp
  have bP : L2.Binds K fp.d ["_law_words_here"] [] := fp.F.binds fun _ _ _ _ _ _ us hl => match us, hl with | [_], _ => rfl
  have GI := ok__law_is (P := P) (w := w) (base := base) B T J fi fr
  have bI : L2.Binds K fi.d ["_law_made", "_law_words_here", "_law_size", "_law_lines_here"] [] := fi.F.binds fun _ _ _ _ _ _ us hl => match us, hl with | [_, _, _, _], _ => rfl
  refine okN f.F sc__law_cut_right (fun vs H Q E h => ?_) (fun cdv A outer s H vs Q E hgu hr h => ?_)
  · obtain ⟨t, wd, ls, n, ds, rs', R, rfl, _⟩ := h
    rfl
  · obtain ⟨t, wd, ls, n, ds, rs', R, rfl, TA, hwd, hls, hR, q⟩ := h
    have hu64 := hr.units
    have hr1 : Room 1 _ := hr.mono (by omega)
    have hr2 : Room 2 _ := hr.mono (by omega)
    refine ⟨_, (pss_cons
      (ps_for PassesOwn.never rfl (pi_list (pe_call GP hr1 rfl fp.g fp.F.kp bP .nil pass0 (pa_cons (pv 1) pa_nil))) (pg_name (i := 4) sc__law_cut_right.nd rfl (Or.inr rfl))
        (pss_cons
          (ps_setLc (i := 5) (own := [("_law_line", 6)]) (g := gName 6) (by rfl) sc__law_cut_right.nd rfl rfl (sw_true rfl rfl rfl (by decide +kernel)) (pi_list (pv 3)) (blkOk_by (own := [("_law_line", 6)]) (N := ["_law_made", "_law_words_here", "_law_size", "_law_lines_here", "_law_part", "_law_due", "_law_line", "_law_word"]) (sc := defScope s__law_cut_right) (by decide +kernel)) (fun _ _ _ _ _ => (pg_name (i := 6) sc__law_cut_right.nd rfl (Or.inl rfl)))
            (fun _ _ _ _ _ => (pts_one (pt_cmpR (show OpR _ (compareOp .Eq) (rEqD K) from op_eqD hu64) (pe_lc (own := [("_law_word", 7)]) (g := gName 7) (by rfl) sc__law_cut_right.nd (show PI _ _ _ (iTup K (tVar 6)) from pi_tup (pv 6)) (blkOk_by (own := [("_law_word", 7)]) (N := ["_law_made", "_law_words_here", "_law_size", "_law_lines_here", "_law_part", "_law_due", "_law_line", "_law_word"]) (by kernel_rfl)) (fun _ _ _ _ _ => (pg_name (i := 7) sc__law_cut_right.nd rfl (Or.inl rfl)))
              (fun _ _ _ _ _ => (pts_one (pt_cmpR (show OpR _ (compareOp .NotIn) (rIn K true) from op_notIn_seq) (pv 7) (pv 4) (by rfl)))) (fun _ _ _ _ _ => (pv 7))) (pe_lst pa_nil) (nomark _)))) (fun _ _ _ _ _ => (pv 6)))
        (pss_one
          (ps_if (PW.pt (pw_or (pt_not (pt_val (pe_callG GI hgu hr2 rfl fi.g fi.F.kp bI .nil pass0 (pa_cons (pe_meth (pv 0) T.cl mk.M GC hr bC .nil pass0 (pa_cons (pv 4) pa_nil)) (pa_cons (pv 4) (pa_cons (pv 2) (pa_cons (pv 5) pa_nil)))))))
              (pw_or1 (pt_cmpR (KO.op_neI N GE bE hr2 pass0) (pe_methKw (pv 0) T.cl mk.M GC hr mk.kw pass0 (pk_cons (pv 4) pk_nil)) (pe_meth (pv 0) T.cl mk.M GC hr bC .nil pass0 (pa_cons (pv 4) pa_nil)) (nomark _)))))
            (pss_one
              (ps_ret pe_bl))
            pss_nil))))
    (pss_one
      (ps_ret pe_bl))), ?_⟩
    obtain ⟨dasc, dok, d1, d3, n1, n3⟩ := TA.dom
    refine ⟨_, rfl, wd, ds, rfl, hwd, d3, fun p ps Rp H1 hp e1 hp1 hRp l7 sub => ?_⟩
    refine ⟨p, rfl, ⟨_, SqL.of hp1⟩, ?_⟩
    refine for_list (K := K) (a := p) (xs := ps) (fun i σ H' => ∃ v4 v5 : Option V, σ = [some (.ref t), some (.ref wd), some (.int (n : Nat)), some (.ref ls), v4, v5, none, none] ∧ Same H1 H') ⟨none, none, rfl, Same.refl H1⟩ (fun i σ H' _ ⟨_, _, _, e⟩ => SqL.of (e _ _ hp1)) ?_ ?_
    · rintro i y σ H2 hi ⟨v4, v5, rfl, e2⟩
      obtain ⟨es, hEi, b, rfl, hb⟩ := each_get hRp hi
      obtain ⟨sl, nn⟩ := sub es (List.mem_of_getElem? hEi)
      have easc : AscT es := dasc.sublist sl
      have eok : ∀ x ∈ es, nameOk x = true := fun x hx => dok x (sl.subset hx)
      have le3 : es.length ≤ 3 := Nat.le_trans sl.length_le d3
      have le1 : 1 ≤ es.length := by
        cases es with
        | nil => exact absurd rfl nn
        | cons _ _ => exact Nat.succ_le_succ (Nat.zero_le _)
      have e02 := same_trans e1 e2
      have TA2 := TA.up e02
      have hls2 := e02 _ _ hls
      have hR2 := hR.up e02
      have hb2 := e2 _ _ hb
      have h64 := TA.h64
      refine ⟨_, rfl, ls, rfl, ⟨_, SqL.of hls2⟩, fun D hD => ?_⟩
      refine lc_filtS (K := K) (fun r => decide (∀ x ∈ r, x ∈ es)) hD hls2 hR2 (by omega) (by show 6 < 8; omega) (fun _ => rfl) (fun ts b' H3 Z hts e3 hb' z => ?_) fun ac H3 e3 hac hA => ?_
      · have tw := TA.row ts hts
        refine ⟨_, rfl, b', rfl, ⟨_, SqT.of hb'⟩, fun I hI => ?_⟩
        refine lc_tup (K := K) (xs := ts.map V.str) (fun j H' => Same H3 H' ∧ H' I = some (.lst (((ts.take j).filter fun x => !decide (x ∈ es)).map V.str))) ⟨same_new hI, upd_same⟩ (fun j H' _ p => SqT.of (p.1 _ _ hb')) ?_ ?_
        · rintro j y H4 hj ⟨e4, hI4⟩
          rw [List.getElem?_map] at hj
          cases hx : ts[j]? with
          | none =>
            rw [hx] at hj
            cases hj
          | some x =>
            rw [hx] at hj
            obtain rfl : V.str x = y := Option.some.inj hj
            have ll : ((ts.take j).filter fun x => !decide (x ∈ es)).length ≤ 3 := Nat.le_trans (List.length_filter_le _ _) (by rw [List.length_take, tw.1]; omega)
            refine ⟨rfl, _, rfl, _, rfl, b, es.map V.str, rfl, .inr (SqT.of (e4 _ _ (e3 _ _ hb2))), rfl, flat_strs es, _, rfl, ?_⟩
            rw [if_pos rfl, inV_texts, take_next hx, List.filter_append]
            by_cases c : x ∈ es
            · rw [show ([x].filter fun x => !decide (x ∈ es)) = [] by simp [c], List.append_nil, decide_eq_true c]
              exact iteF ⟨e4, hI4⟩
            · rw [show ([x].filter fun x => !decide (x ∈ es)) = [x] by simp [c], decide_eq_false c]
              refine iteT ⟨_, rfl, _, hI4, by rw [List.length_map, sizeLine_eq]; omega, same_put hI e4, ?_⟩
              rw [upd_same, List.map_append]
              rfl
        · rintro H4 ⟨e4, hI4⟩
          rw [List.length_map, List.take_length] at hI4
          refine ⟨by show 0 ≤ sizeLine; exact Nat.zero_le _, fun u hu => ?_⟩
          have e5 : Same H4 (upd H4 u (.lst [])) := same_new hu
          refine ⟨_, _, .lst (SqL.of (e5 _ _ hI4)) (texts_dp _), .lst (SqL.of upd_same) .nil, strsL_shaped fun x hx => name_strOk (dok x (tw.2 x (List.mem_filter.mp hx).1)), rfl, _, rfl, ?_⟩
          rw [eqv_nil, out_none]
          exact z _ (same_trans e4 e5)
      · -- made.cut(part)
        have e13 := same_trans e2 e3
        have TA3 := TA2.up e3
        obtain ⟨dx, d, pr, rs, cols, ht, _⟩ := id TA3.ex
        refine ⟨_, rfl, t, dx, _, rfl, ht, tab_look.2.2, _, rfl, t, b, n, ds, es, R, rfl, TA3, e3 _ _ hb2, easc, eok, le1, le3, fun o H4 R' e4 TO mem => ?_⟩
        have fasc : Asc (R.filter fun r => decide (∀ x ∈ r, x ∈ es)) := List.Pairwise.sublist List.filter_sublist TA.asc
        have z := tab_due TO fasc fun row => by rw [mem row, List.mem_filter, decide_eq_true_eq]
        subst z
        have e34 := same_trans e3 e4
        refine ⟨_, rfl, _, rfl, _, rfl, o, b, D, n, es, ac, _, rfl, TO, e34 _ _ hb2, e4 _ _ hac, hA.up e4, fun H5 e5 => ⟨true, rfl, iteF ?_⟩⟩
        have TA5 := TA3.up (same_trans e4 e5)
        have hb5 := e5 _ _ (e34 _ _ hb2)
        obtain ⟨dx5, d5, pr5, rs5, cols5, ht5, _⟩ := id TA5.ex
        refine ⟨_, rfl, t, dx5, _, rfl, ht5, tab_look.2.2, _, rfl, _, rfl, t, b, n, ds, es, R, rfl, TA5, hb5, easc, eok, le1, le3, fun o1 H6 R1 e6 TO1 mem1 => ?_⟩
        have TA6 := TA5.up e6
        obtain ⟨dx6, d6, pr6, rs6, cols6, ht6, _⟩ := id TA6.ex
        refine ⟨_, rfl, t, dx6, _, rfl, ht6, tab_look.2.2, _, rfl, t, b, n, ds, es, R, rfl, TA6, e6 _ _ hb5, easc, eok, le1, le3, fun o2 H7 R2 e7 TO2 mem2 => ?_⟩
        have z1 := tab_due TO1 fasc fun row => by rw [mem1 row, List.mem_filter, decide_eq_true_eq]
        have z2 := tab_due TO2 fasc fun row => by rw [mem2 row, List.mem_filter, decide_eq_true_eq]
        subst z1 z2
        have TO17 := TO1.up e7
        obtain ⟨q1, _, _, _, _, x1, _⟩ := id TO17.ex
        obtain ⟨q2, _, _, _, _, x2, _⟩ := id TO2.ex
        refine ⟨o1, q1, _, .ref T.C, rfl, x1, .base (.ins x2 J.cl J.ha J.hn J.htk J.hm), nf, o1, o2, es, n, _, _, rfl, TO17, TO2, _, rfl, _, rfl, ?_⟩
        rw [decide_eq_true rfl]
        refine iteF ?_
        exact ⟨_, _, rfl, same_trans e13 (same_trans e4 (same_trans e5 (same_trans e6 e7)))⟩
    · rintro σ H2 ⟨v4, v5, rfl, e2⟩
      exact q H2 (same_trans e1 e2)
end
end K01
/-! Table.full, Table.product: making by a class held in a local, with a default. -/
namespace K01
open PySem PySem.Spec PyProof.Rows L2 KG KS KA KX
abbrev s_tabFull : Stmt := inCls 15 1
abbrev s_tabProduct : Stmt := inCls 15 2
/-- cls(..), the class in a local -/
def tMakeV (C : Addr) (sp : Sp) (dvs : List V) (E : XK) (tf : TE) (t : TA) : TE := fun σ H Q => tf σ H fun v H0 => v = .ref C ∧ tMake C sp dvs E t σ H0 Q
section
variable {X : Cx} {CX : CXT} {k : Nat} {f C : Addr} {fd : FuncData} {ps : List Str} {sp : Sp} {E : XK} {x : Str} {ds : List Value} {dvs : List V} {p pos : Pos} {e : Expr} {es : List Expr} {tf : TE} {t : TA}
theorem pe_makeV (M : Mk X.K C f) (F : FnOk X.prog X.w X.K X.mg X.base CX k f fd ps sp) (hr : Room (k + 1) X.A) (hc : PE X (.Name x p) tf) (hb : L2.Binds X.K fd ps ds) (hd : Vals dvs ds) (hx : Passes CX X E)
    (ha : PA X (e :: es) t) (he : starEach (e :: es) X.env = (false, eval e X.env) :: starEach es X.env := by rfl) (hpl : (backTo pos (starEach es X.env)).any (·.1) = false := by rfl) :
    PE X (.Call (.Name x p) (e :: es) [] pos) (tMakeV C sp dvs E tf t) := by
  refine ⟨fun pins s σ H Q I h => ?_⟩
  refine wpAny_Call_Name_kw (thn (hc.run pins s σ H _ I h) fun u s0 ⟨v, H0, I0, rv, ev, q0⟩ => ?_)
  subst ev
  obtain rfl : u = Value.ref C := rv
  refine PySem.W.callWith_K (h₀ := X.base) I0.ok.mod.kin M.kp (thn (ha.run pos pins s0 σ H0 _ I0 q0) fun us s1 ⟨vs, H1, I1, r, q⟩ => ⟨I1.kIn, ?_⟩) he hpl
  exact run_make M F hr hb hd hx I1 r q
end
theorem TupAt.up {K : PySem.W.Frag} {H H1 : Hp} {r : Addr} {rs : List V} (h : TupAt K H r rs) (e : Same H H1) : TupAt K H1 r rs := fun H' e' => h H' (same_trans e e')
/-- a table made of rows that stand on the heap, or are written -/
theorem make_tabS {K : PySem.W.Frag} {C : Addr} {H : Hp} {d r : Addr} {ds : List Str} {n : Nat} {rs : List V} {R : List (List Str)} {Q : VK} {E : XK} (hd : H d = some (.tup (ds.map V.str)))
    (dom : AscT ds ∧ (∀ x ∈ ds, nameOk x = true) ∧ 1 ≤ ds.length ∧ ds.length ≤ 3 ∧ 1 ≤ n ∧ n ≤ 3) (hr : TupAt K H r rs) (hR : RowsAt H rs R) (row : ∀ q ∈ R, q.length = n ∧ ∀ x ∈ q, x ∈ ds) (h64 : R.length < 64)
    (q : ∀ (o : Addr) (H' : Hp) (R' : List (List Str)), H o = none → Same H H' → TabAt C H' o ds n R' → (∀ row, row ∈ R' ↔ row ∈ R) → Q (.ref o) H') :
    ∀ x dx, H x = none → H dx = none → dx ≠ x → spTabS K C [.ref x, .ref d, .int (n : Nat), .ref r] (upd (upd H dx (.own x)) x (.ins C dx [])) (fun v H2 => v = .non ∧ Q (.ref x) H2) E := by
  obtain ⟨dasc, dok, d1, d3, n1, n3⟩ := dom
  intro o dx ho hdx nox
  have e5 := same_trans (same_new (o := .own o) hdx) (same_new (o := .ins C dx []) (show upd H dx (.own o) o = none by rw [upd_ne nox.symm]; exact ho))
  refine ⟨o, dx, d, r, n, ds, rs, R, rfl, upd_same, e5 _ _ hd, dok, List.pairwise_map.mpr dasc, d1, d3, n1, n3, hr.up e5, hR.up e5, row, h64, fun H6 pk ks R' cols but hx6 hpk hn hR' mem asc co => ⟨rfl, ?_⟩⟩
  have e6 : Same H H6 := fun b u e => but _ _ (e5 _ _ e) (fun z => by
    rw [z] at e
    rw [e] at ho
    cases ho)
  have row' : ∀ q ∈ R', q.length = n ∧ ∀ x ∈ q, x ∈ ds := fun q hq => row q ((mem q).mp hq)
  refine q o H6 R' ho e6 ⟨⟨dx, d, pk, ks, cols, hx6, e6 _ _ hd, hpk, hR', co⟩, asc, row', ?_, dasc, dok, d1, d3, n1, n3⟩ mem
  rcases Nat.le_total R'.length R.length with h | h
  · omega
  · have := (perm_of_sub R' R (asc_nodup asc) (fun x hx => (mem x).mp hx) h).length_eq
    omega
def spRowsT : Sp := fun vs H Q _ => ∃ (c : Addr) (ds : List Addr) (cols : List (List Str)), vs = [.ref c] ∧ H c = some (.tup (ds.map V.ref)) ∧ RowsAt H (ds.map V.ref) cols ∧ (∀ i, (prods (cols.take i)).length ≤ 100000) ∧ cols.length ≤ 1000 ∧
  ∀ (p : Addr) (rs : List V) (H' : Hp), H p = none → Same H H' → H' p = some (.tup rs) → RowsAt H' rs (prods cols) → Q (.ref p) H'

/-- Table.full(domain, width) -/
def spFull (C : Addr) : Sp := fun vs H Q _ => ∃ (d : Addr) (ds : List Str) (n : Nat), vs = [.ref C, .ref d, .int (n : Nat)] ∧ H d = some (.tup (ds.map V.str)) ∧ DomOk ds n ∧
  ∀ (o : Addr) (H' : Hp), Same H H' → TabAt C H' o ds n (allR n ds) → Q (.ref o) H'
/-- Table.product(domain, column, ..) -/
def spProd (C : Addr) : Sp := fun vs H Q _ => ∃ (d p : Addr) (ds : List Str) (as : List Addr) (cols : List (List Str)), vs = [.ref C, .ref d, .ref p] ∧ H d = some (.tup (ds.map V.str)) ∧ H p = some (.tup (as.map V.ref)) ∧ RowsAt H (as.map V.ref) cols ∧ DomOk ds cols.length ∧
  (∀ c ∈ cols, c.length ≤ 3) ∧ (∀ c ∈ cols, ∀ x ∈ c, x ∈ ds) ∧ ∀ (o : Addr) (H' : Hp) (R' : List (List Str)), Same H H' → TabAt C H' o ds cols.length R' → (∀ row, row ∈ R' ↔ row ∈ prods cols) → Q (.ref o) H'
abbrev spProdV (C : Addr) : Sp := fun vs H Q E => ∃ ws rest, vs = ws ++ rest ∧ ws.length = (["cls", "domain"] : List Str).length ∧ rest.length ≤ sizeLine ∧ ∀ p, H p = Option.none → spProd C (ws ++ [V.ref p]) (upd H p (.tup rest)) Q E
/-- the default `()` -/
structure Nought (K : PySem.W.Frag) (v : V) where
  e : Addr
  at_ : v = .ref e
  tup : ∀ H, TupAt K H e []
section
variable {P : Program} {w : World} {K : PySem.W.Frag} {mg : Str → Option Value} {base : Heap}
theorem ok_all_rowsT (B : Bs mg) (f : FnF K mg "all_rows" "all_rows" s_all_rows) : FnOk P w K mg base CX0 1 f.a f.d ["columns"] spRowsT := by
  refine f.F.ok sc_all_rows (fun vs H Q E h => ?_) (fun cdv A outer s H vs Q E hr h => ?_)
  · obtain ⟨c, ds, cols, rfl, _⟩ := h
    rfl
  · obtain ⟨c, ds, cols, rfl, hc, hcol, few, wide, q⟩ := h
    refine ⟨_, (pss_cons
      (ps_set (i := 1) sc_all_rows.nd rfl (Or.inl rfl) (pe_lst (pa_cons (pe_tup pa_nil) pa_nil)))
    (pss_cons
      (ps_for PassesOwn.never rfl (pi_tup (pv 0)) (pg_name (i := 2) sc_all_rows.nd rfl (Or.inr rfl))
        (pss_one
          (ps_setLc2 (i := 1) (own := [("row", 3), ("item", 4)]) (vs1 := [4]) (g := gName 3) (g1 := gName 4) (by rfl) sc_all_rows.nd rfl rfl (sw_true rfl rfl rfl (by decide +kernel)) (pi_list (pv 1)) (blkOk_by (own := [("row", 3), ("item", 4)]) (N := ["columns", "rows", "column", "row", "item"]) (sc := defScope s_all_rows) (by decide +kernel)) (by decide)
            (fun _ _ _ _ _ => (pg_name (i := 3) sc_all_rows.nd rfl (Or.inl rfl))) (fun _ _ _ _ _ => pts_nil)
            (fun _ _ _ _ _ => (show PI _ _ _ (iTup K (tVar 2)) from pi_tup (pv 2))) (fun _ _ _ _ _ => (pg_name (i := 4) sc_all_rows.nd rfl (Or.inl rfl))) (fun _ _ _ _ _ => pts_nil)
            (fun _ _ _ _ _ => (pe_op (show OpR _ (binaryOp .Add) (rCatA K) from op_catA) (pv 3) (pe_tup (pa_cons (pv 4) pa_nil)))))))
    (pss_one
      (ps_ret (pe_callTy call_tuple_of (by rfl) B.n_tuple (by decide +kernel) (pa_cons (pv 1) pa_nil)))))), ?_⟩
    refine ⟨by show 0 ≤ sizeLine; exact Nat.zero_le _, fun t ht => ⟨by show 1 ≤ sizeLine; decide, fun l hl => ?_⟩⟩
    have e0 : Same H (upd (upd H t (.tup [])) l (.lst [V.ref t])) := same_trans (same_new ht) (same_new hl)
    refine ⟨_, rfl, c, rfl, ⟨_, SqT.of (e0 _ _ hc)⟩, ?_⟩
    refine for_tup (K := K) (a := c) (xs := ds.map V.ref) (fun i σ H' => ∃ (l : Addr) (rs : List V) (v2 : Option V), σ = [some (.ref c), some (.ref l), v2, none, none] ∧ Same H H' ∧ H' l = some (.lst rs) ∧ RowsAt H' rs (prods (cols.take i)))
      ⟨l, _, none, rfl, e0, upd_same, .cons ⟨t, rfl, by rw [upd_ne (ne_of_none upd_same hl), upd_same]; rfl⟩ .nil⟩ (fun i σ H' _ ⟨_, _, _, _, e, _⟩ => SqT.of (e _ _ hc)) ?_ ?_
    · rintro i0 y σ H0 hi ⟨l, rs, v2, rfl, e1, hl1, hR⟩
      obtain ⟨col, hci, d, rfl, hd0⟩ := each_get hcol hi
      generalize hRR : prods (cols.take i0) = R at hR
      have pn := prods_next hci
      rw [hRR] at pn
      have lim := few (i0 + 1)
      rw [pn] at lim
      refine ⟨_, rfl, l, rfl, ⟨_, SqL.of hl1⟩, fun D hD => ?_⟩
      have hDH : H D = none := e1.free hD
      have nDl : D ≠ l := (ne_of_none hl1 hD).symm
      refine lc2_lt (K := K) (a := l) (xs := rs) (fun i j H2 => ∃ acc, Same H0 H2 ∧ H2 D = some (.lst acc) ∧ RowsAt H2 acc (step (R.take i) col ++ (col.take j).map fun c => R.getD i [] ++ [c]))
        ⟨[], same_new hD, upd_same, .nil⟩ (fun i H2 _ ⟨_, e, _⟩ => SqL.of (e _ _ hl1)) ?_ (fun x σ H Q R h q => h _ _ q) (fun x σ H Q R h q => h _ _ q) (fun σ H Q R h ⟨x, e, a, e2, q0, q1⟩ => ⟨x, e, a, e2, q0, h _ _ q1⟩) ?_
      · rintro i x H2 hx ⟨acc, e2, hacc, hA⟩
        obtain ⟨ts, hRi, a, rfl, ha0⟩ := each_get hR hx
        have gd : R.getD i [] = ts := by rw [List.getD_eq_getElem?_getD, hRi]; rfl
        have ha2 := e2 _ _ ha0
        refine ⟨rfl, _, rfl, d, rfl, ⟨_, SqT.of (e2 _ _ (e1 _ _ hd0))⟩, d, col.map V.str, rfl, ⟨acc, e2, hacc, hA⟩, fun j H3 _ ⟨_, e3, _⟩ => SqT.of (e3 _ _ (e1 _ _ hd0)), ?_, ?_⟩
        · rintro j z H3 hz ⟨ac, e3, hac, hB⟩
          rw [List.getElem?_map] at hz
          cases hcj : col[j]? with
          | none =>
            rw [hcj] at hz
            cases hz
          | some cj =>
            rw [hcj] at hz
            obtain rfl : V.str cj = z := Option.some.inj hz
            have jl : j < col.length := (List.getElem?_eq_some_iff.mp hcj).1
            have il : i < R.length := (List.getElem?_eq_some_iff.mp hRi).1
            have lac : ac.length < 100000 := by
              have l1 := hB.length
              rw [List.length_append, List.length_map, List.length_take] at l1
              have l2 := step_prefix (R := R) (col := col) (i + 1)
              rw [step_take hRi, List.length_append, List.length_map] at l2
              omega
            rw [gd] at hB
            have hrow : ∀ {H4 : Hp} {v : V}, Same H3 H4 → (∃ b, v = V.ref b ∧ H4 b = some (.tup ((ts ++ [cj]).map V.str))) → RowsAt H4 (ac ++ [v]) (step (R.take i) col ++ (col.take (j + 1)).map fun c => R.getD i [] ++ [c]) := fun e4 hv => by
              rw [gd, take_next hcj, List.map_append, ← List.append_assoc]
              exact each_snoc (hB.up e4) hv
            have fin : ∀ {H4 : Hp} {v : V}, Same H3 H4 → H4 D = some (.lst ac) → (∃ b, v = V.ref b ∧ H4 b = some (.tup ((ts ++ [cj]).map V.str))) →
                ∃ acc, H4 D = some (.lst acc) ∧ acc.length < sizeLine ∧ ∃ acc', Same H0 (upd H4 D (.lst (acc ++ [v]))) ∧ upd H4 D (.lst (acc ++ [v])) D = some (.lst acc') ∧
                  RowsAt (upd H4 D (.lst (acc ++ [v]))) acc' (step (R.take i) col ++ (col.take (j + 1)).map fun c => R.getD i [] ++ [c]) := fun {H4 v} e4 h4 hv => by
              refine ⟨ac, h4, by rw [sizeLine_eq]; omega, ac ++ [v], same_put hD (same_trans e3 e4), upd_same, ?_⟩
              refine each_and (hrow e4 hv) fun v ts _ ⟨b, e5, e6⟩ => ⟨b, e5, ?_⟩
              rw [upd_ne (ne_of e6 h4 (by intro z; cases z))]
              exact e6
            refine ⟨rfl, _, rfl, _, rfl, by show 1 ≤ sizeLine; decide, fun b hb => ?_⟩
            have e4 : Same H3 (upd H3 b (.tup [V.str cj])) := same_new hb
            refine ⟨a, b, ts.map V.str, [V.str cj], rfl, rfl, SqT.of (e4 _ _ (e3 _ _ ha0)), SqT.of upd_same, ?_, fun z => ?_, fun _ z => (nomatch z), fun _ _ p hp => ?_⟩
            · have rl := rows_len [] [[]] 0 (by simp) (cols.take i0) (List.Sublist.refl _) ts (by rw [show (cols.take i0).foldl step [[]] = R from hRR]; exact List.mem_of_getElem? hRi)
              have tl : (cols.take i0).length ≤ cols.length := (List.take_sublist _ _).length_le
              rw [List.length_map, sizeLine_eq]
              show ts.length + 1 ≤ _
              omega
            · have z2 : ts = [] := List.map_eq_nil_iff.mp z
              exact fin e4 (e4 _ _ hac) ⟨b, rfl, by rw [upd_same, z2]; rfl⟩
            · have e5 := same_trans e4 (same_new (o := .tup (ts.map V.str ++ [V.str cj])) hp)
              exact fin e5 (e5 _ _ hac) ⟨p, rfl, by rw [upd_same, List.map_append]; rfl⟩
        · rintro H3 ⟨ac, e3, hac, hB⟩
          rw [List.length_map, List.take_length, gd, ← step_take hRi] at hB
          exact ⟨ac, e3, hac, by simpa using hB⟩
      · rintro H2 ⟨acc, e2, hacc, hA⟩
        refine ⟨D, acc, _, rfl, same_trans e1 e2, hacc, ?_⟩
        rw [pn]
        rw [hR.length] at hA
        simpa using hA
    · rintro σ H1 ⟨l, rs, v2, rfl, e1, hl1, hR⟩
      refine ⟨_, rfl, l, rs, rfl, .inl ⟨SqL.of hl1, fun p hp => ?_⟩⟩
      have le : cols.length = ds.length := by rw [← hcol.length, List.length_map]
      rw [List.length_map, ← le, List.take_length] at hR
      exact q p rs _ (e1.free hp) (same_trans e1 (same_new hp)) upd_same (hR.up (same_new hp))

theorem sc_tabFull : FnScope ["cls", "domain", "width"] ["cls", "domain", "width"] (defScope s_tabFull) := ⟨rfl, rfl, rfl, by decide +kernel, rfl, by decide +kernel, by decide +kernel⟩
theorem ok_tabFull (B : Bs mg) (ti : MtD K "__init__" "Table.__init__" s_tabInit) (F : TabF K mg) (T : TabC K mg ti.a) (J : C8.InsC K T.C) (Z : Nought K ti.v) (fn : MtF K "__invert__" "Table.__invert__" s_tabNot)
    (ni : PySem.W.findIn K (.ref T.C) "__invert__" = some (some (.ref fn.a))) (nf : PySem.W.isFn K (.ref fn.a) = true) (f : MtF K "full" "Table.full" s_tabFull) : FnOk P w K mg base CX0 7 f.a f.d ["cls", "domain", "width"] (spFull T.C) := by
  have G6 := ok_tabInitS (P := P) (w := w) (base := base) B ti F T
  obtain ⟨dvs, rv, b6⟩ : ∃ ds, Vals [ti.v] ds ∧ L2.Binds K ti.d ["self", "domain", "width", "rows"] ds :=
    ti.F.binds1 (ps := ["self", "domain", "width", "rows"]) 3 0 (by simp) rfl fun _ _ _ _ _ _ _ us its h1 h2 => match us, its, h1, h2 with | [_, _, _], [_], _, _ => ⟨_, rfl, rfl⟩
  have GN := ok_tabNot (P := P) (w := w) (base := base) B ti F T J fn
  have bN : L2.Binds K fn.d ["self"] [] := fn.F.binds fun _ _ _ _ _ _ us hl => match us, hl with | [_], _ => rfl
  refine f.F.ok sc_tabFull (fun vs H Q E h => ?_) (fun cdv A outer s H vs Q E hr h => ?_)
  · obtain ⟨d, ds, n, rfl, _⟩ := h
    rfl
  · obtain ⟨d, ds, n, rfl, hd, dom, q⟩ := h
    have hr5 : Room 5 _ := hr.mono (by omega)
    refine ⟨_, (pss_one
      (ps_ret (pe_un (KO.un_invI ni nf GN bN hr pass0) (pe_makeV T.made G6 hr5 (pv 0) b6 rv pass0 (pa_cons (pv 1) (pa_cons (pv 2) pa_nil)))))), ?_⟩
    refine ⟨_, rfl, rfl, _, rfl, _, rfl, ?_⟩
    rw [Z.at_]
    intro x0 dx0 hx0 hdx0 nx0
    show spTabS K T.C [V.ref x0, V.ref d, V.int (n : Nat), V.ref Z.e] _ (fun v H2 => v = V.non ∧ KO.rUnI T.C (spNot T.C) E0 (V.ref x0) H2 Q) E0
    refine make_tabS (Q := fun v H2 => KO.rUnI T.C (spNot T.C) E0 v H2 Q) hd dom (Z.tup H) .nil (fun _ z => nomatch z) (by show 0 < 64; omega) (fun o H1 R1 ho e1 TO mem => ?_) x0 dx0 hx0 hdx0 nx0
    obtain ⟨dx, _, _, _, _, x1, _⟩ := id TO.ex
    have r0 : R1 = [] := List.eq_nil_iff_forall_not_mem.mpr fun row hm => nomatch (mem row).mp hm
    subst r0
    refine ⟨o, dx, _, rfl, x1, o, ds, n, [], rfl, TO, fun o2 H2 R2 ho2 e2 TO2 mem2 => ?_⟩
    have z : R2 = allR n ds := tab_due TO2 (allR_asc dom.1) fun row => (mem2 row).trans ⟨fun h => h.1, fun h => ⟨h, fun z => nomatch z⟩⟩
    subst z
    exact q o2 H2 (same_trans e1 e2) TO2
theorem sc_tabProduct : FnScope ["cls", "domain", "columns"] ((["cls", "domain"] : List Str) ++ [("columns" : Str)]) (defScope s_tabProduct) := ⟨rfl, rfl, rfl, by decide +kernel, rfl, by decide +kernel, by decide +kernel⟩
theorem ok_tabProduct (B : Bs mg) (ti : MtD K "__init__" "Table.__init__" s_tabInit) (F : TabF K mg) (T : TabC K mg ti.a) (f : MtF K "product" "Table.product" s_tabProduct) : FnR P w K mg base CX0 6 f.a (spProdV T.C) := by
  have G6 := ok_tabInit (P := P) (w := w) (base := base) B ti F T
  have b6 : L2.Binds K ti.d ["self", "domain", "width", "rows"] [] := by
    obtain ⟨ds, r, b⟩ := ti.F.binds1 (ps := ["self", "domain", "width", "rows"]) 4 1 (by simp) rfl fun _ _ _ _ _ _ _ us its h1 h2 => match us, its, h1, h2 with | [_, _, _, _], [_], _, _ => ⟨_, rfl, rfl⟩
    cases (show Vals [] ds from r)
    exact b
  have GA := ok_all_rowsT (P := P) (w := w) (base := base) B F.all
  have bA : L2.Binds K F.all.d ["columns"] [] := F.all.F.binds fun _ _ _ _ _ _ us hl => match us, hl with | [_], _ => rfl
  obtain ⟨oc, od, kV, doc, pm, an, cdv, ct, osl, ed, lk, hcd⟩ := f.F.ex
  rw [ed] at lk
  refine StX.fn_star (ps := (["cls", "domain"] : List Str)) (pv := "columns") (sp := spProd T.C) lk hcd sc_tabProduct StX.cxUp_none (StX.bind_star2 (B := fun us => bindArgs (PySem.W.fnOf "product" "Table.product" (defArgs s_tabProduct) (defBody s_tabProduct) (defScope s_tabProduct) .none kV doc pm an cdv ct) ⟨us, []⟩) (fun _ _ => rfl) (fun _ _ _ _ => rfl)) (fun A outer s H vs Q E hr h => ?_)
  obtain ⟨d, p, ds, as, cols, rfl, hd, hp, hC, dom, c3, cin, q⟩ := h
  have hr5 : Room 5 _ := hr.mono (by omega)
  have hr1 : Room 1 _ := hr.mono (by omega)
  refine ⟨_, (pss_one
      (ps_ret (pe_makeV T.made G6 hr5 (pv 0) b6 .nil pass0 (pa_cons (pv 1) (pa_cons (pe_callB call_len (by rfl) B.n_len (by decide +kernel) (pa_cons (pv 2) pa_nil)) (pa_cons (pe_call GA hr1 rfl F.all.g F.all.F.kp bA .nil pass0 (pa_cons (pv 2) pa_nil)) pa_nil)))))), ?_⟩
  have cl : as.length = cols.length := by
    have z := hC.length
    rw [List.length_map] at z
    exact z
  have n3 := dom.2.2.2.2.2
  have few : (prods cols).length < 64 := by
    have z := prods_few3 cols c3
    have z2 : 3 ^ cols.length ≤ 3 ^ 3 := Nat.pow_le_pow_right (by decide) n3
    omega
  refine ⟨_, rfl, rfl, _, rfl, _, rfl, .ref p, cols.length, rfl, .inr ⟨_, SqT.of hp, by rw [List.length_map, cl]⟩, _, rfl, p, as, cols, rfl, hp, hC, few_of c3 n3, by omega, fun u rs H1 hu e1 hu1 hR => ?_⟩
  exact make_tab (e1 _ _ hd) dom hu1 hR (fun r hr => ⟨prods_row hr, prods_in cin r hr⟩) few fun o H' R' ho e2 TO mem => q o H' R' (same_trans e1 e2) TO mem
end
end K01
/-! A classmethod by two keywords; is of bools; _law_product. -/
namespace K01
open PySem PySem.Spec PyProof.Rows L2 KG KS KA KX
abbrev s__law_product : Stmt := top 32
/-- a def called with one value and two keywords -/
def KwTwo (fd : FuncData) (ps : List Str) (k1 k2 : Str) : Prop := ∀ (s : Shared) (c u v : Value), BindsTo s fd ⟨[c], [(k1, u), (k2, v)]⟩ (ps.zip [c, v, u])
theorem kwTwo {K : PySem.W.Frag} {x qual : Str} {st : Stmt} {f : Addr} {fd : FuncData} {ps : List Str} {k1 k2 : Str} (F : Fun K x qual st f fd)
    (h : ∀ (kV doc pm : Value) (an : Option Addr) (cdv ct : Value) (c u v : Value), bindArgs (PySem.W.fnOf x qual (defArgs st) (defBody st) (defScope st) .none kV doc pm an cdv ct) ⟨[c], [(k1, u), (k2, v)]⟩ = pure (ps.zip [c, v, u])) : KwTwo fd ps k1 k2 := by
  obtain ⟨oc, od, kV, doc, pm, an, cdv, ct, osl, rfl, lk, hcd⟩ := F.ex
  exact fun s c u v => .of_eq (h kV doc pm an cdv ct c u v)
/-- C.m(k1 = a, k2 = b) -/
def tCMeth2 (C : Addr) (sp : Sp) (E : XK) (ta : TE) (tk : TA) : TE := fun σ H Q => ta σ H fun x H1 => x = .ref C ∧ tk σ H1 fun zs H2 => ∃ u v, zs = [u, v] ∧ sp [.ref C, v, u] H2 Q E
section
variable {X : Cx} {CX : CXT} {k : Nat} {C p g : Addr} {mc : Value} {fd : FuncData} {ps : List Str} {sp : Sp} {E : XK} {o : Expr} {kws : List Keyword} {m k1 k2 : Str} {pos apos : Pos} {ta : TE} {tk : TA} {pl : Sem Bool}
theorem vals2 {a b : V} {us : List Value} (h : Vals [a, b] us) : ∃ u v, us = [u, v] ∧ RelV a u ∧ RelV b v := by
  cases h with
  | cons r1 t =>
    cases t with
    | cons r2 t =>
      cases t
      exact ⟨_, _, rfl, r1, r2⟩
theorem pe_cmeth2 (he : PE X o ta) (r : ClX.CRead X.K C mc) (c : ClX.CMet X.K C mc m p g) (F : FnOk X.prog X.w X.K X.mg X.base CX k g fd ps sp) (hr : Room k X.A) (hb : KwTwo fd ps k1 k2) (hx : Passes CX X E) (hkw : PK X kws tk)
    (hall : (backToKw pos (keywordEach kws X.env)).all (·.1.isSome) = true := by rfl) (hks : (backToKw pos (keywordEach kws X.env)).filterMap (·.1) = [k1, k2] := by rfl)
    (hpl : ((backTo pos (starEach [] X.env)).any (·.1) || (backToKw pos (keywordEach kws X.env)).any (·.1.isNone)) = false := by rfl)
    (ht : eval (.Call (.Attribute o m apos) [] kws pos) X.env = (do
      let ov ← eval o X.env
      standAt apos.atName
      let (f, first) ← holding [ov] (getMethod ov m pl)
      callWith pos f first (backTo pos (starEach [] X.env)) (backToKw pos (keywordEach kws X.env))) := by rfl) : PE X (.Call (.Attribute o m apos) [] kws pos) (tCMeth2 C sp E ta tk) := by
  refine ⟨fun pins s σ H Q I h => ?_⟩
  refine PySem.W.methodCall_KW (pl := pl) (thn (he.run pins s σ H _ I h) fun u s1 ⟨x, H1, I1, rx, ex, q⟩ => ?_) ht
  subst ex
  obtain rfl : u = Value.ref C := rx
  refine ClX.getmethcm_ok I1 r c fun s2 I2 => ?_
  refine PySem.W.callWith_of hpl (PySem.W.keeps_M (self := .ref C) c.fi) (PyProof.Rows.evalArgs_kw2_nil hall ?_)
  refine thn (hkw.run pos _ s2 σ H1 _ I2 q) ?_
  rintro ws s3 ⟨zs, H2, I3, rz, a, b, ev, q2⟩
  subst ev
  obtain ⟨u1, u2, eu, r1, r2⟩ := vals2 rz
  subst eu
  refine ⟨⟨ClX.pin_at I3, I3.kIn⟩, ?_⟩
  rw [hks]
  have z : wpAny (model X.prog X.w) X.A (call (.ref s1.heap.objs.size) [] [(k1, u1), (k2, u2)]) (EP X ((s1.heap.objs.size, PySem.W.methodObj (.ref g) (.ref C)) :: pins) σ Q) X.xe s3 := by
    refine wpAny_call (PySem.W.method_call (ClX.pin_at I3) ?_)
    refine codeAny_mono (F.run X.A X.stack s3 H2 ⟨[.ref C], [(k1, u1), (k2, u2)]⟩ [.ref C, u2, u1] [.ref C, b, a] Q E hr I3.env0 (hb _ _ _ _) (.cons rfl (.cons r2 (.cons r1 .nil))) q2) ?_
    rintro (er | fl) s' z
    · exact hx _ σ H2 s3 er s' I3 z
    · cases fl with
      | ret u => exact I3.after z
      | next => exact z.elim
      | brk => exact z.elim
      | cont => exact z.elim
  exact thn z fun _ _ y => ClX.unpinE y
theorem op_isB : OpR X (compareOp .Is) (fun x y H Q => ∃ a b, x = .bl a ∧ y = .bl b ∧ Q (.bl (decide (a = b))) H) := by
  intro pins s σ H x y v u Q I rx ry h
  obtain ⟨a, b, rfl, rfl, q⟩ := h
  cases (show v = Value.bool a from rx)
  cases (show u = Value.bool b from ry)
  exact wpAny_is_plain rfl (fin_bl I q (by cases a <;> cases b <;> rfl))
end
/-- a classmethod of a class -/
structure MtC (K : PySem.W.Frag) (C : Addr) (mc : Value) (m qual : Str) (st : Stmt) where
  f : MtF K m qual st
  p : Addr
  M : ClX.CMet K C mc m p f.a
/-- _law_product(words, columns) -/
def spLawProd (C : Addr) : Sp := fun vs H Q _ => ∃ (d p : Addr) (ds : List Str) (as : List Addr) (cols : List (List Str)), vs = [.ref d, .ref p] ∧ H d = some (.tup (ds.map V.str)) ∧ H p = some (.lst (as.map V.ref)) ∧ RowsAt H (as.map V.ref) cols ∧ DomOk ds cols.length ∧
  (∀ c ∈ cols, c.length ≤ 3) ∧ (∀ c ∈ cols, ∀ x ∈ c, x ∈ ds) ∧ ∀ (o : Addr) (H' : Hp) (R' : List (List Str)), Same H H' → TabAt C H' o ds cols.length R' → (∀ row, row ∈ R' ↔ row ∈ prods cols) → Q (.ref o) H'
section
variable {P : Program} {w : World} {K : PySem.W.Frag} {mg : Str → Option Value} {base : Heap}
theorem sc__law_product : FnScope ["_law_words_here", "_law_columns"] ["_law_words_here", "_law_columns"] (defScope s__law_product) := ⟨rfl, rfl, rfl, by decide +kernel, rfl, by decide +kernel, by decide +kernel⟩
theorem ok__law_product {mc : Value} (B : Bs mg) (ti : MtD K "__init__" "Table.__init__" s_tabInit) (F : TabF K mg) (T : TabC K mg ti.a) (r : ClX.CRead K T.C mc) (pm : MtC K T.C mc "product" "Table.product" s_tabProduct) (f : FnF K mg "_law_product" "_law_product" s__law_product) :
    FnOk P w K mg base CX0 7 f.a f.d ["_law_words_here", "_law_columns"] (spLawProd T.C) := by
  have G := ok_tabProduct (P := P) (w := w) (base := base) B ti F T pm.f
  refine f.F.ok sc__law_product (fun vs H Q E h => ?_) (fun cdv A outer s H vs Q E hr h => ?_)
  · obtain ⟨d, p, ds, as, cols, rfl, _⟩ := h
    rfl
  · obtain ⟨d, p, ds, as, cols, rfl, hd, hp, hC, dom, c3, cin, q⟩ := h
    refine ⟨_, (pss_cons
      (ps_if (pt_cmpR op_eq (pe_callB call_len (by rfl) B.n_len (by decide +kernel) (pa_cons (pv 1) pa_nil)) pe_int (nomark _))
        (pss_one
          (ps_ret (ClX.pe_cmeth (pe_glob (v := .ref T.C) rfl T.g rfl) r pm.M G hr pass0 (pa_cons (pv 0) (pa_cons (pe_ix ix_list (pv 1) pe_int (fun _ _ => rfl)) pa_nil)))))
        pss_nil)
    (pss_cons
      (ps_if (pt_cmpR op_eq (pe_callB call_len (by rfl) B.n_len (by decide +kernel) (pa_cons (pv 1) pa_nil)) pe_int (nomark _))
        (pss_one
          (ps_ret (ClX.pe_cmeth (pe_glob (v := .ref T.C) rfl T.g rfl) r pm.M G hr pass0 (pa_cons (pv 0) (pa_cons (pe_ix ix_list (pv 1) pe_int (fun _ _ => rfl)) (pa_cons (pe_ix ix_list (pv 1) pe_int (fun _ _ => rfl)) pa_nil))))))
        pss_nil)
    (pss_one
      (ps_ret (ClX.pe_cmeth (pe_glob (v := .ref T.C) rfl T.g rfl) r pm.M G hr pass0 (pa_cons (pv 0) (pa_cons (pe_ix ix_list (pv 1) pe_int (fun _ _ => rfl)) (pa_cons (pe_ix ix_list (pv 1) pe_int (fun _ _ => rfl)) (pa_cons (pe_ix ix_list (pv 1) pe_int (fun _ _ => rfl)) pa_nil))))))))), ?_⟩
    have cl : as.length = cols.length := by
      have z := hC.length
      rw [List.length_map] at z
      exact z
    have at_ : ∀ {j : Nat} {pl : Addr}, as[j]? = some pl → atI (as.map V.ref) (j : Int) = some (V.ref pl) := fun {j pl} h => atI_nat (by rw [List.getElem?_map, h]; rfl)
    have fin : ∀ (rest : List V), rest = as.map V.ref → spProdV T.C ([.ref T.C, .ref d] ++ rest) H Q E0 := fun rest er => by
      subst er
      refine ⟨[.ref T.C, .ref d], _, rfl, rfl, by rw [List.length_map, sizeLine_eq]; have := dom.2.2.2.2.2; omega, fun g hg => ?_⟩
      have e : Same H (upd H g (.tup (as.map V.ref))) := same_new hg
      exact ⟨d, g, ds, as, cols, rfl, e _ _ hd, upd_same, hC.up e, dom, c3, cin, fun o H' R' e2 => q o H' R' (same_trans e e2)⟩
    have n1 := dom.2.2.2.2.1
    have n3 := dom.2.2.2.2.2
    refine ⟨_, rfl, .ref p, as.length, rfl, .inl ⟨_, SqL.of hp, by rw [List.length_map]⟩, rfl, _, rfl, ite2 (fun c => ?_) fun c1 => ?_⟩
    · have l : as.length = 1 := wayIs c
      obtain ⟨x, rfl⟩ : ∃ x, as = [x] := by
        match as, l with
        | [x], _ => exact ⟨x, rfl⟩
      exact ⟨rfl, _, rfl, _, rfl, p, _, 0, _, rfl, rfl, SqL.of hp, at_ (j := 0) rfl, fin [V.ref x] rfl⟩
    refine ⟨_, rfl, .ref p, as.length, rfl, .inl ⟨_, SqL.of hp, by rw [List.length_map]⟩, rfl, _, rfl, ite2 (fun c => ?_) fun c2 => ?_⟩
    · have l : as.length = 2 := wayIs c
      obtain ⟨x, y, rfl⟩ : ∃ x y, as = [x, y] := by
        match as, l with
        | [x, y], _ => exact ⟨x, y, rfl⟩
      exact ⟨rfl, _, rfl, _, rfl, p, _, 0, _, rfl, rfl, SqL.of hp, at_ (j := 0) rfl, _, rfl, p, _, 1, _, rfl, rfl, SqL.of hp, at_ (j := 1) rfl, fin [V.ref x, V.ref y] rfl⟩
    have m1 : as.length ≠ 1 := wayNot c1
    have m2 : as.length ≠ 2 := wayNot c2
    have l : as.length = 3 := by omega
    obtain ⟨x, y, z, rfl⟩ : ∃ x y z, as = [x, y, z] := by
      match as, l with
      | [x, y, z], _ => exact ⟨x, y, z, rfl⟩
    exact ⟨rfl, _, rfl, _, rfl, p, _, 0, _, rfl, rfl, SqL.of hp, at_ (j := 0) rfl, _, rfl, p, _, 1, _, rfl, rfl, SqL.of hp, at_ (j := 1) rfl, _, rfl, p, _, 2, _, rfl, rfl, SqL.of hp, at_ (j := 2) rfl, fin [V.ref x, V.ref y, V.ref z] rfl⟩
end
end K01
/-! _law_made_right. -/
namespace K01
open PySem PySem.Spec PyProof.Rows L2 KG KS KA KX
abbrev s__law_made_right : Stmt := top 33
theorem fold_pre : ∀ (cols R : List (List Str)) (r : List Str), r ∈ cols.foldl step R → ∃ q ∈ R, q <+: r
  | [], R, r, h => ⟨r, h, List.prefix_refl r⟩
  | c :: cols, R, r, h => by
    obtain ⟨q, hq, p⟩ := fold_pre cols (step R c) r h
    obtain ⟨q0, h0, h1⟩ := List.mem_flatMap.mp hq
    obtain ⟨y, _, rfl⟩ := List.mem_map.mp h1
    exact ⟨q0, h0, (List.prefix_append q0 [y]).trans p⟩
theorem fold_at : ∀ (cols R : List (List Str)) (k : Nat), (∀ r ∈ R, r.length = k) → ∀ r ∈ cols.foldl step R, ∀ (i : Nat) c x, cols[i]? = some c → r[k + i]? = some x → x ∈ c
  | [], _, _, _, _, _, i, c, x, h, _ => nomatch h
  | c0 :: cols, R, k, hk, r, hr, 0, c, x, h, hx => by
    cases h
    obtain ⟨q, hq, p⟩ := fold_pre cols (step R c0) r hr
    obtain ⟨q0, h0, h1⟩ := List.mem_flatMap.mp hq
    obtain ⟨y, hy, rfl⟩ := List.mem_map.mp h1
    obtain ⟨t, rfl⟩ := p
    have l0 := hk q0 h0
    rw [Nat.add_zero, List.append_assoc, List.getElem?_append_right (by omega), l0, Nat.sub_self] at hx
    cases hx
    exact hy
  | c0 :: cols, R, k, hk, r, hr, i + 1, c, x, h, hx => by
    refine fold_at cols (step R c0) (k + 1) (fun q hq => ?_) r hr i c x h (by rw [← hx]; congr 1; omega)
    obtain ⟨q0, h0, h1⟩ := List.mem_flatMap.mp hq
    obtain ⟨y, _, rfl⟩ := List.mem_map.mp h1
    rw [List.length_append, hk q0 h0]
    rfl
theorem prods_iff {cols : List (List Str)} {r : List Str} : r ∈ prods cols ↔ r.length = cols.length ∧ ∀ (i : Nat) c x, cols[i]? = some c → r[i]? = some x → x ∈ c :=
  ⟨fun h => ⟨prods_row h, fun i c x h1 h2 => fold_at cols [[]] 0 (by simp) r h i c x h1 (by rw [Nat.zero_add]; exact h2)⟩, fun h => mem_prods h.1 h.2⟩
theorem each_get2 {α β : Type} {R : α → β → Prop} : ∀ {as : List α} {bs : List β}, W.EachIs R as bs → ∀ {i : Nat} {y : β}, bs[i]? = some y → ∃ x, as[i]? = some x ∧ R x y
  | _, _, .nil, _, _, e => nomatch e
  | _, _, .cons r t, 0, y, e => by
    cases e
    exact ⟨_, rfl, r⟩
  | _, _, .cons r t, i + 1, y, e => each_get2 t e
theorem prods_perm {A B : List (List Str)} (h : W.EachIs (fun a b => a.Perm b) A B) (r : List Str) : r ∈ prods A ↔ r ∈ prods B := by
  rw [prods_iff, prods_iff, h.length]
  refine and_congr_right fun _ => ⟨fun k i c x h1 h2 => ?_, fun k i c x h1 h2 => ?_⟩
  · obtain ⟨a, ha, pm⟩ := each_get2 h h1
    exact pm.mem_iff.mp (k i a x ha h2)
  · obtain ⟨b, hb, pm⟩ := each_get h h1
    exact pm.mem_iff.mpr (k i b x hb h2)
/-- a product's rows are those of its columns -/
theorem prod_self {cols c2 : List (List Str)} {n : Nat} (asc : ∀ c ∈ cols, AscT c) (len : cols.length = n) (h : ColsOf (prods cols) n c2) : prods cols = prods c2 := by
  have l : ∀ r ∈ prods cols, r.length = n := fun r hr => by rw [prods_row hr, len]
  refine asc_eq (prods_asc0 asc) (cols_asc h) ((List.perm_ext_iff_of_nodup (asc_nodup (prods_asc0 asc)) (asc_nodup (cols_asc h))).mpr fun r => ⟨cols_sub h l r, fun hr => ?_⟩)
  obtain ⟨h1, h2⟩ := prods_iff.mp hr
  refine prods_iff.mpr ⟨by rw [h1, h.1, len], fun i c x e1 e2 => ?_⟩
  have il : i < c2.length := by
    have z := (List.getElem?_eq_some_iff.mp e1).1
    rw [h.1, ← len]
    exact z
  have e3 := List.getElem?_eq_getElem il
  obtain ⟨row, hrow, e4⟩ := ((h.2 i _ e3).2 x).mp (h2 i _ x e3 e2)
  exact (prods_iff.mp hrow).2 i c x e1 e4
theorem join_if {c : Bool} {I Z : Hp → Prop} {p : Prop} {H : Hp} (rest : ∀ H2, I H2 → Z H2) (hq : I H) (hp : (∀ H2, I H2 → Z H2) → p) : if c = true then p else Z H := by
  cases c with
  | true => exact hp rest
  | false => exact rest H hq
theorem mem_set {α : Type} {l : List α} {i : Nat} {a x : α} (h : x ∈ l.set i a) : x ∈ l ∨ x = a := by
  rcases List.mem_or_eq_of_mem_set h with h | h
  · exact .inl h
  · exact .inr h
theorem each_set {α β : Type} {R : α → β → Prop} {x : α} {y : β} : ∀ {as : List α} {bs : List β}, W.EachIs R as bs → R x y → ∀ j, W.EachIs R (as.set j x) (bs.set j y)
  | _, _, .nil, _, _ => .nil
  | _, _, .cons r t, h, 0 => .cons h t
  | _, _, .cons r t, h, j + 1 => .cons r (each_set t h j)
/-- _law_made_right(deck, words, size) -/
def spMadeR : Sp := fun vs H Q _ => ∃ (d l wd : Addr) (ds : List Str) (n k : Nat), vs = [.ref d, .ref wd, .int (n : Nat)] ∧ DeckAt H d l k ∧ k + 40 < 1000000000 ∧ H wd = some (.tup (ds.map V.str)) ∧ DomOk ds n ∧
  ∀ H', DeckAt H' d l (k + 40) → Off d l H H' → Q (.bl true) H'
section
variable {P : Program} {w : World} {K : PySem.W.Frag} {mg : Str → Option Value} {base : Heap}
theorem sc__law_made_right : FnScope ["_law_deck_here", "_law_words_here", "_law_size", "_law_columns", "_law_made", "_law_k", "_law_word", "_law_column"] ["_law_deck_here", "_law_words_here", "_law_size"] (defScope s__law_made_right) := ⟨rfl, rfl, rfl, by decide +kernel, rfl, by decide +kernel, by decide +kernel⟩
theorem ok__law_made_right {mc : Value} (B : Bs mg) (ti : MtD K "__init__" "Table.__init__" s_tabInit) (F : TabF K mg) (T : TabC K mg ti.a) (J : C8.InsC K T.C) (Z : Nought K ti.v) (fn : MtF K "__invert__" "Table.__invert__" s_tabNot)
    (ni : PySem.W.findIn K (.ref T.C) "__invert__" = some (some (.ref fn.a))) (nf : PySem.W.isFn K (.ref fn.a) = true) (r : ClX.CRead K T.C mc) (fm : MtC K T.C mc "full" "Table.full" s_tabFull) (kw : KwTwo fm.f.d ["cls", "domain", "width"] "width" "domain")
    (pm : MtC K T.C mc "product" "Table.product" s_tabProduct) (fp : FnF K mg "_law_product" "_law_product" s__law_product) (fx : FnF K mg "_law_mixed" "_law_mixed" s__law_mixed) (fd : FnF K mg "_law_draw" "_law_draw" s__law_draw)
    (fr : FnF K mg "_law_rows_of" "_law_rows_of" s__law_rows_of) (fi : FnF K mg "_law_is" "_law_is" s__law_is) (f : FnF K mg "_law_made_right" "_law_made_right" s__law_made_right) :
    FnG P w K mg base CX0 8 f.a f.d ["_law_deck_here", "_law_words_here", "_law_size"] spMadeR := by
  have GF := ok_tabFull (P := P) (w := w) (base := base) B ti F T J Z fn ni nf fm.f
  have bF : L2.Binds K fm.f.d ["cls", "domain", "width"] [] := fm.f.F.binds fun _ _ _ _ _ _ us hl => match us, hl with | [_, _, _], _ => rfl
  have GP := ok__law_product (P := P) (w := w) (base := base) B ti F T r pm fp
  have bP : L2.Binds K fp.d ["_law_words_here", "_law_columns"] [] := fp.F.binds fun _ _ _ _ _ _ us hl => match us, hl with | [_, _], _ => rfl
  have GM := ok__law_mixed (P := P) (w := w) (base := base) B fx fd
  have bM : L2.Binds K fx.d ["_law_deck_here", "_law_items"] [] := fx.F.binds fun _ _ _ _ _ _ us hl => match us, hl with | [_, _], _ => rfl
  have GD := ok__law_draw (P := P) (w := w) (base := base) B.toBi fd
  have bD : L2.Binds K fd.d ["_law_deck_here", "_law_many"] [] := fd.F.binds fun _ _ _ _ _ _ us hl => match us, hl with | [_, _], _ => rfl
  have GR := ok__law_rows_of (P := P) (w := w) (base := base) B fr
  have bR : L2.Binds K fr.d ["_law_columns"] [] := fr.F.binds fun _ _ _ _ _ _ us hl => match us, hl with | [_], _ => rfl
  have GI := ok__law_is (P := P) (w := w) (base := base) B T J fi fr
  have bI : L2.Binds K fi.d ["_law_made", "_law_words_here", "_law_size", "_law_lines_here"] [] := fi.F.binds fun _ _ _ _ _ _ us hl => match us, hl with | [_, _, _, _], _ => rfl
  refine okN f.F sc__law_made_right (fun vs H Q E h => ?_) (fun cdv A outer s H vs Q E hgu hr h => ?_)
  · obtain ⟨d, l, wd, ds, n, k, rfl, _⟩ := h
    rfl
  · obtain ⟨d, l, wd, ds, n, k, rfl, D, hk, hwd, dom, q⟩ := h
    have hu64 := hr.units
    have hr1 : Room 1 _ := hr.mono (by omega)
    have hr2 : Room 2 _ := hr.mono (by omega)
    refine ⟨_, (pss_cons
      (ps_if (pt_not (pt_val (pe_callG GI hgu hr2 rfl fi.g fi.F.kp bI .nil pass0 (pa_cons (ClX.pe_cmeth (pe_glob (v := .ref T.C) rfl T.g rfl) r fm.M (GF.raw bF .nil) hr pass0 (pa_cons (pv 1) (pa_cons (pv 2) pa_nil))) (pa_cons (pv 1) (pa_cons (pv 2) (pa_cons (pe_call GR hr1 rfl fr.g fr.F.kp bR .nil pass0 (pa_cons (pe_op op_rep (pe_lst (pa_cons (pv 1) pa_nil)) (pv 2)) pa_nil)) pa_nil)))))))
        (pss_one
          (ps_ret pe_bl))
        pss_nil)
    (pss_cons
      (ps_if (pt_not (pt_val (pe_fld (pe_cmeth2 (pe_glob (v := .ref T.C) rfl T.g rfl) r fm.M GF hr kw pass0 (pk_cons (pv 2) (pk_cons (pv 1) pk_nil))) rfl)))
        (pss_one
          (ps_ret pe_bl))
        pss_nil)
    (pss_cons
      (ps_setLc (i := 3) (own := [("_law_k", 5)]) (g := gName 5) (by rfl) sc__law_made_right.nd rfl rfl (sw_true rfl rfl rfl (by decide +kernel)) (pi_range1 rfl B.n_range (pa_cons (pv 2) pa_nil)) (blkOk_by (own := [("_law_k", 5)]) (N := ["_law_deck_here", "_law_words_here", "_law_size", "_law_columns", "_law_made", "_law_k", "_law_word", "_law_column"]) (sc := defScope s__law_made_right) (by decide +kernel)) (fun _ _ _ _ _ => (pg_name (i := 5) sc__law_made_right.nd rfl (Or.inl rfl))) (fun _ _ _ _ _ => pts_nil)
        (fun _ _ _ _ _ => (pe_callTy (show CallR _ (.type "tuple") (rTupOfW K) from call_tuple_of) (by rfl) B.n_tuple (by decide +kernel) (pa_cons (pe_lc (own := [("_law_word", 6)]) (g := gName 6) (by rfl) sc__law_made_right.nd (show PI _ _ _ (iTup K (tVar 1)) from pi_tup (pv 1)) (blkOk_by (own := [("_law_word", 6)]) (N := ["_law_deck_here", "_law_words_here", "_law_size", "_law_columns", "_law_made", "_law_k", "_law_word", "_law_column"]) (by kernel_rfl)) (fun _ _ _ _ _ => (pg_name (i := 6) sc__law_made_right.nd rfl (Or.inl rfl)))
          (fun _ _ _ _ _ => (pts_one (pt_cmpR op_gt (pe_call GD hr1 (by rfl) fd.g fd.F.kp bD .nil pass0 (pa_cons (pv 0) (pa_cons pe_int pa_nil))) pe_int (nomark _)))) (fun _ _ _ _ _ => (pv 6))) pa_nil))))
    (pss_cons
      (ps_if (pt_cmpR op_eq (pe_call GD hr1 rfl fd.g fd.F.kp bD .nil pass0 (pa_cons (pv 0) (pa_cons pe_int pa_nil))) pe_int (nomark _))
        (pss_one
          (ps_asg (pe_tup pa_nil) (pg_sub (pv 3) (pe_call GD hr1 rfl fd.g fd.F.kp bD .nil pass0 (pa_cons (pv 0) (pa_cons (pv 2) pa_nil))) set_list)))
        pss_nil)
    (pss_cons
      (ps_set (i := 4) sc__law_made_right.nd rfl (Or.inl rfl) (pe_call GP hr rfl fp.g fp.F.kp bP .nil pass0 (pa_cons (pv 1) (pa_cons (pe_lc (own := [("_law_column", 7)]) (g := gName 7) (by rfl) sc__law_made_right.nd (pi_list (pv 3)) (blkOk_by (own := [("_law_column", 7)]) (N := ["_law_deck_here", "_law_words_here", "_law_size", "_law_columns", "_law_made", "_law_k", "_law_word", "_law_column"]) (sc := defScope s__law_made_right) (by decide +kernel)) (fun _ _ _ _ _ => (pg_name (i := 7) sc__law_made_right.nd rfl (Or.inl rfl))) (fun _ _ _ _ _ => pts_nil)
        (fun _ _ _ _ _ => (pe_call GM hr2 (by rfl) fx.g fx.F.kp bM .nil pass0 (pa_cons (pv 0) (pa_cons (pv 7) pa_nil))))) pa_nil))))
    (pss_one
      (ps_ret (pe_and (pe_callG GI hgu hr2 rfl fi.g fi.F.kp bI .nil pass0 (pa_cons (pv 4) (pa_cons (pv 1) (pa_cons (pv 2) (pa_cons (pe_call GR hr1 rfl fr.g fr.F.kp bR .nil pass0 (pa_cons (pv 3) pa_nil)) pa_nil))))) (pe_one (pe_cmpR op_isB (pe_fld (pv 4) rfl) pe_bl (nomark _))))))))))), ?_⟩
    obtain ⟨dasc, dok, d1, d3, n1, n3⟩ := id dom
    -- full
    refine ⟨rfl, _, rfl, _, rfl, wd, ds, n, rfl, hwd, dom, fun o H1 e1 TO => ?_⟩
    have hwd1 := e1 _ _ hwd
    refine ⟨_, rfl, _, rfl, _, rfl, by show 1 ≤ sizeLine; decide, fun u hu => ⟨_, rfl, u, (n : Nat), [V.ref wd], rfl, rfl, upd_same, by omega, by omega, (by rw [sizeLine_eq]; show 1 * _ ≤ _; omega), fun v hv => ?_⟩⟩
    have e2 : Same H1 (upd (upd H1 u (.lst [V.ref wd])) v (.lst (List.replicate (n : Int).toNat [V.ref wd]).flatten)) := same_trans (same_new hu) (same_new hv)
    have hv2 : upd (upd H1 u (.lst [V.ref wd])) v (.lst (List.replicate (n : Int).toNat [V.ref wd]).flatten) v = some (.lst (List.replicate n (V.ref wd))) := by
      rw [upd_same, flat_rep]
      rfl
    generalize upd (upd H1 u (.lst [V.ref wd])) v (.lst (List.replicate (n : Int).toNat [V.ref wd]).flatten) = H2 at e2 hv2 ⊢
    have rep : RowsAt H2 (List.replicate n (V.ref wd)) (List.replicate n ds) := by
      have key : ∀ k, RowsAt H2 (List.replicate k (V.ref wd)) (List.replicate k ds) := fun k => by
        induction k with
        | zero => exact .nil
        | succ k ih => exact .cons ⟨wd, rfl, e2 _ _ hwd1⟩ ih
      exact key n
    refine ⟨v, _, List.replicate n ds, rfl, hv2, rep, fun c hc => by rw [List.eq_of_mem_replicate hc]; exact d3, by rw [List.length_replicate]; exact n3, fun ev es H3 hev e3 hev3 hE => ?_⟩
    refine ⟨o, wd, ev, n, ds, es, allR n ds, rfl, TO.up (same_trans e2 e3), e3 _ _ (e2 _ _ hwd1), hev3, hE, fun H4 e4 => ⟨true, rfl, iteF ?_⟩⟩
    have e04 : Same H H4 := same_trans e1 (same_trans e2 (same_trans e3 e4))
    clear hev3 hE rep hv2 hev TO hwd1 hu hv
    -- full, by name
    refine ⟨rfl, _, rfl, _, rfl, _, _, rfl, wd, ds, n, rfl, e04 _ _ hwd, dom, fun o5 H5 e5 TO5 => ?_⟩
    obtain ⟨dx5, d5, p5, rs5, cols5, x5, _⟩ := id TO5.ex
    refine ⟨o5, T.C, dx5, _, _, rfl, x5, T.cl, T.nf, rfl, _, rfl, ?_⟩
    rw [decide_eq_true rfl]
    refine iteF ?_
    have e05 := same_trans e04 e5
    have D5 := D.same e05
    have hwd5 := e05 _ _ hwd
    clear x5 TO5 e5 e04 e4 e3 e2 e1
    -- columns
    refine ⟨_, rfl, (n : Nat), rfl, by omega, by omega, fun C hC => ?_⟩
    have hCl := D5.ne hC
    have hCH : H C = none := e05.free hC
    refine lc_range (lo := 0) (n := ((n : Nat) : Int).toNat) (fun i H' => ∃ (as : List Addr) (cols : List (List Str)), Off d l H5 H' ∧ DeckAt H' d l (k + 3 * i) ∧ H' C = some (.lst (as.map V.ref)) ∧ RowsAt H' (as.map V.ref) cols ∧ cols.length = i ∧ ∀ c ∈ cols, c.Sublist ds)
      ⟨[], [], Off.of (same_new hC), D5.same (same_new hC), upd_same, .nil, rfl, fun _ z => (nomatch z)⟩ ?_ ?_
    · rintro i H6 hi ⟨as, cols, o6, D6, hC6, hA, len, sub⟩
      have hi2 : i < n := by simpa using hi
      have hwd6 := tup_off hwd5 D5 o6
      refine ⟨rfl, _, rfl, wd, rfl, ⟨_, SqT.of hwd6⟩, fun I hI => ?_⟩
      have hIl := D6.ne hI
      refine lc_tup (K := K) (xs := ds.map V.str) (fun j H' => ∃ (c : List Str), Off d l H6 H' ∧ DeckAt H' d l (k + 3 * i + j) ∧ H' I = some (.lst (c.map V.str)) ∧ c.Sublist (ds.take j)) ⟨[], Off.of (same_new hI), D6.same (same_new hI), upd_same, List.nil_sublist _⟩
        (fun j H' _ ⟨_, o, _⟩ => SqT.of (tup_off hwd6 D6 o)) ?_ ?_
      · rintro j z H7 hz ⟨c, o7, D7, hI7, sb⟩
        rw [List.getElem?_map] at hz
        cases hx : ds[j]? with
        | none =>
          rw [hx] at hz
          cases hz
        | some x =>
          rw [hx] at hz
          obtain rfl : V.str x = z := Option.some.inj hz
          have jl : j < ds.length := (List.getElem?_eq_some_iff.mp hx).1
          refine ⟨rfl, _, rfl, d, l, 4, k + 3 * i + j, rfl, D7, by decide, by decide, by omega, fun m H8 m0 m1 D8 o8 => ⟨_, _, rfl, rfl, _, rfl, ?_⟩⟩
          have hI8 := lst_off hI7 hIl.2 D7 o8
          have sl := sb.length_le
          rw [List.length_take] at sl
          cases (decide (m > 0)) with
          | false => exact ⟨c, o7.trans o8, D8, hI8, sub_skip sb⟩
          | true =>
            refine ⟨_, rfl, _, hI8, by rw [List.length_map, sizeLine_eq]; omega, c ++ [x], (o7.trans o8).put hI, D8.put hIl, by rw [upd_same, List.map_append]; rfl, sub_more sb hx⟩
      · rintro H7 ⟨c, o7, D7, hI7, sb⟩
        rw [List.length_map] at D7
        rw [List.length_map, List.take_length] at sb
        refine ⟨I, c.map V.str, rfl, .inl ⟨SqL.of hI7, fun u hu => ?_⟩⟩
        have e8 : Same H7 (upd H7 u (.tup (c.map V.str))) := same_new hu
        have hC7 := lst_off hC6 hCl.2 D6 o7
        have hC8 := e8 _ _ hC7
        have la := hA.length
        refine ⟨as.map V.ref, hC8, by rw [sizeLine_eq]; omega, as ++ [u], cols ++ [c], (o6.trans (o7.trans (Off.of e8))).put hC, ((D7.same e8).up (k := k + 3 * (i + 1)) (by omega)).put hCl, by rw [upd_same, List.map_append]; rfl, ?_, by rw [List.length_append, len]; rfl, fun x hx => ?_⟩
        · rw [List.map_append]
          refine each_and (each_snoc ((hA.off D6 o7).up e8) ⟨u, rfl, upd_same⟩) fun v ts _ ⟨b, e9, e10⟩ => ⟨b, e9, ?_⟩
          rw [upd_ne (ne_of e10 hC8 (by intro z; cases z))]
          exact e10
        · rcases List.mem_append.mp hx with h | h
          · exact sub x h
          · rw [List.mem_singleton.mp h]
            exact sb
    · rintro H6 ⟨as, cols, o6, D6, hC6, hA, len, sub⟩
      have len : cols.length = n := by simpa using len
      have D6 : DeckAt H6 d l (k + 9) := D6.up (by simp; omega)
      have la : as.length = n := by
        have z := hA.length
        rw [List.length_map] at z
        omega
      have oH6 : Off d l H H6 := (Off.of e05).trans o6
      -- if draw(5) == 0
      refine ⟨_, rfl, d, l, 5, k + 9, rfl, D6, by decide, by decide, by omega, fun m H7 m0 m1 D7 o7 => ⟨rfl, _, rfl, ?_⟩⟩
      refine join_if (I := fun H' => ∃ (as : List Addr) (cols : List (List Str)), Off d l H H' ∧ DeckAt H' d l (k + 11) ∧ H' C = some (.lst (as.map V.ref)) ∧ RowsAt H' (as.map V.ref) cols ∧ cols.length = n ∧ (∀ c ∈ cols, AscT c) ∧ (∀ c ∈ cols, c.length ≤ 3) ∧ ∀ c ∈ cols, ∀ x ∈ c, x ∈ ds)
        (fun H8 h8 => ?_) ⟨as, cols, oH6.trans o7, D7.up (by omega), lst_off hC6 hCl.2 D6 o7, hA.off D6 o7, len, fun c hc => List.Pairwise.sublist (sub c hc) dasc, fun c hc => Nat.le_trans (sub c hc).length_le d3, fun c hc x hx => (sub c hc).subset hx⟩ fun rest => ?_
      · obtain ⟨as, cols, o8, D8, hC8, hA8, len, casc, c3, cin⟩ := h8
        have hwd8 := tup_off hwd D o8
        -- made
        refine ⟨_, rfl, _, rfl, C, rfl, ⟨_, SqL.of hC8⟩, fun M hM => ?_⟩
        have hMl := D8.ne hM
        refine lc_list (K := K) (xs := as.map V.ref) (fun i H' => ∃ (bs : List Addr) (cols' : List (List Str)), Off d l H8 H' ∧ DeckAt H' d l (k + 11 + 3 * i) ∧ H' M = some (.lst (bs.map V.ref)) ∧ RowsAt H' (bs.map V.ref) cols' ∧ W.EachIs (fun a b => a.Perm b) cols' (cols.take i))
          ⟨[], [], Off.of (same_new hM), D8.same (same_new hM), upd_same, .nil, .nil⟩ (fun i H' _ ⟨_, _, o, _⟩ => SqL.of (lst_off hC8 hCl.2 D8 o)) ?_ ?_
        · rintro i y H9 hi ⟨bs, cols', o9, D9, hM9, hB, pe⟩
          obtain ⟨c, hci, a, rfl, ha⟩ := each_get (hA8.off D8 o9) hi
          have il : i < cols.length := (List.getElem?_eq_some_iff.mp hci).1
          have lc := c3 c (List.mem_of_getElem? hci)
          have lb := hB.length
          have lp := pe.length
          rw [List.length_take] at lp
          refine ⟨rfl, _, rfl, _, rfl, d, l, a, c, k + 11 + 3 * i, rfl, D9, ha, by omega, by omega, fun p ys H10 hp D10 o10 hp10 pmm => ?_⟩
          have hM10 := lst_off hM9 hMl.2 D9 o10
          refine ⟨bs.map V.ref, hM10, by rw [sizeLine_eq]; omega, bs ++ [p], cols' ++ [ys], (o9.trans o10).put hM, (D10.up (k := k + 11 + 3 * (i + 1)) (by omega)).put hMl, by rw [upd_same, List.map_append]; rfl, ?_, ?_⟩
          · rw [List.map_append]
            refine each_and (each_snoc (hB.off D9 o10) ⟨p, rfl, hp10⟩) fun v ts _ ⟨b, e9, e10⟩ => ⟨b, e9, ?_⟩
            rw [upd_ne (ne_of e10 hM10 (by intro z; cases z))]
            exact e10
          · rw [take_next hci]
            exact each_snoc pe pmm
        · rintro H9 ⟨bs, cols', o9, D9, hM9, hB, pe⟩
          rw [hA8.length, List.take_length] at pe
          rw [hA8.length, len] at D9
          have len' : cols'.length = n := by rw [pe.length, len]
          have hwd9 := tup_off hwd8 D8 o9
          refine ⟨wd, M, ds, bs, cols', rfl, hwd9, hM9, hB, by rw [len']; exact dom, fun c hc => ?_, fun c hc x hx => ?_, fun o H10 R' e10 TO mem => ?_⟩
          · obtain ⟨i, hi⟩ := List.getElem?_of_mem hc
            obtain ⟨b, hb, pmm⟩ := each_get pe hi
            rw [pmm.length_eq]
            exact c3 b (List.mem_of_getElem? hb)
          · obtain ⟨i, hi⟩ := List.getElem?_of_mem hc
            obtain ⟨b, hb, pmm⟩ := each_get pe hi
            exact cin b (List.mem_of_getElem? hb) x (pmm.mem_iff.mp hx)
          rw [len'] at TO
          have z : R' = prods cols := tab_due TO (prods_asc0 casc) fun row => (mem row).trans (prods_perm pe row)
          subst z
          have hC9 := lst_off hC8 hCl.2 D8 o9
          have hA9 := hA8.off D8 o9
          refine ⟨_, rfl, _, rfl, _, rfl, _, rfl, C, as.map V.ref, cols, rfl, e10 _ _ hC9, hA9.up e10, c3, by omega, fun p rs H11 hp e11 hp11 hR11 => ?_⟩
          refine ⟨o, wd, p, n, ds, rs, prods cols, rfl, TO.up e11, e11 _ _ (e10 _ _ hwd9), hp11, hR11, fun H12 e12 => ⟨true, rfl, iteT ?_⟩⟩
          have TO12 := (TO.up e11).up e12
          obtain ⟨dx, d0, p0, rs0, c2, x12, _, _, _, co⟩ := id TO12.ex
          refine ⟨_, rfl, o, T.C, dx, _, _, rfl, x12, T.cl, T.np, rfl, _, true, rfl, rfl, ?_⟩
          rw [show decide (prods cols = prods c2) = true from decide_eq_true (prod_self casc len co)]
          have e912 := same_trans e10 (same_trans e11 e12)
          exact q H12 ((D9.same e912).up (by omega)) (o8.trans (o9.trans (Off.of e912)))
      · -- columns[draw(size)] = ()
        refine ⟨by show 0 ≤ sizeLine; exact Nat.zero_le _, fun t0 ht0 => ?_⟩
        have e8 : Same H7 (upd H7 t0 (.tup [])) := same_new ht0
        have ht8 : upd H7 t0 (.tup []) t0 = some (.tup []) := upd_same
        generalize upd H7 t0 (.tup []) = H8 at e8 ht8 ⊢
        have D8 := D7.same e8
        refine ⟨_, rfl, _, rfl, _, rfl, d, l, (n : Nat), k + 10, rfl, D8, by omega, by omega, by omega, fun j H9 j0 j1 D9 o9 => ?_⟩
        have o69 : Off d l H6 H9 := o7.trans ((Off.of e8).trans o9)
        have hC9 := lst_off hC6 hCl.2 D6 o69
        have ht9 := tup_off ht8 D8 o9
        refine ⟨C, as.map V.ref, j, j.toNat, rfl, rfl, hC9, by unfold ixN; rw [if_pos j0, if_pos (by rw [List.length_map, la]; exact j1)], ?_⟩
        refine rest _ ⟨as.set j.toNat t0, cols.set j.toNat [], (oH6.trans o69).put hCH, D9.put hCl, by rw [upd_same, List.map_set], ?_, by rw [List.length_set]; exact len, fun c hc => ?_, fun c hc => ?_, fun c hc x hx => ?_⟩
        · rw [List.map_set]
          refine each_and (each_set (hA.off D6 o69) (show ∃ a, V.ref t0 = V.ref a ∧ H9 a = some (.tup (([] : List Str).map V.str)) from ⟨t0, rfl, ht9⟩) j.toNat) fun v ts _ ⟨b, e9, e10⟩ => ⟨b, e9, ?_⟩
          rw [upd_ne (ne_of e10 hC9 (by intro z; cases z))]
          exact e10
        · rcases mem_set hc with h | h
          · exact List.Pairwise.sublist (sub c h) dasc
          · rw [h]
            exact .nil
        · rcases mem_set hc with h | h
          · exact Nat.le_trans (sub c h).length_le d3
          · rw [h]
            exact Nat.zero_le _
        · rcases mem_set hc with h | h
          · exact (sub c h).subset hx
          · rw [h] at hx
            cases hx
end
end K01
/-! The law's walk from a promise that leans on repr: a law is called where nothing is being shown. -/
namespace KG
open PySem PySem.Spec PyProof.Rows L2
section
variable {P : Program} {w : World} {K : PySem.W.Frag} {mg mb : Str → Option Value} {CX : CXT} {k : Nat} {fa a : Addr} {fd : FuncData} {x : Str} {sp : Sp} {s1 : Shared}
/-- what the law's call must leave -/
abbrev LawR (s1 : Shared) : Result → Shared → Prop := fun r s' => r = .ok (.ret (.bool true)) ∧ OldK s1.heap s'.heap ∧ s'.os = s1.os ∧ AllBare s'.gens
/-- from an abstract heap that knows at most the script -/
theorem law_at {o : Obj} (KI : K.In s1.heap) (n1 : s1.heap.Ns mainGlobals mg) (n2 : s1.heap.Ns builtinsNs mb) (n3 : ∀ y : Str, y ≠ "__name__" → mb y = bootBuiltins y) (lim : s1.heap.NoLimit) (g0 : s1.gens = #[]) (hr : Room k callerA)
    (ho : s1.heap.get? a = some o) (nd : ∀ es ep, o.data ≠ .dict es ep) (F : ∀ base : Heap, K.In base → base.Ns mainGlobals mg → FnG P w K mg base CX k fa fd [x] sp) (bd : ∀ (s : Shared) (u : Value), BindsTo s fd ⟨[u], []⟩ [(x, u)])
    (cx : ∀ H e s', CX [] H s1 (fun _ _ _ => False) e s' → False) (H : Hp) (only : Only H) (ok : HOk P w H s1.heap) (h1 : ∀ b, H b ≠ none → b = a) (h2 : H a ≠ none → K.lookup a = none)
    (pr : sp [.ref a] H (fun v _ => v = .bl true) fun _ _ _ => False) : codeAny (model P w) callerA (.call (.ref fa) ⟨[.ref a], []⟩) (LawR s1) s1 := by
  -- what is no object that H knows stands in the base, too
  have inB : ∀ {b : Addr} {u : Obj}, s1.heap.get? b = some u → (H b ≠ none → False) → (hidT s1.heap H).get? b = some u := fun {b u} e n => hidT_get e (by
    cases q : H b with
    | none => rfl
    | some z => exact (n (by rw [q]; exact fun y => nomatch y)).elim)
  have dictB : ∀ {b : Addr} {u : Obj} {es : Array DictEntry} {ep : Nat}, s1.heap.get? b = some u → u.data = .dict es ep → (hidT s1.heap H).get? b = some u := fun {b u es ep} e d => inB e fun z => by
    have q := h1 b z
    rw [q, ho] at e
    rw [Option.some.inj e] at nd
    exact nd _ _ d
  have nsB : ∀ {b : Addr} {m : Str → Option Value}, s1.heap.Ns b m → (hidT s1.heap H).Ns b m := fun ⟨u, es, ep, e, d, r⟩ => ⟨u, es, ep, dictB e d, d, r⟩
  have KB : K.In (hidT s1.heap H) := fun b u e => inB (KI b u e) fun z => by
    have q := h1 b z
    rw [q] at e z
    rw [h2 z] at e
    cases e
  obtain ⟨mc, l1, l2⟩ := lim
  have env : Env0 P w K mg (hidT s1.heap H) callerA [] s1 H :=
    ⟨rfl, ⟨KB, nsB n1, ⟨mb, nsB n2, n3⟩, ⟨mc, nsB l1, l2⟩⟩, fun _ _ e => of_hidT e, Nat.le_of_eq (hidT_size _ _), trivial, fun _ z => (by cases z), ok, .of_eq g0⟩
  refine codeAny_mono ((F _ KB (nsB n1)).go callerA [] s1 H ⟨[.ref a], []⟩ [.ref a] [.ref a] _ _ rfl hr env (bd s1 (.ref a)) (.cons rfl .nil) pr) ?_
  rintro (er | fl) s' z
  · exact (cx H er s' z).elim
  · cases fl with
    | ret u =>
      obtain ⟨v, H', os, bare, un, ok', r, (rfl : v = .bl true)⟩ := z
      have eu : u = Value.bool true := r
      subst eu
      refine ⟨rfl, OldK.of_keep fun b o' e => ?_, os, bare⟩
      cases q : H b with
      | none => exact un.keep b o' e q (fun z => (by cases z)) (by simp)
      | some t =>
        rcases only b with y | ⟨ob, xs, y⟩
        · rw [q] at y
          cases y
        · have y1 := (ok b _ y).1
          have y2 := (ok' b _ (un.frzs b ob _ y)).1
          rw [e] at y1
          cases y1
          exact y2
    | next => exact z.elim
    | brk => exact z.elim
    | cont => exact z.elim
end
/-- the goal that the head leaves, from such a promise -/
theorem walkG {l : PySem.W.OpenLaw} {n k : Nat} {q : Program} {loose : List Str} {XP : (Str → Option Value) → Heap → Prop} {YP : World → Heap → Prop} {d : DefRec} {K : Params → PySem.W.Frag} {CX : CXT} {sp : PySem.W.Frag → Sp} {x : Str}
    (h1 : l.most = some n) (h2 : n ≤ sizeLine) (h3 : d.params.defaults = []) (hr : Room k callerA) (hY : ∀ (w : World) (h : Heap), YP w h → (K w.params).In h)
    (F : ∀ (w : World) (mg : Str → Option Value) (fa : Addr) (h : Heap), (K w.params).In h → h.Ns mainGlobals mg → mg d.name = some (.ref fa) →
      ∃ fd : FuncData, (∀ (s : Shared) (u : Value), BindsTo s fd ⟨[u], []⟩ [(x, u)]) ∧ ∀ base : Heap, (K w.params).In base → base.Ns mainGlobals mg → FnG l.prog w (K w.params) mg base CX k fa fd [x] (sp (K w.params)))
    (pr : ∀ (K : PySem.W.Frag) (H : Hp) (a : Addr) (ns : List Int), ns.length ≤ n → Only H → SqL K H a (ns.map V.int) → sp K [.ref a] H (fun v _ => v = .bl true) fun _ _ _ => False)
    (cx : ∀ (H : Hp) (s : Shared) (e : Value) (s' : Shared), CX [] H s (fun _ _ _ => False) e s' → False) :
    PySem.W.WalkO q loose XP YP l.row.toRowW d [] (fun f vs => PySem.call f vs) := by
  refine Att.attach_call h1 h3 fun w s0 s1 mg mb fa o pm cd doc a vs ns G Y ho hd hcd hmg hobj hints hlen hg => ?_
  have KI := hY w _ Y
  obtain ⟨fd, bd, FF⟩ := F w mg fa _ KI G.T.g hmg
  have rv := vals_ints hints
  have small : ns.length ≤ sizeLine := Nat.le_trans hlen h2
  have nd : ∀ (es : Array DictEntry) (ep : Nat), (Data.seq vs.toArray 0 : Data) ≠ .dict es ep := fun _ _ z => nomatch z
  cases hk : (K w.params).lookup a with
  | some o1 =>
    have e := KI a o1 hk
    rw [hobj] at e
    cases e
    have none0 : ∀ b, (fun _ : Addr => (none : Option HO)) b ≠ none → False := fun b z => z rfl
    refine law_at KI G.T.g G.T.b G.T.builtins G.T.nolimit hg hr hobj (fun _ _ z => nomatch z) FF bd (fun H e s' => cx H s1 e s') (fun _ => none) (fun _ => .inl rfl) (fun b u z => nomatch z) (fun b z => (none0 b z).elim) (fun z => (none0 a z).elim)
      (pr _ _ _ ns hlen (fun _ => .inl rfl) (.inr ⟨_, vs.toArray, _, hk, rfl, rfl, rfl, ?_, ?_⟩))
    · rw [List.size_toArray, hints.length]
      exact small
    · simpa using rv
  | none =>
    have at_ : (fun b => if b = a then some (HO.frz { cls := .type "list", data := .seq vs.toArray } (.lst (ns.map V.int))) else none) a = some (HO.frz { cls := .type "list", data := .seq vs.toArray } (.lst (ns.map V.int))) := if_pos rfl
    have off : ∀ b, b ≠ a → (fun b => if b = a then some (HO.frz { cls := .type "list", data := .seq vs.toArray } (.lst (ns.map V.int))) else none) b = none := fun b z => if_neg z
    generalize (fun b => if b = a then some (HO.frz { cls := .type "list", data := .seq vs.toArray } (.lst (ns.map V.int))) else none) = H at at_ off
    have only : Only H := fun b => by
      by_cases z : b = a
      · rw [z]
        exact .inr ⟨_, _, at_⟩
      · exact .inl (off b z)
    have here : ∀ b, H b ≠ none → b = a := fun b z => by
      by_cases y : b = a
      · exact y
      · exact absurd (off b y) z
    have ok : HOk l.prog w H s1.heap := fun b u z => by
      have e := here b (by rw [z]; exact fun y => nomatch y)
      rw [e, at_] at z
      cases z
      rw [e]
      exact ⟨hobj, by rw [List.length_map]; exact small, vs, _, rv, hobj⟩
    exact law_at KI G.T.g G.T.b G.T.builtins G.T.nolimit hg hr hobj (fun _ _ z => nomatch z) FF bd (fun H e s' => cx H s1 e s') H only ok here (fun _ => hk) (pr _ _ _ ns hlen only (.inl (.inr ⟨_, at_⟩)))
end KG
/-! law. -/
namespace K01
open PySem PySem.Spec PyProof.Rows L2 KG KS KA KX
abbrev s_law : Stmt := top 34
/-- all the defs that the law reaches -/
structure All (K : PySem.W.Frag) (mg : Str → Option Value) where
  B : Bs mg
  tf : TabF K mg
  ti : MtD K "__init__" "Table.__init__" s_tabInit
  tc : TabC K mg ti.a
  J : C8.InsC K tc.C
  Z : Nought K ti.v
  not_ : MtF K "__invert__" "Table.__invert__" s_tabNot
  notI : PySem.W.findIn K (.ref tc.C) "__invert__" = some (some (.ref not_.a))
  notF : PySem.W.isFn K (.ref not_.a) = true
  eq_ : MtF K "__eq__" "Table.__eq__" s_tabEq
  ne_ : KO.NeC K tc.C eq_.a
  nf : PySem.W.notFirst K tc.C (.ref tc.C) = true
  mc : Value
  rd : ClX.CRead K tc.C mc
  full : MtC K tc.C mc "full" "Table.full" s_tabFull
  fkw : KwTwo full.f.d ["cls", "domain", "width"] "width" "domain"
  prod : MtC K tc.C mc "product" "Table.product" s_tabProduct
  col : MtK K tc.C "column" "Table.column" s_tabColumn ["self", "place"] "place"
  picked : MtF K "picked" "Table.picked" s_tabPicked
  pickedM : Meth K tc.C "picked" picked.a
  cut : MtK K tc.C "cut" "Table.cut" s_tabCut ["self", "values"] "values"
  deck : FnF K mg "_law_deck" "_law_deck" s__law_deck
  draw : FnF K mg "_law_draw" "_law_draw" s__law_draw
  pick : FnF K mg "_law_pick" "_law_pick" s__law_pick
  words : FnF K mg "_law_words" "_law_words" s__law_words
  mixed : FnF K mg "_law_mixed" "_law_mixed" s__law_mixed
  rows : FnF K mg "_law_rows_of" "_law_rows_of" s__law_rows_of
  lines : FnF K mg "_law_lines" "_law_lines" s__law_lines
  is_ : FnF K mg "_law_is" "_law_is" s__law_is
  parts : FnF K mg "_law_parts" "_law_parts" s__law_parts
  cols : FnF K mg "_law_columns_right" "_law_columns_right" s__law_columns_right
  lpick : FnF K mg "_law_picked" "_law_picked" s__law_picked
  pickR : FnF K mg "_law_picked_right" "_law_picked_right" s__law_picked_right
  cutR : FnF K mg "_law_cut_right" "_law_cut_right" s__law_cut_right
  lprod : FnF K mg "_law_product" "_law_product" s__law_product
  madeR : FnF K mg "_law_made_right" "_law_made_right" s__law_made_right
def spLaw (K : PySem.W.Frag) : Sp := fun vs H Q _ => ∃ (a : Addr) (ns : List Int), vs = [.ref a] ∧ SqL K H a (ns.map V.int) ∧ ns.length ≤ 63 ∧ ∀ H', Q (.bl true) H'
section
variable {P : Program} {w : World} {K : PySem.W.Frag} {mg : Str → Option Value} {base : Heap}
theorem sc_law : FnScope ["_law_script", "_law_deck_here", "_law_turn", "_law_words_here", "_law_size", "_law_lines_here", "_law_made"] ["_law_script"] (defScope s_law) := ⟨rfl, rfl, rfl, by decide +kernel, rfl, by decide +kernel, by decide +kernel⟩
theorem ok_law (A : All K mg) (f : FnF K mg "law" "law" s_law) : FnG P w K mg base CX0 10 f.a f.d ["_law_script"] (spLaw K) := by
  have GK := ok__law_deck (P := P) (w := w) (base := base) A.B.toBi A.deck
  have bK : L2.Binds K A.deck.d ["_law_script"] [] := A.deck.F.binds fun _ _ _ _ _ _ us hl => match us, hl with | [_], _ => rfl
  have GD := ok__law_draw (P := P) (w := w) (base := base) A.B.toBi A.draw
  have bD : L2.Binds K A.draw.d ["_law_deck_here", "_law_many"] [] := A.draw.F.binds fun _ _ _ _ _ _ us hl => match us, hl with | [_, _], _ => rfl
  have GW := ok__law_words (P := P) (w := w) (base := base) A.B A.words A.draw
  have bW : L2.Binds K A.words.d ["_law_deck_here", "_law_many"] [] := A.words.F.binds fun _ _ _ _ _ _ us hl => match us, hl with | [_, _], _ => rfl
  have GL := ok__law_lines (P := P) (w := w) (base := base) A.B A.lines A.draw A.pick A.rows
  have bL : L2.Binds K A.lines.d ["_law_deck_here", "_law_words_here", "_law_size"] [] := A.lines.F.binds fun _ _ _ _ _ _ us hl => match us, hl with | [_, _, _], _ => rfl
  have G6 := ok_tabInit (P := P) (w := w) (base := base) A.B A.ti A.tf A.tc
  have b6 : L2.Binds K A.ti.d ["self", "domain", "width", "rows"] [] := by
    obtain ⟨ds, r, b⟩ := A.ti.F.binds1 (ps := ["self", "domain", "width", "rows"]) 4 1 (by simp) rfl fun _ _ _ _ _ _ _ us its h1 h2 => match us, its, h1, h2 with | [_, _, _, _], [_], _, _ => ⟨_, rfl, rfl⟩
    cases (show Vals [] ds from r)
    exact b
  have GC := ok__law_columns_right (P := P) (w := w) (base := base) A.B A.tc A.cols A.rows A.tf.col A.tf.asc A.col
  have bC : L2.Binds K A.cols.d ["_law_made", "_law_size", "_law_lines_here"] [] := A.cols.F.binds fun _ _ _ _ _ _ us hl => match us, hl with | [_, _, _], _ => rfl
  have GP := ok__law_picked_right (P := P) (w := w) (base := base) A.B A.ti A.tf A.tc A.J A.picked A.pickedM A.lpick A.rows A.is_ A.draw A.pickR
  have bP : L2.Binds K A.pickR.d ["_law_deck_here", "_law_made", "_law_words_here", "_law_size", "_law_lines_here"] [] := A.pickR.F.binds fun _ _ _ _ _ _ us hl => match us, hl with | [_, _, _, _, _], _ => rfl
  have GU := ok__law_cut_right (P := P) (w := w) (base := base) A.B A.ti A.tf A.tc A.J A.cut A.eq_ A.ne_ A.nf A.parts A.rows A.is_ A.cutR
  have bU : L2.Binds K A.cutR.d ["_law_made", "_law_words_here", "_law_size", "_law_lines_here"] [] := A.cutR.F.binds fun _ _ _ _ _ _ us hl => match us, hl with | [_, _, _, _], _ => rfl
  have GI := ok__law_is (P := P) (w := w) (base := base) A.B A.tc A.J A.is_ A.rows
  have bI : L2.Binds K A.is_.d ["_law_made", "_law_words_here", "_law_size", "_law_lines_here"] [] := A.is_.F.binds fun _ _ _ _ _ _ us hl => match us, hl with | [_, _, _, _], _ => rfl
  have GM := ok__law_made_right (P := P) (w := w) (base := base) A.B A.ti A.tf A.tc A.J A.Z A.not_ A.notI A.notF A.rd A.full A.fkw A.prod A.lprod A.mixed A.draw A.rows A.is_ A.madeR
  have bM : L2.Binds K A.madeR.d ["_law_deck_here", "_law_words_here", "_law_size"] [] := A.madeR.F.binds fun _ _ _ _ _ _ us hl => match us, hl with | [_, _, _], _ => rfl
  refine okN f.F sc_law (fun vs H Q E h => ?_) (fun cdv A' outer s H vs Q E hgu hr h => ?_)
  · obtain ⟨a, ns, rfl, _⟩ := h
    rfl
  · obtain ⟨sa, ns, rfl, hs0, hlen, q⟩ := h
    have hu64 := hr.units
    have hr1 : Room 1 _ := hr.mono (by omega)
    have hr2 : Room 2 _ := hr.mono (by omega)
    have hr3 : Room 3 _ := hr.mono (by omega)
    have hr4 : Room 4 _ := hr.mono (by omega)
    have hr5 : Room 5 _ := hr.mono (by omega)
    have hr7 : Room 7 _ := hr.mono (by omega)
    have hr8 : Room 8 _ := hr.mono (by omega)
    refine ⟨_, (pss_cons
      (ps_set (i := 1) sc_law.nd rfl (Or.inl rfl) (pe_call GK hr1 rfl A.deck.g A.deck.F.kp bK .nil pass0 (pa_cons (pv 0) pa_nil)))
    (pss_cons
      (ps_for PassesOwn.never rfl (pi_range1 rfl A.B.n_range (pa_cons pe_int pa_nil)) (pg_name (i := 2) sc_law.nd rfl (Or.inl rfl))
        (pss_cons
          (ps_set (i := 3) sc_law.nd rfl (Or.inl rfl) (pe_call GW hr2 rfl A.words.g A.words.F.kp bW .nil pass0 (pa_cons (pv 1) (pa_cons (pe_op op_add pe_int (pe_call GD hr1 rfl A.draw.g A.draw.F.kp bD .nil pass0 (pa_cons (pv 1) (pa_cons pe_int pa_nil)))) pa_nil))))
        (pss_cons
          (ps_set (i := 4) sc_law.nd rfl (Or.inl rfl) (pe_op op_add pe_int (pe_call GD hr1 rfl A.draw.g A.draw.F.kp bD .nil pass0 (pa_cons (pv 1) (pa_cons pe_int pa_nil)))))
        (pss_cons
          (ps_set (i := 5) sc_law.nd rfl (Or.inl rfl) (pe_call GL hr3 rfl A.lines.g A.lines.F.kp bL .nil pass0 (pa_cons (pv 1) (pa_cons (pv 3) (pa_cons (pv 4) pa_nil)))))
        (pss_cons
          (ps_set (i := 6) sc_law.nd rfl (Or.inl rfl) (pe_make A.tc.made G6 hr5 rfl A.tc.g b6 .nil pass0 (pa_cons (pv 3) (pa_cons (pv 4) (pa_cons (pe_callTy call_tuple_of (by rfl) A.B.n_tuple (by decide +kernel) (pa_cons (pv 5) pa_nil)) pa_nil)))))
        (pss_cons
          (ps_if (pt_not (pt_val (pe_callG GC hgu hr4 rfl A.cols.g A.cols.F.kp bC .nil pass0 (pa_cons (pv 6) (pa_cons (pv 4) (pa_cons (pv 5) pa_nil))))))
            (pss_one
              (ps_ret pe_bl))
            pss_nil)
        (pss_cons
          (ps_if (pt_not (pt_val (pe_callG GP hgu hr8 rfl A.pickR.g A.pickR.F.kp bP .nil pass0 (pa_cons (pv 1) (pa_cons (pv 6) (pa_cons (pv 3) (pa_cons (pv 4) (pa_cons (pv 5) pa_nil))))))))
            (pss_one
              (ps_ret pe_bl))
            pss_nil)
        (pss_cons
          (ps_if (PW.pt (pw_or (pt_not (pt_val (pe_callG GU hgu hr7 rfl A.cutR.g A.cutR.F.kp bU .nil pass0 (pa_cons (pv 6) (pa_cons (pv 3) (pa_cons (pv 4) (pa_cons (pv 5) pa_nil))))))) (pw_or1 (pt_not (pt_val (pe_callG GI hgu hr2 rfl A.is_.g A.is_.F.kp bI .nil pass0 (pa_cons (pv 6) (pa_cons (pv 3) (pa_cons (pv 4) (pa_cons (pv 5) pa_nil))))))))))
            (pss_one
              (ps_ret pe_bl))
            pss_nil)
        (pss_one
          (ps_if (pt_not (pt_val (pe_callG GM hgu hr8 rfl A.madeR.g A.madeR.F.kp bM .nil pass0 (pa_cons (pv 1) (pa_cons (pv 3) (pa_cons (pv 4) pa_nil))))))
            (pss_one
              (ps_ret pe_bl))
            pss_nil))))))))))
    (pss_one
      (ps_ret pe_bl)))), ?_⟩
    refine ⟨_, rfl, sa, ns, rfl, hs0, hlen, fun d l H1 hd hl e1 D1 => ?_⟩
    refine ⟨9, rfl, by decide, by decide, ?_⟩
    refine for_range (lo := 0) (n := 9) (fun i σ H' => ∃ v2 v3 v4 v5 v6 : Option V, σ = [some (.ref sa), some (.ref d), v2, v3, v4, v5, v6] ∧ DeckAt H' d l (i * 100)) ⟨none, none, none, none, none, rfl, D1⟩ ?_ ?_
    · rintro i σ H2 hi ⟨v2, v3, v4, v5, v6, rfl, D2⟩
      obtain ⟨k, hk⟩ : ∃ k, i * 100 = k := ⟨_, rfl⟩
      have hkb : k < 900 := by omega
      rw [hk] at D2
      -- words
      refine ⟨_, rfl, _, rfl, d, l, 3, k, rfl, D2, by decide, by decide, by omega, fun j H3 j0 j1 D3 o3 => ⟨_, _, rfl, rfl, ?_⟩⟩
      obtain ⟨m, hm⟩ : ∃ m : Nat, (1 : Int) + j = (m : Int) := ⟨(1 + j).toNat, by omega⟩
      dsimp only
      rw [hm]
      have m1 : 1 ≤ m := by omega
      have m3 : m ≤ 3 := by omega
      clear hm j0 j1
      refine ⟨d, l, m, k + 1, rfl, D3, by omega, by omega, fun wd ds H4 hwd D4 o4 hwd4 dlen inP dasc => ?_⟩
      have D4 := D4.up (k := k + 4) (by omega)
      have dok : ∀ x ∈ ds, nameOk x = true := fun x hx => pool_ok x (inP x hx)
      -- size
      refine ⟨_, rfl, d, l, 3, k + 4, rfl, D4, by decide, by decide, by omega, fun j H5 j0 j1 D5 o5 => ⟨_, _, rfl, rfl, ?_⟩⟩
      obtain ⟨n, hn⟩ : ∃ n : Nat, (1 : Int) + j = (n : Int) := ⟨(1 + j).toNat, by omega⟩
      dsimp only
      rw [hn]
      have dom : DomOk ds n := ⟨dasc, dok, by omega, by omega, by omega, by omega⟩
      clear hn j0 j1
      have hwd5 := tup_off hwd4 D4 o5
      -- lines
      refine ⟨_, rfl, _, rfl, _, rfl, d, l, wd, ds, n, k + 5, rfl, D5, by omega, dom, hwd5, fun p rs R H6 hp6 hR asc row npl D6 o6 => ?_⟩
      have hwd6 := tup_off hwd5 D5 o6
      have few := rows_few dom asc row
      -- made
      refine ⟨_, rfl, _, rfl, _, rfl, p, rs, rfl, .inl ⟨SqL.of hp6, fun u hu => ?_⟩⟩
      have e7 : Same H6 (upd H6 u (.tup rs)) := same_new hu
      refine fun o dx hx hdx nox => make_tab2 (e7 _ _ hwd6) dom upd_same (hR.up e7) row (by omega) asc (fun _ => Iff.rfl) hx hdx nox fun H8 e8 TO => ⟨rfl, ?_⟩
      have e68 := same_trans e7 e8
      have D8 := D6.same e68
      have hwd8 := e68 _ _ hwd6
      have hp8 := e68 _ _ hp6
      have hR8 := hR.up e68
      clear hu e7 e8 hx hdx nox e68 hp6 hR hwd6 hwd5 hwd4 D6 D5 D4 D3 o3 o4 o5 o6 hwd
      refine ⟨_, rfl, _, rfl, _, rfl, o, p, n, ds, rs, R, rfl, TO, hp8, hR8, fun H9 e9 => ⟨true, rfl, iteF ?_⟩⟩
      have D9 := D8.same e9
      refine ⟨_, rfl, _, rfl, _, rfl, _, rfl, _, rfl, d, l, o, wd, p, k + 45, n, ds, rs, R, rfl, D9, by omega, TO.up e9, e9 _ _ hwd8, e9 _ _ hp8, hR8.up e9, npl, fun HA DA oA => ⟨true, rfl, iteF ?_⟩⟩
      have TOA := (TO.up e9).off D9 oA
      have hwdA := tup_off (e9 _ _ hwd8) D9 oA
      have hpA := lst_off (e9 _ _ hp8) npl D9 oA
      have hRA := (hR8.up e9).off D9 oA
      refine ⟨_, rfl, _, rfl, _, rfl, _, rfl, o, wd, p, n, ds, rs, R, rfl, TOA, hwdA, hpA, hRA, fun HB eB => ⟨true, rfl, iteF ?_⟩⟩
      refine ⟨_, rfl, _, rfl, _, rfl, _, rfl, o, wd, p, n, ds, rs, R, rfl, TOA.up eB, eB _ _ hwdA, eB _ _ hpA, hRA.up eB, fun HC eC => ⟨true, rfl, iteF ?_⟩⟩
      have eBC := same_trans eB eC
      refine ⟨_, rfl, _, rfl, _, rfl, d, l, wd, ds, n, k + 54, rfl, DA.same eBC, by omega, eBC _ _ hwdA, dom, fun HD DD oD => ⟨true, rfl, iteF ?_⟩⟩
      exact ⟨_, _, _, _, _, rfl, DD.up (by omega)⟩
    · rintro σ H2 ⟨v2, v3, v4, v5, v6, rfl, D2⟩
      exact q H2
end
end K01
/-! What the top has written: each def, each class, from what is read there. -/
namespace K01
open PySem PySem.Spec PyProof.Rows L2 KG KS KX
section
variable {K : PySem.W.Frag} {h : Heap} {mg : Str → Option Value}
theorem fn_ex (X : K.In h) (G : h.Ns mainGlobals mg) {x : Str} {st : Stmt} {f : Addr} {oc kV doc pm cdv ct : Value} {od an : Option Addr} {osl : Array (Option Value)} (a : PySem.W.nsIn K mainGlobals x = some (some (.ref f)))
    (l : K.lookup f = some ⟨oc, od, .func (PySem.W.fnOf x x (defArgs st) (defBody st) (defScope st) .none kV doc pm an cdv ct), osl⟩) (c : PySem.W.codeIn K cdv x = true) (k : PySem.W.keepIn K (.ref f) = true) : ∃ e : FnF K mg x x st, e.a = f :=
  ⟨⟨f, _, fun_mk l c k, PySem.W.mg_of X G a⟩, rfl⟩
theorem mf_ex (X : K.In h) {C : Addr} {x qual : Str} {st : Stmt} {f : Addr} {oc kV doc pm cdv ct : Value} {od an : Option Addr} {osl : Array (Option Value)} (a : PySem.W.findIn K (.ref C) x = some (some (.ref f)))
    (l : K.lookup f = some ⟨oc, od, .func (PySem.W.fnOf x qual (defArgs st) (defBody st) (defScope st) .none kV doc pm an cdv ct), osl⟩) (c : PySem.W.codeIn K cdv qual = true) (k : PySem.W.keepIn K (.ref f) = true) (i : PySem.W.isFn K (.ref f) = true) :
    ∃ e : MtF K x qual st, PySem.W.findIn K (.ref C) x = some (some (.ref e.a)) ∧ PySem.W.isFn K (.ref e.a) = true := ⟨⟨f, _, fun_mk l c k⟩, a, i⟩
theorem mt_ex (X : K.In h) {x qual : Str} {C : Addr} {st : Stmt} {f T : Addr} {oc doc pm cdv ct kV : Value} {od an : Option Addr} {osl : Array (Option Value)} {o2 : Obj} {n2 : Nat} {t0 : Addr} {o3 : Obj} {n3 : Nat}
    (g : PySem.W.nsIn K mainGlobals x = some (some (.ref C))) (i : PySem.W.findIn K (.ref C) "__init__" = some (some (.ref f)))
    (l : K.lookup f = some ⟨oc, od, .func (PySem.W.fnOf "__init__" qual (defArgs st) (defBody st) (defScope st) (.ref T) kV doc pm an cdv ct), osl⟩) (c : PySem.W.codeIn K cdv qual = true) (k : PySem.W.keepIn K (.ref f) = true)
    (lT : K.lookup T = some o2) (oT : o2.data = .seq [.ref t0].toArray n2) (l0 : K.lookup t0 = some o3) (c0 : o3.cls = .type "tuple") (d0 : o3.data = .seq #[] n3) : ∃ e : MtD K "__init__" qual st, e.a = f ∧ Nonempty (Nought K e.v) :=
  ⟨⟨f, _, .ref t0, ⟨⟨oc, od, .ref T, kV, doc, pm, an, cdv, ct, osl, rfl, l, c, .inr ⟨by simp, T, o2, [.ref t0], n2, rfl, lT, oT, .cons rfl .nil⟩, .inl rfl⟩, k⟩⟩, rfl, ⟨⟨t0, rfl, fun H H' _ => ⟨.inr ⟨o3, #[], n3, l0, c0, d0, by show 0 ≤ sizeLine; exact Nat.zero_le _, .nil⟩, .kTuple l0 c0⟩⟩⟩⟩
theorem cm_ex (X : K.In h) {C p g : Addr} {mc : Value} {rest : List Value} {m qual : Str} {st : Stmt} {oc kV doc pm cdv ct : Value} {od an : Option Addr} {osl : Array (Option Value)}
    (a : PySem.W.findCls K (.ref C) mc m = some (.get (.builtin "classmethod.__get__") (.ref p) .none (.ref C))) (r : PySem.W.recIn K p "classmethod" = some (.ref g :: rest))
    (l : K.lookup g = some ⟨oc, od, .func (PySem.W.fnOf m qual (defArgs st) (defBody st) (defScope st) .none kV doc pm an cdv ct), osl⟩) (c : PySem.W.codeIn K cdv qual = true) (k : PySem.W.keepIn K (.ref g) = true) (i : PySem.W.fnIn K g = true) :
    Nonempty (MtC K C mc m qual st) := ⟨⟨⟨g, _, fun_mk l c k⟩, p, ⟨a, ⟨_, r⟩, i⟩⟩⟩
theorem rd_ex (X : K.In h) {C : Addr} {mc : Value} (r : PySem.W.readsIn K C mc = true) (g : PySem.W.specialIn K (.ref C) "__getattribute__" = some (some (.builtin "type.__getattribute__"))) : ClX.CRead K C mc := ⟨r, g⟩
theorem cm_kw {C : Addr} {mc : Value} {m qual : Str} {st : Stmt} {ps : List Str} {k1 k2 : Str} (e : MtC K C mc m qual st)
    (h : ∀ (kV doc pm : Value) (an : Option Addr) (cdv ct : Value) (c u v : Value), bindArgs (PySem.W.fnOf m qual (defArgs st) (defBody st) (defScope st) .none kV doc pm an cdv ct) ⟨[c], [(k1, u), (k2, v)]⟩ = pure (ps.zip [c, v, u])) : KwTwo e.f.d ps k1 k2 := kwTwo e.f.F h
theorem mk_ex (X : K.In h) {C f : Addr} {x qual kn : Str} {ps : List Str} {st : Stmt} {oc kV doc pm cdv ct : Value} {od an : Option Addr} {osl : Array (Option Value)} (a : PySem.W.findIn K (.ref C) x = some (some (.ref f)))
    (l : K.lookup f = some ⟨oc, od, .func (PySem.W.fnOf x qual (defArgs st) (defBody st) (defScope st) .none kV doc pm an cdv ct), osl⟩) (c : PySem.W.codeIn K cdv qual = true) (k : PySem.W.keepIn K (.ref f) = true) (i : PySem.W.isFn K (.ref f) = true)
    (kw : ∀ (kV doc pm : Value) (an : Option Addr) (cdv ct : Value) (u v : Value), bindArgs (PySem.W.fnOf x qual (defArgs st) (defBody st) (defScope st) .none kV doc pm an cdv ct) ⟨[u], [(kn, v)]⟩ = pure (ps.zip [u, v])) : Nonempty (MtK K C x qual st ps kn) :=
  ⟨⟨⟨f, _, fun_mk l c k⟩, ⟨a, i, k⟩, kwOne (fun_mk l c k) kw⟩⟩
theorem mm_ex (X : K.In h) {C : Addr} {x qual : Str} {st : Stmt} {f : Addr} {oc kV doc pm cdv ct : Value} {od an : Option Addr} {osl : Array (Option Value)} (a : PySem.W.findIn K (.ref C) x = some (some (.ref f)))
    (l : K.lookup f = some ⟨oc, od, .func (PySem.W.fnOf x qual (defArgs st) (defBody st) (defScope st) .none kV doc pm an cdv ct), osl⟩) (c : PySem.W.codeIn K cdv qual = true) (k : PySem.W.keepIn K (.ref f) = true) (i : PySem.W.isFn K (.ref f) = true) :
    ∃ e : MtF K x qual st, Meth K C x e.a := ⟨⟨f, _, fun_mk l c k⟩, a, i, k⟩
theorem bs_ex (X : K.In h) (G : h.Ns mainGlobals mg) {t1 t2 t3 : Tok} (z1 : PySem.W.nsIn K mainGlobals "list" = some none) (z2 : PySem.W.nsIn K mainGlobals "int" = some none) (z3 : PySem.W.nsIn K mainGlobals "len" = some none)
    (z4 : PySem.W.nsIn K mainGlobals "range" = some none) (z5 : PySem.W.nsIn K mainGlobals "tuple" = some none) (z6 : PySem.W.nsIn K mainGlobals "repr" = some none) (z7 : PySem.W.nsIn K mainGlobals "isinstance" = some none)
    (z8 : PySem.W.nsIn K mainGlobals "all" = some none) (z9 : PySem.W.nsIn K mainGlobals "sorted" = some none) (zA : PySem.W.nsIn K mainGlobals "set" = some none) (zB : PySem.W.nsIn K mainGlobals "str" = some none) (zC : PySem.W.nsIn K mainGlobals "bool" = some none)
    (c1 : PySem.W.nsIn K mainGlobals "LONGEST_NAME" = some (some (.int 8 t1))) (c2 : PySem.W.nsIn K mainGlobals "MOST_VALUES" = some (some (.int 3 t2))) (c3 : PySem.W.nsIn K mainGlobals "MOST_WIDTH" = some (some (.int 3 t3))) : Bs mg :=
  { n_list := PySem.W.mg_none_of X G z1, n_int := PySem.W.mg_none_of X G z2, n_len := PySem.W.mg_none_of X G z3, n_range := PySem.W.mg_none_of X G z4, n_tuple := PySem.W.mg_none_of X G z5, n_repr := PySem.W.mg_none_of X G z6,
    n_isinstance := PySem.W.mg_none_of X G z7, n_all := PySem.W.mg_none_of X G z8, n_sorted := PySem.W.mg_none_of X G z9, n_set := PySem.W.mg_none_of X G zA, n_str := PySem.W.mg_none_of X G zB, n_bool := PySem.W.mg_none_of X G zC,
    c_name := ⟨t1, PySem.W.mg_of X G c1⟩, c_vals := ⟨t2, PySem.W.mg_of X G c2⟩, c_width := ⟨t3, PySem.W.mg_of X G c3⟩ }
theorem tab_ex (X : K.In h) (G : h.Ns mainGlobals mg) {C f : Addr} (g : PySem.W.nsIn K mainGlobals "Table" = some (some (.ref C))) (pg : PySem.W.plainGet K C Str.empty = true) (hd : PySem.W.hasDictIn K C = true) (po : PySem.W.plainOver K C = true)
    (sa : PySem.W.findIn K (.ref C) "__setattr__" = some (some (.builtin "object.__setattr__"))) (mk : PySem.W.makesIn K C = true) (i : PySem.W.findIn K (.ref C) "__init__" = some (some (.ref f))) (fn : PySem.W.isFn K (.ref f) = true) (kp : PySem.W.keepIn K (.ref C) = true)
    (n1 : PySem.W.findIn K (.ref C) "domain" = some none) (n2 : PySem.W.findIn K (.ref C) "width" = some none) (n3 : PySem.W.findIn K (.ref C) "rows" = some none) (n4 : PySem.W.findIn K (.ref C) "is_full" = some none) (n5 : PySem.W.findIn K (.ref C) "is_product" = some none)
    (ha : PySem.W.findIn K (.ref C) "__class__" = some (some (.builtin "object.__class__"))) (hn : PySem.W.specialIn K (.builtin "object.__class__") "__get__" = some (some (.builtin "getset_descriptor.__get__"))) (htk : PySem.W.takesIn K (.builtin "object.__class__") = some true)
    (hm : PySem.W.mroIn K C (.type "object") = some true) :
    ∃ tc : TabC K mg f, tc.C = C ∧ C8.InsC K tc.C := ⟨⟨C, PySem.W.mg_of X G g, ⟨pg, hd, po, sa⟩, ⟨mk, i, fn, kp⟩, n1, n2, n3, n4, n5⟩, rfl, ⟨⟨pg, hd, po, sa⟩, ha, hn, htk, hm, by unfold PySem.W.kitOne; rw [if_pos (beq_self_eq_true _)]⟩⟩
theorem law_ex {P : Program} {w : World} {fa : Addr} (hfa : mg "law" = some (.ref fa)) (A : All K mg) (f : FnF K mg "law" "law" s_law) :
    ∃ fd : FuncData, (∀ (s : Shared) (u : Value), BindsTo s fd ⟨[u], []⟩ [("_law_script", u)]) ∧ ∀ base : Heap, K.In base → base.Ns mainGlobals mg → FnG P w K mg base CX0 10 fa fd ["_law_script"] (spLaw K) := by
  have e : fa = f.a := Value.ref.inj (Option.some.inj (hfa.symm.trans f.g))
  subst e
  have bd : ∀ (s : Shared) (u : Value), BindsTo s f.d ⟨[u], []⟩ [("_law_script", u)] := by
    obtain ⟨oc, od, kV, doc, pm, an, cdv, ct, osl, e, _, _⟩ := f.F.ex
    rw [e]
    exact fun s u => .of_eq rfl
  exact ⟨f.d, bd, fun base _ _ => ok_law A f⟩
end
end K01
open PySem PySem.W PyProof.Rows
set_option maxRecDepth 100000 in
set_option maxHeartbeats 0 in
theorem PySem.Challenge.cw_clashnumber_k04_columns_picked_cut_holds : PySem.Challenge.rw_clashnumber_k04_columns_picked_cut.Holds := by
  w_on; o_law; k_head; (case hw => w_witness2)
  k_fill
  refine KG.walkG (l := PySem.Challenge.rw_clashnumber_k04_columns_picked_cut) (n := 63) (k := 10) (x := "_law_script") (CX := L2.CX0) (sp := K01.spLaw) rfl (by decide) rfl ⟨rfl, by decide, by decide⟩ (fun w h Y => PySem.W.kIn_of Y) ?F (fun _ _ a ns hl _ hS => ⟨a, ns, rfl, hS, hl, fun _ => rfl⟩) (fun _ _ _ _ z => z)
  case F =>
    intro w mg fa h KX G hmg
    have B := K01.bs_ex KX G (by k_is) (by k_is) (by k_is) (by k_is) (by k_is) (by k_is) (by k_is) (by k_is) (by k_is) (by k_is) (by k_is) (by k_is) (by k_is) (by k_is) (by k_is)
    obtain ⟨f_is_domain, -⟩ := K01.fn_ex (x := "is_domain") (st := K01.s_is_domain) KX G (by k_is) (by k_is) (by k_is) (by k_is)
    obtain ⟨f_are_names, -⟩ := K01.fn_ex (x := "are_names") (st := K01.s_are_names) KX G (by k_is) (by k_is) (by k_is) (by k_is)
    obtain ⟨f_is_name, -⟩ := K01.fn_ex (x := "is_name") (st := K01.s_is_name) KX G (by k_is) (by k_is) (by k_is) (by k_is)
    obtain ⟨f_ascending, -⟩ := K01.fn_ex (x := "ascending") (st := K01.s_ascending) KX G (by k_is) (by k_is) (by k_is) (by k_is)
    obtain ⟨f_is_integer, -⟩ := K01.fn_ex (x := "is_integer") (st := K01.s_is_integer) KX G (by k_is) (by k_is) (by k_is) (by k_is)
    obtain ⟨f_is_row, -⟩ := K01.fn_ex (x := "is_row") (st := K01.s_is_row) KX G (by k_is) (by k_is) (by k_is) (by k_is)
    obtain ⟨f_all_rows, -⟩ := K01.fn_ex (x := "all_rows") (st := K01.s_all_rows) KX G (by k_is) (by k_is) (by k_is) (by k_is)
    obtain ⟨f_column_of, -⟩ := K01.fn_ex (x := "column_of") (st := K01.s_column_of) KX G (by k_is) (by k_is) (by k_is) (by k_is)
    obtain ⟨f__law_deck, -⟩ := K01.fn_ex (x := "_law_deck") (st := K01.s__law_deck) KX G (by k_is) (by k_is) (by k_is) (by k_is)
    obtain ⟨f__law_draw, -⟩ := K01.fn_ex (x := "_law_draw") (st := K01.s__law_draw) KX G (by k_is) (by k_is) (by k_is) (by k_is)
    obtain ⟨f__law_pick, -⟩ := K01.fn_ex (x := "_law_pick") (st := K01.s__law_pick) KX G (by k_is) (by k_is) (by k_is) (by k_is)
    obtain ⟨f__law_words, -⟩ := K01.fn_ex (x := "_law_words") (st := K01.s__law_words) KX G (by k_is) (by k_is) (by k_is) (by k_is)
    obtain ⟨f__law_mixed, -⟩ := K01.fn_ex (x := "_law_mixed") (st := K01.s__law_mixed) KX G (by k_is) (by k_is) (by k_is) (by k_is)
    obtain ⟨f__law_rows_of, -⟩ := K01.fn_ex (x := "_law_rows_of") (st := K01.s__law_rows_of) KX G (by k_is) (by k_is) (by k_is) (by k_is)
    obtain ⟨f__law_lines, -⟩ := K01.fn_ex (x := "_law_lines") (st := K01.s__law_lines) KX G (by k_is) (by k_is) (by k_is) (by k_is)
    obtain ⟨f__law_is, -⟩ := K01.fn_ex (x := "_law_is") (st := K01.s__law_is) KX G (by k_is) (by k_is) (by k_is) (by k_is)
    obtain ⟨f__law_parts, -⟩ := K01.fn_ex (x := "_law_parts") (st := K01.s__law_parts) KX G (by k_is) (by k_is) (by k_is) (by k_is)
    obtain ⟨f__law_columns_right, -⟩ := K01.fn_ex (x := "_law_columns_right") (st := K01.s__law_columns_right) KX G (by k_is) (by k_is) (by k_is) (by k_is)
    obtain ⟨f__law_picked, -⟩ := K01.fn_ex (x := "_law_picked") (st := K01.s__law_picked) KX G (by k_is) (by k_is) (by k_is) (by k_is)
    obtain ⟨f__law_picked_right, -⟩ := K01.fn_ex (x := "_law_picked_right") (st := K01.s__law_picked_right) KX G (by k_is) (by k_is) (by k_is) (by k_is)
    obtain ⟨f__law_cut_right, -⟩ := K01.fn_ex (x := "_law_cut_right") (st := K01.s__law_cut_right) KX G (by k_is) (by k_is) (by k_is) (by k_is)
    obtain ⟨f__law_product, -⟩ := K01.fn_ex (x := "_law_product") (st := K01.s__law_product) KX G (by k_is) (by k_is) (by k_is) (by k_is)
    obtain ⟨f__law_made_right, -⟩ := K01.fn_ex (x := "_law_made_right") (st := K01.s__law_made_right) KX G (by k_is) (by k_is) (by k_is) (by k_is)
    obtain ⟨f_law, -⟩ := K01.fn_ex (x := "law") (st := K01.s_law) KX G (by k_is) (by k_is) (by k_is) (by k_is)
    obtain ⟨ti, hti, ⟨Z⟩⟩ := K01.mt_ex (x := "Table") (qual := "Table.__init__") (st := K01.s_tabInit) KX (by k_is) (by k_is) (by k_is) (by k_is) (by k_is) (by k_is) (by rfl) (by k_is) (by rfl) (by rfl)
    obtain ⟨tc, hC, J⟩ := K01.tab_ex (f := ti.a) KX G (by k_is) (by k_is) (by k_is) (by k_is) (by k_is) (by k_is) (by rw [hti]; k_is) (by rw [hti]; k_is) (by k_is) (by k_is) (by k_is) (by k_is) (by k_is) (by k_is) (by k_is) (by k_is) (by k_is) (by k_is)
    obtain ⟨m_not, i_not, n_not⟩ := K01.mf_ex KX (C := tc.C) (x := "__invert__") (qual := "Table.__invert__") (st := K01.s_tabNot) (by rw [hC]; k_is) (by k_is) (by k_is) (by k_is) (by k_is)
    obtain ⟨m_eq, i_eq, n_eq⟩ := K01.mf_ex KX (C := tc.C) (x := "__eq__") (qual := "Table.__eq__") (st := K01.s_tabEq) (by rw [hC]; k_is) (by k_is) (by k_is) (by k_is) (by k_is)
    have N : KO.NeC _ tc.C m_eq.a := ⟨by rw [hC]; k_is, by rw [hC]; k_is, i_eq, n_eq⟩
    have R := K01.rd_ex KX (C := tc.C) (mc := .type "type") (by rw [hC]; k_is) (by rw [hC]; k_is)
    obtain ⟨m_full⟩ := K01.cm_ex KX (C := tc.C) (mc := .type "type") (m := "full") (qual := "Table.full") (st := K01.s_tabFull) (by rw [hC]; k_is) (by k_is) (by k_is) (by k_is) (by k_is) (by k_is)
    obtain ⟨m_prod⟩ := K01.cm_ex KX (C := tc.C) (mc := .type "type") (m := "product") (qual := "Table.product") (st := K01.s_tabProduct) (by rw [hC]; k_is) (by k_is) (by k_is) (by k_is) (by k_is) (by k_is)
    obtain ⟨m_col⟩ := K01.mk_ex KX (C := tc.C) (x := "column") (qual := "Table.column") (kn := "place") (ps := ["self", "place"]) (st := K01.s_tabColumn) (by rw [hC]; k_is) (by k_is) (by k_is) (by k_is) (by k_is) (fun _ _ _ _ _ _ _ _ => rfl)
    obtain ⟨m_cut⟩ := K01.mk_ex KX (C := tc.C) (x := "cut") (qual := "Table.cut") (kn := "values") (ps := ["self", "values"]) (st := K01.s_tabCut) (by rw [hC]; k_is) (by k_is) (by k_is) (by k_is) (by k_is) (fun _ _ _ _ _ _ _ _ => rfl)
    obtain ⟨m_picked, M_picked⟩ := K01.mm_ex KX (C := tc.C) (x := "picked") (qual := "Table.picked") (st := K01.s_tabPicked) (by rw [hC]; k_is) (by k_is) (by k_is) (by k_is) (by k_is)
    exact K01.law_ex hmg ⟨B, ⟨f_is_domain, f_are_names, f_is_name, f_ascending, f_is_integer, f_is_row, f_all_rows, f_column_of⟩, ti, tc, J, Z, m_not, i_not, n_not, m_eq, N, (by rw [hC]; k_is), _, R, m_full, K01.cm_kw m_full (fun _ _ _ _ _ _ _ _ _ => rfl), m_prod, m_col, m_picked, M_picked, m_cut,
      f__law_deck, f__law_draw, f__law_pick, f__law_words, f__law_mixed, f__law_rows_of, f__law_lines, f__law_is, f__law_parts, f__law_columns_right, f__law_picked, f__law_picked_right, f__law_cut_right, f__law_product, f__law_made_right⟩ f_law
