import PyProof.Rows.All
import Wide.All
import OpenK.AllK
import Wide.FinOn
import HandS.ForMost
import HandS.Star
import PyProof.ReprRoads
import HandS.Dict
import HandS.Style
import HandS.Evl
import HandS.ExcInit
import HandS.ExcSuper
import HandS.ExcIs
import HandS.ExcField
import KE.KExcInit
import HandS.ExcValue
import HandS.IsInst
import HandS.TupSets
import KE.KeyNested
import KE.SortData
import HandS.StrMore
import HandS.Strs
import HandS.TupAny
import HandS.Defaults
import HandS.Ends
import PySem.Challenge.RW_clashnumber_k01_errors
set_option Elab.async false
set_option linter.all false
set_option maxRecDepth 100000
set_option maxHeartbeats 8000000
/-! Defs that are called where no repr is under way: their promise may lean on repr. -/
namespace KG
open PySem PySem.Spec PyProof.Rows L2

/-- a def's promise where nothing is being shown -/
structure FnG (P : Program) (w : World) (K : PySem.W.Frag) (mg : Str → Option Value) (base : Heap) (CX : CXT) (k : Nat) (f : Addr) (fd : FuncData) (ps : List Str) (sp : Sp) : Prop where
  size : ∀ vs H Q E, sp vs H Q E → vs.length = ps.length
  go : ∀ (A : Around) (outer : List Env) (s : Shared) (H : Hp) (args : Args) (us : List Value) (vs : List V) (Q : VK) (E : XK),
    A.guards = some [] → Room k A → Env0 P w K mg base A outer s H → BindsTo s fd args (ps.zip us) → Vals vs us → sp vs H Q E →
    codeAny (model P w) A (.call (.ref f) args) (CR CX outer P w H s Q E) s

section
variable {P : Program} {w : World} {K : PySem.W.Frag} {mg : Str → Option Value} {base : Heap} {CX : CXT} {k : Nat} {f : Addr} {fd : FuncData} {ps : List Str} {sp : Sp}
theorem FnG.of (F : FnOk P w K mg base CX k f fd ps sp) : FnG P w K mg base CX k f fd ps sp :=
  ⟨F.len, fun A outer s H args us vs Q E _ => F.run A outer s H args us vs Q E⟩
theorem FnG.up {j : Nat} (F : FnG P w K mg base CX j f fd ps sp) (h : j ≤ k) : FnG P w K mg base CX k f fd ps sp :=
  ⟨F.size, fun A outer s H args us vs Q E g hr => F.go A outer s H args us vs Q E g (hr.mono h)⟩

/-- the body's rule, where nothing is being shown -/
theorem okG {x qual : Str} {st : Stmt} {N : List Str} (F : Fun K x qual st f fd) (S : FnScope N ps (defScope st)) (len : ∀ vs H Q E, sp vs H Q E → vs.length = ps.length)
    (hbody : ∀ (cdv : Value) (A : Around) (outer : List Env) (s : Shared) (H : Hp) (vs : List V) (Q : VK) (E : XK),
      (A.deeper (envOfC qual (defScope st) s.heap.objs.size f cdv)).guards = some [] → Room k (A.deeper (envOfC qual (defScope st) s.heap.objs.size f cdv)) → sp vs H Q E →
      ∃ t, PSs (cxOf CX P w K mg base N qual (defScope st) f cdv A outer s H E) (defBody st) t ∧ t { nx := fun _ H' => Q .non H', rt := Q } (start N vs) H) :
    FnG P w K mg base CX (k + 1) f fd ps sp := by
  obtain ⟨oc, od, kV, doc, pm, an, cdv, ct, osl, rfl, lk, hcd⟩ := F.ex
  refine ⟨len, fun A outer s H args us vs Q E hg hr e0 hb rv h => ?_⟩
  refine StX.run_bnd (G := fun xs H2 => xs = vs ∧ H2 = H) lk hcd S hr e0 (fun A' Ex Q' hq => ?_) ?_
  · exact hb _ _ _ _ (hq s H vs us e0 Un.refl rfl (fun _ _ z => z) rv (len _ _ _ _ h) ⟨rfl, rfl⟩)
  · rintro s2 H2 xs ⟨ex, eH⟩ hr2
    rw [ex, eH]
    have hg2 : (A.deeper (envOfC qual (defScope st) s2.heap.objs.size f cdv)).guards = some [] := hg
    rw [eH] at *
    exact hbody cdv A outer s2 H vs Q E hg2 hr2 h
end

section
variable {X : Cx} {CX : CXT} {k : Nat} {f : Addr} {fd : FuncData} {ps : List Str} {sp : Sp} {dvs : List V} {ds : List Value} {E : XK} {x : Str} {p pos : Pos} {e : Expr} {es : List Expr} {t : TA}
/-- f(e, ..) where nothing is being shown -/
theorem pe_callG (F : FnG X.prog X.w X.K X.mg X.base CX k f fd ps sp) (hgu : X.A.guards = some []) (hr : Room k X.A) (hg : Gl X x) (hm : X.mg x = some (.ref f)) (hk : PySem.W.keepIn X.K (.ref f) = true)
    (hb : Binds X.K fd ps ds) (hd : Vals dvs ds) (hx : Passes CX X E) (ha : PA X (e :: es) t) (hdb : (x == ("__debug__" : Str)) = false := by decide)
    (he : starEach (e :: es) X.env = (false, eval e X.env) :: starEach es X.env := by rfl) (hpl : (backTo pos (starEach es X.env)).any (·.1) = false := by rfl) :
    PE X (.Call (.Name x p) (e :: es) [] pos) (tCall sp dvs E t) := by
  constructor
  intro pins s σ H Q I h
  apply wpAny_Call_Name_kw (ld_glob I hg hm ?_ hdb)
  apply PySem.W.callWith_K (h₀ := X.base) I.ok.mod.kin hk ?_ he hpl
  apply thn (ha.run pos pins s σ H _ I h)
  rintro us s1 ⟨vs, H1, I1, r, q⟩
  refine ⟨I1.kIn, ?_⟩
  have r2 : Vals (vs ++ dvs) (us ++ ds) := Vals.append r hd
  have hl : (us ++ ds).length = ps.length := by
    rw [← Paired.length r2]
    exact F.size _ _ _ _ q
  show wpAny _ _ (call (.ref f) us) _ _ _
  refine wpAny_call (codeAny_mono (F.go X.A X.stack s1 H1 ⟨us, []⟩ (us ++ ds) (vs ++ dvs) Q E hgu hr I1.env0 (hb s1 us I1.kIn hl) r2 q) ?_)
  rintro (er | fl) s' hq
  · exact hx pins σ H1 s1 er s' I1 hq
  · cases fl with
    | ret u => exact Inv.after I1 hq
    | next => exact hq.elim
    | brk => exact hq.elim
    | cont => exact hq.elim
end
end KG
namespace KG
open PySem PySem.Spec PyProof.Rows L2

mutual
/-- what is built of None, bools, ints, texts, lists, tuples and dicts that stand in the abstract heap, at addresses of Z alone -/
inductive Dq (Z : Addr → Prop) (H : Hp) : V → PyData → Prop
  | non : Dq Z H .non .none
  | bl (b : Bool) : Dq Z H (.bl b) (.bool b)
  | int (i : Int) : Dq Z H (.int i) (.int i)
  | str (x : Str) : Dq Z H (.str x) (.str x)
  | lst {a : Addr} {xs : List V} {ds : List PyData} : Z a → H a = some (.lst xs) → DqAll Z H xs ds → Dq Z H (.ref a) (.list ds)
  | tup {a : Addr} {xs : List V} {ds : List PyData} : Z a → H a = some (.tup xs) → DqAll Z H xs ds → Dq Z H (.ref a) (.tuple ds)
  | dct {a : Addr} {kvs : List (Key × V)} {ps : List (PyData × PyData)} : Z a → H a = some (.dK kvs) →
      DqAll Z H (kvs.map fun p => kV p.1) (ps.map (·.1)) → DqAll Z H (kvs.map fun p => p.2) (ps.map (·.2)) → Dq Z H (.ref a) (.dict ps)
inductive DqAll (Z : Addr → Prop) (H : Hp) : List V → List PyData → Prop
  | nil : DqAll Z H [] []
  | cons {v : V} {vs : List V} {d : PyData} {ds : List PyData} : Dq Z H v d → DqAll Z H vs ds → DqAll Z H (v :: vs) (d :: ds)
end

section
variable {Z : Addr → Prop} {H H' : Hp}
mutual
theorem Dq.keep (e : ∀ b o, Z b → H b = some o → H' b = some o) : ∀ {v : V} {d : PyData}, Dq Z H v d → Dq Z H' v d
  | _, _, .non => .non
  | _, _, .bl b => .bl b
  | _, _, .int i => .int i
  | _, _, .str x => .str x
  | _, _, .lst z h a => .lst z (e _ _ z h) (DqAll.keep e a)
  | _, _, .tup z h a => .tup z (e _ _ z h) (DqAll.keep e a)
  | _, _, .dct z h a b => .dct z (e _ _ z h) (DqAll.keep e a) (DqAll.keep e b)
theorem DqAll.keep (e : ∀ b o, Z b → H b = some o → H' b = some o) : ∀ {vs : List V} {ds : List PyData}, DqAll Z H vs ds → DqAll Z H' vs ds
  | _, _, .nil => .nil
  | _, _, .cons a b => .cons (Dq.keep e a) (DqAll.keep e b)
end
mutual
theorem Dq.mono {Z' : Addr → Prop} (e : ∀ b, Z b → Z' b) : ∀ {v : V} {d : PyData}, Dq Z H v d → Dq Z' H v d
  | _, _, .non => .non
  | _, _, .bl b => .bl b
  | _, _, .int i => .int i
  | _, _, .str x => .str x
  | _, _, .lst z h a => .lst (e _ z) h (DqAll.mono e a)
  | _, _, .tup z h a => .tup (e _ z) h (DqAll.mono e a)
  | _, _, .dct z h a b => .dct (e _ z) h (DqAll.mono e a) (DqAll.mono e b)
theorem DqAll.mono {Z' : Addr → Prop} (e : ∀ b, Z b → Z' b) : ∀ {vs : List V} {ds : List PyData}, DqAll Z H vs ds → DqAll Z' H vs ds
  | _, _, .nil => .nil
  | _, _, .cons a b => .cons (Dq.mono e a) (DqAll.mono e b)
end
theorem Dq.same (e : Same H H') {v : V} {d : PyData} (h : Dq Z H v d) : Dq Z H' v d := h.keep fun b o _ q => e b o q
theorem DqAll.same (e : Same H H') {vs : List V} {ds : List PyData} (h : DqAll Z H vs ds) : DqAll Z H' vs ds := h.keep fun b o _ q => e b o q
theorem DqAll.length : ∀ {vs : List V} {ds : List PyData}, DqAll Z H vs ds → vs.length = ds.length
  | _, _, .nil => rfl
  | _, _, .cons _ b => congrArg (· + 1) (DqAll.length b)
theorem DqAll.snoc {v : V} {d : PyData} (h : Dq Z H v d) : ∀ {vs : List V} {ds : List PyData}, DqAll Z H vs ds → DqAll Z H (vs ++ [v]) (ds ++ [d])
  | _, _, .nil => .cons h .nil
  | _, _, .cons a b => .cons a (DqAll.snoc h b)
end
mutual
/-- at most how long the text of data is -/
def cost : PyData → Nat
  | .none => 4
  | .bool _ => 5
  | .int i => i.natAbs.log2 + 3
  | .str x => (reprText x).length
  | .list xs => costAll xs + 4
  | .tuple xs => costAll xs + 6
  | .dict kvs => costKv kvs + 4
def costAll : List PyData → Nat
  | [] => 0
  | x :: xs => cost x + 2 + costAll xs
def costKv : List (PyData × PyData) → Nat
  | [] => 0
  | (k, v) :: r => cost k + cost v + 4 + costKv r
end
theorem list_len (ts : List Str) : (listText ts).length ≤ piled ts + 2 := by
  have h : (listText ts).length = (textFrom 0 "[" ts).length + 1 := by
    show (textFrom 0 "[" ts ++ "]").length = _
    rw [strLen_append]; rfl
  cases ts with
  | nil => rw [h]; exact Nat.le_refl _
  | cons t r =>
    have e : textFrom 0 "[" (t :: r) = textFrom 1 (("[" : Str) ++ (if 0 > 0 then ", " else "" : String) ++ t) r := rfl
    rw [h, e, textFrom_length_pos r 1 _ (by decide), strLen_append, strLen_append]
    show 1 + 0 + t.length + piled r + 1 ≤ t.length + 2 + piled r + 2
    omega
theorem tuple_len (ts : List Str) : (tupleText ts).length ≤ piled ts + 4 := by
  have h : (tupleText ts).length ≤ 1 + (Str.join ", " ts).length + 2 := by
    unfold tupleText
    rw [strLen_append, strLen_append]
    have : (Str.ofString (if ts.length == 1 then ",)" else ")" : String)).length ≤ 2 := by
      split <;> decide
    have e : (("(" : Str)).length = 1 := rfl
    omega
  cases ts with
  | nil => exact Nat.le_trans h (by decide)
  | cons t r =>
    have := join_length_add (t :: r) (by simp)
    omega
theorem dict_len (ts : List Str) : (dictText ts).length ≤ piled ts + 2 := by
  have h : (dictText ts).length = 1 + (Str.join ", " ts).length + 1 := by
    unfold dictText
    rw [strLen_append, strLen_append]
    rfl
  cases ts with
  | nil => exact Nat.le_trans (Nat.le_of_eq h) (by decide)
  | cons t r =>
    have := join_length_add (t :: r) (by simp)
    omega
mutual
theorem shown_cost : ∀ d : PyData, d.shown.length ≤ cost d
  | .none => by simp only [PyData.shown, cost]; decide
  | .bool b => by cases b <;> simp only [PyData.shown, cost] <;> decide
  | .int i => by
    simp only [PyData.shown, cost]
    have := int_text_length_le (a := i) (k := i.natAbs.log2 + 1) (by omega) (by omega)
    rw [PySem.ofString_length]
    omega
  | .str x => by simp only [PyData.shown, cost]; exact Nat.le_refl _
  | .list xs => by
    simp only [PyData.shown, cost]
    have := list_len (PyData.shownAll xs)
    have := shownAll_cost xs
    omega
  | .tuple xs => by
    simp only [PyData.shown, cost]
    have := tuple_len (PyData.shownAll xs)
    have := shownAll_cost xs
    omega
  | .dict kvs => by
    simp only [PyData.shown, cost]
    have := dict_len (PyData.shownKv kvs)
    have := shownKv_cost kvs
    omega
theorem shownAll_cost : ∀ xs : List PyData, piled (PyData.shownAll xs) ≤ costAll xs
  | [] => by simp only [PyData.shownAll, costAll]; exact Nat.le_refl _
  | x :: xs => by
    have := shown_cost x
    have := shownAll_cost xs
    have e : piled (PyData.shownAll (x :: xs)) = (x.shown.length + 2) + piled (PyData.shownAll xs) := by simp only [PyData.shownAll, piled, List.map_cons, List.sum_cons]
    rw [e]
    simp only [costAll]
    omega
theorem shownKv_cost : ∀ kvs : List (PyData × PyData), piled (PyData.shownKv kvs) ≤ costKv kvs
  | [] => by simp only [PyData.shownKv, costKv]; exact Nat.le_refl _
  | (k, v) :: r => by
    have h1 := shown_cost k
    have h2 := shown_cost v
    have h3 := shownKv_cost r
    have e : ((": " : Str)).length = 2 := rfl
    have q : piled (PyData.shownKv ((k, v) :: r)) = ((k.shown ++ ": " ++ v.shown).length + 2) + piled (PyData.shownKv r) := by simp only [PyData.shownKv, piled, List.map_cons, List.sum_cons]
    rw [q, strLen_append, strLen_append, e]
    simp only [costKv]
    omega
end

theorem rel_key {P : Program} {w : World} {k : Key} {u : Value} (h : (mixKind P w).is k u = true) : RelV (kV k) u := by
  rcases keyIs_shape h with ⟨i, t, rfl, rfl⟩ | ⟨x, t, rfl, rfl⟩
  · exact ⟨t, rfl⟩
  · exact ⟨t, rfl⟩
theorem pairs_keys {P : Program} {w : World} : ∀ {es : List DictEntry} {vs : List (Key × Value)} {kvs : List (Key × V)}, Pairs (mixKind P w) es vs → KV kvs vs →
    Vals (kvs.map fun p => kV p.1) (es.map (·.key)) ∧ Vals (kvs.map fun p => p.2) (es.map (·.val))
  | _, _, _, .nil, .nil => ⟨.nil, .nil⟩
  | _, _, _, .cons h1 h2 h3, .cons h4 h5 => by
    obtain ⟨e1, e2⟩ := h4
    obtain ⟨i1, i2⟩ := pairs_keys h3 h5
    refine ⟨.cons ?_ i1, .cons ?_ i2⟩
    · show RelV (kV _) _
      rw [e1]
      exact rel_key h1
    · show L2.RelV _ (DictEntry.val _)
      rw [h2]
      exact e2

section
variable {X : Cx} {pins : List (Addr × Obj)} {σ : L2.St} {H : Hp} {s : Shared} {Z : Addr → Prop}
theorem shown_mem {ds : List PyData} {n : Nat} (f : List Str → Str) (hf : ∀ {ts : List Str} {t : Str}, t ∈ ts → t.length ≤ (f ts).length) (h : (f (PyData.shownAll ds)).length ≤ n) : ∀ t ∈ PyData.shownAll ds, t.length ≤ n :=
  fun _ ht => Nat.le_trans (hf ht) h
mutual
theorem Dq.shows (I : Inv X pins σ H s) : ∀ {v : V} {d : PyData}, Dq Z H v d → ∀ (u : Value), RelV v u → d.showable = true → d.shown.length ≤ sizeLine →
    ∃ as bs, Reads s.heap u d as ∧ ReadAtMost s.heap d.depth bs ∧ ReprK X.prog X.w bs s.heap d.depth u d.shown
  | _, _, .non, u, r, _, _ => by
    obtain rfl : u = Value.none := r
    exact ⟨[], [], .none, (fun _ h => nomatch h), by simp only [PyData.shown]; exact .of_is ReprIs.none _ _ _⟩
  | _, _, .bl b, u, r, _, _ => by
    obtain rfl : u = Value.bool b := r
    exact ⟨[], [], .bool b, (fun _ h => nomatch h), by simp only [PyData.shown]; exact .of_is (ReprIs.bool b) _ _ _⟩
  | _, _, .int i, u, r, hs, _ => by
    obtain ⟨t, rfl⟩ := r
    exact ⟨[], [], .int i t, (fun _ h => nomatch h), by simp only [PyData.shown]; exact .of_is (ReprIs.int t (by simpa [PyData.showable] using hs)) _ _ _⟩
  | _, _, .str x, u, r, _, hz => by
    obtain ⟨t, rfl⟩ := r
    exact ⟨[], [], .str x t, (fun _ h => nomatch h), by simp only [PyData.shown] at hz ⊢; exact .of_is (ReprIs.str x t hz) _ _ _⟩
  | _, _, .lst (a := a) (ds := ds) _ ha hd, u, r, hs, hz => by
    obtain rfl : u = Value.ref a := r
    simp only [PyData.shown, PyData.showable] at hs hz
    obtain ⟨_, its, n, rv, ho⟩ := (show ObjOk X.prog X.w H s.heap a (.lst _) from I.hok a _ ha)
    obtain ⟨as, bs, q1, q2, q3⟩ := DqAll.shows I hd its rv hs (shown_mem listText listText_mem_le hz)
    have rr : Reads s.heap (.ref a) (.list ds) (a :: as) := .list ho rfl rfl (by simpa using q1)
    have hna : a ∉ bs := not_mem_of_deeper rr (by simp only [PyData.depth]; omega) q2
    refine ⟨_, a :: bs, rr, ReadAtMost.cons rr (by simp only [PyData.depth]; omega) q2, ?_⟩
    simp only [PyData.depth, PyData.shown]
    cases its with
    | nil =>
      cases q1
      simp only [PyData.shownAll, listText_nil]
      exact ReprK.listEmpty ho rfl rfl
    | cons x l => exact ReprK.list ho rfl rfl hna (by simpa using q3.length_eq) (fun i y e => q3.item i y (by simpa using e))
  | _, _, .tup (a := a) (ds := ds) _ ha hd, u, r, hs, hz => by
    obtain rfl : u = Value.ref a := r
    simp only [PyData.shown, PyData.showable] at hs hz
    obtain ⟨_, its, rv, o, ho, hc, n, hdat⟩ := (show ObjOk X.prog X.w H s.heap a (.tup _) from I.hok a _ ha)
    obtain ⟨as, bs, q1, q2, q3⟩ := DqAll.shows I hd its rv hs (shown_mem tupleText tupleText_mem_le hz)
    have rr : Reads s.heap (.ref a) (.tuple ds) as := .tuple ho hc hdat (by simpa using q1)
    have hna : a ∉ bs := not_mem_of_deeper rr (by simp only [PyData.depth]; omega) q2
    refine ⟨_, a :: bs, rr, ReadAtMost.cons rr (by simp only [PyData.depth]; omega) q2, ?_⟩
    simp only [PyData.depth, PyData.shown]
    exact ReprK.tuple ho hc hdat hna (by simpa using q3)
  | _, _, .dct (a := a) (ps := ps) _ ha hk hv, u, r, hs, hz => by
    obtain rfl : u = Value.ref a := r
    simp only [PyData.shown, PyData.showable] at hs hz
    obtain ⟨_, hsy, vs, rel, o, es, ep, ho, hx, hdat, _, prs, _⟩ := dk_of I.hok ha
    obtain ⟨r1, r2⟩ := pairs_keys prs rel
    obtain ⟨hs1, hs2⟩ := PyData.showableKv_split ps hs
    obtain ⟨as1, b1, q1, q2, q3⟩ := DqAll.shows I hk _ r1 hs1 (fun t ht => let ⟨p, hp, hl⟩ := PyData.shownKv_key_le ps t ht; Nat.le_trans hl (Nat.le_trans (dictText_mem_le hp) hz))
    obtain ⟨as2, b2, p1, p2, p3⟩ := DqAll.shows I hv _ r2 hs2 (fun t ht => let ⟨p, hp, hl⟩ := PyData.shownKv_val_le ps t ht; Nat.le_trans hl (Nat.le_trans (dictText_mem_le hp) hz))
    have hb : ReadAtMost s.heap (PyData.depthKv ps) (b1 ++ b2) := (q2.mono (PyData.depthAll_keys_le ps)).append (p2.mono (PyData.depthAll_vals_le ps))
    have rr : Reads s.heap (.ref a) (.dict ps) (a :: as1 ++ as2) := .dict ho hx.1 hdat q1 p1
    have hna : a ∉ b1 ++ b2 := not_mem_of_deeper rr (by simp only [PyData.depth]; omega) hb
    refine ⟨_, a :: (b1 ++ b2), rr, ReadAtMost.cons rr (by simp only [PyData.depth]; omega) hb, ?_⟩
    simp only [PyData.depth, PyData.shown, PyData.shownKv_eq]
    exact ReprK.dict ho hx.1 hdat hsy hna (ReprEntriesK.of_two es.toList _ _ (q3.more_le (fun b hb => List.mem_append_left _ hb) (PyData.depthAll_keys_le ps))
      (p3.more_le (fun b hb => List.mem_append_right _ hb) (PyData.depthAll_vals_le ps)))
theorem DqAll.shows (I : Inv X pins σ H s) : ∀ {xs : List V} {ds : List PyData}, DqAll Z H xs ds → ∀ (us : List Value), Vals xs us → PyData.showableAll ds = true → (∀ t ∈ PyData.shownAll ds, t.length ≤ sizeLine) →
    ∃ as bs, ReadsAll s.heap us ds as ∧ ReadAtMost s.heap (PyData.depthAll ds) bs ∧ ReprAllK X.prog X.w bs s.heap (PyData.depthAll ds) us (PyData.shownAll ds)
  | _, _, .nil, us, r, _, _ => by
    cases r
    exact ⟨[], [], .nil, (fun _ h => nomatch h), by simp only [PyData.shownAll]; exact .nil⟩
  | _, _, .cons (d := d) (ds := ds) h1 h2, us, r, hs, hz => by
    cases r with
    | cons r1 r2 =>
      simp only [PyData.showableAll, Bool.and_eq_true] at hs
      obtain ⟨as1, b1, q1, q2, q3⟩ := Dq.shows I h1 _ r1 hs.1 (hz _ (by simp only [PyData.shownAll]; exact List.mem_cons_self ..))
      obtain ⟨as2, b2, p1, p2, p3⟩ := DqAll.shows I h2 _ r2 hs.2 (fun t ht => hz t (by simp only [PyData.shownAll]; exact List.mem_cons_of_mem _ ht))
      refine ⟨as1 ++ as2, b1 ++ b2, .cons q1 p1, ?_, ?_⟩
      · simp only [PyData.depthAll]
        exact (q2.mono (Nat.le_max_left _ _)).append (p2.mono (Nat.le_max_right _ _))
      · simp only [PyData.depthAll, PyData.shownAll]
        exact .cons ((q3.more fun b hb => List.mem_append_left _ hb).level_le (Nat.le_max_left _ _)) (p3.more_le (fun b hb => List.mem_append_right _ hb) (Nat.le_max_right _ _))
end

/-- repr(x) of data -/
def rRepr : List V → Hp → VK → Prop := fun xs H Q => ∃ (Z : Addr → Prop) (x : V) (d : PyData), xs = [x] ∧ Dq Z H x d ∧ d.showable = true ∧ d.depth ≤ 60 ∧ d.shown.length ≤ sizeLine ∧ Q (.str d.shown) H
theorem call_repr (hg : X.A.guards = some []) (hu : X.A.units + 64 < cLine) : CallR X (.builtin "repr") rRepr := by
  intro pins s σ H xs us Q I r h
  obtain ⟨Z, x, d, rfl, hd, hs, hdp, hz, q⟩ := h
  obtain ⟨u, rfl, rx⟩ := vals1 r
  have fin : ∀ (h' : Heap) (tu : Tok) (tk : Nat), (∀ b o, s.heap.get? b = some o → h'.get? b = some o) → EP X pins σ Q (.str d.shown tu) { s with heap := h', toks := tk } := fun h' tu tk k =>
    ⟨.str d.shown, H, I.kept k, ⟨tu, rfl⟩, q⟩
  have hu2 : X.A.units + 1 < cLine := by omega
  have big : ∀ {n : Nat}, n + 1 ≤ 60 → X.A.in1.units + (n + 1) < cLine := fun {n} hn => by
    show X.A.units + 1 + (n + 1) < cLine
    omega
  obtain ⟨as, bs, rd, ra, rk⟩ := Dq.shows I hd u rx hs hz
  cases hd with
  | non =>
    obtain rfl : u = Value.none := rx
    simp only [PyData.shown] at fin
    exact PySem.P.repr_of_none (fin s.heap _ _ fun _ _ e => e)
  | bl b =>
    obtain rfl : u = Value.bool b := rx
    simp only [PyData.shown] at fin
    exact PySem.P.repr_of_bool (fin s.heap _ _ fun _ _ e => e)
  | int i =>
    obtain ⟨t, rfl⟩ := rx
    simp only [PyData.shown, PyData.showable] at fin hs
    exact PySem.P.repr_of_int (by simpa using hs) (fin s.heap _ _ fun _ _ e => e)
  | str y =>
    obtain ⟨t, rfl⟩ := rx
    simp only [PyData.shown] at fin hz
    exact PySem.P.repr_of_str (fin s.heap _ _ fun _ _ e => e) hz
  | @lst a xs ds _ ha hd =>
    obtain rfl : u = Value.ref a := rx
    simp only [PyData.shown, PyData.showable, PyData.depth] at fin hs hz hdp
    obtain ⟨_, its, n, rv, ho⟩ := (show ObjOk X.prog X.w H s.heap a (.lst _) from I.hok a _ ha)
    obtain ⟨as1, b1, q1, q2, q3⟩ := DqAll.shows I hd its rv hs (shown_mem listText listText_mem_le hz)
    have rr : Reads s.heap (.ref a) (.list ds) (a :: as1) := .list ho rfl rfl (by simpa using q1)
    have hna : a ∉ b1 := not_mem_of_deeper rr (by simp only [PyData.depth]; omega) q2
    cases its with
    | nil =>
      cases q1
      simp only [PyData.shownAll, listText_nil] at fin
      exact call_repr_slot hu2 ⟨_, ho, rfl⟩ F.slot_list_repr.toG (call_list_repr_empty ⟨_, ho, rfl⟩ ho rfl ⟨_, _, rfl, fin s.heap _ _ fun _ _ e => e⟩)
    | cons x l =>
      exact call_repr_slot hu2 ⟨_, ho, rfl⟩ F.slot_list_repr.toG (call_list_reprK (h₀ := s.heap) ho rfl rfl hna (by simpa using q3.length_eq) (fun i y e => q3.item i y (by simpa using e)) hg (fun b _ => Clear.nil b) (big hdp)
        (fun _ _ e => e) (fun h' t tk k => ⟨_, _, rfl, fin h' _ _ k⟩) hz)
  | @tup a xs ds _ ha hd =>
    obtain rfl : u = Value.ref a := rx
    simp only [PyData.shown, PyData.showable, PyData.depth] at fin hs hz hdp
    obtain ⟨_, its, rv, o, ho, hc, n, hdat⟩ := (show ObjOk X.prog X.w H s.heap a (.tup _) from I.hok a _ ha)
    obtain ⟨as1, b1, q1, q2, q3⟩ := DqAll.shows I hd its rv hs (shown_mem tupleText tupleText_mem_le hz)
    have rr : Reads s.heap (.ref a) (.tuple ds) as1 := .tuple ho hc hdat (by simpa using q1)
    have hna : a ∉ b1 := not_mem_of_deeper rr (by simp only [PyData.depth]; omega) q2
    exact call_repr_slot hu2 ⟨_, ho, hc⟩ F.slot_tuple_repr (call_tuple_reprK (h₀ := s.heap) ho hc hdat hna (by simpa using q3) hg (fun b _ => Clear.nil b) (big hdp) (fun _ _ e => e) (fun h' t tk k => ⟨_, _, rfl, fin h' _ _ k⟩) hz)
  | @dct a kvs ps _ ha hk hv =>
    obtain rfl : u = Value.ref a := rx
    simp only [PyData.shown, PyData.showable, PyData.depth, PyData.shownKv_eq] at fin hs hz hdp
    rw [← PyData.shownKv_eq] at hz
    obtain ⟨_, hsy, vs, rel, o, es, ep, ho, hx, hdat, _, prs, _⟩ := dk_of I.hok ha
    obtain ⟨r1, r2⟩ := pairs_keys prs rel
    obtain ⟨hs1, hs2⟩ := PyData.showableKv_split ps hs
    obtain ⟨as1, b1, q1, q2, q3⟩ := DqAll.shows I hk _ r1 hs1 (fun t ht => let ⟨p, hp, hl⟩ := PyData.shownKv_key_le ps t ht; Nat.le_trans hl (Nat.le_trans (dictText_mem_le hp) hz))
    obtain ⟨as2, b2, p1, p2, p3⟩ := DqAll.shows I hv _ r2 hs2 (fun t ht => let ⟨p, hp, hl⟩ := PyData.shownKv_val_le ps t ht; Nat.le_trans hl (Nat.le_trans (dictText_mem_le hp) hz))
    have hb : ReadAtMost s.heap (PyData.depthKv ps) (b1 ++ b2) := (q2.mono (PyData.depthAll_keys_le ps)).append (p2.mono (PyData.depthAll_vals_le ps))
    have rr : Reads s.heap (.ref a) (.dict ps) (a :: as1 ++ as2) := .dict ho hx.1 hdat q1 p1
    have hna : a ∉ b1 ++ b2 := not_mem_of_deeper rr (by simp only [PyData.depth]; omega) hb
    exact call_repr_slot hu2 ⟨_, ho, hx.1⟩ F.slot_dict_repr (call_dict_reprK (h₀ := s.heap) ho hx.1 hdat hsy hna (ReprEntriesK.of_two es.toList _ _ (q3.more_le (fun b hb => List.mem_append_left _ hb) (PyData.depthAll_keys_le ps))
      (p3.more_le (fun b hb => List.mem_append_right _ hb) (PyData.depthAll_vals_le ps))) hg (fun b _ => Clear.nil b) (big hdp) (fun _ _ e => e) (fun h' t tk k => ⟨_, _, rfl, fin h' _ _ k⟩) (by rw [← PyData.shownKv_eq]; exact hz))
end
end KG
/-! The deck: a dict with cells to come, a mixed number, a count of draws. -/
namespace K01
open PySem PySem.Spec PyProof.Rows L2 KG

def top (i : Nat) : Stmt := PySem.Challenge.pw_clashnumber_k01_errors.main.body.getD i (.Pass ⟨0, 0, 0, 0⟩)
/-- a def of the text: where it stands -/
structure FnF (K : PySem.W.Frag) (mg : Str → Option Value) (name qual : Str) (st : Stmt) where
  a : Addr
  d : FuncData
  F : Fun K name qual st a d
  g : mg name = some (.ref a)
/-- the names that are still built in -/
structure Bi (mg : Str → Option Value) : Prop where
  n_list : mg "list" = none
  n_int : mg "int" = none
  n_len : mg "len" = none
  n_range : mg "range" = none
  n_tuple : mg "tuple" = none
  n_repr : mg "repr" = none
  n_isinstance : mg "isinstance" = none
abbrev s__law_deck : Stmt := top 35
abbrev s__law_draw : Stmt := top 36
abbrev s__law_pick : Stmt := top 37

/-! ### the deck in the heap -/
def dkv (l : Addr) (m n : Int) : List (Key × V) := [(.inr "cells", .ref l), (.inr "mixed", .int m), (.inr "draws", .int n)]
structure DeckAt (H : Hp) (a l : Addr) (k : Nat) : Prop where
  ex : ∃ (cs : List Int) (m : Int) (n : Nat), H a = some (.dK (dkv l m n)) ∧ H l = some (.lst (cs.map .int)) ∧ cs.length ≤ 63 ∧ 0 ≤ m ∧ m < 2147483587 ∧ n ≤ k
/-- all but the deck's two objects stands -/
def Off (a l : Addr) (H H' : Hp) : Prop := ∀ b o, H b = some o → b ≠ a → b ≠ l → H' b = some o
theorem Off.refl {a l : Addr} {H : Hp} : Off a l H H := fun _ _ h _ _ => h
theorem Off.trans {a l : Addr} {H H1 H2 : Hp} (x : Off a l H H1) (y : Off a l H1 H2) : Off a l H H2 := fun b o h h1 h2 => y b o (x b o h h1 h2) h1 h2
theorem Off.of {a l : Addr} {H H' : Hp} (x : Same H H') : Off a l H H' := fun b o h _ _ => x b o h
theorem DeckAt.up {H : Hp} {a l : Addr} {j k : Nat} (x : DeckAt H a l j) (h : j ≤ k) : DeckAt H a l k := by
  obtain ⟨cs, m, n, h1, h2, h3, h4, h5, h6⟩ := x.ex
  exact ⟨cs, m, n, h1, h2, h3, h4, h5, Nat.le_trans h6 h⟩
theorem DeckAt.same {H H' : Hp} {a l : Addr} {k : Nat} (x : DeckAt H a l k) (e : Same H H') : DeckAt H' a l k := by
  obtain ⟨cs, m, n, h1, h2, h3⟩ := x.ex
  exact ⟨cs, m, n, e _ _ h1, e _ _ h2, h3⟩

theorem val_cells (l : Addr) (m n : Int) : valV (dkv l m n) (.inr "cells") = some (.ref l) := by
  show valV [_, _, _] _ = _
  simp [valV]
theorem val_mixed (l : Addr) (m n : Int) : valV (dkv l m n) (.inr "mixed") = some (.int m) := by
  have h1 : ¬ ("cells" : Str) = "mixed" := by decide +kernel
  show valV [_, _, _] _ = _
  simp [valV, h1]
theorem val_draws (l : Addr) (m n : Int) : valV (dkv l m n) (.inr "draws") = some (.int n) := by
  have h1 : ¬ ("cells" : Str) = "draws" := by decide +kernel
  have h2 : ¬ ("mixed" : Str) = "draws" := by decide +kernel
  show valV [_, _, _] _ = _
  simp [valV, h1, h2]
theorem put_draws (l : Addr) (m n k : Int) : putK (dkv l m n) (.inr "draws") (.int k) = dkv l m k := by
  have h1 : ¬ ("cells" : Str) = "draws" := by decide +kernel
  have h2 : ¬ ("mixed" : Str) = "draws" := by decide +kernel
  show putK [_, _, _] _ _ = _
  simp [putK, h1, h2, dkv]
theorem put_mixed (l : Addr) (m n k : Int) : putK (dkv l m n) (.inr "mixed") (.int k) = dkv l k n := by
  have h1 : ¬ ("cells" : Str) = "mixed" := by decide +kernel
  have h2 : ¬ ("draws" : Str) = "mixed" := by decide +kernel
  show putK [_, _, _] _ _ = _
  simp [putK, h1, h2, dkv]
theorem merge_deck (l : Addr) (m n : Int) : mergeK [] (dkv l m n) = dkv l m n := by
  have h1 : ¬ ("cells" : Str) = "mixed" := by decide +kernel
  have h2 : ¬ ("cells" : Str) = "draws" := by decide +kernel
  have h3 : ¬ ("mixed" : Str) = "draws" := by decide +kernel
  simp [mergeK, dkv, putK, h1, h2, h3]

/-! ### _law_deck -/
def spDeck (K : PySem.W.Frag) : Sp := fun vs H Q _ => ∃ (a : Addr) (ns : List Int), vs = [.ref a] ∧ SqL K H a (ns.map V.int) ∧ ns.length ≤ 63 ∧
  ∀ (d l : Addr) (H' : Hp), H d = none → H l = none → Same H H' → DeckAt H' d l 0 → Q (.ref d) H'
theorem cut_len {xs : List V} {i : Int} (h : xs.length ≤ 63) : (cutV xs none (some i)).length ≤ 63 := by
  unfold cutV
  rw [List.length_take, List.length_drop]
  omega
theorem cut_map {ns : List Int} {lo hi : Option Int} : ∃ ms : List Int, cutV (ns.map V.int) lo hi = ms.map V.int := by
  unfold cutV
  exact ⟨(ns.drop _).take _, by rw [List.map_take, List.map_drop]⟩
section
variable {P : Program} {w : World} {K : PySem.W.Frag} {mg : Str → Option Value} {base : Heap}
theorem sc__law_deck : FnScope ["_law_script", "_law_cells", "_law_mixed", "_law_cell"] ["_law_script"] (defScope s__law_deck) := ⟨rfl, rfl, rfl, by decide +kernel, rfl, by decide +kernel, by decide +kernel⟩
theorem ok__law_deck (B : Bi mg) (f : FnF K mg "_law_deck" "_law_deck" s__law_deck) : FnOk P w K mg base CX0 1 f.a f.d ["_law_script"] (spDeck K) := by
  refine f.F.ok sc__law_deck (fun vs H Q E h => ?_) (fun cdv A outer s H vs Q E hr h => ?_)
  · obtain ⟨a, ns, rfl, _⟩ := h
    rfl
  · obtain ⟨a, ns, rfl, hS, hlen, k⟩ := h
    have hu := hu_of hr
    refine ⟨_, (pss_cons
      (ps_par (i := 1) (j := 2) (by rfl) sc__law_deck.nd rfl rfl (by decide) rfl rfl (pa_cons (pe_callTy call_list_of (by rfl) B.n_list (by decide +kernel) (pa_cons (pe_slice sl_list (pv 0) po_none (po_some pe_int)) pa_nil)) (pa_cons pe_int pa_nil)) (by rfl))
    (pss_cons
      (ps_for PassesOwn.never rfl (pi_list (pe_slice sl_list (pv 0) po_none (po_some pe_int))) (pg_name (i := 3) sc__law_deck.nd rfl (Or.inl rfl))
        (pss_one
          (ps_set (i := 2) sc__law_deck.nd rfl (Or.inl rfl) (pe_op op_mod (pe_callTy call_int1 (by rfl) B.n_int (by decide +kernel) (pa_cons (pe_op op_add (pe_op op_add (pe_op op_mul (pv 2) pe_int) (pe_op op_mod (pe_callTy call_int1 (by rfl) B.n_int (by decide +kernel) (pa_cons (pv 3) pa_nil)) pe_int)) pe_int) pa_nil)) pe_int))))
    (pss_one
      (ps_ret (pe_disp (pps_cons pe_str (pe_revL (pv 1)) (pps_cons pe_str (pv 2) (pps_cons pe_str pe_int pps_nil))) (by rfl) (by rfl) (fun z => by cases z) (by decide)))))), ?_⟩
    -- list(script[:63]), 61001
    refine ⟨_, rfl, 63, rfl, a, _, rfl, hS, fun p hp => ⟨p, _, rfl, .inl (SqL.of upd_same), fun l hl => ⟨_, _, rfl, ?_⟩⟩⟩
    obtain ⟨ms, ems⟩ := cut_map (ns := ns) (lo := none) (hi := some 63)
    have lms : ms.length ≤ 63 := by
      have := cut_len (xs := ns.map V.int) (i := 63) (by rw [List.length_map]; exact hlen)
      rw [ems, List.length_map] at this
      exact this
    rw [ems] at hl ⊢
    have e1 : Same H (upd H p (.lst (ms.map V.int))) := fun b o e => by rw [upd_ne (ne_of_none e hp)]; exact e
    have e2 : Same H (upd (upd H p (.lst (ms.map V.int))) l (.lst (ms.map V.int))) := fun b o e => by rw [upd_ne (ne_of_none (e1 b o e) hl)]; exact e1 b o e
    -- for cell in script[:63]
    refine ⟨_, rfl, 63, rfl, a, _, rfl, e2.seq hS, fun q hq => ⟨q, rfl, ⟨_, SqL.of upd_same⟩, ?_⟩⟩
    rw [ems]
    have hH3 : upd (upd (upd H p (.lst (ms.map V.int))) l (.lst (ms.map V.int))) q (.lst (ms.map V.int)) l = some (.lst (ms.map V.int)) := by rw [upd_ne (ne_of_none upd_same hq), upd_same]
    have hQ3 : upd (upd (upd H p (.lst (ms.map V.int))) l (.lst (ms.map V.int))) q (.lst (ms.map V.int)) q = some (.lst (ms.map V.int)) := upd_same
    have e3 : Same H (upd (upd (upd H p (.lst (ms.map V.int))) l (.lst (ms.map V.int))) q (.lst (ms.map V.int))) := fun b o e => by rw [upd_ne (ne_of_none (e2 b o e) hq)]; exact e2 b o e
    have hl0 : H l = none := e1.free hl
    generalize upd (upd (upd H p (.lst (ms.map V.int))) l (.lst (ms.map V.int))) q (.lst (ms.map V.int)) = H3 at hH3 hQ3 e3 ⊢
    refine for_list (K := K) (a := q) (xs := ms.map V.int) (fun i σ H' => ∃ (m : Int) (v : Option V), σ = [some (.ref a), some (.ref l), some (.int m), v] ∧ 0 ≤ m ∧ m < 2147483587 ∧ H' = H3) ⟨61001, none, rfl, by decide, by decide, rfl⟩
      (fun i σ H' _ ⟨_, _, _, _, _, e⟩ => by rw [e]; exact SqL.of hQ3) ?_ ?_
    · rintro i y σ H' hi ⟨m, v, rfl, m0, m1, rfl⟩
      obtain ⟨z, rfl⟩ : ∃ z, y = V.int z := by
        rw [List.getElem?_map] at hi
        cases e : ms[i]? with
        | none => rw [e] at hi; cases hi
        | some z => rw [e] at hi; exact ⟨z, (Option.some.inj hi).symm⟩
      refine ⟨_, rfl, _, _, rfl, rfl, .inl (by omega), _, rfl, .inl ⟨_, rfl, _, _, rfl, rfl, (by show (0 : Int) < 2147483629; decide), _, _, rfl, rfl, _, _, rfl, rfl, .inl ⟨_, rfl, _, _, rfl, rfl, (by show (0 : Int) < 2147483587; decide), ?_⟩⟩⟩
      exact ⟨_, _, rfl, Int.emod_nonneg _ (by decide), Int.emod_lt_of_pos _ (by decide), rfl⟩
    · rintro σ H' ⟨m, v, rfl, m0, m1, rfl⟩
      -- return {'cells': cells[::-1], 'mixed': mixed, 'draws': 0}
      refine fun d hd => ⟨_, rfl, l, _, rfl, SqL.of (by rw [upd_ne (ne_of_none hH3 hd)]; exact hH3), fun c hc => ⟨_, rfl, ?_⟩⟩
      have ndc : d ≠ c := ne_of_none upd_same hc
      have hc3 : H' c = none := by rw [upd_ne (Ne.symm ndc)] at hc; exact hc
      refine ⟨by rw [upd_ne ndc, upd_same], dkv c m 0, rfl, (by show 3 ≤ 15; decide), ?_⟩
      rw [merge_deck, ← List.map_reverse]
      refine k d c _ (e3.free hd) (e3.free hc3) (fun b o e => ?_) ⟨ms.reverse, m, 0, upd_same, by rw [upd_ne (Ne.symm ndc), upd_same], by rw [List.length_reverse]; exact lms, m0, m1, Nat.le_refl _⟩
      have e4 := e3 b o e
      rw [upd_ne (ne_of_none e4 hd), upd_ne (ne_of_none e4 hc3), upd_ne (ne_of_none e4 hd)]
      exact e4

/-! ### _law_draw -/
def spDraw : Sp := fun vs H Q _ => ∃ (d l : Addr) (many : Int) (k : Nat), vs = [.ref d, .int many] ∧ DeckAt H d l k ∧ 0 < many ∧ many < 1000000 ∧ k < 1000000000 ∧
  ∀ (i : Int) (H' : Hp), 0 ≤ i → i < many → DeckAt H' d l (k + 1) → Off d l H H' → Q (.int i) H'
theorem ints_eqv : ∀ cs : List Int, PyData.eqv (.list (cs.map .int)) (.list []) = cs.isEmpty
  | [] => by decide
  | c :: r => by simp [PyData.eqv, PyData.eqvAll]
theorem ints_shaped (cs : List Int) : SeqAt.shaped (.list (cs.map .int)) = true := by
  have h : ∀ l : List Int, PyData.canLayAll0 (l.map .int) = true ∧ PyData.depthAll (l.map .int) ≤ 1 := by
    intro l
    induction l with
    | nil => exact ⟨rfl, by decide⟩
    | cons c r ih =>
      refine ⟨?_, ?_⟩
      · simp only [List.map_cons, PyData.canLayAll0, PyData.canLay0, Bool.true_and]
        exact ih.1
      · simp only [List.map_cons, PyData.depthAll, PyData.depth]
        have := ih.2
        omega
  obtain ⟨h1, h2⟩ := h cs
  unfold SeqAt.shaped
  have e1 : (PyData.list (cs.map .int)).canLay0 = true := by simpa [PyData.canLay0] using h1
  have e2 : (PyData.list (cs.map .int)).depth ≤ 64 := by
    simp only [PyData.depth]
    omega
  rw [e1, decide_eq_true e2]
  rfl
theorem ints_dp {K : PySem.W.Frag} {H : Hp} : ∀ cs : List Int, L2.DpAll K H (cs.map V.int) (cs.map .int)
  | [] => .nil
  | c :: r => .cons (.int c) (ints_dp r)
theorem sc__law_draw : FnScope ["_law_deck_here", "_law_many", "_law_turn", "_law_cell", "_law_mixed"] ["_law_deck_here", "_law_many"] (defScope s__law_draw) := ⟨rfl, rfl, rfl, by decide +kernel, rfl, by decide +kernel, by decide +kernel⟩
theorem ok__law_draw (B : Bi mg) (f : FnF K mg "_law_draw" "_law_draw" s__law_draw) : FnOk P w K mg base CX0 1 f.a f.d ["_law_deck_here", "_law_many"] spDraw := by
  refine f.F.ok sc__law_draw (fun vs H Q E h => ?_) (fun cdv A outer s H vs Q E hr h => ?_)
  · obtain ⟨d, l, many, k, rfl, _⟩ := h
    rfl
  · obtain ⟨d, l, many, k, rfl, D, hm0, hm1, hk, q⟩ := h
    have hu := hu_of hr
    have hu64 := hr.units
    obtain ⟨cs, m, n, hd, hl, lcs, m0, m1, hn⟩ := D.ex
    refine ⟨_, (pss_cons
      (ps_dput hu (pv 0) pe_str (pe_op op_add (pe_dget hu (pv 0) pe_str (fun _ _ => rfl)) pe_int) rfl)
    (pss_cons
      (ps_par (i := 2) (j := 3) (by rfl) sc__law_draw.nd rfl rfl (by decide) rfl rfl (pa_cons (pe_dget hu (pv 0) pe_str (fun _ _ => rfl)) (pa_cons (pe_dget hu (pv 0) pe_str (fun _ _ => rfl)) pa_nil)) (by rfl))
    (Evl.pss_cut
      (ps_if (pt_cmpR (op_neD hu64) (pe_dget hu (pv 0) pe_str (fun _ _ => rfl)) (pe_lst pa_nil) (nomark _))
        (pss_cons
          (ps_set (i := 3) sc__law_draw.nd rfl (Or.inl rfl) (pe_bm0 PySem.F.plainAttrs_list PySem.F.slot_list_pop PySem.F.type_list_pop mt_pop (pe_dget hu (pv 0) pe_str (fun _ _ => rfl))))
        (pss_cons
          (ps_if (pt_cmpR op_ge (pv 3) (pe_op op_pow pe_int pe_int) (nomark _))
            (pss_cons
              (ps_expr (pe_bm PySem.F.plainAttrs_list PySem.F.slot_list_append PySem.F.type_list_append mt_append (pe_dget hu (pv 0) pe_str (fun _ _ => rfl)) (pa_cons (pe_op op_fdiv (pv 3) (pv 1)) pa_nil)))
            (pss_one
              (ps_ret (pe_op op_mod (pe_callTy call_int1 (by rfl) B.n_int (by decide +kernel) (pa_cons (pv 3) pa_nil)) (pv 1)))))
            pss_nil)
        (pss_one
          (ps_set (i := 3) sc__law_draw.nd rfl (Or.inl rfl) (pe_op op_add (pv 3) (pe_dget hu (pv 0) pe_str (fun _ _ => rfl)))))))
        pss_nil)
    (pss_cons
      (ps_set (i := 4) sc__law_draw.nd rfl (Or.inl rfl) (pe_op op_add (pe_op op_add (pe_op op_mod (pe_callTy call_int1 (by rfl) B.n_int (by decide +kernel) (pa_cons (pv 3) pa_nil)) pe_int) (pe_op op_mul (pe_op op_mul pe_int (pv 2)) (pv 2))) pe_int))
    (Evl.pss_cut
      (ps_set (i := 4) sc__law_draw.nd rfl (Or.inl rfl) (pe_op op_mod (pe_callTy call_int1 (by rfl) B.n_int (by decide +kernel) (pa_cons (pe_op op_mul (pv 4) pe_int) pa_nil)) pe_int))
    (pss_cons
      (ps_set (i := 4) sc__law_draw.nd rfl (Or.inl rfl) (pe_op op_mod (pe_callTy call_int1 (by rfl) B.n_int (by decide +kernel) (pa_cons (pe_op op_add (pe_op op_add (pe_op op_mul (pv 4) (pv 4)) (pe_op op_mul pe_int (pv 2))) pe_int) pa_nil)) pe_int))
    (pss_one
      (ps_ret (pe_op op_mod (pe_op op_fdiv (pe_op op_mod (pe_callTy call_int1 (by rfl) B.n_int (by decide +kernel) (pa_cons (pe_op op_mul (pv 4) pe_int) pa_nil)) pe_int) pe_int) (pv 1)))))))))), ?_⟩
    -- deck['draws'] = deck['draws'] + 1
    have e1 : putK (dkv l m n) (.inr "draws") (.int ((n : Int) + 1)) = dkv l m ((n + 1 : Nat) : Int) := put_draws l m n _
    have nld : l ≠ d := ne_of hl hd (by intro z; cases z)
    refine ⟨_, rfl, d, _, rfl, val_draws l m n ▸ DGet.k (k := Sum.inr "draws") hd, _, _, rfl, rfl, _, rfl, d, _, rfl, DPut.k (k := Sum.inr "draws") hd (by show 3 < sizeLine; rw [sizeLine_eq]; decide), ?_⟩
    rw [e1]
    have hd1 : upd H d (.dK (dkv l m ((n + 1 : Nat) : Int))) d = some (.dK (dkv l m ((n + 1 : Nat) : Int))) := upd_same
    have hl1 : upd H d (.dK (dkv l m ((n + 1 : Nat) : Int))) l = some (.lst (cs.map .int)) := by rw [upd_ne nld]; exact hl
    have o1 : Off d l H (upd H d (.dK (dkv l m ((n + 1 : Nat) : Int)))) := fun b o e h1 _ => by rw [upd_ne h1]; exact e
    have hn1 : n + 1 ≤ k + 1 := by omega
    have hn2 : n + 1 < 1000000001 := by omega
    generalize upd H d (.dK (dkv l m ((n + 1 : Nat) : Int))) = H1 at hd1 hl1 o1 ⊢
    generalize n + 1 = t at hd1 hn1 hn2 ⊢
    -- turn, cell = deck['draws'], deck['mixed']
    refine ⟨_, rfl, d, _, rfl, val_draws l m t ▸ DGet.k (k := Sum.inr "draws") hd1, _, rfl, d, _, rfl, val_mixed l m t ▸ DGet.k (k := Sum.inr "mixed") hd1, _, _, rfl, ?_⟩
    -- if deck['cells'] != []: ..; behind it some int stands in cell
    refine ⟨fun σ' H2 => ∃ c : Int, σ' = [some (.ref d), some (.int many), some (.int (t : Int)), some (.int c), none] ∧ DeckAt H2 d l (k + 1) ∧ Off d l H H2, ?_, ?_⟩
    · refine ⟨_, rfl, d, .ref l, rfl, val_cells l m t ▸ DGet.k (k := Sum.inr "cells") hd1, ⟨by show 0 ≤ sizeLine; exact Nat.zero_le _, fun p hp => ?_⟩⟩
      have hd2 : upd H1 p (.lst []) d = some (.dK (dkv l m (t : Int))) := by rw [upd_ne (ne_of_none hd1 hp)]; exact hd1
      have hl2 : upd H1 p (.lst []) l = some (.lst (cs.map .int)) := by rw [upd_ne (ne_of_none hl1 hp)]; exact hl1
      have hp2 : upd H1 p (.lst []) p = some (.lst []) := upd_same
      have o2 : Off d l H (upd H1 p (.lst [])) := fun b o e h1 h2 => by
        have := o1 b o e h1 h2
        rw [upd_ne (ne_of_none this hp)]
        exact this
      have npd : p ≠ d := Ne.symm (ne_of_none hd1 hp)
      have npl : p ≠ l := Ne.symm (ne_of_none hl1 hp)
      generalize upd H1 p (.lst []) = H2 at hd2 hl2 hp2 o2 ⊢
      refine ⟨.list (cs.map .int), .list [], .lst (SqL.of hl2) (ints_dp cs), .lst (SqL.of hp2) .nil, ints_shaped cs, by decide, _, rfl, ?_⟩
      rw [ints_eqv cs]
      cases cs with
      | nil => exact iteF ⟨m, rfl, ⟨[], m, t, hd2, hl2, Nat.zero_le _, m0, m1, hn1⟩, o2⟩
      | cons c0 r0 =>
        refine iteT ?_
        -- cell = deck['cells'].pop()
        obtain ⟨c, hc⟩ : ∃ c, (c0 :: r0)[(c0 :: r0).length - 1]? = some c := ⟨_, List.getElem?_eq_getElem (by simp)⟩
        generalize c0 :: r0 = cs at *
        refine ⟨_, rfl, d, .ref l, rfl, val_cells l m t ▸ DGet.k (k := Sum.inr "cells") hd2, Or.inl ⟨rfl, _, SqL.of hl2⟩, l, _, .int c, rfl, rfl, hl2, by rw [List.length_map, List.getElem?_map, hc]; rfl, ?_⟩
        rw [← List.map_dropLast]
        have ldl : cs.dropLast.length ≤ 62 := by rw [List.length_dropLast]; omega
        generalize cs.dropLast = ds at ldl ⊢
        have hd3 : upd H2 l (.lst (ds.map .int)) d = some (.dK (dkv l m (t : Int))) := by rw [upd_ne (Ne.symm nld)]; exact hd2
        have hl3 : upd H2 l (.lst (ds.map .int)) l = some (.lst (ds.map .int)) := upd_same
        have o3 : Off d l H (upd H2 l (.lst (ds.map .int))) := fun b o e h1 h2 => by rw [upd_ne h2]; exact o2 b o e h1 h2
        generalize upd H2 l (.lst (ds.map .int)) = H3 at hd3 hl3 o3 ⊢
        -- if cell >= 10 ** 18
        refine ⟨_, rfl, _, _, rfl, rfl, ⟨by decide, by decide, by decide⟩, _, _, rfl, rfl, _, rfl, ite2 (fun _ => ?_) fun _ => ?_⟩
        · -- deck['cells'].append(cell // many); return int(cell) % many
          refine ⟨_, rfl, d, .ref l, rfl, val_cells l m t ▸ DGet.k (k := Sum.inr "cells") hd3, Or.inl ⟨rfl, _, SqL.of hl3⟩, _, rfl, _, rfl, _, _, rfl, rfl, ⟨hm0, by omega⟩, l, _, _, rfl, rfl, hl3, by rw [List.length_map, sizeLine_eq]; omega, ?_⟩
          refine ⟨_, rfl, Or.inl ⟨_, rfl, _, rfl, _, _, rfl, rfl, hm0, ?_⟩⟩
          refine q _ _ (Int.emod_nonneg _ (by omega)) (Int.emod_lt_of_pos _ hm0) ⟨ds ++ [c / many], m, t, ?_, ?_, ?_, m0, m1, hn1⟩ fun b o e h1 h2 => ?_
          · rw [upd_ne (Ne.symm nld)]
            exact hd3
          · rw [upd_same, List.map_append]
            rfl
          · rw [List.length_append]
            show ds.length + 1 ≤ 63
            omega
          · rw [upd_ne h2]
            exact o3 b o e h1 h2
        · -- cell = cell + deck['mixed']
          refine ⟨_, rfl, _, rfl, d, _, rfl, val_mixed l m t ▸ DGet.k (k := Sum.inr "mixed") hd3, _, _, rfl, rfl, ?_⟩
          exact ⟨_, rfl, ⟨ds, m, t, hd3, hl3, by omega, m0, m1, hn1⟩, o3⟩
    · rintro σ' H2 ⟨c, rfl, D2, o2⟩
      have ht : (-(2 ^ 64 : Int) < (t : Int) ∧ (t : Int) < 2 ^ 64) := by omega
      -- mixed = int(cell) % .. + .. * turn * turn + ..
      refine ⟨_, rfl, Or.inl ⟨_, rfl, _, _, rfl, rfl, (by show (0 : Int) < 2147483629; decide), _, rfl, _, _, rfl, rfl, .inr ht, _, rfl, _, _, rfl, rfl, .inr ht, _, _, rfl, rfl, _, _, rfl, rfl, ?_⟩⟩
      -- mixed = int(mixed * ..) % ..
      refine ⟨fun σ' H' => ∃ x : Int, σ' = [some (.ref d), some (.int many), some (.int (t : Int)), some (.int c), some (.int x)] ∧ 0 ≤ x ∧ x < 2147483647 ∧ H' = H2,
        ⟨_, rfl, _, _, rfl, rfl, .inr (by decide), Or.inl ⟨_, rfl, _, _, rfl, rfl, (by show (0 : Int) < 2147483647; decide), _, rfl, Int.emod_nonneg _ (by decide), Int.emod_lt_of_pos _ (by decide), rfl⟩⟩, ?_⟩
      rintro σ' H' ⟨x, rfl, hx0, hx1, rfl⟩
      -- mixed = int(mixed * mixed + .. * turn + ..) % ..
      refine ⟨_, rfl, _, rfl, _, _, rfl, rfl, .inl (by omega), _, rfl, _, _, rfl, rfl, .inr ht, _, _, rfl, rfl, _, _, rfl, rfl, Or.inl ⟨_, rfl, _, _, rfl, rfl, (by show (0 : Int) < 2147483587; decide), ?_⟩⟩
      -- return ..
      refine ⟨_, rfl, _, _, rfl, rfl, .inr (by decide), Or.inl ⟨_, rfl, _, _, rfl, rfl, (by show (0 : Int) < 2147483563; decide), _, _, rfl, rfl, ⟨by decide, by decide⟩, _, rfl, _, _, rfl, rfl, hm0, ?_⟩⟩
      exact q _ _ (Int.emod_nonneg _ (by omega)) (Int.emod_lt_of_pos _ hm0) D2 o2
end
end K01
/-! Exceptions of the program's own classes (over Exception, at any depth) as values: made, a field stored and read, isinstance. -/
namespace KX
open PySem PySem.Spec PySem.W PyProof.Rows

abbrev exTl : List Value := [.type "Exception", .type "BaseException", .type "object"]
/-- what the written part says of such a class -/
structure ExC (K : Frag) (C : Addr) : Prop where
  cls : ∃ nm q N bs bm sn sub ab col dd k0 k1 k2 k3 k5, K.lookup C = some (excClassObj nm q C N bs bm true sn sub ab col dd k0 k1 k2 k3 k5 "Exception.__new__") ∧ excTail exTl bm = true
  sa : findIn K (.ref C) "__setattr__" = some (some (.builtin "object.__setattr__"))
  ga : findIn K (.ref C) "__getattribute__" = some (some (.builtin "BaseException.__getattribute__"))
  gg : findIn K (.ref C) "__getattr__" = some none
  bx : subIn K (.ref C) (.type "BaseException") = some true
  kp : keepIn K (.ref C) = true
  hd : hasDictIn K C = true
  cl : findIn K (.ref C) "__class__" = some (some (.builtin "object.__class__"))
  gn : specialIn K (.builtin "object.__class__") "__get__" = some (some (.builtin "getset_descriptor.__get__"))
  tk : takesIn K (.builtin "object.__class__") = some true
  mo : mroIn K C (.type "object") = some true

section
open Builtin Builtin.ObjectAttr
variable {prog : Program} {w : World} {A : Around} {E : Value → Shared → Prop} {R : Result → Shared → Prop} {hp : Heap} {g : Array GenState} {d : Drawn} {t : Nat} {os : OsState}
theorem tail_mro {K : Frag} {C : Addr} {cd : ClassData} {bm : List Value} (hcd : clsIn K C = some cd) (hm : cd.mro = .ref C :: bm) (ht : excTail exTl bm = true) : mroIn K C (.type "object") = some true := by
  have q : (Value.ref C :: bm).contains (.type "object") = true := by
    rw [List.contains_cons, excTail_contains "object" bm ht, show exTl.contains (.type "object") = true from by decide +kernel, Bool.or_true]
  unfold mroIn
  rw [hcd, Option.bind_some, hm, if_neg (by simp), q]
/-- self.name = v on an exception that has no dict as yet -/
theorem first_store {K : Frag} {name : Str} {tk : Tok} {v : Value} {x C : Addr} {fv : Array Value} {cd : ClassData} {bm : List Value}
    (X : K.In hp) (hx : hp.get? x = some { cls := .ref C, data := .fields fv }) (hcd : clsIn K C = some cd) (hm : cd.mro = .ref C :: bm) (ht : excTail exTl bm = true) (hh : cd.hasDict = true) (ha : findIn K (.ref C) name = some none)
    (hq : ∀ h' tk' dx, (∀ b o, b ≠ x → hp.get? b = some o → h'.get? b = some o) → hp.objs.size ≤ dx → dx ≠ x → h'.get? x = some { cls := .ref C, dict := some dx, data := .fields fv } →
      h'.Ns1 dx (fun y => if y = name then some v else none) → R (.ok (.ret .none)) ⟨h', g, d, tk', os⟩) :
    codeAny (model prog w) A (.call (.builtin "object.__setattr__") ⟨[.ref x, .str name tk, v], []⟩) R ⟨hp, g, d, t, os⟩ := by
  have J : InstAt hp x { cls := .ref C, data := .fields fv } C none := ⟨hx, rfl, rfl, trivial⟩
  have ne : x ≠ hp.objs.size := Nat.ne_of_lt (Heap.lt_size hx)
  have isO : Looks (model prog w) hp (isInstance (.ref x) (.type "object")) true := J.type.andThen (looks_mroIn X (tail_mro hcd hm ht))
  have S := F.store_object
  have pass : refuseLoop (.ref x) "__setattr__" cd.mro = pure () := by
    rw [hm, refuseLoop_ref]
    exact excTail_pass _ (F.store_Exception.passes _) bm ht
  have lm : Looks (model prog w) hp (mroOf (.ref C)) cd.mro := (looks_clsIn X hcd).andThen .now
  have lt : Looks (model prog w) hp (storeTaker? none) none := .now
  have lc : Looks (model prog w) hp (classData C) cd := looks_clsIn X hcd
  refine codeAny_call_builtin S.slot.plain S.entry (@check_slot (model prog w) _ _ ⟨hp, g, d, t, os⟩ "object.__setattr__" "object" "__setattr__" (.ref x) [.str name tk, v] [] _ S.kind S.split isO (S.args (.ref x) (.str name tk) v) ?_)
  rw [osa_eq, refuse_eq]
  apply wpAny_bind
  apply wpAny_bind
  apply J.type.at
  apply wpAny_bind
  apply lm.at
  rw [pass]
  apply wpAny_pure
  apply wpAny_bind
  apply J.type.at
  apply wpAny_bind
  apply (looks_findIn X ha).at
  apply wpAny_bind
  apply lt.at
  show wpAny _ _ (storeInOwnDict (.ref x) (.ref C) (.str name tk) name v false) _ _ _
  obtain ⟨nm, bs, mro, ns, qn, hd, sn, sb, ab, col, del⟩ := cd
  have hh' : hd = true := hh
  subst hh'
  unfold storeInOwnDict ownDictForStores
  repeat (first | with_reducible apply HandSPX.store_in_new | with_reducible apply wpAny_loadPart_at hx | with_reducible apply lc.at | wp_step)
  · exact ⟨_, #[], _, (Heap.get?_update_ne _ _ _ _ ne.symm).trans (Heap.get?_push_at rfl rfl), rfl, fun e he => absurd he (by simp), fun _ => rfl⟩
  · intro h' tk' hn' hs
    have hx1 : (hp.push { cls := .type "dict", data := .dict #[] }).get? x = some { cls := .ref C, data := .fields fv } := Heap.get?_push_of_some _ hx
    exact hq h' tk' hp.objs.size (fun b o hb ho => (hs.2 b (Nat.ne_of_lt (Heap.lt_size ho))).trans ((Heap.get?_update_ne _ _ _ _ hb).trans (Heap.get?_push_of_some _ ho))) (Nat.le_refl _) ne.symm
      ((hs.2 x ne).trans (Heap.get?_update_self _ hx1 rfl)) hn'
end

open L2 KG
section
variable {X : Cx} {pins : List (Addr × Obj)} {σ : L2.St} {H : Hp} {s : Shared} {a C : Addr} {f : Str} {y : V} {u : Value} {fs : List (Str × V)}
/-- an exception of the class at C with the fields fs, made -/
def ExAt (H : Hp) (a C : Addr) (fs : List (Str × V)) : Prop := (∃ dx, H a = some (exo a C (some dx)) ∧ H dx = some (exd dx fs)) ∨ (fs = [] ∧ H a = some (exo a C none))
theorem ExAt.keep {H' : Hp} (x : ExAt H a C fs) (e : Same H H') : ExAt H' a C fs := by
  rcases x with ⟨dx, h1, h2⟩ | ⟨h0, h1⟩
  · exact .inl ⟨dx, e _ _ h1, e _ _ h2⟩
  · exact .inr ⟨h0, e _ _ h1⟩
theorem set_first {Q : Unit → Shared → Prop} {E : Value → Shared → Prop} {A : Around} (T : ExC X.K C) (I : Inv X pins σ H s) (e : H a = some (exo a C none)) (hno : findIn X.K (.ref C) f = some none) (ry : RelV y u)
    (h : ∀ dx s', H dx = none → dx ≠ a → Inv X pins σ (upd (upd H dx (exd dx [(f, y)])) a (exo a C (some dx))) s' → Q () s') : wpAny (model X.prog X.w) A (setAttr (.ref a) f u) Q E s := by
  obtain ⟨nm, q, N, bs, bm, sn, sub, ab, col, dd, k0, k1, k2, k3, k5, hC, hbm⟩ := T.cls
  have hcl : clsIn X.K C = some { name := nm, bases := bs, mro := .ref C :: bm, ns := N, qualname := q, hasDict := true, slotNames := sn, subclasses := sub, abstract := ab, collection := col, hasDel := false } := by
    unfold clsIn
    rw [hC]
    all_goals rfl
  obtain ⟨t1, ho⟩ := exo_at I.hok e
  obtain ⟨hp, g, dr, tk, os⟩ := s
  apply set_plain I.kIn (ox := { cls := .ref C, dict := none, data := .fields #[.ref t1, .none, .none, .none, .bool false, .none] }) (od := none) ⟨ho, rfl, rfl, trivial⟩ T.sa
  apply first_store I.kIn ho hcl rfl hbm rfl hno
  intro h' tk' dx kp dn dne hx hn
  have fr : H dx = none := I.hok.fresh dn
  have ndx : ∀ {b : Addr} {o : Obj}, hp.get? b = some o → b ≠ dx := fun {b o} q => Nat.ne_of_lt (Nat.lt_of_lt_of_le (Heap.lt_size q) dn)
  have nda : ∀ {b : Addr}, H b = none → b ≠ a := fun {b} n z => by rw [z, e] at n; cases n
  have there : ∀ b o, hp.get? b = some o → ∃ o', h'.get? b = some o' := fun b o q => by
    by_cases hb : b = a
    · rw [hb]; exact ⟨_, hx⟩
    · exact ⟨o, kp b o hb q⟩
  have stay : ∀ {b : Addr} {o : HO}, H b = some o → o ≠ exo a C none → upd (upd H dx (exd dx [(f, y)])) a (exo a C (some dx)) b = some o := fun {b o} q z => by
    have h1 : b ≠ a := fun w => by rw [w, e] at q; exact z (Option.some.inj q).symm
    rw [upd_ne h1, upd_ne (ne_of_none q fr)]
    exact q
  have U : Un X.fs [] H (upd (upd H dx (exd dx [(f, y)])) a (exo a C (some dx))) hp h' :=
    ⟨fun b o q n _ _ => kp b o (nda n) q, fun b o q n _ _ => ⟨o.slots, kp b o (nda n) q⟩, fun b o q n _ => by rw [upd_ne (nda n), upd_ne (ndx q)]; exact n, fun b o q _ => there b o q,
      fun b xs q => stay q exo_tup.symm, fun b o v q => stay q exo_frz.symm, fun b ps q => ⟨#[], by rw [stay q exo_tbl.symm]; simp⟩⟩
  have ok : HOk X.prog X.w (upd (upd H dx (exd dx [(f, y)])) a (exo a C (some dx))) h' := fun b o q => by
    by_cases hb : b = a
    · subst hb
      rw [upd_same] at q
      obtain rfl := Option.some.inj q
      exact exo_ok hx
    · rw [upd_ne hb] at q
      by_cases hd : b = dx
      · subst hd
        rw [upd_same] at q
        obtain rfl := Option.some.inj q
        exact exd_ok hn (relO_put (fs := []) ry fun g => True.intro)
      · rw [upd_ne hd] at q
        refine (I.hok b o q).stay (fun c v hc z => kp c v ?_ z) (fun c hc => stay hc exo_own.symm) (fun c xs hc => stay hc exo_tup.symm)
        rcases hc with hc | hc
        · rw [hc]; exact hb
        · exact fun w => by rw [w, e] at hc; exact exo_own (Option.some.inj hc)
  exact h dx _ fr dne (I.un (t' := tk') U ok)

/-- self.f = e, the first field of an exception that is being made -/
def tExSet (K : Frag) (f : Str) (to te : TE) : TS := fun D σ H => te σ H fun y H1 => to σ H1 fun x H2 => ∃ a C : Addr, x = .ref a ∧ ExC K C ∧ findIn K (.ref C) f = some none ∧ H2 a = some (exo a C none) ∧
  ∀ dx, H2 dx = none → dx ≠ a → D.nx σ (upd (upd H2 dx (exd dx [(f, y)])) a (exo a C (some dx)))
theorem ps_exset {o e : Expr} {to te : TE} {p p2 : Pos} (ho : PE X o to) (he : PE X e te) (hs : swapsWith e (some (.Attribute o f p)) p2.line X.env = pure false := by rfl) : PS X (.Assign [.Attribute o f p] e p2) (tExSet X.K f to te) := by
  constructor
  intro pins s σ H D I h
  apply plainObj_wpAny_Assign_Attribute (hs := hs)
  apply thn (he.run pins s σ H _ I h)
  rintro v s1 ⟨y, H1, I1, r1, q1⟩
  apply thn (ho.run pins s1 σ H1 _ I1 q1)
  rintro u s2 ⟨x, H2, I2, r2, a, C, ex, T, hno, ea, q⟩
  subst ex
  obtain rfl : u = Value.ref a := r2
  exact set_first T I2 ea hno r1 fun dx s' n ne J => ⟨σ, _, J, q dx n ne⟩

/-! ### C(e): the exception, its own __init__ keeping sp -/
def tExMk (C : Addr) (sp : Sp) (ta : TA) : TE := fun σ H Q => ta σ H fun vs H1 => vs.length ≤ 1000 ∧ ∀ a, H1 a = none → sp (.ref a :: vs) (upd H1 a (exo a C none)) (fun v H2 => v = .non ∧ Q (.ref a) H2) E0
theorem run_exmk {CX : CXT} {fI : Addr} {k : Nat} {fd : FuncData} {ps : List Str} {sp : Sp} {Q : VK} {us : List Value} {vs : List V} (T : ExC X.K C) (iC : findIn X.K (.ref C) "__init__" = some (some (.ref fI))) (tI : typeIn X.K (.ref fI) = some (.type "function"))
    (F1 : FnOk X.prog X.w X.K X.mg X.base CX k fI fd ps sp) (hr : Room (k + 1) X.A) (hb : L2.Binds X.K fd ps []) (hx : Passes CX X E0) (I : Inv X pins σ H s) (r : Vals vs us) (hl : vs.length ≤ 1000)
    (h : ∀ a, H a = none → sp (.ref a :: vs) (upd H a (exo a C none)) (fun v H2 => v = .non ∧ Q (.ref a) H2) E0) : wpAny (model X.prog X.w) X.A (call (.ref C) us) (EP X pins σ Q) X.xe s := by
  obtain ⟨nm, q, N, bs, bm, sn, sub, ab, col, dd, k0, k1, k2, k3, k5, hC, hbm⟩ := T.cls
  obtain ⟨hp, g, dr, tk, os⟩ := s
  have hz : us.length ≤ sizeLine := by
    rw [← Paired.length r, sizeLine_eq]
    omega
  have new : hp.objs.size ≤ hp.objs.size + 1 := Nat.le_succ _
  have kp : ∀ b o, hp.get? b = some o → ((hp.push (kdv_tup us)).push (HandSPX.excO C hp.objs.size)).get? b = some o := fun b o e => Heap.get?_push_of_some _ (Heap.get?_push_of_some _ e)
  have at_ : ((hp.push (kdv_tup us)).push (HandSPX.excO C hp.objs.size)).get? (hp.objs.size + 1) = some (HandSPX.excO C hp.objs.size) := by heap_get
  have J : Inv X pins σ (upd H (hp.objs.size + 1) (exo (hp.objs.size + 1) C none)) ⟨(hp.push (kdv_tup us)).push (HandSPX.excO C hp.objs.size), g, dr, tk, os⟩ :=
    I.laid (a := hp.objs.size + 1) (o := exo (hp.objs.size + 1) C none) (h' := (hp.push (kdv_tup us)).push (HandSPX.excO C hp.objs.size)) (t' := tk) kp new (exo_ok at_)
  have hq := h (hp.objs.size + 1) (I.hok.fresh new)
  have r2 : Vals (V.ref (hp.objs.size + 1) :: vs) (Value.ref (hp.objs.size + 1) :: us) := .cons rfl r
  have len : ((Value.ref (hp.objs.size + 1) :: us) ++ []).length = ps.length := by
    rw [List.append_nil, ← F1.len _ _ _ _ hq]
    exact (Paired.length r2).symm
  have bnd := hb ⟨(hp.push (kdv_tup us)).push (HandSPX.excO C hp.objs.size), g, dr, tk, os⟩ (Value.ref (hp.objs.size + 1) :: us) J.kIn len
  rw [List.append_nil] at bnd
  apply wpAny_call
  apply HandSPX.call_own PySem.F.excBase_Exception (fun Y => excTail_contains Y bm hbm) (I.kIn _ _ hC) (looks_findIn I.kIn iC) (fun self => bind_fn I.kIn self tI) hz
  refine codeAny_mono (F1.run _ X.stack _ _ ⟨Value.ref (hp.objs.size + 1) :: us, []⟩ (Value.ref (hp.objs.size + 1) :: us) _ _ E0 (hr.make C us []) (J.env0.make C us []) bnd r2 hq) ?_
  rintro (er | fl) s' z
  · exact hx pins σ _ _ er s' J z
  · cases fl with
    | ret u =>
      obtain ⟨v, H', I3, rv, ev, q3⟩ := Inv.after J z
      subst ev
      exact ⟨rv, ⟨V.ref (hp.objs.size + 1), H', I3, rfl, q3⟩⟩
    | next => exact z.elim
    | brk => exact z.elim
    | cont => exact z.elim
theorem pe_exmk {CX : CXT} {x : Str} {fI : Addr} {k : Nat} {fd : FuncData} {ps : List Str} {sp : Sp} {e : Expr} {es : List Expr} {ta : TA} {p pos : Pos} (T : ExC X.K C) (iC : findIn X.K (.ref C) "__init__" = some (some (.ref fI))) (tI : typeIn X.K (.ref fI) = some (.type "function"))
    (F1 : FnOk X.prog X.w X.K X.mg X.base CX k fI fd ps sp) (hr : Room (k + 1) X.A) (hb : L2.Binds X.K fd ps []) (hx : Passes CX X E0) (hg : Gl X x) (hm : X.mg x = some (.ref C)) (ha : PA X (e :: es) ta) (hdb : (x == ("__debug__" : Str)) = false := by decide)
    (he : starEach (e :: es) X.env = (false, eval e X.env) :: starEach es X.env := by rfl) (hpl : (backTo pos (starEach es X.env)).any (·.1) = false := by rfl) :
    PE X (.Call (.Name x p) (e :: es) [] pos) (tExMk C sp ta) := by
  constructor
  intro pins s σ H Q I h
  apply wpAny_Call_Name_kw (ld_glob I hg hm ?_ hdb)
  apply callWith_K (h₀ := X.base) I.ok.mod.kin T.kp ?_ he hpl
  apply thn (ha.run pos pins s σ H _ I h)
  rintro us s1 ⟨vs, H1, I1, r, hl, q⟩
  exact ⟨I1.kIn, run_exmk T iC tI F1 hr hb hx I1 r hl q⟩
end
end KX
namespace KX
open PySem PySem.Spec PySem.W PyProof.Rows PySem.Calls
section
variable {M : Model} {A : Around} {E : Value → Shared → Prop} {h : Heap} {g : Array GenState} {d : Drawn} {t : Nat} {os : OsState}
variable {nm q : Str} {C N : Addr} {bs bm bmB : List Value} {hdct : Bool} {sn : List Str} {sub : List Value} {ab : Bool} {col : Option Bool} {dd : Option Addr} {k0 k1 k2 k3 k5 : Option Value} {B newId initId : String}
theorem check_newK (F : ExcBaseFacts B newId initId bmB) (hT : ∀ X : String, bm.contains (.type X) = bmB.contains (.type X)) {rest : List Value} {kn : Str} {kv : Value} {Q : Unit → Shared → Prop}
    (hC : h.get? C = some (excClassObj nm q C N bs bm hdct sn sub ab col dd k0 k1 k2 k3 k5 newId)) (hq : Q () ⟨h, g, d, t, os⟩) : wpAny M A (checkBuiltinCall newId ⟨.ref C :: rest, [(kn, kv)]⟩) Q E ⟨h, g, d, t, os⟩ := by
  have hc : (Value.ref C :: bm).contains (.type B) = true := by rw [List.contains_cons, hT, F.hasB, Bool.or_true]
  have hs := F.noStar
  simp only [checkBuiltinCall, F.newKind, F.newSplit, F.newRow]
  repeat (first | refine wpAny_madeBy_exc hC ?_ | refine wpAny_staticBase_exc hC ?_ | refine wpAny_loadPart_at hC ?_ | (refine wpAny_isSubtype_exc hC ?_; rw [hc]) | simp only [bne_self_eq_false, Bool.false_eq_true, if_false] | wp_step)
  exact hq
end
section
variable {prog : Program} {w : World} {A : Around} {E : Value → Shared → Prop} {R : Result → Shared → Prop} {h : Heap} {g : Array GenState} {d : Drawn} {t : Nat} {os : OsState}
variable {nm q : Str} {C N : Addr} {bs bm bmB : List Value} {hdct : Bool} {sn : List Str} {sub : List Value} {ab : Bool} {col : Option Bool} {dd : Option Addr} {k0 k1 k2 k3 k5 : Option Value} {B newId initId : String}
theorem newK (F : ExcBaseFacts B newId initId bmB) (hT : ∀ X : String, bm.contains (.type X) = bmB.contains (.type X)) {rest : List Value} {kn : Str} {kv : Value}
    (hC : h.get? C = some (excClassObj nm q C N bs bm hdct sn sub ab col dd k0 k1 k2 k3 k5 newId))
    (hq : R (.ok (.ret (.ref (h.objs.size + 1)))) ⟨(h.push { cls := .type "tuple", data := .seq rest.toArray }).push (HandSPX.excO C h.objs.size), g, d, t, os⟩) (hrest : rest.length ≤ sizeLine) :
    codeAny (model prog w) A (.builtin newId ⟨.ref C :: rest, [(kn, kv)]⟩) R ⟨h, g, d, t, os⟩ := by
  have he := F.ends
  have c1 : (Value.ref C :: bm).contains (.type B) = true := by rw [List.contains_cons, hT, F.hasB, Bool.or_true]
  have c2 : (Value.ref C :: bm).contains (.type "AttributeError") = false := by rw [List.contains_cons, hT, F.noAttr]; rfl
  have c3 : (Value.ref C :: bm).contains (.type "NameError") = false := by rw [List.contains_cons, hT, F.noName]; rfl
  apply codeAny_builtinAt F.entry
  unfold Builtin.«BaseException.__new__»
  refine PySem.wpAt_bind ?_
  show PySem.wpAt _ _ _ (stack >>= _) _ _ _
  refine PySem.wpAt_bind (PySem.wpAt_stack fun p below => PySem.wpAt_of_wpAny ?_)
  wp_walk
  refine PySem.wpAt_of_wpAny ?_
  rw [F.owner]
  repeat (first | with_reducible refine wpAny_loadPart_at hC ?_ | with_reducible refine wpAny_madeHere_exc F.canon hC ?_ | (with_reducible refine wpAny_isSubtype_exc hC ?_; first | rw [c1] | rw [c2] | rw [c3]) | wp_step)
  show R _ _
  rw [Heap.size_push]
  exact hq
theorem type_callK (F : ExcBaseFacts B newId initId bmB) (hT : ∀ X : String, bm.contains (.type X) = bmB.contains (.type X)) {rest : List Value} {kn : Str} {kv : Value} {fI : Addr} {Q : Fin → Shared → Prop}
    (hC : h.get? C = some (excClassObj nm q C N bs bm hdct sn sub ab col dd k0 k1 k2 k3 k5 newId))
    (hi : Looks (model prog w) h (typeLookup (.ref C) "__init__") (some (.ref fI))) (hb : ∀ self, Looks (model prog w) h (bindSpecial (.ref fI) self) (.ref fI, [self])) (hrest : rest.length ≤ sizeLine)
    (hq : codeAny (model prog w) A (.call (.ref fI) ⟨.ref (h.objs.size + 1) :: rest, [(kn, kv)]⟩)
      (fun r s' => match r with | .ok (.ret v) => v = .none ∧ Q (.done (.ret (.ref (h.objs.size + 1)))) s' | .ok _ => False | .error e => E e s')
      ⟨(h.push (kdv_tup rest)).push (HandSPX.excO C h.objs.size), g, d, t, os⟩) :
    wpAny (model prog w) A (Builtin.«type.__call__» ⟨.ref C :: rest, [(kn, kv)]⟩) Q E ⟨h, g, d, t, os⟩ := by
  repeat (first | with_reducible refine wpAny_madeBy_exc hC ?_ | with_reducible refine wpAny_loadPart_at hC ?_ | wp_step)
  refine codeAny_call_builtin_code (Code.quiet_builtin _ F.quiet) (check_newK F hT hC ?_)
  refine newK F hT hC ?_ hrest
  show wpAny _ _ _ _ _ _
  have kp : ∀ b o, h.get? b = some o → ((h.push (kdv_tup rest)).push (HandSPX.excO C h.objs.size)).get? b = some o := fun b o e => Heap.get?_push_of_some _ (Heap.get?_push_of_some _ e)
  have hC1 := kp _ _ hC
  have at_ : ((h.push (kdv_tup rest)).push (HandSPX.excO C h.objs.size)).get? (h.objs.size + 1) = some (HandSPX.excO C h.objs.size) := by heap_get
  have own : (Value.ref C :: bm).contains (.ref C) = true := by simp
  have i1 := hi.keeps kp
  have b1 := (hb (.ref (h.objs.size + 1))).keeps kp
  unfold isInstance
  repeat (first | with_reducible refine wpAny_loadPart_at at_ ?_ | (with_reducible refine wpAny_isSubtype_exc hC1 ?_; rw [own]) | wp_step)
  show wpAny _ _ (typeLookup (.ref C) _) _ _ _
  refine i1.at (wpAny_holding (wpAny_bind (b1.at ?_)))
  refine wpAny_bind (wpAny_call (codeAny_mono hq fun r s' z => ?_))
  rcases r with e | (v | _ | _ | _)
  · exact z
  all_goals try exact z.elim
  obtain ⟨rfl, z⟩ := z
  first
    | exact wpAny_pure (wpAny_pure z)
    | (wp_walk; exact z)
theorem call_ownK (F : ExcBaseFacts B newId initId bmB) (hT : ∀ X : String, bm.contains (.type X) = bmB.contains (.type X)) {rest : List Value} {kn : Str} {kv : Value} {fI : Addr}
    (hC : h.get? C = some (excClassObj nm q C N bs bm hdct sn sub ab col dd k0 k1 k2 k3 k5 newId))
    (hi : Looks (model prog w) h (typeLookup (.ref C) "__init__") (some (.ref fI))) (hb : ∀ self, Looks (model prog w) h (bindSpecial (.ref fI) self) (.ref fI, [self])) (hrest : rest.length ≤ sizeLine)
    (hq : codeAny (model prog w) (A.under (.builtin "type.__call__" ⟨.ref C :: rest, [(kn, kv)]⟩)) (.call (.ref fI) ⟨.ref (h.objs.size + 1) :: rest, [(kn, kv)]⟩) (InitBack (h.objs.size + 1) R)
      ⟨(h.push (kdv_tup rest)).push (HandSPX.excO C h.objs.size), g, d, t, os⟩) :
    codeAny (model prog w) A (.call (.ref C) ⟨rest, [(kn, kv)]⟩) R ⟨h, g, d, t, os⟩ := by
  have f1 := tc_lookup
  have f2 := tc_bind (.ref C)
  have ty : (⟨h, g, d, t, os⟩ : Shared).TypeIs (.ref C) "type" := ⟨_, hC, rfl⟩
  refine codeAny_of_tree ?_
  show wpAny _ _ (callAny (.ref C) _) _ _ _
  repeat (any_goals (first | with_reducible refine wpAny_loadPart_at hC ?_ | assumption | wp_step))
  refine ⟨rfl, ?_⟩
  refine codeAny_call_builtin_at (Code.quiet_builtin _ (by decide +kernel)) entry_typeCall ?_
  refine wpAny_check_type_call_sub hC (type_callK F hT hC hi hb hrest ?_)
  refine codeAny_mono hq fun r s' z => ?_
  rcases r with e | (v | _ | _ | _) <;> exact z
end
end KX
namespace KX
open PySem PySem.Spec PySem.W PyProof.Rows PySem.Calls L2 KG
section
variable {X : Cx} {pins : List (Addr × Obj)} {σ : L2.St} {H : Hp} {s : Shared} {a C : Addr} {f : Str} {y : V} {u : Value} {fs : List (Str × V)}
/-! ### C(k = e) -/
def tExMkK (C : Addr) (sp : Sp) (tk : TA) : TE := fun σ H Q => tk σ H fun vs H1 => ∃ v, vs = [v] ∧ ∀ a, H1 a = none → sp [.ref a, v] (upd H1 a (exo a C none)) (fun v H2 => v = .non ∧ Q (.ref a) H2) E0
/-- a def's one keyword finds its place -/
def KwOne (fd : FuncData) (ps : List Str) (kn : Str) : Prop := ∀ (s : Shared) (u v : Value), BindsTo s fd ⟨[u], [(kn, v)]⟩ (ps.zip [u, v])
theorem kwOne {K : Frag} {x qual : Str} {st : Stmt} {f : Addr} {fd : FuncData} {ps : List Str} {kn : Str} (F : Fun K x qual st f fd)
    (h : ∀ (kV doc pm : Value) (an : Option Addr) (cdv ct : Value) (u v : Value), bindArgs (fnOf x qual (defArgs st) (defBody st) (defScope st) .none kV doc pm an cdv ct) ⟨[u], [(kn, v)]⟩ = pure (ps.zip [u, v])) : KwOne fd ps kn := by
  obtain ⟨oc, od, kV, doc, pm, an, cdv, ct, osl, rfl, lk, hcd⟩ := F.ex
  exact fun s u v => .of_eq (h kV doc pm an cdv ct u v)
theorem pe_exmkK {CX : CXT} {x kn : Str} {fI : Addr} {k : Nat} {fd : FuncData} {ps : List Str} {sp : Sp} {kws : List Keyword} {tk : TA} {p pos : Pos} (T : ExC X.K C) (iC : findIn X.K (.ref C) "__init__" = some (some (.ref fI))) (tI : typeIn X.K (.ref fI) = some (.type "function"))
    (F1 : FnOk X.prog X.w X.K X.mg X.base CX k fI fd ps sp) (hr : Room (k + 1) X.A) (hb : KwOne fd ps kn) (hx : Passes CX X E0) (hg : Gl X x) (hm : X.mg x = some (.ref C)) (hkw : PK X kws tk) (hall : (backToKw pos (keywordEach kws X.env)).all (·.1.isSome) = true := by rfl)
    (hks : (backToKw pos (keywordEach kws X.env)).filterMap (·.1) = [kn] := by rfl) (hdb : (x == ("__debug__" : Str)) = false := by decide)
    (hpl : ((backTo pos (starEach [] X.env)).any (·.1) || (backToKw pos (keywordEach kws X.env)).any (·.1.isNone)) = false := by rfl) : PE X (.Call (.Name x p) [] kws pos) (tExMkK C sp tk) := by
  constructor
  intro pins s σ H Q I h
  apply wpAny_Call_Name_kw (ld_glob I hg hm ?_ hdb)
  apply callWith_KW0 (h₀ := X.base) I.ok.mod.kin T.kp hall ?_ hpl
  apply thn (hkw.run pos pins s σ H _ I h)
  rintro ws s1 ⟨zs, H1, I1, rz, v, ev, q⟩
  subst ev
  obtain ⟨u, eu, ru⟩ := vals1 rz
  subst eu
  refine ⟨I1.kIn, ?_⟩
  rw [hks]
  show wpAny _ _ (call (.ref C) [] [(kn, u)]) _ _ _
  obtain ⟨nm, qn, N, bs, bm, sn, sub, ab, col, dd, k0, k1, k2, k3, k5, hC, hbm⟩ := T.cls
  obtain ⟨hp, g, dr, tkn, os⟩ := s1
  have new : hp.objs.size ≤ hp.objs.size + 1 := Nat.le_succ _
  have kp : ∀ b o, hp.get? b = some o → ((hp.push (kdv_tup [])).push (HandSPX.excO C hp.objs.size)).get? b = some o := fun b o e => Heap.get?_push_of_some _ (Heap.get?_push_of_some _ e)
  have at_ : ((hp.push (kdv_tup [])).push (HandSPX.excO C hp.objs.size)).get? (hp.objs.size + 1) = some (HandSPX.excO C hp.objs.size) := by heap_get
  have J : Inv X pins σ (upd H1 (hp.objs.size + 1) (exo (hp.objs.size + 1) C none)) ⟨(hp.push (kdv_tup [])).push (HandSPX.excO C hp.objs.size), g, dr, tkn, os⟩ :=
    I1.laid (a := hp.objs.size + 1) (o := exo (hp.objs.size + 1) C none) (h' := (hp.push (kdv_tup [])).push (HandSPX.excO C hp.objs.size)) (t' := tkn) kp new (exo_ok at_)
  have hq := q (hp.objs.size + 1) (I1.hok.fresh new)
  have r2 : Vals [V.ref (hp.objs.size + 1), v] [Value.ref (hp.objs.size + 1), u] := .cons rfl (.cons ru .nil)
  apply wpAny_call
  apply call_ownK PySem.F.excBase_Exception (fun Y => excTail_contains Y bm hbm) (I1.kIn _ _ hC) (looks_findIn I1.kIn iC) (fun self => bind_fn I1.kIn self tI) (by rw [sizeLine_eq]; decide)
  refine codeAny_mono (F1.run _ X.stack _ _ ⟨[Value.ref (hp.objs.size + 1)], [(kn, u)]⟩ [Value.ref (hp.objs.size + 1), u] _ _ E0 (hr.make C [] [(kn, u)]) (J.env0.make C [] [(kn, u)]) (hb _ _ _) r2 hq) ?_
  rintro (er | fl) s' z
  · exact hx pins σ _ _ er s' J z
  · cases fl with
    | ret u2 =>
      obtain ⟨v2, H', I3, rv, ev, q3⟩ := Inv.after J z
      subst ev
      exact ⟨rv, ⟨V.ref (hp.objs.size + 1), H', I3, rfl, q3⟩⟩
    | next => exact z.elim
    | brk => exact z.elim
    | cont => exact z.elim
/-- self.f = w, the whole of an __init__ of two parameters -/
def spSet (C : Addr) (f : Str) : Sp := fun vs H Q _ => ∃ (a : Addr) (y : V), vs = [.ref a, y] ∧ H a = some (exo a C none) ∧ ∀ dx, H dx = none → dx ≠ a → Q .non (upd (upd H dx (exd dx [(f, y)])) a (exo a C (some dx)))

/-! ### C(), a class without an __init__ of its own -/
def tExMk0 (C : Addr) : TE := fun _ H Q => ∀ a, H a = none → Q (.ref a) (upd H a (exo a C none))
theorem pe_exmk0 {x : Str} {p pos : Pos} (q : excIn X.K C exTl "Exception.__new__" = true) (kC : keepIn X.K (.ref C) = true) (hg : Gl X x) (hm : X.mg x = some (.ref C)) (hdb : (x == ("__debug__" : Str)) = false := by decide) : PE X (.Call (.Name x p) [] [] pos) (tExMk0 C) := by
  constructor
  intro pins s σ H Q I h
  apply wpAny_Call_Name_kw (ld_glob I hg hm ?_ hdb)
  refine callWith_K0 I.kIn kC ?_
  show wpAny _ _ (call (.ref C) []) _ _ _
  obtain ⟨bm, N, nm, qn, bs, hdct, sn, sub, ab, col, dd, k0, k1, k2, k3, k5, mN, hC, hN, hni, T⟩ := exc_obj I.kIn q
  refine wpAny_call_exc_subT PySem.F.excBase_Exception T hC hN hni (fun h' a hm => ?_) (by show 0 ≤ sizeLine; exact Nat.zero_le _)
  have hn : H a = none := I.hok.gone hm.new
  obtain ⟨t, ht, _, _⟩ := hm.there
  exact ⟨.ref a, upd H a (exo a C none), I.laidN hm.keeps hm.new hn (exo_ok ht), rfl, h a hn⟩

/-! ### e.f -/
def tExGet (K : Frag) (f : Str) (te : TE) : TE := fun σ H Q => te σ H fun x H1 => ∃ (a C : Addr) (fs : List (Str × V)) (v : V), x = .ref a ∧ ExC K C ∧ findIn K (.ref C) f = some none ∧ ExAt H1 a C fs ∧ fs.lookup f = some v ∧ Q v H1
theorem ex_inst (I : Inv X pins σ H s) (h : ExAt H a C fs) : ∃ ox od, InstAt s.heap a ox C od ∧ ∀ (n : Str) (v : V), fs.lookup n = some v → ∃ u o, od = some o ∧ lookIn n o = some (some u) ∧ RelV v u := by
  rcases h with ⟨dx, h1, h2⟩ | ⟨h0, h1⟩
  · obtain ⟨t1, ho⟩ := exo_at I.hok h1
    obtain ⟨mA, hns, hr⟩ := exd_at I.hok h2
    obtain ⟨od, hod, hl⟩ := lookIn_ns hns
    refine ⟨_, some od, ⟨ho, rfl, rfl, hod⟩, fun n v e => ?_⟩
    obtain ⟨u, hu, ru⟩ := RelO.some_of (v := v) (o := mA n) (by rw [← e]; exact hr n)
    exact ⟨u, od, rfl, by rw [hl, hu], ru⟩
  · obtain ⟨t1, ho⟩ := exo_at I.hok h1
    exact ⟨_, none, ⟨ho, rfl, rfl, trivial⟩, fun n v e => by rw [h0] at e; cases e⟩
theorem pe_exget {e : Expr} {te : TE} {pos : Pos} (he : PE X e te) (hb : attributeBase e f X.env (eval e X.env) = eval e X.env := by rfl) : PE X (.Attribute e f pos) (tExGet X.K f te) := by
  constructor
  intro pins s σ H Q I h
  apply attr_of hb
  apply thn (he.run pins s σ H _ I h)
  rintro u s1 ⟨x, H1, I1, rx, a, C, fs, v, ex, T, hno, ea, l, q⟩
  subst ex
  obtain rfl : u = Value.ref a := rx
  obtain ⟨ox, od, J, hf⟩ := ex_inst I1 ea
  obtain ⟨u, o, eo, hl, ru⟩ := hf f v l
  subst eo
  exact HandSPX.exc_get I1.kIn J T.ga T.gg T.bx (findObj_own T.hd hno rfl hl) (handed_of ru) ⟨v, H1, I1.tok _, ru, q⟩
end
end KX
namespace KX
open PySem PySem.Spec PySem.W PyProof.Rows PySem.Calls L2 KG
section
variable {prog : Program} {w : World} {A : Around} {E : Value → Shared → Prop} {s : Shared} {K : Frag} {x C : Addr} {ox : Obj} {od : Option Obj}
theorem find_data {name : Str} {a g : Value} (hd : hasDictIn K C = true) (ha : findIn K (.ref C) name = some (some a)) (hg : specialIn K a "__get__" = some (some g)) (ht : takesIn K a = some true) : findObj K C od name = some (.bind g a) := by
  obtain ⟨c, hc, _⟩ := any_some hd
  unfold findObj
  rw [hc, Option.bind_some, ha, Option.bind_some]
  simp only [hg, ht, Option.bind_some]
/-- e.__class__ -/
theorem class_of_ex {Q : Option Value → Shared → Prop} (T : ExC K C) (X : K.In s.heap) (I : InstAt s.heap x ox C od) (h : Q (some (.ref C)) { s with toks := s.toks + 1 }) : wpAny (model prog w) A (getAttr? (.ref x) "__class__") Q E s := by
  have hf : findObj K C od "__class__" = some (.bind (.builtin "getset_descriptor.__get__") (.builtin "object.__class__")) := find_data T.hd T.cl T.gn T.tk
  obtain ⟨hp, g, d, t, os⟩ := s
  have ty := I.type (M := model prog w)
  have l1 := looks_findIn (M := model prog w) X T.ga
  have l2 := looks_findIn (M := model prog w) X T.gg
  have l3 := looks_find (M := model prog w) X I hf
  have isB : Looks (model prog w) hp (isInstance (.ref x) (.type "BaseException")) true := ty.andThen (looks_subIn X T.bx)
  have z0 : (false && onTheHeap (Value.builtin "BaseException.__getattribute__")) = false := rfl
  have z2 : (Value.builtin "BaseException.__getattribute__" == Value.builtin "object.__getattribute__") = false := by decide +kernel
  have z1 : (onTheHeap (Value.ref C) && Value.builtin "BaseException.__getattribute__" == Value.builtin "object.__getattribute__") = false := by
    rw [z2]
    rfl
  unfold getAttr? getAttrBy? getAttrBy
  refine wpAny_bind (wpAny_mkText (wpAny_bind (wpAny_attempt (wpAny_holding (wpAny_bind (ty.at (wpAny_bind (l1.at ?_))))))))
  show wpAny _ _ (if (onTheHeap (Value.ref C) && Value.builtin "BaseException.__getattribute__" == Value.builtin "object.__getattribute__") = true then _ else _) _ _ _
  rw [z1, if_neg Bool.false_ne_true]
  unfold getAttrByItsOwn hookBefore
  apply wpAny_bind
  rw [if_pos (show onTheHeap (Value.ref C) = true from rfl)]
  refine l2.at (wpAny_bind (wpAny_attempt (wpAny_holding ?_)))
  unfold callGetattribute
  rw [z0, if_neg Bool.false_ne_true]
  unfold boundAndCalled
  rw [PySem.F.excAttr_ValueError.ga.bind (.ref x)]
  refine wpAny_bind (wpAny_pure ?_)
  show wpAny _ _ (call (.builtin "BaseException.__getattribute__") [.ref x, .str "__class__" t]) _ _ _
  apply wpAny_call
  apply codeAny_call_builtin PySem.F.excAttr_ValueError.ga.plain PySem.F.entry_bexc_ga
  refine @check_slot (model prog w) _ _ ⟨hp, g, d, t + 1, os⟩ "BaseException.__getattribute__" "BaseException" "__getattribute__" (.ref x) [.str "__class__" t] [] _ (by decide +kernel) (by decide +kernel) isB (PySem.F.args_bexc_ga (.ref x) (.str "__class__" t)) ?_
  unfold Builtin.«object.__getattribute__»
  refine wpAny_bind (wpAny_of_eq (a := ((Value.ref x : Value), [Value.str "__class__" t])) (by first | rfl | (simp only [slotArgs]; rfl)) ?_)
  refine wpAny_bind (wpAny_pure (wpAny_bind (ty.at (wpAny_bind (l3.at ?_)))))
  show wpAny _ _ (holding [Value.builtin "object.__class__"] (call (.builtin "getset_descriptor.__get__") [.builtin "object.__class__", .ref x, .ref C]) >>= ret) _ _ _
  refine wpAny_bind (wpAny_holding (wpAny_call (class_get (s := ⟨hp, g, d, t + 1, os⟩) (ox := ox) (od := od) X I T.mo (wpAny_pure ?_))))
  show wpAny _ _ (handedOut (.ref C)) _ _ _
  rw [handedOut_of (v := .ref C) rfl]
  first
    | exact wpAny_pure h
    | exact wpAny_pure (wpAny_pure h)
    | exact wpAny_pure (wpAny_bind (wpAny_pure (wpAny_pure h)))
theorem cls_obj (T : ExC K C) : ∃ c d cd sl, K.lookup C = some ⟨c, d, .cls cd, sl⟩ := by
  obtain ⟨cd, hc, _⟩ := any_some T.hd
  unfold clsIn at hc
  split at hc
  · rename_i c d cd2 sl ho
    exact ⟨c, d, cd2, sl, ho⟩
  · cases hc
theorem kit_ex (T : ExC K C) : KitX K (.ref x) (.ref C) (fun h => ∃ ox od, InstAt h x ox C od) where
  ty := fun _ _ _ ⟨_, _, I⟩ => I.type
  it := fun _ _ X _ => by
    obtain ⟨c, d, cd, sl, ho⟩ := cls_obj T
    intro A' Q' E' s' k q
    unfold isType loadHead
    exact wpAny_bind (wpAny_loadPart (k _ _ (X _ _ ho)) (wpAny_pure q))
  ne := fun h tp dd its n sl X htp => by
    obtain ⟨c, d, cd, sl2, ho⟩ := cls_obj T
    cases e : (Value.ref C == Value.ref tp) with
    | false => rfl
    | true =>
      have e2 : C = tp := Value.ref.inj (beq_iff_eq.mp e)
      subst e2
      have z := (X _ _ ho).symm.trans htp
      cases z
  ca := fun X ⟨_, _, I⟩ k => class_of_ex T X I k
end
section
variable {X : Cx}
/-- isinstance(e, c), e an exception that was made -/
def rIsiE (K : Frag) : List V → Hp → VK → Prop := fun xs H Q => ∃ (a C : Addr) (fs : List (Str × V)) (c : V) (u : Value) (b : Bool), xs = [.ref a, c] ∧ ExC K C ∧ ExAt H a C fs ∧ ClsV c u ∧ kitOne K (.ref C) u = some b ∧ Q (.bl b) H
theorem call_isiE : CallR X (.builtin "isinstance") (rIsiE X.K) := by
  intro pins s σ H xs us Q I r h
  obtain ⟨a, C, fs, c, u, b, rfl, T, ea, k, e, q⟩ := h
  obtain ⟨u1, u2, rfl, r1, r2⟩ := vals2 r
  obtain rfl : u1 = Value.ref a := r1
  have e2 := k.eq r2
  subst e2
  obtain ⟨ox, od, J, _⟩ := ex_inst I ea
  exact kia_one (kit_ex T) I.kIn ⟨ox, od, J⟩ e (fun z => nomatch z) fun tk => ⟨.bl b, H, I.tok tk, rfl, q⟩
/-- isinstance(e, (c1, c2, ..)) -/
def rIsiET (K : Frag) : List V → Hp → VK → Prop := fun xs H Q => ∃ (a C tp : Addr) (fs : List (Str × V)) (cs : List V) (us : List Value) (b : Bool), xs = [.ref a, .ref tp] ∧ ExC K C ∧ ExAt H a C fs ∧ H tp = some (.tup cs) ∧ Paired ClsV cs us ∧
  kitAny K (.ref C) us = some b ∧ Q (.bl b) H
theorem call_isiET : CallR X (.builtin "isinstance") (rIsiET X.K) := by
  intro pins s σ H xs us Q I r h
  obtain ⟨a, C, tp, fs, cs, ws, b, rfl, T, ea, hT, k, e, q⟩ := h
  obtain ⟨u1, u2, rfl, r1, r2⟩ := vals2 r
  obtain rfl : u1 = Value.ref a := r1
  obtain rfl : u2 = Value.ref tp := r2
  obtain ⟨ox, od, J, _⟩ := ex_inst I ea
  obtain ⟨_, its, rv, o, h1, h2, n, h3⟩ := (show ObjOk X.prog X.w H s.heap tp (.tup cs) from I.hok tp _ hT)
  have e3 := ClsV.all k rv
  subst e3
  obtain ⟨oc, od2, dt, sl⟩ := o
  obtain rfl : oc = Value.type "tuple" := h2
  obtain rfl : dt = Data.seq its.toArray n := h3
  exact kia_tup (kit_ex T) I.kIn ⟨ox, od, J⟩ h1 e (fun z => nomatch z) fun tk => ⟨.bl b, H, I.tok tk, rfl, q⟩
end
end KX
/-! Sets of texts, sets of tuples of texts and numbers: what they hold, the small questions asked of a key, adding a text. -/
namespace KS
open PySem PySem.Spec PyProof.Rows L2

/-- a member: its value, its key -/
abbrev Mem := Value × NestedKey
/-- of a set of texts (false), of a set of tuples (true) -/
def Fit : Bool → Mem → Prop
  | false, m => ∃ x t, m = (Value.str x t, NestedKey.text x)
  | true, m => ∃ c ks, m.1 = Value.ref c ∧ m.2 = NestedKey.tup ks ∧ m.2.depth ≤ 8
def ents (w : World) (L : List Mem) : List (Int × Value) := L.map fun m => (m.2.hash w, m.1)
abbrev hs (w : World) (L : List Mem) : List Int := L.map fun m => m.2.hash w
/-- the set at a: its members in the table's order -/
structure SetK (b : Bool) (w : World) (h : Heap) (a : Addr) (L : List Mem) (es : Array (Int × Value)) (ep : Nat) (t : SetTable) : Prop where
  ob : ∃ o, h.get? a = some o ∧ o.ExactSet ∧ o.data = .set es ep t
  eq : es.toList = ents w L
  nd : (L.map (·.2)).Nodup
  fit : ∀ m ∈ L, Fit b m
  key : ∀ m ∈ L, NestedIs h m.2 m.1
  ris : Ris t.place.toList
  full : t.fits es.size = true
  led : w.params.followText "set-order" = true ∨ t.led = true
  few : L.length < 64
  tab : b = true → TabOk t (hs w L) ∧ L.length * 5 < t.mask * 3
section
variable {P : Program} {w : World} {A : Around} {E : Value → Shared → Prop} {s : Shared} {b : Bool} {a : Addr} {L : List Mem} {es : Array (Int × Value)} {ep : Nat} {t : SetTable}
theorem SetK.size (R : SetK b w s.heap a L es ep t) : es.size = L.length := by
  rw [← Array.length_toList, R.eq, ents, List.length_map]
theorem ents_perm {w : World} {L L' : List Mem} (h : L.Perm L') : (ents w L).Perm (ents w L') := h.map _
theorem ents_get {w : World} {L : List Mem} {es : Array (Int × Value)} (h : es.toList = ents w L) {i : Nat} {m : Mem} (e : L[i]? = some m) : es[i]? = some (m.2.hash w, m.1) := by
  rw [← Array.getElem?_toList, h, ents, List.getElem?_map, e]
  rfl

/-! the small questions -/
theorem all_mem {h : Heap} : ∀ {ks : List NestedKey} {vs : List Value}, NestedAll h ks vs → ∀ v ∈ vs, ∃ k, NestedIs h k v ∧ k.depth ≤ NestedKey.depthAll ks
  | [], _, x, v, hv => by
    cases x
    cases hv
  | k :: ks, _, x, v, hv => by
    cases x with
    | cons x1 x2 =>
      rcases List.mem_cons.mp hv with e | hv
      · rw [e]
        exact ⟨k, x1, Nat.le_max_left _ _⟩
      · obtain ⟨k', y1, y2⟩ := all_mem x2 v hv
        exact ⟨k', y1, Nat.le_trans y2 (Nat.le_max_right _ _)⟩
theorem cls_key : ∀ (n : Nat) (k : NestedKey) (v : Value) (A : Around) (s : Shared) (Q : Bool → Shared → Prop), NestedIs s.heap k v → k.depth ≤ n → Q false s → wpAny (model P w) A (ofAClassStatement n v) Q E s
  | n, .none, _, A, s, Q, x, _, q => by
    cases x
    cases n <;> exact wpAny_pure q
  | n, .num i, _, A, s, Q, x, _, q => by
    cases x <;> cases n <;> exact wpAny_pure q
  | n, .text y, _, A, s, Q, x, _, q => by
    cases x
    cases n <;> exact wpAny_pure q
  | 0, .tup ks, _, A, s, Q, x, hd, q => by
    simp only [NestedKey.depth] at hd
    omega
  | n + 1, .tup ks, _, A, s, Q, x, hd, q => by
    cases x with
    | @tup c o vs m _ h1 h2 h3 h4 =>
      simp only [NestedKey.depth] at hd
      have ty : s.TypeIs (.ref c) "tuple" := ⟨o, h1, h2⟩
      unfold ofAClassStatement
      refine wpAny_bind (wpAny_typeOf ty ?_)
      dsimp only
      have e : (("tuple" : String) == "tuple") = true := by decide
      simp only [e, if_true, Bool.not_true, Bool.false_eq_true, if_false]
      try refine wpAny_bind (wpAny_pure ?_)
      try simp only [Bool.not_true, Bool.false_eq_true, if_false]
      show wpAny _ _ (seqItems? (.ref c) >>= _) _ _ s
      refine wpAny_bind (wpAny_seqItems h1 h3 ?_)
      dsimp only
      refine wpAny_bind ?_
      show wpAny _ _ (forIn vs _ _) _ _ s
      rw [← Array.forIn_toList]
      refine wpAny_forIn_list _ (fun rest r s' => r.1 = none ∧ s' = s ∧ ∀ u ∈ rest, u ∈ vs.toList) _ ?_ ?_ _ _ ⟨rfl, rfl, fun _ hu => hu⟩
      · rintro u rest r s' ⟨hr, rfl, hall⟩
        obtain ⟨k', y1, y2⟩ := all_mem h4 u (hall u List.mem_cons_self)
        refine wpAny_bind (cls_key n k' u A s' _ y1 (by omega) ?_)
        simp only [Bool.false_eq_true, if_false]
        exact wpAny_pure ⟨rfl, rfl, fun z hz => hall z (List.mem_cons_of_mem _ hz)⟩
      · rintro ⟨r1, r2⟩ s' ⟨hr, rfl, _⟩
        simp only at hr
        subst hr
        exact wpAny_pure q
theorem byVal_key : ∀ (n : Nat) (k : NestedKey) (v : Value) (A : Around) (s : Shared) (Q : Bool → Shared → Prop), NestedIs s.heap k v → (∀ c, Q c s) → wpAny (model P w) A (hashByValue n v) Q E s
  | n, .none, _, A, s, Q, x, q => by
    cases x
    cases n <;> exact wpAny_pure (q _)
  | n, .num i, _, A, s, Q, x, q => by
    cases x <;> cases n <;> exact wpAny_pure (q _)
  | n, .text y, _, A, s, Q, x, q => by
    cases x
    cases n <;> exact wpAny_pure (q _)
  | 0, .tup ks, _, A, s, Q, x, q => by
    cases x
    exact wpAny_pure (q _)
  | n + 1, .tup ks, _, A, s, Q, x, q => by
    cases x with
    | @tup c o vs m _ h1 h2 h3 h4 =>
      have ty : s.TypeIs (.ref c) "tuple" := ⟨o, h1, h2⟩
      unfold hashByValue
      refine wpAny_bind (wpAny_specialOf ty F.slot_tuple_hash.lookup ?_)
      show wpAny _ _ (seqItems? (.ref c) >>= _) _ _ s
      refine wpAny_bind (wpAny_seqItems h1 h3 ?_)
      refine wpAny_bind ?_
      show wpAny _ _ (forIn vs _ _) _ _ s
      rw [← Array.forIn_toList]
      refine wpAny_forIn_list _ (fun rest r s' => r.1 = none ∧ s' = s ∧ ∀ u ∈ rest, u ∈ vs.toList) _ ?_ ?_ _ _ ⟨rfl, rfl, fun _ hu => hu⟩
      · rintro u rest r s' ⟨hr, rfl, hall⟩
        obtain ⟨k', y1, y2⟩ := all_mem h4 u (hall u List.mem_cons_self)
        refine wpAny_bind (byVal_key n k' u A s' _ y1 fun c => ?_)
        cases c
        · simp only [Bool.not_false, if_true]
          exact wpAny_pure (wpAny_pure (q _))
        · simp only [Bool.not_true, Bool.false_eq_true, if_false]
          exact wpAny_pure ⟨rfl, rfl, fun z hz => hall z (List.mem_cons_of_mem _ hz)⟩
      · rintro ⟨r1, r2⟩ s' ⟨hr, rfl, _⟩
        simp only at hr
        subst hr
        exact wpAny_pure (q _)
theorem wp_two {α : Type} {M : Model} {c : Prop} [Decidable c] {x y : Sem α} {Q : α → Shared → Prop} (h1 : c → wpAny M A x Q E s) (h2 : ¬ c → wpAny M A y Q E s) : wpAny M A (if c then x else y) Q E s := by
  split
  · exact h1 (by assumption)
  · exact h2 (by assumption)
/-- a search among tuples shows nothing -/
theorem seen_key {k : NestedKey} {c : Addr} {Q : Bool → Shared → Prop} (hk : NestedIs s.heap k (.ref c)) (hd : k.depth ≤ 8) {ys : List Value} (hy : ∀ y ∈ ys, ∃ k', NestedIs s.heap k' y ∧ k'.depth ≤ 8) (q : Q false s) :
    wpAny (model P w) A (searchCouldBeSeen (.ref c) ys) Q E s := by
  unfold searchCouldBeSeen
  refine wpAny_bind ?_
  refine wpAny_forIn_list _ (fun (rest : List Value) r s' => r.1 = none ∧ s' = s ∧ ∀ y ∈ rest, y ∈ ys) _ ?_ ?_ _ _ ⟨rfl, rfl, fun _ h => h⟩
  · intro y rest r s' hI
    obtain ⟨hr, rfl, hall⟩ := hI
    obtain ⟨k', y1, y2⟩ := hy y (hall y List.mem_cons_self)
    have keep : ∀ z ∈ rest, z ∈ ys := fun z hz => hall z (List.mem_cons_of_mem _ hz)
    dsimp only
    refine wp_two (fun _ => ?_) fun _ => ?_
    · exact wpAny_pure ⟨rfl, rfl, keep⟩
    · refine wpAny_bind (quiet_key k _ 8 s' hk hd A E _ ?_)
      simp only [Bool.not_true, Bool.false_eq_true, if_false]
      refine wpAny_bind (quiet_key k' _ 8 s' y1 y2 A E _ ?_)
      simp only [Bool.not_true, Bool.false_eq_true, if_false]
      refine wpAny_bind (cls_key 8 k _ A s' _ hk hd ?_)
      simp only [Bool.false_eq_true, if_false]
      refine wpAny_bind (cls_key 8 k' _ A s' _ y1 y2 ?_)
      simp only [Bool.false_eq_true, if_false]
      exact wpAny_pure ⟨rfl, rfl, keep⟩
  · rintro ⟨r1, r2⟩ s' ⟨hr, rfl, _⟩
    simp only at hr
    subst hr
    exact wpAny_pure q
/-- what the set's own writing leaves -/
theorem key_but {h h' : Heap} {o : Obj} (ho : h.get? a = some o) (hd : o.data = .set es ep t) (sb : Heap.SameBut a h h') {k : NestedKey} {v : Value} (x : NestedIs h k v) : NestedIs h' k v :=
  NestedIs.at (fun c o2 vs n e1 e2 => (sb.2 c fun z => by
    rw [z, ho] at e1
    rw [← Option.some.inj e1, hd] at e2
    cases e2).trans e1) k v x
theorem SetK.keep {h h' : Heap} (R : SetK b w h a L es ep t) (ha : ∀ o, h.get? a = some o → h'.get? a = some o) (hk : ∀ m ∈ L, NestedIs h' m.2 m.1) : SetK b w h' a L es ep t := by
  obtain ⟨o, ho, r⟩ := R.ob
  exact { R with ob := ⟨o, ha o ho, r⟩, key := hk }
theorem setK_new {h : Heap} (b : Bool) (ho : h.get? a = some { cls := .type "set", dict := none, data := .set #[] 0 (.fresh 0 0 (!w.params.followText "set-order")) }) : SetK b w h a [] #[] 0 (.fresh 0 0 (!w.params.followText "set-order")) where
  ob := ⟨_, ho, ⟨rfl, rfl, rfl⟩, rfl⟩
  eq := rfl
  nd := List.nodup_nil
  fit := fun _ z => nomatch z
  key := fun _ z => nomatch z
  ris := List.Pairwise.nil
  full := rfl
  led := by
    show _ ∨ (!w.params.followText "set-order") = true
    cases w.params.followText "set-order"
    · exact .inr rfl
    · exact .inl rfl
  few := by decide
  tab := fun _ => ⟨⟨List.Pairwise.nil, rfl, rfl, .inl rfl, fun _ z => (by cases z), fun i h j z => (by simp at z)⟩, by show 0 * 5 < 7 * 3; decide⟩

/-! adding a text -/
theorem text_elems (h : ∀ m ∈ L, Fit false m) : ElemsOf (PySem.strKind P w) (ents w L) := fun e he => by
  obtain ⟨m, hm, rfl⟩ := List.mem_map.mp he
  obtain ⟨x, tk, rfl⟩ := h m hm
  exact ⟨⟨x, strKind_is _ _ _ _, rfl⟩, rfl⟩
theorem text_is (h : ∀ m ∈ L, Fit false m) {y : Str} : (∃ e ∈ ents w L, (PySem.strKind P w).is y e.2 = true) ↔ NestedKey.text y ∈ L.map (·.2) := by
  constructor
  · rintro ⟨e, he, q⟩
    obtain ⟨m, hm, rfl⟩ := List.mem_map.mp he
    obtain ⟨x, tk, rfl⟩ := h m hm
    have e2 : x = y := beq_iff_eq.mp (show (x == y) = true from q)
    exact List.mem_map.mpr ⟨_, hm, by rw [e2]⟩
  · intro hm
    obtain ⟨m, hm, e⟩ := List.mem_map.mp hm
    obtain ⟨x, tk, rfl⟩ := h m hm
    have e2 : x = y := NestedKey.text.inj e
    exact ⟨_, List.mem_map.mpr ⟨_, hm, rfl⟩, by
      show (x == y) = true
      rw [e2]
      exact beq_self_eq_true y⟩
/-- what adding leaves -/
def Added (b : Bool) (w : World) (s : Shared) (a : Addr) (L : List Mem) (m : Mem) (Q : Bool → Shared → Prop) : Prop := ∀ c h' L' es' ep' t', Heap.SameBut a s.heap h' → SetK b w h' a L' es' ep' t' →
  (m.2 ∈ L.map (·.2) → L' = L) → (m.2 ∉ L.map (·.2) → L'.Perm (m :: L)) → Q c { s with heap := h' }
theorem perm_back {α β : Type} (f : α → β) : ∀ (l : List β) (M : List α), l.Perm (M.map f) → ∃ M' : List α, l = M'.map f ∧ M'.Perm M
  | [], M, h => by
    have e : M.map f = [] := List.nil_perm.mp h
    have e2 : M = [] := List.map_eq_nil_iff.mp e
    exact ⟨[], rfl, by rw [e2]⟩
  | y :: r, M, h => by
    obtain ⟨x, hx, e⟩ := List.mem_map.mp (h.mem_iff.mp List.mem_cons_self)
    obtain ⟨A, B, rfl⟩ := List.append_of_mem hx
    subst e
    have pm : (A ++ x :: B).Perm (x :: (A ++ B)) := List.perm_middle
    have h2 := h.trans (pm.map f)
    rw [List.map_cons] at h2
    obtain ⟨M', e1, p⟩ := perm_back f r (A ++ B) (List.Perm.cons_inv h2)
    exact ⟨x :: M', by rw [List.map_cons, e1], (p.cons x).trans pm.symm⟩
theorem ents_of_perm {w : World} {l : List (Int × Value)} {M : List Mem} (h : l.Perm (ents w M)) : ∃ L', l = ents w L' ∧ L'.Perm M := perm_back _ l M h
theorem SetK.perm {h' : Heap} {L' : List Mem} {m : Mem} (R : SetK b w s.heap a L es ep t) (hm : m.2 ∉ L.map (·.2)) (pm : L'.Perm (m :: L)) : (L'.map (·.2)).Nodup ∧ L'.length = L.length + 1 :=
  ⟨(pm.map (·.2)).nodup_iff.mpr (by
    rw [List.map_cons]
    exact List.nodup_cons.mpr ⟨hm, R.nd⟩), by rw [pm.length_eq, List.length_cons]⟩
/-- behind a new text's storing: the table laid anew, if it is too full -/
theorem text_tail {g : Bool → Sem Unit} (hg : ∀ (c : Bool) (s1 : Shared) (Q' : Unit → Shared → Prop), Q' () s1 → wpAny (model P w) A (g c) Q' E s1)
    {o : Obj} (ho : s.heap.get? a = some o) (hex : o.ExactSet) (hd : o.data = .set es ep t) {L1 : List Mem} {es1 : Array (Int × Value)} {t1 : SetTable}
    (e1 : es1.toList = ents w L1) (nd : (L1.map (·.2)).Nodup) (fit : ∀ m ∈ L1, Fit false m) (key : ∀ m ∈ L1, NestedIs s.heap m.2 m.1) (few : L1.length < 64)
    (full : t1.fits es1.size = true) (ris : Ris t1.place.toList) (led : w.params.followText "set-order" = true ∨ t1.led = true) {d : Bool} {R : Option Bool → Shared → Prop}
    (q : ∀ h' L' es' ep' t', Heap.SameBut a s.heap h' → SetK false w h' a L' es' ep' t' → L'.Perm L1 → R (some true) { s with heap := h' }) :
    wpAny (model P w) A (do
        storeSet a es1 t1
        if (!d && t1.tooFull) = true then do
            g (relayAll t1 es1 (SetTable.grown es1.size)).2.2
            storeSet a (relayAll t1 es1 (SetTable.grown es1.size)).1 (relayAll t1 es1 (SetTable.grown es1.size)).2.1
            pure (some true)
          else pure (some true)) R E s := by
  have z1 : es1.size = L1.length := by rw [← Array.length_toList, e1, ents, List.length_map]
  refine wpAny_bind (wpAny_storeSet_of ho hd ?_ (by rw [z1, sizeLine_eq]; omega))
  have ho1 := L2.store_at (es' := es1) (t' := t1) ho hd
  have sb1 := Heap.SameBut.update s.heap a (Obj.putSet es1 t1)
  have key1 : ∀ m ∈ L1, NestedIs (s.heap.update a (Obj.putSet es1 t1)) m.2 m.1 := fun m hm => key_but ho hd sb1 (key m hm)
  split
  · have pm := relayAll_perm t1 es1 (SetTable.grown es1.size)
    have f2 := relayAll_fits t1 es1 (SetTable.grown es1.size)
    have r2 := relayAll_ris t1 es1 (SetTable.grown es1.size)
    have l2 := relayAll_led t1 es1 (SetTable.grown es1.size)
    generalize relayAll t1 es1 (SetTable.grown es1.size) = Z at pm f2 r2 l2 ⊢
    obtain ⟨es2, t2, gave⟩ := Z
    dsimp only at pm f2 r2 l2 ⊢
    rw [e1] at pm
    obtain ⟨L2', e2, p2⟩ := ents_of_perm pm
    have z2 : es2.size = L2'.length := by rw [← Array.length_toList, e2, ents, List.length_map]
    refine wpAny_bind (hg _ _ _ (wpAny_bind (wpAny_storeSet_of ho1 rfl ?_ (by rw [z2, p2.length_eq, sizeLine_eq]; omega))))
    have ho2 := L2.store_at (es' := es2) (t' := t2) ho1 rfl
    have sb2 := Heap.SameBut.update (s.heap.update a (Obj.putSet es1 t1)) a (Obj.putSet es2 t2)
    exact wpAny_pure (q _ L2' es2 _ t2 (sb1.trans sb2) ⟨⟨_, ho2, hex, rfl⟩, e2, (p2.map (·.2)).nodup_iff.mpr nd, fun m hm => fit m (p2.mem_iff.mp hm), fun m hm => key_but ho1 rfl sb2 (key1 m (p2.mem_iff.mp hm)),
      r2, f2, led.imp id fun z => by rw [l2]; exact z, by rw [p2.length_eq]; exact few, fun z => by cases z⟩ p2)
  · exact wpAny_pure (q _ L1 es1 _ t1 sb1 ⟨⟨_, ho1, hex, rfl⟩, e1, nd, fit, key1, ris, full, led, few, fun z => by cases z⟩ (List.Perm.refl _))
theorem add_text {x : Str} {tk : Tok} {Q : Bool → Shared → Prop} (R : SetK false w s.heap a L es ep t) (room : L.length + 1 < 64) (q : Added false w s a L (.str x tk, .text x) Q) :
    wpAny (model P w) A (setAddHashed a (.str x tk) (hashStr w x)) Q E s := by
  obtain ⟨o, ho, hex, hd⟩ := R.ob
  have hf := R.full
  have hel : ElemsOf (PySem.strKind P w) es.toList := by rw [R.eq]; exact text_elems R.fit
  have sc : (Value.str x tk).scannable = true := rfl
  have ki : (PySem.strKind P w).is x (.str x tk) = true := strKind_is _ _ _ _
  have zs : es.size < scanBound := by
    rw [R.size]
    show L.length < 4096
    omega
  unfold setAddHashed setAddHashedIn
  refine wpAny_holding (wpAny_bind (wpAny_setState_of ho hd hf ?_))
  dsimp only
  rw [byScan_of sc zs hel]
  simp only [↓reduceIte]
  unfold setAddByScan
  refine wpAny_bind (wpAny_bind (wpAny_rule (wpAny_bind ?_)))
  show wpAny _ _ (setScan a (.str x tk) ((PySem.strKind P w).hash x) true es) _ _ s
  refine wpAny_setScan_of ki ho hd hf hel ?_
  cases hfi : List.findIdx? (fun e => (PySem.strKind P w).is x e.2) es.toList with
  | some j =>
    dsimp only
    obtain ⟨hj, pj, _⟩ := List.findIdx?_eq_some_iff_getElem.mp hfi
    have hm : NestedKey.text x ∈ L.map (·.2) := (text_is (P := P) R.fit).1 ⟨_, by rw [← R.eq]; exact List.getElem_mem hj, pj⟩
    exact wpAny_pure (wpAny_pure (q _ s.heap L es ep t (Heap.SameBut.refl a s.heap) R (fun _ => rfl) fun z => absurd hm z))
  | none =>
    dsimp only
    have hm : NestedKey.text x ∉ L.map (·.2) := fun z => by
      obtain ⟨e, he, c1⟩ := (text_is (P := P) R.fit).2 z
      rw [← R.eq] at he
      have c2 := List.findIdx?_eq_none_iff.mp hfi e he
      rw [c1] at c2
      cases c2
    have pm := layNew_perm t es (hashStr w x) (.str x tk)
    have f1 := layNew_fits t es (hashStr w x) (.str x tk)
    have r1 := layNew_ris t es (hashStr w x) (.str x tk) R.ris
    have l1 := layNew_led t es (hashStr w x) (.str x tk)
    generalize layNew t es (hashStr w x) (.str x tk) = Z at pm f1 r1 l1 ⊢
    obtain ⟨es1, t1, was, gave⟩ := Z
    dsimp only at pm f1 r1 l1 ⊢
    have pc : es1.toList.Perm (ents w ((Value.str x tk, NestedKey.text x) :: L)) := by
      rw [Array.toList_push, R.eq] at pm
      exact pm.trans (List.perm_append_singleton _ _)
    obtain ⟨L1, e1, p1⟩ := ents_of_perm pc
    obtain ⟨nd1, n1⟩ := R.perm (h' := s.heap) hm p1
    have fit1 : ∀ m ∈ L1, Fit false m := fun m hm => by
      rcases List.mem_cons.mp (p1.mem_iff.mp hm) with z | z
      · rw [z]
        exact ⟨x, tk, rfl⟩
      · exact R.fit m z
    have key1 : ∀ m ∈ L1, NestedIs s.heap m.2 m.1 := fun m hm => by
      rcases List.mem_cons.mp (p1.mem_iff.mp hm) with z | z
      · rw [z]
        exact .text _ _
      · exact R.key m z
    have led1 : w.params.followText "set-order" = true ∨ t1.led = true := R.led.imp id fun z => by rw [l1]; exact z
    have fin : ∀ h' L' es' ep' t', Heap.SameBut a s.heap h' → SetK false w h' a L' es' ep' t' → L'.Perm L1 → Q true { s with heap := h' } := fun h' L' es' ep' t' sb r p => q true h' L' es' ep' t' sb r (fun z => absurd z hm) fun _ => p.trans p1
    have gw : ∀ (c : Bool) {s1 : Shared} {Q' : Unit → Shared → Prop}, Q' () s1 → wpAny (model P w) A (match c with | true => rule "set.scan.the-table-gave-way" | false => pure ()) Q' E s1 :=
      fun c s1 Q' h => by cases c <;> first | exact wpAny_pure h | exact wpAny_rule h
    refine wpAny_bind (gw _ ?_)
    split
    · refine wpAny_bind ?_
      rw [hashByValue_scannable 8 sc]
      refine wpAny_pure ?_
      refine text_tail (L1 := L1) ?_ ho hex hd e1 nd1 fit1 key1 (by omega) ?_ ?_ ?_ ?_
      · intro c s1 Q' h; cases c <;> first | exact wpAny_pure h | exact wpAny_rule h
      · first | (split <;> first | exact f1 | exact SetTable.fits_plain_off f1) | exact f1
      · first | (split <;> exact r1) | exact r1
      · first | (split <;> exact led1) | exact led1
      · intro h' L' es' ep' t' sb r p; dsimp only; exact wpAny_pure (fin h' L' es' ep' t' sb r p)
    · refine wpAny_bind (wpAny_pure ?_)
      simp only [↓reduceIte]
      refine text_tail (L1 := L1) ?_ ho hex hd e1 nd1 fit1 key1 (by omega) f1 r1 led1 ?_
      · intro c s1 Q' h; cases c <;> first | exact wpAny_pure h | exact wpAny_rule h
      · intro h' L' es' ep' t' sb r p; dsimp only; exact wpAny_pure (fin h' L' es' ep' t' sb r p)
end
end KS
/-! Sets of tuples: the search, adding a tuple; one promise of adding for both kinds. -/
namespace KS
open PySem PySem.Spec PyProof.Rows L2
section
variable {P : Program} {w : World} {A : Around} {E : Value → Shared → Prop} {s : Shared} {a : Addr} {L : List Mem} {es : Array (Int × Value)} {ep : Nat} {t : SetTable}
/-- the walk from the start of hash h in a table of mask m -/
abbrev go (m : Nat) (h : Int) (c : Nat) : SetTable.Probe := nth m (runAt m (SetTable.bits h % (m + 1)) (SetTable.bits h)) c
theorem go_add (m : Nat) (h : Int) (c q : Nat) : nth m (go m h c) q = go m h (c + q) := (nth_add m c _ q).symm
theorem go_j (m : Nat) (h : Int) (c q : Nat) : (nth m (go m h c) q).j = way m h (c + q) := congrArg SetTable.Probe.j (go_add m h c q)
theorem nth_dummy (m : Nat) : ∀ (n : Nat) (p : SetTable.Probe), p.dummy = none → (nth m p n).dummy = none
  | 0, _, h => h
  | n + 1, p, h => nth_dummy m n (adv m p) (by
    unfold adv
    split <;> exact h)
theorem odd_gw {t : SetTable} (h : MaskOk t.mask) : ¬ t.gaveWay = true := by
  unfold SetTable.gaveWay
  rw [mask_odd h]
  decide
/-- the search among tuples from the c-th step on; the way's first empty slot is step K -/
theorem hunt (R : SetK true w s.heap a L es ep t) {x : Addr} {k : NestedKey} (hx : NestedIs s.heap k (.ref x)) (kd : k.depth ≤ 8) (hu : A.units + 8 < cLine) {K : Nat} (hKf : K < 10 * SetTable.turns t.mask)
    (hK : way t.mask (k.hash w) K ∉ t.place.toList) (hKb : ∀ c, c < K → way t.mask (k.hash w) c ∈ t.place.toList) {Q : SetFound → Shared → Prop}
    (hin : k ∈ L.map (·.2) → Q (.there none) s) (hout : k ∉ L.map (·.2) → Q (.free (way t.mask (k.hash w) K) false) s) :
    ∀ (f c : Nat) (st : Option SetTable.Probe), st.getD (t.probeStart (k.hash w)) = go t.mask (k.hash w) c → c ≤ K → K - c < f →
      (∀ (i : Nat) m, L[i]? = some m → m.2 = k → ∃ c', c ≤ c' ∧ c' < K ∧ t.place.toList[i]? = some (way t.mask (k.hash w) c')) →
      wpAny (model P w) A (setSearchFrom a (.ref x) (k.hash w) true f st) Q E s
  | 0, c, st, _, _, hf, _ => absurd hf (Nat.not_lt_zero _)
  | f + 1, c, st, hst, hc, hf, left => by
    obtain ⟨o, ho, _, hd⟩ := R.ob
    have tb := (R.tab rfl).1
    have fin2 : ∀ (i : Nat) (m : Mem), L[i]? = some m → (fun i => (es[i]?.map (·.1)).getD 0) i = m.2.hash w := fun i m e => by
      show (es[i]?.map (·.1)).getD 0 = _
      rw [ents_get R.eq e]
      rfl
    rw [setSearchFrom_succ]
    refine wpAny_bind (wpAny_setState_of ho hd R.full ?_)
    dsimp only
    refine wp_if_neg (odd_gw tb.mok) ?_
    try refine wpAny_bind (wpAny_pure ?_)
    have sp := go_spec t R.ris tb.dm (fun i => (es[i]?.map (·.1)).getD 0) (k.hash w) (10 * SetTable.turns t.mask) (K - c) (go t.mask (k.hash w) c) (nth_dummy _ c _ rfl) (by omega)
      (fun q hq => by rw [go_j]; exact hKb (c + q) (by omega)) (by rw [go_j, show c + (K - c) = K by omega]; exact hK)
    rcases sp with ⟨q, i, hq, hi, hh, hno, hpr⟩ | ⟨hno, hpr⟩
    · rw [go_add, go_add, ← hst] at hpr
      rw [show t.probe (fun i => (es[i]?.map (·.1)).getD 0) (k.hash w) (st.getD (t.probeStart (k.hash w))) = _ from hpr]
      dsimp only
      rw [go_j] at hi
      have il : i < L.length := by
        have n1 : i < t.place.toList.length := (List.getElem?_eq_some_iff.mp hi).1
        have n2 := tb.sz
        rw [List.length_map] at n2
        rw [Array.length_toList] at n1
        omega
      have hp : L[i]? = some L[i] := List.getElem?_eq_getElem il
      generalize L[i] = m at hp
      have mm : m ∈ L := List.mem_of_getElem? hp
      obtain ⟨y, ks, e1, e2, d2⟩ := R.fit m mm
      have my := R.key m mm
      rw [e1] at my
      have slot : t.slot (way t.mask (k.hash w) (c + q)) = .live i := slot_live R.ris hi
      have rest : wpAny (model P w) A (searchRest a (.ref x) (k.hash w) true f es t (way t.mask (k.hash w) (c + q)) i (go t.mask (k.hash w) (c + (q + 1)))) Q E s := by
        unfold searchRest
        rw [ents_get R.eq hp, e1]
        dsimp only
        refine wpAny_bind (wpAny_holding (eqAt_key m.2 k A s _ _ my hx (by omega) P w _ _ ?_))
        refine wpAny_bind (wpAny_setState_of ho hd R.full ?_)
        dsimp only
        rw [← NestedKey.decide_eq]
        by_cases hkk : m.2 = k
        · refine wp_if_pos (by simp [hkk]) ?_
          exact wpAny_pure (hin (List.mem_map.mpr ⟨m, mm, hkk⟩))
        · refine wp_if_neg (by simp [hkk]) ?_
          try refine wpAny_bind (wpAny_pure ?_)
          rw [sameMem]
          dsimp only
          simp only [if_true, slot, ents_get R.eq hp, e1]
          refine wpAny_bind (wpAny_isSame_ref_self (wpAny_bind (wpAny_pure ?_)))
          simp only [if_true]
          refine wp_if_neg (by simp [hkk]) ?_
          refine hunt R hx kd hu hKf hK hKb hin hout f (c + (q + 1)) _ rfl (by omega) (by omega) fun j m' e' k' => ?_
          obtain ⟨c', a1, a2, a3⟩ := left j m' e' k'
          refine ⟨c', ?_, a2, a3⟩
          rcases Nat.lt_trichotomy c' (c + q) with z | z | z
          · exact absurd ((fin2 j m' e').trans (congrArg (NestedKey.hash w) k')) (hno (c' - c) j (by omega) (by rw [go_j, show c + (c' - c) = c' by omega]; exact a3))
          · rw [z] at a3
            have s0 := slot_live R.ris a3
            rw [slot] at s0
            injection s0 with s0
            rw [← s0, hp] at e'
            exact absurd ((congrArg Prod.snd (Option.some.inj e')).trans k') hkk
          · omega
      by_cases hl : t.led = true
      · refine wp_if_neg (by simp [hl]) ?_
        try refine wpAny_bind (wpAny_pure ?_)
        exact rest
      · refine wp_if_pos (by simp [hl]) (wpAny_bind (seen_key hx kd (fun z hz => ?_) ?_))
        · obtain ⟨e, he, ee⟩ := List.mem_map.mp hz
          have he1 : e ∈ es ∧ e.1 = k.hash w := by simpa using he
          have he2 : e ∈ es.toList := by simpa using he1.1
          rw [R.eq] at he2
          obtain ⟨m2, hm2, e3⟩ := List.mem_map.mp he2
          obtain ⟨_, _, _, _, d3⟩ := R.fit m2 hm2
          refine ⟨m2.2, ?_, d3⟩
          rw [← ee, ← e3]
          exact R.key m2 hm2
        · refine wp_if_neg (by decide) ?_
          try refine wpAny_bind (wpAny_pure ?_)
          exact rest
    · rw [go_j, show c + (K - c) = K by omega, ← hst] at hpr
      rw [show t.probe (fun i => (es[i]?.map (·.1)).getD 0) (k.hash w) (st.getD (t.probeStart (k.hash w))) = _ from hpr]
      dsimp only
      refine wpAny_pure (hout fun hm => ?_)
      obtain ⟨m0, h0, hk0⟩ := List.mem_map.mp hm
      obtain ⟨j, hj⟩ := List.mem_iff_getElem?.mp h0
      obtain ⟨c', a1, a2, a3⟩ := left j m0 hj hk0
      exact absurd ((fin2 j m0 hj).trans (congrArg (NestedKey.hash w) hk0)) (hno (c' - c) j (by omega) (by rw [go_j, show c + (c' - c) = c' by omega]; exact a3))
theorem hunt_at (R : SetK true w s.heap a L es ep t) {x : Addr} {k : NestedKey} (hx : NestedIs s.heap k (.ref x)) (kd : k.depth ≤ 8) (hu : A.units + 8 < cLine) {Q : SetFound → Shared → Prop}
    (hin : k ∈ L.map (·.2) → Q (.there none) s)
    (hout : ∀ K, k ∉ L.map (·.2) → way t.mask (k.hash w) K ∉ t.place.toList → (∀ c, c < K → way t.mask (k.hash w) c ∈ t.place.toList) → Q (.free (way t.mask (k.hash w) K) false) s) :
    wpAny (model P w) A (setSearch a (.ref x) (k.hash w) true) Q E s := by
  obtain ⟨tb, room⟩ := R.tab rfl
  have n2 := tb.sz
  rw [List.length_map] at n2
  obtain ⟨K, hKf, hK, hKb⟩ := tb.first (by rw [List.length_map]; omega) (k.hash w)
  have big : K < 100000 := by
    have : 10 * SetTable.turns t.mask ≤ 1420 := by
      unfold SetTable.turns
      rcases tb.mok with e | e | e <;> omega
    omega
  unfold setSearch
  refine hunt R hx kd hu hKf hK hKb hin (fun hn => hout K hn hK hKb) 100000 0 none rfl (Nat.zero_le _) (by omega) fun i m e ek => ?_
  have hi : (hs w L)[i]? = some (k.hash w) := by
    rw [List.getElem?_map, e, ← ek]
    rfl
  have il : i < t.place.toList.length := by
    have := (List.getElem?_eq_some_iff.mp e).1
    rw [Array.length_toList]
    omega
  obtain ⟨c, hc, ec⟩ := tb.before hK hi (List.getElem?_eq_getElem il)
  exact ⟨c, Nat.zero_le _, hc, by rw [List.getElem?_eq_getElem il, ec]⟩
end
end KS
/-! Sets of tuples: the table laid anew, adding a tuple. -/
namespace KS
open PySem PySem.Spec PyProof.Rows L2
section
variable {P : Program} {w : World} {A : Around} {E : Value → Shared → Prop} {s : Shared} {a : Addr} {L : List Mem} {es : Array (Int × Value)} {ep : Nat} {t : SetTable}
theorem range_get {α : Type} (z : α) : ∀ l : List α, (List.range l.length).map (fun i => l.getD i z) = l := fun l => by
  apply List.ext_getElem?
  intro i
  rw [List.getElem?_map]
  by_cases h : i < l.length
  · rw [List.getElem?_range h, List.getElem?_eq_getElem h]
    simp [List.getD, h]
  · rw [List.getElem?_eq_none (by rw [List.length_range]; omega), List.getElem?_eq_none (by omega)]
    rfl
theorem some_map {α β : Type} {f : α → Option β} {g : α → β} : ∀ l : List α, (∀ x ∈ l, f x = some (g x)) → l.filterMap f = l.map g
  | [], _ => rfl
  | x :: l, h => by
    rw [List.filterMap_cons_some (h x List.mem_cons_self), List.map_cons, some_map l fun y hy => h y (List.mem_cons_of_mem _ hy)]
theorem in_order {es : Array (Int × Value)} (he : es.toList = ents w L) {order : Array Nat} (hp : order.toList.Perm (List.range L.length)) :
    ∃ L2 : List Mem, (order.filterMap (es[·]?)).toList = ents w L2 ∧ L2.Perm L ∧ hs w L2 = order.toList.map fun i => (es.map (·.1)).getD i 0 := by
  have lt : ∀ i ∈ order.toList, i < L.length := fun i hi => List.mem_range.mp (hp.mem_iff.mp hi)
  have g1 : ∀ i ∈ order.toList, es[i]? = some ((fun m : Mem => (m.2.hash w, m.1)) (L.getD i (Value.none, NestedKey.none))) := fun i hi => by
    have e : L[i]? = some (L.getD i (Value.none, NestedKey.none)) := by
      rw [List.getElem?_eq_getElem (lt i hi)]
      simp [List.getD, lt i hi]
    exact ents_get he e
  refine ⟨order.toList.map fun i => L.getD i (Value.none, NestedKey.none), ?_, ?_, ?_⟩
  · rw [Array.toList_filterMap, some_map order.toList g1, ents, List.map_map]
    rfl
  · have p2 := hp.map fun i => L.getD i (Value.none, NestedKey.none)
    rw [range_get] at p2
    exact p2
  · unfold hs
    rw [List.map_map]
    refine List.map_congr_left fun i hi => ?_
    have e := g1 i hi
    have e2 : (es.map (·.1))[i]? = some ((L.getD i (Value.none, NestedKey.none)).2.hash w) := by
      rw [Array.getElem?_map, e]
      rfl
    show _ = (es.map (·.1)).getD i 0
    rw [Array.getD_eq_getD_getElem?, e2]
    rfl
theorem tups_relay {o : Obj} (ho : s.heap.get? a = some o) (hex : o.ExactSet) (hd : o.data = .set es ep t) (he : es.toList = ents w L) (full : t.fits es.size = true)
    (nd : (L.map (·.2)).Nodup) (fit : ∀ m ∈ L, Fit true m) (key : ∀ m ∈ L, NestedIs s.heap m.2 m.1) (led : w.params.followText "set-order" = true ∨ t.led = true) (few : L.length < 64) {wanted M : Nat}
    (hw : SetTable.sizeAbove wanted - 1 = M) (hM : MaskOk M) (h128 : SetTable.sizeAbove wanted ≤ 128) (hn : L.length * 5 < M * 3) {Q : Unit → Shared → Prop}
    (q : ∀ h' L' es' ep' t', Heap.SameBut a s.heap h' → SetK true w h' a L' es' ep' t' → L'.Perm L → Q () { s with heap := h' }) : wpAny (model P w) A (setRelay a wanted) Q E s := by
  have z1 : es.size = L.length := by rw [← Array.length_toList, he, ents, List.length_map]
  obtain ⟨t2, order, e, hp, T, em, el, _, ed⟩ := relaid_ok t (hs := es.map (·.1)) (wanted := wanted) hw hM (by rw [Array.size_map, z1]; omega)
  rw [Array.size_map, z1] at hp
  obtain ⟨LL, r1, r2, r3⟩ := in_order he hp
  rw [← r3] at T
  have z2 : (order.filterMap (es[·]?)).size = LL.length := by rw [← Array.length_toList, r1, ents, List.length_map]
  have z3 := r2.length_eq
  rw [setRelay_eq]
  refine wpAny_bind (wpAny_setState_of ho hd full ?_)
  dsimp only
  refine wp_if_neg (by rw [sizeLine_eq]; omega) ?_
  try refine wpAny_bind (wpAny_pure ?_)
  rw [e]
  dsimp only
  refine wpAny_bind ?_
  refine wp_if_neg (by rw [z2, z3, z1]; simp) ?_
  try refine wpAny_bind (wpAny_pure ?_)
  refine wpAny_pure ?_
  dsimp only
  refine wpAny_storeSet_of ho hd ?_ (by rw [z2, z3, sizeLine_eq]; omega)
  have sb := Heap.SameBut.update s.heap a (Obj.putSet (order.filterMap (es[·]?)) t2)
  have sz2 := T.sz
  rw [List.length_map] at sz2
  exact q _ LL _ _ t2 sb ⟨⟨_, L2.store_at ho hd, hex, rfl⟩, r1, (r2.map (·.2)).nodup_iff.mpr nd, fun m hm => fit m (r2.mem_iff.mp hm), fun m hm => key_but ho hd sb (key m (r2.mem_iff.mp hm)), T.ris, by
    unfold SetTable.fits SetTable.fill
    rw [ed, Bool.and_eq_true, beq_iff_eq, decide_eq_true_eq, z2, sz2]
    show LL.length = LL.length ∧ LL.length + 0 ≤ t2.mask
    omega, led.imp id fun z => by rw [el]; exact z, by rw [z3]; exact few, fun _ => ⟨T, by rw [z3, em]; exact hn⟩⟩ r2
theorem tab_plain {hs : List Int} {t : SetTable} (T : TabOk t hs) (c : Bool) : TabOk (if c = true then t else { t with plain := false }) hs := by
  split
  · exact T
  · exact ⟨T.ris, T.dm, T.sz, T.mok, T.bd, T.reach⟩
theorem add_tup {x : Addr} {k : NestedKey} {Q : Bool → Shared → Prop} (R : SetK true w s.heap a L es ep t) (hx : NestedIs s.heap k (.ref x)) (ft : Fit true (Value.ref x, k)) (hu : A.units + 8 < cLine) (room : L.length + 1 < 64)
    (q : Added true w s a L (.ref x, k) Q) : wpAny (model P w) A (setAddHashed a (.ref x) (k.hash w)) Q E s := by
  obtain ⟨o, ho, hex, hd⟩ := R.ob
  obtain ⟨tb, rm⟩ := R.tab rfl
  obtain ⟨_, _, _, _, kd⟩ := ft
  have zs := R.size
  unfold setAddHashed
  refine wpAny_holding ?_
  rw [show (100000 : Nat) = 99999 + 1 from rfl, setAddHashedIn_succ]
  refine wpAny_bind (wpAny_setState_of ho hd R.full ?_)
  dsimp only
  refine wp_if_neg (by simp [byScan, Value.scannable]) ?_
  try refine wpAny_bind (wpAny_pure ?_)
  refine wpAny_bind (hunt_at R hx kd hu (fun hm => ?_) fun K hm hK hb => ?_)
  · dsimp only
    exact wpAny_pure (q false s.heap L es ep t (Heap.SameBut.refl a s.heap) R (fun _ => rfl) fun z => absurd hm z)
  · dsimp only
    refine wpAny_bind (wpAny_setState_of ho hd R.full ?_)
    dsimp only
    obtain ⟨q1, q2, q3, q4, q5, q6, q7, q8, q9⟩ := tb.put hK hb
    generalize t.put (way t.mask (k.hash w) K) = pt at q1 q3 q4 q5 q6 q7 q8 q9 ⊢
    obtain ⟨t1, p⟩ := pt
    dsimp only at q1 q3 q4 q5 q6 q7 q8 q9 ⊢
    subst q1
    have fork : ∀ (G : Bool → Sem Bool) (Q' : Bool → Shared → Prop), (∀ c, wpAny (model P w) A (G c) Q' E s) → wpAny (model P w) A (do
        let c ← if t1.plain = true then hashByValue 8 (.ref x) else pure true
        G c) Q' E s := fun G Q' h => by
      dsimp only
      exact wp_two (fun _ => wpAny_bind (byVal_key 8 k _ A s _ hx h)) fun _ => wpAny_bind (wpAny_pure (h _))
    have hin : (SetTable.insertAt es (SetTable.below t.place (way t.mask (k.hash w) K)) (k.hash w, Value.ref x)).toList = ents w (L.take (SetTable.below t.place (way t.mask (k.hash w) K)) ++ (Value.ref x, k) :: L.drop (SetTable.below t.place (way t.mask (k.hash w) K))) := by
      rw [SetTable.toList_insertAt, R.eq, ents, ents, List.map_append, List.map_cons, List.map_take, List.map_drop]
    generalize SetTable.below t.place (way t.mask (k.hash w) K) = p at q2 q3 hin ⊢
    have pm := put_perm L p (Value.ref x, k)
    have hh : (hs w L).take p ++ k.hash w :: (hs w L).drop p = hs w (L.take p ++ (Value.ref x, k) :: L.drop p) := by
      unfold hs
      rw [List.map_append, List.map_cons, List.map_take, List.map_drop]
    rw [hh] at q3
    obtain ⟨nd1, n1⟩ := R.perm (h' := s.heap) hm pm
    have z1 : (SetTable.insertAt es p (k.hash w, Value.ref x)).size = L.length + 1 := by rw [← Array.length_toList, hin, ents, List.length_map, n1]
    generalize SetTable.insertAt es p (k.hash w, Value.ref x) = es1 at hin z1 ⊢
    generalize L.take p ++ (Value.ref x, k) :: L.drop p = L1 at pm q3 nd1 n1 hin
    have key0 : ∀ m ∈ L1, NestedIs s.heap m.2 m.1 := fun m hm1 => by
      rcases List.mem_cons.mp (pm.mem_iff.mp hm1) with e | z
      · rw [e]
        exact hx
      · exact R.key m z
    have fit1 : ∀ m ∈ L1, Fit true m := fun m hm1 => by
      rcases List.mem_cons.mp (pm.mem_iff.mp hm1) with e | z
      · rw [e]
        exact ⟨_, _, by assumption, by assumption, kd⟩
      · exact R.fit m z
    refine fork _ _ fun c => ?_
    have T2 := tab_plain q3 c
    have led2 : w.params.followText "set-order" = true ∨ (if c = true then t1 else { t1 with plain := false }).led = true := by
      have := R.led
      rw [← q5] at this
      cases c <;> exact this
    have m2 : (if c = true then t1 else { t1 with plain := false }).mask = t.mask := by
      rw [← q4]
      cases c <;> rfl
    have f2 : (if c = true then t1 else { t1 with plain := false }).fill = L.length + 1 := by
      rw [List.length_map] at q9
      rw [← q9]
      cases c <;> rfl
    generalize (if c = true then t1 else { t1 with plain := false }) = t2 at T2 led2 m2 f2 ⊢
    have sz2 := T2.sz
    rw [List.length_map, n1] at sz2
    have full2 : t2.fits es1.size = true := by
      unfold SetTable.fits
      rw [f2, Bool.and_eq_true, beq_iff_eq, decide_eq_true_eq, z1, sz2]
      refine ⟨rfl, ?_⟩
      have := tb.mok
      rw [m2]
      rcases this with e | e | e <;> rw [e] at rm ⊢ <;> omega
    refine wpAny_bind (wpAny_storeSet_of ho hd ?_ (by rw [z1, sizeLine_eq]; omega))
    have sb := Heap.SameBut.update s.heap a (Obj.putSet es1 t2)
    have ho1 := L2.store_at (es' := es1) (t' := t2) ho hd
    have key1 : ∀ m ∈ L1, NestedIs (s.heap.update a (Obj.putSet es1 t2)) m.2 m.1 := fun m hm1 => key_but ho hd sb (key0 m hm1)
    generalize s.heap.update a (Obj.putSet es1 t2) = h1 at sb ho1 key1 ⊢
    by_cases hf : t2.tooFull = true
    · have hfull : (L.length + 1) * 5 ≥ t2.mask * 3 := by
        have h := hf
        unfold SetTable.tooFull at h
        rw [decide_eq_true_eq, f2] at h
        exact h
      have two : (t.mask = 7 ∧ L.length = 4) ∨ (t.mask = 31 ∧ L.length = 18) := by
        rw [m2] at hfull
        rcases tb.mok with e | e | e <;> rw [e] at hfull rm
        · exact .inl ⟨e, by omega⟩
        · exact .inr ⟨e, by omega⟩
        · omega
      have lay : ∀ M, SetTable.sizeAbove (SetTable.grown (L.length + 1)) - 1 = M → MaskOk M → SetTable.sizeAbove (SetTable.grown (L.length + 1)) ≤ 128 → (L.length + 1) * 5 < M * 3 →
          wpAny (model P w) A (setRelay a (SetTable.grown (L.length + 1))) (fun _ s' => wpAny (model P w) A (pure true) Q E s') E { s with heap := h1 } := fun M h1' h2' h3' h4' =>
        tups_relay (s := { s with heap := h1 }) ho1 hex rfl hin full2 nd1 fit1 key1 led2 (by omega) h1' h2' h3' (by rw [n1]; exact h4') fun h2 L2 es2 ep2 t3 sb2 R2 pm2 =>
          wpAny_pure (q true h2 L2 es2 ep2 t3 (sb.trans sb2) R2 (fun z => absurd z hm) fun _ => pm2.trans pm)
      rw [zs]
      first
        | (refine wpAny_bind ?_; refine wp_if_pos (by simp [hf]) ?_)
        | (refine wp_if_pos (by simp [hf]) ?_; refine wpAny_bind ?_)
      rcases two with ⟨_, e2⟩ | ⟨_, e2⟩
      · exact lay 31 (by rw [e2, size_20]) (.inr (.inl rfl)) (by rw [e2, size_20]; decide) (by omega)
      · exact lay 127 (by rw [e2, size_76]) (.inr (.inr rfl)) (by rw [e2, size_76]; decide) (by omega)
    · first
        | refine wp_if_neg (by simp [hf]) ?_
        | (refine wpAny_bind ?_; refine wp_if_neg (by simp [hf]) ?_; refine wpAny_pure ?_)
      refine wpAny_pure (q true h1 L1 es1 (ep + 1) t2 sb ⟨⟨_, ho1, hex, rfl⟩, hin, nd1, fit1, key1, T2.ris, full2, led2, by omega, fun _ => ⟨T2, ?_⟩⟩ (fun z => absurd z hm) fun _ => pm)
      have h := hf
      unfold SetTable.tooFull at h
      rw [decide_eq_true_eq, f2] at h
      rw [n1]
      omega
end
end KS
/-! set(xs): xs a list or a tuple of texts, or of tuples of texts and numbers. -/
namespace KS
open PySem PySem.Spec PyProof.Rows L2
/-- what stands in the set behind the first i items -/
structure Has (ks : List Mem) (i : Nat) (L : List Mem) : Prop where
  sub : ∀ m ∈ L, m ∈ ks.take i
  all : ∀ m ∈ ks.take i, m.2 ∈ L.map (·.2)
  len : L.length ≤ i
theorem Has.nil (ks : List Mem) : Has ks 0 [] := ⟨fun _ z => (by cases z), fun m z => (by simp at z), Nat.le_refl _⟩
theorem Has.next {ks L L' : List Mem} {i : Nat} {m : Mem} (g : Has ks i L) (h : ks[i]? = some m) (c1 : m.2 ∈ L.map (·.2) → L' = L) (c2 : m.2 ∉ L.map (·.2) → L'.Perm (m :: L)) : Has ks (i + 1) L' := by
  have tn : ks.take (i + 1) = ks.take i ++ [m] := take_next h
  rcases Classical.em (m.2 ∈ L.map (·.2)) with c | c
  · rw [c1 c]
    refine ⟨fun x hx => ?_, fun x hx => ?_, Nat.le_succ_of_le g.len⟩
    · rw [tn]
      exact List.mem_append_left _ (g.sub x hx)
    · rw [tn] at hx
      rcases List.mem_append.mp hx with z | z
      · exact g.all x z
      · rw [List.mem_singleton.mp z]
        exact c
  · have pm := c2 c
    refine ⟨fun x hx => ?_, fun x hx => ?_, by rw [pm.length_eq]; exact Nat.succ_le_succ g.len⟩
    · rw [tn]
      rcases List.mem_cons.mp (pm.mem_iff.mp hx) with z | z
      · rw [z]
        exact List.mem_append_right _ (List.mem_singleton.mpr rfl)
      · exact List.mem_append_left _ (g.sub x z)
    · rw [tn] at hx
      refine (pm.map (·.2)).mem_iff.mpr ?_
      rw [List.map_cons]
      rcases List.mem_append.mp hx with z | z
      · exact List.mem_cons_of_mem _ (g.all x z)
      · rw [List.mem_singleton.mp z]
        exact List.mem_cons_self
section
variable {P : Program} {w : World} {A : Around} {E : Value → Shared → Prop} {s : Shared} {a : Addr} {b : Bool} {L : List Mem} {es : Array (Int × Value)} {ep : Nat} {t : SetTable}
theorem add_key {m : Mem} {Q : Bool → Shared → Prop} (R : SetK b w s.heap a L es ep t) (hx : NestedIs s.heap m.2 m.1) (ft : Fit b m) (hu : A.units + 8 < cLine) (room : L.length + 1 < 64)
    (q : Added b w s a L m Q) : wpAny (model P w) A (setAddHashed a m.1 (m.2.hash w)) Q E s := by
  cases b with
  | false =>
    obtain ⟨x, tk, rfl⟩ := ft
    exact add_text R room q
  | true =>
    have ft2 := ft
    obtain ⟨v, k⟩ := m
    obtain ⟨c, ks, e1, e2, d⟩ := ft
    dsimp only at e1 e2 d hx
    subst e1
    exact add_tup R hx ft2 hu room q
theorem fit_depth {m : Mem} (h : Fit b m) : m.2.depth ≤ 8 := by
  cases b with
  | false =>
    obtain ⟨x, tk, rfl⟩ := h
    exact Nat.zero_le _
  | true =>
    obtain ⟨_, _, _, _, d⟩ := h
    exact d
theorem key_keep {h h' : Heap} {k : NestedKey} {v : Value} (x : NestedIs h k v) (hk : ∀ c o, h.get? c = some o → h'.get? c = some o) : NestedIs h' k v := NestedIs.at (fun c o vs n e _ => hk c o e) k v x
theorem update_loop {I : Addr} {fp wr : List Addr} {G : Array GenState → Array GenState → Prop} {n : Nat} {Pv : Nat → Value → Prop} {St : Nat → Shared → Prop} {R : Result → Shared → Prop}
    (W : WalksS P w A.in1 I fp wr G n Pv St) (S : Addr) (hSf : S ∉ fp) (ks : List Mem) (hn : n = ks.length) (h64 : ks.length < 64) (hv : ∀ i v, Pv i v → ∃ m, ks[i]? = some m ∧ v = m.1)
    (h0 : Heap) (hk : ∀ m ∈ ks, NestedIs h0 m.2 m.1) (hf : ∀ m ∈ ks, Fit b m) (hS0 : h0.get? S = none) (hw0 : ∀ c ∈ wr, h0.get? c = none) (hu : A.in1.units + 8 < cLine) :
    ∀ (k i : Nat) (s : Shared), n - i = k → i ≤ n → St i s → (∀ c o, h0.get? c = some o → s.heap.get? c = some o) → (∃ L es ep t, SetK b w s.heap S L es ep t ∧ Has ks i L) →
      (∀ s' L es ep t, Moved (S :: wr) G s s' → SetK b w s'.heap S L es ep t → Has ks n L → (∀ c o, h0.get? c = some o → s'.heap.get? c = some o) → R (.ok (.ret .none)) s') →
      codeAny (model P w) A (.builtin "set.update.loop" ⟨[.ref S, .ref I], []⟩) R s := by
  have hSw : S ∉ wr := fun h => hSf (W.sub _ h)
  have up : ∀ c ∈ wr, c ∈ S :: wr := fun c hc => List.mem_cons_of_mem _ hc
  have stay : ∀ {s s' : Shared}, Moved wr G s s' → (∀ c o, h0.get? c = some o → s.heap.get? c = some o) → ∀ c o, h0.get? c = some o → s'.heap.get? c = some o := fun mv hp c o e =>
    mv.heap c o (fun z => by rw [hw0 c z] at e; cases e) (hp c o e)
  intro k
  induction k with
  | zero =>
    intro i s hk' hi hst hp ⟨L, es, ep, t, hS, g⟩ hR
    have e0 : i = n := by omega
    subst e0
    refine codeAny_builtin F.entry_set_update_loop ?_
    rw [Around.under_plainId F.plain_set_update_loop _]
    show wpAny _ A.in1 (pyNext (.ref I) >>= _) _ _ s
    refine wpAny_bind (W.done s _ _ hst fun s' mv => ?_)
    show wpAny _ A.in1 (ret Value.none) _ _ s'
    have hp' := stay mv hp
    exact wpAny_pure (hR s' L es ep t (mv.mono up) (hS.keep (fun o e => mv.heap S o hSw e) fun m hm => key_keep (hk m (List.mem_of_mem_take (g.sub m hm))) hp') g hp')
  | succ k ih =>
    intro i s hk' hi hst hp ⟨L, es, ep, t, hS, g⟩ hR
    have lt : i < n := by omega
    refine codeAny_builtin F.entry_set_update_loop ?_
    rw [Around.under_plainId F.plain_set_update_loop _]
    show wpAny _ A.in1 (pyNext (.ref I) >>= _) _ _ s
    refine wpAny_bind (W.item i s _ _ lt hst fun v s' hP hst' mv => ?_)
    obtain ⟨m, hm, rfl⟩ := hv i v hP
    have mk := List.mem_of_getElem? hm
    have hp' := stay mv hp
    have hS' : SetK b w s'.heap S L es ep t := hS.keep (fun o e => mv.heap S o hSw e) fun q hq => key_keep (hk q (List.mem_of_mem_take (g.sub q hq))) hp'
    have hx : NestedIs s'.heap m.2 m.1 := key_keep (hk m mk) hp'
    show wpAny _ A.in1 (holding [m.1] (setAdd S m.1) >>= _) _ _ s'
    refine wpAny_bind (wpAny_holding ?_)
    unfold setAdd
    refine wpAny_holding ?_
    refine wpAny_bind (pyHash_key m.2 m.1 A.in1 s' _ hx (by have := fit_depth (hf m mk); omega) ?_)
    refine add_key (s := { s' with toks := s'.toks + m.2.draws }) (m := m) hS' hx (hf m mk) hu (by have := g.len; omega) fun c h' L' es' ep' t' sb hS2 c1 c2 => ?_
    have g' := g.next hm c1 c2
    have hp2 : ∀ c o, h0.get? c = some o → h'.get? c = some o := fun c o e => (sb.2 c (fun z => by rw [z, hS0] at e; cases e)).trans (hp' c o e)
    refine wpAny_pure ⟨plainId_quiet F.plain_set_update_loop _, ih (i + 1) _ (by omega) lt (W.frame _ s' _ _ hst' (Nat.le_add_right _ _) fun d hd o e => ?_) hp2 ⟨L', es', ep', t', hS2, g'⟩ fun s2 L2 es2 ep2 t2 mv2 hS3 g2 hp3 => ?_⟩
    · rw [sb.2 d (fun z => hSf (by rw [← z]; exact hd))]
      exact e
    · refine hR s2 L2 es2 ep2 t2 (Moved.trans W.gtrans ((mv.mono up).then_heap (Nat.le_add_right _ _) fun d o hd e => ?_) mv2) hS3 g2 hp3
      rw [sb.2 d (fun z => hd (by rw [z]; exact List.mem_cons_self))]
      exact e
theorem gone {h : Heap} {c : Addr} (hc : h.objs.size ≤ c) : h.get? c = none := by
  cases q : h.get? c with
  | none => rfl
  | some o => exact absurd (Nat.lt_of_lt_of_le (Heap.lt_size q) hc) (Nat.lt_irrefl _)
theorem item_of {items : Array Value} {ks : List Mem} (hi : items.toList = ks.map (·.1)) : ∀ (i : Nat) (v : Value), items[i]? = some v → ∃ m, ks[i]? = some m ∧ v = m.1 := fun i v e => by
  rw [← Array.getElem?_toList, hi, List.getElem?_map] at e
  cases q : ks[i]? with
  | none =>
    rw [q] at e
    cases e
  | some m =>
    rw [q] at e
    exact ⟨m, rfl, (Option.some.inj e).symm⟩
/-- what set(xs) leaves -/
def Made (b : Bool) (w : World) (s : Shared) (ks : List Mem) (Q : Value → Shared → Prop) : Prop := ∀ (h' : Heap) (tk : Nat) L es ep t, SetK b w h' s.heap.objs.size L es ep t → Has ks ks.length L →
  (∀ c o, s.heap.get? c = some o → h'.get? c = some o) → Q (.ref s.heap.objs.size) { s with heap := h', toks := tk }
/-- the new set's object -/
abbrev newO (w : World) : Obj := { cls := .type "set", dict := none, data := .set #[] 0 (.fresh 0 0 (!w.params.followText "set-order")) }
set_option maxHeartbeats 8000000 in
theorem set_of_list {l : Addr} {items : Array Value} (b : Bool) (ks : List Mem) {Q : Value → Shared → Prop} (hh : A.handled = none) (hl : s.heap.IsList l items) (hi : items.toList = ks.map (·.1))
    (hk : ∀ m ∈ ks, NestedIs s.heap m.2 m.1) (hf : ∀ m ∈ ks, Fit b m) (h64 : ks.length < 64) (hu : A.units + 16 < cLine) (q : Made b w s ks Q) :
    wpAny (model P w) A (call (.type "set") [.ref l]) Q E s := by
  have zi : items.size = ks.length := by rw [← Array.length_toList, hi, List.length_map]
  obtain ⟨mc, mt, hmro⟩ := F.called_set.mro
  have d1 := F.called_set.made
  have d2 := F.called_set.sub
  refine wpAny_call (codeAny_of_tree ?_)
  show wpAny _ _ (callAny (.type "set") _) _ _ _
  refine wpAny_pure ⟨Code.quiet_builtin _ (by decide +kernel), codeAny_builtin F.entry_type_call ?_⟩
  rw [Around.under_plain (weight_type_call_type "set" [.ref l] []) rfl]
  have d3 := F.called_set.notType
  have d4 := F.called_set.canCreate
  have d5 := F.typeCall_set_1 (.ref l)
  repeat (any_goals (first | assumption | wp_step))
  refine codeAny_mono (code_set_led1 (.ref l) (E := E) (Q₁ := fun v s1 => v = .ref s.heap.objs.size ∧ s1 = { s with heap := s.heap.push (newO w) }) ⟨rfl, rfl⟩) fun r s1 hr => ?_
  cases r with
  | error e => exact hr
  | ok fl =>
    cases fl with
    | ret v =>
      obtain ⟨rfl, rfl⟩ := hr
      have gS : (s.heap.push (newO w)).get? s.heap.objs.size = some (newO w) := Heap.get?_push_size _ rfl
      have tS : Shared.TypeIs { s with heap := s.heap.push (newO w) } (.ref s.heap.objs.size) "set" := ⟨_, gS, rfl⟩
      have d6 := F.called_set.init.lookup
      have d7 := F.called_set.init.bind (.ref s.heap.objs.size)
      repeat (any_goals (first | assumption | wp_step))
      refine codeAny_mono (codeAny_call_builtin (R := wants (fun r s2 => r = .none ∧ ∃ h' tk L es ep t, s2 = { s with heap := h', toks := tk } ∧ SetK b w h' s.heap.objs.size L es ep t ∧ Has ks ks.length L ∧
          (∀ c o, s.heap.get? c = some o → h'.get? c = some o)) E) F.called_set.init.plain F.entry_set_init (check_set_init_1 tS ?_)) fun r2 s2 hr2 => ?_
      · obtain ⟨⟨oc, od, ot, os⟩, hol, hcl, nl, hdl⟩ := hl
        simp only at hcl hdl
        subst hcl; subst hdl
        have hol2 : (s.heap.push (newO w)).get? l = some { cls := .type "list", dict := od, data := .seq items nl, slots := os } := Heap.get?_push_of_some _ hol
        have d8 := F.sub_list_set
        have d9 := F.sub_list_frozenset
        have dA : (Value.type "list" == Value.type "dict") = false := by decide
        have hl2 : (s.heap.push (newO w)).IsList l items := ⟨_, hol2, rfl, nl, rfl⟩
        unfold Builtin.«set.__init__» noKeywords Builtin.Frozenset.updateFrom
        generalize hPI : pyIter = PI
        wp_walk
        subst hPI
        refine wpAny_pyIter_list hl2 (wpAny_bind (wpAny_runValue ?_))
        have ls : l < s.heap.objs.size := Heap.lt_size hol
        have zp : (s.heap.push (newO w)).objs.size = s.heap.objs.size + 1 := Heap.size_push ..
        have hne : l ≠ (s.heap.push (newO w)).objs.size := by
          rw [zp]
          exact Nat.ne_of_lt (Nat.lt_succ_of_lt ls)
        have hSf : s.heap.objs.size ∉ [(s.heap.push (newO w)).objs.size, l] := by
          rw [zp]
          simp only [List.mem_cons, List.mem_singleton, List.not_mem_nil, or_false, not_or]
          exact ⟨Nat.ne_of_lt (Nat.lt_succ_self _), Nat.ne_of_gt ls⟩
        refine update_loop ((Walks.list (by simp [hh]) _ l hne items).toS) s.heap.objs.size
          hSf ks zi h64 (item_of hi) s.heap hk hf (gone (Nat.le_refl _)) (fun c hc => gone (by
            rw [List.mem_singleton.mp hc, zp]
            exact Nat.le_succ _)) (by simp only [Around.in1_units]; omega) (items.size - 0) 0 _ (by omega) (Nat.zero_le _)
          ⟨⟨_, Heap.get?_push_size _ rfl, rfl, rfl⟩, hl2.push _⟩ (fun c o e => Heap.get?_push_of_some _ (Heap.get?_push_of_some _ e)) ⟨[], #[], 0, _, setK_new b (Heap.get?_push_of_some _ gS), Has.nil ks⟩ ?_
        intro s3 L es ep t mv hS g hp
        obtain ⟨h3, g3, d3, t3, o3⟩ := s3
        have eg : g3 = s.gens := mv.gens
        have ed : d3 = s.drawn := mv.drawn
        have eo : o3 = s.os := mv.os
        subst eg; subst ed; subst eo
        show wpAny _ _ _ _ _ _
        refine wpAny_pure ?_
        show wpAny _ _ (ret Value.none) _ _ _
        rw [zi] at g
        exact wpAny_pure ⟨rfl, h3, t3, L, es, ep, t, rfl, hS, g, hp⟩
      · cases r2 with
        | error e => exact hr2
        | ok fl2 =>
          cases fl2 with
          | ret r =>
            obtain ⟨rfl, h3, t3, L, es, ep, t, rfl, hS, g, hp⟩ := hr2
            repeat (any_goals (first | assumption | wp_step))
            exact q _ _ _ _ _ _ hS g hp
          | _ => exact hr2.elim
    | _ => exact hr.elim
set_option maxHeartbeats 8000000 in
theorem set_of_tuple {l : Addr} {items : Array Value} (b : Bool) (ks : List Mem) {Q : Value → Shared → Prop} (hh : A.handled = none) (hl : s.heap.IsTuple l items) (hi : items.toList = ks.map (·.1))
    (hk : ∀ m ∈ ks, NestedIs s.heap m.2 m.1) (hf : ∀ m ∈ ks, Fit b m) (h64 : ks.length < 64) (hu : A.units + 16 < cLine) (q : Made b w s ks Q) :
    wpAny (model P w) A (call (.type "set") [.ref l]) Q E s := by
  have zi : items.size = ks.length := by rw [← Array.length_toList, hi, List.length_map]
  obtain ⟨mc, mt, hmro⟩ := F.called_set.mro
  have d1 := F.called_set.made
  have d2 := F.called_set.sub
  refine wpAny_call (codeAny_of_tree ?_)
  show wpAny _ _ (callAny (.type "set") _) _ _ _
  refine wpAny_pure ⟨Code.quiet_builtin _ (by decide +kernel), codeAny_builtin F.entry_type_call ?_⟩
  rw [Around.under_plain (weight_type_call_type "set" [.ref l] []) rfl]
  have d3 := F.called_set.notType
  have d4 := F.called_set.canCreate
  have d5 := F.typeCall_set_1 (.ref l)
  repeat (any_goals (first | assumption | wp_step))
  refine codeAny_mono (code_set_led1 (.ref l) (E := E) (Q₁ := fun v s1 => v = .ref s.heap.objs.size ∧ s1 = { s with heap := s.heap.push (newO w) }) ⟨rfl, rfl⟩) fun r s1 hr => ?_
  cases r with
  | error e => exact hr
  | ok fl =>
    cases fl with
    | ret v =>
      obtain ⟨rfl, rfl⟩ := hr
      have gS : (s.heap.push (newO w)).get? s.heap.objs.size = some (newO w) := Heap.get?_push_size _ rfl
      have tS : Shared.TypeIs { s with heap := s.heap.push (newO w) } (.ref s.heap.objs.size) "set" := ⟨_, gS, rfl⟩
      have d6 := F.called_set.init.lookup
      have d7 := F.called_set.init.bind (.ref s.heap.objs.size)
      repeat (any_goals (first | assumption | wp_step))
      refine codeAny_mono (codeAny_call_builtin (R := wants (fun r s2 => r = .none ∧ ∃ h' tk L es ep t, s2 = { s with heap := h', toks := tk } ∧ SetK b w h' s.heap.objs.size L es ep t ∧ Has ks ks.length L ∧
          (∀ c o, s.heap.get? c = some o → h'.get? c = some o)) E) F.called_set.init.plain F.entry_set_init (check_set_init_1 tS ?_)) fun r2 s2 hr2 => ?_
      · obtain ⟨⟨oc, od, ot, os⟩, hol, hcl, nl, hdl⟩ := hl
        simp only at hcl hdl
        subst hcl; subst hdl
        have hol2 : (s.heap.push (newO w)).get? l = some { cls := .type "tuple", dict := od, data := .seq items nl, slots := os } := Heap.get?_push_of_some _ hol
        have d8 := F.sub_tuple_set
        have d9 := F.sub_tuple_frozenset
        have dA : (Value.type "tuple" == Value.type "dict") = false := by decide
        have hl2 : (s.heap.push (newO w)).IsTuple l items := ⟨_, hol2, rfl, nl, rfl⟩
        unfold Builtin.«set.__init__» noKeywords Builtin.Frozenset.updateFrom
        generalize hPI : pyIter = PI
        wp_walk
        subst hPI
        refine wpAny_pyIter_tuple hl2 (wpAny_bind (wpAny_runValue ?_))
        have ls : l < s.heap.objs.size := Heap.lt_size hol
        have zp : (s.heap.push (newO w)).objs.size = s.heap.objs.size + 1 := Heap.size_push ..
        have hne : l ≠ (s.heap.push (newO w)).objs.size := by
          rw [zp]
          exact Nat.ne_of_lt (Nat.lt_succ_of_lt ls)
        have hSf : s.heap.objs.size ∉ [(s.heap.push (newO w)).objs.size, l] := by
          rw [zp]
          simp only [List.mem_cons, List.mem_singleton, List.not_mem_nil, or_false, not_or]
          exact ⟨Nat.ne_of_lt (Nat.lt_succ_self _), Nat.ne_of_gt ls⟩
        refine update_loop ((Walks.tuple (by simp [hh]) _ l hne items).toS) s.heap.objs.size
          hSf ks zi h64 (item_of hi) s.heap hk hf (gone (Nat.le_refl _)) (fun c hc => gone (by
            rw [List.mem_singleton.mp hc, zp]
            exact Nat.le_succ _)) (by simp only [Around.in1_units]; omega) (items.size - 0) 0 _ (by omega) (Nat.zero_le _)
          ⟨⟨_, Heap.get?_push_size _ rfl, rfl, rfl⟩, hl2.push _⟩ (fun c o e => Heap.get?_push_of_some _ (Heap.get?_push_of_some _ e)) ⟨[], #[], 0, _, setK_new b (Heap.get?_push_of_some _ gS), Has.nil ks⟩ ?_
        intro s3 L es ep t mv hS g hp
        obtain ⟨h3, g3, d3, t3, o3⟩ := s3
        have eg : g3 = s.gens := mv.gens
        have ed : d3 = s.drawn := mv.drawn
        have eo : o3 = s.os := mv.os
        subst eg; subst ed; subst eo
        show wpAny _ _ _ _ _ _
        refine wpAny_pure ?_
        show wpAny _ _ (ret Value.none) _ _ _
        rw [zi] at g
        exact wpAny_pure ⟨rfl, h3, t3, L, es, ep, t, rfl, hS, g, hp⟩
      · cases r2 with
        | error e => exact hr2
        | ok fl2 =>
          cases fl2 with
          | ret r =>
            obtain ⟨rfl, h3, t3, L, es, ep, t, rfl, hS, g, hp⟩ := hr2
            repeat (any_goals (first | assumption | wp_step))
            exact q _ _ _ _ _ _ hS g hp
          | _ => exact hr2.elim
    | _ => exact hr.elim
end
end KS
/-! set(xs), len(set), sorted(set) as rules of the walk. -/
namespace KS
open PySem PySem.Spec PyProof.Rows L2
mutual
/-- v is the key k -/
inductive Kv (K : PySem.W.Frag) (H : Hp) : V → NestedKey → Prop
  | int (i : Int) : Kv K H (.int i) (.num i)
  | str (x : Str) : Kv K H (.str x) (.text x)
  | tup {a : Addr} {xs : List V} {ks : List NestedKey} : SqT K H a xs → KvAll K H xs ks → Kv K H (.ref a) (.tup ks)
inductive KvAll (K : PySem.W.Frag) (H : Hp) : List V → List NestedKey → Prop
  | nil : KvAll K H [] []
  | cons {v : V} {vs : List V} {k : NestedKey} {ks : List NestedKey} : Kv K H v k → KvAll K H vs ks → KvAll K H (v :: vs) (k :: ks)
end
section
variable {X : Cx} {pins : List (Addr × Obj)} {σ : L2.St} {H : Hp} {s : Shared}
mutual
theorem Kv.reads (I : Inv X pins σ H s) : ∀ (k : NestedKey) (v : V) (u : Value), Kv X.K H v k → RelV v u → NestedIs s.heap k u ∧ Reads s.heap u k.data []
  | .none, _, _, h, _ => by cases h
  | .num i, _, _, h, r => by
    cases h
    obtain ⟨t, rfl⟩ := r
    exact ⟨.int i t, .int i t⟩
  | .text x, _, _, h, r => by
    cases h
    obtain ⟨t, rfl⟩ := r
    exact ⟨.text x t, .str x t⟩
  | .tup ks, _, _, h, r => by
    cases h with
    | tup hs ha =>
      cases r
      obtain ⟨its, rv, ⟨o, ho, hc, n, hd⟩, _⟩ := I.tuple hs
      obtain ⟨q1, q2⟩ := Kv.readsAll I ks _ its ha rv
      exact ⟨.tup ho hc hd (by simpa using q1), .tuple ho hc hd (by simpa using q2)⟩
theorem Kv.readsAll (I : Inv X pins σ H s) : ∀ (ks : List NestedKey) (vs : List V) (us : List Value), KvAll X.K H vs ks → Vals vs us → NestedAll s.heap ks us ∧ ReadsAll s.heap us (NestedKey.datas ks) []
  | [], _, _, h, r => by
    cases h
    cases r
    exact ⟨.nil, .nil⟩
  | k :: ks, _, _, h, r => by
    cases h with
    | cons h1 h2 =>
      cases r with
      | cons r1 r2 =>
        obtain ⟨a1, b1⟩ := Kv.reads I k _ _ h1 r1
        obtain ⟨a2, b2⟩ := Kv.readsAll I ks _ _ h2 r2
        exact ⟨.cons a1 a2, .cons (as := []) (bs := []) b1 b2⟩
end
end
mutual
theorem Kv.dp {K : PySem.W.Frag} {H : Hp} : ∀ (k : NestedKey) (v : V), Kv K H v k → Dp K H v k.data
  | .none, _, h => by cases h
  | .num i, _, h => by
    cases h
    exact .int i
  | .text x, _, h => by
    cases h
    exact .str x
  | .tup ks, _, h => by
    cases h with
    | tup hs ha => exact .tup hs (Kv.dpAll ks _ ha)
theorem Kv.dpAll {K : PySem.W.Frag} {H : Hp} : ∀ (ks : List NestedKey) (vs : List V), KvAll K H vs ks → DpAll K H vs (NestedKey.datas ks)
  | [], _, h => by
    cases h
    exact .nil
  | k :: ks, _, h => by
    cases h with
    | cons h1 h2 => exact .cons (Kv.dp k _ h1) (Kv.dpAll ks _ h2)
end
mutual
theorem Kv.up {K : PySem.W.Frag} {H H' : Hp} (e : ∀ a xs, SqT K H a xs → SqT K H' a xs) : ∀ (k : NestedKey) (v : V), Kv K H v k → Kv K H' v k
  | .none, _, h => by cases h
  | .num i, _, h => by
    cases h
    exact .int i
  | .text x, _, h => by
    cases h
    exact .str x
  | .tup ks, _, h => by
    cases h with
    | tup hs ha => exact .tup (e _ _ hs) (Kv.upAll e ks _ ha)
theorem Kv.upAll {K : PySem.W.Frag} {H H' : Hp} (e : ∀ a xs, SqT K H a xs → SqT K H' a xs) : ∀ (ks : List NestedKey) (vs : List V), KvAll K H vs ks → KvAll K H' vs ks
  | [], _, h => by
    cases h
    exact .nil
  | k :: ks, _, h => by
    cases h with
    | cons h1 h2 => exact .cons (Kv.up e k _ h1) (Kv.upAll e ks _ h2)
end
/-- a member as it stands in the walk -/
abbrev MemV := V × NestedKey
def FitV : Bool → MemV → Prop
  | false, m => ∃ x, m = (V.str x, NestedKey.text x)
  | true, m => ∃ c ks, m.1 = V.ref c ∧ m.2 = NestedKey.tup ks ∧ m.2.depth ≤ 8
theorem FitV.fit {b : Bool} {p : MemV} {m : Mem} (h : FitV b p) (r : RelV p.1 m.1) (e : m.2 = p.2) : Fit b m := by
  cases b with
  | false =>
    obtain ⟨x, rfl⟩ := h
    obtain ⟨t, r⟩ := r
    exact ⟨x, t, Prod.ext r e⟩
  | true =>
    obtain ⟨c, ks, e1, e2, d⟩ := h
    rw [e1] at r
    exact ⟨c, ks, r, e.trans e2, by rw [e]; exact d⟩
/-- two lists of members, one of values -/
def Twin (L : List MemV) (M : List Mem) : Prop := Vals (L.map (·.1)) (M.map (·.1)) ∧ M.map (·.2) = L.map (·.2)
theorem Twin.nil : Twin [] [] := ⟨.nil, rfl⟩
theorem Twin.cons {p : MemV} {m : Mem} {L : List MemV} {M : List Mem} (r : RelV p.1 m.1) (e : m.2 = p.2) (t : Twin L M) : Twin (p :: L) (m :: M) := ⟨.cons r t.1, by rw [List.map_cons, List.map_cons, e, t.2]⟩
theorem Twin.mem : ∀ {L : List MemV} {M : List Mem}, Twin L M → ∀ m ∈ M, ∃ p ∈ L, RelV p.1 m.1 ∧ m.2 = p.2
  | [], [], _, _, h => by cases h
  | [], _ :: _, ⟨r, _⟩, _, _ => by cases r
  | _ :: _, [], ⟨r, _⟩, _, _ => by cases r
  | p :: L, m :: M, ⟨r, e⟩, x, h => by
    cases r with
    | cons r1 r2 =>
      rw [List.map_cons, List.map_cons] at e
      injection e with e1 e2
      rcases List.mem_cons.mp h with z | z
      · rw [z]
        exact ⟨p, List.mem_cons_self, r1, e1⟩
      · obtain ⟨q, hq, a, b⟩ := Twin.mem (L := L) (M := M) ⟨r2, e2⟩ x z
        exact ⟨q, List.mem_cons_of_mem _ hq, a, b⟩
theorem Twin.make : ∀ {L : List MemV} {us : List Value}, Vals (L.map (·.1)) us → ∃ M : List Mem, M.map (·.1) = us ∧ Twin L M
  | [], _, r => by
    cases r
    exact ⟨[], rfl, .nil⟩
  | p :: L, _, r => by
    cases r with
    | @cons _ u _ us r1 r2 =>
      obtain ⟨M, e, t⟩ := Twin.make (L := L) r2
      exact ⟨(u, p.2) :: M, by rw [List.map_cons, e], .cons r1 rfl t⟩
theorem Twin.pick {L : List MemV} {M : List Mem} (t : Twin L M) : ∀ {N : List Mem}, (∀ m ∈ N, m ∈ M) → ∃ L' : List MemV, Twin L' N ∧ ∀ p ∈ L', p ∈ L
  | [], _ => ⟨[], .nil, fun _ z => (by cases z)⟩
  | m :: N, h => by
    obtain ⟨p, hp, r, e⟩ := t.mem m (h m List.mem_cons_self)
    obtain ⟨L', t', hs⟩ := Twin.pick t (N := N) fun x hx => h x (List.mem_cons_of_mem _ hx)
    refine ⟨p :: L', .cons r e t', fun q hq => ?_⟩
    rcases List.mem_cons.mp hq with z | z
    · rw [z]
      exact hp
    · exact hs q z
/-- the set at a, without what its members are -/
def SetV0 (b : Bool) (w : World) (h : Heap) (a : Addr) (L : List MemV) : Prop := ∃ (M : List Mem) (es : Array (Int × Value)) (ep : Nat) (t : SetTable), Twin L M ∧
  (∃ o, h.get? a = some o ∧ o.ExactSet ∧ o.data = .set es ep t) ∧ es.toList = ents w M ∧ (M.map (·.2)).Nodup ∧ (∀ m ∈ M, Fit b m) ∧ Ris t.place.toList ∧ t.fits es.size = true ∧
  (w.params.followText "set-order" = true ∨ t.led = true) ∧ M.length < 64 ∧ (b = true → TabOk t (hs w M) ∧ M.length * 5 < t.mask * 3)
def SetV (b : Bool) (w : World) (a : Addr) (L : List MemV) : HO := .ext fun h => SetV0 b w h a L
theorem setV_ok {b : Bool} {P : Program} {w : World} {H : Hp} {h : Heap} {a : Addr} {L : List MemV} (R : SetV0 b w h a L) : ObjOk P w H h a (SetV b w a L) := by
  obtain ⟨_, _, _, _, _, ⟨o, ho, _⟩, _⟩ := id R
  refine ⟨R, ⟨o, ho⟩, fun h1 h2 p k => ?_⟩
  obtain ⟨M, es, ep, t, tw, ⟨o2, ho2, r⟩, q⟩ := (show SetV0 b w h1 a L from p)
  exact ⟨M, es, ep, t, tw, ⟨o2, k o2 ho2, r⟩, q⟩
section
variable {X : Cx}
/-- set(xs) -/
def rSetOf (X : Cx) : List V → Hp → VK → Prop := fun xs H Q => ∃ (b : Bool) (l : Addr) (ms : List MemV), xs = [V.ref l] ∧ (SqL X.K H l (ms.map (·.1)) ∨ SqT X.K H l (ms.map (·.1))) ∧ (∀ p ∈ ms, Kv X.K H p.1 p.2 ∧ FitV b p) ∧ ms.length < 64 ∧
  ∀ a L, H a = none → (∀ p ∈ L, p ∈ ms) → (∀ p ∈ ms, p.2 ∈ L.map (·.2)) → (L.map (·.2)).Nodup → Q (.ref a) (upd H a (SetV b X.w a L))
theorem cr_setOf (hc : X.calm = true) (hu : X.A.units + 64 < cLine) : CallR X (.type "set") (rSetOf X) := by
  intro pins s σ H xs us Q I r h
  obtain ⟨b, l, ms, rfl, hl, hk, h64, q⟩ := h
  rw [Vals.ref1 r]
  have hn : H s.heap.objs.size = none := I.hok.fresh (Nat.le_refl _)
  have fin : ∀ M : List Mem, Twin ms M → Made b X.w s M (EP X pins σ Q) := fun M tw h' tk L es ep t R g k => by
    obtain ⟨L', t', sub⟩ := tw.pick (N := L) fun m hm => List.mem_of_mem_take (g.sub m hm)
    refine ⟨.ref s.heap.objs.size, upd H s.heap.objs.size (SetV b X.w s.heap.objs.size L'), I.laid (t' := tk) k (Nat.le_refl _) (setV_ok ⟨L, es, ep, t, t', R.ob, R.eq, R.nd, R.fit, R.ris, R.full, R.led, R.few, R.tab⟩), rfl, q _ L' hn sub (fun p hp => ?_) ?_⟩
    · rw [← t'.2]
      have e : p.2 ∈ M.map (·.2) := by
        rw [tw.2]
        exact List.mem_map.mpr ⟨p, hp, rfl⟩
      obtain ⟨m, hm, em⟩ := List.mem_map.mp e
      rw [← em]
      exact g.all m (by rw [List.take_length]; exact hm)
    · rw [← t'.2]
      exact R.nd
  have pre : ∀ M : List Mem, Twin ms M → (∀ m ∈ M, NestedIs s.heap m.2 m.1) ∧ (∀ m ∈ M, Fit b m) ∧ M.length < 64 := fun M tw => by
    refine ⟨fun m hm => ?_, fun m hm => ?_, ?_⟩
    · obtain ⟨p, hp, r1, e1⟩ := tw.mem m hm
      rw [e1]
      exact (Kv.reads I p.2 p.1 m.1 (hk p hp).1 r1).1
    · obtain ⟨p, hp, r1, e1⟩ := tw.mem m hm
      exact (hk p hp).2.fit r1 e1
    · have z := congrArg List.length tw.2
      rw [List.length_map, List.length_map] at z
      omega
  rcases hl with hl | hl
  · obtain ⟨its, rv, pl, hz⟩ := I.list hl
    obtain ⟨M, eM, tw⟩ := Twin.make rv
    obtain ⟨p1, p2, p3⟩ := pre M tw
    exact set_of_list b M (I.ok.hd hc) pl.isList (by simpa using eM.symm) p1 p2 p3 (by omega) (fin M tw)
  · obtain ⟨its, rv, pl, hz⟩ := I.tuple hl
    obtain ⟨M, eM, tw⟩ := Twin.make rv
    obtain ⟨p1, p2, p3⟩ := pre M tw
    exact set_of_tuple b M (I.ok.hd hc) pl (by simpa using eM.symm) p1 p2 p3 (by omega) (fin M tw)
/-- len(a set) -/
def rLenSet (X : Cx) : List V → Hp → VK → Prop := fun xs H Q => ∃ (b : Bool) (a : Addr) (L : List MemV), xs = [V.ref a] ∧ H a = some (SetV b X.w a L) ∧ Q (.int L.length) H
theorem cr_lenSet : CallR X (.builtin "len") (rLenSet X) := by
  intro pins s σ H xs us Q I r h
  obtain ⟨b, a, L, rfl, ha, q⟩ := h
  rw [Vals.ref1 r]
  obtain ⟨M, es, ep, t, tw, ⟨o, ho, hex, hd⟩, eq, _, _, _, full, _, few, _⟩ := (show SetV0 b X.w s.heap a L from (I.hok a _ ha).1)
  have z1 : es.size = M.length := by rw [← Array.length_toList, eq, ents, List.length_map]
  have z2 := congrArg List.length tw.2
  rw [List.length_map, List.length_map] at z2
  exact call_len_set ho hex hd full (by rw [z1]; omega) ⟨.int L.length, H, I.tok _, ⟨_, by rw [z1, z2]⟩, q⟩
end
end KS
/-! sorted(a set) -/
namespace KS
open PySem PySem.Spec PyProof.Rows L2
theorem same_keys {α β : Type} (f : α → β) {L L' : List α} (sub : ∀ x ∈ L', x ∈ L) (pm : (L'.map f).Perm (L.map f)) (nd : (L.map f).Nodup) : L'.Perm L := by
  have inj : ∀ x ∈ L, ∀ y ∈ L, f x = f y → x = y := fun x hx y hy e => by
    obtain ⟨i, hi, rfl⟩ := List.getElem_of_mem hx
    obtain ⟨j, hj, rfl⟩ := List.getElem_of_mem hy
    have e2 : (L.map f)[i]? = (L.map f)[j]? := by
      rw [List.getElem?_map, List.getElem?_map, List.getElem?_eq_getElem hi, List.getElem?_eq_getElem hj]
      show some _ = some _
      rw [e]
    have ij : i = j := (List.getElem?_inj (by rw [List.length_map]; exact hi) nd).mp e2
    subst ij
    rfl
  have n1 : L'.Nodup := nodup_of_map (pm.nodup_iff.mpr nd)
  have n2 : L.Nodup := nodup_of_map nd
  refine (List.perm_ext_iff_of_nodup n1 n2).mpr fun x => ⟨sub x, fun hx => ?_⟩
  obtain ⟨y, hy, e⟩ := List.mem_map.mp (pm.mem_iff.mpr (List.mem_map.mpr ⟨x, hx, rfl⟩))
  rw [← inj y (sub y hy) x hx e]
  exact hy
/-- x stands behind y -/
def Aft (p q : MemV) : Prop := W.dataLt q.2.data p.2.data = false
mutual
theorem data_depth : ∀ k : NestedKey, k.data.depth = k.depth
  | .none => rfl
  | .num _ => rfl
  | .text _ => rfl
  | .tup ks => by
    show PyData.depthAll (NestedKey.datas ks) + 1 = NestedKey.depthAll ks + 1
    rw [datas_depth ks]
theorem datas_depth : ∀ ks : List NestedKey, PyData.depthAll (NestedKey.datas ks) = NestedKey.depthAll ks
  | [] => rfl
  | k :: ks => by
    show max k.data.depth (PyData.depthAll (NestedKey.datas ks)) = max k.depth (NestedKey.depthAll ks)
    rw [data_depth k, datas_depth ks]
end
section
variable {X : Cx}
/-- sorted(a set): a new list, ascending -/
def rSortSet (X : Cx) : List V → Hp → VK → Prop := fun xs H Q => ∃ (b : Bool) (a : Addr) (L : List MemV), xs = [V.ref a] ∧ H a = some (SetV b X.w a L) ∧ (∀ p ∈ L, Kv X.K H p.1 p.2) ∧
  W.AllAlike (L.map (·.2.data)) ∧ W.Sortable (L.map (·.2.data)) ∧
  ∀ (L' : List MemV) (p : Addr), L'.Perm L → L'.Pairwise Aft → H p = none → Q (.ref p) (upd H p (.lst (L'.map (·.1))))
theorem vals_each : ∀ {L : List MemV} {us : List Value}, Vals (L.map (·.1)) us → W.EachIs (fun v (p : MemV) => RelV p.1 v) us L
  | [], _, r => by
    cases r
    exact .nil
  | p :: L, _, r => by
    cases r with
    | cons r1 r2 => exact .cons r1 (vals_each r2)
theorem each_vals : ∀ {us : List Value} {L : List MemV}, W.EachIs (fun v (p : MemV) => RelV p.1 v) us L → Vals (L.map (·.1)) us
  | _, _, .nil => .nil
  | _, _, .cons r t => .cons r (each_vals t)
theorem each_and {α β : Type} {R S : α → β → Prop} : ∀ {as : List α} {bs : List β}, W.EachIs R as bs → (∀ a, ∀ b ∈ bs, R a b → S a b) → W.EachIs S as bs
  | _, _, .nil, _ => .nil
  | _, _, .cons r t, h => .cons (h _ _ List.mem_cons_self r) (each_and t fun a b hb => h a b (List.mem_cons_of_mem _ hb))
theorem cr_sortSet (hc : X.calm = true) (hu : X.A.units + 64 < cLine) : CallR X (.builtin "sorted") (rSortSet X) := by
  intro pins s σ H xs us Q I r h
  obtain ⟨b, a, L, rfl, ha, hk, al, so, q⟩ := h
  rw [Vals.ref1 r]
  obtain ⟨M, es, ep, t, tw, ⟨o, ho, hex, hd⟩, eq, nd, fit, ris, full, led, few, _⟩ := (show SetV0 b X.w s.heap a L from (I.hok a _ ha).1)
  have z1 : es.size = M.length := by rw [← Array.length_toList, eq, ents, List.length_map]
  have z2 := congrArg List.length tw.2
  rw [List.length_map, List.length_map] at z2
  have ndL : (L.map (·.2)).Nodup := by
    rw [← tw.2]
    exact nd
  refine Calls.call_function_entry kind_sorted plain_sorted entry_sorted (args_sorted1 _) ?_
  unfold Builtin.«sorted»
  refine wpAny_bind (m := checkCount "sorted" 1 1 _) (wpAny_pure (wpAny_bind (collect_set (A := X.A.in1) (I.ok.hd hc) ⟨o, ho, hex.1, hd⟩ full (by rw [z1]; show M.length < 4096; omega) ris led fun s1 vs k1 hz g1 o1 pm => ?_)))
  rw [eq, ents, List.map_map] at pm
  obtain ⟨M1, e1, p1⟩ := perm_back (fun m : Mem => m.1) vs M pm
  obtain ⟨L1, t1, sub⟩ := tw.pick (N := M1) fun m hm => p1.mem_iff.mp hm
  have pL : L1.Perm L := same_keys (fun p : MemV => p.2) sub (by rw [← t1.2, ← tw.2]; exact p1.map _) ndL
  have zL : L1.length < 64 := by
    rw [pL.length_eq]
    omega
  have rv : Vals (L1.map (·.1)) vs := by
    rw [e1]
    exact t1.1
  have zv : vs.length = L1.length := by rw [← rv.length, List.length_map]
  refine wpAny_bind (wpAny_newList ?_ (by rw [zv, sizeLine_eq]; omega))
  have hoL : (s1.heap.push (seqObj "list" vs.toArray 0)).get? s1.heap.objs.size = some (seqObj "list" vs.toArray 0) := Heap.get?_push_size _ rfl
  have pd : (L1.map (·.2.data)).Perm (L.map (·.2.data)) := pL.map _
  have al1 : W.AllAlike (L1.map (·.2.data)) := fun d hd d' hd' => al d (pd.mem_iff.mp hd) d' (pd.mem_iff.mp hd')
  have so1 : W.Sortable (L1.map (·.2.data)) := so.imp (fun h d hd => h d (pd.mem_iff.mp hd)) fun h d hd => h d (pd.mem_iff.mp hd)
  have dep : ∀ p ∈ L1, p.2.data.depth ≤ 8 := fun p hp => by
    have e : p.2 ∈ M.map (·.2) := by
      rw [tw.2]
      exact List.mem_map.mpr ⟨p, sub p hp, rfl⟩
    obtain ⟨m, hm, em⟩ := List.mem_map.mp e
    rw [data_depth, ← em]
    exact fit_depth (fit m hm)
  refine wpAny_bind (wpAny_holding (W.list_sort_data (s := { s1 with heap := s1.heap.push (seqObj "list" vs.toArray 0) }) hoL (vals_each rv) (each_and (vals_each rv) fun v p hp r0 => ⟨[], ?_, by simp⟩) al1 so1 (by rw [sizeLine_eq]; omega) (fun p hp => by have := dep p hp; simp only [Around.in1_units]; omega) fun out zo eo => ?_))
  · exact PyProof.Rows.Reads.keeps (fun b u e => Heap.get?_push_of_some _ (k1 b u e)) (Kv.reads I p.2 p.1 v (hk p (sub p hp)) r0).2
  · obtain ⟨c, hc2⟩ := sortedHeap_at (vs := vs) (out := List.toArray out) hoL
    have pS := List.mergeSort_perm L1 (W.dataLe false fun p : MemV => p.2.data)
    have oS : (L1.mergeSort (W.dataLe false fun p : MemV => p.2.data)).Pairwise Aft := by
      refine (W.sort_pairwise (W.sortLe_total _ false _) L1).imp fun {p q} hle => ?_
      have h2 : (!W.dataLt q.2.data p.2.data) = true := hle
      show W.dataLt q.2.data p.2.data = false
      cases e : W.dataLt q.2.data p.2.data with
      | false => rfl
      | true =>
        rw [e] at h2
        cases h2
    have rS := each_vals eo
    generalize L1.mergeSort (W.dataLe false fun p : MemV => p.2.data) = S at pS oS rS
    have hn : H s1.heap.objs.size = none := I.hok.fresh hz
    have keep : ∀ b u, s.heap.get? b = some u → (sortedHeap (s1.heap.push (seqObj "list" vs.toArray 0)) s1.heap.objs.size vs (List.toArray out)).get? b = some u := fun b u e => by
      have e2 := k1 b u e
      have lt := Heap.lt_size e2
      rw [sortedHeap_old (Nat.ne_of_lt lt) (by rw [size_push']; exact Nat.lt_succ_of_lt lt)]
      exact Heap.get?_push_of_some _ e2
    have len : (S.map (·.1)).length ≤ sizeLine := by
      rw [List.length_map, pS.length_eq, sizeLine_eq]
      omega
    have J : Inv X pins σ (upd H s1.heap.objs.size (.lst (S.map (·.1)))) { s with heap := sortedHeap (s1.heap.push (seqObj "list" vs.toArray 0)) s1.heap.objs.size vs (List.toArray out), gens := s1.gens, drawn := s1.drawn, toks := s1.toks } :=
      I.call (ch := []) (Un.laid keep hz hn) (I.hok.laid keep hz ⟨len, out, c, rS, by simpa using hc2⟩) (by rw [g1]; exact I.bare) (fun _ z => nomatch z)
    obtain ⟨hp1, gn1, dr1, tk1, os1⟩ := s1
    have eo1 : os1 = s.os := o1
    subst eo1
    exact wpAny_pure ⟨_, rfl, ⟨.ref hp1.objs.size, _, J, rfl, q S hp1.objs.size (pS.trans pL) oS hn⟩⟩
end
end KS
/-! Names, ascending tuples, domains. -/
namespace K01
open PySem PySem.Spec PyProof.Rows L2 KG KS
abbrev s_is_integer : Stmt := top 22
abbrev s_is_name : Stmt := top 23
abbrev s_are_names : Stmt := top 24
abbrev s_ascending : Stmt := top 25
abbrev s_is_domain : Stmt := top 26
/-- the names of the basics -/
structure Bs (mg : Str → Option Value) : Prop extends Bi mg where
  n_all : mg "all" = none
  n_sorted : mg "sorted" = none
  n_set : mg "set" = none
  n_str : mg "str" = none
  n_bool : mg "bool" = none
  c_name : ∃ t, mg "LONGEST_NAME" = some (.int 8 t)
  c_vals : ∃ t, mg "MOST_VALUES" = some (.int 3 t)
  c_width : ∃ t, mg "MOST_WIDTH" = some (.int 3 t)
def spInt : Sp := fun vs H Q _ => ∃ n, vs = [.int n] ∧ Q (.bl true) H
def nameOk (x : Str) : Bool := decide (x.length ≤ 8) && (Txt.isascii x && (Txt.isalpha x && Txt.islower x))
def spName : Sp := fun vs H Q _ => ∃ x, vs = [.str x] ∧ nameOk x = true ∧ Q (.bl true) H
def spNames (K : PySem.W.Frag) : Sp := fun vs H Q _ => ∃ (a : Addr) (xs : List Str), vs = [.ref a] ∧ H a = some (.tup (xs.map V.str)) ∧ (∀ x ∈ xs, nameOk x = true) ∧ xs.Nodup ∧ xs.length < 64 ∧ ∀ H', Same H H' → Q (.bl true) H'
/-- ascending(xs) -/
def spAsc (K : PySem.W.Frag) : Sp := fun vs H Q _ => ∃ (b : Bool) (l : Addr) (ms : List MemV), vs = [V.ref l] ∧ (SqL K H l (ms.map (·.1)) ∨ SqT K H l (ms.map (·.1))) ∧ (∀ p ∈ ms, Kv K H p.1 p.2 ∧ FitV b p) ∧ ms.length < 64 ∧
  W.AllAlike (ms.map (·.2.data)) ∧ W.Sortable (ms.map (·.2.data)) ∧
  ∀ (L : List MemV) (p : Addr) (H' : Hp), (∀ m ∈ L, m ∈ ms) → (∀ m ∈ ms, m.2 ∈ L.map (·.2)) → (L.map (·.2)).Nodup → L.Pairwise Aft → H p = none → Same H H' → H' p = some (.tup (L.map (·.1))) → Q (.ref p) H'
theorem same_new {H : Hp} {p : Addr} {o : HO} (h : H p = none) : Same H (upd H p o) := fun b u e => by
  rw [upd_ne (ne_of_none e h)]
  exact e
theorem same_trans {H H1 H2 : Hp} (x : Same H H1) (y : Same H1 H2) : Same H H2 := fun b u e => y b u (x b u e)
theorem same_seqT {K : PySem.W.Frag} {H H' : Hp} {a : Addr} {xs : List V} (e : Same H H') (h : SqT K H a xs) : SqT K H' a xs := by
  rcases h with (h | ⟨o, h⟩) | h
  · exact .inl (.inl (e _ _ h))
  · exact .inl (.inr ⟨o, e _ _ h⟩)
  · exact .inr h
section
variable {P : Program} {w : World} {K : PySem.W.Frag} {mg : Str → Option Value} {base : Heap}
theorem sc_is_integer : FnScope ["thing"] ["thing"] (defScope s_is_integer) := ⟨rfl, rfl, rfl, by decide +kernel, rfl, by decide +kernel, by decide +kernel⟩
theorem ok_is_integer (B : Bs mg) (f : FnF K mg "is_integer" "is_integer" s_is_integer) : FnOk P w K mg base CX0 1 f.a f.d ["thing"] spInt := by
  refine f.F.ok sc_is_integer (fun vs H Q E h => ?_) (fun cdv A outer s H vs Q E hr h => ?_)
  · obtain ⟨n, rfl, _⟩ := h
    rfl
  · obtain ⟨n, rfl, q⟩ := h
    refine ⟨_, (pss_one
      (ps_ret (pe_and (pe_callB call_isi (by rfl) B.n_isinstance (by decide +kernel) (pa_cons (pv 0) (pa_cons (pe_bltn (v := .ty "int") rfl B.n_int (by decide +kernel) rfl) pa_nil)))
        (pe_one (pe_not (pe_callB call_isi (by rfl) B.n_isinstance (by decide +kernel) (pa_cons (pv 0) (pa_cons (pe_bltn (v := .ty "bool") rfl B.n_bool (by decide +kernel) rfl) pa_nil)))))))), ?_⟩
    refine ⟨_, rfl, _, _, _, _, true, rfl, .ty "int", .base (.int n), kit_ty (by decide +kernel), true, rfl, iteT ?_⟩
    exact ⟨_, rfl, _, _, _, _, false, rfl, .ty "bool", .base (.int n), kit_ty (by decide +kernel), false, rfl, q⟩
theorem sc_is_name : FnScope ["thing"] ["thing"] (defScope s_is_name) := ⟨rfl, rfl, rfl, by decide +kernel, rfl, by decide +kernel, by decide +kernel⟩
theorem ok_is_name (B : Bs mg) (f : FnF K mg "is_name" "is_name" s_is_name) : FnOk P w K mg base CX0 1 f.a f.d ["thing"] spName := by
  obtain ⟨tn, cn⟩ := B.c_name
  refine f.F.ok sc_is_name (fun vs H Q E h => ?_) (fun cdv A outer s H vs Q E hr h => ?_)
  · obtain ⟨n, rfl, _⟩ := h
    rfl
  · obtain ⟨x, rfl, hn, q⟩ := h
    unfold nameOk at hn
    rw [Bool.and_eq_true, Bool.and_eq_true, Bool.and_eq_true, decide_eq_true_eq] at hn
    obtain ⟨h8, h1, h2, h3⟩ := hn
    refine ⟨_, (pss_cons
      (ps_if (PW.pt (pw_or (pt_not (pt_val (pe_callB call_isi (by rfl) B.n_isinstance (by decide +kernel) (pa_cons (pv 0) (pa_cons (pe_bltn (v := .ty "str") rfl B.n_str (by decide +kernel) rfl) pa_nil)))))
        (pw_or1 (pt_cmpR op_gt (pe_callB call_len (by rfl) B.n_len (by decide +kernel) (pa_cons (pv 0) pa_nil)) (pe_glob (v := .int 8) rfl cn ⟨_, rfl⟩) (nomark _)))))
        (pss_one
          (ps_ret pe_bl))
        pss_nil)
    (pss_one
      (ps_ret (pe_and (pe_bm0 PySem.F.plainAttrs_str PySem.F.slot_str_isascii PySem.F.type_str_isascii mt_isascii (pv 0)) (pe_and (pe_bm0 PySem.F.plainAttrs_str PySem.F.slot_str_isalpha PySem.F.type_str_isalpha mt_isalpha (pv 0)) (pe_one (pe_bm0 PySem.F.plainAttrs_str PySem.F.slot_str_islower PySem.F.type_str_islower mt_islower (pv 0)))))))), ?_⟩
    refine ⟨_, rfl, _, _, _, _, true, rfl, .ty "str", .base (.str x), kit_ty (by decide +kernel), true, rfl, iteF ?_⟩
    refine ⟨_, rfl, .str x, x.length, rfl, ⟨by rw [sizeLine_eq]; omega, rfl⟩, _, _, rfl, rfl, _, rfl, ite2 (fun c => absurd (of_decide_eq_true c) (by omega)) fun _ => ?_⟩
    refine ⟨_, rfl, rfl, x, rfl, rfl, trivial, _, congrArg V.bl h1, iteT ?_⟩
    refine ⟨_, rfl, rfl, x, rfl, rfl, trivial, _, congrArg V.bl h2, iteT ?_⟩
    refine ⟨_, rfl, rfl, x, rfl, rfl, trivial, ?_⟩
    rw [h3]
    exact q
theorem sc_are_names : FnScope ["thing", "item"] ["thing"] (defScope s_are_names) := ⟨rfl, rfl, rfl, by decide +kernel, rfl, by decide +kernel, by decide +kernel⟩
theorem bls_all : ∀ (n : Nat), (List.replicate n true).all id = true
  | 0 => rfl
  | n + 1 => by
    rw [List.replicate_succ, List.all_cons, bls_all n]
    rfl
theorem texts_mem (xs : List Str) : (xs.map fun x => ((V.str x, NestedKey.text x) : MemV)).map (·.1) = xs.map V.str := by
  rw [List.map_map]
  rfl
theorem texts_len {xs : List Str} (nd : xs.Nodup) {L : List MemV} (h1 : ∀ p ∈ L, p ∈ xs.map fun x => ((V.str x, NestedKey.text x) : MemV)) (h2 : ∀ p ∈ xs.map fun x => ((V.str x, NestedKey.text x) : MemV), p.2 ∈ L.map (·.2)) (h3 : (L.map (·.2)).Nodup) : L.length = xs.length := by
  have nk : ((xs.map fun x => ((V.str x, NestedKey.text x) : MemV)).map (·.2)).Nodup := by
    rw [List.map_map]
    exact List.Pairwise.map _ (fun a b hne e => hne (NestedKey.text.inj e)) nd
  have pm : (L.map (·.2)).Perm ((xs.map fun x => ((V.str x, NestedKey.text x) : MemV)).map (·.2)) := by
    refine (List.perm_ext_iff_of_nodup h3 nk).mpr fun k => ⟨fun hk => ?_, fun hk => ?_⟩
    · obtain ⟨p, hp, e⟩ := List.mem_map.mp hk
      exact List.mem_map.mpr ⟨p, h1 p hp, e⟩
    · obtain ⟨p, hp, e⟩ := List.mem_map.mp hk
      rw [← e]
      exact h2 p hp
  have e := pm.length_eq
  rw [List.length_map, List.length_map, List.length_map] at e
  exact e
theorem ok_are_names (B : Bs mg) (f : FnF K mg "are_names" "are_names" s_are_names) (fn : FnF K mg "is_name" "is_name" s_is_name) : FnOk P w K mg base CX0 2 f.a f.d ["thing"] (spNames K) := by
  have G := ok_is_name (P := P) (w := w) (base := base) B fn
  have bn : Binds K fn.d ["thing"] [] := fn.F.binds fun _ _ _ _ _ _ us hl => match us, hl with | [_], _ => rfl
  refine f.F.ok sc_are_names (fun vs H Q E h => ?_) (fun cdv A outer s H vs Q E hr h => ?_)
  · obtain ⟨a, xs, rfl, _⟩ := h
    rfl
  · obtain ⟨a, xs, rfl, ha, ok, nd, h64, q⟩ := h
    have hu64 := hr.units
    refine ⟨_, (pss_one
      (ps_ret (pe_and (pe_callB call_isi (by rfl) B.n_isinstance (by decide +kernel) (pa_cons (pv 0) (pa_cons (pe_bltn (v := .ty "tuple") rfl B.n_tuple (by decide +kernel) rfl) pa_nil)))
        (pe_and (pe_callB (cr_all rfl) (by rfl) B.n_all (by decide +kernel) (pa_cons (pe_lc (own := [("item", 1)]) (g := gName 1) (by rfl) sc_are_names.nd (pi_tup (pv 0)) (blkOk_by (own := [("item", 1)]) (N := ["thing", "item"]) (sc := defScope s_are_names) (by decide +kernel))
            (fun _ _ _ _ _ => (pg_name (i := 1) sc_are_names.nd rfl (Or.inl rfl))) (fun _ _ _ _ _ => pts_nil) (fun _ _ _ _ _ => (pe_call G hr rfl fn.g fn.F.kp bn .nil pass0 (pa_cons (pv 1) pa_nil)))) pa_nil))
        (pe_one (pe_cmpR op_eq (pe_callB cr_lenSet (by rfl) B.n_len (by decide +kernel) (pa_cons (pe_callTy (cr_setOf rfl hu64) (by rfl) B.n_set (by decide +kernel) (pa_cons (pv 0) pa_nil)) pa_nil)) (pe_callB call_len (by rfl) B.n_len (by decide +kernel) (pa_cons (pv 0) pa_nil)) (nomark _))))))), ?_⟩
    refine ⟨_, rfl, _, _, _, _, true, rfl, .ty "tuple", .base (.tup ha), kit_ty (by decide +kernel), true, rfl, iteT ?_⟩
    -- all([is_name(item) for item in thing])
    refine ⟨_, rfl, a, rfl, ⟨_, SqT.of ha⟩, fun D hD => ?_⟩
    refine lc_tup (K := K) (xs := xs.map V.str) (fun i H' => Same H H' ∧ H' D = some (.lst (List.replicate i (V.bl true)))) ⟨same_new hD, upd_same⟩ (fun i H' _ p => SqT.of (p.1 _ _ ha)) ?_ ?_
    · rintro i y H' hi ⟨e1, eD⟩
      rw [List.getElem?_map] at hi
      cases hx : xs[i]? with
      | none =>
        rw [hx] at hi
        cases hi
      | some x =>
        rw [hx] at hi
        obtain rfl : V.str x = y := Option.some.inj hi
        have il : i < xs.length := (List.getElem?_eq_some_iff.mp hx).1
        refine ⟨rfl, _, rfl, x, rfl, ok x (List.mem_of_getElem? hx), _, eD, by rw [List.length_replicate, sizeLine_eq]; omega, fun b u e => ?_, ?_⟩
        · rw [upd_ne (by rintro rfl; rw [hD] at e; cases e)]
          exact e1 b u e
        · rw [upd_same, ← List.replicate_succ']
    · rintro H1 ⟨e1, eD⟩
      rw [List.length_map] at eD
      refine ⟨D, List.replicate xs.length true, rfl, SqL.of (by rw [List.map_replicate]; exact eD), true, congrArg V.bl (bls_all _), iteT ?_⟩
      -- len(set(thing)) == len(thing)
      have fm : ∀ p ∈ xs.map fun x => ((V.str x, NestedKey.text x) : MemV), Kv K H1 p.1 p.2 ∧ FitV false p := fun p hp => by
        obtain ⟨x, _, rfl⟩ := List.mem_map.mp hp
        exact ⟨.str x, x, rfl⟩
      refine ⟨_, rfl, false, a, xs.map fun x => ((V.str x, NestedKey.text x) : MemV), rfl, .inr (SqT.of (by rw [texts_mem]; exact e1 _ _ ha)), fm, by rw [List.length_map]; exact h64, fun S L hS h1 h2 h3 => ?_⟩
      have eS := same_trans e1 (same_new (o := SetV false w S L) hS)
      refine ⟨false, S, L, rfl, upd_same, _, rfl, _, _, rfl, .inr ⟨_, SqT.of (eS _ _ ha), rfl⟩, ?_⟩
      have el := texts_len nd h1 h2 h3
      refine ⟨rfl, ?_⟩
      rw [el, List.length_map]
      rw [decide_eq_true rfl]
      exact q _ eS
theorem sc_ascending : FnScope ["things"] ["things"] (defScope s_ascending) := ⟨rfl, rfl, rfl, by decide +kernel, rfl, by decide +kernel, by decide +kernel⟩
theorem ok_ascending (B : Bs mg) (f : FnF K mg "ascending" "ascending" s_ascending) : FnOk P w K mg base CX0 1 f.a f.d ["things"] (spAsc K) := by
  refine f.F.ok sc_ascending (fun vs H Q E h => ?_) (fun cdv A outer s H vs Q E hr h => ?_)
  · obtain ⟨b, l, ms, rfl, _⟩ := h
    rfl
  · obtain ⟨b, l, ms, rfl, hl, hk, h64, al, so, q⟩ := h
    have hu64 := hr.units
    refine ⟨_, (pss_one
      (ps_ret (pe_callTy call_tuple_of (by rfl) B.n_tuple (by decide +kernel) (pa_cons (pe_callB (cr_sortSet rfl hu64) (by rfl) B.n_sorted (by decide +kernel) (pa_cons (pe_callTy (cr_setOf rfl hu64) (by rfl) B.n_set (by decide +kernel) (pa_cons (pv 0) pa_nil)) pa_nil)) pa_nil)))), ?_⟩
    refine ⟨_, rfl, b, l, ms, rfl, hl, hk, h64, fun S L hS h1 h2 h3 => ?_⟩
    have e1 : Same H (upd H S (SetV b w S L)) := same_new hS
    have sub : ∀ d ∈ L.map (·.2.data), d ∈ ms.map (·.2.data) := fun d hd => by
      obtain ⟨p, hp, e⟩ := List.mem_map.mp hd
      exact List.mem_map.mpr ⟨p, h1 p hp, e⟩
    refine ⟨b, S, L, rfl, upd_same, fun p hp => Kv.up (fun a xs => same_seqT e1) _ _ (hk p (h1 p hp)).1, fun d hd d' hd' => al d (sub d hd) d' (sub d' hd'), so.imp (fun h d hd => h d (sub d hd)) fun h d hd => h d (sub d hd), fun L' p pm pw hp => ?_⟩
    have e2 := same_trans e1 (same_new (o := .lst (L'.map (·.1))) hp)
    refine ⟨p, L'.map (·.1), rfl, .inl ⟨SqL.of upd_same, fun t ht => ?_⟩⟩
    exact q L' t _ (fun m hm => h1 m (pm.mem_iff.mp hm)) (fun m hm => (pm.map (·.2)).mem_iff.mpr (h2 m hm)) ((pm.map (·.2)).nodup_iff.mpr h3) pw (e2.free ht) (same_trans e2 (same_new ht)) upd_same
/-- strictly ascending -/
def Bef (p q : MemV) : Prop := W.dataLt p.2.data q.2.data = true
theorem lt_asym {x y : PyData} (h : W.dataLt x y = true) : W.dataLt y x = false := by
  cases e : W.dataLt y x with
  | false => rfl
  | true =>
    have z := lex_trans _ _ _ h e
    rw [lex_irrefl] at z
    cases z
theorem bef_nodup {ms : List MemV} (h : ms.Pairwise Bef) : (ms.map (·.2)).Nodup := List.Pairwise.map _ (fun a b hb e => by
  have hb2 : W.dataLt a.2.data b.2.data = true := hb
  rw [e] at hb2
  rw [lt_asym hb2] at hb2
  cases hb2) h
/-- what ascends stays as it is -/
theorem asc_same {ms L : List MemV} (h : ms.Pairwise Bef) (h1 : ∀ m ∈ L, m ∈ ms) (h2 : ∀ m ∈ ms, m.2 ∈ L.map (·.2)) (h3 : (L.map (·.2)).Nodup) (h4 : L.Pairwise Aft) : L = ms := by
  have nd := bef_nodup h
  have pk : (L.map (·.2)).Perm (ms.map (·.2)) := (List.perm_ext_iff_of_nodup h3 nd).mpr fun k => by
    refine ⟨fun hk => ?_, fun hk => ?_⟩
    · obtain ⟨p, hp, e⟩ := List.mem_map.mp hk
      exact List.mem_map.mpr ⟨p, h1 p hp, e⟩
    · obtain ⟨p, hp, e⟩ := List.mem_map.mp hk
      rw [← e]
      exact h2 p hp
  refine List.Perm.eq_of_pairwise (le := Aft) (fun p q hp hq a1 a2 => ?_) h4 (h.imp fun {p q} hb => lt_asym hb) (same_keys (fun p : MemV => p.2) h1 pk nd)
  have mp := h1 p hp
  rcases List.getElem_of_mem mp with ⟨i, hi, rfl⟩
  rcases List.getElem_of_mem hq with ⟨j, hj, rfl⟩
  rcases Nat.lt_trichotomy i j with z | z | z
  · have b : W.dataLt ms[i].2.data ms[j].2.data = true := List.pairwise_iff_getElem.mp h i j hi hj z
    have a : W.dataLt ms[i].2.data ms[j].2.data = false := a2
    rw [b] at a
    cases a
  · subst z
    rfl
  · have b : W.dataLt ms[j].2.data ms[i].2.data = true := List.pairwise_iff_getElem.mp h j i hj hi z
    have a : W.dataLt ms[j].2.data ms[i].2.data = false := a1
    rw [b] at a
    cases a
end
end K01
/-! Drawn values. -/
namespace K01
open PySem PySem.Spec PyProof.Rows L2 KG
abbrev s__law_value : Stmt := top 38

theorem DeckAt.back {H H' : Hp} {d l : Addr} {k : Nat} (D : DeckAt H' d l k) (o : Off d l H H') {b : Addr} (h : H' b = none) : H b = none := by
  obtain ⟨cs, m, n, h1, h2, _⟩ := D.ex
  cases q : H b with
  | none => rfl
  | some u =>
    by_cases e1 : b = d
    · rw [e1, h1] at h; cases h
    · by_cases e2 : b = l
      · rw [e2, h2] at h; cases h
      · rw [o b u q e1 e2] at h; cases h

/-! ### _law_pick -/
def spPick (K : PySem.W.Frag) : Sp := fun vs H Q _ => ∃ (d l a : Addr) (xs : List V) (k : Nat), vs = [.ref d, .ref a] ∧ DeckAt H d l k ∧ H a = some (.lst xs) ∧ a ≠ l ∧ 0 < xs.length ∧ xs.length < 1000000 ∧ k < 1000000000 ∧
  ∀ (v : V) (H' : Hp), v ∈ xs → DeckAt H' d l (k + 1) → Off d l H H' → Q v H'
section
variable {P : Program} {w : World} {K : PySem.W.Frag} {mg : Str → Option Value} {base : Heap}
theorem sc__law_pick : FnScope ["_law_deck_here", "_law_some"] ["_law_deck_here", "_law_some"] (defScope s__law_pick) := ⟨rfl, rfl, rfl, by decide +kernel, rfl, by decide +kernel, by decide +kernel⟩
theorem ok__law_pick (B : Bi mg) (f : FnF K mg "_law_pick" "_law_pick" s__law_pick) (fd : FnF K mg "_law_draw" "_law_draw" s__law_draw) : FnOk P w K mg base CX0 2 f.a f.d ["_law_deck_here", "_law_some"] (spPick K) := by
  have G := ok__law_draw (P := P) (w := w) (base := base) B fd
  have bd : Binds K fd.d ["_law_deck_here", "_law_many"] [] := fd.F.binds fun _ _ _ _ _ _ us hl => match us, hl with | [_, _], _ => rfl
  refine f.F.ok sc__law_pick (fun vs H Q E h => ?_) (fun cdv A outer s H vs Q E hr h => ?_)
  · obtain ⟨d, l, a, xs, k, rfl, _⟩ := h
    rfl
  · obtain ⟨d, l, a, xs, k, rfl, D, ha, nal, h0, h1, hk, q⟩ := h
    refine ⟨_, (pss_one
      (ps_ret (pe_ix ix_list (pv 1) (pe_call G hr rfl fd.g fd.F.kp bd .nil pass0 (pa_cons (pv 0) (pa_cons (pe_callB call_len (by rfl) B.n_len (by decide +kernel) (pa_cons (pv 1) pa_nil)) pa_nil))) (fun _ _ => rfl)))), ?_⟩
    refine ⟨_, rfl, _, rfl, _, rfl, .ref a, xs.length, rfl, Or.inl ⟨xs, SqL.of ha, rfl⟩, d, l, (xs.length : Int), k, rfl, D, by omega, by omega, hk, fun i H' i0 i1 D' o' => ?_⟩
    have nad : a ≠ d := by
      obtain ⟨cs, m, n, hd, _⟩ := D.ex
      exact ne_of ha hd (by intro z; cases z)
    have hi : i.toNat < xs.length := by omega
    have hx : xs[i.toNat]? = some xs[i.toNat] := List.getElem?_eq_getElem hi
    exact ⟨a, xs, i, xs[i.toNat], rfl, rfl, SqL.of (o' a _ ha nad nal), at_of (j := i.toNat) (by omega) hx, q _ H' (List.getElem_mem hi) D' o'⟩

/-! ### _law_value -/
def cb : Nat → Nat
  | 0 => 140
  | n + 1 => 2 * cb n + 60
def cd : Nat → Nat
  | 0 => 2
  | n + 1 => 2 * cd n + 3
/-- a drawn value: new objects alone, not too great -/
structure Drawn (H H' : Hp) (n : Nat) (v : V) (D : PyData) : Prop where
  at_ : Dq (fun b => H b = none) H' v D
  sh : D.showable = true
  dp : D.depth ≤ 2 * n
  ct : cost D ≤ cb n
def spValue : Nat → Sp
  | 0 => fun _ _ _ _ => False
  | n + 1 => fun vs H Q _ => ∃ (d l : Addr) (k : Nat), vs = [.ref d, .int (n : Nat)] ∧ DeckAt H d l k ∧ k + cd n < 1000000000 ∧
    ∀ (v : V) (D : PyData) (H' : Hp), Drawn H H' n v D → DeckAt H' d l (k + cd n) → Off d l H H' → Q v H'
/-- values that are no objects, small -/
def Flat (v : V) : Prop := ∃ D : PyData, (∀ (Z : Addr → Prop) (H : Hp), Dq Z H v D) ∧ D.showable = true ∧ D.depth = 0 ∧ cost D ≤ 140
theorem flat_str {x : Str} (h : (reprText x).length ≤ 140) : Flat (.str x) := ⟨.str x, fun _ _ => .str x, by simp only [PyData.showable], by simp only [PyData.depth], by simp only [cost]; exact h⟩
theorem flat_int {i : Int} (h : i.natAbs.log2 ≤ 137) : Flat (.int i) := ⟨.int i, fun _ _ => .int i, by simp only [PyData.showable, decide_eq_true_eq]; omega, by simp only [PyData.depth], by simp only [cost]; omega⟩
theorem flat_bl (b : Bool) : Flat (.bl b) := ⟨.bool b, fun _ _ => .bl b, by simp only [PyData.showable], by simp only [PyData.depth], by simp only [cost]; decide⟩
theorem flat_non : Flat .non := ⟨.none, fun _ _ => .non, by simp only [PyData.showable], by simp only [PyData.depth], by simp only [cost]; decide⟩
theorem Flat.drawn {v : V} (f : Flat v) (H H' : Hp) (n : Nat) : ∃ D, Drawn H H' n v D := by
  obtain ⟨D, h1, h2, h3, h4⟩ := f
  have : 140 ≤ cb n := by
    induction n with
    | zero => exact Nat.le_refl _
    | succ n ih => show 140 ≤ 2 * cb n + 60; omega
  exact ⟨D, h1 _ _, h2, by omega, by omega⟩

theorem pick_flat {H H1 : Hp} {d l p : Addr} {k n : Nat} {xs : List V} {Q : VK} {E : XK} (D1 : DeckAt H1 d l (k + 1)) (o1 : Off d l H H1) (hp : H1 p = none) (hx : ∀ v ∈ xs, Flat v) (h0 : 0 < xs.length) (h1 : xs.length < 1000000)
    (hk : k + cd n < 1000000000) (q : ∀ (v : V) (D : PyData) (H' : Hp), Drawn H H' n v D → DeckAt H' d l (k + cd n) → Off d l H H' → Q v H') : spPick K [.ref d, .ref p] (upd H1 p (.lst xs)) Q E := by
  have npl : p ≠ l := by
    obtain ⟨cs, m, t, _, hl, _⟩ := D1.ex
    exact (ne_of_none hl hp).symm
  have hc : 2 ≤ cd n := by
    cases n with
    | zero => exact Nat.le_refl _
    | succ n => show 2 ≤ 2 * cd n + 3; omega
  refine ⟨d, l, p, xs, k + 1, rfl, D1.same (same_new hp), upd_same, npl, h0, h1, by omega, fun v H' hv D' o' => ?_⟩
  obtain ⟨Dv, hD⟩ := (hx v hv).drawn H H' n
  exact q v Dv H' hD (D'.up (by omega)) (o1.trans ((Off.of (same_new hp)).trans o'))
theorem showAll_snoc : ∀ (ds : List PyData) (d : PyData), PyData.showableAll (ds ++ [d]) = (PyData.showableAll ds && d.showable)
  | [], d => by simp [PyData.showableAll]
  | x :: r, d => by
    have := showAll_snoc r d
    simp only [List.cons_append, PyData.showableAll, this, Bool.and_assoc]
theorem depthAll_snoc : ∀ (ds : List PyData) (d : PyData), PyData.depthAll (ds ++ [d]) = max (PyData.depthAll ds) d.depth
  | [], d => by simp [PyData.depthAll]
  | x :: r, d => by
    have := depthAll_snoc r d
    simp only [List.cons_append, PyData.depthAll, this]
    omega
theorem costAll_snoc : ∀ (ds : List PyData) (d : PyData), costAll (ds ++ [d]) = costAll ds + (cost d + 2)
  | [], d => by simp [costAll]
  | x :: r, d => by
    have := costAll_snoc r d
    simp only [List.cons_append, costAll, this]
    omega
theorem sc__law_value : FnScope ["_law_deck_here", "_law_deep", "_law_way", "_law_inner", "_law_k"] ["_law_deck_here", "_law_deep"] (defScope s__law_value) := ⟨rfl, rfl, rfl, by decide +kernel, rfl, by decide +kernel, by decide +kernel⟩
theorem ok__law_value (B : Bi mg) (f : FnF K mg "_law_value" "_law_value" s__law_value) (fd : FnF K mg "_law_draw" "_law_draw" s__law_draw) (fp : FnF K mg "_law_pick" "_law_pick" s__law_pick) :
    ∀ n, FnOk P w K mg base CX0 (n + 3) f.a f.d ["_law_deck_here", "_law_deep"] (spValue n) := by
  have G1 := ok__law_draw (P := P) (w := w) (base := base) B fd
  have bd : Binds K fd.d ["_law_deck_here", "_law_many"] [] := fd.F.binds fun _ _ _ _ _ _ us hl => match us, hl with | [_, _], _ => rfl
  have G2 := ok__law_pick (P := P) (w := w) (base := base) B fp fd
  have bp : Binds K fp.d ["_law_deck_here", "_law_some"] [] := fp.F.binds fun _ _ _ _ _ _ us hl => match us, hl with | [_, _], _ => rfl
  have bv : Binds K f.d ["_law_deck_here", "_law_deep"] [] := f.F.binds fun _ _ _ _ _ _ us hl => match us, hl with | [_, _], _ => rfl
  intro n
  induction n with
  | zero => exact ⟨fun _ _ _ _ h => h.elim, fun _ _ _ _ _ _ _ _ _ _ _ _ _ h => h.elim⟩
  | succ n ih =>
    refine f.F.ok sc__law_value (fun vs H Q E h => ?_) (fun cdv A outer s H vs Q E hr h => ?_)
    · obtain ⟨d, l, k, rfl, _⟩ := h
      rfl
    · obtain ⟨d, l, k, rfl, D, hk, q⟩ := h
      have hr1 : Room 1 _ := hr.mono (by omega)
      have hr2 : Room 2 _ := hr.mono (by omega)
      refine ⟨_, (Evl.pss_cut
      (ps_set (i := 2) sc__law_value.nd rfl (Or.inl rfl) (pe_call G1 hr1 rfl fd.g fd.F.kp bd .nil pass0 (pa_cons (pv 0) (pa_cons (pe_ifExp (pt_cmpR op_gt (pv 1) pe_int (nomark _)) pe_int pe_int) pa_nil))))
    (pss_cons
      (ps_if (pt_cmpR op_lt (pv 2) pe_int (nomark _))
        (pss_one
          (ps_ret (pe_call G2 hr2 rfl fp.g fp.F.kp bp .nil pass0 (pa_cons (pv 0) (pa_cons (pe_lst (pa_cons pe_str (pa_cons pe_str (pa_cons pe_str (pa_cons pe_str (pa_cons pe_str (pa_cons pe_str (pa_cons pe_str pa_nil)))))))) pa_nil)))))
        pss_nil)
    (pss_cons
      (ps_if (pt_cmpR op_lt (pv 2) pe_int (nomark _))
        (pss_one
          (ps_ret (pe_call G2 hr2 rfl fp.g fp.F.kp bp .nil pass0 (pa_cons (pv 0) (pa_cons (pe_lst (pa_cons pe_int (pa_cons pe_int (pa_cons (pe_un un_neg pe_int) (pa_cons pe_int (pa_cons (pe_op op_add (pe_op op_pow pe_int pe_int) pe_int) (pa_cons (pe_un un_neg (pe_op op_pow pe_int pe_int)) pa_nil))))))) pa_nil)))))
        pss_nil)
    (pss_cons
      (ps_if (pt_cmpR op_eq (pv 2) pe_int (nomark _))
        (pss_one
          (ps_ret (pe_call G2 hr2 rfl fp.g fp.F.kp bp .nil pass0 (pa_cons (pv 0) (pa_cons (pe_lst (pa_cons pe_bl (pa_cons pe_bl (pa_cons pe_non pa_nil)))) pa_nil)))))
        pss_nil)
    (Evl.pss_cut
      (ps_setLc (i := 3) (own := [("_law_k", 4)]) (g := gName 4) (by rfl) sc__law_value.nd rfl rfl (sw_true rfl rfl rfl (by decide +kernel)) (pi_range1 rfl B.n_range (pa_cons (pe_call G1 hr1 rfl fd.g fd.F.kp bd .nil pass0 (pa_cons (pv 0) (pa_cons pe_int pa_nil))) pa_nil)) (blkOk_by (own := [("_law_k", 4)]) (N := ["_law_deck_here", "_law_deep", "_law_way", "_law_inner", "_law_k"]) (sc := defScope s__law_value) (by decide +kernel)) (fun _ _ _ _ _ => (pg_name (i := 4) sc__law_value.nd rfl (Or.inl rfl))) (fun _ _ _ _ _ => pts_nil)
        (fun _ _ _ _ _ => (pe_call ih hr rfl f.g f.F.kp bv .nil pass0 (pa_cons (pv 0) (pa_cons (pe_op op_sub (pv 1) pe_int) pa_nil)))))
    (pss_cons
      (ps_if (pt_cmpR op_eq (pv 2) pe_int (nomark _))
        (pss_one
          (ps_ret (pv 3)))
        pss_nil)
    (pss_cons
      (ps_if (pt_cmpR op_eq (pv 2) pe_int (nomark _))
        (pss_one
          (ps_ret (pe_disp (pps_cons pe_str (pv 3) (pps_cons pe_int pe_str pps_nil)) (by rfl) (by rfl) (fun z => by cases z) (by decide))))
        pss_nil)
    (pss_one
      (ps_ret (pe_callTy call_tuple_of (by rfl) B.n_tuple (by decide +kernel) (pa_cons (pv 3) pa_nil))))))))))), ?_⟩
      -- way = draw(deck, 9 if deep > 0 else 5)
      refine ⟨fun σ' H1 => ∃ y : Int, σ' = [some (.ref d), some (.int (n : Nat)), some (.int y), none, none] ∧ 0 ≤ y ∧ y < 9 ∧ (n = 0 → y < 5) ∧ DeckAt H1 d l (k + 1) ∧ Off d l H H1,
        ⟨_, rfl, _, rfl, _, _, rfl, rfl, _, rfl, ite2 (fun c => ?_) fun c => ?_⟩, ?_⟩
      · have hn : (0 : Int) < (n : Nat) := of_decide_eq_true c
        exact ⟨d, l, 9, k, rfl, D, by decide, by decide, by omega, fun y H1 y0 y1 D1 o1 => ⟨y, rfl, y0, y1, fun e => by omega, D1, o1⟩⟩
      · exact ⟨d, l, 5, k, rfl, D, by decide, by decide, by omega, fun y H1 y0 y1 D1 o1 => ⟨y, rfl, y0, by omega, fun _ => y1, D1, o1⟩⟩
      rintro σ' H1 ⟨y, rfl, y0, y9, yn, D1, o1⟩
      -- if way < 2
      refine ⟨_, rfl, _, _, rfl, rfl, _, rfl, ite2 (fun _ => ?_) fun c2 => ?_⟩
      · refine ⟨_, rfl, by show 7 ≤ sizeLine; decide, fun p hp => pick_flat (K := K) (E := E0) D1 o1 hp ?_ (by show 0 < 7; decide) (by show 7 < 1000000; decide) hk q⟩
        simp only [List.forall_mem_cons]
        refine ⟨flat_str ?_, flat_str ?_, flat_str ?_, flat_str ?_, flat_str ?_, flat_str ?_, flat_str ?_, fun _ h => nomatch h⟩ <;> decide +kernel
      -- if way < 4
      refine ⟨_, rfl, _, _, rfl, rfl, _, rfl, ite2 (fun _ => ?_) fun c4 => ?_⟩
      · refine ⟨_, rfl, _, rfl, _, _, rfl, rfl, ⟨by decide, by decide, by decide⟩, _, _, rfl, rfl, _, _, rfl, rfl, ⟨by decide, by decide, by decide⟩, _, rfl, by show 6 ≤ sizeLine; decide, fun p hp => pick_flat (K := K) (E := E0) D1 o1 hp ?_ (by show 0 < 6; decide) (by show 6 < 1000000; decide) hk q⟩
        simp only [List.forall_mem_cons]
        refine ⟨flat_int ?_, flat_int ?_, flat_int ?_, flat_int ?_, flat_int ?_, flat_int ?_, fun _ h => nomatch h⟩ <;> decide +kernel
      -- if way == 4
      refine ⟨_, rfl, rfl, _, rfl, ite2 (fun _ => ?_) fun c5 => ?_⟩
      · refine ⟨_, rfl, by show 3 ≤ sizeLine; decide, fun p hp => pick_flat (K := K) (E := E0) D1 o1 hp ?_ (by show 0 < 3; decide) (by show 3 < 1000000; decide) hk q⟩
        simp only [List.forall_mem_cons]
        exact ⟨flat_bl _, flat_bl _, flat_non, fun _ h => nomatch h⟩
      have hy5 : 5 ≤ y := by
        have c2 : ¬ y < 2 := fun z => c2 (decide_eq_true z)
        have c4 : ¬ y < 4 := fun z => c4 (decide_eq_true z)
        have c5 : ¬ y = 4 := fun z => c5 (by rw [z]; rfl)
        omega
      cases n with
      | zero => exact absurd (yn rfl) (by omega)
      | succ n =>
        have hcd : cd (n + 1) = 2 * cd n + 3 := rfl
        -- inner = [value(deck, deep - 1) for k in range(draw(deck, 3))]
        refine ⟨fun σ' H' => ∃ (L : Addr) (xs : List V) (ds : List PyData), σ' = [some (.ref d), some (.int ((n + 1 : Nat) : Int)), some (.int y), some (.ref L), none] ∧ H' L = some (.lst xs) ∧ H L = none ∧
          DqAll (fun b => H b = none) H' xs ds ∧ PyData.showableAll ds = true ∧ PyData.depthAll ds ≤ 2 * n ∧ costAll ds ≤ 2 * (cb n + 2) ∧ xs.length ≤ 2 ∧ DeckAt H' d l (k + cd (n + 1)) ∧ Off d l H H',
          ⟨_, rfl, d, l, 3, k + 1, rfl, D1, by decide, by decide, by omega, fun j H2 j0 j1 D2 o2 => ⟨j, rfl, by omega, by omega, fun L hL => ?_⟩⟩, ?_⟩
        · have o12 := o1.trans o2
          have nLd : L ≠ d := by
            obtain ⟨_, _, _, hd, _, _⟩ := D2.ex
            exact (ne_of_none hd hL).symm
          have nLl : L ≠ l := by
            obtain ⟨_, _, _, _, hl, _⟩ := D2.ex
            exact (ne_of_none hl hL).symm
          have nd : ∀ b, H2 b = none → b ≠ d ∧ b ≠ l := fun b hb => by
            obtain ⟨_, _, _, hd, hl, _⟩ := D2.ex
            exact ⟨(ne_of_none hd hb).symm, (ne_of_none hl hb).symm⟩
          refine lc_range (lo := 0) (n := j.toNat) (fun i H' => ∃ (xs : List V) (ds : List PyData), H' L = some (.lst xs) ∧ xs.length = i ∧ DqAll (fun b => H2 b = none ∧ b ≠ L) H' xs ds ∧ PyData.showableAll ds = true ∧
            PyData.depthAll ds ≤ 2 * n ∧ costAll ds ≤ i * (cb n + 2) ∧ DeckAt H' d l (k + 2 + i * cd n) ∧ Off d l H2 H') ?_ ?_ ?_
          · exact ⟨[], [], upd_same, rfl, .nil, by simp only [PyData.showableAll], by simp only [PyData.depthAll]; omega, by simp only [costAll]; omega, by simpa using D2.same (same_new hL), Off.of (same_new hL)⟩
          · rintro i H' hi ⟨xs, ds, hx, hlen, hds, hsh, hdp, hct, D', o'⟩
            have hi1 : i ≤ 1 := by omega
            have hmul : i * cd n ≤ cd n := by
              have := Nat.mul_le_mul_right (cd n) hi1
              omega
            refine ⟨rfl, _, rfl, _, rfl, _, _, rfl, rfl, d, l, k + 2 + i * cd n, ?_, D', by omega, fun v Dv H4 dr D4 o4 => ⟨xs, o4 L _ hx nLd nLl, by rw [sizeLine_eq]; omega, ?_⟩⟩
            · show [V.ref d, V.int (((n + 1 : Nat) : Int) - 1)] = [V.ref d, V.int ((n : Nat) : Int)]
              rw [show (((n + 1 : Nat) : Int) - 1) = ((n : Nat) : Int) from by omega]
            · have kp : ∀ b o, (H2 b = none ∧ b ≠ L) → H' b = some o → upd H4 L (.lst (xs ++ [v])) b = some o := fun b o z e => by
                rw [upd_ne z.2]
                exact o4 b o e (nd b z.1).1 (nd b z.1).2
              have hnew : Dq (fun b => H2 b = none ∧ b ≠ L) (upd H4 L (.lst (xs ++ [v]))) v Dv := by
                refine (dr.at_.mono fun b hb => ?_).keep (fun b o z e => by rw [upd_ne z.2]; exact e)
                exact ⟨D'.back o' hb, fun z => by rw [z, hx] at hb; cases hb⟩
              refine ⟨xs ++ [v], ds ++ [Dv], upd_same, by rw [List.length_append, hlen]; rfl, (hds.keep kp).snoc hnew, ?_, ?_, ?_, ?_, ?_⟩
              · rw [showAll_snoc, hsh, dr.sh]
                rfl
              · rw [depthAll_snoc]
                have := dr.dp
                omega
              · rw [costAll_snoc, Nat.add_mul]
                have := dr.ct
                omega
              · have e : k + 2 + (i + 1) * cd n = k + 2 + i * cd n + cd n := by
                  rw [Nat.add_mul]
                  omega
                rw [e]
                obtain ⟨cs, m, t, h1, h2, h3⟩ := D4.ex
                exact ⟨cs, m, t, by rw [upd_ne (Ne.symm nLd)]; exact h1, by rw [upd_ne (Ne.symm nLl)]; exact h2, h3⟩
              · intro b o e h1 h2
                rw [upd_ne (ne_of_none e hL)]
                exact o4 b o (o' b o e h1 h2) h1 h2
          · rintro H' ⟨xs, ds, hx, hlen, hds, hsh, hdp, hct, D', o'⟩
            have hj2 : j.toNat ≤ 2 := by omega
            have m1 := Nat.mul_le_mul_right (cb n + 2) hj2
            have m2 := Nat.mul_le_mul_right (cd n) hj2
            exact ⟨L, xs, ds, rfl, hx, D2.back o12 hL, hds.mono fun b z => D2.back o12 z.1, hsh, hdp, by omega, by omega, D'.up (by omega), o12.trans o'⟩
        rintro σ' H' ⟨L, xs, ds, rfl, hL, hL0, hds, hsh, hdp, hct, hlen, D', o'⟩
        have hcb : cb (n + 1) = 2 * cb n + 60 := rfl
        -- if way == 5: return inner
        refine ⟨_, rfl, rfl, _, rfl, ite2 (fun _ => ?_) fun _ => ?_⟩
        · refine ⟨_, rfl, q _ (.list ds) H' ⟨.lst hL0 hL hds, by simpa only [PyData.showable] using hsh, ?_, ?_⟩ D' o'⟩
          · simp only [PyData.depth]
            omega
          · simp only [cost]
            omega
        -- if way == 6: return {'field': inner, 3: 'x'}
        refine ⟨_, rfl, rfl, _, rfl, ite2 (fun _ => ?_) fun _ => ?_⟩
        · intro p hp
          have em : mergeK [] ([(Sum.inr "field", V.ref L), (Sum.inl 3, V.str "x")] : List (Key × V)) = ([(Sum.inr "field", V.ref L), (Sum.inl 3, V.str "x")] : List (Key × V)) := by simp [mergeK, putK]
          refine ⟨_, rfl, upd_same, [(.inr "field", .ref L), (.inl 3, .str "x")], rfl, (by show 2 ≤ 15; decide), ?_⟩
          rw [em, upd_upd]
          have e1 : Same H' (upd H' p (.dK [(.inr "field", .ref L), (.inl 3, .str "x")])) := same_new hp
          refine q _ (.dict [(.str "field", .list ds), (.int 3, .str "x")]) _ ⟨?_, ?_, ?_, ?_⟩ (D'.same e1) (o'.trans (Off.of e1))
          · exact .dct (D'.back o' hp) upd_same (.cons (.str _) (.cons (.int 3) .nil)) (.cons (.lst hL0 (e1 _ _ hL) (hds.same e1)) (.cons (.str _) .nil))
          · simp only [PyData.showable, PyData.showableKv, hsh]
            decide
          · simp only [PyData.depth, PyData.depthKv]
            omega
          · have c1 : cost (.str "field") = 7 := by simp only [cost]; decide +kernel
            have c2 : cost (.str "x") = 3 := by simp only [cost]; decide +kernel
            have c3 : cost (.int 3) = 4 := by simp only [cost]; decide +kernel
            have c4 : cost (.list ds) = costAll ds + 4 := by simp only [cost]
            have c5 : cost (.dict [(.str "field", .list ds), (.int 3, .str "x")]) = cost (.str "field") + cost (.list ds) + 4 + (cost (.int 3) + cost (.str "x") + 4 + 0) + 4 := by simp only [cost, costKv]
            omega
        -- return tuple(inner)
        refine ⟨_, rfl, L, xs, rfl, .inl ⟨SqL.of hL, fun p hp => ?_⟩⟩
        have e1 : Same H' (upd H' p (.tup xs)) := same_new hp
        refine q _ (.tuple ds) _ ⟨.tup (D'.back o' hp) upd_same (hds.same e1), by simpa only [PyData.showable] using hsh, ?_, ?_⟩ (D'.same e1) (o'.trans (Off.of e1))
        · simp only [PyData.depth]
          omega
        · simp only [cost]
          omega
end
end K01
/-! Domains, rows, all rows. -/
namespace K01
open PySem PySem.Spec PyProof.Rows L2 KG KS
abbrev s_is_row : Stmt := top 27
abbrev s_all_rows : Stmt := top 28
abbrev s_column_of : Stmt := top 32
/-- two for's in a list, the inner walk over a tuple -/
theorem lc2_lt {K : PySem.W.Frag} {a : Addr} {xs : List V} {g g1 : TG} {wi1 : TI} {te : TE} {vs vs1 : List Nat} {σ : L2.St} {H1 : Hp} {D : Addr} {Qd : Hp → Prop} (Pv : Nat → Nat → Hp → Prop) (h0 : Pv 0 0 (upd H1 D (.lst [])))
    (hl : ∀ i H, i ≤ xs.length → Pv i 0 H → SqL K H a xs)
    (hs : ∀ i x H, xs[i]? = some x → Pv i 0 H → g x (wipe σ vs) H fun σ2 H2 => wipe σ2 vs = wipe σ vs ∧ wi1 σ2 H2 fun J1 H4 => ∃ (c : Addr) (ys : List V), J1 = Itt K c ∧ Pv i 0 H4 ∧ (∀ j H, j ≤ ys.length → Pv i j H → SqT K H c ys) ∧
      (∀ j y H, ys[j]? = some y → Pv i j H → g1 y (wipe σ2 vs1) H fun σ3 H5 => wipe σ3 vs1 = wipe σ2 vs1 ∧ te σ3 H5 fun y H7 => ∃ acc, H7 D = some (.lst acc) ∧ acc.length < sizeLine ∧ Pv i (j + 1) (upd H7 D (.lst (acc ++ [y])))) ∧
      ∀ H, Pv i ys.length H → Pv (i + 1) 0 H)
    (mono : ∀ x, ∀ (σ : L2.St) (H : Hp) (Q R : L2.St → Hp → Prop), (∀ σ H, Q σ H → R σ H) → g x σ H Q → g x σ H R) (mono1 : ∀ x, ∀ (σ : L2.St) (H : Hp) (Q R : L2.St → Hp → Prop), (∀ σ H, Q σ H → R σ H) → g1 x σ H Q → g1 x σ H R)
    (monoI : ∀ (σ : L2.St) (H : Hp) (Q R : It → Hp → Prop), (∀ J H, Q J H → R J H) → wi1 σ H Q → wi1 σ H R)
    (hd : ∀ H, Pv xs.length 0 H → Qd H) :
    ∃ W : Nat → Nat → Hp → Prop, (∃ m, W 0 m (upd H1 D (.lst []))) ∧ ∀ i m H, W i m H →
      ((Itl K a).stop i H ∧ Qd H) ∨ ((Itl K a).go i H ∧ ∃ Nx : Hp → Prop, (∀ H', Nx H' → ∃ m', m' < m ∧ W (i + 1) m' H') ∧ ∀ x H', (Itl K a).yld i H x H' → g x (wipe σ vs) H' fun σ2 H2 => wipe σ2 vs = wipe σ vs ∧ tYes σ2 H2 fun b H3 =>
        if b = true then wi1 σ2 H3 fun J1 H4 => ∃ W1 : Nat → Nat → Hp → Prop, (∃ m, W1 0 m H4) ∧ ∀ j k H, W1 j k H →
          (J1.stop j H ∧ Nx H) ∨ (J1.go j H ∧ ∃ Nx1 : Hp → Prop, (∀ H', Nx1 H' → ∃ k', k' < k ∧ W1 (j + 1) k' H') ∧ ∀ x H', J1.yld j H x H' → g1 x (wipe σ2 vs1) H' fun σ3 H5 => wipe σ3 vs1 = wipe σ2 vs1 ∧ tYes σ3 H5 fun b H6 =>
            if b = true then te σ3 H6 fun y H7 => ∃ acc, H7 D = some (.lst acc) ∧ acc.length < sizeLine ∧ Nx1 (upd H7 D (.lst (acc ++ [y]))) else Nx1 H6)
        else Nx H3) := by
  refine ⟨fun i m H => m = xs.length - i ∧ i ≤ xs.length ∧ Pv i 0 H, ⟨xs.length, by simp, Nat.zero_le _, h0⟩, ?_⟩
  rintro i m H ⟨rfl, hi, p⟩
  have q := hl i H hi p
  by_cases lt : i < xs.length
  · refine .inr ⟨⟨xs, xs[i], q, by simp [lt]⟩, Pv (i + 1) 0, fun H' p' => ⟨xs.length - (i + 1), by omega, rfl, lt, p'⟩, ?_⟩
    rintro x H' ⟨rfl, y⟩
    refine mono _ _ _ _ _ (fun σ2 H2 r => ?_) (hs i x _ (y xs q) p)
    refine ⟨r.1, ?_⟩
    simp only [tYes, if_true]
    refine monoI _ _ _ _ (fun J1 H4 r1 => ?_) r.2
    obtain ⟨c, ys, rfl, p4, hT, hin, hfin⟩ := r1
    refine ⟨fun j k H => k = ys.length - j ∧ j ≤ ys.length ∧ Pv i j H, ⟨ys.length, by simp, Nat.zero_le _, p4⟩, ?_⟩
    rintro j k H ⟨rfl, hj, pj⟩
    have qj := hT j H hj pj
    by_cases ltj : j < ys.length
    · refine .inr ⟨⟨ys, ys[j], qj, by simp [ltj]⟩, Pv i (j + 1), fun H' p' => ⟨ys.length - (j + 1), by omega, rfl, ltj, p'⟩, ?_⟩
      rintro z H' ⟨rfl, yz⟩
      refine mono1 _ _ _ _ _ (fun σ3 H5 r3 => ⟨r3.1, ?_⟩) (hin j z _ (yz ys qj) pj)
      exact r3.2
    · have e : j = ys.length := by omega
      subst e
      exact .inl ⟨⟨ys, qj, Nat.le_refl _⟩, hfin H pj⟩
  · have e : i = xs.length := by omega
    subst e
    exact .inl ⟨⟨xs, q, Nat.le_refl _⟩, hd H p⟩
section
variable {P : Program} {w : World} {K : PySem.W.Frag} {mg : Str → Option Value} {base : Heap}
abbrev tx (x : Str) : MemV := (V.str x, NestedKey.text x)
def txd (xs : List Str) : PyData := .tuple (xs.map PyData.str)
theorem texts_dp {H : Hp} : ∀ xs : List Str, DpAll K H (xs.map V.str) (xs.map PyData.str)
  | [] => .nil
  | x :: r => .cons (.str x) (texts_dp r)
theorem texts_eqv : ∀ xs : List Str, PyData.eqvAll (xs.map PyData.str) (xs.map PyData.str) = true
  | [] => rfl
  | x :: r => by
    rw [List.map_cons, PyData.eqvAll, texts_eqv r]
    simp [PyData.eqv]
theorem txd_shaped {xs : List Str} (hx : ∀ x ∈ xs, PyData.strOk x = true) : SeqAt.shaped (txd xs) = true := by
  have h : ∀ l : List Str, (∀ x ∈ l, PyData.strOk x = true) → PyData.canLayAll0 (l.map PyData.str) = true ∧ PyData.depthAll (l.map PyData.str) ≤ 1 := by
    intro l hl
    induction l with
    | nil => exact ⟨rfl, by decide⟩
    | cons c r ih =>
      have ih := ih fun x hx => hl x (List.mem_cons_of_mem _ hx)
      refine ⟨?_, ?_⟩
      · simp only [List.map_cons, PyData.canLayAll0, PyData.canLay0]
        rw [hl c List.mem_cons_self, ih.1]
        rfl
      · simp only [List.map_cons, PyData.depthAll, PyData.depth]
        have := ih.2
        omega
  obtain ⟨h1, h2⟩ := h xs hx
  unfold SeqAt.shaped
  have e1 : (txd xs).canLay0 = true := by simpa [txd, PyData.canLay0] using h1
  have e2 : (txd xs).depth ≤ 64 := by
    simp only [txd, PyData.depth]
    omega
  rw [e1, decide_eq_true e2]
  rfl
theorem name_strOk {x : Str} (h : nameOk x = true) : PyData.strOk x = true := by
  unfold nameOk at h
  rw [Bool.and_eq_true, Bool.and_eq_true] at h
  have h1 := h.2.1
  unfold Txt.isascii at h1
  unfold PyData.strOk
  rw [Array.all_eq_true] at h1 ⊢
  intro i hi
  have := of_decide_eq_true (h1 i hi)
  exact decide_eq_true (Nat.lt_trans this (by decide))
/-- is_domain(xs) of names that ascend -/
def spDom : Sp := fun vs H Q _ => ∃ (a : Addr) (xs : List Str), vs = [.ref a] ∧ H a = some (.tup (xs.map V.str)) ∧ (∀ x ∈ xs, nameOk x = true) ∧ (xs.map tx).Pairwise Bef ∧ 1 ≤ xs.length ∧ xs.length ≤ 3 ∧ ∀ H', Same H H' → Q (.bl true) H'
theorem bef_texts {xs : List Str} (h : (xs.map tx).Pairwise Bef) : xs.Nodup := by
  have e := nodup_of_map (bef_nodup h)
  exact nodup_of_map e
theorem texts_al (xs : List Str) : W.AllAlike ((xs.map tx).map (·.2.data)) ∧ W.Sortable ((xs.map tx).map (·.2.data)) := by
  rw [List.map_map]
  exact ⟨W.AllAlike.of fun a b => rfl, W.Sortable.others fun a => ⟨fun z => (by cases z), fun _ z => (by cases z)⟩⟩
theorem texts_kv {H : Hp} (xs : List Str) : ∀ p ∈ xs.map tx, Kv K H p.1 p.2 ∧ FitV false p := fun p hp => by
  obtain ⟨x, _, rfl⟩ := List.mem_map.mp hp
  exact ⟨.str x, x, rfl⟩
theorem sc_is_domain : FnScope ["thing"] ["thing"] (defScope s_is_domain) := ⟨rfl, rfl, rfl, by decide +kernel, rfl, by decide +kernel, by decide +kernel⟩
theorem ok_is_domain (B : Bs mg) (f : FnF K mg "is_domain" "is_domain" s_is_domain) (fa : FnF K mg "are_names" "are_names" s_are_names) (fn : FnF K mg "is_name" "is_name" s_is_name) (fs : FnF K mg "ascending" "ascending" s_ascending) :
    FnOk P w K mg base CX0 3 f.a f.d ["thing"] spDom := by
  obtain ⟨tv, cv⟩ := B.c_vals
  have G1 := ok_are_names (P := P) (w := w) (base := base) B fa fn
  have b1 : Binds K fa.d ["thing"] [] := fa.F.binds fun _ _ _ _ _ _ us hl => match us, hl with | [_], _ => rfl
  have G2 := ok_ascending (P := P) (w := w) (base := base) B fs
  have b2 : Binds K fs.d ["things"] [] := fs.F.binds fun _ _ _ _ _ _ us hl => match us, hl with | [_], _ => rfl
  refine f.F.ok sc_is_domain (fun vs H Q E h => ?_) (fun cdv A outer s H vs Q E hr h => ?_)
  · obtain ⟨a, xs, rfl, _⟩ := h
    rfl
  · obtain ⟨a, xs, rfl, ha, ok, asc, l1, l3, q⟩ := h
    have hu64 := hr.units
    have hr1 : Room 1 _ := hr.mono (by omega)
    have hr2 : Room 2 _ := hr.mono (by omega)
    refine ⟨_, (pss_one
      (ps_ret (pe_and (pe_call G1 hr2 rfl fa.g fa.F.kp b1 .nil pass0 (pa_cons (pv 0) pa_nil)) (pe_and (pe_chain op_le op_le pe_int (pe_callB call_len (by rfl) B.n_len (by decide +kernel) (pa_cons (pv 0) pa_nil)) (pe_glob (v := .int 3) rfl cv ⟨_, rfl⟩))
        (pe_one (pe_cmpR (op_eqD hu64) (pv 0) (pe_call G2 hr1 rfl fs.g fs.F.kp b2 .nil pass0 (pa_cons (pv 0) pa_nil)) (nomark _))))))), ?_⟩
    refine ⟨_, rfl, a, xs, rfl, ha, ok, bef_texts asc, by omega, fun H1 e1 => ⟨true, rfl, iteT ?_⟩⟩
    refine ⟨_, rfl, .ref a, xs.length, rfl, .inr ⟨_, SqT.of (e1 _ _ ha), by rw [List.length_map]⟩, _, _, rfl, rfl, _, rfl, ite2 (fun _ => ?_) fun c => absurd (decide_eq_true (by omega)) c⟩
    refine ⟨_, _, rfl, rfl, _, rfl, ite2 (fun _ => ?_) fun c => absurd (decide_eq_true (by omega)) c⟩
    refine ⟨_, rfl, _, rfl, false, a, xs.map tx, rfl, .inr (SqT.of (by rw [texts_mem]; exact e1 _ _ ha)), texts_kv xs, by rw [List.length_map]; omega, (texts_al xs).1, (texts_al xs).2, fun L p H2 h1 h2 h3 h4 hp e2 hL => ?_⟩
    have eL := asc_same asc h1 h2 h3 h4
    rw [eL, texts_mem] at hL
    refine ⟨txd xs, txd xs, .tup (SqT.of (e2 _ _ (e1 _ _ ha))) (texts_dp xs), .tup (SqT.of hL) (texts_dp xs), txd_shaped fun x hx => name_strOk (ok x hx), txd_shaped fun x hx => name_strOk (ok x hx), ?_⟩
    have ev : PyData.eqv (txd xs) (txd xs) = true := by
      simp only [txd, PyData.eqv]
      exact texts_eqv xs
    rw [ev]
    exact q H2 (same_trans e1 e2)
/-- is_row(row, domain, length) of a row -/
def spRow : Sp := fun vs H Q _ => ∃ (r d : Addr) (rs ds : List Str), vs = [.ref r, .ref d, .int (rs.length : Nat)] ∧ H r = some (.tup (rs.map V.str)) ∧ H d = some (.tup (ds.map V.str)) ∧ (∀ x ∈ rs, x ∈ ds) ∧ rs.length ≤ 1000 ∧ ∀ H', Same H H' → Q (.bl true) H'
theorem in_texts {x : Str} {ds : List Str} (h : x ∈ ds) : inV (.str x) (ds.map V.str) = true := by
  unfold inV
  rw [List.any_eq_true]
  exact ⟨.str x, List.mem_map.mpr ⟨x, h, rfl⟩, by show (x == x) = true; exact beq_self_eq_true x⟩
theorem sc_is_row : FnScope ["thing", "domain", "length", "value"] ["thing", "domain", "length"] (defScope s_is_row) := ⟨rfl, rfl, rfl, by decide +kernel, rfl, by decide +kernel, by decide +kernel⟩
theorem ok_is_row (B : Bs mg) (f : FnF K mg "is_row" "is_row" s_is_row) : FnOk P w K mg base CX0 1 f.a f.d ["thing", "domain", "length"] spRow := by
  refine f.F.ok sc_is_row (fun vs H Q E h => ?_) (fun cdv A outer s H vs Q E hr h => ?_)
  · obtain ⟨r, d, rs, ds, rfl, _⟩ := h
    rfl
  · obtain ⟨r, d, rs, ds, rfl, ha, hd, sub, few, q⟩ := h
    refine ⟨_, (pss_one
      (ps_ret (pe_and (pe_callB call_isi (by rfl) B.n_isinstance (by decide +kernel) (pa_cons (pv 0) (pa_cons (pe_bltn (v := .ty "tuple") rfl B.n_tuple (by decide +kernel) rfl) pa_nil)))
        (pe_and (pe_cmpR op_eq (pe_callB call_len (by rfl) B.n_len (by decide +kernel) (pa_cons (pv 0) pa_nil)) (pv 2) (nomark _))
          (pe_one (pe_callB (cr_all rfl) (by rfl) B.n_all (by decide +kernel) (pa_cons (pe_lc (own := [("value", 3)]) (g := gName 3) (by rfl) sc_is_row.nd (pi_tup (pv 0)) (blkOk_by (own := [("value", 3)]) (N := ["thing", "domain", "length", "value"]) (sc := defScope s_is_row) (by decide +kernel))
            (fun _ _ _ _ _ => (pg_name (i := 3) sc_is_row.nd rfl (Or.inl rfl))) (fun _ _ _ _ _ => pts_nil) (fun _ _ _ _ _ => (pe_cmpR (show OpR _ (compareOp .In) (rIn K false) from op_in_seq) (pv 3) (pv 1) (by rfl)))) pa_nil))))))), ?_⟩
    refine ⟨_, rfl, _, _, _, _, true, rfl, .ty "tuple", .base (.tup ha), kit_ty (by decide +kernel), true, rfl, iteT ?_⟩
    refine ⟨_, rfl, .ref r, rs.length, rfl, .inr ⟨_, SqT.of ha, by rw [List.length_map]⟩, _, rfl, rfl, true, congrArg V.bl (decide_eq_true rfl), iteT ?_⟩
    refine ⟨_, rfl, r, rfl, ⟨_, SqT.of ha⟩, fun D hD => ?_⟩
    refine lc_tup (K := K) (xs := rs.map V.str) (fun i H' => Same H H' ∧ H' D = some (.lst (List.replicate i (V.bl true)))) ⟨same_new hD, upd_same⟩ (fun i H' _ p => SqT.of (p.1 _ _ ha)) ?_ ?_
    · rintro i y H' hi ⟨e1, eD⟩
      rw [List.getElem?_map] at hi
      cases hx : rs[i]? with
      | none =>
        rw [hx] at hi
        cases hi
      | some x =>
        rw [hx] at hi
        obtain rfl : V.str x = y := Option.some.inj hi
        have il : i < rs.length := (List.getElem?_eq_some_iff.mp hx).1
        refine ⟨rfl, _, rfl, _, rfl, d, ds.map V.str, rfl, .inr (SqT.of (e1 _ _ hd)), rfl, flat_strs ds, ?_⟩
        refine ⟨_, eD, by rw [List.length_replicate, sizeLine_eq]; omega, fun b u e => ?_, ?_⟩
        · rw [upd_ne (by rintro rfl; rw [hD] at e; cases e)]
          exact e1 b u e
        · rw [upd_same, if_neg (by decide), in_texts (sub x (List.mem_of_getElem? hx)), ← List.replicate_succ']
    · rintro H1 ⟨e1, eD⟩
      rw [List.length_map] at eD
      refine ⟨D, List.replicate rs.length true, rfl, SqL.of (by rw [List.map_replicate]; exact eD), ?_⟩
      rw [bls_all]
      exact q _ e1
end
end K01
/-! All rows; a column. -/
namespace K01
open PySem PySem.Spec PyProof.Rows L2 KG KS
/-- the rows one column longer -/
def step (R : List (List Str)) (col : List Str) : List (List Str) := R.flatMap fun r => col.map fun c => r ++ [c]
def prods (cols : List (List Str)) : List (List Str) := cols.foldl step [[]]
/-- values that are rows -/
abbrev RowsAt (H : Hp) : List V → List (List Str) → Prop := W.EachIs fun v ts => ∃ a, v = V.ref a ∧ H a = some (.tup (ts.map V.str))
theorem each_snoc {α β : Type} {R : α → β → Prop} {x : α} {y : β} : ∀ {as : List α} {bs : List β}, W.EachIs R as bs → R x y → W.EachIs R (as ++ [x]) (bs ++ [y])
  | _, _, .nil, h => .cons h .nil
  | _, _, .cons r t, h => .cons r (each_snoc t h)
theorem each_get {α β : Type} {R : α → β → Prop} : ∀ {as : List α} {bs : List β}, W.EachIs R as bs → ∀ {i : Nat} {x : α}, as[i]? = some x → ∃ y, bs[i]? = some y ∧ R x y
  | _, _, .nil, _, _, e => by cases e
  | _, _, .cons r t, 0, x, e => by
    cases e
    exact ⟨_, rfl, r⟩
  | _, _, .cons r t, i + 1, x, e => each_get t e
theorem RowsAt.up {H H' : Hp} (e : Same H H') {vs : List V} {R : List (List Str)} (h : RowsAt H vs R) : RowsAt H' vs R := each_and h fun v ts _ ⟨a, e1, e2⟩ => ⟨a, e1, e _ _ e2⟩
theorem step_take {R : List (List Str)} {col : List Str} {i : Nat} {r : List Str} (h : R[i]? = some r) : step (R.take (i + 1)) col = step (R.take i) col ++ col.map fun c => r ++ [c] := by
  unfold step
  rw [take_next h, List.flatMap_append, List.flatMap_singleton]
theorem step_len : ∀ (R : List (List Str)) (col : List Str), (step R col).length = R.length * col.length
  | [], col => by simp [step]
  | r :: R, col => by
    have ih := step_len R col
    unfold step at ih ⊢
    rw [List.flatMap_cons, List.length_append, List.length_map, ih, List.length_cons, Nat.succ_mul, Nat.add_comm]
theorem step_prefix {R : List (List Str)} {col : List Str} (i : Nat) : (step (R.take i) col).length ≤ (step R col).length := by
  rw [step_len, step_len]
  exact Nat.mul_le_mul_right _ (by rw [List.length_take]; omega)
theorem prods_next {cols : List (List Str)} {i : Nat} {col : List Str} (h : cols[i]? = some col) : prods (cols.take (i + 1)) = step (prods (cols.take i)) col := by
  unfold prods
  rw [take_next h, List.foldl_append]
  rfl
theorem rows_len (_ : List (List Str)) : ∀ (R : List (List Str)) (n : Nat), (∀ r ∈ R, r.length = n) → ∀ (cols : List (List Str)) {full : List (List Str)}, List.Sublist cols full → ∀ r ∈ cols.foldl step R, r.length = n + cols.length
  | R, n, h, [], _, _, r, hr => h r hr
  | R, n, h, c :: cols, full, sl, r, hr => by
    have z := rows_len [] (step R c) (n + 1) (fun q hq => by
      unfold step at hq
      obtain ⟨r0, h0, h1⟩ := List.mem_flatMap.mp hq
      obtain ⟨x, _, rfl⟩ := List.mem_map.mp h1
      rw [List.length_append, h r0 h0]
      rfl) cols (List.Sublist.refl cols) r hr
    rw [z, List.length_cons]
    omega
theorem same_put {H H1 : Hp} {D : Addr} {o : HO} (hD : H D = none) (e : Same H H1) : Same H (upd H1 D o) := fun b u h => by
  rw [upd_ne (by rintro rfl; rw [hD] at h; cases h)]
  exact e b u h
def spRows : Sp := fun vs H Q _ => ∃ (c : Addr) (ds : List Addr) (cols : List (List Str)), vs = [.ref c] ∧ H c = some (.lst (ds.map V.ref)) ∧ RowsAt H (ds.map V.ref) cols ∧ (∀ i, (prods (cols.take i)).length ≤ 100000) ∧ cols.length ≤ 1000 ∧
  ∀ (p : Addr) (rs : List V) (H' : Hp), H p = none → Same H H' → H' p = some (.tup rs) → RowsAt H' rs (prods cols) → Q (.ref p) H'
section
variable {P : Program} {w : World} {K : PySem.W.Frag} {mg : Str → Option Value} {base : Heap}
theorem sc_all_rows : FnScope ["columns", "rows", "column", "row", "item"] ["columns"] (defScope s_all_rows) := ⟨rfl, rfl, rfl, by decide +kernel, rfl, by decide +kernel, by decide +kernel⟩
theorem ok_all_rows (B : Bs mg) (f : FnF K mg "all_rows" "all_rows" s_all_rows) : FnOk P w K mg base CX0 1 f.a f.d ["columns"] spRows := by
  refine f.F.ok sc_all_rows (fun vs H Q E h => ?_) (fun cdv A outer s H vs Q E hr h => ?_)
  · obtain ⟨c, ds, cols, rfl, _⟩ := h
    rfl
  · obtain ⟨c, ds, cols, rfl, hc, hcol, few, wide, q⟩ := h
    refine ⟨_, (pss_cons
      (ps_set (i := 1) sc_all_rows.nd rfl (Or.inl rfl) (pe_lst (pa_cons (pe_tup pa_nil) pa_nil)))
    (pss_cons
      (ps_for PassesOwn.never rfl (pi_list (pv 0)) (pg_name (i := 2) sc_all_rows.nd rfl (Or.inr rfl))
        (pss_one
          (ps_setLc2 (i := 1) (own := [("row", 3), ("item", 4)]) (vs1 := [4]) (g := gName 3) (g1 := gName 4) (by rfl) sc_all_rows.nd rfl rfl (sw_true rfl rfl rfl (by decide +kernel)) (pi_list (pv 1)) (blkOk_by (own := [("row", 3), ("item", 4)]) (N := ["columns", "rows", "column", "row", "item"]) (sc := defScope s_all_rows) (by decide +kernel)) (by decide)
            (fun _ _ _ _ _ => (pg_name (i := 3) sc_all_rows.nd rfl (Or.inl rfl))) (fun _ _ _ _ _ => pts_nil)
            (fun _ _ _ _ _ => (show PI _ _ _ (iTup K (tVar 2)) from pi_tup (pv 2))) (fun _ _ _ _ _ => (pg_name (i := 4) sc_all_rows.nd rfl (Or.inl rfl))) (fun _ _ _ _ _ => pts_nil)
            (fun _ _ _ _ _ => (pe_op (show OpR _ (binaryOp .Add) (rCatA K) from op_catA) (pv 3) (pe_tup (pa_cons (pv 4) pa_nil)))))))
    (pss_one
      (ps_ret (pe_callTy call_tuple_of (by rfl) B.n_tuple (by decide +kernel) (pa_cons (pv 1) pa_nil)))))), ?_⟩
    refine ⟨by show 0 ≤ sizeLine; exact Nat.zero_le _, fun t ht => ⟨by show 1 ≤ sizeLine; decide, fun l hl => ?_⟩⟩
    have e0 : Same H (upd (upd H t (.tup [])) l (.lst [V.ref t])) := same_trans (same_new ht) (same_new hl)
    refine ⟨_, rfl, c, rfl, ⟨_, SqL.of (e0 _ _ hc)⟩, ?_⟩
    refine for_list (K := K) (a := c) (xs := ds.map V.ref) (fun i σ H' => ∃ (l : Addr) (rs : List V) (v2 : Option V), σ = [some (.ref c), some (.ref l), v2, none, none] ∧ Same H H' ∧ H' l = some (.lst rs) ∧ RowsAt H' rs (prods (cols.take i)))
      ⟨l, _, none, rfl, e0, upd_same, .cons ⟨t, rfl, by rw [upd_ne (ne_of_none upd_same hl), upd_same]; rfl⟩ .nil⟩ (fun i σ H' _ ⟨_, _, _, _, e, _⟩ => SqL.of (e _ _ hc)) ?_ ?_
    · rintro i0 y σ H0 hi ⟨l, rs, v2, rfl, e1, hl1, hR⟩
      obtain ⟨col, hci, d, rfl, hd0⟩ := each_get hcol hi
      generalize hRR : prods (cols.take i0) = R at hR
      have pn := prods_next hci
      rw [hRR] at pn
      have lim := few (i0 + 1)
      rw [pn] at lim
      refine ⟨_, rfl, l, rfl, ⟨_, SqL.of hl1⟩, fun D hD => ?_⟩
      have hDH : H D = none := e1.free hD
      have nDl : D ≠ l := (ne_of_none hl1 hD).symm
      refine lc2_lt (K := K) (a := l) (xs := rs) (fun i j H2 => ∃ acc, Same H0 H2 ∧ H2 D = some (.lst acc) ∧ RowsAt H2 acc (step (R.take i) col ++ (col.take j).map fun c => R.getD i [] ++ [c]))
        ⟨[], same_new hD, upd_same, .nil⟩ (fun i H2 _ ⟨_, e, _⟩ => SqL.of (e _ _ hl1)) ?_ (fun x σ H Q R h q => h _ _ q) (fun x σ H Q R h q => h _ _ q) (fun σ H Q R h ⟨x, e, a, e2, q0, q1⟩ => ⟨x, e, a, e2, q0, h _ _ q1⟩) ?_
      · rintro i x H2 hx ⟨acc, e2, hacc, hA⟩
        obtain ⟨ts, hRi, a, rfl, ha0⟩ := each_get hR hx
        have gd : R.getD i [] = ts := by rw [List.getD_eq_getElem?_getD, hRi]; rfl
        have ha2 := e2 _ _ ha0
        refine ⟨rfl, _, rfl, d, rfl, ⟨_, SqT.of (e2 _ _ (e1 _ _ hd0))⟩, d, col.map V.str, rfl, ⟨acc, e2, hacc, hA⟩, fun j H3 _ ⟨_, e3, _⟩ => SqT.of (e3 _ _ (e1 _ _ hd0)), ?_, ?_⟩
        · rintro j z H3 hz ⟨ac, e3, hac, hB⟩
          rw [List.getElem?_map] at hz
          cases hcj : col[j]? with
          | none =>
            rw [hcj] at hz
            cases hz
          | some cj =>
            rw [hcj] at hz
            obtain rfl : V.str cj = z := Option.some.inj hz
            have jl : j < col.length := (List.getElem?_eq_some_iff.mp hcj).1
            have il : i < R.length := (List.getElem?_eq_some_iff.mp hRi).1
            have lac : ac.length < 100000 := by
              have l1 := hB.length
              rw [List.length_append, List.length_map, List.length_take] at l1
              have l2 := step_prefix (R := R) (col := col) (i + 1)
              rw [step_take hRi, List.length_append, List.length_map] at l2
              omega
            rw [gd] at hB
            have hrow : ∀ {H4 : Hp} {v : V}, Same H3 H4 → (∃ b, v = V.ref b ∧ H4 b = some (.tup ((ts ++ [cj]).map V.str))) → RowsAt H4 (ac ++ [v]) (step (R.take i) col ++ (col.take (j + 1)).map fun c => R.getD i [] ++ [c]) := fun e4 hv => by
              rw [gd, take_next hcj, List.map_append, ← List.append_assoc]
              exact each_snoc (hB.up e4) hv
            have fin : ∀ {H4 : Hp} {v : V}, Same H3 H4 → H4 D = some (.lst ac) → (∃ b, v = V.ref b ∧ H4 b = some (.tup ((ts ++ [cj]).map V.str))) →
                ∃ acc, H4 D = some (.lst acc) ∧ acc.length < sizeLine ∧ ∃ acc', Same H0 (upd H4 D (.lst (acc ++ [v]))) ∧ upd H4 D (.lst (acc ++ [v])) D = some (.lst acc') ∧
                  RowsAt (upd H4 D (.lst (acc ++ [v]))) acc' (step (R.take i) col ++ (col.take (j + 1)).map fun c => R.getD i [] ++ [c]) := fun {H4 v} e4 h4 hv => by
              refine ⟨ac, h4, by rw [sizeLine_eq]; omega, ac ++ [v], same_put hD (same_trans e3 e4), upd_same, ?_⟩
              refine each_and (hrow e4 hv) fun v ts _ ⟨b, e5, e6⟩ => ⟨b, e5, ?_⟩
              rw [upd_ne (ne_of e6 h4 (by intro z; cases z))]
              exact e6
            refine ⟨rfl, _, rfl, _, rfl, by show 1 ≤ sizeLine; decide, fun b hb => ?_⟩
            have e4 : Same H3 (upd H3 b (.tup [V.str cj])) := same_new hb
            refine ⟨a, b, ts.map V.str, [V.str cj], rfl, rfl, SqT.of (e4 _ _ (e3 _ _ ha0)), SqT.of upd_same, ?_, fun z => ?_, fun _ z => (nomatch z), fun _ _ p hp => ?_⟩
            · have rl := rows_len [] [[]] 0 (by simp) (cols.take i0) (List.Sublist.refl _) ts (by rw [show (cols.take i0).foldl step [[]] = R from hRR]; exact List.mem_of_getElem? hRi)
              have tl : (cols.take i0).length ≤ cols.length := (List.take_sublist _ _).length_le
              rw [List.length_map, sizeLine_eq]
              show ts.length + 1 ≤ _
              omega
            · have z2 : ts = [] := List.map_eq_nil_iff.mp z
              exact fin e4 (e4 _ _ hac) ⟨b, rfl, by rw [upd_same, z2]; rfl⟩
            · have e5 := same_trans e4 (same_new (o := .tup (ts.map V.str ++ [V.str cj])) hp)
              exact fin e5 (e5 _ _ hac) ⟨p, rfl, by rw [upd_same, List.map_append]; rfl⟩
        · rintro H3 ⟨ac, e3, hac, hB⟩
          rw [List.length_map, List.take_length, gd, ← step_take hRi] at hB
          exact ⟨ac, e3, hac, by simpa using hB⟩
      · rintro H2 ⟨acc, e2, hacc, hA⟩
        refine ⟨D, acc, _, rfl, same_trans e1 e2, hacc, ?_⟩
        rw [pn]
        rw [hR.length] at hA
        simpa using hA
    · rintro σ H1 ⟨l, rs, v2, rfl, e1, hl1, hR⟩
      refine ⟨_, rfl, l, rs, rfl, .inl ⟨SqL.of hl1, fun p hp => ?_⟩⟩
      have le : cols.length = ds.length := by rw [← hcol.length, List.length_map]
      rw [List.length_map, ← le, List.take_length] at hR
      exact q p rs _ (e1.free hp) (same_trans e1 (same_new hp)) upd_same (hR.up (same_new hp))
end
end K01
/-! A column; a table made of what is valid. -/
namespace K01
open PySem PySem.Spec PyProof.Rows L2 KG KS
def inCls (i j : Nat) : Stmt := match top i with
  | .ClassDef _ _ _ body _ _ _ _ _ _ _ => body.getD j (.Pass ⟨0, 0, 0, 0⟩)
  | s => s
/-- a method of a class: where it stands -/
structure MtF (K : PySem.W.Frag) (name qual : Str) (st : Stmt) where
  a : Addr
  d : FuncData
  F : Fun K name qual st a d
abbrev s_tabInit : Stmt := inCls 31 0
/-- the facts of Table -/
structure TabC (K : PySem.W.Frag) (mg : Str → Option Value) (f : Addr) where
  C : Addr
  g : mg "Table" = some (.ref C)
  cl : Cls K C
  made : Mk K C f
  nd : NoAttr K C "domain"
  nw : NoAttr K C "width"
  nr : NoAttr K C "rows"
  nf : NoAttr K C "is_full"
  np : NoAttr K C "is_product"
/-- no statement is reached here -/
theorem ps_dead {X : Cx} {st : Stmt} : PS X st (fun _ _ _ => False) := ⟨fun _ _ _ _ _ _ h => h.elim⟩
theorem tx_list : ∀ {ys : List Str} {L : List MemV}, (∀ m ∈ L, m ∈ ys.map tx) → ∃ xs : List Str, L = xs.map tx ∧ ∀ x ∈ xs, x ∈ ys
  | _, [], _ => ⟨[], rfl, fun _ z => (nomatch z)⟩
  | ys, m :: L, h => by
    obtain ⟨x, hx, rfl⟩ := List.mem_map.mp (h m List.mem_cons_self)
    obtain ⟨xs, e, s⟩ := tx_list (ys := ys) (L := L) fun q hq => h q (List.mem_cons_of_mem _ hq)
    refine ⟨x :: xs, by rw [List.map_cons, e], fun z hz => ?_⟩
    rcases List.mem_cons.mp hz with e | hz
    · rw [e]
      exact hx
    · exact s z hz
def colv (R : List (List Str)) (pl : Nat) : List Str := R.map fun row => row.getD pl Str.empty
/-- column_of(rows, place) -/
def spCol : Sp := fun vs H Q _ => ∃ (r : Addr) (rs : List V) (R : List (List Str)) (pl : Nat), vs = [.ref r, .int (pl : Nat)] ∧ H r = some (.tup rs) ∧ RowsAt H rs R ∧ (∀ row ∈ R, pl < row.length) ∧ R.length < 64 ∧ pl < 1000 ∧
  ∀ (p : Addr) (xs : List Str) (H' : Hp), H p = none → Same H H' → H' p = some (.tup (xs.map V.str)) → (∀ x, x ∈ xs ↔ ∃ row ∈ R, row[pl]? = some x) → ((xs.map tx).map (·.2)).Nodup → (xs.map tx).Pairwise Aft → Q (.ref p) H'
section
variable {P : Program} {w : World} {K : PySem.W.Frag} {mg : Str → Option Value} {base : Heap}
theorem sc_column_of : FnScope ["rows", "place", "row"] ["rows", "place"] (defScope s_column_of) := ⟨rfl, rfl, rfl, by decide +kernel, rfl, by decide +kernel, by decide +kernel⟩
theorem ok_column_of (B : Bs mg) (f : FnF K mg "column_of" "column_of" s_column_of) (fs : FnF K mg "ascending" "ascending" s_ascending) : FnOk P w K mg base CX0 2 f.a f.d ["rows", "place"] spCol := by
  have G2 := ok_ascending (P := P) (w := w) (base := base) B fs
  have b2 : Binds K fs.d ["things"] [] := fs.F.binds fun _ _ _ _ _ _ us hl => match us, hl with | [_], _ => rfl
  refine f.F.ok sc_column_of (fun vs H Q E h => ?_) (fun cdv A outer s H vs Q E hr h => ?_)
  · obtain ⟨r, rs, R, pl, rfl, _⟩ := h
    rfl
  · obtain ⟨r, rs, R, pl, rfl, hr0, hR, hpl, h64, h1000, q⟩ := h
    have hr1 : Room 1 _ := hr.mono (by omega)
    refine ⟨_, (pss_one
      (ps_ret (pe_call G2 hr1 rfl fs.g fs.F.kp b2 .nil pass0 (pa_cons (pe_lc (own := [("row", 2)]) (g := gName 2) (by rfl) sc_column_of.nd (pi_tup (pv 0)) (blkOk_by (own := [("row", 2)]) (N := ["rows", "place", "row"]) (sc := defScope s_column_of) (by decide +kernel))
        (fun _ _ _ _ _ => (pg_name (i := 2) sc_column_of.nd rfl (Or.inl rfl))) (fun _ _ _ _ _ => pts_nil) (fun _ _ _ _ _ => (pe_ix (show IxR _ (rIxT K) from ix_tup) (pv 2) (pv 1) (fun _ _ => rfl)))) pa_nil)))), ?_⟩
    refine ⟨_, rfl, r, rfl, ⟨_, SqT.of hr0⟩, fun D hD => ?_⟩
    refine lc_tup (K := K) (xs := rs) (fun i H' => Same H H' ∧ H' D = some (.lst (((colv R pl).take i).map V.str))) ⟨same_new hD, upd_same⟩ (fun i H' _ p => SqT.of (p.1 _ _ hr0)) ?_ ?_
    · rintro i y H' hi ⟨e1, eD⟩
      obtain ⟨row, hrow, a, rfl, ha⟩ := each_get hR hi
      have lp := hpl row (List.mem_of_getElem? hrow)
      have gp : row[pl]? = some (row.getD pl Str.empty) := by
        rw [List.getElem?_eq_getElem lp]
        simp [List.getD, lp]
      have cp : (colv R pl)[i]? = some (row.getD pl Str.empty) := by
        unfold colv
        rw [List.getElem?_map, hrow]
        rfl
      have il : i < R.length := (List.getElem?_eq_some_iff.mp hrow).1
      refine ⟨rfl, _, rfl, _, rfl, a, row.map V.str, (pl : Nat), .str (row.getD pl Str.empty), rfl, rfl, SqT.of (e1 _ _ ha), atI_nat (by rw [List.getElem?_map, gp]; rfl), _, eD, by rw [List.length_map, List.length_take, sizeLine_eq]; omega, same_put hD e1, ?_⟩
      rw [upd_same, take_next cp, List.map_append]
      rfl
    · rintro H1 ⟨e1, eD⟩
      rw [hR.length] at eD
      have ct : (colv R pl).take R.length = colv R pl := by
        rw [← List.length_map (f := fun row : List Str => row.getD pl Str.empty)]
        exact List.take_length
      rw [ct] at eD
      have cl : (colv R pl).length = R.length := List.length_map ..
      refine ⟨false, D, (colv R pl).map tx, rfl, .inl (SqL.of (by rw [texts_mem]; exact eD)), texts_kv _, by rw [List.length_map, cl]; exact h64, (texts_al _).1, (texts_al _).2, fun L p H2 h1 h2 h3 h4 hp e2 hL => ?_⟩
      obtain ⟨xs, rfl, hx⟩ := tx_list h1
      rw [texts_mem] at hL
      refine q p xs H2 (e1.free hp) (same_trans e1 e2) hL (fun x => ⟨fun hm => ?_, fun ⟨row, hm, e⟩ => ?_⟩) h3 h4
      · obtain ⟨row, hrow, e⟩ := List.mem_map.mp (hx x hm)
        refine ⟨row, hrow, ?_⟩
        have lp := hpl row hrow
        rw [← e, List.getElem?_eq_getElem lp]
        simp [List.getD, lp]
      · have mc : x ∈ colv R pl := List.mem_map.mpr ⟨row, hm, by rw [List.getD_eq_getElem?_getD, e]; rfl⟩
        have z := h2 (tx x) (List.mem_map.mpr ⟨x, mc, rfl⟩)
        rw [List.map_map] at z
        obtain ⟨y, hy, e3⟩ := List.mem_map.mp z
        have e4 : y = x := NestedKey.text.inj e3
        rw [← e4]
        exact hy
end
end K01
/-! Rows as data; Table(domain, width, rows) of what is valid. -/
namespace K01
open PySem PySem.Spec PyProof.Rows L2 KG KS
/-- a row as a key -/
def kr (ts : List Str) : NestedKey := .tup (ts.map NestedKey.text)
theorem kr_inj {a b : List Str} (h : kr a = kr b) : a = b := by
  have e : a.map NestedKey.text = b.map NestedKey.text := NestedKey.tup.inj h
  exact (List.map_inj_right fun x y z => NestedKey.text.inj z).mp e
theorem datas_texts : ∀ ts : List Str, NestedKey.datas (ts.map NestedKey.text) = ts.map PyData.str
  | [] => rfl
  | t :: ts => by
    rw [List.map_cons, List.map_cons, NestedKey.datas, datas_texts ts]
    rfl
theorem kr_data (ts : List Str) : (kr ts).data = txd ts := by
  show PyData.tuple (NestedKey.datas (ts.map NestedKey.text)) = txd ts
  rw [datas_texts]
  rfl
theorem depth_texts : ∀ ts : List Str, NestedKey.depthAll (ts.map NestedKey.text) = 0
  | [] => rfl
  | t :: ts => by
    rw [List.map_cons, NestedKey.depthAll, depth_texts ts]
    rfl
theorem kv_texts {K : PySem.W.Frag} {H : Hp} : ∀ ts : List Str, KvAll K H (ts.map V.str) (ts.map NestedKey.text)
  | [] => .nil
  | t :: ts => .cons (.str t) (kv_texts ts)
theorem kv_row {K : PySem.W.Frag} {H : Hp} {a : Addr} {ts : List Str} (h : H a = some (.tup (ts.map V.str))) : Kv K H (.ref a) (kr ts) ∧ FitV true (V.ref a, kr ts) := by
  refine ⟨.tup (SqT.of h) (kv_texts ts), a, _, rfl, rfl, ?_⟩
  show NestedKey.depthAll (ts.map NestedKey.text) + 1 ≤ 8
  rw [depth_texts]
  decide
/-- rows as members -/
theorem rows_mem {K : PySem.W.Frag} {H : Hp} : ∀ {vs : List V} {R : List (List Str)}, RowsAt H vs R → ∃ ms : List MemV, ms.map (·.1) = vs ∧ ms.map (·.2) = R.map kr ∧ ∀ p ∈ ms, (Kv K H p.1 p.2 ∧ FitV true p) ∧ ∃ ts ∈ R, p.2 = kr ts ∧ ∃ a, p.1 = V.ref a ∧ H a = some (.tup (ts.map V.str))
  | _, _, .nil => ⟨[], rfl, rfl, fun _ z => (nomatch z)⟩
  | _, _, .cons ⟨a, e1, e2⟩ t => by
    obtain ⟨ms, h1, h2, h3⟩ := rows_mem (K := K) t
    subst e1
    refine ⟨(V.ref a, kr _) :: ms, by rw [List.map_cons, h1], by rw [List.map_cons, List.map_cons, h2], fun p hp => ?_⟩
    rcases List.mem_cons.mp hp with z | z
    · rw [z]
      exact ⟨kv_row e2, _, List.mem_cons_self, rfl, a, rfl, e2⟩
    · obtain ⟨q, ts, hts, q2⟩ := h3 p z
      exact ⟨q, ts, List.mem_cons_of_mem _ hts, q2⟩
theorem rows_back {H : Hp} {R : List (List Str)} : ∀ {L : List MemV}, (∀ p ∈ L, ∃ ts ∈ R, p.2 = kr ts ∧ ∃ a, p.1 = V.ref a ∧ H a = some (.tup (ts.map V.str))) → ∃ R', RowsAt H (L.map (·.1)) R' ∧ L.map (·.2) = R'.map kr ∧ ∀ ts ∈ R', ts ∈ R
  | [], _ => ⟨[], .nil, rfl, fun _ z => (nomatch z)⟩
  | p :: L, h => by
    obtain ⟨ts, hts, e, a, e1, e2⟩ := h p List.mem_cons_self
    obtain ⟨R', h1, h2, h3⟩ := rows_back (L := L) fun q hq => h q (List.mem_cons_of_mem _ hq)
    refine ⟨ts :: R', .cons ⟨a, e1, e2⟩ h1, by rw [List.map_cons, List.map_cons, h2, e], fun x hx => ?_⟩
    rcases List.mem_cons.mp hx with z | z
    · rw [z]
      exact hts
    · exact h3 x z
/-- rows as data -/
def rowsD (R : List (List Str)) : PyData := .tuple (R.map txd)
theorem rows_dp {K : PySem.W.Frag} {H : Hp} : ∀ {vs : List V} {R : List (List Str)}, RowsAt H vs R → DpAll K H vs (R.map txd)
  | _, _, .nil => .nil
  | _, _, .cons ⟨a, e1, e2⟩ t => by
    subst e1
    exact .cons (.tup (SqT.of e2) (texts_dp _)) (rows_dp t)
theorem txd_flat {xs : List Str} (hx : ∀ x ∈ xs, PyData.strOk x = true) : (txd xs).canLay0 = true ∧ (txd xs).depth ≤ 1 := by
  induction xs with
  | nil => exact ⟨rfl, by decide⟩
  | cons c r ih =>
    obtain ⟨i1, i2⟩ := ih fun x hx' => hx x (List.mem_cons_of_mem _ hx')
    simp only [txd, PyData.canLay0, PyData.depth] at i1 i2 ⊢
    refine ⟨?_, ?_⟩
    · simp only [List.map_cons, PyData.canLayAll0, PyData.canLay0]
      rw [hx c List.mem_cons_self, i1]
      rfl
    · simp only [List.map_cons, PyData.depthAll, PyData.depth]
      omega
theorem rows_shaped {R : List (List Str)} (h : ∀ r ∈ R, ∀ x ∈ r, PyData.strOk x = true) : SeqAt.shaped (rowsD R) = true := by
  have key : ∀ l : List (List Str), (∀ r ∈ l, ∀ x ∈ r, PyData.strOk x = true) → PyData.canLayAll0 (l.map txd) = true ∧ PyData.depthAll (l.map txd) ≤ 1 := by
    intro l hl
    induction l with
    | nil => exact ⟨rfl, by decide⟩
    | cons c r ih =>
      obtain ⟨i1, i2⟩ := ih fun x hx => hl x (List.mem_cons_of_mem _ hx)
      obtain ⟨c1, c2⟩ := txd_flat (hl c List.mem_cons_self)
      refine ⟨?_, ?_⟩
      · simp only [List.map_cons, PyData.canLayAll0]
        rw [c1, i1]
        rfl
      · simp only [List.map_cons, PyData.depthAll]
        omega
  obtain ⟨h1, h2⟩ := key R h
  unfold SeqAt.shaped
  have e1 : (rowsD R).canLay0 = true := by simpa [rowsD, PyData.canLay0] using h1
  have e2 : (rowsD R).depth ≤ 64 := by
    simp only [rowsD, PyData.depth]
    omega
  rw [e1, decide_eq_true e2]
  rfl
theorem alike_texts : ∀ xs ys : List Str, W.alikeAll (xs.map PyData.str) (ys.map PyData.str) = true
  | [], _ => by simp [W.alikeAll]
  | _ :: _, [] => by simp [W.alikeAll]
  | x :: xs, y :: ys => by
    rw [List.map_cons, List.map_cons, W.alikeAll, alike_texts xs ys]
    rfl
theorem rows_al {ms : List MemV} {R : List (List Str)} (h : ∀ p ∈ ms, ∃ ts ∈ R, p.2 = kr ts) (h1 : ∀ r ∈ R, 1 ≤ r.length) : W.AllAlike (ms.map (·.2.data)) ∧ W.Sortable (ms.map (·.2.data)) := by
  have g : ∀ d ∈ ms.map (·.2.data), ∃ ts ∈ R, d = txd ts := fun d hd => by
    obtain ⟨p, hp, rfl⟩ := List.mem_map.mp hd
    obtain ⟨ts, hts, e⟩ := h p hp
    exact ⟨ts, hts, by rw [e, kr_data]⟩
  refine ⟨fun d hd d' hd' => ?_, .inl fun d hd => ?_⟩
  · obtain ⟨ts, _, rfl⟩ := g d hd
    obtain ⟨us, _, rfl⟩ := g d' hd'
    exact alike_texts ts us
  · obtain ⟨ts, hts, rfl⟩ := g d hd
    have := h1 ts hts
    cases ts with
    | nil => exact absurd this (by decide)
    | cons x r => exact ⟨.str x, r.map PyData.str, rfl⟩
theorem prods_mem : ∀ (cols R : List (List Str)), ∀ r ∈ cols.foldl step R, ∀ x ∈ r, (∃ c ∈ cols, x ∈ c) ∨ ∃ r0 ∈ R, x ∈ r0
  | [], R, r, hr, x, hx => .inr ⟨r, hr, hx⟩
  | c :: cols, R, r, hr, x, hx => by
    rcases prods_mem cols (step R c) r hr x hx with ⟨c', h1, h2⟩ | ⟨r0, h1, h2⟩
    · exact .inl ⟨c', List.mem_cons_of_mem _ h1, h2⟩
    · unfold step at h1
      obtain ⟨r1, a1, a2⟩ := List.mem_flatMap.mp h1
      obtain ⟨y, b1, rfl⟩ := List.mem_map.mp a2
      rcases List.mem_append.mp h2 with z | z
      · exact .inr ⟨r1, a1, z⟩
      · rw [List.mem_singleton.mp z]
        exact .inl ⟨c, List.mem_cons_self, b1⟩
theorem prods_ok {cols : List (List Str)} (h : ∀ c ∈ cols, ∀ x ∈ c, PyData.strOk x = true) : ∀ r ∈ prods cols, ∀ x ∈ r, PyData.strOk x = true := fun r hr x hx => by
  rcases prods_mem cols [[]] r hr x hx with ⟨c, h1, h2⟩ | ⟨r0, h1, h2⟩
  · exact h c h1 x h2
  · rw [List.mem_singleton.mp h1] at h2
    cases h2
theorem prods_few : ∀ (cols R : List (List Str)), (∀ c ∈ cols, c.length ≤ 3) → (cols.foldl step R).length ≤ R.length * 3 ^ cols.length
  | [], R, _ => by simp
  | c :: cols, R, h => by
    have z := prods_few cols (step R c) fun x hx => h x (List.mem_cons_of_mem _ hx)
    rw [step_len] at z
    have l := h c List.mem_cons_self
    rw [List.length_cons, Nat.pow_succ]
    refine Nat.le_trans (show _ ≤ _ from z) ?_
    rw [Nat.mul_assoc, Nat.mul_comm (3 ^ cols.length) 3]
    exact Nat.mul_le_mul_left _ (Nat.mul_le_mul_right _ l)
theorem few_of {cols : List (List Str)} (h : ∀ c ∈ cols, c.length ≤ 3) (n : cols.length ≤ 3) (i : Nat) : (prods (cols.take i)).length ≤ 100000 := by
  have z := prods_few (cols.take i) [[]] fun c hc => h c (List.mem_of_mem_take hc)
  have l : (cols.take i).length ≤ 3 := by
    rw [List.length_take]
    omega
  have p : 3 ^ (cols.take i).length ≤ 3 ^ 3 := Nat.pow_le_pow_right (by decide) l
  unfold prods
  have e : ([[]] : List (List Str)).length = 1 := rfl
  rw [e] at z
  omega
end K01
/-! Table(domain, width, rows) of what is valid. -/
namespace K01
open PySem PySem.Spec PyProof.Rows L2 KG KS
theorem nodup_len {α : Type} : ∀ (l D : List α), l.Nodup → (∀ x ∈ l, x ∈ D) → l.length ≤ D.length
  | [], _, _, _ => Nat.zero_le _
  | x :: l, D, nd, sub => by
    obtain ⟨A, B, rfl⟩ := List.append_of_mem (sub x List.mem_cons_self)
    obtain ⟨n1, n2⟩ := List.nodup_cons.mp nd
    have z := nodup_len l (A ++ B) n2 fun y hy => by
      rcases List.mem_append.mp (sub y (List.mem_cons_of_mem _ hy)) with c | c
      · exact List.mem_append_left _ c
      · rcases List.mem_cons.mp c with e | c
        · rw [e] at hy
          exact absurd hy n1
        · exact List.mem_append_right _ c
    rw [List.length_append] at z ⊢
    rw [List.length_cons, List.length_cons]
    omega
theorem flat_rep {α : Type} (v : α) : ∀ n, (List.replicate n [v]).flatten = List.replicate n v
  | 0 => rfl
  | n + 1 => by
    rw [List.replicate_succ, List.flatten_cons, flat_rep v n]
    rfl
/-- all but the object at x stands -/
def But (x : Addr) (H H' : Hp) : Prop := ∀ b o, H b = some o → b ≠ x → H' b = some o
theorem But.put {x : Addr} {H H1 : Hp} {o : HO} (e : But x H H1) : But x H (upd H1 x o) := fun b u h n => by
  rw [upd_ne n]
  exact e b u h n
theorem But.then {x : Addr} {H H1 H2 : Hp} (e : But x H H1) (f : Same H1 H2) : But x H H2 := fun b u h n => f _ _ (e b u h n)
theorem But.of {x : Addr} {H H1 : Hp} (e : Same H H1) : But x H H1 := fun b u h _ => e b u h
theorem RowsAt.but {x : Addr} {H H' : Hp} {o : HO} (e : But x H H') (hx : H x = some o) (no : ∀ ts : List Str, o ≠ .tup (ts.map V.str)) {vs : List V} {R : List (List Str)} (h : RowsAt H vs R) : RowsAt H' vs R :=
  each_and h fun v ts _ ⟨a, e1, e2⟩ => ⟨a, e1, e _ _ e2 fun z => by
    rw [z, hx] at e2
    exact no ts (Option.some.inj e2)⟩
theorem putF_new {f : Str} {v : V} : ∀ fs : List (Str × V), (fs.all fun p => decide (p.1 ≠ f)) = true → putF f v fs = fs ++ [(f, v)]
  | [], _ => rfl
  | (g, x) :: r, h => by
    rw [List.all_cons, Bool.and_eq_true, decide_eq_true_eq] at h
    show (if g = f then _ else _) = _
    rw [if_neg h.1, putF_new r h.2]
    rfl
abbrev F1 (d : Addr) : List (Str × V) := [("domain", V.ref d)]
abbrev F2 (d : Addr) (n : Nat) : List (Str × V) := F1 d ++ [(("width" : Str), V.int (n : Nat))]
abbrev F3 (d : Addr) (n : Nat) (p : Addr) : List (Str × V) := F2 d n ++ [(("rows" : Str), V.ref p)]
abbrev F4 (d : Addr) (n : Nat) (p : Addr) (b : Bool) : List (Str × V) := F3 d n p ++ [(("is_full" : Str), V.bl b)]
abbrev tabFs (d p : Addr) (n : Nat) (b1 b2 : Bool) : List (Str × V) := [("domain", .ref d), ("width", .int (n : Nat)), ("rows", .ref p), ("is_full", .bl b1), ("is_product", .bl b2)]
def spTab (C : Addr) : Sp := fun vs H Q _ => ∃ (x dx d r : Addr) (n : Nat) (ds : List Str) (rs : List V) (R : List (List Str)), vs = [.ref x, .ref d, .int (n : Nat), .ref r] ∧ H x = some (.ins C dx []) ∧
  H d = some (.tup (ds.map V.str)) ∧ (∀ y ∈ ds, nameOk y = true) ∧ (ds.map tx).Pairwise Bef ∧ 1 ≤ ds.length ∧ ds.length ≤ 3 ∧ 1 ≤ n ∧ n ≤ 3 ∧
  H r = some (.tup rs) ∧ RowsAt H rs R ∧ (∀ row ∈ R, row.length = n ∧ ∀ y ∈ row, y ∈ ds) ∧ R.length < 64 ∧
  ∀ (H' : Hp) (p : Addr) (ks : List V) (R' : List (List Str)) (b1 b2 : Bool), But x H H' → H' x = some (.ins C dx (tabFs d p n b1 b2)) → H' p = some (.tup ks) → RowsAt H' ks R' → (∀ row, row ∈ R' ↔ row ∈ R) → R'.Nodup → Q .non H'
section
variable {P : Program} {w : World} {K : PySem.W.Frag} {mg : Str → Option Value} {base : Heap}
theorem sc_tabInit : FnScope ["self", "domain", "width", "rows", "kept", "row", "place"] ["self", "domain", "width", "rows"] (defScope s_tabInit) := ⟨rfl, rfl, rfl, by decide +kernel, rfl, by decide +kernel, by decide +kernel⟩
/-- a method with one default -/
structure MtD (K : PySem.W.Frag) (name qual : Str) (st : Stmt) where
  a : Addr
  d : FuncData
  v : V
  F : FunD K name qual (defArgs st) (defBody st) (defScope st) [v] [] a d
theorem okD {name qual : Str} {st : Stmt} {N ps : List Str} {k : Nat} {sp : Sp} (f : MtD K name qual st) (S : FnScope N ps (defScope st)) (len : ∀ vs H Q E, sp vs H Q E → vs.length = ps.length)
    (body : ∀ (cdv : Value) (A : Around) (outer : List Env) (s : Shared) (H : Hp) (vs : List V) (Q : VK) (E : XK), Room k (A.deeper (envOfC qual (defScope st) s.heap.objs.size f.a cdv)) → sp vs H Q E →
      ∃ t, PSs (cxOf CX0 P w K mg base N qual (defScope st) f.a cdv A outer s H E).nox (defBody st) t ∧ t { nx := fun _ H' => Q .non H', rt := Q } (L2.start N vs) H) : FnOk P w K mg base CX0 (k + 1) f.a f.d ps sp :=
  f.F.ok S len fun cdv A outer s H vs Q E hr h => by
    obtain ⟨t, h1, h2⟩ := body cdv A outer s H vs Q E hr h
    exact ⟨t, h1.nox, h2⟩
/-- the defs that Table's making reaches -/
structure TabF (K : PySem.W.Frag) (mg : Str → Option Value) where
  dom : FnF K mg "is_domain" "is_domain" s_is_domain
  nms : FnF K mg "are_names" "are_names" s_are_names
  nm : FnF K mg "is_name" "is_name" s_is_name
  asc : FnF K mg "ascending" "ascending" s_ascending
  int : FnF K mg "is_integer" "is_integer" s_is_integer
  row : FnF K mg "is_row" "is_row" s_is_row
  all : FnF K mg "all_rows" "all_rows" s_all_rows
  col : FnF K mg "column_of" "column_of" s_column_of
theorem ok_tabInit (B : Bs mg) (f : MtD K "__init__" "Table.__init__" s_tabInit) (F : TabF K mg) (T : TabC K mg f.a) : FnOk P w K mg base CX0 4 f.a f.d ["self", "domain", "width", "rows"] (spTab T.C) := by
  obtain ⟨tw, cw⟩ := B.c_width
  have G1 := ok_is_domain (P := P) (w := w) (base := base) B F.dom F.nms F.nm F.asc
  have b1 : Binds K F.dom.d ["thing"] [] := F.dom.F.binds fun _ _ _ _ _ _ us hl => match us, hl with | [_], _ => rfl
  have G2 := ok_is_integer (P := P) (w := w) (base := base) B F.int
  have b2 : Binds K F.int.d ["thing"] [] := F.int.F.binds fun _ _ _ _ _ _ us hl => match us, hl with | [_], _ => rfl
  have G3 := ok_is_row (P := P) (w := w) (base := base) B F.row
  have b3 : Binds K F.row.d ["thing", "domain", "length"] [] := F.row.F.binds fun _ _ _ _ _ _ us hl => match us, hl with | [_, _, _], _ => rfl
  have G4 := ok_ascending (P := P) (w := w) (base := base) B F.asc
  have b4 : Binds K F.asc.d ["things"] [] := F.asc.F.binds fun _ _ _ _ _ _ us hl => match us, hl with | [_], _ => rfl
  have G5 := ok_all_rows (P := P) (w := w) (base := base) B F.all
  have b5 : Binds K F.all.d ["columns"] [] := F.all.F.binds fun _ _ _ _ _ _ us hl => match us, hl with | [_], _ => rfl
  have G6 := ok_column_of (P := P) (w := w) (base := base) B F.col F.asc
  have b6 : Binds K F.col.d ["rows", "place"] [] := F.col.F.binds fun _ _ _ _ _ _ us hl => match us, hl with | [_, _], _ => rfl
  refine okD f sc_tabInit (fun vs H Q E h => ?_) (fun cdv A outer s H vs Q E hr h => ?_)
  · obtain ⟨x, dx, d, r, n, ds, rs, R, rfl, _⟩ := h
    rfl
  · obtain ⟨x, dx, d, r, n, ds, rs, R, rfl, hx, hd, ok, asc, l1, l3, n1, n3, hr0, hR, hrow, h64, q⟩ := h
    have hu64 := hr.units
    have hr1 : Room 1 _ := hr.mono (by omega)
    have hr2 : Room 2 _ := hr.mono (by omega)
    have hr3 : Room 3 _ := hr.mono (by omega)
    refine ⟨_, (pss_cons
      (ps_if (pt_not (pt_val (pe_call G1 hr3 rfl F.dom.g F.dom.F.kp b1 .nil pass0 (pa_cons (pv 1) pa_nil))))
        (pss_one
          ps_dead)
        pss_nil)
    (pss_cons
      (ps_if (PW.pt (pw_or (pt_not (pt_val (pe_call G2 hr1 rfl F.int.g F.int.F.kp b2 .nil pass0 (pa_cons (pv 2) pa_nil)))) (pw_or1 (pt_not (pt_chain op_le op_le pe_int (pv 2) (pe_glob (v := .int 3) rfl cw ⟨_, rfl⟩))))))
        (pss_one
          ps_dead)
        pss_nil)
    (pss_cons
      (ps_if (PW.pt (pw_or (pt_not (pt_val (pe_callB call_isi (by rfl) B.n_isinstance (by decide +kernel) (pa_cons (pv 3) (pa_cons (pe_bltn (v := .ty "tuple") rfl B.n_tuple (by decide +kernel) rfl) pa_nil)))))
          (pw_or1 (pt_not (pt_val (pe_callB (cr_all rfl) (by rfl) B.n_all (by decide +kernel) (pa_cons (pe_lc (own := [("row", 5)]) (g := gName 5) (by rfl) sc_tabInit.nd (pi_tup (pv 3)) (blkOk_by (own := [("row", 5)]) (N := ["self", "domain", "width", "rows", "kept", "row", "place"]) (sc := defScope s_tabInit) (by decide +kernel))
            (fun _ _ _ _ _ => (pg_name (i := 5) sc_tabInit.nd rfl (Or.inl rfl))) (fun _ _ _ _ _ => pts_nil) (fun _ _ _ _ _ => (pe_call G3 hr1 rfl F.row.g F.row.F.kp b3 .nil pass0 (pa_cons (pv 5) (pa_cons (pv 1) (pa_cons (pv 2) pa_nil)))))) pa_nil)))))))
        (pss_one
          ps_dead)
        pss_nil)
    (pss_cons
      (ps_set (i := 4) sc_tabInit.nd rfl (Or.inr rfl) (pe_call G4 hr1 rfl F.asc.g F.asc.F.kp b4 .nil pass0 (pa_cons (pv 3) pa_nil)))
    (pss_cons
      (ps_fld (pv 0) (pv 1) rfl)
    (pss_cons
      (ps_fld (pv 0) (pv 2) rfl)
    (pss_cons
      (ps_fld (pv 0) (pv 4) rfl)
    (pss_cons
      (ps_fld (pv 0) (pe_cmpR (op_eqD hu64) (pv 4) (pe_call G5 hr1 rfl F.all.g F.all.F.kp b5 .nil pass0 (pa_cons (pe_op op_rep (pe_lst (pa_cons (pv 1) pa_nil)) (pv 2)) pa_nil)) (nomark _)) rfl)
    (pss_one
      (ps_fld (pv 0) (pe_cmpR (op_eqD hu64) (pv 4) (pe_call G5 hr1 rfl F.all.g F.all.F.kp b5 .nil pass0 (pa_cons (pe_lc (own := [("place", 6)]) (g := gName 6) (by rfl) sc_tabInit.nd (pi_range1 rfl B.n_range (pa_cons (pv 2) pa_nil)) (blkOk_by (own := [("place", 6)]) (N := ["self", "domain", "width", "rows", "kept", "row", "place"]) (sc := defScope s_tabInit) (by decide +kernel))
        (fun _ _ _ _ _ => (pg_name (i := 6) sc_tabInit.nd rfl (Or.inl rfl))) (fun _ _ _ _ _ => pts_nil) (fun _ _ _ _ _ => (pe_call G6 hr2 rfl F.col.g F.col.F.kp b6 .nil pass0 (pa_cons (pv 4) (pa_cons (pv 6) pa_nil))))) pa_nil)) (nomark _)) rfl)))))))))), ?_⟩
    -- is_domain(domain)
    refine ⟨_, rfl, d, ds, rfl, hd, ok, asc, l1, l3, fun H1 e1 => ⟨true, rfl, iteF ?_⟩⟩
    -- is_integer(width), 1 <= width <= MOST_WIDTH
    refine ⟨_, rfl, _, rfl, true, rfl, iteF ?_⟩
    refine ⟨_, rfl, _, _, rfl, rfl, _, rfl, ite2 (fun _ => ?_) fun c => absurd (decide_eq_true (by omega)) c⟩
    refine ⟨_, _, rfl, rfl, _, rfl, iteNS (by omega) ?_⟩
    -- isinstance(rows, tuple) and all([is_row(row, domain, width) for row in rows])
    refine ⟨_, rfl, _, _, _, _, true, rfl, .ty "tuple", .base (.tup (e1 _ _ hr0)), kit_ty (by decide +kernel), true, rfl, iteF ?_⟩
    refine ⟨_, rfl, r, rfl, ⟨_, SqT.of (e1 _ _ hr0)⟩, fun D hD => ?_⟩
    refine lc_tup (K := K) (xs := rs) (fun i H' => Same H1 H' ∧ H' D = some (.lst (List.replicate i (V.bl true)))) ⟨same_new hD, upd_same⟩ (fun i H' _ p => SqT.of (p.1 _ _ (e1 _ _ hr0))) ?_ ?_
    · rintro i y H' hi ⟨e2, eD⟩
      obtain ⟨row, hri, a, rfl, ha⟩ := each_get hR hi
      have mr := List.mem_of_getElem? hri
      obtain ⟨len, sub⟩ := hrow row mr
      have il : i < R.length := (List.getElem?_eq_some_iff.mp hri).1
      refine ⟨rfl, _, rfl, _, rfl, _, rfl, a, d, row, ds, by rw [len]; rfl, e2 _ _ (e1 _ _ ha), e2 _ _ (e1 _ _ hd), sub, by omega, fun H3 e3 => ?_⟩
      refine ⟨_, e3 _ _ eD, by rw [List.length_replicate, sizeLine_eq]; omega, same_put hD (same_trans e2 e3), ?_⟩
      rw [upd_same, ← List.replicate_succ']
    rintro H2 ⟨e2, eD⟩
    refine ⟨D, List.replicate rs.length true, rfl, SqL.of (by rw [List.map_replicate]; exact eD), true, congrArg V.bl (bls_all _), iteF ?_⟩
    have e02 := same_trans e1 e2
    have hR2 := hR.up e02
    -- kept = ascending(rows)
    obtain ⟨ms, m1, m2, m3⟩ := rows_mem (K := K) hR2
    have row1 : ∀ t ∈ R, 1 ≤ t.length := fun t ht => by rw [(hrow t ht).1]; exact n1
    have mal := rows_al (ms := ms) (R := R) (fun p hp => by obtain ⟨_, ts, h1, h2, _⟩ := m3 p hp; exact ⟨ts, h1, h2⟩) row1
    have ml : ms.length = R.length := by
      have z := congrArg List.length m2
      rw [List.length_map, List.length_map] at z
      exact z
    refine ⟨_, rfl, true, r, ms, rfl, .inr (SqT.of (by rw [m1]; exact e02 _ _ hr0)), fun p hp => (m3 p hp).1, by omega, mal.1, mal.2, fun L p H3 h1 h2 h3 h4 hp e3 hL => ?_⟩
    have e03 := same_trans e02 e3
    obtain ⟨R', a1, a2, a3⟩ := rows_back (H := H3) (R := R) (L := L) fun m hm => by
      obtain ⟨_, ts, z1, z2, a, z3, z4⟩ := m3 m (h1 m hm)
      exact ⟨ts, z1, z2, a, z3, e3 _ _ z4⟩
    have rows_iff : ∀ row, row ∈ R' ↔ row ∈ R := fun row => ⟨a3 row, fun hm => by
      have z : kr row ∈ ms.map (·.2) := by
        rw [m2]
        exact List.mem_map.mpr ⟨row, hm, rfl⟩
      obtain ⟨m, hm2, e⟩ := List.mem_map.mp z
      have z2 := h2 m hm2
      rw [e, a2] at z2
      obtain ⟨row2, hm3, e2⟩ := List.mem_map.mp z2
      rw [← kr_inj e2]
      exact hm3⟩
    have rows_nd : R'.Nodup := by
      rw [a2] at h3
      exact nodup_of_map h3
    have rlen : R'.length < 64 := by
      have z := congrArg List.length a2
      rw [List.length_map, List.length_map] at z
      have z2 : L.length ≤ ms.length := by
        have := nodup_of_map h3
        exact nodup_len _ _ this h1
      omega
    -- self.domain, self.width, self.rows
    have hx3 := e03 _ _ hx
    refine ⟨_, rfl, _, rfl, x, T.C, dx, _, rfl, hx3, T.cl, T.nd, by decide, ?_⟩
    rw [show putF "domain" (V.ref d) [] = F1 d from putF_new _ rfl]
    refine ⟨_, rfl, _, rfl, x, T.C, dx, _, rfl, upd_same, T.cl, T.nw, (by show 1 < 1000; decide), ?_⟩
    rw [show putF "width" (V.int (n : Nat)) (F1 d) = F2 d n from putF_new _ rfl]
    refine ⟨_, rfl, _, rfl, x, T.C, dx, _, rfl, upd_same, T.cl, T.nr, (by show 2 < 1000; decide), ?_⟩
    rw [show putF "rows" (V.ref p) (F2 d n) = F3 d n p from putF_new _ rfl]
    have npx : p ≠ x := fun z => by
      rw [z] at hp
      rw [e02 _ _ hx] at hp
      cases hp
    have h34 : But x H3 (upd (upd (upd H3 x (.ins T.C dx (F1 d))) x (.ins T.C dx (F2 d n))) x (.ins T.C dx (F3 d n p))) :=
      But.put (But.put (But.put (But.of (Same.refl H3))))
    have hx4 : upd (upd (upd H3 x (.ins T.C dx (F1 d))) x (.ins T.C dx (F2 d n))) x (.ins T.C dx (F3 d n p)) x = some (.ins T.C dx (F3 d n p)) := upd_same
    generalize upd (upd (upd H3 x (.ins T.C dx (F1 d))) x (.ins T.C dx (F2 d n))) x (.ins T.C dx (F3 d n p)) = H4 at h34 hx4 ⊢
    have ndx : d ≠ x := ne_of hd hx (by intro z; cases z)
    have hd4 : H4 d = some (.tup (ds.map V.str)) := h34 _ _ (e03 _ _ hd) ndx
    have hp4 : H4 p = some (.tup (L.map (·.1))) := h34 _ _ hL npx
    have hR4 : RowsAt H4 (L.map (·.1)) R' := RowsAt.but h34 hx3 (fun ts z => by cases z) a1
    have ok3 : ∀ y ∈ ds, PyData.strOk y = true := fun y hy => name_strOk (ok y hy)
    have okR : ∀ t ∈ R', ∀ y ∈ t, PyData.strOk y = true := fun t ht y hy => ok3 y ((hrow t (a3 t ht)).2 y hy)
    -- self.is_full
    refine ⟨_, rfl, _, rfl, by show 1 ≤ sizeLine; decide, fun l hl => ⟨_, rfl, l, (n : Nat), [V.ref d], rfl, rfl, upd_same, by omega, by omega, (by rw [sizeLine_eq]; show 1 * _ ≤ _; omega), fun u hu => ?_⟩⟩
    have e45 : Same H4 (upd (upd H4 l (.lst [V.ref d])) u (.lst (List.replicate (n : Int).toNat [V.ref d]).flatten)) := same_trans (same_new hl) (same_new hu)
    have hu5 : upd (upd H4 l (.lst [V.ref d])) u (.lst (List.replicate (n : Int).toNat [V.ref d]).flatten) u = some (.lst ((List.replicate n d).map V.ref)) := by
      rw [upd_same, flat_rep, List.map_replicate]
      rfl
    generalize upd (upd H4 l (.lst [V.ref d])) u (.lst (List.replicate (n : Int).toNat [V.ref d]).flatten) = H5 at e45 hu5 ⊢
    have hR5 : RowsAt H5 ((List.replicate n d).map V.ref) (List.replicate n ds) := by
      rw [List.map_replicate]
      have key : ∀ k, RowsAt H5 (List.replicate k (V.ref d)) (List.replicate k ds) := fun k => by
        induction k with
        | zero => exact .nil
        | succ k ih => exact .cons ⟨d, rfl, e45 _ _ hd4⟩ ih
      exact key n
    refine ⟨u, List.replicate n d, List.replicate n ds, rfl, hu5, hR5, few_of (fun c hc => by rw [List.eq_of_mem_replicate hc]; exact l3) (by rw [List.length_replicate]; exact n3), by rw [List.length_replicate]; omega, fun pf fs H6 hpf e56 hpf6 hRf => ?_⟩
    have e46 := same_trans e45 e56
    refine ⟨rowsD R', rowsD (prods (List.replicate n ds)), .tup (SqT.of (e46 _ _ hp4)) (rows_dp (hR4.up e46)), .tup (SqT.of hpf6) (rows_dp hRf), rows_shaped okR, rows_shaped (prods_ok fun c hc => by rw [List.eq_of_mem_replicate hc]; exact ok3), ?_⟩
    generalize PyData.eqv (rowsD R') (rowsD (prods (List.replicate n ds))) = b1
    have hx6 := e46 _ _ hx4
    refine ⟨_, rfl, x, T.C, dx, _, rfl, hx6, T.cl, T.nf, (by show 3 < 1000; decide), ?_⟩
    rw [show putF "is_full" (V.bl b1) (F3 d n p) = F4 d n p b1 from putF_new _ rfl]
    have h67 : But x H6 (upd H6 x (.ins T.C dx (F4 d n p b1))) := But.put (But.of (Same.refl H6))
    have hx7 : upd H6 x (.ins T.C dx (F4 d n p b1)) x = some (.ins T.C dx (F4 d n p b1)) := upd_same
    generalize upd H6 x (.ins T.C dx (F4 d n p b1)) = H7 at h67 hx7 ⊢
    have hp7 : H7 p = some (.tup (L.map (·.1))) := h67 _ _ (e46 _ _ hp4) npx
    have hR7 : RowsAt H7 (L.map (·.1)) R' := RowsAt.but h67 hx6 (fun ts z => by cases z) (hR4.up e46)
    -- self.is_product
    refine ⟨_, rfl, _, rfl, (n : Nat), rfl, by omega, by omega, fun D2 hD2 => ?_⟩
    refine lc_range (lo := 0) (n := ((n : Nat) : Int).toNat) (fun i H' => ∃ (cs : List Addr) (cols : List (List Str)), Same H7 H' ∧ H' D2 = some (.lst (cs.map V.ref)) ∧ RowsAt H' (cs.map V.ref) cols ∧ cols.length = i ∧ (∀ c ∈ cols, c.length ≤ 3) ∧ ∀ c ∈ cols, ∀ y ∈ c, y ∈ ds)
      ⟨[], [], same_new hD2, upd_same, .nil, rfl, fun _ z => (nomatch z), fun _ z => (nomatch z)⟩ ?_ ?_
    · rintro i H' hi ⟨cs, cols, e8, hD8, hR8, len, c3, cds⟩
      refine ⟨rfl, _, rfl, _, rfl, p, L.map (·.1), R', i, by rw [Int.zero_add]; rfl, e8 _ _ hp7, hR7.up e8, fun row hm => by rw [(hrow row (a3 row hm)).1]; omega, rlen, by omega, fun pc xs H9 hpc e9 hpc9 iff nd aft => ?_⟩
      have xds : ∀ y ∈ xs, y ∈ ds := fun y hy => by
        obtain ⟨row, hm, e⟩ := (iff y).1 hy
        exact (hrow row (a3 row hm)).2 y (List.mem_of_getElem? e)
      have xnd : xs.Nodup := nodup_of_map (nodup_of_map nd)
      have x3 : xs.length ≤ 3 := Nat.le_trans (nodup_len _ _ xnd xds) l3
      have cl : cs.length = i := by rw [← len, ← hR8.length, List.length_map]
      refine ⟨_, e9 _ _ hD8, by rw [List.length_map, sizeLine_eq]; omega, cs ++ [pc], cols ++ [xs], same_put hD2 (same_trans e8 e9), by rw [upd_same, List.map_append]; rfl, ?_, by rw [List.length_append, len]; rfl, fun c hc => ?_, fun c hc => ?_⟩
      · rw [List.map_append]
        refine each_and (each_snoc (hR8.up e9) ⟨pc, rfl, hpc9⟩) fun v ts _ ⟨b, e5, e6⟩ => ⟨b, e5, ?_⟩
        rw [upd_ne (ne_of e6 (e9 _ _ hD8) (by intro z; cases z))]
        exact e6
      · rcases List.mem_append.mp hc with z | z
        · exact c3 c z
        · rw [List.mem_singleton.mp z]
          exact x3
      · rcases List.mem_append.mp hc with z | z
        · exact cds c z
        · rw [List.mem_singleton.mp z]
          exact xds
    · rintro H8 ⟨cs, cols, e8, hD8, hR8, len, c3, cds⟩
      refine ⟨D2, cs, cols, rfl, hD8, hR8, few_of c3 (by omega), by omega, fun pg gs H9 hpg e9 hpg9 hRg => ?_⟩
      have e79 := same_trans e8 e9
      refine ⟨rowsD R', rowsD (prods cols), .tup (SqT.of (e79 _ _ hp7)) (rows_dp (hR7.up e79)), .tup (SqT.of hpg9) (rows_dp hRg), rows_shaped okR, rows_shaped (prods_ok fun c hc y hy => ok3 y (cds c hc y hy)), ?_⟩
      generalize PyData.eqv (rowsD R') (rowsD (prods cols)) = b2
      have hx9 := e79 _ _ hx7
      refine ⟨_, rfl, x, T.C, dx, _, rfl, hx9, T.cl, T.np, (by show 4 < 1000; decide), ?_⟩
      rw [show putF "is_product" (V.bl b2) (F4 d n p b1) = tabFs d p n b1 b2 from putF_new _ rfl]
      have h9 : But x H9 (upd H9 x (.ins T.C dx (tabFs d p n b1 b2))) := But.put (But.of (Same.refl H9))
      refine q _ p (L.map (·.1)) R' b1 b2 (fun b o e nx => h9 _ _ (e79 _ _ (h67 _ _ (e46 _ _ (h34 _ _ (e03 _ _ e) nx)) nx)) nx) upd_same (h9 _ _ (e79 _ _ hp7) npx) (RowsAt.but h9 hx9 (fun ts z => by cases z) (hR7.up e79)) rows_iff rows_nd
end
end K01
/-! The sixteen errors: made by position, by name. -/
namespace K01
open PySem PySem.Spec PyProof.Rows L2 KG KS KX
/-- an error with one parameter -/
structure ErC (K : PySem.W.Frag) (mg : Str → Option Value) (x fl qual : Str) (st : Stmt) where
  C : Addr
  g : mg x = some (.ref C)
  T : ExC K C
  a : Addr
  d : FuncData
  F : Fun K "__init__" qual st a d
  iC : PySem.W.findIn K (.ref C) "__init__" = some (some (.ref a))
  tI : PySem.W.typeIn K (.ref a) = some (.type "function")
  nf : PySem.W.findIn K (.ref C) fl = some none
  kw : KwOne d ["self", fl] fl
/-- an error without -/
structure ErN (K : PySem.W.Frag) (mg : Str → Option Value) (x : Str) where
  C : Addr
  g : mg x = some (.ref C)
  T : ExC K C
  q : PySem.W.excIn K C exTl "Exception.__new__" = true
structure Es (K : PySem.W.Frag) (mg : Str → Option Value) where
  e0 : ErC K mg "NoTable" "word" "NoTable.__init__" (inCls 3 0)
  e1 : ErC K mg "NoBook" "word" "NoBook.__init__" (inCls 4 0)
  e2 : ErC K mg "NoForm" "word" "NoForm.__init__" (inCls 5 0)
  e3 : ErC K mg "NoVote" "word" "NoVote.__init__" (inCls 6 0)
  e4 : ErC K mg "NoChoice" "word" "NoChoice.__init__" (inCls 7 0)
  e5 : ErC K mg "NoBound" "number" "NoBound.__init__" (inCls 8 0)
  e6 : ErC K mg "NoClash" "found" "NoClash.__init__" (inCls 10 0)
  e7 : ErC K mg "NoField" "field" "NoField.__init__" (inCls 11 0)
  e8 : ErC K mg "NoValue" "value" "NoValue.__init__" (inCls 12 0)
  e9 : ErC K mg "NoAnswer" "field" "NoAnswer.__init__" (inCls 13 0)
  e10 : ErC K mg "InUse" "name" "InUse.__init__" (inCls 14 0)
  e11 : ErC K mg "Clash" "pairs" "Clash.__init__" (inCls 15 0)
  e12 : ErC K mg "MoreThan" "worst" "MoreThan.__init__" (inCls 16 0)
  e13 : ErN K mg "NoNumber"
  e14 : ErN K mg "TooGreat"
  e15 : ErN K mg "InvalidText"
def Es.C {K : PySem.W.Frag} {mg : Str → Option Value} (E : Es K mg) : Nat → Addr
  | 0 => E.e0.C
  | 1 => E.e1.C
  | 2 => E.e2.C
  | 3 => E.e3.C
  | 4 => E.e4.C
  | 5 => E.e5.C
  | 6 => E.e6.C
  | 7 => E.e7.C
  | 8 => E.e8.C
  | 9 => E.e9.C
  | 10 => E.e10.C
  | 11 => E.e11.C
  | 12 => E.e12.C
  | 13 => E.e13.C
  | 14 => E.e14.C
  | _ => E.e15.C
def fld : Nat → Str
  | 0 => "word"
  | 1 => "word"
  | 2 => "word"
  | 3 => "word"
  | 4 => "word"
  | 5 => "number"
  | 6 => "found"
  | 7 => "field"
  | 8 => "value"
  | 9 => "field"
  | 10 => "name"
  | 11 => "pairs"
  | 12 => "worst"
  | _ => ""
/-- the fields of the error that was made -/
def fsOf (n : Nat) (v : V) : List (Str × V) := if n < 13 then [(fld n, v)] else []
theorem made_ok {H : Hp} {a C dx : Addr} {f : Str} {v : V} (ha : H a = none) (hd : upd H a (exo a C none) dx = none) (nd : dx ≠ a) :
    Same H (upd (upd (upd H a (exo a C none)) dx (exd dx [(f, v)])) a (exo a C (some dx))) ∧ ExAt (upd (upd (upd H a (exo a C none)) dx (exd dx [(f, v)])) a (exo a C (some dx))) a C [(f, v)] := by
  refine ⟨fun b u e => ?_, .inl ⟨dx, upd_same, by rw [upd_ne nd, upd_same]⟩⟩
  have na : b ≠ a := by
    rintro rfl
    rw [ha] at e
    cases e
  have e2 : upd H a (exo a C none) b = some u := by
    rw [upd_ne na]
    exact e
  rw [upd_ne na, upd_ne (ne_of_none e2 hd)]
  exact e2
section
variable {P : Program} {w : World} {K : PySem.W.Frag} {mg : Str → Option Value} {base : Heap}
theorem sc_i0 : FnScope ["self", "word"] ["self", "word"] (defScope (inCls 3 0)) := ⟨rfl, rfl, rfl, by decide +kernel, rfl, by decide +kernel, by decide +kernel⟩
theorem ok_i0 (E : ErC K mg "NoTable" "word" "NoTable.__init__" (inCls 3 0)) : FnOk P w K mg base CX0 1 E.a E.d ["self", "word"] (spSet E.C "word") := by
  refine E.F.ok sc_i0 (fun vs H Q E h => ?_) (fun cdv A outer s H vs Q E' hr h => ?_)
  · obtain ⟨a, y, rfl, _⟩ := h
    rfl
  · obtain ⟨a, y, rfl, ha, q⟩ := h
    exact ⟨_, (pss_one (ps_exset (pv 0) (pv 1))), ⟨_, rfl, _, rfl, a, E.C, rfl, E.T, E.nf, ha, fun dx hd nd => q dx hd nd⟩⟩
theorem sc_i1 : FnScope ["self", "word"] ["self", "word"] (defScope (inCls 4 0)) := ⟨rfl, rfl, rfl, by decide +kernel, rfl, by decide +kernel, by decide +kernel⟩
theorem ok_i1 (E : ErC K mg "NoBook" "word" "NoBook.__init__" (inCls 4 0)) : FnOk P w K mg base CX0 1 E.a E.d ["self", "word"] (spSet E.C "word") := by
  refine E.F.ok sc_i1 (fun vs H Q E h => ?_) (fun cdv A outer s H vs Q E' hr h => ?_)
  · obtain ⟨a, y, rfl, _⟩ := h
    rfl
  · obtain ⟨a, y, rfl, ha, q⟩ := h
    exact ⟨_, (pss_one (ps_exset (pv 0) (pv 1))), ⟨_, rfl, _, rfl, a, E.C, rfl, E.T, E.nf, ha, fun dx hd nd => q dx hd nd⟩⟩
theorem sc_i2 : FnScope ["self", "word"] ["self", "word"] (defScope (inCls 5 0)) := ⟨rfl, rfl, rfl, by decide +kernel, rfl, by decide +kernel, by decide +kernel⟩
theorem ok_i2 (E : ErC K mg "NoForm" "word" "NoForm.__init__" (inCls 5 0)) : FnOk P w K mg base CX0 1 E.a E.d ["self", "word"] (spSet E.C "word") := by
  refine E.F.ok sc_i2 (fun vs H Q E h => ?_) (fun cdv A outer s H vs Q E' hr h => ?_)
  · obtain ⟨a, y, rfl, _⟩ := h
    rfl
  · obtain ⟨a, y, rfl, ha, q⟩ := h
    exact ⟨_, (pss_one (ps_exset (pv 0) (pv 1))), ⟨_, rfl, _, rfl, a, E.C, rfl, E.T, E.nf, ha, fun dx hd nd => q dx hd nd⟩⟩
theorem sc_i3 : FnScope ["self", "word"] ["self", "word"] (defScope (inCls 6 0)) := ⟨rfl, rfl, rfl, by decide +kernel, rfl, by decide +kernel, by decide +kernel⟩
theorem ok_i3 (E : ErC K mg "NoVote" "word" "NoVote.__init__" (inCls 6 0)) : FnOk P w K mg base CX0 1 E.a E.d ["self", "word"] (spSet E.C "word") := by
  refine E.F.ok sc_i3 (fun vs H Q E h => ?_) (fun cdv A outer s H vs Q E' hr h => ?_)
  · obtain ⟨a, y, rfl, _⟩ := h
    rfl
  · obtain ⟨a, y, rfl, ha, q⟩ := h
    exact ⟨_, (pss_one (ps_exset (pv 0) (pv 1))), ⟨_, rfl, _, rfl, a, E.C, rfl, E.T, E.nf, ha, fun dx hd nd => q dx hd nd⟩⟩
theorem sc_i4 : FnScope ["self", "word"] ["self", "word"] (defScope (inCls 7 0)) := ⟨rfl, rfl, rfl, by decide +kernel, rfl, by decide +kernel, by decide +kernel⟩
theorem ok_i4 (E : ErC K mg "NoChoice" "word" "NoChoice.__init__" (inCls 7 0)) : FnOk P w K mg base CX0 1 E.a E.d ["self", "word"] (spSet E.C "word") := by
  refine E.F.ok sc_i4 (fun vs H Q E h => ?_) (fun cdv A outer s H vs Q E' hr h => ?_)
  · obtain ⟨a, y, rfl, _⟩ := h
    rfl
  · obtain ⟨a, y, rfl, ha, q⟩ := h
    exact ⟨_, (pss_one (ps_exset (pv 0) (pv 1))), ⟨_, rfl, _, rfl, a, E.C, rfl, E.T, E.nf, ha, fun dx hd nd => q dx hd nd⟩⟩
theorem sc_i5 : FnScope ["self", "number"] ["self", "number"] (defScope (inCls 8 0)) := ⟨rfl, rfl, rfl, by decide +kernel, rfl, by decide +kernel, by decide +kernel⟩
theorem ok_i5 (E : ErC K mg "NoBound" "number" "NoBound.__init__" (inCls 8 0)) : FnOk P w K mg base CX0 1 E.a E.d ["self", "number"] (spSet E.C "number") := by
  refine E.F.ok sc_i5 (fun vs H Q E h => ?_) (fun cdv A outer s H vs Q E' hr h => ?_)
  · obtain ⟨a, y, rfl, _⟩ := h
    rfl
  · obtain ⟨a, y, rfl, ha, q⟩ := h
    exact ⟨_, (pss_one (ps_exset (pv 0) (pv 1))), ⟨_, rfl, _, rfl, a, E.C, rfl, E.T, E.nf, ha, fun dx hd nd => q dx hd nd⟩⟩
theorem sc_i6 : FnScope ["self", "found"] ["self", "found"] (defScope (inCls 10 0)) := ⟨rfl, rfl, rfl, by decide +kernel, rfl, by decide +kernel, by decide +kernel⟩
theorem ok_i6 (E : ErC K mg "NoClash" "found" "NoClash.__init__" (inCls 10 0)) : FnOk P w K mg base CX0 1 E.a E.d ["self", "found"] (spSet E.C "found") := by
  refine E.F.ok sc_i6 (fun vs H Q E h => ?_) (fun cdv A outer s H vs Q E' hr h => ?_)
  · obtain ⟨a, y, rfl, _⟩ := h
    rfl
  · obtain ⟨a, y, rfl, ha, q⟩ := h
    exact ⟨_, (pss_one (ps_exset (pv 0) (pv 1))), ⟨_, rfl, _, rfl, a, E.C, rfl, E.T, E.nf, ha, fun dx hd nd => q dx hd nd⟩⟩
theorem sc_i7 : FnScope ["self", "field"] ["self", "field"] (defScope (inCls 11 0)) := ⟨rfl, rfl, rfl, by decide +kernel, rfl, by decide +kernel, by decide +kernel⟩
theorem ok_i7 (E : ErC K mg "NoField" "field" "NoField.__init__" (inCls 11 0)) : FnOk P w K mg base CX0 1 E.a E.d ["self", "field"] (spSet E.C "field") := by
  refine E.F.ok sc_i7 (fun vs H Q E h => ?_) (fun cdv A outer s H vs Q E' hr h => ?_)
  · obtain ⟨a, y, rfl, _⟩ := h
    rfl
  · obtain ⟨a, y, rfl, ha, q⟩ := h
    exact ⟨_, (pss_one (ps_exset (pv 0) (pv 1))), ⟨_, rfl, _, rfl, a, E.C, rfl, E.T, E.nf, ha, fun dx hd nd => q dx hd nd⟩⟩
theorem sc_i8 : FnScope ["self", "value"] ["self", "value"] (defScope (inCls 12 0)) := ⟨rfl, rfl, rfl, by decide +kernel, rfl, by decide +kernel, by decide +kernel⟩
theorem ok_i8 (E : ErC K mg "NoValue" "value" "NoValue.__init__" (inCls 12 0)) : FnOk P w K mg base CX0 1 E.a E.d ["self", "value"] (spSet E.C "value") := by
  refine E.F.ok sc_i8 (fun vs H Q E h => ?_) (fun cdv A outer s H vs Q E' hr h => ?_)
  · obtain ⟨a, y, rfl, _⟩ := h
    rfl
  · obtain ⟨a, y, rfl, ha, q⟩ := h
    exact ⟨_, (pss_one (ps_exset (pv 0) (pv 1))), ⟨_, rfl, _, rfl, a, E.C, rfl, E.T, E.nf, ha, fun dx hd nd => q dx hd nd⟩⟩
theorem sc_i9 : FnScope ["self", "field"] ["self", "field"] (defScope (inCls 13 0)) := ⟨rfl, rfl, rfl, by decide +kernel, rfl, by decide +kernel, by decide +kernel⟩
theorem ok_i9 (E : ErC K mg "NoAnswer" "field" "NoAnswer.__init__" (inCls 13 0)) : FnOk P w K mg base CX0 1 E.a E.d ["self", "field"] (spSet E.C "field") := by
  refine E.F.ok sc_i9 (fun vs H Q E h => ?_) (fun cdv A outer s H vs Q E' hr h => ?_)
  · obtain ⟨a, y, rfl, _⟩ := h
    rfl
  · obtain ⟨a, y, rfl, ha, q⟩ := h
    exact ⟨_, (pss_one (ps_exset (pv 0) (pv 1))), ⟨_, rfl, _, rfl, a, E.C, rfl, E.T, E.nf, ha, fun dx hd nd => q dx hd nd⟩⟩
theorem sc_i10 : FnScope ["self", "name"] ["self", "name"] (defScope (inCls 14 0)) := ⟨rfl, rfl, rfl, by decide +kernel, rfl, by decide +kernel, by decide +kernel⟩
theorem ok_i10 (E : ErC K mg "InUse" "name" "InUse.__init__" (inCls 14 0)) : FnOk P w K mg base CX0 1 E.a E.d ["self", "name"] (spSet E.C "name") := by
  refine E.F.ok sc_i10 (fun vs H Q E h => ?_) (fun cdv A outer s H vs Q E' hr h => ?_)
  · obtain ⟨a, y, rfl, _⟩ := h
    rfl
  · obtain ⟨a, y, rfl, ha, q⟩ := h
    exact ⟨_, (pss_one (ps_exset (pv 0) (pv 1))), ⟨_, rfl, _, rfl, a, E.C, rfl, E.T, E.nf, ha, fun dx hd nd => q dx hd nd⟩⟩
theorem sc_i11 : FnScope ["self", "pairs"] ["self", "pairs"] (defScope (inCls 15 0)) := ⟨rfl, rfl, rfl, by decide +kernel, rfl, by decide +kernel, by decide +kernel⟩
theorem ok_i11 (E : ErC K mg "Clash" "pairs" "Clash.__init__" (inCls 15 0)) : FnOk P w K mg base CX0 1 E.a E.d ["self", "pairs"] (spSet E.C "pairs") := by
  refine E.F.ok sc_i11 (fun vs H Q E h => ?_) (fun cdv A outer s H vs Q E' hr h => ?_)
  · obtain ⟨a, y, rfl, _⟩ := h
    rfl
  · obtain ⟨a, y, rfl, ha, q⟩ := h
    exact ⟨_, (pss_one (ps_exset (pv 0) (pv 1))), ⟨_, rfl, _, rfl, a, E.C, rfl, E.T, E.nf, ha, fun dx hd nd => q dx hd nd⟩⟩
theorem sc_i12 : FnScope ["self", "worst"] ["self", "worst"] (defScope (inCls 16 0)) := ⟨rfl, rfl, rfl, by decide +kernel, rfl, by decide +kernel, by decide +kernel⟩
theorem ok_i12 (E : ErC K mg "MoreThan" "worst" "MoreThan.__init__" (inCls 16 0)) : FnOk P w K mg base CX0 1 E.a E.d ["self", "worst"] (spSet E.C "worst") := by
  refine E.F.ok sc_i12 (fun vs H Q E h => ?_) (fun cdv A outer s H vs Q E' hr h => ?_)
  · obtain ⟨a, y, rfl, _⟩ := h
    rfl
  · obtain ⟨a, y, rfl, ha, q⟩ := h
    exact ⟨_, (pss_one (ps_exset (pv 0) (pv 1))), ⟨_, rfl, _, rfl, a, E.C, rfl, E.T, E.nf, ha, fun dx hd nd => q dx hd nd⟩⟩
end
end K01
/-! _law_by_position, _law_by_name. -/
namespace K01
open PySem PySem.Spec PyProof.Rows L2 KG KS KX
abbrev s__law_by_position : Stmt := top 39
abbrev s__law_by_name : Stmt := top 40
/-- the error number n, made of v -/
def spMade {K : PySem.W.Frag} {mg : Str → Option Value} (F : Es K mg) : Sp := fun vs H Q _ => ∃ (n : Nat) (v : V), vs = [.int (n : Nat), v] ∧ n < 16 ∧
  ∀ (x : Addr) (H' : Hp), H x = none → Same H H' → ExAt H' x (F.C n) (fsOf n v) → Q (.ref x) H'
theorem which_is {n k : Nat} (c : decide (V.int (n : Int) = V.int (k : Int)) = true) : n = k := by
  have e := of_decide_eq_true c
  injection e with e
  omega
theorem which_not {n k : Nat} (c : ¬ decide (V.int (n : Int) = V.int (k : Int)) = true) : n ≠ k := fun e => c (by
  rw [e]
  exact decide_eq_true rfl)
section
variable {P : Program} {w : World} {K : PySem.W.Frag} {mg : Str → Option Value} {base : Heap}
theorem sc__law_by_position : FnScope ["_law_which", "_law_item"] ["_law_which", "_law_item"] (defScope s__law_by_position) := ⟨rfl, rfl, rfl, by decide +kernel, rfl, by decide +kernel, by decide +kernel⟩
theorem ok__law_by_position (F : Es K mg) (f : FnF K mg "_law_by_position" "_law_by_position" s__law_by_position) : FnOk P w K mg base CX0 3 f.a f.d ["_law_which", "_law_item"] (spMade F) := by
  have G0 := ok_i0 (P := P) (w := w) (base := base) F.e0
  have b0 : Binds K F.e0.d ["self", "word"] [] := F.e0.F.binds fun _ _ _ _ _ _ us hl => match us, hl with | [_, _], _ => rfl
  have G1 := ok_i1 (P := P) (w := w) (base := base) F.e1
  have b1 : Binds K F.e1.d ["self", "word"] [] := F.e1.F.binds fun _ _ _ _ _ _ us hl => match us, hl with | [_, _], _ => rfl
  have G2 := ok_i2 (P := P) (w := w) (base := base) F.e2
  have b2 : Binds K F.e2.d ["self", "word"] [] := F.e2.F.binds fun _ _ _ _ _ _ us hl => match us, hl with | [_, _], _ => rfl
  have G3 := ok_i3 (P := P) (w := w) (base := base) F.e3
  have b3 : Binds K F.e3.d ["self", "word"] [] := F.e3.F.binds fun _ _ _ _ _ _ us hl => match us, hl with | [_, _], _ => rfl
  have G4 := ok_i4 (P := P) (w := w) (base := base) F.e4
  have b4 : Binds K F.e4.d ["self", "word"] [] := F.e4.F.binds fun _ _ _ _ _ _ us hl => match us, hl with | [_, _], _ => rfl
  have G5 := ok_i5 (P := P) (w := w) (base := base) F.e5
  have b5 : Binds K F.e5.d ["self", "number"] [] := F.e5.F.binds fun _ _ _ _ _ _ us hl => match us, hl with | [_, _], _ => rfl
  have G6 := ok_i6 (P := P) (w := w) (base := base) F.e6
  have b6 : Binds K F.e6.d ["self", "found"] [] := F.e6.F.binds fun _ _ _ _ _ _ us hl => match us, hl with | [_, _], _ => rfl
  have G7 := ok_i7 (P := P) (w := w) (base := base) F.e7
  have b7 : Binds K F.e7.d ["self", "field"] [] := F.e7.F.binds fun _ _ _ _ _ _ us hl => match us, hl with | [_, _], _ => rfl
  have G8 := ok_i8 (P := P) (w := w) (base := base) F.e8
  have b8 : Binds K F.e8.d ["self", "value"] [] := F.e8.F.binds fun _ _ _ _ _ _ us hl => match us, hl with | [_, _], _ => rfl
  have G9 := ok_i9 (P := P) (w := w) (base := base) F.e9
  have b9 : Binds K F.e9.d ["self", "field"] [] := F.e9.F.binds fun _ _ _ _ _ _ us hl => match us, hl with | [_, _], _ => rfl
  have G10 := ok_i10 (P := P) (w := w) (base := base) F.e10
  have b10 : Binds K F.e10.d ["self", "name"] [] := F.e10.F.binds fun _ _ _ _ _ _ us hl => match us, hl with | [_, _], _ => rfl
  have G11 := ok_i11 (P := P) (w := w) (base := base) F.e11
  have b11 : Binds K F.e11.d ["self", "pairs"] [] := F.e11.F.binds fun _ _ _ _ _ _ us hl => match us, hl with | [_, _], _ => rfl
  have G12 := ok_i12 (P := P) (w := w) (base := base) F.e12
  have b12 : Binds K F.e12.d ["self", "worst"] [] := F.e12.F.binds fun _ _ _ _ _ _ us hl => match us, hl with | [_, _], _ => rfl
  refine f.F.ok sc__law_by_position (fun vs H Q E h => ?_) (fun cdv A outer s H vs Q E hr h => ?_)
  · obtain ⟨n, v, rfl, _⟩ := h
    rfl
  · obtain ⟨n, v, rfl, h16, q⟩ := h
    refine ⟨_, (pss_cons
      (ps_if (pt_cmpR op_eq (pv 0) pe_int (nomark _))
        (pss_one
          (ps_ret (pe_exmk F.e0.T F.e0.iC F.e0.tI G0 hr b0 pass0 rfl F.e0.g (pa_cons (pv 1) pa_nil))))
        pss_nil)
    (pss_cons
      (ps_if (pt_cmpR op_eq (pv 0) pe_int (nomark _))
        (pss_one
          (ps_ret (pe_exmk F.e1.T F.e1.iC F.e1.tI G1 hr b1 pass0 rfl F.e1.g (pa_cons (pv 1) pa_nil))))
        pss_nil)
    (pss_cons
      (ps_if (pt_cmpR op_eq (pv 0) pe_int (nomark _))
        (pss_one
          (ps_ret (pe_exmk F.e2.T F.e2.iC F.e2.tI G2 hr b2 pass0 rfl F.e2.g (pa_cons (pv 1) pa_nil))))
        pss_nil)
    (pss_cons
      (ps_if (pt_cmpR op_eq (pv 0) pe_int (nomark _))
        (pss_one
          (ps_ret (pe_exmk F.e3.T F.e3.iC F.e3.tI G3 hr b3 pass0 rfl F.e3.g (pa_cons (pv 1) pa_nil))))
        pss_nil)
    (pss_cons
      (ps_if (pt_cmpR op_eq (pv 0) pe_int (nomark _))
        (pss_one
          (ps_ret (pe_exmk F.e4.T F.e4.iC F.e4.tI G4 hr b4 pass0 rfl F.e4.g (pa_cons (pv 1) pa_nil))))
        pss_nil)
    (pss_cons
      (ps_if (pt_cmpR op_eq (pv 0) pe_int (nomark _))
        (pss_one
          (ps_ret (pe_exmk F.e5.T F.e5.iC F.e5.tI G5 hr b5 pass0 rfl F.e5.g (pa_cons (pv 1) pa_nil))))
        pss_nil)
    (pss_cons
      (ps_if (pt_cmpR op_eq (pv 0) pe_int (nomark _))
        (pss_one
          (ps_ret (pe_exmk F.e6.T F.e6.iC F.e6.tI G6 hr b6 pass0 rfl F.e6.g (pa_cons (pv 1) pa_nil))))
        pss_nil)
    (pss_cons
      (ps_if (pt_cmpR op_eq (pv 0) pe_int (nomark _))
        (pss_one
          (ps_ret (pe_exmk F.e7.T F.e7.iC F.e7.tI G7 hr b7 pass0 rfl F.e7.g (pa_cons (pv 1) pa_nil))))
        pss_nil)
    (pss_cons
      (ps_if (pt_cmpR op_eq (pv 0) pe_int (nomark _))
        (pss_one
          (ps_ret (pe_exmk F.e8.T F.e8.iC F.e8.tI G8 hr b8 pass0 rfl F.e8.g (pa_cons (pv 1) pa_nil))))
        pss_nil)
    (pss_cons
      (ps_if (pt_cmpR op_eq (pv 0) pe_int (nomark _))
        (pss_one
          (ps_ret (pe_exmk F.e9.T F.e9.iC F.e9.tI G9 hr b9 pass0 rfl F.e9.g (pa_cons (pv 1) pa_nil))))
        pss_nil)
    (pss_cons
      (ps_if (pt_cmpR op_eq (pv 0) pe_int (nomark _))
        (pss_one
          (ps_ret (pe_exmk F.e10.T F.e10.iC F.e10.tI G10 hr b10 pass0 rfl F.e10.g (pa_cons (pv 1) pa_nil))))
        pss_nil)
    (pss_cons
      (ps_if (pt_cmpR op_eq (pv 0) pe_int (nomark _))
        (pss_one
          (ps_ret (pe_exmk F.e11.T F.e11.iC F.e11.tI G11 hr b11 pass0 rfl F.e11.g (pa_cons (pv 1) pa_nil))))
        pss_nil)
    (pss_cons
      (ps_if (pt_cmpR op_eq (pv 0) pe_int (nomark _))
        (pss_one
          (ps_ret (pe_exmk F.e12.T F.e12.iC F.e12.tI G12 hr b12 pass0 rfl F.e12.g (pa_cons (pv 1) pa_nil))))
        pss_nil)
    (pss_cons
      (ps_if (pt_cmpR op_eq (pv 0) pe_int (nomark _))
        (pss_one
          (ps_ret (pe_exmk0 F.e13.q F.e13.T.kp rfl F.e13.g)))
        pss_nil)
    (pss_one
      (ps_ret (pe_ifExp (pt_cmpR op_eq (pv 0) pe_int (nomark _)) (pe_exmk0 F.e14.q F.e14.T.kp rfl F.e14.g) (pe_exmk0 F.e15.q F.e15.T.kp rfl F.e15.g)))))))))))))))))), ?_⟩
    refine ⟨_, rfl, rfl, _, rfl, ite2 (fun c => ?_) fun c0 => ?_⟩
    · have e : n = 0 := which_is c
      subst e
      refine ⟨_, rfl, (by show 1 ≤ 1000; decide), fun a ha => ⟨a, v, rfl, upd_same, fun dx hd nd => ⟨rfl, ?_⟩⟩⟩
      exact q a _ ha (made_ok ha hd nd).1 (made_ok ha hd nd).2
    refine ⟨_, rfl, rfl, _, rfl, ite2 (fun c => ?_) fun c1 => ?_⟩
    · have e : n = 1 := which_is c
      subst e
      refine ⟨_, rfl, (by show 1 ≤ 1000; decide), fun a ha => ⟨a, v, rfl, upd_same, fun dx hd nd => ⟨rfl, ?_⟩⟩⟩
      exact q a _ ha (made_ok ha hd nd).1 (made_ok ha hd nd).2
    refine ⟨_, rfl, rfl, _, rfl, ite2 (fun c => ?_) fun c2 => ?_⟩
    · have e : n = 2 := which_is c
      subst e
      refine ⟨_, rfl, (by show 1 ≤ 1000; decide), fun a ha => ⟨a, v, rfl, upd_same, fun dx hd nd => ⟨rfl, ?_⟩⟩⟩
      exact q a _ ha (made_ok ha hd nd).1 (made_ok ha hd nd).2
    refine ⟨_, rfl, rfl, _, rfl, ite2 (fun c => ?_) fun c3 => ?_⟩
    · have e : n = 3 := which_is c
      subst e
      refine ⟨_, rfl, (by show 1 ≤ 1000; decide), fun a ha => ⟨a, v, rfl, upd_same, fun dx hd nd => ⟨rfl, ?_⟩⟩⟩
      exact q a _ ha (made_ok ha hd nd).1 (made_ok ha hd nd).2
    refine ⟨_, rfl, rfl, _, rfl, ite2 (fun c => ?_) fun c4 => ?_⟩
    · have e : n = 4 := which_is c
      subst e
      refine ⟨_, rfl, (by show 1 ≤ 1000; decide), fun a ha => ⟨a, v, rfl, upd_same, fun dx hd nd => ⟨rfl, ?_⟩⟩⟩
      exact q a _ ha (made_ok ha hd nd).1 (made_ok ha hd nd).2
    refine ⟨_, rfl, rfl, _, rfl, ite2 (fun c => ?_) fun c5 => ?_⟩
    · have e : n = 5 := which_is c
      subst e
      refine ⟨_, rfl, (by show 1 ≤ 1000; decide), fun a ha => ⟨a, v, rfl, upd_same, fun dx hd nd => ⟨rfl, ?_⟩⟩⟩
      exact q a _ ha (made_ok ha hd nd).1 (made_ok ha hd nd).2
    refine ⟨_, rfl, rfl, _, rfl, ite2 (fun c => ?_) fun c6 => ?_⟩
    · have e : n = 6 := which_is c
      subst e
      refine ⟨_, rfl, (by show 1 ≤ 1000; decide), fun a ha => ⟨a, v, rfl, upd_same, fun dx hd nd => ⟨rfl, ?_⟩⟩⟩
      exact q a _ ha (made_ok ha hd nd).1 (made_ok ha hd nd).2
    refine ⟨_, rfl, rfl, _, rfl, ite2 (fun c => ?_) fun c7 => ?_⟩
    · have e : n = 7 := which_is c
      subst e
      refine ⟨_, rfl, (by show 1 ≤ 1000; decide), fun a ha => ⟨a, v, rfl, upd_same, fun dx hd nd => ⟨rfl, ?_⟩⟩⟩
      exact q a _ ha (made_ok ha hd nd).1 (made_ok ha hd nd).2
    refine ⟨_, rfl, rfl, _, rfl, ite2 (fun c => ?_) fun c8 => ?_⟩
    · have e : n = 8 := which_is c
      subst e
      refine ⟨_, rfl, (by show 1 ≤ 1000; decide), fun a ha => ⟨a, v, rfl, upd_same, fun dx hd nd => ⟨rfl, ?_⟩⟩⟩
      exact q a _ ha (made_ok ha hd nd).1 (made_ok ha hd nd).2
    refine ⟨_, rfl, rfl, _, rfl, ite2 (fun c => ?_) fun c9 => ?_⟩
    · have e : n = 9 := which_is c
      subst e
      refine ⟨_, rfl, (by show 1 ≤ 1000; decide), fun a ha => ⟨a, v, rfl, upd_same, fun dx hd nd => ⟨rfl, ?_⟩⟩⟩
      exact q a _ ha (made_ok ha hd nd).1 (made_ok ha hd nd).2
    refine ⟨_, rfl, rfl, _, rfl, ite2 (fun c => ?_) fun c10 => ?_⟩
    · have e : n = 10 := which_is c
      subst e
      refine ⟨_, rfl, (by show 1 ≤ 1000; decide), fun a ha => ⟨a, v, rfl, upd_same, fun dx hd nd => ⟨rfl, ?_⟩⟩⟩
      exact q a _ ha (made_ok ha hd nd).1 (made_ok ha hd nd).2
    refine ⟨_, rfl, rfl, _, rfl, ite2 (fun c => ?_) fun c11 => ?_⟩
    · have e : n = 11 := which_is c
      subst e
      refine ⟨_, rfl, (by show 1 ≤ 1000; decide), fun a ha => ⟨a, v, rfl, upd_same, fun dx hd nd => ⟨rfl, ?_⟩⟩⟩
      exact q a _ ha (made_ok ha hd nd).1 (made_ok ha hd nd).2
    refine ⟨_, rfl, rfl, _, rfl, ite2 (fun c => ?_) fun c12 => ?_⟩
    · have e : n = 12 := which_is c
      subst e
      refine ⟨_, rfl, (by show 1 ≤ 1000; decide), fun a ha => ⟨a, v, rfl, upd_same, fun dx hd nd => ⟨rfl, ?_⟩⟩⟩
      exact q a _ ha (made_ok ha hd nd).1 (made_ok ha hd nd).2
    refine ⟨_, rfl, rfl, _, rfl, ite2 (fun c => ?_) fun c13 => ?_⟩
    · have e : n = 13 := which_is c
      subst e
      exact fun a ha => q a _ ha (same_new ha) (.inr ⟨rfl, upd_same⟩)
    refine ⟨_, rfl, rfl, _, rfl, ite2 (fun c => ?_) fun c14 => ?_⟩
    · have e : n = 14 := which_is c
      subst e
      exact fun a ha => q a _ ha (same_new ha) (.inr ⟨rfl, upd_same⟩)
    · have e : n = 15 := by
        have n0 : n ≠ 0 := which_not c0
        have n1 : n ≠ 1 := which_not c1
        have n2 : n ≠ 2 := which_not c2
        have n3 : n ≠ 3 := which_not c3
        have n4 : n ≠ 4 := which_not c4
        have n5 : n ≠ 5 := which_not c5
        have n6 : n ≠ 6 := which_not c6
        have n7 : n ≠ 7 := which_not c7
        have n8 : n ≠ 8 := which_not c8
        have n9 : n ≠ 9 := which_not c9
        have n10 : n ≠ 10 := which_not c10
        have n11 : n ≠ 11 := which_not c11
        have n12 : n ≠ 12 := which_not c12
        have n13 : n ≠ 13 := which_not c13
        have n14 : n ≠ 14 := which_not c14
        omega
      subst e
      exact fun a ha => q a _ ha (same_new ha) (.inr ⟨rfl, upd_same⟩)
theorem sc__law_by_name : FnScope ["_law_which", "_law_item"] ["_law_which", "_law_item"] (defScope s__law_by_name) := ⟨rfl, rfl, rfl, by decide +kernel, rfl, by decide +kernel, by decide +kernel⟩
theorem ok__law_by_name (F : Es K mg) (f : FnF K mg "_law_by_name" "_law_by_name" s__law_by_name) : FnOk P w K mg base CX0 3 f.a f.d ["_law_which", "_law_item"] (spMade F) := by
  have G0 := ok_i0 (P := P) (w := w) (base := base) F.e0
  have G1 := ok_i1 (P := P) (w := w) (base := base) F.e1
  have G2 := ok_i2 (P := P) (w := w) (base := base) F.e2
  have G3 := ok_i3 (P := P) (w := w) (base := base) F.e3
  have G4 := ok_i4 (P := P) (w := w) (base := base) F.e4
  have G5 := ok_i5 (P := P) (w := w) (base := base) F.e5
  have G6 := ok_i6 (P := P) (w := w) (base := base) F.e6
  have G7 := ok_i7 (P := P) (w := w) (base := base) F.e7
  have G8 := ok_i8 (P := P) (w := w) (base := base) F.e8
  have G9 := ok_i9 (P := P) (w := w) (base := base) F.e9
  have G10 := ok_i10 (P := P) (w := w) (base := base) F.e10
  have G11 := ok_i11 (P := P) (w := w) (base := base) F.e11
  have G12 := ok_i12 (P := P) (w := w) (base := base) F.e12
  refine f.F.ok sc__law_by_name (fun vs H Q E h => ?_) (fun cdv A outer s H vs Q E hr h => ?_)
  · obtain ⟨n, v, rfl, _⟩ := h
    rfl
  · obtain ⟨n, v, rfl, h16, q⟩ := h
    refine ⟨_, (pss_cons
      (ps_if (pt_cmpR op_eq (pv 0) pe_int (nomark _))
        (pss_one
          (ps_ret (pe_exmkK F.e0.T F.e0.iC F.e0.tI G0 hr F.e0.kw pass0 rfl F.e0.g (pk_cons (pv 1) pk_nil))))
        pss_nil)
    (pss_cons
      (ps_if (pt_cmpR op_eq (pv 0) pe_int (nomark _))
        (pss_one
          (ps_ret (pe_exmkK F.e1.T F.e1.iC F.e1.tI G1 hr F.e1.kw pass0 rfl F.e1.g (pk_cons (pv 1) pk_nil))))
        pss_nil)
    (pss_cons
      (ps_if (pt_cmpR op_eq (pv 0) pe_int (nomark _))
        (pss_one
          (ps_ret (pe_exmkK F.e2.T F.e2.iC F.e2.tI G2 hr F.e2.kw pass0 rfl F.e2.g (pk_cons (pv 1) pk_nil))))
        pss_nil)
    (pss_cons
      (ps_if (pt_cmpR op_eq (pv 0) pe_int (nomark _))
        (pss_one
          (ps_ret (pe_exmkK F.e3.T F.e3.iC F.e3.tI G3 hr F.e3.kw pass0 rfl F.e3.g (pk_cons (pv 1) pk_nil))))
        pss_nil)
    (pss_cons
      (ps_if (pt_cmpR op_eq (pv 0) pe_int (nomark _))
        (pss_one
          (ps_ret (pe_exmkK F.e4.T F.e4.iC F.e4.tI G4 hr F.e4.kw pass0 rfl F.e4.g (pk_cons (pv 1) pk_nil))))
        pss_nil)
    (pss_cons
      (ps_if (pt_cmpR op_eq (pv 0) pe_int (nomark _))
        (pss_one
          (ps_ret (pe_exmkK F.e5.T F.e5.iC F.e5.tI G5 hr F.e5.kw pass0 rfl F.e5.g (pk_cons (pv 1) pk_nil))))
        pss_nil)
    (pss_cons
      (ps_if (pt_cmpR op_eq (pv 0) pe_int (nomark _))
        (pss_one
          (ps_ret (pe_exmkK F.e6.T F.e6.iC F.e6.tI G6 hr F.e6.kw pass0 rfl F.e6.g (pk_cons (pv 1) pk_nil))))
        pss_nil)
    (pss_cons
      (ps_if (pt_cmpR op_eq (pv 0) pe_int (nomark _))
        (pss_one
          (ps_ret (pe_exmkK F.e7.T F.e7.iC F.e7.tI G7 hr F.e7.kw pass0 rfl F.e7.g (pk_cons (pv 1) pk_nil))))
        pss_nil)
    (pss_cons
      (ps_if (pt_cmpR op_eq (pv 0) pe_int (nomark _))
        (pss_one
          (ps_ret (pe_exmkK F.e8.T F.e8.iC F.e8.tI G8 hr F.e8.kw pass0 rfl F.e8.g (pk_cons (pv 1) pk_nil))))
        pss_nil)
    (pss_cons
      (ps_if (pt_cmpR op_eq (pv 0) pe_int (nomark _))
        (pss_one
          (ps_ret (pe_exmkK F.e9.T F.e9.iC F.e9.tI G9 hr F.e9.kw pass0 rfl F.e9.g (pk_cons (pv 1) pk_nil))))
        pss_nil)
    (pss_cons
      (ps_if (pt_cmpR op_eq (pv 0) pe_int (nomark _))
        (pss_one
          (ps_ret (pe_exmkK F.e10.T F.e10.iC F.e10.tI G10 hr F.e10.kw pass0 rfl F.e10.g (pk_cons (pv 1) pk_nil))))
        pss_nil)
    (pss_cons
      (ps_if (pt_cmpR op_eq (pv 0) pe_int (nomark _))
        (pss_one
          (ps_ret (pe_exmkK F.e11.T F.e11.iC F.e11.tI G11 hr F.e11.kw pass0 rfl F.e11.g (pk_cons (pv 1) pk_nil))))
        pss_nil)
    (pss_cons
      (ps_if (pt_cmpR op_eq (pv 0) pe_int (nomark _))
        (pss_one
          (ps_ret (pe_exmkK F.e12.T F.e12.iC F.e12.tI G12 hr F.e12.kw pass0 rfl F.e12.g (pk_cons (pv 1) pk_nil))))
        pss_nil)
    (pss_cons
      (ps_if (pt_cmpR op_eq (pv 0) pe_int (nomark _))
        (pss_one
          (ps_ret (pe_exmk0 F.e13.q F.e13.T.kp rfl F.e13.g)))
        pss_nil)
    (pss_one
      (ps_ret (pe_ifExp (pt_cmpR op_eq (pv 0) pe_int (nomark _)) (pe_exmk0 F.e14.q F.e14.T.kp rfl F.e14.g) (pe_exmk0 F.e15.q F.e15.T.kp rfl F.e15.g)))))))))))))))))), ?_⟩
    refine ⟨_, rfl, rfl, _, rfl, ite2 (fun c => ?_) fun c0 => ?_⟩
    · have e : n = 0 := which_is c
      subst e
      refine ⟨_, rfl, v, rfl, fun a ha => ⟨a, v, rfl, upd_same, fun dx hd nd => ⟨rfl, ?_⟩⟩⟩
      exact q a _ ha (made_ok ha hd nd).1 (made_ok ha hd nd).2
    refine ⟨_, rfl, rfl, _, rfl, ite2 (fun c => ?_) fun c1 => ?_⟩
    · have e : n = 1 := which_is c
      subst e
      refine ⟨_, rfl, v, rfl, fun a ha => ⟨a, v, rfl, upd_same, fun dx hd nd => ⟨rfl, ?_⟩⟩⟩
      exact q a _ ha (made_ok ha hd nd).1 (made_ok ha hd nd).2
    refine ⟨_, rfl, rfl, _, rfl, ite2 (fun c => ?_) fun c2 => ?_⟩
    · have e : n = 2 := which_is c
      subst e
      refine ⟨_, rfl, v, rfl, fun a ha => ⟨a, v, rfl, upd_same, fun dx hd nd => ⟨rfl, ?_⟩⟩⟩
      exact q a _ ha (made_ok ha hd nd).1 (made_ok ha hd nd).2
    refine ⟨_, rfl, rfl, _, rfl, ite2 (fun c => ?_) fun c3 => ?_⟩
    · have e : n = 3 := which_is c
      subst e
      refine ⟨_, rfl, v, rfl, fun a ha => ⟨a, v, rfl, upd_same, fun dx hd nd => ⟨rfl, ?_⟩⟩⟩
      exact q a _ ha (made_ok ha hd nd).1 (made_ok ha hd nd).2
    refine ⟨_, rfl, rfl, _, rfl, ite2 (fun c => ?_) fun c4 => ?_⟩
    · have e : n = 4 := which_is c
      subst e
      refine ⟨_, rfl, v, rfl, fun a ha => ⟨a, v, rfl, upd_same, fun dx hd nd => ⟨rfl, ?_⟩⟩⟩
      exact q a _ ha (made_ok ha hd nd).1 (made_ok ha hd nd).2
    refine ⟨_, rfl, rfl, _, rfl, ite2 (fun c => ?_) fun c5 => ?_⟩
    · have e : n = 5 := which_is c
      subst e
      refine ⟨_, rfl, v, rfl, fun a ha => ⟨a, v, rfl, upd_same, fun dx hd nd => ⟨rfl, ?_⟩⟩⟩
      exact q a _ ha (made_ok ha hd nd).1 (made_ok ha hd nd).2
    refine ⟨_, rfl, rfl, _, rfl, ite2 (fun c => ?_) fun c6 => ?_⟩
    · have e : n = 6 := which_is c
      subst e
      refine ⟨_, rfl, v, rfl, fun a ha => ⟨a, v, rfl, upd_same, fun dx hd nd => ⟨rfl, ?_⟩⟩⟩
      exact q a _ ha (made_ok ha hd nd).1 (made_ok ha hd nd).2
    refine ⟨_, rfl, rfl, _, rfl, ite2 (fun c => ?_) fun c7 => ?_⟩
    · have e : n = 7 := which_is c
      subst e
      refine ⟨_, rfl, v, rfl, fun a ha => ⟨a, v, rfl, upd_same, fun dx hd nd => ⟨rfl, ?_⟩⟩⟩
      exact q a _ ha (made_ok ha hd nd).1 (made_ok ha hd nd).2
    refine ⟨_, rfl, rfl, _, rfl, ite2 (fun c => ?_) fun c8 => ?_⟩
    · have e : n = 8 := which_is c
      subst e
      refine ⟨_, rfl, v, rfl, fun a ha => ⟨a, v, rfl, upd_same, fun dx hd nd => ⟨rfl, ?_⟩⟩⟩
      exact q a _ ha (made_ok ha hd nd).1 (made_ok ha hd nd).2
    refine ⟨_, rfl, rfl, _, rfl, ite2 (fun c => ?_) fun c9 => ?_⟩
    · have e : n = 9 := which_is c
      subst e
      refine ⟨_, rfl, v, rfl, fun a ha => ⟨a, v, rfl, upd_same, fun dx hd nd => ⟨rfl, ?_⟩⟩⟩
      exact q a _ ha (made_ok ha hd nd).1 (made_ok ha hd nd).2
    refine ⟨_, rfl, rfl, _, rfl, ite2 (fun c => ?_) fun c10 => ?_⟩
    · have e : n = 10 := which_is c
      subst e
      refine ⟨_, rfl, v, rfl, fun a ha => ⟨a, v, rfl, upd_same, fun dx hd nd => ⟨rfl, ?_⟩⟩⟩
      exact q a _ ha (made_ok ha hd nd).1 (made_ok ha hd nd).2
    refine ⟨_, rfl, rfl, _, rfl, ite2 (fun c => ?_) fun c11 => ?_⟩
    · have e : n = 11 := which_is c
      subst e
      refine ⟨_, rfl, v, rfl, fun a ha => ⟨a, v, rfl, upd_same, fun dx hd nd => ⟨rfl, ?_⟩⟩⟩
      exact q a _ ha (made_ok ha hd nd).1 (made_ok ha hd nd).2
    refine ⟨_, rfl, rfl, _, rfl, ite2 (fun c => ?_) fun c12 => ?_⟩
    · have e : n = 12 := which_is c
      subst e
      refine ⟨_, rfl, v, rfl, fun a ha => ⟨a, v, rfl, upd_same, fun dx hd nd => ⟨rfl, ?_⟩⟩⟩
      exact q a _ ha (made_ok ha hd nd).1 (made_ok ha hd nd).2
    refine ⟨_, rfl, rfl, _, rfl, ite2 (fun c => ?_) fun c13 => ?_⟩
    · have e : n = 13 := which_is c
      subst e
      exact fun a ha => q a _ ha (same_new ha) (.inr ⟨rfl, upd_same⟩)
    refine ⟨_, rfl, rfl, _, rfl, ite2 (fun c => ?_) fun c14 => ?_⟩
    · have e : n = 14 := which_is c
      subst e
      exact fun a ha => q a _ ha (same_new ha) (.inr ⟨rfl, upd_same⟩)
    · have e : n = 15 := by
        have n0 : n ≠ 0 := which_not c0
        have n1 : n ≠ 1 := which_not c1
        have n2 : n ≠ 2 := which_not c2
        have n3 : n ≠ 3 := which_not c3
        have n4 : n ≠ 4 := which_not c4
        have n5 : n ≠ 5 := which_not c5
        have n6 : n ≠ 6 := which_not c6
        have n7 : n ≠ 7 := which_not c7
        have n8 : n ≠ 8 := which_not c8
        have n9 : n ≠ 9 := which_not c9
        have n10 : n ≠ 10 := which_not c10
        have n11 : n ≠ 11 := which_not c11
        have n12 : n ≠ 12 := which_not c12
        have n13 : n ≠ 13 := which_not c13
        have n14 : n ≠ 14 := which_not c14
        omega
      subst e
      exact fun a ha => q a _ ha (same_new ha) (.inr ⟨rfl, upd_same⟩)
end
end K01
/-! _law_held, _law_classes. -/
namespace K01
open PySem PySem.Spec PyProof.Rows L2 KG KS KX
abbrev s__law_held : Stmt := top 41
abbrev s__law_classes : Stmt := top 42
theorem fs_look {n : Nat} {v : V} (h : n < 13) : (fsOf n v).lookup (fld n) = some v := by
  unfold fsOf
  rw [if_pos h]
  simp [List.lookup]
section
variable {P : Program} {w : World} {K : PySem.W.Frag} {mg : Str → Option Value} {base : Heap}
theorem Es.get (F : Es K mg) : ∀ n, n < 13 → ExC K (F.C n) ∧ PySem.W.findIn K (.ref (F.C n)) (fld n) = some none
  | 0, _ => ⟨F.e0.T, F.e0.nf⟩
  | 1, _ => ⟨F.e1.T, F.e1.nf⟩
  | 2, _ => ⟨F.e2.T, F.e2.nf⟩
  | 3, _ => ⟨F.e3.T, F.e3.nf⟩
  | 4, _ => ⟨F.e4.T, F.e4.nf⟩
  | 5, _ => ⟨F.e5.T, F.e5.nf⟩
  | 6, _ => ⟨F.e6.T, F.e6.nf⟩
  | 7, _ => ⟨F.e7.T, F.e7.nf⟩
  | 8, _ => ⟨F.e8.T, F.e8.nf⟩
  | 9, _ => ⟨F.e9.T, F.e9.nf⟩
  | 10, _ => ⟨F.e10.T, F.e10.nf⟩
  | 11, _ => ⟨F.e11.T, F.e11.nf⟩
  | 12, _ => ⟨F.e12.T, F.e12.nf⟩
  | n + 13, h => absurd h (by omega)
theorem Es.exc (F : Es K mg) (n : Nat) (h : n < 16) : ExC K (F.C n) := by
  by_cases z : n < 13
  · exact (F.get n z).1
  · have e : n = 13 ∨ n = 14 ∨ n = 15 := by omega
    rcases e with rfl | rfl | rfl
    · exact F.e13.T
    · exact F.e14.T
    · exact F.e15.T
theorem fld_word : ∀ n, n < 5 → fld n = "word"
  | 0, _ => rfl
  | 1, _ => rfl
  | 2, _ => rfl
  | 3, _ => rfl
  | 4, _ => rfl
  | n + 5, h => absurd h (by omega)
theorem in79 {n : Nat} (h : inV (.int (n : Nat)) [V.int 7, V.int 9] = true) : n = 7 ∨ n = 9 := by
  have e : ((7 : Int) == (n : Int) || ((9 : Int) == (n : Int) || false)) = true := h
  rw [Bool.or_false, Bool.or_eq_true, beq_iff_eq, beq_iff_eq] at e
  omega
theorem not79 {n : Nat} (h : ¬ inV (.int (n : Nat)) [V.int 7, V.int 9] = true) : n ≠ 7 ∧ n ≠ 9 := by
  have e : ¬ ((7 : Int) == (n : Int) || ((9 : Int) == (n : Int) || false)) = true := h
  rw [Bool.or_false, Bool.or_eq_true, beq_iff_eq, beq_iff_eq] at e
  omega
/-- what the error number n holds -/
def spHeld (F : Es K mg) : Sp := fun vs H Q _ => ∃ (n : Nat) (x : Addr) (v : V), vs = [.int (n : Nat), .ref x] ∧ n < 16 ∧ ExAt H x (F.C n) (fsOf n v) ∧
  ∀ (l : Addr) (H' : Hp), H l = none → Same H H' → H' l = some (.lst (if n < 13 then [v] else [])) → Q (.ref l) H'
theorem sc__law_held : FnScope ["_law_which", "_law_e"] ["_law_which", "_law_e"] (defScope s__law_held) := ⟨rfl, rfl, rfl, by decide +kernel, rfl, by decide +kernel, by decide +kernel⟩
theorem ok__law_held (F : Es K mg) (f : FnF K mg "_law_held" "_law_held" s__law_held) : FnOk P w K mg base CX0 1 f.a f.d ["_law_which", "_law_e"] (spHeld F) := by
  refine f.F.ok sc__law_held (fun vs H Q E h => ?_) (fun cdv A outer s H vs Q E hr h => ?_)
  · obtain ⟨n, x, v, rfl, _⟩ := h
    rfl
  · obtain ⟨n, x, v, rfl, h16, hx, q⟩ := h
    refine ⟨_, (pss_cons
      (ps_if (pt_cmpR op_lt (pv 0) pe_int (nomark _))
        (pss_one
          (ps_ret (pe_lst (pa_cons (pe_exget (pv 1)) pa_nil))))
        pss_nil)
    (pss_cons
      (ps_if (pt_cmpR op_eq (pv 0) pe_int (nomark _))
        (pss_one
          (ps_ret (pe_lst (pa_cons (pe_exget (pv 1)) pa_nil))))
        pss_nil)
    (pss_cons
      (ps_if (pt_cmpR op_eq (pv 0) pe_int (nomark _))
        (pss_one
          (ps_ret (pe_lst (pa_cons (pe_exget (pv 1)) pa_nil))))
        pss_nil)
    (pss_cons
      (ps_if (pt_cmpR op_in_seq (pv 0) (pe_tup (pa_cons pe_int (pa_cons pe_int pa_nil))) (by rfl))
        (pss_one
          (ps_ret (pe_lst (pa_cons (pe_exget (pv 1)) pa_nil))))
        pss_nil)
    (pss_cons
      (ps_if (pt_cmpR op_eq (pv 0) pe_int (nomark _))
        (pss_one
          (ps_ret (pe_lst (pa_cons (pe_exget (pv 1)) pa_nil))))
        pss_nil)
    (pss_cons
      (ps_if (pt_cmpR op_eq (pv 0) pe_int (nomark _))
        (pss_one
          (ps_ret (pe_lst (pa_cons (pe_exget (pv 1)) pa_nil))))
        pss_nil)
    (pss_cons
      (ps_if (pt_cmpR op_eq (pv 0) pe_int (nomark _))
        (pss_one
          (ps_ret (pe_lst (pa_cons (pe_exget (pv 1)) pa_nil))))
        pss_nil)
    (pss_one
      (ps_ret (pe_ifExp (pt_cmpR op_eq (pv 0) pe_int (nomark _)) (pe_lst (pa_cons (pe_exget (pv 1)) pa_nil)) (pe_lst pa_nil))))))))))), ?_⟩
    have fin : ∀ {f : Str} {H1 : Hp}, n < 13 → fld n = f → Same H H1 → tLst (tCons (tExGet K f (tVar 1)) tNil) (L2.start ["_law_which", "_law_e"] [.int (n : Nat), .ref x]) H1 Q := fun {f H1} hn hf e1 => by
      obtain ⟨T, nf⟩ := F.get n hn
      subst hf
      refine ⟨_, rfl, x, F.C n, fsOf n v, v, rfl, T, nf, hx.keep e1, fs_look hn, by show 1 ≤ sizeLine; decide, fun l hl => ?_⟩
      exact q l _ (e1.free hl) (same_trans e1 (same_new hl)) (by rw [upd_same, if_pos hn])
    refine ⟨_, rfl, _, _, rfl, rfl, _, rfl, ite2 (fun c => ?_) fun c5 => ?_⟩
    · have c2 := of_decide_eq_true c
      exact fin (by omega) (fld_word n (by omega)) (Same.refl H)
    have c5 : ¬ (n : Int) < 5 := fun z => c5 (decide_eq_true z)
    refine ⟨_, rfl, rfl, _, rfl, ite2 (fun c => ?_) fun d5 => ?_⟩
    · have e : n = 5 := which_is c
      exact fin (by omega) (by rw [e]; rfl) (Same.refl H)
    refine ⟨_, rfl, rfl, _, rfl, ite2 (fun c => ?_) fun d6 => ?_⟩
    · have e : n = 6 := which_is c
      exact fin (by omega) (by rw [e]; rfl) (Same.refl H)
    refine ⟨_, rfl, by show 2 ≤ sizeLine; decide, fun t ht => ⟨t, _, rfl, .inr (SqT.of upd_same), rfl, rfl, _, rfl, ?_⟩⟩
    have e1 : Same H (upd H t (.tup [V.int 7, V.int 9])) := same_new ht
    refine ite2 (fun c => ?_) fun d79 => ?_
    · have e := in79 (show inV (.int (n : Nat)) [V.int 7, V.int 9] = true from c)
      rcases e with e | e
      · exact fin (by omega) (by rw [e]; rfl) e1
      · exact fin (by omega) (by rw [e]; rfl) e1
    have n79 : n ≠ 7 ∧ n ≠ 9 := not79 (show ¬ inV (.int (n : Nat)) [V.int 7, V.int 9] = true from d79)
    refine ⟨_, rfl, rfl, _, rfl, ite2 (fun c => ?_) fun d8 => ?_⟩
    · have e : n = 8 := which_is c
      exact fin (by omega) (by rw [e]; rfl) e1
    refine ⟨_, rfl, rfl, _, rfl, ite2 (fun c => ?_) fun d10 => ?_⟩
    · have e : n = 10 := which_is c
      exact fin (by omega) (by rw [e]; rfl) e1
    refine ⟨_, rfl, rfl, _, rfl, ite2 (fun c => ?_) fun d11 => ?_⟩
    · have e : n = 11 := which_is c
      exact fin (by omega) (by rw [e]; rfl) e1
    refine ⟨_, rfl, rfl, _, rfl, ite2 (fun c => ?_) fun d12 => ?_⟩
    · have e : n = 12 := which_is c
      exact fin (by omega) (by rw [e]; rfl) e1
    · have n5 : n ≠ 5 := which_not d5
      have n6 : n ≠ 6 := which_not d6
      have n8 : n ≠ 8 := which_not d8
      have n10 : n ≠ 10 := which_not d10
      have n11 : n ≠ 11 := which_not d11
      have n12 : n ≠ 12 := which_not d12
      have big : ¬ n < 13 := by omega
      refine ⟨by show 0 ≤ sizeLine; exact Nat.zero_le _, fun l hl => ?_⟩
      exact q l _ (e1.free hl) (same_trans e1 (same_new hl)) (by rw [upd_same, if_neg big])
end
end K01
/-! _law_classes. -/
namespace K01
open PySem PySem.Spec PyProof.Rows L2 KG KS KX
/-- which error is of which class -/
structure Iso (K : PySem.W.Frag) (mg : Str → Option Value) (F : Es K mg) where
  B : Addr
  g : mg "ClashnumberError" = some (.ref B)
  same : ∀ n k, n < 16 → k < 16 → PySem.W.kitOne K (.ref (F.C n)) (.ref (F.C k)) = some (decide (n = k))
  up : ∀ n, n < 16 → PySem.W.kitOne K (.ref (F.C n)) (.ref B) = some true
  out : ∀ n, n < 16 → PySem.W.kitAny K (.ref (F.C n)) [.type "ValueError", .type "LookupError", .type "ArithmeticError", .type "TypeError", .type "AttributeError", .type "RuntimeError"] = some false
  n_V : mg "ValueError" = none
  n_L : mg "LookupError" = none
  n_A : mg "ArithmeticError" = none
  n_T : mg "TypeError" = none
  n_At : mg "AttributeError" = none
  n_R : mg "RuntimeError" = none
/-- the classes that the error number n is of -/
def spClasses {K : PySem.W.Frag} {mg : Str → Option Value} (F : Es K mg) : Sp := fun vs H Q _ => ∃ (n : Nat) (x : Addr) (fs : List (Str × V)), vs = [.ref x] ∧ n < 16 ∧ ExAt H x (F.C n) fs ∧
  ∀ (l : Addr) (H' : Hp), H l = none → Same H H' → H' l = some (.lst [.int (n : Nat)]) → Q (.ref l) H'
/-- the sixteen answers -/
def four (n j : Nat) : List V := (List.range' j 4).map fun k => V.bl (decide (n = k))
theorem four_all (n : Nat) : four n 0 ++ four n 4 ++ four n 8 ++ four n 12 = (List.range 16).map fun k => V.bl (decide (n = k)) := rfl
theorem four_at {n i : Nat} (h : i < 16) : (four n 0 ++ four n 4 ++ four n 8 ++ four n 12)[i]? = some (V.bl (decide (n = i))) := by
  rw [four_all, List.getElem?_map, List.getElem?_range h]
  rfl
theorem only_n {n : Nat} (h : n < 16) : (List.range 16).filter (fun k => decide (n = k)) = [n] := by
  have key : ∀ n, n < 16 → (List.range 16).filter (fun k => decide (n = k)) = [n] := by decide
  exact key n h
theorem filt_next (n i : Nat) : (List.range (i + 1)).filter (fun k => decide (n = k)) = (List.range i).filter (fun k => decide (n = k)) ++ if n = i then [i] else [] := by
  rw [List.range_succ, List.filter_append]
  congr 1
  by_cases h : n = i
  · simp [h]
  · simp [h]
section
variable {P : Program} {w : World} {K : PySem.W.Frag} {mg : Str → Option Value} {base : Heap}
theorem sc__law_classes : FnScope ["_law_e", "_law_a", "_law_b", "_law_c", "_law_d", "_law_k"] ["_law_e"] (defScope s__law_classes) := ⟨rfl, rfl, rfl, by decide +kernel, rfl, by decide +kernel, by decide +kernel⟩
theorem ok__law_classes (B : Bs mg) (F : Es K mg) (S : Iso K mg F) (f : FnF K mg "_law_classes" "_law_classes" s__law_classes) : FnOk P w K mg base CX0 1 f.a f.d ["_law_e"] (spClasses F) := by
  refine f.F.ok sc__law_classes (fun vs H Q E h => ?_) (fun cdv A outer s H vs Q E hr h => ?_)
  · obtain ⟨n, x, fs, rfl, _⟩ := h
    rfl
  · obtain ⟨n, x, fs, rfl, h16, hx, q⟩ := h
    have T := F.exc n h16
    refine ⟨_, (pss_cons
      (ps_set (i := 1) sc__law_classes.nd rfl (Or.inr rfl) (pe_lst (pa_cons (pe_callB call_isiE (by rfl) B.n_isinstance (by decide +kernel) (pa_cons (pv 0) (pa_cons (pe_glob (v := .ref (F.C 0)) rfl F.e0.g rfl) pa_nil))) (pa_cons (pe_callB call_isiE (by rfl) B.n_isinstance (by decide +kernel) (pa_cons (pv 0) (pa_cons (pe_glob (v := .ref (F.C 1)) rfl F.e1.g rfl) pa_nil))) (pa_cons (pe_callB call_isiE (by rfl) B.n_isinstance (by decide +kernel) (pa_cons (pv 0) (pa_cons (pe_glob (v := .ref (F.C 2)) rfl F.e2.g rfl) pa_nil))) (pa_cons (pe_callB call_isiE (by rfl) B.n_isinstance (by decide +kernel) (pa_cons (pv 0) (pa_cons (pe_glob (v := .ref (F.C 3)) rfl F.e3.g rfl) pa_nil))) pa_nil))))))
    (pss_cons
      (ps_set (i := 2) sc__law_classes.nd rfl (Or.inr rfl) (pe_lst (pa_cons (pe_callB call_isiE (by rfl) B.n_isinstance (by decide +kernel) (pa_cons (pv 0) (pa_cons (pe_glob (v := .ref (F.C 4)) rfl F.e4.g rfl) pa_nil))) (pa_cons (pe_callB call_isiE (by rfl) B.n_isinstance (by decide +kernel) (pa_cons (pv 0) (pa_cons (pe_glob (v := .ref (F.C 5)) rfl F.e5.g rfl) pa_nil))) (pa_cons (pe_callB call_isiE (by rfl) B.n_isinstance (by decide +kernel) (pa_cons (pv 0) (pa_cons (pe_glob (v := .ref (F.C 6)) rfl F.e6.g rfl) pa_nil))) (pa_cons (pe_callB call_isiE (by rfl) B.n_isinstance (by decide +kernel) (pa_cons (pv 0) (pa_cons (pe_glob (v := .ref (F.C 7)) rfl F.e7.g rfl) pa_nil))) pa_nil))))))
    (pss_cons
      (ps_set (i := 3) sc__law_classes.nd rfl (Or.inr rfl) (pe_lst (pa_cons (pe_callB call_isiE (by rfl) B.n_isinstance (by decide +kernel) (pa_cons (pv 0) (pa_cons (pe_glob (v := .ref (F.C 8)) rfl F.e8.g rfl) pa_nil))) (pa_cons (pe_callB call_isiE (by rfl) B.n_isinstance (by decide +kernel) (pa_cons (pv 0) (pa_cons (pe_glob (v := .ref (F.C 9)) rfl F.e9.g rfl) pa_nil))) (pa_cons (pe_callB call_isiE (by rfl) B.n_isinstance (by decide +kernel) (pa_cons (pv 0) (pa_cons (pe_glob (v := .ref (F.C 10)) rfl F.e10.g rfl) pa_nil))) (pa_cons (pe_callB call_isiE (by rfl) B.n_isinstance (by decide +kernel) (pa_cons (pv 0) (pa_cons (pe_glob (v := .ref (F.C 11)) rfl F.e11.g rfl) pa_nil))) pa_nil))))))
    (pss_cons
      (ps_set (i := 4) sc__law_classes.nd rfl (Or.inr rfl) (pe_lst (pa_cons (pe_callB call_isiE (by rfl) B.n_isinstance (by decide +kernel) (pa_cons (pv 0) (pa_cons (pe_glob (v := .ref (F.C 12)) rfl F.e12.g rfl) pa_nil))) (pa_cons (pe_callB call_isiE (by rfl) B.n_isinstance (by decide +kernel) (pa_cons (pv 0) (pa_cons (pe_glob (v := .ref (F.C 13)) rfl F.e13.g rfl) pa_nil))) (pa_cons (pe_callB call_isiE (by rfl) B.n_isinstance (by decide +kernel) (pa_cons (pv 0) (pa_cons (pe_glob (v := .ref (F.C 14)) rfl F.e14.g rfl) pa_nil))) (pa_cons (pe_callB call_isiE (by rfl) B.n_isinstance (by decide +kernel) (pa_cons (pv 0) (pa_cons (pe_glob (v := .ref (F.C 15)) rfl F.e15.g rfl) pa_nil))) pa_nil))))))
    (pss_one
      (ps_ret (pe_lc (own := [("_law_k", 5)]) (g := gName 5) (by rfl) sc__law_classes.nd (pi_range1 rfl B.n_range (pa_cons pe_int pa_nil)) (blkOk_by (own := [("_law_k", 5)]) (N := ["_law_e", "_law_a", "_law_b", "_law_c", "_law_d", "_law_k"]) (sc := defScope s__law_classes) (by decide +kernel))
        (fun _ _ _ _ _ => (pg_name (i := 5) sc__law_classes.nd rfl (Or.inl rfl))) (fun _ _ _ _ _ => (pts_one (pt_val (pe_ix (show IxR _ (rIxL K) from ix_list) (pe_op op_cat (pe_op op_cat (pe_op op_cat (pv 1) (pv 2)) (pv 3)) (pv 4)) (pv 5) (fun _ _ => rfl))))) (fun _ _ _ _ _ => (pv 5))))))))), ?_⟩
    refine ⟨_, rfl, x, F.C n, fs, .ref (F.C 0), .ref (F.C 0), _, rfl, T, hx, .own _, S.same n 0 h16 (by decide), _, rfl, x, F.C n, fs, .ref (F.C 1), .ref (F.C 1), _, rfl, T, hx, .own _, S.same n 1 h16 (by decide), _, rfl, x, F.C n, fs, .ref (F.C 2), .ref (F.C 2), _, rfl, T, hx, .own _, S.same n 2 h16 (by decide), _, rfl, x, F.C n, fs, .ref (F.C 3), .ref (F.C 3), _, rfl, T, hx, .own _, S.same n 3 h16 (by decide), by show 4 ≤ sizeLine; decide, fun l0 hl0 => ?_⟩
    have e1 : Same H (upd H l0 (.lst [V.bl (decide (n = 0)), V.bl (decide (n = 1)), V.bl (decide (n = 2)), V.bl (decide (n = 3))])) := same_new hl0
    have a0 : upd H l0 (.lst [V.bl (decide (n = 0)), V.bl (decide (n = 1)), V.bl (decide (n = 2)), V.bl (decide (n = 3))]) l0 = some (.lst (four n 0)) := upd_same
    generalize upd H l0 (.lst [V.bl (decide (n = 0)), V.bl (decide (n = 1)), V.bl (decide (n = 2)), V.bl (decide (n = 3))]) = H1 at e1 a0 ⊢
    refine ⟨_, rfl, x, F.C n, fs, .ref (F.C 4), .ref (F.C 4), _, rfl, T, hx.keep e1, .own _, S.same n 4 h16 (by decide), _, rfl, x, F.C n, fs, .ref (F.C 5), .ref (F.C 5), _, rfl, T, hx.keep e1, .own _, S.same n 5 h16 (by decide), _, rfl, x, F.C n, fs, .ref (F.C 6), .ref (F.C 6), _, rfl, T, hx.keep e1, .own _, S.same n 6 h16 (by decide), _, rfl, x, F.C n, fs, .ref (F.C 7), .ref (F.C 7), _, rfl, T, hx.keep e1, .own _, S.same n 7 h16 (by decide), by show 4 ≤ sizeLine; decide, fun l1 hl1 => ?_⟩
    have e2 : Same H (upd H1 l1 (.lst [V.bl (decide (n = 4)), V.bl (decide (n = 5)), V.bl (decide (n = 6)), V.bl (decide (n = 7))])) := same_trans e1 (same_new hl1)
    have a0 : upd H1 l1 (.lst [V.bl (decide (n = 4)), V.bl (decide (n = 5)), V.bl (decide (n = 6)), V.bl (decide (n = 7))]) l0 = some (.lst (four n 0)) := same_new hl1 _ _ a0
    have a1 : upd H1 l1 (.lst [V.bl (decide (n = 4)), V.bl (decide (n = 5)), V.bl (decide (n = 6)), V.bl (decide (n = 7))]) l1 = some (.lst (four n 4)) := upd_same
    generalize upd H1 l1 (.lst [V.bl (decide (n = 4)), V.bl (decide (n = 5)), V.bl (decide (n = 6)), V.bl (decide (n = 7))]) = H2 at e2 a0 a1 ⊢
    refine ⟨_, rfl, x, F.C n, fs, .ref (F.C 8), .ref (F.C 8), _, rfl, T, hx.keep e2, .own _, S.same n 8 h16 (by decide), _, rfl, x, F.C n, fs, .ref (F.C 9), .ref (F.C 9), _, rfl, T, hx.keep e2, .own _, S.same n 9 h16 (by decide), _, rfl, x, F.C n, fs, .ref (F.C 10), .ref (F.C 10), _, rfl, T, hx.keep e2, .own _, S.same n 10 h16 (by decide), _, rfl, x, F.C n, fs, .ref (F.C 11), .ref (F.C 11), _, rfl, T, hx.keep e2, .own _, S.same n 11 h16 (by decide), by show 4 ≤ sizeLine; decide, fun l2 hl2 => ?_⟩
    have e3 : Same H (upd H2 l2 (.lst [V.bl (decide (n = 8)), V.bl (decide (n = 9)), V.bl (decide (n = 10)), V.bl (decide (n = 11))])) := same_trans e2 (same_new hl2)
    have a0 : upd H2 l2 (.lst [V.bl (decide (n = 8)), V.bl (decide (n = 9)), V.bl (decide (n = 10)), V.bl (decide (n = 11))]) l0 = some (.lst (four n 0)) := same_new hl2 _ _ a0
    have a1 : upd H2 l2 (.lst [V.bl (decide (n = 8)), V.bl (decide (n = 9)), V.bl (decide (n = 10)), V.bl (decide (n = 11))]) l1 = some (.lst (four n 4)) := same_new hl2 _ _ a1
    have a2 : upd H2 l2 (.lst [V.bl (decide (n = 8)), V.bl (decide (n = 9)), V.bl (decide (n = 10)), V.bl (decide (n = 11))]) l2 = some (.lst (four n 8)) := upd_same
    generalize upd H2 l2 (.lst [V.bl (decide (n = 8)), V.bl (decide (n = 9)), V.bl (decide (n = 10)), V.bl (decide (n = 11))]) = H3 at e3 a0 a1 a2 ⊢
    refine ⟨_, rfl, x, F.C n, fs, .ref (F.C 12), .ref (F.C 12), _, rfl, T, hx.keep e3, .own _, S.same n 12 h16 (by decide), _, rfl, x, F.C n, fs, .ref (F.C 13), .ref (F.C 13), _, rfl, T, hx.keep e3, .own _, S.same n 13 h16 (by decide), _, rfl, x, F.C n, fs, .ref (F.C 14), .ref (F.C 14), _, rfl, T, hx.keep e3, .own _, S.same n 14 h16 (by decide), _, rfl, x, F.C n, fs, .ref (F.C 15), .ref (F.C 15), _, rfl, T, hx.keep e3, .own _, S.same n 15 h16 (by decide), by show 4 ≤ sizeLine; decide, fun l3 hl3 => ?_⟩
    have e4 : Same H (upd H3 l3 (.lst [V.bl (decide (n = 12)), V.bl (decide (n = 13)), V.bl (decide (n = 14)), V.bl (decide (n = 15))])) := same_trans e3 (same_new hl3)
    have a0 : upd H3 l3 (.lst [V.bl (decide (n = 12)), V.bl (decide (n = 13)), V.bl (decide (n = 14)), V.bl (decide (n = 15))]) l0 = some (.lst (four n 0)) := same_new hl3 _ _ a0
    have a1 : upd H3 l3 (.lst [V.bl (decide (n = 12)), V.bl (decide (n = 13)), V.bl (decide (n = 14)), V.bl (decide (n = 15))]) l1 = some (.lst (four n 4)) := same_new hl3 _ _ a1
    have a2 : upd H3 l3 (.lst [V.bl (decide (n = 12)), V.bl (decide (n = 13)), V.bl (decide (n = 14)), V.bl (decide (n = 15))]) l2 = some (.lst (four n 8)) := same_new hl3 _ _ a2
    have a3 : upd H3 l3 (.lst [V.bl (decide (n = 12)), V.bl (decide (n = 13)), V.bl (decide (n = 14)), V.bl (decide (n = 15))]) l3 = some (.lst (four n 12)) := upd_same
    generalize upd H3 l3 (.lst [V.bl (decide (n = 12)), V.bl (decide (n = 13)), V.bl (decide (n = 14)), V.bl (decide (n = 15))]) = H4 at e4 a0 a1 a2 a3 ⊢
    refine ⟨16, rfl, by decide, by decide, fun D hD => ?_⟩
    refine lc_range (lo := 0) (n := 16) (fun i H' => Same H4 H' ∧ H' D = some (.lst (((List.range i).filter (fun k => decide (n = k))).map fun k => V.int (k : Nat)))) ⟨same_new hD, upd_same⟩ ?_ ?_
    · rintro i H' hi ⟨e5, eD⟩
      refine ⟨rfl, _, rfl, _, rfl, l0, l1, four n 0, four n 4, rfl, rfl, e5 _ _ a0, e5 _ _ a1, by show 8 ≤ sizeLine; decide, fun p hp => ?_⟩
      have e6 := same_trans e5 (same_new (o := .lst (four n 0 ++ four n 4)) hp)
      refine ⟨_, rfl, p, l2, _, four n 8, rfl, rfl, upd_same, e6 _ _ a2, by show 12 ≤ sizeLine; decide, fun p2 hp2 => ?_⟩
      have e7 := same_trans e6 (same_new (o := .lst (four n 0 ++ four n 4 ++ four n 8)) hp2)
      refine ⟨_, rfl, p2, l3, _, four n 12, rfl, rfl, upd_same, e7 _ _ a3, by show 16 ≤ sizeLine; decide, fun p3 hp3 => ?_⟩
      have z1 : Same H' (upd (upd (upd H' p (.lst (four n 0 ++ four n 4))) p2 (.lst (four n 0 ++ four n 4 ++ four n 8))) p3 (.lst (four n 0 ++ four n 4 ++ four n 8 ++ four n 12))) := same_trans (same_trans (same_new hp) (same_new hp2)) (same_new hp3)
      have e8 := same_trans e5 z1
      refine ⟨_, rfl, p3, _, _, V.bl (decide (n = i)), rfl, rfl, SqL.of upd_same, by rw [Int.zero_add]; exact atI_nat (four_at hi), _, rfl, ite2 (fun c => ?_) fun c => ?_⟩
      · have e := of_decide_eq_true c
        refine ⟨_, rfl, _, z1 _ _ eD, ?_, same_put hD e8, ?_⟩
        · have z := List.length_filter_le (fun k => decide (n = k)) (List.range i)
          rw [List.length_range] at z
          rw [List.length_map, sizeLine_eq]
          omega
        · rw [upd_same, filt_next, if_pos e, List.map_append, Int.zero_add]
          rfl
      · have e : ¬ n = i := fun z => c (decide_eq_true z)
        refine ⟨e8, ?_⟩
        rw [filt_next, if_neg e, List.append_nil]
        exact z1 _ _ eD
    · rintro H5 ⟨e5, eD⟩
      rw [only_n h16] at eD
      exact q D H5 ((same_trans e4 (Same.refl _)).free hD) (same_trans e4 e5) eD
end
end K01
/-! The law's walk from a promise that leans on repr: a law is called where nothing is being shown. -/
namespace KG
open PySem PySem.Spec PyProof.Rows L2
section
variable {P : Program} {w : World} {K : PySem.W.Frag} {mg mb : Str → Option Value} {CX : CXT} {k : Nat} {fa a : Addr} {fd : FuncData} {x : Str} {sp : Sp} {s1 : Shared}
/-- what the law's call must leave -/
abbrev LawR (s1 : Shared) : Result → Shared → Prop := fun r s' => r = .ok (.ret (.bool true)) ∧ OldK s1.heap s'.heap ∧ s'.os = s1.os ∧ AllBare s'.gens
/-- from an abstract heap that knows at most the script -/
theorem law_at {o : Obj} (KI : K.In s1.heap) (n1 : s1.heap.Ns mainGlobals mg) (n2 : s1.heap.Ns builtinsNs mb) (n3 : ∀ y : Str, y ≠ "__name__" → mb y = bootBuiltins y) (lim : s1.heap.NoLimit) (g0 : s1.gens = #[]) (hr : Room k callerA)
    (ho : s1.heap.get? a = some o) (nd : ∀ es ep, o.data ≠ .dict es ep) (F : ∀ base : Heap, K.In base → base.Ns mainGlobals mg → FnG P w K mg base CX k fa fd [x] sp) (bd : ∀ (s : Shared) (u : Value), BindsTo s fd ⟨[u], []⟩ [(x, u)])
    (cx : ∀ H e s', CX [] H s1 (fun _ _ _ => False) e s' → False) (H : Hp) (only : Only H) (ok : HOk P w H s1.heap) (h1 : ∀ b, H b ≠ none → b = a) (h2 : H a ≠ none → K.lookup a = none)
    (pr : sp [.ref a] H (fun v _ => v = .bl true) fun _ _ _ => False) : codeAny (model P w) callerA (.call (.ref fa) ⟨[.ref a], []⟩) (LawR s1) s1 := by
  -- what is no object that H knows stands in the base, too
  have inB : ∀ {b : Addr} {u : Obj}, s1.heap.get? b = some u → (H b ≠ none → False) → (hidT s1.heap H).get? b = some u := fun {b u} e n => hidT_get e (by
    cases q : H b with
    | none => rfl
    | some z => exact (n (by rw [q]; exact fun y => nomatch y)).elim)
  have dictB : ∀ {b : Addr} {u : Obj} {es : Array DictEntry} {ep : Nat}, s1.heap.get? b = some u → u.data = .dict es ep → (hidT s1.heap H).get? b = some u := fun {b u es ep} e d => inB e fun z => by
    have q := h1 b z
    rw [q, ho] at e
    rw [Option.some.inj e] at nd
    exact nd _ _ d
  have nsB : ∀ {b : Addr} {m : Str → Option Value}, s1.heap.Ns b m → (hidT s1.heap H).Ns b m := fun ⟨u, es, ep, e, d, r⟩ => ⟨u, es, ep, dictB e d, d, r⟩
  have KB : K.In (hidT s1.heap H) := fun b u e => inB (KI b u e) fun z => by
    have q := h1 b z
    rw [q] at e z
    rw [h2 z] at e
    cases e
  obtain ⟨mc, l1, l2⟩ := lim
  have env : Env0 P w K mg (hidT s1.heap H) callerA [] s1 H :=
    ⟨rfl, ⟨KB, nsB n1, ⟨mb, nsB n2, n3⟩, ⟨mc, nsB l1, l2⟩⟩, fun _ _ e => of_hidT e, Nat.le_of_eq (hidT_size _ _), trivial, fun _ z => (by cases z), ok, .of_eq g0⟩
  refine codeAny_mono ((F _ KB (nsB n1)).go callerA [] s1 H ⟨[.ref a], []⟩ [.ref a] [.ref a] _ _ rfl hr env (bd s1 (.ref a)) (.cons rfl .nil) pr) ?_
  rintro (er | fl) s' z
  · exact (cx H er s' z).elim
  · cases fl with
    | ret u =>
      obtain ⟨v, H', os, bare, un, ok', r, (rfl : v = .bl true)⟩ := z
      have eu : u = Value.bool true := r
      subst eu
      refine ⟨rfl, OldK.of_keep fun b o' e => ?_, os, bare⟩
      cases q : H b with
      | none => exact un.keep b o' e q (fun z => (by cases z)) (by simp)
      | some t =>
        rcases only b with y | ⟨ob, xs, y⟩
        · rw [q] at y
          cases y
        · have y1 := (ok b _ y).1
          have y2 := (ok' b _ (un.frzs b ob _ y)).1
          rw [e] at y1
          cases y1
          exact y2
    | next => exact z.elim
    | brk => exact z.elim
    | cont => exact z.elim
end
/-- the goal that the head leaves, from such a promise -/
theorem walkG {l : PySem.W.OpenLaw} {n k : Nat} {q : Program} {loose : List Str} {XP : (Str → Option Value) → Heap → Prop} {YP : World → Heap → Prop} {d : DefRec} {K : Params → PySem.W.Frag} {CX : CXT} {sp : PySem.W.Frag → Sp} {x : Str}
    (h1 : l.most = some n) (h2 : n ≤ sizeLine) (h3 : d.params.defaults = []) (hr : Room k callerA) (hY : ∀ (w : World) (h : Heap), YP w h → (K w.params).In h)
    (F : ∀ (w : World) (mg : Str → Option Value) (fa : Addr) (h : Heap), (K w.params).In h → h.Ns mainGlobals mg → mg d.name = some (.ref fa) →
      ∃ fd : FuncData, (∀ (s : Shared) (u : Value), BindsTo s fd ⟨[u], []⟩ [(x, u)]) ∧ ∀ base : Heap, (K w.params).In base → base.Ns mainGlobals mg → FnG l.prog w (K w.params) mg base CX k fa fd [x] (sp (K w.params)))
    (pr : ∀ (K : PySem.W.Frag) (H : Hp) (a : Addr) (ns : List Int), ns.length ≤ n → Only H → SqL K H a (ns.map V.int) → sp K [.ref a] H (fun v _ => v = .bl true) fun _ _ _ => False)
    (cx : ∀ (H : Hp) (s : Shared) (e : Value) (s' : Shared), CX [] H s (fun _ _ _ => False) e s' → False) :
    PySem.W.WalkO q loose XP YP l.row.toRowW d [] (fun f vs => PySem.call f vs) := by
  refine Att.attach_call h1 h3 fun w s0 s1 mg mb fa o pm cd doc a vs ns G Y ho hd hcd hmg hobj hints hlen hg => ?_
  have KI := hY w _ Y
  obtain ⟨fd, bd, FF⟩ := F w mg fa _ KI G.T.g hmg
  have rv := vals_ints hints
  have small : ns.length ≤ sizeLine := Nat.le_trans hlen h2
  have nd : ∀ (es : Array DictEntry) (ep : Nat), (Data.seq vs.toArray 0 : Data) ≠ .dict es ep := fun _ _ z => nomatch z
  cases hk : (K w.params).lookup a with
  | some o1 =>
    have e := KI a o1 hk
    rw [hobj] at e
    cases e
    have none0 : ∀ b, (fun _ : Addr => (none : Option HO)) b ≠ none → False := fun b z => z rfl
    refine law_at KI G.T.g G.T.b G.T.builtins G.T.nolimit hg hr hobj (fun _ _ z => nomatch z) FF bd (fun H e s' => cx H s1 e s') (fun _ => none) (fun _ => .inl rfl) (fun b u z => nomatch z) (fun b z => (none0 b z).elim) (fun z => (none0 a z).elim)
      (pr _ _ _ ns hlen (fun _ => .inl rfl) (.inr ⟨_, vs.toArray, _, hk, rfl, rfl, rfl, ?_, ?_⟩))
    · rw [List.size_toArray, hints.length]
      exact small
    · simpa using rv
  | none =>
    have at_ : (fun b => if b = a then some (HO.frz { cls := .type "list", data := .seq vs.toArray } (.lst (ns.map V.int))) else none) a = some (HO.frz { cls := .type "list", data := .seq vs.toArray } (.lst (ns.map V.int))) := if_pos rfl
    have off : ∀ b, b ≠ a → (fun b => if b = a then some (HO.frz { cls := .type "list", data := .seq vs.toArray } (.lst (ns.map V.int))) else none) b = none := fun b z => if_neg z
    generalize (fun b => if b = a then some (HO.frz { cls := .type "list", data := .seq vs.toArray } (.lst (ns.map V.int))) else none) = H at at_ off
    have only : Only H := fun b => by
      by_cases z : b = a
      · rw [z]
        exact .inr ⟨_, _, at_⟩
      · exact .inl (off b z)
    have here : ∀ b, H b ≠ none → b = a := fun b z => by
      by_cases y : b = a
      · exact y
      · exact absurd (off b y) z
    have ok : HOk l.prog w H s1.heap := fun b u z => by
      have e := here b (by rw [z]; exact fun y => nomatch y)
      rw [e, at_] at z
      cases z
      rw [e]
      exact ⟨hobj, by rw [List.length_map]; exact small, vs, _, rv, hobj⟩
    exact law_at KI G.T.g G.T.b G.T.builtins G.T.nolimit hg hr hobj (fun _ _ z => nomatch z) FF bd (fun H e s' => cx H s1 e s') H only ok here (fun _ => hk) (pr _ _ _ ns hlen only (.inl (.inr ⟨_, at_⟩)))
end KG
/-! _law_right. -/
namespace K01
open PySem PySem.Spec PyProof.Rows L2 KG KS KX
abbrev s__law_right : Stmt := top 43
/-- [o] != [o], the same object -/
def rNeI (K : PySem.W.Frag) : R2 := fun x y H Q => ∃ a b o : Addr, x = .ref a ∧ y = .ref b ∧ SqL K H a [.ref o] ∧ SqL K H b [.ref o] ∧ Q (.bl false) H
theorem op_neI {X : Cx} (hu : X.A.units + 64 < cLine) : OpR X (compareOp .NotEq) (rNeI X.K) := by
  intro pins s σ H x y v u Q I rx ry h
  obtain ⟨a, b, o, rfl, rfl, ha, hb, q⟩ := h
  cases rx
  cases ry
  obtain ⟨i1, r1, p1, _⟩ := I.list ha
  obtain ⟨i2, r2, p2, _⟩ := I.list hb
  obtain ⟨u1, rfl, (e1 : u1 = Value.ref o)⟩ := vals1 r1
  obtain ⟨u2, rfl, (e2 : u2 = Value.ref o)⟩ := vals1 r2
  subst e1 e2
  have h := SeqAt.RcNeAt.lists (A := X.A) (e := fun _ => true) p1.isList p2.isList rfl (by omega) fun j h1 h2 => by
    have z : j = 0 := by
      simp at h1
      exact h1
    subst z
    exact SeqAt.EqAt.same _
  exact h X.prog X.w _ _ ⟨.bl false, H, I, rfl, q⟩
def spRight {K : PySem.W.Frag} {mg : Str → Option Value} (F : Es K mg) : Sp := fun vs H Q _ => ∃ (n : Nat) (x : Addr) (v : V) (Z : Addr → Prop) (D : PyData), vs = [.int (n : Nat), .ref x, v] ∧ n < 16 ∧ ExAt H x (F.C n) (fsOf n v) ∧
  Dq Z H v D ∧ D.showable = true ∧ D.depth ≤ 50 ∧ cost D ≤ 100000 ∧ ∀ H', Same H H' → Q (.bl true) H'
section
variable {P : Program} {w : World} {K : PySem.W.Frag} {mg : Str → Option Value} {base : Heap}
theorem sc__law_right : FnScope ["_law_which", "_law_e", "_law_item"] ["_law_which", "_law_e", "_law_item"] (defScope s__law_right) := ⟨rfl, rfl, rfl, by decide +kernel, rfl, by decide +kernel, by decide +kernel⟩
theorem ok__law_right (B : Bs mg) (F : Es K mg) (S : Iso K mg F) (f : FnF K mg "_law_right" "_law_right" s__law_right) (fc : FnF K mg "_law_classes" "_law_classes" s__law_classes) (fh : FnF K mg "_law_held" "_law_held" s__law_held) :
    FnG P w K mg base CX0 2 f.a f.d ["_law_which", "_law_e", "_law_item"] (spRight F) := by
  have G1 := ok__law_classes (P := P) (w := w) (base := base) B F S fc
  have b1 : Binds K fc.d ["_law_e"] [] := fc.F.binds fun _ _ _ _ _ _ us hl => match us, hl with | [_], _ => rfl
  have G2 := ok__law_held (P := P) (w := w) (base := base) F fh
  have b2 : Binds K fh.d ["_law_which", "_law_e"] [] := fh.F.binds fun _ _ _ _ _ _ us hl => match us, hl with | [_, _], _ => rfl
  refine okG f.F sc__law_right (fun vs H Q E h => ?_) (fun cdv A outer s H vs Q E hgu hr h => ?_)
  · obtain ⟨n, x, v, Z, D, rfl, _⟩ := h
    rfl
  · obtain ⟨n, x, v, Z, D, rfl, h16, hx, hD, sh, dp, ct, q⟩ := h
    have hu64 := hr.units
    have T := F.exc n h16
    refine ⟨_, (pss_cons
      (ps_if (PW.pt (pw_or (pt_not (pt_val (pe_callB call_isiE (by rfl) B.n_isinstance (by decide +kernel) (pa_cons (pv 1) (pa_cons (pe_glob (v := .ref S.B) rfl S.g rfl) pa_nil)))))
          (pw_or1 (pt_cmpR (op_neD hu64) (pe_call G1 hr rfl fc.g fc.F.kp b1 .nil pass0 (pa_cons (pv 1) pa_nil)) (pe_lst (pa_cons (pv 0) pa_nil)) (nomark _)))))
        (pss_one
          (ps_ret pe_bl))
        pss_nil)
    (pss_cons
      (ps_if (pt_val (pe_callB call_isiET (by rfl) B.n_isinstance (by decide +kernel) (pa_cons (pv 1) (pa_cons (pe_tup (pa_cons (pe_bltn (v := .ty "ValueError") rfl S.n_V (by decide +kernel) rfl) (pa_cons (pe_bltn (v := .ty "LookupError") rfl S.n_L (by decide +kernel) rfl) (pa_cons (pe_bltn (v := .ty "ArithmeticError") rfl S.n_A (by decide +kernel) rfl) (pa_cons (pe_bltn (v := .ty "TypeError") rfl S.n_T (by decide +kernel) rfl) (pa_cons (pe_bltn (v := .ty "AttributeError") rfl S.n_At (by decide +kernel) rfl) (pa_cons (pe_bltn (v := .ty "RuntimeError") rfl S.n_R (by decide +kernel) rfl) pa_nil))))))) pa_nil))))
        (pss_one
          (ps_ret pe_bl))
        pss_nil)
    (pss_one
      (ps_ret (pe_cmpR op_eq (pe_callB (call_repr hgu hu64) (by rfl) B.n_repr (by decide +kernel) (pa_cons (pe_call G2 hr rfl fh.g fh.F.kp b2 .nil pass0 (pa_cons (pv 0) (pa_cons (pv 1) pa_nil))) pa_nil))
        (pe_callB (call_repr hgu hu64) (by rfl) B.n_repr (by decide +kernel) (pa_cons (pe_op op_rep (pe_lst (pa_cons (pv 2) pa_nil)) (pe_callTy call_int1 (by rfl) B.n_int (by decide +kernel) (pa_cons (pe_cmpR op_lt (pv 0) pe_int (nomark _)) pa_nil))) pa_nil)) (nomark _)))))), ?_⟩
    -- not isinstance(e, ClashnumberError) or classes(e) != [which]
    refine ⟨_, rfl, x, F.C n, fsOf n v, .ref S.B, .ref S.B, true, rfl, T, hx, .own _, S.up n h16, true, rfl, iteF ?_⟩
    refine ⟨_, rfl, n, x, fsOf n v, rfl, h16, hx, fun l H1 hl e1 hl1 => ⟨_, rfl, by show 1 ≤ sizeLine; decide, fun l2 hl2 => ?_⟩⟩
    have e2 : Same H1 (upd H1 l2 (.lst [V.int (n : Nat)])) := same_new hl2
    refine ⟨.list ([(n : Int)].map .int), .list ([(n : Int)].map .int), .lst (SqL.of (e2 _ _ hl1)) (ints_dp [(n : Int)]), .lst (SqL.of upd_same) (ints_dp [(n : Int)]), ints_shaped _, ints_shaped _, ?_⟩
    have ev : PyData.eqv (.list ([(n : Int)].map .int)) (.list ([(n : Int)].map .int)) = true := by simp [PyData.eqv, PyData.eqvAll]
    rw [ev]
    refine ⟨_, rfl, iteF ?_⟩
    have e02 := same_trans e1 e2
    generalize upd H1 l2 (.lst [V.int (n : Nat)]) = H2 at e02
    -- isinstance(e, (ValueError, ..))
    refine ⟨_, rfl, by show 6 ≤ sizeLine; decide, fun t ht => ?_⟩
    have e3 : Same H2 (upd H2 t (.tup [V.ty "ValueError", V.ty "LookupError", V.ty "ArithmeticError", V.ty "TypeError", V.ty "AttributeError", V.ty "RuntimeError"])) := same_new ht
    refine ⟨x, F.C n, t, fsOf n v, _, _, false, rfl, T, hx.keep (same_trans e02 e3), upd_same, .cons (.ty _) (.cons (.ty _) (.cons (.ty _) (.cons (.ty _) (.cons (.ty _) (.cons (.ty _) .nil))))), S.out n h16, false, rfl, iteF ?_⟩
    have e03 := same_trans e02 e3
    generalize upd H2 t (.tup [V.ty "ValueError", V.ty "LookupError", V.ty "ArithmeticError", V.ty "TypeError", V.ty "AttributeError", V.ty "RuntimeError"]) = H3 at e03
    -- repr(held(which, e)) == repr([item] * int(which < 13))
    refine ⟨_, rfl, _, rfl, n, x, v, rfl, h16, hx.keep e03, fun l4 H4 hl4 e4 hl44 => ?_⟩
    have e04 := same_trans e03 e4
    by_cases h13 : n < 13
    · rw [if_pos h13] at hl44
      have big : (PyData.list [D]).shown.length ≤ sizeLine := by
        have z := shown_cost (.list [D])
        simp only [cost, costAll] at z
        rw [sizeLine_eq]
        omega
      have shw : (PyData.list [D]).showable = true := by simp only [PyData.showable, PyData.showableAll, sh, Bool.and_self]
      have dep : (PyData.list [D]).depth ≤ 60 := by
        simp only [PyData.depth, PyData.depthAll]
        omega
      have at4 : ∀ {H' : Hp} {r : Addr}, Same H H' → H' r = some (.lst [v]) → Dq (fun _ => True) H' (.ref r) (.list [D]) := fun e h => .lst trivial h (.cons ((hD.mono fun _ _ => trivial).same e) .nil)
      refine ⟨fun _ => True, .ref l4, .list [D], rfl, at4 e04 hl44, shw, dep, big, _, rfl, by show 1 ≤ sizeLine; decide, fun l5 hl5 => ⟨_, rfl, _, _, rfl, rfl, .inr ⟨_, rfl, ?_⟩⟩⟩
      rw [decide_eq_true (show ((n : Nat) : Int) < 13 by omega), if_pos rfl]
      refine ⟨l5, 1, [v], rfl, rfl, upd_same, by decide, by decide, by show 1 * 1 ≤ sizeLine; decide, fun l6 hl6 => ?_⟩
      have e6 := same_trans (same_trans e04 (same_new (o := .lst [v]) hl5)) (same_new (o := .lst (List.replicate (1 : Int).toNat [v]).flatten) hl6)
      refine ⟨fun _ => True, .ref l6, .list [D], rfl, at4 e6 upd_same, shw, dep, big, rfl, ?_⟩
      rw [decide_eq_true rfl]
      exact q _ e6
    · rw [if_neg h13] at hl44
      have at4 : ∀ {H' : Hp} {r : Addr}, H' r = some (.lst []) → Dq (fun _ => True) H' (.ref r) (.list []) := fun h => .lst trivial h .nil
      refine ⟨fun _ => True, .ref l4, .list [], rfl, at4 hl44, by decide, by decide, by decide +kernel, _, rfl, by show 1 ≤ sizeLine; decide, fun l5 hl5 => ⟨_, rfl, _, _, rfl, rfl, .inr ⟨_, rfl, ?_⟩⟩⟩
      rw [decide_eq_false (show ¬ ((n : Nat) : Int) < 13 by omega), if_neg Bool.false_ne_true]
      refine ⟨l5, 0, [v], rfl, rfl, upd_same, by decide, by decide, by show 1 * 0 ≤ sizeLine; decide, fun l6 hl6 => ?_⟩
      have e6 := same_trans (same_trans e04 (same_new (o := .lst [v]) hl5)) (same_new (o := .lst (List.replicate (0 : Int).toNat [v]).flatten) hl6)
      refine ⟨fun _ => True, .ref l6, .list [], rfl, at4 upd_same, by decide, by decide, by decide +kernel, rfl, ?_⟩
      rw [decide_eq_true rfl]
      exact q _ e6
end
end K01
/-! law. -/
namespace K01
open PySem PySem.Spec PyProof.Rows L2 KG KS KX
abbrev s_law : Stmt := top 44
/-- all the defs that the law reaches -/
structure All (K : PySem.W.Frag) (mg : Str → Option Value) where
  B : Bs mg
  F : Es K mg
  S : Iso K mg F
  tf : TabF K mg
  ti : MtD K "__init__" "Table.__init__" s_tabInit
  tc : TabC K mg ti.a
  deck : FnF K mg "_law_deck" "_law_deck" s__law_deck
  draw : FnF K mg "_law_draw" "_law_draw" s__law_draw
  pick : FnF K mg "_law_pick" "_law_pick" s__law_pick
  value : FnF K mg "_law_value" "_law_value" s__law_value
  pos : FnF K mg "_law_by_position" "_law_by_position" s__law_by_position
  name : FnF K mg "_law_by_name" "_law_by_name" s__law_by_name
  held : FnF K mg "_law_held" "_law_held" s__law_held
  classes : FnF K mg "_law_classes" "_law_classes" s__law_classes
  right : FnF K mg "_law_right" "_law_right" s__law_right
def spLaw (K : PySem.W.Frag) : Sp := fun vs H Q _ => ∃ (a : Addr) (ns : List Int), vs = [.ref a] ∧ SqL K H a (ns.map V.int) ∧ ns.length ≤ 63 ∧ ∀ H', Q (.bl true) H'
theorem ab_bef : (([("a" : Str), "b"]).map tx).Pairwise Bef := by
  refine .cons (fun p hp => ?_) (.cons (fun p hp => (by cases hp)) .nil)
  rw [List.mem_singleton.mp hp]
  show W.dataLt (.str "a") (.str "b") = true
  decide +kernel
section
variable {P : Program} {w : World} {K : PySem.W.Frag} {mg : Str → Option Value} {base : Heap}
theorem okN {f : Addr} {fd : FuncData} {ps : List Str} {sp : Sp} {k : Nat} {x qual : Str} {st : Stmt} {N : List Str} (F : Fun K x qual st f fd) (S : FnScope N ps (defScope st)) (len : ∀ vs H Q E, sp vs H Q E → vs.length = ps.length)
    (body : ∀ (cdv : Value) (A : Around) (outer : List Env) (s : Shared) (H : Hp) (vs : List V) (Q : VK) (E : XK),
      (A.deeper (envOfC qual (defScope st) s.heap.objs.size f cdv)).guards = some [] → Room k (A.deeper (envOfC qual (defScope st) s.heap.objs.size f cdv)) → sp vs H Q E →
      ∃ t, PSs (cxOf CX0 P w K mg base N qual (defScope st) f cdv A outer s H E).nox (defBody st) t ∧ t { nx := fun _ H' => Q .non H', rt := Q } (L2.start N vs) H) :
    FnG P w K mg base CX0 (k + 1) f fd ps sp := okG F S len fun cdv A outer s H vs Q E g hr h => by
  obtain ⟨t, h1, h2⟩ := body cdv A outer s H vs Q E g hr h
  exact ⟨t, h1.nox, h2⟩
theorem sc_law : FnScope ["_law_script", "_law_deck_here", "_law_which", "_law_turn", "_law_item", "_law_kept", "_law_e", "_law_one"] ["_law_script"] (defScope s_law) := ⟨rfl, rfl, rfl, by decide +kernel, rfl, by decide +kernel, by decide +kernel⟩
theorem ok_law (A : All K mg) (f : FnF K mg "law" "law" s_law) : FnG P w K mg base CX0 8 f.a f.d ["_law_script"] (spLaw K) := by
  have G1 := ok__law_deck (P := P) (w := w) (base := base) A.B.toBi A.deck
  have b1 : Binds K A.deck.d ["_law_script"] [] := A.deck.F.binds fun _ _ _ _ _ _ us hl => match us, hl with | [_], _ => rfl
  have G2 := ok__law_value (P := P) (w := w) (base := base) A.B.toBi A.value A.draw A.pick 4
  have b2 : Binds K A.value.d ["_law_deck_here", "_law_deep"] [] := A.value.F.binds fun _ _ _ _ _ _ us hl => match us, hl with | [_, _], _ => rfl
  have G3 := ok__law_by_position (P := P) (w := w) (base := base) A.F A.pos
  have b3 : Binds K A.pos.d ["_law_which", "_law_item"] [] := A.pos.F.binds fun _ _ _ _ _ _ us hl => match us, hl with | [_, _], _ => rfl
  have G4 := ok__law_by_name (P := P) (w := w) (base := base) A.F A.name
  have b4 : Binds K A.name.d ["_law_which", "_law_item"] [] := A.name.F.binds fun _ _ _ _ _ _ us hl => match us, hl with | [_, _], _ => rfl
  have G5 := ok__law_right (P := P) (w := w) (base := base) A.B A.F A.S A.right A.classes A.held
  have b5 : Binds K A.right.d ["_law_which", "_law_e", "_law_item"] [] := A.right.F.binds fun _ _ _ _ _ _ us hl => match us, hl with | [_, _, _], _ => rfl
  have G6 := ok_tabInit (P := P) (w := w) (base := base) A.B A.ti A.tf A.tc
  have b6 : Binds K A.ti.d ["self", "domain", "width", "rows"] [] := by
    obtain ⟨ds, r, b⟩ := A.ti.F.binds1 (ps := ["self", "domain", "width", "rows"]) 4 1 (by simp) rfl fun _ _ _ _ _ _ _ us its h1 h2 => match us, its, h1, h2 with | [_, _, _, _], [_], _, _ => ⟨_, rfl, rfl⟩
    cases (show Vals [] ds from r)
    exact b
  have G7 := ok__law_held (P := P) (w := w) (base := base) A.F A.held
  have b7 : Binds K A.held.d ["_law_which", "_law_e"] [] := A.held.F.binds fun _ _ _ _ _ _ us hl => match us, hl with | [_, _], _ => rfl
  refine okN f.F sc_law (fun vs H Q E h => ?_) (fun cdv A' outer s H vs Q E hgu hr h => ?_)
  · obtain ⟨a, ns, rfl, _⟩ := h
    rfl
  · obtain ⟨a, ns, rfl, ha, hlen, q⟩ := h
    have hu64 := hr.units
    have hr1 : Room 1 _ := hr.mono (by omega)
    have hr2 : Room 2 _ := hr.mono (by omega)
    have hr3 : Room 3 _ := hr.mono (by omega)
    have hr5 : Room 5 _ := hr.mono (by omega)
    refine ⟨_, (pss_cons
      (ps_set (i := 1) sc_law.nd rfl (Or.inl rfl) (pe_call G1 hr1 rfl A.deck.g A.deck.F.kp b1 .nil pass0 (pa_cons (pv 0) pa_nil)))
    (pss_cons
      (ps_for PassesOwn.never rfl (pi_range1 rfl A.B.n_range (pa_cons pe_int pa_nil)) (pg_name (i := 2) sc_law.nd rfl (Or.inl rfl))
        (pss_cons
          (ps_for PassesOwn.never rfl (pi_range1 rfl A.B.n_range (pa_cons pe_int pa_nil)) (pg_name (i := 3) sc_law.nd rfl (Or.inl rfl))
            (pss_cons
              (ps_set (i := 4) sc_law.nd rfl (Or.inl rfl) (pe_call G2 hr rfl A.value.g A.value.F.kp b2 .nil pass0 (pa_cons (pv 1) (pa_cons pe_int pa_nil))))
            (pss_cons
              (ps_set (i := 5) sc_law.nd rfl (Or.inl rfl) (pe_callB (call_repr hgu hu64) (by rfl) A.B.n_repr (by decide +kernel) (pa_cons (pv 4) pa_nil)))
            (pss_one
              (ps_for PassesOwn.never rfl (pi_list (pe_lst (pa_cons (pe_call G3 hr3 rfl A.pos.g A.pos.F.kp b3 .nil pass0 (pa_cons (pv 2) (pa_cons (pv 4) pa_nil))) (pa_cons (pe_call G4 hr3 rfl A.name.g A.name.F.kp b4 .nil pass0 (pa_cons (pv 2) (pa_cons (pv 4) pa_nil))) pa_nil)))) (pg_name (i := 6) sc_law.nd rfl (Or.inl rfl))
                (pss_one
                  (ps_if (PW.pt (pw_or (pt_not (pt_val (pe_callG G5 hgu hr2 rfl A.right.g A.right.F.kp b5 .nil pass0 (pa_cons (pv 2) (pa_cons (pv 6) (pa_cons (pv 4) pa_nil)))))) (pw_or1 (pt_cmpR op_ne (pe_callB (call_repr hgu hu64) (by rfl) A.B.n_repr (by decide +kernel) (pa_cons (pv 4) pa_nil)) (pv 5) (nomark _)))))
                    (pss_one
                      (ps_ret pe_bl))
                    pss_nil)))))))
        (pss_cons
          (ps_set (i := 7) sc_law.nd rfl (Or.inl rfl) (pe_make A.tc.made G6 hr5 rfl A.tc.g b6 .nil pass0 (pa_cons (pe_tup (pa_cons pe_str (pa_cons pe_str pa_nil))) (pa_cons pe_int (pa_cons (pe_tup (pa_cons (pe_tup (pa_cons pe_str pa_nil)) pa_nil)) pa_nil)))))
        (pss_one
          (ps_if (PW.pt (pw_and (pt_cmpR op_lt (pv 2) pe_int (nomark _)) (pw_and1 (pt_cmpR (op_neI hu64) (pe_call G7 hr1 rfl A.held.g A.held.F.kp b7 .nil pass0 (pa_cons (pv 2) (pa_cons (pe_call G3 hr3 rfl A.pos.g A.pos.F.kp b3 .nil pass0 (pa_cons (pv 2) (pa_cons (pv 7) pa_nil))) pa_nil))) (pe_lst (pa_cons (pv 7) pa_nil)) (nomark _)))))
            (pss_one
              (ps_ret pe_bl))
            pss_nil)))))
    (pss_one
      (ps_ret pe_bl)))), ?_⟩
    -- deck = _law_deck(script)
    refine ⟨_, rfl, a, ns, rfl, ha, hlen, fun d l H1 hd hl e1 D1 => ?_⟩
    -- for which in range(16)
    refine ⟨16, rfl, by decide, by decide, ?_⟩
    refine for_range (lo := 0) (n := 16) (fun i σ H' => ∃ v2 v3 v4 v5 v6 v7 : Option V, σ = [some (.ref a), some (.ref d), v2, v3, v4, v5, v6, v7] ∧ DeckAt H' d l (i * 111)) ⟨none, none, none, none, none, none, rfl, D1⟩ ?_ ?_
    · rintro i σ H2 hi ⟨v2, v3, v4, v5, v6, v7, rfl, D2⟩
      rw [Int.zero_add]
      -- for turn in range(3)
      refine ⟨3, rfl, by decide, by decide, ?_⟩
      refine for_range (lo := 0) (n := 3) (fun j σ H' => ∃ v3 v4 v5 v6 v7 : Option V, σ = [some (.ref a), some (.ref d), some (.int (i : Nat)), v3, v4, v5, v6, v7] ∧ DeckAt H' d l (i * 111 + j * 37)) ⟨v3, v4, v5, v6, v7, rfl, by simpa using D2⟩ ?_ ?_
      · rintro j σ H3 hj ⟨v3, v4, v5, v6, v7, rfl, D3⟩
        refine ⟨_, rfl, d, l, i * 111 + j * 37, rfl, D3, by show _ + 37 < _; omega, fun v D H4 dr D4 o4 => ?_⟩
        have big : D.shown.length ≤ sizeLine := by
          have z := shown_cost D
          have c : cost D ≤ cb 3 := dr.ct
          have e : cb 3 = 1540 := rfl
          rw [e] at c
          rw [sizeLine_eq]
          omega
        have ct : cost D ≤ 100000 := by
          have c : cost D ≤ cb 3 := dr.ct
          have e : cb 3 = 1540 := rfl
          omega
        have dp : D.depth ≤ 2 * 3 := dr.dp
        -- kept = repr(item)
        refine ⟨_, rfl, _, v, D, rfl, dr.at_, dr.sh, by omega, big, ?_⟩
        -- for e in [by_position(which, item), by_name(which, item)]
        refine ⟨_, rfl, _, rfl, i, v, rfl, hi, fun x1 H5 hx1 e5 X1 => ⟨_, rfl, _, rfl, i, v, rfl, hi, fun x2 H6 hx2 e6 X2 => ⟨by show 2 ≤ sizeLine; decide, fun u hu => ⟨u, rfl, ⟨_, SqL.of upd_same⟩, ?_⟩⟩⟩⟩
        have e7 : Same H6 (upd H6 u (.lst [V.ref x1, V.ref x2])) := same_new hu
        have u7 : upd H6 u (.lst [V.ref x1, V.ref x2]) u = some (.lst [V.ref x1, V.ref x2]) := upd_same
        generalize upd H6 u (.lst [V.ref x1, V.ref x2]) = H7 at e7 u7 ⊢
        have e47 := same_trans e5 (same_trans e6 e7)
        refine for_list (K := K) (a := u) (xs := [V.ref x1, V.ref x2]) (fun t σ H' => ∃ v6 : Option V, σ = [some (.ref a), some (.ref d), some (.int (i : Nat)), some (.int (0 + (j : Int))), some v, some (.str D.shown), v6, v7] ∧ Same H7 H')
          ⟨v6, rfl, Same.refl H7⟩ (fun t σ H' _ ⟨_, _, e⟩ => SqL.of (e _ _ u7)) ?_ ?_
        · rintro t y σ H8 ht ⟨v6, rfl, e8⟩
          have e48 := same_trans e47 e8
          have hy : ∃ x, y = V.ref x ∧ ExAt H8 x (A.F.C i) (fsOf i v) := by
            match t, ht with
            | 0, ht =>
              cases ht
              exact ⟨x1, rfl, X1.keep (same_trans (same_trans e6 e7) e8)⟩
            | 1, ht =>
              cases ht
              exact ⟨x2, rfl, X2.keep (same_trans e7 e8)⟩
          obtain ⟨x, rfl, hx⟩ := hy
          refine ⟨_, rfl, _, rfl, _, rfl, i, x, v, _, D, rfl, hi, hx, dr.at_.same e48, dr.sh, by omega, ct, fun H9 e9 => ⟨true, rfl, iteF ?_⟩⟩
          refine ⟨_, rfl, _, v, D, rfl, dr.at_.same (same_trans e48 e9), dr.sh, by omega, big, _, rfl, rfl, ?_⟩
          rw [decide_eq_true rfl]
          exact ⟨_, rfl, iteF ⟨_, rfl, same_trans e8 e9⟩⟩
        · rintro σ H8 ⟨v6, rfl, e8⟩
          refine ⟨_, _, _, v6, v7, rfl, ?_⟩
          have D8 := D4.same (same_trans e47 e8)
          have e : i * 111 + (j + 1) * 37 = i * 111 + j * 37 + cd 3 := by
            have : cd 3 = 37 := rfl
            omega
          rw [e]
          exact D8
      · rintro σ H3 ⟨v3, v4, v5, v6, v7, rfl, D3⟩
        -- one = Table(('a', 'b'), 1, (('b',),))
        refine ⟨by show 2 ≤ sizeLine; decide, fun p1 hp1 => ⟨by show 1 ≤ sizeLine; decide, fun p2 hp2 => ⟨by show 1 ≤ sizeLine; decide, fun p3 hp3 => ?_⟩⟩⟩
        have e1' := same_trans (same_trans (same_new (o := .tup [V.str "a", V.str "b"]) hp1) (same_new (o := .tup [V.str "b"]) hp2)) (same_new (o := .tup [V.ref p2]) hp3)
        have t1 : upd (upd (upd H3 p1 (.tup [V.str "a", V.str "b"])) p2 (.tup [V.str "b"])) p3 (.tup [V.ref p2]) p1 = some (.tup [V.str "a", V.str "b"]) := same_trans (same_new hp2) (same_new hp3) _ _ upd_same
        have t2 : upd (upd (upd H3 p1 (.tup [V.str "a", V.str "b"])) p2 (.tup [V.str "b"])) p3 (.tup [V.ref p2]) p2 = some (.tup [V.str "b"]) := same_new hp3 _ _ upd_same
        have t3 : upd (upd (upd H3 p1 (.tup [V.str "a", V.str "b"])) p2 (.tup [V.str "b"])) p3 (.tup [V.ref p2]) p3 = some (.tup [V.ref p2]) := upd_same
        generalize upd (upd (upd H3 p1 (.tup [V.str "a", V.str "b"])) p2 (.tup [V.str "b"])) p3 (.tup [V.ref p2]) = H4 at e1' t1 t2 t3 ⊢
        refine fun o dx ho hdx nox => ?_
        have e5 := same_trans (same_new (o := .own o) hdx) (same_new (o := .ins A.tc.C dx []) (show upd H4 dx (.own o) o = none by rw [upd_ne nox.symm]; exact ho))
        refine ⟨o, dx, p1, p3, 1, ["a", "b"], [V.ref p2], [["b"]], rfl, upd_same, e5 _ _ t1, ?_, ab_bef, by decide, by decide, by decide, by decide, e5 _ _ t3, .cons ⟨p2, rfl, e5 _ _ t2⟩ .nil, ?_, by decide, fun H6 pk ks R' c1 c2 but hx6 _ _ _ _ => ⟨rfl, ?_⟩⟩
        · simp only [List.forall_mem_cons]
          exact ⟨by decide +kernel, by decide +kernel, fun _ z => (nomatch z)⟩
        · simp only [List.forall_mem_cons]
          exact ⟨⟨rfl, by decide, fun _ z => (nomatch z)⟩, fun _ z => (nomatch z)⟩
        have e36 : Same H3 H6 := fun b u e => but _ _ (e5 _ _ (e1' _ _ e)) (fun z => by
          rw [z] at e
          rw [e1' _ _ e] at ho
          cases ho)
        have D6 := D3.same e36
        have fin : ∀ H', Same H6 H' → DeckAt H' d l ((i + 1) * 111) := fun H' e => by
          have z := D6.same e
          rw [show (i + 1) * 111 = i * 111 + 3 * 37 by omega]
          exact z
        -- which < 13 and held(which, by_position(which, one)) != [one]
        refine ⟨_, rfl, _, _, rfl, rfl, _, rfl, ite2 (fun c => ?_) fun c => ?_⟩
        · have c13 : i < 13 := by
            have := of_decide_eq_true c
            omega
          refine ⟨_, rfl, _, rfl, _, rfl, i, .ref o, rfl, hi, fun x H7 hx e7 X7 => ⟨i, x, .ref o, rfl, hi, X7, fun l1 H8 hl1 e8 h8 => ⟨_, rfl, by show 1 ≤ sizeLine; decide, fun l2 hl2 => ?_⟩⟩⟩
          rw [if_pos c13] at h8
          have e9 : Same H8 (upd H8 l2 (.lst [V.ref o])) := same_new hl2
          refine ⟨l1, l2, o, rfl, rfl, SqL.of (e9 _ _ h8), SqL.of upd_same, _, rfl, iteF ?_⟩
          exact ⟨_, _, _, _, _, _, rfl, fin _ (same_trans e7 (same_trans e8 e9))⟩
        · exact ⟨_, _, _, _, _, _, rfl, fin _ (Same.refl H6)⟩
    · rintro σ H2 ⟨v2, v3, v4, v5, v6, v7, rfl, D2⟩
      exact q H2
end
end K01
/-! What the top has written: each def, each class, from what is read there. -/
namespace K01
open PySem PySem.Spec PyProof.Rows L2 KG KS KX
section
variable {K : PySem.W.Frag} {h : Heap} {mg : Str → Option Value}
/-- the statement is a def or a class that was written so -/
theorem fn_ex (X : K.In h) (G : h.Ns mainGlobals mg) {x : Str} {st : Stmt} {f : Addr} {oc kV doc pm cdv ct : Value} {od an : Option Addr} {osl : Array (Option Value)} (a : PySem.W.nsIn K mainGlobals x = some (some (.ref f)))
    (l : K.lookup f = some ⟨oc, od, .func (PySem.W.fnOf x x (defArgs st) (defBody st) (defScope st) .none kV doc pm an cdv ct), osl⟩) (c : PySem.W.codeIn K cdv x = true) (k : PySem.W.keepIn K (.ref f) = true) : ∃ e : FnF K mg x x st, e.a = f :=
  ⟨⟨f, _, fun_mk l c k, PySem.W.mg_of X G a⟩, rfl⟩
theorem mt_ex (X : K.In h) {x qual : Str} {C : Addr} {st : Stmt} {f T : Addr} {oc doc pm cdv ct kV : Value} {od an : Option Addr} {osl : Array (Option Value)} {o2 : Obj} {n2 : Nat} {t0 : Addr}
    (g : PySem.W.nsIn K mainGlobals x = some (some (.ref C))) (i : PySem.W.findIn K (.ref C) "__init__" = some (some (.ref f)))
    (l : K.lookup f = some ⟨oc, od, .func (PySem.W.fnOf "__init__" qual (defArgs st) (defBody st) (defScope st) (.ref T) kV doc pm an cdv ct), osl⟩) (c : PySem.W.codeIn K cdv qual = true) (k : PySem.W.keepIn K (.ref f) = true)
    (lT : K.lookup T = some o2) (oT : o2.data = .seq [.ref t0].toArray n2) : ∃ e : MtD K "__init__" qual st, e.a = f :=
  ⟨⟨f, _, .ref t0, ⟨⟨oc, od, .ref T, kV, doc, pm, an, cdv, ct, osl, rfl, l, c, .inr ⟨by simp, T, o2, [.ref t0], n2, rfl, lT, oT, .cons rfl .nil⟩, .inl rfl⟩, k⟩⟩, rfl⟩
/-- a class of errors under the class at B -/
structure Clf (K : PySem.W.Frag) (B C : Addr) : Prop where
  T : ExC K C
  mro : ∃ cd, PySem.W.clsIn K C = some cd ∧ cd.mro = .ref C :: .ref B :: exTl
  ty : PySem.W.typeIn K (.ref C) = some (.type "type")
theorem clf_mk (X : K.In h) {x : Str} {B C N : Addr} {nm q : Str} {bs : List Value} {sn : List Str} {sub : List Value} {ab : Bool} {col : Option Bool} {dd : Option Addr} {m0 m1 m2 m3 m5 : Option Value}
    (g : PySem.W.nsIn K mainGlobals x = some (some (.ref C))) (gn : PySem.W.specialIn K (.builtin "object.__class__") "__get__" = some (some (.builtin "getset_descriptor.__get__"))) (tk : PySem.W.takesIn K (.builtin "object.__class__") = some true)
    (l : K.lookup C = some (excClassObj nm q C N bs (.ref B :: exTl) true sn sub ab col dd m0 m1 m2 m3 m5 "Exception.__new__"))
    (sa : PySem.W.findIn K (.ref C) "__setattr__" = some (some (.builtin "object.__setattr__"))) (ga : PySem.W.findIn K (.ref C) "__getattribute__" = some (some (.builtin "BaseException.__getattribute__"))) (gg : PySem.W.findIn K (.ref C) "__getattr__" = some none)
    (bx : PySem.W.subIn K (.ref C) (.type "BaseException") = some true) (kp : PySem.W.keepIn K (.ref C) = true) (hd : PySem.W.hasDictIn K C = true) (cl : PySem.W.findIn K (.ref C) "__class__" = some (some (.builtin "object.__class__")))
    (mo : PySem.W.mroIn K C (.type "object") = some true) (ty : PySem.W.typeIn K (.ref C) = some (.type "type")) : Clf K B C ∧ PySem.W.nsIn K mainGlobals x = some (some (.ref C)) := by
  refine ⟨⟨⟨⟨nm, q, N, bs, _, sn, sub, ab, col, dd, m0, m1, m2, m3, m5, l, by first | rfl | decide +kernel⟩, sa, ga, gg, bx, kp, hd, cl, gn, tk, mo⟩, ?_, ty⟩, g⟩
  unfold PySem.W.clsIn
  rw [l]
  exact ⟨_, rfl, rfl⟩
theorem er_ex (X : K.In h) (G : h.Ns mainGlobals mg) {B C : Addr} {x fl qual : Str} {st : Stmt} {f : Addr} {oc doc pm cdv ct kV : Value} {od an : Option Addr} {osl : Array (Option Value)} (L : Clf K B C)
    (g : PySem.W.nsIn K mainGlobals x = some (some (.ref C))) (i : PySem.W.findIn K (.ref C) "__init__" = some (some (.ref f))) (t : PySem.W.typeIn K (.ref f) = some (.type "function")) (n : PySem.W.findIn K (.ref C) fl = some none)
    (l : K.lookup f = some ⟨oc, od, .func (PySem.W.fnOf "__init__" qual (defArgs st) (defBody st) (defScope st) .none kV doc pm an cdv ct), osl⟩) (c : PySem.W.codeIn K cdv qual = true) (k : PySem.W.keepIn K (.ref f) = true)
    (kw : ∀ (kV doc pm : Value) (an : Option Addr) (cdv ct : Value) (u v : Value), bindArgs (PySem.W.fnOf "__init__" qual (defArgs st) (defBody st) (defScope st) .none kV doc pm an cdv ct) ⟨[u], [(fl, v)]⟩ = pure ((["self", fl] : List Str).zip [u, v])) :
    ∃ e : ErC K mg x fl qual st, e.C = C := by
  have F := fun_mk (st := st) l c k
  exact ⟨⟨C, PySem.W.mg_of X G g, L.T, f, _, F, i, t, n, kwOne F kw⟩, rfl⟩
theorem en_ex (X : K.In h) (G : h.Ns mainGlobals mg) {B C : Addr} {x : Str} (L : Clf K B C) (g : PySem.W.nsIn K mainGlobals x = some (some (.ref C))) (q : PySem.W.excIn K C exTl "Exception.__new__" = true) : ∃ e : ErN K mg x, e.C = C :=
  ⟨⟨C, PySem.W.mg_of X G g, L.T, q⟩, rfl⟩
/-- of which class an error is -/
theorem kit_C {B C D : Addr} (L : Clf K B C) (hd : (PySem.W.clsIn K D).isSome = true) (ty : PySem.W.typeIn K (.ref D) = some (.type "type")) : PySem.W.kitOne K (.ref C) (.ref D) = some (decide (C = D) || decide (B = D)) := by
  obtain ⟨cd, e1, e2⟩ := L.mro
  unfold PySem.W.kitOne
  by_cases z : C = D
  · rw [if_pos (by rw [z]; exact beq_self_eq_true _), decide_eq_true z, Bool.true_or]
  · rw [if_neg (fun y => z (Value.ref.inj (beq_iff_eq.mp y)))]
    unfold PySem.W.kitCls
    dsimp only
    rw [if_pos (by rw [hd, ty]; exact beq_self_eq_true _)]
    show PySem.W.mroIn K C (.ref D) = _
    unfold PySem.W.mroIn
    rw [e1, Option.bind_some, e2, if_neg (fun y => by cases y), decide_eq_false z, Bool.false_or]
    have b1 : (Value.ref D == Value.ref C) = decide (C = D) := by
      by_cases y : C = D
      · exact absurd y z
      · rw [decide_eq_false y]
        exact beq_eq_false_iff_ne.mpr fun w => y (Value.ref.inj w).symm
    have b2 : (Value.ref D == Value.ref B) = decide (B = D) := by
      by_cases y : B = D
      · rw [decide_eq_true y, y]
        exact beq_self_eq_true _
      · rw [decide_eq_false y]
        exact beq_eq_false_iff_ne.mpr fun w => y (Value.ref.inj w).symm
    have b3 : (exTl.contains (Value.ref D)) = false := rfl
    rw [List.contains_cons, List.contains_cons, b1, b2, b3, decide_eq_false z, Bool.false_or, Bool.or_false]
theorem kit_T {B C : Addr} (L : Clf K B C) {T : String} (m : PySem.W.kitMeta T = true) (n : exTl.contains (.type T) = false) : PySem.W.kitOne K (.ref C) (.type T) = some false := by
  obtain ⟨cd, e1, e2⟩ := L.mro
  unfold PySem.W.kitOne
  rw [if_neg (fun y => by cases (beq_iff_eq.mp y))]
  unfold PySem.W.kitCls
  dsimp only
  rw [if_pos m]
  show PySem.W.mroIn K C (.type T) = _
  unfold PySem.W.mroIn
  rw [e1, Option.bind_some, e2, if_neg (fun y => by cases y), List.contains_cons, List.contains_cons, n]
  rfl
theorem L_of (F : Es K mg) {B : Addr} (l0 : Clf K B F.e0.C) (l1 : Clf K B F.e1.C) (l2 : Clf K B F.e2.C) (l3 : Clf K B F.e3.C) (l4 : Clf K B F.e4.C) (l5 : Clf K B F.e5.C) (l6 : Clf K B F.e6.C) (l7 : Clf K B F.e7.C)
    (l8 : Clf K B F.e8.C) (l9 : Clf K B F.e9.C) (l10 : Clf K B F.e10.C) (l11 : Clf K B F.e11.C) (l12 : Clf K B F.e12.C) (l13 : Clf K B F.e13.C) (l14 : Clf K B F.e14.C) (l15 : Clf K B F.e15.C) : ∀ n, n < 16 → Clf K B (F.C n)
  | 0, _ => l0
  | 1, _ => l1
  | 2, _ => l2
  | 3, _ => l3
  | 4, _ => l4
  | 5, _ => l5
  | 6, _ => l6
  | 7, _ => l7
  | 8, _ => l8
  | 9, _ => l9
  | 10, _ => l10
  | 11, _ => l11
  | 12, _ => l12
  | 13, _ => l13
  | 14, _ => l14
  | 15, _ => l15
  | n + 16, h => absurd h (by omega)
theorem law_ex {P : Program} {w : World} {fa : Addr} (hfa : mg "law" = some (.ref fa)) (A : All K mg) (f : FnF K mg "law" "law" s_law) :
    ∃ fd : FuncData, (∀ (s : Shared) (u : Value), BindsTo s fd ⟨[u], []⟩ [("_law_script", u)]) ∧ ∀ base : Heap, K.In base → base.Ns mainGlobals mg → FnG P w K mg base CX0 8 fa fd ["_law_script"] (spLaw K) := by
  have e : fa = f.a := Value.ref.inj (Option.some.inj (hfa.symm.trans f.g))
  subst e
  have bd : ∀ (s : Shared) (u : Value), BindsTo s f.d ⟨[u], []⟩ [("_law_script", u)] := by
    obtain ⟨oc, od, kV, doc, pm, an, cdv, ct, osl, e, _, _⟩ := f.F.ex
    rw [e]
    exact fun s u => .of_eq rfl
  exact ⟨f.d, bd, fun base _ _ => ok_law A f⟩
theorem iso_ex {F : Es K mg} {B : Addr} (X : K.In h) (G : h.Ns mainGlobals mg) (g : PySem.W.nsIn K mainGlobals "ClashnumberError" = some (some (.ref B))) (bt : PySem.W.typeIn K (.ref B) = some (.type "type")) (bc : PySem.W.isClsIn K B = true)
    (L : ∀ n, n < 16 → Clf K B (F.C n)) (cs : List Addr) (hc : (List.range 16).map F.C = cs) (nd : cs.Nodup) (nb : B ∉ cs)
    (z1 : PySem.W.nsIn K mainGlobals "ValueError" = some none) (z2 : PySem.W.nsIn K mainGlobals "LookupError" = some none) (z3 : PySem.W.nsIn K mainGlobals "ArithmeticError" = some none)
    (z4 : PySem.W.nsIn K mainGlobals "TypeError" = some none) (z5 : PySem.W.nsIn K mainGlobals "AttributeError" = some none) (z6 : PySem.W.nsIn K mainGlobals "RuntimeError" = some none) : Nonempty (Iso K mg F) := by
  have at_ : ∀ n, n < 16 → cs[n]? = some (F.C n) := fun n hn => by
    rw [← hc, List.getElem?_map, List.getElem?_range hn]
    rfl
  have len : cs.length = 16 := by
    rw [← hc, List.length_map, List.length_range]
  have inj : ∀ n k, n < 16 → k < 16 → F.C n = F.C k → n = k := fun n k hn hk e => by
    have e2 : cs[n]? = cs[k]? := by rw [at_ n hn, at_ k hk, e]
    exact (List.getElem?_inj (by rw [len]; exact hn) nd).mp e2
  have some_ : ∀ n, n < 16 → (PySem.W.clsIn K (F.C n)).isSome = true := fun n hn => by
    obtain ⟨cd, e, _⟩ := (L n hn).mro
    rw [e]
    rfl
  refine ⟨⟨B, PySem.W.mg_of X G g, fun n k hn hk => ?_, fun n hn => ?_, fun n hn => ?_, PySem.W.mg_none_of X G z1, PySem.W.mg_none_of X G z2, PySem.W.mg_none_of X G z3, PySem.W.mg_none_of X G z4, PySem.W.mg_none_of X G z5, PySem.W.mg_none_of X G z6⟩⟩
  · rw [kit_C (L n hn) (some_ k hk) (L k hk).ty]
    have b : ¬ B = F.C k := fun z => nb (by
      rw [z]
      exact List.mem_of_getElem? (at_ k hk))
    rw [decide_eq_false b, Bool.or_false]
    by_cases z : n = k
    · rw [z, decide_eq_true rfl, decide_eq_true rfl]
    · rw [decide_eq_false z, decide_eq_false fun e => z (inj n k hn hk e)]
  · rw [kit_C (L n hn) bc bt, decide_eq_true (rfl : B = B), Bool.or_true]
  · have t : ∀ {T : String}, PySem.W.kitMeta T = true → exTl.contains (.type T) = false → PySem.W.kitOne K (.ref (F.C n)) (.type T) = some false := fun m c => kit_T (L n hn) m c
    unfold PySem.W.kitAny
    rw [t (by decide +kernel) (by decide +kernel)]
    unfold PySem.W.kitAny
    rw [t (by decide +kernel) (by decide +kernel)]
    unfold PySem.W.kitAny
    rw [t (by decide +kernel) (by decide +kernel)]
    unfold PySem.W.kitAny
    rw [t (by decide +kernel) (by decide +kernel)]
    unfold PySem.W.kitAny
    rw [t (by decide +kernel) (by decide +kernel)]
    unfold PySem.W.kitAny
    rw [t (by decide +kernel) (by decide +kernel)]
    rfl
theorem bs_ex (X : K.In h) (G : h.Ns mainGlobals mg) {t1 t2 t3 : Tok} (z1 : PySem.W.nsIn K mainGlobals "list" = some none) (z2 : PySem.W.nsIn K mainGlobals "int" = some none) (z3 : PySem.W.nsIn K mainGlobals "len" = some none)
    (z4 : PySem.W.nsIn K mainGlobals "range" = some none) (z5 : PySem.W.nsIn K mainGlobals "tuple" = some none) (z6 : PySem.W.nsIn K mainGlobals "repr" = some none) (z7 : PySem.W.nsIn K mainGlobals "isinstance" = some none)
    (z8 : PySem.W.nsIn K mainGlobals "all" = some none) (z9 : PySem.W.nsIn K mainGlobals "sorted" = some none) (zA : PySem.W.nsIn K mainGlobals "set" = some none) (zB : PySem.W.nsIn K mainGlobals "str" = some none) (zC : PySem.W.nsIn K mainGlobals "bool" = some none)
    (c1 : PySem.W.nsIn K mainGlobals "LONGEST_NAME" = some (some (.int 8 t1))) (c2 : PySem.W.nsIn K mainGlobals "MOST_VALUES" = some (some (.int 3 t2))) (c3 : PySem.W.nsIn K mainGlobals "MOST_WIDTH" = some (some (.int 3 t3))) : Bs mg :=
  { n_list := PySem.W.mg_none_of X G z1, n_int := PySem.W.mg_none_of X G z2, n_len := PySem.W.mg_none_of X G z3, n_range := PySem.W.mg_none_of X G z4, n_tuple := PySem.W.mg_none_of X G z5, n_repr := PySem.W.mg_none_of X G z6,
    n_isinstance := PySem.W.mg_none_of X G z7, n_all := PySem.W.mg_none_of X G z8, n_sorted := PySem.W.mg_none_of X G z9, n_set := PySem.W.mg_none_of X G zA, n_str := PySem.W.mg_none_of X G zB, n_bool := PySem.W.mg_none_of X G zC,
    c_name := ⟨t1, PySem.W.mg_of X G c1⟩, c_vals := ⟨t2, PySem.W.mg_of X G c2⟩, c_width := ⟨t3, PySem.W.mg_of X G c3⟩ }
theorem tab_ex (X : K.In h) (G : h.Ns mainGlobals mg) {C f : Addr} (g : PySem.W.nsIn K mainGlobals "Table" = some (some (.ref C))) (pg : PySem.W.plainGet K C Str.empty = true) (hd : PySem.W.hasDictIn K C = true) (po : PySem.W.plainOver K C = true)
    (sa : PySem.W.findIn K (.ref C) "__setattr__" = some (some (.builtin "object.__setattr__"))) (mk : PySem.W.makesIn K C = true) (i : PySem.W.findIn K (.ref C) "__init__" = some (some (.ref f))) (fn : PySem.W.isFn K (.ref f) = true) (kp : PySem.W.keepIn K (.ref C) = true)
    (n1 : PySem.W.findIn K (.ref C) "domain" = some none) (n2 : PySem.W.findIn K (.ref C) "width" = some none) (n3 : PySem.W.findIn K (.ref C) "rows" = some none) (n4 : PySem.W.findIn K (.ref C) "is_full" = some none) (n5 : PySem.W.findIn K (.ref C) "is_product" = some none) :
    Nonempty (TabC K mg f) := ⟨⟨C, PySem.W.mg_of X G g, ⟨pg, hd, po, sa⟩, ⟨mk, i, fn, kp⟩, n1, n2, n3, n4, n5⟩⟩
end
end K01
open PySem PySem.W PyProof.Rows
set_option maxRecDepth 100000 in
set_option maxHeartbeats 0 in
theorem PySem.Challenge.cw_clashnumber_k01_errors_holds : PySem.Challenge.rw_clashnumber_k01_errors.Holds := by
  w_on; o_law; k_head; (case hw => w_witness2)
  k_fill
  refine KG.walkG (l := PySem.Challenge.rw_clashnumber_k01_errors) (n := 63) (k := 8) (x := "_law_script") (CX := L2.CX0) (sp := K01.spLaw) rfl (by decide) rfl ⟨rfl, by decide, by decide⟩ (fun w h Y => PySem.W.kIn_of Y) ?F (fun _ _ a ns hl _ hS => ⟨a, ns, rfl, hS, hl, fun _ => rfl⟩) (fun _ _ _ _ z => z)
  case F =>
    intro w mg fa h KX G hmg
    have l0 := K01.clf_mk (x := "NoTable") KX (by k_is) (by k_is) (by k_is) (by k_is) (by k_is) (by k_is) (by k_is) (by k_is) (by k_is) (by k_is) (by k_is) (by k_is) (by k_is)
    obtain ⟨e0, h0⟩ := K01.er_ex (x := "NoTable") (fl := "word") (qual := "NoTable.__init__") (st := K01.inCls 3 0) KX G l0.1 l0.2 (by k_is) (by k_is) (by k_is) (by k_is) (by k_is) (by k_is) (fun _ _ _ _ _ _ _ _ => rfl)
    have l1 := K01.clf_mk (x := "NoBook") KX (by k_is) (by k_is) (by k_is) (by k_is) (by k_is) (by k_is) (by k_is) (by k_is) (by k_is) (by k_is) (by k_is) (by k_is) (by k_is)
    obtain ⟨e1, h1⟩ := K01.er_ex (x := "NoBook") (fl := "word") (qual := "NoBook.__init__") (st := K01.inCls 4 0) KX G l1.1 l1.2 (by k_is) (by k_is) (by k_is) (by k_is) (by k_is) (by k_is) (fun _ _ _ _ _ _ _ _ => rfl)
    have l2 := K01.clf_mk (x := "NoForm") KX (by k_is) (by k_is) (by k_is) (by k_is) (by k_is) (by k_is) (by k_is) (by k_is) (by k_is) (by k_is) (by k_is) (by k_is) (by k_is)
    obtain ⟨e2, h2⟩ := K01.er_ex (x := "NoForm") (fl := "word") (qual := "NoForm.__init__") (st := K01.inCls 5 0) KX G l2.1 l2.2 (by k_is) (by k_is) (by k_is) (by k_is) (by k_is) (by k_is) (fun _ _ _ _ _ _ _ _ => rfl)
    have l3 := K01.clf_mk (x := "NoVote") KX (by k_is) (by k_is) (by k_is) (by k_is) (by k_is) (by k_is) (by k_is) (by k_is) (by k_is) (by k_is) (by k_is) (by k_is) (by k_is)
    obtain ⟨e3, h3⟩ := K01.er_ex (x := "NoVote") (fl := "word") (qual := "NoVote.__init__") (st := K01.inCls 6 0) KX G l3.1 l3.2 (by k_is) (by k_is) (by k_is) (by k_is) (by k_is) (by k_is) (fun _ _ _ _ _ _ _ _ => rfl)
    have l4 := K01.clf_mk (x := "NoChoice") KX (by k_is) (by k_is) (by k_is) (by k_is) (by k_is) (by k_is) (by k_is) (by k_is) (by k_is) (by k_is) (by k_is) (by k_is) (by k_is)
    obtain ⟨e4, h4⟩ := K01.er_ex (x := "NoChoice") (fl := "word") (qual := "NoChoice.__init__") (st := K01.inCls 7 0) KX G l4.1 l4.2 (by k_is) (by k_is) (by k_is) (by k_is) (by k_is) (by k_is) (fun _ _ _ _ _ _ _ _ => rfl)
    have l5 := K01.clf_mk (x := "NoBound") KX (by k_is) (by k_is) (by k_is) (by k_is) (by k_is) (by k_is) (by k_is) (by k_is) (by k_is) (by k_is) (by k_is) (by k_is) (by k_is)
    obtain ⟨e5, h5⟩ := K01.er_ex (x := "NoBound") (fl := "number") (qual := "NoBound.__init__") (st := K01.inCls 8 0) KX G l5.1 l5.2 (by k_is) (by k_is) (by k_is) (by k_is) (by k_is) (by k_is) (fun _ _ _ _ _ _ _ _ => rfl)
    have l6 := K01.clf_mk (x := "NoClash") KX (by k_is) (by k_is) (by k_is) (by k_is) (by k_is) (by k_is) (by k_is) (by k_is) (by k_is) (by k_is) (by k_is) (by k_is) (by k_is)
    obtain ⟨e6, h6⟩ := K01.er_ex (x := "NoClash") (fl := "found") (qual := "NoClash.__init__") (st := K01.inCls 10 0) KX G l6.1 l6.2 (by k_is) (by k_is) (by k_is) (by k_is) (by k_is) (by k_is) (fun _ _ _ _ _ _ _ _ => rfl)
    have l7 := K01.clf_mk (x := "NoField") KX (by k_is) (by k_is) (by k_is) (by k_is) (by k_is) (by k_is) (by k_is) (by k_is) (by k_is) (by k_is) (by k_is) (by k_is) (by k_is)
    obtain ⟨e7, h7⟩ := K01.er_ex (x := "NoField") (fl := "field") (qual := "NoField.__init__") (st := K01.inCls 11 0) KX G l7.1 l7.2 (by k_is) (by k_is) (by k_is) (by k_is) (by k_is) (by k_is) (fun _ _ _ _ _ _ _ _ => rfl)
    have l8 := K01.clf_mk (x := "NoValue") KX (by k_is) (by k_is) (by k_is) (by k_is) (by k_is) (by k_is) (by k_is) (by k_is) (by k_is) (by k_is) (by k_is) (by k_is) (by k_is)
    obtain ⟨e8, h8⟩ := K01.er_ex (x := "NoValue") (fl := "value") (qual := "NoValue.__init__") (st := K01.inCls 12 0) KX G l8.1 l8.2 (by k_is) (by k_is) (by k_is) (by k_is) (by k_is) (by k_is) (fun _ _ _ _ _ _ _ _ => rfl)
    have l9 := K01.clf_mk (x := "NoAnswer") KX (by k_is) (by k_is) (by k_is) (by k_is) (by k_is) (by k_is) (by k_is) (by k_is) (by k_is) (by k_is) (by k_is) (by k_is) (by k_is)
    obtain ⟨e9, h9⟩ := K01.er_ex (x := "NoAnswer") (fl := "field") (qual := "NoAnswer.__init__") (st := K01.inCls 13 0) KX G l9.1 l9.2 (by k_is) (by k_is) (by k_is) (by k_is) (by k_is) (by k_is) (fun _ _ _ _ _ _ _ _ => rfl)
    have l10 := K01.clf_mk (x := "InUse") KX (by k_is) (by k_is) (by k_is) (by k_is) (by k_is) (by k_is) (by k_is) (by k_is) (by k_is) (by k_is) (by k_is) (by k_is) (by k_is)
    obtain ⟨e10, h10⟩ := K01.er_ex (x := "InUse") (fl := "name") (qual := "InUse.__init__") (st := K01.inCls 14 0) KX G l10.1 l10.2 (by k_is) (by k_is) (by k_is) (by k_is) (by k_is) (by k_is) (fun _ _ _ _ _ _ _ _ => rfl)
    have l11 := K01.clf_mk (x := "Clash") KX (by k_is) (by k_is) (by k_is) (by k_is) (by k_is) (by k_is) (by k_is) (by k_is) (by k_is) (by k_is) (by k_is) (by k_is) (by k_is)
    obtain ⟨e11, h11⟩ := K01.er_ex (x := "Clash") (fl := "pairs") (qual := "Clash.__init__") (st := K01.inCls 15 0) KX G l11.1 l11.2 (by k_is) (by k_is) (by k_is) (by k_is) (by k_is) (by k_is) (fun _ _ _ _ _ _ _ _ => rfl)
    have l12 := K01.clf_mk (x := "MoreThan") KX (by k_is) (by k_is) (by k_is) (by k_is) (by k_is) (by k_is) (by k_is) (by k_is) (by k_is) (by k_is) (by k_is) (by k_is) (by k_is)
    obtain ⟨e12, h12⟩ := K01.er_ex (x := "MoreThan") (fl := "worst") (qual := "MoreThan.__init__") (st := K01.inCls 16 0) KX G l12.1 l12.2 (by k_is) (by k_is) (by k_is) (by k_is) (by k_is) (by k_is) (fun _ _ _ _ _ _ _ _ => rfl)
    have l13 := K01.clf_mk (x := "NoNumber") KX (by k_is) (by k_is) (by k_is) (by k_is) (by k_is) (by k_is) (by k_is) (by k_is) (by k_is) (by k_is) (by k_is) (by k_is) (by k_is)
    obtain ⟨e13, h13⟩ := K01.en_ex (x := "NoNumber") KX G l13.1 l13.2 (by k_exc)
    have l14 := K01.clf_mk (x := "TooGreat") KX (by k_is) (by k_is) (by k_is) (by k_is) (by k_is) (by k_is) (by k_is) (by k_is) (by k_is) (by k_is) (by k_is) (by k_is) (by k_is)
    obtain ⟨e14, h14⟩ := K01.en_ex (x := "TooGreat") KX G l14.1 l14.2 (by k_exc)
    have l15 := K01.clf_mk (x := "InvalidText") KX (by k_is) (by k_is) (by k_is) (by k_is) (by k_is) (by k_is) (by k_is) (by k_is) (by k_is) (by k_is) (by k_is) (by k_is) (by k_is)
    obtain ⟨e15, h15⟩ := K01.en_ex (x := "InvalidText") KX G l15.1 l15.2 (by k_exc)
    have B := K01.bs_ex KX G (by k_is) (by k_is) (by k_is) (by k_is) (by k_is) (by k_is) (by k_is) (by k_is) (by k_is) (by k_is) (by k_is) (by k_is) (by k_is) (by k_is) (by k_is)
    obtain ⟨f_dom, -⟩ := K01.fn_ex (x := "is_domain") (st := K01.top 26) KX G (by k_is) (by k_is) (by k_is) (by k_is)
    obtain ⟨f_nms, -⟩ := K01.fn_ex (x := "are_names") (st := K01.top 24) KX G (by k_is) (by k_is) (by k_is) (by k_is)
    obtain ⟨f_nm, -⟩ := K01.fn_ex (x := "is_name") (st := K01.top 23) KX G (by k_is) (by k_is) (by k_is) (by k_is)
    obtain ⟨f_asc, -⟩ := K01.fn_ex (x := "ascending") (st := K01.top 25) KX G (by k_is) (by k_is) (by k_is) (by k_is)
    obtain ⟨f_int, -⟩ := K01.fn_ex (x := "is_integer") (st := K01.top 22) KX G (by k_is) (by k_is) (by k_is) (by k_is)
    obtain ⟨f_row, -⟩ := K01.fn_ex (x := "is_row") (st := K01.top 27) KX G (by k_is) (by k_is) (by k_is) (by k_is)
    obtain ⟨f_all, -⟩ := K01.fn_ex (x := "all_rows") (st := K01.top 28) KX G (by k_is) (by k_is) (by k_is) (by k_is)
    obtain ⟨f_col, -⟩ := K01.fn_ex (x := "column_of") (st := K01.top 32) KX G (by k_is) (by k_is) (by k_is) (by k_is)
    obtain ⟨f_deck, -⟩ := K01.fn_ex (x := "_law_deck") (st := K01.top 35) KX G (by k_is) (by k_is) (by k_is) (by k_is)
    obtain ⟨f_draw, -⟩ := K01.fn_ex (x := "_law_draw") (st := K01.top 36) KX G (by k_is) (by k_is) (by k_is) (by k_is)
    obtain ⟨f_pick, -⟩ := K01.fn_ex (x := "_law_pick") (st := K01.top 37) KX G (by k_is) (by k_is) (by k_is) (by k_is)
    obtain ⟨f_value, -⟩ := K01.fn_ex (x := "_law_value") (st := K01.top 38) KX G (by k_is) (by k_is) (by k_is) (by k_is)
    obtain ⟨f_pos, -⟩ := K01.fn_ex (x := "_law_by_position") (st := K01.top 39) KX G (by k_is) (by k_is) (by k_is) (by k_is)
    obtain ⟨f_name, -⟩ := K01.fn_ex (x := "_law_by_name") (st := K01.top 40) KX G (by k_is) (by k_is) (by k_is) (by k_is)
    obtain ⟨f_held, -⟩ := K01.fn_ex (x := "_law_held") (st := K01.top 41) KX G (by k_is) (by k_is) (by k_is) (by k_is)
    obtain ⟨f_classes, -⟩ := K01.fn_ex (x := "_law_classes") (st := K01.top 42) KX G (by k_is) (by k_is) (by k_is) (by k_is)
    obtain ⟨f_right, -⟩ := K01.fn_ex (x := "_law_right") (st := K01.top 43) KX G (by k_is) (by k_is) (by k_is) (by k_is)
    obtain ⟨f_law, -⟩ := K01.fn_ex (x := "law") (st := K01.top 44) KX G (by k_is) (by k_is) (by k_is) (by k_is)
    obtain ⟨ti, hti⟩ := K01.mt_ex (x := "Table") (qual := "Table.__init__") (st := K01.inCls 31 0) KX (by k_is) (by k_is) (by k_is) (by k_is) (by k_is) (by k_is) (by rfl)
    obtain ⟨tc⟩ := K01.tab_ex (f := ti.a) KX G (by k_is) (by k_is) (by k_is) (by k_is) (by k_is) (by k_is) (by rw [hti]; k_is) (by rw [hti]; k_is) (by k_is) (by k_is) (by k_is) (by k_is) (by k_is) (by k_is)
    obtain ⟨S⟩ := K01.iso_ex (F := ⟨e0, e1, e2, e3, e4, e5, e6, e7, e8, e9, e10, e11, e12, e13, e14, e15⟩) KX G (by k_is) (by k_is) (by k_is)
      (K01.L_of _ (by rw [h0]; exact l0.1) (by rw [h1]; exact l1.1) (by rw [h2]; exact l2.1) (by rw [h3]; exact l3.1) (by rw [h4]; exact l4.1) (by rw [h5]; exact l5.1) (by rw [h6]; exact l6.1) (by rw [h7]; exact l7.1) (by rw [h8]; exact l8.1) (by rw [h9]; exact l9.1) (by rw [h10]; exact l10.1) (by rw [h11]; exact l11.1) (by rw [h12]; exact l12.1) (by rw [h13]; exact l13.1) (by rw [h14]; exact l14.1) (by rw [h15]; exact l15.1)) _
      (by show [e0.C, e1.C, e2.C, e3.C, e4.C, e5.C, e6.C, e7.C, e8.C, e9.C, e10.C, e11.C, e12.C, e13.C, e14.C, e15.C] = _; rw [h0, h1, h2, h3, h4, h5, h6, h7, h8, h9, h10, h11, h12, h13, h14, h15]) (by decide) (by decide) (by k_is) (by k_is) (by k_is) (by k_is) (by k_is) (by k_is)
    exact K01.law_ex hmg ⟨B, _, S, ⟨f_dom, f_nms, f_nm, f_asc, f_int, f_row, f_all, f_col⟩, ti, tc, f_deck, f_draw, f_pick, f_value, f_pos, f_name, f_held, f_classes, f_right⟩ f_law
